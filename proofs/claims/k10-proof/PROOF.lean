import PyProof.Rows.All
import Wide.All
import OpenK.AllK
import Wide.FinOn
import Lean
import PyProof.EqAt
import PyProof.EqKinds
import PyProof.TupleCall
import PySem.Challenge.RW_leastloss_k10_lost_in
set_option Elab.async false
set_option genSizeOf false
set_option bootstrap.genMatcherCode false
set_option compiler.extract_closed false
set_option linter.all false
set_option maxRecDepth 100000
set_option maxHeartbeats 4000000
section
namespace L2
open PySem PySem.Spec PyProof.Rows
noncomputable abbrev Key:=Sum Int Str
noncomputable def WE:Key->Value->Bool
 |.inl k,v=>Value.isInt k v
 |.inr x,v=>Value.isStrOf x v
noncomputable def Mo (w:World):Key->Int
 |.inl k=>hashInt k
 |.inr x=>hashStr w x
theorem fO:∀{k:Key}{v:Value},WE k v=true->(∃ i t,k=Sum.inl i/\v=Value.int i t)∨(∃ x t,k=Sum.inr x/\v=Value.str x t)
 |.inl i,v,h=>by
  obtain⟨t,e⟩:=Value.isInt_shape (k:=i) (v:=v) h
  exact .inl ⟨i,t,rfl,e⟩
 |.inr x,v,h=>by
  obtain⟨t,e⟩:=Value.isStrOf_shape (x:=x) (v:=v) h
  exact .inr ⟨x,t,rfl,e⟩
theorem Be (a b:Int):decide ((Sum.inl a:Key)=Sum.inl b)=(a==b):=by
 by_cases e:a=b
 ·subst e;simp
 ·have h:¬(Sum.inl a:Key)=Sum.inl b:=fun q=>e (Sum.inl.inj q)
  rw[decide_eq_false h]
  exact(beq_eq_false_iff_ne.mpr e).symm
theorem Gd (a b:Str):decide ((Sum.inr a:Key)=Sum.inr b)=decide (a=b):=by
 by_cases e:a=b
 ·subst e;simp
 ·have h:¬(Sum.inr a:Key)=Sum.inr b:=fun q=>e (Sum.inr.inj q)
  rw[decide_eq_false h,decide_eq_false e]
theorem Aj (a:Int)(b:Str):decide ((Sum.inl a:Key)=Sum.inr b)=false:=decide_eq_false (fun q=>nomatch q)
theorem Fg (a:Str)(b:Int):decide ((Sum.inr a:Key)=Sum.inl b)=false:=decide_eq_false (fun q=>nomatch q)
noncomputable def DY (prog:Program)(w:World):PySem.KeyKind prog w Key where
 is:=WE
 hash:=Mo w
 inj:=fun v a b ha hb=>by
  rcases fO ha with⟨i,t,rfl,rfl⟩|⟨x,t,rfl,rfl⟩
  ·rcases fO hb with⟨j,u,rfl,e⟩|⟨y,u,rfl,e⟩
   ·injection e with e1 _;rw[e1]
   ·exact nomatch e
  ·rcases fO hb with⟨j,u,rfl,e⟩|⟨y,u,rfl,e⟩
   ·exact nomatch e
   ·injection e with e1 _;rw[e1]
 byValue:=fun k v h=>by
  rcases fO h with⟨i,t,rfl,rfl⟩|⟨x,t,rfl,rfl⟩<;>rfl
 pyHash:=fun hv h=>by
  rcases fO hv with⟨i,t,rfl,rfl⟩|⟨x,t,rfl,rfl⟩
  ·exact wpAny_pyHash_int h
  ·exact wpAny_pyHash_str h
 eqBool:=fun hu hv h=>by
  rcases fO hu with⟨i,t,rfl,rfl⟩|⟨x,t,rfl,rfl⟩
  ·rcases fO hv with⟨j,u,rfl,rfl⟩|⟨y,u,rfl,rfl⟩
   ·rw[Be]at h;exact wpAny_eqBool_int h
   ·rw[Aj]at h;exact SeqAt.EqAt.int_str i t y u _ _ _ _ h
  ·rcases fO hv with⟨j,u,rfl,rfl⟩|⟨y,u,rfl,rfl⟩
   ·rw[Fg]at h;exact SeqAt.EqAt.str_int x t j u _ _ _ _ h
   ·rw[Gd]at h;exact wpAny_eqBool_str h
 «strs»:=fun k x t v h=>by
  rcases fO h with⟨i,u,rfl,e⟩|⟨y,u,rfl,e⟩
  ·exact nomatch e
  ·injection e with e1 _
   subst e1
   cases v<;>rfl
end L2
namespace L2
open PySem PySem.Spec PyProof.Rows
inductive V where
 |non|bl (b:Bool)|int (i:Int)|str (x:Str)|byt (b:Array UInt8)|flt (b:UInt64)|ref (a:Addr)|ty (n:String)
 deriving DecidableEq
noncomputable def RelV:V->Value->Prop
 |.non,u=>u=Value.none
 |.bl b,u=>u=Value.bool b
 |.int i,u=>∃ t,u=Value.int i t
 |.str x,u=>∃ t,u=Value.str x t
 |.byt b,u=>∃ t,u=Value.bytes b t
 |.flt b,u=>∃ t,u=Value.float b t
 |.ref a,u=>u=Value.ref a
 |.ty n,u=>u=Value.type n
noncomputable abbrev aQ:List V->List Value->Prop:=Paired RelV
theorem aQ.length {xs:List V}{us:List Value}(r:aQ xs us):xs.length=us.length:=Paired.length r
theorem aQ.get:∀{xs:List V}{us:List Value}{i:Nat}{x:V},aQ xs us->xs[i]? = some x->∃ u,us[i]? = some u/\RelV x u
 |_,_,_,_,.nil,e=>by simp at e
 |_,_,0,_,.cons r _,e=>by simp at e;subst e;exact⟨_,rfl,r⟩
 |_,_,i+1,x,.cons _ t,e=>by
  obtain⟨u,h1,h2⟩:=aQ.get (i:=i) (x:=x) t (by simpa using e)
  exact⟨u,by simpa using h1,h2⟩
theorem aQ.set {x:V}{u:Value}(r:RelV x u):∀{xs:List V}{us:List Value}(i:Nat),aQ xs us->aQ (xs.set i x) (us.set i u)
 |_,_,_,.nil=>.nil
 |_,_,0,.cons _ t=>.cons r t
 |_,_,i+1,.cons q t=>.cons q (aQ.set r i t)
theorem aQ.append:∀{xs ys:List V}{us ws:List Value},aQ xs us->aQ ys ws->aQ (xs++ys) (us++ws)
 |_,_,_,_,.nil,s=>s
 |_,_,_,_,.cons r t,s=>.cons r (aQ.append t s)
theorem aQ.take:∀{xs:List V}{us:List Value}(n:Nat),aQ xs us->aQ (xs.take n) (us.take n)
 |_,_,0,_=>.nil
 |_,_,_+1,.nil=>.nil
 |_,_,n+1,.cons r t=>.cons r (aQ.take n t)
theorem aQ.drop:∀{xs:List V}{us:List Value}(n:Nat),aQ xs us->aQ (xs.drop n) (us.drop n)
 |_,_,0,r=>r
 |_,_,_+1,.nil=>.nil
 |_,_,n+1,.cons _ t=>aQ.drop n t
noncomputable def tH:Option V->Option Value->Prop
 |some v,some u=>RelV v u
 |none,none=>True
 |_,_=>False
noncomputable def KV {κ:Type}:List (κ×V)->List (κ×Value)->Prop:=Paired fun(p:κ×V)(q:κ×Value)=>p.1=q.1/\RelV p.2 q.2
noncomputable def kV:Key->V
 |.inl i=>.int i
 |.inr x=>.str x
inductive HO where
 /-- a list -/
 |lst (xs:List V)
 /-- a tuple (never changes) -/
 |tup (xs:List V)
 /-- a dict whose keys are ints and texts; one whose keys are tuples of ints and texts (the empty one is both) -/
 |dK (hU:List (Key×V))|dT (hU:List (List Key×V))
 /-- a set of ints: aD members, aD size -/
 |set (S:Int->Bool)(n:Nat)
 /-- an instance of the class at C, aD dict at dx, aD attributes -/
 |ins (C dx:Addr)(fs:List (Str×V))
 /-- the dict of the instance at x -/
 |own (x:Addr)
 /-- the dict of an exception -/
 |xd (fs:List (Str×V))
 /-- a bound method, f of x -/
 |met (f x:Addr)
 /-- a range object lo, lo + 1, .. below hi -/
 |rng (lo hi:Int)
 /-- a thing that is known to the object (the script; a dict while a loop walks it): read, never written while it is so -/
 |frz (o:Obj)(u:HO)
 /-- a code object's table -/
 |tbl (ps:Array Value)
 /-- any other thing, by what is true of aD one object (a def of one's own: SetO a S n := HO.ext fun h => ..) -/
 |ext (φ:Program->World->Heap->Prop)
noncomputable abbrev Hp:=Addr->Option HO
noncomputable def upd (H:Hp)(a:Addr)(o:HO):Hp:=fun b=>if b=a then some o else H b
theorem dH {H:Hp}{a:Addr}{o:HO}:upd H a o a=some o:=by unfold upd;rw[if_pos rfl]
theorem bQ {H:Hp}{a b:Addr}{o:HO}(h:b≠a):upd H a o b=H b:=by unfold upd;rw[if_neg h]
theorem OD {H:Hp}{a b:Addr}{o u:HO}(h:H a=some o)(h':H b=some u)(d:o≠u):a≠b:=by
 intro e;subst e;rw[h]at h';exact d (Option.some.inj h')
theorem iI {H:Hp}{a b:Addr}{o:HO}(h:H a=some o)(h':H b=none):a≠b:=by
 intro e;subst e;rw[h]at h';cases h'
noncomputable def nW (h:Heap)(a:Addr)(aD:Array Value):Prop:=∃ o,h.get? a=some o/\o.cls=.type "tuple" /\ (∃ n,o.data=.seq aD n)/\o.dict=none
theorem nW.tup {h:Heap}{a:Addr}{aD:Array Value}:nW h a aD->IsTup h a aD:=fun⟨o,e,c,d,_⟩=>⟨o,e,c,d⟩
theorem nW.lt {h:Heap}{a:Addr}{aD:Array Value}(x:nW h a aD):a<h.objs.size:=x.tup.lt
theorem nW.new (h:Heap)(items:Array Value):nW (h.push { cls:=.type "tuple", data:=.seq items }) h.objs.size items:=⟨_,Heap.get?_push_size _ rfl,rfl,⟨_,rfl⟩,rfl⟩
section
variable (P:Program)(w:World)
noncomputable def jL (H:Hp)(h:Heap)(a:Addr):HO->Prop
 |.lst xs=>xs.length<=sizeLine/\∃(aD:List Value)(n:Nat),aQ xs aD/\h.get? a=some { cls:=.type "list", data:=.seq aD.toArray n }
 |.tup xs=>xs.length<=sizeLine/\∃ aD:List Value,aQ xs aD/\nW h a aD.toArray
 |.dK hU=>hU.length<=sizeLine/\(a==sysModules)=false/\∃ vs,KV hU vs/\h.DictOf (DY P w) a vs
 |.dT hU=>hU.length<=sizeLine/\(a==sysModules)=false/\∃ xs:List (List Key×Addr×Value),
  Paired (fun(p:List Key×V)(q:List Key×Addr×Value)=>p.1=q.1/\H q.2.1=some (.tup (p.1.map kV))/\RelV p.2 q.2.2) hU xs /\
  ∃ o es ep,h.get? a=some o/\o.ExactDict/\o.data=.dict es ep/\es.toList=xs.map (entryOfKey (tupleKind (DY P w)))/\(xs.map (·.1)).Nodup
 |.set S n=>h.SetOf (intKind P w) a S n
 |.ins C dx fs=>H dx=some (.own a)/\fs.length<=1000/\dx≠a/\h.get? a=some (PySem.W.instObj C dx) /\
  ∃ mA,h.Ns1 dx mA/\(∀ f,tH (fs.lookup f) (mA f))/\PySem.Within mA (fs.map (·.1))
 |.own _=>∃ o,h.get? a=some o
 |.xd fs=>∃ mA,h.Ns1 a mA/\∀ f,tH (fs.lookup f) (mA f)
 |.rng lo hi=>∃ t u v,h.get? a=some { cls:=.type "range", data:=.fields #[.int lo t,.int hi u,.int 1 v] }
 |.frz o u=>h.get? a=some o/\jL H h a u
 |.tbl ps=>h.get? a=some { cls:=.none,data:=.fields ps }
 |.met f x=>h.get? a=some (PySem.W.methodObj (.ref f) (.ref x))
 |.ext φ=>φ P w h/\(∃ o,h.get? a=some o)/\∀ h1 h2:Heap,φ P w h1->(∀ o,h1.get? a=some o->h2.get? a=some o)->φ P w h2
noncomputable def iN (H:Hp)(h:Heap):Prop:=∀ a o,H a=some o->jL P w H h a o
end
section
variable {P:Program}{w:World}{H H':Hp}{h h':Heap}{a:Addr}{o:HO}
theorem jL.lt (x:jL P w H h a o):a<h.objs.size:=by
 cases o with
 |lst xs=>obtain⟨_,_,_,_,e⟩:=x;exact Heap.lt_size e
 |tup xs=>obtain⟨_,_,_,p⟩:=x;exact p.lt
 |dK hU=>obtain⟨_,_,_,_,o,_,_,e,_⟩:=x;exact Heap.lt_size e
 |dT hU=>obtain⟨_,_,_,_,o,_,_,e,_⟩:=x;exact Heap.lt_size e
 |set S n=>obtain⟨o,_,_,_,e,_⟩:=x;exact Heap.lt_size e
 |ins C dx fs=>obtain⟨_,_,_,e,_⟩:=x;exact Heap.lt_size e
 |own y=>obtain⟨_,e⟩:=x;exact Heap.lt_size e
 |xd fs=>obtain⟨_,⟨_,_,_,e,_⟩,_⟩:=x;exact Heap.lt_size e
 |rng lo hi=>obtain⟨_,_,_,e⟩:=x;exact Heap.lt_size e
 |frz ob u=>obtain⟨e,_⟩:=x;exact Heap.lt_size e
 |tbl ps=>exact Heap.lt_size (show h.get? a=some _ from x)
 |met f y=>exact Heap.lt_size (show h.get? a=some _ from x)
 |ext φ=>obtain⟨_,⟨_,e⟩,_⟩:=x;exact Heap.lt_size e
theorem Paired.Cm {α β:Type}{F G:α->β->Prop}:∀{l₁:List α}{l₂:List β},Paired F l₁ l₂->(∀ a b,F a b->G a b)->Paired G l₁ l₂
 |_,_,.nil,_=>.nil
 |_,_,.cons r t,f=>.cons (f _ _ r) (Paired.Cm t f)
theorem jL.xR (x:jL P w H h a o)(k:∀ b u,(b=a∨H b=some (.own a))->h.get? b=some u->h'.get? b=some u)
 (ho:∀ b,H b=some (.own a)->H' b=some (.own a))(ht:∀ b xs,H b=some (.tup xs)->H' b=some (.tup xs)):jL P w H' h' a o:=by
 induction o with
 |lst xs=>obtain⟨z,aD,n,r,e⟩:=x;exact⟨z,aD,n,r,k _ _ (.inl rfl) e⟩
 |tup xs=>obtain⟨z,aD,r,ob,e,c⟩:=x;exact⟨z,aD,r,ob,k _ _ (.inl rfl) e,c⟩
 |dK hU=>obtain⟨z,y,vs,r,ob,es,ep,e,c⟩:=x;exact⟨z,y,vs,r,ob,es,ep,k _ _ (.inl rfl) e,c⟩
 |dT hU =>
 obtain⟨z,y,xs,r,ob,es,ep,e,c⟩:=x
 exact⟨z,y,xs,Paired.Cm r fun p q z=>⟨z.1,ht _ _ z.2.1,z.2.2⟩,ob,es,ep,k _ _ (.inl rfl) e,c⟩
 |set S n=>obtain⟨ob,es,ep,t,e,c⟩:=x;exact⟨ob,es,ep,t,k _ _ (.inl rfl) e,c⟩
 |ins C dx fs =>
 obtain⟨d,z,ne,e,mA,⟨od,es,ep,e2,c⟩,r⟩:=x
 exact⟨ho _ d,z,ne,k _ _ (.inl rfl) e,mA,⟨od,es,ep,k _ _ (.inr d) e2,c⟩,r⟩
 |own y=>obtain⟨ob,e⟩:=x;exact⟨ob,k _ _ (.inl rfl) e⟩
 |xd fs=>obtain⟨mA,⟨od,es,ep,e,c⟩,r⟩:=x;exact⟨mA,⟨od,es,ep,k _ _ (.inl rfl) e,c⟩,r⟩
 |rng lo hi=>obtain⟨t,u,v,e⟩:=x;exact⟨t,u,v,k _ _ (.inl rfl) e⟩
 |frz ob u ih=>obtain⟨e,q⟩:=x;exact⟨k _ _ (.inl rfl) e,ih q⟩
 |tbl ps =>
 have e:h.get? a=some { cls:=.none,data:=.fields ps }:=x
 show h'.get? a=some { cls:=.none,data:=.fields ps }
 exact k a _ (.inl rfl) e
 |met f y =>
 have e:h.get? a=some (PySem.W.methodObj (.ref f) (.ref y)):=x
 show h'.get? a=some (PySem.W.methodObj (.ref f) (.ref y))
 exact k a _ (.inl rfl) e
 |ext φ=>obtain⟨p,⟨o,e⟩,st⟩:=x;exact⟨st _ _ p fun o q=>k _ _ (.inl rfl) q,⟨o,k _ _ (.inl rfl) e⟩,st⟩
theorem iN.lt (x:iN P w H h)(e:H a=some o):a<h.objs.size:=(x a o e).lt
theorem iN.fresh (x:iN P w H h)(e:h.objs.size<=a):H a=none:=by
 cases q:H a with
 |none=>rfl
 |some u=>exact absurd (Nat.lt_of_lt_of_le (x.lt q) e) (Nat.lt_irrefl _)
theorem iN.kept (x:iN P w H h)(k:∀ b u,h.get? b=some u->h'.get? b=some u):iN P w H h':=fun a o e =>
 (x a o e).xR (fun b u _ q=>k b u q) (fun _ q=>q) fun _ _ q=>q
theorem iN.laid (x:iN P w H h)(k:∀ b u,h.get? b=some u->h'.get? b=some u)(hp:h.objs.size<=a)(new:jL P w (upd H a o) h' a o):iN P w (upd H a o) h':=fun b u e=>by
 have hn:=x.fresh hp
 by_cases hb:b=a
 ·subst hb;rw[dH]at e;cases e;exact new
 ·rw[bQ hb]at e
  exact(x b u e).xR (fun c v _ q=>k c v q) (fun c q=>by rw[bQ (iI q hn)];exact q) fun c xs q=>by rw[bQ (iI q hn)];exact q
end
noncomputable def Rd (H:Hp)(a:Addr)(u:HO):Prop:=H a=some u∨∃ o,H a=some (.frz o u)
theorem Rd.ok {P:Program}{w:World}{H:Hp}{h:Heap}{a:Addr}{u:HO}(r:Rd H a u)(x:iN P w H h):jL P w H h a u:=by
 rcases r with r|⟨o,r⟩
 ·exact x a u r
 ·obtain⟨_,q⟩:=x a _ r
  exact q
noncomputable def V9:Option HO->Prop
 |some (.lst _)=>True
 |some (.dK _)=>True
 |some (.dT _)=>True
 |some (.set _ _)=>True
 |some (.ins _ _ _)=>True
 |some (.ext _)=>True
 |_=>False
section
variable {P:Program}{w:World}{H:Hp}{h h':Heap}{x e:Addr}{o':HO}
theorem iN.write (ok:iN P w H h)(mu:V9 (H x))(he:e=x∨H e=some (.own x))(k:∀ b u,b≠e->h.get? b=some u->h'.get? b=some u)(heo:∃ u,h'.get? e=some u)
  (new:jL P w (upd H x o') h' x o'):iN P w (upd H x o') h':=fun b u q=>by
 have nown:∀ c y,H c=some (.own y)->c≠x:=fun c y r z=>by subst z;rw[r]at mu;exact mu
 have ntup:∀ c xs,H c=some (.tup xs)->c≠x:=fun c xs r z=>by subst z;rw[r]at mu;exact mu
 by_cases hb:b=x
 ·subst hb;rw[dH]at q;cases q;exact new
 ·rw[bQ hb]at q
  by_cases hbe:b=e
  ·have q':H b=some (.own x):=by
    rcases he with z|z
    ·exact absurd (hbe.trans z) hb
    ·rw[hbe];exact z
   rw[q]at q';cases q'
   obtain⟨v,hv⟩:=heo
   exact⟨v,by rw[hbe];exact hv⟩
  ·refine(ok b u q).xR (fun c v hc r=>k c v ?_ r) (fun c r=>by rw[bQ (nown c b r)];exact r) fun c xs r=>by rw[bQ (ntup c xs r)];exact r
   rcases hc with rfl|hc
   ·exact hbe
   ·rintro rfl
    rcases he with z|z
    ·exact nown c b hc z
    ·rw[hc]at z;cases z;exact hb rfl
end
structure Un (fs ex:List Addr)(H H':Hp)(h h':Heap):Prop where
 keep:∀ b o,h.get? b=some o->H b=none->b∉fs->b∉ex->h'.get? b=some o
 slot:∀ b o,h.get? b=some o->H b=none->b∈fs->b∉ex->∃ sl,h'.get? b=some { o with slots:=sl }
 free:∀ b o,h.get? b=some o->H b=none->b∉ex->H' b=none
 there:∀ b o,h.get? b=some o->b∉ex->∃ o',h'.get? b=some o'
 wL:∀ b xs,H b=some (.tup xs)->H' b=some (.tup xs)
 tL:∀ b o u,H b=some (.frz o u)->H' b=some (.frz o u)
 wM:∀ b ps,H b=some (.tbl ps)->∃ more,H' b=some (.tbl (ps++more))
section
variable {fs fs' ex ex':List Addr}{H H1 H2:Hp}{h h1 h2 h':Heap}{a x e:Addr}{o:HO}
theorem Un.any (u:Un fs ex H H1 h h1){b:Addr}{ob:Obj}(q:h.get? b=some ob)(n:H b=none)(hx:b∉ex):∃ sl,h1.get? b=some { ob with slots:=sl }:=by
 by_cases hb:b∈fs
 ·exact u.slot b ob q n hb hx
 ·exact⟨ob.slots,u.keep b ob q n hb hx⟩
theorem Un.kept (k:∀ b u,h.get? b=some u->h'.get? b=some u):Un fs ex H H h h' :=
 ⟨fun b ob q _ _ _=>k b ob q,fun b ob q _ _ _=>⟨ob.slots,k b ob q⟩,fun _ _ _ n _=>n,fun b ob q _=>⟨ob,k b ob q⟩,fun _ _ q=>q,fun _ _ _ q=>q,fun _ ps q=>⟨#[],by rw[q];simp⟩⟩
theorem Un.refl:Un fs ex H H h h:=Un.kept fun _ _ q=>q
theorem Un.laid (k:∀ b u,h.get? b=some u->h'.get? b=some u)(hp:h.objs.size<=a)(hn:H a=none):Un fs ex H (upd H a o) h h' where
 keep:=fun b u q _ _ _=>k b u q
 slot:=fun b u q _ _ _=>⟨u.slots,k b u q⟩
 free:=fun b u q n _=>by rw[bQ (Nat.ne_of_lt (Nat.lt_of_lt_of_le (Heap.lt_size q) hp))];exact n
 there:=fun b u q _=>⟨u,k b u q⟩
 wL:=fun b xs q=>by rw[bQ (iI q hn)];exact q
 tL:=fun b u xs q=>by rw[bQ (iI q hn)];exact q
 wM:=fun b ps q=>⟨#[],by rw[bQ (iI q hn),q];simp⟩
theorem Un.write (mu:V9 (H x))(he:e=x∨H e=some (.own x))(k:∀ b u,b≠e->h.get? b=some u->h'.get? b=some u)(heo:∃ u,h'.get? e=some u):Un fs ex H (upd H x o) h h':=by
 have hx:∀ b,H b=none->b≠x:=fun b n z=>by subst z;rw[n]at mu;exact mu
 have hb:∀ b,H b=none->b≠e:=fun b n z=>by
  subst z
  rcases he with r|r
  ·exact hx b n r
  ·rw[n]at r;cases r
 have hm:∀ b u,H b=some u->¬V9 (some u)->b≠x:=fun b u q nm z=>by subst z;rw[q]at mu;exact nm mu
 refine⟨fun b u q n _ _=>k b u (hb b n) q,fun b u q n _ _=>⟨u.slots,k b u (hb b n) q⟩,fun b u q n _=>by rw[bQ (hx b n)];exact n,fun b u q _=>?_,
  fun b xs q=>by rw[bQ (hm b _ q fun z=>z)];exact q,fun b u xs q=>by rw[bQ (hm b _ q fun z=>z)];exact q,fun b ps q=>⟨#[],by rw[bQ (hm b _ q fun z=>z),q];simp⟩⟩
 by_cases hbe:b=e
 ·subst hbe;exact heo
 ·exact⟨u,k b u hbe q⟩
end
noncomputable def WA (h:Heap)(H:Hp):List Addr:=(List.range h.objs.size).filter fun a=>(H a).isSome
noncomputable def vJ (h:Heap)(H:Hp):Heap:=PySem.W.hideAll h (WA h H)
theorem PJ (h:Heap)(H:Hp):(vJ h H).objs.size=h.objs.size:=PySem.W.hideAll_size _ _
theorem SQ {h:Heap}{H:Hp}{b:Addr}{o:Obj}(e:h.get? b=some o)(n:H b=none):(vJ h H).get? b=some o :=
 PySem.W.hideAll_get _ e fun hm=>by
 have q:(H b).isSome=true:=(List.mem_filter.mp hm).2
 rw[n]at q;simp at q
theorem XI {h:Heap}{H:Hp}{b:Addr}{o:Obj}(e:(vJ h H).get? b=some o):h.get? b=some o/\H b=none:=by
 have e':h.get? b=some o:=PySem.W.of_hideAll (WA h H) e
 refine⟨e',?_⟩
 cases q:H b with
 |none=>rfl
 |some x =>
 have hm:b∈WA h H:=List.mem_filter.mpr ⟨List.mem_range.mpr (Heap.lt_size e'),by simp [q]⟩
 have z:(vJ h H).get? b=none:=PySem.W.hideAll_none (WA h H) hm
 rw[z]at e;cases e
noncomputable def W0 (g h:Heap)(L:Addr):List (Addr×Obj):=(List.range h.objs.size).filterMap fun a=>if a=L∨(g.get? a).isSome=true then none else(h.get? a).map fun o=>(a,o)
noncomputable def rest (g h:Heap)(L d:Addr):List (Addr×Obj):=(W0 g h L).filter fun p=>decide (p.1≠d)
end L2
namespace L2
open PySem PySem.Spec PyProof.Rows
structure Mod (K:PySem.W.Frag)(mg:Str->Option Value)(base:Heap):Prop where
 kin:K.In base
 glob:base.Ns mainGlobals mg
 blt:∃ mb,base.Ns builtinsNs mb/\∀ x:Str,x ≠"__name__" -> mb x=bootBuiltins x
 nolimit:base.NoLimit
structure Cx where
 prog:Program
 w:World
 K:PySem.W.Frag
 mg:Str->Option Value
 base:Heap
 A:Around
 N:List Str
 s₀:Shared
 H₀:Hp
 env:Env
 outer:List Env
 stack:List Env
 ex:List Addr
 fn:Str->Bool
 calm:Bool
 pn:List (Addr×Obj)
 xe:Value->Shared->Prop
noncomputable def wR (l:List Env):List Addr:=l.filterMap (·.frame)
noncomputable abbrev Cx.fs (X:Cx):List Addr:=wR X.outer
noncomputable def Ga (sc:Scope)(x:Str):Prop:=sc.names.lookup x=some .local∨sc.names.lookup x=some .cell∨sc.names.lookup x=some .free
noncomputable def Loc (sc:Scope)(x:Str):Prop:=sc.names.lookup x=some .local∨sc.names.lookup x=some .cell
noncomputable def Look (env:Env)(h:Heap)(m:Str->Option Value)(x:Str)(u:Value):Prop :=
 (env.kindOf x=some .local/\m x=some u)∨((env.kindOf x=some .cell∨env.kindOf x=some .free)/\∃ c,env.cells.lookup x=some c/\h.IsCell c (some u))
structure Cx.Ok (X:Cx):Prop where
 mod:Mod X.K X.mg X.base
 kind:X.env.scope.kind=.function
 glob:X.env.globals=mainGlobals
 blt:X.env.builtins=builtinsNs
 above:X.s₀.heap.objs.size<=X.env.locals
 inj:∀ x y c,X.env.cells.lookup x=some c->X.env.cells.lookup y=some c->x=y
 has:∀ x,(X.env.kindOf x=some .cell∨X.env.kindOf x=some .free)->∃ c,X.env.cells.lookup x=some c
 cab:∀ x c,X.fn x=true->X.env.cells.lookup x=some c->X.s₀.heap.objs.size<=c
 hd:X.calm=true->X.A.handled=none
 frames:X.A.frames=some X.stack
 stk:X.stack=X.outer∨(X.stack=X.env::X.outer/\X.env.frame=some X.env.locals)
 exf:∀ b∈X.ex,b≠X.env.locals/\∀ x c,X.env.cells.lookup x=some c->c≠b
 bs:∀ b o,X.base.get? b=some o->X.s₀.heap.get? b=some o/\X.H₀ b=none
 bsz:X.base.objs.size<=X.s₀.heap.objs.size
 noex:∀ b o,X.base.get? b=some o->b∉X.ex
 exfs:∀ b∈X.ex,b∉X.fs
 nT:X.s₀.heap.FunFrames X.base X.outer
 frf:∀ b∈X.fs,X.H₀ b=none
structure Inv (X:Cx)(pins:List (Addr×Obj))(σ:List (Option V))(H:Hp)(s:Shared):Prop where
 ok:X.Ok
 os:s.os=X.s₀.os
 bare:AllBare s.gens
 base:Un X.fs X.ex X.H₀ H X.s₀.heap s.heap
 loc:∃ m,s.heap.Ns X.env.locals m/\∀(i:Nat)(x:Str)(v:V),X.N[i]? = some x->σ[i]? = some (some v)->Ga X.env.scope x->∃ u,RelV v u/\Look X.env s.heap m x u
 cell:∀ x c,X.env.cells.lookup x=some c->∃ v,s.heap.IsCell c v
 free:H X.env.locals=none
 lQ:∀ x c,X.env.cells.lookup x=some c->H c=none
 pin:∀ p∈X.pn++pins,s.heap.get? p.1=some p.2/\H p.1=none/\p.1≠X.env.locals/\p.1∉X.fs/\∀ v,p.2.data≠.cell v
 cB:iN X.prog X.w H s.heap
 len:σ.length=X.N.length
section
variable {X:Cx}{pins:List (Addr×Obj)}{σ:List (Option V)}{H H':Hp}{s:Shared}{h':Heap}
theorem Cx.Ok.Og (ok:X.Ok){b:Addr}{o:Obj}(e:X.base.get? b=some o):b∉X.fs:=fun hb=>by
 have:=(ok.nT.mem hb).1
 rw[e]at this;cases this
theorem Inv.bs (I:Inv X pins σ H s):∀ b o,X.base.get? b=some o->s.heap.get? b=some o/\H b=none:=fun b o e =>
 ⟨I.base.keep b o (I.ok.bs b o e).1 (I.ok.bs b o e).2 (I.ok.Og e) (I.ok.noex b o e),I.base.free b o (I.ok.bs b o e).1 (I.ok.bs b o e).2 (I.ok.noex b o e)⟩
theorem Inv.bk (I:Inv X pins σ H s):∀ b o,X.base.get? b=some o->s.heap.get? b=some o:=fun b o e=>(I.bs b o e).1
theorem Inv.mod (I:Inv X pins σ H s):Mod X.K X.mg X.base:=I.ok.mod
theorem Inv.jY (I:Inv X pins σ H s):X.K.In s.heap:=I.ok.mod.kin.keeps I.bk
theorem Inv.fr (I:Inv X pins σ H s):∃ m,Fr X.base X.env.locals s.heap m :=
 let⟨m,hn,_⟩:=I.loc
 ⟨m,hn,I.bk,Nat.le_trans I.ok.bsz I.ok.above⟩
theorem Inv.lt (I:Inv X pins σ H s):X.env.locals<s.heap.objs.size:=let⟨_,hn,_⟩:=I.loc;hn.lt
theorem Inv.sz (I:Inv X pins σ H s):X.s₀.heap.objs.size<=s.heap.objs.size:=Nat.le_trans I.ok.above (Nat.le_of_lt I.lt)
theorem Inv.Fc (I:Inv X pins σ H s){a:Addr}(h:s.heap.objs.size<=a):a∉X.fs:=fun hb=>by
 obtain⟨_,o,ho,_⟩:=I.ok.nT.mem hb
 exact absurd (Nat.lt_of_lt_of_le (Heap.lt_size ho) (Nat.le_trans I.sz h)) (Nat.lt_irrefl _)
theorem Inv.J9 (I:Inv X pins σ H s):∀ x c,X.env.cells.lookup x=some c->c≠X.env.locals:=fun x c e z=>by
 obtain⟨v,o,ho,hd⟩:=I.cell x c e
 obtain⟨m,⟨o',es,ep,ho',hd',_⟩,_⟩:=I.loc
 rw[z,ho']at ho;cases ho;rw[hd']at hd;cases hd
theorem Inv.nT (I:Inv X pins σ H s):s.heap.FunFrames X.base X.outer:=by
 have all:∀(l:List Env),(∀ b∈wR l,b∈X.fs)->X.s₀.heap.FunFrames X.base l->s.heap.FunFrames X.base l:=by
  intro l
  induction l with
  |nil=>intro _ _;trivial
  |cons env r ih =>
   intro hs hl
   obtain⟨hk,⟨L,o,hf,hn,ho,hd⟩,hr⟩:=hl
   have hL:L∈X.fs:=hs L (by unfold wR;rw[List.filterMap_cons,hf];exact List.mem_cons_self)
   obtain⟨sl,e⟩:=I.base.slot L o ho (I.ok.frf L hL) hL fun z=>I.ok.exfs L z hL
   exact⟨hk,⟨L,_,hf,hn,e,hd⟩,ih (fun b hb=>hs b (by unfold wR;rw[List.filterMap_cons,hf];exact List.mem_cons_of_mem _ hb)) hr⟩
 exact all X.outer (fun _ hb=>hb) I.ok.nT
theorem Inv.stack (I:Inv X pins σ H s):s.heap.FunFrames X.base X.stack:=by
 rcases I.ok.stk with e|⟨e,hf⟩
 ·rw[e];exact I.nT
 ·rw[e]
  obtain⟨m,hn,_⟩:=I.loc
  refine .cons (by rw[I.ok.kind];decide) hf hn ?_ I.nT
  exact Heap.get?_none_of_le (Nat.le_trans I.ok.bsz I.ok.above)
theorem Inv.IX (I:Inv X pins σ H s):∀ b∈wR X.stack,b∈X.env.locals::X.fs:=fun b hb=>by
 rcases I.ok.stk with e|⟨e,hf⟩
 ·rw[e]at hb;exact List.mem_cons_of_mem _ hb
 ·rw[e]at hb
  unfold wR at hb
  rw[List.filterMap_cons,hf]at hb
  exact hb
theorem Inv.MA (I:Inv X pins σ H s):∀ b∈wR X.stack,H b=none:=fun b hb=>by
 rcases List.mem_cons.mp (I.IX b hb)with e|hb
 ·rw[e];exact I.free
 ·obtain⟨_,o,ho,_⟩:=I.ok.nT.mem hb
  exact I.base.free b o ho (I.ok.frf b hb) fun z=>I.ok.exfs b z hb
theorem Inv.step {g':Array GenState}{t':Nat}{d':Drawn}{ch:List Addr}(I:Inv X pins σ H s)
  (hch:∀ b∈ch,(b∈X.ex∨X.s₀.heap.objs.size<=b)/\b≠X.env.locals/\(∀ x c,X.env.cells.lookup x=some c->c≠b)/\∀ p∈X.pn++pins,p.1≠b)
  (keep:∀ b o,b≠X.env.locals->b∉X.fs->b∉ch->s.heap.get? b=some o->H b=none->h'.get? b=some o)
  (slot:∀ b o,b≠X.env.locals->b∈X.fs->b∉ch->s.heap.get? b=some o->H b=none->∃ sl,h'.get? b=some { o with slots:=sl })(free:∀ b o,b∉ch->s.heap.get? b=some o->H b=none->H' b=none)
  (there:∀ b o,b∉ch->s.heap.get? b=some o->∃ o',h'.get? b=some o')
  (wL:∀ b xs,H b=some (.tup xs)->H' b=some (.tup xs))(tL:∀ b o u,H b=some (.frz o u)->H' b=some (.frz o u))(wM:∀ b ps,H b=some (.tbl ps)->∃ more,H' b=some (.tbl (ps++more)))
  (ns:∀ m,s.heap.Ns X.env.locals m->h'.Ns X.env.locals m)(cB:iN X.prog X.w H' h')(hg:AllBare g'):
  Inv X pins σ H' { s with heap:=h',gens:=g',drawn:=d',toks:=t' }:=by
 have neL:∀ b o,X.s₀.heap.get? b=some o->b≠X.env.locals:=fun b o e=>Nat.ne_of_lt (Nat.lt_of_lt_of_le (Heap.lt_size e) I.ok.above)
 have neC:∀ b o,X.s₀.heap.get? b=some o->b∉X.ex->b∉ch:=fun b o e hx hb=>by
  rcases(hch b hb).1 with z|z
  ·exact hx z
  ·exact absurd (Nat.lt_of_lt_of_le (Heap.lt_size e) z) (Nat.lt_irrefl _)
 have cellK:∀ x c,X.env.cells.lookup x=some c->∀ v,s.heap.IsCell c v->h'.IsCell c v:=fun x c e v ⟨o,ho,hd⟩=>by
  have nch:c∉ch:=fun z=>(hch c z).2.2.1 x c e rfl
  by_cases hc:c∈X.fs
  ·obtain⟨sl,q⟩:=slot c o (I.J9 x c e) hc nch ho (I.lQ x c e)
   exact⟨_,q,hd⟩
  ·exact⟨o,keep c o (I.J9 x c e) hc nch ho (I.lQ x c e),hd⟩
 refine⟨I.ok,I.os,hg,⟨fun b o e n hb hx=>?_,fun b o e n hb hx=>?_,fun b o e n hx=>?_,fun b o e hx=>?_,fun b xs e=>wL b xs (I.base.wL b xs e),fun b o xs e=>tL b o xs (I.base.tL b o xs e),fun b ps e=>?_⟩,?_,fun x c e=>?_,?_,fun x c e=>?_,fun p hp=>?_,cB,I.len⟩
 ·exact keep b o (neL b o e) hb (neC b o e hx) (I.base.keep b o e n hb hx) (I.base.free b o e n hx)
 ·obtain⟨sl,e1⟩:=I.base.slot b o e n hb hx
  obtain⟨sl',e2⟩:=slot b _ (neL b o e) hb (neC b o e hx) e1 (I.base.free b o e n hx)
  exact⟨sl',e2⟩
 ·obtain⟨o',e1⟩:=I.base.there b o e hx
  exact free b o' (neC b o e hx) e1 (I.base.free b o e n hx)
 ·obtain⟨o',e1⟩:=I.base.there b o e hx
  exact there b o' (neC b o e hx) e1
 ·obtain⟨m1,e1⟩:=I.base.wM b ps e
  obtain⟨m2,e2⟩:=wM b _ e1
  exact⟨m1++m2,by rw[e2,Array.append_assoc]⟩
 ·obtain⟨m,hn,hl⟩:=I.loc
  refine⟨m,ns m hn,fun i x v e1 e2 e3=>?_⟩
  obtain⟨u,r,l⟩:=hl i x v e1 e2 e3
  refine⟨u,r,?_⟩
  rcases l with l|⟨k,c,e,z⟩
  ·exact .inl l
  ·exact .inr ⟨k,c,e,cellK x c e _ z⟩
 ·obtain⟨v,z⟩:=I.cell x c e
  exact⟨v,cellK x c e v z⟩
 ·obtain⟨m,⟨o,_,_,ho,_⟩,_⟩:=I.loc
  exact free _ o (fun z=>(hch _ z).2.1 rfl) ho I.free
 ·obtain⟨v,o,ho,hd⟩:=I.cell x c e
  exact free c o (fun z=>(hch c z).2.2.1 x c e rfl) ho (I.lQ x c e)
 ·obtain⟨e,n,ne,nf,d⟩:=I.pin p hp
  have nch:p.1∉ch:=fun z=>(hch p.1 z).2.2.2 p hp rfl
  exact⟨keep p.1 p.2 ne nf nch e n,free p.1 p.2 nch e n,ne,nf,d⟩
theorem Inv.un {t':Nat}(I:Inv X pins σ H s)(u:Un X.fs [] H H' s.heap h')(cB:iN X.prog X.w H' h'):Inv X pins σ H' { s with heap:=h',toks:=t' }:=by
 obtain⟨m,⟨o,es,ep,ho,r⟩,_⟩:=id I.loc
 obtain⟨sl,hL⟩:=u.any ho I.free (by simp)
 exact I.step (g':=s.gens) (d':=s.drawn) (ch:=[]) (fun _ z=>nomatch z) (fun b o _ hb _ e n=>u.keep b o e n hb (by simp)) (fun b o _ hb _ e n=>u.slot b o e n hb (by simp)) (fun b o _ e n=>u.free b o e n (by simp)) (fun b o _ e=>u.there b o e (by simp)) u.wL u.tL u.wM (fun m' hm=>by
 obtain⟨o',es',ep',ho',r'⟩:=hm
 rw[ho]at ho';cases ho'
 exact⟨_,es',ep',hL,r'⟩) cB I.bare
theorem Inv.call {g':Array GenState}{t':Nat}{d':Drawn}{ch:List Addr}(I:Inv X pins σ H s)(u:Un (wR X.stack) ch H H' s.heap h')(cB:iN X.prog X.w H' h')(hg:AllBare g')
 (hch:∀ b∈ch,(b∈X.ex∨X.s₀.heap.objs.size<=b)/\b≠X.env.locals/\(∀ x c,X.env.cells.lookup x=some c->c≠b)/\∀ p∈X.pn++pins,p.1≠b):
 Inv X pins σ H' { s with heap:=h',gens:=g',drawn:=d',toks:=t' }:=by
 obtain⟨m,⟨o,es,ep,ho,r⟩,_⟩:=id I.loc
 obtain⟨sl,hL⟩:=u.any ho I.free fun z=>(hch _ z).2.1 rfl
 exact I.step (ch:=ch) hch (fun b o hL hb hc e n=>u.keep b o e n (fun z=>(List.mem_cons.mp (I.IX b z)).elim hL hb) hc) (fun b o _ _ hc e n=>u.any e n hc) (fun b o hc e n=>u.free b o e n hc) (fun b o hc e=>u.there b o e hc) u.wL u.tL u.wM (fun m' hm=>by
 obtain⟨o',es',ep',ho',r'⟩:=hm
 rw[ho]at ho';cases ho'
 exact⟨_,es',ep',hL,r'⟩) cB hg
theorem Inv.turned {t':Nat}{it:Addr}(I:Inv X pins σ H s)(k:∀ b o,b≠it->s.heap.get? b=some o->h'.get? b=some o)(hn:H it=none)(hL:it≠X.env.locals)
  (h1:it∈X.ex∨X.s₀.heap.objs.size<=it)(h2:∀ x c,X.env.cells.lookup x=some c->c≠it)(h3:∀ p∈X.pn++pins,p.1≠it):Inv X pins σ H { s with heap:=h',toks:=t' }:=by
 have nit:∀ b u,H b=some u->b≠it:=fun b u e z=>by rw[z,hn]at e;cases e
 refine I.step (g':=s.gens) (d':=s.drawn) (ch:=[it]) (fun b hb=>?_) (fun b o _ _ hc e _=>k b o (fun z=>hc (by simp [z])) e) (fun b o _ _ hc e _=>⟨o.slots,k b o (fun z=>hc (by simp [z])) e⟩) (fun _ _ _ _ n=>n)
  (fun b o hc e=>⟨o,k b o (fun z=>hc (by simp [z])) e⟩) (fun _ _ e=>e) (fun _ _ _ e=>e) (fun b ps e=>⟨#[],by rw[e];simp⟩) (fun m hm=>?_) (fun b u e=>?_) I.bare
 ·have e:b=it:=by simpa using hb
  subst e
  exact⟨h1,hL,h2,h3⟩
 ·obtain⟨o,es,ep,ho,r⟩:=hm
  exact⟨o,es,ep,k _ o (Ne.symm hL) ho,r⟩
 ·refine(I.cB b u e).xR (fun c v hc q=>k c v ?_ q) (fun _ q=>q) fun _ _ q=>q
  rcases hc with z|z
  ·rw[z];exact nit b u e
  ·exact nit c _ z
theorem Inv.tok (I:Inv X pins σ H s)(t:Nat):Inv X pins σ H { s with toks:=t }:=I.un (h':=s.heap) (t':=t) Un.refl I.cB
theorem Inv.kept {t':Nat}(I:Inv X pins σ H s)(k:∀ b u,s.heap.get? b=some u->h'.get? b=some u):Inv X pins σ H { s with heap:=h',toks:=t' }:=I.un (Un.kept k) (I.cB.kept k)
theorem Inv.laid {a:Addr}{o:HO}{t':Nat}(I:Inv X pins σ H s)(k:∀ b u,s.heap.get? b=some u->h'.get? b=some u)(hp:s.heap.objs.size<=a)(new:jL X.prog X.w (upd H a o) h' a o):
 Inv X pins σ (upd H a o) { s with heap:=h',toks:=t' }:=I.un (Un.laid k hp (I.cB.fresh hp)) (I.cB.laid k hp new)
theorem Inv.write {x e:Addr}{o:HO}{t':Nat}(I:Inv X pins σ H s)(mu:V9 (H x))(he:e=x∨H e=some (.own x))(k:∀ b u,b≠e->s.heap.get? b=some u->h'.get? b=some u)(heo:∃ u,h'.get? e=some u)
 (new:jL X.prog X.w (upd H x o) h' x o):Inv X pins σ (upd H x o) { s with heap:=h',toks:=t' }:=I.un (Un.write mu he k heo) (I.cB.write mu he k heo new)
theorem Inv.weak {σ':List (Option V)}(I:Inv X pins σ H s)(hl:σ'.length=σ.length)(w:∀(i:Nat) v,σ'[i]? = some (some v)->σ[i]? = some (some v)):Inv X pins σ' H s :=
 ⟨I.ok,I.os,I.bare,I.base,let⟨m,hn,hl'⟩:=I.loc;⟨m,hn,fun i x v e1 e2 e3=>hl' i x v e1 (w i v e2) e3⟩,I.cell,I.free,I.lQ,I.pin,I.cB,hl.trans I.len⟩
theorem Inv.MD {pins':List (Addr×Obj)}(I:Inv X pins σ H s)(h:∀ p∈pins',s.heap.get? p.1=some p.2/\H p.1=none/\p.1≠X.env.locals/\p.1∉X.fs/\∀ v,p.2.data≠.cell v):Inv X pins' σ H s :=
 ⟨I.ok,I.os,I.bare,I.base,I.loc,I.cell,I.free,I.lQ,fun p hp=>(List.mem_append.mp hp).elim (fun z=>I.pin p (List.mem_append_left _ z)) (h p),I.cB,I.len⟩
theorem KC {N:List Str}(hN:N.Nodup){i j:Nat}{x:Str}(a:N[i]? = some x)(b:N[j]? = some x):i=j:=by
 obtain⟨h1,e1⟩:=List.getElem?_eq_some_iff.mp a
 obtain⟨h2,e2⟩:=List.getElem?_eq_some_iff.mp b
 exact(List.getElem_inj hN).mp (e1.trans e2.symm)
theorem GU {M:Model}{A:Around}{E:Value->Shared->Prop}{i:Nat}{x:Str}{v:V}{u:Value}{Q:Unit->Shared->Prop}(I:Inv X pins σ H s)(hN:X.N.Nodup)(hi:X.N[i]? = some x)(hx:Loc X.env.scope x)(r:RelV v u)
  (h:∀ s',Inv X pins (σ.set i (some v)) H s'->(∃ a,Heap.SameBut a s.heap s'.heap/\(a=X.env.locals∨X.env.cells.lookup x=some a))->Q () s')(hf:X.fn x=true∨X.env.scope.names.lookup x=some .local:=by first|exact .inl rfl|exact .inr rfl|assumption):wpAny M A (storeName X.env x u) Q E s:=by
 obtain⟨m,hn,hl⟩:=id I.loc
 have hcls:(X.env.scope.kind == .class||(X.env.scope.kind == .module&&X.env.locals != X.env.globals))=false:=by rw[I.ok.kind];rfl
 have hiσ:i<σ.length:=by rw[I.len];exact(List.getElem?_eq_some_iff.mp hi).1
 have J9:=I.J9
 have tracked:∀{a:Addr}{h':Heap},(∃ o,s.heap.get? a=some o/\H a=none)->Heap.SameBut a s.heap h'->iN X.prog X.w H h':=fun{a h'} ha hs b ob e=>by
  obtain⟨_,_,hfree⟩:=ha
  refine(I.cB b ob e).xR (fun c w' hc q=>(hs.2 c ?_).trans q) (fun _ q=>q) fun _ _ q=>q
  rintro rfl
  rcases hc with rfl|hc
  ·rw[hfree]at e;cases e
  ·rw[hfree]at hc;cases hc
 rcases hx with hk|hk
 ·refine wpAny_storeName_local hk hn (fun h' hn' hs=>?_) hcls
  obtain⟨oL,_,_,hoL,_⟩:=id hn
  refine h _ ⟨I.ok,I.os,I.bare,⟨fun b o e n hb hx=>?_,fun b o e n hb hx=>?_,I.base.free,fun b o e hx=>?_,I.base.wL,I.base.tL,I.base.wM⟩,⟨_,hn',fun j y v' e1 e2 e3=>?_⟩,fun y c e=>?_,I.free,I.lQ,fun p hp=>?_,tracked ⟨oL,hoL,I.free⟩ hs,by simpa using I.len⟩ ⟨_,hs,.inl rfl⟩
  ·exact(hs.2 b (Nat.ne_of_lt (Nat.lt_of_lt_of_le (Heap.lt_size e) I.ok.above))).trans (I.base.keep b o e n hb hx)
  ·obtain⟨sl,e1⟩:=I.base.slot b o e n hb hx
   exact⟨sl,(hs.2 b (Nat.ne_of_lt (Nat.lt_of_lt_of_le (Heap.lt_size e) I.ok.above))).trans e1⟩
  ·obtain⟨o',e1⟩:=I.base.there b o e hx
   exact⟨o',(hs.2 b (Nat.ne_of_lt (Nat.lt_of_lt_of_le (Heap.lt_size e) I.ok.above))).trans e1⟩
  ·by_cases hj:j=i
   ·subst hj
    rw[hi]at e1;cases e1
    rw[List.getElem?_set_self hiσ]at e2
    cases e2
    exact⟨u,r,.inl ⟨hk,by simp⟩⟩
   ·rw[List.getElem?_set_ne (Ne.symm hj)]at e2
    obtain⟨u',r',q⟩:=hl j y v' e1 e2 e3
    refine⟨u',r',?_⟩
    rcases q with⟨k,e⟩|⟨k,c,e,z⟩
    ·refine .inl ⟨k,?_⟩
     have:y≠x:=fun e=>hj (KC hN e1 (e▸hi))
     simp [this,e]
    ·exact .inr ⟨k,c,e,z.sameBut hs (J9 y c e)⟩
  ·obtain⟨w',z⟩:=I.cell y c e
   exact⟨w',z.sameBut hs (J9 y c e)⟩
  ·obtain⟨e,n,ne,nf,d⟩:=I.pin p hp
   exact⟨(hs.2 p.1 ne).trans e,n,ne,nf,d⟩
 ·have hfn:X.fn x=true:=by
   rcases hf with z|z
   ·exact z
   ·rw[z]at hk;cases hk
  obtain⟨c,hc⟩:=I.ok.has x (.inl hk)
  obtain⟨w',z⟩:=I.cell x c hc
  refine wpAny_storeName_cell I.ok.kind hk hc z (fun h' hc' hs=>?_)
  obtain⟨oc,hoc,hocd⟩:=id z
  refine h { s with heap:=h' } ⟨I.ok,I.os,I.bare,⟨fun b o e n hb hx=>?_,fun b o e n hb hx=>?_,I.base.free,fun b o e hx=>?_,I.base.wL,I.base.tL,I.base.wM⟩,⟨m,hn.sameBut hs (Ne.symm (J9 x c hc)),fun j y v' e1 e2 e3=>?_⟩,fun y c' e=>?_,I.free,I.lQ,fun p hp=>?_,tracked ⟨oc,hoc,I.lQ x c hc⟩ hs,by simpa using I.len⟩ ⟨c,hs,.inr hc⟩
  ·exact(hs.2 b (Nat.ne_of_lt (Nat.lt_of_lt_of_le (Heap.lt_size e) (I.ok.cab x c hfn hc)))).trans (I.base.keep b o e n hb hx)
  ·obtain⟨sl,e1⟩:=I.base.slot b o e n hb hx
   exact⟨sl,(hs.2 b (Nat.ne_of_lt (Nat.lt_of_lt_of_le (Heap.lt_size e) (I.ok.cab x c hfn hc)))).trans e1⟩
  ·obtain⟨o',e1⟩:=I.base.there b o e hx
   exact⟨o',(hs.2 b (Nat.ne_of_lt (Nat.lt_of_lt_of_le (Heap.lt_size e) (I.ok.cab x c hfn hc)))).trans e1⟩
  ·by_cases hj:j=i
   ·subst hj
    rw[hi]at e1;cases e1
    rw[List.getElem?_set_self hiσ]at e2
    cases e2
    exact⟨u,r,.inr ⟨.inl hk,c,hc,hc'⟩⟩
   ·rw[List.getElem?_set_ne (Ne.symm hj)]at e2
    obtain⟨u',r',q⟩:=hl j y v' e1 e2 e3
    refine⟨u',r',?_⟩
    rcases q with q|⟨k,c',e,z'⟩
    ·exact .inl q
    ·refine .inr ⟨k,c',e,z'.sameBut hs ?_⟩
     rintro rfl
     exact hj (KC hN e1 (I.ok.inj _ _ _ e hc▸hi))
  ·by_cases hcc:c'=c
   ·subst hcc;exact⟨_,hc'⟩
   ·obtain⟨w2,z2⟩:=I.cell y c' e
    exact⟨w2,z2.sameBut hs hcc⟩
  ·obtain⟨e,n,ne,nf,d⟩:=I.pin p hp
   refine⟨(hs.2 p.1 ?_).trans e,n,ne,nf,d⟩
   intro q
   rw[q,hoc]at e
   have q':oc=p.2:=Option.some.inj e
   exact d w' (by rw[<-q'];exact hocd)
theorem UA {M:Model}{A:Around}{E:Value->Shared->Prop}{i:Nat}{x:Str}{v:V}{u:Value}{Q:Unit->Shared->Prop}(I:Inv X pins σ H s)(hN:X.N.Nodup)(hi:X.N[i]? = some x)(hx:Loc X.env.scope x)(r:RelV v u)
 (h:∀ s',Inv X pins (σ.set i (some v)) H s'->Q () s')(hf:X.fn x=true∨X.env.scope.names.lookup x=some .local:=by first|exact .inl rfl|exact .inr rfl|assumption):wpAny M A (storeName X.env x u) Q E s :=
 GU I hN hi hx r (fun s' I' _=>h s' I') hf
theorem Inv.Ja {s':Shared}{ch:List Addr}(I:Inv X pins σ H s)(ho:s'.os=s.os)(u:Un (wR X.stack) ch H H' s.heap s'.heap)(cB:iN X.prog X.w H' s'.heap)(hg:AllBare s'.gens)
 (hch:∀ b∈ch,(b∈X.ex∨X.s₀.heap.objs.size<=b)/\b≠X.env.locals/\(∀ x c,X.env.cells.lookup x=some c->c≠b)/\∀ p∈X.pn++pins,p.1≠b):Inv X pins σ H' s':=by
 obtain⟨h',g',d',t',o'⟩:=s'
 have e:o'=s.os:=ho
 subst e
 exact I.call (g':=g') (t':=t') (d':=d') u cB hg hch
end
noncomputable abbrev XK:=Value->Option Addr->Hp->Prop
noncomputable abbrev St:=List (Option V)
noncomputable abbrev VK:=V->Hp->Prop
noncomputable abbrev TE:=St->Hp->VK->Prop
noncomputable abbrev TT:=St->Hp->(Bool->Hp->Prop)->Prop
noncomputable abbrev TA:=St->Hp->(List V->Hp->Prop)->Prop
structure Ends where
 nx:St->Hp->Prop
 rt:VK
 bk:St->Hp->Prop:=fun _ _=>False
 ct:St->Hp->Prop:=fun _ _=>False
noncomputable abbrev TS:=Ends->St->Hp->Prop
inductive EP (X:Cx)(pins:List (Addr×Obj))(σ:St)(Q:VK)(u:Value)(s':Shared):Prop
 |mk (v:V)(H':Hp)(i:Inv X pins σ H' s')(r:RelV v u)(q:Q v H')
inductive TP (X:Cx)(pins:List (Addr×Obj))(σ:St)(Q:Bool->Hp->Prop)(b:Bool)(s':Shared):Prop
 |mk (H':Hp)(i:Inv X pins σ H' s')(q:Q b H')
inductive AP (X:Cx)(pins:List (Addr×Obj))(σ:St)(Q:List V->Hp->Prop)(us:List Value)(s':Shared):Prop
 |mk (vs:List V)(H':Hp)(i:Inv X pins σ H' s')(r:aQ vs us)(q:Q vs H')
noncomputable def SP (X:Cx)(pins:List (Addr×Obj))(D:Ends)(f:Flow)(s':Shared):Prop :=
 match f with
 |.next=>∃ σ' H',Inv X pins σ' H' s'/\D.nx σ' H'
 |.brk=>∃ σ' H',Inv X pins σ' H' s'/\D.bk σ' H'
 |.cont=>∃ σ' H',Inv X pins σ' H' s'/\D.ct σ' H'
 |.ret u=>∃ v σ' H',Inv X pins σ' H' s'/\RelV v u/\D.rt v H'
noncomputable def PE (X:Cx)(e:Expr)(t:TE):Prop :=
 ∀(pins:List (Addr×Obj))(s:Shared)(σ:St)(H:Hp)(Q:VK),Inv X pins σ H s->t σ H Q->wpAny (model X.prog X.w) X.A (eval e X.env) (EP X pins σ Q) X.xe s
noncomputable def PT (X:Cx)(e:Expr)(t:TT):Prop :=
 ∀(pins:List (Addr×Obj))(s:Shared)(σ:St)(H:Hp)(Q:Bool->Hp->Prop),Inv X pins σ H s->t σ H Q->wpAny (model X.prog X.w) X.A (isTrue e X.env (eval e X.env)) (TP X pins σ Q) X.xe s
noncomputable def PW (X:Cx)(e:Expr)(t:TT):Prop :=
 ∀(whole:Sem Value)(pins:List (Addr×Obj))(s:Shared)(σ:St)(H:Hp)(Q:Bool->Hp->Prop),Inv X pins σ H s->t σ H Q->wpAny (model X.prog X.w) X.A (isTrue e X.env whole) (TP X pins σ Q) X.xe s
theorem PW.pt {X:Cx}{e:Expr}{t:TT}(h:PW X e t):PT X e t:=h _
noncomputable def PA (X:Cx)(es:List Expr)(t:TA):Prop :=
 ∀(pos:Pos)(pins:List (Addr×Obj))(s:Shared)(σ:St)(H:Hp)(Q:List V->Hp->Prop),Inv X pins σ H s->t σ H Q->wpAny (model X.prog X.w) X.A (spliced (backTo pos (starEach es X.env))) (AP X pins σ Q) X.xe s
noncomputable def PS (X:Cx)(st:Stmt)(t:TS):Prop :=
 ∀(pins:List (Addr×Obj))(s:Shared)(σ:St)(H:Hp)(D:Ends),Inv X pins σ H s->t D σ H->wpAny (model X.prog X.w) X.A (exec st X.env) (SP X pins D) X.xe s
noncomputable def kQ (X:Cx)(st:List Stmt)(t:TS):Prop :=
 ∀(pins:List (Addr×Obj))(s:Shared)(σ:St)(H:Hp)(D:Ends),Inv X pins σ H s->t D σ H->wpAny (model X.prog X.w) X.A (execs st X.env) (SP X pins D) X.xe s
theorem bA {α:Type}{t:Sem α}{Q Q':α->Shared->Prop}{M:Model}{A:Around}{E:Value->Shared->Prop}{s:Shared}(h:wpAny M A t Q E s)(hQ:∀ a s,Q a s->Q' a s):wpAny M A t Q' E s:=wpAny_mono h hQ fun _ _ x=>x
end L2
namespace L2
open PySem PySem.Spec PyProof.Rows
section
variable {X:Cx}
theorem bin {a b:Expr}{ta tb:TE}(ha:PE X a ta)(hb:PE X b tb){pins:List (Addr×Obj)}{s:Shared}{σ:St}{H:Hp}{R:V->V->Hp->Prop}(I:Inv X pins σ H s)(h:ta σ H fun x H1=>tb σ H1 fun y H2=>R x y H2)
 {α:Type}{Q:α->Shared->Prop}{f:Value->Value->Sem α}
 (hf:∀ v u s2 x y H2,Inv X pins σ H2 s2->RelV x v->RelV y u->R x y H2->wpAny (model X.prog X.w) X.A (f v u) Q X.xe s2):
 wpAny (model X.prog X.w) X.A (eval a X.env) (fun v s₁=>wpAny (model X.prog X.w) X.A (eval b X.env) (fun u s₂=>wpAny (model X.prog X.w) X.A (f v u) Q X.xe s₂) X.xe s₁) X.xe s:=by
 refine bA (ha pins s σ H _ I h) fun v s1 ⟨x,H1,I1,r1,q1⟩=>?_
 refine bA (hb pins s1 σ H1 _ I1 q1) fun u s2 ⟨y,H2,I2,r2,q2⟩=>?_
 exact hf v u s2 x y H2 I2 r1 r2 q2
noncomputable def U3 (i:Nat):TE:=fun σ H Q=>∃ v,σ[i]? = some (some v)/\Q v H
noncomputable def tC (v:V):TE:=fun _ H Q=>Q v H
theorem Cv {i:Nat}{x:Str}{pos:Pos}(hN:X.N[i]? = some x)(hv:Ga X.env.scope x)(hd:(x==("__debug__" : Str))=false:=by decide)(hcd:(x==("__classdict__" : Str))=false:=by decide):PE X (.Name x pos) (U3 i):=by
 intro pins s σ H Q I h
 obtain⟨v,e,h⟩:=h
 obtain⟨m,hn,hl⟩:=I.loc
 obtain⟨u,r,l⟩:=hl i x v hN e hv
 have fin:EP X pins σ Q u s:=⟨v,H,I,r,h⟩
 rcases l with⟨hk,hm⟩|⟨hk,c,hc,hcell⟩
 ·exact wpAny_Name (wpAny_loadName_local I.ok.kind hk hn hm fin) hd
 ·rcases hk with hk|hk
  ·exact wpAny_Name (wpAny_loadName_cell I.ok.kind hk hc hcell fin) hd
  ·exact wpAny_Name (wpAny_loadName_free I.ok.kind hk hc hcell fin hcd) hd
theorem Z4 {i j pos}:PE X (.Constant (.int i) j pos) (tC (.int i)):=fun _ _ _ H _ I h=>wpAny_Constant_int ⟨.int i,H,I.tok _,⟨_,rfl⟩,h⟩
theorem Io {b j pos}:PE X (.Constant (.bool b) j pos) (tC (.bl b)):=fun _ _ _ H _ I h=>Constant_bool ⟨.bl b,H,I,rfl,h⟩
theorem Fz {j pos}:PE X (.Constant .none j pos) (tC .non):=fun _ _ _ H _ I h=>Constant_none ⟨.non,H,I,rfl,h⟩
theorem Bm {x j pos}:PE X (.Constant (.str x) j pos) (tC (.str x)):=fun _ _ _ H _ I h=>Calls.Constant_str ⟨.str x,H,I.tok _,⟨_,rfl⟩,h⟩
noncomputable def Gl (X:Cx)(x:Str):Prop:=X.env.kindOf x=some .globalImplicit
theorem DP {E:Value->Shared->Prop}{pins:List (Addr×Obj)}{s:Shared}{σ:St}{H:Hp}{x:Str}{u:Value}{pos:Pos}{Q:Value->Shared->Prop}(I:Inv X pins σ H s)(hg:Gl X x)(hm:X.mg x=some u)(h:Q u s)
 (hd:(x==("__debug__" : Str))=false:=by decide):wpAny (model X.prog X.w) X.A (eval (.Name x pos) X.env) Q E s :=
 Calls.Name_function_global I.ok.kind hg (Calls.loadGlobal_global (by rw[I.ok.glob];exact I.mod.glob.keeps I.bk) hm h) hd
theorem kO {E:Value->Shared->Prop}{pins:List (Addr×Obj)}{s:Shared}{σ:St}{H:Hp}{x:Str}{u:Value}{pos:Pos}{Q:Value->Shared->Prop}(I:Inv X pins σ H s)(hg:Gl X x)(hm:X.mg x=none)(hv:bootBuiltins x=some u)(h:Q u s)
 (hn:x ≠"__name__":=by decide)(hd:(x==("__debug__" : Str))=false:=by decide):wpAny (model X.prog X.w) X.A (eval (.Name x pos) X.env) Q E s:=by
 obtain⟨mb,h1,h2⟩:=I.mod.blt
 exact Calls.Name_function_global I.ok.kind hg (Calls.loadGlobal_builtin (by rw[I.ok.glob];exact I.mod.glob.keeps I.bk) hm (by rw[I.ok.blt];exact h1.keeps I.bk) ((h2 x hn).trans hv) h) hd
theorem WS {x:Str}{v:V}{u:Value}{pos:Pos}(hg:Gl X x)(hm:X.mg x=some u)(r:RelV v u)(hd:(x==("__debug__" : Str))=false:=by decide):PE X (.Name x pos) (tC v) :=
 fun _ _ _ H _ I h=>DP I hg hm ⟨v,H,I,r,h⟩ hd
theorem XE {x:Str}{v:V}{u:Value}{pos:Pos}(hg:Gl X x)(hm:X.mg x=none)(hv:bootBuiltins x=some u)(r:RelV v u)(hn:x ≠"__name__":=by decide)(hd:(x==("__debug__" : Str))=false:=by decide):PE X (.Name x pos) (tC v) :=
 fun _ _ _ H _ I h=>kO I hg hm hv ⟨v,H,I,r,h⟩ hn hd
variable {a b:Expr}{ta tb:TE}{pos:Pos}
theorem RelV.UC {x:V}{v:Value}(r:RelV x v):(v==Value.none)=decide (x=.non):=by
 cases x with
 |non=>cases r;rfl
 |bl _=>cases r;rfl
 |int _=>obtain⟨t,rfl⟩:=r;rfl
 |str _=>obtain⟨t,rfl⟩:=r;rfl
 |byt _=>obtain⟨t,rfl⟩:=r;rfl
 |flt _=>obtain⟨t,rfl⟩:=r;rfl
 |ref _=>cases r;rfl
 |ty _=>cases r;rfl
variable {tA tB':TT}{rest:List Expr}
noncomputable def Nw (t u:TT):TT:=fun σ H Q=>t σ H fun c H1=>if c=true then u σ H1 Q else Q false H1
noncomputable def Pj (t u:TT):TT:=fun σ H Q=>t σ H fun c H1=>if c=true then Q true H1 else u σ H1 Q
noncomputable def Ni (t:TT):TT:=fun σ H Q=>t σ H fun c H1=>Q (!c) H1
theorem XR (ha:PT X a tA):PW X (.BoolOp .And [a] pos) tA:=by
 intro wh pins s σ H Q I h
 refine isTrue_and (bA (ha pins s σ H Q I h) fun c s1 e=>?_)
 cases c with
 |true=>exact isTrue_and_nil e
 |false=>exact e
theorem Fi (ha:PT X a tA):PW X (.BoolOp .Or [a] pos) tA:=by
 intro wh pins s σ H Q I h
 refine isTrue_or (bA (ha pins s σ H Q I h) fun c s1 e=>?_)
 cases c with
 |false=>exact isTrue_or_nil e
 |true=>exact e
theorem Fw (ha:PT X a tA)(hb:PW X (.BoolOp .And (b::rest) pos) tB'):PW X (.BoolOp .And (a::b::rest) pos) (Nw tA tB'):=by
 intro wh pins s σ H Q I h
 refine isTrue_and (bA (ha pins s σ H _ I h) fun c s1 ⟨H1,I1,q1⟩=>?_)
 cases c with
 |true=>exact hb wh pins s1 σ H1 Q I1 q1
 |false=>exact⟨H1,I1,q1⟩
theorem Ij (ha:PT X a tA)(hb:PW X (.BoolOp .Or (b::rest) pos) tB'):PW X (.BoolOp .Or (a::b::rest) pos) (Pj tA tB'):=by
 intro wh pins s σ H Q I h
 refine isTrue_or (bA (ha pins s σ H _ I h) fun c s1 ⟨H1,I1,q1⟩=>?_)
 cases c with
 |true=>exact⟨H1,I1,q1⟩
 |false=>exact hb wh pins s1 σ H1 Q I1 q1
theorem Eu (ha:PT X a tA):PT X (.UnaryOp .Not a pos) (Ni tA):=by
 intro pins s σ H Q I h
 exact isTrue_not (bA (ha pins s σ H (fun c H1=>Q (!c) H1) I h) fun c s1 ⟨H1,I1,q⟩=>⟨H1,I1,q⟩)
theorem Cn {op}{t:TE}(h:PE X a t):PE X (.BoolOp op [a] pos) t:=fun pins s σ H Q I hw=>BoolOp_one (h pins s σ H Q I hw)
end
end L2
namespace L2
open PySem PySem.Spec PyProof.Rows
noncomputable def cG (K:PySem.W.Frag)(H:Hp)(a:Addr)(xs:List V):Prop :=
 Rd H a (.lst xs) ∨
 ∃(o:Obj)(aD:Array Value)(n:Nat),K.lookup a=some o/\o.cls=.type "list" /\ o.dict=none/\o.data=.seq aD n/\aD.size<=sizeLine/\aQ xs aD.toList
noncomputable def dZ (K:PySem.W.Frag)(H:Hp)(a:Addr)(xs:List V):Prop :=
 Rd H a (.tup xs) ∨
 ∃(o:Obj)(aD:Array Value)(n:Nat),K.lookup a=some o/\o.cls=.type "tuple" /\ o.dict=none/\o.data=.seq aD n/\aD.size<=sizeLine/\aQ xs aD.toList
noncomputable def Mn:Value->Option V
 |.none=>some .non
 |.bool b=>some (.bl b)
 |.int i _=>some (.int i)
 |.str x _=>some (.str x)
 |.bytes b _=>some (.byt b)
 |.float b _=>some (.flt b)
 |.ref a=>some (.ref a)
 |.type n=>some (.ty n)
 |_=>none
theorem RelV.abs {x:V}{u:Value}(r:RelV x u):Mn u=some x:=by
 cases x with
 |non=>cases r;rfl
 |bl _=>cases r;rfl
 |int _=>obtain⟨t,rfl⟩:=r;rfl
 |str _=>obtain⟨t,rfl⟩:=r;rfl
 |byt _=>obtain⟨t,rfl⟩:=r;rfl
 |flt _=>obtain⟨t,rfl⟩:=r;rfl
 |ref _=>cases r;rfl
 |ty _=>cases r;rfl
theorem RelV.inj {x y:V}{u:Value}(r:RelV x u)(q:RelV y u):x=y:=Option.some.inj (r.abs.symm.trans q.abs)
theorem aQ.inj:∀{xs ys:List V}{us:List Value},aQ xs us->aQ ys us->xs=ys
 |_,_,_,.nil,.nil=>rfl
 |_,_,_,.cons r t,.cons r' t'=>by rw[r.inj r',aQ.inj t t']
section
variable {X:Cx}{pins:List (Addr×Obj)}{σ:St}{H:Hp}{s:Shared}{a:Addr}{xs ys:List V}
theorem cG.of {K:PySem.W.Frag}(h:H a=some (.lst xs)):cG K H a xs:=.inl (.inl h)
theorem dZ.of {K:PySem.W.Frag}(h:H a=some (.tup xs)):dZ K H a xs:=.inl (.inl h)
theorem Inv.list (I:Inv X pins σ H s)(h:cG X.K H a xs):∃ aD:List Value,aQ xs aD/\PlainL s.heap a aD.toArray/\xs.length<=sizeLine:=by
 rcases h with h|⟨o,aD,n,hk,hc,hd,hs,hz,r⟩
 ·obtain⟨z,aD,n,r,e⟩:=h.ok I.cB
  exact⟨aD,r,⟨_,n,e,rfl,rfl,rfl⟩,z⟩
 ·refine⟨aD.toList,r,⟨o,n,I.jY a o hk,hc,hd,by simpa using hs⟩,?_⟩
  have e:=r.length
  simp only[Array.length_toList]at e
  omega
theorem Inv.tuple (I:Inv X pins σ H s)(h:dZ X.K H a xs):∃ aD:List Value,aQ xs aD/\IsTup s.heap a aD.toArray/\xs.length<=sizeLine:=by
 rcases h with h|⟨o,aD,n,hk,hc,_,hs,hz,r⟩
 ·obtain⟨z,aD,r,p⟩:=h.ok I.cB
  exact⟨aD,r,p.tup,z⟩
 ·refine⟨aD.toList,r,⟨o,I.jY a o hk,hc,n,by simpa using hs⟩,?_⟩
  have e:=r.length
  simp only[Array.length_toList]at e
  omega
theorem Inv.kC (I:Inv X pins σ H s)(h:cG X.K H a xs)(h':cG X.K H a ys):xs=ys:=by
 obtain⟨aD,r,⟨o,n,e,_,_,d⟩,_⟩:=I.list h
 obtain⟨kT,r',⟨o',n',e',_,_,d'⟩,_⟩:=I.list h'
 rw[e]at e';cases e'
 rw[d]at d'
 injection d' with d1 _
 have:aD=kT:=by simpa using congrArg Array.toList d1
 subst this
 exact r.inj r'
theorem Inv.Gn (I:Inv X pins σ H s)(h:dZ X.K H a xs):∃ o,s.heap.get? a=some o/\o.dict=none:=by
 rcases h with h|⟨o,aD,n,hk,hc,hd,hs,hz,r⟩
 ·obtain⟨z,aD,r,o,e,_,_,d⟩:=h.ok I.cB
  exact⟨o,e,d⟩
 ·exact⟨o,I.jY a o hk,hd⟩
theorem Inv.rX (I:Inv X pins σ H s)(h:dZ X.K H a xs)(h':dZ X.K H a ys):xs=ys:=by
 obtain⟨aD,r,⟨o,e,_,n,d⟩,_⟩:=I.tuple h
 obtain⟨kT,r',⟨o',e',_,n',d'⟩,_⟩:=I.tuple h'
 rw[e]at e';cases e'
 rw[d]at d'
 injection d' with d1 _
 have:aD=kT:=by simpa using congrArg Array.toList d1
 subst this
 exact r.inj r'
end
noncomputable abbrev Cx.tK (X:Cx)(E:Value->Shared->Prop):Cx:={ X with xe:=E }
noncomputable abbrev Cx.wQ (X:Cx):Cx:=X.tK fun _ _=>False
theorem Cx.Ok.tK {X:Cx}(ok:X.Ok)(E:Value->Shared->Prop):(X.tK E).Ok :=
 ⟨ok.mod,ok.kind,ok.glob,ok.blt,ok.above,ok.inj,ok.has,ok.cab,ok.hd,ok.frames,ok.stk,ok.exf,ok.bs,ok.bsz,ok.noex,ok.exfs,ok.nT,ok.frf⟩
theorem Cx.Ok.oK {X:Cx}{E:Value->Shared->Prop}(ok:(X.tK E).Ok):X.Ok :=
 ⟨ok.mod,ok.kind,ok.glob,ok.blt,ok.above,ok.inj,ok.has,ok.cab,ok.hd,ok.frames,ok.stk,ok.exf,ok.bs,ok.bsz,ok.noex,ok.exfs,ok.nT,ok.frf⟩
section
variable {X:Cx}{pins:List (Addr×Obj)}{σ:St}{H:Hp}{s:Shared}{E:Value->Shared->Prop}
theorem Inv.tK (I:Inv X pins σ H s)(E:Value->Shared->Prop):Inv (X.tK E) pins σ H s:=⟨I.ok.tK E,I.os,I.bare,I.base,I.loc,I.cell,I.free,I.lQ,I.pin,I.cB,I.len⟩
theorem Inv.oK (I:Inv (X.tK E) pins σ H s):Inv X pins σ H s:=⟨I.ok.oK,I.os,I.bare,I.base,I.loc,I.cell,I.free,I.lQ,I.pin,I.cB,I.len⟩
theorem SP.oK {D:Ends}{f:Flow}{s':Shared}(h:SP (X.tK E) pins D f s'):SP X pins D f s':=by
 cases f with
 |next=>obtain⟨σ',H',I,q⟩:=h;exact⟨σ',H',I.oK,q⟩
 |brk=>obtain⟨σ',H',I,q⟩:=h;exact⟨σ',H',I.oK,q⟩
 |cont=>obtain⟨σ',H',I,q⟩:=h;exact⟨σ',H',I.oK,q⟩
 |ret u=>obtain⟨v,σ',H',I,r,q⟩:=h;exact⟨v,σ',H',I.oK,r,q⟩
theorem kQ.wQ {st:List Stmt}{t:TS}(h:kQ X.wQ st t):kQ X st t:=fun pins s σ H D I hw =>
 wpAny_mono (h pins s σ H D (I.tK _) hw) (fun _ _ q=>q.oK) fun _ _ z=>False.elim z
end
section
variable {X:Cx}{st:Stmt}{rest:List Stmt}{t u:TS}{e:Expr}{te:TE}{pos:Pos}
noncomputable def Iq:TS:=fun D σ H=>D.nx σ H
noncomputable def Ox (t u:TS):TS:=fun D σ H=>t { D with nx:=u D } σ H
theorem XG:kQ X [] Iq:=fun _ _ σ H _ I h=>wpAny_execs_nil ⟨σ,H,I,h⟩
theorem TN (h1:PS X st t)(h2:kQ X rest u):kQ X (st::rest) (Ox t u):=by
 intro pins s σ H D I h
 refine wpAny_execs_cons (bA (h1 pins s σ H { D with nx:=u D } I h) fun f s1 q=>?_)
 cases f with
 |next =>
 obtain⟨σ',H',I',q⟩:=q
 exact h2 pins s1 σ' H' D I' q
 |ret v=>exact q
 |brk=>exact q
 |cont=>exact q
theorem Inv.quiet {pins:List (Addr×Obj)}{σ:St}{H:Hp}{s:Shared}(I:Inv X pins σ H s):interactive X.env=false:=by simp [interactive,I.ok.kind]
noncomputable def Ke (te:TE):TS:=fun D σ H=>te σ H fun _ H1=>D.nx σ H1
theorem XJ (he:PE X e te)(hs:swapsWith e none pos.line X.env=pure false:=by rfl):PS X (.Expr e pos) (Ke te):=by
 intro pins s σ H D I h
 exact wpAny_Expr_any (bA (he pins s σ H _ I h) fun v s1 ⟨x,H1,I1,r1,q1⟩=>⟨σ,H1,I1,q1⟩) I.quiet hs
noncomputable def Mt (te:TE):TS:=fun D σ H=>te σ H D.rt
theorem Bn (he:PE X e te):PS X (.Return (some e) pos) (Mt te):=by
 intro pins s σ H D I h
 exact wpAny_Return_some (bA (he pins s σ H _ I h) fun v s1 ⟨x,H1,I1,r1,q1⟩=>⟨x,σ,H1,I1,r1,q1⟩)
noncomputable def Gs:TS:=fun D _ H=>D.rt .non H
theorem Y1:PS X (.Return none pos) Gs:=fun _ _ σ H _ I h=>wpAny_Return_none ⟨.non,σ,H,I,rfl,h⟩
noncomputable def Lx (c:TT)(t u:TS):TS:=fun D σ H=>c σ H fun b H1=>if b=true then t D σ H1 else u D σ H1
theorem Gj {c:Expr}{a b:List Stmt}{tc:TT}(hc:PT X c tc)(ha:kQ X a t)(hb:kQ X b u):PS X (.If c a b pos) (Lx tc t u):=by
 intro pins s σ H D I h
 refine wpAny_If (bA (hc pins s σ H _ I h) fun d s1 ⟨H1,I1,q1⟩=>?_)
 cases d with
 |true=>exact ha pins s1 σ H1 D I1 q1
 |false=>exact hb pins s1 σ H1 D I1 q1
noncomputable def Dl:TS:=fun _ _ _=>False
theorem TK:PS X st Dl:=fun _ _ _ _ _ _ h=>h.elim
end
noncomputable abbrev TG:=V->St->Hp->(St->Hp->Prop)->Prop
noncomputable abbrev E2:=List V->St->Hp->(St->Hp->Prop)->Prop
noncomputable def PG (X:Cx)(target:Expr)(t:TG):Prop :=
 ∀(pins:List (Addr×Obj))(s:Shared)(σ:St)(H:Hp)(v:V)(u:Value)(Q:St->Hp->Prop),Inv X pins σ H s->RelV v u->t v σ H Q ->
 wpAny (model X.prog X.w) X.A (assign target X.env u) (fun _ s'=>∃ σ' H',Inv X pins σ' H' s'/\Q σ' H') X.xe s
noncomputable def B7 (X:Cx)(ts:List Expr)(t:E2):Prop :=
 ∀(pins:List (Addr×Obj))(s:Shared)(σ:St)(H:Hp)(vs:List V)(us:List Value)(Q:St->Hp->Prop),Inv X pins σ H s->aQ vs us->t vs σ H Q ->
 wpAny (model X.prog X.w) X.A (assignInOrder ((assignEach ts X.env).map (·.2)) us) (fun _ s'=>∃ σ' H',Inv X pins σ' H' s'/\Q σ' H') X.xe s
noncomputable abbrev SS:=V->V->V->Hp->(Hp->Prop)->Prop
noncomputable def Ah (X:Cx)(t:SS):Prop :=
 ∀(pins:List (Addr×Obj))(s:Shared)(σ:St)(H:Hp)(o i v:V)(ov iv u:Value)(Q:Hp->Prop),Inv X pins σ H s->RelV o ov->RelV i iv->RelV v u->t o i v H Q ->
 wpAny (model X.prog X.w) X.A (setItem ov iv u) (fun _ s'=>∃ H',Inv X pins σ H' s'/\Q H') X.xe s
section
variable {X:Cx}{pos:Pos}
noncomputable def C6 (i:Nat):TG:=fun v σ H Q=>Q (σ.set i (some v)) H
theorem pY {i:Nat}{x:Str}(hN:X.N.Nodup)(hi:X.N[i]? = some x)(hx:Loc X.env.scope x)(hf:X.fn x=true∨X.env.scope.names.lookup x=some .local:=by first|exact .inl rfl|exact .inr rfl|assumption):PG X (.Name x pos) (C6 i):=by
 intro pins s σ H v u Q I r h
 exact wpAny_assign_Name (UA I hN hi hx r (fun s' I'=>⟨_,H,I',h⟩) hf)
noncomputable def Oc:E2:=fun vs σ H Q=>vs=[]/\Q σ H
noncomputable def Hz (t:TG)(u:E2):E2:=fun vs σ H Q=>∃ v r,vs=v::r/\t v σ H fun σ' H'=>u r σ' H' Q
theorem X5:B7 X [] Oc:=by
 intro pins s σ H vs us Q I r h
 obtain⟨e,h⟩:=h
 subst e
 cases r
 exact assignInOrder_nil ⟨σ,H,I,h⟩
theorem SH {e:Expr}{es:List Expr}{t:TG}{u:E2}(h1:PG X e t)(h2:B7 X es u)
 (hs:(assignEach (e::es) X.env).map (·.2)=assign e X.env::(assignEach es X.env).map (·.2):=by rfl):B7 X (e::es) (Hz t u):=by
 intro pins s σ H vs us Q I r h
 obtain⟨v,vr,e1,h⟩:=h
 subst e1
 cases r with
 |cons r rr =>
 rw[hs]
 refine assignInOrder_cons (bA (h1 pins s σ H _ _ _ I r h) fun _ s1 ⟨σ1,H1,I1,q1⟩=>?_)
 exact h2 pins s1 σ1 H1 _ _ Q I1 rr q1
noncomputable def Ao (K:PySem.W.Frag)(n:Nat)(t:E2):TG:=fun v σ H Q=>∃ a xs,v=.ref a/\dZ K H a xs/\xs.length=n/\t xs σ H Q
theorem PY {es:List Expr}{k:Nat}{t:E2}{n:Nat}(hc:X.calm=true)(h:B7 X es t)
 (hn:(assignEach es X.env).length=n:=by rfl)(fM:(assignEach es X.env).findIdx? (·.1)=none:=by rfl):PG X (.Tuple es k pos) (Ao X.K n t):=by
 intro pins s σ H v u Q I r hw
 obtain⟨a,xs,e1,hq,hl,hw⟩:=hw
 subst e1
 cases r
 obtain⟨aD,rv,ht,hz⟩:=I.tuple hq
 refine assign_Tuple_tuple (I.ok.hd hc) ht (by simp [hn,<-hl,rv.length]) fM fun h' hx=>?_
 have I1:Inv X pins σ H { s with heap:=h' }:=I.kept (t':=s.toks) fun b o e=>hx b o (Nat.ne_of_lt (Heap.lt_size e)) e
 exact h pins _ σ H xs _ Q I1 (by simpa using rv) hw
noncomputable def Ng (to ti:TE)(t:SS):TG:=fun v σ H Q=>to σ H fun o H1=>ti σ H1 fun i H2=>t o i v H2 fun H3=>Q σ H3
theorem ZV {o i:Expr}{to ti:TE}{t:SS}(ho:PE X o to)(hi:PE X i ti)(hs:Ah X t)
 (ha:∀ v,assign (.Subscript o i pos) X.env v=(do
  let ov <-holding [v] (eval o X.env)
  let iv <-holding [v,ov] (eval i X.env)
  standAt pos
  holding [v,ov,iv] (setItem ov iv v)
  release [v,ov,iv] []):=by intro _;rfl):PG X (.Subscript o i pos) (Ng to ti t):=by
 intro pins s σ H v u Q I r h
 rw[ha]
 refine wpAny_bind (wpAny_holding (bA (ho pins s σ H _ I h) fun ov s1 ⟨x,H1,I1,r1,q1⟩=>?_))
 refine wpAny_bind (wpAny_holding (bA (hi pins s1 σ H1 _ I1 q1) fun iv s2 ⟨y,H2,I2,r2,q2⟩=>?_))
 refine wpAny_bind (wpAny_standAt (wpAny_bind (wpAny_holding (bA (hs pins s2 σ H2 x y v ov iv u _ I2 r1 r2 r q2) fun _ s3 ⟨H3,I3,q3⟩=>?_))))
 exact wpAny_release ⟨σ,H3,I3,q3⟩
noncomputable def Nn (te:TE)(g:TG):TS:=fun D σ H=>te σ H fun x H1=>g x σ H1 D.nx
theorem Ap {tg e:Expr}{te:TE}{g:TG}(he:PE X e te)(hg:PG X tg g)(hs:swapsWithSole [tg] e pos.line X.env=pure false:=by rfl)(hw:swappedStores [tg] e X.env=pure none:=by rfl)
 (h1:(assignEach [tg] X.env).map (·.2)=[assign tg X.env]:=by rfl):PS X (.Assign [tg] e pos) (Nn te g):=by
 intro pins s σ H D I h
 refine wpAny_Assign_stores (bA (he pins s σ H _ I h) fun v s1 ⟨x,H1,I1,r1,q1⟩=>?_) hs hw
 rw[h1]
 exact bA (hg pins s1 σ H1 x v _ I1 r1 q1) fun _ s2 q=>q
end
section
variable {X:Cx}{pos:Pos}
noncomputable def Bg (c:TT)(tb:TS):TS:=fun D σ H=>∃ W:Nat->St->Hp->Prop,(∃ m,W m σ H)/\∀ m σ H,W m σ H ->
 c σ H fun b H1=>if b=true then ∃ N:St->Hp->Prop,(∀ σ' H',N σ' H'->∃ m',m'<m/\W m' σ' H')/\tb { D with nx:=N,ct:=N,bk:=D.nx } σ H1 else D.nx σ H1
theorem UX {c:Expr}{body:List Stmt}{tc:TT}{tb:TS}(hp:PassesOwn (model X.prog X.w) X.A X.env X.xe)(hc:PT X c tc)(hb:kQ X body tb):PS X (.While c body [] pos) (Bg tc tb):=by
 intro pins s σ H D I h
 obtain⟨W,⟨m0,w0⟩,turn⟩:=h
 refine wpAny_While (codeAny_whileLoop (fun n s'=>∃ σ' H',Inv X pins σ' H' s'/\W n σ' H') ?_ m0 ⟨σ,H,I,w0⟩)
 rintro n s1 ⟨σ1,H1,I1,w1⟩
 refine wpAny_passesOwn hp (bA (hc pins s1 σ1 H1 _ I1 (turn n σ1 H1 w1)) fun b s2 ⟨H2,I2,q2⟩=>?_)
 cases b with
 |true =>
  obtain⟨N,hN,q2⟩:=q2
  rw[if_pos rfl]
  refine wpAny_passesOwn hp (bA (hb pins s2 σ1 H2 _ I2 q2) fun f s3 q3=>?_)
  cases f with
  |next =>
   obtain⟨σ3,H3,I3,n3⟩:=q3
   obtain⟨m',hm,w3⟩:=hN σ3 H3 n3
   exact⟨m',hm,σ3,H3,I3,w3⟩
  |cont =>
   obtain⟨σ3,H3,I3,n3⟩:=q3
   obtain⟨m',hm,w3⟩:=hN σ3 H3 n3
   exact⟨m',hm,σ3,H3,I3,w3⟩
  |brk=>exact q3
  |ret v=>exact q3
 |false =>
  rw[if_neg Bool.false_ne_true]
  exact wpAny_execs_nil ⟨σ1,H2,I2,q2⟩
end
structure It where
 go:Nat->Hp->Prop
 yld:Nat->Hp->V->Hp->Prop
 stop:Nat->Hp->Prop
noncomputable def lD (X:Cx)(pins:List (Addr×Obj))(H:Hp)(b:Addr):Prop :=
 H b=none/\b≠X.env.locals/\b∉X.fs/\(b∈X.ex∨X.s₀.heap.objs.size<=b)/\(∀ x c,X.env.cells.lookup x=some c->c≠b)/\∀ p∈X.pn++pins,p.1≠b
theorem Inv.DT {X:Cx}{pins:List (Addr×Obj)}{σ:St}{H H':Hp}{s:Shared}{b:Addr}(I:Inv X pins σ H s)(hb:s.heap.objs.size<=b)(hn:H' b=none):lD X pins H' b:=by
 refine⟨hn,Nat.ne_of_gt (Nat.lt_of_lt_of_le I.lt hb),I.Fc hb,.inr (Nat.le_trans I.sz hb),fun x c e z=>?_,fun p hp z=>?_⟩
 ·obtain⟨v,q⟩:=I.cell x c e
  exact absurd (Nat.lt_of_lt_of_le q.lt (by rw[z];exact hb)) (Nat.lt_irrefl _)
 ·exact absurd (Nat.lt_of_lt_of_le (Heap.lt_size (I.pin p hp).1) (by rw[z];exact hb)) (Nat.lt_irrefl _)
structure Turn (P:Program)(w:World)(K:PySem.W.Frag)(tg:Expr)(J:It)(fp:List Addr)(it:Addr)(tn:Nat->Heap->Prop):Prop where
 mem:it∈fp
 obj:∀ i h,tn i h->∀ b∈fp,∃ o,h.get? b=some o/\∀ v,o.data≠.cell v
 keep:∀ i h h',tn i h->(∀ b∈fp,∀ o,h.get? b=some o->h'.get? b=some o)->tn i h'
 item:∀(X:Cx),X.prog=P->X.w=w->X.K=K->X.calm=true->∀(i:Nat)(pins:List (Addr×Obj))(s:Shared)(σ:St)(H:Hp)(E:Value->Shared->Prop),Inv X pins σ H s->(∀ b∈fp,lD X pins H b)->tn i s.heap->J.go i H ->
 wpAny (model P w) X.A (pyNext (.ref it)) (fun r s1=>∃ u,r=some u /\
  wpAny (model P w) X.A (letOwnedTupleGo tg (.ref it) u) (fun _ s2=>∃ x H',Inv X pins σ H' s2/\RelV x u/\J.yld i H x H'/\tn (i+1) s2.heap/\∀ b∈fp,H' b=none) E s1) E s
 done:∀(X:Cx),X.prog=P->X.w=w->X.K=K->X.calm=true->∀(i:Nat)(pins:List (Addr×Obj))(s:Shared)(σ:St)(H:Hp)(E:Value->Shared->Prop),Inv X pins σ H s->(∀ b∈fp,lD X pins H b)->tn i s.heap->J.stop i H ->
 wpAny (model P w) X.A (pyNext (.ref it)) (fun r s1=>r=none/\Inv X pins σ H s1) E s
 self:∀(A:Around)(i:Nat)(s:Shared)(Q:Value->Shared->Prop)(E:Value->Shared->Prop),tn i s.heap->Q (.ref it) s->wpAny (model P w) A (pyIter (.ref it)) Q E s
noncomputable abbrev TI:=St->Hp->(It->Hp->Prop)->Prop
noncomputable def VR (X:Cx)(pins:List (Addr×Obj))(σ:St)(tg:Expr)(R:It->Hp->Prop)(itv:Value)(s2:Shared):Prop :=
 ∃(it:Addr)(fp:List Addr)(tn:Nat->Heap->Prop)(J:It)(H':Hp),itv=.ref it/\Inv X pins σ H' s2/\Turn X.prog X.w X.K tg J fp it tn/\tn 0 s2.heap/\(∀ b∈fp,lD X pins H' b)/\R J H'
noncomputable def PI (X:Cx)(tg iter:Expr)(wi:TI):Prop :=
 ∀(pins:List (Addr×Obj))(s:Shared)(σ:St)(H:Hp)(R:It->Hp->Prop),Inv X pins σ H s->wi σ H R ->
 wpAny (model X.prog X.w) X.A (eval iter X.env) (fun v s1=>wpAny (model X.prog X.w) X.A (pyIter v) (VR X pins σ tg R) X.xe s1) X.xe s
theorem G6 {M:Model}{A:Around}{E:Value->Shared->Prop}{s:Shared}{tg:Expr}{it:Addr}{u:Value}{o:Obj}{n:String}{vs:Array Value}{Q:Unit->Shared->Prop}(ho:s.heap.get? it=some o)(hc:o.cls=.type n)(hd:o.data=.fields vs)
    (hn:["enumerate","zip","dict_itemiterator","dict_reverseitemiterator","odict_iterator","itertools.zip_longest","itertools.pairwise"].contains n=false)(hQ:Q () s):wpAny M A (letOwnedTupleGo tg (.ref it) u) Q E s:=by
  unfold letOwnedTupleGo
  cases tg<;>first
    |exact wpAny_pure hQ
    |(cases u<;>first
        |exact wpAny_pure hQ
        | (refine wpAny_bind (wpAny_load ho ?_)
           rw[hc,hd]
           show wpAny M A (if(["enumerate","zip","dict_itemiterator","dict_reverseitemiterator","odict_iterator","itertools.zip_longest","itertools.pairwise"].contains n&&vs[0]? == some (rawInt _))=true then _ else _) Q E s
           rw[if_neg (by intro h;rw[hn,Bool.false_and]at h;cases h)]
           exact wpAny_pure hQ))
noncomputable def VJ (K:PySem.W.Frag)(a:Addr):It :=
 ⟨fun i H=>∃ xs x,cG K H a xs/\xs[i]? = some x,fun i H x H'=>H'=H/\∀ xs,cG K H a xs->xs[i]? = some x,fun i H=>∃ xs,cG K H a xs/\xs.length<=i⟩
noncomputable def ZR (K:PySem.W.Frag)(a:Addr):It :=
 ⟨fun i H=>∃ xs x,dZ K H a xs/\xs[i]? = some x,fun i H x H'=>H'=H/\∀ xs,dZ K H a xs->xs[i]? = some x,fun i H=>∃ xs,dZ K H a xs/\xs.length<=i⟩
noncomputable def RV (lo:Int)(n:Nat):It:=⟨fun i _=>i<n,fun i H x H'=>H'=H/\x=.int (lo+i),fun i _=>n<=i⟩
theorem RK {P:Program}{w:World}{K:PySem.W.Frag}{tg:Expr}(a it:Addr):Turn P w K tg (VJ K a) [it] it (fun i h=>h.IsListIter it a i) where
 mem:=by simp
 obj:=fun i h st b hb=>by
  have e:b=it:=by simpa using hb
  subst e
  obtain⟨o,e,c,d⟩:=st
  exact⟨o,e,fun v z=>by rw[d]at z;cases z⟩
 keep:=fun i h h' st k=>st.at fun o e=>k it (by simp) o e
 item:=by
  intro X hP hw hK hc i pins s σ H E I hf st hg
  subst hP hw hK
  obtain⟨xs,x,hq,hx⟩:=hg
  obtain⟨aD,rv,p,hz⟩:=I.list hq
  obtain⟨u,hu,ru⟩:=rv.get hx
  obtain⟨f0,f1,f2,f3,f4,f5⟩:=hf it (by simp)
  refine wpAny_pyNext_list_item st p.isList (x:=u) (by simpa using hu) fun h' aA sb=>?_
  have I1:Inv X pins σ H { s with heap:=h' }:=I.turned (t':=s.toks) (fun b o hb e=>(sb.2 b hb).trans e) f0 f1 f3 f4 f5
  obtain⟨o,e,c,d⟩:=id aA
  exact⟨u,rfl,G6 (s:={ s with heap:=h' }) e c d (by decide) ⟨x,H,I1,ru,⟨rfl,fun ys hy=>by rw[I.kC hy hq];exact hx⟩,aA,fun b hb=>(hf b hb).1⟩⟩
 done:=by
  intro X hP hw hK hc i pins s σ H E I hf st hg
  subst hP hw hK
  obtain⟨xs,hq,hx⟩:=hg
  obtain⟨aD,rv,p,hz⟩:=I.list hq
  obtain⟨f0,f1,f2,f3,f4,f5⟩:=hf it (by simp)
  have hl:=rv.length
  exact wpAny_pyNext_list_end (I.ok.hd hc) st p.isList (by simp;omega) fun h' eb=>⟨rfl,I.turned (t':=s.toks) (fun b o hb e=>eb b o hb e) f0 f1 f3 f4 f5⟩
 self:=fun _ _ _ _ _ st h=>wpAny_pyIter_listiter st h
theorem NV {P:Program}{w:World}{K:PySem.W.Frag}{tg:Expr}(a it:Addr):Turn P w K tg (ZR K a) [it] it (fun i h=>h.IsTupleIter it a i) where
 mem:=by simp
 obj:=fun i h st b hb=>by
  have e:b=it:=by simpa using hb
  subst e
  obtain⟨o,e,c,d⟩:=st
  exact⟨o,e,fun v z=>by rw[d]at z;cases z⟩
 keep:=fun i h h' st k=>st.at fun o e=>k it (by simp) o e
 item:=by
  intro X hP hw hK hc i pins s σ H E I hf st hg
  subst hP hw hK
  obtain⟨xs,x,hq,hx⟩:=hg
  obtain⟨aD,rv,p,hz⟩:=I.tuple hq
  obtain⟨u,hu,ru⟩:=rv.get hx
  obtain⟨f0,f1,f2,f3,f4,f5⟩:=hf it (by simp)
  refine wpAny_pyNext_tuple_item st (show s.heap.IsTuple a aD.toArray from p) (x:=u) (by simpa using hu) fun h' aA sb=>?_
  have I1:Inv X pins σ H { s with heap:=h' }:=I.turned (t':=s.toks) (fun b o hb e=>(sb.2 b hb).trans e) f0 f1 f3 f4 f5
  obtain⟨o,e,c,d⟩:=id aA
  exact⟨u,rfl,G6 (s:={ s with heap:=h' }) e c d (by decide) ⟨x,H,I1,ru,⟨rfl,fun ys hy=>by rw[I.rX hy hq];exact hx⟩,aA,fun b hb=>(hf b hb).1⟩⟩
 done:=by
  intro X hP hw hK hc i pins s σ H E I hf st hg
  subst hP hw hK
  obtain⟨xs,hq,hx⟩:=hg
  obtain⟨aD,rv,p,hz⟩:=I.tuple hq
  obtain⟨f0,f1,f2,f3,f4,f5⟩:=hf it (by simp)
  have hl:=rv.length
  exact wpAny_pyNext_tuple_end (I.ok.hd hc) st (show s.heap.IsTuple a aD.toArray from p) (by simp;omega) fun h' eb=>⟨rfl,I.turned (t':=s.toks) (fun b o hb e=>eb b o hb e) f0 f1 f3 f4 f5⟩
 self:=fun _ _ _ _ _ st h=>wpAny_pyIter_tupleiter st h
theorem NH {P:Program}{w:World}{K:PySem.W.Frag}{tg:Expr}(it:Addr)(lo:Int)(n:Nat):Turn P w K tg (RV lo n) [it] it (fun i h=>IsRangeIter h it (lo+(i:Nat)*1) ((n:Int)-(i:Nat)) 1) where
 mem:=by simp
 obj:=fun i h st b hb=>by
  have e:b=it:=by simpa using hb
  subst e
  exact⟨_,st,fun v z=>by
   have z':Data.fields _=Data.cell v:=z
   cases z'⟩
 keep:=fun i h h' st k=>k it (by simp) _ st
 item:=by
  intro X hP hw hK hc i pins s σ H E I hf st hg
  subst hP hw hK
  obtain⟨f0,f1,f2,f3,f4,f5⟩:=hf it (by simp)
  have W:=Walks.range (prog:=X.prog) (w:=X.w) (I.ok.hd hc) it lo 1 n
  refine W.item i s _ _ hg st fun v h' tk hv aA kk=>?_
  obtain⟨t,rfl⟩:=hv
  have I1:Inv X pins σ H { s with heap:=h',toks:=tk }:=I.turned (fun b o hb e=>kk b o (by simpa using hb) e) f0 f1 f3 f4 f5
  refine⟨_,rfl,G6 (s:={ s with heap:=h',toks:=tk }) (n :="range_iterator") aA rfl rfl (by decide) ⟨.int (lo+i),H,I1,⟨t,?_⟩,⟨rfl,rfl⟩,aA,fun b hb=>(hf b hb).1⟩⟩
  rw[Int.mul_one]
 done:=by
  intro X hP hw hK hc i pins s σ H E I hf st hg
  subst hP hw hK
  obtain⟨f0,f1,f2,f3,f4,f5⟩:=hf it (by simp)
  exact wpAny_pyNext_range_end (I.ok.hd hc) st (by have:n<=i:=hg;omega) fun h' eb=>⟨rfl,I.turned (t':=s.toks) (fun b o hb e=>eb b o hb e) f0 f1 f3 f4 f5⟩
 self:=fun _ _ _ _ _ st h=>wpAny_pyIter_rangeiter st h
end L2
namespace L2
open PySem PySem.Spec PyProof.Rows
section
variable {X:Cx}{tg:Expr}
theorem JD {pins:List (Addr×Obj)}{σ:St}{H:Hp}{s:Shared}{R:It->Hp->Prop}{E:Value->Shared->Prop}{lo hi:Int}{t u v:Tok}{tk:Nat}(I:Inv X pins σ H s) (h1 : -(2 ^ 62)<=lo)(h2:lo<2 ^ 62) (h3 : -(2 ^ 62)<=hi)(h4:hi<2 ^ 62)
  (q:R (RV lo (hi-lo).toNat) H):wpAny (model X.prog X.w) X.A (pyIter (.ref s.heap.objs.size)) (VR X pins σ tg R) E { s with heap:=s.heap.push { cls:=.type "range", data:=.fields #[.int lo t,.int hi u,.int 1 v] },toks:=tk }:=by
 refine wpAny_pyIter_range (IsRange.new ..) (small_one h1 h2 h3 h4) ?_
 have I1:Inv X pins σ H { s with heap:=s.heap.push { cls:=.type "range", data:=.fields #[.int lo t,.int hi u,.int 1 v] },toks:=tk }:=I.kept fun b o e=>Heap.get?_push_of_some _ e
 refine⟨(s.heap.push { cls:=.type "range", data:=.fields #[.int lo t,.int hi u,.int 1 v] }).objs.size,[(s.heap.push { cls:=.type "range", data:=.fields #[.int lo t,.int hi u,.int 1 v] }).objs.size],_,_,H,rfl,
  I1.kept (t':=tk) fun b o e=>Heap.get?_push_of_some _ e,NH _ lo (hi-lo).toNat,?_,fun b hb=>?_,q⟩
 ·have e1:lo+((0:Nat):Int)*1=lo:=by simp
  have e2:(((hi-lo).toNat:Nat):Int)-((0:Nat):Int)=Builtin.Range.rangeSize lo hi 1:=by rw[rangeSize_one];split<;>omega
  show IsRangeIter _ _ (lo+((0:Nat):Int)*1) ((((hi-lo).toNat:Nat):Int)-((0:Nat):Int)) 1
  rw[e1,e2]
  exact Heap.get?_push_size _ rfl
 ·have e:b=(s.heap.push { cls:=.type "range", data:=.fields #[.int lo t,.int hi u,.int 1 v] }).objs.size:=by simpa using hb
  subst e
  exact I1.DT (Nat.le_refl _) (I1.cB.fresh (Nat.le_refl _))
noncomputable def Lc (ta:TA):TI:=fun σ H R=>ta σ H fun vs H1=>∃ j:Int,vs=[.int j]/\-(2 ^ 62)<=j/\j<2 ^ 62/\R (RV 0 j.toNat) H1
noncomputable def Ki (ta:TA):TI:=fun σ H R=>ta σ H fun vs H1=>∃ i j:Int,vs=[.int i,.int j]/\(-(2 ^ 62)<=i/\i<2 ^ 62/\-(2 ^ 62)<=j/\j<2 ^ 62)/\R (RV i (j-i).toNat) H1
theorem QR {a:Expr}{ta:TA}{p pos:Pos}(hg:Gl X "range")(hm:X.mg "range" = none)(ha:PA X [a] ta)(hs:starEach [a] X.env=[(false,eval a X.env)]:=by rfl):PI X tg (.Call (.Name "range" p) [a] [] pos) (Lc ta):=by
 intro pins s σ H R I h
 refine Call_ (kO I hg hm boot_range (PyProof.Rows.callWith_type1 (bA (ha pos pins s σ H _ I h) fun us s1 ⟨vs,H1,I1,r1,q1⟩=>?_) hs rfl))
 obtain⟨j,e,q1,q2,q⟩:=q1
 subst e
 cases r1 with
 |cons r rr =>
 cases rr
 obtain⟨t,rfl⟩:=r
 exact call_range_1 (JD I1 (by omega) (by omega) q1 q2 (by simpa using q))
theorem R8 {a b:Expr}{ta:TA}{p pos:Pos}(hg:Gl X "range")(hm:X.mg "range" = none)(ha:PA X [a,b] ta)(hs:starEach [a,b] X.env=[(false,eval a X.env),(false,eval b X.env)]:=by rfl)(hs2:starEach [b] X.env=[(false,eval b X.env)]:=by rfl):
 PI X tg (.Call (.Name "range" p) [a,b] [] pos) (Ki ta):=by
 intro pins s σ H R I h
 refine Call_ (kO I hg hm boot_range (PyProof.Rows.callWith_type1 (bA (ha pos pins s σ H _ I h) fun us s1 ⟨vs,H1,I1,r1,q1⟩=>?_) (by rw[hs,hs2]) (by rw[hs2];rfl)))
 obtain⟨i,j,e,⟨q1,q2,q3,q4⟩,q⟩:=q1
 subst e
 cases r1 with
 |cons r rr =>
 cases rr with
 |cons r' rr =>
  cases rr
  obtain⟨t,rfl⟩:=r
  obtain⟨t',rfl⟩:=r'
  exact call_range_2 (JD I1 q1 q2 q3 q4 q)
noncomputable def Nv (wi:TI)(g:TG)(tb:TS):TS:=fun D σ H=>wi σ H fun J H1=>∃ W:Nat->Nat->St->Hp->Prop,(∃ m,W 0 m σ H1)/\∀ i m σ H,W i m σ H ->
 (J.stop i H/\D.nx σ H)∨(J.go i H/\∃ N:St->Hp->Prop,(∀ σ' H',N σ' H'->∃ m',m'<m/\W (i+1) m' σ' H')/\∀ x H',J.yld i H x H'->g x σ H' fun σ2 H2=>tb { D with nx:=N,ct:=N,bk:=D.nx } σ2 H2)
noncomputable def xX (fp:List Addr)(h:Heap):List (Addr×Obj):=fp.filterMap fun b=>(h.get? b).map fun o=>(b,o)
theorem vV {fp:List Addr}{h:Heap}{b:Addr}{o:Obj}(hb:b∈fp)(e:h.get? b=some o):(b,o)∈xX fp h:=List.mem_filterMap.mpr ⟨b,hb,by rw[e];rfl⟩
theorem R0 {fp:List Addr}{h:Heap}{p:Addr×Obj}(hp:p∈xX fp h):p.1∈fp/\h.get? p.1=some p.2:=by
 obtain⟨b,hb,e⟩:=List.mem_filterMap.mp hp
 cases q:h.get? b with
 |none=>rw[q]at e;cases e
 |some o =>
 rw[q]at e
 have e':(b,o)=p:=Option.some.inj e
 subst e'
 exact⟨hb,q⟩
theorem Inv.pinned {pins:List (Addr×Obj)}{σ:St}{H:Hp}{s:Shared}{fp:List Addr}(I:Inv X pins σ H s)(hf:∀ b∈fp,lD X pins H b)(ho:∀ b∈fp,∃ o,s.heap.get? b=some o/\∀ v,o.data≠.cell v):Inv X (pins++xX fp s.heap) σ H s :=
 I.MD fun p hp=>(List.mem_append.mp hp).elim (fun z=>I.pin p (List.mem_append_right _ z)) fun z=>by
 obtain⟨hb,e⟩:=R0 z
 obtain⟨f0,f1,f2,_⟩:=hf p.1 hb
 obtain⟨o,e',d⟩:=ho p.1 hb
 rw[e]at e';cases e'
 exact⟨e,f0,f1,f2,d⟩
theorem Inv.wK {pins pl:List (Addr×Obj)}{σ:St}{H:Hp}{s:Shared}(I:Inv X (pins++pl) σ H s):Inv X pins σ H s:=I.MD fun p hp=>I.pin p (List.mem_append_right _ (List.mem_append_left _ hp))
theorem Ce {iter:Expr}{body:List Stmt}{wi:TI}{g:TG}{tb:TS}{pos:Pos}(hp:PassesOwn (model X.prog X.w) X.A X.env X.xe)(hc:X.calm=true)(hi:PI X tg iter wi)(hg:PG X tg g)(hb:kQ X body tb)
  (hs:∀ x,foldedSetIterable iter X.env x=pure x:=by intro _;rfl):PS X (.For tg iter body [] pos) (Nv wi g tb):=by
 intro pins s σ H D I h
 refine wpAny_For (bA (hi pins s σ H _ I h) fun v s1 h1=>bA h1 fun itv s2 h2=>?_) hs
 obtain⟨it,fp,tn,J,H2,e,I2,T,aG,f2,W,⟨m0,w0⟩,turn⟩:=h2
 subst e
 have stat:∀{H':Hp},(∀ b∈fp,H' b=none)->∀ b∈fp,lD X pins H' b:=fun hn b hb=>⟨hn b hb,(f2 b hb).2⟩
 refine codeAny_forLoop_any (fun n s'=>∃ i σ' H',Inv X pins σ' H' s'/\tn i s'.heap/\(∀ b∈fp,H' b=none)/\W i n σ' H') ?_ m0 ⟨0,σ,H2,I2,aG,fun b hb=>(f2 b hb).1,w0⟩
 rintro n s3 ⟨i,σ3,H3,I3,aU,fr3,w3⟩
 rcases turn i n σ3 H3 w3 with⟨stop,qn⟩|⟨go,N,hN,step⟩
 ·refine wpAny_passesOwn hp (bA (T.done X rfl rfl rfl hc i pins s3 σ3 H3 X.xe I3 (stat fr3) aU stop) fun r s4 ⟨hr,I4⟩=>?_)
  subst hr
  exact wpAny_execs_nil ⟨σ3,H3,I4,qn⟩
 ·refine wpAny_passesOwn hp (bA (T.item X rfl rfl rfl hc i pins s3 σ3 H3 X.xe I3 (stat fr3) aU go) fun r s4 ⟨u,hr,h4⟩=>?_)
  subst hr
  refine wpAny_passesOwn hp (bA h4 fun _ s5 ⟨x,H5,I5,r5,y5,dC,fr5⟩=>?_)
  have I5':=I5.pinned (stat fr5) (T.obj _ _ dC)
  refine wpAny_passesOwn hp (bA (hg _ s5 σ3 H5 x u _ I5' r5 (step x H5 y5)) fun _ s6 ⟨σ6,H6,I6,q6⟩=>?_)
  refine wpAny_passesOwn hp (bA (hb _ s6 σ6 H6 _ I6 q6) fun f s7 q7=>?_)
  have again:∀{σ7:St}{H7:Hp},Inv X (pins++xX fp s5.heap) σ7 H7 s7->N σ7 H7->∃ m,m<n/\∃ i σ' H',Inv X pins σ' H' s7/\tn i s7.heap/\(∀ b∈fp,H' b=none)/\W i m σ' H':=fun{σ7 H7} I7 n7=>by
   obtain⟨m',hm,w7⟩:=hN σ7 H7 n7
   refine⟨m',hm,i+1,σ7,H7,I7.wK,T.keep _ _ _ dC fun b hb o e=>(I7.pin (b,o) (List.mem_append_right _ (List.mem_append_right _ (vV hb e)))).1,fun b hb=>?_,w7⟩
   obtain⟨o,e,d⟩:=T.obj _ _ dC b hb
   exact(I7.pin (b,o) (List.mem_append_right _ (List.mem_append_right _ (vV hb e)))).2.1
  cases f with
  |next=>obtain⟨σ7,H7,I7,n7⟩:=q7;exact again I7 n7
  |cont=>obtain⟨σ7,H7,I7,n7⟩:=q7;exact again I7 n7
  |brk=>obtain⟨σ7,H7,I7,q7⟩:=q7;exact⟨σ7,H7,I7.wK,q7⟩
  |ret v=>obtain⟨x7,σ7,H7,I7,r7,q7⟩:=q7;exact⟨x7,σ7,H7,I7.wK,r7,q7⟩
end
end L2
namespace L2
open PySem PySem.Spec PyProof.Rows
noncomputable abbrev R2:=V->V->Hp->VK->Prop
noncomputable def hJ (X:Cx)(f:Value->Value->Sem Value)(r:R2):Prop :=
 ∀(pins:List (Addr×Obj))(s:Shared)(σ:St)(H:Hp)(x y:V)(v u:Value)(Q:VK),Inv X pins σ H s->RelV x v->RelV y u->r x y H Q ->
 wpAny (model X.prog X.w) X.A (f v u) (EP X pins σ Q) X.xe s
noncomputable def vY (X:Cx)(f:Value)(r:List V->Hp->VK->Prop):Prop :=
 ∀(pins:List (Addr×Obj))(s:Shared)(σ:St)(H:Hp)(xs:List V)(us:List Value)(Q:VK),Inv X pins σ H s->aQ xs us->r xs H Q ->
 wpAny (model X.prog X.w) X.A (call f us) (EP X pins σ Q) X.xe s
noncomputable def Oq (X:Cx)(r:V->Hp->(Bool->Hp->Prop)->Prop):Prop :=
 ∀(pins:List (Addr×Obj))(s:Shared)(σ:St)(H:Hp)(x:V)(v:Value)(Q:Bool->Hp->Prop),Inv X pins σ H s->RelV x v->r x H Q ->
 wpAny (model X.prog X.w) X.A (truthy v) (TP X pins σ Q) X.xe s
noncomputable def Fk (r:R2)(ta tb:TE):TE:=fun σ H Q=>ta σ H fun x H1=>tb σ H1 fun y H2=>r x y H2 Q
noncomputable def rI (C:Int->Int->Prop)(g:Int->Int->V):R2:=fun x y H Q=>∃ i j,x=.int i/\y=.int j/\C i j/\Q (g i j) H
noncomputable def HU (g:Int->Int->V):R2:=fun x y H Q=>∃ i j,x=.int i/\y=.int j/\Q (g i j) H
section
variable {X:Cx}{a b c:Expr}{ta tb tc:TE}{pos:Pos}
theorem Dp (ha:PE X a ta)(hb:PE X b tb){pins:List (Addr×Obj)}{s:Shared}{σ:St}{H:Hp}{R:V->V->Hp->Prop}(I:Inv X pins σ H s)
 (h:ta σ H fun x H1=>tb σ H1 fun y H2=>R x y H2){Q:Value->Shared->Prop}{f:Value->Value->Sem Value}
 (hf:∀ v u s2 x y H2,Inv X pins σ H2 s2->RelV x v->RelV y u->R x y H2->wpAny (model X.prog X.w) X.A (f v u) Q X.xe s2):
 wpAny (model X.prog X.w) X.A (eval a X.env) (fun v s₁=>wpAny (model X.prog X.w) X.A (eval b X.env) (fun u s₂=>wpAny (model X.prog X.w) X.A (f v u) Q X.xe s₂) X.xe s₁) X.xe s:=by
 refine bA (ha pins s σ H _ I h) fun v s1 ⟨x,H1,I1,r1,q1⟩=>?_
 refine bA (hb pins s1 σ H1 _ I1 q1) fun u s2 ⟨y,H2,I2,r2,q2⟩=>?_
 exact hf v u s2 x y H2 I2 r1 r2 q2
theorem Jj {op:Operator}{r:R2}(ho:hJ X (binaryOp op) r)(ha:PE X a ta)(hb:PE X b tb):PE X (.BinOp a op b pos) (Fk r ta tb):=by
 intro pins s σ H Q I h
 exact wpAny_BinOp (Dp ha hb I h fun v u s2 x y H2 I2 rx ry q=>ho pins s2 σ H2 x y v u Q I2 rx ry q)
theorem VQ {f:Value->Value->Sem Value}{C:Int->Int->Prop}{g:Int->Int->Int}
 (rule:∀(i j:Int)(t u:Tok)(s:Shared)(Q:Value->Shared->Prop)(E:Value->Shared->Prop),C i j->Q (.int (g i j) s.toks) { s with toks:=s.toks+1 }->wpAny (model X.prog X.w) X.A (f (.int i t) (.int j u)) Q E s):
 hJ X f (rI C fun i j=>.int (g i j)):=by
 intro pins s σ H x y v u Q I rx ry h
 obtain⟨i,j,rfl,rfl,hc,q⟩:=h
 obtain⟨t,rfl⟩:=rx
 obtain⟨t',rfl⟩:=ry
 exact rule i j t t' s _ _ hc ⟨.int (g i j),H,I.tok _,⟨_,rfl⟩,q⟩
theorem Ae {f:Value->Value->Sem Value}{g:Int->Int->Int}
 (rule:∀(i j:Int)(t u:Tok)(s:Shared)(Q:Value->Shared->Prop)(E:Value->Shared->Prop),Q (.int (g i j) s.toks) { s with toks:=s.toks+1 }->wpAny (model X.prog X.w) X.A (f (.int i t) (.int j u)) Q E s):
 hJ X f (HU fun i j=>.int (g i j)):=by
 intro pins s σ H x y v u Q I rx ry h
 obtain⟨i,j,rfl,rfl,q⟩:=h
 obtain⟨t,rfl⟩:=rx
 obtain⟨t',rfl⟩:=ry
 exact rule i j t t' s _ _ ⟨.int (g i j),H,I.tok _,⟨_,rfl⟩,q⟩
noncomputable def Co (i j:Int):Prop:=0<j/\j<1073741824
noncomputable def Ck (i j:Int):Prop:=0<=j/\j<=1000000/\i.natAbs<2 ^ 64
noncomputable def OU (i j:Int):Prop:=(-(2 ^ 64)<i/\i<2 ^ 64)∨(-(2 ^ 64)<j/\j<2 ^ 64)
theorem OU.ok {i j:Int}(h:OU i j):IntMulOk i j:=by
 rcases h with⟨h1,h2⟩|⟨h1,h2⟩
 ·exact .of_left (intBits_le_64 h1 h2)
 ·exact .of_right (intBits_le_64 h1 h2)
theorem Fx:hJ X (binaryOp .Add) (HU fun i j=>.int (i+j)):=Ae fun _ _ _ _ _ _ _ q=>add_int q
theorem Ac:hJ X (binaryOp .Sub) (HU fun i j=>.int (i-j)):=Ae fun _ _ _ _ _ _ _ q=>sub_int q
theorem Z3:hJ X (binaryOp .Mult) (rI OU fun i j=>.int (i*j)):=VQ fun _ _ _ _ _ _ _ hc q=>mul_int q hc.ok
theorem ZI:hJ X (binaryOp .FloorDiv) (rI Co fun i j=>.int (i / j)):=VQ fun i j _ _ _ _ _ hc q=>by
 have h1:(0:Int)<j:=hc.1
 have h2:j<1073741824:=hc.2
 exact floordiv_int (by omega) (by rw[Int.fdiv_eq_ediv_of_nonneg i (by omega)];exact q) (.inl (PyProof.noPylong_small (by omega)))
theorem Dv:hJ X (binaryOp .Mod) (rI (fun _ j=>0<j) fun i j=>.int (i % j)):=VQ fun i j _ _ _ _ _ hc q=>by
 have h1:(0:Int)<j:=hc
 exact mod_int' (by omega) (by rw[Int.fmod_eq_emod_of_nonneg i (by omega)];exact q)
theorem Bx:hJ X (binaryOp .Pow) (rI Ck fun i j=>.int (i ^ j.toNat)):=VQ fun _ _ _ _ _ _ _ hc q=>pow_int_small hc.1 hc.2.1 hc.2.2 q
end
section
variable {X:Cx}{a b c:Expr}{ta tb tc:TE}{pos:Pos}
theorem Ak {pins:List (Addr×Obj)}{σ:St}{H:Hp}{s:Shared}{Q:VK}{k k':Bool}(I:Inv X pins σ H s)(q:Q (.bl k) H)(e:k=k'):EP X pins σ Q (.bool k') s:=by
 subst e
 exact⟨.bl k,H,I,rfl,q⟩
theorem PX:hJ X (compareOp .In) (fun x y H Q=>∃ i j,x=.str i/\y=.str j/\Q (.bl (!(Builtin.Str.occurrences j i 0 j.length 1).isEmpty)) H):=by
 intro pins s σ H x y v u Q I rx ry h
 obtain⟨i,j,rfl,rfl,q⟩:=h
 obtain⟨t,rfl⟩:=rx
 obtain⟨t',rfl⟩:=ry
 exact in_str (Ak I q rfl)
theorem hJ.or {f:Value->Value->Sem Value}{r r':R2}(h:hJ X f r)(h':hJ X f r'):hJ X f (fun x y H Q=>r x y H Q∨r' x y H Q):=by
 intro pins s σ H x y v u Q I rx ry q
 rcases q with q|q
 ·exact h pins s σ H x y v u Q I rx ry q
 ·exact h' pins s σ H x y v u Q I rx ry q
noncomputable def UR (K:PySem.W.Frag)(x:V)(H:Hp)(k:Bool):Prop :=
 match x with
 |.non=>k=false
 |.bl b=>k=b
 |.int i=>k=(i != 0)
 |.str y=>y.length<=sizeLine/\k=((y.length:Int) != 0)
 |.byt y=>y.size<=sizeLine/\k=((y.size:Int) != 0)
 |.ref p=>(∃ xs,cG K H p xs/\k = !xs.isEmpty)∨(∃ xs,dZ K H p xs/\k = !xs.isEmpty)∨∃ hU,H p=some (.dK hU)/\k = !hU.isEmpty
 |_=>False
theorem NM {κ:Type}{hU:List (κ×V)}{vs:List (κ×Value)}(r:KV hU vs):(!vs.isEmpty) = !hU.isEmpty:=by
 cases r<;>rfl
theorem CK {xs:List V}{aD:List Value}(r:aQ xs aD):(!aD.toArray.isEmpty) = !xs.isEmpty:=by
 cases r<;>simp
theorem qX:(sizeLine:Nat)<2 ^ 63:=by rw[sizeLine_eq];decide
theorem C4:Oq X (fun x H Q=>∃ k,UR X.K x H k/\Q k H):=by
 intro pins s σ H x v Q I rx h
 obtain⟨k,e,q⟩:=h
 have hl:=qX
 have hs:sizeLine=16777216:=sizeLine_eq
 cases x with
 |non =>
 cases rx
 have e':k=false:=e
 subst e'
 exact truthy_none ⟨H,I,q⟩
 |bl b =>
 cases rx
 have e':k=b:=e
 subst e'
 exact wpAny_truthy_bool ⟨H,I,q⟩
 |int i =>
 obtain⟨t,rfl⟩:=rx
 have e':k=(i != 0):=e
 subst e'
 exact PySem.P.truthy_int ⟨H,I,q⟩
 |str y =>
 obtain⟨t,rfl⟩:=rx
 obtain⟨hy,e'⟩:y.length<=sizeLine/\k=((y.length:Int) != 0):=e
 subst e'
 exact PySem.P.truthy_str (by omega) ⟨H,I.tok _,q⟩
 |byt y =>
 obtain⟨t,rfl⟩:=rx
 obtain⟨hy,e'⟩:y.size<=sizeLine/\k=((y.size:Int) != 0):=e
 subst e'
 exact PySem.W.truthy_bytes (by omega) ⟨H,I.tok _,q⟩
 |ref p =>
 cases rx
 have e':(∃ xs,cG X.K H p xs/\k = !xs.isEmpty)∨(∃ xs,dZ X.K H p xs/\k = !xs.isEmpty)∨∃ hU,H p=some (.dK hU)/\k = !hU.isEmpty:=e
 rcases e' with⟨xs,hx,e'⟩|⟨xs,hx,e'⟩|⟨hU,hx,e'⟩
 ·subst e'
  obtain⟨aD,r,pl,hz⟩:=I.list hx
  have hlen:=r.length
  exact wpAny_truthy_list pl.isList (by simp only[List.size_toArray];omega) ⟨H,I.tok _,by rw[CK r];exact q⟩
 ·subst e'
  obtain⟨aD,r,pl,hz⟩:=I.tuple hx
  have hlen:=r.length
  exact truthy_tuple pl (by simp only[List.size_toArray];omega) ⟨H,I.tok _,by rw[CK r];exact q⟩
 ·subst e'
  obtain⟨hz,hS,vs,r,m⟩:hU.length<=sizeLine/\(p==sysModules)=false/\∃ vs,KV hU vs/\s.heap.DictOf (DY X.prog X.w) p vs:=I.cB p _ hx
  have hlen:hU.length=vs.length:=Paired.length r
  exact wpAny_truthy_dict hS m (by omega) ⟨H,I.tok _,by rw[NM r];exact q⟩
 |_=>exact(show False from e).elim
theorem S4 (ha:PE X a ta)(he:∀ whole,isTrue a X.env whole=(do let v <-whole;standAt a.pos;holding [v] (truthy v))):
 PT X a (fun σ H Q=>ta σ H fun x H'=>∃ k,UR X.K x H' k/\Q k H'):=by
 intro pins s σ H Q I h
 exact isTrue_plain (bA (ha pins s σ H _ I h) fun v s1 ⟨x,H1,I1,r1,q1⟩=>C4 pins s1 σ H1 x v Q I1 r1 q1) (he _)
theorem M9:hJ X (binaryOp .Add) (fun x y H Q=>∃ i j,x=.str i/\y=.str j/\i.length+j.length<=sizeLine/\Q (.str (i++j)) H):=by
 intro pins s σ H x y v u Q I rx ry h
 obtain⟨i,j,rfl,rfl,hz,q⟩:=h
 obtain⟨t,rfl⟩:=rx
 obtain⟨t',rfl⟩:=ry
 exact add_str (fun t' tk=>⟨.str (i++j),H,I.tok _,⟨_,rfl⟩,q⟩) hz
theorem vals1 {x:V}{us:List Value}(r:aQ [x] us):∃ u,us=[u]/\RelV x u:=by
 cases r with
 |cons r1 r2=>cases r2;exact⟨_,rfl,r1⟩
noncomputable def An (K:PySem.W.Frag)(x:V)(H:Hp)(n:Nat):Prop :=
 match x with
 |.str y=>y.length<=sizeLine/\n=y.length
 |.byt y=>y.size<=sizeLine/\n=y.size
 |.ref p=>(∃ xs,cG K H p xs/\n=xs.length)∨∃ xs,dZ K H p xs/\n=xs.length
 |_=>False
theorem TU:vY X (.builtin "len") (fun xs H Q=>∃ x n,xs=[x]/\An X.K x H n/\Q (.int n) H):=by
 intro pins s σ H xs us Q I r h
 obtain⟨x,n,rfl,e,q⟩:=h
 obtain⟨u,rfl,rx⟩:=vals1 r
 have hl:=qX
 have hs:sizeLine=16777216:=sizeLine_eq
 cases x with
 |str y =>
 obtain⟨t,rfl⟩:=rx
 obtain⟨hy,e'⟩:y.length<=sizeLine/\n=y.length:=e
 subst e'
 exact len_str (by omega) ⟨.int _,H,I.tok _,⟨_,rfl⟩,q⟩
 |byt y =>
 obtain⟨t,rfl⟩:=rx
 obtain⟨hy,e'⟩:y.size<=sizeLine/\n=y.size:=e
 subst e'
 exact PySem.W.len_bytes (by omega) ⟨.int _,H,I.tok _,⟨_,rfl⟩,q⟩
 |ref p =>
 cases rx
 have e':(∃ xs,cG X.K H p xs/\n=xs.length)∨∃ xs,dZ X.K H p xs/\n=xs.length:=e
 rcases e' with⟨xs,hx,e'⟩|⟨xs,hx,e'⟩
 ·subst e'
  obtain⟨aD,r',pl,hz⟩:=I.list hx
  have hlen:=r'.length
  exact Calls.call_len_list pl.isList (by simp only[List.size_toArray];omega) ⟨.int xs.length,H,I.tok _,⟨_,by simp only[List.size_toArray];rw[hlen]⟩,q⟩
 ·subst e'
  obtain⟨aD,r',pl,hz⟩:=I.tuple hx
  have hlen:=r'.length
  exact len_tuple pl (by simp only[List.size_toArray];omega) ⟨.int xs.length,H,I.tok _,⟨_,by simp only[List.size_toArray];rw[hlen]⟩,q⟩
 |_=>exact(show False from e).elim
end
end L2
namespace L2
open PySem PySem.Spec PyProof.Rows
structure BQ (h:Heap)(x dx C:Addr)(mA:Str->Option Value):Prop where
 obj:h.get? x=some (PySem.W.instObj C dx)
 ns:h.Ns1 dx mA
 ne:dx≠x
theorem QS {h:Heap}{dx:Addr}{mA:Str->Option Value}(n:h.Ns1 dx mA):∃ od,h.get? dx=some od/\∀ name,PySem.W.lookIn name od=some (mA name):=by
 obtain⟨o,es,ep,ho,hd,hk,_,hm⟩:=n
 refine⟨o,ho,fun name=>?_⟩
 have e:=hm name
 unfold nsFind findBy at e
 rw[<-Array.find?_toList]at e
 unfold PySem.W.lookIn
 rw[hd]
 dsimp only
 split
 ·rename_i y q
  rw[q]at e
  exact congrArg some e
 ·rename_i q
  rw[q]at e
  have a:es.toList.any (·.refKey)=false:=by
   rw[List.any_eq_false]
   intro y hy
   obtain⟨z,t,hkey⟩:=hk y (Array.mem_toList_iff.mp hy)
   simp [DictEntry.refKey,hkey]
  have a':¬es.toList.any (·.refKey)=true:=by rw[a];exact Bool.false_ne_true
  rw[if_neg a']
  exact congrArg some e
theorem BQ.look {h:Heap}{x dx C:Addr}{mA:Str->Option Value}(I:BQ h x dx C mA):∃ od,PySem.W.InstAt h x (PySem.W.instObj C dx) C (some od)/\∀ name,PySem.W.lookIn name od=some (mA name) :=
 let⟨od,ho,hl⟩:=QS I.ns
 ⟨od,⟨I.obj,rfl,rfl,ho⟩,hl⟩
section
variable {prog:Program}{w:World}{A:Around}{E:Value->Shared->Prop}{s:Shared}{K:PySem.W.Frag}{x dx C f:Addr}{mA:Str->Option Value}{name:Str}{v:Value}
theorem get_map {expr:Bool}{Q:Value->Shared->Prop}(X:K.In s.heap)(I:BQ s.heap x dx C mA)(hg:PySem.W.plainGet K C name=true)(hh:PySem.W.hasDictIn K C=true)
 (ha:PySem.W.findIn K (.ref C) name=some none)(hv:mA name=some v)(hv':PySem.W.handedIn v=true)(h:Q v { s with toks:=s.toks+1 }):
 wpAny (model prog w) A (getAttr (.ref x) name expr) Q E s:=by
 obtain⟨od,J,hl⟩:=I.look
 exact PySem.W.get_value X J (PySem.W.plainGet_of hg).1 (PySem.W.findObj_own hh ha rfl (by rw[hl,hv])) hv' h
theorem TM {pl:Sem Bool}{Q:Value×List Value->Shared->Prop}(X:K.In s.heap)(I:BQ s.heap x dx C mA)(hg:PySem.W.plainGet K C name=true)
 (hf:PySem.W.findIn K (.ref C) name=some (some (.ref f)))(ht:PySem.W.isFn K (.ref f)=true)(hv:mA name=none)(h:Q (.ref f,[.ref x]) s):
 wpAny (model prog w) A (getMethod (.ref x) name pl) Q E s:=by
 obtain⟨od,J,hl⟩:=I.look
 exact PySem.W.method_fn X J (PySem.W.plainGet_of hg).1 (PySem.W.plainGet_of hg).2 hf (beq_iff_eq.mp ht) (by show(PySem.W.lookIn name od).map (·.isSome)=some false;rw[hl,hv];rfl) h
theorem YB {ns:List Str}{Q:Unit->Shared->Prop}(X:K.In s.heap)(I:BQ s.heap x dx C mA)
 (hs:PySem.W.findIn K (.ref C) "__setattr__" = some (some (.builtin "object.__setattr__")))(hp:PySem.W.plainOver K C=true)(ht:PySem.W.takerIn K C name=some none)(hh:PySem.W.hasDictIn K C=true)
 (hw:PySem.Within mA ns)(iU:ns.length<=sizeLine)
 (h:∀ h',BQ h' x dx C (fun y=>if y=name then some v else mA y)->Heap.SameBut dx s.heap h'->Q () { s with heap:=h',toks:=s.toks+2 }):
 wpAny (model prog w) A (setAttr (.ref x) name v) Q E s:=by
 obtain⟨od,J,hl⟩:=I.look
 refine PySem.W.set_plain X J hs (PySem.W.osa_open (s:={ s with toks:=s.toks+1 }) (r:=none) X J hp ht fun b=>?_)
 obtain⟨cd,hc,hd'⟩:=PySem.W.any_some hh
 have hx:s.heap.get? x=some ⟨.ref C,some dx,.plain,#[]⟩:=I.obj
 refine wpAny_bind (wpAny_pure (wpAny_bind (wpAny_bind (wpAny_loadPart hx (wpAny_bind (PySem.W.Looks.here (s:={ s with toks:=s.toks+1 }) (PySem.W.looks_clsIn X hc) ?_))))))
 rw[hd']
 refine wpAny_pure (a:=some dx) (wpAny_bind (wpAny_pure (wpAny_bind ?_)))
 refine wpAny_nsSet1 (s:={ s with toks:=s.toks+1 }) I.ns fun h' hn2 hs2=>?_
 obtain⟨oD,esD,epD,hoD,hdD,hcD⟩:=hn2.count (PySem.Within.cons name v hw)
 refine wpAny_bind (wpAny_lookBehind hoD (by rw[hdD];exact pastItsLine_dict (Nat.le_trans hcD (by rw[List.length_cons];omega))) ?_)
 exact wpAny_pure (h _ ⟨(hs2.2 _ (Ne.symm I.ne)).trans I.obj,hn2,I.ne⟩ hs2)
theorem U8 {R:Result->Shared->Prop}{vs:List Value}{kw:List (Str×Value)}(X:K.In s.heap)(hm:PySem.W.makesIn K C=true)
 (hi:PySem.W.findIn K (.ref C) "__init__" = some (some (.ref f)))(hf:PySem.W.typeIn K (.ref f)=some (.type "function"))
 (h:codeAny (model prog w) (A.under (.builtin "type.__call__" ⟨.ref C::vs,kw⟩)) (.call (.ref f) ⟨.ref (s.heap.objs.size+1)::vs,kw⟩) (PySem.W.InitBack (s.heap.objs.size+1) R)
  { s with heap:=(s.heap.push PySem.W.emptyDict).push (PySem.W.instObj C s.heap.objs.size) }):
 codeAny (model prog w) A (.call (.ref C) ⟨vs,kw⟩) R s:=by
 obtain⟨hh,g,d,t,os⟩:=s
 exact PySem.W.make_core (PySem.W.makes_of X hm) (PySem.W.looks_findIn X hi) (fun self=>PySem.W.bind_fn X self hf) (.inl rfl) h
end
noncomputable def iM (f:Str)(v:V):List (Str×V)->List (Str×V)
 |[]=>[(f,v)]
 |(g,x)::r=>if g=f then(g,v)::r else(g,x)::iM f v r
theorem BD (f g:Str)(v:V):∀ fs:List (Str×V),(iM f v fs).lookup g=if g=f then some v else fs.lookup g
 |[]=>by
  show List.lookup g [(f,v)]=_
  by_cases h:g=f
  ·have hb:(g==f)=true:=beq_iff_eq.mpr h
   simp only[List.lookup,hb,if_pos h]
  ·have hb:(g==f)=false:=beq_eq_false_iff_ne.mpr h
   simp only[List.lookup,hb,if_neg h]
 |(k,x)::r=>by
  have ih:=BD f g v r
  rw[show iM f v ((k,x)::r)=(if k=f then(k,v)::r else(k,x)::iM f v r)from rfl]
  by_cases hk:k=f
  ·rw[if_pos hk]
   by_cases h:g=k
   ·have hb:(g==k)=true:=beq_iff_eq.mpr h
    simp only[List.lookup,hb,if_pos (h.trans hk)]
   ·have hb:(g==k)=false:=beq_eq_false_iff_ne.mpr h
    simp only[List.lookup,hb,if_neg (fun e:g=f=>h (e.trans hk.symm))]
  ·rw[if_neg hk]
   by_cases h:g=k
   ·have hb:(g==k)=true:=beq_iff_eq.mpr h
    simp only[List.lookup,hb,if_neg (fun e:g=f=>hk (h.symm.trans e))]
   ·have hb:(g==k)=false:=beq_eq_false_iff_ne.mpr h
    simp only[List.lookup,hb]
    exact ih
theorem xP (f:Str)(v:V):∀ fs:List (Str×V),f∈(iM f v fs).map (·.1)/\∀ g,g∈fs.map (·.1)->g∈(iM f v fs).map (·.1)
 |[]=>⟨by simp [iM],fun g h=>by simp at h⟩
 |(k,x)::r=>by
  obtain⟨i1,i2⟩:=xP f v r
  rw[show iM f v ((k,x)::r)=(if k=f then(k,v)::r else(k,x)::iM f v r)from rfl]
  by_cases hk:k=f
  ·rw[if_pos hk]
   subst hk
   exact⟨by simp,fun g h=>by simpa using h⟩
  ·rw[if_neg hk]
   refine⟨?_,fun g h=>?_⟩
   ·rw[List.map_cons]
    exact List.mem_cons_of_mem _ i1
   ·rw[List.map_cons]at h ⊢
    rcases List.mem_cons.mp h with e|e
    ·exact List.mem_cons.mpr (.inl e)
    ·exact List.mem_cons_of_mem _ (i2 g e)
theorem AU (f:Str)(v:V):∀ fs:List (Str×V),(iM f v fs).length<=fs.length+1
 |[]=>by simp [iM]
 |(k,x)::r=>by
  have ih:=AU f v r
  rw[show iM f v ((k,x)::r)=(if k=f then(k,v)::r else(k,x)::iM f v r)from rfl]
  by_cases hk:k=f
  ·rw[if_pos hk,List.length_cons,List.length_cons];omega
  ·rw[if_neg hk,List.length_cons,List.length_cons];omega
theorem tH.some_of {v:V}{o:Option Value}(r:tH (some v) o):∃ u,o=some u/\RelV v u:=by
 cases o with
 |none=>exact(show False from r).elim
 |some u=>exact⟨u,rfl,r⟩
theorem tH.none_of {o:Option Value}(r:tH none o):o=none:=by
 cases o with
 |none=>rfl
 |some u=>exact(show False from r).elim
theorem RF {v:V}{u:Value}(r:RelV v u):PySem.W.handedIn u=true:=by
 cases v with
 |non=>cases (show u=Value.none from r);rfl
 |bl b=>cases (show u=Value.bool b from r);rfl
 |int i=>obtain⟨t,e⟩:=(show ∃ t,u=Value.int i t from r);cases e;rfl
 |str x=>obtain⟨t,e⟩:=(show ∃ t,u=Value.str x t from r);cases e;rfl
 |byt b=>obtain⟨t,e⟩:=(show ∃ t,u=Value.bytes b t from r);cases e;rfl
 |flt b=>obtain⟨t,e⟩:=(show ∃ t,u=Value.float b t from r);cases e;rfl
 |ref a=>cases (show u=Value.ref a from r);rfl
 |ty n=>cases (show u=Value.type n from r);rfl
section
variable {P:Program}{w:World}{H H':Hp}{h h':Heap}{a C dx:Addr}{fs fs':List (Str×V)}
theorem D5 (cB:iN P w H h)(e:H a=some (.ins C dx fs)):∃ mA,BQ h a dx C mA/\(∀ f,tH (fs.lookup f) (mA f))/\PySem.Within mA (fs.map (·.1))/\fs.length<=1000/\H dx=some (.own a):=by
 obtain⟨d,z,ne,ob,mA,n,r,q⟩:=(show jL P w H h a (.ins C dx fs)from cB a _ e)
 exact⟨mA,⟨ob,n,ne⟩,r,q,z,d⟩
end
structure uP (K:PySem.W.Frag)(C:Addr):Prop where
 pg:PySem.W.plainGet K C Str.empty=true
 hd:PySem.W.hasDictIn K C=true
 po:PySem.W.plainOver K C=true
 sa:PySem.W.findIn K (.ref C) "__setattr__" = some (some (.builtin "object.__setattr__"))
theorem uP.get {K:PySem.W.Frag}{C:Addr}(c:uP K C)(f:Str):PySem.W.plainGet K C f=true:=c.pg
noncomputable def qA (K:PySem.W.Frag)(C:Addr)(f:Str):Prop:=PySem.W.findIn K (.ref C) f=some none
theorem qA.Kg {K:PySem.W.Frag}{C:Addr}{f:Str}(n:qA K C f):PySem.W.takerIn K C f=some none:=by
 unfold PySem.W.takerIn
 rw[show PySem.W.findIn K (.ref C) f=some none from n]
 rfl
structure EL (K:PySem.W.Frag)(C:Addr)(m:Str)(f:Addr):Prop where
 at_:PySem.W.findIn K (.ref C) m=some (some (.ref f))
 fn:PySem.W.isFn K (.ref f)=true
 kp:PySem.W.keepIn K (.ref f)=true
section
variable {X:Cx}{pins:List (Addr×Obj)}{σ:St}{H:Hp}{s:Shared}{a C dx:Addr}{fs:List (Str×V)}{f:Str}{v:V}{A:Around}{E:Value->Shared->Prop}
theorem OB {b:Bool}{Q:Value->Shared->Prop}(I:Inv X pins σ H s)(e:H a=some (.ins C dx fs))(c:uP X.K C)(n:qA X.K C f)(l:fs.lookup f=some v)
 (h:∀ u s',Inv X pins σ H s'->RelV v u->Q u s'):wpAny (model X.prog X.w) A (getAttr (.ref a) f b) Q E s:=by
 obtain⟨mA,O,r,_,_,_⟩:=D5 I.cB e
 obtain⟨u,hu,ru⟩:=tH.some_of (v:=v) (o:=mA f) (by rw[<-l];exact r f)
 exact get_map I.jY O (c.get f) c.hd n hu (RF ru) (h u _ (I.tok _) ru)
theorem B6 {m:Str}{g:Addr}{pl:Sem Bool}{Q:Value×List Value->Shared->Prop}(I:Inv X pins σ H s)(e:H a=some (.ins C dx fs))(c:uP X.K C)(k:EL X.K C m g)(l:fs.lookup m=none)
 (h:Q (.ref g,[.ref a]) s):wpAny (model X.prog X.w) A (getMethod (.ref a) m pl) Q E s:=by
 obtain⟨mA,O,r,_,_,_⟩:=D5 I.cB e
 have hn:mA m=none:=tH.none_of (by rw[<-l];exact r m)
 exact TM I.jY O (c.get m) k.at_ k.fn hn h
theorem OM {y:V}{u:Value}{Q:Unit->Shared->Prop}(I:Inv X pins σ H s)(e:H a=some (.ins C dx fs))(c:uP X.K C)(n:qA X.K C f)(hl:fs.length<1000)(ry:RelV y u)
  (h:∀ s',Inv X pins σ (upd H a (.ins C dx (iM f y fs))) s'->Q () s'):wpAny (model X.prog X.w) A (setAttr (.ref a) f u) Q E s:=by
 obtain⟨mA,O,r,wi,_,ho⟩:=D5 I.cB e
 have hz:(fs.map (·.1)).length<=sizeLine:=by rw[List.length_map,sizeLine_eq];omega
 refine YB I.jY O c.sa c.po n.Kg c.hd wi hz fun h' O' sb=>h _ ?_
 have hd:∃ o,h'.get? dx=some o:=let⟨o,_,_,e',_⟩:=O'.ns;⟨o,e'⟩
 refine I.write (x:=a) (e:=dx) (by rw[e];exact True.intro) (.inr ho) (fun b q hb z=>(sb.2 b hb).trans z) hd ?_
 refine⟨by rw[bQ O.ne];exact ho,?_,O.ne,O'.obj,_,O'.ns,fun g=>?_,fun g hg=>?_⟩
 ·have:=AU f y fs;omega
 ·show tH ((iM f y fs).lookup g) (if g=f then some u else mA g)
  rw[BD]
  by_cases q:g=f
  ·rw[if_pos q,if_pos q];exact ry
  ·rw[if_neg q,if_neg q];exact r g
 ·by_cases q:g=f
  ·rw[q];exact(xP f y fs).1
  ·refine(xP f y fs).2 g (wi g fun z=>hg ?_)
   show(if g=f then some u else mA g)=none
   rw[if_neg q];exact z
theorem Inv.made (I:Inv X pins σ H s):Inv X pins σ (upd (upd H s.heap.objs.size (.own (s.heap.objs.size+1))) (s.heap.objs.size+1) (.ins C s.heap.objs.size []))
  { s with heap:=(s.heap.push PySem.W.emptyDict).push (PySem.W.instObj C s.heap.objs.size) }:=by
 have e1:(s.heap.push PySem.W.emptyDict).get? s.heap.objs.size=some PySem.W.emptyDict:=Heap.get?_push_size s.heap rfl
 have e2:((s.heap.push PySem.W.emptyDict).push (PySem.W.instObj C s.heap.objs.size)).get? (s.heap.objs.size+1)=some (PySem.W.instObj C s.heap.objs.size):=by
  have:=Heap.get?_push_size (s.heap.push PySem.W.emptyDict) (o:=PySem.W.instObj C s.heap.objs.size) rfl
  rwa [Heap.size_push]at this
 have e3:(s.heap.push PySem.W.emptyDict).Ns s.heap.objs.size (fun _=>none):=⟨PySem.W.emptyDict,#[],_,e1,rfl,(fun e he=>absurd he (by simp)),fun _=>rfl⟩
 have I1:=I.laid (a:=s.heap.objs.size) (o:=.own (s.heap.objs.size+1)) (h':=s.heap.push PySem.W.emptyDict) (t':=s.toks) (fun b u q=>Heap.get?_push_of_some _ q) (Nat.le_refl _) ⟨_,e1⟩
 refine I1.laid (a:=s.heap.objs.size+1) (o:=.ins C s.heap.objs.size []) (t':=s.toks) (fun b u q=>Heap.get?_push_of_some _ q) (Nat.le_of_eq (Heap.size_push _ _)) ?_
 have ne:s.heap.objs.size≠s.heap.objs.size+1:=Nat.ne_of_lt (Nat.lt_succ_self _)
 refine⟨by rw[bQ ne,dH],Nat.zero_le _,ne,e2,fun _=>none,(Heap.Ns1.of_empty e3).at fun o q=>Heap.get?_push_of_some _ q,fun _=>True.intro,fun y hy=>absurd rfl hy⟩
theorem YQ {prog:Program}{w:World}{env:Env}{e:Expr}{f:Str}{pos:Pos}{s:Shared}{Q:Value->Shared->Prop}(hb:attributeBase e f env (eval e env)=eval e env)
 (h:wpAny (model prog w) A (eval e env) (fun o s₁=>wpAny (model prog w) A (getAttr o f true) Q E s₁) E s):wpAny (model prog w) A (eval (.Attribute e f pos) env) Q E s :=
 Attribute_any_ h (by rw[arm_eval_Attribute,hb])
end
noncomputable def Mh (K:PySem.W.Frag)(ta:TE)(f:Str):TE:=fun σ H Q=>ta σ H fun x H1=>∃ a C dx fs v,x=.ref a/\H1 a=some (.ins C dx fs)/\uP K C/\qA K C f/\fs.lookup f=some v/\Q v H1
noncomputable def Mg (K:PySem.W.Frag)(ta tv:TE)(f:Str):TS:=fun D σ H=>tv σ H fun y H1=>ta σ H1 fun x H2=>∃ a C dx fs,x=.ref a/\H2 a=some (.ins C dx fs)/\uP K C/\qA K C f/\fs.length<1000 /\
 D.nx σ (upd H2 a (.ins C dx (iM f y fs)))
section
variable {X:Cx}{o e value:Expr}{f:Str}{pos pos' tpos:Pos}{ta tv:TE}
theorem Ag (he:PE X e ta)(hb:attributeBase e f X.env (eval e X.env)=eval e X.env):PE X (.Attribute e f pos) (Mh X.K ta f):=by
 intro pins s σ H Q I h
 refine YQ hb (bA (he pins s σ H _ I h) fun u s1 ⟨x,H1,I1,rx,a,C,dx,fs,v,ex,ea,c,n,l,q⟩=>?_)
 subst ex
 obtain rfl:u=Value.ref a:=rx
 exact OB I1 ea c n l fun u' s2 I2 ru=>⟨v,H1,I2,ru,q⟩
theorem De (ha:PE X o ta)(hv:PE X value tv)(hs:swapsWith value (some (.Attribute o f pos')) pos.line X.env=pure false):PS X (.Assign [.Attribute o f pos'] value pos) (Mg X.K ta tv f):=by
 intro pins s σ H D I h
 refine plainObj_wpAny_Assign_Attribute (bA (hv pins s σ H _ I h) fun u s1 ⟨y,H1,I1,ry,q⟩=>bA (ha pins s1 σ H1 _ I1 q) fun ov s2 ⟨x,H2,I2,rx,a,C,dx,fs,ex,ea,c,n,l,q2⟩=>?_) hs
 subst ex
 obtain rfl:ov=Value.ref a:=rx
 exact OM I2 ea c n l ry fun s3 I3=>⟨σ,_,I3,q2⟩
theorem Gh {pl:Sem Bool}{m:Str}{apos:Pos}{args:List Expr}{pins:List (Addr×Obj)}{s:Shared}{σ:St}{H:Hp}{Q:Value->Shared->Prop}{te:TE}(he:PE X e te)(I:Inv X pins σ H s)
 (h:te σ H fun x H1=>∃ a C dx fs g,x=.ref a/\H1 a=some (.ins C dx fs)/\uP X.K C/\EL X.K C m g/\fs.lookup m=none /\
  ∀ s1,Inv X pins σ H1 s1->wpAny (model X.prog X.w) X.A (callWith pos (.ref g) [.ref a] (backTo pos (starEach args X.env)) (backToKw pos (keywordEach [] X.env))) Q X.xe s1)
 (ht:eval (.Call (.Attribute e m apos) args [] pos) X.env=(do
  let ov <-eval e X.env
  standAt apos.atName
  let(f,first) <-holding [ov] (getMethod ov m pl)
  callWith pos f first (backTo pos (starEach args X.env)) (backToKw pos (keywordEach [] X.env)))):
 wpAny (model X.prog X.w) X.A (eval (.Call (.Attribute e m apos) args [] pos) X.env) Q X.xe s:=by
 refine PySem.W.methodCall_KW (pl:=pl) (bA (he pins s σ H _ I h) fun u s1 ⟨x,H1,I1,rx,a,C,dx,fs,g,ex,ea,c,k,l,q⟩=>?_) ht
 subst ex
 obtain rfl:u=Value.ref a:=rx
 exact B6 I1 ea c k l (q s1 I1)
end
end L2
namespace L2
open PySem PySem.Spec PyProof.Rows
structure dN (k:Nat)(A:Around):Prop where
 hd:A.handled=none
 dp:A.depth+3*k+5<recursionLimit
 un:A.units+16*k+200<cLine
theorem dN.mono {j k:Nat}{A:Around}(r:dN k A)(h:j<=k):dN j A:=⟨r.hd,by have:=r.dp;omega,by have:=r.un;omega⟩
theorem dN.deeper {k:Nat}{A:Around}(r:dN (k+1) A)(env:Env):dN k (A.deeper env) :=
 ⟨r.hd,by have:=r.dp;show A.depth+1+3*k+5<_;omega,by have:=r.un;show A.units+3+16*k+200<_;omega⟩
theorem OX {A:Around}{C:Addr}{us:List Value}{kw:List (Str×Value)}:(A.under (.builtin "type.__call__" ⟨.ref C::us,kw⟩)).depth=A.depth+1:=by
 first|rfl|simp [Around.under,Code.weight,Code.isCreation,Code.isGuard,Code.isCaller,Code.frames,Code.isFrame,guardIds]
theorem NY {A:Around}{C:Addr}{us:List Value}{kw:List (Str×Value)}:(A.under (.builtin "type.__call__" ⟨.ref C::us,kw⟩)).units=A.units+1:=by
 first|rfl|simp [Around.under,Code.cUnits,Code.frames,Code.isFrame]
theorem dN.make {k:Nat}{A:Around}(r:dN (k+1) A)(C:Addr)(us:List Value)(kw:List (Str×Value)):dN k (A.under (.builtin "type.__call__" ⟨.ref C::us,kw⟩)) :=
 ⟨r.hd,by have:=r.dp;rw[OX];omega,by have:=r.un;rw[NY];omega⟩
theorem dN.depth {k:Nat}{A:Around}(r:dN k A):A.depth<recursionLimit:=by have:=r.dp;omega
noncomputable def Nq:TA:=fun _ H Q=>Q [] H
noncomputable def Kl (ta:TE)(tr:TA):TA:=fun σ H Q=>ta σ H fun x H1=>tr σ H1 fun xs H2=>Q (x::xs) H2
section
variable {X:Cx}{e:Expr}{es:List Expr}{te:TE}{t:TA}{pos:Pos}
theorem RI:PA X [] Nq:=fun _ _ _ _ H Q I h=>Calls.spliced_nil ⟨[],H,I,.nil,h⟩
theorem DS (ha:PE X e te)(hr:PA X es t)(hs:starEach (e::es) X.env=(false,eval e X.env)::starEach es X.env:=by rfl):PA X (e::es) (Kl te t):=by
 intro pos pins s σ H Q I h
 rw[hs]
 show wpAny _ _ (spliced ((false,eval e X.env)::backTo pos (starEach es X.env))) _ _ s
 refine Calls.spliced_cons (bA (ha pins s σ H _ I h) fun u s1 ⟨x,H1,I1,r1,q1⟩=>?_)
 exact bA (hr pos pins s1 σ H1 _ I1 q1) fun us s2 ⟨xs,H2,I2,r2,q2⟩=>⟨x::xs,H2,I2,.cons r1 r2,q2⟩
noncomputable def Oh (t:TA):TE:=fun σ H Q=>t σ H fun xs H1=>xs.length<=sizeLine/\∀ p,H1 p=none->Q (.ref p) (upd H1 p (.tup xs))
noncomputable def Nm (t:TA):TE:=fun σ H Q=>t σ H fun xs H1=>xs.length<=sizeLine/\∀ p,H1 p=none->Q (.ref p) (upd H1 p (.lst xs))
theorem Eb {x1}(h:PA X es t):PE X (.Tuple es x1 pos) (Oh t):=by
 intro pins s σ H Q I hq
 refine wpAny_Tuple_spliced (bA (h pos pins s σ H _ I hq) fun us s1 ⟨xs,H1,I1,r,z,q⟩=>⟨by rw[<-r.length];exact z,?_⟩)
 have hf:H1 s1.heap.objs.size=none:=I1.cB.fresh (Nat.le_refl _)
 refine⟨.ref s1.heap.objs.size,upd H1 s1.heap.objs.size (.tup xs),I1.laid (t':=s1.toks) (fun b u e=>Heap.get?_push_of_some _ e) (Nat.le_refl _) ?_,rfl,q _ hf⟩
 exact⟨z,us,r,nW.new _ _⟩
theorem ZW (h:PA X es t):PE X (.List es pos) (Nm t):=by
 intro pins s σ H Q I hq
 refine wpAny_List_spliced (bA (h pos pins s σ H _ I hq) fun us s1 ⟨xs,H1,I1,r,z,q⟩=>⟨by rw[<-r.length];exact z,?_⟩)
 have hf:H1 s1.heap.objs.size=none:=I1.cB.fresh (Nat.le_refl _)
 refine⟨.ref s1.heap.objs.size,upd H1 s1.heap.objs.size (.lst xs),I1.laid (t':=s1.toks) (fun b u e=>Heap.get?_push_of_some _ e) (Nat.le_refl _) ?_,rfl,q _ hf⟩
 exact⟨z,us,0,r,Heap.get?_push_size _ rfl⟩
end
noncomputable abbrev Sp:=List V->Hp->VK->XK->Prop
noncomputable abbrev wX:=List Env->Hp->Shared->XK->Value->Shared->Prop
structure BO (P:Program)(w:World)(K:PySem.W.Frag)(mg:Str->Option Value)(base:Heap)(A:Around)(outer:List Env)(s:Shared)(H:Hp):Prop where
 frames:A.frames=some outer
 mod:Mod K mg base
 bs:∀ b o,base.get? b=some o->s.heap.get? b=some o/\H b=none
 bsz:base.objs.size<=s.heap.objs.size
 nT:s.heap.FunFrames base outer
 frf:∀ b∈wR outer,H b=none
 cB:iN P w H s.heap
 bare:AllBare s.gens
inductive CE (outer:List Env)(P:Program)(w:World)(H:Hp)(s:Shared)(Q:VK)(u:Value)(s':Shared):Prop
 |mk (v:V)(H':Hp)(a:s'.os=s.os)(b:AllBare s'.gens)(c:Un (wR outer) [] H H' s.heap s'.heap)(d:iN P w H' s'.heap)(r:RelV v u)(q:Q v H')
noncomputable def CR (CX:wX)(outer:List Env)(P:Program)(w:World)(H:Hp)(s:Shared)(Q:VK)(E:XK)(r:Result)(s':Shared):Prop :=
 match r with
 |.ok (.ret u)=>CE outer P w H s Q u s'
 |.ok _=>False
 |.error e=>CX outer H s E e s'
structure eV (P:Program)(w:World)(K:PySem.W.Frag)(mg:Str->Option Value)(base:Heap)(CX:wX)(k:Nat)(f:Addr)(fd:FuncData)(ps:List Str)(sp:Sp):Prop where
 len:∀ vs H Q E,sp vs H Q E->vs.length=ps.length
 run:∀(A:Around)(outer:List Env)(s:Shared)(H:Hp)(args:Args)(us:List Value)(vs:List V)(Q:VK)(E:XK),dN k A->BO P w K mg base A outer s H->BindsTo s fd args (ps.zip us)->aQ vs us->sp vs H Q E ->
 codeAny (model P w) A (.call (.ref f) args) (CR CX outer P w H s Q E) s
theorem BO.make {P:Program}{w:World}{K:PySem.W.Frag}{mg:Str->Option Value}{base:Heap}{A:Around}{outer:List Env}{s:Shared}{H:Hp}(e:BO P w K mg base A outer s H)(C:Addr)(us:List Value)(kw:List (Str×Value)):
 BO P w K mg base (A.under (.builtin "type.__call__" ⟨.ref C::us,kw⟩)) outer s H:=⟨by first|exact e.frames|(simpa [Around.under,Code.envs,Code.isFrame,pushEnvs]using e.frames),e.mod,e.bs,e.bsz,e.nT,e.frf,e.cB,e.bare⟩
section
variable {X:Cx}{pins:List (Addr×Obj)}{σ:St}{H:Hp}{s s':Shared}
theorem Inv.ZX (I:Inv X pins σ H s):BO X.prog X.w X.K X.mg X.base X.A X.stack s H :=
 ⟨I.ok.frames,I.ok.mod,I.bs,Nat.le_trans I.ok.bsz I.sz,I.stack,I.MA,I.cB,I.bare⟩
theorem Inv.after {Q:VK}{u:Value}(I:Inv X pins σ H s)(h:CE X.stack X.prog X.w H s Q u s'):EP X pins σ Q u s':=by
 obtain⟨v,H',os,bare,un,cB,r,q⟩:=h
 obtain⟨hh,g,d,t,os'⟩:=s'
 obtain rfl:os'=s.os:=os
 exact⟨v,H',I.call (h':=hh) (g':=g) (d':=d) (t':=t) (ch:=[]) un cB bare (fun b z=>absurd z (by simp)),r,q⟩
end
noncomputable def Jc (sp:Sp)(dvs:List V)(E:XK)(t:TA):TE:=fun σ H Q=>t σ H fun vs H1=>sp (vs++dvs) H1 Q E
noncomputable def Jh (C:Addr)(m:Str)(sp:Sp)(dvs:List V)(E:XK)(ta:TE)(t:TA):TE:=fun σ H Q=>ta σ H fun x H1=>∃ a dx fs,x=.ref a/\H1 a=some (.ins C dx fs)/\fs.lookup m=none /\
 t σ H1 fun vs H2=>sp (x::(vs++dvs)) H2 Q E
noncomputable def Hr (C:Addr)(sp:Sp)(dvs:List V)(E:XK)(t:TA):TE:=fun σ H Q=>t σ H fun vs H1=>∀ x dx,H1 x=none->H1 dx=none->dx≠x ->
 sp (.ref x::(vs++dvs)) (upd (upd H1 dx (.own x)) x (.ins C dx [])) (fun v H2=>v=.non/\Q (.ref x) H2) E
noncomputable def Binds (K:PySem.W.Frag)(fd:FuncData)(ps:List Str)(ds:List Value):Prop :=
 ∀(s:Shared)(us:List Value),K.In s.heap->(us++ds).length=ps.length->BindsTo s fd ⟨us,[]⟩ (ps.zip (us++ds))
theorem Binds.all {K:PySem.W.Frag}{fd:FuncData}{ps:List Str}(h:∀ us:List Value,us.length=ps.length->bindArgs fd ⟨us,[]⟩=pure (ps.zip us)):Binds K fd ps []:=fun s us _ hl=>by
 rw[List.append_nil]at hl ⊢
 exact .of_eq (h us hl)
noncomputable def rA (CX:wX)(X:Cx)(E:XK):Prop:=∀(pins:List (Addr×Obj))(σ:St)(H:Hp)(s:Shared)(e:Value)(s':Shared),Inv X pins σ H s->CX X.stack H s E e s'->X.xe e s'
section
variable {X:Cx}{CX:wX}{k:Nat}{f C:Addr}{fd:FuncData}{ps:List Str}{sp:Sp}{dvs:List V}{ds:List Value}{E:XK}{x m:Str}{p pos apos:Pos}{e o:Expr}{es:List Expr}{ta:TE}{t:TA}
theorem QF {pins:List (Addr×Obj)}{σ:St}{H:Hp}{s:Shared}{Q:VK}{us:List Value}{vs:List V}(F:eV X.prog X.w X.K X.mg X.base CX k f fd ps sp)(hr:dN k X.A)(hb:Binds X.K fd ps ds)(hd:aQ dvs ds)(hx:rA CX X E)
 (I:Inv X pins σ H s)(r:aQ vs us)(h:sp (vs++dvs) H Q E):wpAny (model X.prog X.w) X.A (call (.ref f) us) (EP X pins σ Q) X.xe s:=by
 have r2:aQ (vs++dvs) (us++ds):=r.append hd
 have hl:(us++ds).length=ps.length:=by rw[<-r2.length];exact F.len _ _ _ _ h
 refine wpAny_call (codeAny_mono (F.run X.A X.stack s H ⟨us,[]⟩ (us++ds) (vs++dvs) Q E hr I.ZX (hb s us I.jY hl) r2 h) fun r s' hq=>?_)
 cases r with
 |error e=>exact hx pins σ H s e s' I hq
 |ok fl =>
 cases fl with
 |ret u=>exact I.after hq
 |next=>exact False.elim hq
 |brk=>exact False.elim hq
 |cont=>exact False.elim hq
theorem XW (F:eV X.prog X.w X.K X.mg X.base CX k f fd ps sp)(hr:dN k X.A)(hg:Gl X x)(hm:X.mg x=some (.ref f))(hk:PySem.W.keepIn X.K (.ref f)=true)(hb:Binds X.K fd ps ds)(hd:aQ dvs ds)(hx:rA CX X E)
 (ha:PA X (e::es) t)(hdb:(x==("__debug__" : Str))=false:=by decide)(he:starEach (e::es) X.env=(false,eval e X.env)::starEach es X.env:=by rfl)(eJ:(backTo pos (starEach es X.env)).any (·.1)=false:=by rfl):
 PE X (.Call (.Name x p) (e::es) [] pos) (Jc sp dvs E t):=by
 intro pins s σ H Q I h
 refine wpAny_Call_Name_kw (DP I hg hm ?_ hdb)
 refine PySem.W.callWith_K (h₀:=X.base) I.ok.mod.kin hk (bA (ha pos pins s σ H _ I h) fun us s1 ⟨vs,H1,I1,r,q⟩=>⟨I1.jY,?_⟩) he eJ
 exact QF F hr hb hd hx I1 r q
theorem WW {pl:Sem Bool}(he:PE X o ta)(c:uP X.K C)(hm:EL X.K C m f)(F:eV X.prog X.w X.K X.mg X.base CX k f fd ps sp)(hr:dN k X.A)(hb:Binds X.K fd ps ds)(hd:aQ dvs ds)(hx:rA CX X E)(ha:PA X (e::es) t)
 (fM:starEach (e::es) X.env=(false,eval e X.env)::starEach es X.env:=by rfl)(eJ:(backTo pos (starEach es X.env)).any (·.1)=false:=by rfl)
 (ht:eval (.Call (.Attribute o m apos) (e::es) [] pos) X.env=(do
  let ov <-eval o X.env
  standAt apos.atName
  let(f,first) <-holding [ov] (getMethod ov m pl)
  callWith pos f first (backTo pos (starEach (e::es) X.env)) (backToKw pos (keywordEach [] X.env))):=by rfl):
 PE X (.Call (.Attribute o m apos) (e::es) [] pos) (Jh C m sp dvs E ta t):=by
 intro pins s σ H Q I h
 refine PySem.W.methodCall_KW (pl:=pl) (bA (he pins s σ H _ I h) fun u s1 ⟨x,H1,I1,rx,a,dx,fs,ex,ea,l,q⟩=>?_) ht
 subst ex
 obtain rfl:u=Value.ref a:=rx
 refine B6 I1 ea c hm l ?_
 refine PySem.W.callWith_K (first:=[.ref a]) (h₀:=X.base) I.ok.mod.kin hm.kp (bA (ha pos pins s1 σ H1 _ I1 q) fun us s2 ⟨vs,H2,I2,r,q2⟩=>⟨I2.jY,?_⟩) fM eJ
 exact QF (us:=.ref a::us) (vs:=.ref a::vs) F hr hb hd hx I2 (.cons rfl r) q2
structure Mk (K:PySem.W.Frag)(C f:Addr):Prop where
 makes:PySem.W.makesIn K C=true
 init:PySem.W.findIn K (.ref C) "__init__" = some (some (.ref f))
 fn:PySem.W.isFn K (.ref f)=true
 kp:PySem.W.keepIn K (.ref C)=true
theorem UB {pins:List (Addr×Obj)}{σ:St}{H:Hp}{s:Shared}{Q:VK}{us:List Value}{vs:List V}(M:Mk X.K C f)(F:eV X.prog X.w X.K X.mg X.base CX k f fd ps sp)(hr:dN (k+1) X.A)(hb:Binds X.K fd ps ds)(hd:aQ dvs ds)
  (hx:rA CX X E)(I:Inv X pins σ H s)(r:aQ vs us)
  (h:∀ x dx,H x=none->H dx=none->dx≠x->sp (.ref x::(vs++dvs)) (upd (upd H dx (.own x)) x (.ins C dx [])) (fun v H2=>v=.non/\Q (.ref x) H2) E):
  wpAny (model X.prog X.w) X.A (call (.ref C) us) (EP X pins σ Q) X.xe s:=by
 have hq:=h (s.heap.objs.size+1) s.heap.objs.size (I.cB.fresh (Nat.le_succ _)) (I.cB.fresh (Nat.le_refl _)) (Nat.ne_of_lt (Nat.lt_succ_self _))
 have I2:=Inv.made (C:=C) I
 have r2:aQ (V.ref (s.heap.objs.size+1)::(vs++dvs)) (Value.ref (s.heap.objs.size+1)::(us++ds)):=.cons rfl (r.append hd)
 have hl:(Value.ref (s.heap.objs.size+1)::us++ds).length=ps.length:=by
  have e:=r2.length
  rw[F.len _ _ _ _ hq]at e
  exact e.symm
 refine wpAny_call (U8 (f:=f) I.jY M.makes M.init (beq_iff_eq.mp M.fn) (codeAny_mono (F.run _ X.stack _ _ ⟨Value.ref (s.heap.objs.size+1)::us,[]⟩ (Value.ref (s.heap.objs.size+1)::(us++ds)) _ _ E (hr.make C us [])
  (I2.ZX.make C us []) (hb _ (Value.ref (s.heap.objs.size+1)::us) I2.jY hl) r2 hq) fun r s' hq'=>?_))
 cases r with
 |error e=>exact hx pins σ _ _ e s' I2 hq'
 |ok fl =>
  cases fl with
  |ret u =>
   obtain⟨v,H',I3,rv,ev,q3⟩:=I2.after hq'
   subst ev
   exact⟨rv,⟨V.ref (s.heap.objs.size+1),H',I3,rfl,q3⟩⟩
  |next=>exact False.elim hq'
  |brk=>exact False.elim hq'
  |cont=>exact False.elim hq'
theorem WO (M:Mk X.K C f)(F:eV X.prog X.w X.K X.mg X.base CX k f fd ps sp)(hr:dN (k+1) X.A)(hg:Gl X x)(hm:X.mg x=some (.ref C))(hb:Binds X.K fd ps ds)(hd:aQ dvs ds)(hx:rA CX X E)
 (ha:PA X (e::es) t)(hdb:(x==("__debug__" : Str))=false:=by decide)(he:starEach (e::es) X.env=(false,eval e X.env)::starEach es X.env:=by rfl)(eJ:(backTo pos (starEach es X.env)).any (·.1)=false:=by rfl):
 PE X (.Call (.Name x p) (e::es) [] pos) (Hr C sp dvs E t):=by
 intro pins s σ H Q I h
 refine wpAny_Call_Name_kw (DP I hg hm ?_ hdb)
 refine PySem.W.callWith_K (h₀:=X.base) I.ok.mod.kin M.kp (bA (ha pos pins s σ H _ I h) fun us s1 ⟨vs,H1,I1,r,q⟩=>⟨I1.jY,?_⟩) he eJ
 exact UB M F hr hb hd hx I1 r q
end
structure tN (N P:List Str)(sc:Scope):Prop where
 kind:sc.kind=.function
 co:sc.isCoroutine=false
 gen:sc.isGenerator=false
 nd:N.Nodup
 pre:N.take P.length=P
 par:∀ x∈P,sc.names.lookup x=some .local∨sc.names.lookup x=some .cell
 nofree:∀ y∈sc.names,y.2≠.free
theorem GL {kindOf:Str->Option NameKind}{x:Str}:∀{binds:List (Str×Value)}{m:Str->Option Value},(∀ v,(x,v)∉binds)->bindL kindOf binds m x=m x
 |[],_,_=>rfl
 |(n,v)::r,m,h=>by
  unfold bindL
  rw[GL fun w hw=>h w (List.mem_cons_of_mem _ hw)]
  split
  ·have:x≠n:=by rintro rfl;exact h v List.mem_cons_self
   simp [this]
  ·rfl
theorem FZ {kindOf:Str->Option NameKind}{x:Str}:∀{binds:List (Str×Value)}{m:Str->Option Value},(∀ v,(x,v)∉binds)->bindC kindOf binds m x=m x
 |[],_,_=>rfl
 |(n,v)::r,m,h=>by
  unfold bindC
  rw[FZ fun w hw=>h w (List.mem_cons_of_mem _ hw)]
  split
  ·rfl
  ·have:x≠n:=by rintro rfl;exact h v List.mem_cons_self
   simp [this]
theorem E3 {kindOf:Str->Option NameKind}{x:Str}{v:Value}:∀{P:List Str}{vs:List Value}{i:Nat}{m:Str->Option Value},P.Nodup->P[i]? = some x->vs[i]? = some v->kindOf x=some .local ->
  bindL kindOf (P.zip vs) m x=some v
 |[],_,_,_,_,h,_,_=>by simp at h
 |_::_,[],_,_,_,_,h,_=>by simp at h
 |p::P,w::vs,0,m,nd,h1,h2,hk=>by
  simp at h1 h2;subst h1;subst h2
  show bindL kindOf ((p,w)::P.zip vs) m p=_
  unfold bindL
  rw[GL fun v hv=>(List.nodup_cons.mp nd).1 (List.of_mem_zip hv).1,if_pos hk]
  simp
 |p::P,w::vs,i+1,m,nd,h1,h2,hk=>by
  show bindL kindOf ((p,w)::P.zip vs) m x=_
  unfold bindL
  exact E3 (i:=i) (List.nodup_cons.mp nd).2 (by simpa using h1) (by simpa using h2) hk
theorem FO {kindOf:Str->Option NameKind}{x:Str}{v:Value}:∀{P:List Str}{vs:List Value}{i:Nat}{m:Str->Option Value},P.Nodup->P[i]? = some x->vs[i]? = some v->kindOf x≠some .local ->
  bindC kindOf (P.zip vs) m x=some v
 |[],_,_,_,_,h,_,_=>by simp at h
 |_::_,[],_,_,_,_,h,_=>by simp at h
 |p::P,w::vs,0,m,nd,h1,h2,hk=>by
  simp at h1 h2;subst h1;subst h2
  show bindC kindOf ((p,w)::P.zip vs) m p=_
  unfold bindC
  rw[FZ fun v hv=>(List.nodup_cons.mp nd).1 (List.of_mem_zip hv).1,if_neg hk]
  simp
 |p::P,w::vs,i+1,m,nd,h1,h2,hk=>by
  show bindC kindOf ((p,w)::P.zip vs) m x=_
  unfold bindC
  exact FO (i:=i) (List.nodup_cons.mp nd).2 (by simpa using h1) (by simpa using h2) hk
noncomputable def start (N:List Str)(vs:List V):St:=vs.map some++List.replicate (N.length-vs.length) none
noncomputable def mY (CX:wX)(P:Program)(w:World)(K:PySem.W.Frag)(mg:Str->Option Value)(base:Heap)(N:List Str)(qual:Str)(scope:Scope)(f:Addr)(cd:Value)(A:Around)(outer:List Env)(s:Shared)(H:Hp)(E:XK):Cx where
 prog:=P
 w:=w
 K:=K
 mg:=mg
 base:=base
 A:=A.deeper (envOfC qual scope s.heap.objs.size f cd)
 N:=N
 s₀:=s
 H₀:=H
 env:=envOfC qual scope s.heap.objs.size f cd
 outer:=outer
 stack:=envOfC qual scope s.heap.objs.size f cd::outer
 ex:=[]
 calm:=true
 fn:=fun _=>true
 pn:=[]
 xe:=fun e s'=>wpAny (model P w) (A.deeper (envOfC qual scope s.heap.objs.size f cd)) (leaving (envOfC qual scope s.heap.objs.size f cd) e) (fun _ s''=>CX outer H s E e s'') (fun e' s''=>CX outer H s E e' s'') s'
theorem HJ {sc:Scope}{n:Nat}{x:Str}(h:sc.names.lookup x=some .cell):∃ c,(cellsFrom n sc.names []).lookup x=some c:=by
 have q:=PySem.W.cellsFrom_some sc.names n [] (.inl h)
 exact Option.isSome_iff_exists.mp q
theorem R6 {CX:wX}{P:Program}{w:World}{K:PySem.W.Frag}{mg:Str->Option Value}{base:Heap}{N ps:List Str}{qual:Str}{scope:Scope}{f:Addr}{cd:Value}{A:Around}{outer:List Env}{s s1:Shared}{H:Hp}{E:XK}{us:List Value}{vs:List V}
  (S:tN N ps scope)(hd:A.handled=none)(e0:BO P w K mg base A outer s H)(hl:vs.length=ps.length)(r:aQ vs us)
  (x:InCallC s s.heap.objs.size (bindL (envOfC qual scope s.heap.objs.size f cd).kindOf (ps.zip us) fun _=>none) (cellsFrom (s.heap.objs.size+1) scope.names []) (bindC (envOfC qual scope s.heap.objs.size f cd).kindOf (ps.zip us) fun _=>none) s1):
  Inv (mY CX P w K mg base N qual scope f cd A outer s H E) [] (start N vs) H s1:=by
 have eJ:ps.length<=N.length:=by have:=congrArg List.length S.pre;rw[List.length_take]at this;omega
 obtain⟨h1,tk,rfl,hk⟩:=x.done
 have noA:∀ b:Addr,b∉(mY CX P w K mg base N qual scope f cd A outer s H E).ex:=fun b z=>absurd (show b∈([]:List Addr)from z) (by simp)
 refine⟨⟨e0.mod,S.kind,rfl,rfl,Nat.le_refl _,fun y z c h1 h2=>?_,fun y hy=>?_,fun y c _ h=>?_,fun _=>hd,Around.frames_deeper e0.frames,.inr ⟨rfl,rfl⟩,fun b z=>absurd z (noA b),e0.bs,e0.bsz,fun b _ _=>noA b,fun b z=>absurd z (noA b),e0.nT,e0.frf⟩,
  rfl,e0.bare,Un.kept hk,⟨_,x.toInCall.ns,fun i y v h1 h2 h3=>?_⟩,fun y c h=>⟨_,x.cell y c h⟩,e0.cB.fresh (Nat.le_refl _),fun y c h=>?_,fun p hp=>absurd (show p∈([]:List (Addr×Obj))from hp) (by simp),e0.cB.kept hk,?_⟩
 ·exact name_of_addr x.apart (PySem.mem_of_lookup h1) (PySem.mem_of_lookup h2)
 ·have hy:scope.names.lookup y=some .cell∨scope.names.lookup y=some .free:=hy
  rcases hy with hy|hy
  ·exact HJ hy
  ·exact absurd rfl (S.nofree _ (PySem.mem_of_lookup hy))
 ·exact Nat.le_of_lt (x.above y c (PySem.mem_of_lookup h))
 ·have hi:i<vs.length:=by
   unfold start at h2
   by_cases hi:i<vs.length
   ·exact hi
   ·rw[List.getElem?_append_right (by simpa using hi)]at h2
    rw[List.getElem?_replicate]at h2
    split at h2<;>cases h2
  have ha:vs[i]? = some v:=by
   unfold start at h2
   rw[List.getElem?_append_left (by simpa using hi),List.getElem?_map]at h2
   cases e:vs[i]? with
   |none=>rw[e]at h2;cases h2
   |some a=>rw[e]at h2;cases h2;rfl
  obtain⟨u,hu,rv⟩:=r.get ha
  have hp:ps[i]? = some y:=by
   rw[<-S.pre,List.getElem?_take_of_lt (by omega)];exact h1
  have ndP:ps.Nodup:=by rw[<-S.pre];exact S.nd.sublist (List.take_sublist _ _)
  refine⟨u,rv,?_⟩
  rcases S.par y (List.mem_of_getElem? hp)with k|k
  ·exact .inl ⟨k,E3 ndP hp hu k⟩
  ·obtain⟨c,e⟩:=HJ (n:=s.heap.objs.size+1) k
   refine .inr ⟨.inl k,c,e,?_⟩
   have q:=x.cell y c e
   rw[FO ndP hp hu (by show scope.names.lookup y≠_;rw[k];decide)]at q
   exact q
 ·exact e0.cB.fresh (Nat.le_of_lt (x.above y c (PySem.mem_of_lookup h)))
 ·unfold start
  show _=N.length
  rw[List.length_append,List.length_map,List.length_replicate]
  omega
theorem Gw {CX:wX}{P:Program}{w:World}{K:PySem.W.Frag}{mg:Str->Option Value}{base:Heap}{k:Nat}{f:Addr}{name qual:Str}{params:Arguments}{body:List Stmt}{scope:Scope}{dV kV doc pm bL ct oc:Value}{an od:Option Addr}
  {osl:Array (Option Value)}{N ps:List Str}{sp:Sp}(lk:K.lookup f=some ⟨oc,od,.func (PySem.W.fnOf name qual params body scope dV kV doc pm an bL ct),osl⟩)(hcd:PySem.W.codeIn K bL qual=true)(S:tN N ps scope)
  (len:∀ vs H Q E,sp vs H Q E->vs.length=ps.length)
  (hbody:∀(A:Around)(outer:List Env)(s:Shared)(H:Hp)(vs:List V)(Q:VK)(E:XK),dN k (A.deeper (envOfC qual scope s.heap.objs.size f bL))->sp vs H Q E ->
   ∃ t,kQ (mY CX P w K mg base N qual scope f bL A outer s H E) body t/\t { nx:=fun _ H'=>Q .non H',rt:=Q } (start N vs) H):
  eV P w K mg base CX (k+1) f (PySem.W.fnOf name qual params body scope dV kV doc pm an bL ct) ps sp:=by
 refine⟨len,fun A outer s H args us vs Q E hr e0 hb r hsp=>?_⟩
 have hl:=len _ _ _ _ hsp
 have KX:K.In s.heap:=e0.mod.kin.keeps fun b o e=>(e0.bs b o e).1
 have lim:s.heap.NoLimit:=e0.mod.nolimit.keeps fun b o e=>(e0.bs b o e).1
 have hkind:∀ y∈ps.zip us,scope.names.lookup y.1=some .local∨(scope.names.lookup y.1=some .cell/\((cellsFrom (s.heap.objs.size+1) scope.names []).lookup y.1).isSome=true):=fun⟨n,v⟩ hy=>by
  rcases S.par n (List.of_mem_zip hy).1 with q|q
  ·exact .inl q
  ·exact .inr ⟨q,PySem.W.cellsFrom_some _ _ _ (.inl q)⟩
 refine codeAny_call_function hr.depth (KX _ _ lk) rfl S.co S.gen rfl (PySem.W.codeRec_of KX hcd) (hb _ _ _ _ ?_)
 refine wpAny_newFunctionEnv_cells S.kind hkind fun env he s1 x=>?_
 subst he
 refine⟨lim.keeps x.toInCall.keep,codeAny_func ?_⟩
 obtain⟨t,ht,hq⟩:=hbody A outer s H vs Q E (hr.deeper _) hsp
 have I:Inv (mY CX P w K mg base N qual scope f bL A outer s H E) [] (start N vs) H s1:=R6 S hr.hd e0 hl r x
 refine wpAny_mono (ht [] s1 (start N vs) H _ I hq) (fun fl s' hs=>?_) fun e s' hs=>hs
 have fin:∀{σ':St}{H':Hp}{v:V}{u:Value},Inv (mY CX P w K mg base N qual scope f bL A outer s H E) [] σ' H' s'->RelV v u->Q v H'->CE outer P w H s Q u s' :=
  fun{σ' H' v u} J rv q=>⟨v,H',J.os,J.bare,J.base,J.cB,rv,q⟩
 cases fl with
 |ret u =>
  obtain⟨v,σ',H',J,rv,q⟩:=hs
  exact fin J rv q
 |next =>
  obtain⟨σ',H',J,q⟩:=hs
  exact fin (v:=V.non) (u:=Value.none) J rfl q
 |brk =>
  obtain⟨_,_,_,q⟩:=hs
  exact False.elim q
 |cont =>
  obtain⟨_,_,_,q⟩:=hs
  exact False.elim q
end L2
namespace L2
open PySem PySem.Spec PyProof.Rows
section
variable {X:Cx}{x:Str}{p pos:Pos}{e:Expr}{es:List Expr}{t:TA}{id T:String}{r:List V->Hp->VK->Prop}
noncomputable def Dy (r:List V->Hp->VK->Prop)(t:TA):TE:=fun σ H Q=>t σ H fun vs H1=>r vs H1 Q
theorem KN (hc:vY X (.builtin id) r)(hg:Gl X x)(hm:X.mg x=none)(hv:bootBuiltins x=some (.builtin id))(ha:PA X (e::es) t)(hn:x ≠"__name__":=by decide)(hdb:(x==("__debug__" : Str))=false:=by decide)
 (he:starEach (e::es) X.env=(false,eval e X.env)::starEach es X.env:=by rfl)(eJ:(backTo pos (starEach es X.env)).any (·.1)=false:=by rfl):PE X (.Call (.Name x p) (e::es) [] pos) (Dy r t):=by
 intro pins s σ H Q I h
 refine wpAny_Call_Name_kw (kO I hg hm hv ?_ hn hdb)
 exact PyProof.Rows.callWith_builtin1 (bA (ha pos pins s σ H _ I h) fun us s1 ⟨vs,H1,I1,r1,q1⟩=>hc pins s1 σ H1 vs us Q I1 r1 q1) he eJ
theorem R5 (hc:vY X (.type T) r)(hg:Gl X x)(hm:X.mg x=none)(hv:bootBuiltins x=some (.type T))(ha:PA X (e::es) t)(hn:x ≠"__name__":=by decide)(hdb:(x==("__debug__" : Str))=false:=by decide)
 (he:starEach (e::es) X.env=(false,eval e X.env)::starEach es X.env:=by rfl)(eJ:(backTo pos (starEach es X.env)).any (·.1)=false:=by rfl):PE X (.Call (.Name x p) (e::es) [] pos) (Dy r t):=by
 intro pins s σ H Q I h
 refine wpAny_Call_Name_kw (kO I hg hm hv ?_ hn hdb)
 exact PyProof.Rows.callWith_type1 (bA (ha pos pins s σ H _ I h) fun us s1 ⟨vs,H1,I1,r1,q1⟩=>hc pins s1 σ H1 vs us Q I1 r1 q1) he eJ
end
end L2
namespace HT
open PySem PyProof.Rows
section
variable {prog:Program}{w:World}{A:Around}{E:Value->Shared->Prop}{s:Shared}
theorem ZO {t b:Addr}{vs ws:List Value}{Q:Value->Shared->Prop}(ht:IsTup s.heap t vs.toArray)(hb:IsTup s.heap b ws.toArray)(hv:vs≠[])
  (h1:ws=[]->Q (.ref t) s)(h2:ws≠[]->Q (.ref s.heap.objs.size) { s with heap:=s.heap.push { cls:=.type "tuple", data:=.seq (vs++ws).toArray } })
  (iU:vs.length+ws.length<=sizeLine):wpAny (model prog w) A (binaryOp .Add (.ref t) (.ref b)) Q E s:=by
 obtain⟨⟨cls,dd,data,sl⟩,ho,hc,n,hd⟩:=id ht
 obtain⟨⟨cls2,dd2,data2,sl2⟩,ho2,hc2,n2,hd2⟩:=id hb
 simp only at hc hd hc2 hd2
 subst hc hd hc2 hd2
 have e:vs.toArray++ws.toArray=(vs++ws).toArray:=by simp
 by_cases hw:ws=[]
 ·exact concat_meets ⟨_,ho,rfl⟩ ⟨_,ho2,rfl⟩ noFill_tuple_add seq_tuple_add PySem.F.slot_tuple_add PySem.F.entry_tuple_add (PySem.F.args_tuple_add_2 _ _)
   (tuple_addW1 t b vs.toArray ws.toArray n n2 dd dd2 sl sl2 (by simpa using hv) (by simp [hw])) ⟨ho,ho2,h1 hw⟩
 ·refine concat_meets ⟨_,ho,rfl⟩ ⟨_,ho2,rfl⟩ noFill_tuple_add seq_tuple_add PySem.F.slot_tuple_add PySem.F.entry_tuple_add (PySem.F.args_tuple_add_2 _ _)
   (tuple_addW2 t b vs.toArray ws.toArray n n2 dd dd2 sl sl2 (by simpa using hv) (by simpa using hw) (by rw[List.size_toArray,List.size_toArray];exact iU)) ⟨ho,ho2,?_⟩
  rw[e]
  exact h2 hw
noncomputable def cE (n d:Nat):Option Int->Nat
 |none=>d
 |some v=>if v<0 then(v+(n:Int)).toNat else min v.toNat n
theorem Bo (n d:Nat)(hd:d<=n)(o:Option Int):cE n d o<=n:=by
 cases o with
 |none=>exact hd
 |some v =>
 show(if v<0 then(v+(n:Int)).toNat else min v.toNat n)<=n
 by_cases hv:v<0
 ·rw[if_pos hv];omega
 ·rw[if_neg hv];exact Nat.min_le_right _ _
theorem LX (v:Int)(n d:Nat):(if v<0 then max (v+(n:Int)) 0 else min v (n:Int))=((cE n d (some v):Nat):Int):=by
 show(if v<0 then max (v+(n:Int)) 0 else min v (n:Int))=(((if v<0 then(v+(n:Int)).toNat else min v.toNat n):Nat):Int)
 by_cases hv:v<0
 ·simp only[if_pos hv];omega
 ·simp only[if_neg hv];omega
theorem NR (lo hi:Option Int)(n:Nat):Builtin.Slice.sliceAdjust lo hi 1 (n:Int)=(((cE n 0 lo:Nat):Int),((cE n n hi:Nat):Int)):=by
 have h1:¬((1:Int)<0):=by omega
 unfold Builtin.Slice.sliceAdjust
 simp only[h1,if_false]
 refine Prod.ext ?_ ?_
 ·cases lo with
 |none=>rfl
 |some v=>exact LX v n 0
 ·cases hi with
 |none=>rfl
 |some v=>exact LX v n n
theorem NJ (i j:Nat):Builtin.Slice.slicePlaces (i:Int) (j:Int) 1=j-i:=by
 unfold Builtin.Slice.slicePlaces
 have h1:(1:Int)>0:=by omega
 simp only[h1,if_true,Int.ediv_one]
 split<;>omega
theorem C9 {v:Value}{o:Option Int}{Q:Option Int->Shared->Prop}(p:IsPart v o)(h:Q o s):wpAny (model prog w) A (Builtin.Slice.slicePartIndex v) Q E s:=by
 cases p with
 |none=>exact slicePart_none h
 |int i t=>exact slicePart_int h
theorem qL {sl:Addr}{vl vu:Value}{lo hi:Option Int}{n:Nat}{Q:Int×Int×Nat->Shared->Prop}(hs:s.heap.IsSliceOf sl vl vu .none)(pl:IsPart vl lo)(pu:IsPart vu hi)
 (h:Q (((cE n 0 lo:Nat):Int),1,cE n n hi-cE n 0 lo) s):wpAny (model prog w) A (Builtin.Slice.sliceApplied (.ref sl) (pure (n:Int))) Q E s:=by
 obtain⟨os,hos,hcs,hds⟩:=id hs
 unfold Builtin.Slice.sliceApplied Builtin.Slice.sliceFields
 refine wpAny_bind (wpAny_bind (wpAny_field hos hds (x:=vl) rfl (wpAny_bind (wpAny_field hos hds (x:=vu) rfl (wpAny_bind (wpAny_field hos hds (x:=.none) rfl (wpAny_pure ?_)))))))
 refine wpAny_bind (slicePart_none ?_)
 show wpAny _ _ (if((1:Int)==0)=true then _ else _) _ _ s
 rw[if_neg (by decide)]
 refine wpAny_bind (C9 pl (wpAny_bind (C9 pu (wpAny_bind (wpAny_pure ?_)))))
 show wpAny _ _ (match Builtin.Slice.sliceAdjust lo hi 1 (n:Int)with|(lo,hi)=>pure (lo,(1:Int),Builtin.Slice.slicePlaces lo hi 1)) _ _ s
 rw[NR lo hi n]
 show wpAny _ _ (pure (((cE n 0 lo:Nat):Int),(1:Int),Builtin.Slice.slicePlaces ((cE n 0 lo:Nat):Int) ((cE n n hi:Nat):Int) 1)) _ _ s
 rw[NJ]
 exact wpAny_pure h
theorem VD (xs:Array Value)(i k:Nat):((List.range k).filterMap fun(m:Nat)=>xs[((i:Int)+(m:Int)*1).toNat]?).toArray=((xs.toList.drop i).take k).toArray:=by
 have e:(fun(m:Nat)=>xs[((i:Int)+(m:Int)*1).toNat]?)=fun m=>xs[i+m]?:=by
  funext m
  have:((i:Int)+(m:Int)*1).toNat=i+m:=by omega
  rw[this]
 rw[e]
 have:=pick_run xs i k
 rw[List.filterMap_map]at this
 have e2:((fun x=>xs[x]?)∘fun x=>i+x)=fun m=>xs[i+m]?:=rfl
 rw[e2]at this
 rw[this]
theorem AQ {t sl:Addr}{items:Array Value}{vl vu:Value}{lo hi:Option Int}{Q:Value->Shared->Prop}(ht:IsTup s.heap t items)(hs:s.heap.IsSliceOf sl vl vu .none)(pl:IsPart vl lo)(pu:IsPart vu hi)
  (hw:¬(cE items.size 0 lo=0/\cE items.size items.size hi=items.size))
  (h:Q (.ref s.heap.objs.size) { s with heap:=s.heap.push { cls:=.type "tuple", data:=.seq ((items.toList.drop (cE items.size 0 lo)).take (cE items.size items.size hi-cE items.size 0 lo)).toArray } })
  (iU:items.size<=sizeLine):wpAny (model prog w) A (getItem (.ref t) (.ref sl)) Q E s:=by
 have htake:sizeOk (.seq ((items.toList.drop (cE items.size 0 lo)).take (cE items.size items.size hi-cE items.size 0 lo)).toArray):=by
  show((items.toList.drop (cE items.size 0 lo)).take (cE items.size items.size hi-cE items.size 0 lo)).toArray.size<=sizeLine
  rw[List.size_toArray,List.length_take,List.length_drop,Array.length_toList]
  omega
 have hj:cE items.size items.size hi<=items.size:=Bo _ _ (Nat.le_refl _) hi
 obtain⟨os,hos,hcs,hds⟩:=id hs
 have hTs:s.TypeIs (.ref sl) "slice":=⟨os,hos,hcs⟩
 unfold getItem
 try with_reducible refine wpAny_holding ?_
 first|refine wpAny_bind (wpAny_pure ?_)|skip
 refine wpAny_bind (wpAny_sequenceKey ht.typeIs (by decide) ?_)
 refine wpAny_bind (wpAny_callSpecial?_slot (name:=Str.ofString "__getitem__") ht.typeIs PyProof.Rows.slot_tuple_getitem
  (wpAny_call_entry PyProof.Rows.slot_tuple_getitem ht.typeIs entry_tuple_getitem ?_ (args_tuple_getitem _ _)))
 show wpAny _ _ (Builtin.Tuple.tupleItemsOf (.ref t) >>= _) _ _ s
 refine wpAny_bind (tupleItemsOf_ ht ?_)
 refine wpAny_bind (wpAny_typeOf hTs ?_)
 rw[if_pos (by decide)]
 refine wpAny_bind (qL hs pl pu ?_)
 have hno:¬((((cE items.size 0 lo:Nat):Int)==0&&(1:Int)==1&&(cE items.size items.size hi-cE items.size 0 lo)==items.size)=true):=by
  intro q
  rw[Bool.and_eq_true,Bool.and_eq_true]at q
  have q1:((cE items.size 0 lo:Nat):Int)=0:=eq_of_beq q.1.1
  have q2:cE items.size items.size hi-cE items.size 0 lo=items.size:=eq_of_beq q.2
  exact hw ⟨by omega,by omega⟩
 show wpAny _ _ (if(((cE items.size 0 lo:Nat):Int)==0&&(1:Int)==1&&(cE items.size items.size hi-cE items.size 0 lo)==items.size)=true then _ else _) _ _ s
 rw[if_neg hno,VD]
 first
  |exact wpAny_bind (m:=Builtin.Tuple.tupleExact _) (wpAny_newObj_type (wpAny_pure ⟨_,rfl,wpAny_pure h⟩) htake)
  |exact wpAny_bind (m:=Builtin.Tuple.tupleExact _) (wpAny_newObj_type (wpAny_bind (wpAny_pure (wpAny_pure ⟨_,rfl,wpAny_pure h⟩))) htake)
  |exact wpAny_bind (wpAny_bind (m:=Builtin.Tuple.tupleExact _) (wpAny_newObj_type (wpAny_pure (wpAny_pure ⟨_,rfl,wpAny_pure h⟩)) htake))
  |exact wpAny_bind (wpAny_bind (m:=Builtin.Tuple.tupleExact _) (wpAny_newObj_type (wpAny_pure ⟨_,rfl,wpAny_pure h⟩) htake))
end
end HT
namespace L2
open PySem PySem.Spec PyProof.Rows
noncomputable abbrev TO:=St->Hp->(Option Int->Hp->Prop)->Prop
noncomputable def PO (X:Cx)(e:Option Expr)(t:TO):Prop :=
 ∀(pins:List (Addr×Obj))(s:Shared)(σ:St)(H:Hp)(Q:Option Int->Hp->Prop),Inv X pins σ H s->t σ H Q ->
 wpAny (model X.prog X.w) X.A (evalPart e X.env) (fun u s'=>∃ o H',Inv X pins σ H' s'/\IsPart u o/\Q o H') X.xe s
noncomputable def ZK:TO:=fun _ H Q=>Q none H
noncomputable def Kx (t:TE):TO:=fun σ H Q=>t σ H fun x H1=>∃ i,x=.int i/\Q (some i) H1
section
variable {X:Cx}{e:Expr}{te:TE}{lo hi:Option Expr}{tl th:TO}{pos p2:Pos}
theorem X0:PO X none ZK:=by
 intro pins s σ H Q I h
 rw[evalPart_none]
 exact wpAny_pure ⟨none,H,I,.none,h⟩
theorem X1 (h:PE X e te):PO X (some e) (Kx te):=by
 intro pins s σ H Q I hw
 rw[evalPart_some]
 refine bA (h pins s σ H _ I hw) fun u s1 ⟨x,H1,I1,r1,q1⟩=>?_
 obtain⟨i,rfl,q⟩:=q1
 obtain⟨t,rfl⟩:=r1
 exact⟨some i,H1,I1,.int i t,q⟩
noncomputable def zE (X:Cx)(r:V->Option Int->Option Int->Hp->VK->Prop):Prop :=
 ∀(pins:List (Addr×Obj))(s:Shared)(σ:St)(H:Hp)(x:V)(v vl vu:Value)(lo hi:Option Int)(sl:Addr)(Q:VK),Inv X pins σ H s->RelV x v->s.heap.IsSliceOf sl vl vu .none->IsPart vl lo->IsPart vu hi->r x lo hi H Q ->
 ∃ T id,typeLookup (.type T) "__getitem__" = pure (some (.builtin id))/\s.TypeIs v T/\wpAny (model X.prog X.w) X.A (getItem v (.ref sl)) (EP X pins σ Q) X.xe s
theorem zE.or {r r':V->Option Int->Option Int->Hp->VK->Prop}(h:zE X r)(h':zE X r'):zE X (fun x lo hi H Q=>r x lo hi H Q∨r' x lo hi H Q):=by
 intro pins s σ H x v vl vu lo hi sl Q I rx hs pl pu q
 rcases q with q|q
 ·exact h pins s σ H x v vl vu lo hi sl Q I rx hs pl pu q
 ·exact h' pins s σ H x v vl vu lo hi sl Q I rx hs pl pu q
noncomputable def Py (r:V->Option Int->Option Int->Hp->VK->Prop)(te:TE)(tl th:TO):TE:=fun σ H Q=>te σ H fun x H1=>tl σ H1 fun l H2=>th σ H2 fun u H3=>r x l u H3 Q
theorem SU {r:V->Option Int->Option Int->Hp->VK->Prop}(hr:zE X r)(he:PE X e te)(hl:PO X lo tl)(hu:PO X hi th):PE X (.Subscript e (.Slice lo hi none p2) pos) (Py r te tl th):=by
 intro pins s σ H Q I h
 refine Subscript_ (bA (he pins s σ H _ I h) fun v s1 ⟨x,H1,I1,r1,q1⟩=>?_)
 refine wpAny_Slice (bA (hl pins s1 σ H1 _ I1 q1) fun vl s2 ⟨l,H2,I2,pl,q2⟩=>bA (hu pins s2 σ H2 _ I2 q2) fun vu s3 ⟨u,H3,I3,pu,q3⟩=>?_)
 rw[evalPart_none]
 refine wpAny_pure ?_
 have I4:Inv X pins σ H3 { s3 with heap:=s3.heap.push { cls:=.type "slice", data:=.fields #[vl,vu,.none] } }:=I3.kept (t':=s3.toks) fun b ob q=>Heap.get?_push_of_some _ q
 obtain⟨T,id,hT,ht,hg⟩:=hr pins { s3 with heap:=s3.heap.push { cls:=.type "slice", data:=.fields #[vl,vu,.none] } } σ H3 x v vl vu l u s3.heap.objs.size Q I4 r1 (Heap.IsSliceOf.new ..) pl pu q3
 show wpAny (model X.prog X.w) X.A (subscriptTail e (.Slice lo hi none p2) v (.ref s3.heap.objs.size)) (EP X pins σ Q) X.xe { s3 with heap:=s3.heap.push { cls:=.type "slice", data:=.fields #[vl,vu,.none] } }
 exact tail_any (ops:=[.ref s3.heap.objs.size,v]) ht hT hg (by with_unfolding_all rfl)
noncomputable def D1 (xs:List V)(lo hi:Option Int):List V:=(xs.drop (HT.cE xs.length 0 lo)).take (HT.cE xs.length xs.length hi-HT.cE xs.length 0 lo)
theorem AX (xs:List V)(lo hi:Option Int):(D1 xs lo hi).length<=xs.length:=by
 unfold D1
 rw[List.length_take,List.length_drop]
 omega
noncomputable def Dc (K:PySem.W.Frag):V->Option Int->Option Int->Hp->VK->Prop:=fun x lo hi H Q=>∃ a xs,x=.ref a/\dZ K H a xs /\
 ¬(HT.cE xs.length 0 lo=0/\HT.cE xs.length xs.length hi=xs.length)/\∀ p,H p=none->Q (.ref p) (upd H p (.tup (D1 xs lo hi)))
theorem KE:zE X (Dc X.K):=by
 intro pins s σ H x v vl vu lo hi sl Q I rx hs pl pu h
 obtain⟨a,xs,rfl,hx,hw,q⟩:=h
 cases rx
 obtain⟨aD,r,ht,hz⟩:=I.tuple hx
 have hlen:aD.toArray.size=xs.length:=by rw[List.size_toArray];exact r.length.symm
 refine⟨"tuple", _,PyProof.Rows.slot_tuple_getitem.lookup,ht.typeIs,?_⟩
 refine HT.AQ ht hs pl pu (by rw[hlen];exact hw) ?_ (by rw[hlen];exact hz)
 rw[hlen]
 refine⟨.ref s.heap.objs.size,_,I.laid (t':=s.toks) (o:=.tup (D1 xs lo hi)) (fun b ob q=>Heap.get?_push_of_some _ q) (Nat.le_refl _) ?_,rfl,q _ (I.cB.fresh (Nat.le_refl _))⟩
 exact⟨Nat.le_trans (AX xs lo hi) hz,_,(r.drop (HT.cE xs.length 0 lo)).take (HT.cE xs.length xs.length hi-HT.cE xs.length 0 lo),nW.new _ _⟩
noncomputable def VV (K:PySem.W.Frag):R2:=fun x y H Q=>∃ a b xs ys,x=.ref a/\y=.ref b/\dZ K H a xs/\dZ K H b ys/\xs≠[]/\xs.length+ys.length<=sizeLine /\
 (ys=[]->Q (.ref a) H)/\(ys≠[]->∀ p,H p=none->Q (.ref p) (upd H p (.tup (xs++ys))))
theorem aQ.zZ {xs:List V}{us:List Value}(r:aQ xs us):us=[]↔xs=[]:=by
 cases r with
 |nil=>simp
 |cons _ _=>simp
theorem W4:hJ X (binaryOp .Add) (VV X.K):=by
 intro pins s σ H x y v u Q I rx ry h
 obtain⟨a,b,xs,ys,rfl,rfl,ha,hb,hx,hz,q1,q2⟩:=h
 cases rx
 cases ry
 obtain⟨aD,r1,p1,_⟩:=I.tuple ha
 obtain⟨nK,r2,p2,_⟩:=I.tuple hb
 refine HT.ZO p1 p2 (fun z=>hx (r1.zZ.mp z)) (fun z=>⟨.ref a,H,I,rfl,q1 (r2.zZ.mp z)⟩) (fun z=>?_) (by rw[<-r1.length,<-r2.length];exact hz)
 refine⟨.ref s.heap.objs.size,_,I.laid (t':=s.toks) (o:=.tup (xs++ys)) (fun b ob q=>Heap.get?_push_of_some _ q) (Nat.le_refl _) ?_,rfl,q2 (fun w=>z (r2.zZ.mpr w)) _ (I.cB.fresh (Nat.le_refl _))⟩
 exact⟨by rw[List.length_append];exact hz,_,r1.append r2,nW.new _ _⟩
end
end L2
namespace L2
open PySem PySem.Spec PyProof.Rows
noncomputable def mI (n:Nat)(i:Int):Option Nat:=if 0<=i then(if i<n then some i.toNat else none)else if -(n:Int)<=i then some (i+n).toNat else none
noncomputable def fV {α:Type}(xs:List α)(i:Int):Option α:=(mI xs.length i).bind fun j=>xs[j]?
theorem MG {n:Nat}{i:Int}{j:Nat}(h:mI n i=some j):seqIndex? i n=some j/\j<n/\-(n:Int)<=i/\i<n:=by
 unfold mI at h
 by_cases h0:0<=i
 ·rw[if_pos h0]at h
  by_cases h1:i<n
  ·rw[if_pos h1]at h
   have e:i.toNat=j:=Option.some.inj h
   exact⟨by rw[seqIndex_of h0 h1,e],by omega,by omega,h1⟩
  ·rw[if_neg h1]at h;cases h
 ·rw[if_neg h0]at h
  by_cases h1 : -(n:Int)<=i
  ·rw[if_pos h1]at h
   have e:(i+n).toNat=j:=Option.some.inj h
   exact⟨by rw[seqIndex_neg (by omega) h1,e],by omega,h1,by omega⟩
  ·rw[if_neg h1]at h;cases h
theorem D4 {α:Type}{xs:List α}{i:Int}{v:α}(h:fV xs i=some v):∃ j,seqIndex? i xs.length=some j/\xs[j]? = some v/\j<xs.length/\-(xs.length:Int)<=i/\i<xs.length:=by
 unfold fV at h
 cases e:mI xs.length i with
 |none=>rw[e]at h;cases h
 |some j =>
 rw[e]at h
 obtain⟨h1,h2,h3,h4⟩:=MG e
 exact⟨j,h1,h,h2,h3,h4⟩
theorem eI {α:Type}{xs:List α}{j:Nat}{v:α}(h:xs[j]? = some v):fV xs (j:Int)=some v:=by
 have hj:j<xs.length:=(List.getElem?_eq_some_iff.mp h).1
 have e:mI xs.length (j:Int)=some j:=by
  unfold mI
  rw[if_pos (by omega),if_pos (by omega)];simp
 unfold fV;rw[e];exact h
noncomputable def tY (b:Expr):Prop:=∀ o i,subscripted b false o i=operate [o,i] (getItem o i)
noncomputable def xB (X:Cx)(r:R2):Prop :=
 ∀(value slice:Expr)(pins:List (Addr×Obj))(s:Shared)(σ:St)(H:Hp)(x y:V)(v u:Value)(Q:VK),Inv X pins σ H s->RelV x v->RelV y u->r x y H Q ->
 subscripted slice false v u=operate [v,u] (getItem v u)->wpAny (model X.prog X.w) X.A (subscriptTail value slice v u) (EP X pins σ Q) X.xe s
noncomputable def VN (X:Cx)(id:String)(r:V->List V->Hp->VK->Prop):Prop :=
 ∀(pins:List (Addr×Obj))(s:Shared)(σ:St)(H:Hp)(x:V)(xs:List V)(v:Value)(us:List Value)(Q:VK),Inv X pins σ H s->RelV x v->aQ xs us->r x xs H Q ->
 wpAny (model X.prog X.w) X.A (call (.builtin id) (v::us)) (EP X pins σ Q) X.xe s
section
variable {X:Cx}{a b:Expr}{ta tb:TE}{pos:Pos}
theorem xB.or {r r':R2}(h:xB X r)(h':xB X r'):xB X (fun x y H Q=>r x y H Q∨r' x y H Q):=by
 intro value slice pins s σ H x y v u Q I rx ry q hs
 rcases q with q|q
 ·exact h value slice pins s σ H x y v u Q I rx ry q hs
 ·exact h' value slice pins s σ H x y v u Q I rx ry q hs
theorem VP {r:R2}(hr:xB X r)(ha:PE X a ta)(hb:PE X b tb)(hs:tY b):PE X (.Subscript a b pos) (Fk r ta tb):=by
 intro pins s σ H Q I h
 exact Subscript_ (Dp ha hb I h fun v u s2 x y H2 I2 rx ry q=>hr a b pins s2 σ H2 x y v u Q I2 rx ry q (hs _ _))
noncomputable def ZQ (K:PySem.W.Frag):R2:=fun x y H Q=>∃ p xs i v,x=.ref p/\y=.int i/\cG K H p xs/\fV xs i=some v/\Q v H
noncomputable def Ay (K:PySem.W.Frag):R2:=fun x y H Q=>∃ p xs i v,x=.ref p/\y=.int i/\dZ K H p xs/\fV xs i=some v/\Q v H
noncomputable def Af:R2:=fun x y H Q=>∃ z i c,x=.str z/\y=.int i/\z.length<=sizeLine/\fV z.cps.toList i=some c/\Q (.str ⟨#[c]⟩) H
theorem X8:xB X (ZQ X.K):=by
 intro value slice pins s σ H x y v u Q I rx ry h hs
 obtain⟨p,xs,i,z,rfl,rfl,hq,he,q⟩:=h
 cases rx
 obtain⟨t,rfl⟩:=ry
 obtain⟨aD,r,pl,hz⟩:=I.list hq
 obtain⟨j,h1,h2,h3,h4,h5⟩:=D4 he
 obtain⟨w,ew,rw'⟩:=r.get h2
 have hl:=r.length
 have hn:=qX
 have fin:EP X pins σ Q w s:=⟨z,H,I,rw',q⟩
 by_cases h0:0<=i
 ·have hj:i.toNat=j:=by
   rw[seqIndex_of h0 h5]at h1
   exact Option.some.inj h1
  exact item_listR pl.isList h0 (by omega) (by rw[hj];simpa using ew) fin hs
 ·have hj:(i+(aD.toArray.size:Int)).toNat=j:=by
   rw[seqIndex_neg (by omega) h4]at h1
   rw[List.size_toArray,<-hl]
   exact Option.some.inj h1
  exact subscriptTail_builtinR (x:=w) pl.isList.typeIs slot_list_getitem.lookup
   (wpAny_getItem_list_neg (Q:=fun r s'=>r=w/\EP X pins σ Q r s') pl.isList (by omega) (by rw[List.size_toArray]<;>omega) (by omega) (by rw[hj];simpa using ew) ⟨rfl,fin⟩) hs
theorem lF:xB X (Ay X.K):=by
 intro value slice pins s σ H x y v u Q I rx ry h hs
 obtain⟨p,xs,i,z,rfl,rfl,hq,he,q⟩:=h
 cases rx
 obtain⟨t,rfl⟩:=ry
 obtain⟨aD,r,pl,hz⟩:=I.tuple hq
 obtain⟨j,h1,h2,h3,h4,h5⟩:=D4 he
 obtain⟨w,ew,rw'⟩:=r.get h2
 have hl:=r.length
 have hn:=qX
 have fin:EP X pins σ Q w s:=⟨z,H,I,rw',q⟩
 exact subscriptTail_builtinR (x:=w) pl.typeIs slot_tuple_getitem.lookup
  (getItem_tuple (j:=j) (Q:=fun r s'=>r=w/\EP X pins σ Q r s') pl (by omega) (by omega) (by rw[List.size_toArray,<-hl];exact h1) (by simpa using ew) ⟨rfl,fin⟩) hs
theorem J6:xB X Af:=by
 intro value slice pins s σ H x y v u Q I rx ry h hs
 obtain⟨z,i,c,rfl,rfl,hz,he,q⟩:=h
 obtain⟨t,rfl⟩:=rx
 obtain⟨t',rfl⟩:=ry
 obtain⟨j,h1,h2,h3,h4,h5⟩:=D4 he
 have hl:z.cps.toList.length=z.length:=by simp [Str.length]
 rw[hl]at h1 h4 h5
 have hn:=qX
 exact tail_any (typeIs_str s z t) slot_str_getitem.lookup (getItem_str (c:=c) (by
 have e1:decide (i < -(2 ^ 63:Int))=false:=decide_eq_false (by omega)
 have e2:decide (i ≥ 2 ^ 63)=false:=decide_eq_false (by omega)
 rw[e1,e2,Bool.or_false]) (by rw[h1];simpa using h2) ⟨.str ⟨#[c]⟩,H,I.tok _,⟨_,rfl⟩,q⟩) hs
noncomputable def Lp (K:PySem.W.Frag):R2:=fun x y H Q=>ZQ K x y H Q∨Ay K x y H Q∨Af x y H Q
theorem Az:xB X (Lp X.K):=X8.or (lF.or J6)
theorem OA (aD:List Value)(n j:Nat)(u:Value):Obj.mapSeq (·.setIfInBounds j u) { cls:=.type "list", data:=.seq aD.toArray n } = { cls:=.type "list", data:=.seq (aD.set j u).toArray n }:=by
 simp [Obj.mapSeq]
theorem Inv.lst {pins:List (Addr×Obj)}{σ:St}{H:Hp}{s:Shared}{p:Addr}{xs:List V}(I:Inv X pins σ H s)(h:H p=some (.lst xs)):
 ∃(aD:List Value)(n:Nat),aQ xs aD/\s.heap.get? p=some { cls:=.type "list", data:=.seq aD.toArray n }/\xs.length<=sizeLine:=by
 obtain⟨z,aD,n,r,e⟩:=I.cB p _ h
 exact⟨aD,n,r,e,z⟩
theorem Inv.Z6 {pins:List (Addr×Obj)}{σ:St}{H:Hp}{s:Shared}{p:Addr}{xs ys:List V}{aD kT:List Value}{n n':Nat}{f:Obj->Obj}(I:Inv X pins σ H s)(h:H p=some (.lst xs))
  (ho:s.heap.get? p=some { cls:=.type "list", data:=.seq aD.toArray n })(hf:f { cls:=.type "list", data:=.seq aD.toArray n } = { cls:=.type "list", data:=.seq kT.toArray n' })(r:aQ ys kT)(hz:ys.length<=sizeLine)(t:Nat):
  Inv X pins σ (upd H p (.lst ys)) { s with heap:=s.heap.update p f,toks:=t }:=by
 have e:(s.heap.update p f).get? p=some { cls:=.type "list", data:=.seq kT.toArray n' }:=by
  rw[Heap.get?_update_self f ho (by rw[hf]<;>rfl),hf]
 refine I.write (x:=p) (e:=p) (by rw[h];trivial) (.inl rfl) (fun b u hb q=>(Heap.get?_update_other _ _ (Ne.symm hb)).trans q) ⟨_,e⟩ ?_
 exact⟨hz,kT,n',r,e⟩
noncomputable def Hj:V->V->V->Hp->(Hp->Prop)->Prop:=fun o i v H Q=>∃ p xs k j,o=.ref p/\i=.int k/\H p=some (.lst xs)/\mI xs.length k=some j/\Q (upd H p (.lst (xs.set j v)))
theorem set_list:Ah X Hj:=by
 intro pins s σ H o i v ov iv u Q I ro ri rv h
 obtain⟨p,xs,k,j,rfl,rfl,hp,hj,q⟩:=h
 cases ro
 obtain⟨t,rfl⟩:=ri
 obtain⟨aD,n,r,ho,hz⟩:=I.lst hp
 obtain⟨h1,h2,h3,h4⟩:=MG hj
 have hl:=r.length
 have hn:=qX
 have I':Inv X pins σ (upd H p (.lst (xs.set j v))) { s with heap:=s.heap.update p (Obj.mapSeq (·.setIfInBounds j u)) } :=
  I.Z6 hp ho (OA aD n j u) (r.set rv j) (by rw[List.length_set];exact hz) s.toks
 by_cases h0:0<=k
 ·have hk:k.toNat=j:=by
   rw[seqIndex_of h0 h4]at h1
   exact Option.some.inj h1
  exact PySem.W.ki_setAt ho h0 (by omega) (by rw[List.size_toArray,<-hl];exact h4) (by rw[hk];exact⟨_,I',q⟩)
 ·have hk:(k+(aD.toArray.size:Int)).toNat=j:=by
   rw[seqIndex_neg (by omega) h3]at h1
   rw[List.size_toArray,<-hl]
   exact Option.some.inj h1
  exact PySem.W.ki_setBack ho (by omega) (by rw[List.size_toArray,<-hl];exact h3) (by omega) (by rw[hk];exact⟨_,I',q⟩)
theorem KH (lo hi:Option Int)(n:Nat):(sliceBounds lo hi none n).1=((HT.cE n 0 lo:Nat):Int)/\(sliceBounds lo hi none n).2.1=((HT.cE n n hi:Nat):Int)/\(sliceBounds lo hi none n).2.2=1:=by
 refine⟨?_,?_,rfl⟩
 ·cases lo with
 |none=>simp [sliceBounds,HT.cE]
 |some i =>
  simp only[sliceBounds,HT.cE,Option.getD_none,show(1:Int)>0 by decide,if_true]
  by_cases h:i<0
  ·simp only[h,if_true]<;>omega
  ·simp only[h,if_false]<;>omega
 ·cases hi with
 |none=>simp [sliceBounds,HT.cE]
 |some i =>
  simp only[sliceBounds,HT.cE,Option.getD_none,show(1:Int)>0 by decide,if_true]
  by_cases h:i<0
  ·simp only[h,if_true]<;>omega
  ·simp only[h,if_false]<;>omega
theorem G2 (aD:List Value)(lo hi:Option Int):slicePick aD.toArray lo hi none=((aD.drop (HT.cE aD.length 0 lo)).take (HT.cE aD.length aD.length hi-HT.cE aD.length 0 lo)).toArray:=by
 obtain⟨h1,h2,h3⟩:=KH lo hi aD.toArray.size
 unfold slicePick
 rw[h1,h2,h3]
 simp only[sliceRange_one,pick_run,List.size_toArray]<;>rfl
noncomputable def Ei (K:PySem.W.Frag):V->Option Int->Option Int->Hp->VK->Prop:=fun x lo hi H Q=>∃ a xs,x=.ref a/\cG K H a xs/\∀ p,H p=none->Q (.ref p) (upd H p (.lst (D1 xs lo hi)))
theorem Y9:zE X (Ei X.K):=by
 intro pins s σ H x v vl vu lo hi sl Q I rx hs pl pu h
 obtain⟨a,xs,rfl,hx,q⟩:=h
 cases rx
 obtain⟨aD,r,ht,hz⟩:=I.list hx
 have hlen:=r.length
 refine⟨"list", _,slot_list_getitem.lookup,ht.isList.typeIs,?_⟩
 refine wpAny_getItem_list_slice ht.isList hs pl pu .none (by simp) ?_ (by rw[List.size_toArray]<;>omega)
 rw[G2,<-hlen]
 refine⟨.ref s.heap.objs.size,_,I.laid (t':=s.toks) (o:=.lst (D1 xs lo hi)) (fun b ob q=>Heap.get?_push_of_some _ q) (Nat.le_refl _) ?_,rfl,q _ (I.cB.fresh (Nat.le_refl _))⟩
 exact⟨Nat.le_trans (AX xs lo hi) hz,_,0,(r.drop (HT.cE xs.length 0 lo)).take (HT.cE xs.length xs.length hi-HT.cE xs.length 0 lo),Heap.get?_push_size _ rfl⟩
theorem HP:hJ X (compareOp .NotIn) (fun x y H Q=>∃ i j,x=.str i/\y=.str j/\Q (.bl (!(!(Builtin.Str.occurrences j i 0 j.length 1).isEmpty))) H):=by
 intro pins s σ H x y v u Q I rx ry h
 obtain⟨i,j,rfl,rfl,q⟩:=h
 obtain⟨t,rfl⟩:=rx
 obtain⟨t',rfl⟩:=ry
 exact notIn_str ⟨.bl _,H,I,rfl,q⟩
theorem IC:vY X (.type "list") (fun xs H Q=>∃ p ys,xs=[.ref p]/\(cG X.K H p ys∨dZ X.K H p ys)/\∀ l,H l=none->Q (.ref l) (upd H l (.lst ys))):=by
 intro pins s σ H xs us Q I r h
 obtain⟨p,ys,rfl,hq,q⟩:=h
 obtain⟨u,rfl,rx⟩:=vals1 r
 cases rx
 have fin:∀(aD:List Value),aQ ys aD->ys.length<=sizeLine->∀(h':Heap)(c':Nat),(∀ b o',s.heap.get? b=some o'->h'.get? b=some o') ->
   h'.get? s.heap.objs.size=some { cls:=.type "list", dict:=none,data:=.seq aD.toArray c',slots:=#[] }->EP X pins σ Q (.ref s.heap.objs.size) { s with heap:=h' }:=fun aD r' hz h' c' kp e =>
  ⟨.ref s.heap.objs.size,_,I.laid (t':=s.toks) kp (Nat.le_refl _) (show jL X.prog X.w _ h' _ (.lst ys)from⟨hz,aD,c',r',e⟩),rfl,q _ (I.cB.fresh (Nat.le_refl _))⟩
 rcases hq with hq|hq
 ·obtain⟨aD,r',pl,hz⟩:=I.list hq
  have hlen:=r'.length
  obtain⟨o,ho,hc,n,hd⟩:=pl.isList
  exact call_list_seq p (.inl rfl) ho hc hd (fun h' c' kp e=>fin aD r' hz h' c' kp e) (by simp only[List.size_toArray]<;>omega)
 ·obtain⟨aD,r',pl,hz⟩:=I.tuple hq
  have hlen:=r'.length
  obtain⟨o,ho,hc,n,hd⟩:=pl
  exact call_list_seq p (.inr rfl) ho hc hd (fun h' c' kp e=>fin aD r' hz h' c' kp e) (by simp only[List.size_toArray]<;>omega)
theorem xF:vY X (.type "tuple") (fun xs H Q=>∃ p ys,xs=[.ref p]/\((cG X.K H p ys/\∀ l,H l=none->Q (.ref l) (upd H l (.tup ys)))∨(dZ X.K H p ys/\Q (.ref p) H))):=by
 intro pins s σ H xs us Q I r h
 obtain⟨p,ys,rfl,h⟩:=h
 obtain⟨u,rfl,rx⟩:=vals1 r
 cases rx
 rcases h with⟨hq,q⟩|⟨hq,q⟩
 ·obtain⟨aD,r',pl,hz⟩:=I.list hq
  have hlen:=r'.length
  refine call_tuple_list pl.isList (fun h' kp=>?_) (by simp only[List.size_toArray]<;>omega)
  have I1:Inv X pins σ H { s with heap:=h' }:=I.kept (t':=s.toks) kp
  have I2:Inv X pins σ (upd H h'.objs.size (.tup ys)) { s with heap:=h'.push { cls:=.type "tuple", data:=.seq aD.toArray } } :=
   I1.laid (t':=s.toks) (fun b o e=>Heap.get?_push_of_some _ e) (Nat.le_refl _) (show jL X.prog X.w _ _ _ (.tup ys)from⟨hz,aD,r',nW.new _ _⟩)
  exact⟨.ref h'.objs.size,_,I2,rfl,q _ (I1.cB.fresh (Nat.le_refl _))⟩
 ·obtain⟨aD,r',pl,hz⟩:=I.tuple hq
  exact call_tuple_same pl ⟨.ref p,H,I,rfl,q⟩
noncomputable def PV (K:PySem.W.Frag)(T:String)(x:V)(H:Hp):Prop:=match x with
 |.str _=>T ="str"
 |.int _=>T ="int"
 |.ref p=>(T ="list" /\ ∃ xs,cG K H p xs)∨(T ="tuple" /\ ∃ o,K.lookup p=some o/\o.cls=.type "tuple" /\ o.dict=none) ∨
  (T ="dict" /\ ((∃ hU,H p=some (.dK hU))∨∃ hU,H p=some (.dT hU)))∨(T ="set" /\ ∃ S n,H p=some (.set S n))
 |_=>False
theorem PH {pins:List (Addr×Obj)}{σ:St}{H:Hp}{s:Shared}{T:String}{x:V}{v:Value}(I:Inv X pins σ H s)(r:RelV x v)(ty:PV X.K T x H):
  s.TypeIs v T/\∀ a,v=.ref a->∃ ob,s.heap.get? a=some ob/\ob.dict=none:=by
 cases x with
 |str z =>
  obtain⟨t,rfl⟩:=r
  cases (show T ="str" from ty)
  exact⟨typeIs_str s z t,fun _ e=>nomatch e⟩
 |int i =>
  obtain⟨t,rfl⟩:=r
  cases (show T ="int" from ty)
  exact⟨typeIs_int s i t,fun _ e=>nomatch e⟩
 |ref p =>
  cases r
  rcases ty with⟨rfl,xs,hq⟩|⟨rfl,o,hk,hc,hd⟩|⟨rfl,hk⟩|⟨rfl,S,n,hk⟩
  ·obtain⟨aD,_,pl,_⟩:=I.list hq
   refine⟨pl.isList.typeIs,fun a e=>?_⟩
   cases e
   obtain⟨o,n,e,c,hd,_⟩:=pl
   exact⟨o,e,hd⟩
  ·refine⟨⟨o,I.jY p o hk,hc⟩,fun a e=>?_⟩
   cases e
   exact⟨o,I.jY _ o hk,hd⟩
  ·have z:∃ o,s.heap.get? p=some o/\o.ExactDict:=by
    rcases hk with⟨hU,hk⟩|⟨hU,hk⟩
    ·obtain⟨_,_,_,_,o,_,_,e,ex,_⟩:=I.cB p _ hk
     exact⟨o,e,ex⟩
    ·obtain⟨_,_,_,_,o,_,_,e,ex,_⟩:=I.cB p _ hk
     exact⟨o,e,ex⟩
   obtain⟨o,e,ex⟩:=z
   refine⟨⟨o,e,ex.1⟩,fun a e2=>?_⟩
   cases e2
   exact⟨o,e,ex.2.1⟩
  ·obtain⟨o,_,_,_,e,ex,_⟩:=I.cB p _ hk
   refine⟨⟨o,e,ex.1⟩,fun a e2=>?_⟩
   cases e2
   exact⟨o,e,ex.2.1⟩
 |_=>exact False.elim ty
noncomputable def Ms (K:PySem.W.Frag)(T:String)(r:V->List V->Hp->VK->Prop)(to:TE):TE:=fun σ H Q=>to σ H fun x H1=>PV K T x H1/\r x [] H1 Q
noncomputable def Qc (K:PySem.W.Frag)(T:String)(r:V->List V->Hp->VK->Prop)(to:TE)(t:TA):TE:=fun σ H Q=>to σ H fun x H1=>PV K T x H1/\t σ H1 fun xs H2=>r x xs H2 Q
variable {o e:Expr}{es:List Expr}{to:TE}{t:TA}{name:Str}{apos jZ:Pos}{T id:String}{r:V->List V->Hp->VK->Prop}
theorem Dh (pa:PlainAttrs T)(slot:Slot T name id)(hty:typeOf (.builtin id)=pure (.type "method_descriptor"))(hm:VN X id r)(ho:PE X o to)
 (jO:attributeBase o name X.env (eval o X.env)=eval o X.env:=by rfl)(jP:(apos.endLine==jZ.line)=true:=by rfl):PE X (.Call (.Attribute o name apos) [] [] jZ) (Ms X.K T r to):=by
 intro pins s σ H Q I h
 refine wpAny_Call_method0_late jO jP (bA (ho pins s σ H _ I h) fun v s1 ⟨x,H1,I1,r1,ty,q1⟩=>?_)
 obtain⟨h1,h2⟩:=PH I1 r1 ty
 exact⟨T,id,pa,slot,hty,h1,h2,Calls.callWith_builtin rfl (PySem.evalArgs_none (hm pins s1 σ H1 x [] v [] Q I1 r1 .nil q1))⟩
theorem Jp (pa:PlainAttrs T)(slot:Slot T name id)(hty:typeOf (.builtin id)=pure (.type "method_descriptor"))(hm:VN X id r)(ho:PE X o to)(ha:PA X (e::es) t)
 (jO:attributeBase o name X.env (eval o X.env)=eval o X.env:=by rfl)
 (tM:((backTo jZ (starEach (e::es) X.env)).all (fun x=>!x.1)&&(backToKw jZ (keywordEach [] X.env)).all (fun x=>x.1.isSome)
  && decide ((e::es).length+([]:List Keyword).length+(if([]:List Keyword).isEmpty then 0 else 1)<30))=true:=by rfl)
 (jP:(apos.endLine==jZ.line)=true:=by rfl)(hs:starEach (e::es) X.env=(false,eval e X.env)::starEach es X.env:=by rfl)(rK:(backTo jZ (starEach es X.env)).any (·.1)=false:=by rfl):
 PE X (.Call (.Attribute o name apos) (e::es) [] jZ) (Qc X.K T r to t):=by
 intro pins s σ H Q I h
 refine wpAny_Call_method_late jO tM jP rfl (bA (ho pins s σ H _ I h) fun v s1 ⟨x,H1,I1,r1,ty,q1⟩=>?_)
 obtain⟨h1,h2⟩:=PH I1 r1 ty
 refine⟨T,id,pa,slot,hty,h1,h2,?_⟩
 have hA:=ha jZ pins s1 σ H1 _ I1 q1
 rw[hs]at hA ⊢
 refine Calls.callWith_builtin (by show(false||(backTo jZ (starEach es X.env)).any (·.1))=false;rw[rK]<;>rfl) (Calls.evalArgs_plain ?_)
 exact bA hA fun us s2 ⟨vs,H2,I2,r2,q2⟩=>hm pins s2 σ H2 x vs v us Q I2 r1 r2 q2
end
end L2
namespace L2
open PySem PySem.Spec PyProof.Rows
noncomputable def Dt (X:Cx)(id:String)(r:V->List V->Hp->VK->Prop):Prop :=
 ∀(pins:List (Addr×Obj))(s:Shared)(σ:St)(H:Hp)(x:V)(xs:List V)(v:Value)(us:List Value)(Q:VK),Inv X pins σ H s->RelV x v->aQ xs us->r x xs H Q ->
 wpAny (model X.prog X.w) X.A (call (.builtin id) (v::us)) (EP X pins σ Q) X.xe s
theorem aQ.one:∀{x:V}{us:List Value},aQ [x] us->∃ u,us=[u]/\RelV x u
 |_,_,.cons r .nil=>⟨_,rfl,r⟩
theorem aQ.zero:∀{us:List Value},aQ [] us->us=[]
 |_,.nil=>rfl
theorem aQ.dropLast {xs:List V}{us:List Value}(h:aQ xs us):aQ xs.dropLast us.dropLast:=by
 induction h with
 |nil=>exact .nil
 |cons r t ih =>
 cases t with
 |nil=>exact .nil
 |cons q t'=>exact .cons r ih
theorem aQ.reverse {xs:List V}{us:List Value}(h:aQ xs us):aQ xs.reverse us.reverse:=by
 induction h with
 |nil=>exact .nil
 |cons r t ih=>rw[List.reverse_cons,List.reverse_cons];exact aQ.append ih (.cons r .nil)
theorem aQ.rep {xs:List V}{us:List Value}(h:aQ xs us):∀ k:Nat,aQ (List.replicate k xs).flatten (List.replicate k us).flatten
 |0=>.nil
 |k+1=>by
  rw[List.replicate_succ,List.replicate_succ,List.flatten_cons,List.flatten_cons]
  exact aQ.append h (aQ.rep h k)
theorem OE {α:Type}(l:List α):l.eraseIdx (l.length-1)=l.dropLast:=by
 induction l with
 |nil=>rfl
 |cons a r ih =>
  cases r with
  |nil=>rfl
  |cons b r =>
   have e:(a::b::r).length-1=((b::r).length-1)+1:=by
    have h1:(a::b::r).length=r.length+2:=rfl
    have h2:(b::r).length=r.length+1:=rfl
    omega
   rw[e,List.eraseIdx_cons_succ,ih]
   all_goals rfl
theorem foldl_rep (aD:List Value):∀(k:Nat)(acc:List Value),
  List.foldl (fun x1 x2=>x1++x2) acc.toArray (List.replicate k aD.toArray)=(acc++(List.replicate k aD).flatten).toArray
 |0,acc=>by simp
 |k+1,acc=>by
  have e:acc.toArray++aD.toArray=(acc++aD).toArray:=by simp
  have e2:(acc++aD)++(List.replicate k aD).flatten=acc++(List.replicate (k+1) aD).flatten:=by
   rw[List.replicate_succ,List.flatten_cons,List.append_assoc]
  rw[<-e2,<-foldl_rep aD k (acc++aD),<-e,List.replicate_succ,List.foldl_cons]
section
variable {X:Cx}{pins:List (Addr×Obj)}{σ:St}{H:Hp}{s:Shared}{l b:Addr}{xs ys zs:List V}
theorem Inv.OF {aD kT:List Value}{n:Nat}{f:Array Value->Array Value}{t':Nat}(I:Inv X pins σ H s)(hH:H l=some (.lst xs))
 (e:s.heap.get? l=some { cls:=.type "list", data:=.seq aD.toArray n })(hf:f aD.toArray=kT.toArray)(hv:aQ ys kT)(hz:ys.length<=sizeLine):
 Inv X pins σ (upd H l (.lst ys)) { s with heap:=s.heap.update l (Obj.mapSeq f),toks:=t' }:=by
 have q:=PySem.IsL.update e f
 rw[hf]at q
 refine I.write (x:=l) (e:=l) (by rw[hH];exact trivial) (.inl rfl) (fun b' u hb hu=>(Heap.get?_update_other s.heap (Obj.mapSeq f) (Ne.symm hb)).trans hu) ⟨_,q⟩ ?_
 exact⟨hz,kT,_,hv,q⟩
theorem Inv.TL {aD:List Value}{t':Nat}(I:Inv X pins σ H s)(hv:aQ ys aD)(hz:ys.length<=sizeLine):
 Inv X pins σ (upd H s.heap.objs.size (.lst ys)) { s with heap:=s.heap.push { cls:=.type "list", data:=.seq aD.toArray },toks:=t' } :=
 I.laid (fun _ _ q=>Heap.get?_push_of_some _ q) (Nat.le_refl _) ⟨hz,aD,0,hv,Heap.get?_push_size _ rfl⟩
theorem Inv.fresh (I:Inv X pins σ H s):H s.heap.objs.size=none:=I.cB.fresh (Nat.le_refl _)
theorem Inv.wA (I:Inv X pins σ H s)(hH:H l=some (.lst xs)):xs.length<=sizeLine/\∃(aD:List Value)(n:Nat),aQ xs aD/\xs.length=aD.length/\s.heap.get? l=some { cls:=.type "list", data:=.seq aD.toArray n }:=by
 obtain⟨z,aD,n,r,e⟩:=I.cB l _ hH
 exact⟨z,aD,n,r,r.length,e⟩
theorem BS {n:Nat}(h:n<=sizeLine):Builtin.List.listTooLong n=false:=by
 unfold Builtin.List.listTooLong
 exact decide_eq_false (by omega)
end
section
variable {X:Cx}
noncomputable def WX:V->List V->Hp->VK->Prop:=fun x vs H Q=>∃ l xs y,x=.ref l/\vs=[y]/\H l=some (.lst xs)/\xs.length<sizeLine/\Q .non (upd H l (.lst (xs++[y])))
theorem rY:Dt X "list.append" WX:=by
 intro pins s σ H x vs v us Q I rx rv h
 obtain⟨l,xs,y,rfl,rfl,hH,hz,q⟩:=h
 cases rx
 obtain⟨u,rfl,ru⟩:=rv.one
 obtain⟨z,aD,n,r,hl,e⟩:=I.wA hH
 refine call_meets F.slot_list_append ⟨_,e,rfl⟩ F.entry_list_append (F.args_list_append_2 _ _) (PySem.list_append l aD.toArray n u (by rw[List.size_toArray];omega)) ⟨e,?_⟩
 refine⟨.non,_,I.OF (kT:=aD++[u]) hH e (by simp) (r.append (.cons ru .nil)) ?_,rfl,q⟩
 rw[List.length_append,List.length_singleton]
 omega
noncomputable def YU:V->List V->Hp->VK->Prop:=fun x vs H Q=>∃ l b xs zs,x=.ref l/\vs=[.ref b]/\H l=some (.lst xs)/\H b=some (.lst zs)/\xs.length+zs.length<=sizeLine/\Q .non (upd H l (.lst (xs++zs)))
theorem yN:Dt X "list.extend" YU:=by
 intro pins s σ H x vs v us Q I rx rv h
 obtain⟨l,b,xs,zs,rfl,rfl,hH,hB,hz,q⟩:=h
 cases rx
 obtain⟨u,rfl,ru⟩:=rv.one
 cases ru
 obtain⟨z,aD,n,r,hl,e⟩:=I.wA hH
 obtain⟨z2,nK,n2,r2,hl2,e2⟩:=I.wA hB
 have iU:aD.toArray.size+nK.toArray.size<=sizeLine:=by rw[List.size_toArray,List.size_toArray];omega
 have hlong:¬(!aD.toArray.isEmpty&&Builtin.List.listTooLong (aD.toArray.size+nK.toArray.size))=true:=by
  rw[BS iU,Bool.and_false]
  exact Bool.false_ne_true
 refine call_meets F.slot_list_extend ⟨_,e,rfl⟩ F.entry_list_extend (F.args_list_extend_2 _ _)
  (AutoSeq1.list_extend_list_list_0 l aD.toArray n b nK.toArray n2 hlong (by rw[List.size_toArray];omega) (by omega)) ⟨e,e2,?_⟩
 refine⟨.non,_,I.OF (kT:=aD++nK) hH e (by simp) (r.append r2) ?_,rfl,q⟩
 rw[List.length_append]
 omega
noncomputable def Oz:V->List V->Hp->VK->Prop:=fun x vs H Q=>∃ l xs y,x=.ref l/\vs=[]/\H l=some (.lst xs)/\xs[xs.length-1]? = some y/\Q y (upd H l (.lst xs.dropLast))
theorem JL:Dt X "list.pop" Oz:=by
 intro pins s σ H x vs v us Q I rx rv h
 obtain⟨l,xs,y,rfl,rfl,hH,hy,q⟩:=h
 cases rx
 have hus:=rv.zero
 subst hus
 obtain⟨z,aD,n,r,hl,e⟩:=I.wA hH
 obtain⟨u,hu,ru⟩:=r.get hy
 have hy':aD.toArray[aD.toArray.size-1]? = some u:=by
  show aD.toArray[aD.length-1]? = some u
  rw[<-Array.getElem?_toList,<-hl]
  exact hu
 refine call_meets F.slot_list_pop ⟨_,e,rfl⟩ F.entry_list_pop (F.args_list_pop_1 _) (MeetsSeq.list_pop_last l aD.toArray n u hy' (by rw[List.size_toArray];omega)) ⟨e,?_⟩
 refine⟨y,_,I.OF (kT:=aD.dropLast) hH e ?_ r.dropLast ?_,ru,q⟩
 ·show aD.toArray.eraseIdxIfInBounds (aD.toArray.size-1)=aD.dropLast.toArray
  rw[List.size_toArray,List.eraseIdxIfInBounds_toArray,OE]
 ·rw[List.length_dropLast]
  omega
noncomputable def Di:R2:=fun x y H Q=>∃ l b xs zs,x=.ref l/\y=.ref b/\H l=some (.lst xs)/\H b=some (.lst zs)/\xs.length+zs.length<=sizeLine/\∀ p,H p=none->Q (.ref p) (upd H p (.lst (xs++zs)))
theorem Bf:hJ X (binaryOp .Add) Di:=by
 intro pins s σ H x y v u Q I rx ry h
 obtain⟨l,b,xs,zs,rfl,rfl,hH,hB,hz,q⟩:=h
 cases rx
 cases ry
 obtain⟨z,aD,n,r,hl,e⟩:=I.wA hH
 obtain⟨z2,nK,n2,r2,hl2,e2⟩:=I.wA hB
 refine PySem.P.add_list e e2 ?_ (by rw[List.size_toArray,List.size_toArray];omega)
 have ea:aD.toArray++nK.toArray=(aD++nK).toArray:=by simp
 rw[ea]
 exact⟨.ref _,_,I.TL (t':=s.toks) (r.append r2) (by rw[List.length_append];omega),rfl,q _ I.fresh⟩
noncomputable def Ej:R2:=fun x y H Q=>∃ l k xs,x=.ref l/\y=.int k/\H l=some (.lst xs)/\-(2 ^ 63)<=k/\k<2 ^ 63/\xs.length*k.toNat<=sizeLine /\
 ∀ p,H p=none->Q (.ref p) (upd H p (.lst (List.replicate k.toNat xs).flatten))
theorem len_rep {α:Type}(xs:List α)(k:Nat):(List.replicate k xs).flatten.length=k*xs.length:=by
 induction k with
 |zero=>simp
 |succ k ih=>rw[List.replicate_succ,List.flatten_cons,List.length_append,ih,Nat.succ_mul,Nat.add_comm]
theorem Cy:hJ X (binaryOp .Mult) Ej:=by
 intro pins s σ H x y v u Q I rx ry h
 obtain⟨l,k,xs,rfl,rfl,hH,h1,h2,hz,q⟩:=h
 cases rx
 obtain⟨t,rfl⟩:=ry
 obtain⟨z,aD,n,r,hl,e⟩:=I.wA hH
 have hlen:aD.toArray.size*k.toNat<=sizeLine:=by rw[List.size_toArray,<-hl];exact hz
 have hcap:¬aD.toArray.size*k.toNat>(2 ^ 63-1) / 8:=by
  have:(sizeLine:Nat)<=(2 ^ 63-1) / 8:=by decide
  omega
 have nL:¬(!Builtin.List.listFitsIndex k)=true:=by
  rw[fitsIndex_both h1 h2]
  exact Bool.false_ne_true
 have hlong:¬Builtin.List.listTooLong (aD.toArray.size*k.toNat)=true:=by
  rw[BS hlen]
  exact Bool.false_ne_true
 have hnew:List.foldl (fun x1 x2=>x1++x2) #[] (List.replicate (if aD.toArray.isEmpty=true then 0 else k.toNat) aD.toArray)=(List.replicate k.toNat aD).flatten.toArray:=by
  have f0:∀ m:Nat,List.foldl (fun x1 x2=>x1++x2) #[] (List.replicate m aD.toArray)=(List.replicate m aD).flatten.toArray:=fun m=>by
   have:=foldl_rep aD m []
   rw[List.nil_append]at this
   exact this
  rw[f0]
  cases aD with
  |nil=>simp
  |cons a r'=>rw[if_neg (by simp)]
 refine wpAny_binaryOp_repeat_ref (T :="list") (U :="int") (by decide) ⟨_,e,rfl⟩ (fun s'=>typeIs_int s' k t) noFill_list_mul F.fills_int_mul F.slot_int_rmul repeat_list F.slot_int_index.lookup
  (call_meets F.slot_int_rmul (typeIs_int s k t) F.entry_int_rmul (F.args_int_rmul_2 _ _) (int___rmul___int_list k t l aD.toArray n)
   ⟨e,rfl,⟨_,e,rfl⟩,call_meets F.slot_list_mul ⟨_,e,rfl⟩ F.entry_list_mul (F.args_list_mul_2 _ _) (AutoListH.list___mul___list_int_3 l aD.toArray n k t nL hcap hlong) ⟨e,?_⟩⟩)
 rw[hnew]
 exact⟨.ref _,_,I.TL (t':=s.toks) (r.rep k.toNat) (by rw[len_rep,Nat.mul_comm];exact hz),rfl,q _ I.fresh⟩
end
end L2
namespace Att
open PySem PySem.W PySem.Calls PyProof.Rows
theorem DF {P:Params}{h:Heap}:∀(ns:List Int)(vs:List Value),WellAll P h vs (ns.map WData.int)->IntsAre vs ns:=by
 intro ns
 induction ns with
 |nil =>
 intro vs w
 rw[List.map_nil]at w
 cases w
 exact .nil
 |cons n ns ih =>
 intro vs w
 rw[List.map_cons]at w
 cases w with
 |cons a b =>
  cases a
  exact .cons _ _ (ih _ b)
theorem RO {l:OpenLaw}{n:Nat}(hn:l.most=some n){P:Params}{h:Heap}{args:List WData}{vals:List Value}
  (hpre:l.row.toRowW.claim.pre args=true)(hwl:WellAll P h vals args):
  ∃ a vs ns,vals=[Value.ref a]/\args=[WData.list (ns.map WData.int)]/\h.get? a=some { cls:=.type "list", data:=.seq vs.toArray }/\IntsAre vs ns/\ns.length<=n:=by
 have hsh:WShape.hasAll [] args [.list .int]=true:=(pre_splitW hpre).1
 have hc:l.pre.holds [] { args:=args }=true:=(pre_splitW hpre).2
 obtain⟨d,r,rfl,h1,h2⟩:=hasAllW_cons hsh
 obtain rfl:=hasAllW_nil h2
 obtain⟨xs,rfl,h3⟩:=hasW_list h1
 obtain⟨ns,rfl⟩:=items_int h3
 have hlen:ns.length<=n:=by
  unfold OpenLaw.pre at hc
  have h4:(WTm.not (.lt (.lit (.int (n:Int))) (.len (.arg 0)))).holds [] { args:=[.list (ns.map .int)] }=true:=by
   have h4:=(holds_andW hc).1
   rw[hn]at h4
   exact h4
  have h5:=condW_of h4 (w_not (w_lt w_lit (w_len_list (w_arg rfl))))
  rw[List.length_map]at h5
  refine Nat.le_of_not_lt fun q=>?_
  have q':(n:Int)<((ns.length:Nat):Int):=by omega
  first
   |(rw[decide_eq_true q']at h5;exact absurd h5 (by decide))
   |(simp at h5;omega)
 cases hwl with
 |cons w1 w2 =>
  cases w2
  cases w1 with
  |list ho pL=>exact⟨_,_,ns,rfl,rfl,ho,DF ns _ pL,hlen⟩
theorem RY (l:OpenLaw)(args:List WData):l.row.toRowW.claim.post args (.bool true) args=true :=
 postW_of (r:=l.row.toRowW) (X:=(true==true))
 (show WShape.has [] (.bool true) .bool=true by first|rfl|decide|simp [WShape.has,WShape.arms,WShape.armsAll])
 (show(WTm.eq .res (.lit (.bool true))).value [] { args:=args,res:=some (.bool true),after:=args }=some (.bool (true==true))from w_eq_bool (w_res rfl) w_lit) rfl
theorem LM {l:OpenLaw}{n:Nat}{q:Program}{loose:List Str}{XP:(Str->Option Value)->Heap->Prop}{YP:World->Heap->Prop}{d:DefRec}
 (hn:l.most=some n)(hdf:d.params.defaults=[])
 (call:∀(w:World)(s₀ s₁:Shared)(mg mb:Str->Option Value)(fa:Addr)(o:Obj)(pm cd doc:Value)(a:Addr)(vs:List Value)(ns:List Int),
  Ground q loose [] XP w s₀ mg mb s₁.heap->YP w s₁.heap ->
  s₁.heap.get? fa=some o->o.data=.func (docDef d.name d.params d.body d.scope pm cd doc)->s₁.heap.CodeRec cd d.name->mg d.name=some (.ref fa) ->
  s₁.heap.get? a=some { cls:=.type "list", data:=.seq vs.toArray }->IntsAre vs ns->ns.length<=n->s₁.gens = #[] ->
  codeAny (model l.prog w) callerA (.call (.ref fa) ⟨[.ref a],[]⟩) (fun r s'=>r=.ok (.ret (.bool true))/\OldK s₁.heap s'.heap/\s'.os=s₁.os/\AllBare s'.gens) s₁):
 WalkO q loose XP YP l.row.toRowW d [] (fun f vs=>PySem.call f vs):=by
 intro w s₀ s₁ mg mb G Y fa o pm cd doc dV kV ho hd hcd hD hmg hg args vals as hpre hlay hrd hwl hlo
 obtain rfl:dV=.none:=Dflts.none hD hdf
 obtain rfl:kV=.none:=Dflts.noKw hD
 obtain⟨a,vs,ns,rfl,rfl,hobj,hints,hlen⟩:=RO hn hpre hwl
 refine enter_call (codeAny_mono (call w s₀ s₁ mg mb fa o pm cd doc a vs ns G Y ho (fd_plain hd) hcd hmg hobj hints hlen hg) fun r s' hq=>?_)
 obtain⟨rfl,h2,h3,h4⟩:=hq
 exact⟨.inl ⟨.bool true,.bool true,[],rfl,fun _=>rfl,.bool true,RY l _,fun _=>⟨List.Pairwise.nil,fun _ hm=>(nomatch hm)⟩⟩,h2,h3,h4⟩
end Att
namespace L2
open PySem PySem.Spec PyProof.Rows
theorem FE:∀{vs:List Value}{ns:List Int},IntsAre vs ns->aQ (ns.map V.int) vs
 |_,_,.nil=>.nil
 |_,_,.cons n t h=>.cons ⟨t,rfl⟩ (FE h)
noncomputable def OG (H:Hp):Prop:=∀ b,H b=none∨∃ o xs,H b=some (.frz o (.lst xs))
theorem UY {P:Program}{w:World}{K:PySem.W.Frag}{mg mb:Str->Option Value}{CX:wX}{k:Nat}{fa a:Addr}{fd:FuncData}{x:Str}{sp:Sp}{s₁:Shared}{vs:List Value}{ns:List Int}
  (KX:K.In s₁.heap)(hns:s₁.heap.Ns mainGlobals mg)(hb:s₁.heap.Ns builtinsNs mb)(hbb:∀ x:Str,x ≠"__name__" -> mb x=bootBuiltins x)(hlim:s₁.heap.NoLimit)(hg:s₁.gens = #[])
  (ha:s₁.heap.get? a=some { cls:=.type "list", data:=.seq vs.toArray })(hi:IntsAre vs ns)(hl:ns.length<=sizeLine)(hr:dN k callerA)
  (F:∀ base:Heap,K.In base->base.Ns mainGlobals mg->eV P w K mg base CX k fa fd [x] sp)(hbind:∀(s:Shared)(u:Value),BindsTo s fd ⟨[u],[]⟩ [(x,u)])
  (hsp:∀ H:Hp,OG H->cG K H a (ns.map V.int)->sp [.ref a] H (fun v _=>v=.bl true) fun _ _ _=>False)
  (hCX:∀ H e s',CX [] H s₁ (fun _ _ _=>False) e s'->False):
  codeAny (model P w) callerA (.call (.ref fa) ⟨[.ref a],[]⟩) (fun r s'=>r=.ok (.ret (.bool true))/\OldK s₁.heap s'.heap/\s'.os=s₁.os/\AllBare s'.gens) s₁:=by
 have rv:=FE hi
 have lenV:=hi.length
 have core:∀ H:Hp,OG H->cG K H a (ns.map V.int)->iN P w H s₁.heap->(∀ b,H b≠none->b=a)->(H a≠none->K.lookup a=none) ->
   codeAny (model P w) callerA (.call (.ref fa) ⟨[.ref a],[]⟩) (fun r s'=>r=.ok (.ret (.bool true))/\OldK s₁.heap s'.heap/\s'.os=s₁.os/\AllBare s'.gens) s₁:=by
  intro H hO hS cB hA hK
  have base_of:∀{b:Addr}{o:Obj},s₁.heap.get? b=some o->H b=none->(vJ s₁.heap H).get? b=some o:=fun e n=>SQ e n
  have noA:∀{b:Addr}{o:Obj}{es:Array DictEntry}{ep:Nat},s₁.heap.get? b=some o->o.data=.dict es ep->H b=none:=fun{b o es ep} e d=>by
   cases q:H b with
   |none=>rfl
   |some u =>
    have e':b=a:=hA b (by rw[q];simp)
    subst e'
    rw[ha]at e;cases e
    have d':Data.seq vs.toArray _=Data.dict es ep:=d
    cases d'
  have nsK:∀{b:Addr}{m:Str->Option Value},s₁.heap.Ns b m->(vJ s₁.heap H).Ns b m:=fun{b m} ⟨o,es,ep,e,d,r⟩=>⟨o,es,ep,base_of e (noA e d),d,r⟩
  have hKb:K.In (vJ s₁.heap H):=fun b o e=>base_of (KX b o e) (by
   cases q:H b with
   |none=>rfl
   |some u =>
    have e':b=a:=hA b (by rw[q];simp)
    subst e'
    rw[hK (by rw[q];simp)]at e;cases e)
  have hM:Mod K mg (vJ s₁.heap H):=⟨hKb,nsK hns,⟨mb,nsK hb,hbb⟩,let⟨mc,h1,h2⟩:=hlim;⟨mc,nsK h1,h2⟩⟩
  have e0:BO P w K mg (vJ s₁.heap H) callerA [] s₁ H:=⟨rfl,hM,fun b o e=>XI e,Nat.le_of_eq (PJ _ _),trivial,fun b hb=>absurd (show b∈([]:List Addr)from hb) (by simp),cB,.of_eq hg⟩
  refine codeAny_mono ((F _ hKb (nsK hns)).run callerA [] s₁ H ⟨[.ref a],[]⟩ [.ref a] [.ref a] _ _ hr e0 (hbind s₁ (.ref a)) (.cons rfl .nil) (hsp H hO hS)) fun r s' h=>?_
  cases r with
  |error e=>exact(hCX H e s' h).elim
  |ok fl =>
   cases fl with
   |next=>exact False.elim h
   |brk=>exact False.elim h
   |cont=>exact False.elim h
   |ret u =>
    obtain⟨v,H',os,bare,un,hok',r',q⟩:=h
    have q':v=.bl true:=q
    subst q'
    obtain rfl:u=Value.bool true:=r'
    refine⟨rfl,OldK.of_keep fun b o e=>?_,os,bare⟩
    cases q:H b with
    |none=>exact un.keep b o e q (by intro z;exact absurd (show b∈([]:List Addr)from z) (by simp)) (by simp)
    |some u =>
     rcases hO b with z|⟨ob,xs,z⟩
     ·rw[q]at z;cases z
     ·have z2:=un.tL b ob _ z
      obtain⟨e1,_⟩:=cB b _ z
      obtain⟨e2,_⟩:=hok' b _ z2
      rw[e]at e1;cases e1
      exact e2
 cases hk:K.lookup a with
 |some o =>
  have e:=KX a o hk
  rw[ha]at e
  cases e
  refine core (fun _=>none) (fun _=>.inl rfl) (.inr ⟨_,vs.toArray,_,hk,rfl,rfl,rfl,by rw[List.size_toArray,lenV];exact hl,by simpa using rv⟩) (fun b u z=>by have z':(none:Option HO)=some u:=z;cases z') (fun b z=>absurd rfl z) fun z=>absurd rfl z
 |none =>
  refine core (fun b=>if b=a then some (.frz { cls:=.type "list", data:=.seq vs.toArray } (.lst (ns.map V.int)))else none) (fun b=>?_) (.inl (.inr ⟨{ cls:=.type "list", data:=.seq vs.toArray },if_pos rfl⟩)) (fun b u z=>?_) (fun b z=>?_) fun _=>hk
  ·by_cases hb:b=a
   ·exact .inr ⟨_,_,if_pos hb⟩
   ·exact .inl (if_neg hb)
  ·by_cases hb:b=a
   ·have z':=(if_pos hb).symm.trans z
    cases z'
    subst hb
    exact⟨ha,by rw[List.length_map];exact hl,vs,_,rv,ha⟩
   ·have z':=(if_neg hb).symm.trans z
    cases z'
  ·by_cases hb:b=a
   ·exact hb
   ·exact absurd (if_neg hb) z
end L2
namespace L2
open PySem PySem.Spec PyProof.Rows
theorem YT {l:PySem.W.OpenLaw}{n k:Nat}{q:Program}{loose:List Str}{XP:(Str->Option Value)->Heap->Prop}{YP:World->Heap->Prop}{d:DefRec}{K:Params->PySem.W.Frag}{CX:World->wX}{sp:World->Sp}{x:Str}
 (hn:l.most=some n)(hn2:n<=sizeLine)(hdf:d.params.defaults=[])(hr:dN k callerA)
 (hY:∀(w:World)(h:Heap),YP w h->(K w.params).In h)
 (F:∀(w:World)(mg:Str->Option Value)(fa:Addr)(h:Heap),(K w.params).In h->h.Ns mainGlobals mg->mg d.name=some (.ref fa) ->
  ∃ fd:FuncData,(∀(s:Shared)(u:Value),BindsTo s fd ⟨[u],[]⟩ [(x,u)]) /\
  ∀ base:Heap,(K w.params).In base->base.Ns mainGlobals mg->eV l.prog w (K w.params) mg base (CX w) k fa fd [x] (sp w))
 (hsp:∀(w:World)(H:Hp)(a:Addr)(ns:List Int),ns.length<=n->OG H->cG (K w.params) H a (ns.map V.int)->sp w [.ref a] H (fun v _=>v=.bl true) fun _ _ _=>False)
 (hCX:∀(w:World)(H:Hp)(s:Shared)(e:Value)(s':Shared),CX w [] H s (fun _ _ _=>False) e s'->False):
 PySem.W.WalkO q loose XP YP l.row.toRowW d [] (fun f vs=>PySem.call f vs):=by
 refine Att.LM hn hdf fun w s₀ s₁ mg mb fa o pm cd doc a vs ns G Y ho hd hcd hmg hobj hints hlen hg=>?_
 have KX:=hY w _ Y
 obtain⟨fd,hb,hF⟩:=F w mg fa _ KX G.T.g hmg
 exact UY KX G.T.g G.T.b G.T.builtins G.T.nolimit hg hobj hints (Nat.le_trans hlen hn2) hr hF hb (fun H hO hS=>hsp w H a ns hlen hO hS) fun H e s'=>hCX w H s₁ e s'
end L2
namespace L2
open PySem PySem.Spec PyProof.Rows
noncomputable def mB (s:Stmt):Arguments:=match s with
 |.FunctionDef _ a _ _ _ _ _ _ _ _=>a
 |_=>{ posonlyargs:=[],args:=[],vararg:=none,kwonlyargs:=[],kw_defaults:=[],kwarg:=none,defaults:=[] }
noncomputable def iR (s:Stmt):List Stmt:=match s with
 |.FunctionDef _ _ b _ _ _ _ _ _ _=>b
 |_=>[]
noncomputable def aP (s:Stmt):Scope:=match s with
 |.FunctionDef _ _ _ _ _ _ sc _ _ _=>sc
 |_=>{ kind:=.function,names:=[],isGenerator:=false,isCoroutine:=false }
noncomputable abbrev gP:wX:=fun _ _ _ _ _ _=>False
noncomputable abbrev E0:XK:=fun _ _ _=>False
theorem M7 {X:Cx}:rA gP X E0:=fun _ _ _ _ _ _ _ h=>h.elim
structure CZ (K:PySem.W.Frag)(x qual:Str)(st:Stmt)(f:Addr)(fd:FuncData):Prop where
 ex:∃(oc:Value)(od:Option Addr)(kV doc pm:Value)(an:Option Addr)(bL ct:Value)(osl:Array (Option Value)),
 fd=PySem.W.fnOf x qual (mB st) (iR st) (aP st) .none kV doc pm an bL ct/\K.lookup f=some ⟨oc,od,.func fd,osl⟩/\PySem.W.codeIn K bL qual=true
 kp:PySem.W.keepIn K (.ref f)=true
section
variable {P:Program}{w:World}{K:PySem.W.Frag}{mg:Str->Option Value}{base:Heap}
theorem CZ.ok {x qual:Str}{st:Stmt}{f:Addr}{fd:FuncData}{N ps:List Str}{k:Nat}{sp:Sp}(F:CZ K x qual st f fd)(S:tN N ps (aP st))(len:∀ vs H Q E,sp vs H Q E->vs.length=ps.length)
 (hbody:∀(bL:Value)(A:Around)(outer:List Env)(s:Shared)(H:Hp)(vs:List V)(Q:VK)(E:XK),dN k (A.deeper (envOfC qual (aP st) s.heap.objs.size f bL))->sp vs H Q E ->
  ∃ t,kQ (mY gP P w K mg base N qual (aP st) f bL A outer s H E).wQ (iR st) t/\t { nx:=fun _ H'=>Q .non H',rt:=Q } (start N vs) H):eV P w K mg base gP (k+1) f fd ps sp:=by
 obtain⟨oc,od,kV,doc,pm,an,bL,ct,osl,rfl,lk,hcd⟩:=F.ex
 refine Gw lk hcd S len fun A outer s H vs Q E hr hsp=>?_
 obtain⟨t,h,q⟩:=hbody bL A outer s H vs Q E hr hsp
 exact⟨t,h.wQ,q⟩
theorem CZ.binds {x qual:Str}{st:Stmt}{f:Addr}{fd:FuncData}{ps:List Str}(F:CZ K x qual st f fd)
 (h:∀(kV doc pm:Value)(an:Option Addr)(bL ct:Value)(us:List Value),us.length=ps.length->bindArgs (PySem.W.fnOf x qual (mB st) (iR st) (aP st) .none kV doc pm an bL ct) ⟨us,[]⟩=pure (ps.zip us)):Binds K fd ps []:=by
 obtain⟨oc,od,kV,doc,pm,an,bL,ct,osl,rfl,lk,hcd⟩:=F.ex
 exact .all (h kV doc pm an bL ct)
theorem IZ {x qual:Str}{st:Stmt}{f:Addr}{oc:Value}{od an:Option Addr}{osl:Array (Option Value)}{kV doc pm bL ct:Value}(l:K.lookup f=some ⟨oc,od,.func (PySem.W.fnOf x qual (mB st) (iR st) (aP st) .none kV doc pm an bL ct),osl⟩)
 (c:PySem.W.codeIn K bL qual=true)(k:PySem.W.keepIn K (.ref f)=true):CZ K x qual st f (PySem.W.fnOf x qual (mB st) (iR st) (aP st) .none kV doc pm an bL ct):=⟨⟨oc,od,kV,doc,pm,an,bL,ct,osl,rfl,l,c⟩,k⟩
end
theorem QL {n:Nat}(h:n<=1000):n<sizeLine:=Nat.lt_of_le_of_lt h (by decide)
section
variable {X:Cx}
theorem pv (i:Nat){x:Str}{pos:Pos}(hN:X.N[i]? = some x:=by rfl)(hv:Ga X.env.scope x:=by first|exact Or.inl rfl|exact Or.inr (Or.inl rfl)|exact Or.inr (Or.inr rfl))(hd:(x==("__debug__" : Str))=false:=by decide)
 (hcd:(x==("__classdict__" : Str))=false:=by decide):PE X (.Name x pos) (U3 i):=Cv hN hv hd hcd
end
end L2
end
section
namespace L3
inductive D where
 |non|bl (b:Bool)|int (i:Int)|str (x:List Nat)|tup (ds:List D)|ref (a:Nat)|cW (ks vs:List D)|bK (ds:List D)|exc (c:Nat)
inductive MO where
 |lst (ds:List D)
 |dic (ks vs:List D)
 /-- an instance of the class of this name: aD attributes -/
 |ins (c:List Nat)(fs:List (List Nat×D))
 /-- a dict that is filled: aD keys are tuples of texts and of such tuples -/
 |tab (ks vs:List D)
noncomputable abbrev aB:=Nat->Option MO
noncomputable def put (st:aB)(a:Nat)(o:MO):aB:=fun b=>if b=a then some o else st b
inductive uJ where
 |add|sub|mul|fdiv|mod|pow
inductive qM where
 |eq|ne|lt|le|gt|ge|is_|isnot|in_|jQ
inductive Ty where
 |int|str|bool|list|tuple|dict|err (c:Nat)
inductive BI where
 |len|all|any|max|min|sum|abs|list|tuple|int|str|bool|rL|sorted
inductive MT where
 |append|extend|pop|index|count|join|split|get|insert|remove
inductive IK where
 |range|zip|enum|rev|items|keys|values
inductive Ex where
 |c (d:D)|v (i:Nat)
 |tup (es:List Ex)|lst (es:List Ex)
 |bin (op:uJ)(a b:Ex)|neg (a:Ex)
 |cmp (op:qM)(a b:Ex)|chain (op op':qM)(a b c:Ex)
 |and_ (a b:Ex)|or_ (a b:Ex)|not_ (a:Ex)|ite (c a b:Ex)
 |call (f:Nat)(es:List Ex)|bi (f:BI)(es:List Ex)|isi (a:Ex)(ts:List Ty)
 |cI (m:MT)(o:Ex)(es:List Ex)
 |ix (a b:Ex)|sl (a:Ex)(lo hi:List Ex)
 /-- f(g(..)), g what is walked on the spot -/
 |bit (f:BI)(k:IK)(es:List Ex)
 |comp (n:Nat)(aW:List Nat)(tg:List Nat)(one:Bool)(k:Option IK)(aD:List Ex)(ifs:List Ex)(elt:Ex)
 |dic (ks vs:List Ex)
 /-- o.f of an instance of the class c; C(..), f aD __init__; o.m(..), f the def -/
 |fld (c f:List Nat)(o:Ex)|mk (c:List Nat)(f:Nat)(es:List Ex)|mcl (c m:List Nat)(f:Nat)(o:Ex)(es:List Ex)
 /-- {}; k in d; d[k] -/
 |dnew|d1 (k v:Ex)|din (neg:Bool)(k d:Ex)|dix (d k:Ex)
inductive Tg where
 |nm (i:Nat)|tp (is:List Nat)|ix (o i:Ex)|fl (c f:List Nat)(o:Ex)|dk (o i:Ex)
inductive Sx where
 |ex (e:Ex)|asg (t:Tg)(e:Ex)|aug (i:Nat)(op:uJ)(e:Ex)
 |iff (c:Ex)(a b:List Sx)|whl (c:Ex)(b:List Sx)|iB (t:Tg)(k:Option IK)(aD:List Ex)(b:List Sx)
 |ret (e:Ex)|brk|cnt|pass|rais (c:Nat)(es:List Ex)
 |tryy (b:List Sx)(c:Nat)(n:Option Nat)(h:List Sx)
structure Fn where
 np:Nat
 nl:Nat
 body:List Sx
structure Prog where
 fns:Nat->Option Fn
 /-- class c is class c' or stands under it -/
 sub:Nat->Nat->Bool
noncomputable abbrev St:=List (Option D)
noncomputable abbrev VK:=D->aB->Prop
noncomputable abbrev XK:=Nat->aB->Prop
noncomputable abbrev bH:=Nat->List D->aB->VK->XK->Prop
noncomputable abbrev aY:Nat:=16777216
noncomputable abbrev lT:Nat:=80
def W (x:String):List Nat:=x.toList.map Char.toNat
noncomputable def Ext (st aA:aB):Prop:=∀ a o,st a=some o->aA a=some o
noncomputable def fT (σ:St)(i:Nat)(Q:D->Prop):Prop:=match σ[i]? with
 |some (some d)=>Q d
 |_=>False
mutual
noncomputable def bI:D->D->Bool
 |.non,.non=>true
 |.bl a,.bl b=>a==b
 |.bl a,.int b=>(if a then 1 else 0)==b
 |.int a,.bl b=>a==(if b then 1 else 0)
 |.int a,.int b=>a==b
 |.str a,.str b=>a==b
 |.tup as,.tup bs=>fG as bs
 |_,_=>false
noncomputable def fG:List D->List D->Bool
 |[],[]=>true
 |a::as,b::bs=>bI a b&&fG as bs
 |_,_=>false
end
mutual
noncomputable def bE:D->Bool
 |.non=>true
 |.bl _=>true
 |.int _=>true
 |.str _=>true
 |.tup ds=>bP ds
 |_=>false
noncomputable def bP:List D->Bool
 |[]=>true
 |d::ds=>bE d&&bP ds
end
mutual
noncomputable def cH:D->Nat
 |.tup ds=>cJ ds+1
 |_=>0
noncomputable def cJ:List D->Nat
 |[]=>0
 |d::ds=>max (cH d) (cJ ds)
end
noncomputable def plain (d:D):Prop:=bE d=true/\cH d<=lT
noncomputable def uD (ds:List D):Prop:=bP ds=true/\cJ ds<=lT
noncomputable def VY:Option MO->Bool
 |some (.lst ds)=>bP ds&&decide (cJ ds<=lT)
 |_=>false
mutual
noncomputable def gI (st:aB):D->Bool
 |.non=>true
 |.bl _=>true
 |.int _=>true
 |.str _=>true
 |.tup ds=>gT st ds
 |.ref a=>VY (st a)
 |.bK ds=>bP ds&&decide (cJ ds<=lT)
 |_=>false
noncomputable def gT (st:aB):List D->Bool
 |[]=>true
 |d::ds=>gI st d&&gT st ds
end
noncomputable def A8:Option MO->Option MO->Bool
 |some (.lst xs),some (.lst ys)=>fG xs ys
 |_,_=>false
mutual
noncomputable def bR (st:aB):D->D->Bool
 |.non,.non=>true
 |.bl a,.bl b=>a==b
 |.bl a,.int b=>(if a then 1 else 0)==b
 |.int a,.bl b=>a==(if b then 1 else 0)
 |.int a,.int b=>a==b
 |.str a,.str b=>a==b
 |.tup as,.tup bs=>jG st as bs
 |.ref a,.ref b=>A8 (st a) (st b)
 |.bK xs,.ref b=>A8 (some (.lst xs)) (st b)
 |.ref a,.bK ys=>A8 (st a) (some (.lst ys))
 |.bK xs,.bK ys=>fG xs ys
 |_,_=>false
noncomputable def jG (st:aB):List D->List D->Bool
 |[],[]=>true
 |a::as,b::bs=>bR st a b&&jG st as bs
 |_,_=>false
end
noncomputable def plainS (st:aB)(d:D):Prop:=gI st d=true/\cH d<=lT
noncomputable def dU (st:aB)(ds:List D):Prop:=gT st ds=true/\cJ ds<=lT
noncomputable def V8 (x y:D)(st:aB)(P:Bool->Prop):Prop:=plainS st x/\plainS st y/\P (bR st x y)
noncomputable def occurs (x:List Nat):List Nat->Bool
 |[]=>x.isEmpty
 |c::r=>x.isPrefixOf (c::r)||occurs x r
noncomputable def cD (st:aB)(a:Nat)(K:List D->Prop):Prop:=match st a with
 |some (.lst ds)=>K ds
 |_=>False
noncomputable def cS {α:Type}(o:Option α)(K:α->Prop):Prop:=match o with
 |some x=>K x
 |none=>False
noncomputable def eO (st:aB)(a:Nat)(K:List D->Prop)(M:List D->List D->Prop):Prop:=match st a with
 |some (.lst ds)=>K ds
 |some (.dic ks vs)=>M ks vs
 |_=>False
noncomputable def HL:D->D->aB->(Bool->Prop)->Prop
 |x,.tup ds,st,P=>plainS st x/\dU st ds/\P (ds.any fun d=>bR st d x)
 |x,.ref a,st,P=>eO st a (fun ds=>plainS st x/\dU st ds/\P (ds.any fun d=>bR st d x)) fun ks _=>plain x/\uD ks/\P (ks.any fun d=>bI d x)
 |.str w,.cW ks _,_,P=>P (ks.any fun d=>bI d (.str w))
 |x,.bK ds,st,P=>plainS st x/\dU st ds/\P (ds.any fun d=>bR st d x)
 |.str w,.str z,_,P=>P (occurs w z)
 |_,_,_,_=>False
noncomputable def vE (f:Int->Int->Bool):D->D->(Bool->Prop)->Prop
 |.int i,.int j,P=>P (f i j)
 |_,_,_=>False
noncomputable def vG:D->Bool
 |.non=>true
 |_=>false
noncomputable def TH (b:Bool):D->Bool
 |.bl c=>c==b
 |_=>false
noncomputable def CG:D->D->(Bool->Prop)->Prop
 |x,.non,P=>P (vG x)
 |x,.bl b,P=>P (TH b x)
 |_,_,_=>False
noncomputable def cX:qM->D->D->aB->(Bool->Prop)->Prop
 |.eq,x,y,st,P=>V8 x y st P
 |.ne,x,y,st,P=>V8 x y st fun b=>P (!b)
 |.lt,x,y,_,P=>vE (fun i j=>decide (i<j)) x y P
 |.le,x,y,_,P=>vE (fun i j=>decide (i<=j)) x y P
 |.gt,x,y,_,P=>vE (fun i j=>decide (j<i)) x y P
 |.ge,x,y,_,P=>vE (fun i j=>decide (j<=i)) x y P
 |.is_,x,y,_,P=>CG x y P
 |.isnot,x,y,_,P=>CG x y fun b=>P (!b)
 |.in_,x,y,st,P=>HL x y st P
 |.jQ,x,y,st,P=>HL x y st fun b=>P (!b)
noncomputable def DL (i:Int):Prop:=-18446744073709551616<i/\i<18446744073709551616
noncomputable def gU (ds:List D)(st:aB)(Q:VK):Prop:=ds.length<=aY/\∀ p,st p=none->Q (.ref p) (put st p (.lst ds))
noncomputable def gN:uJ->D->D->aB->VK->Prop
 |.add,.int i,.int j,st,Q=>Q (.int (i+j)) st
 |.add,.str a,.str b,st,Q=>a.length+b.length<=aY/\Q (.str (a++b)) st
 |.add,.tup a,.tup b,st,Q=>a.length+b.length<=aY/\Q (.tup (a++b)) st
 |.add,.ref a,.ref b,st,Q=>cD st a fun xs=>cD st b fun ys=>gU (xs++ys) st Q
 |.sub,.int i,.int j,st,Q=>Q (.int (i-j)) st
 |.mul,.int i,.int j,st,Q=>(DL i∨DL j)/\Q (.int (i*j)) st
 |.mul,.ref a,.int k,st,Q=>cD st a fun xs=>xs.length*k.toNat<=aY/\(-9223372036854775808<=k/\k<9223372036854775808)/\gU (List.replicate k.toNat xs).flatten st Q
 |.mul,.tup xs,.int k,st,Q=>(0<xs.length/\xs.length<=1000/\1<=k/\k<1000)/\Q (.tup (List.replicate k.toNat xs).flatten) st
 |.fdiv,.int i,.int j,st,Q=>(0<j/\j<1073741824)/\Q (.int (i / j)) st
 |.mod,.int i,.int j,st,Q=>0<j/\Q (.int (i % j)) st
 |.pow,.int i,.int j,st,Q=>(0<=j/\j<=1000000/\i.natAbs<18446744073709551616)/\Q (.int (i ^ j.toNat)) st
 |_,_,_,_,_=>False
noncomputable def EN:D->aB->VK->Prop
 |.int i,st,Q=>Q (.int (-i)) st
 |_,_,_=>False
noncomputable def bS:List (List Nat×D)->List Nat->Option D
 |[],_=>none
 |(g,d)::r,f=>if g=f then some d else bS r f
noncomputable def qK (f:List Nat)(d:D):List (List Nat×D)->List (List Nat×D)
 |[]=>[(f,d)]
 |(g,x)::r=>if g=f then(g,d)::r else(g,x)::qK f d r
noncomputable def mU (st:aB)(a:Nat)(K:List Nat->List (List Nat×D)->Prop):Prop:=match st a with
 |some (.ins c fs)=>K c fs
 |_=>False
noncomputable def tabAt (st:aB)(a:Nat)(K:List D->List D->Prop):Prop:=match st a with
 |some (.tab ks vs)=>K ks vs
 |_=>False
noncomputable def pH (c f:List Nat):D->aB->VK->Prop
 |.ref a,st,Q=>mU st a fun c' fs=>c'=c/\cS (bS fs f) fun d=>Q d st
 |_,_,_=>False
noncomputable def DH (c f:List Nat)(v:D):D->aB->(aB->Prop)->Prop
 |.ref a,st,Q=>mU st a fun c' fs=>c'=c/\fs.length<900/\Q (put st a (.ins c (qK f v fs)))
 |_,_,_=>False
mutual
noncomputable def iL:D->Bool
 |.str _=>true
 |.bl _=>true
 |.tup ds=>iP ds
 |_=>false
noncomputable def iP:List D->Bool
 |[]=>true
 |d::ds=>iL d&&iP ds
end
noncomputable def keyed:D->Prop
 |.tup ds=>iP ds=true/\cJ ds<=7
 |_=>False
noncomputable def kA:List D->List D->D->Option D
 |k::ks,v::vs,x=>if bI k x then some v else kA ks vs x
 |_,_,_=>none
noncomputable def vU (x:D):D->aB->(Bool->Prop)->Prop
 |.ref a,st,P=>tabAt st a fun ks _=>keyed x/\P (ks.any fun k=>bI k x)
 |_,_,_=>False
noncomputable def qG (x:D):D->aB->VK->Prop
 |.ref a,st,Q=>tabAt st a fun ks vs=>keyed x/\cS (kA ks vs x) fun d=>Q d st
 |_,_,_=>False
noncomputable def yX (x v:D):D->aB->(aB->Prop)->Prop
 |.ref a,st,Q=>tabAt st a fun ks vs=>keyed x/\(ks.any fun k=>bI k x)=false/\ks.length<10000/\Q (put st a (.tab (ks++[x]) (vs++[v])))
 |_,_,_=>False
noncomputable def DZ (c m:List Nat):D->aB->Prop
 |.ref a,st=>mU st a fun c' fs=>c'=c/\bS fs m=none
 |_,_=>False
noncomputable def dX:D->aB->(Bool->Prop)->Prop
 |.non,_,P=>P false
 |.bl b,_,P=>P b
 |.int i,_,P=>P (i != 0)
 |.str x,_,P=>x.length<=aY/\P (!x.isEmpty)
 |.tup ds,_,P=>P (!ds.isEmpty)
 |.ref a,st,P=>eO st a (fun ds=>P (!ds.isEmpty)) fun ks _=>P (!ks.isEmpty)
 |.bK ds,_,P=>P (!ds.isEmpty)
 |_,_,_=>False
noncomputable def jM (sub:Nat->Nat->Bool):D->aB->Ty->(Bool->Prop)->Prop
 |.non,_,_,P=>P false
 |.bl _,_,.bool,P=>P true
 |.bl _,_,.int,P=>P true
 |.bl _,_,_,P=>P false
 |.int _,_,.int,P=>P true
 |.int _,_,_,P=>P false
 |.str _,_,.str,P=>P true
 |.str _,_,_,P=>P false
 |.tup _,_,.tuple,P=>P true
 |.tup _,_,_,P=>P false
 |.ref a,st,.list,P=>eO st a (fun _=>P true) fun _ _=>P false
 |.ref a,st,.dict,P=>eO st a (fun _=>P false) fun _ _=>P true
 |.ref a,st,_,P=>eO st a (fun _=>P false) fun _ _=>P false
 |.bK _,_,.list,P=>P true
 |.bK _,_,_,P=>P false
 |.exc c,_,.err c',P=>P (sub c c')
 |_,_,_,_=>False
noncomputable def uW (sub:Nat->Nat->Bool)(d:D)(st:aB):List Ty->(Bool->Prop)->Prop
 |[],_=>False
 |[t],P=>jM sub d st t P
 |t::u::ts,P=>jM sub d st t fun b=>if b=true then P true else uW sub d st (u::ts) P
noncomputable def mI (n:Nat)(i:Int):Option Nat:=if 0<=i then(if i<n then some i.toNat else none)else if -(n:Int)<=i then some (i+n).toNat else none
noncomputable def fV {α:Type}(xs:List α)(i:Int):Option α:=(mI xs.length i).bind fun j=>xs[j]?
noncomputable def wI:List D->List D->D->Option D
 |k::ks,v::vs,x=>if bI k x then some v else wI ks vs x
 |_,_,_=>none
noncomputable def mH:D->D->aB->VK->Prop
 |.tup ds,.int i,st,Q=>cS (fV ds i) fun d=>Q d st
 |.bK ds,.int i,st,Q=>cS (fV ds i) fun d=>Q d st
 |.str z,.int i,st,Q=>z.length<=aY/\cS (fV z i) fun c=>Q (.str [c]) st
 |.cW ks vs,.str w,st,Q=>cS (wI ks vs (.str w)) fun d=>Q d st
 |.ref a,y,st,Q=>eO st a (fun ds=>match y with
  |.int i=>cS (fV ds i) fun d=>Q d st
  |_=>False) fun ks vs=>plain y/\uD ks/\cS (wI ks vs y) fun d=>Q d st
 |_,_,_,_=>False
noncomputable def cE (n d:Nat):Option Int->Nat
 |none=>d
 |some v=>if v<0 then(v+(n:Int)).toNat else min v.toNat n
noncomputable def cut {α:Type}(xs:List α)(lo hi:Option Int):List α:=(xs.drop (cE xs.length 0 lo)).take (cE xs.length xs.length hi-cE xs.length 0 lo)
noncomputable def oI:List D->(Option Int->Prop)->Prop
 |[],P=>P none
 |[.int i],P=>P (some i)
 |_,_=>False
noncomputable def C7:D->Option Int->Option Int->aB->VK->Prop
 |.tup ds,lo,hi,st,Q=>Q (.tup (cut ds lo hi)) st
 |.ref a,lo,hi,st,Q=>cD st a fun ds=>∀ p,st p=none->Q (.ref p) (put st p (.lst (cut ds lo hi)))
 |_,_,_,_,_=>False
noncomputable def dW:D->aB->(List Nat->List D->Prop)->Prop
 |.tup ds,_,K=>K [] ds
 |.ref a,st,K=>cD st a fun ds=>K [a] ds
 |.bK ds,_,K=>K [] ds
 |_,_,_=>False
noncomputable def oH:D->aB->(List Nat->List D->Prop)->Prop
 |.tup ds,_,K=>K [] ds
 |.str x,_,K=>x.length<=aY/\K [] (x.map fun c=>.str [c])
 |.ref a,st,K=>cD st a fun ds=>K [a] ds
 |.bK ds,_,K=>K [] ds
 |_,_,_=>False
noncomputable def zip2:List D->List D->List D
 |x::xs,y::ys=>.tup [x,y]::zip2 xs ys
 |_,_=>[]
noncomputable def lM:Nat->List D->List D
 |_,[]=>[]
 |i,x::xs=>.tup [.int i,x]::lM (i+1) xs
noncomputable def gE (lo:Int)(n:Nat):List D:=(List.range n).map fun k=>.int (lo+(k:Nat))
noncomputable def YH (hi:Int)(n:Nat):List D:=(List.range n).map fun k=>.int (hi-(k:Nat))
noncomputable def eY (i:Int):Prop:=-4611686018427387904<=i/\i<4611686018427387904
noncomputable def fA:Option IK->List D->aB->(List Nat->List D->Prop)->Prop
 |none,[x],st,P=>oH x st P
 |some .range,[.int j],_,P=>eY j/\P [] (gE 0 j.toNat)
 |some .range,[.int i,.int j],_,P=>eY i/\eY j/\P [] (gE i (j-i).toNat)
 |some .range,[.int i,.int j,.int c],_,P=>c = -1/\eY i/\eY j/\P [] (YH i (i-j).toNat)
 |some .zip,[.ref a,.ref b],st,P=>cD st a fun xs=>cD st b fun ys=>P [a,b] (zip2 xs ys)
 |some .enum,[.ref a],st,P=>cD st a fun xs=>P [a] (lM 0 xs)
 |some .rev,[x],st,P=>dW x st fun as xs=>P as xs.reverse
 |_,_,_,_=>False
noncomputable def boolsOf:List D->Option (List Bool)
 |[]=>some []
 |.bl b::r=>(boolsOf r).map (b :: ·)
 |_=>none
noncomputable def intsOf:List D->Option (List Int)
 |[]=>some []
 |.int i::r=>(intsOf r).map (i :: ·)
 |_=>none
noncomputable def pB:D->aB->(Nat->Prop)->Prop
 |.tup ds,_,P=>P ds.length
 |.str x,_,P=>x.length<=aY/\P x.length
 |.ref a,st,P=>eO st a (fun ds=>P ds.length) fun ks _=>P ks.length
 |.bK ds,_,P=>P ds.length
 |_,_,_=>False
noncomputable def Ai:Int->List Int->Int
 |m,[]=>m
 |m,i::r=>Ai (if i>m then i else m) r
noncomputable def Bc:Int->List Int->Int
 |m,[]=>m
 |m,i::r=>Bc (if i<m then i else m) r
noncomputable def eU:BI->List D->aB->VK->Prop
 |.all,xs,st,Q=>cS (boolsOf xs) fun bs=>Q (.bl (bs.all id)) st
 |.any,xs,st,Q=>cS (boolsOf xs) fun bs=>Q (.bl (bs.any id)) st
 |.max,xs,st,Q=>cS (intsOf xs) fun is=>match is with
  |i::r=>Q (.int (Ai i r)) st
  |[]=>False
 |.min,xs,st,Q=>cS (intsOf xs) fun is=>match is with
  |i::r=>Q (.int (Bc i r)) st
  |[]=>False
 |.sum,xs,st,Q=>cS (intsOf xs) fun is=>Q (.int is.sum) st
 |.list,xs,st,Q=>gU xs st Q
 |.tuple,xs,st,Q=>xs.length<=aY/\Q (.tup xs) st
 |_,_,_,_=>False
noncomputable def strsOf:List D->Option (List (List Nat))
 |[]=>some []
 |.str w::r=>(strsOf r).map (w :: ·)
 |_=>none
noncomputable def zM:List (List Nat)->List (List Nat)->Nat
 |_,[]=>0
 |seen,w::r=>(if seen.any (·== w)then 0 else 1)+zM (seen++[w]) r
noncomputable def gJ:BI->List D->aB->VK->Prop
 |.len,[d],st,Q=>pB d st fun n=>Q (.int (n:Nat)) st
 |.rL,[.tup ds],st,Q=>cS (strsOf ds) fun ws=>ws.length<4000/\Q (.int (zM [] ws:Nat)) st
 |.max,[.int i,.int j],st,Q=>Q (.int (if j>i then j else i)) st
 |.min,[.int i,.int j],st,Q=>Q (.int (if j<i then j else i)) st
 |.abs,[.int i],st,Q=>Q (.int (if i<0 then -i else i)) st
 |.int,[.int i],st,Q=>Q (.int i) st
 |.int,[.bl b],st,Q=>Q (.int (if b then 1 else 0)) st
 |.bool,[.int i],st,Q=>Q (.bl (i != 0)) st
 |.bool,[.bl b],st,Q=>Q (.bl b) st
 |f,[d],st,Q=>dW d st fun _ xs=>eU f xs st Q
 |_,_,_,_=>False
noncomputable def yQ:D->aB->(List D->Prop)->Prop
 |.tup ds,_,K=>K ds
 |.ref a,st,K=>cD st a K
 |_,_,_=>False
noncomputable def findD (st:aB)(d:D):List D->Option Nat
 |[]=>none
 |e::r=>if bR st e d=true then some 0 else(findD st d r).map (·+ 1)
noncomputable def jH:MT->D->List D->aB->VK->Prop
 |.append,.ref a,[d],st,Q=>cD st a fun xs=>xs.length<aY/\Q .non (put st a (.lst (xs++[d])))
 |.extend,.ref a,[d],st,Q=>cD st a fun xs=>yQ d st fun ys=>xs.length+ys.length<=aY/\Q .non (put st a (.lst (xs++ys)))
 |.pop,.ref a,[],st,Q=>cD st a fun xs=>cS (xs[xs.length-1]?) fun d=>Q d (put st a (.lst xs.dropLast))
 |.index,x,[d],st,Q=>dW x st fun _ ds=>plainS st d/\dU st ds/\cS (findD st d ds) fun i=>Q (.int (i:Nat)) st
 |_,_,_,_,_=>False
noncomputable def yV:MT->D->aB->Prop
 |.append,.ref a,st=>cD st a fun _=>True
 |.extend,.ref a,st=>cD st a fun _=>True
 |.pop,.ref a,st=>cD st a fun _=>True
 |.index,x,st=>dW x st fun _ _=>True
 |_,_,_=>False
noncomputable def kB:Bool->List Nat->D->St->(St->Prop)->Prop
 |true,[i],x,σ,P=>P (σ.set i (some x))
 |false,is,.tup ds,σ,P=>ds.length=is.length/\P ((is.zip ds).foldl (fun σ p=>σ.set p.1 (some p.2)) σ)
 |_,_,_,_,_=>False
noncomputable def jI (g:aB->Prop)(turn:D->aB->(Option D->aB->Prop)->Prop):List D->List D->aB->(List D->aB->Prop)->Prop
 |[],acc,st,R=>g st/\R acc st
 |x::xs,acc,st,R=>g st/\acc.length<aY/\turn x st fun o aA=>jI g turn xs (match o with|none=>acc|some d=>acc++[d]) aA R
noncomputable def same (as:List Nat)(st aA:aB):Prop:=∀ a∈as,aA a=st a
mutual
noncomputable def aF (C:bH)(sub:Nat->Nat->Bool)(E:XK):Ex->St->aB->VK->Prop
 |.c d,_,st,Q=>Q d st
 |.v i,σ,st,Q=>fT σ i fun d=>Q d st
 |.tup es,σ,st,Q=>bJ C sub E es σ st fun ds aA=>Q (.tup ds) aA
 |.lst es,σ,st,Q=>bJ C sub E es σ st fun ds aA=>gU ds aA Q
 |.bin op a b,σ,st,Q=>aF C sub E a σ st fun x aC=>aF C sub E b σ aC fun y aG=>gN op x y aG Q
 |.neg a,σ,st,Q=>aF C sub E a σ st fun x aC=>EN x aC Q
 |.cmp op a b,σ,st,Q=>aF C sub E a σ st fun x aC=>aF C sub E b σ aC fun y aG=>cX op x y aG fun k=>Q (.bl k) aG
 |.chain op op' a b c,σ,st,Q=>aF C sub E a σ st fun x aC=>aF C sub E b σ aC fun y aG=>cX op x y aG fun k =>
  if k=true then aF C sub E c σ aG fun z aU=>cX op' y z aU fun k=>Q (.bl k) aU else Q (.bl false) aG
 |.and_ a b,σ,st,Q=>aF C sub E a σ st fun x aC=>dX x aC fun k=>if k=true then aF C sub E b σ aC Q else Q x aC
 |.or_ a b,σ,st,Q=>aF C sub E a σ st fun x aC=>dX x aC fun k=>if k=true then Q x aC else aF C sub E b σ aC Q
 |.not_ a,σ,st,Q=>aF C sub E a σ st fun x aC=>dX x aC fun k=>Q (.bl (!k)) aC
 |.ite c a b,σ,st,Q=>aF C sub E c σ st fun x aC=>dX x aC fun k=>if k=true then aF C sub E a σ aC Q else aF C sub E b σ aC Q
 |.call f es,σ,st,Q=>bJ C sub E es σ st fun ds aA=>C f ds aA Q E
 |.bi f es,σ,st,Q=>bJ C sub E es σ st fun ds aA=>gJ f ds aA Q
 |.isi a ts,σ,st,Q=>aF C sub E a σ st fun x aC=>uW sub x aC ts fun k=>Q (.bl k) aC
 |.cI m o es,σ,st,Q=>aF C sub E o σ st fun x aC=>yV m x aC/\bJ C sub E es σ aC fun ds aG=>jH m x ds aG Q
 |.ix a b,σ,st,Q=>aF C sub E a σ st fun x aC=>aF C sub E b σ aC fun y aG=>mH x y aG Q
 |.sl a lo hi,σ,st,Q=>aF C sub E a σ st fun x aC=>bJ C sub E lo σ aC fun ls aG=>oI ls fun l=>bJ C sub E hi σ aG fun hs aU=>oI hs fun h=>C7 x l h aU Q
 |.bit f k es,σ,st,Q=>bJ C sub E es σ st fun ds aC=>fA (some k) ds aC fun _ xs=>eU f xs aC Q
 |.comp n aW tg one k aD ifs elt,σ,st,Q=>bJ C sub E aD σ st fun ds aC=>fA k ds aC fun as xs =>
  jI (same as aC) (fun x aG K=>kB one tg x (List.replicate n none++aW.map fun i=>(σ[i]?).getD none) fun σ' =>
  hZ C sub E ifs σ' aG fun b aU=>if b=true then aF C sub E elt σ' aU fun d cC=>K (some d) cC else K none aU) xs [] aC fun ds dC=>gU ds dC Q
 |.dic _ _,_,_,_=>False
 |.fld c f o,σ,st,Q=>aF C sub E o σ st fun x aC=>pH c f x aC Q
 |.mk c f es,σ,st,Q=>bJ C sub E es σ st fun ds aC=>∀ p,aC p=none->C f (.ref p::ds) (put aC p (.ins c [])) (fun d aG=>d=.non/\Q (.ref p) aG) E
 |.mcl c m f o es,σ,st,Q=>aF C sub E o σ st fun x aC=>DZ c m x aC/\bJ C sub E es σ aC fun ds aG=>C f (x::ds) aG Q E
 |.dnew,σ,st,Q=>∀ p,st p=none->Q (.ref p) (put st p (.tab [] []))
 |.d1 k v,σ,st,Q=>∀ p,st p=none->aF C sub E k σ (put st p (.tab [] [])) fun x aC=>aF C sub E v σ aC fun y aG=>yX x y (.ref p) aG fun aU=>Q (.ref p) aU
 |.din neg k d,σ,st,Q=>aF C sub E k σ st fun x aC=>aF C sub E d σ aC fun y aG=>vU x y aG fun b=>Q (.bl (if neg=true then !b else b)) aG
 |.dix d k,σ,st,Q=>aF C sub E d σ st fun y aC=>aF C sub E k σ aC fun x aG=>qG x y aG Q
noncomputable def bJ (C:bH)(sub:Nat->Nat->Bool)(E:XK):List Ex->St->aB->(List D->aB->Prop)->Prop
 |[],_,st,Q=>Q [] st
 |e::es,σ,st,Q=>aF C sub E e σ st fun d aA=>bJ C sub E es σ aA fun ds aS=>Q (d::ds) aS
/-- all tests, one after another -/
noncomputable def hZ (C:bH)(sub:Nat->Nat->Bool)(E:XK):List Ex->St->aB->(Bool->aB->Prop)->Prop
 |[],_,st,Q=>Q true st
 |e::es,σ,st,Q=>aF C sub E e σ st fun d aA=>dX d aA fun k=>if k=true then hZ C sub E es σ aA Q else Q false aA
end
structure gB where
 nx:St->aB->Prop
 rt:D->aB->Prop
 bk:St->aB->Prop
 ct:St->aB->Prop
 ex:Nat->St->aB->Prop
noncomputable def notRef:D->Prop
 |.ref _=>False
 |_=>True
noncomputable def BX:D->D->D->aB->(aB->Prop)->Prop
 |.ref a,.int k,v,st,Q=>cD st a fun xs=>cS (mI xs.length k) fun j=>Q (put st a (.lst (xs.set j v)))
 |_,_,_,_,_=>False
noncomputable def mO (C:bH)(sub:Nat->Nat->Bool)(E:XK):Tg->D->St->aB->(St->aB->Prop)->Prop
 |.nm i,d,σ,st,Q=>Q (σ.set i (some d)) st
 |.tp is,d,σ,st,Q=>kB false is d σ fun σ'=>Q σ' st
 |.ix o i,d,σ,st,Q=>aF C sub E o σ st fun x aC=>aF C sub E i σ aC fun y aG=>BX x y d aG fun aU=>Q σ aU
 |.fl c f o,d,σ,st,Q=>aF C sub E o σ st fun x aC=>DH c f d x aC fun aG=>Q σ aG
 |.dk o i,d,σ,st,Q=>aF C sub E o σ st fun x aC=>aF C sub E i σ aC fun y aG=>yX y d x aG fun aU=>Q σ aU
noncomputable def yO (g:aB->Prop)(turn:D->(St->aB->Prop)->St->aB->Prop)(N:St->aB->Prop):List D->St->aB->Prop
 |[],σ,st=>g st/\N σ st
 |x::xs,σ,st=>g st/\turn x (yO g turn N xs) σ st
noncomputable def oU (turn:(St->aB->Prop)->St->aB->Prop):Nat->St->aB->Prop
 |0,_,_=>False
 |n+1,σ,st=>turn (oU turn n) σ st
noncomputable def DQ (n:Option Nat)(o:Option D)(σ:St):St:=match n with
 |some i=>σ.set i o
 |none=>σ
noncomputable def Oy (sub:Nat->Nat->Bool)(c:Nat)(n:Option Nat)(P:gB)(h:gB->St->aB->Prop):gB :=
 ⟨P.nx,P.rt,P.bk,P.ct,fun c' σ' aA=>if sub c' c=true then
 h ⟨fun σ2 aG=>P.nx (DQ n none σ2) aG,P.rt,fun _ _=>False,fun _ _=>False,fun _ _ _=>False⟩ (DQ n (some (.exc c')) σ') aA else P.ex c' σ' aA⟩
noncomputable def IJ:bH:=fun _ _ _ _ _=>False
mutual
noncomputable def wpS (C:bH)(sub:Nat->Nat->Bool):Sx->gB->St->aB->Prop
 |.ex e,P,σ,st=>aF C sub (fun c aA=>P.ex c σ aA) e σ st fun _ aA=>P.nx σ aA
 |.asg t e,P,σ,st=>aF C sub (fun c aA=>P.ex c σ aA) e σ st fun d aA=>mO C sub (fun c aA=>P.ex c σ aA) t d σ aA P.nx
 |.aug i op e,P,σ,st=>fT σ i fun x=>aF C sub (fun c aA=>P.ex c σ aA) e σ st fun y aA=>notRef x/\gN op x y aA fun d aS=>P.nx (σ.set i (some d)) aS
 |.iff c a b,P,σ,st=>aF C sub (fun c aA=>P.ex c σ aA) c σ st fun d aA=>dX d aA fun k=>if k=true then cM C sub a P σ aA else cM C sub b P σ aA
 |.whl c b,P,σ,st=>∃ n,oU (fun next σ st=>aF C sub (fun c aA=>P.ex c σ aA) c σ st fun d aA=>dX d aA fun k =>
  if k=true then cM C sub b { P with nx:=next,ct:=next,bk:=P.nx } σ aA else P.nx σ aA) n σ st
 |.iB t k aD b,P,σ,st=>bJ C sub (fun c aA=>P.ex c σ aA) aD σ st fun ds aC=>fA k ds aC fun as xs=>yO (same as aC) (fun x next σ st=>mO C sub (fun c aA=>P.ex c σ aA) t x σ st fun σ' aA=>cM C sub b { P with nx:=next,ct:=next,bk:=P.nx } σ' aA) P.nx xs σ aC
 |.ret e,P,σ,st=>aF C sub (fun c aA=>P.ex c σ aA) e σ st P.rt
 |.brk,P,σ,st=>P.bk σ st
 |.cnt,P,σ,st=>P.ct σ st
 |.pass,P,σ,st=>P.nx σ st
 |.rais c es,P,σ,st=>bJ C sub (fun c aA=>P.ex c σ aA) es σ st fun _ aA=>P.ex c σ aA
 |.tryy b c n h,P,σ,st=>cM C sub b (Oy sub c n P fun P' σ' aA=>cM IJ sub h P' σ' aA) σ st
noncomputable def cM (C:bH)(sub:Nat->Nat->Bool):List Sx->gB->St->aB->Prop
 |[],P,σ,st=>P.nx σ st
 |s::ss,P,σ,st=>wpS C sub s { P with nx:=cM C sub ss P } σ st
end
noncomputable def start (np nl:Nat)(ds:List D):St:=ds.map some++List.replicate (nl-np) none
noncomputable def aN (G:Prog):Nat->bH
 |0=>fun _ _ _ _ _=>False
 |k+1=>fun f ds st Q E=>match G.fns f with
 |none=>False
 |some fn=>ds.length=fn.np/\cM (aN G k) G.sub fn.body ⟨fun _ aA=>Q .non aA,Q,fun _ _=>False,fun _ _=>False,fun c _ aA=>E c aA⟩ (start fn.np fn.nl ds) st
end L3
end
section
namespace L3
theorem E4 {σ:St}{i:Nat}{Q Q':D->Prop}(h:∀ d,Q d->Q' d):fT σ i Q->fT σ i Q':=by
 unfold fT;split
 ·exact h _
 ·exact id
theorem nF {st:aB}{a:Nat}{K K':List D->Prop}{M M':List D->List D->Prop}(h:∀ ds,K ds->K' ds)(h':∀ ks vs,M ks vs->M' ks vs):eO st a K M->eO st a K' M':=by
 unfold eO;split
 ·exact h _
 ·exact h' _ _
 ·exact id
theorem dB {st:aB}{a:Nat}{K K':List D->Prop}(h:∀ ds,K ds->K' ds):cD st a K->cD st a K':=by
 unfold cD;split
 ·exact h _
 ·exact id
theorem eF {α:Type}{o:Option α}{K K':α->Prop}(h:∀ x,K x->K' x):cS o K->cS o K':=by
 unfold cS;split
 ·exact h _
 ·exact id
theorem iZ {d:D}{st:aB}{P P':Bool->Prop}(h:∀ b,P b->P' b):dX d st P->dX d st P':=by
 unfold dX;split
 all_goals first|exact h _|exact id|exact(fun x=>⟨x.1,h _ x.2⟩)|exact nF (fun _=>h _) fun _ _=>h _
theorem oS {ds:List D}{st:aB}{Q Q':VK}(h:∀ d st,Q d st->Q' d st):gU ds st Q->gU ds st Q':=fun x=>⟨x.1,fun p hp=>h _ _ (x.2 p hp)⟩
theorem GG {op:uJ}{x y:D}{st:aB}{Q Q':VK}(h:∀ d st,Q d st->Q' d st):gN op x y st Q->gN op x y st Q':=by
 unfold gN
 split
 all_goals first|exact h _ _|exact id|exact(fun z=>⟨z.1,h _ _ z.2⟩)|exact dB (fun _=>dB fun _=>oS h)|exact dB (fun _ z=>⟨z.1,z.2.1,oS h z.2.2⟩)
theorem RL {x:D}{st:aB}{Q Q':VK}(h:∀ d st,Q d st->Q' d st):EN x st Q->EN x st Q':=by
 unfold EN;split
 ·exact h _ _
 ·exact id
theorem HY {x y:D}{st:aB}{P P':Bool->Prop}(h:∀ b,P b->P' b):V8 x y st P->V8 x y st P':=fun z=>⟨z.1,z.2.1,h _ z.2.2⟩
theorem HW {x y:D}{st:aB}{P P':Bool->Prop}(h:∀ b,P b->P' b):HL x y st P->HL x y st P':=by
 unfold HL
 split
 all_goals first|exact(fun z=>⟨z.1,z.2.1,h _ z.2.2⟩)|exact h _|exact id|exact nF (fun _ z=>⟨z.1,z.2.1,h _ z.2.2⟩) fun _ _ z=>⟨z.1,z.2.1,h _ z.2.2⟩
theorem sJ {f:Int->Int->Bool}{x y:D}{P P':Bool->Prop}(h:∀ b,P b->P' b):vE f x y P->vE f x y P':=by
 unfold vE;split
 ·exact h _
 ·exact id
theorem HV {x y:D}{P P':Bool->Prop}(h:∀ b,P b->P' b):CG x y P->CG x y P':=by
 unfold CG
 split
 all_goals first|exact h _|exact id
theorem yU {op:qM}{x y:D}{st:aB}{P P':Bool->Prop}(h:∀ b,P b->P' b):cX op x y st P->cX op x y st P':=by
 cases op
 ·exact HY h
 ·exact HY fun b=>h (!b)
 ·exact sJ h
 ·exact sJ h
 ·exact sJ h
 ·exact sJ h
 ·exact HV h
 ·exact HV fun b=>h (!b)
 ·exact HW h
 ·exact HW fun b=>h (!b)
theorem CL {sub:Nat->Nat->Bool}{x:D}{st:aB}{t:Ty}{P P':Bool->Prop}(h:∀ b,P b->P' b):jM sub x st t P->jM sub x st t P':=by
 unfold jM
 split
 all_goals first|exact h _|exact id|exact nF (fun _=>h _) fun _ _=>h _
theorem GD {sub:Nat->Nat->Bool}{x:D}{st:aB}{P P':Bool->Prop}(h:∀ b,P b->P' b):∀{ts:List Ty},uW sub x st ts P->uW sub x st ts P'
 |[]=>id
 |[t]=>CL h
 |t::u::ts=>by
  unfold uW
  refine CL fun b=>?_
  split
  ·exact h _
  ·exact GD h
theorem U2 {x y:D}{st:aB}{Q Q':VK}(h:∀ d st,Q d st->Q' d st):mH x y st Q->mH x y st Q':=by
 unfold mH
 split
 all_goals first|exact id|exact eF (fun _=>h _ _)|exact(fun z=>⟨z.1,eF (fun _=>h _ _) z.2⟩)|exact(fun z=>⟨z.1,z.2.1,eF (fun _=>h _ _) z.2.2⟩)|skip
 refine nF (fun _=>?_) (fun _ _ z=>⟨z.1,z.2.1,eF (fun _=>h _ _) z.2.2⟩)
 split
 ·exact eF fun _=>h _ _
 ·exact id
theorem CY {ds:List D}{P P':Option Int->Prop}(h:∀ o,P o->P' o):oI ds P->oI ds P':=by
 unfold oI;split
 all_goals first|exact h _|exact id
theorem UN {x:D}{lo hi:Option Int}{st:aB}{Q Q':VK}(h:∀ d st,Q d st->Q' d st):C7 x lo hi st Q->C7 x lo hi st Q':=by
 unfold C7
 split
 ·exact h _ _
 ·exact dB fun _ z p hp=>h _ _ (z p hp)
 ·exact id
theorem NI {d:D}{st:aB}{K K':List Nat->List D->Prop}(h:∀ as xs,K as xs->K' as xs):oH d st K->oH d st K':=by
 unfold oH
 split
 all_goals first|exact h _ _|exact id|exact(fun z=>⟨z.1,h _ _ z.2⟩)|exact dB (fun _=>h _ _)
theorem zP {d:D}{st:aB}{K K':List Nat->List D->Prop}(h:∀ as xs,K as xs->K' as xs):dW d st K->dW d st K':=by
 unfold dW
 split
 all_goals first|exact h _ _|exact id|exact dB (fun _=>h _ _)
theorem zO {k:Option IK}{ds:List D}{st:aB}{P P':List Nat->List D->Prop}(h:∀ as xs,P as xs->P' as xs):fA k ds st P->fA k ds st P':=by
 unfold fA
 split
 ·exact NI h
 ·exact fun z=>⟨z.1,h _ _ z.2⟩
 ·exact fun z=>⟨z.1,z.2.1,h _ _ z.2.2⟩
 ·exact fun z=>⟨z.1,z.2.1,z.2.2.1,h _ _ z.2.2.2⟩
 ·exact dB fun _=>dB fun _=>h _ _
 ·exact dB fun _=>h _ _
 ·exact zP fun _ _=>h _ _
 ·exact id
theorem R3 {d:D}{st:aB}{P P':Nat->Prop}(h:∀ n,P n->P' n):pB d st P->pB d st P':=by
 unfold pB
 split
 all_goals first|exact h _|exact id|exact(fun z=>⟨z.1,h _ z.2⟩)|exact nF (fun _=>h _) fun _ _=>h _
theorem BE {f:BI}{xs:List D}{st:aB}{Q Q':VK}(h:∀ d st,Q d st->Q' d st):eU f xs st Q->eU f xs st Q':=by
 unfold eU
 split
 all_goals first|exact id|exact oS h|exact(fun z=>⟨z.1,h _ _ z.2⟩)|exact eF (fun _=>h _ _)|skip
 all_goals refine eF fun is=>?_
 all_goals cases is
 all_goals first|exact id|exact h _ _
theorem UG {f:BI}{ds:List D}{st:aB}{Q Q':VK}(h:∀ d st,Q d st->Q' d st):gJ f ds st Q->gJ f ds st Q':=by
 unfold gJ
 split
 all_goals first|exact id|exact h _ _|exact R3 (fun _=>h _ _)|exact zP (fun _ _=>BE h)|exact eF (fun _ z=>⟨z.1,h _ _ z.2⟩)
theorem P2 {d:D}{st:aB}{K K':List D->Prop}(h:∀ xs,K xs->K' xs):yQ d st K->yQ d st K':=by
 unfold yQ
 split
 all_goals first|exact h _|exact id|exact dB h
theorem NU {m:MT}{o:D}{ds:List D}{st:aB}{Q Q':VK}(h:∀ d st,Q d st->Q' d st):jH m o ds st Q->jH m o ds st Q':=by
 unfold jH
 split
 ·exact dB fun _ z=>⟨z.1,h _ _ z.2⟩
 ·exact dB fun _=>P2 fun _ z=>⟨z.1,h _ _ z.2⟩
 ·exact dB fun _=>eF fun _=>h _ _
 ·exact zP fun _ _ z=>⟨z.1,z.2.1,eF (fun _=>h _ _) z.2.2⟩
 ·exact id
theorem CJ {one:Bool}{tg:List Nat}{x:D}{σ:St}{P P':St->Prop}(h:∀ σ,P σ->P' σ):kB one tg x σ P->kB one tg x σ P':=by
 unfold kB
 split
 ·exact h _
 ·exact fun z=>⟨z.1,h _ z.2⟩
 ·exact id
theorem DO {g:aB->Prop}{turn sX:D->aB->(Option D->aB->Prop)->Prop}{R R':List D->aB->Prop}
 (ht:∀ x st K K',(∀ o st,K o st->K' o st)->turn x st K->sX x st K')(h:∀ ds st,R ds st->R' ds st):∀{xs acc:List D}{st:aB},jI g turn xs acc st R->jI g sX xs acc st R'
 |[],_,_,z=>⟨z.1,h _ _ z.2⟩
 |_::_,_,_,z=>⟨z.1,z.2.1,ht _ _ _ _ (fun _ _ y=>DO ht h y) z.2.2⟩
theorem CW {st:aB}{a:Nat}{K K':List Nat->List (List Nat×D)->Prop}(h:∀ c fs,K c fs->K' c fs):mU st a K->mU st a K':=by
 unfold mU;split
 ·exact h _ _
 ·exact id
theorem vH {st:aB}{a:Nat}{K K':List D->List D->Prop}(h:∀ c fs,K c fs->K' c fs):tabAt st a K->tabAt st a K':=by
 unfold tabAt;split
 ·exact h _ _
 ·exact id
theorem RP {c f:List Nat}{x:D}{st:aB}{Q Q':VK}(h:∀ d st,Q d st->Q' d st):pH c f x st Q->pH c f x st Q':=by
 unfold pH;split
 ·exact CW fun _ _ z=>⟨z.1,eF (fun _=>h _ _) z.2⟩
 ·exact id
theorem SM {c f:List Nat}{v x:D}{st:aB}{Q Q':aB->Prop}(h:∀ st,Q st->Q' st):DH c f v x st Q->DH c f v x st Q':=by
 unfold DH;split
 ·exact CW fun _ _ z=>⟨z.1,z.2.1,h _ z.2.2⟩
 ·exact id
theorem P6 {x y:D}{st:aB}{P P':Bool->Prop}(h:∀ b,P b->P' b):vU x y st P->vU x y st P':=by
 unfold vU;split
 ·exact vH fun _ _ z=>⟨z.1,h _ z.2⟩
 ·exact id
theorem QU {x y:D}{st:aB}{Q Q':VK}(h:∀ d st,Q d st->Q' d st):qG x y st Q->qG x y st Q':=by
 unfold qG;split
 ·exact vH fun _ _ z=>⟨z.1,eF (fun _=>h _ _) z.2⟩
 ·exact id
theorem HF {x v y:D}{st:aB}{Q Q':aB->Prop}(h:∀ st,Q st->Q' st):yX x v y st Q->yX x v y st Q':=by
 unfold yX;split
 ·exact vH fun _ _ z=>⟨z.1,z.2.1,z.2.2.1,h _ z.2.2.2⟩
 ·exact id
noncomputable def bM (C C':bH):Prop:=∀ f ds st Q Q' E E',(∀ d st,Q d st->Q' d st)->(∀ c st,E c st->E' c st)->C f ds st Q E->C' f ds st Q' E'
mutual
theorem aT {C C':bH}{sub}{E E':XK}(hC:bM C C')(hE:∀ c st,E c st->E' c st):∀(e:Ex){σ:St}{st:aB}{Q Q':VK},(∀ d st,Q d st->Q' d st)->aF C sub E e σ st Q->aF C' sub E' e σ st Q'
 |.c d,σ,st,Q,Q',h=>by exact h _ _
 |.v i,σ,st,Q,Q',h=>by exact E4 fun d=>h _ _
 |.tup es,σ,st,Q,Q',h=>by exact cU hC hE es fun _ _=>h _ _
 |.lst es,σ,st,Q,Q',h=>by exact cU hC hE es fun _ _=>oS h
 |.bin op a b,σ,st,Q,Q',h=>by exact aT hC hE a fun _ _=>aT hC hE b fun _ _=>GG h
 |.neg a,σ,st,Q,Q',h=>by
  exact aT hC hE a fun _ _=>RL h
 |.cmp op a b,σ,st,Q,Q',h=>by exact aT hC hE a fun _ _=>aT hC hE b fun _ _=>yU fun _=>h _ _
 |.chain op op' a b c,σ,st,Q,Q',h=>by
  refine aT hC hE a fun _ _=>aT hC hE b fun _ _=>yU fun k=>?_
  split
  ·exact aT hC hE c fun _ _=>yU fun _=>h _ _
  ·exact h _ _
 |.and_ a b,σ,st,Q,Q',h=>by
  refine aT hC hE a fun _ _=>iZ fun k=>?_
  split
  ·exact aT hC hE b h
  ·exact h _ _
 |.or_ a b,σ,st,Q,Q',h=>by
  refine aT hC hE a fun _ _=>iZ fun k=>?_
  split
  ·exact h _ _
  ·exact aT hC hE b h
 |.not_ a,σ,st,Q,Q',h=>by exact aT hC hE a fun _ _=>iZ fun k=>h _ _
 |.ite c a b,σ,st,Q,Q',h=>by
  refine aT hC hE c fun _ _=>iZ fun k=>?_
  split
  ·exact aT hC hE a h
  ·exact aT hC hE b h
 |.call f es,σ,st,Q,Q',h=>by exact cU hC hE es fun _ _=>hC _ _ _ _ _ _ _ h hE
 |.bi f es,σ,st,Q,Q',h=>by exact cU hC hE es fun _ _=>UG h
 |.isi a ts,σ,st,Q,Q',h=>by exact aT hC hE a fun _ _=>GD fun _=>h _ _
 |.cI m o es,σ,st,Q,Q',h=>by exact aT hC hE o fun _ _ z=>⟨z.1,cU hC hE es (fun _ _=>NU h) z.2⟩
 |.ix a b,σ,st,Q,Q',h=>by exact aT hC hE a fun _ _=>aT hC hE b fun _ _=>U2 h
 |.sl a lo hi,σ,st,Q,Q',h=>by exact aT hC hE a fun _ _=>cU hC hE lo fun _ _=>CY fun _=>cU hC hE hi fun _ _=>CY fun _=>UN h
 |.bit f k es,σ,st,Q,Q',h=>by exact cU hC hE es fun _ _=>zO fun _ _=>BE h
 |.comp n aW tg one k aD ifs elt,σ,st,Q,Q',h=>by
  refine cU hC hE aD fun d aC=>zO fun as xs=>?_
  intro z
  refine DO (fun x st K K' hK=>?_) (fun _ _=>oS h) z
  refine CJ fun σ'=>GK hC hE ifs fun b st=>?_
  split
  ·exact aT hC hE elt fun _ _=>hK _ _
  ·exact hK _ _
 |.dic _ _,σ,st,Q,Q',h=>by exact id
 |.fld c f o,σ,st,Q,Q',h=>by exact aT hC hE o fun _ _=>RP h
 |.mk c f es,σ,st,Q,Q',h=>by exact cU hC hE es fun _ _ z p hp=>hC _ _ _ _ _ _ _ (fun _ _ y=>⟨y.1,h _ _ y.2⟩) hE (z p hp)
 |.mcl c m f o es,σ,st,Q,Q',h=>by exact aT hC hE o fun _ _ z=>⟨z.1,cU hC hE es (fun _ _=>hC _ _ _ _ _ _ _ h hE) z.2⟩
 |.dnew,σ,st,Q,Q',h=>by exact fun z p hp=>h _ _ (z p hp)
 |.d1 k v,σ,st,Q,Q',h=>by exact fun z p hp=>aT hC hE k (fun _ _=>aT hC hE v fun _ _=>HF fun _=>h _ _) (z p hp)
 |.din neg k d,σ,st,Q,Q',h=>by exact aT hC hE k fun _ _=>aT hC hE d fun _ _=>P6 fun _=>h _ _
 |.dix d k,σ,st,Q,Q',h=>by exact aT hC hE d fun _ _=>aT hC hE k fun _ _=>QU h
theorem cU {C C':bH}{sub}{E E':XK}(hC:bM C C')(hE:∀ c st,E c st->E' c st):∀(es:List Ex){σ:St}{st:aB}{Q Q':List D->aB->Prop},(∀ d st,Q d st->Q' d st)->bJ C sub E es σ st Q->bJ C' sub E' es σ st Q'
 |[],σ,st,Q,Q',h=>by exact h _ _
 |e::es,σ,st,Q,Q',h=>by exact aT hC hE e fun _ _=>cU hC hE es fun _ _=>h _ _
theorem GK {C C':bH}{sub}{E E':XK}(hC:bM C C')(hE:∀ c st,E c st->E' c st):∀(es:List Ex){σ:St}{st:aB}{Q Q':Bool->aB->Prop},(∀ d st,Q d st->Q' d st)->hZ C sub E es σ st Q->hZ C' sub E' es σ st Q'
 |[],σ,st,Q,Q',h=>by exact h _ _
 |e::es,σ,st,Q,Q',h=>by
  refine aT hC hE e fun _ _=>iZ fun k=>?_
  split
  ·exact GK hC hE es h
  ·exact h _ _
end
structure gB.Le (P P':gB):Prop where
 nx:∀ σ st,P.nx σ st->P'.nx σ st
 rt:∀ d st,P.rt d st->P'.rt d st
 bk:∀ σ st,P.bk σ st->P'.bk σ st
 ct:∀ σ st,P.ct σ st->P'.ct σ st
 ex:∀ c σ st,P.ex c σ st->P'.ex c σ st
theorem PD {o i v:D}{st:aB}{Q Q':aB->Prop}(h:∀ st,Q st->Q' st):BX o i v st Q->BX o i v st Q':=by
 unfold BX
 split
 ·exact dB fun _=>eF fun _=>h _
 ·exact id
theorem wD {C C':bH}{sub}{E E':XK}(hC:bM C C')(hE:∀ c st,E c st->E' c st){d:D}{Q Q':St->aB->Prop}(h:∀ σ st,Q σ st->Q' σ st):∀(t:Tg){σ:St}{st:aB},mO C sub E t d σ st Q->mO C' sub E' t d σ st Q'
 |.nm i,_,_=>by exact h _ _
 |.tp is,_,_=>by exact CJ fun _=>h _ _
 |.ix o i,_,_=>by exact aT hC hE o fun _ _=>aT hC hE i fun _ _=>PD fun _=>h _ _
 |.fl c f o,_,_=>by exact aT hC hE o fun _ _=>SM fun _=>h _ _
 |.dk o i,_,_=>by exact aT hC hE o fun _ _=>aT hC hE i fun _ _=>HF fun _=>h _ _
theorem E7 {g:aB->Prop}{turn sX:D->(St->aB->Prop)->St->aB->Prop}{N N':St->aB->Prop}
 (ht:∀ x M M' σ st,(∀ σ st,M σ st->M' σ st)->turn x M σ st->sX x M' σ st)(h:∀ σ st,N σ st->N' σ st):∀{xs:List D}{σ:St}{st:aB},yO g turn N xs σ st->yO g sX N' xs σ st
 |[],_,_,z=>⟨z.1,h _ _ z.2⟩
 |_::_,_,_,z=>⟨z.1,ht _ _ _ _ _ (fun _ _=>E7 ht h) z.2⟩
theorem AW {turn sX:(St->aB->Prop)->St->aB->Prop}(ht:∀ M M' σ st,(∀ σ st,M σ st->M' σ st)->turn M σ st->sX M' σ st):∀{n:Nat}{σ:St}{st:aB},oU turn n σ st->oU sX n σ st
 |0,_,_,z=>z
 |n+1,_,_,z=>ht _ _ _ _ (fun _ _=>AW ht) z
theorem K6:bM IJ IJ:=fun _ _ _ _ _ _ _ _ _ x=>x
mutual
theorem wpS_mono {C C':bH}{sub}(hC:bM C C'):∀(s:Sx){P P':gB}{σ:St}{st:aB},P.Le P'->wpS C sub s P σ st->wpS C' sub s P' σ st
 |.ex e,P,P',σ,st,h=>by exact aT hC (fun _ _=>h.ex _ _ _) e fun _ _=>h.nx _ _
 |.asg t e,P,P',σ,st,h=>by exact aT hC (fun _ _=>h.ex _ _ _) e fun _ _=>wD hC (fun _ _=>h.ex _ _ _) h.nx t
 |.aug i op e,P,P',σ,st,h=>by
  exact E4 fun x=>aT hC (fun _ _=>h.ex _ _ _) e fun _ _ z=>⟨z.1,GG (fun _ _=>h.nx _ _) z.2⟩
 |.iff c a b,P,P',σ,st,h=>by
  refine aT hC (fun _ _=>h.ex _ _ _) c fun _ _=>iZ fun k=>?_
  split
  ·exact iH hC a h
  ·exact iH hC b h
 |.whl c b,P,P',σ,st,h=>by
  rintro⟨n,z⟩
  refine⟨n,AW (fun M M' σ st hM=>aT hC (fun _ _=>h.ex _ _ _) c fun _ _=>iZ fun k=>?_) z⟩
  split
  ·exact iH hC b ⟨hM,h.rt,h.nx,hM,h.ex⟩
  ·exact h.nx _ _
 |.iB t k aD b,P,P',σ,st,h=>by
  refine cU hC (fun _ _=>h.ex _ _ _) aD fun _ _=>zO fun as xs=>?_
  exact E7 (fun x M M' σ st hM=>wD hC (fun _ _=>h.ex _ _ _) (fun _ _=>iH hC b (P:={ P with nx:=M,ct:=M,bk:=P.nx }) (P':={ P' with nx:=M',ct:=M',bk:=P'.nx }) ⟨hM,h.rt,h.nx,hM,h.ex⟩) t) h.nx
 |.ret e,P,P',σ,st,h=>by exact aT hC (fun _ _=>h.ex _ _ _) e h.rt
 |.brk,P,P',σ,st,h=>by exact h.bk _ _
 |.cnt,P,P',σ,st,h=>by exact h.ct _ _
 |.pass,P,P',σ,st,h=>by exact h.nx _ _
 |.rais c es,P,P',σ,st,h=>by exact cU hC (fun _ _=>h.ex _ _ _) es fun _ _=>h.ex _ _ _
 |.tryy b c n hh,P,P',σ,st,h=>by
  refine iH hC b ⟨h.nx,h.rt,h.bk,h.ct,fun c' σ st=>?_⟩
  show(if sub c' c=true then _ else _)->(if sub c' c=true then _ else _)
  split
  ·exact iH K6 hh ⟨fun _ _=>h.nx _ _,h.rt,fun _ _=>id,fun _ _=>id,fun _ _ _=>id⟩
  ·exact h.ex _ _ _
theorem iH {C C':bH}{sub}(hC:bM C C'):∀(ss:List Sx){P P':gB}{σ:St}{st:aB},P.Le P'->cM C sub ss P σ st->cM C' sub ss P' σ st
 |[],P,P',σ,st,h=>by exact h.nx _ _
 |s::ss,P,P',σ,st,h=>by exact wpS_mono hC s ⟨fun _ _=>iH hC ss h,h.rt,h.bk,h.ct,h.ex⟩
end
theorem oZ (G:Prog):∀{j k:Nat},j<=k->bM (aN G j) (aN G k)
 |0,k,_=>fun _ _ _ _ _ _ _ _ _ x=>x.elim
 |j+1,0,h=>by omega
 |j+1,k+1,h=>fun f ds st Q Q' E E' hQ hE=>by
  simp only[aN]
  split
  ·exact id
  ·have hj:j<=k:=by omega
   exact fun z=>⟨z.1,iH (oZ G hj) _ (P:=⟨fun _ aA=>Q .non aA,Q,fun _ _=>False,fun _ _=>False,fun c _ aA=>E c aA⟩) (P':=⟨fun _ aA=>Q' .non aA,Q',fun _ _=>False,fun _ _=>False,fun c _ aA=>E' c aA⟩) ⟨fun _ _=>hQ _ _,hQ,fun _ _=>id,fun _ _=>id,fun _ _ _=>hE _ _⟩ z.2⟩
end L3
end
section
namespace L3
section
variable {C:bH}{sub:Nat->Nat->Bool}{E:XK}{σ:St}{st:aB}{Q:VK}{P:Bool->Prop}{e a b c:Ex}{es:List Ex}{x y:D}{i j:Int}{u v:List Nat}{ds xs ys ks vs:List D}{p q:Nat}{K:List D->Prop}{M:List D->List D->Prop}
theorem aH {R:gB}:cM C sub [] R σ st=R.nx σ st:=rfl
theorem PQ {R:gB}{s:Sx}{ss:List Sx}:cM C sub (s::ss) R σ st=wpS C sub s { R with nx:=cM C sub ss R } σ st:=rfl
theorem fF {R:gB}{s:Sx}{ss:List Sx}(h:wpS C sub s { R with nx:=cM C sub ss R } σ st):cM C sub (s::ss) R σ st:=h
theorem dI (h:st p=some (.lst ds)):eO st p K M=K ds:=by unfold eO;rw[h]
theorem aE (h:st p=some (.lst ds)):cD st p K=K ds:=by unfold cD;rw[h]
theorem aX {α:Type}{x:α}{K:α->Prop}:cS (some x) K=K x:=rfl
theorem PM {α:Type}{K:α->Prop}:cS none K=False:=rfl
theorem Bp {d:D}{r:St}{R:D->Prop}:fT (some d::r) 0 R=R d:=rfl
theorem ZT {o:Option D}{r:St}{n:Nat}{R:D->Prop}:fT (o::r) (n+1) R=fT r n R:=rfl
theorem aM {o:MO}:put st p o p=some o:=by unfold put;rw[if_pos rfl]
theorem aJ {o:MO}(h:q≠p):put st p o q=st q:=by unfold put;rw[if_neg h]
theorem AM {o u:MO}(h:st p=none)(h':st q=some u):put st p o q=some u:=by
 rw[aJ];exact h'
 intro e;rw[e,h]at h';cases h'
theorem X2 {o u:MO}:put (put st p o) p u=put st p u:=by funext b;unfold put;split<;>rfl
theorem YO:dX .non st P=P false:=rfl
theorem ZZ {k:Bool}:dX (.bl k) st P=P k:=rfl
theorem WN:dX (.int i) st P=P (i != 0):=rfl
theorem XQ:dX (.tup ds) st P=P (!ds.isEmpty):=rfl
theorem ME:dX (.ref p) st P=eO st p (fun ds=>P (!ds.isEmpty)) fun ks _=>P (!ks.isEmpty):=rfl
theorem TQ:dX (.bK ds) st P=P (!ds.isEmpty):=rfl
theorem Z9:cX .eq x y st P=(plainS st x/\plainS st y/\P (bR st x y)):=rfl
theorem Ez:cX .ne x y st P=(plainS st x/\plainS st y/\P (!bR st x y)):=rfl
theorem Bv:cX .lt (.int i) (.int j) st P=P (decide (i<j)):=rfl
theorem Fe:cX .le (.int i) (.int j) st P=P (decide (i<=j)):=rfl
theorem cmp_gt:cX .gt (.int i) (.int j) st P=P (decide (j<i)):=rfl
theorem Ft:cX .ge (.int i) (.int j) st P=P (decide (j<=i)):=rfl
theorem YI:cX .is_ x .non st P=P (vG x):=rfl
theorem YF {k:Bool}:cX .is_ x (.bl k) st P=P (TH k x):=rfl
theorem SW:cX .isnot x .non st P=P (!vG x):=rfl
theorem SJ {k:Bool}:cX .isnot x (.bl k) st P=P (!TH k x):=rfl
theorem NS:cX .in_ x (.tup ds) st P=(plainS st x/\dU st ds/\P (ds.any fun d=>bR st d x)):=rfl
theorem K5 {w:List Nat}:cX .in_ (.str w) (.cW ks vs) st P=P (ks.any fun d=>bI d (.str w)):=rfl
theorem NB:cX .in_ (.str u) (.str v) st P=P (occurs u v):=rfl
theorem K9:cX .jQ x (.tup ds) st P=(plainS st x/\dU st ds/\P (!ds.any fun d=>bR st d x)):=rfl
theorem LB:cX .jQ x (.ref p) st P=eO st p (fun ds=>plainS st x/\dU st ds/\P (!ds.any fun d=>bR st d x)) fun ks _=>plain x/\uD ks/\P (!ks.any fun d=>bI d x):=rfl
theorem IG {w:List Nat}:cX .jQ (.str w) (.cW ks vs) st P=P (!ks.any fun d=>bI d (.str w)):=rfl
theorem K8:cX .jQ (.str u) (.str v) st P=P (!occurs u v):=rfl
theorem add_int:gN .add (.int i) (.int j) st Q=Q (.int (i+j)) st:=rfl
theorem add_str:gN .add (.str u) (.str v) st Q=(u.length+v.length<=aY/\Q (.str (u++v)) st):=rfl
theorem ER:gN .add (.tup xs) (.tup ys) st Q=(xs.length+ys.length<=aY/\Q (.tup (xs++ys)) st):=rfl
theorem ZM:gN .add (.ref p) (.ref q) st Q=cD st p fun xs=>cD st q fun ys=>gU (xs++ys) st Q:=rfl
theorem sub_int:gN .sub (.int i) (.int j) st Q=Q (.int (i-j)) st:=rfl
theorem mul_int:gN .mul (.int i) (.int j) st Q=((DL i∨DL j)/\Q (.int (i*j)) st):=rfl
theorem Y0:gN .mul (.tup xs) (.int i) st Q=((0<xs.length/\xs.length<=1000/\1<=i/\i<1000)/\Q (.tup (List.replicate i.toNat xs).flatten) st):=rfl
theorem UE:gN .fdiv (.int i) (.int j) st Q=((0<j/\j<1073741824)/\Q (.int (i / j)) st):=rfl
theorem mod_int:gN .mod (.int i) (.int j) st Q=(0<j/\Q (.int (i % j)) st):=rfl
theorem pow_int:gN .pow (.int i) (.int j) st Q=((0<=j/\j<=1000000/\i.natAbs<18446744073709551616)/\Q (.int (i ^ j.toNat)) st):=rfl
theorem neg_int:EN (.int i) st Q=Q (.int (-i)) st:=rfl
theorem XT {t:Ty}:uW sub x st [t] P=jM sub x st t P:=rfl
theorem ZG {t t':Ty}{ts:List Ty}:uW sub x st (t::t'::ts) P=jM sub x st t fun b=>if b=true then P true else uW sub x st (t'::ts) P:=rfl
theorem lF:mH (.tup ds) (.int i) st Q=cS (fV ds i) fun d=>Q d st:=rfl
theorem LQ:mH (.bK ds) (.int i) st Q=cS (fV ds i) fun d=>Q d st:=rfl
theorem J6:mH (.str u) (.int i) st Q=(u.length<=aY/\cS (fV u i) fun c=>Q (.str [c]) st):=rfl
theorem Y8 {w:List Nat}:mH (.cW ks vs) (.str w) st Q=cS (wI ks vs (.str w)) fun d=>Q d st:=rfl
theorem dF (h:st p=some (.lst ds)):mH (.ref p) (.int i) st Q=cS (fV ds i) fun d=>Q d st:=by
 show eO st p _ _=_
 rw[dI h]
theorem eI {α:Type}{xs:List α}{n:Nat}(h:n<xs.length):fV xs (n:Int)=xs[n]?:=by
 unfold fV mI
 rw[if_pos (by omega),if_pos (by omega)]
 simp
theorem yA {α:Type}{x:α}{r:List α}:fV (x::r) 0=some x:=eI (n:=0) (by simp)
theorem SI {α:Type}{x y:α}{r:List α}:fV (x::y::r) 1=some y:=eI (n:=1) (by simp)
theorem UZ {α:Type}{x y z:α}{r:List α}:fV (x::y::z::r) 2=some z:=eI (n:=2) (by simp)
theorem Nz {α:Type}{x y z w:α}{r:List α}:fV (x::y::z::w::r) 3=some w:=eI (n:=3) (by simp)
theorem Mu {α:Type}{x y z w t:α}{r:List α}:fV (x::y::z::w::t::r) 4=some t:=eI (n:=4) (by simp)
theorem Cj {R:Option Int->Prop}:oI [] R=R none:=rfl
theorem Bi {R:Option Int->Prop}:oI [.int i] R=R (some i):=rfl
theorem KE {lo hi:Option Int}:C7 (.tup ds) lo hi st Q=Q (.tup (cut ds lo hi)) st:=rfl
theorem Fl {lo hi:Option Int}:C7 (.ref p) lo hi st Q=cD st p fun ds=>∀ p,st p=none->Q (.ref p) (put st p (.lst (cut ds lo hi))):=rfl
theorem Hg {α:Type}{d:α}{ds:List α}:cut (d::ds) (some 1) none=ds:=by simp [cut,cE]
theorem zX {α:Type}{xs:List α}{lo hi:Option Int}:(cut xs lo hi).length<=xs.length:=by simp only[cut,List.length_take,List.length_drop];omega
theorem XS {R:List Nat->List D->Prop}:fA none [x] st R=oH x st R:=rfl
theorem UJ {R:List Nat->List D->Prop}:oH (.tup ds) st R=R [] ds:=rfl
theorem VC {R:List Nat->List D->Prop}:oH (.str u) st R=(u.length<=aY/\R [] (u.map fun c=>.str [c])):=rfl
theorem lU {R:List Nat->List D->Prop}:oH (.ref p) st R=cD st p fun ds=>R [p] ds:=rfl
theorem PK {R:List Nat->List D->Prop}:oH (.bK ds) st R=R [] ds:=rfl
theorem EI {R:List Nat->List D->Prop}:dW (.tup ds) st R=R [] ds:=rfl
theorem DW {R:List Nat->List D->Prop}:dW (.ref p) st R=cD st p fun ds=>R [p] ds:=rfl
theorem S6 {R:List Nat->List D->Prop}:dW (.bK ds) st R=R [] ds:=rfl
theorem NO {R:List Nat->List D->Prop}:fA (some .range) [.int j] st R=(eY j/\R [] (gE 0 j.toNat)):=rfl
theorem OQ {R:List Nat->List D->Prop}:fA (some .range) [.int i,.int j] st R=(eY i/\eY j/\R [] (gE i (j-i).toNat)):=rfl
theorem XC {R:List Nat->List D->Prop}:fA (some .zip) [.ref p,.ref q] st R=cD st p fun xs=>cD st q fun ys=>R [p,q] (zip2 xs ys):=rfl
theorem UI {R:List Nat->List D->Prop}:fA (some .enum) [.ref p] st R=cD st p fun xs=>R [p] (lM 0 xs):=rfl
theorem W3 {R:List Nat->List D->Prop}:fA (some .rev) [x] st R=dW x st fun as xs=>R as xs.reverse:=rfl
theorem RU:gJ .len [x] st Q=pB x st fun n=>Q (.int (n:Nat)) st:=rfl
theorem ZH {R:Nat->Prop}:pB (.tup ds) st R=R ds.length:=rfl
theorem H0 {R:Nat->Prop}:pB (.bK ds) st R=R ds.length:=rfl
theorem len_str {R:Nat->Prop}:pB (.str u) st R=(u.length<=aY/\R u.length):=rfl
theorem D2 {R:Nat->Prop}:pB (.ref p) st R=eO st p (fun ds=>R ds.length) fun ks _=>R ks.length:=rfl
theorem PB:gJ .all [x] st Q=dW x st fun _ xs=>eU .all xs st Q:=rfl
theorem PL:gJ .any [x] st Q=dW x st fun _ xs=>eU .any xs st Q:=rfl
theorem Du:gJ .max [x] st Q=dW x st fun _ xs=>eU .max xs st Q:=by cases x<;>rfl
theorem ZS:gJ .min [x] st Q=dW x st fun _ xs=>eU .min xs st Q:=by cases x<;>rfl
theorem Q9:gJ .sum [x] st Q=dW x st fun _ xs=>eU .sum xs st Q:=by cases x<;>rfl
theorem L4:gJ .list [x] st Q=dW x st fun _ xs=>eU .list xs st Q:=rfl
theorem JF:gJ .tuple [x] st Q=dW x st fun _ xs=>eU .tuple xs st Q:=rfl
theorem E8 {ds:List D}:gJ .rL [.tup ds] st Q=cS (strsOf ds) fun ws=>ws.length<4000/\Q (.int (zM [] ws:Nat)) st:=rfl
theorem YY:gJ .max [.int i,.int j] st Q=Q (.int (if j>i then j else i)) st:=rfl
theorem Ep:gJ .int [.int i] st Q=Q (.int i) st:=rfl
theorem Y2 {k:Bool}:gJ .int [.bl k] st Q=Q (.int (if k then 1 else 0)) st:=rfl
theorem Dn:eU .all xs st Q=cS (boolsOf xs) fun bs=>Q (.bl (bs.all id)) st:=rfl
theorem Ey:eU .any xs st Q=cS (boolsOf xs) fun bs=>Q (.bl (bs.any id)) st:=rfl
theorem Fq:eU .sum xs st Q=cS (intsOf xs) fun is=>Q (.int is.sum) st:=rfl
theorem WV:eU .list xs st Q=gU xs st Q:=rfl
theorem UL:eU .tuple xs st Q=(xs.length<=aY/\Q (.tup xs) st):=rfl
theorem W8:yQ (.tup ds) st K=K ds:=rfl
theorem ZF:yQ (.ref p) st K=cD st p K:=rfl
theorem uU:yV .append (.ref p) st=cD st p fun _=>True:=rfl
theorem OO:yV .extend (.ref p) st=cD st p fun _=>True:=rfl
theorem XX:yV .pop (.ref p) st=cD st p fun _=>True:=rfl
theorem E1 {x:D}:yV .index x st=dW x st fun _ _=>True:=rfl
theorem HZ {x d:D}:jH .index x [d] st Q=dW x st fun _ ds=>plainS st d/\dU st ds/\cS (findD st d ds) fun i=>Q (.int (i:Nat)) st:=rfl
theorem rY:jH .append (.ref p) [x] st Q=cD st p fun xs=>xs.length<aY/\Q .non (put st p (.lst (xs++[x]))):=rfl
theorem yN:jH .extend (.ref p) [x] st Q=cD st p fun xs=>yQ x st fun ys=>xs.length+ys.length<=aY/\Q .non (put st p (.lst (xs++ys))):=rfl
theorem JL:jH .pop (.ref p) [] st Q=cD st p fun xs=>cS (xs[xs.length-1]?) fun d=>Q d (put st p (.lst xs.dropLast)):=rfl
theorem MC {R:aB->Prop}:BX (.ref p) (.int i) x st R=cD st p fun xs=>cS (mI xs.length i) fun j=>R (put st p (.lst (xs.set j x))):=rfl
theorem Fu {n:Nat}{R:St->Prop}:kB true [n] x σ R=R (σ.set n (some x)):=rfl
theorem RB {is:List Nat}{R:St->Prop}:kB false is (.tup ds) σ R=(ds.length=is.length/\R ((is.zip ds).foldl (fun σ p=>σ.set p.1 (some p.2)) σ)):=by cases is<;>rfl
end
theorem Ext.refl {st:aB}:Ext st st:=fun _ _ h=>h
theorem Ext.trans {a b c:aB}(h:Ext a b)(h':Ext b c):Ext a c:=fun x o e=>h' x o (h x o e)
theorem Ext.new {st:aB}{p:Nat}{o:MO}(h:st p=none):Ext st (put st p o):=fun a u e=>AM h e
end L3
end
section
namespace L3
theorem KA {st aA:aB}:same [] st aA:=fun _ h=>nomatch h
theorem comp_map {g:aB->Prop}{turn:D->aB->(Option D->aB->Prop)->Prop}{R:List D->aB->Prop}(f:D->D):∀(xs acc:List D)(st:aB),
  (∀ aA,Ext st aA->g aA)->(∀ x∈xs,∀ aA (K:Option D->aB->Prop),Ext st aA->(∀ aS,Ext aA aS->K (some (f x)) aS)->turn x aA K) ->
  acc.length+xs.length<=aY->(∀ aA,Ext st aA->R (acc++xs.map f) aA)->jI g turn xs acc st R
 |[],acc,st,hg,_,_,hR=>⟨hg st .refl,by simpa using hR st .refl⟩
 |x::xs,acc,st,hg,ht,hl,hR=>by
  refine⟨hg st .refl,by simp at hl;omega,ht x (by simp) st _ .refl fun aS h''=>?_⟩
  refine comp_map f xs (acc++[f x]) aS (fun aA h=>hg aA (h''.trans h)) (fun y hy aA K h=>ht y (by simp [hy]) aA K (h''.trans h)) (by simp at hl ⊢;omega) fun aA h=>?_
  simpa using hR aA (h''.trans h)
mutual
theorem BL {st:aB}:∀ d:D,bE d=true->gI st d=true
 |.non,_=>rfl
 |.bl _,_=>rfl
 |.int _,_=>rfl
 |.str _,_=>rfl
 |.tup ds,h=>by simp only[bE]at h;simp only[gI];exact sL ds h
 |.ref _,h=>by simp [bE]at h
 |.cW _ _,h=>by simp [bE]at h
 |.bK _,h=>by simp [bE]at h
 |.exc _,h=>by simp [bE]at h
theorem sL {st:aB}:∀ ds:List D,bP ds=true->gT st ds=true
 |[],_=>rfl
 |d::ds,h=>by
  simp only[bP,Bool.and_eq_true]at h
  simp only[gT,Bool.and_eq_true]
  exact⟨BL d h.1,sL ds h.2⟩
end
theorem plain.s {d:D}(h:plain d){st:aB}:plainS st d:=⟨BL d h.1,h.2⟩
theorem uD.s {ds:List D}(h:uD ds){st:aB}:dU st ds:=⟨sL ds h.1,h.2⟩
theorem FA {x:List Nat}:plain (.str x):=⟨rfl,Nat.zero_le _⟩
theorem GH {i:Int}:plain (.int i):=⟨rfl,Nat.zero_le _⟩
theorem JK {b:Bool}:plain (.bl b):=⟨rfl,Nat.zero_le _⟩
theorem FI:plain .non:=⟨rfl,Nat.zero_le _⟩
theorem DE {x:List Nat}{st:aB}:plainS st (.str x):=FA.s
theorem N0 {i:Int}{st:aB}:plainS st (.int i):=GH.s
theorem QO {b:Bool}{st:aB}:plainS st (.bl b):=JK.s
theorem NA {st:aB}:plainS st .non:=FI.s
theorem oJ:∀ xs:List (List Nat),uD (xs.map .str)
 |[]=>⟨rfl,Nat.zero_le _⟩
 |x::xs=>by
  have h:=oJ xs
  exact⟨by simp only[List.map_cons,bP,bE,Bool.true_and];exact h.1,by simp only[List.map_cons,cJ,cH];exact Nat.max_le.mpr ⟨Nat.zero_le _,h.2⟩⟩
theorem iD {st:aB}{x y:List Nat}:bR st (.str x) (.str y)=(x==y):=by simp only[bR]
theorem YK {st:aB}{x y:Int}:bR st (.int x) (.int y)=(x==y):=by simp only[bR]
theorem Cg {st:aB}{x y:Bool}:bR st (.bl x) (.bl y)=(x==y):=by simp only[bR]
theorem YZ {x y:List Nat}:bI (.str x) (.str y)=(x==y):=by simp only[bI]
theorem vF {st:aB}(x:List Nat):∀ xs:List (List Nat),((xs.map D.str).any fun d=>bR st d (.str x))=xs.contains x
 |[]=>rfl
 |y::xs=>by
  simp only[List.map_cons,List.any_cons,iD,vF x xs,List.contains_cons]
  congr 1
  exact Bool.beq_comm
end L3
end
section
namespace L3
open PySem PySem.Spec PyProof.Rows L2
mutual
noncomputable def pU (w:World):D->Int
 |.str x=>hashStr w ⟨x.toArray⟩
 |.bl b=>reduceHash (if b=true then 1 else 0)
 |.tup ds=>reduceHash (Builtin.Tuple.tupleHashOf (gS w ds))
 |_=>0
noncomputable def gS (w:World):List D->List Int
 |[]=>[]
 |d::ds=>pU w d::gS w ds
end
mutual
noncomputable def sS:D->Nat
 |.tup ds=>jX ds+1
 |_=>1
noncomputable def jX:List D->Nat
 |[]=>0
 |d::ds=>sS d+jX ds
end
noncomputable def Lz (w:World)(x:D×Addr×Value):DictEntry:=⟨pU w x.1,.ref x.2.1,x.2.2⟩
noncomputable def ND (a:Addr)(xs:List (D×Addr×Value))(w:World)(h:Heap):Prop:=∃ o es ep,h.get? a=some o/\o.ExactDict/\o.data=.dict es ep/\es.toList=xs.map (Lz w)
noncomputable def qO (a:Addr)(xs:List (D×Addr×Value)):HO:=.ext fun _ w h=>ND a xs w h
noncomputable def clsAt (K:PySem.W.Frag)(c:List Nat)(C:Addr):Prop:=PySem.W.nsIn K mainGlobals ⟨c.toArray⟩=some (some (.ref C))
theorem clsAt.inj {K:PySem.W.Frag}{c:List Nat}{C C':Addr}(h:clsAt K c C)(h':clsAt K c C'):C=C':=by
 have:=h.symm.trans h'
 injection this with e;injection e with e;injection e
end L3
end
section
namespace L3
open PySem PySem.Spec PyProof.Rows L2
noncomputable def qQ (K:PySem.W.Frag)(H:Hp)(a:Addr)(vs:List V):Prop :=
 (∃ o,H a=some (.frz o (.lst vs)))∨∃(o:Obj)(aD:Array Value)(n:Nat),K.lookup a=some o/\o.cls=.type "list" /\ o.dict=none/\o.data=.seq aD n/\aD.size<=sizeLine/\aQ vs aD.toList
theorem qQ.sq {K:PySem.W.Frag}{H:Hp}{a:Addr}{vs:List V}:qQ K H a vs->cG K H a vs
 |.inl ⟨o,h⟩=>.inl (.inr ⟨o,h⟩)
 |.inr h=>.inr h
noncomputable def sV:PyData->D
 |.bool b=>.bl b
 |.int i=>.int i
 |.str x=>.str x.cps.toList
 |_=>.non
noncomputable def nY:PyData->Bool
 |.none=>true
 |.bool _=>true
 |.int _=>true
 |.str _=>true
 |_=>false
noncomputable def ZY (K:PySem.W.Frag)(a:Addr)(ks vs:List D):Prop:=∃ T:List (Str×PyData),KTD.tabLook KTD.flatLooks (fun b=>K.lookup b) a T=true/\(T.all fun p=>nY p.2)=true/\ks=T.map (fun p=>.str p.1.cps.toList)/\vs=T.map (fun p=>sV p.2)
mutual
inductive Rep (K:PySem.W.Frag)(H:Hp):D->V->Prop where
 |non:Rep K H .non .non
 |bl (b:Bool):Rep K H (.bl b) (.bl b)
 |int (i:Int):Rep K H (.int i) (.int i)
 |str (x:List Nat):Rep K H (.str x) (.str ⟨x.toArray⟩)
 |tup {ds:List D}{a:Addr}{vs:List V}(h:dZ K H a vs)(r:aI K H ds vs):Rep K H (.tup ds) (.ref a)
 |ref (a:Addr):Rep K H (.ref a) (.ref a)
 |bK {ds:List D}{a:Addr}{vs:List V}(h:qQ K H a vs)(r:aI K H ds vs):Rep K H (.bK ds) (.ref a)
 |cW {ks vs:List D}{a:Addr}(h:ZY K a ks vs):Rep K H (.cW ks vs) (.ref a)
inductive aI (K:PySem.W.Frag)(H:Hp):List D->List V->Prop where
 |nil:aI K H [] []
 |cons {d:D}{v:V}{ds:List D}{vs:List V}(h:Rep K H d v)(r:aI K H ds vs):aI K H (d::ds) (v::vs)
end
noncomputable def iG (K:PySem.W.Frag)(H:Hp)(fs:List (List Nat×D))(ws:List (Str×V)):Prop:=ws.map (·.1)=fs.map (fun p=>(⟨p.1.toArray⟩:Str))/\aI K H (fs.map (·.2)) (ws.map (·.2))
noncomputable def bears:HO->Bool
 |.lst _=>true
 |.ins _ _ _=>true
 |.ext _=>true
 |_=>false
noncomputable def yE (K:PySem.W.Frag)(H:Hp)(a:Addr):MO->Prop
 |.lst ds=>∃ vs,H a=some (.lst vs)/\aI K H ds vs
 |.dic _ _=>False
 |.ins c fs=>∃ C dx ws,clsAt K c C/\H a=some (.ins C dx ws)/\iG K H fs ws
 |.tab ks vs=>∃(xs:List (D×Addr×Value))(ws:List V),H a=some (qO a xs)/\(a==sysModules)=false/\xs.map (·.1)=ks/\(xs.map (·.1)).Nodup/\aI K H ks (xs.map fun x=>.ref x.2.1)/\(∀ x∈xs,keyed x.1)/\aQ ws (xs.map (·.2.2))/\aI K H vs ws
noncomputable def aR (K:PySem.W.Frag)(st:aB)(H:Hp):Prop:=∀ a o,st a=some o->yE K H a o
noncomputable def Step (H:Hp)(st:aB)(H':Hp)(aA:aB):Prop:=∀ a o,H a=some o->st a=none->H' a=some o/\aA a=none
theorem Step.refl {H:Hp}{st:aB}:Step H st H st:=fun _ _ h n=>⟨h,n⟩
theorem Step.trans {H H1 H2:Hp}{st aC aG:aB}(a:Step H st H1 aC)(b:Step H1 aC H2 aG):Step H st H2 aG:=fun x o h n=>let⟨h1,n1⟩:=a x o h n;b x o h1 n1
section
variable {K:PySem.W.Frag}{H H' H1:Hp}{st aA aC:aB}{a p:Addr}{d:D}{v:V}{ds:List D}{vs:List V}
theorem yE.bears {m:MO}(h:yE K H a m):∃ o,H a=some o/\L3.bears o=true:=by
 cases m with
 |lst ds=>obtain⟨vs,q,_⟩:=h;exact⟨_,q,rfl⟩
 |dic _ _=>exact h.elim
 |ins c fs=>obtain⟨_,_,_,_,q,_⟩:=h;exact⟨_,q,rfl⟩
 |tab ks vs=>obtain⟨_,_,q,_⟩:=h;exact⟨_,q,rfl⟩
theorem aR.JZ (ok:aR K st H){o:HO}(h:H a=some o)(n:L3.bears o=false):st a=none:=by
 cases e:st a with
 |none=>rfl
 |some u =>
 obtain⟨o',e1,e2⟩:=(ok a u e).bears
 rw[h]at e1;cases e1
 rw[n]at e2;cases e2
theorem aR.fresh (ok:aR K st H)(h:H a=none):st a=none:=by
 cases e:st a with
 |none=>rfl
 |some u =>
 obtain⟨o',e1,e2⟩:=(ok a u e).bears
 rw[h]at e1;cases e1
theorem vK (ok:aR K st H)(s:Step H st H' aA)(h:dZ K H a vs):dZ K H' a vs:=by
 rcases h with(h|⟨o,h⟩)|h
 ·exact .inl (.inl (s a _ h (ok.JZ h rfl)).1)
 ·exact .inl (.inr ⟨o,(s a _ h (ok.JZ h rfl)).1⟩)
 ·exact .inr h
theorem sQ (ok:aR K st H)(s:Step H st H' aA)(h:qQ K H a vs):qQ K H' a vs:=by
 rcases h with⟨o,h⟩|h
 ·exact .inl ⟨o,(s a _ h (ok.JZ h rfl)).1⟩
 ·exact .inr h
mutual
theorem Rep.step (ok:aR K st H)(s:Step H st H' aA):∀{d:D}{v:V},Rep K H d v->Rep K H' d v
 |_,_,.non=>.non
 |_,_,.bl b=>.bl b
 |_,_,.int i=>.int i
 |_,_,.str x=>.str x
 |_,_,.tup h r=>.tup (vK ok s h) (aI.step ok s r)
 |_,_,.ref a=>.ref a
 |_,_,.bK h r=>.bK (sQ ok s h) (aI.step ok s r)
 |_,_,.cW h=>.cW h
theorem aI.step (ok:aR K st H)(s:Step H st H' aA):∀{ds:List D}{vs:List V},aI K H ds vs->aI K H' ds vs
 |_,_,.nil=>.nil
 |_,_,.cons h r=>.cons (Rep.step ok s h) (aI.step ok s r)
end
theorem yE.step (ok:aR K st H)(s:Step H st H' aA){m:MO}(h:yE K H a m)(e:H' a=H a):yE K H' a m:=by
 cases m with
 |lst ds=>obtain⟨vs,q,r⟩:=h;exact⟨vs,e.trans q,r.step ok s⟩
 |dic _ _=>exact h
 |ins c fs=>obtain⟨C,dx,ws,q,q2,q3,r⟩:=h;exact⟨C,dx,ws,q,e.trans q2,q3,r.step ok s⟩
 |tab ks vs=>obtain⟨xs,ws,q,q0,q1,q2,q3,q4,q5,r⟩:=h;exact⟨xs,ws,e.trans q,q0,q1,q2,q3.step ok s,q4,q5,r.step ok s⟩
theorem aI.length:∀{ds:List D}{vs:List V},aI K H ds vs->ds.length=vs.length
 |_,_,.nil=>rfl
 |_,_,.cons _ r=>by simp [aI.length r]
theorem aI.get:∀{ds:List D}{vs:List V}{i:Nat}{d:D},aI K H ds vs->ds[i]? = some d->∃ v,vs[i]? = some v/\Rep K H d v
 |_,_,_,_,.nil,e=>by simp at e
 |_,_,0,_,.cons h _,e=>by simp at e;subst e;exact⟨_,rfl,h⟩
 |_,_,i+1,d,.cons _ r,e=>by
  obtain⟨v,e1,e2⟩:=aI.get (i:=i) (d:=d) r (by simpa using e)
  exact⟨v,by simpa using e1,e2⟩
theorem aI.append:∀{ds es:List D}{vs us:List V},aI K H ds vs->aI K H es us->aI K H (ds++es) (vs++us)
 |_,_,_,_,.nil,s=>s
 |_,_,_,_,.cons h r,s=>.cons h (aI.append r s)
theorem aI.take:∀{ds:List D}{vs:List V}(n:Nat),aI K H ds vs->aI K H (ds.take n) (vs.take n)
 |_,_,0,_=>by simp;exact .nil
 |_,_,_+1,.nil=>by simp;exact .nil
 |_,_,n+1,.cons h r=>by simp only[List.take_succ_cons];exact .cons h (aI.take n r)
theorem aI.drop:∀{ds:List D}{vs:List V}(n:Nat),aI K H ds vs->aI K H (ds.drop n) (vs.drop n)
 |_,_,0,r=>by simpa using r
 |_,_,_+1,.nil=>by simp;exact .nil
 |_,_,n+1,.cons _ r=>by simp only[List.drop_succ_cons];exact aI.drop n r
theorem aI.set (h:Rep K H d v):∀{ds:List D}{vs:List V}(i:Nat),aI K H ds vs->aI K H (ds.set i d) (vs.set i v)
 |_,_,_,.nil=>by simp;exact .nil
 |_,_,0,.cons _ r=>by simp only[List.set_cons_zero];exact .cons h r
 |_,_,i+1,.cons q r=>by simp only[List.set_cons_succ];exact .cons q (aI.set h i r)
theorem aI.dropLast {ds:List D}{vs:List V}(r:aI K H ds vs):aI K H ds.dropLast vs.dropLast:=by
 rw[List.dropLast_eq_take,List.dropLast_eq_take,r.length]
 exact r.take _
theorem aI.reverse:∀{ds:List D}{vs:List V},aI K H ds vs->aI K H ds.reverse vs.reverse
 |_,_,.nil=>by simp;exact .nil
 |_,_,.cons h r=>by simp only[List.reverse_cons];exact(aI.reverse r).append (.cons h .nil)
inductive QD (K:PySem.W.Frag)(H:Hp)(st:aB)(R:VK)(v:V)(H':Hp):Prop where
 |mk (d:D)(aA:aB)(s:Step H st H' aA)(ok:aR K aA H')(r:Rep K H' d v)(q:R d aA):QD K H st R v H'
inductive Ls (K:PySem.W.Frag)(H:Hp)(st:aB)(R:List D->aB->Prop)(vs:List V)(H':Hp):Prop where
 |mk (ds:List D)(aA:aB)(s:Step H st H' aA)(ok:aR K aA H')(r:aI K H' ds vs)(q:R ds aA):Ls K H st R vs H'
inductive QX (K:PySem.W.Frag)(H:Hp)(st:aB)(R:aB->Prop)(H':Hp):Prop where
 |mk (aA:aB)(s:Step H st H' aA)(ok:aR K aA H')(q:R aA):QX K H st R H'
theorem QD.here {R:VK}(ok:aR K st H)(r:Rep K H d v)(h:R d st):QD K H st R v H:=⟨d,st,.refl,ok,r,h⟩
theorem QD.after {R:VK}(s:Step H st H1 aC)(h:QD K H1 aC R v H'):QD K H st R v H':=let⟨d,aA,s',ok,r,q⟩:=h;⟨d,aA,s.trans s',ok,r,q⟩
theorem jE {o:HO}(hp:H p=none):Step H st (upd H p o) st:=fun a u h n=>by
 have e:a≠p:=fun e=>by rw[e,hp]at h;cases h
 exact⟨by rw[bQ e];exact h,n⟩
theorem lY {o:HO}{m:MO}(hp:H p=none):Step H st (upd H p o) (put st p m):=fun a u h n=>by
 have e:a≠p:=fun e=>by rw[e,hp]at h;cases h
 exact⟨by rw[bQ e];exact h,by rw[aJ e];exact n⟩
theorem aR.new {o:HO}(ok:aR K st H)(hp:H p=none):aR K st (upd H p o):=fun a u e=>by
 have ne:a≠p:=fun z=>by obtain⟨o',q,_⟩:=(ok a u e).bears;rw[z,hp]at q;cases q
 exact(ok a u e).step ok (jE (st:=st) hp) (bQ ne)
theorem aR.TR {o:HO}{m:MO}(ok:aR K st H)(hp:H p=none)(r:yE K (upd H p o) p m):aR K (put st p m) (upd H p o):=fun a u e=>by
 have s:Step H st (upd H p o) (put st p m):=lY hp
 by_cases ha:a=p
 ·subst ha
  rw[aM]at e;cases e
  exact r
 ·rw[aJ ha]at e
  exact(ok a u e).step ok s (bQ ha)
theorem aR.gU (ok:aR K st H)(hp:H p=none)(r:aI K H ds vs):aR K (put st p (.lst ds)) (upd H p (.lst vs)):=fun a u e=>by
 have s:Step H st (upd H p (.lst vs)) (put st p (.lst ds)):=lY hp
 by_cases ha:a=p
 ·subst ha
  rw[aM]at e;cases e
  exact⟨vs,dH,r.step ok s⟩
 ·rw[aJ ha]at e
  exact(ok a u e).step ok s (bQ ha)
theorem QD.IS {R:VK}(ok:aR K st H)(r:aI K H ds vs)(hp:H p=none)(h:R (.tup ds) st):QD K H st R (.ref p) (upd H p (.tup vs)) :=
 ⟨.tup ds,st,jE hp,ok.new hp,.tup (dZ.of dH) (r.step ok (jE (st:=st) hp)),h⟩
theorem QD.gU {R:VK}(ok:aR K st H)(r:aI K H ds vs)(hp:H p=none)(h:∀ p,st p=none->R (.ref p) (put st p (.lst ds))):QD K H st R (.ref p) (upd H p (.lst vs)) :=
 ⟨.ref p,put st p (.lst ds),lY hp,ok.gU hp r,.ref p,h p (ok.fresh hp)⟩
theorem aR.lst (ok:aR K st H)(h:st a=some (.lst ds)):∃ vs,H a=some (.lst vs)/\aI K H ds vs:=ok a _ h
theorem kI {o:HO}{m m':MO}(h:st a=some m):Step H st (upd H a o) (put st a m'):=fun b u hb n=>by
 have e:b≠a:=fun e=>by rw[e,h]at n;cases n
 exact⟨by rw[bQ e];exact hb,by rw[aJ e];exact n⟩
theorem aR.set (ok:aR K st H){m:MO}(h:st a=some m)(r:aI K H ds vs):aR K (put st a (.lst ds)) (upd H a (.lst vs)):=fun b u e=>by
 have s:Step H st (upd H a (.lst vs)) (put st a (.lst ds)):=kI h
 by_cases ha:b=a
 ·subst ha
  rw[aM]at e;cases e
  exact⟨vs,dH,r.step ok s⟩
 ·rw[aJ ha]at e
  exact(ok b u e).step ok s (bQ ha)
theorem aR.DQ {o:HO}{m m':MO}(ok:aR K st H)(h:st a=some m)(r:yE K (upd H a o) a m'):aR K (put st a m') (upd H a o):=fun b u e=>by
 have s:Step H st (upd H a o) (put st a m'):=kI h
 by_cases ha:b=a
 ·subst ha
  rw[aM]at e;cases e
  exact r
 ·rw[aJ ha]at e
  exact(ok b u e).step ok s (bQ ha)
theorem QD.set {R:VK}(ok:aR K st H){m:MO}(h:st a=some m)(r:aI K H ds vs)(rd:Rep K H d v)(q:R d (put st a (.lst ds))):QD K H st R v (upd H a (.lst vs)) :=
 ⟨d,put st a (.lst ds),kI h,ok.set h r,rd.step ok (kI (m':=.lst ds) h),q⟩
end
noncomputable def dJ (K:PySem.W.Frag)(H:Hp)(σd:St)(σ:L2.St):Prop:=σd.length=σ.length/\∀(i:Nat)(d:D),σd[i]? = some (some d)->∃ v,σ[i]? = some (some v)/\Rep K H d v
theorem dJ.step {K:PySem.W.Frag}{H H':Hp}{st aA:aB}{σd:St}{σ:L2.St}(r:dJ K H σd σ)(ok:aR K st H)(s:Step H st H' aA):dJ K H' σd σ :=
 ⟨r.1,fun i d e=>let⟨v,e1,e2⟩:=r.2 i d e;⟨v,e1,e2.step ok s⟩⟩
theorem dJ.set {K:PySem.W.Frag}{H:Hp}{σd:St}{σ:L2.St}{d:D}{v:V}(r:dJ K H σd σ)(i:Nat)(h:Rep K H d v):dJ K H (σd.set i (some d)) (σ.set i (some v)):=by
 refine⟨by simpa using r.1,fun j e hj=>?_⟩
 by_cases q:j=i
 ·subst q
  by_cases hl:j<σd.length
  ·rw[List.getElem?_set_self hl]at hj
   cases hj
   exact⟨v,by rw[List.getElem?_set_self (by rw[<-r.1];exact hl)],h⟩
  ·rw[List.getElem?_eq_none (by simp;omega)]at hj;cases hj
 ·rw[List.getElem?_set_ne (Ne.symm q)]at hj
  obtain⟨u,e1,e2⟩:=r.2 j e hj
  exact⟨u,by rw[List.getElem?_set_ne (Ne.symm q)];exact e1,e2⟩
noncomputable abbrev Ds:=St->aB->VK->Prop
inductive bW (K:PySem.W.Frag)(te:Ds)(σ:L2.St)(H:Hp)(Q:L2.VK):Prop where
 |mk (σd:St)(st:aB)(R:VK)(r:dJ K H σd σ)(ok:aR K st H)(q:te σd st R)(hq:∀ v H',QD K H st R v H'->Q v H'):bW K te σ H Q
inductive jJ (K:PySem.W.Frag)(te:St->aB->(List D->aB->Prop)->Prop)(σ:L2.St)(H:Hp)(Q:List V->Hp->Prop):Prop where
 |mk (σd:St)(st:aB)(R:List D->aB->Prop)(r:dJ K H σd σ)(ok:aR K st H)(q:te σd st R)(hq:∀ vs H',Ls K H st R vs H'->Q vs H'):jJ K te σ H Q
inductive jD (K:PySem.W.Frag)(te:Ds)(σ:L2.St)(H:Hp)(Q:Bool->Hp->Prop):Prop where
 |mk (σd:St)(st:aB)(R:Bool->aB->Prop)(r:dJ K H σd σ)(ok:aR K st H)(q:te σd st (fun d aA=>dX d aA fun b=>R b aA))(hq:∀(b:Bool) H',QX K H st (R b) H'->Q b H'):jD K te σ H Q
theorem _root_.L2.PE.imp {X:Cx}{e:Expr}{t t':L2.TE}(i:∀ σ H Q,t' σ H Q->t σ H Q)(h:PE X e t):PE X e t':=fun pins s σ H Q I q=>h pins s σ H Q I (i σ H Q q)
theorem _root_.L2.PT.imp {X:Cx}{e:Expr}{t t':L2.TT}(i:∀ σ H Q,t' σ H Q->t σ H Q)(h:PT X e t):PT X e t':=fun pins s σ H Q I q=>h pins s σ H Q I (i σ H Q q)
theorem _root_.L2.PW.imp {X:Cx}{e:Expr}{t t':L2.TT}(i:∀ σ H Q,t' σ H Q->t σ H Q)(h:PW X e t):PW X e t':=fun wh pins s σ H Q I q=>h wh pins s σ H Q I (i σ H Q q)
theorem _root_.L2.PA.imp {X:Cx}{es:List Expr}{t t':L2.TA}(i:∀ σ H Q,t' σ H Q->t σ H Q)(h:PA X es t):PA X es t':=fun pos pins s σ H Q I q=>h pos pins s σ H Q I (i σ H Q q)
theorem _root_.L2.PS.imp {X:Cx}{e:Stmt}{t t':L2.TS}(i:∀ D σ H,t' D σ H->t D σ H)(h:PS X e t):PS X e t':=fun pins s σ H D I q=>h pins s σ H D I (i D σ H q)
theorem _root_.L2.kQ.imp {X:Cx}{e:List Stmt}{t t':L2.TS}(i:∀ D σ H,t' D σ H->t D σ H)(h:kQ X e t):kQ X e t':=fun pins s σ H D I q=>h pins s σ H D I (i D σ H q)
end L3
end
section
namespace L3
open PySem PySem.Spec PyProof.Rows L2
theorem fK:sizeLine=aY:=sizeLine_eq
section
variable {X:Cx}{C:bH}{sub:Nat->Nat->Bool}{E:XK}{a b c e:Expr}{x y z:Ex}{pos:Pos}
theorem uB {d:D}{v:V}(h:PE X e (tC v))(r:∀ H,Rep X.K H d v):PE X e (bW X.K (aF C sub E (.c d))) :=
 h.imp fun σ H Q ⟨σd,st,R,_,ok,q,hq⟩=>by
 exact hq v H (.here ok (r H) q)
theorem VL {i:Nat}(h:PE X e (U3 i)):PE X e (bW X.K (aF C sub E (.v i))) :=
 h.imp fun σ H Q ⟨σd,st,R,r,ok,q,hq⟩=>by
 have q:fT σd i (fun d=>R d st):=q
 unfold fT at q
 split at q
 ·rename_i d ed
  obtain⟨v,e1,e2⟩:=r.2 i d ed
  exact⟨v,e1,hq v H (.here ok e2 q)⟩
 ·exact q.elim
theorem Gi:PA X [] (jJ X.K (bJ C sub E [])) :=
 RI.imp fun σ H Q ⟨σd,st,R,r,ok,q,hq⟩=>by
 exact hq [] H ⟨[],st,.refl,ok,.nil,q⟩
theorem Ew {es:List Expr}{xs:List Ex}(h:PE X e (bW X.K (aF C sub E x)))(hs:PA X es (jJ X.K (bJ C sub E xs)))
 (fM:starEach (e::es) X.env=(false,eval e X.env)::starEach es X.env):PA X (e::es) (jJ X.K (bJ C sub E (x::xs))) :=
 (DS h hs fM).imp fun σ H Q ⟨σd,st,R,r,ok,q,hq⟩=>by
 refine⟨σd,st,_,r,ok,q,fun v H1 ⟨d,aC,s1,aL,r1,q1⟩=>?_⟩
 refine⟨σd,aC,_,r.step ok s1,aL,q1,fun vs H2 ⟨ds,aG,s2,bY,r2,q2⟩=>?_⟩
 exact hq _ _ ⟨d::ds,aG,s1.trans s2,bY,.cons (r1.step aL s2) r2,q2⟩
theorem lR:∀(xs:List Ex){σ:St}{st:aB}{R:List D->aB->Prop},bM C C->bJ C sub E xs σ st R->bJ C sub E xs σ st (fun ds aA=>ds.length=xs.length/\R ds aA)
 |[],σ,st,R,_,h=>by exact⟨rfl,h⟩
 |x::xs,σ,st,R,hC,h=>by
  refine aT hC (fun _ _ z=>z) x (fun d aA h'=>?_) h
  exact cU hC (fun _ _ z=>z) xs (fun ds aS z=>⟨by simp [z.1],z.2⟩) (lR xs hC h')
theorem Ip {es:List Expr}{xs:List Ex}{k:Nat}(hC:bM C C)(hs:PA X es (jJ X.K (bJ C sub E xs)))(hl:xs.length<=aY):PE X (.Tuple es k pos) (bW X.K (aF C sub E (.tup xs))) :=
 (Eb hs).imp fun σ H Q ⟨σd,st,R,r,ok,q,hq⟩=>by
 refine⟨σd,st,_,r,ok,lR xs hC q,fun vs H1 ⟨ds,aC,s1,aL,r1,l1,q1⟩=>⟨?_,fun p hp=>?_⟩⟩
 ·rw[fK,<-r1.length,l1];exact hl
 ·exact hq _ _ (.after s1 (.IS aL r1 hp q1))
theorem Gp {es:List Expr}{xs:List Ex}(hs:PA X es (jJ X.K (bJ C sub E xs))):PE X (.List es pos) (bW X.K (aF C sub E (.lst xs))) :=
 (ZW hs).imp fun σ H Q ⟨σd,st,R,r,ok,q,hq⟩=>by
 refine⟨σd,st,_,r,ok,q,fun vs H1 ⟨ds,aC,s1,aL,r1,q1⟩=>⟨?_,fun p hp=>?_⟩⟩
 ·rw[fK,<-r1.length];exact q1.1
 ·exact hq _ _ (.after s1 (.gU aL r1 hp q1.2))
theorem two {r:R2}{te tf:Ds}{σ:L2.St}{H:Hp}{Q:L2.VK}{σd:St}{st:aB}{W:D->D->aB->Prop}{R:VK}
 (sr:dJ X.K H σd σ)(ok:aR X.K st H)(q:te σd st fun d aC=>tf σd aC fun d' aG=>W d d' aG)(hq:∀ v H',QD X.K H st R v H'->Q v H')
 (op:∀ d d' v v' H2 aG,aR X.K aG H2->Rep X.K H2 d v->Rep X.K H2 d' v'->W d d' aG->r v v' H2 (QD X.K H2 aG R))
 (mono:∀ v v' H (Q Q':L2.VK),(∀ v H,Q v H->Q' v H)->r v v' H Q->r v v' H Q'):Fk r (bW X.K te) (bW X.K tf) σ H Q:=by
 refine⟨σd,st,_,sr,ok,q,fun v H1 ⟨d,aC,s1,aL,r1,q1⟩=>?_⟩
 refine⟨σd,aC,_,sr.step ok s1,aL,q1,fun v' H2 ⟨d',aG,s2,bY,r2,q2⟩=>?_⟩
 refine mono _ _ _ _ _ (fun u H' z=>hq u H' (.after (s1.trans s2) z)) (op d d' v v' H2 aG bY (r1.step aL s2) r2 q2)
theorem IF {g:Int->Int->V}(v v':V)(H:Hp)(Q Q':L2.VK)(h:∀ v H,Q v H->Q' v H)(z:HU g v v' H Q):HU g v v' H Q':=let⟨i,j,e,e',q⟩:=z;⟨i,j,e,e',h _ _ q⟩
theorem AL {P:Int->Int->Prop}{g:Int->Int->V}(v v':V)(H:Hp)(Q Q':L2.VK)(h:∀ v H,Q v H->Q' v H)(z:rI P g v v' H Q):rI P g v v' H Q':=let⟨i,j,e,e',p,q⟩:=z;⟨i,j,e,e',p,h _ _ q⟩
end
end L3
end
section
namespace L3
open PySem PySem.Spec PyProof.Rows L2
theorem BY:fillsNumberSlot (.type "tuple") "mul" = pure false:=by kernel_rfl
theorem IE:seqRepeat? (.type "tuple")=pure (some (.builtin "tuple.__mul__")):=by kernel_rfl
theorem EH (a:Int)(t:Tok)(l:Addr)(items:Array Value)(n:Nat)(dd:Option Addr)(sl:Array (Option Value)):
 Meets (Builtin.«int.__rmul__» ⟨[.int a t,.ref l],[]⟩) (fun _ R s=>s.heap.get? l=some { cls:=.type "tuple", dict:=dd,data:=.seq items n,slots:=sl }/\R (.ok (.ret Value.notImplemented)) s) :=
 .of_wp fun prog w A R s h=>by obtain⟨hp,g,d,tk,os⟩:=s;obtain⟨hl,h⟩:=h;wp_walk;exact⟨_,rfl,h⟩
section
variable {prog:Program}{w:World}{A:Around}{E:Value->Shared->Prop}{s:Shared}
theorem KY {l:Addr}{items:Array Value}{n:Nat}{dd:Option Addr}{sl:Array (Option Value)}{k:Int}{t:Tok}{Q:PySem.Fin->Shared->Prop}(hl:s.heap.get? l=some { cls:=.type "tuple", dict:=dd,data:=.seq items n,slots:=sl })
  (h1:1<=k)(h2:k<1000)(hm:0<items.size)(hm2:items.size<=1000)(oB:k=1->Q (.done (.ret (.ref l))) s)
  (h:Q (.done (.ret (.ref s.heap.objs.size))) { s with heap:=s.heap.push { cls:=.type "tuple", data:=.seq ((List.replicate k.toNat items).foldl (·++ ·) #[]) } }):
  wpAny (model prog w) A (Builtin.«tuple.__mul__» ⟨[.ref l,.int k t],[]⟩) Q E s:=by
 have hT:s.TypeIs (.ref l) "tuple":=⟨_,hl,rfl⟩
 unfold Builtin.«tuple.__mul__»
 wp_walk
 rw[if_neg (by simp;omega)]
 show wpAny _ _ (Builtin.Tuple.tupleItemsOf (.ref l) >>= _) _ _ s
 refine wpAny_bind (wpAny_tupleItemsOf hl rfl ?_)
 have hne:items.isEmpty=false:=by
  rw[Array.isEmpty_eq_false_iff];intro z;rw[z]at hm;simp at hm
 have jp:wpAny (model prog w) A (if(decide (k<=0)||items.isEmpty)=true then do
     let __do_lift <-Builtin.Tuple.tupleExact #[]
     ret __do_lift
    else
     have __do_jp:=fun(__r:Unit) =>
      have __do_jp:=fun(__r:Unit)=>do
       let __do_lift <-
        Builtin.Tuple.tupleExact (List.foldl (fun x1 x2=>x1++x2) #[] (List.replicate k.toNat items))
       ret __do_lift;
      if Builtin.Tuple.tupleTooMany (↑items.size*k)=true then do
       let __r <-unsupported "tuple.__mul__:memory"
       __do_jp __r
      else __do_jp ();
     if ↑items.size*k>(2 ^ 63-1) / 8 then do
      rule "tuple.repeat.no-memory"
      let __do_lift <-newExc (Value.type "MemoryError") []
      let __r <-raiseNew __do_lift
      __do_jp __r
     else __do_jp ()) Q E s:=by
  rw[if_neg (by rw[hne];simp;omega)]
  have hmul:(items.size:Int)*k<=1000*1000:=Int.mul_le_mul (by omega) (by omega) (by omega) (by decide)
  have hmul0:0<=(items.size:Int)*k:=Int.mul_nonneg (by omega) (by omega)
  dsimp only
  rw[if_neg (by omega),if_neg (by simp [Builtin.Tuple.tupleTooMany,sizeLine_eq];omega)]
  wp_walk
  have iU:¬(List.foldl (fun x1 x2=>x1++x2) #[] (List.replicate k.toNat items)).size>sizeLine:=by
   have e1:=foldl_rep items.toList k.toNat []
   rw[List.nil_append]at e1
   have e2:List.foldl (fun x1 x2=>x1++x2) #[] (List.replicate k.toNat items)=(List.replicate k.toNat items.toList).flatten.toArray:=by simpa using e1
   rw[e2,List.size_toArray,List.length_flatten,List.map_replicate,List.sum_replicate_nat,Array.length_toList,sizeLine_eq]
   have:k.toNat*items.size<=1000*1000:=Nat.mul_le_mul (by omega) hm2
   omega
  rw[if_neg iU]
  wp_walk
  exact h
 show wpAny _ _ (if(items.isEmpty||k==1)=true then _ else _) _ _ s
 by_cases hk:k=1
 ·subst hk
  rw[if_pos (by simp)]
  wp_walk
  exact oB rfl
 ·rw[if_neg (by rw[hne];simpa using hk)]
  exact jp
end
noncomputable def WB (K:PySem.W.Frag):R2:=fun x y H Q=>∃(a:Addr)(k:Int)(xs:List V),x=.ref a/\y=.int k/\dZ K H a xs/\0<xs.length/\xs.length<=1000/\1<=k/\k<1000/\(k=1->Q (.ref a) H)/\∀ p,H p=none->Q (.ref p) (upd H p (.tup (List.replicate k.toNat xs).flatten))
theorem ZJ {X:Cx}:hJ X (binaryOp .Mult) (WB X.K):=by
 intro pins s σ H x y v u Q I rx ry h
 obtain⟨a,k,xs,rfl,rfl,hH,h0,h00,h1,h2,oB,q⟩:=h
 cases rx
 obtain⟨t,rfl⟩:=ry
 obtain⟨aD,r,⟨⟨cls,dd,data,sl⟩,ho,hc,n,hd⟩,z⟩:=I.tuple hH
 simp only at hc hd
 subst hc hd
 have hl:xs.length=aD.length:=r.length
 have hnew:List.foldl (fun x1 x2=>x1++x2) #[] (List.replicate k.toNat aD.toArray)=(List.replicate k.toNat aD).flatten.toArray:=by
  have:=foldl_rep aD k.toNat []
  rw[List.nil_append]at this
  exact this
 refine wpAny_binaryOp_repeat_ref (T :="tuple") (U :="int") (by decide) ⟨_,ho,rfl⟩ (fun s'=>typeIs_int s' k t) BY PySem.F.fills_int_mul PySem.F.slot_int_rmul IE PySem.F.slot_int_index.lookup
  (call_meets PySem.F.slot_int_rmul (typeIs_int s k t) PySem.F.entry_int_rmul (PySem.F.args_int_rmul_2 _ _) (EH k t a aD.toArray n dd sl)
   ⟨ho,rfl,⟨_,ho,rfl⟩,wpAny_call_entry PySem.F.slot_tuple_mul ⟨_,ho,rfl⟩ PySem.F.entry_tuple_mul (KY ho h1 h2 (by simpa [<-hl]using h0) (by simpa [<-hl]using h00) (fun e=>?_) ?_) (PySem.F.args_tuple_mul_2 _ _)⟩)
 ·exact⟨_,rfl,.ref a,H,I,rfl,oB e⟩
 ·refine⟨_,rfl,.ref s.heap.objs.size,_,I.laid (a:=s.heap.objs.size) (o:=.tup (List.replicate k.toNat xs).flatten) (t':=s.toks) (fun b u e=>Heap.get?_push_of_some _ e) (Nat.le_refl _) ?_,rfl,q _ (I.cB.fresh (Nat.le_refl _))⟩
  refine⟨by rw[len_rep,sizeLine_eq];have:k.toNat*xs.length<=1000*1000:=Nat.mul_le_mul (by omega) h00;omega,_,r.rep k.toNat,?_⟩
  rw[hnew]
  exact nW.new s.heap _
end L3
end
section
namespace L3
open PySem PySem.Spec PyProof.Rows L2
section
variable {X:Cx}
theorem W6 {prog:Program}{w:World}{A:Around}{E:Value->Shared->Prop}{s:Shared}{t b:Addr}{ws:List Value}{Q:Value->Shared->Prop}(ht:IsTup s.heap t #[])(hb:IsTup s.heap b ws.toArray)
  (h:Q (.ref b) s):wpAny (model prog w) A (binaryOp .Add (.ref t) (.ref b)) Q E s:=by
 obtain⟨⟨cls,dd,data,sl⟩,ho,hc,n,hd⟩:=id ht
 obtain⟨⟨cls2,dd2,data2,sl2⟩,ho2,hc2,n2,hd2⟩:=id hb
 simp only at hc hd hc2 hd2
 subst hc hd hc2 hd2
 exact concat_meets ⟨_,ho,rfl⟩ ⟨_,ho2,rfl⟩ noFill_tuple_add seq_tuple_add PySem.F.slot_tuple_add PySem.F.entry_tuple_add (PySem.F.args_tuple_add_2 _ _)
  (tuple_addW0 t b #[] ws.toArray n n2 dd dd2 sl sl2 (by simp)) ⟨ho,ho2,h⟩
noncomputable def VM (K:PySem.W.Frag):R2:=fun x y H Q=>∃ a b ys,x=.ref a/\y=.ref b/\dZ K H a []/\dZ K H b ys/\Q (.ref b) H
theorem YV:hJ X (binaryOp .Add) (VM X.K):=by
 intro pins s σ H x y v u Q I rx ry h
 obtain⟨a,b,ys,rfl,rfl,ha,hb,q⟩:=h
 cases rx
 cases ry
 obtain⟨aD,r1,p1,_⟩:=I.tuple ha
 obtain⟨nK,r2,p2,_⟩:=I.tuple hb
 have e:aD=[]:=r1.zZ.mpr rfl
 subst e
 exact W6 p1 p2 ⟨.ref b,H,I,rfl,q⟩
noncomputable def Kb:R2:=fun x y H Q=>∃ i j,x=.str i/\y=.str j/\i.length+j.length<=sizeLine/\Q (.str (i++j)) H
noncomputable abbrev VI (K:PySem.W.Frag):R2:=fun x y H Q=>HU (fun i j=>.int (i+j)) x y H Q∨Kb x y H Q∨VV K x y H Q∨VM K x y H Q∨Di x y H Q
theorem YE:hJ X (binaryOp .Add) (VI X.K):=hJ.or Fx (hJ.or M9 (hJ.or W4 (hJ.or YV Bf)))
noncomputable abbrev VF (K:PySem.W.Frag):R2:=fun x y H Q=>rI OU (fun i j=>.int (i*j)) x y H Q∨Ej x y H Q∨WB K x y H Q
theorem WZ:hJ X (binaryOp .Mult) (VF X.K):=hJ.or Z3 (hJ.or Cy ZJ)
noncomputable def Bj:uJ->Operator
 |.add=>.Add|.sub=>.Sub|.mul=>.Mult|.fdiv=>.FloorDiv|.mod=>.Mod|.pow=>.Pow
noncomputable def OV (K:PySem.W.Frag):uJ->R2
 |.add=>VI K
 |.sub=>HU fun i j=>.int (i-j)
 |.mul=>VF K
 |.fdiv=>rI Co fun i j=>.int (i / j)
 |.mod=>rI (fun _ j=>0<j) fun i j=>.int (i % j)
 |.pow=>rI Ck fun i j=>.int (i ^ j.toNat)
theorem Ci:∀ op:uJ,hJ X (binaryOp (Bj op)) (OV X.K op)
 |.add=>YE
 |.sub=>Ac
 |.mul=>WZ
 |.fdiv=>ZI
 |.mod=>Dv
 |.pow=>Bx
theorem Q8 {K:PySem.W.Frag}:∀(op:uJ)(v v':V)(H:Hp)(Q Q':L2.VK),(∀ v H,Q v H->Q' v H)->OV K op v v' H Q->OV K op v v' H Q'
 |.add,v,v',H,Q,Q',h,z=>by
  rcases z with z|⟨i,j,e,e',l,q⟩|⟨a,b,xs,ys,e,e',s,s',n,l,q,q'⟩|⟨a,b,ys,e,e',s,s',q⟩|⟨l,b,xs,zs,e,e',s,s',n,q⟩
  ·exact .inl (IF _ _ _ _ _ h z)
  ·exact .inr (.inl ⟨i,j,e,e',l,h _ _ q⟩)
  ·exact .inr (.inr (.inl ⟨a,b,xs,ys,e,e',s,s',n,l,fun z=>h _ _ (q z),fun z p hp=>h _ _ (q' z p hp)⟩))
  ·exact .inr (.inr (.inr (.inl ⟨a,b,ys,e,e',s,s',h _ _ q⟩)))
  ·exact .inr (.inr (.inr (.inr ⟨l,b,xs,zs,e,e',s,s',n,fun p hp=>h _ _ (q p hp)⟩)))
 |.sub,v,v',H,Q,Q',h,z=>IF _ _ _ _ _ h z
 |.mul,v,v',H,Q,Q',h,z=>by
  rcases z with z|⟨l,k,xs,e,e',s,b1,b2,b3,q⟩|⟨l,k,xs,e,e',s,b1,b2,b3,b4,q0,q⟩
  ·exact .inl (AL _ _ _ _ _ h z)
  ·exact .inr (.inl ⟨l,k,xs,e,e',s,b1,b2,b3,fun p hp=>h _ _ (q p hp)⟩)
  ·exact .inr (.inr ⟨l,k,xs,e,e',s,b1,b2,b3,b4,fun z=>h _ _ (q0 z),fun p hp=>h _ _ (q p hp)⟩)
 |.fdiv,v,v',H,Q,Q',h,z=>AL _ _ _ _ _ h z
 |.mod,v,v',H,Q,Q',h,z=>AL _ _ _ _ _ h z
 |.pow,v,v',H,Q,Q',h,z=>AL _ _ _ _ _ h z
end
section
variable {K:PySem.W.Frag}{H:Hp}{st:aB}{R:VK}
theorem Rep.int_inv {i:Int}{v:V}(r:Rep K H (.int i) v):v=.int i:=by cases r;rfl
theorem Rep.str_inv {x:List Nat}{v:V}(r:Rep K H (.str x) v):v=.str ⟨x.toArray⟩:=by cases r;rfl
theorem Rep.fE {b:Bool}{v:V}(r:Rep K H (.bl b) v):v=.bl b:=by cases r;rfl
theorem Rep.fJ {v:V}(r:Rep K H .non v):v=.non:=by cases r;rfl
theorem Rep.cF {a:Addr}{v:V}(r:Rep K H (.ref a) v):v=.ref a:=by cases r;rfl
theorem Rep.bO {ds:List D}{v:V}(r:Rep K H (.tup ds) v):∃ a vs,v=.ref a/\dZ K H a vs/\aI K H ds vs:=by cases r with|tup h r=>exact⟨_,_,rfl,h,r⟩
theorem Rep.IP {ks vs:List D}{v:V}(r:Rep K H (.cW ks vs) v):∃ a,v=.ref a/\ZY K a ks vs:=by cases r with|cW h=>exact⟨_,rfl,h⟩
theorem Rep.kN {ds:List D}{v:V}(r:Rep K H (.bK ds) v):∃ a vs,v=.ref a/\qQ K H a vs/\aI K H ds vs:=by cases r with|bK h r=>exact⟨_,_,rfl,h,r⟩
theorem cT {a:Nat}{P:List D->Prop}(h:cD st a P):∃ ds,st a=some (.lst ds)/\P ds:=by
 unfold cD at h
 split at h
 ·rename_i ds e;exact⟨ds,e,h⟩
 ·exact h.elim
theorem sA {a:Nat}{P:List D->Prop}{M:List D->List D->Prop}(ok:aR K st H)(h:eO st a P M):∃ ds,st a=some (.lst ds)/\P ds:=by
 unfold eO at h
 split at h
 ·rename_i ds e;exact⟨ds,e,h⟩
 ·rename_i e;exact(ok _ _ e).elim
 ·exact h.elim
theorem eD {α:Type}{o:Option α}{P:α->Prop}(h:cS o P):∃ x,o=some x/\P x:=by
 unfold cS at h
 split at h
 ·exact⟨_,rfl,h⟩
 ·exact h.elim
theorem WM (x y:List Nat):(⟨x.toArray⟩:Str)++⟨y.toArray⟩=⟨(x++y).toArray⟩:=by
 show Str.mk _=Str.mk _
 simp
theorem aI.nil_inv {vs:List V}(r:aI K H [] vs):vs=[]:=by cases r;rfl
theorem aI.flat {ds:List D}{vs:List V}(r:aI K H ds vs):∀ k:Nat,aI K H (List.replicate k ds).flatten (List.replicate k vs).flatten
 |0=>.nil
 |k+1=>by simp only[List.replicate_succ,List.flatten_cons];exact r.append (aI.flat r k)
theorem RE {op:uJ}{d d':D}{v v':V}(ok:aR K st H)(r:Rep K H d v)(r':Rep K H d' v')(h:gN op d d' st R):OV K op v v' H (QD K H st R):=by
 unfold gN at h
 split at h
 ·cases r.int_inv;cases r'.int_inv
  exact .inl ⟨_,_,rfl,rfl,.here ok (.int _) h⟩
 ·rename_i a b
  cases r.str_inv;cases r'.str_inv
  refine .inr (.inl ⟨_,_,rfl,rfl,?_,?_⟩)
  ·rw[fK];simpa [Str.length]using h.1
  ·rw[WM];exact .here ok (.str _) h.2
 ·rename_i ds es
  obtain⟨a,vs,rfl,s1,q1⟩:=r.bO
  obtain⟨b,us,rfl,s2,q2⟩:=r'.bO
  cases ds with
  |nil =>
   cases q1.nil_inv
   exact .inr (.inr (.inr (.inl ⟨a,b,us,rfl,rfl,s1,s2,.here ok r' (by simpa using h.2)⟩)))
  |cons d ds =>
   refine .inr (.inr (.inl ⟨a,b,vs,us,rfl,rfl,s1,s2,?_,?_,fun e=>?_,fun _ p hp=>.IS ok (q1.append q2) hp h.2⟩))
   ·intro e;subst e;cases q1
   ·rw[fK,<-q1.length,<-q2.length];exact h.1
   ·subst e
    cases q2
    exact .here ok r (by simpa using h.2)
 ·rename_i a b
  cases r.cF;cases r'.cF
  obtain⟨xs,e1,h⟩:=cT h
  obtain⟨ys,e2,h⟩:=cT h
  obtain⟨vs,g1,q1⟩:=ok.lst e1
  obtain⟨us,g2,q2⟩:=ok.lst e2
  refine .inr (.inr (.inr (.inr ⟨a,b,vs,us,rfl,rfl,g1,g2,?_,fun p hp=>.gU ok (q1.append q2) hp h.2⟩)))
  rw[fK,<-q1.length,<-q2.length];simpa using h.1
 ·cases r.int_inv;cases r'.int_inv
  exact⟨_,_,rfl,rfl,.here ok (.int _) h⟩
 ·cases r.int_inv;cases r'.int_inv
  exact .inl ⟨_,_,rfl,rfl,h.1.imp (fun z=>z) (fun z=>z),.here ok (.int _) h.2⟩
 ·rename_i a k
  cases r.cF;cases r'.int_inv
  obtain⟨xs,e1,h1,h2,h⟩:=cT h
  obtain⟨vs,g1,q1⟩:=ok.lst e1
  refine .inr (.inl ⟨a,k,vs,rfl,rfl,g1,by omega,by omega,?_,fun p hp=>.gU ok (q1.flat _) hp h.2⟩)
  rw[fK,<-q1.length];exact h1
 ·rename_i xs k
  obtain⟨a,vs,rfl,f,g⟩:=r.bO
  cases r'.int_inv
  obtain⟨⟨c1,c2,c3,c4⟩,h⟩:=h
  refine .inr (.inr ⟨a,k,vs,rfl,rfl,f,by rw[<-g.length];exact c1,by rw[<-g.length];exact c2,c3,c4,fun e=>?_,fun p hp=>.IS ok (g.flat _) hp h⟩)
  subst e
  have e1:(List.replicate (1:Int).toNat xs).flatten=xs:=by simp
  rw[e1]at h
  exact .here ok r h
 ·cases r.int_inv;cases r'.int_inv
  exact⟨_,_,rfl,rfl,h.1,.here ok (.int _) h.2⟩
 ·cases r.int_inv;cases r'.int_inv
  exact⟨_,_,rfl,rfl,h.1,.here ok (.int _) h.2⟩
 ·cases r.int_inv;cases r'.int_inv
  exact⟨_,_,rfl,rfl,h.1,.here ok (.int _) h.2⟩
 ·exact h.elim
end
section
variable {X:Cx}{C:bH}{sub:Nat->Nat->Bool}{E:XK}{a b c e:Expr}{x y z:Ex}{pos:Pos}
theorem Jt {op:uJ}(ha:PE X a (bW X.K (aF C sub E x)))(hb:PE X b (bW X.K (aF C sub E y))):PE X (.BinOp a (Bj op) b pos) (bW X.K (aF C sub E (.bin op x y))) :=
 (Jj (Ci op) ha hb).imp fun σ H Q ⟨σd,st,R,r,ok,q,hq⟩=>by
 exact two (W:=fun d d' aG=>gN op d d' aG R) r ok q hq (fun d d' v v' H2 aG bY r1 r2 h=>RE bY r1 r2 h) (Q8 op)
noncomputable def Md (d:D)(st:aB):Option Bool:=match d with
 |.non=>some false
 |.bl b=>some b
 |.int i=>some (i != 0)
 |.str x=>if x.length<=aY then some (!x.isEmpty)else none
 |.tup ds=>some (!ds.isEmpty)
 |.ref a=>match st a with
  |some (.lst ds)=>some (!ds.isEmpty)
  |some (.dic ks _)=>some (!ks.isEmpty)
  |some _=>none
  |none=>none
 |.bK ds=>some (!ds.isEmpty)
 |_=>none
theorem vW {d:D}{st:aB}{P:Bool->Prop}:dX d st P↔∃ k,Md d st=some k/\P k:=by
 cases d with
 |str x =>
  show(x.length<=aY/\P (!x.isEmpty))↔∃ k,(if x.length<=aY then some (!x.isEmpty)else none)=some k/\P k
  split
  ·rename_i h;exact⟨fun z=>⟨_,rfl,z.2⟩,fun⟨k,e,q⟩=>⟨h,by cases e;exact q⟩⟩
  ·rename_i h;exact⟨fun z=>(h z.1).elim,fun⟨k,e,q⟩=>by cases e⟩
 |ref a =>
  show eO st a _ _↔∃ k,(match st a with|some (.lst ds)=>some (!ds.isEmpty)|some (.dic ks _)=>some (!ks.isEmpty)|some _=>none|none=>none)=some k/\P k
  unfold eO
  cases st a with
  |none=>exact⟨fun z=>z.elim,fun⟨k,e,q⟩=>by cases e⟩
  |some o=>cases o with
   |lst ds=>exact⟨fun z=>⟨_,rfl,z⟩,fun⟨k,e,q⟩=>by cases e;exact q⟩
   |dic ks vs=>exact⟨fun z=>⟨_,rfl,z⟩,fun⟨k,e,q⟩=>by cases e;exact q⟩
   |ins _ _=>exact⟨fun z=>z.elim,fun⟨k,e,q⟩=>by cases e⟩
   |tab _ _=>exact⟨fun z=>z.elim,fun⟨k,e,q⟩=>by cases e⟩
 |cW _ _=>exact⟨fun z=>z.elim,fun⟨k,e,q⟩=>by cases e⟩
 |exc _=>exact⟨fun z=>z.elim,fun⟨k,e,q⟩=>by cases e⟩
 |_=>exact⟨fun z=>⟨_,rfl,z⟩,fun⟨k,e,q⟩=>by cases e;exact q⟩
theorem iK {α:Type}(x:List α):(!x.isEmpty)=(((x.length:Nat):Int) != 0):=by
 cases x with
 |nil=>rfl
 |cons a r =>
 simp only[List.isEmpty_cons,Bool.not_false,List.length_cons]
 symm
 rw[bne_iff_ne];omega
theorem rP {K:PySem.W.Frag}{H:Hp}{st:aB}{d:D}{v:V}{P:Bool->Prop}(ok:aR K st H)(r:Rep K H d v)(h:dX d st P):∃ k,UR K v H k/\P k:=by
 unfold dX at h
 split at h
 ·cases r.fJ;exact⟨_,rfl,h⟩
 ·cases r.fE;exact⟨_,rfl,h⟩
 ·cases r.int_inv;exact⟨_,rfl,h⟩
 ·rename_i x P
  cases r.str_inv
  refine⟨_,⟨by rw[fK];simpa [Str.length]using h.1,?_⟩,h.2⟩
  rw[iK];simp [Str.length]
 ·obtain⟨a,vs,rfl,s1,q1⟩:=r.bO
  refine⟨_,.inr (.inl ⟨vs,s1,?_⟩),h⟩
  rw[iK,iK,q1.length]
 ·cases r.cF
  obtain⟨ds,e,h⟩:=sA ok h
  obtain⟨vs,g,q⟩:=ok.lst e
  refine⟨_,.inl ⟨vs,cG.of g,?_⟩,h⟩
  rw[iK,iK,q.length]
 ·obtain⟨a,vs,rfl,s1,q1⟩:=r.kN
  refine⟨_,.inl ⟨vs,s1.sq,?_⟩,h⟩
  rw[iK,iK,q1.length]
 ·exact h.elim
theorem SY (h:PE X e (bW X.K (aF C sub E x)))(he:∀ whole,isTrue e X.env whole=(do let v <-whole;standAt e.pos;holding [v] (truthy v))):PT X e (jD X.K (aF C sub E x)) :=
 (S4 h he).imp fun σ H Q ⟨σd,st,R,r,ok,q,hq⟩=>by
 refine⟨σd,st,_,r,ok,q,fun v H1 ⟨d,aC,s1,aL,r1,q1⟩=>?_⟩
 obtain⟨k,t,z⟩:=rP aL r1 q1
 exact⟨k,t,hq _ _ ⟨aC,s1,aL,z⟩⟩
theorem Bw (h:PT X e (jD X.K (aF C sub E x))):PT X (.UnaryOp .Not e pos) (jD X.K (aF C sub E (.not_ x))) :=
 (Eu h).imp fun σ H Q ⟨σd,st,R,r,ok,q,hq⟩=>by
 exact⟨σd,st,fun b aA=>R (!b) aA,r,ok,q,fun b H1 z=>hq _ _ z⟩
theorem Gz (h:PE X e (bW X.K (aF C sub E x))):PE X (.UnaryOp .Not e pos) (bW X.K (aF C sub E (.not_ x))):=by
 intro pins s σ H Q I ⟨σd,st,R,r,ok,q,hq⟩
 refine UnaryOp_ (bA (h pins s σ H _ I ⟨σd,st,_,r,ok,q,fun v H' z=>z⟩) fun u s1 ⟨v,H1,I1,rv,d,aC,st1s,aL,r1,q1⟩=>?_)
 obtain⟨k,t,z⟩:=rP aL r1 q1
 exact not_of (bA (C4 pins s1 σ H1 v u (fun b H'=>Q (.bl (!b)) H') I1 rv ⟨k,t,hq _ _ (.after st1s (.here aL (.bl _) z))⟩) fun b s2 ⟨H2,I2,w⟩=>⟨.bl (!b),H2,I2,rfl,w⟩)
theorem Cz {op:BoolOp}(h:PT X e (jD X.K (aF C sub E x))):PW X (.BoolOp op [e] pos) (jD X.K (aF C sub E x)):=by
 cases op
 ·exact XR h
 ·exact Fi h
theorem Dm {rest:List Expr}(hC:bM C C)(ha:PT X a (jD X.K (aF C sub E x)))(hb:PW X (.BoolOp .And (b::rest) pos) (jD X.K (aF C sub E y))):PW X (.BoolOp .And (a::b::rest) pos) (jD X.K (aF C sub E (.and_ x y))) :=
 (Fw ha hb).imp fun σ H Q ⟨σd,st,R,r,ok,q,hq⟩=>by
 refine⟨σd,st,fun k aC=>if k=true then aF C sub E y σd aC (fun d aA=>dX d aA fun b=>R b aA)else R false aC,r,ok,aT hC (fun _ _ z=>z) x (fun d aC z=>?_) q,fun k H1 ⟨aC,s1,aL,z⟩=>?_⟩
 ·rw[vW]at z ⊢
  obtain⟨k,t,z⟩:=z
  refine⟨k,t,?_⟩
  cases k with
  |true=>exact z
  |false =>
  have z':dX d aC fun b=>R b aC:=z
  rw[vW]at z'
  obtain⟨k',t',z'⟩:=z'
  rw[t]at t';cases t'
  exact z'
 ·cases k with
  |true=>exact⟨σd,aC,R,r.step ok s1,aL,z,fun k H2 ⟨aG,s2,bY,w⟩=>hq _ _ ⟨aG,s1.trans s2,bY,w⟩⟩
  |false=>exact hq _ _ ⟨aC,s1,aL,z⟩
theorem Kh {rest:List Expr}(hC:bM C C)(ha:PT X a (jD X.K (aF C sub E x)))(hb:PW X (.BoolOp .Or (b::rest) pos) (jD X.K (aF C sub E y))):PW X (.BoolOp .Or (a::b::rest) pos) (jD X.K (aF C sub E (.or_ x y))) :=
 (Ij ha hb).imp fun σ H Q ⟨σd,st,R,r,ok,q,hq⟩=>by
 refine⟨σd,st,fun k aC=>if k=true then R true aC else aF C sub E y σd aC (fun d aA=>dX d aA fun b=>R b aA),r,ok,aT hC (fun _ _ z=>z) x (fun d aC z=>?_) q,fun k H1 ⟨aC,s1,aL,z⟩=>?_⟩
 ·rw[vW]at z ⊢
  obtain⟨k,t,z⟩:=z
  refine⟨k,t,?_⟩
  cases k with
  |false=>exact z
  |true =>
  have z':dX d aC fun b=>R b aC:=z
  rw[vW]at z'
  obtain⟨k',t',z'⟩:=z'
  rw[t]at t';cases t'
  exact z'
 ·cases k with
  |false=>exact⟨σd,aC,R,r.step ok s1,aL,z,fun k H2 ⟨aG,s2,bY,w⟩=>hq _ _ ⟨aG,s1.trans s2,bY,w⟩⟩
  |true=>exact hq _ _ ⟨aC,s1,aL,z⟩
theorem Ky {rest:List Expr}(ha:PE X a (bW X.K (aF C sub E x)))(hb:PE X (.BoolOp .And (b::rest) pos) (bW X.K (aF C sub E y))):PE X (.BoolOp .And (a::b::rest) pos) (bW X.K (aF C sub E (.and_ x y))):=by
 intro pins s σ H Q I ⟨σd,st,R,r,ok,q,hq⟩
 refine BoolOp_and (bA (ha pins s σ H _ I ⟨σd,st,_,r,ok,q,fun v H' z=>z⟩) fun u s1 ⟨v,H1,I1,rv,d,aC,st1s,aL,r1,q1⟩=>?_)
 obtain⟨k,t,z⟩:=rP aL r1 q1
 refine bA (C4 pins s1 σ H1 v u (fun b H'=>b=k/\H'=H1) I1 rv ⟨k,t,rfl,rfl⟩) fun b s2 ⟨H2,I2,e,e'⟩=>?_
 subst e e'
 cases b with
 |true=>exact hb pins s2 σ H2 Q I2 ⟨σd,aC,R,r.step ok st1s,aL,z,fun v H' w=>hq _ _ (.after st1s w)⟩
 |false=>exact⟨v,H2,I2,rv,hq _ _ (.after st1s (.here aL r1 z))⟩
theorem Nc {rest:List Expr}(ha:PE X a (bW X.K (aF C sub E x)))(hb:PE X (.BoolOp .Or (b::rest) pos) (bW X.K (aF C sub E y))):PE X (.BoolOp .Or (a::b::rest) pos) (bW X.K (aF C sub E (.or_ x y))):=by
 intro pins s σ H Q I ⟨σd,st,R,r,ok,q,hq⟩
 refine BoolOp_or (bA (ha pins s σ H _ I ⟨σd,st,_,r,ok,q,fun v H' z=>z⟩) fun u s1 ⟨v,H1,I1,rv,d,aC,st1s,aL,r1,q1⟩=>?_)
 obtain⟨k,t,z⟩:=rP aL r1 q1
 refine bA (C4 pins s1 σ H1 v u (fun b H'=>b=k/\H'=H1) I1 rv ⟨k,t,rfl,rfl⟩) fun b s2 ⟨H2,I2,e,e'⟩=>?_
 subst e e'
 cases b with
 |false=>exact hb pins s2 σ H2 Q I2 ⟨σd,aC,R,r.step ok st1s,aL,z,fun v H' w=>hq _ _ (.after st1s w)⟩
 |true=>exact⟨v,H2,I2,rv,hq _ _ (.after st1s (.here aL r1 z))⟩
theorem Jv {op:BoolOp}(h:PE X e (bW X.K (aF C sub E x))):PE X (.BoolOp op [e] pos) (bW X.K (aF C sub E x)):=Cn h
end
end L3
end
section
namespace L3
open PySem PySem.Spec PyProof.Rows L2 PySem.SeqAt
mutual
theorem vL:∀ d:D,bE d=true->bI d d=true
 |.non,_=>rfl
 |.bl b,_=>by simp [bI]
 |.int i,_=>by simp [bI]
 |.str x,_=>by simp [bI]
 |.tup ds,h=>by simp only[bE]at h;simp only[bI];exact kM ds h
 |.ref _,h=>by simp [bE]at h
 |.cW _ _,h=>by simp [bE]at h
 |.bK _,h=>by simp [bE]at h
 |.exc _,h=>by simp [bE]at h
theorem kM:∀ ds:List D,bP ds=true->fG ds ds=true
 |[],_=>rfl
 |d::ds,h=>by
  simp only[bP,Bool.and_eq_true]at h
  simp only[fG,Bool.and_eq_true]
  exact⟨vL d h.1,kM ds h.2⟩
end
theorem mV:∀{ds:List D}{d:D},bP ds=true->d∈ds->bE d=true
 |e::ds,d,h,m=>by
  simp only[bP,Bool.and_eq_true]at h
  rcases List.mem_cons.mp m with rfl|m
  ·exact h.1
  ·exact mV h.2 m
theorem iW:∀{ds:List D}{d:D},d∈ds->cH d<=cJ ds
 |e::ds,d,m=>by
  simp only[cJ]
  rcases List.mem_cons.mp m with rfl|m
  ·omega
  ·have:=iW m;omega
theorem vC:∀{ds es:List D}(e:Nat->Bool),(∀ j d d',ds[j]? = some d->es[j]? = some d'->e j=bI d d')->((List.range (min ds.length es.length)).all e&&ds.length==es.length)=fG ds es
 |[],[],e,h=>by simp [fG]
 |[],_::_,e,h=>by simp [fG]
 |_::_,[],e,h=>by simp [fG]
 |d::ds,d'::es,e,h=>by
  have ih:=vC (fun j=>e (j+1)) fun j x x' e1 e2=>h (j+1) x x' (by simpa using e1) (by simpa using e2)
  have h0:=h 0 d d' rfl rfl
  simp only[fG,List.length_cons,Nat.add_min_add_right,List.range_succ_eq_map,List.all_cons,List.all_map,Function.comp_def]
  rw[<-ih,h0]
  have hl:(ds.length+1==es.length+1)=(ds.length==es.length):=by simp
  rw[hl,Bool.and_assoc]
theorem PZ {ds es:List D}(e:Nat->Bool)(hl:ds.length=es.length)(h:∀ j d d',ds[j]? = some d->es[j]? = some d'->e j=bI d d'):(List.range ds.length).all e=fG ds es:=by
 rw[<-vC e h,<-hl];simp
theorem HH:∀{ds es:List D},ds.length≠es.length->fG ds es=false
 |[],[],h=>(h rfl).elim
 |[],_::_,h=>rfl
 |_::_,[],h=>rfl
 |d::ds,d'::es,h=>by simp only[fG,HH (ds:=ds) (es:=es) (by simpa using h),Bool.and_false]
section
variable {X:Cx}{pins:List (Addr×Obj)}{σ:L2.St}{H:Hp}{s:Shared}{st:aB}
theorem aQ.at {vs:List V}{aD:List Value}(r:aQ vs aD){j:Nat}(h:j<aD.toArray.size):∃ v,vs[j]? = some v/\RelV v aD.toArray[j]:=by
 have hl:=r.length
 have hj:j<vs.length:=by simp at h;omega
 obtain⟨u,e1,e2⟩:=aQ.get r (List.getElem?_eq_getElem hj)
 refine⟨vs[j],List.getElem?_eq_getElem hj,?_⟩
 rw[List.getElem?_eq_some_iff]at e1
 obtain⟨h1,e1⟩:=e1
 simp only[List.getElem_toArray,e1]
 exact e2
theorem aI.get' {K:PySem.W.Frag}:∀{ds:List D}{vs:List V}{i:Nat}{v:V},aI K H ds vs->vs[i]? = some v->∃ d,ds[i]? = some d/\Rep K H d v
 |_,_,_,_,.nil,e=>by simp at e
 |_,_,0,_,.cons h _,e=>by simp at e;subst e;exact⟨_,rfl,h⟩
 |_,_,i+1,v,.cons _ r,e=>by
  obtain⟨d,e1,e2⟩:=aI.get' (i:=i) (v:=v) r (by simpa using e)
  exact⟨d,by simpa using e1,e2⟩
theorem AE (I:Inv X pins σ H s):∀(n:Nat){d d':D}{v:V},cH d<=n->bE d=true->bE d'=true->Rep X.K H d v->Rep X.K H d' v->d=d':=by
 intro n
 induction n with
 |zero =>
 intro d d' v hn p p' r r'
 cases r<;>cases r'<;>first|rfl|(simp [bE]at p;done)|(simp [bE]at p';done)|(simp [cH]at hn;done)
 |succ n ih =>
 intro d d' v hn p p' r r'
 cases r<;>cases r'<;>first|rfl|(simp [bE]at p;done)|(simp [bE]at p';done)|skip
 rename_i ds a vs h r es us r' h'
 cases I.rX h h'
 have go:∀(ds es:List D)(vs:List V),cJ ds<=n->bP ds=true->bP es=true->aI X.K H ds vs->aI X.K H es vs->ds=es:=by
  intro ds
  induction ds with
  |nil=>intro es vs _ _ _ r r';cases r;cases r';rfl
  |cons d ds ihs =>
  intro es vs hd pp pp' r r'
  cases r with
  |cons r1 r2=>cases r' with
   |cons r1' r2' =>
   simp only[cJ]at hd
   simp only[bP,Bool.and_eq_true]at pp pp'
   rw[ih (by omega) pp.1 pp'.1 r1 r1',ihs _ _ (by omega) pp.2 pp'.2 r2 r2']
 rw[go ds es vs (by simp only[cH]at hn;omega) (by simpa [bE]using p) (by simpa [bE]using p') r r']
noncomputable def xH (A:Around)(s:Shared)(u u':Value)(b:Bool):Prop:=RcAt A s u u' b/\EqAt A s u u' b/\RcNeAt A s u u' (!b)
noncomputable def oF:D->Bool
 |.non=>true
 |.bl _=>true
 |.int _=>true
 |.str _=>true
 |_=>false
theorem ID (x y:List Nat):((⟨x.toArray⟩:Str)==⟨y.toArray⟩)=(x==y):=by
 rw[<-str_beq]
theorem vM {K:PySem.W.Frag}{H:Hp}{A:Around}{s:Shared}{d d':D}{v v':V}{u u':Value}(p:oF d=true)(p':oF d'=true)(r:Rep K H d v)(rv:RelV v u)(r':Rep K H d' v')(bD:RelV v' u'):xH A s u u' (bI d d'):=by
 cases d with
 |non=>cases d' with
  |non =>
   cases r.fJ;cases rv
   cases r'.fJ;cases bD
   exact⟨RcAt.none_none,EqAt.same _,RcNeAt.none_none⟩
  |bl b' =>
   cases r.fJ;cases rv
   cases r'.fE;cases bD
   simp only[bI]
   exact⟨RcAt.none_bool _,EqAt.none_bool _,RcNeAt.none_bool _⟩
  |int i' =>
   cases r.fJ;cases rv
   cases r'.int_inv;obtain⟨_,rfl⟩:=bD
   simp only[bI]
   exact⟨RcAt.none_int _ _,EqAt.none_int _ _,RcNeAt.none_int _ _⟩
  |str x' =>
   cases r.fJ;cases rv
   cases r'.str_inv;obtain⟨_,rfl⟩:=bD
   simp only[bI]
   exact⟨RcAt.none_str _ _,EqAt.none_str _ _,RcNeAt.none_str _ _⟩
  |_=>cases p'
 |bl b=>cases d' with
  |non =>
   cases r.fE;cases rv
   cases r'.fJ;cases bD
   simp only[bI]
   exact⟨RcAt.bool_none _,EqAt.bool_none _,RcNeAt.bool_none _⟩
  |bl b' =>
   cases r.fE;cases rv
   cases r'.fE;cases bD
   simp only[bI]
   exact⟨RcAt.bool_bool _ _,EqAt.bool_bool _ _,RcNeAt.bool_bool _ _⟩
  |int i' =>
   cases r.fE;cases rv
   cases r'.int_inv;obtain⟨_,rfl⟩:=bD
   simp only[bI]
   exact⟨RcAt.bool_int _ _ _,EqAt.bool_int _ _ _,RcNeAt.bool_int _ _ _⟩
  |str x' =>
   cases r.fE;cases rv
   cases r'.str_inv;obtain⟨_,rfl⟩:=bD
   simp only[bI]
   exact⟨RcAt.bool_str _ _ _,EqAt.bool_str _ _ _,RcNeAt.bool_str _ _ _⟩
  |_=>cases p'
 |int i=>cases d' with
  |non =>
   cases r.int_inv;obtain⟨_,rfl⟩:=rv
   cases r'.fJ;cases bD
   simp only[bI]
   exact⟨RcAt.int_none _ _,EqAt.int_none _ _,RcNeAt.int_none _ _⟩
  |bl b' =>
   cases r.int_inv;obtain⟨_,rfl⟩:=rv
   cases r'.fE;cases bD
   simp only[bI]
   exact⟨RcAt.int_bool _ _ _,EqAt.int_bool _ _ _,RcNeAt.int_bool _ _ _⟩
  |int i' =>
   cases r.int_inv;obtain⟨_,rfl⟩:=rv
   cases r'.int_inv;obtain⟨_,rfl⟩:=bD
   simp only[bI]
   exact⟨RcAt.int_int _ _ _ _,EqAt.int_int _ _ _ _,RcNeAt.int_int _ _ _ _⟩
  |str x' =>
   cases r.int_inv;obtain⟨_,rfl⟩:=rv
   cases r'.str_inv;obtain⟨_,rfl⟩:=bD
   simp only[bI]
   exact⟨RcAt.int_str _ _ _ _,EqAt.int_str _ _ _ _,RcNeAt.int_str _ _ _ _⟩
  |_=>cases p'
 |str x=>cases d' with
  |non =>
   cases r.str_inv;obtain⟨_,rfl⟩:=rv
   cases r'.fJ;cases bD
   simp only[bI]
   exact⟨RcAt.str_none _ _,EqAt.str_none _ _,RcNeAt.str_none _ _⟩
  |bl b' =>
   cases r.str_inv;obtain⟨_,rfl⟩:=rv
   cases r'.fE;cases bD
   simp only[bI]
   exact⟨RcAt.str_bool _ _ _,EqAt.str_bool _ _ _,RcNeAt.str_bool _ _ _⟩
  |int i' =>
   cases r.str_inv;obtain⟨_,rfl⟩:=rv
   cases r'.int_inv;obtain⟨_,rfl⟩:=bD
   simp only[bI]
   exact⟨RcAt.str_int _ _ _ _,EqAt.str_int _ _ _ _,RcNeAt.str_int _ _ _ _⟩
  |str x' =>
   cases r.str_inv;obtain⟨_,rfl⟩:=rv
   cases r'.str_inv;obtain⟨_,rfl⟩:=bD
   have e:bI (.str x) (.str x')=((⟨x.toArray⟩:Str)==⟨x'.toArray⟩):=by rw[ID];simp only[bI]
   rw[e]
   exact⟨RcAt.str_str _ _ _ _,EqAt.str_str _ _ _ _,RcNeAt.str_str _ _ _ _⟩
  |_=>cases p'
 |_=>cases p
theorem gL {K:PySem.W.Frag}{H:Hp}{A:Around}{s:Shared}{l:Addr}{aD:Array Value}{d':D}{v':V}{u':Value}(hl:s.heap.IsTuple l aD)(hu:A.units<cLine)(p':oF d'=true)(r':Rep K H d' v')(bD:RelV v' u'):xH A s (.ref l) u' false/\xH A s u' (.ref l) false:=by
 cases d' with
 |non =>
 cases r'.fJ;cases bD
 exact⟨⟨RcAt.tuple_none hl hu,EqAt.tuple_none hl hu,RcNeAt.tuple_none hl hu⟩,⟨RcAt.none_tuple hl hu,EqAt.none_tuple hl hu,RcNeAt.none_tuple hl hu⟩⟩
 |bl b =>
 cases r'.fE;cases bD
 exact⟨⟨RcAt.tuple_bool _ hl hu,EqAt.tuple_bool _ hl hu,RcNeAt.tuple_bool _ hl hu⟩,⟨RcAt.bool_tuple _ hl hu,EqAt.bool_tuple _ hl hu,RcNeAt.bool_tuple _ hl hu⟩⟩
 |int i =>
 cases r'.int_inv;obtain⟨_,rfl⟩:=bD
 exact⟨⟨RcAt.tuple_int _ _ hl hu,EqAt.tuple_int _ _ hl hu,RcNeAt.tuple_int _ _ hl hu⟩,⟨RcAt.int_tuple _ _ hl hu,EqAt.int_tuple _ _ hl hu,RcNeAt.int_tuple _ _ hl hu⟩⟩
 |str x =>
 cases r'.str_inv;obtain⟨_,rfl⟩:=bD
 exact⟨⟨RcAt.tuple_str _ _ hl hu,EqAt.tuple_str _ _ hl hu,RcNeAt.tuple_str _ _ hl hu⟩,⟨RcAt.str_tuple _ _ hl hu,EqAt.str_tuple _ _ hl hu,RcNeAt.str_tuple _ _ hl hu⟩⟩
 |_=>cases p'
theorem lL {K:PySem.W.Frag}{H:Hp}{A:Around}{s:Shared}{l:Addr}{aD:Array Value}{d':D}{v':V}{u':Value}(hl:s.heap.IsList l aD)(hu:A.units<cLine)(p':oF d'=true)(r':Rep K H d' v')(bD:RelV v' u'):xH A s (.ref l) u' false/\xH A s u' (.ref l) false:=by
 cases d' with
 |non =>
 cases r'.fJ;cases bD
 exact⟨⟨RcAt.list_none hl hu,EqAt.list_none hl hu,RcNeAt.list_none hl hu⟩,⟨RcAt.none_list hl hu,EqAt.none_list hl hu,RcNeAt.none_list hl hu⟩⟩
 |bl b =>
 cases r'.fE;cases bD
 exact⟨⟨RcAt.list_bool _ hl hu,EqAt.list_bool _ hl hu,RcNeAt.list_bool _ hl hu⟩,⟨RcAt.bool_list _ hl hu,EqAt.bool_list _ hl hu,RcNeAt.bool_list _ hl hu⟩⟩
 |int i =>
 cases r'.int_inv;obtain⟨_,rfl⟩:=bD
 exact⟨⟨RcAt.list_int _ _ hl hu,EqAt.list_int _ _ hl hu,RcNeAt.list_int _ _ hl hu⟩,⟨RcAt.int_list _ _ hl hu,EqAt.int_list _ _ hl hu,RcNeAt.int_list _ _ hl hu⟩⟩
 |str x =>
 cases r'.str_inv;obtain⟨_,rfl⟩:=bD
 exact⟨⟨RcAt.list_str _ _ hl hu,EqAt.list_str _ _ hl hu,RcNeAt.list_str _ _ hl hu⟩,⟨RcAt.str_list _ _ hl hu,EqAt.str_list _ _ hl hu,RcNeAt.str_list _ _ hl hu⟩⟩
 |_=>cases p'
theorem HG (I:Inv X pins σ H s){A:Around}{a b:Addr}{vs us:List V}{b0:Bool}(e:Nat->Bool)(ha:dZ X.K H a vs)(hb:dZ X.K H b us)(hu:A.units<cLine)(hs:a=b->b0=true)
  (he:∀ j v v' u u',vs[j]? = some v->us[j]? = some v'->RelV v u->RelV v' u'->EqAt A.in1 s u u' (e j))(hb0:((List.range (min vs.length us.length)).all e&&vs.length==us.length)=b0):xH A s (.ref a) (.ref b) b0:=by
 obtain⟨aD,r1,p1,_⟩:=I.tuple ha
 obtain⟨jts,r2,p2,_⟩:=I.tuple hb
 have l1:aD.toArray.size=vs.length:=by rw[List.size_toArray];exact r1.length.symm
 have l2:jts.toArray.size=us.length:=by rw[List.size_toArray];exact r2.length.symm
 have hi:∀ j (h1:j<aD.toArray.size)(h2:j<jts.toArray.size),EqAt A.in1 s aD.toArray[j] jts.toArray[j] (e j):=fun j h1 h2=>by
  obtain⟨v,e1,q1⟩:=aQ.at r1 h1
  obtain⟨v',e2,q2⟩:=aQ.at r2 h2
  exact he j v v' _ _ e1 e2 q1 q2
 have rc:RcAt A s (.ref a) (.ref b) b0:=by
  have:=RcAt.tuples (e:=e) p1 p2 hu hi
  rw[l1,l2,hb0]at this
  exact this
 have rn:RcNeAt A s (.ref a) (.ref b) (!b0):=by
  have:=RcNeAt.tuples (e:=e) p1 p2 hu hi
  rw[l1,l2,hb0]at this
  exact this
 refine⟨rc,?_,rn⟩
 by_cases q:a=b
 ·rw[hs q,q];exact EqAt.same _
 ·exact EqAt.of_refs q rc
theorem UK (I:Inv X pins σ H s){A:Around}{a b:Addr}{vs us:List V}{b0:Bool}(e:Nat->Bool)(ha:cG X.K H a vs)(hb:cG X.K H b us)(hu:A.units<cLine)(hs:a=b->b0=true)
  (he:∀ j v v' u u',vs[j]? = some v->us[j]? = some v'->RelV v u->RelV v' u'->EqAt A.in1 s u u' (e j))(hn:vs.length≠us.length->b0=false)(hb0:vs.length=us.length->(List.range vs.length).all e=b0):xH A s (.ref a) (.ref b) b0:=by
 obtain⟨aD,r1,p1,_⟩:=I.list ha
 obtain⟨jts,r2,p2,_⟩:=I.list hb
 have l1:aD.toArray.size=vs.length:=by rw[List.size_toArray];exact r1.length.symm
 have l2:jts.toArray.size=us.length:=by rw[List.size_toArray];exact r2.length.symm
 have hi:∀ j (h1:j<aD.toArray.size)(h2:j<jts.toArray.size),EqAt A.in1 s aD.toArray[j] jts.toArray[j] (e j):=fun j h1 h2=>by
  obtain⟨v,e1,q1⟩:=aQ.at r1 h1
  obtain⟨v',e2,q2⟩:=aQ.at r2 h2
  exact he j v v' _ _ e1 e2 q1 q2
 have both:RcAt A s (.ref a) (.ref b) b0/\RcNeAt A s (.ref a) (.ref b) (!b0):=by
  by_cases hl:vs.length=us.length
  ·have:=RcAt.lists (e:=e) p1.isList p2.isList (by rw[l1,l2,hl]) hu hi
   have rn:=RcNeAt.lists (e:=e) p1.isList p2.isList (by rw[l1,l2,hl]) hu hi
   rw[l1,hb0 hl]at this rn
   exact⟨this,rn⟩
  ·rw[hn hl]
   have hz:(aD.toArray.size != jts.toArray.size)=true:=by rw[l1,l2,bne_iff_ne];exact hl
   exact⟨RcAt.lists_lengths p1.isList p2.isList hz hu,RcNeAt.lists_lengths p1.isList p2.isList hz hu⟩
 refine⟨both.1,?_,both.2⟩
 by_cases q:a=b
 ·rw[hs q,q];exact EqAt.same _
 ·exact EqAt.of_refs q both.1
theorem tX {d:D}(p:bE d=true):oF d=true∨∃ ds,d=.tup ds:=by
 cases d<;>first|exact .inl rfl|exact .inr ⟨_,rfl⟩|cases p
theorem Px (I:Inv X pins σ H s):∀(n:Nat){d d':D}{A:Around}{v v':V}{u u':Value},cH d<=n->bE d=true->bE d'=true->Rep X.K H d v->RelV v u->Rep X.K H d' v'->RelV v' u'->A.units+n+2<cLine ->
  xH A s u u' (bI d d'):=by
 intro n
 induction n with
 |zero =>
  intro d d' A v v' u u' hn p p' r rv r' bD hu
  have iO:A.units<cLine:=by omega
  rcases tX p with q|⟨ds,rfl⟩
  ·rcases tX p' with q'|⟨jB,rfl⟩
   ·exact vM q q' r rv r' bD
   ·obtain⟨b,us,rfl,h2,q2⟩:=r'.bO
    cases bD
    obtain⟨aD,r1,p1,_⟩:=I.tuple h2
    have:=(gL p1 iO q r rv).2
    have e:bI d (.tup jB)=false:=by cases d<;>first|rfl|cases q
    rw[e];exact this
  ·simp only[cH]at hn;omega
 |succ n ih =>
  intro d d' A v v' u u' hn p p' r rv r' bD hu
  have iO:A.units<cLine:=by omega
  rcases tX p with q|⟨ds,rfl⟩
  ·rcases tX p' with q'|⟨jB,rfl⟩
   ·exact vM q q' r rv r' bD
   ·obtain⟨b,us,rfl,h2,q2⟩:=r'.bO
    cases bD
    obtain⟨aD,r1,p1,_⟩:=I.tuple h2
    have:=(gL p1 iO q r rv).2
    have e:bI d (.tup jB)=false:=by cases d<;>first|rfl|cases q
    rw[e];exact this
  ·obtain⟨a,vs,rfl,h1,q1⟩:=r.bO
   cases rv
   rcases tX p' with q'|⟨jB,rfl⟩
   ·obtain⟨aD,r1,p1,_⟩:=I.tuple h1
    have:=(gL p1 iO q' r' bD).1
    have e:bI (.tup ds) d'=false:=by cases d'<;>first|rfl|cases q'
    rw[e];exact this
   ·obtain⟨b,us,rfl,h2,q2⟩:=r'.bO
    cases bD
    have pd:bP ds=true:=by simpa [bE]using p
    have pd':bP jB=true:=by simpa [bE]using p'
    have e0:bI (.tup ds) (.tup jB)=fG ds jB:=by simp only[bI]
    rw[e0]
    refine HG I (fun j=>match ds[j]?,jB[j]? with|some x,some y=>bI x y|_,_=>true) h1 h2 iO (fun e=>?_) (fun j v v' u u' e1 e2 rv bD=>?_) ?_
    ·subst e
     have:=AE I (cH (.tup ds)) (Nat.le_refl _) p p' r r'
     cases this
     exact kM ds pd
    ·obtain⟨x,f1,g1⟩:=aI.get' q1 e1
     obtain⟨y,f2,g2⟩:=aI.get' q2 e2
     simp only[f1,f2]
     have hx:=iW (List.mem_of_getElem? f1)
     simp only[cH]at hn
     exact(ih (by omega) (mV pd (List.mem_of_getElem? f1)) (mV pd' (List.mem_of_getElem? f2)) g1 rv g2 bD (by simp only[Around.in1_units];omega)).2.1
    ·rw[<-q1.length,<-q2.length]
     exact vC _ fun j x y e1 e2=>by simp only[e1,e2]
end
end L3
end
section
namespace L3
open PySem PySem.Spec PyProof.Rows L2 PySem.SeqAt
noncomputable def pZ (st:aB):D->Option (List D)
 |.ref a=>match st a with
  |some (.lst xs)=>some xs
  |_=>none
 |.bK xs=>some xs
 |_=>none
theorem kinds {st:aB}{d:D}(p:gI st d=true):oF d=true∨(∃ ds,d=.tup ds/\gT st ds=true)∨∃ xs,pZ st d=some xs/\bP xs=true/\cJ xs<=lT:=by
 cases d with
 |tup ds=>exact .inr (.inl ⟨ds,rfl,by simpa [gI]using p⟩)
 |ref a =>
  simp only[gI]at p
  cases q:st a with
  |none=>rw[q]at p;cases p
  |some o=>cases o with
   |lst xs =>
    rw[q]at p
    simp only[VY,Bool.and_eq_true,decide_eq_true_eq]at p
    exact .inr (.inr ⟨xs,by simp [pZ,q],p⟩)
   |dic _ _=>rw[q]at p;cases p
   |ins _ _=>rw[q]at p;cases p
   |tab _ _=>rw[q]at p;cases p
 |bK xs =>
  simp only[gI,Bool.and_eq_true,decide_eq_true_eq]at p
  exact .inr (.inr ⟨xs,rfl,p⟩)
 |cW _ _=>cases p
 |exc _=>cases p
 |_=>exact .inl rfl
theorem CQ {st:aB}{d d':D}{xs ys:List D}(h:pZ st d=some xs)(h':pZ st d'=some ys):bR st d d'=fG xs ys:=by
 cases d with
 |ref a =>
  simp only[pZ]at h
  split at h
  ·rename_i zs e
   cases h
   cases d' with
   |ref b =>
    simp only[pZ]at h'
    split at h'
    ·rename_i ws e'
     cases h'
     simp only[bR,e,e',A8]
    ·cases h'
   |bK ws=>cases h';simp only[bR,e,A8]
   |_=>cases h'
  ·cases h
 |bK zs =>
  cases h
  cases d' with
  |ref b =>
   simp only[pZ]at h'
   split at h'
   ·rename_i ws e'
    cases h'
    simp only[bR,e',A8]
   ·cases h'
  |bK ws=>cases h';simp only[bR]
  |_=>cases h'
 |_=>cases h
theorem DM {st:aB}{d d':D}{xs:List D}(h:pZ st d=some xs)(p:oF d'=true):bR st d d'=false/\bR st d' d=false:=by
 cases d<;>first|(cases h;done)|skip
 all_goals (cases d'<;>first|(cases p;done)|exact⟨rfl,rfl⟩|(simp [bR];done))
theorem KR {st:aB}{d:D}{ds xs:List D}(h:pZ st d=some xs):bR st d (.tup ds)=false/\bR st (.tup ds) d=false:=by
 cases d<;>first|(cases h;done)|exact⟨rfl,rfl⟩|(simp [bR];done)
theorem CU {st:aB}{d d':D}(p:oF d=true)(p':oF d'=true):bR st d d'=bI d d':=by
 cases d<;>first|(cases p;done)|skip
 all_goals (cases d'<;>first|(cases p';done)|rfl|(simp [bR,bI];done))
theorem HK {st:aB}{d:D}{ds:List D}(p:oF d=true):bR st d (.tup ds)=false/\bR st (.tup ds) d=false:=by
 cases d<;>first|(cases p;done)|exact⟨rfl,rfl⟩|(simp [bR];done)
theorem gH {st:aB}:∀{ds:List D}{d:D},gT st ds=true->d∈ds->gI st d=true
 |e::ds,d,h,m=>by
  simp only[gT,Bool.and_eq_true]at h
  rcases List.mem_cons.mp m with rfl|m
  ·exact h.1
  ·exact gH h.2 m
theorem IQ {st:aB}:∀{ds es:List D}(e:Nat->Bool),(∀ j d d',ds[j]? = some d->es[j]? = some d'->e j=bR st d d')->((List.range (min ds.length es.length)).all e&&ds.length==es.length)=jG st ds es
 |[],[],e,h=>by simp [jG]
 |[],_::_,e,h=>by simp [jG]
 |_::_,[],e,h=>by simp [jG]
 |d::ds,d'::es,e,h=>by
  have ih:=IQ (fun j=>e (j+1)) fun j x x' e1 e2=>h (j+1) x x' (by simpa using e1) (by simpa using e2)
  have h0:=h 0 d d' rfl rfl
  simp only[jG,List.length_cons,Nat.add_min_add_right,List.range_succ_eq_map,List.all_cons,List.all_map,Function.comp_def]
  rw[<-ih,h0]
  have hl:(ds.length+1==es.length+1)=(ds.length==es.length):=by simp
  rw[hl,Bool.and_assoc]
section
variable {X:Cx}{pins:List (Addr×Obj)}{σ:L2.St}{H:Hp}{s:Shared}{st:aB}
theorem fU {K:PySem.W.Frag}{d:D}{v:V}{xs:List D}(ok:aR K st H)(h:pZ st d=some xs)(r:Rep K H d v):∃ a vs,v=.ref a/\cG K H a vs/\aI K H xs vs:=by
 cases r with
 |ref a =>
 simp only[pZ]at h
 split at h
 ·rename_i zs e
  cases h
  obtain⟨vs,g,q⟩:=ok.lst e
  exact⟨a,vs,rfl,cG.of g,q⟩
 ·cases h
 |bK f q=>cases h;exact⟨_,_,rfl,f.sq,q⟩
 |_=>cases h
theorem qW (I:Inv X pins σ H s):∀{ds es:List D}{vs:List V},bP ds=true->bP es=true->aI X.K H ds vs->aI X.K H es vs->ds=es
 |_,_,_,_,_,.nil,.nil=>rfl
 |_,_,_,p,p',.cons h r,.cons h' r'=>by
  simp only[bP,Bool.and_eq_true]at p p'
  rw[AE I _ (Nat.le_refl _) p.1 p'.1 h h',qW I p.2 p'.2 r r']
theorem ET (I:Inv X pins σ H s){a:Addr}{vs us:List V}(h:cG X.K H a vs)(h':dZ X.K H a us):False:=by
 obtain⟨aD,_,p1,_⟩:=I.list h
 obtain⟨jts,_,p2,_⟩:=I.tuple h'
 exact ne_of_list_tuple p1.isList p2 rfl
theorem WQ (I:Inv X pins σ H s)(ok:aR X.K st H):∀(n:Nat){d d':D}{v:V},cH d<=n->gI st d=true->gI st d'=true->Rep X.K H d v->Rep X.K H d' v->bR st d d'=true:=by
 intro n
 induction n with
 |zero =>
  intro d d' v hn p p' r r'
  rcases kinds p with q|⟨ds,rfl,q⟩|⟨xs,q,q1,q2⟩
  ·rcases kinds p' with q'|⟨jB,rfl,q'⟩|⟨ys,q',q1',q2'⟩
   ·rw[CU q q']
    have pd:bE d=true:=by cases d<;>first|rfl|cases q
    have pd':bE d'=true:=by cases d'<;>first|rfl|cases q'
    rw[AE I _ (Nat.le_refl _) pd pd' r r']
    exact vL d' pd'
   ·obtain⟨a,vs,rfl,_⟩:=r'.bO
    cases r<;>cases q
   ·obtain⟨a,vs,rfl,_⟩:=fU ok q' r'
    cases r<;>cases q
  ·simp only[cH]at hn;omega
  ·obtain⟨a,vs,rfl,f1,g1⟩:=fU ok q r
   rcases kinds p' with q'|⟨jB,rfl,q'⟩|⟨ys,q',q1',q2'⟩
   ·cases r'<;>cases q'
   ·obtain⟨b,us,e,f2,g2⟩:=r'.bO
    cases e
    exact(ET I f1 f2).elim
   ·obtain⟨b,us,e,f2,g2⟩:=fU ok q' r'
    cases e
    cases I.kC f1 f2
    rw[CQ q q',qW I q1 q1' g1 g2]
    exact kM _ q1'
 |succ n ih =>
  intro d d' v hn p p' r r'
  rcases kinds p with q|⟨ds,rfl,q⟩|⟨xs,q,q1,q2⟩
  ·rcases kinds p' with q'|⟨jB,rfl,q'⟩|⟨ys,q',q1',q2'⟩
   ·rw[CU q q']
    have pd:bE d=true:=by cases d<;>first|rfl|cases q
    have pd':bE d'=true:=by cases d'<;>first|rfl|cases q'
    rw[AE I _ (Nat.le_refl _) pd pd' r r']
    exact vL d' pd'
   ·obtain⟨a,vs,rfl,_⟩:=r'.bO
    cases r<;>cases q
   ·obtain⟨a,vs,rfl,_⟩:=fU ok q' r'
    cases r<;>cases q
  ·obtain⟨a,vs,rfl,f1,g1⟩:=r.bO
   rcases kinds p' with q'|⟨jB,rfl,q'⟩|⟨ys,q',q1',q2'⟩
   ·cases r'<;>cases q'
   ·obtain⟨b,us,e,f2,g2⟩:=r'.bO
    cases e
    cases I.rX f1 f2
    simp only[cH]at hn
    have go:∀(ds es:List D)(vs:List V),cJ ds<=n->gT st ds=true->gT st es=true->aI X.K H ds vs->aI X.K H es vs->jG st ds es=true:=by
     intro ds
     induction ds with
     |nil=>intro es vs _ _ _ r r';cases r;cases r';rfl
     |cons d ds ihs =>
      intro es vs hd pp pp' r r'
      cases r with
      |cons r1 r2=>cases r' with
       |cons r1' r2' =>
        simp only[cJ]at hd
        simp only[gT,Bool.and_eq_true]at pp pp'
        simp only[jG,Bool.and_eq_true]
        exact⟨ih (by omega) pp.1 pp'.1 r1 r1',ihs _ _ (by omega) pp.2 pp'.2 r2 r2'⟩
    simp only[bR]
    exact go ds jB vs (by omega) q q' g1 g2
   ·obtain⟨b,us,e,f2,g2⟩:=fU ok q' r'
    cases e
    exact(ET I f2 f1).elim
  ·obtain⟨a,vs,rfl,f1,g1⟩:=fU ok q r
   rcases kinds p' with q'|⟨jB,rfl,q'⟩|⟨ys,q',q1',q2'⟩
   ·cases r'<;>cases q'
   ·obtain⟨b,us,e,f2,g2⟩:=r'.bO
    cases e
    exact(ET I f1 f2).elim
   ·obtain⟨b,us,e,f2,g2⟩:=fU ok q' r'
    cases e
    cases I.kC f1 f2
    rw[CQ q q',qW I q1 q1' g1 g2]
    exact kM _ q1'
theorem nQ {A:Around}{l b:Addr}{aD jts:Array Value}(hl:s.heap.IsList l aD)(hb:s.heap.IsTuple b jts)(hu:A.units<cLine):xH A s (.ref l) (.ref b) false/\xH A s (.ref b) (.ref l) false :=
 ⟨⟨RcAt.list_tuple hl hb hu,EqAt.list_tuple hl hb hu,RcNeAt.list_tuple hl hb hu⟩,⟨RcAt.tuple_list hb hl hu,EqAt.tuple_list hb hl hu,RcNeAt.tuple_list hb hl hu⟩⟩
theorem QK (I:Inv X pins σ H s){A:Around}{a b:Addr}{vs us:List V}{xs ys:List D}(f1:cG X.K H a vs)(g1:aI X.K H xs vs)(f2:cG X.K H b us)(g2:aI X.K H ys us)(p1:bP xs=true)(d1:cJ xs<=lT)(p2:bP ys=true)
  (hu:A.units+85<cLine):xH A s (.ref a) (.ref b) (fG xs ys):=by
 refine UK I (fun j=>match xs[j]?,ys[j]? with|some x,some y=>bI x y|_,_=>true) f1 f2 (by omega) (fun e=>?_) (fun j v v' u u' e1 e2 rv bD=>?_) (fun h=>?_) (fun h=>?_)
 ·subst e
  cases I.kC f1 f2
  rw[qW I p1 p2 g1 g2]
  exact kM _ p2
 ·obtain⟨x,h1,k1⟩:=aI.get' g1 e1
  obtain⟨y,h2,k2⟩:=aI.get' g2 e2
  simp only[h1,h2]
  have hx:=iW (List.mem_of_getElem? h1)
  have hD:lT=80:=rfl
  exact(Px I lT (by omega) (mV p1 (List.mem_of_getElem? h1)) (mV p2 (List.mem_of_getElem? h2)) k1 rv k2 bD (by simp only[Around.in1_units];omega)).2.1
 ·exact HH (by rw[g1.length,g2.length];exact h)
 ·rw[<-g1.length]
  exact PZ _ (by rw[g1.length,g2.length];exact h) fun j x y e1 e2=>by simp only[e1,e2]
theorem NF (I:Inv X pins σ H s)(ok:aR X.K st H):∀(n:Nat){d d':D}{A:Around}{v v':V}{u u':Value},cH d<=n->gI st d=true->gI st d'=true->Rep X.K H d v->RelV v u->Rep X.K H d' v'->RelV v' u'->A.units+n+85<cLine ->
  xH A s u u' (bR st d d'):=by
 intro n
 induction n with
 |zero =>
  intro d d' A v v' u u' hn p p' r rv r' bD hu
  have iO:A.units<cLine:=by omega
  rcases kinds p with q|⟨ds,rfl,q⟩|⟨xs,q,q1,q2⟩
  ·rcases kinds p' with q'|⟨jB,rfl,q'⟩|⟨ys,q',q1',q2'⟩
   ·rw[CU q q'];exact vM q q' r rv r' bD
   ·obtain⟨b,us,rfl,h2,g2⟩:=r'.bO
    cases bD
    obtain⟨aD,r1,p1,_⟩:=I.tuple h2
    rw[(HK q).1]
    exact(gL p1 iO q r rv).2
   ·obtain⟨b,us,rfl,h2,g2⟩:=fU ok q' r'
    cases bD
    obtain⟨aD,r1,p1,_⟩:=I.list h2
    rw[(DM q' q).2]
    exact(lL p1.isList iO q r rv).2
  ·simp only[cH]at hn;omega
  ·obtain⟨a,vs,rfl,f1,g1⟩:=fU ok q r
   cases rv
   obtain⟨aD,r1,p1,_⟩:=I.list f1
   rcases kinds p' with q'|⟨jB,rfl,q'⟩|⟨ys,q',q1',q2'⟩
   ·rw[(DM q q').1]
    exact(lL p1.isList iO q' r' bD).1
   ·obtain⟨b,us,rfl,h2,g2⟩:=r'.bO
    cases bD
    obtain⟨jts,r2,p2,_⟩:=I.tuple h2
    rw[(KR q).1]
    exact(nQ p1.isList p2 iO).1
   ·obtain⟨b,us,rfl,h2,g2⟩:=fU ok q' r'
    cases bD
    rw[CQ q q']
    exact QK I f1 g1 h2 g2 q1 q2 q1' (by omega)
 |succ n ih =>
  intro d d' A v v' u u' hn p p' r rv r' bD hu
  have iO:A.units<cLine:=by omega
  rcases kinds p with q|⟨ds,rfl,q⟩|⟨xs,q,q1,q2⟩
  ·rcases kinds p' with q'|⟨jB,rfl,q'⟩|⟨ys,q',q1',q2'⟩
   ·rw[CU q q'];exact vM q q' r rv r' bD
   ·obtain⟨b,us,rfl,h2,g2⟩:=r'.bO
    cases bD
    obtain⟨aD,r1,p1,_⟩:=I.tuple h2
    rw[(HK q).1]
    exact(gL p1 iO q r rv).2
   ·obtain⟨b,us,rfl,h2,g2⟩:=fU ok q' r'
    cases bD
    obtain⟨aD,r1,p1,_⟩:=I.list h2
    rw[(DM q' q).2]
    exact(lL p1.isList iO q r rv).2
  ·obtain⟨a,vs,rfl,f1,g1⟩:=r.bO
   cases rv
   obtain⟨aD,r1,p1,_⟩:=I.tuple f1
   rcases kinds p' with q'|⟨jB,rfl,q'⟩|⟨ys,q',q1',q2'⟩
   ·rw[(HK q').2]
    exact(gL p1 iO q' r' bD).1
   ·obtain⟨b,us,rfl,h2,g2⟩:=r'.bO
    cases bD
    have e0:bR st (.tup ds) (.tup jB)=jG st ds jB:=by simp only[bR]
    refine HG I (fun j=>match ds[j]?,jB[j]? with|some x,some y=>bR st x y|_,_=>true) f1 h2 iO (fun e=>?_) (fun j v v' u u' e1 e2 rv bD=>?_) ?_
    ·subst e
     exact WQ I ok _ (Nat.le_refl _) p p' r r'
    ·obtain⟨x,k1,l1⟩:=aI.get' g1 e1
     obtain⟨y,k2,l2⟩:=aI.get' g2 e2
     simp only[k1,k2]
     have hx:=iW (List.mem_of_getElem? k1)
     simp only[cH]at hn
     exact(ih (by omega) (gH q (List.mem_of_getElem? k1)) (gH q' (List.mem_of_getElem? k2)) l1 rv l2 bD (by simp only[Around.in1_units];omega)).2.1
    ·rw[<-g1.length,<-g2.length,e0]
     exact IQ _ fun j x y e1 e2=>by simp only[e1,e2]
   ·obtain⟨b,us,rfl,h2,g2⟩:=fU ok q' r'
    cases bD
    obtain⟨jts,r2,p2,_⟩:=I.list h2
    rw[(KR q').2]
    exact(nQ p2.isList p1 iO).2
  ·obtain⟨a,vs,rfl,f1,g1⟩:=fU ok q r
   cases rv
   obtain⟨aD,r1,p1,_⟩:=I.list f1
   rcases kinds p' with q'|⟨jB,rfl,q'⟩|⟨ys,q',q1',q2'⟩
   ·rw[(DM q q').1]
    exact(lL p1.isList iO q' r' bD).1
   ·obtain⟨b,us,rfl,h2,g2⟩:=r'.bO
    cases bD
    obtain⟨jts,r2,p2,_⟩:=I.tuple h2
    rw[(KR q).1]
    exact(nQ p1.isList p2 iO).1
   ·obtain⟨b,us,rfl,h2,g2⟩:=fU ok q' r'
    cases bD
    rw[CQ q q']
    exact QK I f1 g1 h2 g2 q1 q2 q1' (by omega)
end
end L3
end
section
namespace L3
open PySem PySem.Spec PyProof.Rows L2 PySem.SeqAt
mutual
inductive iY (h:Heap):D->Value->Prop where
 |str (x:List Nat)(t:Tok):iY h (.str x) (.str ⟨x.toArray⟩ t)
 |bl (b:Bool):iY h (.bl b) (.bool b)
 |tup {ds:List D}{a:Addr}{o:Obj}{aD:Array Value}{n:Nat}(e:h.get? a=some o)(c:o.cls=.type "tuple")(d:o.data=.seq aD n)(r:fW h ds aD.toList):iY h (.tup ds) (.ref a)
inductive fW (h:Heap):List D->List Value->Prop where
 |nil:fW h [] []
 |cons {d:D}{ds:List D}{v:Value}{vs:List Value}(r:iY h d v)(rs:fW h ds vs):fW h (d::ds) (v::vs)
end
section
variable {h h':Heap}
theorem iY.str_inv {d:D}{x:Str}{t:Tok}(q:iY h d (.str x t)):∃ y,d=.str y/\x=⟨y.toArray⟩:=by
 cases q;exact⟨_,rfl,rfl⟩
theorem iY.fE {d:D}{b:Bool}(q:iY h d (.bool b)):d=.bl b:=by
 cases q;rfl
theorem iY.cF {d:D}{a:Addr}(q:iY h d (.ref a)):∃ ds o aD n,d=.tup ds/\h.get? a=some o/\o.cls=.type "tuple" /\ o.data=.seq aD n/\fW h ds aD.toList:=by
 cases q with|tup e c d r=>exact⟨_,_,_,_,rfl,e,c,d,r⟩
mutual
theorem iY.inj:∀{x y:D}{v:Value},iY h x v->iY h y v->x=y
 |_,y,_,.str x t,q=>by
  obtain⟨z,rfl,e⟩:=q.str_inv
  have:x.toArray=z.toArray:=congrArg Str.cps e
  have:x=z:=by simpa using this
  rw[this]
 |_,y,_,.bl b,q=>q.fE.symm
 |_,y,_,.tup e c d r,q=>by
  obtain⟨ds,o,aD,n,rfl,e',c',d',r'⟩:=q.cF
  rw[e]at e';cases e'
  rw[d]at d'
  injection d' with d1 d2
  subst d1
  rw[fW.inj r r']
theorem fW.inj:∀{xs ys:List D}{vs:List Value},fW h xs vs->fW h ys vs->xs=ys
 |_,_,_,.nil,q=>by cases q;rfl
 |_,_,_,.cons r rs,q=>by cases q with|cons r' rs'=>rw[iY.inj r r',fW.inj rs rs']
end
mutual
theorem iY.keeps {b:Addr}{ob:Obj}{es:Array DictEntry}{ep:Nat}(ho:h.get? b=some ob)(hd:ob.data=.dict es ep)(hs:Heap.SameBut b h h'):∀{x:D}{v:Value},iY h x v->iY h' x v
 |_,_,.str x t=>.str x t
 |_,_,.bl b=>.bl b
 |_,_,@iY.tup _ ds a o aD n e c d r=>.tup (by
  have ne:a≠b:=by
   intro z
   rw[z,ho]at e;cases e
   rw[hd]at d;cases d
  exact(hs.2 a ne).trans e) c d (fW.keeps ho hd hs r)
theorem fW.keeps {b:Addr}{ob:Obj}{es:Array DictEntry}{ep:Nat}(ho:h.get? b=some ob)(hd:ob.data=.dict es ep)(hs:Heap.SameBut b h h'):∀{xs:List D}{vs:List Value},fW h xs vs->fW h' xs vs
 |_,_,.nil=>.nil
 |_,_,.cons r rs=>.cons (iY.keeps ho hd hs r) (fW.keeps ho hd hs rs)
end
theorem fW.length:∀{xs:List D}{vs:List Value},fW h xs vs->xs.length=vs.length
 |_,_,.nil=>rfl
 |_,_,.cons _ rs=>by simp [fW.length rs]
theorem fW.get:∀{xs:List D}{vs:List Value}{j:Nat}{v:Value},fW h xs vs->vs[j]? = some v->∃ x,xs[j]? = some x/\iY h x v
 |_,_,_,_,.nil,e=>by simp at e
 |_,_,0,_,.cons r _,e=>by simp at e;subst e;exact⟨_,rfl,r⟩
 |_,_,j+1,v,.cons _ rs,e=>by
  obtain⟨x,e1,e2⟩:=fW.get (j:=j) (v:=v) rs (by simpa using e)
  exact⟨x,by simpa using e1,e2⟩
end
theorem xG (w:World):∀ a b:List D,gS w (a++b)=gS w a++gS w b
 |[],b=>by simp [gS]
 |d::a,b=>by simp [gS,xG w a b]
theorem wO:∀ a b:List D,jX (a++b)=jX a+jX b
 |[],b=>by simp [jX]
 |d::a,b=>by simp [jX,wO a b,Nat.add_assoc]
theorem M1 {prog:Program}{w:World}{b:Bool}{A:Around}{E:Value->Shared->Prop}{s:Shared}{Q:Int->Shared->Prop}(hu:A.units<cLine)(h:Q (pU w (.bl b)) { s with toks:=s.toks+sS (.bl b) }):wpAny (model prog w) A (pyHash (.bool b)) Q E s:=by
 refine PySem.W.pyHash_slot (T :="bool") rfl PySem.F.slot_bool_hash PySem.F.entry_int_hash (PySem.F.args_int_hash_1 _) (beq_builtin_none _) (.inr hu) ?_
 cases b
 ·exact(show wpAny _ _ (do ret (<-mkInt 0)) _ _ s from wpAny_bind (wpAny_mkInt (wpAny_pure ⟨_,_,rfl,h⟩)))
 ·exact(show wpAny _ _ (do ret (<-mkInt 1)) _ _ s from wpAny_bind (wpAny_mkInt (wpAny_pure ⟨_,_,rfl,h⟩)))
theorem WK {prog:Program}{w:World}:∀(n:Nat){d:D}{v:Value}{A:Around}{E:Value->Shared->Prop}{s:Shared}{Q:Int->Shared->Prop},cH d<=n->iY s.heap d v->A.units+n<cLine->Q (pU w d) { s with toks:=s.toks+sS d } ->
  wpAny (model prog w) A (pyHash v) Q E s:=by
 intro n
 induction n with
 |zero =>
  intro d v A E s Q hn hk hu h
  cases hk with
  |str x t =>
   simp only[pU,sS]at h
   exact(strKind prog w).pyHash (k:=⟨x.toArray⟩) (strKind_is _ _ _ _) h
  |bl b=>exact M1 (by omega) h
  |tup e c dd r=>simp only[cH]at hn;omega
 |succ n ih =>
  intro d v A E s Q hn hk hu h
  cases hk with
  |str x t =>
   simp only[pU,sS]at h
   exact(strKind prog w).pyHash (k:=⟨x.toArray⟩) (strKind_is _ _ _ _) h
  |bl b=>exact M1 (by omega) h
  |@tup ds a o items m ho c hd hi =>
   have hT:s.TypeIs (.ref a) "tuple":=⟨o,ho,c⟩
   simp only[cH]at hn
   simp only[pU,sS]at h
   unfold pyHash
   first|unfold pyHashByItsType|skip
   first|refine wpAny_bind (wpAny_cRoomFor_or (.inr (by omega)) ?_)|skip
   refine wpAny_bind (wpAny_specialOf hT PySem.F.slot_tuple_hash.lookup ?_)
   show wpAny _ _ (if(some (Value.builtin "tuple.__hash__")==some Value.none)=true then _ else _) Q E s
   rw[if_neg (by rw[beq_builtin_none];exact Bool.false_ne_true)]
   refine wpAny_bind (wpAny_specialOf hT PySem.F.slot_tuple_hash.lookup ?_)
   show wpAny _ _ (callSpecialIfBoundUnlessNone? (.ref a) "__hash__" _ >>= _) Q E s
   refine wpAny_bind (wpAny_callSpecialIfBoundUnlessNone?_slot hT PySem.F.slot_tuple_hash (wpAny_call_entry PySem.F.slot_tuple_hash hT PySem.F.entry_tuple_hash ?_ (PySem.F.args_tuple_hash_1 _)))
   show wpAny _ _ (Builtin.Tuple.tupleItemsOf (.ref a) >>= _) _ _ s
   refine wpAny_bind (wpAny_tupleItemsOf ho hd ?_)
   refine wpAny_bind ?_
   rw[<-Array.forIn_toList]
   refine wpAny_forIn_list _
    (fun rest (b:Array Int) s'=>∃ done left,ds=done++left/\fW s.heap left rest/\b.toList=gS w done/\s' = { s with toks:=s.toks+jX done })
    _ ?_ ?_ _ _ ⟨[],ds,rfl,hi,rfl,rfl⟩
   ·rintro x rest b s' ⟨done,left,e0,hl,hb,rfl⟩
    cases hl with
    |@cons k ks' _ _ h1 hl' =>
     have hdep:cH k<=cJ ds:=iW (by rw[e0];simp)
     refine wpAny_bind (ih (s:={ s with toks:=s.toks+jX done }) (d:=k) (by omega) h1 (by simp only[Around.in1_units];omega) ?_)
     have e1:jX (done++[k])=jX done+sS k:=by rw[wO];simp [jX]
     have e2:gS w (done++[k])=gS w done++[pU w k]:=by rw[xG];simp [gS]
     first
      |exact wpAny_pure ⟨done++[k],ks',by simp [e0],hl',by simp [hb,e2],by simp [e1,Nat.add_assoc]⟩
      |exact wpAny_bind (wpAny_pure (wpAny_pure ⟨done++[k],ks',by simp [e0],hl',by simp [hb,e2],by simp [e1,Nat.add_assoc]⟩))
   ·rintro b s' ⟨done,left,e0,hl,hb,rfl⟩
    cases hl
    rw[List.append_nil]at e0
    subst e0
    show wpAny _ _ (retInt (Builtin.Tuple.tupleHashOf b.toList)) _ _ _
    rw[hb]
    refine wpAny_ret_mkInt ?_
    show wpAny _ _ (if(decide (-(2:Int) ^ 63<=Builtin.Tuple.tupleHashOf (gS w ds))&&decide (Builtin.Tuple.tupleHashOf (gS w ds)<2 ^ 63))=true then _ else _) Q E _
    unfold reduceHash at h
    by_cases hr:(decide (-(2:Int) ^ 63<=Builtin.Tuple.tupleHashOf (gS w ds))&&decide (Builtin.Tuple.tupleHashOf (gS w ds)<2 ^ 63))=true
    ·rw[if_pos hr]
     rw[if_pos hr]at h
     exact wpAny_pure (by simpa [Nat.add_assoc]using h)
    ·rw[if_neg hr]
     rw[if_neg hr]at h
     exact wpAny_bind (wpAny_rule (wpAny_pure (by simpa [Nat.add_assoc]using h)))
mutual
theorem IY:∀ d:D,iL d=true->bE d=true
 |.str _,_=>rfl
 |.tup ds,h=>by simp only[iL]at h;simp only[bE];exact yS ds h
 |.non,h=>by cases h
 |.bl _,_=>rfl
 |.int _,h=>by cases h
 |.ref _,h=>by cases h
 |.cW _ _,h=>by cases h
 |.bK _,h=>by cases h
 |.exc _,h=>by cases h
theorem yS:∀ ds:List D,iP ds=true->bP ds=true
 |[],_=>rfl
 |d::ds,h=>by
  simp only[iP,Bool.and_eq_true]at h
  simp only[bP,Bool.and_eq_true]
  exact⟨IY d h.1,yS ds h.2⟩
end
mutual
theorem O1:∀ x y:D,iL x=true->iL y=true->bI x y=true->x=y
 |.str a,y,_,_,e=>by
  cases y with
  |str b=>simp only[bI,beq_iff_eq]at e;rw[e]
  |_=>simp [bI]at e
 |.bl a,y,_,h',e=>by
  cases y with
  |bl b=>simp only[bI,beq_iff_eq]at e;rw[e]
  |int _=>cases h'
  |_=>simp [bI]at e
 |.tup as,y,h,h',e=>by
  cases y with
  |tup bs=>simp only[bI]at e;simp only[iL]at h h';rw[LY as bs h h' e]
  |_=>simp [bI]at e
 |.non,_,h,_,_=>by cases h
 |.int _,_,h,_,_=>by cases h
 |.ref _,_,h,_,_=>by cases h
 |.cW _ _,_,h,_,_=>by cases h
 |.bK _,_,h,_,_=>by cases h
 |.exc _,_,h,_,_=>by cases h
theorem LY:∀ xs ys:List D,iP xs=true->iP ys=true->fG xs ys=true->xs=ys
 |[],[],_,_,_=>rfl
 |[],_::_,_,_,e=>by cases e
 |_::_,[],_,_,e=>by cases e
 |x::xs,y::ys,h,h',e=>by
  simp only[fG,Bool.and_eq_true]at e
  simp only[iP,Bool.and_eq_true]at h h'
  rw[O1 x y h.1 h'.1 e.1,LY xs ys h.2 h'.2 e.2]
end
noncomputable instance decD:DecidableEq D:=fun a b=>Classical.propDecidable (a=b)
theorem EO {x y:D}(h:iL x=true)(h':iL y=true):bI x y=decide (x=y):=by
 by_cases e:x=y
 ·subst e;rw[vL x (IY x h)];simp
 ·rw[decide_eq_false e]
  cases q:bI x y with
  |false=>rfl
  |true=>exact(e (O1 x y h h' q)).elim
theorem Kc:∀(n:Nat){x y:D}{u v:Value}{A:Around}{s:Shared},cH x<=n->iY s.heap x u->iY s.heap y v->iL x=true->A.units+n+2<cLine->EqAt A s u v (bI x y):=by
 intro n
 induction n with
 |zero =>
  intro x y u v A s hn hx hy ht hu
  have iO:A.units<cLine:=by omega
  cases hx with
  |str a t =>
   cases hy with
   |str b t' =>
    have e:bI (.str a) (.str b)=((⟨a.toArray⟩:Str)==⟨b.toArray⟩):=by rw[ID];simp only[bI]
    rw[e]
    exact EqAt.str_str _ _ _ _
   |tup e c d r =>
    simp only[bI]
    exact EqAt.str_tuple _ _ (show s.heap.IsTuple _ _ from⟨_,e,c,_,d⟩) iO
   |bl b =>
    simp only[bI]
    exact EqAt.str_bool _ _ _
  |bl a =>
   cases hy with
   |str b t' =>
    simp only[bI]
    exact EqAt.bool_str _ _ _
   |bl b=>exact EqAt.bool_bool _ _
   |tup e c d r =>
    simp only[bI]
    exact EqAt.bool_tuple _ (show s.heap.IsTuple _ _ from⟨_,e,c,_,d⟩) iO
  |tup e c d r=>simp only[cH]at hn;omega
 |succ n ih =>
  intro x y u v A s hn hx hy ht hu
  have iO:A.units<cLine:=by omega
  cases hx with
  |str a t =>
   cases hy with
   |str b t' =>
    have e:bI (.str a) (.str b)=((⟨a.toArray⟩:Str)==⟨b.toArray⟩):=by rw[ID];simp only[bI]
    rw[e]
    exact EqAt.str_str _ _ _ _
   |tup e c d r =>
    simp only[bI]
    exact EqAt.str_tuple _ _ (show s.heap.IsTuple _ _ from⟨_,e,c,_,d⟩) iO
   |bl b =>
    simp only[bI]
    exact EqAt.str_bool _ _ _
  |bl a =>
   cases hy with
   |str b t' =>
    simp only[bI]
    exact EqAt.bool_str _ _ _
   |bl b=>exact EqAt.bool_bool _ _
   |tup e c d r =>
    simp only[bI]
    exact EqAt.bool_tuple _ (show s.heap.IsTuple _ _ from⟨_,e,c,_,d⟩) iO
  |@tup ds a o aD m e c d r =>
   have hp1:s.heap.IsTuple a aD:=⟨_,e,c,_,d⟩
   cases hy with
   |str b t' =>
    simp only[bI]
    exact EqAt.tuple_str _ _ hp1 iO
   |bl b =>
    simp only[bI]
    exact EqAt.tuple_bool _ hp1 iO
   |@tup es b o' jts m' e' c' d' r' =>
    have lA:s.heap.IsTuple b jts:=⟨_,e',c',_,d'⟩
    have e0:bI (.tup ds) (.tup es)=fG ds es:=by simp only[bI]
    rw[e0]
    have hts:iP ds=true:=by simpa [iL]using ht
    by_cases q:a=b
    ·subst q
     rw[e]at e';cases e'
     rw[d]at d';injection d' with d1 d2;subst d1
     rw[fW.inj r r',kM es (yS es (by rw[<-fW.inj r r'];exact hts))]
     exact EqAt.same _
    ·refine EqAt.of_refs q ?_
     have l1:aD.size=ds.length:=by rw[<-Array.length_toList];exact r.length.symm
     have l2:jts.size=es.length:=by rw[<-Array.length_toList];exact r'.length.symm
     have:=RcAt.tuples (e:=fun j=>match ds[j]?,es[j]? with|some x,some y=>bI x y|_,_=>true) hp1 lA iO (fun j h1 h2=>by
      obtain⟨x,f1,g1⟩:=r.get (j:=j) (v:=aD[j]) (by simp [h1])
      obtain⟨y,f2,g2⟩:=r'.get (j:=j) (v:=jts[j]) (by simp [h2])
      simp only[f1,f2]
      have hx:=iW (List.mem_of_getElem? f1)
      simp only[cH]at hn
      have htx:iL x=true:=by
       have:∀(l:List D)(x:D),iP l=true->x∈l->iL x=true:=by
        intro l
        induction l with
        |nil=>intro x _ hm;cases hm
        |cons z l ihl =>
         intro x hh hm
         simp only[iP,Bool.and_eq_true]at hh
         rcases List.mem_cons.mp hm with rfl|hm
         ·exact hh.1
         ·exact ihl x hh.2 hm
       exact this ds x hts (List.mem_of_getElem? f1)
      exact ih (by omega) g1 g2 htx (by simp only[Around.in1_units];omega))
     rw[l1,l2,vC _ fun j x y e1 e2=>by simp only[e1,e2]]at this
     exact this
theorem TV {prog:Program}{w:World}:∀(n:Nat){d:D}{v:Value}{A:Around}{E:Value->Shared->Prop}{s:Shared}{Q:Bool->Shared->Prop},cH d<=n->iY s.heap d v->Q true s->wpAny (model prog w) A (eqIsQuiet n v) Q E s:=by
 intro n
 induction n with
 |zero =>
  intro d v A E s Q hn hk h
  cases hk with
  |str x t=>rw[eqIsQuiet_byValue _ rfl];exact wpAny_pure h
  |bl b=>rw[eqIsQuiet_byValue _ rfl];exact wpAny_pure h
  |tup e c dd r=>simp only[cH]at hn;omega
 |succ n ih =>
  intro d v A E s Q hn hk h
  cases hk with
  |str x t=>rw[eqIsQuiet_byValue _ rfl];exact wpAny_pure h
  |bl b=>rw[eqIsQuiet_byValue _ rfl];exact wpAny_pure h
  |@tup ds a o items m ho c hd hi =>
   have hT:s.TypeIs (.ref a) "tuple":=⟨o,ho,c⟩
   simp only[cH]at hn
   unfold eqIsQuiet
   refine wpAny_bind (wpAny_specialOf hT PySem.F.slot_tuple_eq.lookup ?_)
   show wpAny _ _ (isInstance (.ref a) (.type "tuple") >>= _) _ _ s
   refine wpAny_bind (wpAny_isInstance hT isSubtype_tuple_tuple ?_)
   simp only[Bool.not_true,Bool.false_eq_true,if_false]
   refine wpAny_bind (wpAny_seqItems ho hd ?_)
   refine wpAny_bind ?_
   show wpAny _ _ (forIn items _ _) _ _ s
   rw[<-Array.forIn_toList]
   refine wpAny_forIn_list _ (fun rest r s'=>r.1=none/\s'=s/\∃ ks,fW s.heap ks rest/\cJ ks<=n) _ ?_ ?_ _ _ ⟨rfl,rfl,ds,hi,by omega⟩
   ·rintro v rest r s' ⟨hr,rfl,ks,hks,hdep⟩
    cases hks with
    |@cons k ks' _ _ h1 h2 =>
     simp only[cJ]at hdep
     refine wpAny_bind (ih (d:=k) (by omega) h1 ?_)
     simp only[Bool.not_true,Bool.false_eq_true,if_false]
     exact wpAny_pure ⟨rfl,rfl,ks',h2,by omega⟩
   ·rintro⟨r1,r2⟩ s' ⟨hr,rfl,_⟩
    simp only at hr
    subst hr
    exact wpAny_pure h
theorem keyed.aO {d:D}(h:keyed d):cH d<=8:=by
 cases d with
 |tup ds=>have:=h.2;simp only[cH];omega
 |_=>exact h.elim
theorem keyed.txt {d:D}(h:keyed d):iL d=true:=by
 cases d with
 |tup ds=>simp only[iL];exact h.1
 |_=>exact h.elim
noncomputable def rW (prog:Program)(w:World):HeapKind prog w D where
 is:=fun h d a=>keyed d/\iY h d (.ref a)
 hash:=pU w
 draws:=sS
 room:=fun A=>A.units+12<cLine
 inj:=fun hx hy=>hx.2.inj hy.2
 keeps:=fun x ho hd hs=>⟨x.1,x.2.keeps ho hd hs⟩
 pyHash:=fun hu hk h=>WK 8 hk.1.aO hk.2 (by omega) h
 eqBool:=fun{A E s x y a b Q} hu hx hy h=>by
  have:=Kc 8 hx.1.aO hx.2 hy.2 hx.1.txt (A:=A) (by omega) prog w E Q
  rw[EO hx.1.txt hy.1.txt]at this
  exact this h
 quiet:=fun hk h=>TV 8 hk.1.aO hk.2 h
end L3
end
section
namespace L3
open PySem PySem.Spec PyProof.Rows L2 PySem.SeqAt
noncomputable def nZ (X:Cx)(op:CmpOp)(W:D->D->aB->(Bool->Prop)->Prop):Prop :=
 ∀(pins:List (Addr×Obj))(s:Shared)(σ:L2.St)(H:Hp)(st:aB)(d d':D)(v v':V)(u u':Value)(P:Bool->Prop),Inv X pins σ H s->aR X.K st H->Rep X.K H d v->RelV v u->Rep X.K H d' v'->RelV v' u'->W d d' st P ->
 wpAny (model X.prog X.w) X.A (compareOp op u u') (fun r s'=>∃ k,r=.bool k/\P k/\Inv X pins σ H s') X.xe s
theorem B8 (w:List Nat):∀ z:List Nat,occurs w z=true↔∃ i,i+w.length<=z.length/\(z.drop i).take w.length=w
 |[]=>by
  unfold occurs
  constructor
  ·intro h;rw[List.isEmpty_iff]at h;subst h;exact⟨0,by simp,by simp⟩
  ·rintro⟨i,h,_⟩;rw[List.isEmpty_iff];exact List.length_eq_zero_iff.mp (by simp only[List.length_nil]at h;omega)
 |c::r=>by
  unfold occurs
  rw[Bool.or_eq_true,B8 w r,List.isPrefixOf_iff_prefix]
  constructor
  ·rintro(h|⟨i,h1,h2⟩)
   ·exact⟨0,by have:=h.length_le;omega,by rw[List.drop_zero];exact(List.prefix_iff_eq_take.mp h).symm⟩
   ·exact⟨i+1,by simp;omega,by simpa using h2⟩
  ·rintro⟨i,h1,h2⟩
   cases i with
   |zero=>exact .inl (by rw[List.drop_zero]at h2;rw[List.prefix_iff_eq_take];exact h2.symm)
   |succ i=>exact .inr ⟨i,by simp at h1;omega,by simpa using h2⟩
theorem FP (w z:List Nat):(!(Builtin.Str.occurrences ⟨z.toArray⟩ ⟨w.toArray⟩ 0 (⟨z.toArray⟩:Str).length 1).isEmpty)=occurs w z:=by
 rw[Bool.eq_iff_iff,PySem.StrLaws.found_iff,B8]
 refine⟨fun⟨i,h1,h2⟩=>⟨i,by simpa [Str.length]using h1,?_⟩,fun⟨i,h1,h2⟩=>⟨i,by simpa [Str.length]using h1,?_⟩⟩
 ·unfold Builtin.Str.subAt at h2
  have:=eq_of_beq h2
  simp only[Str.length,List.size_toArray]at this
  have e:=congrArg Array.toList this
  simp only[Array.toList_extract,List.extract_eq_take_drop,Nat.add_sub_cancel_left]at e
  exact e
 ·unfold Builtin.Str.subAt
  rw[beq_iff_eq]
  simp only[Str.length,List.size_toArray]
  apply Array.toList_inj.mp
  simp only[Array.toList_extract,List.extract_eq_take_drop,Nat.add_sub_cancel_left]
  exact h2
section
variable {X:Cx}{C:bH}{sub:Nat->Nat->Bool}{E:XK}{a b c e:Expr}{x y z:Ex}{pos:Pos}
theorem Nx (hu:X.A.units+180<cLine):nZ X .Eq (cX .eq):=by
 intro pins s σ H st d d' v v' u u' P I ok r rv r' bD ⟨p,p',q⟩
 have hD:lT=80:=rfl
 exact(NF I ok 80 (by have:=p.2;omega) p.1 p'.1 r rv r' bD (by omega)).1 _ _ _ _ ⟨_,rfl,q,I⟩
theorem Ot (hu:X.A.units+180<cLine):nZ X .NotEq (cX .ne):=by
 intro pins s σ H st d d' v v' u u' P I ok r rv r' bD ⟨p,p',q⟩
 have hD:lT=80:=rfl
 exact(NF I ok 80 (by have:=p.2;omega) p.1 p'.1 r rv r' bD (by omega)).2.2 _ _ _ _ ⟨_,rfl,q,I⟩
theorem G8 {op:CmpOp}{o:qM}{f:Int->Int->Bool}(hW:∀ d d' st P,cX o d d' st P=vE f d d' P)
  (rule:∀(i j:Int)(t u:Tok)(Q:Value->Shared->Prop)(s:Shared),Q (.bool (f i j)) s->wpAny (model X.prog X.w) X.A (compareOp op (.int i t) (.int j u)) Q X.xe s):nZ X op (cX o):=by
 intro pins s σ H st d d' v v' u u' P I ok r rv r' bD q
 rw[hW]at q
 unfold vE at q
 split at q
 ·cases r.int_inv;cases r'.int_inv
  obtain⟨t,rfl⟩:=rv
  obtain⟨t',rfl⟩:=bD
  exact rule _ _ _ _ _ _ ⟨_,rfl,q,I⟩
 ·exact q.elim
theorem Mc:nZ X .Lt (cX .lt):=G8 (fun _ _ _ _=>rfl) fun _ _ _ _ _ _ h=>lt_int h
theorem Mm:nZ X .LtE (cX .le):=G8 (fun _ _ _ _=>rfl) fun _ _ _ _ _ _ h=>le_int h
theorem Nu:nZ X .Gt (cX .gt):=G8 (fun _ _ _ _=>rfl) fun _ _ _ _ _ _ h=>gt_int h
theorem Nd:nZ X .GtE (cX .ge):=G8 (fun _ _ _ _=>rfl) fun _ _ _ _ _ _ h=>ge_int h
theorem Q3 {pins:List (Addr×Obj)}{s:Shared}{σ:L2.St}{H:Hp}{a:Addr}{vs us:List V}(I:Inv X pins σ H s)(h:H a=some (.lst vs))(f:qQ X.K H a us):False:=by
 rcases f with⟨o,e⟩|⟨o,_,_,e,_⟩
 ·rw[h]at e;cases e
 ·have:=(I.bs a o (I.ok.mod.kin a o e)).2
  rw[h]at this;cases this
theorem JJ {pins:List (Addr×Obj)}{s:Shared}{σ:L2.St}{H:Hp}{st:aB}(I:Inv X pins σ H s)(ok:aR X.K st H):∀(n:Nat){d d':D}{v:V},cH d<=n->gI st d=true->gI st d'=true->Rep X.K H d v->Rep X.K H d' v->d=d':=by
 have lists:∀{d d':D}{v:V}{xs ys:List D},pZ st d=some xs->pZ st d'=some ys->bP xs=true->bP ys=true->Rep X.K H d v->Rep X.K H d' v->d=d':=by
  intro d d' v xs ys q q' p p' r r'
  cases r with
  |ref a=>cases r' with
   |ref _=>rfl
   |bK f g =>
    simp only[pZ]at q
    split at q
    ·rename_i e
     obtain⟨vs,h,_⟩:=ok.lst e
     exact(Q3 I h f).elim
    ·cases q
   |_=>cases q'
  |bK f g=>cases r' with
   |ref _ =>
    simp only[pZ]at q'
    split at q'
    ·rename_i e
     obtain⟨vs,h,_⟩:=ok.lst e
     exact(Q3 I h f).elim
    ·cases q'
   |bK f' g' =>
    cases q;cases q'
    cases I.kC f.sq f'.sq
    rw[qW I p p' g g']
   |_=>cases q'
  |_=>cases q
 intro n
 induction n with
 |zero =>
  intro d d' v hn p p' r r'
  rcases kinds p with q|⟨ds,rfl,q⟩|⟨xs,q,q1,q2⟩
  ·cases r<;>cases r'<;>first|rfl|(cases q;done)|skip
  ·simp only[cH]at hn;omega
  ·obtain⟨a,vs,rfl,f1,g1⟩:=fU ok q r
   rcases kinds p' with q'|⟨jB,rfl,q'⟩|⟨ys,q',q1',q2'⟩
   ·cases r'<;>cases q'
   ·obtain⟨b,us,e,f2,g2⟩:=r'.bO
    cases e
    exact(ET I f1 f2).elim
   ·exact lists q q' q1 q1' r r'
 |succ n ih =>
  intro d d' v hn p p' r r'
  rcases kinds p with q|⟨ds,rfl,q⟩|⟨xs,q,q1,q2⟩
  ·cases r<;>cases r'<;>first|rfl|(cases q;done)|skip
  ·obtain⟨a,vs,rfl,f1,g1⟩:=r.bO
   rcases kinds p' with q'|⟨jB,rfl,q'⟩|⟨ys,q',q1',q2'⟩
   ·cases r'<;>cases q'
   ·obtain⟨b,us,e,f2,g2⟩:=r'.bO
    cases e
    cases I.rX f1 f2
    simp only[cH]at hn
    have go:∀(ds es:List D)(vs:List V),cJ ds<=n->gT st ds=true->gT st es=true->aI X.K H ds vs->aI X.K H es vs->ds=es:=by
     intro ds
     induction ds with
     |nil=>intro es vs _ _ _ r r';cases r;cases r';rfl
     |cons d ds ihs =>
      intro es vs hd pp pp' r r'
      cases r with
      |cons r1 r2=>cases r' with
       |cons r1' r2' =>
        simp only[cJ]at hd
        simp only[gT,Bool.and_eq_true]at pp pp'
        rw[ih (by omega) pp.1 pp'.1 r1 r1',ihs _ _ (by omega) pp.2 pp'.2 r2 r2']
    rw[go ds jB vs (by omega) q q' g1 g2]
   ·obtain⟨b,us,e,f2,g2⟩:=fU ok q' r'
    cases e
    exact(ET I f2 f1).elim
  ·obtain⟨a,vs,rfl,f1,g1⟩:=fU ok q r
   rcases kinds p' with q'|⟨jB,rfl,q'⟩|⟨ys,q',q1',q2'⟩
   ·cases r'<;>cases q'
   ·obtain⟨b,us,e,f2,g2⟩:=r'.bO
    cases e
    exact(ET I f1 f2).elim
   ·exact lists q q' q1 q1' r r'
theorem FC {pins:List (Addr×Obj)}{s:Shared}{σ:L2.St}{H:Hp}{st:aB}(I:Inv X pins σ H s)(ok:aR X.K st H){ds:List D}{vs:List V}{aD:List Value}{d:D}{v:V}{u:Value}{A:Around}
  (g:aI X.K H ds vs)(r:aQ vs aD)(p:dU st ds)(pd:plainS st d)(rd:Rep X.K H d v)(rv:RelV v u)(hu:A.units+178<cLine):
  ∃ e:Value->Bool,(∀ y,y∈aD.toArray->EqAt A.in1 s y u (e y))/\aD.toArray.any e=ds.any fun d'=>bR st d' d:=by
 classical
 have hD:lT=80:=rfl
 have item:∀(d':D)(v':V)(y:Value),d'∈ds->Rep X.K H d' v'->RelV v' y->EqAt A.in1 s y u (bR st d' d):=fun d' v' y m r' bD=>by
  have h1:=iW m
  have h2:=p.2
  exact(NF I ok 80 (by omega) (gH p.1 m) pd.1 r' bD rd rv (by simp only[Around.in1_units];omega)).2.1
 let e:Value->Bool:=fun y=>decide (∃ d' v',d'∈ds/\Rep X.K H d' v'/\RelV v' y/\bR st d' d=true)
 have he:∀(d':D)(v':V)(y:Value),d'∈ds->Rep X.K H d' v'->RelV v' y->e y=bR st d' d:=fun d' v' y m r' bD=>by
  show decide _=_
  cases q:bR st d' d with
  |true=>exact decide_eq_true ⟨d',v',m,r',bD,q⟩
  |false =>
   refine decide_eq_false fun⟨d2,v2,m2,r2,rv2,q2⟩=>?_
   cases RelV.inj bD rv2
   have:=JJ I ok _ (Nat.le_refl _) (gH p.1 m) (gH p.1 m2) r' r2
   subst this
   rw[q]at q2;cases q2
 refine⟨e,fun y hy=>?_,?_⟩
 ·obtain⟨j,hj,rfl⟩:=Array.mem_iff_getElem.mp hy
  obtain⟨v',e1,e2⟩:=aQ.at r hj
  obtain⟨d',e3,e4⟩:=aI.get' g e1
  rw[he d' v' _ (List.mem_of_getElem? e3) e4 e2]
  exact item d' v' _ (List.mem_of_getElem? e3) e4 e2
 ·have go:∀(es:List D)(vs:List V)(aD:List Value),(∀ d∈es,d∈ds)->aI X.K H es vs->aQ vs aD->aD.any e=es.any fun d'=>bR st d' d:=by
   intro es
   induction es with
   |nil=>intro vs aD _ g r;cases g;cases r;rfl
   |cons d1 es ih =>
    intro vs aD hm g r
    cases g with
    |cons g1 g2=>cases r with
     |cons r1 r2 =>
      simp only[List.any_cons]
      rw[he d1 _ _ (hm d1 (by simp)) g1 r1,ih _ _ (fun d m=>hm d (by simp [m])) g2 r2]
  rw[List.any_toArray]
  exact go ds vs aD (fun _ m=>m) g r
theorem O3 (k x:Str):(decide (k=x))=(x.cps.toList==k.cps.toList):=by
 by_cases h:k=x
 ·subst h;simp
 ·rw[decide_eq_false h]
  symm
  refine beq_eq_false_iff_ne.mpr fun e=>h ?_
  obtain⟨⟨k⟩⟩:=k
  obtain⟨⟨x⟩⟩:=x
  have e:x=k:=e
  subst e;rfl
theorem D7 {pins:List (Addr×Obj)}{s:Shared}{σ:L2.St}{H:Hp}{a:Addr}{T:List (Str×PyData)}(I:Inv X pins σ H s)(h:KTD.tabLook KTD.flatLooks (fun b=>X.K.lookup b) a T=true):KTD.Here s.heap s.heap a (T.map fun p=>(p.1,KTD.Dat.flat p.2)) :=
 ⟨(KTD.tab_of_look (fun d v=>KTD.flat_of_looks) (fun a o e=>I.jY a o e) h).text,fun _ _ e=>e⟩
theorem L7 (k:List Nat):∀(T:List (Str×PyData)),KTD.inKeys (⟨k.toArray⟩:Str) (T.map fun p=>(p.1,KTD.Dat.flat p.2))=(T.map fun p=>D.str p.1.cps.toList).any fun d=>bI d (.str k)
 |[]=>rfl
 |(x,d)::T=>by
  show(decide ((⟨k.toArray⟩:Str)=x)||KTD.inKeys _ _)=((x.cps.toList==k)||_)
  rw[L7 k T,O3]
theorem Bq (hu:X.A.units+180<cLine):nZ X .In (cX .in_)/\nZ X .NotIn (cX .jQ):=by
 have main:∀(neg:Bool)(pins:List (Addr×Obj))(s:Shared)(σ:L2.St)(H:Hp)(st:aB)(d d':D)(v v':V)(u u':Value)(P:Bool->Prop),Inv X pins σ H s->aR X.K st H->Rep X.K H d v->RelV v u->Rep X.K H d' v'->RelV v' u' ->
   HL d d' st (fun b=>P (if neg then !b else b))->wpAny (model X.prog X.w) X.A (compareOp (if neg then .NotIn else .In) u u') (fun r s'=>∃ k,r=.bool k/\P k/\Inv X pins σ H s') X.xe s:=by
  intro neg pins s σ H st d d' v v' u u' P I ok r rv r' bD q
  have lst:∀(a:Addr)(vs:List V)(ds:List D),cG X.K H a vs->aI X.K H ds vs->plainS st d->dU st ds->P (if neg then !(ds.any fun d'=>bR st d' d)else ds.any fun d'=>bR st d' d) ->
    wpAny (model X.prog X.w) X.A (compareOp (if neg then .NotIn else .In) u (.ref a)) (fun r s'=>∃ k,r=.bool k/\P k/\Inv X pins σ H s') X.xe s:=by
   intro a vs ds f g pd ps q
   obtain⟨aD,r1,p1,_⟩:=I.list f
   obtain⟨e,he,ha⟩:=FC I ok g r1 ps pd r rv (A:=X.A) (by omega)
   rw[<-ha]at q
   cases neg with
   |true=>exact notIn_listAt e p1.isList he ⟨_,rfl,q,I⟩
   |false=>exact in_listAt e p1.isList he ⟨_,rfl,q,I⟩
  unfold HL at q
  split at q
  ·obtain⟨a,vs,rfl,f,g⟩:=r'.bO
   cases bD
   obtain⟨aD,r1,p1,_⟩:=I.tuple f
   obtain⟨pd,ps,q⟩:=q
   obtain⟨e,he,ha⟩:=FC I ok g r1 ps pd r rv (A:=X.A) (by omega)
   rw[<-ha]at q
   cases neg with
   |true=>exact notIn_tupleAt e p1 he ⟨_,rfl,q,I⟩
   |false=>exact in_tupleAt e p1 he ⟨_,rfl,q,I⟩
  ·cases r'.cF
   cases bD
   obtain⟨ds,e1,pd,ps,q⟩:=sA ok q
   obtain⟨vs,g1,g2⟩:=ok.lst e1
   exact lst _ vs ds (cG.of g1) g2 pd ps q
  ·obtain⟨a,rfl,T,h1,_,h2,_⟩:=r'.IP
   cases bD
   cases r.str_inv
   obtain⟨t,rfl⟩:=rv
   rw[h2,<-L7]at q
   cases neg with
   |true=>exact KTD.notin_text (D7 I h1) ⟨_,rfl,q,I.tok _⟩
   |false=>exact KTD.in_text (D7 I h1) ⟨_,rfl,q,I.tok _⟩
  ·obtain⟨a,vs,rfl,f,g⟩:=r'.kN
   cases bD
   exact lst a vs _ f.sq g q.1 q.2.1 q.2.2
  ·cases r.str_inv;cases r'.str_inv
   cases neg with
   |true =>
    refine bA (HP (X:=X) pins s σ H _ _ _ _ (fun v H'=>H'=H/\∃ k,v=.bl k/\P k) I rv bD ⟨_,_,rfl,rfl,rfl,_,rfl,?_⟩) fun r s1 ⟨v,H',I1,r1,e,k,e',q'⟩=>?_
    ·rw[FP];exact q
    ·subst e e';cases r1;exact⟨k,rfl,q',I1⟩
   |false =>
    refine bA (PX (X:=X) pins s σ H _ _ _ _ (fun v H'=>H'=H/\∃ k,v=.bl k/\P k) I rv bD ⟨_,_,rfl,rfl,rfl,_,rfl,?_⟩) fun r s1 ⟨v,H',I1,r1,e,k,e',q'⟩=>?_
    ·rw[FP];exact q
    ·subst e e';cases r1;exact⟨k,rfl,q',I1⟩
  ·exact q.elim
 exact⟨fun pins s σ H st d d' v v' u u' P I ok r rv r' bD q=>main false pins s σ H st d d' v v' u u' P I ok r rv r' bD q,fun pins s σ H st d d' v v' u u' P I ok r rv r' bD q=>main true pins s σ H st d d' v v' u u' P I ok r rv r' bD q⟩
theorem EY {K:PySem.W.Frag}{H:Hp}{d:D}{v:V}{u:Value}(r:Rep K H d v)(rv:RelV v u):(u==Value.none)=vG d:=by
 rw[rv.UC]
 cases r<;>rfl
theorem Fj:nZ X .Is (cX .is_)/\nZ X .IsNot (cX .isnot):=by
 constructor
 ·intro pins s σ H st d d' v v' u u' P I ok r rv r' bD q
  have q:CG d d' P:=q
  unfold CG at q
  split at q
  ·cases r'.fJ;cases bD
   exact is_none_gen ⟨_,rfl,by rw[EY r rv];exact q,I⟩
  ·rename_i b
   cases r'.fE;cases bD
   cases r with
   |bl c=>cases rv;exact is_bool ⟨_,rfl,q,I⟩
   |non=>cases rv;exact wpAny_is_other rfl (by intro z;cases z) ⟨_,rfl,q,I⟩
   |int i=>obtain⟨t,rfl⟩:=rv;exact wpAny_is_other rfl (by intro z;cases z) ⟨_,rfl,q,I⟩
   |str z=>obtain⟨t,rfl⟩:=rv;exact wpAny_is_other rfl (by intro z;cases z) ⟨_,rfl,q,I⟩
   |tup _ _=>cases rv;exact wpAny_is_other rfl (by intro z;cases z) ⟨_,rfl,q,I⟩
   |ref _=>cases rv;exact wpAny_is_other rfl (by intro z;cases z) ⟨_,rfl,q,I⟩
   |bK _ _=>cases rv;exact wpAny_is_other rfl (by intro z;cases z) ⟨_,rfl,q,I⟩
   |cW _=>cases rv;exact wpAny_is_other rfl (by intro z;cases z) ⟨_,rfl,q,I⟩
  ·exact q.elim
 ·intro pins s σ H st d d' v v' u u' P I ok r rv r' bD q
  have q:CG d d' (fun b=>P (!b)):=q
  unfold CG at q
  split at q
  ·cases r'.fJ;cases bD
   exact isnot_none_gen ⟨_,rfl,by rw[EY r rv];exact q,I⟩
  ·rename_i b
   cases r'.fE;cases bD
   cases r with
   |bl c=>cases rv;exact isnot_bool ⟨_,rfl,q,I⟩
   |non=>cases rv;exact wpAny_isNot_other rfl (by intro z;cases z) ⟨_,rfl,q,I⟩
   |int i=>obtain⟨t,rfl⟩:=rv;exact wpAny_isNot_other rfl (by intro z;cases z) ⟨_,rfl,q,I⟩
   |str z=>obtain⟨t,rfl⟩:=rv;exact wpAny_isNot_other rfl (by intro z;cases z) ⟨_,rfl,q,I⟩
   |tup _ _=>cases rv;exact wpAny_isNot_other rfl (by intro z;cases z) ⟨_,rfl,q,I⟩
   |ref _=>cases rv;exact wpAny_isNot_other rfl (by intro z;cases z) ⟨_,rfl,q,I⟩
   |bK _ _=>cases rv;exact wpAny_isNot_other rfl (by intro z;cases z) ⟨_,rfl,q,I⟩
   |cW _=>cases rv;exact wpAny_isNot_other rfl (by intro z;cases z) ⟨_,rfl,q,I⟩
  ·exact q.elim
noncomputable def oR:qM->CmpOp
 |.eq=>.Eq|.ne=>.NotEq|.lt=>.Lt|.le=>.LtE|.gt=>.Gt|.ge=>.GtE|.is_=>.Is|.isnot=>.IsNot|.in_=>.In|.jQ=>.NotIn
theorem G7 (hu:X.A.units+180<cLine):∀ o:qM,nZ X (oR o) (cX o)
 |.eq=>Nx hu
 |.ne=>Ot hu
 |.lt=>Mc
 |.le=>Mm
 |.gt=>Nu
 |.ge=>Nd
 |.is_=>Fj.1
 |.isnot=>Fj.2
 |.in_=>(Bq hu).1
 |.jQ=>(Bq hu).2
theorem Kt {o:qM}(hu:X.A.units+180<cLine)(ha:PE X a (bW X.K (aF C sub E x)))(hb:PE X b (bW X.K (aF C sub E y)))(hm:behindInMarks (oR o) b=false):PE X (.Compare a [oR o] [b] pos) (bW X.K (aF C sub E (.cmp o x y))):=by
 intro pins s σ H Q I ⟨σd,st,R,r,ok,q,hq⟩
 refine wpAny_Compare1 (bA (ha pins s σ H _ I ⟨σd,st,_,r,ok,q,fun v H' z=>z⟩) fun u s1 ⟨v,H1,I1,rv,d,aC,cR,aL,r1,q1⟩ =>
 bA (hb pins s1 σ H1 _ I1 ⟨σd,aC,_,r.step ok cR,aL,q1,fun v H' z=>z⟩) fun u' s2 ⟨v',H2,I2,bD,d',aG,gF,bY,r2,q2⟩ =>
 bA (G7 hu o pins s2 σ H2 aG d d' v v' u u' _ I2 bY (r1.step aL gF) rv r2 bD q2) fun w s3 ⟨k,e,q3,I3⟩=>?_) hm
 subst e
 exact⟨.bl k,H2,I3,rfl,hq _ _ (.after (cR.trans gF) (.here bY (.bl k) q3))⟩
theorem El {o:qM}(hu:X.A.units+180<cLine)(ha:PE X a (bW X.K (aF C sub E x)))(hb:PE X b (bW X.K (aF C sub E y)))(hm:behindInMarks (oR o) b=false):PT X (.Compare a [oR o] [b] pos) (jD X.K (aF C sub E (.cmp o x y))):=by
 intro pins s σ H Q I ⟨σd,st,R,r,ok,q,hq⟩
 refine wpAny_isTrue_Compare1 (bA (ha pins s σ H _ I ⟨σd,st,_,r,ok,q,fun v H' z=>z⟩) fun u s1 ⟨v,H1,I1,rv,d,aC,cR,aL,r1,q1⟩ =>
 bA (hb pins s1 σ H1 _ I1 ⟨σd,aC,_,r.step ok cR,aL,q1,fun v H' z=>z⟩) fun u' s2 ⟨v',H2,I2,bD,d',aG,gF,bY,r2,q2⟩ =>
 bA (G7 hu o pins s2 σ H2 aG d d' v v' u u' _ I2 bY (r1.step aL gF) rv r2 bD q2) fun w s3 ⟨k,e,q3,I3⟩=>?_) hm
 subst e
 exact wpAny_truthy_bool ⟨H2,I3,hq _ _ ⟨aG,cR.trans gF,bY,q3⟩⟩
theorem WL {o o':qM}(hu:X.A.units+180<cLine)(ha:PE X a (bW X.K (aF C sub E x)))(hb:PE X b (bW X.K (aF C sub E y)))(hc:PE X c (bW X.K (aF C sub E z)))(hm:lastMarks [oR o,oR o'] [b,c]=false):
 PE X (.Compare a [oR o,oR o'] [b,c] pos) (bW X.K (aF C sub E (.chain o o' x y z))):=by
 intro pins s σ H Q I ⟨σd,st,R,r,ok,q,hq⟩
 refine Compare_chain (bA (ha pins s σ H _ I ⟨σd,st,_,r,ok,q,fun v H' z=>z⟩) fun u s1 ⟨v,H1,I1,rv,d,aC,cR,aL,r1,q1⟩ =>
 chain_link (bA (hb pins s1 σ H1 _ I1 ⟨σd,aC,_,r.step ok cR,aL,q1,fun v H' z=>z⟩) fun u' s2 ⟨v',H2,I2,bD,d',aG,gF,bY,r2,q2⟩ =>
 bA (G7 hu o pins s2 σ H2 aG d d' v v' u u' _ I2 bY (r1.step aL gF) rv r2 bD q2) fun w s3 ⟨k,e,q3,I3⟩=>?_)) hm
 subst e
 refine wpAny_truthy_bool ?_
 cases k with
 |false=>exact ite_ff ⟨.bl false,H2,I3,rfl,hq _ _ (.after (cR.trans gF) (.here bY (.bl _) q3))⟩
 |true =>
 refine ite_tt (chain_last (bA (hc pins s3 σ H2 _ I3 ⟨σd,aG,_,(r.step ok cR).step aL gF,bY,q3,fun v H' z=>z⟩) fun u3 s4 ⟨v3,H4,I4,rv3,d3,cC,s4s,WG,r4,q4⟩ =>
  bA (G7 hu o' pins s4 σ H4 cC d' d3 v' v3 u' u3 _ I4 WG (r2.step bY s4s) bD r4 rv3 q4) fun w s5 ⟨k,e,q5,I5⟩=>?_))
 subst e
 exact⟨.bl k,H4,I5,rfl,hq _ _ (.after ((cR.trans gF).trans s4s) (.here WG (.bl k) q5))⟩
end
end L3
end
section
namespace L3
open PySem PySem.Spec PyProof.Rows PyProof.V L2
section
variable {X:Cx}{C:bH}{sub:Nat->Nat->Bool}{E:XK}{a b c e:Expr}{x y z:Ex}{pos:Pos}
theorem Eo (n:Nat)(i:Int):L2.mI n i=mI n i:=rfl
theorem EJ {K:PySem.W.Frag}{H:Hp}{ds:List D}{vs:List V}{i:Int}{d:D}(r:aI K H ds vs)(h:fV ds i=some d):∃ v,L2.fV vs i=some v/\Rep K H d v:=by
 unfold fV at h
 unfold L2.fV
 rw[Eo,<-r.length]
 cases e:mI ds.length i with
 |none=>rw[e]at h;cases h
 |some j =>
 rw[e]at h
 obtain⟨v,e1,e2⟩:=r.get (i:=j) h
 exact⟨v,e1,e2⟩
noncomputable def Ax (K:PySem.W.Frag):R2:=fun x y H Q=>∃(p:Addr)(T:List (Str×PyData))(k:Str)(d:PyData),x=.ref p/\y=.str k/\KTD.tabLook KTD.flatLooks (fun b=>K.lookup b) p T=true/\KTD.datumAt k T=some d/\nY d=true/\∀ v u,RelV v u->Flat u d->Q v H
noncomputable def OS (K:PySem.W.Frag):R2:=fun x y H Q=>Lp K x y H Q∨Ax K x y H Q
theorem wJ {k:Str}{d:PyData}:∀{T:List (Str×PyData)},KTD.datumAt k T=some d->KTD.datumAt k (T.map fun p=>(p.1,KTD.Dat.flat p.2))=some (.flat d)
 |[],h=>by cases h
 |(x,e)::T,h=>by
  show(if decide (k=x)=true then some (KTD.Dat.flat e)else _)=_
  have h:(if decide (k=x)=true then some e else KTD.datumAt k T)=some d:=h
  by_cases c:decide (k=x)=true
  ·rw[if_pos c]at h ⊢;cases h;rfl
  ·rw[if_neg c]at h ⊢;exact wJ h
theorem Jf {X:Cx}:xB X (Ax X.K):=by
 intro value slice pins s σ H x y v u Q I rx ry h hs
 obtain⟨p,T,k,d,rfl,rfl,hT,hd,hsd,q⟩:=h
 cases rx
 obtain⟨t,rfl⟩:=ry
 have hh:=D7 I hT
 refine subscriptTail_builtin_flat hh.typeIs slot_dict_getitem.lookup ?_ hs
 unfold getItem
 try with_reducible refine wpAny_holding ?_
 refine wpAny_bind (wpAny_sequenceKey hh.typeIs (by decide) ?_)
 refine wpAny_bind (wpAny_callSpecial?_slot (name:=Str.ofString "__getitem__") hh.typeIs slot_dict_getitem
  (wpAny_call_entry slot_dict_getitem hh.typeIs entry_dict_getitem ?_ (args_dict_getitem _ _)))
 show wpAny _ _ (dictGet p (.str k t) >>= _) _ _ s
 refine wpAny_bind (KTD.dictGet_text hh (fun d' v ha hv=>?_) fun hn=>?_)
 ·rw[wJ hd]at ha
  cases ha
  have hv:Flat v d:=hv
  refine wpAny_pure ⟨v,rfl,wpAny_pure ⟨Flat.notRef hv,?_⟩⟩
  obtain⟨w,rw'⟩:∃ w,RelV w v:=by
   cases d with
   |none=>cases Flat.none_inv hv;exact⟨.non,rfl⟩
   |bool b=>cases Flat.bool_inv hv;exact⟨.bl b,rfl⟩
   |int i=>obtain⟨t,rfl⟩:=Flat.int_inv hv;exact⟨.int i,⟨t,rfl⟩⟩
   |str x=>obtain⟨t,rfl⟩:=Flat.str_inv hv;exact⟨.str x,⟨t,rfl⟩⟩
   |_=>cases hsd
  exact⟨w,H,I.tok _,rw',q w v rw' hv⟩
 ·rw[wJ hd]at hn;cases hn
theorem Z7 {X:Cx}:xB X (OS X.K):=Az.or Jf
theorem QH {K:PySem.W.Frag}(v v':V)(H:Hp)(Q Q':L2.VK)(h:∀ v H,Q v H->Q' v H)(z:OS K v v' H Q):OS K v v' H Q':=by
 rcases z with z|⟨p,T,k,d,e,e',e1,e2,e3,q⟩
 ·refine .inl ?_
  rcases z with⟨p,xs,i,v,e,e',s,t,q⟩|⟨p,xs,i,v,e,e',s,t,q⟩|⟨z,i,c,e,e',s,t,q⟩
  ·exact .inl ⟨p,xs,i,v,e,e',s,t,h _ _ q⟩
  ·exact .inr (.inl ⟨p,xs,i,v,e,e',s,t,h _ _ q⟩)
  ·exact .inr (.inr ⟨z,i,c,e,e',s,t,h _ _ q⟩)
 ·exact .inr ⟨p,T,k,d,e,e',e1,e2,e3,fun v u r f=>h _ _ (q v u r f)⟩
theorem IV {k:List Nat}{d:D}:∀{T:List (Str×PyData)},(T.all fun p=>nY p.2)=true->wI (T.map fun p=>.str p.1.cps.toList) (T.map fun p=>sV p.2) (.str k)=some d->∃ e,KTD.datumAt (⟨k.toArray⟩:Str) T=some e/\nY e=true/\d=sV e
 |[],_,h=>by cases h
 |(x,e)::T,a,h=>by
  simp only[List.all_cons,Bool.and_eq_true]at a
  have h:(if(x.cps.toList==k)=true then some (sV e)else wI (T.map fun p=>.str p.1.cps.toList) (T.map fun p=>sV p.2) (.str k))=some d:=h
  show ∃ e',(if decide ((⟨k.toArray⟩:Str)=x)=true then some e else KTD.datumAt _ T)=some e'/\_
  rw[O3]
  by_cases c:(x.cps.toList==k)=true
  ·rw[if_pos c]at h;cases h
   exact⟨e,if_pos c,a.1,rfl⟩
  ·rw[if_neg c]at h
   obtain⟨e',h1,h2⟩:=IV a.2 h
   exact⟨e',(if_neg c).trans h1,h2⟩
theorem S1 {K:PySem.W.Frag}{H:Hp}{e:PyData}{v:V}{u:Value}(s:nY e=true)(r:RelV v u)(f:Flat u e):Rep K H (sV e) v:=by
 cases e with
 |none=>cases Flat.none_inv f;cases RelV.inj r (show RelV .non .none from rfl);exact .non
 |bool b=>cases Flat.bool_inv f;cases RelV.inj r (show RelV (.bl b) (.bool b)from rfl);exact .bl b
 |int i=>obtain⟨t,rfl⟩:=Flat.int_inv f;cases RelV.inj r (show RelV (.int i) (.int i t)from⟨t,rfl⟩);exact .int i
 |str x=>obtain⟨t,rfl⟩:=Flat.str_inv f;cases RelV.inj r (show RelV (.str x) (.str x t)from⟨t,rfl⟩);exact .str x.cps.toList
 |_=>cases s
theorem U0 {K:PySem.W.Frag}{H:Hp}{st:aB}{R:VK}{d d':D}{v v':V}(ok:aR K st H)(r:Rep K H d v)(r':Rep K H d' v')(h:mH d d' st R):OS K v v' H (QD K H st R):=by
 unfold mH at h
 split at h
 ·obtain⟨a,vs,rfl,f,g⟩:=r.bO
  cases r'.int_inv
  obtain⟨d,e,q⟩:=eD h
  obtain⟨v,e1,e2⟩:=EJ g e
  exact .inl (.inr (.inl ⟨a,vs,_,v,rfl,rfl,f,e1,.here ok e2 q⟩))
 ·obtain⟨a,vs,rfl,f,g⟩:=r.kN
  cases r'.int_inv
  obtain⟨d,e,q⟩:=eD h
  obtain⟨v,e1,e2⟩:=EJ g e
  exact .inl (.inl ⟨a,vs,_,v,rfl,rfl,f.sq,e1,.here ok e2 q⟩)
 ·cases r.str_inv
  cases r'.int_inv
  obtain⟨l,h⟩:=h
  obtain⟨c,e,q⟩:=eD h
  exact .inl (.inr (.inr ⟨_,_,c,rfl,rfl,by rw[fK];simpa [Str.length]using l,e,.here ok (.str [c]) q⟩))
 ·obtain⟨a,rfl,T,h1,h2,h3,h4⟩:=r.IP
  cases r'.str_inv
  obtain⟨d,e,q⟩:=eD h
  rw[h3,h4]at e
  obtain⟨e',e1,e2,rfl⟩:=IV h2 e
  exact .inr ⟨a,T,_,e',rfl,rfl,h1,e1,e2,fun v u r f=>.here ok (S1 e2 r f) q⟩
 ·cases r.cF
  obtain⟨ds,e,q⟩:=sA ok h
  obtain⟨vs,g1,g2⟩:=ok.lst e
  split at q
  ·cases r'.int_inv
   obtain⟨d,e,q⟩:=eD q
   obtain⟨v,e1,e2⟩:=EJ g2 e
   exact .inl (.inl ⟨_,vs,_,v,rfl,rfl,cG.of g1,e1,.here ok e2 q⟩)
  ·exact q.elim
 ·exact h.elim
theorem Nb (ha:PE X a (bW X.K (aF C sub E x)))(hb:PE X b (bW X.K (aF C sub E y)))(hp:tY b):PE X (.Subscript a b pos) (bW X.K (aF C sub E (.ix x y))) :=
 (VP Z7 ha hb hp).imp fun σ H Q ⟨σd,st,R,r,ok,q,hq⟩=>by
 exact two (W:=fun d d' aG=>mH d d' aG R) r ok q hq (fun d d' v v' H2 aG bY r1 r2 h=>U0 bY r1 r2 h) QH
theorem xJ {prog:Program}{w:World}{A:Around}{E:Value->Shared->Prop}{s:Shared}{t sl:Addr}{items:Array Value}{vl vu:Value}{lo hi:Option Int}{Q:Value->Shared->Prop}(ht:IsTup s.heap t items)(hs:s.heap.IsSliceOf sl vl vu .none)(pl:IsPart vl lo)(pu:IsPart vu hi)
  (hw:HT.cE items.size 0 lo=0/\HT.cE items.size items.size hi=items.size)(h:Q (.ref t) s):wpAny (model prog w) A (getItem (.ref t) (.ref sl)) Q E s:=by
 obtain⟨os,hos,hcs,hds⟩:=id hs
 have hTs:s.TypeIs (.ref sl) "slice":=⟨os,hos,hcs⟩
 unfold getItem
 try with_reducible refine wpAny_holding ?_
 first|refine wpAny_bind (wpAny_pure ?_)|skip
 refine wpAny_bind (wpAny_sequenceKey ht.typeIs (by decide) ?_)
 refine wpAny_bind (wpAny_callSpecial?_slot (name:=Str.ofString "__getitem__") ht.typeIs PyProof.Rows.slot_tuple_getitem
  (wpAny_call_entry PyProof.Rows.slot_tuple_getitem ht.typeIs entry_tuple_getitem ?_ (args_tuple_getitem _ _)))
 show wpAny _ _ (Builtin.Tuple.tupleItemsOf (.ref t) >>= _) _ _ s
 refine wpAny_bind (tupleItemsOf_ ht ?_)
 refine wpAny_bind (wpAny_typeOf hTs ?_)
 rw[if_pos (by decide)]
 refine wpAny_bind (HT.qL hs pl pu ?_)
 have hyes:(((HT.cE items.size 0 lo:Nat):Int)==0&&(1:Int)==1&&(HT.cE items.size items.size hi-HT.cE items.size 0 lo)==items.size)=true:=by
  rw[hw.1,hw.2];simp
 show wpAny _ _ (if(((HT.cE items.size 0 lo:Nat):Int)==0&&(1:Int)==1&&(HT.cE items.size items.size hi-HT.cE items.size 0 lo)==items.size)=true then _ else _) _ _ s
 rw[if_pos hyes]
 have hex:∀{Q:Bool->Shared->Prop},Q true s->wpAny (model prog w) A.in1 (Builtin.Tuple.tupleIsExact (.ref t)) Q E s:=fun h=>by
  unfold Builtin.Tuple.tupleIsExact
  exact wpAny_bind (wpAny_typeOf ht.typeIs (wpAny_pure h))
 refine wpAny_bind (hex ?_)
 rw[if_pos rfl]
 exact wpAny_bind (wpAny_rule (wpAny_pure ⟨_,rfl,wpAny_pure h⟩))
theorem Q7 (n d:Nat)(o:Option Int):HT.cE n d o=cE n d o:=rfl
theorem aI.cut {K:PySem.W.Frag}{H:Hp}{ds:List D}{vs:List V}(r:aI K H ds vs)(lo hi:Option Int):aI K H (cut ds lo hi) (cut vs lo hi):=by
 unfold L3.cut
 rw[r.length]
 exact(r.drop _).take _
noncomputable def Bs (K:PySem.W.Frag):V->Option Int->Option Int->Hp->L2.VK->Prop:=fun x lo hi H Q=>∃ a xs,x=.ref a/\dZ K H a xs/\(HT.cE xs.length 0 lo=0/\HT.cE xs.length xs.length hi=xs.length)/\Q (.ref a) H
theorem Y7:zE X (Bs X.K):=by
 intro pins s σ H x v vl vu lo hi sl Q I rx hs pl pu h
 obtain⟨a,xs,rfl,hx,hw,q⟩:=h
 cases rx
 obtain⟨aD,r,ht,hz⟩:=I.tuple hx
 have hlen:aD.toArray.size=xs.length:=by rw[List.size_toArray];exact r.length.symm
 refine⟨"tuple", _,PyProof.Rows.slot_tuple_getitem.lookup,ht.typeIs,?_⟩
 exact xJ ht hs pl pu (by rw[hlen];exact hw) ⟨.ref a,H,I,rfl,q⟩
noncomputable abbrev Cd (K:PySem.W.Frag):V->Option Int->Option Int->Hp->L2.VK->Prop:=fun x lo hi H Q=>Dc K x lo hi H Q∨Bs K x lo hi H Q∨Ei K x lo hi H Q
theorem Ab:zE X (Cd X.K):=zE.or L2.KE (zE.or Y7 Y9)
theorem S9 {K:PySem.W.Frag}{H:Hp}{st:aB}{R:VK}{Q:L2.VK}{d:D}{v:V}{lo hi:Option Int}(ok:aR K st H)(r:Rep K H d v)(h:C7 d lo hi st R)(hq:∀ v H',QD K H st R v H'->Q v H'):Cd K v lo hi H Q:=by
 unfold C7 at h
 split at h
 ·rename_i ds0
  obtain⟨a,vs,rfl,f,g⟩:=r.bO
  by_cases hw:HT.cE vs.length 0 lo=0/\HT.cE vs.length vs.length hi=vs.length
  ·refine .inr (.inl ⟨a,vs,rfl,f,hw,hq _ _ (.here ok r ?_)⟩)
   have e:L3.cut ds0 lo hi=ds0:=by
    unfold L3.cut
    rw[g.length,<-Q7,<-Q7,hw.1,hw.2,List.drop_zero,Nat.sub_zero,<-g.length,List.take_length]
   rw[e]at h
   exact h
  ·exact .inl ⟨a,vs,rfl,f,hw,fun p hp=>hq _ _ (.IS ok (g.cut lo hi) hp h)⟩
 ·cases r.cF
  obtain⟨ds,e,h⟩:=cT h
  obtain⟨vs,g1,g2⟩:=ok.lst e
  exact .inr (.inr ⟨_,vs,rfl,cG.of g1,fun p hp=>hq _ _ (.gU ok (g2.cut lo hi) hp h)⟩)
 ·exact h.elim
inductive EU (K:PySem.W.Frag)(te:St->aB->(List D->aB->Prop)->Prop)(σ:L2.St)(H:Hp)(Q:Option Int->Hp->Prop):Prop where
 |mk (σd:St)(st:aB)(R:Option Int->aB->Prop)(r:dJ K H σd σ)(ok:aR K st H)(q:te σd st (fun ds aA=>oI ds fun o=>R o aA))(hq:∀(o:Option Int) H',QX K H st (R o) H'->Q o H'):EU K te σ H Q
theorem _root_.L2.PO.imp {X:Cx}{e:Option Expr}{t t':TO}(i:∀ σ H Q,t' σ H Q->t σ H Q)(h:PO X e t):PO X e t':=fun pins s σ H Q I q=>h pins s σ H Q I (i σ H Q q)
theorem Y6:PO X none (EU X.K (bJ C sub E [])) :=
 X0.imp fun σ H Q ⟨σd,st,R,r,ok,q,hq⟩=>by
 exact hq _ _ ⟨st,.refl,ok,q⟩
theorem YJ (h:PE X e (bW X.K (aF C sub E x))):PO X (some e) (EU X.K (bJ C sub E [x])) :=
 (X1 h).imp fun σ H Q ⟨σd,st,R,r,ok,q,hq⟩=>by
 refine⟨σd,st,_,r,ok,q,fun v H1 ⟨d,aC,s1,aL,r1,q1⟩=>?_⟩
 cases d with
 |int i=>cases r1.int_inv;exact⟨i,rfl,hq _ _ ⟨aC,s1,aL,q1⟩⟩
 |_=>exact q1.elim
theorem Ou {lo hi:Option Expr}{xl xh:List Ex}{p2:Pos}(ha:PE X a (bW X.K (aF C sub E x)))(hl:PO X lo (EU X.K (bJ C sub E xl)))(hh:PO X hi (EU X.K (bJ C sub E xh))):
 PE X (.Subscript a (.Slice lo hi none p2) pos) (bW X.K (aF C sub E (.sl x xl xh))) :=
 (SU Ab ha hl hh).imp fun σ H Q ⟨σd,st,R,r,ok,q,hq⟩=>by
 refine⟨σd,st,_,r,ok,q,fun v H1 ⟨d,aC,s1,aL,r1,q1⟩=>?_⟩
 refine⟨σd,aC,_,r.step ok s1,aL,q1,fun lo H2 ⟨aG,s2,bY,q2⟩=>?_⟩
 refine⟨σd,aG,_,(r.step ok s1).step aL s2,bY,q2,fun hi H3 ⟨aU,s3,uS,q3⟩=>?_⟩
 exact S9 uS ((r1.step aL s2).step bY s3) q3 fun v H' z=>hq _ _ (.after ((s1.trans s2).trans s3) z)
noncomputable def wU (X:Cx)(f:Value)(W:List D->aB->VK->Prop):Prop :=
 ∀(pins:List (Addr×Obj))(s:Shared)(σ:L2.St)(H:Hp)(st:aB)(ds:List D)(vs:List V)(us:List Value)(R:VK),Inv X pins σ H s->aR X.K st H->aI X.K H ds vs->aQ vs us->W ds st R ->
 wpAny (model X.prog X.w) X.A (call f us) (EP X pins σ (QD X.K H st R)) X.xe s
inductive Aa (K:PySem.W.Frag)(W:List D->aB->VK->Prop)(vs:List V)(H:Hp)(Q:L2.VK):Prop where
 |mk (ds:List D)(st:aB)(R:VK)(r:aI K H ds vs)(ok:aR K st H)(q:W ds st R)(hq:∀ v H',QD K H st R v H'->Q v H'):Aa K W vs H Q
theorem wU.call {f:Value}{W:List D->aB->VK->Prop}(h:wU X f W):vY X f (Aa X.K W):=fun pins s σ H vs us Q I rv ⟨ds,st,R,r,ok,q,hq⟩ =>
 bA (h pins s σ H st ds vs us R I ok r rv q) fun u s' ⟨v,H',I',r',z⟩=>⟨v,H',I',r',hq _ _ z⟩
theorem KP {K:PySem.W.Frag}{W:List D->aB->VK->Prop}{xs:List Ex}{σ:L2.St}{H:Hp}{Q:L2.VK}(h:bW K (fun σ st R=>bJ C sub E xs σ st fun ds aA=>W ds aA R) σ H Q):Dy (Aa K W) (jJ K (bJ C sub E xs)) σ H Q:=by
 obtain⟨σd,st,R,r,ok,q,hq⟩:=h
 refine⟨σd,st,_,r,ok,q,fun vs H1 ⟨ds,aC,s1,aL,r1,q1⟩=>?_⟩
 exact⟨ds,aC,R,r1,aL,q1,fun v H' z=>hq _ _ (.after s1 z)⟩
theorem Ji {W:List D->aB->VK->Prop}{n:Str}{id:String}{p:Pos}{es:List Expr}{xs:List Ex}(hW:wU X (.builtin id) W)(hg:Gl X n)(hm:X.mg n=none)(hv:bootBuiltins n=some (.builtin id))(ha:PA X (e::es) (jJ X.K (bJ C sub E xs)))
 (hn:n ≠"__name__")(hdb:(n==("__debug__" : Str))=false)(he:starEach (e::es) X.env=(false,eval e X.env)::starEach es X.env)(eJ:(backTo pos (starEach es X.env)).any (·.1)=false):
 PE X (.Call (.Name n p) (e::es) [] pos) (bW X.K fun σ st R=>bJ C sub E xs σ st fun ds aA=>W ds aA R) :=
 (KN hW.call hg hm hv ha hn hdb he eJ).imp fun σ H Q h=>KP h
theorem Ek {W:List D->aB->VK->Prop}{n:Str}{T:String}{p:Pos}{es:List Expr}{xs:List Ex}(hW:wU X (.type T) W)(hg:Gl X n)(hm:X.mg n=none)(hv:bootBuiltins n=some (.type T))(ha:PA X (e::es) (jJ X.K (bJ C sub E xs)))
 (hn:n ≠"__name__")(hdb:(n==("__debug__" : Str))=false)(he:starEach (e::es) X.env=(false,eval e X.env)::starEach es X.env)(eJ:(backTo pos (starEach es X.env)).any (·.1)=false):
 PE X (.Call (.Name n p) (e::es) [] pos) (bW X.K fun σ st R=>bJ C sub E xs σ st fun ds aA=>W ds aA R) :=
 (R5 hW.call hg hm hv ha hn hdb he eJ).imp fun σ H Q h=>KP h
theorem aI.one {K:PySem.W.Frag}{H:Hp}{d:D}{vs:List V}(r:aI K H [d] vs):∃ v,vs=[v]/\Rep K H d v:=by
 cases r with|cons h r=>cases r;exact⟨_,rfl,h⟩
theorem RA {K:PySem.W.Frag}{H:Hp}{st:aB}{d:D}{v:V}{P:Nat->Prop}(ok:aR K st H)(r:Rep K H d v)(h:pB d st P):∃ n,An K v H n/\P n:=by
 unfold pB at h
 split at h
 ·obtain⟨a,vs,rfl,f,g⟩:=r.bO
  exact⟨_,.inr ⟨vs,f,g.length⟩,h⟩
 ·cases r.str_inv
  exact⟨_,⟨by rw[fK];simpa [Str.length]using h.1,by simp [Str.length]⟩,h.2⟩
 ·cases r.cF
  obtain⟨ds,e,h⟩:=sA ok h
  obtain⟨vs,g1,g2⟩:=ok.lst e
  exact⟨_,.inl ⟨vs,cG.of g1,g2.length⟩,h⟩
 ·obtain⟨a,vs,rfl,f,g⟩:=r.kN
  exact⟨_,.inl ⟨vs,f.sq,g.length⟩,h⟩
 ·exact h.elim
theorem cQ:wU X (.builtin "len") (gJ .len):=by
 intro pins s σ H st ds vs us R I ok r rv q
 match ds,q with
 |[d],q =>
 have q:pB d st fun n=>R (.int (n:Nat)) st:=q
 obtain⟨v,rfl,rd⟩:=r.one
 obtain⟨n,l,q⟩:=RA ok rd q
 exact TU pins s σ H _ us _ I rv ⟨v,n,rfl,l,.here ok (.int _) q⟩
 |[],q=>exact(show False from q).elim
 |_::_::_,q=>exact(show False from q).elim
end
end L3
end
section
namespace L3
open PySem PySem.Spec PyProof.Rows L2
section
variable {X:Cx}{pins:List (Addr×Obj)}{σ:L2.St}{H:Hp}{s:Shared}
noncomputable def PC (K:PySem.W.Frag)(H:Hp)(a:Addr)(vs:List V):Prop:=cG K H a vs∨dZ K H a vs
theorem BM {A:Around}{E:Value->Shared->Prop}{a:Addr}{vs:List V}{Q:Value->Shared->Prop}(hh:A.handled=none)(I:Inv X pins σ H s)(h:PC X.K H a vs)
  (hQ:∀(aD:List Value)(I0:Addr)(fp wr:List Addr)(St:Nat->Heap->Prop)(s₂:Shared),aQ vs aD->Walks X.prog X.w A I0 fp wr aD.length (fun i v=>aD[i]? = some v) St->St 0 s₂.heap->(∀ b∈fp,b<s₂.heap.objs.size) ->
   (∀ h' tk,(∀ b o,b∉wr->s₂.heap.get? b=some o->h'.get? b=some o)->Inv X pins σ H { s₂ with heap:=h',toks:=tk })->Q (.ref I0) s₂):wpAny (model X.prog X.w) A (pyIter (.ref a)) Q E s:=by
 rcases h with h|h
 ·obtain⟨aD,r,p,hz⟩:=I.list h
  have hl:=p.isList
  have dP:a<s.heap.objs.size:=by obtain⟨_,e,_⟩:=hl;exact Heap.lt_size e
  have W:=Walks.list (prog:=X.prog) (w:=X.w) (A:=A) hh s.heap.objs.size a (Nat.ne_of_lt dP) aD.toArray
  have e1:aD.toArray.size=aD.length:=by simp
  have e2:(fun(i:Nat)(v:Value)=>aD.toArray[i]? = some v)=fun i v=>aD[i]? = some v:=by funext i v;simp
  rw[e1,e2]at W
  refine wpAny_pyIter_list hl (hQ aD s.heap.objs.size _ _ _ _ r W ⟨⟨_,Heap.get?_push_size _ rfl,rfl,rfl⟩,hl.push _⟩ (fun b hb=>?_) fun h' tk hk=>?_)
  ·show b<(s.heap.push _).objs.size
   rw[Heap.size_push]
   rcases List.mem_cons.mp hb with rfl|hb
   ·exact Nat.lt_succ_self _
   ·rcases List.mem_cons.mp hb with rfl|hb
    ·exact Nat.lt_succ_of_lt dP
    ·cases hb
  ·exact I.kept (t':=tk) (old_kept hk)
 ·obtain⟨aD,r,p,hz⟩:=I.tuple h
  have hl:s.heap.IsTuple a aD.toArray:=p
  have dP:a<s.heap.objs.size:=by obtain⟨_,e,_⟩:=hl;exact Heap.lt_size e
  have W:=Walks.tuple (prog:=X.prog) (w:=X.w) (A:=A) hh s.heap.objs.size a (Nat.ne_of_lt dP) aD.toArray
  have e1:aD.toArray.size=aD.length:=by simp
  have e2:(fun(i:Nat)(v:Value)=>aD.toArray[i]? = some v)=fun i v=>aD[i]? = some v:=by funext i v;simp
  rw[e1,e2]at W
  refine wpAny_pyIter_tuple hl (hQ aD s.heap.objs.size _ _ _ _ r W ⟨⟨_,Heap.get?_push_size _ rfl,rfl,rfl⟩,hl.push _⟩ (fun b hb=>?_) fun h' tk hk=>?_)
  ·show b<(s.heap.push _).objs.size
   rw[Heap.size_push]
   rcases List.mem_cons.mp hb with rfl|hb
   ·exact Nat.lt_succ_self _
   ·rcases List.mem_cons.mp hb with rfl|hb
    ·exact Nat.lt_succ_of_lt dP
    ·cases hb
  ·refine I.kept (t':=tk) fun b o e=>hk b o (fun hm=>?_) (Heap.get?_push_of_some _ e)
   rcases List.mem_cons.mp hm with e1|hm
   ·exact absurd (e1▸Heap.lt_size e) (Nat.lt_irrefl _)
   ·cases hm
theorem mJ {K:PySem.W.Frag}{st:aB}{d:D}{v:V}{P:List Nat->List D->Prop}(ok:aR K st H)(r:Rep K H d v)(h:dW d st P):∃ a vs as ds,v=.ref a/\PC K H a vs/\aI K H ds vs/\P as ds:=by
 unfold dW at h
 split at h
 ·obtain⟨a,vs,rfl,f,g⟩:=r.bO
  exact⟨a,vs,_,_,rfl,.inr f,g,h⟩
 ·cases r.cF
  obtain⟨ds,e,h⟩:=cT h
  obtain⟨vs,g1,g2⟩:=ok.lst e
  exact⟨_,vs,_,ds,rfl,.inl (cG.of g1),g2,h⟩
 ·obtain⟨a,vs,rfl,f,g⟩:=r.kN
  exact⟨a,vs,_,_,rfl,.inl f.sq,g,h⟩
 ·exact h.elim
theorem BV {K:PySem.W.Frag}:∀{ds:List D}{vs:List V}{aD:List Value}{bs:List Bool},boolsOf ds=some bs->aI K H ds vs->aQ vs aD->aD=bs.map Value.bool
 |_,_,_,_,h,.nil,.nil=>by cases h;rfl
 |d::ds,_,_,bs,h,.cons r1 r2,.cons v1 v2=>by
  cases d with
  |bl b =>
   simp only[boolsOf,Option.map_eq_some_iff]at h
   obtain⟨bs',e,rfl⟩:=h
   cases r1.fE
   cases v1
   rw[BV e r2 v2];rfl
  |_=>simp [boolsOf]at h
theorem all_range (bs:List Bool):(List.range bs.length).all (fun i=>(bs[i]?).getD true)=bs.all id:=by
 induction bs with
 |nil=>rfl
 |cons b bs ih =>
 simp only[List.length_cons,List.range_succ_eq_map,List.all_cons,List.all_map,Function.comp_def,List.getElem?_cons_zero,List.getElem?_cons_succ,Option.getD_some,id]
 rw[<-ih]
theorem any_range (bs:List Bool):(List.range bs.length).any (fun i=>(bs[i]?).getD true)=bs.any id:=by
 induction bs with
 |nil=>rfl
 |cons b bs ih =>
 simp only[List.length_cons,List.range_succ_eq_map,List.any_cons,List.any_map,Function.comp_def,List.getElem?_cons_zero,List.getElem?_cons_succ,Option.getD_some,id]
 rw[<-ih]
theorem BA {prog:Program}{w:World}{A:Around}(bs:List Bool):TruthOf prog w A (fun i v=>(bs.map Value.bool)[i]? = some v) (fun i=>(bs[i]?).getD true):=fun i v s Q E hP hQ=>by
 have hP:(bs.map Value.bool)[i]? = some v:=hP
 rw[List.getElem?_map,Option.map_eq_some_iff]at hP
 obtain⟨b,e,rfl⟩:=hP
 simp only[e,Option.getD_some]at hQ
 exact wpAny_truthy_bool hQ
theorem iV (hh:X.A.handled=none):wU X (.builtin "all") (gJ .all):=by
 intro pins s σ H st ds vs us R I ok r rv q
 match ds,q with
 |[d],q =>
 have q:gJ .all [d] st R:=q
 rw[PB]at q
 obtain⟨v,rfl,rd⟩:=r.one
 obtain⟨u,rfl,ru⟩:=vals1 rv
 obtain⟨a,ws,as,xs,rfl,sa,g,q⟩:=mJ ok rd q
 cases ru
 obtain⟨bs,e,q⟩:=eD q
 refine call_all_walk (BM (A:=X.A.in1) hh I sa fun aD I0 fp wr St s₂ rr W h0 hfp hk=>?_)
 cases BV e g rr
 refine⟨I0,fp,wr,_,_,St,_,rfl,W,h0,BA bs,fun h' tk hk'=>⟨.bl _,H,hk h' tk hk',rfl,?_⟩⟩
 rw[List.length_map,all_range]
 exact .here ok (.bl _) q
 |[],q=>exact(show False from q).elim
 |_::_::_,q=>exact(show False from q).elim
theorem yP (hh:X.A.handled=none):wU X (.builtin "any") (gJ .any):=by
 intro pins s σ H st ds vs us R I ok r rv q
 match ds,q with
 |[d],q =>
 have q:gJ .any [d] st R:=q
 rw[PL]at q
 obtain⟨v,rfl,rd⟩:=r.one
 obtain⟨u,rfl,ru⟩:=vals1 rv
 obtain⟨a,ws,as,xs,rfl,sa,g,q⟩:=mJ ok rd q
 cases ru
 obtain⟨bs,e,q⟩:=eD q
 refine call_any_walk (BM (A:=X.A.in1) hh I sa fun aD I0 fp wr St s₂ rr W h0 hfp hk=>?_)
 cases BV e g rr
 refine⟨I0,fp,wr,_,_,St,_,rfl,W,h0,BA bs,fun h' tk hk'=>⟨.bl _,H,hk h' tk hk',rfl,?_⟩⟩
 rw[List.length_map,any_range]
 exact .here ok (.bl _) q
 |[],q=>exact(show False from q).elim
 |_::_::_,q=>exact(show False from q).elim
theorem wC:wU X (.type "list") (gJ .list):=by
 intro pins s σ H st ds vs us R I ok r rv q
 match ds,q with
 |[d],q =>
 have q:gJ .list [d] st R:=q
 rw[L4]at q
 obtain⟨v,rfl,rd⟩:=r.one
 obtain⟨a,ws,as,xs,rfl,sa,g,q⟩:=mJ ok rd q
 exact IC pins s σ H _ us _ I rv ⟨a,ws,rfl,sa,fun l hl=>.gU ok g hl q.2⟩
 |[],q=>exact(show False from q).elim
 |_::_::_,q=>exact(show False from q).elim
theorem fR:wU X (.type "tuple") (gJ .tuple):=by
 intro pins s σ H st ds vs us R I ok r rv q
 match ds,q with
 |[d],q =>
 have q:gJ .tuple [d] st R:=q
 rw[JF]at q
 obtain⟨v,rfl,rd⟩:=r.one
 obtain⟨a,ws,as,xs,rfl,sa,g,q⟩:=mJ ok rd q
 rcases sa with sa|sa
 ·exact xF pins s σ H _ us _ I rv ⟨a,ws,rfl,.inl ⟨sa,fun l hl=>.IS ok g hl q.2⟩⟩
 ·exact xF pins s σ H _ us _ I rv ⟨a,ws,rfl,.inr ⟨sa,.here ok (.tup sa g) q.2⟩⟩
 |[],q=>exact(show False from q).elim
 |_::_::_,q=>exact(show False from q).elim
theorem L5 {K:PySem.W.Frag}:∀{ds:List D}{vs:List V}{aD:List Value}{is:List Int},intsOf ds=some is->aI K H ds vs->aQ vs aD->IntsAre aD is
 |_,_,_,_,h,.nil,.nil=>by cases h;exact .nil
 |d::ds,_,_,bs,h,.cons r1 r2,.cons v1 v2=>by
  cases d with
  |int i =>
   simp only[intsOf,Option.map_eq_some_iff]at h
   obtain⟨bs',e,rfl⟩:=h
   cases r1.int_inv
   obtain⟨t,rfl⟩:=v1
   exact .cons _ _ (L5 e r2 v2)
  |_=>simp [intsOf]at h
noncomputable def JM (is:List Int)(i:Nat):Int:=(is[i]?).getD 0
theorem P8:∀{aD:List Value}{is:List Int},IntsAre aD is->∀(i:Nat)(v:Value),aD[i]? = some v->∃ t,v=.int (JM is i) t
 |_,_,.nil,i,v,e=>by simp at e
 |_,_,.cons n t r,0,v,e=>by simp at e;exact⟨t,e.symm⟩
 |_,_,.cons n t r,i+1,v,e=>by
  obtain⟨t',e'⟩:=P8 r i v (by simpa using e)
  exact⟨t',by simpa [JM]using e'⟩
theorem MK:∀{aD:List Value}{is:List Int},IntsAre aD is->aD.length=is.length
 |_,_,.nil=>rfl
 |_,_,.cons _ _ r=>by simp [MK r]
theorem take_snoc {r:List Int}{k:Nat}(h:k<r.length):r.take (k+1)=r.take k++[r[k]]:=by rw[List.take_succ_eq_append_getElem h]
theorem C3 (is:List Int):∀ n,n<=is.length->preSum (JM is) n=(is.take n).sum
 |0,_=>rfl
 |n+1,h=>by
  rw[take_snoc (by omega),List.sum_append,<-C3 is n (by omega)]
  simp [preSum,JM,List.getElem?_eq_getElem (show n<is.length by omega)]
theorem RJ (hh:X.A.handled=none):wU X (.builtin "sum") (gJ .sum):=by
 intro pins s σ H st ds vs us R I ok r rv q
 match ds,q with
 |[d],q =>
 have q:gJ .sum [d] st R:=q
 rw[Q9]at q
 obtain⟨v,rfl,rd⟩:=r.one
 obtain⟨u,rfl,ru⟩:=vals1 rv
 obtain⟨a,ws,as,xs,rfl,sa,g,q⟩:=mJ ok rd q
 cases ru
 obtain⟨is,e,q⟩:=eD q
 refine call_sum_walkG (BM (A:=X.A.in1) hh I sa fun aD I0 fp wr St s₂ rr W h0 hfp hk=>?_)
 have ia:=L5 e g rr
 have hl:=MK ia
 refine⟨I0,fp,wr,_,_,St,JM is,rfl,W,h0,hfp,fun j v e=>P8 ia j v e,fun h' tk t' hk'=>?_⟩
 refine⟨.int _,H,hk h' tk hk',⟨t',rfl⟩,?_⟩
 rw[hl,C3 is is.length (Nat.le_refl _),List.take_length]
 exact .here ok (.int _) q
 |[],q=>exact(show False from q).elim
 |_::_::_,q=>exact(show False from q).elim
theorem Pk {K:PySem.W.Frag}{a:Addr}{vs:List V}(h:H a=some (.lst vs)):PV K "list" (.ref a) H:=.inl ⟨rfl,vs,cG.of h⟩
theorem AN (l:Addr)(items:Array Value)(n:Nat)(b:Addr)(items2:Array Value)(n2:Nat)(dd:Option Addr)(sl:Array (Option Value))(hs0:¬(!items.isEmpty&&Builtin.List.listTooLong (items.size+items2.size))=true)(hs1:items.size<=sizeLine)(hs2:items.size+items2.size<=sizeLine+1):
 Meets (Builtin.«list.extend» ⟨[.ref l,.ref b],[]⟩) (fun _ R s=>s.heap.get? l=some { cls:=.type "list", dict:=none,data:=.seq items n,slots:=#[] }/\s.heap.get? b=some { cls:=.type "tuple", dict:=dd,data:=.seq items2 n2,slots:=sl }/\R (.ok (.ret Value.none)) { s with heap:=s.heap.update l (Obj.mapSeq fun x=>x++items2),toks:=s.toks }) :=
 .of_wp fun prog w A R s h=>by
 obtain⟨hp,g,d,tk,os⟩:=s;obtain⟨hl,hb,h⟩:=h;have f1:=AutoSeq1.idx_int;have f2:=AutoSeq1.sub_tuple_tuple;have f3:=AutoSeq1.sub_list_list;have f4:=AutoSeq1.sub_tuple_list;have f5:=AutoSeq1.sub_list_tuple;
 have hz':(items++items2).size<=sizeLine+1:=by rw[Array.size_append];exact hs2
 wp_walk using(wpAny_updateSeq hl rfl (hz:=hs1) (_hz':=hz')),AutoSeq1.wpAny_loadPart' hl,AutoSeq1.wpAny_loadPart' hb;exact⟨_,rfl,h⟩
noncomputable def TJ (K:PySem.W.Frag):V->List V->Hp->L2.VK->Prop:=fun x vs H Q=>∃ l b xs zs,x=.ref l/\vs=[.ref b]/\H l=some (.lst xs)/\dZ K H b zs/\xs.length+zs.length<=sizeLine/\Q .non (upd H l (.lst (xs++zs)))
theorem OY:VN X "list.extend" (TJ X.K):=by
 intro pins s σ H x vs v us Q I rx rv h
 obtain⟨l,b,xs,zs,rfl,rfl,hH,hB,hz,q⟩:=h
 cases rx
 obtain⟨u,rfl,ru⟩:=rv.one
 cases ru
 obtain⟨z,aD,n,r,hl,e⟩:=I.wA hH
 obtain⟨nK,r2,p2,_⟩:=I.tuple hB
 have hl2:=r2.length
 obtain⟨⟨cls,dd,data,sl⟩,ho,hc,n2,hd⟩:=id p2
 simp only at hc hd
 subst hc hd
 have iU:aD.toArray.size+nK.toArray.size<=sizeLine:=by rw[List.size_toArray,List.size_toArray];omega
 have hlong:¬(!aD.toArray.isEmpty&&Builtin.List.listTooLong (aD.toArray.size+nK.toArray.size))=true:=by
  rw[BS iU,Bool.and_false]
  exact Bool.false_ne_true
 refine call_meets F.slot_list_extend ⟨_,e,rfl⟩ F.entry_list_extend (F.args_list_extend_2 _ _)
  (AN l aD.toArray n b nK.toArray n2 dd sl hlong (by rw[List.size_toArray];omega) (by omega)) ⟨e,ho,?_⟩
 refine⟨.non,_,I.OF (kT:=aD++nK) hH e (by simp) (r.append r2) ?_,rfl,q⟩
 rw[List.length_append]
 omega
noncomputable def KL (X:Cx)(T id:String)(W:D->List D->aB->VK->Prop):Prop :=
 ∀(pins:List (Addr×Obj))(s:Shared)(σ:L2.St)(H:Hp)(st:aB)(d:D)(ds:List D)(v:V)(vs:List V)(u:Value)(us:List Value)(R:VK),Inv X pins σ H s->aR X.K st H->Rep X.K H d v->RelV v u->aI X.K H ds vs->aQ vs us->W d ds st R ->
 wpAny (model X.prog X.w) X.A (call (.builtin id) (u::us)) (EP X pins σ (QD X.K H st R)) X.xe s
inductive Dz (K:PySem.W.Frag)(W:D->List D->aB->VK->Prop)(v:V)(vs:List V)(H:Hp)(Q:L2.VK):Prop where
 |mk (d:D)(ds:List D)(st:aB)(R:VK)(r:Rep K H d v)(rs:aI K H ds vs)(ok:aR K st H)(q:W d ds st R)(hq:∀ v H',QD K H st R v H'->Q v H'):Dz K W v vs H Q
theorem KL.mt {T id:String}{W:D->List D->aB->VK->Prop}(h:KL X T id W):VN X id (Dz X.K W):=fun pins s σ H v vs u us Q I rv rvs ⟨d,ds,st,R,r,rs,ok,q,hq⟩ =>
 bA (h pins s σ H st d ds v vs u us R I ok r rv rs rvs q) fun u s' ⟨v,H',I',r',z⟩=>⟨v,H',I',r',hq _ _ z⟩
theorem Q2:KL X "list" "list.append" (jH .append):=by
 intro pins s σ H st d ds v vs u us R I ok r rv rs rvs q
 cases d<;>first|exact(show False from q).elim|skip
 match ds,q with
 |[d],q =>
 cases r.cF
 obtain⟨w,rfl,rd⟩:=rs.one
 obtain⟨xs,e,q⟩:=cT (st:=st) q
 obtain⟨ys,g1,g2⟩:=ok.lst e
 exact L2.rY pins s σ H _ _ u us _ I rv rvs ⟨_,ys,w,rfl,rfl,g1,by rw[fK,<-g2.length];exact q.1,.set ok e (g2.append (.cons rd .nil)) .non q.2⟩
 |[],q=>exact(show False from q).elim
 |_::_::_,q=>exact(show False from q).elim
theorem RC:KL X "list" "list.extend" (jH .extend):=by
 intro pins s σ H st d ds v vs u us R I ok r rv rs rvs q
 cases d<;>first|exact(show False from q).elim|skip
 match ds,q with
 |[d],q =>
 cases r.cF
 obtain⟨w,rfl,rd⟩:=rs.one
 obtain⟨xs,e,q⟩:=cT (st:=st) q
 obtain⟨ys,g1,g2⟩:=ok.lst e
 have q:yQ d st fun zs=>xs.length+zs.length<=aY/\R .non (put st _ (.lst (xs++zs))):=q
 cases d<;>first|exact(show False from q).elim|skip
 ·obtain⟨b,ws,rfl,f,g⟩:=rd.bO
  exact OY pins s σ H _ _ u us _ I rv rvs ⟨_,b,ys,ws,rfl,rfl,g1,f,by rw[fK,<-g2.length,<-g.length];exact q.1,.set ok e (g2.append g) .non q.2⟩
 ·cases rd.cF
  obtain⟨zs,e2,q⟩:=cT (st:=st) q
  obtain⟨ws,k1,k2⟩:=ok.lst e2
  exact L2.yN pins s σ H _ _ u us _ I rv rvs ⟨_,_,ys,ws,rfl,rfl,g1,k1,by rw[fK,<-g2.length,<-k2.length];exact q.1,.set ok e (g2.append k2) .non q.2⟩
 |[],q=>exact(show False from q).elim
 |_::_::_,q=>exact(show False from q).elim
theorem Dx:KL X "list" "list.pop" (jH .pop):=by
 intro pins s σ H st d ds v vs u us R I ok r rv rs rvs q
 cases d<;>first|exact(show False from q).elim|skip
 match ds,q with
 |[],q =>
 cases r.cF
 cases rs
 obtain⟨xs,e,q⟩:=cT (st:=st) q
 obtain⟨ys,g1,g2⟩:=ok.lst e
 obtain⟨d,e2,q⟩:=eD q
 obtain⟨w,k1,k2⟩:=g2.get e2
 exact L2.JL pins s σ H _ _ u us _ I rv rvs ⟨_,ys,w,rfl,rfl,g1,by rw[<-g2.length];exact k1,.set ok e g2.dropLast k2 q⟩
 |_::_,q=>exact(show False from q).elim
theorem P7 {K:PySem.W.Frag}{m:MT}{st:aB}{d:D}{v:V}(hm:m≠.index)(ok:aR K st H)(r:Rep K H d v)(h:yV m d st):PV K "list" v H:=by
 unfold yV at h
 split at h
 all_goals first|(exact h.elim;done)|(exact absurd rfl hm;done)|skip
 all_goals
 cases r.cF
 obtain⟨ds,e,_⟩:=cT h
 obtain⟨vs,g,_⟩:=ok.lst e
 exact Pk g
end
section
variable {X:Cx}{C:bH}{sub:Nat->Nat->Bool}{E:XK}{a b c e o:Expr}{x y z:Ex}{pos apos jZ:Pos}
theorem O9 {m:MT}{name:Str}{id:String}{es:List Expr}{xs:List Ex}(hmi:m≠.index)(slot:Slot "list" name id)(hty:typeOf (.builtin id)=pure (.type "method_descriptor"))(hm:KL X "list" id (jH m))(ho:PE X o (bW X.K (aF C sub E x)))(ha:PA X (e::es) (jJ X.K (bJ C sub E xs)))
 (jO:attributeBase o name X.env (eval o X.env)=eval o X.env)
 (tM:((backTo jZ (starEach (e::es) X.env)).all (fun x=>!x.1)&&(backToKw jZ (keywordEach [] X.env)).all (fun x=>x.1.isSome)&&decide ((e::es).length+([]:List Keyword).length+(if([]:List Keyword).isEmpty then 0 else 1)<30))=true)(jP:(apos.endLine==jZ.line)=true)
 (hs:starEach (e::es) X.env=(false,eval e X.env)::starEach es X.env)(rK:(backTo jZ (starEach es X.env)).any (·.1)=false):
 PE X (.Call (.Attribute o name apos) (e::es) [] jZ) (bW X.K (aF C sub E (.cI m x xs))) :=
 (Jp PySem.F.plainAttrs_list slot hty hm.mt ho ha jO tM jP hs rK).imp fun σ H Q ⟨σd,st,R,r,ok,q,hq⟩=>by
 refine⟨σd,st,_,r,ok,q,fun v H1 ⟨d,aC,s1,aL,r1,q1⟩=>⟨P7 hmi aL r1 q1.1,?_⟩⟩
 refine⟨σd,aC,_,r.step ok s1,aL,q1.2,fun vs H2 ⟨ds,aG,s2,bY,r2,q2⟩=>?_⟩
 exact⟨d,ds,aG,R,r1.step aL s2,r2,bY,q2,fun v H' z=>hq _ _ (.after (s1.trans s2) z)⟩
theorem WR {m:MT}{name:Str}{id:String}(hmi:m≠.index)(slot:Slot "list" name id)(hty:typeOf (.builtin id)=pure (.type "method_descriptor"))(hm:KL X "list" id (jH m))(ho:PE X o (bW X.K (aF C sub E x)))
 (jO:attributeBase o name X.env (eval o X.env)=eval o X.env)(jP:(apos.endLine==jZ.line)=true):
 PE X (.Call (.Attribute o name apos) [] [] jZ) (bW X.K (aF C sub E (.cI m x []))) :=
 (Dh PySem.F.plainAttrs_list slot hty hm.mt ho jO jP).imp fun σ H Q ⟨σd,st,R,r,ok,q,hq⟩=>by
 refine⟨σd,st,_,r,ok,q,fun v H1 ⟨d,aC,s1,aL,r1,q1⟩=>⟨P7 hmi aL r1 q1.1,?_⟩⟩
 exact⟨d,[],aC,R,r1,.nil,aL,q1.2,fun v H' z=>hq _ _ (.after s1 z)⟩
inductive fI (K:PySem.W.Frag)(C:bH)(f:Nat)(vs:List V)(H:Hp)(Q:L2.VK)(E:L2.XK):Prop where
 |mk (ds:List D)(st:aB)(R:VK)(r:aI K H ds vs)(ok:aR K st H)(q:C f ds st R (fun _ _=>False))(hq:∀ v H',QD K H st R v H'->Q v H'):fI K C f vs H Q E
theorem Am {CX:wX}{k:Nat}{f:Addr}{fid:Nat}{fd:FuncData}{ps:List Str}{n:Str}{p:Pos}{es:List Expr}{xs:List Ex}(F:eV X.prog X.w X.K X.mg X.base CX k f fd ps (fI X.K C fid))(hr:dN k X.A)(hg:Gl X n)(hm:X.mg n=some (.ref f))
 (hk:PySem.W.keepIn X.K (.ref f)=true)(hb:Binds X.K fd ps [])(hx:rA CX X E0)(ha:PA X (e::es) (jJ X.K (bJ C sub (fun _ _=>False) xs)))
 (hdb:(n==("__debug__" : Str))=false)(he:starEach (e::es) X.env=(false,eval e X.env)::starEach es X.env)(eJ:(backTo pos (starEach es X.env)).any (·.1)=false):
 PE X (.Call (.Name n p) (e::es) [] pos) (bW X.K (aF C sub (fun _ _=>False) (.call fid xs))) :=
 (XW F hr hg hm hk hb .nil hx ha hdb he eJ).imp fun σ H Q ⟨σd,st,R,r,ok,q,hq⟩=>by
 refine⟨σd,st,_,r,ok,q,fun vs H1 ⟨ds,aC,s1,aL,r1,q1⟩=>?_⟩
 show fI X.K C fid (vs++[]) H1 Q E0
 rw[List.append_nil]
 exact⟨ds,aC,R,r1,aL,q1,fun v H' z=>hq _ _ (.after s1 z)⟩
end
end L3
end
section
namespace L3
open PySem PySem.Spec PyProof.Rows L2
noncomputable abbrev EF:XK:=fun _ _=>False
structure CP (K:PySem.W.Frag)(H:Hp)(st:aB)(P:gB)(D:Ends):Prop where
 nx:∀ σ' H' dR aA,dJ K H' dR σ'->Step H st H' aA->aR K aA H'->P.nx dR aA->D.nx σ' H'
 rt:∀ v H',QD K H st P.rt v H'->D.rt v H'
 bk:∀ σ' H' dR aA,dJ K H' dR σ'->Step H st H' aA->aR K aA H'->P.bk dR aA->D.bk σ' H'
 ct:∀ σ' H' dR aA,dJ K H' dR σ'->Step H st H' aA->aR K aA H'->P.ct dR aA->D.ct σ' H'
 ex:∀ c σd st,¬P.ex c σd st
theorem CP.after {K:PySem.W.Frag}{H H1:Hp}{st aC:aB}{P:gB}{D:Ends}(h:CP K H st P D)(s:Step H st H1 aC):CP K H1 aC P D :=
 ⟨fun σ' H' dR aA r t ok q=>h.nx σ' H' dR aA r (s.trans t) ok q,fun v H' z=>h.rt v H' (.after s z),fun σ' H' dR aA r t ok q=>h.bk σ' H' dR aA r (s.trans t) ok q,fun σ' H' dR aA r t ok q=>h.ct σ' H' dR aA r (s.trans t) ok q,h.ex⟩
inductive iA (K:PySem.W.Frag)(ts:gB->St->aB->Prop)(D:Ends)(σ:L2.St)(H:Hp):Prop where
 |mk (σd:St)(st:aB)(P:gB)(r:dJ K H σd σ)(ok:aR K st H)(q:ts P σd st)(h:CP K H st P D):iA K ts D σ H
section
variable {X:Cx}{C:bH}{sub:Nat->Nat->Bool}{a b c e:Expr}{x y z:Ex}{pos:Pos}{s:Stmt}{ss:List Stmt}{xs:List Sx}{sx:Sx}
theorem Jo:kQ X [] (iA X.K (cM C sub [])) :=
 XG.imp fun D σ H ⟨σd,st,P,r,ok,q,h⟩=>by
 exact h.nx _ _ _ _ r .refl ok q
theorem Cf (h1:PS X s (iA X.K (wpS C sub sx)))(h2:kQ X ss (iA X.K (cM C sub xs))):kQ X (s::ss) (iA X.K (cM C sub (sx::xs))) :=
 (TN h1 h2).imp fun D σ H ⟨σd,st,P,r,ok,q,h⟩=>by
 exact⟨σd,st,_,r,ok,q,⟨fun σ' H' dR aA r' s' fY q'=>⟨dR,aA,P,r',fY,q',h.after s'⟩,h.rt,h.bk,h.ct,h.ex⟩⟩
theorem rJ {P:gB}{σd:St}{st:aB}{x:Ex}{Q:VK}(hC:bM C C)(he:∀ c σd st,¬P.ex c σd st)(q:aF C sub (fun c aA=>P.ex c σd aA) x σd st Q):aF C sub EF x σd st Q :=
 aT hC (fun c st z=>he _ _ _ z) x (fun _ _ z=>z) q
theorem Lb {P:gB}{σd:St}{st:aB}{xs:List Ex}{Q:List D->aB->Prop}(hC:bM C C)(he:∀ c σd st,¬P.ex c σd st)(q:bJ C sub (fun c aA=>P.ex c σd aA) xs σd st Q):bJ C sub EF xs σd st Q :=
 cU hC (fun c st z=>he _ _ _ z) xs (fun _ _ z=>z) q
theorem Hs (hC:bM C C)(h:PE X e (bW X.K (aF C sub EF x))):PS X (.Return (some e) pos) (iA X.K (wpS C sub (.ret x))) :=
 (Bn h).imp fun D σ H ⟨σd,st,P,r,ok,q,h⟩=>by
 exact⟨σd,st,_,r,ok,rJ hC h.ex q,h.rt⟩
theorem Fd:PS X (.Return none pos) (iA X.K (wpS C sub (.ret (.c .non)))) :=
 Y1.imp fun D σ H ⟨σd,st,P,r,ok,q,h⟩=>by
 exact h.rt _ _ (.here ok .non q)
theorem My (hC:bM C C)(h:PE X e (bW X.K (aF C sub EF x)))(hs:swapsWith e none pos.line X.env=pure false):PS X (.Expr e pos) (iA X.K (wpS C sub (.ex x))) :=
 (XJ h hs).imp fun D σ H ⟨σd,st,P,r,ok,q,h⟩=>by
 exact⟨σd,st,_,r,ok,rJ hC h.ex q,fun v H' ⟨d,aA,s',fY,_,q'⟩=>h.nx _ _ _ _ (r.step ok s') s' fY q'⟩
theorem Mr {as bs:List Stmt}{ax bx:List Sx}(hC:bM C C)(hc:PT X c (jD X.K (aF C sub EF x)))(ha:kQ X as (iA X.K (cM C sub ax)))(hb:kQ X bs (iA X.K (cM C sub bx))):PS X (.If c as bs pos) (iA X.K (wpS C sub (.iff x ax bx))) :=
 (Gj hc ha hb).imp fun D σ H ⟨σd,st,P,r,ok,q,h⟩=>by
 refine⟨σd,st,fun k aA=>if k=true then cM C sub ax P σd aA else cM C sub bx P σd aA,r,ok,rJ hC h.ex q,fun k H' ⟨aA,s',fY,q'⟩=>?_⟩
 cases k with
 |true=>exact⟨σd,aA,P,r.step ok s',fY,q',h.after s'⟩
 |false=>exact⟨σd,aA,P,r.step ok s',fY,q',h.after s'⟩
theorem Au {cl:Nat}{es:List Ex}(hC:bM C C)(hn:∀ σd st,¬bJ C sub EF es σd st fun _ _=>False):PS X s (iA X.K (wpS C sub (.rais cl es))) :=
 TK.imp fun D σ H ⟨σd,st,P,r,ok,q,h⟩=>by
 exact hn σd st (cU hC (fun c st z=>(h.ex _ _ _ z).elim) es (fun _ _ z=>(h.ex _ _ _ z).elim) q)
inductive IB (K:PySem.W.Frag)(g:D->St->aB->(St->aB->Prop)->Prop)(v:V)(σ:L2.St)(H:Hp)(Q:L2.St->Hp->Prop):Prop where
 |mk (d:D)(σd:St)(st:aB)(M:St->aB->Prop)(r:Rep K H d v)(sr:dJ K H σd σ)(ok:aR K st H)(q:g d σd st M)(hq:∀ σ' H' dR aA,dJ K H' dR σ'->Step H st H' aA->aR K aA H'->M dR aA->Q σ' H'):IB K g v σ H Q
theorem _root_.L2.PG.imp {X:Cx}{e:Expr}{t t':TG}(i:∀ v σ H Q,t' v σ H Q->t v σ H Q)(h:PG X e t):PG X e t':=fun pins s σ H v u Q I r q=>h pins s σ H v u Q I r (i v σ H Q q)
theorem OP {E:XK}{i:Nat}(h:PG X e (C6 i)):PG X e (IB X.K (mO C sub E (.nm i))) :=
 h.imp fun v σ H Q ⟨d,σd,st,M,rd,r,ok,q,hq⟩=>by
 exact hq _ _ _ _ (r.set i rd) .refl ok q
theorem M8 {tg:Expr}{t:Tg}(hC:bM C C)(he:PE X e (bW X.K (aF C sub EF x)))(hg:PG X tg (IB X.K (mO C sub EF t)))
 (hs:swapsWithSole [tg] e pos.line X.env=pure false)(hw:swappedStores [tg] e X.env=pure none)(h1:(assignEach [tg] X.env).map (·.2)=[assign tg X.env]):PS X (.Assign [tg] e pos) (iA X.K (wpS C sub (.asg t x))) :=
 (Ap he hg hs hw h1).imp fun D σ H ⟨σd,st,P,r,ok,q,h⟩=>by
 refine⟨σd,st,_,r,ok,rJ hC h.ex q,fun v H' ⟨d,aA,s',fY,rd,q'⟩=>?_⟩
 refine⟨d,σd,aA,P.nx,rd,r.step ok s',fY,wD hC (fun c st z=>h.ex _ _ _ z) (fun _ _ z=>z) t q',fun σ2 H2 sY aG r2 s2 bY q2=>?_⟩
 exact h.nx _ _ _ _ r2 (s'.trans s2) bY q2
theorem YW {bs:List Stmt}{bx:List Sx}(hC:bM C C)(hp:PassesOwn (model X.prog X.w) X.A X.env X.xe)(hc:PT X c (jD X.K (aF C sub EF x)))(hb:kQ X bs (iA X.K (cM C sub bx))):PS X (.While c bs [] pos) (iA X.K (wpS C sub (.whl x bx))) :=
 (UX hp hc hb).imp fun D σ H ⟨σd,st,P,r,ok,q,h⟩=>by
 obtain⟨n,q⟩:=q
 refine⟨fun m σ' H'=>∃ dR aA,dJ X.K H' dR σ'/\Step H st H' aA/\aR X.K aA H'/\oU _ m dR aA,⟨n,σd,st,r,.refl,ok,q⟩,fun m σ1 H1 ⟨σd1,aC,r1,s1,aL,q1⟩=>?_⟩
 cases m with
 |zero=>exact q1.elim
 |succ m =>
  simp only[oU]at q1
  refine⟨σd1,aC,fun k aA=>if k=true then cM C sub bx _ σd1 aA else P.nx σd1 aA,r1,aL,rJ hC h.ex q1,fun k H2 ⟨aG,s2,bY,q2⟩=>?_⟩
  cases k with
  |false=>exact h.nx _ _ _ _ (r1.step aL s2) (s1.trans s2) bY q2
  |true =>
  refine⟨fun σ' H'=>∃ dR aA,dJ X.K H' dR σ'/\Step H st H' aA/\aR X.K aA H'/\oU _ m dR aA,fun σ' H' z=>⟨m,Nat.lt_succ_self _,z⟩,?_⟩
  refine⟨σd1,aG,_,r1.step aL s2,bY,q2,⟨fun σ' H' dR aA r' s' fY q'=>⟨dR,aA,r',(s1.trans s2).trans s',fY,q'⟩,fun v H' z=>h.rt _ _ (.after (s1.trans s2) z),fun σ' H' dR aA r' s' fY q'=>h.nx _ _ _ _ r' ((s1.trans s2).trans s') fY q',
   fun σ' H' dR aA r' s' fY q'=>⟨dR,aA,r',(s1.trans s2).trans s',fY,q'⟩,h.ex⟩⟩
end
end L3
end
section
namespace L3
open PySem PySem.Spec PyProof.Rows L2
noncomputable def V6 (x:Str):It:=⟨fun i _=>i<x.cps.size,fun i H v H'=>H'=H/\∃ c,x.cps[i]? = some c/\v=.str ⟨#[c]⟩,fun i _=>x.cps.size<=i⟩
theorem HC {P:Program}{w:World}{K:PySem.W.Frag}{tg:Expr}(it:Addr)(x:Str)(t:Tok)(ty:String)(hty:["enumerate","zip","dict_itemiterator","dict_reverseitemiterator","odict_iterator","itertools.zip_longest","itertools.pairwise"].contains ty=false)
  (W:∀ A:Around,A.handled=none->Walks P w A it [it] [it] x.cps.size (SignAt x) (fun i h=>h.IsStrIter it ty x t i))
  (hd:∀(A:Around)(i:Nat)(s:Shared)(Q:Option Value->Shared->Prop)(E:Value->Shared->Prop),A.handled=none->s.heap.IsStrIter it ty x t i->x.cps.size<=i->(∀ h',(∀ b o,b≠it->s.heap.get? b=some o->h'.get? b=some o)->Q none { s with heap:=h' })->wpAny (model P w) A (pyNext (.ref it)) Q E s)
  (hself:∀(A:Around)(i:Nat)(s:Shared)(Q:Value->Shared->Prop)(E:Value->Shared->Prop),s.heap.IsStrIter it ty x t i->Q (.ref it) s->wpAny (model P w) A (pyIter (.ref it)) Q E s):Turn P w K tg (V6 x) [it] it (fun i h=>h.IsStrIter it ty x t i) where
 mem:=by simp
 obj:=fun i h st b hb=>by
  have e:b=it:=by simpa using hb
  subst e
  obtain⟨o,e,c,d⟩:=st
  exact⟨o,e,fun v z=>by rw[d]at z;cases z⟩
 keep:=fun i h h' st k=>let⟨o,e,r⟩:=st;⟨o,k it (by simp) o e,r⟩
 item:=by
  intro X hP hw hK hc i pins s σ H E I hf st hg
  subst hP hw hK
  obtain⟨f0,f1,f2,f3,f4,f5⟩:=hf it (by simp)
  refine(W X.A (I.ok.hd hc)).item i s _ _ hg st fun v h' tk hv aA kk=>?_
  obtain⟨c,u,hc',rfl⟩:=hv
  have I1:Inv X pins σ H { s with heap:=h',toks:=tk }:=I.turned (fun b o hb e=>kk b o (by simpa using hb) e) f0 f1 f3 f4 f5
  obtain⟨o,e,c1,d⟩:=id aA
  exact⟨_,rfl,G6 (s:={ s with heap:=h',toks:=tk }) e c1 d hty ⟨.str ⟨#[c]⟩,H,I1,⟨u,rfl⟩,⟨rfl,c,hc',rfl⟩,aA,fun b hb=>(hf b hb).1⟩⟩
 done:=by
  intro X hP hw hK hc i pins s σ H E I hf st hg
  subst hP hw hK
  obtain⟨f0,f1,f2,f3,f4,f5⟩:=hf it (by simp)
  exact hd X.A i s _ _ (I.ok.hd hc) st hg fun h' eb=>⟨rfl,I.turned (t':=s.toks) (fun b o hb e=>eb b o hb e) f0 f1 f3 f4 f5⟩
 self:=fun A i s Q E st h=>hself A i s Q E st h
structure xV (K:PySem.W.Frag)(J:It)(as:List Nat)(xs:List D)(H1:Hp)(aC:aB):Prop where
 go:∀ i H st d,Step H1 aC H st->aR K st H->same as aC st->xs[i]? = some d->J.go i H
 yld:∀ i H st d x H',Step H1 aC H st->aR K st H->same as aC st->xs[i]? = some d->J.yld i H x H'->Step H st H' st/\aR K st H'/\Rep K H' d x
 stop:∀ i H st,Step H1 aC H st->aR K st H->same as aC st->xs.length<=i->J.stop i H
inductive QJ (K:PySem.W.Frag)(H:Hp)(st:aB)(M:List Nat->List D->aB->Prop)(J:It)(H1:Hp):Prop where
 |mk (as:List Nat)(xs:List D)(aC:aB)(s:Step H st H1 aC)(ok:aR K aC H1)(j:xV K J as xs H1 aC)(q:M as xs aC):QJ K H st M J H1
inductive tD (K:PySem.W.Frag)(te:St->aB->(List Nat->List D->aB->Prop)->Prop)(σ:L2.St)(H:Hp)(R:It->Hp->Prop):Prop where
 |mk (σd:St)(st:aB)(M:List Nat->List D->aB->Prop)(r:dJ K H σd σ)(ok:aR K st H)(q:te σd st M)(hq:∀ J H1,QJ K H st M J H1->R J H1):tD K te σ H R
section
variable {K:PySem.W.Frag}{H1:Hp}{aC:aB}{a:Addr}{xs:List D}{vs:List V}
theorem W9 (aL:aR K aC H1)(f:dZ K H1 a vs)(g:aI K H1 xs vs):xV K (ZR K a) [] xs H1 aC where
 go:=fun i H st d s ok _ e=>let⟨v,e1,_⟩:=g.get e;⟨vs,v,vK aL s f,e1⟩
 yld:=fun i H st d x H' s ok _ e ⟨e',h⟩=>by
  subst e'
  obtain⟨v,e1,e2⟩:=g.get e
  have:=h vs (vK aL s f)
  rw[e1]at this;cases this
  exact⟨.refl,ok,e2.step aL s⟩
 stop:=fun i H st s ok _ l=>⟨vs,vK aL s f,by rw[<-g.length];exact l⟩
theorem U5 (aL:aR K aC H1)(f:qQ K H1 a vs)(g:aI K H1 xs vs):xV K (VJ K a) [] xs H1 aC where
 go:=fun i H st d s ok _ e=>let⟨v,e1,_⟩:=g.get e;⟨vs,v,(sQ aL s f).sq,e1⟩
 yld:=fun i H st d x H' s ok _ e ⟨e',h⟩=>by
  subst e'
  obtain⟨v,e1,e2⟩:=g.get e
  have:=h vs (sQ aL s f).sq
  rw[e1]at this;cases this
  exact⟨.refl,ok,e2.step aL s⟩
 stop:=fun i H st s ok _ l=>⟨vs,(sQ aL s f).sq,by rw[<-g.length];exact l⟩
theorem X4 (aL:aR K aC H1)(e0:aC a=some (.lst xs)):xV K (VJ K a) [a] xs H1 aC where
 go:=fun i H st d s ok sm e=>by
  have e':st a=some (.lst xs):=(sm a (by simp)).trans e0
  obtain⟨us,g1,g2⟩:=ok.lst e'
  obtain⟨v,e1,_⟩:=g2.get e
  exact⟨us,v,cG.of g1,e1⟩
 yld:=fun i H st d x H' s ok sm e ⟨e',h⟩=>by
  subst e'
  have e':st a=some (.lst xs):=(sm a (by simp)).trans e0
  obtain⟨us,g1,g2⟩:=ok.lst e'
  obtain⟨v,e1,e2⟩:=g2.get e
  have:=h us (cG.of g1)
  rw[e1]at this;cases this
  exact⟨.refl,ok,e2⟩
 stop:=fun i H st s ok sm l=>by
  have e':st a=some (.lst xs):=(sm a (by simp)).trans e0
  obtain⟨us,g1,g2⟩:=ok.lst e'
  exact⟨us,cG.of g1,by rw[<-g2.length];exact l⟩
theorem GB (lo:Int)(n:Nat):xV K (RV lo n) [] (gE lo n) H1 aC where
 go:=fun i H st d s ok _ e=>by
  have:=(List.getElem?_eq_some_iff.mp e).1
  show i<n
  simpa [gE]using this
 yld:=fun i H st d x H' s ok _ e ⟨e',h⟩=>by
  subst e' h
  simp only[gE,List.getElem?_map,Option.map_eq_some_iff]at e
  obtain⟨k,e1,rfl⟩:=e
  have:k=i:=by
   rw[List.getElem?_eq_some_iff]at e1
   obtain⟨_,e2⟩:=e1
   simp at e2
   exact e2.symm
  subst this
  exact⟨.refl,ok,.int _⟩
 stop:=fun i H st s ok _ l=>by show n<=i;simpa [gE]using l
theorem MN (x:List Nat):xV K (V6 ⟨x.toArray⟩) [] (x.map fun c=>.str [c]) H1 aC where
 go:=fun i H st d s ok _ e=>by
  have:=(List.getElem?_eq_some_iff.mp e).1
  show i<(⟨x.toArray⟩:Str).cps.size
  simpa using this
 yld:=fun i H st d v H' s ok _ e ⟨e',c,ec,ev⟩=>by
  subst e' ev
  simp only[List.getElem?_map,Option.map_eq_some_iff]at e
  obtain⟨c',e1,rfl⟩:=e
  have:c=c':=by
   have ec:x.toArray[i]? = some c:=ec
   simp at ec
   rw[ec]at e1;exact Option.some.inj e1
  subst this
  exact⟨.refl,ok,.str [c]⟩
 stop:=fun i H st s ok _ l=>by
  show(⟨x.toArray⟩:Str).cps.size<=i
  simpa using l
end
section
variable {X:Cx}{C:bH}{sub:Nat->Nat->Bool}{a b c e tg:Expr}{x y z:Ex}{pos:Pos}
theorem _root_.L2.PI.imp {X:Cx}{tg e:Expr}{t t':TI}(i:∀ σ H Q,t' σ H Q->t σ H Q)(h:PI X tg e t):PI X tg e t':=fun pins s σ H Q I q=>h pins s σ H Q I (i σ H Q q)
theorem Fs {E:XK}(h:PE X e (bW X.K (aF C sub E x))):PI X tg e (tD X.K fun σ st M=>bJ C sub E [x] σ st fun ds aC=>fA none ds aC fun as xs=>M as xs aC):=by
 intro pins s σ H R I ⟨σd,st,M,r,ok,q,hq⟩
 refine bA (h pins s σ H _ I ⟨σd,st,_,r,ok,q,fun v H' z=>z⟩) fun u s1 ⟨v,H1,I1,rv,d,aC,cR,aL,r1,q1⟩=>?_
 have fresh:∀{b:Addr},b∈[s1.heap.objs.size]->lD X pins H1 b:=fun{b} hb=>by
  have e:b=s1.heap.objs.size:=by simpa using hb
  subst e
  exact I1.DT (Nat.le_refl _) (I1.cB.fresh (Nat.le_refl _))
 have tup:∀(a:Addr)(vs:List V)(as:List Nat)(xs:List D),v=.ref a->dZ X.K H1 a vs->xV X.K (ZR X.K a) as xs H1 aC->M as xs aC->wpAny (model X.prog X.w) X.A (pyIter u) (VR X pins σ tg R) X.xe s1:=by
  intro a vs as xs e f j q
  subst e
  cases rv
  obtain⟨aD,rr,p,hz⟩:=I1.tuple f
  exact wpAny_pyIter_tuple (show s1.heap.IsTuple a aD.toArray from p) ⟨s1.heap.objs.size,[s1.heap.objs.size],_,_,H1,rfl,I1.kept (t':=s1.toks) fun b o e=>Heap.get?_push_of_some _ e,NV a _,⟨_,Heap.get?_push_size _ rfl,rfl,rfl⟩,fun b hb=>fresh hb,hq _ _ ⟨as,xs,aC,cR,aL,j,q⟩⟩
 have lst:∀(a:Addr)(vs:List V)(as:List Nat)(xs:List D),v=.ref a->cG X.K H1 a vs->xV X.K (VJ X.K a) as xs H1 aC->M as xs aC->wpAny (model X.prog X.w) X.A (pyIter u) (VR X pins σ tg R) X.xe s1:=by
  intro a vs as xs e f j q
  subst e
  cases rv
  obtain⟨aD,rr,p,hz⟩:=I1.list f
  exact wpAny_pyIter_list p.isList ⟨s1.heap.objs.size,[s1.heap.objs.size],_,_,H1,rfl,I1.kept (t':=s1.toks) fun b o e=>Heap.get?_push_of_some _ e,RK a _,⟨_,Heap.get?_push_size _ rfl,rfl,rfl⟩,fun b hb=>fresh hb,hq _ _ ⟨as,xs,aC,cR,aL,j,q⟩⟩
 have q1:oH d aC fun as xs=>M as xs aC:=q1
 cases d with
 |tup ds =>
  obtain⟨a,vs,e,f,g⟩:=r1.bO
  exact tup a vs _ _ e f (W9 aL f g) q1
 |str z =>
  have q1:z.length<=aY/\M [] (z.map fun c=>.str [c]) aC:=q1
  cases r1.str_inv
  obtain⟨t,rfl⟩:=rv
  cases ha:(⟨z.toArray⟩:Str).cps.all (·< 128)
  ·exact wpAny_pyIter_wide ha ⟨s1.heap.objs.size,[s1.heap.objs.size],_,V6 ⟨z.toArray⟩,H1,rfl,I1.kept (t':=s1.toks) fun b o e=>Heap.get?_push_of_some _ e,
   HC s1.heap.objs.size ⟨z.toArray⟩ t "str_iterator" (by decide) (fun A hA=>Walks.strWide hA _ _ t) (fun A i s Q E hA hi hn hQ=>wpAny_pyNext_wide_end hA hi (by simpa using hn) fun h' he=>hQ h' he) (fun A i s Q E hi hQ=>wpAny_pyIter_striter_wide hi hQ),
   ⟨_,Heap.get?_push_size _ rfl,rfl,rfl⟩,fun b hb=>fresh hb,hq _ _ ⟨_,_,aC,cR,aL,MN z,q1.2⟩⟩
  ·exact wpAny_pyIter_ascii ha ⟨s1.heap.objs.size,[s1.heap.objs.size],_,V6 ⟨z.toArray⟩,H1,rfl,I1.kept (t':=s1.toks) fun b o e=>Heap.get?_push_of_some _ e,
   HC s1.heap.objs.size ⟨z.toArray⟩ t "str_ascii_iterator" (by decide) (fun A hA=>Walks.strAscii hA _ _ t) (fun A i s Q E hA hi hn hQ=>wpAny_pyNext_ascii_end hA hi (by simpa using hn) fun h' he=>hQ h' he) (fun A i s Q E hi hQ=>wpAny_pyIter_striter_ascii hi hQ),
   ⟨_,Heap.get?_push_size _ rfl,rfl,rfl⟩,fun b hb=>fresh hb,hq _ _ ⟨_,_,aC,cR,aL,MN z,q1.2⟩⟩
 |ref a =>
  cases r1.cF
  obtain⟨ds,e,q1⟩:=cT (st:=aC) q1
  obtain⟨vs,g1,g2⟩:=aL.lst e
  exact lst _ vs _ _ rfl (cG.of g1) (X4 aL e) q1
 |bK ds =>
  obtain⟨a,vs,e,f,g⟩:=r1.kN
  exact lst a vs _ _ e f.sq (U5 aL f g) q1
 |_=>exact(show False from q1).elim
theorem ZC {E:XK}{p:Pos}(hC:bM C C)(hg:Gl X "range")(hm:X.mg "range" = none)(ha:PA X [a] (jJ X.K (bJ C sub E [x])))(hs:starEach [a] X.env=[(false,eval a X.env)]):
 PI X tg (.Call (.Name "range" p) [a] [] pos) (tD X.K fun σ st M=>bJ C sub E [x] σ st fun ds aC=>fA (some .range) ds aC fun as xs=>M as xs aC) :=
 (QR hg hm ha hs).imp fun σ H R ⟨σd,st,M,r,ok,q,hq⟩=>by
 refine⟨σd,st,_,r,ok,lR [x] hC q,fun vs H1 ⟨ds,aC,s1,aL,r1,l1,q1⟩=>?_⟩
 match ds,l1,q1 with
 |[d],_,q1 =>
  obtain⟨v,rfl,rd⟩:=r1.one
  have q1:fA (some .range) [d] aC fun as xs=>M as xs aC:=q1
  cases d with
  |int j =>
  cases rd.int_inv
  exact⟨j,rfl,q1.1.1,q1.1.2,hq _ _ ⟨_,_,aC,s1,aL,GB 0 _,q1.2⟩⟩
  |_=>exact(show False from q1).elim
theorem XU {E:XK}{p:Pos}(hC:bM C C)(hg:Gl X "range")(hm:X.mg "range" = none)(ha:PA X [a,b] (jJ X.K (bJ C sub E [x,y])))(hs:starEach [a,b] X.env=[(false,eval a X.env),(false,eval b X.env)])(hs2:starEach [b] X.env=[(false,eval b X.env)]):
 PI X tg (.Call (.Name "range" p) [a,b] [] pos) (tD X.K fun σ st M=>bJ C sub E [x,y] σ st fun ds aC=>fA (some .range) ds aC fun as xs=>M as xs aC) :=
 (R8 hg hm ha hs hs2).imp fun σ H R ⟨σd,st,M,r,ok,q,hq⟩=>by
 refine⟨σd,st,_,r,ok,lR [x,y] hC q,fun vs H1 ⟨ds,aC,s1,aL,r1,l1,q1⟩=>?_⟩
 match ds,l1,q1 with
 |[d,d'],_,q1 =>
  have q1:fA (some .range) [d,d'] aC fun as xs=>M as xs aC:=q1
  cases r1 with|cons r1 r2=>cases r2 with|cons r2 r3 =>
  cases r3
  cases d<;>first|exact(show False from q1).elim|skip
  cases d'<;>first|exact(show False from q1).elim|skip
  cases r1.int_inv;cases r2.int_inv
  exact⟨_,_,rfl,⟨q1.1.1,q1.1.2,q1.2.1.1,q1.2.1.2⟩,hq _ _ ⟨_,_,aC,s1,aL,GB _ _,q1.2.2⟩⟩
theorem NT {k:Option IK}{aD:List Ex}{iter:Expr}{t:Tg}{bs:List Stmt}{bx:List Sx}(hC:bM C C)(hp:PassesOwn (model X.prog X.w) X.A X.env X.xe)(hc:X.calm=true)
 (hi:PI X tg iter (tD X.K fun σ st M=>bJ C sub EF aD σ st fun ds aC=>fA k ds aC fun as xs=>M as xs aC))(hg:PG X tg (IB X.K (mO C sub EF t)))(hb:kQ X bs (iA X.K (cM C sub bx)))
 (hs:∀ x,foldedSetIterable iter X.env x=pure x):PS X (.For tg iter bs [] pos) (iA X.K (wpS C sub (.iB t k aD bx))) :=
 (Ce hp hc hi hg hb hs).imp fun DD σ H ⟨σd,st,P,r,ok,q,h⟩=>by
 refine⟨σd,st,_,r,ok,Lb hC h.ex q,fun J H1 ⟨as,xs,aC,s1,aL,j,q1⟩=>?_⟩
 refine⟨fun i m σ' H'=>∃ dR aA,dJ X.K H' dR σ'/\Step H1 aC H' aA/\aR X.K aA H'/\m+i=xs.length/\yO (same as aC) (fun(x:L3.D) next σ st=>mO C sub (fun c aA=>P.ex c σ aA) t x σ st fun σ' aA=>cM C sub bx { P with nx:=next,ct:=next,bk:=P.nx } σ' aA) P.nx (xs.drop i) dR aA,⟨xs.length,σd,aC,r.step ok s1,.refl,aL,by omega,by simpa using q1⟩,fun i m σ2 H2 ⟨sY,aG,r2,s2,bY,e2,q2⟩=>?_⟩
 by_cases hi':i<xs.length
 ·have ed:xs.drop i=xs[i]::xs.drop (i+1):=List.drop_eq_getElem_cons hi'
  rw[ed]at q2
  obtain⟨g2,q2⟩:=q2
  refine .inr ⟨j.go i H2 aG xs[i] s2 bY g2 (List.getElem?_eq_getElem hi'),fun σ' H'=>∃ dR aA,dJ X.K H' dR σ'/\Step H1 aC H' aA/\aR X.K aA H'/\yO (same as aC) (fun(x:L3.D) next σ st=>mO C sub (fun c aA=>P.ex c σ aA) t x σ st fun σ' aA=>cM C sub bx { P with nx:=next,ct:=next,bk:=P.nx } σ' aA) P.nx (xs.drop (i+1)) dR aA,
  fun σ' H' ⟨dR,aA,r',s',fY,q'⟩=>⟨m-1,by omega,dR,aA,r',s',fY,by omega,q'⟩,fun v H3 y3=>?_⟩
  obtain⟨s3,uS,r3⟩:=j.yld i H2 aG xs[i] v H3 s2 bY g2 (List.getElem?_eq_getElem hi') y3
  refine⟨xs[i],sY,aG,_,r3,r2.step bY s3,uS,wD hC (fun c st z=>h.ex _ _ _ z) (fun _ _ z=>z) t q2,fun σ4 H4 σd4 cC r4 s4 WG q4=>?_⟩
  refine⟨σd4,cC,_,r4,WG,q4,⟨fun σ' H' dR aA r' s' fY q'=>⟨dR,aA,r',((s2.trans s3).trans s4).trans s',fY,q'⟩,fun v H' z=>h.rt _ _ (.after (((s1.trans s2).trans s3).trans s4) z),
  fun σ' H' dR aA r' s' fY q'=>h.nx _ _ _ _ r' ((((s1.trans s2).trans s3).trans s4).trans s') fY q',fun σ' H' dR aA r' s' fY q'=>⟨dR,aA,r',((s2.trans s3).trans s4).trans s',fY,q'⟩,h.ex⟩⟩
 ·have ed:xs.drop i=[]:=List.drop_eq_nil_of_le (by omega)
  rw[ed]at q2
  exact .inl ⟨j.stop i H2 aG s2 bY q2.1 (by omega),h.nx _ _ _ _ r2 (s1.trans s2) bY q2.2⟩
end
end L3
end
section
namespace L3
open PySem PySem.Spec PyProof.Rows L2
section
variable {X:Cx}{C:bH}{sub:Nat->Nat->Bool}{a b c e o i tg:Expr}{x y z:Ex}{pos:Pos}
noncomputable def kW (is:List Nat)(vs:List V)(σ:L2.St):L2.St:=(is.zip vs).foldl (fun σ p=>σ.set p.1 (some p.2)) σ
noncomputable def uH (is:List Nat):E2:=fun vs σ H Q=>vs.length=is.length/\Q (kW is vs σ) H
theorem Ge:B7 X [] (uH []):=fun pins s σ H vs us Q I r h=>by
 have:vs=[]:=List.length_eq_zero_iff.mp h.1
 subst this
 exact X5 pins s σ H [] us Q I r ⟨rfl,h.2⟩
theorem XN {es:List Expr}{i:Nat}{is:List Nat}(h1:PG X e (C6 i))(h2:B7 X es (uH is))(hs:(assignEach (e::es) X.env).map (·.2)=assign e X.env::(assignEach es X.env).map (·.2)):B7 X (e::es) (uH (i::is)):=fun pins s σ H vs us Q I r h=>by
 obtain⟨hl,h⟩:=h
 cases vs with
 |nil=>simp at hl
 |cons v vs=>exact SH h1 h2 hs pins s σ H (v::vs) us Q I r ⟨v,vs,rfl,by simpa using hl,h⟩
theorem dJ.cZ {K:PySem.W.Frag}{H:Hp}:∀(is:List Nat){ds:List D}{vs:List V}{σd:St}{σ:L2.St},dJ K H σd σ->aI K H ds vs->dJ K H ((is.zip ds).foldl (fun σ p=>σ.set p.1 (some p.2)) σd) (kW is vs σ)
 |[],_,_,_,_,r,_=>by simpa [kW]using r
 |_::_,_,_,_,_,r,.nil=>by simpa [kW]using r
 |i::is,_,_,_,_,r,.cons h t=>by
  have:=dJ.cZ is (r.set i h) t
  simpa [kW]using this
theorem Oi {E:XK}{es:List Expr}{k:Nat}{is:List Nat}(hc:X.calm=true)(h:B7 X es (uH is))(hn:(assignEach es X.env).length=is.length)(fM:(assignEach es X.env).findIdx? (·.1)=none):
 PG X (.Tuple es k pos) (IB X.K (mO C sub E (.tp is))) :=
 (PY hc h hn fM).imp fun v σ H Q ⟨d,σd,st,M,rd,r,ok,q,hq⟩=>by
 cases d with
 |tup ds0 =>
  have q:ds0.length=is.length/\M _ st:=q
  obtain⟨a,vs,rfl,f,g⟩:=rd.bO
  exact⟨a,vs,rfl,f,by rw[<-g.length];exact q.1,by rw[<-g.length];exact q.1,hq _ _ _ _ (r.cZ is g) .refl ok q.2⟩
 |_=>exact(show False by cases is<;>exact q).elim
theorem Nr {E:XK}(ho:PE X o (bW X.K (aF C sub E x)))(hi:PE X i (bW X.K (aF C sub E y)))
 (ha:∀ v,assign (.Subscript o i pos) X.env v=(do
  let ov <-holding [v] (eval o X.env)
  let iv <-holding [v,ov] (eval i X.env)
  standAt pos
  holding [v,ov,iv] (setItem ov iv v)
  release [v,ov,iv] [])):PG X (.Subscript o i pos) (IB X.K (mO C sub E (.ix x y))) :=
 (ZV ho hi set_list ha).imp fun v σ H Q ⟨d,σd,st,M,rd,r,ok,q,hq⟩=>by
 refine⟨σd,st,_,r,ok,q,fun v1 H1 ⟨d1,aC,s1,aL,r1,q1⟩=>?_⟩
 refine⟨σd,aC,_,r.step ok s1,aL,q1,fun v2 H2 ⟨d2,aG,s2,bY,r2,q2⟩=>?_⟩
 have r1':=r1.step aL s2
 have rd':=(rd.step ok s1).step aL s2
 have q2:BX d1 d2 d aG fun aU=>M σd aU:=q2
 cases d1<;>first|exact(show False from q2).elim|skip
 cases d2<;>first|exact(show False from q2).elim|skip
 cases r1'.cF
 cases r2.int_inv
 rw[MC]at q2
 obtain⟨xs,e,q2⟩:=cT q2
 obtain⟨j,ej,q2⟩:=eD q2
 obtain⟨vs,g1,g2⟩:=bY.lst e
 refine⟨_,vs,_,j,rfl,rfl,g1,by rw[<-g2.length];exact ej,?_⟩
 have s3:=kI (H:=H2) (st:=aG) (o:=.lst (vs.set j v)) (m':=.lst (xs.set j d)) e
 exact hq _ _ _ _ (((r.step ok s1).step aL s2).step bY s3) ((s1.trans s2).trans s3) (bY.set e (g2.set rd' j)) q2
end
end L3
end
section
namespace L3
open PySem PySem.Spec PyProof.Rows L2
noncomputable def mZ (cells:List (Str×Addr)):List (Str×NameKind)->List (Str×Addr)->List (Str×Addr)
 |[],cs=>cs
 |(n,k)::r,cs=>mZ cells r (if k == .free then(n,(cells.lookup n).getD 0)::cs else cs)
theorem C5 {env:Env}:∀(names:List (Str×NameKind))(cs:List (Str×Addr)),(∀ p∈names,p.2=.free->∃ c,env.cells.lookup p.1=some c) ->
  (forIn names cs fun(p:Str×NameKind)(cs:List (Str×Addr))=>(if p.2 == .free then do let c <-cellOf env p.1;pure (ForInStep.yield ((p.1,c)::cs))else pure (ForInStep.yield cs):Sem (ForInStep (List (Str×Addr)))))=pure (mZ env.cells names cs)
 |[],cs,_=>by simp [mZ]
 |(n,k)::r,cs,h=>by
  have ih:=fun cs=>C5 r cs fun p hp=>h p (List.mem_cons_of_mem _ hp)
  simp only[List.forIn_cons,mZ]
  cases e:(k==NameKind.free)with
  |true =>
   obtain⟨c,hc⟩:=h (n,k) (List.mem_cons_self ..) (by simpa using e)
   have hc:env.cells.lookup n=some c:=hc
   simp only[if_true,cellOf,hc,Option.getD_some,pure_bind]
   exact ih _
  |false =>
   simp only[Bool.false_eq_true,if_false,pure_bind]
   exact ih _
theorem xE {env:Env}{scope:Scope}(h:∀ p∈scope.names,p.2=.free->∃ c,env.cells.lookup p.1=some c):closureFor scope env=pure (mZ env.cells scope.names []):=by
 rw[<-C5 scope.names [] h]
 unfold closureFor
 simp only[bind_pure]
theorem lW {cells:List (Str×Addr)}:∀(names:List (Str×NameKind))(cs:List (Str×Addr)){x:Str}{c:Addr},(∀ p∈names,p.2=.free->∃ c,cells.lookup p.1=some c)->(∀ x c,cs.lookup x=some c->cells.lookup x=some c)->(mZ cells names cs).lookup x=some c->cells.lookup x=some c
 |[],cs,x,c,_,h,e=>h x c e
 |(n,k)::r,cs,x,c,hn,h,e=>by
  simp only[mZ]at e
  refine lW r _ (fun p hp=>hn p (List.mem_cons_of_mem _ hp)) (fun y d ed=>?_) e
  split at ed
  ·rename_i hk
   obtain⟨c',hc'⟩:=hn (n,k) (List.mem_cons_self ..) (by simpa using hk)
   have hc':cells.lookup n=some c':=hc'
   rw[List.lookup_cons]at ed
   split at ed
   ·rename_i q
    have q:y=n:=by simpa using q
    subst q
    rw[hc']at ed ⊢
    simpa using ed
   ·exact h y d ed
  ·exact h y d ed
theorem EZ {cells:List (Str×Addr)}:∀(names:List (Str×NameKind))(cs:List (Str×Addr)){x:Str},(∃ c,cs.lookup x=some c)->∃ c,(mZ cells names cs).lookup x=some c
 |[],cs,x,h=>h
 |(n,k)::r,cs,x,h=>by
  simp only[mZ]
  refine EZ r _ ?_
  split
  ·rw[List.lookup_cons]
   split
   ·exact⟨_,rfl⟩
   ·exact h
  ·exact h
theorem BJ {cells:List (Str×Addr)}:∀(names:List (Str×NameKind))(cs:List (Str×Addr)){x:Str},names.lookup x=some .free->∃ c,(mZ cells names cs).lookup x=some c
 |[],cs,x,h=>by simp at h
 |(n,k)::r,cs,x,h=>by
  simp only[mZ]
  rw[List.lookup_cons]at h
  split at h
  ·rename_i q
   cases h
   refine EZ r _ ?_
   simp only[beq_self_eq_true,if_true]
   rw[List.lookup_cons,q]
   exact⟨_,rfl⟩
  ·exact BJ r _ h
theorem qJ {env:Env}:∀{names:List (Str×NameKind)}{x:Str}{k:NameKind},(names.map fun(n,k)=>if(k==NameKind.free&&env.scope.kind == .function&&env.kindOf n==some .cell)then(n,NameKind.cell)else(n,k)).lookup x=some k->∃ k',names.lookup x=some k'/\(k'=k∨(k'=.free/\k=.cell))
 |[],x,k,h=>by simp at h
 |(n,k0)::r,x,k,h=>by
  simp only[List.map_cons]at h
  cases q:(x==n)with
  |true =>
   refine⟨k0,by simp only[List.lookup_cons,q],?_⟩
   by_cases hc:(k0==NameKind.free&&env.scope.kind == .function&&env.kindOf n==some .cell)=true
   ·simp only[hc,if_true,List.lookup_cons,q]at h
    cases h
    simp only[Bool.and_eq_true]at hc
    exact .inr ⟨by simpa using hc.1.1,rfl⟩
   ·simp only[hc,if_false,List.lookup_cons,q,Bool.false_eq_true]at h
    cases h
    exact .inl rfl
  |false =>
   simp only[List.lookup_cons,q]
   refine qJ (env:=env) (names:=r) ?_
   by_cases hc:(k0==NameKind.free&&env.scope.kind == .function&&env.kindOf n==some .cell)=true
   ·simp only[hc,if_true,List.lookup_cons,q]at h
    exact h
   ·simp only[hc,if_false,List.lookup_cons,q,Bool.false_eq_true]at h
    exact h
theorem qN {env:Env}:∀{names:List (Str×NameKind)}{x:Str},names.lookup x=some .free->(names.map fun(n,k)=>if(k==NameKind.free&&env.scope.kind == .function&&env.kindOf n==some .cell)then(n,NameKind.cell)else(n,k)).lookup x=some .cell∨(names.map fun(n,k)=>if(k==NameKind.free&&env.scope.kind == .function&&env.kindOf n==some .cell)then(n,NameKind.cell)else(n,k)).lookup x=some .free
 |[],x,h=>by simp at h
 |(n,k0)::r,x,h=>by
  simp only[List.map_cons]
  rw[List.lookup_cons]at h
  split at h
  ·rename_i q;cases h
   split
   ·exact .inl (by rw[List.lookup_cons,q])
   ·exact .inr (by rw[List.lookup_cons,q])
  ·rename_i q
   split
   ·rw[List.lookup_cons,q];exact qN h
   ·rw[List.lookup_cons,q];exact qN h
structure kH (X:Cx)(scope:Scope)(cn:List Str)(aW:List Nat):Prop where
 kind:scope.kind=.function
 nocell:∀ y∈scope.names,y.2≠.cell
 names:∀ y∈scope.names,y.2=.local->scope.names.lookup y.1=some .local
 free:∀ y∈scope.names,y.2=.free->X.env.kindOf y.1=some .cell∨X.env.kindOf y.1=some .free
 len:cn.length=aW.length
 cap:∀(j:Nat)(y:Str),cn[j]? = some y->scope.names.lookup y=some .free/\∃ i,aW[j]? = some i/\X.N[i]? = some y/\(X.env.kindOf y=some .cell∨X.env.kindOf y=some .free)
noncomputable def mK (X:Cx)(scope:Scope)(own cn:List Str)(fp:List Addr)(s:Shared)(H:Hp)(Ca:Addr):Cx :=
 { X with N:=own++cn,s₀:=s,H₀:=H,env:=compEnvC scope (mZ X.env.cells scope.names []) Ca X.env,outer:=X.stack,ex:=fp,fn:=fun _=>false,calm:=true,pn:=[],xe:=fun _ _=>False }
noncomputable def pE (aW:List Nat)(σ:L2.St):L2.St:=aW.map fun i=>(σ[i]?).getD none
section
variable {X:Cx}{scope:Scope}{own cn:List Str}{aW:List Nat}{fp:List Addr}{pins:List (Addr×Obj)}{σ:L2.St}{H:Hp}{s:Shared}
theorem kH.cells (S:kH X scope cn aW)(ok:X.Ok):∀ p∈scope.names,p.2=.free->∃ c,X.env.cells.lookup p.1=some c:=fun p hp e=>ok.has p.1 (S.free p hp e)
theorem UH (S:kH X scope cn aW)(hc:X.calm=true)(I:Inv X pins σ H s)(hf:∀ b∈fp,lD X pins H b)(dP:∀ b∈fp,b<s.heap.objs.size){Ca:Addr}(hC:s.heap.objs.size<=Ca):(mK X scope own cn fp s H Ca).Ok where
 mod:=I.ok.mod
 kind:=S.kind
 glob:=I.ok.glob
 blt:=I.ok.blt
 above:=hC
 inj:=fun x y c h1 h2=>I.ok.inj x y c (lW _ [] (S.cells I.ok) (fun _ _ h=>by simp at h) h1) (lW _ [] (S.cells I.ok) (fun _ _ h=>by simp at h) h2)
 has:=fun x h=>by
  refine BJ _ [] ?_
  rcases h with h|h
  ·obtain⟨k,e,r⟩:=qJ (env:=X.env) (show List.lookup x (List.map _ scope.names)=_ from h)
   rcases r with rfl|⟨rfl,_⟩
   ·exact absurd rfl (S.nocell _ (PySem.mem_of_lookup e))
   ·exact e
  ·obtain⟨k,e,r⟩:=qJ (env:=X.env) (show List.lookup x (List.map _ scope.names)=_ from h)
   rcases r with rfl|⟨rfl,r⟩
   ·exact e
   ·cases r
 cab:=fun x c h _=>by cases h
 hd:=fun _=>I.ok.hd hc
 frames:=I.ok.frames
 stk:=.inl rfl
 exf:=fun b hb=>⟨fun e=>absurd (dP b hb) (by rw[e];exact Nat.not_lt.mpr hC),fun x c h=>(hf b hb).2.2.2.2.1 x c (lW _ [] (S.cells I.ok) (fun _ _ h=>by simp at h) h)⟩
 bs:=I.bs
 bsz:=Nat.le_trans I.ok.bsz I.sz
 noex:=fun b o e hb=>by
  rcases(hf b hb).2.2.2.1 with z|z
  ·exact I.ok.noex b o e z
  ·exact absurd (Nat.lt_of_lt_of_le (Heap.lt_size e) (Nat.le_trans I.ok.bsz z)) (Nat.lt_irrefl _)
 exfs:=fun b hb z=>by
  rcases List.mem_cons.mp (I.IX b z)with e|e
  ·exact(hf b hb).2.1 e
  ·exact(hf b hb).2.2.1 e
 nT:=I.stack
 frf:=I.MA
theorem LK (S:kH X scope cn aW)(hc:X.calm=true)(I:Inv X pins σ H s)(hf:∀ b∈fp,lD X pins H b)(dP:∀ b∈fp,b<s.heap.objs.size){Ca:Addr}(hC:s.heap.objs.size<=Ca){h1:Heap}{tk:Nat}
  {m:Str->Option Value}(hn:h1.Ns Ca m)(hk:∀ b o,s.heap.get? b=some o->h1.get? b=some o):
  Inv (mK X scope own cn fp s H Ca) [] (List.replicate own.length none++pE aW σ) H { s with heap:=h1,toks:=tk } where
 ok:=UH S hc I hf dP hC
 os:=rfl
 bare:=I.bare
 base:=Un.kept hk
 loc:=⟨m,hn,fun i y v h1' h2 h3=>by
  have hi:own.length<=i:=by
   refine Nat.le_of_not_lt fun hi=>?_
   rw[List.getElem?_append_left (by simpa using hi),List.getElem?_replicate]at h2
   split at h2<;>cases h2
  rw[List.getElem?_append_right (by simpa using hi)]at h2
  have h1':(own++cn)[i]? = some y:=h1'
  rw[List.getElem?_append_right hi]at h1'
  simp only[List.length_replicate,pE,List.getElem?_map,Option.map_eq_some_iff]at h2
  obtain⟨k,e1,e2⟩:=h2
  obtain⟨hfr,i',e3,e4,e5⟩:=S.cap _ y h1'
  rw[e1]at e3;cases e3
  cases e6:σ[k]? with
  |none=>rw[e6]at e2;cases e2
  |some u =>
   rw[e6]at e2
   have e2:u=some v:=e2
   subst e2
   obtain⟨m0,hn0,hl0⟩:=I.loc
   obtain⟨w,rw',lk⟩:=hl0 k y v e4 e6 (e5.elim (fun z=>.inr (.inl z)) fun z=>.inr (.inr z))
   refine⟨w,rw',?_⟩
   rcases lk with⟨z,_⟩|⟨_,c,ec,⟨oc,hoc,hdc⟩⟩
   ·rcases e5 with e5|e5
    ·rw[e5]at z;cases z
    ·rw[e5]at z;cases z
   ·obtain⟨c',ec'⟩:=BJ (cells:=X.env.cells) scope.names [] hfr
    have:=lW _ [] (S.cells I.ok) (fun _ _ h=>by simp at h) ec'
    rw[ec]at this;cases this
    exact .inr ⟨qN (env:=X.env) hfr,c,ec',⟨oc,hk _ _ hoc,hdc⟩⟩⟩
 cell:=fun x c h=>by
  obtain⟨v,o,ho,hd⟩:=I.cell x c (lW _ [] (S.cells I.ok) (fun _ _ h=>by simp at h) h)
  exact⟨v,o,hk _ _ ho,hd⟩
 free:=I.cB.fresh hC
 lQ:=fun x c h=>I.lQ x c (lW _ [] (S.cells I.ok) (fun _ _ h=>by simp at h) h)
 pin:=fun p hp=>absurd (show p∈([]:List (Addr×Obj))from hp) (by simp)
 cB:=I.cB.kept hk
 len:=by
  show(List.replicate own.length none++pE aW σ).length=(own++cn).length
  simp [pE,S.len]
end
end L3
end
section
namespace L3
open PySem PySem.Spec PyProof.Rows L2
noncomputable def AH (ifs:List Expr)(env:Env):Sem Bool:=forIn ifs true fun c r=>if r=true then do let ok <-isTrue c env (eval c env);pure (ForInStep.yield ok)else pure (ForInStep.yield r)
noncomputable def FR (X:Cx)(ifs:List Expr)(t:L2.TT):Prop :=
 ∀(pins:List (Addr×Obj))(s:Shared)(σ:L2.St)(H:Hp)(Q:Bool->Hp->Prop),Inv X pins σ H s->t σ H Q->wpAny (model X.prog X.w) X.A (AH ifs X.env) (TP X pins σ Q) X.xe s
inductive uV (K:PySem.W.Frag)(te:St->aB->(Bool->aB->Prop)->Prop)(σ:L2.St)(H:Hp)(Q:Bool->Hp->Prop):Prop where
 |mk (σd:St)(st:aB)(R:Bool->aB->Prop)(r:dJ K H σd σ)(ok:aR K st H)(q:te σd st R)(hq:∀(b:Bool) H',QX K H st (R b) H'->Q b H'):uV K te σ H Q
section
variable {X:Cx}{C:bH}{sub:Nat->Nat->Bool}{E:XK}{a b c e o i tg:Expr}{x y z:Ex}{pos:Pos}
theorem AV (env:Env):∀(ifs:List Expr),(forIn ifs false fun c r=>if r=true then do let ok <-isTrue c env (eval c env);pure (ForInStep.yield ok)else pure (ForInStep.yield r):Sem Bool)=pure false
 |[]=>by simp
 |c::r=>by
  simp only[List.forIn_cons,Bool.false_eq_true,if_false,pure_bind]
  exact AV env r
theorem Fv:FR X [] (uV X.K (hZ C sub E [])):=fun pins s σ H Q I ⟨σd,st,R,r,ok,q,hq⟩=>by
 unfold AH
 simp only[List.forIn_nil]
 exact wpAny_pure ⟨H,I,hq true H ⟨st,.refl,ok,q⟩⟩
theorem XA {es:List Expr}{xs:List Ex}(h:PT X e (jD X.K (aF C sub E x)))(hs:FR X es (uV X.K (hZ C sub E xs))):FR X (e::es) (uV X.K (hZ C sub E (x::xs))):=fun pins s σ H Q I ⟨σd,st,R,r,ok,q,hq⟩=>by
 unfold AH
 simp only[List.forIn_cons,if_true]
 refine wpAny_bind (wpAny_bind (bA (h pins s σ H _ I ⟨σd,st,fun k aA=>if k=true then hZ C sub E xs σd aA R else R false aA,r,ok,q,fun b H' z=>z⟩) fun k s1 ⟨H1,I1,aC,cR,aL,q1⟩=>wpAny_pure ?_))
 cases k with
 |true =>
 have q1:hZ C sub E xs σd aC R:=q1
 refine hs pins s1 σ H1 _ I1 ⟨σd,aC,R,r.step ok cR,aL,q1,fun b H' ⟨aA,s',fY,q'⟩=>hq b H' ⟨aA,cR.trans s',fY,q'⟩⟩
 |false =>
 show wpAny _ _ (forIn es false _) _ _ _
 rw[AV]
 exact wpAny_pure ⟨H1,I1,hq false H1 ⟨aC,cR,aL,q1⟩⟩
end
theorem J5 {prog:Program}{w:World}{A:Around}{s:Shared}{R:Result->Shared->Prop}{elt target iter:Expr}{ifs:List Expr}{scope:Scope}{pos:Pos}{it acc:Value}{env:Env}(I:Nat->Shared->Prop)
 (turn:∀ n s,I n s->wpAny (model prog w) A (pyNext it) (fun r s₁=>match r with
  |none=>R (.ok .next) s₁
  |some v=>wpAny (model prog w) A (letOwnedTupleGo target it v) (fun _ s₁'=>wpAny (model prog w) A (assign target env v) (fun _ s₂ =>
   wpAny (model prog w) A (AH ifs env) (fun ok s₃ =>
   if ok=true then wpAny (model prog w) A (eval elt env) (fun x s₄ =>
    wpAny (model prog w) A (call (.builtin "list.append") [acc,x]) (fun _ s₅=>∃ m,m<n/\I m s₅) (fun _ _=>False) s₄) (fun _ _=>False) s₃
   else ∃ m,m<n/\I m s₃) (fun _ _=>False) s₂) (fun _ _=>False) s₁') (fun _ _=>False) s₁) (fun _ _=>False) s)
 (n:Nat)(h:I n s):
 codeAny (model prog w) A (.compLoop (.ListComp elt [⟨target,iter,ifs,0⟩] scope pos) 0 it acc env) R s:=by
 refine codeAny_loop rfl I (fun n s hI=>?_) n h
 show wpAny _ A ((compTurn (.ListComp elt [⟨target,iter,ifs,0⟩] scope pos) 0 it acc env).onRaise (fun x=>do noteFrame x env;theTreesLotGoes x)) _ _ s
 refine wpAny_noted ?_
 rw[compTurn_list]
 refine wpAny_bind (wpAny_standAt (wpAny_bind (wpAny_mono (turn n s hI) (fun r s₁ h₁=>?_) fun _ _ h'=>h'.elim)))
 cases r with
 |none=>exact wpAny_pure h₁
 |some v =>
 refine wpAny_bind (wpAny_mono h₁ (fun _ s₁' h₁'=>?_) fun _ _ h'=>h'.elim)
 refine wpAny_bind (wpAny_mono h₁' (fun _ s₂ h₂=>wpAny_bind (wpAny_mono h₂ (fun ok s₃ h₃=>?_) fun _ _ h'=>h'.elim)) fun _ _ h'=>h'.elim)
 cases ok with
 |false=>exact wpAny_pure ⟨rfl,h₃⟩
 |true =>
  exact wpAny_bind (wpAny_bind (wpAny_mono h₃ (fun x s₄ h₄=>wpAny_bind (wpAny_mono h₄ (fun _ s₅ h₅=>wpAny_pure (wpAny_pure ⟨rfl,h₅⟩)) fun _ _ h'=>h'.elim)) fun _ _ h'=>h'.elim))
noncomputable def ML (K:PySem.W.Frag):Bool->Nat->TG
 |true,_=>C6 0
 |false,n=>Ao K n (uH (List.range n))
theorem DC:∀(is:List Nat)(vs:List V)(σ:L2.St)(n i:Nat),(∀ j∈is,j<n)->n<=i->(kW is vs σ)[i]? = σ[i]?
 |[],_,_,_,_,_,_=>by simp [kW]
 |_::_,[],_,_,_,_,_=>by simp [kW]
 |j::is,v::vs,σ,n,i,h,hi=>by
  have:=DC is vs (σ.set j (some v)) n i (fun k hk=>h k (List.mem_cons_of_mem _ hk)) hi
  simp only[kW,List.zip_cons_cons,List.foldl_cons]at this ⊢
  rw[this]
  have:=h j (List.mem_cons_self ..)
  rw[List.getElem?_set_ne (by omega)]
theorem GZ:∀(is:List Nat)(vs:List V)(σ:L2.St),(kW is vs σ).length=σ.length
 |[],_,_=>by simp [kW]
 |_::_,[],_=>by simp [kW]
 |j::is,v::vs,σ=>by
  have:=GZ is vs (σ.set j (some v))
  simp only[kW,List.zip_cons_cons,List.foldl_cons,List.length_set]at this ⊢
  exact this
theorem ON {K:PySem.W.Frag}{H:Hp}{one:Bool}{n:Nat}{d:D}{v:V}{σd:St}{σ:L2.St}{P:St->Prop}{Q:L2.St->Hp->Prop}(hn:one=true->n=1)(h:kB one (List.range n) d σd P)(r:dJ K H σd σ)(rd:Rep K H d v)
 (hQ:∀ σ2 sY,dJ K H sY σ2->P sY->(∀ i,n<=i->σ2[i]? = σ[i]?)->σ2.length=σ.length->Q σ2 H):ML K one n v σ H Q:=by
 cases one with
 |true =>
 cases hn rfl
 have h:P (σd.set 0 (some d)):=h
 refine hQ _ _ (r.set 0 rd) h (fun i hi=>?_) (by simp)
 rw[List.getElem?_set_ne (by omega)]
 |false =>
 cases d with
 |tup ds =>
  rw[RB]at h
  obtain⟨a,vs,rfl,f,g⟩:=rd.bO
  have hl:vs.length=n:=by rw[<-g.length,h.1];simp
  refine⟨a,vs,rfl,f,hl,by simp [hl],hQ _ _ (r.cZ _ g) h.2 (fun i hi=>DC _ _ _ n i (fun j hj=>by simpa using hj) hi) (GZ _ _ _)⟩
 |_=>exact(show False by cases n<;>exact h).elim
section
variable {K:PySem.W.Frag}{H:Hp}{st:aB}{Da:Addr}{ys zs:List V}
theorem Y3 (hD:H Da=some (.lst ys)){a:Addr}{vs:List V}(h:dZ K H a vs):dZ K (upd H Da (.lst zs)) a vs:=by
 rcases h with(h|⟨o,h⟩)|h
 ·exact .inl (.inl (by rw[bQ (OD h hD (by simp))];exact h))
 ·exact .inl (.inr ⟨o,by rw[bQ (OD h hD (by simp))];exact h⟩)
 ·exact .inr h
theorem SO (hD:H Da=some (.lst ys)){a:Addr}{vs:List V}(h:qQ K H a vs):qQ K (upd H Da (.lst zs)) a vs:=by
 rcases h with⟨o,h⟩|h
 ·exact .inl ⟨o,by rw[bQ (OD h hD (by simp))];exact h⟩
 ·exact .inr h
mutual
theorem Rep.alt (hD:H Da=some (.lst ys)):∀{d:D}{v:V},Rep K H d v->Rep K (upd H Da (.lst zs)) d v
 |_,_,.non=>.non
 |_,_,.bl b=>.bl b
 |_,_,.int i=>.int i
 |_,_,.str x=>.str x
 |_,_,.tup h r=>.tup (Y3 hD h) (aI.alt hD r)
 |_,_,.ref a=>.ref a
 |_,_,.bK h r=>.bK (SO hD h) (aI.alt hD r)
 |_,_,.cW h=>.cW h
theorem aI.alt (hD:H Da=some (.lst ys)):∀{ds:List D}{vs:List V},aI K H ds vs->aI K (upd H Da (.lst zs)) ds vs
 |_,_,.nil=>.nil
 |_,_,.cons h r=>.cons (Rep.alt hD h) (aI.alt hD r)
end
theorem aR.alt (ok:aR K st H)(hD:H Da=some (.lst ys))(hn:st Da=none):aR K st (upd H Da (.lst zs)):=fun a o e=>by
 have ne:a≠Da:=fun z=>by rw[z,hn]at e;cases e
 have:=ok a o e
 cases o with
 |lst ds =>
 obtain⟨vs,q,r⟩:=this
 exact⟨vs,by rw[bQ ne];exact q,r.alt hD⟩
 |dic _ _=>exact this.elim
 |ins c fs =>
 obtain⟨C,dx,ws,q,q2,q3,r⟩:=this
 exact⟨C,dx,ws,q,by rw[bQ ne];exact q2,q3,r.alt hD⟩
 |tab ks vs =>
 obtain⟨xs,ws,q,q0,q1,q2,q3,q4,q5,r⟩:=this
 exact⟨xs,ws,by rw[bQ ne];exact q,q0,q1,q2,q3.alt hD,q4,q5,r.alt hD⟩
theorem aR.take (ok:aR K st H)(hD:H Da=some (.lst ys)){ds:List D}(r:aI K H ds ys):aR K (put st Da (.lst ds)) H:=fun a o e=>by
 by_cases ha:a=Da
 ·subst ha
  rw[aM]at e;cases e
  exact⟨ys,hD,r⟩
 ·rw[aJ ha]at e
  exact ok a o e
end
theorem SN {K:PySem.W.Frag}{H:Hp}{σd:St}{σ:L2.St}(r:dJ K H σd σ)(n:Nat)(aW:List Nat):dJ K H (List.replicate n none++aW.map fun i=>(σd[i]?).getD none) (List.replicate n none++pE aW σ):=by
 refine⟨by simp [pE],fun i d e=>?_⟩
 by_cases hi:i<n
 ·rw[List.getElem?_append_left (by simpa using hi),List.getElem?_replicate]at e
  split at e<;>cases e
 ·rw[List.getElem?_append_right (by simpa using hi)]at e ⊢
  simp only[List.length_replicate,List.getElem?_map,Option.map_eq_some_iff]at e ⊢
  obtain⟨k,e1,e2⟩:=e
  cases q:σd[k]? with
  |none=>rw[q]at e2;cases e2
  |some u =>
   rw[q]at e2
   have e2:u=some d:=e2
   subst e2
   obtain⟨v,h1,h2⟩:=r.2 k d q
   refine⟨v,?_,h2⟩
   simp only[pE,List.getElem?_map,Option.map_eq_some_iff]
   exact⟨k,e1,by rw[h1];rfl⟩
end L3
end
section
namespace L3
open PySem PySem.Spec PyProof.Rows L2
theorem XD {P:Program}{w:World}{H:Hp}{h h':Heap}{Ca:Addr}(ok:iN P w H h)(hn:H Ca=none)(hs:Heap.SameBut Ca h h'):iN P w H h':=fun b u e=>by
 refine(ok b u e).xR (fun c v hc q=>hs.extBut c v ?_ q) (fun _ q=>q) fun _ _ q=>q
 rcases hc with z|z
 ·rw[z];exact fun y=>by rw[y,hn]at e;cases e
 ·exact fun y=>by rw[y,hn]at z;cases z
section
variable {X:Cx}{C:bH}{sub:Nat->Nat->Bool}{elt iter tg:Expr}{ifs:List Expr}{xe:Ex}{lX aD:List Ex}{pos:Pos}{scope:Scope}{own cn:List Str}{aW:List Nat}{one:Bool}{k:Option IK}
theorem GX (hC:bM C C)(S:kH X scope cn aW)(hc:X.calm=true)(oB:one=true->own.length=1)
  (hg:∀ fp s H Ca,PG (mK X scope own cn fp s H Ca) tg (ML X.K one own.length))
  (hts:∀ fp s H Ca,FR (mK X scope own cn fp s H Ca) ifs (uV X.K (hZ C sub EF lX)))
  (he:∀ fp s H Ca,PE (mK X scope own cn fp s H Ca) elt (bW X.K (aF C sub EF xe)))
  {use:Option (Value->Sem Unit)}{Qf:Value->Shared->Prop}
  {pins:List (Addr×Obj)}{s₂:Shared}{σ:L2.St}{σd:St}{H1:Hp}{aC:aB}{J:It}{fp:List Addr}{it:Addr}{tn:Nat->Heap->Prop}{as:List Nat}{xs:List D}{R:List D->aB->Prop}
  (I2:Inv X pins σ H1 s₂)(T:Turn X.prog X.w X.K tg J fp it tn)(t0:tn 0 s₂.heap)(f2:∀ b∈fp,lD X pins H1 b)(r:dJ X.K H1 σd σ)(aL:aR X.K aC H1)(j:xV X.K J as xs H1 aC)
  (q:jI (same as aC) (fun x aG K=>kB one (List.range own.length) x (List.replicate own.length none++aW.map fun i=>(σd[i]?).getD none) fun σ' =>
    hZ C sub EF lX σ' aG fun b aU=>if b=true then aF C sub EF xe σ' aU fun d cC=>K (some d) cC else K none aU) xs [] aC R)
  (fin:∀(Da Ca:Addr)(H':Hp)(aA:aB)(ds:List D)(m:Str->Option Value)(s':Shared),s'.heap.Ns Ca m->(∀ h',Heap.SameBut Ca s'.heap h'->Inv X pins σ H' { s' with heap:=h' })->Inv X pins σ H' s'->Ca≠X.env.locals->(∀ x c,X.env.cells.lookup x=some c->c≠Ca)->Ca∉X.fs->X.s₀.heap.objs.size<=Ca->(∀ p∈X.pn++pins,p.1≠Ca)->H' Ca=none->Step H1 aC H' aA->aR X.K (put aA Da (.lst ds)) H'->H1 Da=none->aA Da=none->R ds aA ->
   compPost (model X.prog X.w) X.A X.xe use Qf (.ref Da) Ca (.ok .next) s'):
  wpAny (model X.prog X.w) X.A (newList []) (fun acc s₃ =>
   wpAny (model X.prog X.w) X.A (newFunctionEnv scope X.env.globals (mZ X.env.cells scope.names []) [] X.env.qual none .none (some X.env)) (fun cenv s₄ =>
    codeAny (model X.prog X.w) X.A (.compStart (.ListComp elt [⟨tg,iter,ifs,0⟩] scope pos) 0 (.ref it) acc { cenv with scope:=relabel scope X.env }) (compPost (model X.prog X.w) X.A X.xe use Qf acc cenv.locals) s₄) X.xe s₃) X.xe s₂:=by
 have hD1:H1 s₂.heap.objs.size=none:=I2.fresh
 obtain⟨tf,htf0⟩:∃ tf:D->aB->(Option D->aB->Prop)->Prop,tf=fun x aG K=>kB one (List.range own.length) x (List.replicate own.length none++aW.map fun i=>(σd[i]?).getD none) fun σ' =>
    hZ C sub EF lX σ' aG fun b aU=>if b=true then aF C sub EF xe σ' aU fun d cC=>K (some d) cC else K none aU:=⟨_,rfl⟩
 have htf:∀ x aG (K:Option D->aB->Prop),tf x aG K->kB one (List.range own.length) x (List.replicate own.length none++aW.map fun i=>(σd[i]?).getD none) fun σ' =>
    hZ C sub EF lX σ' aG fun b aU=>if b=true then aF C sub EF xe σ' aU fun d cC=>K (some d) cC else K none aU:=fun x aG K h=>by rw[htf0]at h;exact h
 rw[<-htf0]at q
 refine wpAny_newObj_type ?_
 have I3:=I2.TL (aD:=[]) (ys:=[]) (t':=s₂.toks) .nil (Nat.zero_le _)
 generalize hS3:({ s₂ with heap:=s₂.heap.push { cls:=.type "list", dict:=none,data:=.seq ([]:List Value).toArray } }:Shared)=s₃
 have I3:Inv X pins σ (upd H1 s₂.heap.objs.size (.lst [])) s₃:=by rw[<-hS3];exact I3
 have lt3:s₂.heap.objs.size<s₃.heap.objs.size:=by rw[<-hS3];show _<(s₂.heap.push _).objs.size;rw[Heap.size_push];exact Nat.lt_succ_self _
 have old3:∀ b o,s₂.heap.get? b=some o->s₃.heap.get? b=some o:=fun b o e=>by rw[<-hS3];exact Heap.get?_push_of_some _ e
 generalize hDa:s₂.heap.objs.size=Da at *
 have hlt2:∀ b∈fp,b<Da:=fun b hb=>by
  obtain⟨o,e,_⟩:=T.obj _ _ t0 b hb
  rw[<-hDa];exact Heap.lt_size e
 have f3:∀ b∈fp,lD X pins (upd H1 Da (.lst [])) b:=fun b hb=>⟨by rw[bQ (Nat.ne_of_lt (hlt2 b hb))];exact(f2 b hb).1,(f2 b hb).2⟩
 have hlt3:∀ b∈fp,b<s₃.heap.objs.size:=fun b hb=>Nat.lt_trans (hlt2 b hb) lt3
 refine wpAny_newFunctionEnv S.nocell (by intro y hy;simp at hy) (fun h₁ hns hsb=>?_) S.kind
 have keep1:∀ b o,s₃.heap.get? b=some o->h₁.get? b=some o:=fun b o e=>hsb.extBut b o (Nat.ne_of_lt (Heap.lt_size e)) (Heap.get?_push_of_some _ e)
 have t1:tn 0 h₁:=T.keep _ _ _ t0 fun b hb o e=>keep1 b o (old3 b o e)
 have B0:=LK (own:=own) S hc I3 f3 hlt3 (Nat.le_refl _) (tk:=s₃.toks+([]:List (Str×Value)).length) hns keep1
 generalize hXc:mK X scope own cn fp s₃ (upd H1 Da (.lst [])) s₃.heap.objs.size=Xc at B0
 have hgc:PG Xc tg (ML X.K one own.length):=by rw[<-hXc];exact hg _ _ _ _
 have htc:FR Xc ifs (uV X.K (hZ C sub EF lX)):=by rw[<-hXc];exact hts _ _ _ _
 have hec:PE Xc elt (bW X.K (aF C sub EF xe)):=by rw[<-hXc];exact he _ _ _ _
 have eP:Xc.prog=X.prog:=by rw[<-hXc];rfl
 have eW:Xc.w=X.w:=by rw[<-hXc];rfl
 have eK:Xc.K=X.K:=by rw[<-hXc];rfl
 have eA:Xc.A=X.A:=by rw[<-hXc];rfl
 have eX:Xc.xe=fun _ _=>False:=by rw[<-hXc];rfl
 have eN:Xc.env=compEnvC scope (mZ X.env.cells scope.names []) s₃.heap.objs.size X.env:=by rw[<-hXc];rfl
 have eL:Xc.env.locals=s₃.heap.objs.size:=by rw[eN];rfl
 have eC:Xc.calm=true:=by rw[<-hXc];rfl
 have fC:∀{H':Hp},(∀ b∈fp,H' b=none)->∀ b∈fp,lD Xc [] H' b:=fun{H'} hn b hb=>by
  have ok:=B0.ok
  refine⟨hn b hb,by rw[eL];exact Nat.ne_of_lt (hlt3 b hb),ok.exfs b (by rw[<-hXc];exact hb),.inl (by rw[<-hXc];exact hb),fun x c e=>(ok.exf b (by rw[<-hXc];exact hb)).2 x c e,fun p hp=>?_⟩
  have:p∈([]:List (Addr×Obj)):=by rw[<-hXc]at hp;exact hp
  cases this
 have capsRel:∀{H':Hp}{aA:aB},Step H1 aC H' aA->dJ X.K H' (List.replicate own.length none++aW.map fun i=>(σd[i]?).getD none) (List.replicate own.length none++pE aW σ):=fun s'=>(SN r _ _).step aL s'
 have loop:∀ s4:Shared,s4 = { s₃ with heap:=h₁,toks:=s₃.toks+([]:List (Str×Value)).length }->codeAny (model X.prog X.w) X.A (.compLoop (.ListComp elt [⟨tg,iter,ifs,0⟩] scope pos) 0 (.ref it) (.ref Da) Xc.env) (compPost (model X.prog X.w) X.A X.xe use Qf (.ref Da) s₃.heap.objs.size) s4:=by
  rintro s4 rfl
  refine J5 (fun n s'=>∃ i H' aA ds ys,n+i=xs.length/\Inv Xc [] (List.replicate own.length none++pE aW σ) H' s'/\tn i s'.heap/\(∀ b∈fp,H' b=none)/\Step H1 aC H' aA/\aR X.K aA H'/\H' Da=some (.lst ys)/\aA Da=none/\aI X.K H' ds ys /\
   jI (same as aC) tf (xs.drop i) ds aA R) ?_ xs.length
   ⟨0,_,aC,[],[],rfl,B0,t1,fun b hb=>(f3 b hb).1,jE hD1,aL.new hD1,dH,aL.fresh hD1,.nil,by simpa using q⟩
  rintro n s' ⟨i,H',aA,ds,ys,hni,I',ti,fr',cR,fY,hD',hst',rs,q'⟩
  by_cases hi:i<xs.length
  ·-- a turn
   have ed:xs.drop i=xs[i]::xs.drop (i+1):=List.drop_eq_getElem_cons hi
   rw[ed]at q'
   obtain⟨g1,gl,q'⟩:=q'
   have hx:xs[i]? = some xs[i]:=List.getElem?_eq_getElem hi
   have hpn:=T.item Xc eP eW eK eC i [] s' _ H' (fun _ _=>False) I' (fC fr') ti (j.go i H' aA xs[i] cR fY g1 hx)
   rw[eA]at hpn
   refine bA hpn fun rr s5 ⟨u,hu,h5⟩=>?_
   subst hu
   refine bA h5 fun _ s6 ⟨v,H6,I6,rv,y6,t6,fr6⟩=>?_
   obtain⟨s6s,Gf,rd⟩:=j.yld i H' aA xs[i] v H6 cR fY g1 hx y6
   have D6:=s6s Da _ hD' hst'
   have I6':=I6.pinned (fC fr6) (T.obj _ _ t6)
   have hasg:=hgc _ s6 _ H6 v u (fun σ2 H2=>∃ sY,H2=H6/\dJ X.K H6 sY σ2/\(∀ i,own.length<=i->σ2[i]? = (List.replicate own.length none++pE aW σ)[i]?)/\σ2.length=(List.replicate own.length none++pE aW σ).length /\
    hZ C sub EF lX sY aA fun b aU=>if b=true then aF C sub EF xe sY aU fun d cC=>jI (same as aC) tf (xs.drop (i+1)) (ds++[d]) cC R else jI (same as aC) tf (xs.drop (i+1)) ds aU R) I6' rv
    (ON oB (htf _ _ _ q') ((capsRel cR).step fY s6s) rd fun σ2 sY r2 p2 k2 l2=>⟨sY,rfl,r2,k2,l2,p2⟩)
   rw[eP,eW,eA,eX]at hasg
   refine bA hasg fun _ s7 ⟨σ2,H7,I7,sY,e7,r7,k7,l7,q7⟩=>?_
   subst e7
   have hte:=htc _ s7 σ2 H7 _ I7 ⟨sY,aA,_,r7,Gf,q7,fun b H' z=>z⟩
   rw[eP,eW,eA,eX]at hte
   have again:∀{H8:Hp}{s8:Shared}{dM:aB}{ds8:List D}{ys8:List V},Inv Xc ([]++xX fp s6.heap) σ2 H8 s8->Step H1 aC H8 dM->aR X.K dM H8->H8 Da=some (.lst ys8)->dM Da=none->aI X.K H8 ds8 ys8->jI (same as aC) tf (xs.drop (i+1)) ds8 dM R ->
     ∃ m,m<n/\∃ i H' aA ds ys,m+i=xs.length/\Inv Xc [] (List.replicate own.length none++pE aW σ) H' s8/\tn i s8.heap/\(∀ b∈fp,H' b=none)/\Step H1 aC H' aA/\aR X.K aA H'/\H' Da=some (.lst ys)/\aA Da=none/\aI X.K H' ds ys/\jI (same as aC) tf (xs.drop i) ds aA R:=fun{H8 s8 dM ds8 ys8} I8 s8s SG hD8 hs8 rs8 q8=>by
    have pinned:∀ b∈fp,∀ o,s6.heap.get? b=some o->s8.heap.get? b=some o/\H8 b=none:=fun b hb o e=>by
     have:=I8.pin (b,o) (List.mem_append_right _ (List.mem_append_right _ (vV hb e)))
     exact⟨this.1,this.2.1⟩
    refine⟨n-1,by omega,i+1,H8,dM,ds8,ys8,by omega,?_,T.keep _ _ _ t6 fun b hb o e=>(pinned b hb o e).1,fun b hb=>?_,s8s,SG,hD8,hs8,rs8,q8⟩
    ·refine I8.wK.weak (by rw[l7]) fun i0 v0 e0=>?_
     by_cases hi0:i0<own.length
     ·rw[List.getElem?_append_left (by simpa using hi0),List.getElem?_replicate]at e0
      split at e0<;>cases e0
     ·rw[k7 i0 (by omega)];exact e0
    ·obtain⟨o,e,_⟩:=T.obj _ _ t6 b hb
     exact(pinned b hb o e).2
   have s17:=cR.trans s6s
   have rs7:=rs.step fY s6s
   refine bA hte fun b s8 ⟨H8,I8,dM,s8s,SG,q8⟩=>?_
   have D8:=s8s Da _ D6.1 D6.2
   have rs8:=rs7.step Gf s8s
   cases b with
   |false=>exact again I8 (s17.trans s8s) SG D8.1 D8.2 rs8 q8
   |true =>
    have hel:=hec _ s8 σ2 H8 _ I8 ⟨sY,dM,_,r7.step Gf s8s,SG,q8,fun v H' z=>z⟩
    rw[eP,eW,eA,eX]at hel
    refine bA hel fun u9 s9 ⟨v9,H9,I9,rv9,d9,rM,s9s,Qd,rd9,q9⟩=>?_
    have D9:=s9s Da _ D8.1 D8.2
    have rs9:=rs8.step SG s9s
    have hap:=L2.rY _ s9 σ2 H9 (.ref Da) [v9] (.ref Da) [u9] (fun _ H'=>H'=upd H9 Da (.lst (ys++[v9]))) I9 rfl (.cons rv9 .nil) ⟨Da,ys,v9,rfl,rfl,D9.1,by rw[fK,<-rs9.length];exact gl,rfl⟩
    rw[eP,eW,eA,eX]at hap
    refine bA hap fun _ s10 ⟨_,H10,I10,_,e10⟩=>?_
    subst e10
    refine again I10 (fun a o e0 n0=>?_) (Qd.alt D9.1 D9.2) dH D9.2 ((rs9.append (.cons rd9 .nil)).alt D9.1) q9
    have:=((s17.trans s8s).trans s9s) a o e0 n0
    exact⟨by rw[bQ (iI e0 hD1)];exact this.1,this.2⟩
  ·-- the end
   have ed:xs.drop i=[]:=List.drop_eq_nil_of_le (by omega)
   rw[ed]at q'
   have hpn:=T.done Xc eP eW eK eC i [] s' _ H' (fun _ _=>False) I' (fC fr') ti (j.stop i H' aA cR fY q'.1 (by omega))
   rw[eA]at hpn
   refine bA hpn fun rr s5 ⟨hr,I5⟩=>?_
   subst hr
   have un5:Un (wR X.stack) fp (upd H1 Da (.lst [])) H' s₃.heap s5.heap:=by have:=I5.base;rw[<-hXc]at this;exact this
   have os5:s5.os=s₃.os:=by have:=I5.os;rw[<-hXc]at this;exact this
   have fC5:H' s₃.heap.objs.size=none:=by have:=I5.free;rw[eL]at this;exact this
   have hch:∀ b∈fp,(b∈X.ex∨X.s₀.heap.objs.size<=b)/\b≠X.env.locals/\(∀ x c,X.env.cells.lookup x=some c->c≠b)/\∀ p∈X.pn++pins,p.1≠b:=fun b hb=>⟨(f2 b hb).2.2.2.1,(f2 b hb).2.1,(f2 b hb).2.2.2.2.1,(f2 b hb).2.2.2.2.2⟩
   have hok5:iN X.prog X.w H' s5.heap:=by have:=I5.cB;rw[eP,eW]at this;exact this
   have Iall:∀ h',(∀ b o,b≠s₃.heap.objs.size->s5.heap.get? b=some o->h'.get? b=some o)->iN X.prog X.w H' h'->Inv X pins σ H' { s5 with heap:=h' }:=fun h' kk cB=>by
    have ne:∀ b o,s₃.heap.get? b=some o->b≠s₃.heap.objs.size:=fun b o e=>Nat.ne_of_lt (Heap.lt_size e)
    refine I3.Ja (s':={ s5 with heap:=h' }) (ch:=fp) os5 ⟨fun b o e n hb hx=>kk b o (ne b o e) (un5.keep b o e n hb hx),fun b o e n hb hx=>?_,un5.free,fun b o e hx=>?_,un5.wL,un5.tL,un5.wM⟩ cB I5.bare hch
    ·obtain⟨sl,e'⟩:=un5.slot b o e n hb hx
     exact⟨sl,kk b _ (ne b o e) e'⟩
    ·obtain⟨o',e'⟩:=un5.there b o e hx
     exact⟨o',kk b o' (ne b o e) e'⟩
   obtain⟨m5,ns5,_⟩:=I5.loc
   rw[eL]at ns5
   refine fin Da s₃.heap.objs.size H' aA ds m5 s5 ns5 (fun h' hs=>Iall h' (fun b o hb e=>hs.extBut b o hb e) (XD hok5 fC5 hs)) (Iall s5.heap (fun b o _ e=>e) hok5) (Nat.ne_of_gt I3.lt) (fun x c e=>?_) (I3.Fc (Nat.le_refl _)) I3.sz (fun p hp=>Nat.ne_of_lt (Heap.lt_size (I3.pin p hp).1)) fC5 cR (fY.take hD' rs) hD1 hst' q'.2
   obtain⟨v,o,ho,_⟩:=I3.cell x c e
   exact Nat.ne_of_lt (Heap.lt_size ho)
 have hl:=loop _ rfl
 rw[eN]at hl
 exact codeAny_compStart_list hl (T.self X.A 0 _ _ _ t1 hl)
theorem HX {H H1 H':Hp}{st aC aA:aB}{Da:Addr}{o:MO}(s1:Step H st H1 aC)(s2:Step H1 aC H' aA)(hD:H1 Da=none):Step H st H' (put aA Da o):=fun a u e n=>by
 have e1:=s1 a u e n
 have e2:=s2 a u e1.1 e1.2
 exact⟨e2.1,by rw[aJ (iI e1.1 hD)];exact e2.2⟩
theorem Aw (hC:bM C C)(S:kH X scope cn aW)(hc:X.calm=true)(oB:one=true->own.length=1)
 (hi:PI X tg iter (tD X.K fun σ st M=>bJ C sub EF aD σ st fun ds aC=>fA k ds aC fun as xs=>M as xs aC))
 (hg:∀ fp s H Ca,PG (mK X scope own cn fp s H Ca) tg (ML X.K one own.length))
 (hts:∀ fp s H Ca,FR (mK X scope own cn fp s H Ca) ifs (uV X.K (hZ C sub EF lX)))
 (he:∀ fp s H Ca,PE (mK X scope own cn fp s H Ca) elt (bW X.K (aF C sub EF xe)))
 (hs:∀ x,foldedSetIterable iter X.env x=pure x):
 PE X (.ListComp elt [⟨tg,iter,ifs,0⟩] scope pos) (bW X.K (aF C sub EF (.comp own.length aW (List.range own.length) one k aD lX xe))):=by
 intro pins s σ H Q I ⟨σd,st,R,r,ok,q,hq⟩
 rw[eval_ListComp]
 refine wpAny_comprehension_free (use:=none) rfl hs (xE (S.cells I.ok)) S.kind S.names ?_
 refine bA (hi pins s σ H _ I ⟨σd,st,_,r,ok,q,fun J H1 z=>z⟩) fun v s1 h1=>bA h1 fun itv s2 h2=>?_
 obtain⟨it,fp,tn,J,H1,rfl,I2,T,t0,f2,as,xs,aC,cR,aL,j,q1⟩:=h2
 refine GX (use:=none) hC S hc oB hg hts he I2 T t0 f2 (r.step ok cR) aL j q1 ?_
 intro Da Ca H' aA ds m s' hns pL hI _ _ _ _ _ _ gF okp hD1 hst' hR
 exact⟨m,hns,fun h' hh=>⟨.ref Da,H',pL h' hh,rfl,hq _ _ ⟨.ref Da,_,HX cR gF hD1,okp,.ref Da,hR.2 Da hst'⟩⟩⟩
theorem Cw {i:Nat}{y:Str}{py spos:Pos}(hC:bM C C)(S:kH X scope cn aW)(hc:X.calm=true)(oB:one=true->own.length=1)
  (hi:PI X tg iter (tD X.K fun σ st M=>bJ C sub EF aD σ st fun ds aC=>fA k ds aC fun as xs=>M as xs aC))
  (hg:∀ fp s H Ca,PG (mK X scope own cn fp s H Ca) tg (ML X.K one own.length))
  (hts:∀ fp s H Ca,FR (mK X scope own cn fp s H Ca) ifs (uV X.K (hZ C sub EF lX)))
  (he:∀ fp s H Ca,PE (mK X scope own cn fp s H Ca) elt (bW X.K (aF C sub EF xe)))
  (hN:X.N.Nodup)(hy:X.N[i]? = some y)(hx:Loc X.env.scope y)(hf:X.fn y=true∨X.env.scope.names.lookup y=some .local)
  (hsw:swapsWith (.ListComp elt [⟨tg,iter,ifs,0⟩] scope pos) (some (.Name y py)) spos.line X.env=pure true)
  (hs:∀ x,foldedSetIterable iter X.env x=pure x):
  PS X (.Assign [.Name y py] (.ListComp elt [⟨tg,iter,ifs,0⟩] scope pos) spos) (iA X.K (wpS C sub (.asg (.nm i) (.comp own.length aW (List.range own.length) one k aD lX xe)))):=by
 intro pins s σ H D I ⟨σd,st,P,r,ok,q,h⟩
 have q:=rJ hC h.ex q
 rw[exec_Assign_Name_used _ _ _ _ hsw]
 refine wpAny_bind (wpAny_standAt (wpAny_bind ?_))
 show wpAny _ X.A (do let _ <-comprehension (.ListComp elt [⟨tg,iter,ifs,0⟩] scope pos) scope X.env _ (newList []) false (eval iter X.env) (some (assign (.Name y py) X.env))) _ _ s
 refine wpAny_bind (wpAny_mono (wpAny_comprehension_free (use:=some (assign (.Name y py) X.env)) (Q:=fun _ s'=>SP X pins D .next s') rfl hs (xE (S.cells I.ok)) S.kind S.names ?_) (fun _ s' hq=>wpAny_pure (wpAny_pure hq)) fun _ _ e=>e)
 refine bA (hi pins s σ H _ I ⟨σd,st,_,r,ok,q,fun J H1 z=>z⟩) fun v s1 h1=>bA h1 fun itv s2 h2=>?_
 obtain⟨it,fp,tn,J,H1,rfl,I2,T,t0,f2,as,xs,aC,cR,aL,j,q1⟩:=h2
 refine GX (use:=some (assign (.Name y py) X.env)) hC S hc oB hg hts he I2 T t0 f2 (r.step ok cR) aL j q1 ?_
 intro Da Ca H' aA ds m s' hns pL hI hL hcl hfs iU hpins hn gF okp hD1 hst' hR
 show wpAny _ X.A (assign (.Name y py) X.env (.ref Da)) _ _ _
 refine wpAny_assign_Name (GU hI hN hy hx (v:=.ref Da) rfl (fun s'' I'' kk=>?_) hf)
 obtain⟨ad,sb,had⟩:=kk
 have nad:Ca≠ad:=fun z=>by
  rcases had with e|e
  ·exact hL (z.trans e)
  ·exact hcl y ad e z.symm
 refine⟨m,hns.at' fun o e=>(sb.2 Ca nad).trans e,fun h' hh=>?_⟩
 refine⟨σ.set i (some (.ref Da)),H',I''.turned (t':=s''.toks) (fun b o hb e=>hh.extBut b o hb e) hn hL (.inr iU) hcl hpins,?_⟩
 have aU:=HX (o:=.lst ds) cR gF hD1
 exact h.nx _ _ _ _ ((r.step ok aU).set i (.ref Da)) aU okp (hR.2 Da hst')
end
end L3
end
section
namespace L3
open PySem PySem.Spec PyProof.Rows L2
theorem RN {K:PySem.W.Frag}{H:Hp}{ds:List D}{vs:List V}(r:aI K H ds vs){N:List Str}{np:Nat}(h:ds.length=np):dJ K H (start np N.length ds) (L2.start N vs):=by
 refine⟨by simp [start,L2.start,r.length,<-h],fun i d e=>?_⟩
 unfold start at e
 by_cases hi:i<ds.length
 ·rw[List.getElem?_append_left (by simpa using hi),List.getElem?_map,Option.map_eq_some_iff]at e
  obtain⟨d',e1,e2⟩:=e
  cases e2
  obtain⟨v,e3,e4⟩:=r.get e1
  refine⟨v,?_,e4⟩
  unfold L2.start
  rw[List.getElem?_append_left (by rw[List.length_map,<-r.length];exact hi),List.getElem?_map,e3];rfl
 ·rw[List.getElem?_append_right (by simpa using hi),List.getElem?_replicate]at e
  split at e<;>cases e
theorem YD {P:Program}{w:World}{K:PySem.W.Frag}{mg:Str->Option Value}{base:Heap}{G:Prog}{f:Nat}{a:Addr}{fd:FuncData}{ps:List Str}:eV P w K mg base gP 0 a fd ps (fI K (aN G 0) f):=by
 have no:∀ vs H Q E,¬fI K (aN G 0) f vs H Q E:=fun vs H Q E ⟨_,_,_,_,_,h,_⟩=>h
 exact⟨fun vs H Q E h=>absurd h (no vs H Q E),fun A outer s H args us vs Q E _ _ _ _ h=>absurd h (no vs H Q E)⟩
theorem Cu {K:PySem.W.Frag}{G:Prog}{k f:Nat}(h:∀ ns:List Int,ns.length<=63->aN G k f [.bK (ns.map .int)] (fun _=>none) (fun d _=>d=.bl true) fun _ _=>False)(H:Hp)(a:Addr)(ns:List Int)(hl:ns.length<=63)(hO:OG H)(hS:cG K H a (ns.map V.int)):
  fI K (aN G k) f [.ref a] H (fun v _=>v=.bl true) fun _ _ _=>False:=by
 have hF:qQ K H a (ns.map V.int):=by
  rcases hS with(e|⟨o,e⟩)|e
  ·rcases hO a with z|⟨o,xs,z⟩
   ·rw[z]at e;cases e
   ·rw[z]at e;cases e
  ·exact .inl ⟨o,e⟩
  ·exact .inr e
 have ri:∀ ns:List Int,aI K H (ns.map .int) (ns.map V.int):=fun ns=>by
  induction ns with
  |nil=>exact .nil
  |cons i r ih=>exact .cons (.int i) ih
 refine⟨[.bK (ns.map .int)],fun _=>none,fun d _=>d=.bl true,.cons (.bK hF (ri ns)) .nil,fun a o e=>(by cases e),h ns hl,fun v H' ⟨d,aA,_,_,r,q⟩=>?_⟩
 subst q
 exact r.fE
end L3
end
section
namespace L3
open PySem PySem.Spec PyProof.Rows L2
theorem eE:bootBuiltins "len" = some (.builtin "len"):=by decide +kernel
theorem oQ:bootBuiltins "all" = some (.builtin "all"):=by decide +kernel
theorem K2:bootBuiltins "any" = some (.builtin "any"):=by decide +kernel
theorem Es:bootBuiltins "sum" = some (.builtin "sum"):=by decide +kernel
theorem G3:bootBuiltins "isinstance" = some (.builtin "isinstance"):=by decide +kernel
theorem Av:bootBuiltins "int" = some (.type "int"):=by decide +kernel
theorem PF:bootBuiltins "str" = some (.type "str"):=by decide +kernel
theorem X7:bootBuiltins "bool" = some (.type "bool"):=by decide +kernel
theorem tS:bootBuiltins "list" = some (.type "list"):=by decide +kernel
theorem gW:bootBuiltins "tuple" = some (.type "tuple"):=by decide +kernel
theorem Dg:bootBuiltins "set" = some (.type "set"):=by decide +kernel
theorem LL:bootBuiltins "reversed" = some (.type "reversed"):=by decide +kernel
noncomputable def JP:Ty->String
 |.int =>"int"
 |.str =>"str"
 |.bool =>"bool"
 |.list =>"list"
 |.tuple =>"tuple"
 |.dict =>"dict"
 |.err _ =>"?"
noncomputable def HB:Ty->Bool
 |.err _=>false
 |_=>true
section
variable {X:Cx}{pins:List (Addr×Obj)}{σ:L2.St}{H:Hp}{s:Shared}{st:aB}{sub:Nat->Nat->Bool}
noncomputable abbrev Dq (X:Cx)(s:Shared)(u:Value)(t:Ty)(b:Bool):Prop:=∀(A:Around)(Q:Value->Shared->Prop)(E:Value->Shared->Prop),(∀ tk,Q (.bool b) { s with toks:=tk })->wpAny (model X.prog X.w) A (call (.builtin "isinstance") [u,.type (JP t)]) Q E s
theorem zQ {a:Addr}(I:Inv X pins σ H s)(h:∃ o,s.heap.get? a=some o/\o.cls=.type "list"){t:Ty}{b:Bool}(e:PySem.W.kitOne X.K (.type "list") (.type (JP t))=some b):Dq X s (.ref a) t b:=fun A Q E hQ =>
 PySem.W.kia_one PySem.W.kitx_list I.jY h e (fun z=>nomatch z) hQ
theorem MU {a:Addr}(I:Inv X pins σ H s)(h:∃ o,s.heap.get? a=some o/\o.cls=.type "tuple"){t:Ty}{b:Bool}(e:PySem.W.kitOne X.K (.type "tuple") (.type (JP t))=some b):Dq X s (.ref a) t b:=fun A Q E hQ =>
 PySem.W.kia_one PySem.W.kitx_tuple I.jY h e (fun z=>nomatch z) hQ
theorem O6 {d:D}{v:V}{u:Value}{t:Ty}{P:Bool->Prop}(I:Inv X pins σ H s)(ok:aR X.K st H)(r:Rep X.K H d v)(rv:RelV v u)(ht:HB t=true)(h:jM sub d st t P):∃ b,P b/\Dq X s u t b:=by
 cases d with
 |non =>
  cases r.fJ;cases rv
  refine⟨false,by cases t<;>exact h,fun A Q E hQ=>PySem.W.kia_one PySem.W.kitx_none I.jY True.intro ?_ (fun z=>nomatch z) hQ⟩
  cases t<;>first|rfl|cases ht
 |bl k =>
  cases r.fE;cases rv
  cases t with
  |bool=>exact⟨true,h,fun A Q E hQ=>PySem.W.kia_one PySem.W.kitx_bool I.jY True.intro rfl (fun z=>nomatch z) hQ⟩
  |int=>exact⟨true,h,fun A Q E hQ=>PySem.W.kia_one PySem.W.kitx_bool I.jY True.intro rfl (fun z=>nomatch z) hQ⟩
  |err _=>cases ht
  |_=>exact⟨false,h,fun A Q E hQ=>PySem.W.kia_one PySem.W.kitx_bool I.jY True.intro rfl (fun z=>nomatch z) hQ⟩
 |int k =>
  cases r.int_inv;obtain⟨tk,rfl⟩:=rv
  cases t with
  |int=>exact⟨true,h,fun A Q E hQ=>PySem.W.kia_one PySem.W.kitx_int I.jY True.intro rfl (fun z=>nomatch z) hQ⟩
  |err _=>cases ht
  |_=>exact⟨false,h,fun A Q E hQ=>PySem.W.kia_one PySem.W.kitx_int I.jY True.intro rfl (fun z=>nomatch z) hQ⟩
 |str k =>
  cases r.str_inv;obtain⟨tk,rfl⟩:=rv
  cases t with
  |str=>exact⟨true,h,fun A Q E hQ=>PySem.W.kia_one PySem.W.kitx_str I.jY True.intro rfl (fun z=>nomatch z) hQ⟩
  |err _=>cases ht
  |_=>exact⟨false,h,fun A Q E hQ=>PySem.W.kia_one PySem.W.kitx_str I.jY True.intro rfl (fun z=>nomatch z) hQ⟩
 |tup ds =>
  obtain⟨a,vs,rfl,f,g⟩:=r.bO
  cases rv
  obtain⟨aD,_,⟨o,h1,h2,_⟩,_⟩:=I.tuple f
  cases t with
  |tuple=>exact⟨true,h,MU I ⟨o,h1,h2⟩ rfl⟩
  |err _=>cases ht
  |_=>exact⟨false,h,MU I ⟨o,h1,h2⟩ rfl⟩
 |ref a =>
  cases r.cF
  cases rv
  have key:∃ ds,st a=some (.lst ds):=by
   cases e:st a with
   |none=>exfalso;cases t<;>first|(simp only[jM,eO,e]at h)|cases ht
   |some o =>
    cases o with
    |lst ds=>exact⟨ds,rfl⟩
    |dic _ _=>exact(ok a _ e).elim
    |ins _ _=>exfalso;cases t<;>first|(simp only[jM,eO,e]at h)|cases ht
    |tab _ _=>exfalso;cases t<;>first|(simp only[jM,eO,e]at h)|cases ht
  obtain⟨ds,e⟩:=key
  obtain⟨vs,g1,_⟩:=ok.lst e
  obtain⟨_,aD,n,_,_,e1⟩:=I.wA g1
  have ho:∃ o,s.heap.get? a=some o/\o.cls=.type "list":=⟨_,e1,rfl⟩
  cases t with
  |list=>simp only[jM]at h;rw[dI e]at h;exact⟨true,h,zQ I ho rfl⟩
  |err _=>cases ht
  |_=>simp only[jM]at h;rw[dI e]at h;exact⟨false,h,zQ I ho rfl⟩
 |bK ds =>
  obtain⟨a,vs,rfl,f,g⟩:=r.kN
  cases rv
  obtain⟨aD,_,p,_⟩:=I.list f.sq
  obtain⟨o,h1,h2,_⟩:=p.isList
  cases t with
  |list=>exact⟨true,h,zQ I ⟨o,h1,h2⟩ rfl⟩
  |err _=>cases ht
  |_=>exact⟨false,h,zQ I ⟨o,h1,h2⟩ rfl⟩
 |cW _ _=>cases t<;>exact(show False from h).elim
 |exc c=>cases r
end
section
variable {X:Cx}{C:bH}{sub:Nat->Nat->Bool}{E:XK}{a:Expr}{x:Ex}{p p2 pos:Pos}
noncomputable def Mw (K:PySem.W.Frag)(sub:Nat->Nat->Bool)(t:Ty):List V->Hp->L2.VK->Prop:=fun vs H Q=>∃ d v st R,vs=[v,.ty (JP t)]/\Rep K H d v/\aR K st H/\jM sub d st t (fun b=>R (.bl b) st)/\∀ v H',QD K H st R v H'->Q v H'
theorem T5 {t:Ty}(ht:HB t=true):vY X (.builtin "isinstance") (Mw X.K sub t):=by
 intro pins s σ H vs us Q I rv h
 obtain⟨d,v,st,R,rfl,r,ok,h,hq⟩:=h
 cases rv with|cons r1 r2=>cases r2 with|cons r2 r3 =>
 cases r3
 cases r2
 obtain⟨b,hb,hi⟩:=O6 I ok r r1 ht h
 exact hi X.A _ _ fun tk=>⟨.bl b,H,I.tok tk,rfl,hq _ _ (.here ok (.bl b) hb)⟩
theorem Je {t:Ty}{n:Str}(ht:HB t=true)(hg:Gl X "isinstance")(hm:X.mg "isinstance" = none)(hg2:Gl X n)(hm2:X.mg n=none)(hv2:bootBuiltins n=some (.type (JP t)))(ha:PE X a (bW X.K (aF C sub E x)))
 (hn2:n ≠"__name__")(hd2:(n==("__debug__" : Str))=false)(he:starEach [a,.Name n p2] X.env=(false,eval a X.env)::starEach [.Name n p2] X.env)(he2:starEach [.Name n p2] X.env=[(false,eval (.Name n p2) X.env)])(eJ:(backTo pos (starEach [.Name n p2] X.env)).any (·.1)=false):
 PE X (.Call (.Name "isinstance" p) [a,.Name n p2] [] pos) (bW X.K (aF C sub E (.isi x [t]))) :=
 (KN (T5 (sub:=sub) ht) hg hm G3 (DS ha (DS (XE hg2 hm2 hv2 (v:=.ty (JP t)) rfl hn2 hd2) RI he2) he) (by decide) (by decide) he eJ).imp fun σ H Q ⟨σd,st,R,r,ok,q,hq⟩=>by
 refine⟨σd,st,_,r,ok,q,fun v H1 ⟨d,aC,s1,aL,r1,q1⟩=>?_⟩
 exact⟨d,v,aC,R,rfl,r1,aL,q1,fun v H' z=>hq _ _ (.after s1 z)⟩
theorem Kz {t:String}{j:Nat}(h:Str.ofString t=⟨(W t).toArray⟩):PE X (.Constant (.str (Str.ofString t)) j pos) (bW X.K (aF C sub E (.c (.str (W t))))) :=
 uB Bm fun H=>by rw[h];exact .str _
end
end L3
end
section
namespace L3
open PySem PySem.Spec PyProof.Rows L2
structure JE (X:Cx)(C:bH)(sub:Nat->Nat->Bool)(E:XK)(e:Expr)(x:Ex):Prop where
 h:PE X e (bW X.K (aF C sub E x))
structure JT (X:Cx)(C:bH)(sub:Nat->Nat->Bool)(E:XK)(e:Expr)(x:Ex):Prop where
 h:PT X e (jD X.K (aF C sub E x))
structure JW (X:Cx)(C:bH)(sub:Nat->Nat->Bool)(E:XK)(e:Expr)(x:Ex):Prop where
 h:PW X e (jD X.K (aF C sub E x))
structure JA (X:Cx)(C:bH)(sub:Nat->Nat->Bool)(E:XK)(es:List Expr)(xs:List Ex):Prop where
 h:PA X es (jJ X.K (bJ C sub E xs))
structure JO (X:Cx)(C:bH)(sub:Nat->Nat->Bool)(E:XK)(e:Option Expr)(xs:List Ex):Prop where
 h:PO X e (EU X.K (bJ C sub E xs))
structure JI (X:Cx)(C:bH)(sub:Nat->Nat->Bool)(E:XK)(tg e:Expr)(k:Option IK)(xs:List Ex):Prop where
 h:PI X tg e (tD X.K fun σ st M=>bJ C sub E xs σ st fun ds aC=>fA k ds aC fun as ys=>M as ys aC)
structure JG (X:Cx)(C:bH)(sub:Nat->Nat->Bool)(E:XK)(tg:Expr)(t:Tg):Prop where
 h:PG X tg (IB X.K (mO C sub E t))
structure JN (X:Cx)(tg:Expr)(i:Nat):Prop where
 h:PG X tg (C6 i)
structure RM (X:Cx)(es:List Expr)(is:List Nat):Prop where
 h:B7 X es (uH is)
structure JB (X:Cx)(tg:Expr)(one:Bool)(n:Nat):Prop where
 h:PG X tg (ML X.K one n)
structure JQ (X:Cx)(C:bH)(sub:Nat->Nat->Bool)(E:XK)(es:List Expr)(xs:List Ex):Prop where
 h:FR X es (uV X.K (hZ C sub E xs))
structure JS (X:Cx)(C:bH)(sub:Nat->Nat->Bool)(s:Stmt)(x:Sx):Prop where
 h:PS X s (iA X.K (wpS C sub x))
structure yB (X:Cx)(C:bH)(sub:Nat->Nat->Bool)(ss:List Stmt)(xs:List Sx):Prop where
 h:kQ X ss (iA X.K (cM C sub xs))
structure uM (X:Cx)(C:bH)(n:Str)(fid:Nat):Prop where
 h:∃ k f fd ps,eV X.prog X.w X.K X.mg X.base gP k f fd ps (fI X.K C fid)/\dN k X.A/\X.mg n=some (.ref f)/\PySem.W.keepIn X.K (.ref f)=true/\Binds X.K fd ps []
noncomputable def GC (K:PySem.W.Frag)(mg:Str->Option Value)(n:Str)(d:D):Prop:=∃ u v,mg n=some u/\RelV v u/\∀ H,Rep K H d v
section
variable {X:Cx}{C:bH}{sub:Nat->Nat->Bool}{E:XK}{a b c e o tg:Expr}{es:List Expr}{x y z:Ex}{xs:List Ex}{p p2 pos apos:Pos}{k:Nat}{n:Str}{s:Stmt}{ss:List Stmt}{sxs:List Sx}
theorem jv (i:Nat)(hN:X.N[i]? = some n:=by kernel_rfl)(hv:X.env.scope.names.lookup n=some .local:=by kernel_rfl)(hd:(n==("__debug__" : Str))=false:=by kernel_rfl)
 (hcd:(n==("__classdict__" : Str))=false:=by kernel_rfl):JE X C sub E (.Name n pos) (.v i):=⟨VL (pv i hN (.inl hv) hd hcd)⟩
theorem bG (i:Nat)(hN:X.N[i]? = some n:=by kernel_rfl)(hv:X.env.scope.names.lookup n=some .cell:=by kernel_rfl)(hd:(n==("__debug__" : Str))=false:=by kernel_rfl)
 (hcd:(n==("__classdict__" : Str))=false:=by kernel_rfl):JE X C sub E (.Name n pos) (.v i):=⟨VL (pv i hN (.inr (.inl hv)) hd hcd)⟩
theorem ji {i:Int}:JE X C sub E (.Constant (.int i) k pos) (.c (.int i)):=⟨uB Z4 fun _=>.int _⟩
theorem jb {i:Bool}:JE X C sub E (.Constant (.bool i) k pos) (.c (.bl i)):=⟨uB Io fun _=>.bl _⟩
theorem jn:JE X C sub E (.Constant .none k pos) (.c .non):=⟨uB Fz fun _=>.non⟩
theorem js {t:String}(h:Str.ofString t=⟨(W t).toArray⟩:=by kernel_rfl):JE X C sub E (.Constant (.str (Str.ofString t)) k pos) (.c (.str (W t))):=⟨Kz h⟩
theorem jg {d:D}(h:GC X.K X.mg n d)(hg:X.env.kindOf n=some .globalImplicit:=by kernel_rfl)(hd:(n==("__debug__" : Str))=false:=by kernel_rfl):JE X C sub E (.Name n pos) (.c d):=⟨let⟨u,v,h1,h2,h3⟩:=h;uB (WS hg h1 h2 hd) h3⟩
theorem ja (h:JE X C sub E e x)(hs:JA X C sub E es xs)(fM:starEach (e::es) X.env=(false,eval e X.env)::starEach es X.env:=by kernel_rfl):JA X C sub E (e::es) (x::xs):=⟨Ew h.h hs.h fM⟩
theorem jt (m:bM C C)(hs:JA X C sub E es xs)(hl:xs.length<=aY:=by decide):JE X C sub E (.Tuple es k pos) (.tup xs):=⟨Ip m hs.h hl⟩
theorem xA {o:qM}(u:X.A.units+180<cLine)(ha:JE X C sub E a x)(hb:JE X C sub E b y)(hm:behindInMarks (oR o) b=false:=by kernel_rfl):JE X C sub E (.Compare a [oR o] [b] pos) (.cmp o x y):=⟨Kt u ha.h hb.h hm⟩
theorem dG {o:qM}(u:X.A.units+180<cLine)(ha:JE X C sub E a x)(hb:JE X C sub E b y)(hm:behindInMarks (oR o) b=false:=by kernel_rfl):JT X C sub E (.Compare a [oR o] [b] pos) (.cmp o x y):=⟨El u ha.h hb.h hm⟩
theorem Aq {o o':qM}(u:X.A.units+180<cLine)(ha:JE X C sub E a x)(hb:JE X C sub E b y)(hc:JE X C sub E c z)(hm:lastMarks [oR o,oR o'] [b,c]=false:=by kernel_rfl):JE X C sub E (.Compare a [oR o,oR o'] [b,c] pos) (.chain o o' x y z):=⟨WL u ha.h hb.h hc.h hm⟩
theorem tp (h:JE X C sub E e x)(he:∀ whole,isTrue e X.env whole=(do let v <-whole;standAt e.pos;holding [v] (truthy v)):=by intro _;rfl):JT X C sub E e x:=⟨SY h.h he⟩
theorem bF (ha:JE X C sub E a x)(hb:JE X C sub E b y)(hp:tY b:=by intro _ _;rfl):JE X C sub E (.Subscript a b pos) (.ix x y):=⟨Nb ha.h hb.h hp⟩
theorem bZ {fid:Nat}(h:uM X C n fid)(ha:JA X C sub EF (e::es) xs)(hg:X.env.kindOf n=some .globalImplicit:=by kernel_rfl)(hdb:(n==("__debug__" : Str))=false:=by kernel_rfl)(he:starEach (e::es) X.env=(false,eval e X.env)::starEach es X.env:=by kernel_rfl)(eJ:(backTo pos (starEach es X.env)).any (·.1)=false:=by kernel_rfl):
 JE X C sub EF (.Call (.Name n p) (e::es) [] pos) (.call fid xs):=⟨let⟨k,f,fd,ps,h1,h2,h3,h4,h5⟩:=h.h;Am h1 h2 hg h3 h4 h5 M7 ha.h hdb he eJ⟩
theorem eB {f:BI}{id:String}(hW:wU X (.builtin id) (gJ f))(hv:bootBuiltins n=some (.builtin id))(hm:X.mg n=none)(ha:JA X C sub E (e::es) xs)(hg:X.env.kindOf n=some .globalImplicit:=by kernel_rfl)
 (hn:n ≠"__name__":=by decide)(hdb:(n==("__debug__" : Str))=false:=by kernel_rfl)(he:starEach (e::es) X.env=(false,eval e X.env)::starEach es X.env:=by kernel_rfl)(eJ:(backTo pos (starEach es X.env)).any (·.1)=false:=by kernel_rfl):
 JE X C sub E (.Call (.Name n p) (e::es) [] pos) (.bi f xs):=⟨(Ji hW hg hm hv ha.h hn hdb he eJ).imp fun σ H Q ⟨σd,st,R,r,ok,q,hq⟩=>⟨σd,st,R,r,ok,q,hq⟩⟩
theorem pC {f:BI}{id:String}(hW:wU X (.type id) (gJ f))(hv:bootBuiltins n=some (.type id))(hm:X.mg n=none)(ha:JA X C sub E (e::es) xs)(hg:X.env.kindOf n=some .globalImplicit:=by kernel_rfl)
 (hn:n ≠"__name__":=by decide)(hdb:(n==("__debug__" : Str))=false:=by kernel_rfl)(he:starEach (e::es) X.env=(false,eval e X.env)::starEach es X.env:=by kernel_rfl)(eJ:(backTo pos (starEach es X.env)).any (·.1)=false:=by kernel_rfl):
 JE X C sub E (.Call (.Name n p) (e::es) [] pos) (.bi f xs):=⟨(Ek hW hg hm hv ha.h hn hdb he eJ).imp fun σ H Q ⟨σd,st,R,r,ok,q,hq⟩=>⟨σd,st,R,r,ok,q,hq⟩⟩
theorem J8 {t:Ty}(hv:bootBuiltins n=some (.type (JP t)))(hm:X.mg "isinstance" = none)(hm2:X.mg n=none)(ha:JE X C sub E a x)(ht:HB t=true:=by kernel_rfl)(hg:X.env.kindOf "isinstance" = some .globalImplicit:=by kernel_rfl)(hg2:X.env.kindOf n=some .globalImplicit:=by kernel_rfl)
 (hn2:n ≠"__name__":=by decide)(hd2:(n==("__debug__" : Str))=false:=by kernel_rfl)(he:starEach [a,.Name n p2] X.env=(false,eval a X.env)::starEach [.Name n p2] X.env:=by kernel_rfl)(he2:starEach [.Name n p2] X.env=[(false,eval (.Name n p2) X.env)]:=by kernel_rfl)(eJ:(backTo pos (starEach [.Name n p2] X.env)).any (·.1)=false:=by kernel_rfl):
 JE X C sub E (.Call (.Name "isinstance" p) [a,.Name n p2] [] pos) (.isi x [t]):=⟨Je ht hg hm hg2 hm2 hv ha.h hn2 hd2 he he2 eJ⟩
theorem sD (ho:JE X C sub E o x)(ha:JA X C sub E (e::es) xs)(jO:attributeBase o "append" X.env (eval o X.env)=eval o X.env:=by kernel_rfl)
 (tM:((backTo pos (starEach (e::es) X.env)).all (fun x=>!x.1)&&(backToKw pos (keywordEach [] X.env)).all (fun x=>x.1.isSome)&&decide ((e::es).length+([]:List Keyword).length+(if([]:List Keyword).isEmpty then 0 else 1)<30))=true:=by kernel_rfl)(jP:(apos.endLine==pos.line)=true:=by kernel_rfl)
 (hs:starEach (e::es) X.env=(false,eval e X.env)::starEach es X.env:=by kernel_rfl)(rK:(backTo pos (starEach es X.env)).any (·.1)=false:=by kernel_rfl):
 JE X C sub E (.Call (.Attribute o "append" apos) (e::es) [] pos) (.cI .append x xs):=⟨O9 (fun z=>nomatch z) PySem.F.slot_list_append PySem.F.type_list_append Q2 ho.h ha.h jO tM jP hs rK⟩
theorem Po (ho:JE X C sub E o x)(ha:JA X C sub E (e::es) xs)(jO:attributeBase o "extend" X.env (eval o X.env)=eval o X.env:=by kernel_rfl)
 (tM:((backTo pos (starEach (e::es) X.env)).all (fun x=>!x.1)&&(backToKw pos (keywordEach [] X.env)).all (fun x=>x.1.isSome)&&decide ((e::es).length+([]:List Keyword).length+(if([]:List Keyword).isEmpty then 0 else 1)<30))=true:=by kernel_rfl)(jP:(apos.endLine==pos.line)=true:=by kernel_rfl)
 (hs:starEach (e::es) X.env=(false,eval e X.env)::starEach es X.env:=by kernel_rfl)(rK:(backTo pos (starEach es X.env)).any (·.1)=false:=by kernel_rfl):
 JE X C sub E (.Call (.Attribute o "extend" apos) (e::es) [] pos) (.cI .extend x xs):=⟨O9 (fun z=>nomatch z) PySem.F.slot_list_extend PySem.F.type_list_extend RC ho.h ha.h jO tM jP hs rK⟩
theorem Pw (ho:JE X C sub E o x)(jO:attributeBase o "pop" X.env (eval o X.env)=eval o X.env:=by kernel_rfl)(jP:(apos.endLine==pos.line)=true:=by kernel_rfl):
 JE X C sub E (.Call (.Attribute o "pop" apos) [] [] pos) (.cI .pop x []):=⟨WR (fun z=>nomatch z) PySem.F.slot_list_pop PySem.F.type_list_pop Dx ho.h jO jP⟩
theorem sx (m:bM C C)(h:JE X C sub EF e x)(hs:swapsWith e none pos.line X.env=pure false:=by kernel_rfl):JS X C sub (.Expr e pos) (.ex x):=⟨My m h.h hs⟩
theorem sn {i:Nat}(m:bM C C)(nd:X.N.Nodup)(he:JE X C sub EF e x)(hi:X.N[i]? = some n:=by kernel_rfl)(hx:X.env.scope.names.lookup n=some .local:=by kernel_rfl)
 (hs:swapsWithSole [.Name n p] e pos.line X.env=pure false:=by kernel_rfl)(hw:swappedStores [.Name n p] e X.env=pure none:=by kernel_rfl)(h1:(assignEach [.Name n p] X.env).map (·.2)=[assign (.Name n p) X.env]:=by kernel_rfl):JS X C sub (.Assign [.Name n p] e pos) (.asg (.nm i) x):=⟨M8 m he.h (OP (pY nd hi (.inl hx) (.inr hx))) hs hw h1⟩
theorem xY {i:Nat}(m:bM C C)(nd:X.N.Nodup)(he:JE X C sub EF e x)(hi:X.N[i]? = some n:=by kernel_rfl)(hx:X.env.scope.names.lookup n=some .cell:=by kernel_rfl)(hf:X.fn n=true:=by kernel_rfl)
 (hs:swapsWithSole [.Name n p] e pos.line X.env=pure false:=by kernel_rfl)(hw:swappedStores [.Name n p] e X.env=pure none:=by kernel_rfl)(h1:(assignEach [.Name n p] X.env).map (·.2)=[assign (.Name n p) X.env]:=by kernel_rfl):JS X C sub (.Assign [.Name n p] e pos) (.asg (.nm i) x):=⟨M8 m he.h (OP (pY nd hi (.inr hx) (.inl hf))) hs hw h1⟩
theorem gn {i:Nat}(nd:X.N.Nodup)(hi:X.N[i]? = some n:=by kernel_rfl)(hx:X.env.scope.names.lookup n=some .local:=by kernel_rfl):JN X (.Name n p) i:=⟨pY nd hi (.inl hx) (.inr hx)⟩
theorem Pn {i:Nat}(nd:X.N.Nodup)(hi:X.N[i]? = some n:=by kernel_rfl)(hx:X.env.scope.names.lookup n=some .cell:=by kernel_rfl)(hf:X.fn n=true:=by kernel_rfl):JN X (.Name n p) i:=⟨pY nd hi (.inr hx) (.inl hf)⟩
theorem gc {i:Nat}{is:List Nat}(h1:JN X e i)(h2:RM X es is)(hs:(assignEach (e::es) X.env).map (·.2)=assign e X.env::(assignEach es X.env).map (·.2):=by kernel_rfl):RM X (e::es) (i::is):=⟨XN h1.h h2.h hs⟩
theorem gt {is:List Nat}(h:RM X es is)(hc:X.calm=true:=by kernel_rfl)(hn:(assignEach es X.env).length=is.length:=by kernel_rfl)(fM:(assignEach es X.env).findIdx? (·.1)=none:=by kernel_rfl):JG X C sub E (.Tuple es k pos) (.tp is):=⟨Oi hc h.h hn fM⟩
theorem gi (ho:JE X C sub E o x)(hi:JE X C sub E a y)
 (ha:∀ v,assign (.Subscript o a pos) X.env v=(do
  let ov <-holding [v] (eval o X.env)
  let iv <-holding [v,ov] (eval a X.env)
  standAt pos
  holding [v,ov,iv] (setItem ov iv v)
  release [v,ov,iv] []):=by intro _;rfl):JG X C sub E (.Subscript o a pos) (.ix x y):=⟨Nr ho.h hi.h ha⟩
theorem sg {t:Tg}(m:bM C C)(he:JE X C sub EF e x)(hg:JG X C sub EF tg t)
 (hs:swapsWithSole [tg] e pos.line X.env=pure false:=by kernel_rfl)(hw:swappedStores [tg] e X.env=pure none:=by kernel_rfl)(h1:(assignEach [tg] X.env).map (·.2)=[assign tg X.env]:=by kernel_rfl):JS X C sub (.Assign [tg] e pos) (.asg t x):=⟨M8 m he.h hg.h hs hw h1⟩
theorem sw (m:bM C C)(hc:JT X C sub EF c x)(hb:yB X C sub ss sxs)(hp:PassesOwn (model X.prog X.w) X.A X.env X.xe:=by exact PassesOwn.never):JS X C sub (.While c ss [] pos) (.whl x sxs):=⟨YW m hp hc.h hb.h⟩
theorem sf {kk:Option IK}{t:Tg}(m:bM C C)(hi:JI X C sub EF tg e kk xs)(hg:JG X C sub EF tg t)(hb:yB X C sub ss sxs)
 (hp:PassesOwn (model X.prog X.w) X.A X.env X.xe:=by exact PassesOwn.never)(hc:X.calm=true:=by kernel_rfl)(hs:∀ x,foldedSetIterable e X.env x=pure x:=by intro _;rfl):JS X C sub (.For tg e ss [] pos) (.iB t kk xs sxs):=⟨NT m hp hc hi.h hg.h hb.h hs⟩
theorem A4 {kk:Option IK}{i:Nat}(m:bM C C)(nd:X.N.Nodup)(hi:JI X C sub EF (.Name n p) e kk xs)(hb:yB X C sub ss sxs)
 (hN:X.N[i]? = some n:=by kernel_rfl)(hx:X.env.scope.names.lookup n=some .local:=by kernel_rfl)
 (hp:PassesOwn (model X.prog X.w) X.A X.env X.xe:=by exact PassesOwn.never)(hc:X.calm=true:=by kernel_rfl)(hs:∀ x,foldedSetIterable e X.env x=pure x:=by intro _;rfl):JS X C sub (.For (.Name n p) e ss [] pos) (.iB (.nm i) kk xs sxs):=⟨NT m hp hc hi.h (OP (pY nd hN (.inl hx) (.inr hx))) hb.h hs⟩
theorem Nt {kk:Option IK}{i:Nat}(m:bM C C)(nd:X.N.Nodup)(hi:JI X C sub EF (.Name n p) e kk xs)(hb:yB X C sub ss sxs)
 (hN:X.N[i]? = some n:=by kernel_rfl)(hx:X.env.scope.names.lookup n=some .cell:=by kernel_rfl)(hf:X.fn n=true:=by kernel_rfl)
 (hp:PassesOwn (model X.prog X.w) X.A X.env X.xe:=by exact PassesOwn.never)(hc:X.calm=true:=by kernel_rfl)(hs:∀ x,foldedSetIterable e X.env x=pure x:=by intro _;rfl):JS X C sub (.For (.Name n p) e ss [] pos) (.iB (.nm i) kk xs sxs):=⟨NT m hp hc hi.h (OP (pY nd hN (.inr hx) (.inl hf))) hb.h hs⟩
theorem MR (m:bM C C)(hm:X.mg "range" = none)(ha:JA X C sub E [a] [x])(hg:X.env.kindOf "range" = some .globalImplicit:=by kernel_rfl)(hs:starEach [a] X.env=[(false,eval a X.env)]:=by kernel_rfl):
 JI X C sub E tg (.Call (.Name "range" p) [a] [] pos) (some .range) [x]:=⟨ZC m hg hm ha.h hs⟩
theorem Pc (m:bM C C)(hm:X.mg "range" = none)(ha:JA X C sub E [a,b] [x,y])(hg:X.env.kindOf "range" = some .globalImplicit:=by kernel_rfl)(hs:starEach [a,b] X.env=[(false,eval a X.env),(false,eval b X.env)]:=by kernel_rfl)(hs2:starEach [b] X.env=[(false,eval b X.env)]:=by kernel_rfl):
 JI X C sub E tg (.Call (.Name "range" p) [a,b] [] pos) (some .range) [x,y]:=⟨XU m hg hm ha.h hs hs2⟩
theorem Pu {cl:Nat}{t:String}(m:bM C C):JS X C sub s (.rais cl [.c (.str (W t))]):=⟨Au m fun σd st h=>h⟩
end
section
variable {X:Cx}{C:bH}{sub:Nat->Nat->Bool}{E:XK}{a b c e o tg:Expr}{es rest:List Expr}{x y z:Ex}{xs:List Ex}{p p2 pos apos:Pos}{k:Nat}{n:Str}{s:Stmt}{ss as bs:List Stmt}{sx1:Sx}{sxs ax bx:List Sx}
theorem an:JA X C sub E [] []:=⟨Gi⟩
theorem jl (hs:JA X C sub E es xs):JE X C sub E (.List es pos) (.lst xs):=⟨Gp hs.h⟩
theorem dO {op:uJ}(ha:JE X C sub E a x)(hb:JE X C sub E b y):JE X C sub E (.BinOp a (Bj op) b pos) (.bin op x y):=⟨Jt ha.h hb.h⟩
theorem VT (ha:JE X C sub E a x):JE X C sub E (.UnaryOp .Not a pos) (.not_ x):=⟨Gz ha.h⟩
theorem nD {op:BoolOp}(ha:JE X C sub E a x):JE X C sub E (.BoolOp op [a] pos) x:=⟨Jv ha.h⟩
theorem nN (ha:JE X C sub E a x)(hb:JE X C sub E (.BoolOp .And (b::rest) pos) y):JE X C sub E (.BoolOp .And (a::b::rest) pos) (.and_ x y):=⟨Ky ha.h hb.h⟩
theorem VW (ha:JE X C sub E a x)(hb:JE X C sub E (.BoolOp .Or (b::rest) pos) y):JE X C sub E (.BoolOp .Or (a::b::rest) pos) (.or_ x y):=⟨Nc ha.h hb.h⟩
theorem on:JO X C sub E none []:=⟨Y6⟩
theorem os (h:JE X C sub E e x):JO X C sub E (some e) [x]:=⟨YJ h.h⟩
theorem MB {lo hi:Option Expr}{xl xh:List Ex}(ha:JE X C sub E a x)(hl:JO X C sub E lo xl)(hh:JO X C sub E hi xh):JE X C sub E (.Subscript a (.Slice lo hi none p2) pos) (.sl x xl xh):=⟨Ou ha.h hl.h hh.h⟩
theorem wV (h:JT X C sub E e x):JT X C sub E (.UnaryOp .Not e pos) (.not_ x):=⟨Bw h.h⟩
theorem sI (h:JW X C sub E e x):JT X C sub E e x:=⟨h.h.pt⟩
theorem sF {op:BoolOp}(h:JT X C sub E e x):JW X C sub E (.BoolOp op [e] pos) x:=⟨Cz h.h⟩
theorem Q4 (m:bM C C)(ha:JT X C sub E a x)(hb:JW X C sub E (.BoolOp .And (b::rest) pos) y):JW X C sub E (.BoolOp .And (a::b::rest) pos) (.and_ x y):=⟨Dm m ha.h hb.h⟩
theorem yM (m:bM C C)(ha:JT X C sub E a x)(hb:JW X C sub E (.BoolOp .Or (b::rest) pos) y):JW X C sub E (.BoolOp .Or (a::b::rest) pos) (.or_ x y):=⟨Kh m ha.h hb.h⟩
theorem iv (h:JE X C sub E e x):JI X C sub E tg e none [x]:=⟨Fs h.h⟩
theorem qn:JQ X C sub E [] []:=⟨Fv⟩
theorem qc (h:JT X C sub E e x)(hs:JQ X C sub E es xs):JQ X C sub E (e::es) (x::xs):=⟨XA h.h hs.h⟩
theorem nn:RM X [] []:=⟨Ge⟩
theorem b1 (h:JN X tg 0):JB X tg true 1:=⟨h.h⟩
theorem bt {is:List Nat}{q:Nat}(h:RM X es is)(hi:is=List.range q:=by rfl)(hc:X.calm=true:=by kernel_rfl)(hn:(assignEach es X.env).length=q:=by kernel_rfl)(fM:(assignEach es X.env).findIdx? (·.1)=none:=by kernel_rfl):JB X (.Tuple es k pos) false q:=⟨by
 subst hi
 exact PY hc h.h hn fM⟩
theorem c0:yB X C sub [] []:=⟨Jo⟩
theorem cc (h1:JS X C sub s sx1)(h2:yB X C sub ss sxs):yB X C sub (s::ss) (sx1::sxs):=⟨Cf h1.h h2.h⟩
theorem dY (m:bM C C)(hc:JT X C sub EF c x)(ha:yB X C sub as ax)(hb:yB X C sub bs bx):JS X C sub (.If c as bs pos) (.iff x ax bx):=⟨Mr m hc.h ha.h hb.h⟩
theorem cA (m:bM C C)(h:JE X C sub EF e x):JS X C sub (.Return (some e) pos) (.ret x):=⟨Hs m h.h⟩
theorem Qb:JS X C sub (.Return none pos) (.ret (.c .non)):=⟨Fd⟩
end
section
variable {X:Cx}{C:bH}{sub:Nat->Nat->Bool}{elt iter tg:Expr}{ifs:List Expr}{xe:Ex}{lX aD:List Ex}{pos:Pos}{scope:Scope}{own cn:List Str}{aW:List Nat}{one:Bool}{k:Option IK}
theorem jU (m:bM C C)(S:kH X scope cn aW)(hi:JI X C sub EF tg iter k aD)
 (hg:∀ fp s H Ca,JB (mK X scope own cn fp s H Ca) tg one own.length)
 (hts:∀ fp s H Ca,JQ (mK X scope own cn fp s H Ca) C sub EF ifs lX)
 (he:∀ fp s H Ca,JE (mK X scope own cn fp s H Ca) C sub EF elt xe)(hc:X.calm=true:=by kernel_rfl)(oB:one=true->own.length=1:=by decide)
 (hs:∀ x,foldedSetIterable iter X.env x=pure x:=by intro _;rfl):
 JE X C sub EF (.ListComp elt [⟨tg,iter,ifs,0⟩] scope pos) (.comp own.length aW (List.range own.length) one k aD lX xe) :=
 ⟨Aw m S hc oB hi.h (fun a b c d=>(hg a b c d).h) (fun a b c d=>(hts a b c d).h) (fun a b c d=>(he a b c d).h) hs⟩
theorem MQ {i:Nat}{y:Str}{py spos:Pos}(m:bM C C)(nd:X.N.Nodup)(S:kH X scope cn aW)(hi:JI X C sub EF tg iter k aD)
 (hg:∀ fp s H Ca,JB (mK X scope own cn fp s H Ca) tg one own.length)
 (hts:∀ fp s H Ca,JQ (mK X scope own cn fp s H Ca) C sub EF ifs lX)
 (he:∀ fp s H Ca,JE (mK X scope own cn fp s H Ca) C sub EF elt xe)(hy:X.N[i]? = some y:=by kernel_rfl)(hx:X.env.scope.names.lookup y=some .local:=by kernel_rfl)
 (hsw:swapsWith (.ListComp elt [⟨tg,iter,ifs,0⟩] scope pos) (some (.Name y py)) spos.line X.env=pure true:=by kernel_rfl)(hc:X.calm=true:=by kernel_rfl)(oB:one=true->own.length=1:=by decide)
 (hs:∀ x,foldedSetIterable iter X.env x=pure x:=by intro _;rfl):
 JS X C sub (.Assign [.Name y py] (.ListComp elt [⟨tg,iter,ifs,0⟩] scope pos) spos) (.asg (.nm i) (.comp own.length aW (List.range own.length) one k aD lX xe)) :=
 ⟨Cw m S hc oB hi.h (fun a b c d=>(hg a b c d).h) (fun a b c d=>(hts a b c d).h) (fun a b c d=>(he a b c d).h) nd hy (.inl hx) (.inr hx) hsw hs⟩
end
noncomputable def NK (k:Option NameKind):Bool:=k==some .cell||k==some .free
noncomputable def NX (names on:List (Str×NameKind))(N cn:List Str)(aW:List Nat):Bool :=
 names.all (fun y=>!(y.2 == .cell)&&(!(y.2 == .local)||names.lookup y.1==some .local)&&(!(y.2 == .free)||NK (on.lookup y.1)))&&(cn.length==aW.length) &&
 (cn.zip aW).all (fun p=>names.lookup p.1==some .free&&N[p.2]? == some p.1&&NK (on.lookup p.1))
theorem MW {k:Option NameKind}(h:NK k=true):k=some .cell∨k=some .free:=by
 unfold NK at h
 rw[Bool.or_eq_true]at h
 rcases h with h|h
 ·exact .inl (by simpa using h)
 ·exact .inr (by simpa using h)
theorem gX {X:Cx}{scope:Scope}{cn:List Str}{aW:List Nat}{on:List (Str×NameKind)}{N:List Str}(h:NX scope.names on N cn aW=true)(hE:X.env.scope.names=on:=by kernel_rfl)(hN:X.N=N:=by kernel_rfl)(hk:scope.kind=.function:=by kernel_rfl):kH X scope cn aW:=by
 unfold NX at h
 rw[Bool.and_eq_true,Bool.and_eq_true]at h
 obtain⟨⟨h1,h2⟩,h3⟩:=h
 have h1:=List.all_eq_true.mp h1
 have hl:cn.length=aW.length:=by simpa using h2
 refine⟨hk,fun y hy=>?_,fun y hy e=>?_,fun y hy e=>?_,hl,fun j y e=>?_⟩
 ·have:=h1 y hy
  simp only[Bool.and_eq_true]at this
  intro z;rw[z]at this;simp at this
 ·have:=h1 y hy
  simp only[Bool.and_eq_true,Bool.or_eq_true]at this
  rcases this.1.2 with q|q
  ·rw[e]at q;simp at q
  ·simpa using q
 ·have:=h1 y hy
  simp only[Bool.and_eq_true,Bool.or_eq_true]at this
  rcases this.2 with q|q
  ·rw[e]at q;simp at q
  ·show X.env.scope.names.lookup y.1=_∨X.env.scope.names.lookup y.1=_
   rw[hE];exact MW q
 ·obtain⟨hj,ej⟩:=List.getElem?_eq_some_iff.mp e
  have hj':j<aW.length:=by omega
  have hm:(y,aW[j])∈cn.zip aW:=by
   rw[<-ej]
   exact List.mem_iff_getElem.mpr ⟨j,by simp;omega,by simp⟩
  have:=List.all_eq_true.mp h3 _ hm
  simp only[Bool.and_eq_true]at this
  refine⟨by simpa using this.1.1,aW[j],List.getElem?_eq_getElem hj',by rw[hN];simpa using this.1.2,?_⟩
  show X.env.scope.names.lookup y=_∨X.env.scope.names.lookup y=_
  rw[hE];exact MW this.2
end L3
namespace L3
theorem Kj {k:Nat}{A:PySem.Around}(hr:L2.dN k A):A.units+180<PySem.cLine:=by have:=hr.un;omega
end L3
end
section
namespace PySem
open Sem (wp)
section
variable {prog:Program}{w:World}{A:Around}{s:Shared}{R:Result->Shared->Prop}{I:Addr}{fp wr:List Addr}{n:Nat}{P:Nat->Value->Prop}{St:Nat->Heap->Prop}
noncomputable def xQ (prog:Program)(w:World)(I:Addr)(St:Nat->Heap->Prop):Prop:=∀(A:Around)(s:Shared)(Q:Bool->Shared->Prop)(E:Value->Shared->Prop),St 0 s.heap->(∀ b tk,Q b { s with toks:=tk })->wpAny (model prog w) A (Builtin.List.listLengthHint (.ref I)) Q E s
theorem R7 {T:String}(W:Walks prog w A.in1 I fp wr n P St)(hn:n<=sizeLine)(hT:∀ h,St 0 h->∃ o,h.get? I=some o/\o.cls=.type T)(h2:(Value.type T==Value.type "list")=false)(h3:(Value.type T==Value.type "tuple")=false)(hint:xQ prog w I St)
  (S:Addr)(res:Value)(c₀:Nat)(fM:St 0 s.heap)(hSf:S∉fp)(hI:I∈fp)(hS:s.heap.get? S=some { cls:=.type "list", data:=.seq #[] c₀ })
  (hR:∀ h' tk nM c',(∀ b o,b∉S::wr->s.heap.get? b=some o->h'.get? b=some o)->h'.get? S=some { cls:=.type "list", dict:=none,data:=.seq nM c',slots:=#[] }->ItemsOf P nM n->R (.ok (.ret res)) { s with heap:=h',toks:=tk }):
  wpAny (model prog w) A.in1 (Builtin.List.listExtendWith (.ref S) (.ref I) res)
   (fun fin s'=>match fin with|.done f=>R (.ok f) s'|.again c'=>c'.quiet=true/\codeAny (model prog w) A c' R s') (fun e s'=>R (.error e) s') s:=by
 have hSI:S≠I:=fun e=>hSf (e▸hI)
 have key:∀(h:Heap)(c₁ tk:Nat),St 0 h->(∀ b o,b≠S->s.heap.get? b=some o->h.get? b=some o)->h.get? S=some { cls:=.type "list", data:=.seq #[] c₁ } ->
   codeAny (model prog w) A (.builtin "list.extend.loop" ⟨[.ref S,.ref I,res],[]⟩) R { s with heap:=h,toks:=tk }:=by
  intro h c₁ tk hst₁ hk hS₁
  refine codeAny_extend_loopS W.toS hn S hSf res n 0 _ #[] c₁ rfl (Nat.zero_le _) hst₁ hS₁ (ItemsOf.nil _) fun s' nM c' hm hS' hacc=>?_
  rw[Moved.eq_with hm]
  exact hR s'.heap s'.toks nM c' (fun b o hb e=>hm.heap b o hb (hk b o (fun z=>hb (by rw[z];exact List.mem_cons_self ..)) e)) hS' hacc
 unfold Builtin.List.listExtendWith
 refine wpAny_bind (wpAny_typeOf (T:=T) (hT _ fM) ?_)
 have h1:Builtin.List.listSameRef (.ref S) (.ref I)=false:=by simp [Builtin.List.listSameRef,hSI]
 simp only[h1,h2,h3,Bool.or_false,Bool.false_eq_true,if_false]
 refine wpAny_bind (W.self 0 _ _ _ fM ?_)
 refine wpAny_bind (wpAny_holding (hint _ _ _ _ fM fun b tk=>?_))
 have touch:∀{Q:Fin->Shared->Prop}{E:Value->Shared->Prop}{k:Unit->Sem Fin},(∀ h' , St 0 h'->(∀ b o,b≠S->s.heap.get? b=some o->h'.get? b=some o)->(∃ c₁,h'.get? S=some { cls:=.type "list", data:=.seq #[] c₁ })->wpAny (model prog w) A.in1 (k ()) Q E { s with heap:=h',toks:=tk }) ->
   wpAny (model prog w) A.in1 (rule "list.extend.makes-room" >>= fun _=>Builtin.List.listTouch (.ref S) >>= k) Q E { s with toks:=tk }:=fun{Q E k} hk=>by
  refine wpAny_bind (wpAny_rule (wpAny_bind ?_))
  show wpAny _ A.in1 (updateSeq S (·.push .none) >>= fun _=>updateSeq S (·.pop)) _ _ _
  refine wpAny_bind (wpAny_updateSeq hS rfl ?_)
  have hS₂:=Heap.get?_update_self (Obj.mapSeq (·.push Value.none)) hS rfl
  refine wpAny_updateSeq (hz:=by seq_fits) hS₂ rfl ?_
  have hS₃:=Heap.get?_update_self (Obj.mapSeq (·.pop)) hS₂ rfl
  have oth:∀ b o,b≠S->s.heap.get? b=some o->((s.heap.update S (Obj.mapSeq (·.push Value.none))).update S (Obj.mapSeq (·.pop))).get? b=some o :=
   fun b o hb e=>(Heap.get?_update_other _ _ (Ne.symm hb)).trans ((Heap.get?_update_other _ _ (Ne.symm hb)).trans e)
  exact hk _ (W.frame _ _ _ fM fun b hb o e=>oth b o (fun h=>hSf (h▸hb)) e) oth ⟨_,hS₃⟩
 refine wpAny_ite_split (fun _=>?_) (fun _=>wpAny_pure ⟨plainId_quiet F.plain_extend_loop _,key _ c₀ _ fM (fun b o _ e=>e) hS⟩)
 refine touch fun h' a b ⟨c₁,c⟩=>wpAny_pure ⟨plainId_quiet F.plain_extend_loop _,key _ c₁ _ a b c⟩
theorem JC {T:String}(W:Walks prog w A.in1 I fp wr n P St)(hn:n<=sizeLine)(hT:∀ h,St 0 h->∃ o,h.get? I=some o/\o.cls=.type T)(h2:(Value.type T==Value.type "list")=false)(h3:(Value.type T==Value.type "tuple")=false)(hint:xQ prog w I St)
 (S:Addr)(fM:St 0 s.heap)(hSf:S∉fp)(hI:I∈fp)(hS:s.heap.get? S=some { cls:=.type "list", data:=.seq #[] })
 (hR:∀ h' tk nM c',(∀ b o,b∉S::wr->s.heap.get? b=some o->h'.get? b=some o)->h'.get? S=some { cls:=.type "list", dict:=none,data:=.seq nM c',slots:=#[] }->ItemsOf P nM n->R (.ok (.ret .none)) { s with heap:=h',toks:=tk }):
 wpAny (model prog w) A.in1 (Builtin.«list.__init__» ⟨[.ref S,.ref I],[]⟩)
  (fun fin s'=>match fin with|.done f=>R (.ok f) s'|.again c'=>c'.quiet=true/\codeAny (model prog w) A c' R s') (fun e s'=>R (.error e) s') s:=by
 show wpAny _ A.in1 (do let old <-Builtin.List.listItems (.ref S);Builtin.List.listUpdate (.ref S) (fun _=>#[]);letGo old.toList.reverse;Builtin.List.listExtendWith (.ref S) (.ref I) .none) _ _ s
 refine wpAny_bind ?_
 unfold Builtin.List.listItems
 refine wpAny_bind (wpAny_seqItems hS rfl (wpAny_pure ?_))
 show wpAny _ A.in1 (updateSeq S (fun _=>#[]) >>= fun _=>letGo (#[]:Array Value).toList.reverse >>= fun _=>Builtin.List.listExtendWith (.ref S) (.ref I) .none) _ _ s
 refine wpAny_bind (wpAny_updateSeq hS rfl ?_)
 have hS₂:=Heap.get?_update_self (Obj.mapSeq (fun _=>(#[]:Array Value))) hS rfl
 have oth:∀ b o,b≠S->s.heap.get? b=some o->(s.heap.update S (Obj.mapSeq (fun _=>(#[]:Array Value)))).get? b=some o :=
 fun b o hb e=>(Heap.get?_update_other _ _ (Ne.symm hb)).trans e
 refine wpAny_bind (wpAny_letGo ?_)
 refine R7 W hn hT h2 h3 hint S .none _ (W.frame _ _ _ fM fun b hb o e=>oth b o (fun h=>hSf (h▸hb)) e) hSf hI hS₂ fun h' tk nM c' hm hS' hacc=>?_
 exact hR h' tk nM c' (fun b o hb e=>hm b o hb (oth b o (fun z=>hb (by rw[z];exact List.mem_cons_self ..)) e)) hS' hacc
end
section
variable {prog:Program}{w:World}{A:Around}{E:Value->Shared->Prop}{s:Shared}{I:Addr}{fp wr:List Addr}{n:Nat}{P:Nat->Value->Prop}{St:Nat->Heap->Prop}
theorem yT {T:String}{Q:Value->Shared->Prop}(W:Walks prog w A.in1.in1 I fp wr n P St)(hn:n<=sizeLine)(hT:∀ h,St 0 h->∃ o,h.get? I=some o/\o.cls=.type T)(h2:(Value.type T==Value.type "list")=false)(h3:(Value.type T==Value.type "tuple")=false)(hint:xQ prog w I St)
  (fM:St 0 s.heap)(hfp:∀ b∈fp,b<s.heap.objs.size)(hI:I∈fp)
  (hQ:∀ h' tk nM c',(∀ b o,b∉wr->s.heap.get? b=some o->h'.get? b=some o)->h'.get? s.heap.objs.size=some { cls:=.type "list", dict:=none,data:=.seq nM c',slots:=#[] }->ItemsOf P nM n->Q (.ref s.heap.objs.size) { s with heap:=h',toks:=tk }):
  wpAny (model prog w) A (call (.type "list") [.ref I]) Q E s:=by
 have hSf:s.heap.objs.size∉fp:=fun hm=>Nat.lt_irrefl _ (hfp _ hm)
 refine callType_codes (Q₁:=fun obj s₁=>obj=.ref s.heap.objs.size/\s₁ = { s with heap:=s.heap.push { cls:=.type "list", data:=.seq #[] } }) F.called_list (F.typeCall_list_1 _) F.entry_list_init
  (code_list_new _ ⟨rfl,rfl⟩) fun obj s₁ h₁=>?_
 obtain⟨rfl,rfl⟩:=h₁
 have hS:(s.heap.push { cls:=.type "list", data:=.seq #[] }).get? s.heap.objs.size=some { cls:=.type "list", data:=.seq #[] }:=Heap.get?_push_size _ rfl
 refine⟨⟨_,hS,rfl⟩,F.args_list_init_2 _ _,JC (A:=A.in1) W hn hT h2 h3 hint _ (W.frame _ _ _ fM fun b _ o e=>Heap.get?_push_of_some _ e) hSf hI hS fun h' tk nM c' hk hS' hacc=>?_⟩
 refine⟨rfl,hQ h' tk nM c' (fun b o hb e=>hk b o (fun z=>?_) (Heap.get?_push_of_some _ e)) hS' hacc⟩
 rcases List.mem_cons.mp z with z|z
 ·exact absurd (Heap.lt_size e) (by rw[z];exact Nat.lt_irrefl _)
 ·exact hb z
end
end PySem
end
section
namespace PySem
namespace F
theorem OC:typeLookup (.type "list_reverseiterator") "__len__" = pure none:=by rw[typeLookup_type,builtinLookup_eq_fast];kernel_rfl
theorem TZ:typeLookup (.type "list_reverseiterator") "__length_hint__" = pure (some (.builtin "list_reverseiterator.__length_hint__")):=by rw[typeLookup_type,builtinLookup_eq_fast];kernel_rfl
end F
section
variable {prog:Program}{w:World}
theorem U9 {I l:Addr}{items:Array Value}:xQ prog w I (fun i h=>i<=items.size/\h.IsRevIter I l ((items.size:Int)-1-(i:Int))/\h.IsList l items):=fun A s Q E fM hQ=>by
 have hT:=fM.2.1.typeIs
 unfold Builtin.List.listLengthHint
 refine wpAny_bind (wpAny_specialOf hT F.OC ?_)
 refine wpAny_ite_split (fun dQ=>absurd dQ (by decide)) (fun _=>?_)
 refine wpAny_ite_split (fun dQ=>absurd dQ (by decide)) (fun _=>?_)
 refine wpAny_bind (wpAny_specialOf hT F.TZ ?_)
 generalize hid:("list_reverseiterator.__length_hint__" : String)=id0
 wp_delta
 rw[show splitId id0=some ("list_reverseiterator","__length_hint__")from by subst hid;decide +kernel]
 subst hid
 refine wpAny_bind (wpAny_isInstance (T :="list_reverseiterator") (b:=true) hT (by rw[isSubtype_type];kernel_rfl) ?_)
 refine wpAny_ite_split (fun dQ=>absurd dQ (by decide)) (fun _=>?_)
 refine wpAny_ite_split (fun _=>?_) (fun dQ=>absurd (by decide +kernel) dQ)
 refine wpAny_ite_split (fun dQ=>absurd dQ (by decide +kernel)) (fun _=>?_)
 exact wpAny_pure (hQ false s.toks)
end
end PySem
end
section
namespace PySem
open PyProof.Rows
namespace F
theorem M6:typeLookup (.type "tuple") "__reversed__" = pure none:=by rw[typeLookup_type,builtinLookup_eq_fast];kernel_rfl
theorem JU:typeLookup (.type "tuple") "__getitem__" = pure (some (.builtin "tuple.__getitem__")):=by rw[typeLookup_type,builtinLookup_eq_fast];kernel_rfl
theorem OL:typeLookup (.type "reversed") "__len__" = pure none:=by rw[typeLookup_type,builtinLookup_eq_fast];kernel_rfl
theorem xU:Manifest.owners.lookup (String.ofList ['d','e','s','r','e','v','e','r'].reverse)=some Manifest.sig_reversed:=by kernel_rfl
theorem jT:Slot "reversed" "__next__" "reversed.__next__" :=
 .of (owner :="reversed") (n :="__next__") (by rw[typeLookup_type,builtinLookup_eq_fast];kernel_rfl) (by decide +kernel) (by decide +kernel) (by decide +kernel)
 (by first|exact .inl (by decide +kernel)|exact .inr (by decide +kernel)) (by rw[isSubtype_type];kernel_rfl)
theorem pF:Slot "reversed" "__length_hint__" "reversed.__length_hint__" :=
 .of (owner :="reversed") (n :="__length_hint__") (by rw[typeLookup_type,builtinLookup_eq_fast];kernel_rfl) (by decide +kernel) (by decide +kernel) (by decide +kernel)
 (by first|exact .inl (by decide +kernel)|exact .inr (by decide +kernel)) (by rw[isSubtype_type];kernel_rfl)
theorem wZ:Slot "reversed" "__iter__" "reversed.__iter__" :=
 .of (owner :="reversed") (n :="__iter__") (by rw[typeLookup_type,builtinLookup_eq_fast];kernel_rfl) (by decide +kernel) (by decide +kernel) (by decide +kernel)
 (by first|exact .inl (by decide +kernel)|exact .inr (by decide +kernel)) (by rw[isSubtype_type];kernel_rfl)
theorem tZ:entryFor table "reversed.__next__" = some Builtin.«reversed.__next__»:=entryFor_of_tree (by kernel_rfl)
theorem D0:entryFor table "reversed.__length_hint__" = some Builtin.«reversed.__length_hint__»:=entryFor_of_tree (by kernel_rfl)
theorem rU (a:Value):argsOk "reversed.__next__" ⟨[a],[]⟩:=by
 unfold argsOk;rw[signature?_of (id :="reversed.__next__") (n:=['_','_','t','x','e','n','_','_']) (o:=['d','e','s','r','e','v','e','r']) (by kernel_rfl) xU];kernel_rfl
theorem CA (a:Value):argsOk "reversed.__length_hint__" ⟨[a],[]⟩:=by
 unfold argsOk;rw[signature?_of (id :="reversed.__length_hint__") (n :="__length_hint__".toList.reverse) (o:=['d','e','s','r','e','v','e','r']) (by kernel_rfl) xU];kernel_rfl
theorem DB (a:Value):argsOk "reversed.__iter__" ⟨[a],[]⟩:=by
 unfold argsOk;rw[signature?_of (id :="reversed.__iter__") (n:=['_','_','r','e','t','i','_','_']) (o:=['d','e','s','r','e','v','e','r']) (by kernel_rfl) xU];kernel_rfl
theorem EA:entryFor table "reversed.__iter__" = some Builtin.«dict_keyiterator.__iter__» :=
 entryFor_alias (id' :="dict_keyiterator.__iter__") (by kernel_rfl) (by first|rfl|decide +kernel|(unfold String.splitOn;simp +decide [String.splitOnAux])) (by decide +kernel) (by kernel_rfl)
end F
end PySem
end
section
namespace PySem
open PyProof.Rows
section
variable {prog:Program}{w:World}{A:Around}{E:Value->Shared->Prop}{s:Shared}
noncomputable def OI (t:Addr)(i:Int):Obj:={ cls:=.type "reversed", data:=.fields #[.ref t,rawInt i] }
noncomputable def Heap.kJ (h:Heap)(a t:Addr)(i:Int):Prop:=∃ o,h.get? a=some o/\o.cls=.type "reversed" /\ o.data=.fields #[.ref t,rawInt i]
theorem Heap.kJ.typeIs {a t:Addr}{i:Int}(x:s.heap.kJ a t i):s.TypeIs (.ref a) "reversed":=let⟨o,ho,hc,_⟩:=x;⟨o,ho,hc⟩
theorem Heap.kJ.at {h h':Heap}{a t:Addr}{i:Int}(x:h.kJ a t i)(e:∀ o,h.get? a=some o->h'.get? a=some o):h'.kJ a t i:=let⟨o,ho,r⟩:=x;⟨o,e _ ho,r⟩
theorem zJ {t:Addr}{items:Array Value}{Q₁:Value->Shared->Prop}(ht:IsTup s.heap t items)(nL:(items.size:Int)<2 ^ 63)
 (h:Q₁ (.ref s.heap.objs.size) { s with heap:=s.heap.push (OI t ((items.size:Int)-1)),toks:=s.toks+1+1 }):
 codeAny (model prog w) A (.call (.builtin "reversed.__new__") ⟨[.type "reversed", .ref t],[]⟩) (wants Q₁ E) s:=by
 refine codeAny_of_tree ?_
 show wpAny _ A.in1 (do checkBuiltinCall "reversed.__new__" ⟨[.type "reversed", .ref t],[]⟩;again (.builtin "reversed.__new__" ⟨[.type "reversed", .ref t],[]⟩)) _ _ s
 refine wpAny_bind (wpAny_of_eq (F.newCall_reversed_1 _) (wpAny_pure ⟨plainId_quiet F.plain_reversed_new _,codeAny_builtin F.entry_reversed_new ?_⟩))
 rw[Around.under_plainId F.plain_reversed_new _]
 unfold Builtin.«reversed.__new__»
 refine wpAny_bind (wpAny_of_eq (newClass_reversed _) ?_)
 try dsimp only
 refine wpAny_bind (wpAny_of_eq (a:=()) (by first|rfl|kernel_rfl) ?_)
 refine wpAny_bind (wpAny_of_eq (a:=()) (by first|rfl|kernel_rfl) ?_)
 try dsimp only
 refine wpAny_bind (wpAny_specialOf ht.typeIs F.M6 ?_)
 try dsimp only
 refine wpAny_bind ?_
 wp_delta
 refine wpAny_bind (wpAny_isInstance (T :="tuple") (b:=false) ht.typeIs (by rw[isSubtype_type];kernel_rfl) ?_)
 refine wpAny_ite_split (fun dQ=>absurd dQ (by decide)) (fun _=>?_)
 refine wpAny_bind (wpAny_specialOf ht.typeIs F.JU ?_)
 refine wpAny_ite_split (fun _=>?_) (fun dQ=>absurd (by decide +kernel) dQ)
 refine wpAny_pure ?_
 refine wpAny_ite_split (fun dQ=>absurd dQ (by decide)) (fun _=>?_)
 refine wpAny_bind (len_tuple ht nL ?_)
 refine wpAny_bind (m:=asInt? _) (wpAny_pure ?_)
 refine wpAny_bind (m:=Builtin.SmallTypes.newRecord (.type "reversed") [Value.ref t,rawInt ((items.size:Int)-1)]) ?_
 show wpAny _ _ (newObj (.type "reversed") (.fields #[Value.ref t,rawInt ((items.size:Int)-1)])) _ _ _
 exact wpAny_newObj_type (wpAny_pure h)
theorem AR {it t:Addr}{i:Int}{Q:Value->Shared->Prop}(hit:s.heap.kJ it t i)(h:Q (.ref it) s):wpAny (model prog w) A (pyIter (.ref it)) Q E s:=by
 refine wpAny_pyIter_slot hit.typeIs F.wZ (wpAny_call_entry F.wZ hit.typeIs F.EA ?_ (F.DB _))
 show wpAny _ _ (ret (.ref it)) _ _ s
 exact wpAny_pure ⟨_,rfl,"reversed", _,hit.typeIs,F.jT.lookup,h⟩
theorem tB {it t:Addr}{i:Nat}{items:Array Value}{x:Value}{Q:Option Value->Shared->Prop}(hit:s.heap.kJ it t (i:Int))(ht:IsTup s.heap t items)(nL:(items.size:Int)<2 ^ 63)(hx:items[i]? = some x)
  (hQ:∀ h',h'.kJ it t ((i:Int)-1)->Heap.SameBut it s.heap h'->Q (some x) { s with heap:=h',toks:=s.toks+1 }):wpAny (model prog w) A (pyNext (.ref it)) Q E s:=by
 obtain⟨o,ho,hc,hd⟩:=id hit
 have hi:i<items.size:=by
  rcases Nat.lt_or_ge i items.size with z|z
  ·exact z
  ·rw[Array.getElem?_eq_none z]at hx;cases hx
 unfold pyNext
 refine wpAny_bind (wpAny_attempt (wpAny_callSpecial?_slot (name:=Str.ofString "__next__") hit.typeIs F.jT
  (wpAny_call_entry F.jT hit.typeIs F.tZ ?_ (F.rU _))))
 unfold Builtin.«reversed.__next__»
 refine wpAny_bind (wpAny_of_eq (a:=(Value.ref it,[])) rfl ?_)
 try dsimp only
 refine wpAny_bind (wpAny_field ho hd (x:=.ref t) rfl ?_)
 refine wpAny_bind (wpAny_field ho hd (x:=rawInt (i:Int)) rfl ?_)
 show wpAny _ _ (if(i:Int)<0 then _ else _) _ _ s
 rw[if_neg (by omega)]
 refine wpAny_bind (wpAny_specialOf ht.typeIs F.JU ?_)
 refine wpAny_ite_split (fun dQ=>absurd dQ (by decide)) (fun _=>?_)
 refine wpAny_bind (wpAny_mkInt ?_)
 refine wpAny_bind (wpAny_attempt (PyProof.Rows.getItem_tuple (j:=i) ht (by omega) (by omega) (seqIndex_of (by omega) (by omega)) hx ?_))
 refine wpAny_bind (wpAny_field ho hd (x:=rawInt (i:Int)) rfl ?_)
 refine wpAny_bind (wpAny_setField ho hd (by simp) ?_)
 first
 |refine wpAny_pure ⟨x,rfl,wpAny_pure (hQ _ ?_ (Heap.SameBut.update ..))⟩
 |refine wpAny_bind (wpAny_pure (wpAny_pure ⟨x,rfl,wpAny_pure (hQ _ ?_ (Heap.SameBut.update ..))⟩))
 exact⟨_,Heap.get?_update_self _ ho (Obj.isFreed_of_fields (Obj.data_mapFields hd _)),(Obj.cls_mapFields ..).trans hc,by
  rw[Obj.data_mapFields hd];simp⟩
end
end PySem
end
section
namespace PySem
open PyProof.Rows
section
variable {prog:Program}{w:World}{A:Around}{E:Value->Shared->Prop}{s:Shared}
theorem uC {it t:Addr}{Q:Option Value->Shared->Prop}(hh:A.handled=none)(hit:s.heap.kJ it t (-1))
 (hQ:∀ h',Heap.ExtBut it s.heap h'->Q none { s with heap:=h' }):wpAny (model prog w) A (pyNext (.ref it)) Q E s:=by
 obtain⟨o,ho,hc,hd⟩:=id hit
 unfold pyNext
 refine wpAny_bind (wpAny_attempt (wpAny_callSpecial?_slot (name:=Str.ofString "__next__") hit.typeIs F.jT
 (wpAny_call_entry F.jT hit.typeIs F.tZ ?_ (F.rU _))))
 unfold Builtin.«reversed.__next__»
 refine wpAny_bind (wpAny_of_eq (a:=(Value.ref it,[])) rfl ?_)
 try dsimp only
 refine wpAny_bind (wpAny_field ho hd (x:=.ref t) rfl ?_)
 refine wpAny_bind (wpAny_field ho hd (x:=rawInt (-1)) rfl ?_)
 show wpAny _ _ (if(-1:Int)<0 then _ else _) _ _ s
 rw[if_pos (by decide)]
 refine wpAny_bind (wpAny_rule ?_)
 refine wpAny_bind ?_
 wp_delta
 have ho2:=Heap.get?_update_self (Obj.mapFields (·.setIfInBounds 1 (rawInt (-1)))) ho (Obj.isFreed_of_fields (Obj.data_mapFields hd _))
 refine wpAny_bind (wpAny_setField ho hd (by simp) ?_)
 refine wpAny_setField ho2 (Obj.data_mapFields hd _) (by simp) ?_
 first
 |show wpAny _ _ (newExc (.type "StopIteration") [] >>= _) _ _ _
 |(refine wpAny_bind ?_;show wpAny _ _ (newExc (.type "StopIteration") [] >>= _) _ _ _)
 refine wpAny_bind ?_
 simp only[newExc,newTuple]
 refine wpAny_bind (wpAny_newObj_type ?_ (by size_fits))
 refine wpAny_bind (m:=firstArgMember _ _) (wpAny_of_eq (a:=Value.none) (by first|rfl|(simp only[firstArgMember];rfl)) ?_)
 refine wpAny_newObj_type ?_ (by size_fits)
 simp only[raiseNew]
 refine wpAny_bind (wpAny_handled ?_)
 first|rw[show A.in1.handled=none from hh]|rw[hh]
 refine wpAny_bind (wpAny_pure (wpAny_throw ?_))
 refine wpAny_bind (wpAny_isInstance (T :="StopIteration") (b:=true) ⟨_,Heap.get?_push_size _ rfl,rfl⟩ isSubtype_stop ?_)
 refine wpAny_pure (hQ _ ?_)
 have e1:Heap.ExtBut it s.heap ((s.heap.update it (Obj.mapFields (·.setIfInBounds 1 (rawInt (-1))))).update it (Obj.mapFields (·.setIfInBounds 0 Value.none))):=fun b u hb e =>
 (Heap.get?_update_other _ _ (Ne.symm hb)).trans ((Heap.get?_update_other _ _ (Ne.symm hb)).trans e)
 exact(e1.push _).push _
end
theorem Walks.En {prog:Program}{w:World}{A:Around}(hh:A.handled=none)(I l:Addr)(hne:l≠I)(items:Array Value)(nL:(items.size:Int)<2 ^ 63):
  Walks prog w A I [I,l] [I] items.size (fun i v=>items[items.size-1-i]? = some v) (fun i h=>i<=items.size/\h.kJ I l ((items.size:Int)-1-(i:Int))/\IsTup h l items) where
 sub:=fun b hb=>by simp at hb;simp [hb]
 frame:=fun _ _ _ x hk=>⟨x.1,x.2.1.at fun o e=>hk I (by simp) o e,let⟨o,ho,r⟩:=x.2.2;⟨o,hk l (by simp) o ho,r⟩⟩
 item:=fun i s Q E hi x hQ=>by
  have e:(items.size:Int)-1-(i:Int)=((items.size-1-i:Nat):Int):=by omega
  have hit:=x.2.1
  rw[e]at hit
  have hx:items[items.size-1-i]? = some (items[items.size-1-i]'(by omega)):=Array.getElem?_eq_getElem (by omega)
  refine tB hit x.2.2 nL hx fun h' hit' gY=>?_
  have e2:((items.size-1-i:Nat):Int)-1=(items.size:Int)-1-((i+1:Nat):Int):=by omega
  rw[e2]at hit'
  exact hQ _ h' _ hx ⟨hi,hit',let⟨o,ho,r⟩:=x.2.2;⟨o,(gY.2 l hne).trans ho,r⟩⟩ fun b o hb eo=>gY.extBut b o (fun h=>hb (by simp [h])) eo
 done:=fun s Q E x hQ=>by
  have e:(items.size:Int)-1-(items.size:Int) = -1:=by omega
  have hit:=x.2.1
  rw[e]at hit
  exact uC hh hit fun h' he'=>hQ h' s.toks fun b o hb eo=>he' b o (fun h=>hb (by simp [h])) eo
 self:=fun _ _ _ _ x hQ=>AR x.2.1 hQ
section
variable {prog:Program}{w:World}{A:Around}{E:Value->Shared->Prop}{s:Shared}
theorem F.yK:Slot "reversed" "__init__" "object.__init__" :=
 .of (owner :="object") (n :="__init__") (by rw[typeLookup_type,builtinLookup_eq_fast];kernel_rfl) (by decide +kernel) (by decide +kernel) (by decide +kernel)
 (by first|exact .inl (by decide +kernel)|exact .inr (by decide +kernel)) (by rw[isSubtype_type];kernel_rfl)
theorem F.mT:TypeCalled "reversed" "reversed.__new__" "object.__init__" :=
 ⟨by decide +kernel,by decide +kernel,⟨_,_,F.mro_reversed⟩,F.made_reversed,by decide +kernel,by rw[isSubtype_type];kernel_rfl,F.yK⟩
theorem AO {t:Addr}{items:Array Value}{Q:Value->Shared->Prop}(ht:IsTup s.heap t items)(nL:(items.size:Int)<2 ^ 63)
  (h:Q (.ref s.heap.objs.size) { s with heap:=s.heap.push (OI t ((items.size:Int)-1)),toks:=s.toks+1+1 }):wpAny (model prog w) A (call (.type "reversed") [.ref t]) Q E s:=by
 refine callType_codes (Q₁:=fun obj s₁=>s₁.TypeIs obj "reversed" /\ Q obj s₁) F.mT (F.typeCall_reversed_1 _) F.entry_object_init
  (zJ ht nL ⟨⟨_,Heap.get?_push_size _ rfl,rfl⟩,h⟩) fun obj s₁ hq=>⟨hq.1,F.args_object_init_2 obj _,?_⟩
 exact object_init_meets F.mT.init.lookup F.mT.made (by decide) prog w A.in1 _ s₁ ⟨hq.1,rfl,hq.2⟩
theorem U7 {I l:Addr}{items:Array Value}(nL:items.size<=sizeLine):xQ prog w I (fun i h=>i<=items.size/\h.kJ I l ((items.size:Int)-1-(i:Int))/\IsTup h l items):=fun A s Q E fM hQ=>by
 have hit:=fM.2.1
 have hT:=hit.typeIs
 obtain⟨o,ho,hc,hd⟩:=id hit
 have hf:(items.size:Int)<2 ^ 63:=by have:=nL;rw[sizeLine_eq]at this;omega
 unfold Builtin.List.listLengthHint
 refine wpAny_bind (wpAny_specialOf hT F.OL ?_)
 refine wpAny_ite_split (fun dQ=>absurd dQ (by decide)) (fun _=>?_)
 refine wpAny_ite_split (fun dQ=>absurd dQ (by decide)) (fun _=>?_)
 refine wpAny_bind (wpAny_specialOf hT F.pF.lookup ?_)
 generalize hid:("reversed.__length_hint__" : String)=id0
 wp_delta
 rw[show splitId id0=some ("reversed","__length_hint__")from by subst hid;decide +kernel]
 subst hid
 refine wpAny_bind (wpAny_isInstance (T :="reversed") (b:=true) hT (by rw[isSubtype_type];kernel_rfl) ?_)
 refine wpAny_ite_split (fun dQ=>absurd dQ (by decide)) (fun _=>?_)
 refine wpAny_ite_split (fun dQ=>absurd dQ (by decide +kernel)) (fun _=>?_)
 refine wpAny_bind (wpAny_rule ?_)
 refine wpAny_bind (wpAny_of_eq (F.pF.bind _) ?_)
 refine wpAny_bind (wpAny_attempt (wpAny_call_entry F.pF hT F.D0 ?_ (F.CA _)))
 unfold Builtin.«reversed.__length_hint__»
 refine wpAny_bind (wpAny_of_eq (a:=Value.ref I) rfl ?_)
 refine wpAny_bind (wpAny_field ho hd (x:=.ref l) rfl ?_)
 refine wpAny_ite_split (fun dQ=>absurd dQ (by simp)) (fun _=>?_)
 refine wpAny_bind (len_tuple fM.2.2 hf ?_)
 refine wpAny_bind (m:=asInt? _) (wpAny_pure ?_)
 refine wpAny_bind (m:=field (.ref I) 1) (wpAny_field ho hd (x:=rawInt ((items.size:Int)-1-((0:Nat):Int))) rfl ?_)
 show wpAny _ _ (if(items.size:Int)<((items.size:Int)-1-((0:Nat):Int))+1 then _ else _) _ _ _
 rw[if_neg (by omega)]
 refine wpAny_bind (wpAny_mkInt (wpAny_pure ⟨_,rfl,?_⟩))
 refine wpAny_bind (m:=asInt? _) (wpAny_pure ?_)
 dsimp only
 have e0:(items.size:Int)-1-((0:Nat):Int)+1=items.size:=by omega
 rw[e0]
 have hfi:Builtin.List.listFitsIndex (items.size:Int)=true:=fitsIndex_both (by omega) hf
 have htl:Builtin.List.listTooLong ((items.size:Int).toNat)=false:=by simp [Builtin.List.listTooLong];exact nL
 rw[hfi,htl]
 refine wpAny_ite_split (fun dQ=>absurd dQ (by decide)) (fun _=>?_)
 refine wpAny_ite_split (fun dQ=>absurd dQ (by omega)) (fun _=>?_)
 refine wpAny_ite_split (fun dQ=>absurd dQ (by decide)) (fun _=>wpAny_pure (hQ _ _))
end
end PySem
end
section
namespace L3
open PySem PySem.Spec PyProof.Rows L2
theorem TX {X:Cx}{pins:List (Addr×Obj)}{σ:L2.St}{H:Hp}{s:Shared}{h':Heap}{t':Nat}{it:Addr}{ys:List V}{aD:List Value}{n:Nat}(I:Inv X pins σ H s)(f:lD X pins H it)(k:∀ b o,b≠it->s.heap.get? b=some o->h'.get? b=some o)
  (new:h'.get? s.heap.objs.size=some { cls:=.type "list", data:=.seq aD.toArray n })(hv:aQ ys aD)(hz:ys.length<=sizeLine):Inv X pins σ (upd H s.heap.objs.size (.lst ys)) { s with heap:=h',toks:=t' }:=by
 have hS:=I.fresh
 have neS:∀ b o,s.heap.get? b=some o->b≠s.heap.objs.size:=fun b o e=>Nat.ne_of_lt (Heap.lt_size e)
 have tr:∀ b u,H b=some u->b≠s.heap.objs.size:=fun b u e=>iI e hS
 obtain⟨f0,f1,f2,f3,f4,f5⟩:=f
 refine I.step (g':=s.gens) (d':=s.drawn) (ch:=[it]) (fun b hb=>?_) (fun b o _ _ hc e _=>k b o (fun z=>hc (by simp [z])) e) (fun b o _ _ hc e _=>⟨o.slots,k b o (fun z=>hc (by simp [z])) e⟩) (fun b o _ e n=>by rw[bQ (neS b o e)];exact n)
  (fun b o hc e=>⟨o,k b o (fun z=>hc (by simp [z])) e⟩) (fun b xs e=>by rw[bQ (tr b _ e)];exact e) (fun b o u e=>by rw[bQ (tr b _ e)];exact e) (fun b ps e=>⟨#[],by rw[bQ (tr b _ e),e];simp⟩) (fun m hm=>?_) (fun b u e=>?_) I.bare
 ·have e:b=it:=by simpa using hb
  subst e
  exact⟨f3,f1,f4,f5⟩
 ·obtain⟨o,es,ep,ho,r⟩:=hm
  exact⟨o,es,ep,k _ o (Ne.symm f1) ho,r⟩
 ·by_cases hb:b=s.heap.objs.size
  ·subst hb
   rw[dH]at e;cases e
   exact⟨hz,aD,n,hv,new⟩
  ·rw[bQ hb]at e
   refine(I.cB b u e).xR (fun c v hc q=>k c v ?_ q) (fun c q=>by rw[bQ (tr c _ q)];exact q) fun c xs q=>by rw[bQ (tr c _ q)];exact q
   rcases hc with z|z
   ·rw[z];exact fun y=>by rw[y,f0]at e;cases e
   ·exact fun y=>by rw[y,f0]at z;cases z
theorem RG {aD:List Value}{acc:Array Value}(h:ItemsOf (fun i v=>aD.toArray[aD.toArray.size-1-i]? = some v) acc aD.toArray.size):acc=aD.reverse.toArray:=by
 obtain⟨h1,h2⟩:=h
 apply Array.ext
 ·rw[h1];simp
 ·intro i hi hi'
  have:aD.toArray[aD.toArray.size-1-i]? = some acc[i]:=h2 i acc[i] (Array.getElem?_eq_getElem hi)
  have hl:i<aD.length:=by rw[h1]at hi;simpa using hi
  have e:aD.toArray[aD.toArray.size-1-i]? = some (aD.reverse.toArray[i]):=by
   simp
  rw[e]at this
  exact(Option.some.inj this).symm
theorem aQ.reverse:∀{vs:List V}{us:List Value},aQ vs us->aQ vs.reverse us.reverse
 |_,_,.nil=>.nil
 |_,_,.cons h t=>by simp only[List.reverse_cons];exact(aQ.reverse t).append (.cons h .nil)
section
variable {X:Cx}{C:bH}{sub:Nat->Nat->Bool}{E:XK}{a b c e o tg:Expr}{es:List Expr}{x y z:Ex}{xs:List Ex}{p p2 pos pos2:Pos}{kk:IK}
theorem Hm (hm:X.mg "list" = none)(hm2:X.mg "reversed" = none)(hc:X.calm=true)(ha:PA X [a] (jJ X.K (bJ C sub E [x])))(hg:X.env.kindOf "list" = some .globalImplicit:=by kernel_rfl)(hg2:X.env.kindOf "reversed" = some .globalImplicit:=by kernel_rfl)
  (he:starEach [.Call (.Name "reversed" p2) [a] [] pos2] X.env=(false,eval (.Call (.Name "reversed" p2) [a] [] pos2) X.env)::starEach [] X.env:=by kernel_rfl)(eJ:(backTo pos (starEach [] X.env)).any (·.1)=false:=by kernel_rfl)
  (he2:starEach [a] X.env=(false,eval a X.env)::starEach [] X.env:=by kernel_rfl)(hpl2:(backTo pos2 (starEach [] X.env)).any (·.1)=false:=by kernel_rfl):
  PE X (.Call (.Name "list" p) [.Call (.Name "reversed" p2) [a] [] pos2] [] pos) (bW X.K (aF C sub E (.bit .list .rev [x]))):=by
 intro pins s σ H Q I ⟨σd,st,R,r,ok,q,hq⟩
 refine wpAny_Call_Name_kw (kO I hg hm tS ?_ (by decide) (by decide))
 refine PyProof.Rows.callWith_type1 ?_ he eJ
 rw[he]
 show wpAny _ _ (spliced ((false,eval (.Call (.Name "reversed" p2) [a] [] pos2) X.env)::backTo pos (starEach [] X.env))) _ _ s
 refine Calls.spliced_cons ?_
 refine wpAny_Call_Name_kw (kO I hg2 hm2 LL ?_ (by decide) (by decide))
 refine PyProof.Rows.callWith_type1 (bA (ha pos2 pins s σ H _ I ⟨σd,st,_,r,ok,q,fun vs H' z=>z⟩) fun us s1 ⟨vs,H1,I1,rv,ds,aC,cR,aL,rs,q1⟩=>?_) he2 hpl2
 match ds,rs,q1 with
 |[d],rs,q1 =>
  obtain⟨v,rfl,rd⟩:=rs.one
  obtain⟨u,rfl,ru⟩:=vals1 rv
  have q1:dW d aC fun as xs=>gU xs.reverse aC R:=q1
  obtain⟨l,ws,as,ys,rfl,sa,g,q1⟩:=mJ aL rd q1
  cases ru
  have hh:X.A.handled=none:=I1.ok.hd hc
  have nil:∀{Q':List Value->Shared->Prop}{s':Shared},Q' [] s'->wpAny (model X.prog X.w) X.A (spliced (backTo pos (starEach [] X.env))) Q' X.xe s':=fun h=>Calls.spliced_nil h
  have fin:∀(aD:List Value)(s2:Shared)(h':Heap)(tk:Nat)(acc:Array Value)(cc:Nat),aQ ws aD->ws.length<=sizeLine->Inv X pins σ H1 s2->lD X pins H1 s1.heap.objs.size->(∀ b o,b∉[s1.heap.objs.size]->s2.heap.get? b=some o->h'.get? b=some o) ->
    h'.get? s2.heap.objs.size=some { cls:=.type "list", dict:=none,data:=.seq acc cc,slots:=#[] }->ItemsOf (fun i v=>aD.toArray[aD.toArray.size-1-i]? = some v) acc aD.toArray.size->EP X pins σ Q (.ref s2.heap.objs.size) { s2 with heap:=h',toks:=tk }:=by
   intro aD s2 h' tk acc cc hv hz I2 f2 k2 hS hacc
   have ea:=RG hacc
   subst ea
   refine⟨.ref s2.heap.objs.size,_,TX I2 f2 (fun b o hb e=>k2 b o (by simpa using hb) e) hS (aQ.reverse hv) (by simpa using hz),rfl,hq _ _ (.after cR ?_)⟩
   exact .gU aL g.reverse I2.fresh q1.2
  rcases sa with sa|sa
  ·obtain⟨aD,r1,pl,hz⟩:=I1.list sa
   have hl:=pl.isList
   have dP:l<s1.heap.objs.size:=by obtain⟨_,e,_⟩:=hl;exact Heap.lt_size e
   have hzz:aD.toArray.size<=sizeLine:=by simp;rw[<-r1.length];exact hz
   refine call_reversed_list hl (nil ?_)
   have I2:Inv X pins σ H1 { s1 with heap:=s1.heap.push (revObj l ((aD.toArray.size:Int)-1)) }:=I1.kept (t':=s1.toks) fun b o e=>Heap.get?_push_of_some _ e
   have W:=fun A hA=>Walks.listRev (prog:=X.prog) (w:=X.w) (A:=A) hA s1.heap.objs.size l (Nat.ne_of_lt dP) aD.toArray
   refine yT (W _ hh) hzz (fun h st=>let⟨o,ho,hcl,_⟩:=st.2.1;⟨o,ho,hcl⟩) (by decide) (by decide) U9 ⟨Nat.zero_le _,⟨_,Heap.get?_push_size _ rfl,rfl,by simp [revObj]⟩,hl.push _⟩ (fun b hb=>?_) (by simp) fun h' tk acc cc k hS hacc=>?_
   ·show b<(s1.heap.push _).objs.size
    rw[Heap.size_push]
    rcases List.mem_cons.mp hb with rfl|hb
    ·exact Nat.lt_succ_self _
    ·rcases List.mem_cons.mp hb with rfl|hb
     ·exact Nat.lt_succ_of_lt dP
     ·cases hb
   ·exact fin aD _ h' tk acc cc r1 hz I2 (I1.DT (Nat.le_refl _) I1.fresh) k hS hacc
  ·obtain⟨aD,r1,pl,hz⟩:=I1.tuple sa
   have dP:l<s1.heap.objs.size:=by obtain⟨_,e,_⟩:=pl;exact Heap.lt_size e
   have hzz:aD.toArray.size<=sizeLine:=by simp;rw[<-r1.length];exact hz
   have nL:(aD.toArray.size:Int)<2 ^ 63:=by have:=hzz;rw[sizeLine_eq]at this;omega
   refine AO pl nL (nil ?_)
   have I2:Inv X pins σ H1 { s1 with heap:=s1.heap.push (OI l ((aD.toArray.size:Int)-1)),toks:=s1.toks+1+1 }:=I1.kept (t':=s1.toks+1+1) fun b o e=>Heap.get?_push_of_some _ e
   have W:=fun A hA=>Walks.En (prog:=X.prog) (w:=X.w) (A:=A) hA s1.heap.objs.size l (Nat.ne_of_lt dP) aD.toArray nL
   refine yT (W _ hh) hzz (fun h st=>let⟨o,ho,hcl,_⟩:=st.2.1;⟨o,ho,hcl⟩) (by decide) (by decide) (U7 hzz) ⟨Nat.zero_le _,⟨_,Heap.get?_push_size _ rfl,rfl,by simp [OI]⟩,let⟨o,ho,r⟩:=pl;⟨o,Heap.get?_push_of_some _ ho,r⟩⟩ (fun b hb=>?_) (by simp) fun h' tk acc cc k hS hacc=>?_
   ·show b<(s1.heap.push _).objs.size
    rw[Heap.size_push]
    rcases List.mem_cons.mp hb with rfl|hb
    ·exact Nat.lt_succ_self _
    ·rcases List.mem_cons.mp hb with rfl|hb
     ·exact Nat.lt_succ_of_lt dP
     ·cases hb
   ·exact fin aD _ h' tk acc cc r1 hz I2 (I1.DT (Nat.le_refl _) I1.fresh) k hS hacc
theorem Lk (hm:X.mg "list" = none)(hm2:X.mg "reversed" = none)(ha:JA X C sub E [a] [x])(hc:X.calm=true:=by kernel_rfl)(hg:X.env.kindOf "list" = some .globalImplicit:=by kernel_rfl)(hg2:X.env.kindOf "reversed" = some .globalImplicit:=by kernel_rfl)
 (he:starEach [.Call (.Name "reversed" p2) [a] [] pos2] X.env=(false,eval (.Call (.Name "reversed" p2) [a] [] pos2) X.env)::starEach [] X.env:=by kernel_rfl)(eJ:(backTo pos (starEach [] X.env)).any (·.1)=false:=by kernel_rfl)
 (he2:starEach [a] X.env=(false,eval a X.env)::starEach [] X.env:=by kernel_rfl)(hpl2:(backTo pos2 (starEach [] X.env)).any (·.1)=false:=by kernel_rfl):
 JE X C sub E (.Call (.Name "list" p) [.Call (.Name "reversed" p2) [a] [] pos2] [] pos) (.bit .list .rev [x]):=⟨Hm hm hm2 hc ha.h hg hg2 he eJ he2 hpl2⟩
end
end L3
end
section
namespace L3
open PySem PySem.Spec PyProof.Rows L2
theorem Ct {K:PySem.W.Frag}{h:Heap}{mg:Str->Option Value}(X:K.In h)(G:h.Ns mainGlobals mg){n:Str}{i:Int}{t:Tok}(a:PySem.W.nsIn K mainGlobals n=some (some (.int i t))):GC K mg n (.int i):=⟨_,.int i,PySem.W.mg_of X G a,⟨t,rfl⟩,fun _=>.int i⟩
theorem Cb {K:PySem.W.Frag}{h:Heap}{mg:Str->Option Value}(X:K.In h)(G:h.Ns mainGlobals mg){n:Str}{x:Str}{w:List Nat}{t:Tok}(a:PySem.W.nsIn K mainGlobals n=some (some (.str x t)))(e:x=⟨w.toArray⟩):GC K mg n (.str w):=⟨_,.str x,PySem.W.mg_of X G a,⟨t,rfl⟩,fun _=>by rw[e];exact .str w⟩
noncomputable def NW:D->Value->Bool
 |.non,.none=>true
 |.bl b,.bool c=>b==c
 |.int i,.int j _=>i==j
 |.str w,.str x _=>w==x.cps.toList
 |_,_=>false
noncomputable def HA:List D->List Value->Bool
 |[],[]=>true
 |d::ds,u::us=>NW d u&&HA ds us
 |_,_=>false
noncomputable def VS:D->V
 |.bl b=>.bl b
 |.int i=>.int i
 |.str w=>.str ⟨w.toArray⟩
 |_=>.non
theorem TY {K:PySem.W.Frag}{H:Hp}{d:D}{u:Value}(h:NW d u=true):L2.RelV (VS d) u/\Rep K H d (VS d):=by
 unfold NW at h
 split at h
 ·exact⟨rfl,.non⟩
 ·exact⟨by rw[eq_of_beq h];rfl,.bl _⟩
 ·exact⟨⟨_,by rw[eq_of_beq h]⟩,.int _⟩
 ·rename_i w x t
  exact⟨⟨t,by rw[eq_of_beq h]⟩,.str w⟩
 ·cases h
theorem HI {K:PySem.W.Frag}{H:Hp}:∀{ds:List D}{us:List Value},HA ds us=true->aQ (ds.map VS) us/\aI K H ds (ds.map VS)
 |[],[],_=>⟨.nil,.nil⟩
 |d::ds,u::us,h=>by
  simp only[HA,Bool.and_eq_true]at h
  have r:=TY (K:=K) (H:=H) h.1
  have s:=HI (K:=K) (H:=H) h.2
  exact⟨.cons r.1 s.1,.cons r.2 s.2⟩
 |[],_::_,h=>by cases h
 |_::_,[],h=>by cases h
theorem P1 {K:PySem.W.Frag}{h:Heap}{mg:Str->Option Value}(X:K.In h)(G:h.Ns mainGlobals mg){n:Str}{ds:List D}{p:Addr}{aD:Array Value}{k:Nat}{sl:Array (Option Value)}(a:PySem.W.nsIn K mainGlobals n=some (some (.ref p)))
 (l:K.lookup p=some ⟨.type "tuple", none,.seq aD k,sl⟩)(f:HA ds aD.toList=true)(z:Nat.ble aD.size 1000=true):GC K mg n (.tup ds):=by
 refine⟨_,.ref p,PySem.W.mg_of X G a,rfl,fun H=>?_⟩
 have s:=HI (K:=K) (H:=H) f
 exact .tup (.inr ⟨_,aD,k,l,rfl,rfl,rfl,Nat.le_of_lt (QL (Nat.le_of_ble_eq_true z)),s.1⟩) s.2
end L3
end
section
namespace L3
open PySem PySem.Spec PyProof.Rows L2
noncomputable def Cs:D->PyData
 |.bl b=>.bool b
 |.int i=>.int i
 |.str w=>.str ⟨w.toArray⟩
 |_=>.none
noncomputable def Li:D->Bool
 |.non=>true
 |.bl _=>true
 |.int _=>true
 |.str _=>true
 |_=>false
noncomputable def vZ:List D->List D->List (Str×PyData)
 |.str w::ks,v::vs=>(⟨w.toArray⟩,Cs v)::vZ ks vs
 |_,_=>[]
noncomputable def VX:List D->List D->Bool
 |[],[]=>true
 |.str _::ks,v::vs=>Li v&&VX ks vs
 |_,_=>false
theorem Fh {v:D}(h:Li v=true):sV (Cs v)=v/\nY (Cs v)=true:=by
 cases v<;>first|exact⟨rfl,rfl⟩|cases h
theorem RD:∀{ks vs:List D},VX ks vs=true->((vZ ks vs).all fun p=>nY p.2)=true/\ks=(vZ ks vs).map (fun p=>.str p.1.cps.toList)/\vs=(vZ ks vs).map (fun p=>sV p.2)
 |[],[],_=>⟨rfl,rfl,rfl⟩
 |.str w::ks,v::vs,h=>by
  simp only[VX,Bool.and_eq_true]at h
  obtain⟨a,b,c⟩:=RD h.2
  obtain⟨d,e⟩:=Fh h.1
  refine⟨?_,?_,?_⟩
  ·simp only[vZ,List.all_cons,e,a,Bool.and_self]
  ·simp only[vZ,List.map_cons];rw[<-b]
  ·simp only[vZ,List.map_cons,d];rw[<-c]
 |[],_::_,h=>by cases h
 |.str _::_,[],h=>by cases h
 |.non::_,_,h=>by cases h
 |.bl _::_,_,h=>by cases h
 |.int _::_,_,h=>by cases h
 |.tup _::_,_,h=>by cases h
 |.ref _::_,_,h=>by cases h
 |.cW _ _::_,_,h=>by cases h
 |.bK _::_,_,h=>by cases h
 |.exc _::_,_,h=>by cases h
theorem Dr {K:PySem.W.Frag}{h:Heap}{mg:Str->Option Value}(X:K.In h)(G:h.Ns mainGlobals mg){n:Str}{ks vs:List D}{p:Addr}{es:Array DictEntry}{ep:Nat}(a:PySem.W.nsIn K mainGlobals n=some (some (.ref p)))
 (l:K.lookup p=some ⟨.type "dict", none,.dict es ep,#[]⟩)(f:(KTD.rowsLook KTD.flatLooks es.toList (vZ ks vs)&&VX ks vs && !(p==sysModules))=true):GC K mg n (.cW ks vs):=by
 simp only[Bool.and_eq_true]at f
 obtain⟨⟨f1,f2⟩,f3⟩:=f
 obtain⟨a1,a2,a3⟩:=RD f2
 refine⟨_,.ref p,PySem.W.mg_of X G a,rfl,fun H=>.cW ⟨vZ ks vs,?_,a1,a2,a3⟩⟩
 simp only[KTD.tabLook,l,f1,f3]
 rfl
end L3
end
section
namespace L3
open PySem PySem.Spec PyProof.Rows L2 PySem.SeqAt
theorem LD {β:Type}(n:Nat)(b:β)(f:Nat->β->Sem (ForInStep β)):forIn [0:n] b f=forIn (List.range' 0 n 1) b f:=by
 rw[Std.Legacy.Range.forIn_eq_forIn_range']
 have iU:([0:n]:Std.Legacy.Range).size=n:=by simp [Std.Legacy.Range.size]
 show forIn (List.range' 0 ([0:n]:Std.Legacy.Range).size 1) b f=_
 rw[iU]
theorem BP {prog:Program}{w:World}{A:Around}{E:Value->Shared->Prop}{s:Shared}{t:Addr}{items:Array Value}{x:Value}{e:Value->Bool}{j:Nat}{P:Fin->Shared->Prop}(ht:IsTup s.heap t items)
  (he:∀ y,y∈items->EqAt A s y x (e y))(hj:j<items.size)(hit:e items[j]=true)(hno:∀ m (hm:m<items.size),m<j->e items[m]=false)
  (h:P (.done (.ret (.int j s.toks))) { s with toks:=s.toks+1 }):wpAny (model prog w) A (Builtin.«tuple.index» ⟨[.ref t,x],[]⟩) P E s:=by
 show wpAny _ _ (Builtin.Tuple.tupleItemsOf (.ref t) >>= _) _ _ s
 refine wpAny_bind (tupleItemsOf_ ht ?_)
 show wpAny _ _ (forIn [0:min items.size items.size] _ _ >>= _) _ _ s
 rw[Nat.min_self,LD]
 refine wpAny_bind (wpAny_mono (Q:=fun(b:Option PySem.Fin×Unit) s'=>b.1=some (.done (.ret (.int j s.toks)))/\s' = { s with toks:=s.toks+1 }) (wpAny_forIn_list (β:=Option PySem.Fin×Unit) _ (fun rest b s'=>s'=s/\b.1=none/\∃ i,rest=List.range' i (items.size-i) 1/\i<=j) _ ?_ ?_ _ _ ⟨rfl,rfl,0,rfl,Nat.zero_le _⟩) ?_ fun _ _ z=>z)
 ·rintro i rest b s' ⟨rfl,hb,k,hk,hkj⟩
  have dP:k<items.size:=by omega
  have e1:items.size-k=(items.size-(k+1))+1:=by omega
  rw[e1,List.range'_succ]at hk
  injection hk with h1 h2
  subst h1
  have hg:items[i]? = some items[i]:=by simp [dP]
  rw[hg]
  show wpAny _ _ (eqBool items[i] x >>= _) _ _ _
  refine wpAny_bind (he _ (Array.getElem_mem dP) prog w _ _ ?_)
  by_cases hij:i=j
  ·subst hij
   rw[hit]
   exact wpAny_bind (wpAny_bind (wpAny_mkInt (wpAny_pure (wpAny_pure ⟨rfl,rfl⟩))))
  ·rw[hno i dP (by omega)]
   exact wpAny_pure ⟨rfl,rfl,i+1,h2,by omega⟩
 ·rintro b s' ⟨_,_,i,hi,hij⟩
  have:(List.range' i (items.size-i) 1).length=0:=by rw[<-hi];rfl
  simp at this
  omega
 ·rintro⟨b1,b2⟩ s' ⟨hb,rfl⟩
  simp only at hb
  subst hb
  exact wpAny_pure h
end L3
end
section
namespace L3
open PySem PySem.Spec PyProof.Rows L2 PySem.SeqAt
section
variable {X:Cx}
theorem K0 {pins:List (Addr×Obj)}{s:Shared}{σ:L2.St}{H:Hp}{st:aB}(I:Inv X pins σ H s)(ok:aR X.K st H){ds:List D}{vs:List V}{aD:List Value}{d:D}{v:V}{u:Value}{A:Around}
  (g:aI X.K H ds vs)(r:aQ vs aD)(p:dU st ds)(pd:plainS st d)(rd:Rep X.K H d v)(rv:RelV v u)(hu:A.units+178<cLine):
  ∃ e:Value->Bool,(∀ y,y∈aD.toArray->EqAt A.in1 s y u (e y))/\∀ j (hj:j<aD.length)(hj':j<ds.length),e aD[j]=bR st ds[j] d:=by
 classical
 have hD:lT=80:=rfl
 have item:∀(d':D)(v':V)(y:Value),d'∈ds->Rep X.K H d' v'->RelV v' y->EqAt A.in1 s y u (bR st d' d):=fun d' v' y m r' bD=>by
  have h1:=iW m
  have h2:=p.2
  exact(NF I ok 80 (by omega) (gH p.1 m) pd.1 r' bD rd rv (by simp only[Around.in1_units];omega)).2.1
 let e:Value->Bool:=fun y=>decide (∃ d' v',d'∈ds/\Rep X.K H d' v'/\RelV v' y/\bR st d' d=true)
 have he:∀(d':D)(v':V)(y:Value),d'∈ds->Rep X.K H d' v'->RelV v' y->e y=bR st d' d:=fun d' v' y m r' bD=>by
  show decide _=_
  cases q:bR st d' d with
  |true=>exact decide_eq_true ⟨d',v',m,r',bD,q⟩
  |false =>
   refine decide_eq_false fun⟨d2,v2,m2,r2,rv2,q2⟩=>?_
   cases RelV.inj bD rv2
   have:=JJ I ok _ (Nat.le_refl _) (gH p.1 m) (gH p.1 m2) r' r2
   subst this
   rw[q]at q2;cases q2
 refine⟨e,fun y hy=>?_,fun j hj hj'=>?_⟩
 ·obtain⟨j,hj,rfl⟩:=Array.mem_iff_getElem.mp hy
  obtain⟨v',e1,e2⟩:=aQ.at r hj
  obtain⟨d',e3,e4⟩:=aI.get' g e1
  rw[he d' v' _ (List.mem_of_getElem? e3) e4 e2]
  exact item d' v' _ (List.mem_of_getElem? e3) e4 e2
 ·obtain⟨v',e1,e2⟩:=aQ.at r (by simpa using hj)
  obtain⟨d',e3,e4⟩:=aI.get' g e1
  have e5:ds[j]=d':=(List.getElem?_eq_some_iff.mp e3).2
  rw[e5]
  exact he d' v' _ (List.mem_of_getElem? e3) e4 (by simpa using e2)
theorem wG {st:aB}{d:D}:∀{ds:List D}{j:Nat},findD st d ds=some j->∃ hj:j<ds.length,bR st ds[j] d=true/\∀ m (hm:m<ds.length),m<j->bR st ds[m] d=false
 |[],_,h=>by cases h
 |x::r,j,h=>by
  have h:(if bR st x d=true then some 0 else(findD st d r).map (·+ 1))=some j:=h
  by_cases c:bR st x d=true
  ·rw[if_pos c]at h;cases h
   exact⟨by simp,c,fun m _ hm=>by omega⟩
  ·rw[if_neg c]at h
   obtain⟨k,e,rfl⟩:=Option.map_eq_some_iff.mp h
   obtain⟨h1,h2,h3⟩:=wG e
   refine⟨by simpa using h1,by simpa using h2,fun m hm hl=>?_⟩
   cases m with
   |zero=>simpa using c
   |succ m=>simpa using h3 m (by simpa using hm) (by omega)
theorem index_list {pins:List (Addr×Obj)}{s:Shared}{σ:L2.St}{H:Hp}{st:aB}{R:VK}{ds:List D}{vs:List V}{d:D}{v:V}{u:Value}{a:Addr}{j:Nat}(hu:X.A.units+180<cLine)(I:Inv X pins σ H s)(ok:aR X.K st H)(f:cG X.K H a vs)(g:aI X.K H ds vs)
  (rd:Rep X.K H d v)(rv:RelV v u)(pd:plainS st d)(ps:dU st ds)(hj:findD st d ds=some j)(q:R (.int (j:Nat)) st):wpAny (model X.prog X.w) X.A (call (.builtin "list.index") [.ref a,u]) (EP X pins σ (QD X.K H st R)) X.xe s:=by
 obtain⟨aD,r1,p1,hz⟩:=I.list f
 obtain⟨e,he,ha⟩:=K0 I ok g r1 ps pd rd rv (A:=X.A) (by omega)
 obtain⟨h1,h2,h3⟩:=wG hj
 have l1:=g.length
 have l2:=r1.length
 have hn:=qX
 obtain⟨⟨cls,dd,data,sl⟩,ho,hc,n,hd⟩:=id p1.isList
 simp only at hc hd
 subst hc hd
 refine call_meets PySem.F.slot_list_index ⟨_,ho,rfl⟩ PySem.F.entry_list_index (PySem.F.args_list_index_2 _ _)
  (list_indexAt a aD.toArray n dd sl u e j (by simp;omega) (by omega) ?_ ?_) ⟨ho,he,?_⟩
 ·show e aD[j]=true
  rw[ha j (by omega) h1];exact h2
 ·intro m hm hl
  have hm:m<aD.length:=by simpa using hm
  show e aD[m]=false
  rw[ha m hm (by omega)];exact h3 m (by omega) hl
 ·exact⟨.int j,H,I.tok _,⟨_,rfl⟩,.here ok (.int _) q⟩
theorem RT {pins:List (Addr×Obj)}{s:Shared}{σ:L2.St}{H:Hp}{st:aB}{R:VK}{ds:List D}{vs:List V}{d:D}{v:V}{u:Value}{a:Addr}{j:Nat}(hu:X.A.units+180<cLine)(I:Inv X pins σ H s)(ok:aR X.K st H)(f:dZ X.K H a vs)(g:aI X.K H ds vs)
  (rd:Rep X.K H d v)(rv:RelV v u)(pd:plainS st d)(ps:dU st ds)(hj:findD st d ds=some j)(q:R (.int (j:Nat)) st):wpAny (model X.prog X.w) X.A (call (.builtin "tuple.index") [.ref a,u]) (EP X pins σ (QD X.K H st R)) X.xe s:=by
 obtain⟨aD,r1,p1,hz⟩:=I.tuple f
 obtain⟨e,he,ha⟩:=K0 I ok g r1 ps pd rd rv (A:=X.A) (by omega)
 obtain⟨h1,h2,h3⟩:=wG hj
 have l1:=g.length
 have l2:=r1.length
 refine wpAny_call_entry PySem.F.slot_tuple_index p1.typeIs PySem.F.entry_tuple_index (BP p1 he (j:=j) (by simp;omega) ?_ ?_ ⟨_,rfl,?_⟩) (PySem.F.args_tuple_index_2 _ _)
 ·show e aD[j]=true
  rw[ha j (by omega) h1];exact h2
 ·intro m hm hl
  have hm:m<aD.length:=by simpa using hm
  show e aD[m]=false
  rw[ha m hm (by omega)];exact h3 m (by omega) hl
 ·exact⟨.int j,H,I.tok _,⟨_,rfl⟩,.here ok (.int _) q⟩
end
section
variable {X:Cx}{C:bH}{sub:Nat->Nat->Bool}{E:XK}{e o:Expr}{x y:Ex}{pos apos jZ:Pos}
noncomputable def Ba:D->Bool
 |.tup _=>true
 |_=>false
theorem KD {K:PySem.W.Frag}{H:Hp}{st:aB}{d:D}{v:V}{Kk:List Nat->List D->Prop}(ok:aR K st H)(r:Rep K H d v)(h:dW d st Kk):∃ a vs as ds,v=.ref a/\aI K H ds vs/\((Ba d=false/\cG K H a vs)∨(Ba d=true/\dZ K H a vs))/\Kk as ds:=by
 unfold dW at h
 split at h
 ·obtain⟨a,vs,rfl,f,g⟩:=r.bO
  exact⟨a,vs,_,_,rfl,g,.inr ⟨rfl,f⟩,h⟩
 ·cases r.cF
  obtain⟨ds,e,h⟩:=cT h
  obtain⟨vs,g1,g2⟩:=ok.lst e
  exact⟨_,vs,_,_,rfl,g2,.inl ⟨rfl,cG.of g1⟩,h⟩
 ·obtain⟨a,vs,rfl,f,g⟩:=r.kN
  exact⟨a,vs,_,_,rfl,g,.inl ⟨rfl,f.sq⟩,h⟩
 ·exact h.elim
theorem As (m:bM C C)(hu:X.A.units+180<cLine)(ho:JE X C sub E o x)(ha:JA X C sub E [e] [y])(jO:attributeBase o "index" X.env (eval o X.env)=eval o X.env:=by kernel_rfl)
  (tM:((backTo pos (starEach [e] X.env)).all (fun x=>!x.1)&&(backToKw pos (keywordEach [] X.env)).all (fun x=>x.1.isSome)&&decide ([e].length+([]:List Keyword).length+(if([]:List Keyword).isEmpty then 0 else 1)<30))=true:=by kernel_rfl)(jP:(apos.endLine==pos.line)=true:=by kernel_rfl)
  (hs:starEach [e] X.env=[(false,eval e X.env)]:=by kernel_rfl):
  JE X C sub E (.Call (.Attribute o "index" apos) [e] [] pos) (.cI .index x [y]):=⟨by
 intro pins s σ H Q I ⟨σd,st,R,r,ok,q,hq⟩
 refine wpAny_Call_method_late jO tM jP rfl (bA (ho.h pins s σ H _ I ⟨σd,st,_,r,ok,q,fun v H' z=>z⟩) fun v s1 ⟨x1,H1,I1,r1,d1,aC,cR,aL,rd1,q1⟩=>?_)
 obtain⟨rc,q1⟩:=q1
 obtain⟨a,vs,as,ds,rfl,g,ty,-⟩:=KD aL rd1 rc
 cases r1
 have rest:∀ id:String,(∀(s2:Shared)(H2:Hp)(aG:aB)(d2:D)(v2:V)(u2:Value),Inv X pins σ H2 s2->Step H1 aC H2 aG->aR X.K aG H2->Rep X.K H2 d2 v2->RelV v2 u2->jH .index d1 [d2] aG R->wpAny (model X.prog X.w) X.A (call (.builtin id) [.ref a,u2]) (EP X pins σ (QD X.K H2 aG R)) X.xe s2) ->
   wpAny (model X.prog X.w) X.A (callWith pos (.builtin id) [.ref a] (backTo pos (starEach [e] X.env)) []) (EP X pins σ Q) X.xe s1:=by
  intro id hc
  have hA:=ha.h pos pins s1 σ H1 _ I1 ⟨σd,aC,_,r.step ok cR,aL,lR [y] m q1,fun vs H' z=>z⟩
  rw[hs]at hA ⊢
  refine Calls.callWith_builtin (by rfl) (Calls.evalArgs_plain ?_)
  refine bA hA fun us s2 ⟨ws,H2,I2,r2,es,aG,gF,bY,rs2,l2,q2⟩=>?_
  match es,l2,ws,rs2,us,r2 with
  |[d2],_,_,.cons rd2 .nil,_,.cons rv2 .nil =>
   exact bA (hc s2 H2 aG d2 _ _ I2 gF bY rd2 rv2 q2) fun w s3 ⟨v3,H3,I3,r3,z⟩=>⟨v3,H3,I3,r3,hq _ _ (.after (cR.trans gF) z)⟩
 rcases ty with⟨tk,ty⟩|⟨tk,ty⟩
 ·obtain⟨aD,_,p1,_⟩:=I1.list ty
  refine⟨"list","list.index", PySem.F.plainAttrs_list,PySem.F.slot_list_index,PySem.F.type_list_index,p1.isList.typeIs,fun b e=>?_,rest _ fun s2 H2 aG d2 v2 u2 I2 gF bY rd2 rv2 q2=>?_⟩
  ·cases e
   obtain⟨o,n,e,c,hd,_⟩:=p1
   exact⟨o,e,hd⟩
  ·obtain⟨a',vs2,as2,ds2,e2,g2,ty2,pd,ps,q2⟩:=KD bY (rd1.step aL gF) q2
   cases e2
   obtain⟨j,hj,q2⟩:=eD q2
   rcases ty2 with⟨tk2,ty2⟩|⟨tk2,ty2⟩
   ·exact index_list hu I2 bY ty2 g2 rd2 rv2 pd ps hj q2
   ·rw[tk]at tk2;cases tk2
 ·obtain⟨aD,_,p1,_⟩:=I1.tuple ty
  refine⟨"tuple","tuple.index", PySem.F.plainAttrs_tuple,PySem.F.slot_tuple_index,PySem.F.type_tuple_index,p1.typeIs,fun b e=>?_,rest _ fun s2 H2 aG d2 v2 u2 I2 gF bY rd2 rv2 q2=>?_⟩
  ·cases e
   exact I1.Gn ty
  ·obtain⟨a',vs2,as2,ds2,e2,g2,ty2,pd,ps,q2⟩:=KD bY (rd1.step aL gF) q2
   cases e2
   obtain⟨j,hj,q2⟩:=eD q2
   rcases ty2 with⟨tk2,ty2⟩|⟨tk2,ty2⟩
   ·rw[tk]at tk2;cases tk2
   ·exact RT hu I2 bY ty2 g2 rd2 rv2 pd ps hj q2⟩
end
end L3
end
section
namespace L3
open PySem PySem.Spec PyProof.Rows L2 PySem.SeqAt
noncomputable def sW (val:Nat->Str):Nat->Nat
 |0=>0
 |i+1=>if((List.range i).map val).any (·== val i)then sW val i else sW val i+1
theorem QN (val:Nat->Str):∀ i,sW val i<=i
 |0=>Nat.le_refl _
 |i+1=>by
  have:=QN val i
  unfold sW
  split<;>omega
section
variable {prog:Program}{w:World}{A:Around}{R:Result->Shared->Prop}{I:Addr}{fp wr:List Addr}{G:Array GenState->Array GenState->Prop}{n:Nat}{P:Nat->Value->Prop}{St:Nat->Shared->Prop}
noncomputable abbrev pQ (prog:Program)(w:World)(val:Nat->Str)(S:Addr)(i:Nat)(h:Heap):Prop:=h.SetOf (strKind prog w) S (fun k=>((List.range i).map val).any (·== k)) (sW val i)
theorem K7 {val:Nat->Str}{S:Addr}{i:Nat}{h:Heap}(x:h.SetOf (strKind prog w) S (fun k'=>((List.range i).map val).any (·== k')||decide (k'=val i)) (if((List.range i).map val).any (·== val i)then sW val i else sW val i+1)):pQ prog w val S (i+1) h:=by
 refine SetOf_congr x (fun k=>?_) rfl
 rw[List.range_succ,List.map_append,List.any_append]
 congr 1
 simp only[List.map_cons,List.map_nil,List.any_cons,List.any_nil,Bool.or_false]
 by_cases e:k=val i
 ·subst e;simp
 ·rw[decide_eq_false e];symm;exact beq_eq_false_iff_ne.mpr fun z=>e z.symm
theorem S5 (W:WalksS prog w A.in1 I fp wr G n P St)(S:Addr)(hSf:S∉fp)(val:Nat->Str)(hval:∀ i v,P i v->∃ t,v=.str (val i) t)(hb:n+1<scanBound):
 ∀(k i:Nat)(s:Shared),n-i=k->i<=n->St i s->pQ prog w val S i s.heap->(∀ s',Moved (S::wr) G s s'->pQ prog w val S n s'.heap->R (.ok (.ret .none)) s') ->
  codeAny (model prog w) A (.builtin "set.update.loop" ⟨[.ref S,.ref I],[]⟩) R s:=by
 have hSw:S∉wr:=fun h=>hSf (W.sub _ h)
 have hsub:∀ b∈wr,b∈S::wr:=fun b hb=>List.mem_cons_of_mem _ hb
 have keep:∀{i:Nat}{s s':Shared},pQ prog w val S i s.heap->Moved wr G s s'->pQ prog w val S i s'.heap:=fun⟨o,es,ep,t,ho,rest⟩ hm=>⟨o,es,ep,t,hm.heap S _ hSw ho,rest⟩
 intro k
 induction k with
 |zero =>
 intro i s hk hi fM hS hR
 obtain rfl:i=n:=by omega
 refine codeAny_builtin PyProof.Rows.F.entry_set_update_loop ?_
 rw[Around.under_plainId PyProof.Rows.F.plain_set_update_loop _]
 show wpAny _ A.in1 (pyNext (.ref I) >>= _) _ _ s
 refine wpAny_bind (W.done s _ _ fM fun s' hm=>?_)
 show wpAny _ A.in1 (ret Value.none) _ _ s'
 exact wpAny_pure (hR s' (hm.mono hsub) (keep hS hm))
 |succ k ih =>
 intro i s hk hi fM hS hR
 have dP:i<n:=by omega
 refine codeAny_builtin PyProof.Rows.F.entry_set_update_loop ?_
 rw[Around.under_plainId PyProof.Rows.F.plain_set_update_loop _]
 show wpAny _ A.in1 (pyNext (.ref I) >>= _) _ _ s
 refine wpAny_bind (W.item i s _ _ dP fM fun v s' hP hst' hm=>?_)
 obtain⟨t,rfl⟩:=hval i v hP
 show wpAny _ A.in1 (holding [Value.str (val i) t] (setAdd S (.str (val i) t)) >>= _) _ _ s'
 refine wpAny_bind (wpAny_holding ?_)
 unfold setAdd
 refine wpAny_holding (wpAny_bind ((strKind prog w).pyHash (k:=val i) (strKind_is _ _ _ _) ?_))
 refine wpAny_setAddHashed_of (knd:=strKind prog w) (s:={ s' with toks:=s'.toks+1 }) (strKind_is _ _ _ _) rfl (show pQ prog w val S i s'.heap from keep hS hm) (by have:=QN val i;omega) fun h' hsb hS2=>?_
 refine wpAny_pure ⟨plainId_quiet PyProof.Rows.F.plain_set_update_loop _,ih (i+1) _ (by omega) dP (W.frame _ s' _ _ hst' (Nat.le_succ _) fun b hb o e=>?_) (K7 hS2) fun s'' hm'' hS''=>?_⟩
 ·rw[hsb.2 b (fun h:b=S=>hSf (by rw[<-h];exact hb))];exact e
 ·refine hR s'' (Moved.trans W.gtrans ((hm.mono hsub).then_heap (Nat.le_succ _) fun b o hb e=>?_) hm'') hS''
  rw[hsb.2 b (fun h:b=S=>hb (by rw[h];exact List.mem_cons_self))];exact e
end
section
variable {prog:Program}{w:World}{A:Around}{E:Value->Shared->Prop}{s:Shared}
noncomputable abbrev gR (led:Bool):Obj:={ cls:=.type "set", dict:=none,data:=.set #[] 0 (.fresh 0 0 led) }
theorem EB {l:Addr}{items:Array Value}{val:Nat->Str}{led:Bool}{Q:PySem.Fin->Shared->Prop}(hh:A.handled=none)(hl:s.heap.IsTuple l items)(hv:∀(i:Nat)(v:Value),items[i]? = some v->∃ t,v=.str (val i) t)(hb:items.size+1<scanBound)
  (h:∀(h':Heap)(tk:Nat),pQ prog w val s.heap.objs.size items.size h'->(∀ b o,s.heap.get? b=some o->h'.get? b=some o)->Q (.done (.ret .none)) { s with heap:=h',toks:=tk }):
  wpAny (model prog w) A (Builtin.«set.__init__» ⟨[.ref s.heap.objs.size,.ref l],[]⟩) Q E { s with heap:=s.heap.push (gR led) }:=by
 obtain⟨ol,hol,hcl,nl,hdl⟩:=hl
 obtain⟨ocls,odict,odata,oslots⟩:=ol
 simp only at hcl hdl
 subst hcl;subst hdl
 have hS:(s.heap.push (gR led)).get? s.heap.objs.size=some (gR led):=Heap.get?_push_size _ rfl
 have hT:Shared.TypeIs { s with heap:=s.heap.push (gR led) } (.ref s.heap.objs.size) "set":=⟨_,hS,rfl⟩
 have hol':(s.heap.push (gR led)).get? l=some { cls:=.type "tuple", dict:=odict,data:=.seq items nl,slots:=oslots }:=Heap.get?_push_of_some _ hol
 have hsls:=PySem.F.sub_tuple_set
 have hslf:=PySem.F.sub_tuple_frozenset
 have hne:(Value.type "tuple" == Value.type "dict")=false:=by decide
 have hl1:(s.heap.push (gR led)).IsTuple l items:=⟨_,hol',rfl,nl,rfl⟩
 unfold Builtin.«set.__init__» noKeywords Builtin.Frozenset.updateFrom
 generalize hPI:pyIter=PI
 wp_walk
 subst hPI
 refine wpAny_pyIter_tuple hl1 ?_
 refine wpAny_bind (wpAny_runValue ?_)
 have hlS:l<s.heap.objs.size:=Heap.lt_size hol
 have hh3:A.in1.handled=none:=by simp [hh]
 have iU:(s.heap.push (gR led)).objs.size=s.heap.objs.size+1:=Heap.size_push ..
 have hneI:l≠(s.heap.push (gR led)).objs.size:=by rw[iU];exact Nat.ne_of_lt (Nat.lt_succ_of_lt hlS)
 have hSf:s.heap.objs.size∉[(s.heap.push (gR led)).objs.size,l]:=by
  simp only[List.mem_cons,List.not_mem_nil,or_false,not_or]
  exact⟨by rw[iU];exact Nat.ne_of_lt (Nat.lt_succ_self _),Nat.ne_of_gt hlS⟩
 refine S5 ((Walks.tuple hh3 _ l hneI items).toS) s.heap.objs.size hSf val hv hb (items.size-0) 0 _ (by omega) (Nat.zero_le _) ⟨?hT1,?hT0⟩ ?hS0 ?hR
 case hT1=>exact⟨_,Heap.get?_push_size _ rfl,rfl,rfl⟩
 case hT0=>exact⟨_,Heap.get?_push_of_some _ hol',rfl,nl,rfl⟩
 case hS0=>exact SetOf_congr ((setObjOf_fresh (knd:=strKind prog w) led).setOf (Heap.get?_push_of_some _ hS) (by unfold scanBound;omega)) (fun _=>rfl) rfl
 case hR =>
  intro s' hm hS'
  obtain⟨h',g',d',tk',os'⟩:=s'
  have eg:g'=s.gens:=hm.gens
  have ed:d'=s.drawn:=hm.drawn
  have eo:os'=s.os:=hm.os
  subst eg;subst ed;subst eo
  show wpAny _ _ _ _ _ _
  refine wpAny_pure ?_
  show wpAny _ _ (ret Value.none) _ _ _
  refine wpAny_pure (h h' tk' hS' fun b o e=>?_)
  have hb1:b<s.heap.objs.size:=Heap.lt_size e
  exact hm.heap b o (by simp only[List.mem_cons,List.not_mem_nil,or_false,not_or];exact⟨Nat.ne_of_lt hb1,by rw[iU];exact Nat.ne_of_lt (Nat.lt_succ_of_lt hb1)⟩) (Heap.get?_push_of_some _ (Heap.get?_push_of_some _ e))
set_option maxHeartbeats 6400000 in
theorem KJ {l:Addr}{items:Array Value}{val:Nat->Str}{Q:Value->Shared->Prop}(hh:A.handled=none)(hl:s.heap.IsTuple l items)(hv:∀(i:Nat)(v:Value),items[i]? = some v->∃ t,v=.str (val i) t)(hb:items.size+1<scanBound)
 (h:∀(h':Heap)(tk:Nat),pQ prog w val s.heap.objs.size items.size h'->(∀ b o,s.heap.get? b=some o->h'.get? b=some o)->Q (.ref s.heap.objs.size) { s with heap:=h',toks:=tk }):
 wpAny (model prog w) A (call (.type "set") [.ref l]) Q E s:=by
 obtain⟨c,tl,hmro⟩:=PySem.F.called_set.mro
 have hmade:=PySem.F.called_set.made
 have hsub:=PySem.F.called_set.sub
 refine wpAny_call (codeAny_of_tree ?_)
 show wpAny _ _ (callAny (.type "set") _) _ _ _
 refine wpAny_pure ⟨Code.quiet_builtin _ (by decide +kernel),codeAny_builtin PySem.F.entry_type_call ?_⟩
 rw[Around.under_plain (weight_type_call_type "set" [.ref l] []) rfl]
 have h1:=PySem.F.called_set.notType
 have h2:=PySem.F.called_set.canCreate
 have hct:=PySem.F.typeCall_set_1 (.ref l)
 repeat (any_goals (first|assumption|wp_step))
 refine codeAny_mono (code_set_new_1 (.ref l) (E:=E) (Q₁:=fun obj s₁=>∃ led:Bool,obj=.ref s.heap.objs.size/\s₁ = { s with heap:=s.heap.push (gR led) }) fun led=>⟨led,rfl,rfl⟩) fun r s₁ hr=>?_
 cases r with
 |error e=>exact hr
 |ok fl =>
 cases fl with
 |ret obj =>
  obtain⟨led,rfl,rfl⟩:=hr
  have hT:Shared.TypeIs { s with heap:=s.heap.push (gR led) } (.ref s.heap.objs.size) "set":=⟨_,Heap.get?_push_size _ rfl,rfl⟩
  have hli:=PySem.F.called_set.init.lookup
  have hbi:=PySem.F.called_set.init.bind (.ref s.heap.objs.size)
  repeat (any_goals (first|assumption|wp_step))
  refine codeAny_mono (codeAny_call_builtin (R:=wants (fun r s₂=>r=.none/\∃ h' tk,s₂ = { s with heap:=h',toks:=tk }/\pQ prog w val s.heap.objs.size items.size h'/\(∀ b o,s.heap.get? b=some o->h'.get? b=some o)) E) PySem.F.called_set.init.plain PySem.F.entry_set_init (check_set_init_1 hT ?_)) fun r₂ s₂ hr₂=>?_
  ·exact EB (by simp [hh]) hl hv hb fun h' tk hS hk=>⟨rfl,h',tk,rfl,hS,hk⟩
  ·cases r₂ with
  |error e=>exact hr₂
  |ok fl₂ =>
   cases fl₂ with
   |ret r =>
   obtain⟨rfl,h',tk,rfl,hS',hk'⟩:=hr₂
   repeat (any_goals (first|assumption|wp_step))
   exact h _ _ hS' hk'
   |_=>exact hr₂.elim
 |_=>exact hr.elim
end
end L3
end
section
namespace L3
open PySem PySem.Spec PyProof.Rows L2 PySem.SeqAt
noncomputable abbrev nE (ws:List (List Nat))(i:Nat):Str:=⟨(ws.getD i []).toArray⟩
theorem str_beq (a b:List Nat):((⟨a.toArray⟩:Str)==⟨b.toArray⟩)=(a==b):=by
 by_cases h:a=b
 ·subst h;simp
 ·rw[beq_eq_false_iff_ne.mpr h]
  refine beq_eq_false_iff_ne.mpr fun e=>h ?_
  have e1:a.toArray=b.toArray:=congrArg Str.cps e
  simpa using e1
theorem QE (ws:List (List Nat)):∀(rest seen:List (List Nat)),ws=seen++rest->sW (nE ws) seen.length+zM seen rest=sW (nE ws) ws.length
 |[],seen,h=>by simp [h,zM]
 |w::r,seen,h=>by
  have ih:=QE ws r (seen++[w]) (by simp [h])
  rw[<-ih]
  have e1:nE ws seen.length=⟨w.toArray⟩:=by simp [nE,h]
  have e2:((List.range seen.length).map (nE ws)).any (·== nE ws seen.length)=seen.any (·== w):=by
   have e3:(List.range seen.length).map (nE ws)=seen.map fun x=>(⟨x.toArray⟩:Str):=by
    refine List.ext_getElem (by simp) fun i h1 h2=>?_
    have hi:i<seen.length:=by simpa using h1
    simp [nE,h,List.getElem?_append_left hi,List.getElem?_eq_getElem hi]
   rw[e3,e1,List.any_map]
   congr 1
   funext x
   exact str_beq x w
  simp only[List.length_append,List.length_cons,List.length_nil,zM]
  have e5:sW (nE ws) (seen.length+1)=if seen.any (·== w)=true then sW (nE ws) seen.length else sW (nE ws) seen.length+1:=by rw[<-e2];rfl
  show _=sW (nE ws) (seen.length+1)+_
  rw[e5]
  by_cases c:seen.any (·== w)=true
  ·rw[if_pos c,if_pos c];omega
  ·rw[if_neg c,if_neg c];omega
theorem FD {K:PySem.W.Frag}{H:Hp}:∀{ds:List D}{ws:List (List Nat)}{vs:List V}{us:List Value},strsOf ds=some ws->aI K H ds vs->aQ vs us->us.length=ws.length/\∀(i:Nat)(v:Value),us[i]? = some v->∃ t,v=.str (nE ws i) t
 |[],ws,_,_,h,.nil,.nil=>by cases h;exact⟨rfl,fun i v e=>by simp at e⟩
 |.str w::r,ws,_,_,h,.cons rd rs,.cons rv rvs=>by
  have h:(strsOf r).map (w :: ·)=some ws:=h
  obtain⟨ws',e,rfl⟩:=Option.map_eq_some_iff.mp h
  obtain⟨l,ih⟩:=FD e rs rvs
  refine⟨by simpa using l,fun i v e=>?_⟩
  cases i with
  |zero =>
   cases rd.str_inv
   obtain⟨t,rfl⟩:=rv
   simp at e
   exact⟨t,e.symm⟩
  |succ i=>exact ih i v (by simpa using e)
 |.non::_,_,_,_,h,_,_=>by cases h
 |.bl _::_,_,_,_,h,_,_=>by cases h
 |.int _::_,_,_,_,h,_,_=>by cases h
 |.tup _::_,_,_,_,h,_,_=>by cases h
 |.ref _::_,_,_,_,h,_,_=>by cases h
 |.cW _ _::_,_,_,_,h,_,_=>by cases h
 |.bK _::_,_,_,_,h,_,_=>by cases h
 |.exc _::_,_,_,_,h,_,_=>by cases h
theorem Pa {a b:D}{r:List D}{st:aB}{Q:VK}(h:gJ .rL (a::b::r) st Q):False:=by
 unfold gJ at h
 split at h<;>simp_all
section
variable {X:Cx}{C:bH}{sub:Nat->Nat->Bool}{E:XK}{a:Expr}{x:Ex}{p p2 pos pos2:Pos}
theorem Pz (hm:X.mg "len" = none)(hm2:X.mg "set" = none)(ha:JA X C sub E [a] [x])(hc:X.calm=true:=by kernel_rfl)(hg:X.env.kindOf "len" = some .globalImplicit:=by kernel_rfl)(hg2:X.env.kindOf "set" = some .globalImplicit:=by kernel_rfl)
  (he:starEach [.Call (.Name "set" p2) [a] [] pos2] X.env=(false,eval (.Call (.Name "set" p2) [a] [] pos2) X.env)::starEach [] X.env:=by kernel_rfl)(eJ:(backTo pos (starEach [] X.env)).any (·.1)=false:=by kernel_rfl)
  (he2:starEach [a] X.env=(false,eval a X.env)::starEach [] X.env:=by kernel_rfl)(hpl2:(backTo pos2 (starEach [] X.env)).any (·.1)=false:=by kernel_rfl):
  JE X C sub E (.Call (.Name "len" p) [.Call (.Name "set" p2) [a] [] pos2] [] pos) (.bi .rL [x]):=⟨by
 intro pins s σ H Q I ⟨σd,st,R,r,ok,q,hq⟩
 refine wpAny_Call_Name_kw (kO I hg hm eE ?_ (by decide) (by decide))
 rw[he]
 refine Calls.callWith_builtin (by show(false||(backTo pos (starEach [] X.env)).any (·.1))=false;rw[eJ];rfl) (Calls.evalArgs_plain ?_)
 show wpAny _ _ (spliced ((false,eval (.Call (.Name "set" p2) [a] [] pos2) X.env)::backTo pos (starEach [] X.env))) _ _ s
 refine Calls.spliced_cons ?_
 refine wpAny_Call_Name_kw (kO I hg2 hm2 Dg ?_ (by decide) (by decide))
 refine PyProof.Rows.callWith_type1 (bA (ha.h pos2 pins s σ H _ I ⟨σd,st,_,r,ok,q,fun vs H' z=>z⟩) fun us s1 ⟨vs,H1,I1,rv,ds,aC,cR,aL,rs,q1⟩=>?_) he2 hpl2
 match ds,rs,q1 with
 |[d],rs,q1 =>
  obtain⟨v,rfl,rd⟩:=rs.one
  obtain⟨u,rfl,ru⟩:=vals1 rv
  cases d with
  |tup es =>
   rw[E8]at q1
   obtain⟨ws,e1,hl,q1⟩:=eD q1
   obtain⟨l,vs,rfl,f,g⟩:=rd.bO
   cases ru
   obtain⟨aD,r1,pl,hz⟩:=I1.tuple f
   obtain⟨hlen,hat⟩:=FD e1 g r1
   have hh:X.A.handled=none:=I1.ok.hd hc
   refine KJ (val:=nE ws) hh (show s1.heap.IsTuple l aD.toArray from pl) (fun i v e=>hat i v (by simpa using e)) (by simp;unfold scanBound;omega) fun h' tk hS hk=>?_
   refine Calls.spliced_nil ?_
   have I2:Inv X pins σ H1 { s1 with heap:=h',toks:=tk }:=I1.kept hk
   obtain⟨o,es',ep,t,ho,hex,hd,hel,hmem,hb,hf,hn⟩:=hS
   refine call_len_set (s:={ s1 with heap:=h',toks:=tk }) ho hex hd hf (by unfold scanBound at hb;omega) ?_
   have hn2:es'.size=zM [] ws:=by
    rw[hn]
    have:=QE ws ws [] rfl
    simp only[List.length_nil,sW,Nat.zero_add]at this
    rw[this]
    simp [hlen]
   rw[hn2]
   exact⟨.int (zM [] ws:Nat),H1,I2.tok _,⟨_,rfl⟩,hq _ _ (.after cR (.here aL (.int _) q1))⟩
  |ref b =>
   obtain⟨_,_,z⟩:=cT (show cD aC b fun xs=>eU .rL xs aC R from q1)
   exact(show False from z).elim
  |_=>exact(show False from q1).elim
 |[],rs,q1=>exact(show False from q1).elim
 |_::_::_,rs,q1=>exact(Pa q1).elim⟩
end
end L3
end
section
namespace L3
open PySem PySem.Spec PyProof.Rows L2
theorem uM.pN {X:Cx}{C:bH}{n:Str}{i:Nat}{scope:Scope}{own cn:List Str}{fp:List Addr}{s:Shared}{H:Hp}{Ca:Addr}(h:uM X C n i):uM (mK X scope own cn fp s H Ca) C n i:=let⟨a,b⟩:=h;⟨a,b⟩
end L3
end
section
namespace L3
open PySem PySem.Spec PyProof.Rows L2
section
variable {K:PySem.W.Frag}{H:Hp}
theorem str_inj {a b:List Nat}(h:(⟨a.toArray⟩:Str)=⟨b.toArray⟩):a=b:=by
 have:a.toArray=b.toArray:=congrArg Str.cps h
 simpa using this
theorem iG.get {f:List Nat}{d:D}:∀{fs:List (List Nat×D)}{ws:List (Str×V)},iG K H fs ws->bS fs f=some d->∃ v,ws.lookup (⟨f.toArray⟩:Str)=some v/\Rep K H d v
 |[],_,_,h=>by cases h
 |(g,e)::fs,[],r,_=>by cases r.1
 |(g,e)::fs,(g',v)::ws,r,h=>by
  obtain⟨r1,r2⟩:=r
  simp only[List.map_cons,List.cons.injEq]at r1
  cases r2 with
  |cons rd rs =>
   simp only[bS]at h
   by_cases q:g=f
   ·rw[if_pos q]at h;cases h
    refine⟨v,?_,rd⟩
    simp [List.lookup,r1.1,q]
   ·rw[if_neg q]at h
    obtain⟨v',e1,e2⟩:=iG.get (fs:=fs) (ws:=ws) ⟨r1.2,rs⟩ h
    refine⟨v',?_,e2⟩
    have:((⟨f.toArray⟩:Str)==g')=false:=beq_eq_false_iff_ne.mpr fun z=>q (str_inj (by rw[z];exact r1.1.symm))
    simp only[List.lookup,this]
    exact e1
theorem iG.no {f:List Nat}:∀{fs:List (List Nat×D)}{ws:List (Str×V)},iG K H fs ws->bS fs f=none->ws.lookup (⟨f.toArray⟩:Str)=none
 |[],[],_,_=>rfl
 |[],_::_,r,_=>by cases r.1
 |(g,e)::fs,[],r,_=>by cases r.1
 |(g,e)::fs,(g',v)::ws,r,h=>by
  obtain⟨r1,r2⟩:=r
  simp only[List.map_cons,List.cons.injEq]at r1
  cases r2 with
  |cons rd rs =>
   simp only[bS]at h
   by_cases q:g=f
   ·rw[if_pos q]at h;cases h
   ·rw[if_neg q]at h
    have:((⟨f.toArray⟩:Str)==g')=false:=beq_eq_false_iff_ne.mpr fun z=>q (str_inj (by rw[z];exact r1.1.symm))
    simp only[List.lookup,this]
    exact iG.no (fs:=fs) (ws:=ws) ⟨r1.2,rs⟩ h
theorem iG.put {f:List Nat}{d:D}{v:V}(rd:Rep K H d v):∀{fs:List (List Nat×D)}{ws:List (Str×V)},iG K H fs ws->iG K H (qK f d fs) (iM ⟨f.toArray⟩ v ws)
 |[],[],_=>⟨rfl,.cons rd .nil⟩
 |[],_::_,r=>by cases r.1
 |(g,e)::fs,[],r=>by cases r.1
 |(g,e)::fs,(g',v')::ws,r=>by
  obtain⟨r1,r2⟩:=r
  simp only[List.map_cons,List.cons.injEq]at r1
  cases r2 with
  |cons rd' rs =>
   by_cases q:g=f
   ·have q':g'=(⟨f.toArray⟩:Str):=by rw[r1.1,q]
    simp only[qK,iM,if_pos q,if_pos q']
    exact⟨by simp [r1.1,r1.2],.cons rd rs⟩
   ·have q':¬g'=(⟨f.toArray⟩:Str):=fun z=>q (str_inj (r1.1.symm.trans z))
    simp only[qK,iM,if_neg q,if_neg q']
    have ih:=iG.put (f:=f) rd (fs:=fs) (ws:=ws) ⟨r1.2,rs⟩
    exact⟨by simp [r1.1,ih.1],.cons rd' ih.2⟩
theorem iG.length {fs:List (List Nat×D)}{ws:List (Str×V)}(r:iG K H fs ws):ws.length=fs.length:=by
 have:=congrArg List.length r.1
 simpa using this
end
theorem yZ {st:aB}{a:Nat}{P:List Nat->List (List Nat×D)->Prop}(h:mU st a P):∃ c fs,st a=some (.ins c fs)/\P c fs:=by
 unfold mU at h
 split at h
 ·exact⟨_,_,by assumption,h⟩
 ·exact h.elim
theorem zA {st:aB}{a:Nat}{P:List D->List D->Prop}(h:tabAt st a P):∃ c fs,st a=some (.tab c fs)/\P c fs:=by
 unfold tabAt at h
 split at h
 ·exact⟨_,_,by assumption,h⟩
 ·exact h.elim
theorem UP {c f:List Nat}{x:D}{st:aB}{Q:VK}(h:pH c f x st Q):∃ a fs d,x=.ref a/\st a=some (.ins c fs)/\bS fs f=some d/\Q d st:=by
 unfold pH at h
 split at h
 ·obtain⟨c',fs,e,rfl,q⟩:=yZ h
  obtain⟨d,e1,q⟩:=eD q
  exact⟨_,fs,d,rfl,e,e1,q⟩
 ·exact h.elim
theorem X3 {c f:List Nat}{v x:D}{st:aB}{Q:aB->Prop}(h:DH c f v x st Q):∃ a fs,x=.ref a/\st a=some (.ins c fs)/\fs.length<900/\Q (put st a (.ins c (qK f v fs))):=by
 unfold DH at h
 split at h
 ·obtain⟨c',fs,e,rfl,l,q⟩:=yZ h
  exact⟨_,fs,rfl,e,l,q⟩
 ·exact h.elim
theorem S3 {c m:List Nat}{x:D}{st:aB}(h:DZ c m x st):∃ a fs,x=.ref a/\st a=some (.ins c fs)/\bS fs m=none:=by
 unfold DZ at h
 split at h
 ·obtain⟨c',fs,e,rfl,q⟩:=yZ h
  exact⟨_,fs,rfl,e,q⟩
 ·exact h.elim
structure sN (K:PySem.W.Frag)(c:List Nat):Prop where
 h:∃ C,clsAt K c C/\uP K C
structure oN (K:PySem.W.Frag)(c f:List Nat):Prop where
 h:∀ C,clsAt K c C->qA K C ⟨f.toArray⟩
structure uG (X:Cx)(C:bH)(c:List Nat)(n:Str)(fid:Nat):Prop where
 h:∃ k f fd ps C0,eV X.prog X.w X.K X.mg X.base gP k f fd ps (fI X.K C fid)/\dN k X.A/\Binds X.K fd ps []/\clsAt X.K c C0/\uP X.K C0/\EL X.K C0 n f
structure HS (X:Cx)(C:bH)(c:List Nat)(n:Str)(fid:Nat):Prop where
 h:∃ k f fd ps C0,eV X.prog X.w X.K X.mg X.base gP k f fd ps (fI X.K C fid)/\dN (k+1) X.A/\Binds X.K fd ps []/\clsAt X.K c C0/\X.mg n=some (.ref C0)/\Mk X.K C0 f
theorem uG.pN {X:Cx}{C:bH}{c:List Nat}{n:Str}{i:Nat}{scope:Scope}{own cn:List Str}{fp:List Addr}{s:Shared}{H:Hp}{Ca:Addr}(h:uG X C c n i):uG (mK X scope own cn fp s H Ca) C c n i:=let⟨a,b⟩:=h;⟨a,b⟩
section
variable {X:Cx}{C:bH}{sub:Nat->Nat->Bool}{E:XK}{a b e o value:Expr}{es:List Expr}{x y:Ex}{xs:List Ex}{p pos apos pos':Pos}{n:Str}{c f:List Nat}{fid:Nat}
theorem Ii (hn:n=⟨f.toArray⟩)(hc:sN X.K c)(hna:oN X.K c f)(ho:PE X o (bW X.K (aF C sub E x)))(hb:attributeBase o n X.env (eval o X.env)=eval o X.env):PE X (.Attribute o n pos) (bW X.K (aF C sub E (.fld c f x))) :=
 (Ag ho hb).imp fun σ H Q ⟨σd,st,R,r,ok,q,hq⟩=>by
 refine⟨σd,st,_,r,ok,q,fun v H1 ⟨d,aC,s1,aL,r1,q1⟩=>?_⟩
 obtain⟨a,fs,d',rfl,e,ed,q1⟩:=UP q1
 cases r1.cF
 obtain⟨C0,dx,ws,h1,h2,h3⟩:=aL a _ e
 obtain⟨v,l,rv⟩:=iG.get h3 ed
 obtain⟨C',c1,c2⟩:=hc.h
 have eC:=c1.inj h1
 subst eC
 exact⟨a,C',dx,ws,v,rfl,h2,c2,by rw[hn];exact hna.h C' c1,by rw[hn];exact l,hq _ _ (.after s1 (.here aL rv q1))⟩
theorem Jb (hC:bM C C)(hn:n=⟨f.toArray⟩)(hc:sN X.K c)(hna:oN X.K c f)(ho:PE X o (bW X.K (aF C sub EF y)))(hv:PE X value (bW X.K (aF C sub EF x)))(hs:swapsWith value (some (.Attribute o n pos')) pos.line X.env=pure false):
 PS X (.Assign [.Attribute o n pos'] value pos) (iA X.K (wpS C sub (.asg (.fl c f y) x))) :=
 (De ho hv hs).imp fun D σ H ⟨σd,st,P,r,ok,q,h⟩=>by
 refine⟨σd,st,_,r,ok,rJ hC h.ex q,fun v H1 ⟨d,aC,s1,aL,rd,q1⟩=>?_⟩
 refine⟨σd,aC,_,r.step ok s1,aL,rJ hC h.ex q1,fun u H2 ⟨d2,aG,s2,bY,r2,q2⟩=>?_⟩
 obtain⟨a,fs,rfl,e,l,q2⟩:=X3 q2
 cases r2.cF
 obtain⟨C0,dx,ws,h1,h2,h3⟩:=bY a _ e
 obtain⟨C',c1,c2⟩:=hc.h
 have eC:=c1.inj h1
 subst eC
 have s3:Step H2 aG (upd H2 a (.ins C' dx (iM n v ws))) (put aG a (.ins c (qK f d fs))):=kI e
 have rd2:=(rd.step aL s2).step bY s3
 have h3':iG X.K (upd H2 a (.ins C' dx (iM n v ws))) fs ws:=⟨h3.1,h3.2.step bY s3⟩
 refine⟨a,C',dx,ws,rfl,h2,c2,by rw[hn];exact hna.h C' c1,by rw[h3.length];omega,h.nx _ _ _ _ (((r.step ok s1).step aL s2).step bY s3) ((s1.trans s2).trans s3) (bY.DQ e ?_) q2⟩
 exact⟨C',dx,_,c1,dH,by rw[hn]at *;exact iG.put rd2 h3'⟩
theorem Km {k:Nat}{fa:Addr}{fd:FuncData}{ps:List Str}{C0:Addr}{pl:Sem Bool}{m:List Nat}(hn:n=⟨m.toArray⟩)(hcl:clsAt X.K c C0)(hC0:uP X.K C0)(hm:EL X.K C0 n fa)(F:eV X.prog X.w X.K X.mg X.base gP k fa fd ps (fI X.K C fid))(hr:dN k X.A)(hb:Binds X.K fd ps [])
 (ho:PE X o (bW X.K (aF C sub EF x)))(ha:PA X (e::es) (jJ X.K (bJ C sub EF xs)))
 (fM:starEach (e::es) X.env=(false,eval e X.env)::starEach es X.env)(eJ:(backTo pos (starEach es X.env)).any (·.1)=false)
 (ht:eval (.Call (.Attribute o n apos) (e::es) [] pos) X.env=(do
  let ov <-eval o X.env
  standAt apos.atName
  let(f,first) <-holding [ov] (getMethod ov n pl)
  callWith pos f first (backTo pos (starEach (e::es) X.env)) (backToKw pos (keywordEach [] X.env)))):
 PE X (.Call (.Attribute o n apos) (e::es) [] pos) (bW X.K (aF C sub EF (.mcl c m fid x xs))) :=
 (WW (pl:=pl) ho hC0 hm F hr hb .nil M7 ha fM eJ ht).imp fun σ H Q ⟨σd,st,R,r,ok,q,hq⟩=>by
 refine⟨σd,st,_,r,ok,q,fun v H1 ⟨d,aC,s1,aL,r1,q1,q2⟩=>?_⟩
 obtain⟨a,fs,rfl,e0,l⟩:=S3 q1
 cases r1.cF
 obtain⟨C1,dx,ws,h1,h2,h3⟩:=aL a _ e0
 cases hcl.inj h1
 refine⟨a,dx,ws,rfl,h2,by rw[hn];exact iG.no h3 l,?_⟩
 refine⟨σd,aC,_,r.step ok s1,aL,q2,fun vs H2 ⟨ds,aG,s2,bY,r2,q3⟩=>?_⟩
 show fI X.K C fid (.ref a::(vs++[])) H2 Q E0
 rw[List.append_nil]
 exact⟨.ref a::ds,aG,R,.cons (.ref a) r2,bY,q3,fun v H' z=>hq _ _ (.after (s1.trans s2) z)⟩
theorem Oo {k:Nat}{fa:Addr}{fd:FuncData}{ps:List Str}{C0:Addr}(hcl:clsAt X.K c C0)(hM:Mk X.K C0 fa)(F:eV X.prog X.w X.K X.mg X.base gP k fa fd ps (fI X.K C fid))(hr:dN (k+1) X.A)(hg:Gl X n)(hmg:X.mg n=some (.ref C0))(hb:Binds X.K fd ps [])
 (ha:PA X (e::es) (jJ X.K (bJ C sub EF xs)))(hdb:(n==("__debug__" : Str))=false)(he:starEach (e::es) X.env=(false,eval e X.env)::starEach es X.env)(eJ:(backTo pos (starEach es X.env)).any (·.1)=false):
 PE X (.Call (.Name n p) (e::es) [] pos) (bW X.K (aF C sub EF (.mk c fid xs))) :=
 (WO hM F hr hg hmg hb .nil M7 ha hdb he eJ).imp fun σ H Q ⟨σd,st,R,r,ok,q,hq⟩=>by
 refine⟨σd,st,_,r,ok,q,fun vs H1 ⟨ds,aC,s1,aL,r1,q1⟩=>?_⟩
 intro x dx hx hdx hne
 show fI X.K C fid (.ref x::(vs++[])) _ _ E0
 rw[List.append_nil]
 have bY:aR X.K aC (upd H1 dx (.own x)):=aL.new hdx
 have s2:Step H1 aC (upd H1 dx (.own x)) aC:=jE hdx
 have hx2:upd H1 dx (.own x) x=none:=by rw[bQ (Ne.symm hne)];exact hx
 have s3:Step (upd H1 dx (.own x)) aC (upd (upd H1 dx (.own x)) x (.ins C0 dx [])) (put aC x (.ins c [])):=lY hx2
 have uS:aR X.K (put aC x (.ins c [])) (upd (upd H1 dx (.own x)) x (.ins C0 dx [])):=bY.TR hx2 ⟨C0,dx,[],hcl,dH,rfl,.nil⟩
 refine⟨.ref x::ds,put aC x (.ins c []),_,.cons (.ref x) ((r1.step aL s2).step bY s3),uS,q1 x (aL.fresh hx),fun v H' ⟨d,aA,s',fY,rd,ed,q'⟩=>?_⟩
 subst ed
 exact⟨rd.fJ,hq _ _ (.after ((s1.trans s2).trans (s3.trans s')) (.here fY (.ref x) q'))⟩
theorem fZ (c:List Nat)(hc:sN X.K c)(hna:oN X.K c f)(ho:JE X C sub E o x)(hn:n=⟨f.toArray⟩:=by kernel_rfl)(hb:attributeBase o n X.env (eval o X.env)=eval o X.env:=by kernel_rfl):JE X C sub E (.Attribute o n pos) (.fld c f x):=⟨Ii hn hc hna ho.h hb⟩
theorem xC (m:bM C C)(c:List Nat)(hc:sN X.K c)(hna:oN X.K c f)(ho:JE X C sub EF o y)(hv:JE X C sub EF value x)(hn:n=⟨f.toArray⟩:=by kernel_rfl)(hs:swapsWith value (some (.Attribute o n pos')) pos.line X.env=pure false:=by kernel_rfl):
 JS X C sub (.Assign [.Attribute o n pos'] value pos) (.asg (.fl c f y) x):=⟨Jb m hn hc hna ho.h hv.h hs⟩
theorem yC {pl:Sem Bool}{mm:List Nat}(h:uG X C c n fid)(ho:JE X C sub EF o x)(ha:JA X C sub EF (e::es) xs)(hn:n=⟨mm.toArray⟩:=by kernel_rfl)
 (fM:starEach (e::es) X.env=(false,eval e X.env)::starEach es X.env:=by kernel_rfl)(eJ:(backTo pos (starEach es X.env)).any (·.1)=false:=by kernel_rfl)
 (ht:eval (.Call (.Attribute o n apos) (e::es) [] pos) X.env=(do
  let ov <-eval o X.env
  standAt apos.atName
  let(f,first) <-holding [ov] (getMethod ov n pl)
  callWith pos f first (backTo pos (starEach (e::es) X.env)) (backToKw pos (keywordEach [] X.env))):=by rfl):
 JE X C sub EF (.Call (.Attribute o n apos) (e::es) [] pos) (.mcl c mm fid x xs):=⟨let⟨k,f,fd,ps,C0,h1,h2,h3,h4,h5,h6⟩:=h.h;Km hn h4 h5 h6 h1 h2 h3 ho.h ha.h fM eJ ht⟩
theorem Br (h:HS X C c n fid)(ha:JA X C sub EF (e::es) xs)(hg:X.env.kindOf n=some .globalImplicit:=by kernel_rfl)(hdb:(n==("__debug__" : Str))=false:=by kernel_rfl)(he:starEach (e::es) X.env=(false,eval e X.env)::starEach es X.env:=by kernel_rfl)(eJ:(backTo pos (starEach es X.env)).any (·.1)=false:=by kernel_rfl):
 JE X C sub EF (.Call (.Name n p) (e::es) [] pos) (.mk c fid xs):=⟨let⟨k,f,fd,ps,C0,h1,h2,h3,h4,h5,h6⟩:=h.h;Oo h4 h6 h1 h2 hg h5 h3 ha.h hdb he eJ⟩
end
end L3
end
section
namespace L3
open PySem PySem.Spec PyProof.Rows L2
section
variable {X:Cx}{pins:List (Addr×Obj)}{σ:L2.St}{H:Hp}{s:Shared}{st:aB}
mutual
theorem JR (I:Inv X pins σ H s):∀{d:D}{v:V}{u:Value},iL d=true->Rep X.K H d v->RelV v u->iY s.heap d u
 |_,_,u,_,.str x,rv=>by obtain⟨tk,rfl⟩:=rv;exact .str x tk
 |_,_,u,t,.tup h r,rv=>by
  cases rv
  obtain⟨aD,r1,⟨o,e,c,n,d⟩,_⟩:=I.tuple h
  exact .tup e c d (by simpa using LP I (by simpa [iL]using t) r r1)
 |_,_,_,t,.non,_=>by cases t
 |_,_,u,_,.bl b,rv=>by cases rv;exact .bl b
 |_,_,_,t,.int _,_=>by cases t
 |_,_,_,t,.ref _,_=>by cases t
 |_,_,_,t,.bK _ _,_=>by cases t
 |_,_,_,t,.cW _,_=>by cases t
theorem LP (I:Inv X pins σ H s):∀{ds:List D}{vs:List V}{us:List Value},iP ds=true->aI X.K H ds vs->aQ vs us->fW s.heap ds us
 |_,_,_,_,.nil,rv=>by cases rv;exact .nil
 |_,_,_,t,.cons h r,rv=>by
  simp only[iP,Bool.and_eq_true]at t
  cases rv with
  |cons r1 r2=>exact .cons (JR I t.1 h r1) (LP I t.2 r r2)
end
theorem key_is (I:Inv X pins σ H s){d:D}{v:V}{u:Value}(k:keyed d)(r:Rep X.K H d v)(rv:RelV v u):∃ a,u=.ref a/\v=.ref a/\(rW X.prog X.w).is s.heap d a:=by
 have h:=JR I k.txt r rv
 cases d with
 |tup ds =>
 obtain⟨a,vs,rfl,_,_⟩:=r.bO
 cases rv
 exact⟨a,rfl,rfl,k,h⟩
 |_=>exact k.elim
theorem CF (I:Inv X pins σ H s)(ok:aR X.K st H){a:Addr}{ks vs:List D}(e:st a=some (.tab ks vs)):∃(xs:List (D×Addr×Value))(ws:List V),H a=some (qO a xs)/\(a==sysModules)=false/\xs.map (·.1)=ks/\(∀ x∈xs,keyed x.1)/\aQ ws (xs.map (·.2.2))/\aI X.K H vs ws/\aI X.K H ks (xs.map fun x=>.ref x.2.1) /\
  s.heap.DictOfH (rW X.prog X.w) a xs:=by
 obtain⟨xs,ws,q,q0,q1,q2,q3,q4,q5,r⟩:=ok a _ e
 refine⟨xs,ws,q,q0,q1,q4,q5,r,q3,?_⟩
 obtain⟨⟨o,es,ep,h1,h2,h3,h4⟩,_⟩:=I.cB a _ q
 refine⟨o,es,ep,h1,h2,h3,h4,fun x hx=>?_,q2⟩
 obtain⟨j,hj⟩:=List.mem_iff_getElem?.mp hx
 have e1:ks[j]? = some x.1:=by rw[<-q1,List.getElem?_map,hj];rfl
 obtain⟨v,e2,rv⟩:=q3.get e1
 have e3:v=.ref x.2.1:=by
  rw[List.getElem?_map,hj]at e2
  exact(Option.some.inj e2).symm
 subst e3
 exact⟨q4 x hx,JR I (q4 x hx).txt rv rfl⟩
theorem HQ {xs:List (D×Addr×Value)}{k:D}(kk:keyed k)(h:∀ x∈xs,keyed x.1):(atKey xs k).isSome=(xs.map (·.1)).any fun y=>bI y k:=by
 induction xs with
 |nil=>rfl
 |cons x xs ih =>
 have ih:=ih fun y hy=>h y (by simp [hy])
 simp only[List.map_cons,List.any_cons,<-ih,EO (h x (by simp)).txt kk.txt]
 by_cases q:x.1=k
 ·simp [atKey,q]
 ·simp [atKey,q]
theorem MV {K:PySem.W.Frag}{k:D}(kk:keyed k){d:D}:∀{xs:List (D×Addr×Value)}{vs:List D}{ws:List V},(∀ x∈xs,keyed x.1)->aQ ws (xs.map (·.2.2))->aI K H vs ws->kA (xs.map (·.1)) vs k=some d->∃ p v,atKey xs k=some p/\RelV v p.2/\Rep K H d v
 |[],_,_,_,_,_,h=>by simp [kA]at h
 |x::xs,[],_,_,rv,r,h=>by simp [kA]at h
 |x::xs,d0::vs,ws,hk,rv,r,h=>by
  cases r with
  |cons r1 r2 =>
   cases rv with
   |cons v1 v2 =>
    simp only[List.map_cons,kA]at h
    rw[EO (hk x (by simp)).txt kk.txt]at h
    by_cases q:x.1=k
    ·rw[if_pos (by simpa using q)]at h;cases h
     exact⟨x.2,_,by simp [atKey,q],v1,r1⟩
    ·rw[if_neg (by simpa using q)]at h
     obtain⟨p,v,e1,e2,e3⟩:=MV kk (fun y hy=>hk y (by simp [hy])) v2 r2 h
     exact⟨p,v,by simpa [atKey,q]using e1,e2,e3⟩
end
section
variable {X:Cx}{C:bH}{sub:Nat->Nat->Bool}{E:XK}{a b e o i value:Expr}{x y z:Ex}{p pos apos pos':Pos}
theorem Jr (hu:X.A.units+180<cLine)(neg:Bool):nZ X (if neg=true then .NotIn else .In) (fun d d' st P=>vU d d' st fun b=>P (if neg=true then !b else b)):=by
 intro pins s σ H st d d' v v' u u' P I ok r rv r' bD q
 unfold vU at q
 split at q
 ·obtain⟨ks,vs,e,hk,q⟩:=zA q
  cases r'.cF
  cases bD
  obtain⟨xs,ws,t1,t2,t3,t4,t5,t6,t8,t7⟩:=CF I ok e
  obtain⟨ka,rfl,rfl,hka⟩:=key_is I hk r rv
  have hroom:(rW X.prog X.w).room X.A.in1:=by show X.A.in1.units+12<cLine;simp only[Around.in1_units];omega
  rw[<-t3,<-HQ hk t4]at q
  cases neg with
  |true=>exact wpAny_notIn_heap hroom hka t2 t7 ⟨_,rfl,q,I.tok _⟩
  |false=>exact wpAny_in_heap hroom hka t2 t7 ⟨_,rfl,q,I.tok _⟩
 ·exact q.elim
theorem O2 {neg:Bool}(hu:X.A.units+180<cLine)(ha:PE X a (bW X.K (aF C sub E x)))(hb:PE X b (bW X.K (aF C sub E y)))(hm:behindInMarks (if neg=true then .NotIn else .In) b=false):PT X (.Compare a [if neg=true then .NotIn else .In] [b] pos) (jD X.K (aF C sub E (.din neg x y))):=by
 intro pins s σ H Q I ⟨σd,st,R,r,ok,q,hq⟩
 refine wpAny_isTrue_Compare1 (bA (ha pins s σ H _ I ⟨σd,st,_,r,ok,q,fun v H' z=>z⟩) fun u s1 ⟨v,H1,I1,rv,d,aC,cR,aL,r1,q1⟩ =>
 bA (hb pins s1 σ H1 _ I1 ⟨σd,aC,_,r.step ok cR,aL,q1,fun v H' z=>z⟩) fun u' s2 ⟨v',H2,I2,bD,d',aG,gF,bY,r2,q2⟩ =>
 bA (Jr hu neg pins s2 σ H2 aG d d' v v' u u' (fun k=>R k aG) I2 bY (r1.step aL gF) rv r2 bD q2) fun w s3 ⟨k,e,q3,I3⟩=>?_) hm
 subst e
 exact wpAny_truthy_bool ⟨H2,I3,hq _ _ ⟨aG,cR.trans gF,bY,q3⟩⟩
noncomputable def Mz (K:PySem.W.Frag):R2:=fun v v' H Q=>∃ d d' st R,Rep K H d v/\Rep K H d' v'/\aR K st H/\qG d' d st R/\∀ v H',QD K H st R v H'->Q v H'
theorem Ee (hu:X.A.units+180<cLine):xB X (Mz X.K):=by
 intro value slice pins s σ H x y v u Q I rx ry h hs
 obtain⟨d,d',st,R,r1,r2,ok,q,hq⟩:=h
 unfold qG at q
 split at q
 ·obtain⟨ks,vs,e,hk,q⟩:=zA q
  obtain⟨d0,e0,q⟩:=eD q
  cases r1.cF
  cases rx
  obtain⟨xs,ws,t1,t2,t3,t4,t5,t6,t8,t7⟩:=CF I ok e
  obtain⟨ka,rfl,rfl,hka⟩:=key_is I hk r2 ry
  have hroom:(rW X.prog X.w).room X.A.in1:=by show X.A.in1.units+12<cLine;simp only[Around.in1_units];omega
  rw[<-t3]at e0
  obtain⟨pp,v0,e1,e2,e3⟩:=MV hk t4 t5 t6 e0
  refine subscriptTail_builtinR (x:=pp.2) t7.typeIs slot_dict_getitem.lookup ?_ hs
  exact wpAny_getItem_heap hroom hka t7 e1 ⟨rfl,v0,H,I.tok _,e2,hq _ _ (.here ok e3 q)⟩
 ·exact q.elim
theorem Kn (hu:X.A.units+180<cLine)(ha:PE X a (bW X.K (aF C sub E x)))(hb:PE X b (bW X.K (aF C sub E y)))(hp:tY b):PE X (.Subscript a b pos) (bW X.K (aF C sub E (.dix x y))) :=
 (VP (Ee hu) ha hb hp).imp fun σ H Q ⟨σd,st,R,r,ok,q,hq⟩=>by
 refine⟨σd,st,_,r,ok,q,fun v H1 ⟨d,aC,s1,aL,r1,q1⟩=>?_⟩
 refine⟨σd,aC,_,r.step ok s1,aL,q1,fun v' H2 ⟨d',aG,s2,bY,r2,q2⟩=>?_⟩
 exact⟨d,d',aG,R,r1.step aL s2,r2,bY,q2,fun v H' z=>hq _ _ (.after (s1.trans s2) z)⟩
theorem Lo {pins:List (Addr×Obj)}{σ:L2.St}{H:Hp}{s:Shared}(I:Inv X pins σ H s):sysModules<s.heap.objs.size:=by
 have h:mainGlobals<s.heap.objs.size:=(I.mod.glob.keeps I.bk).lt
 exact Nat.lt_trans (by decide) h
theorem sU {a:Addr}{xs:List (D×Addr×Value)}{w:World}:∀ h1 h2:Heap,ND a xs w h1->(∀ o,h1.get? a=some o->h2.get? a=some o)->ND a xs w h2:=fun h1 h2 ⟨o,es,ep,e,r⟩ k=>⟨o,es,ep,k o e,r⟩
theorem Dk:PE X (.Dict [] [] pos) (bW X.K (aF C sub E .dnew)):=fun pins s σ H Q I ⟨σd,st,R,r,ok,q,hq⟩=>by
 have hf:H s.heap.objs.size=none:=I.cB.fresh (Nat.le_refl _)
 refine wpAny_Dict_empty ⟨.ref s.heap.objs.size,_,I.laid (a:=s.heap.objs.size) (o:=qO s.heap.objs.size []) (t':=s.toks) (fun _ _ q=>Heap.get?_push_of_some _ q) (Nat.le_refl _) ?_,rfl,hq _ _ ⟨.ref s.heap.objs.size,put st s.heap.objs.size (.tab [] []),lY hf,ok.TR hf ?_,.ref _,q _ (ok.fresh hf)⟩⟩
 ·exact⟨⟨_,#[],0,Heap.get?_push_size _ rfl,⟨rfl,rfl,rfl⟩,rfl,rfl⟩,⟨_,Heap.get?_push_size _ rfl⟩,sU⟩
 ·exact⟨[],[],dH,beq_eq_false_iff_ne.mpr (Nat.ne_of_gt (Lo I)),rfl,List.nodup_nil,.nil,fun x hx=>(by cases hx),.nil,.nil⟩
theorem LZ {x v y:D}{st:aB}{Q:aB->Prop}(h:yX x v y st Q):∃ a ks vs,y=.ref a/\st a=some (.tab ks vs)/\keyed x/\(ks.any fun k=>bI k x)=false/\ks.length<10000/\Q (put st a (.tab (ks++[x]) (vs++[v]))):=by
 unfold yX at h
 split at h
 ·obtain⟨ks,vs,e,h1,h2,h3,q⟩:=zA h
  exact⟨_,ks,vs,rfl,e,h1,h2,h3,q⟩
 ·exact h.elim
theorem Oa (hC:bM C C)(hu:X.A.units+180<cLine)(ho:PE X o (bW X.K (aF C sub EF y)))(hi:PE X i (bW X.K (aF C sub EF z)))(hv:PE X value (bW X.K (aF C sub EF x)))(hs:swapsWith value (some (.Subscript o i pos')) pos.line X.env=pure false):
  PS X (.Assign [.Subscript o i pos'] value pos) (iA X.K (wpS C sub (.asg (.dk y z) x))):=by
 intro pins s σ H D I ⟨σd,st,P,r,ok,q,h⟩
 refine wpAny_Assign_Subscript (bA (hv pins s σ H _ I ⟨σd,st,_,r,ok,rJ hC h.ex q,fun v H' z=>z⟩) fun uv s1 ⟨v,H1,I1,rv,d,aC,cR,aL,rd,q1⟩ =>
  bA (ho pins s1 σ H1 _ I1 ⟨σd,aC,_,r.step ok cR,aL,rJ hC h.ex q1,fun v H' z=>z⟩) fun uo s2 ⟨vo,H2,I2,rvo,d2,aG,gF,bY,rd2,q2⟩ =>
  bA (hi pins s2 σ H2 _ I2 ⟨σd,aG,_,(r.step ok cR).step aL gF,bY,rJ hC h.ex q2,fun v H' z=>z⟩) fun ui s3 ⟨vi,H3,I3,rvi,d3,aU,s3s,uS,rd3,q3⟩=>?_) hs
 obtain⟨da,ks,vs,ed2,e,hk,hnew,hlen,q4⟩:=LZ q3
 ·subst ed2
  cases rd2.cF
  cases rvo
  obtain⟨xs,ws,t1,t2,t3,t4,t5,t6,t8,t7⟩:=CF I3 uS e
  obtain⟨ka,rfl,rfl,hka⟩:=key_is I3 hk rd3 rvi
  have hroom:(rW X.prog X.w).room X.A.in1:=by show X.A.in1.units+12<cLine;simp only[Around.in1_units];omega
  have hno:atKey xs d3=none:=by
   have:=HQ (k:=d3) hk t4
   rw[t3,hnew]at this
   cases q:atKey xs d3 with
   |none=>rfl
   |some p=>rw[q]at this;cases this
  have hxl:xs.length=ks.length:=by rw[<-t3];simp
  refine wpAny_setItem_heap hroom hka t7 (fun h' hm hsb=>?_) (by rw[fK,hxl];have h10:(10000:Nat)<=aY:=(by decide);omega)
  rw[storedH_new hno]at hm
  obtain⟨o',es,ep,m1,m2,m3,m4,m5,m6⟩:=id hm
  have hS:Step H3 aU (upd H3 da (qO da (xs++[(d3,ka,uv)]))) (put aU da (.tab (ks++[d3]) (vs++[d]))):=kI e
  have I4:Inv X pins σ (upd H3 da (qO da (xs++[(d3,ka,uv)]))) { s3 with heap:=h',toks:=s3.toks+(rW X.prog X.w).draws d3 }:=by
   refine I3.write (x:=da) (e:=da) (by rw[t1];exact True.intro) (.inl rfl) (fun b u hb z=>(hsb.2 b hb).trans z) ⟨o',m1⟩ ?_
   exact⟨⟨o',es,ep,m1,m2,m3,m4⟩,⟨o',m1⟩,sU⟩
  refine⟨σ,_,I4,h.nx _ _ _ _ ((((r.step ok cR).step aL gF).step bY s3s).step uS hS) (((cR.trans gF).trans s3s).trans hS) (uS.DQ e ?_) q4⟩
  refine⟨xs++[(d3,ka,uv)],ws++[v],dH,t2,by simp [t3],m6,?_,?_,?_,?_⟩
  ·rw[List.map_append]
   exact(t8.step uS hS).append (.cons (rd3.step uS hS) .nil)
  ·intro x hx
   rcases List.mem_append.mp hx with hx|hx
   ·exact t4 x hx
   ·simp only[List.mem_singleton]at hx;subst hx;exact hk
  ·rw[List.map_append];exact t5.append (.cons rv .nil)
  ·exact(t6.step uS hS).append (.cons ((((rd.step aL gF).step bY s3s)).step uS hS) .nil)
theorem Pf (hu:X.A.units+180<cLine)(ha:JE X C sub E a x)(hb:JE X C sub E b y)(hm:behindInMarks .In b=false:=by kernel_rfl):JT X C sub E (.Compare a [.In] [b] pos) (.din false x y):=⟨O2 (neg:=false) hu ha.h hb.h hm⟩
theorem Pq (hu:X.A.units+180<cLine)(ha:JE X C sub E a x)(hb:JE X C sub E b y)(hm:behindInMarks .NotIn b=false:=by kernel_rfl):JT X C sub E (.Compare a [.NotIn] [b] pos) (.din true x y):=⟨O2 (neg:=true) hu ha.h hb.h hm⟩
theorem KQ (hu:X.A.units+180<cLine)(ha:JE X C sub E a x)(hb:JE X C sub E b y)(hp:tY b:=by intro _ _;rfl):JE X C sub E (.Subscript a b pos) (.dix x y):=⟨Kn hu ha.h hb.h hp⟩
theorem Pt:JE X C sub E (.Dict [] [] pos) .dnew:=⟨Dk⟩
theorem Lq (m:bM C C)(hu:X.A.units+180<cLine)(ho:JE X C sub EF o y)(hi:JE X C sub EF i z)(hv:JE X C sub EF value x)(hs:swapsWith value (some (.Subscript o i pos')) pos.line X.env=pure false:=by kernel_rfl):
 JS X C sub (.Assign [.Subscript o i pos'] value pos) (.asg (.dk y z) x):=⟨Oa m hu ho.h hi.h hv.h hs⟩
end
end L3
end
section
namespace L3
open PySem PySem.Spec PyProof.Rows L2
theorem Cc {P:Program}{w:World}{K:PySem.W.Frag}{mg:Str->Option Value}{base:Heap}{G:Prog}{r k f:Nat}{fn:Fn}{x qual:Str}{st:Stmt}{a:Addr}{fd:FuncData}{N ps:List Str}(F:CZ K x qual st a fd)(S:tN N ps (aP st))
  (hG:G.fns f=some fn)(hp:fn.np=ps.length)(hl:fn.nl=N.length)
  (hb:∀(bL:Value)(A:Around)(outer:List Env)(s:Shared)(H:Hp)(E:L2.XK),dN r (A.deeper (envOfC qual (aP st) s.heap.objs.size a bL)) ->
   yB (mY gP P w K mg base N qual (aP st) a bL A outer s H E).wQ (aN G k) G.sub (iR st) fn.body):
  eV P w K mg base gP (r+1) a fd ps (fI K (aN G (k+1)) f):=by
 refine F.ok S (fun vs H Q E h=>?_) (fun bL A outer s H vs Q E hr h=>?_)
 ·obtain⟨ds,aA,R,r,_,h,_⟩:=h
  simp only[aN,hG]at h
  rw[<-r.length,h.1,hp]
 ·obtain⟨ds,aA,R,r,ok,h,hq⟩:=h
  simp only[aN,hG]at h
  refine⟨_,(hb bL A outer s H E hr).h,?_⟩
  refine⟨start fn.np fn.nl ds,aA,_,?_,ok,h.2,⟨fun σ' H' dR aS sr s' fY q=>?_,fun v H' z=>hq v H' z,fun _ _ _ _ _ _ _ q=>q,fun _ _ _ _ _ _ _ q=>q,fun _ _ _ q=>q⟩⟩
  ·rw[hl];exact RN r h.1
  ·exact hq _ _ ⟨.non,aS,s',fY,.non,q⟩
noncomputable def jW (s:Stmt)(j:Nat):Stmt:=match s with
 |.ClassDef _ _ _ body ..=>body.getD j (.Pass ⟨0,0,0,0⟩)
 |_=>.Pass ⟨0,0,0,0⟩
inductive At where
 |top
 |cI (c:List Nat)
 |init (c:List Nat)
noncomputable def Bd (K:PySem.W.Frag)(mg:Str->Option Value)(n:Str)(a:Addr):At->Prop
 |.top=>mg n=some (.ref a)
 |.cI c=>∃ C0,clsAt K c C0/\uP K C0/\EL K C0 n a
 |.init c=>∃ C0,clsAt K c C0/\mg ⟨c.toArray⟩=some (.ref C0)/\Mk K C0 a
structure BU (K:PySem.W.Frag)(mg:Str->Option Value)(nf:Nat)(nm qn:Nat->Str)(ps:Nat->List Str)(st:Nat->Stmt)(at_:Nat->At) where
 a:Nat->Addr
 fd:Nat->FuncData
 fn:∀ i,i<nf->CZ K (nm i) (qn i) (st i) (a i) (fd i)
 bi:∀ i,i<nf->Binds K (fd i) (ps i) []
 mg:∀ i,i<nf->Bd K mg (nm i) (a i) (at_ i)
theorem MH {P:Program}{w:World}{K:PySem.W.Frag}{mg:Str->Option Value}{base:Heap}{G:Prog}{nf:Nat}{nm qn:Nat->Str}{ps:Nat->List Str}{st:Nat->Stmt}{at_:Nat->At}(T:BU K mg nf nm qn ps st at_)
 (step:∀ k,(∀ i,i<nf->eV P w K mg base gP (2*k) (T.a i) (T.fd i) (ps i) (fI K (aN G k) i))->∀ i,i<nf->eV P w K mg base gP (2*k+1+1) (T.a i) (T.fd i) (ps i) (fI K (aN G (k+1)) i)):
 ∀ k i,i<nf->eV P w K mg base gP (2*k) (T.a i) (T.fd i) (ps i) (fI K (aN G k) i)
 |0,i,_=>YD
 |k+1,i,h=>step k (MH T step k) i h
noncomputable def EV (n q:Str)(ps:List Str)(st:Stmt):Prop:=∀(kV doc pm:Value)(an:Option Addr)(bL ct:Value)(us:List Value),us.length=ps.length->bindArgs (PySem.W.fnOf n q (mB st) (iR st) (aP st) .none kV doc pm an bL ct) ⟨us,[]⟩=pure (ps.zip us)
noncomputable def vT (K:PySem.W.Frag)(mg:Str->Option Value)(n q:Str)(st:Stmt)(at_:At):Prop:=∃ a fd,CZ K n q st a fd/\Bd K mg n a at_
theorem Ju {K:PySem.W.Frag}{h:Heap}{mg:Str->Option Value}(X:K.In h)(G:h.Ns mainGlobals mg){n:Str}{st:Stmt}{f:Addr}{oc:Value}{od an:Option Addr}{sl:Array (Option Value)}{kV dc pm cd ct:Value}
 (a:PySem.W.nsIn K mainGlobals n=some (some (.ref f)))(l:K.lookup f=some ⟨oc,od,.func (PySem.W.fnOf n n (mB st) (iR st) (aP st) .none kV dc pm an cd ct),sl⟩)(c:PySem.W.codeIn K cd n=true)(k:PySem.W.keepIn K (.ref f)=true):vT K mg n n st .top :=
 ⟨f,_,IZ l c k,PySem.W.mg_of X G a⟩
theorem Gy {K:PySem.W.Frag}{h:Heap}{mg:Str->Option Value}(X:K.In h)(G:h.Ns mainGlobals mg){n q:Str}{c:List Nat}{C:Addr}{st:Stmt}{f:Addr}{oc:Value}{od an:Option Addr}{sl:Array (Option Value)}{kV dc pm cd ct:Value}
 (cl:PySem.W.nsIn K mainGlobals ⟨c.toArray⟩=some (some (.ref C)))(pg:PySem.W.plainGet K C Str.empty=true)(hd:PySem.W.hasDictIn K C=true)(po:PySem.W.plainOver K C=true)(sa:PySem.W.findIn K (.ref C) "__setattr__" = some (some (.builtin "object.__setattr__")))
 (a:PySem.W.findIn K (.ref C) n=some (some (.ref f)))(fn:PySem.W.isFn K (.ref f)=true)
 (l:K.lookup f=some ⟨oc,od,.func (PySem.W.fnOf n q (mB st) (iR st) (aP st) .none kV dc pm an cd ct),sl⟩)(cc:PySem.W.codeIn K cd q=true)(k:PySem.W.keepIn K (.ref f)=true):vT K mg n q st (.cI c) :=
 ⟨f,_,IZ l cc k,C,cl,⟨pg,hd,po,sa⟩,⟨a,fn,k⟩⟩
theorem Hn {K:PySem.W.Frag}{h:Heap}{mg:Str->Option Value}(X:K.In h)(G:h.Ns mainGlobals mg){q:Str}{c:List Nat}{C:Addr}{st:Stmt}{f:Addr}{oc:Value}{od an:Option Addr}{sl:Array (Option Value)}{kV dc pm cd ct:Value}
 (cl:PySem.W.nsIn K mainGlobals ⟨c.toArray⟩=some (some (.ref C)))(mk:PySem.W.makesIn K C=true)(kp:PySem.W.keepIn K (.ref C)=true)
 (a:PySem.W.findIn K (.ref C) "__init__" = some (some (.ref f)))(fn:PySem.W.isFn K (.ref f)=true)
 (l:K.lookup f=some ⟨oc,od,.func (PySem.W.fnOf "__init__" q (mB st) (iR st) (aP st) .none kV dc pm an cd ct),sl⟩)(cc:PySem.W.codeIn K cd q=true)(k:PySem.W.keepIn K (.ref f)=true):vT K mg "__init__" q st (.init c) :=
 ⟨f,_,IZ l cc k,C,cl,PySem.W.mg_of X G cl,⟨mk,a,fn,kp⟩⟩
theorem Et {K:PySem.W.Frag}{c:List Nat}{C:Addr}(cl:PySem.W.nsIn K mainGlobals ⟨c.toArray⟩=some (some (.ref C)))(pg:PySem.W.plainGet K C Str.empty=true)(hd:PySem.W.hasDictIn K C=true)(po:PySem.W.plainOver K C=true)(sa:PySem.W.findIn K (.ref C) "__setattr__" = some (some (.builtin "object.__setattr__"))):sN K c:=⟨C,cl,pg,hd,po,sa⟩
theorem Gb {K:PySem.W.Frag}{c f:List Nat}{C:Addr}(cl:PySem.W.nsIn K mainGlobals ⟨c.toArray⟩=some (some (.ref C)))(na:PySem.W.findIn K (.ref C) ⟨f.toArray⟩=some none):oN K c f:=⟨fun C' h=>by cases clsAt.inj h cl;exact na⟩
theorem MX {K:PySem.W.Frag}{mg:Str->Option Value}{nm qn:Nat->Str}{ps:Nat->List Str}{st:Nat->Stmt}{at_:Nat->At}:∀(nf:Nat),(∀ i,i<nf->EV (nm i) (qn i) (ps i) (st i))->(∀ i,i<nf->vT K mg (nm i) (qn i) (st i) (at_ i))->FuncData->Nonempty (BU K mg nf nm qn ps st at_)
 |0,_,_,d=>⟨⟨fun _=>0,fun _=>d,fun i h=>absurd h (by omega),fun i h=>absurd h (by omega),fun i h=>absurd h (by omega)⟩⟩
 |nf+1,B,H,d=>by
  obtain⟨T⟩:=MX nf (fun i h=>B i (by omega)) (fun i h=>H i (by omega)) d
  obtain⟨a,fd,hF,hm⟩:=H nf (by omega)
  refine⟨⟨fun i=>if i=nf then a else T.a i,fun i=>if i=nf then fd else T.fd i,fun i h=>?_,fun i h=>?_,fun i h=>?_⟩⟩
  ·by_cases e:i=nf
   ·subst e;simpa using hF
   ·simpa only[if_neg e]using T.fn i (by omega)
  ·by_cases e:i=nf
   ·subst e;simpa using hF.binds (B i (by omega))
   ·simpa only[if_neg e]using T.bi i (by omega)
  ·by_cases e:i=nf
   ·subst e;simpa using hm
   ·simpa only[if_neg e]using T.mg i (by omega)
theorem OR {K:PySem.W.Frag}{n q x:Str}{st:Stmt}{a:Addr}{fd:FuncData}(F:CZ K n q st a fd)(h:EV n q [x] st)(s:Shared)(u:Value):BindsTo s fd ⟨[u],[]⟩ [(x,u)]:=by
 obtain⟨oc,od,kV,doc,pm,an,bL,ct,osl,rfl,lk,hcd⟩:=F.ex
 exact .of_eq (h kV doc pm an bL ct [u] rfl)
theorem Fy {l:PySem.W.OpenLaw}{q:Program}{loose:List Str}{XP:(Str->Option Value)->Heap->Prop}{YP:World->Heap->Prop}{d:DefRec}{K:Params->PySem.W.Frag}{G:Prog}{r k f:Nat}{x:Str}(hr:dN r callerA)(S8:∀ ns:List Int,ns.length<=63->aN G k f [.bK (ns.map .int)] (fun _=>none) (fun d _=>d=.bl true) fun _ _=>False)(hn:l.most=some 63)(hdf:d.params.defaults=[])
 (hY:∀(w:World)(h:Heap),YP w h->(K w.params).In h)
 (F:∀(w:World)(mg:Str->Option Value)(fa:Addr)(h:Heap),(K w.params).In h->h.Ns mainGlobals mg->mg d.name=some (.ref fa) ->
  ∃ fd:FuncData,(∀(s:Shared)(u:Value),BindsTo s fd ⟨[u],[]⟩ [(x,u)])/\∀ base:Heap,(K w.params).In base->base.Ns mainGlobals mg->eV l.prog w (K w.params) mg base gP r fa fd [x] (fI (K w.params) (aN G k) f)):
 PySem.W.WalkO q loose XP YP l.row.toRowW d [] (fun f vs=>PySem.call f vs) :=
 L2.YT (n:=63) (k:=r) (x:=x) (CX:=fun _=>gP) (sp:=fun w=>fI (K w.params) (aN G k) f) hn (by decide) hdf hr hY F (fun _ H a ns hl hO hS=>Cu S8 H a ns hl hO hS) fun _ _ _ _ _ z=>z
end L3
end
section
namespace L3
open PySem PySem.Spec PyProof.Rows L2
theorem tE {X:Cx}{pins:List (Addr×Obj)}{σ:L2.St}{H:Hp}{s:Shared}{h':Heap}{t':Nat}{ch:List Addr}(I:Inv X pins σ H s)(k:∀ b o,b∉ch->s.heap.get? b=some o->h'.get? b=some o)(f:∀ b∈ch,lD X pins H b):Inv X pins σ H { s with heap:=h',toks:=t' }:=by
 have nit:∀ b u,H b=some u->b∉ch:=fun b u e z=>by rw[(f b z).1]at e;cases e
 refine I.step (g':=s.gens) (d':=s.drawn) (ch:=ch) (fun b hb=>?_) (fun b o _ _ hc e _=>k b o hc e) (fun b o _ _ hc e _=>⟨o.slots,k b o hc e⟩) (fun _ _ _ _ n=>n)
  (fun b o hc e=>⟨o,k b o hc e⟩) (fun _ _ e=>e) (fun _ _ _ e=>e) (fun b ps e=>⟨#[],by rw[e];simp⟩) (fun m hm=>?_) (fun b u e=>?_) I.bare
 ·obtain⟨f0,f1,f2,f3,f4,f5⟩:=f b hb
  exact⟨f3,f1,f4,f5⟩
 ·obtain⟨o,es,ep,ho,r⟩:=hm
  exact⟨o,es,ep,k _ o (fun z=>(f _ z).2.1 rfl) ho,r⟩
 ·refine(I.cB b u e).xR (fun c v hc q=>k c v ?_ q) (fun _ q=>q) fun _ _ q=>q
  rcases hc with z|z
  ·rw[z];exact nit b u e
  ·exact nit c _ z
theorem JH {X:Cx}{pins:List (Addr×Obj)}{σ:L2.St}{H:Hp}{s:Shared}{h':Heap}{t':Nat}{ch:List Addr}{xs:List V}{us:List Value}(I:Inv X pins σ H s)(hz:xs.length<=sizeLine)(rv:aQ xs us)(k:∀ b o,b∉ch->s.heap.get? b=some o->h'.get? b=some o)(lt:∀ b∈ch,b<s.heap.objs.size)
  (hT:h'.get? s.heap.objs.size=some { cls:=.type "tuple", data:=.seq us.toArray })(f:∀ b∈ch,lD X pins H b):Inv X pins σ (upd H s.heap.objs.size (.tup xs)) { s with heap:=h',toks:=t' }:=by
 have I1:Inv X pins σ (upd H s.heap.objs.size (.tup xs)) { s with heap:=s.heap.push { cls:=.type "tuple", data:=.seq us.toArray },toks:=s.toks } :=
  I.laid (fun b u e=>Heap.get?_push_of_some _ e) (Nat.le_refl _) ⟨hz,us,rv,nW.new _ _⟩
 refine tE (s:={ s with heap:=s.heap.push { cls:=.type "tuple", data:=.seq us.toArray },toks:=s.toks }) (ch:=ch) I1 (fun b o hb e=>?_) fun b hb=>?_
 ·by_cases z:b=s.heap.objs.size
  ·subst z
   rw[show(s.heap.push { cls:=.type "tuple", data:=.seq us.toArray }).get? s.heap.objs.size=some { cls:=.type "tuple", data:=.seq us.toArray } from Heap.get?_push_size _ rfl]at e
   rw[hT,e]
  ·refine k b o hb ?_
   have dP:=Heap.lt_size e
   have iU:(s.heap.push { cls:=.type "tuple", data:=.seq us.toArray }).objs.size=s.heap.objs.size+1:=Heap.size_push ..
   have hlt2:b<s.heap.objs.size:=by
    have hq:b<(s.heap.push { cls:=.type "tuple", data:=.seq us.toArray }).objs.size:=dP
    rw[iU]at hq
    exact Nat.lt_of_le_of_ne (Nat.le_of_lt_succ hq) z
   have e':(s.heap.push { cls:=.type "tuple", data:=.seq us.toArray }).get? b=some o:=e
   rwa [Heap.get?_push_ne _ _ _ z]at e'
 ·obtain⟨f0,f1⟩:=f b hb
  exact⟨by rw[bQ (Nat.ne_of_lt (lt b hb))];exact f0,f1⟩
noncomputable def Em (K:PySem.W.Frag)(a:Addr):It :=
 ⟨fun i H=>∃ xs x,cG K H a xs/\xs[i]? = some x,fun i H v H'=>∃ T x,H T=none/\v=.ref T/\H'=upd H T (.tup [.int (i:Nat),x])/\∀ xs,cG K H a xs->xs[i]? = some x,fun i H=>∃ xs,cG K H a xs/\xs.length<=i⟩
theorem SD {P:Program}{w:World}{K:PySem.W.Frag}{elts:List Expr}{x1}{pos:Pos}(a e it:Addr)(hne:e≠it):Turn P w K (.Tuple elts x1 pos) (Em K a) [e,it] e (fun i h=>(∃ old,IsEnum h e it i old)/\h.IsListIter it a i) where
 mem:=by simp
 obj:=fun i h st b hb=>by
  obtain⟨⟨old,he⟩,o,e1,c,d⟩:=st
  simp only[List.mem_cons,List.not_mem_nil,or_false]at hb
  rcases hb with hb|hb
  ·subst hb;exact⟨_,he,fun v z=>by cases z⟩
  ·subst hb;exact⟨o,e1,fun v z=>by rw[d]at z;cases z⟩
 keep:=fun i h h' st k=>by
  obtain⟨⟨old,he⟩,hit⟩:=st
  exact⟨⟨old,k e (by simp) _ he⟩,hit.at fun o x=>k it (by simp) o x⟩
 item:=by
  intro X hP hw hK hc i pins s σ H E I hf st hg
  subst hP hw hK
  obtain⟨xs,x,hq,hx⟩:=hg
  obtain⟨aD,rv,p,hz⟩:=I.list hq
  obtain⟨u,hu,ru⟩:=rv.get hx
  obtain⟨⟨old,he⟩,hit⟩:=st
  have ne:∀ b∈[e,it],b<s.heap.objs.size:=fun b hb=>by
   simp only[List.mem_cons,List.not_mem_nil,or_false]at hb
   rcases hb with hb|hb
   ·subst hb;exact Heap.lt_size he
   ·subst hb;obtain⟨_,y,_⟩:=hit;exact Heap.lt_size y
  refine wpAny_pyNext_enum_item he hit p.isList (x:=u) (by simpa using hu) hne fun h' ho hit' hT iU hk=>⟨_,rfl,?_⟩
  refine wpAny_letOwnedTupleGo_enum ho fun h2 he2 hs2=>?_
  have hTe:s.heap.objs.size≠e:=Nat.ne_of_gt (ne e (by simp))
  refine⟨.ref s.heap.objs.size,upd H s.heap.objs.size (.tup [.int (i:Nat),x]),?_,rfl,⟨_,x,I.cB.fresh (Nat.le_refl _),rfl,rfl,fun ys hy=>by rw[I.kC hy hq];exact hx⟩,⟨⟨_,by simpa using he2⟩,hit'.at fun o y=>(hs2.2 it (Ne.symm hne)).trans y⟩,fun b hb=>?_⟩
  ·refine JH (ch:=[e,it]) (us:=[.int i s.toks,u]) I (by simp [sizeLine]) (.cons ⟨_,rfl⟩ (.cons ru .nil)) (fun b o hb y=>?_) ne ?_ hf
   ·simp only[List.mem_cons,List.not_mem_nil,or_false,not_or]at hb
    exact(hs2.2 b hb.1).trans (hk b o hb.1 hb.2 y)
   ·exact(hs2.2 _ hTe).trans hT
  ·rw[bQ (Nat.ne_of_lt (ne b hb))];exact(hf b hb).1
 done:=by
  intro X hP hw hK hc i pins s σ H E I hf st hg
  subst hP hw hK
  obtain⟨xs,hq,hx⟩:=hg
  obtain⟨aD,rv,p,hz⟩:=I.list hq
  obtain⟨⟨old,he⟩,hit⟩:=st
  have hl:=rv.length
  exact wpAny_pyNext_enum_end (I.ok.hd hc) he hit p.isList (by simp;omega) fun h' eb=>⟨rfl,tE (t':=s.toks) (ch:=[e,it]) I (fun b o hb y=>eb b o (fun z=>hb (by simp [z])) y) hf⟩
 self:=fun _ _ _ _ _ st h=>let⟨⟨_,he⟩,_⟩:=st;wpAny_pyIter_enum he h
theorem zI:∀(xs:List D)(k i:Nat),(lM k xs)[i]? = (xs[i]?).map fun x=>.tup [.int ((k+i:Nat):Int),x]
 |[],_,_=>by simp [lM]
 |x::xs,k,0=>by simp [lM]
 |x::xs,k,i+1=>by
  simp only[lM,List.getElem?_cons_succ,zI xs (k+1) i]
  rw[show k+1+i=k+(i+1)by omega]
theorem FV:∀(xs:List D)(k:Nat),(lM k xs).length=xs.length
 |[],_=>rfl
 |x::xs,k=>by simp [lM,FV xs]
section
variable {K:PySem.W.Frag}{H1:Hp}{aC:aB}{a b:Addr}{xs ys:List D}
theorem SR (aL:aR K aC H1)(e0:aC a=some (.lst xs)):xV K (Em K a) [a] (lM 0 xs) H1 aC where
 go:=fun i H st d s ok sm e=>by
  have e':st a=some (.lst xs):=(sm a (by simp)).trans e0
  obtain⟨us,g1,g2⟩:=ok.lst e'
  rw[zI,Option.map_eq_some_iff]at e
  obtain⟨x,e,_⟩:=e
  obtain⟨v,e1,_⟩:=g2.get e
  exact⟨us,v,cG.of g1,e1⟩
 yld:=fun i H st d x H' s ok sm e ⟨T,v,hT,ex,eH,h⟩=>by
  subst ex eH
  have e':st a=some (.lst xs):=(sm a (by simp)).trans e0
  obtain⟨us,g1,g2⟩:=ok.lst e'
  rw[zI,Option.map_eq_some_iff]at e
  obtain⟨x,e,ed⟩:=e
  subst ed
  obtain⟨v',e1,e2⟩:=g2.get e
  have:=h us (cG.of g1)
  rw[e1]at this;cases this
  rw[Nat.zero_add]
  exact⟨jE hT,ok.new hT,.tup (dZ.of dH) ((aI.cons (.int _) (.cons e2 .nil)).step ok (jE (st:=st) hT))⟩
 stop:=fun i H st s ok sm l=>by
  have e':st a=some (.lst xs):=(sm a (by simp)).trans e0
  obtain⟨us,g1,g2⟩:=ok.lst e'
  rw[FV]at l
  exact⟨us,cG.of g1,by rw[<-g2.length];exact l⟩
end
section
variable {X:Cx}{C:bH}{sub:Nat->Nat->Bool}{a b:Expr}{x y:Ex}{p pos:Pos}{elts:List Expr}{x1:Nat}{tp:Pos}
theorem YG {E:XK}(hC:bM C C)(hg:Gl X "enumerate")(hm:X.mg "enumerate" = none)(ha:PA X [a] (jJ X.K (bJ C sub E [x])))(hs:starEach [a] X.env=[(false,eval a X.env)]):
  PI X (.Tuple elts x1 tp) (.Call (.Name "enumerate" p) [a] [] pos) (tD X.K fun σ st M=>bJ C sub E [x] σ st fun ds aC=>fA (some .enum) ds aC fun as xs=>M as xs aC):=by
 intro pins s σ H R I ⟨σd,st,M,r,ok,q,hq⟩
 refine Call_ (kO I hg hm boot_enumerate (PyProof.Rows.callWith_type1 (bA (ha pos pins s σ H _ I ⟨σd,st,_,r,ok,lR [x] hC q,fun vs H1 z=>z⟩) fun us s1 ⟨vs,H1,I1,r1,ds,aC,cR,aL,rd,l1,q1⟩=>?_) hs rfl))
 match ds,l1,q1 with
 |[d],_,q1 =>
  obtain⟨v,rfl,rd1⟩:=rd.one
  have q1:fA (some .enum) [d] aC fun as xs=>M as xs aC:=q1
  cases d with
  |ref l =>
   cases rd1.cF
   cases r1 with|cons r rr =>
   cases rr
   cases r
   obtain⟨xs,e,q1⟩:=cT (st:=aC) q1
   obtain⟨ws,g1,g2⟩:=aL.lst e
   obtain⟨aD,rv,pp,hz⟩:=I1.list (cG.of g1)
   refine call_enumerate_list pp.isList fun h' he hit iU hk=>wpAny_pyIter_enum he ?_
   refine⟨s1.heap.objs.size+1,[s1.heap.objs.size+1,s1.heap.objs.size],_,Em X.K l,H1,rfl,I1.kept (t':=s1.toks) hk,SD l _ _ (Nat.succ_ne_self _),⟨⟨_,he⟩,hit⟩,fun b hb=>?_,hq _ _ ⟨_,_,aC,cR,aL,SR aL e,q1⟩⟩
   have hb':s1.heap.objs.size<=b:=by
    simp only[List.mem_cons,List.not_mem_nil,or_false]at hb
    rcases hb with hb|hb
    ·rw[hb];exact Nat.le_succ _
    ·rw[hb];exact Nat.le_refl _
   exact I1.DT hb' (I1.cB.fresh hb')
  |_=>exact(show False from q1).elim
end
end L3
end
section
namespace L3
open PySem PySem.Spec PyProof.Rows L2
noncomputable def Df (K:PySem.W.Frag)(a b:Addr):It :=
 ⟨fun i H=>∃ xs ys x y,cG K H a xs/\cG K H b ys/\xs[i]? = some x/\ys[i]? = some y,
 fun i H v H'=>∃ T x y,H T=none/\v=.ref T/\H'=upd H T (.tup [x,y])/\(∀ xs,cG K H a xs->xs[i]? = some x)/\∀ ys,cG K H b ys->ys[i]? = some y,
 fun i H=>∃ xs ys,cG K H a xs/\cG K H b ys/\(xs.length<=i∨ys.length<=i)⟩
structure VH (z TI TO i1 i2:Addr):Prop where
 a1:TI≠z
 a2:TO≠z
 a3:i1≠z
 a4:i2≠z
 a5:TI≠TO
 a6:TI≠i1
 a7:TI≠i2
 a8:TO≠i1
 a9:TO≠i2
 a0:i1≠i2
theorem P0 {h:Heap}{z TI TO i1 i2 a b:Addr}{f0 p q:Value}{k1 k2:Nat}{xs ys:Array Value}{c d:Addr}(F:VH z TI TO i1 i2)(hz:IsZip h z TI TO f0)(hTO:IsPair h TO p q)(h1:h.IsListIter i1 c k1)(h2:h.IsListIter i2 d k2)(ha:h.IsList a xs)(hb:h.IsList b ys):ZipApart z TI TO i1 i2 a b:=by
 obtain⟨o1,e1,c1,_⟩:=h1
 obtain⟨o2,e2,c2,_⟩:=h2
 obtain⟨oa,ea,ca,_⟩:=ha
 obtain⟨ob,eb,cb,_⟩:=hb
 have nz:∀{l:Addr}{o:Obj},h.get? l=some o->o.cls=.type "list" -> l≠z/\l≠TO/\l≠i1/\l≠i2:=fun{l o} e c=>by
  refine⟨fun y=>?_,fun y=>?_,fun y=>?_,fun y=>?_⟩
  ·subst y;rw[hz]at e;cases e;simp at c
  ·subst y;rw[hTO]at e;cases e;simp at c
  ·subst y;rw[e1]at e;cases e;rw[c1]at c;simp at c
  ·subst y;rw[e2]at e;cases e;rw[c2]at c;simp at c
 obtain⟨m1,m2,m3,m4⟩:=nz ea ca
 obtain⟨n1,n2,n3,n4⟩:=nz eb cb
 exact⟨F.a1,F.a2,F.a3,F.a4,F.a5,F.a6,F.a7,F.a8,F.a9,F.a0,m1,m2,m3,m4,n1,n2,n3,n4⟩
theorem SX {P:Program}{w:World}{K:PySem.W.Frag}{elts:List Expr}{x1}{pos:Pos}(a b z TI TO i1 i2:Addr)(F:VH z TI TO i1 i2):Turn P w K (.Tuple elts x1 pos) (Df K a b) [z,TO,i1,i2,TI] z
  (fun i h=>IsZip h z TI TO .none/\IsPair h TI (.ref i1) (.ref i2)/\(∃ p q,IsPair h TO p q)/\h.IsListIter i1 a i/\h.IsListIter i2 b i) where
 mem:=by simp
 obj:=fun i h st c hc=>by
  obtain⟨hz,hTI,⟨p,q,hTO⟩,⟨o1,e1,c1,d1⟩,⟨o2,e2,c2,d2⟩⟩:=st
  simp only[List.mem_cons,List.not_mem_nil,or_false]at hc
  rcases hc with hc|hc|hc|hc|hc<;>subst hc
  ·exact⟨_,hz,fun v y=>by cases y⟩
  ·exact⟨_,hTO,fun v y=>by cases y⟩
  ·exact⟨o1,e1,fun v y=>by rw[d1]at y;cases y⟩
  ·exact⟨o2,e2,fun v y=>by rw[d2]at y;cases y⟩
  ·exact⟨_,hTI,fun v y=>by cases y⟩
 keep:=fun i h h' st k=>by
  obtain⟨hz,hTI,⟨p,q,hTO⟩,h1,h2⟩:=st
  exact⟨k z (by simp) _ hz,k TI (by simp) _ hTI,⟨p,q,k TO (by simp) _ hTO⟩,h1.at fun o x=>k i1 (by simp) o x,h2.at fun o x=>k i2 (by simp) o x⟩
 item:=by
  intro X hP hw hK hc i pins s σ H E I hf st hg
  subst hP hw hK
  obtain⟨xs,ys,x,y,hqa,hqb,hx,hy⟩:=hg
  obtain⟨aD,rv,pa,hza⟩:=I.list hqa
  obtain⟨jts,rw',pb,hzb⟩:=I.list hqb
  obtain⟨u,hu,ru⟩:=rv.get hx
  obtain⟨v,hv,bD⟩:=rw'.get hy
  obtain⟨hz,hTI,⟨p,q,hTO⟩,h1,h2⟩:=st
  have D:=P0 F hz hTO h1 h2 pa.isList pb.isList
  have lt:∀{c o},s.heap.get? c=some o->c<s.heap.objs.size:=fun e=>Heap.lt_size e
  have ne:∀ c∈[z,TO,i1,i2,TI],c<s.heap.objs.size:=fun c hc=>by
   simp only[List.mem_cons,List.not_mem_nil,or_false]at hc
   rcases hc with hc|hc|hc|hc|hc<;>subst hc
   ·exact lt hz
   ·exact lt hTO
   ·obtain⟨_,e,_⟩:=h1;exact lt e
   ·obtain⟨_,e,_⟩:=h2;exact lt e
   ·exact lt hTI
  refine wpAny_pyNext_zip_item D hz hTI hTO h1 h2 pa.isList pb.isList (x:=u) (y:=v) (by simpa using hu) (by simpa using hv) fun h' a1 a2 a3 a4 a5 a6 hk=>⟨_,rfl,?_⟩
  refine wpAny_letOwnedTupleGo_zip a1 fun h3 hz3 hs3=>?_
  have hTz:s.heap.objs.size≠z:=Nat.ne_of_gt (ne z (by simp))
  refine⟨.ref s.heap.objs.size,upd H s.heap.objs.size (.tup [x,y]),?_,rfl,⟨_,x,y,I.cB.fresh (Nat.le_refl _),rfl,rfl,fun ws hw=>by rw[I.kC hw hqa];exact hx,fun ws hw=>by rw[I.kC hw hqb];exact hy⟩,
   ⟨hz3,hs3.extBut _ _ D.TIz (hk _ _ D.TIz D.TITO D.TIi1 D.TIi2 hTI),⟨_,_,hs3.extBut _ _ D.TOz a2⟩,a3.extBut hs3.extBut D.i1z,a4.extBut hs3.extBut D.i2z⟩,fun c hc=>?_⟩
  ·refine JH (ch:=[z,TO,i1,i2]) (us:=[u,v]) I (by simp [sizeLine]) (.cons ru (.cons bD .nil)) (fun c o hc e=>?_) (fun c hc=>ne c (by simp only[List.mem_cons,List.not_mem_nil,or_false]at hc ⊢;rcases hc with hc|hc|hc|hc<;>simp [hc])) ?_ (fun c hc=>hf c (by simp only[List.mem_cons,List.not_mem_nil,or_false]at hc ⊢;rcases hc with hc|hc|hc|hc<;>simp [hc]))
   ·simp only[List.mem_cons,List.not_mem_nil,or_false,not_or]at hc
    exact hs3.extBut _ _ hc.1 (hk c o hc.1 hc.2.1 hc.2.2.1 hc.2.2.2 e)
   ·exact hs3.extBut _ _ hTz a5
  ·rw[bQ (Nat.ne_of_lt (ne c hc))];exact(hf c hc).1
 done:=by
  intro X hP hw hK hc i pins s σ H E I hf st hg
  subst hP hw hK
  obtain⟨xs,ys,hqa,hqb,hx⟩:=hg
  obtain⟨aD,rv,pa,hza⟩:=I.list hqa
  obtain⟨jts,rw',pb,hzb⟩:=I.list hqb
  obtain⟨hz,hTI,⟨p,q,hTO⟩,h1,h2⟩:=st
  have D:=P0 F hz hTO h1 h2 pa.isList pb.isList
  have hl:=rv.length
  have hl':=rw'.length
  refine wpAny_pyNext_zip_end (I.ok.hd hc) D hz hTI hTO h1 h2 pa.isList pb.isList (by rcases hx with hx|hx;exact .inl (by simp;omega);exact .inr (by simp;omega)) fun h' hk=>⟨rfl,tE (t':=s.toks) (ch:=[z,TO,i1,i2]) I (fun c o hc e=>?_) (fun c hc=>hf c (by simp only[List.mem_cons,List.not_mem_nil,or_false]at hc ⊢;rcases hc with hc|hc|hc|hc<;>simp [hc]))⟩
  simp only[List.mem_cons,List.not_mem_nil,or_false,not_or]at hc
  exact hk c o hc.1 hc.2.1 hc.2.2.1 hc.2.2.2 e
 self:=fun _ _ _ _ _ st h=>wpAny_pyIter_zip st.1 h
theorem BW:∀(xs ys:List D)(i:Nat)(d:D),(zip2 xs ys)[i]? = some d->∃ x y,xs[i]? = some x/\ys[i]? = some y/\d=.tup [x,y]
 |[],_,_,_,h=>by simp [zip2]at h
 |_::_,[],_,_,h=>by simp [zip2]at h
 |x::xs,y::ys,0,d,h=>by simp [zip2]at h;exact⟨x,y,rfl,rfl,h.symm⟩
 |x::xs,y::ys,i+1,d,h=>by simp only[zip2,List.getElem?_cons_succ]at h ⊢;exact BW xs ys i d h
theorem HE:∀(xs ys:List D),(zip2 xs ys).length=min xs.length ys.length
 |[],_=>by simp [zip2]
 |_::_,[]=>by simp [zip2]
 |x::xs,y::ys=>by simp only[zip2,List.length_cons,HE xs ys];omega
section
variable {K:PySem.W.Frag}{H1:Hp}{aC:aB}{a b:Addr}{xs ys:List D}
theorem ZL (aL:aR K aC H1)(e0:aC a=some (.lst xs))(e1:aC b=some (.lst ys)):xV K (Df K a b) [a,b] (zip2 xs ys) H1 aC where
 go:=fun i H st d s ok sm e=>by
  have ea:st a=some (.lst xs):=(sm a (by simp)).trans e0
  have eb:st b=some (.lst ys):=(sm b (by simp)).trans e1
  obtain⟨us,g1,g2⟩:=ok.lst ea
  obtain⟨vs,g3,g4⟩:=ok.lst eb
  obtain⟨x,y,q1,q2,_⟩:=BW _ _ _ _ e
  obtain⟨u,w1,_⟩:=g2.get q1
  obtain⟨v,w2,_⟩:=g4.get q2
  exact⟨us,vs,u,v,cG.of g1,cG.of g3,w1,w2⟩
 yld:=fun i H st d x H' s ok sm e ⟨T,v,w,hT,ex,eH,h,h'⟩=>by
  subst ex eH
  have ea:st a=some (.lst xs):=(sm a (by simp)).trans e0
  have eb:st b=some (.lst ys):=(sm b (by simp)).trans e1
  obtain⟨us,g1,g2⟩:=ok.lst ea
  obtain⟨vs,g3,g4⟩:=ok.lst eb
  obtain⟨x,y,q1,q2,ed⟩:=BW _ _ _ _ e
  subst ed
  obtain⟨u',w1,r1⟩:=g2.get q1
  obtain⟨v',w2,r2⟩:=g4.get q2
  have z1:=h us (cG.of g1)
  rw[w1]at z1;cases z1
  have z2:=h' vs (cG.of g3)
  rw[w2]at z2;cases z2
  exact⟨jE hT,ok.new hT,.tup (dZ.of dH) ((aI.cons r1 (.cons r2 .nil)).step ok (jE (st:=st) hT))⟩
 stop:=fun i H st s ok sm l=>by
  have ea:st a=some (.lst xs):=(sm a (by simp)).trans e0
  have eb:st b=some (.lst ys):=(sm b (by simp)).trans e1
  obtain⟨us,g1,g2⟩:=ok.lst ea
  obtain⟨vs,g3,g4⟩:=ok.lst eb
  rw[HE]at l
  have l1:=g2.length
  have l2:=g4.length
  exact⟨us,vs,cG.of g1,cG.of g3,by omega⟩
end
section
variable {X:Cx}{C:bH}{sub:Nat->Nat->Bool}{a b:Expr}{x y:Ex}{p pos:Pos}{elts:List Expr}{x1:Nat}{tp:Pos}
theorem Bh {E:XK}(hC:bM C C)(hg:Gl X "zip")(hm:X.mg "zip" = none)(ha:PA X [a,b] (jJ X.K (bJ C sub E [x,y])))(hs:starEach [a,b] X.env=[(false,eval a X.env),(false,eval b X.env)])(hs2:starEach [b] X.env=[(false,eval b X.env)]):
 PI X (.Tuple elts x1 tp) (.Call (.Name "zip" p) [a,b] [] pos) (tD X.K fun σ st M=>bJ C sub E [x,y] σ st fun ds aC=>fA (some .zip) ds aC fun as xs=>M as xs aC):=by
 intro pins s σ H R I ⟨σd,st,M,r,ok,q,hq⟩
 refine Call_ (kO I hg hm boot_zip (PyProof.Rows.callWith_type1 (bA (ha pos pins s σ H _ I ⟨σd,st,_,r,ok,lR [x,y] hC q,fun vs H1 z=>z⟩) fun us s1 ⟨vs,H1,I1,r1,ds,aC,cR,aL,rd,l1,q1⟩=>?_) (by rw[hs,hs2]) (by rw[hs2];rfl)))
 match ds,l1,q1 with
 |[d,d'],_,q1 =>
 have q1:fA (some .zip) [d,d'] aC fun as xs=>M as xs aC:=q1
 cases rd with|cons rd1 rd2=>cases rd2 with|cons rd2 rd3 =>
 cases rd3
 cases d<;>first|exact(show False from q1).elim|skip
 cases d'<;>first|exact(show False from q1).elim|skip
 cases rd1.cF
 cases rd2.cF
 cases r1 with|cons r rr=>cases rr with|cons r' rr =>
 cases rr
 cases r
 cases r'
 obtain⟨xs,e,q1⟩:=cT (st:=aC) q1
 obtain⟨ys,e',q1⟩:=cT (st:=aC) q1
 obtain⟨ws,g1,g2⟩:=aL.lst e
 obtain⟨ws',g1',g2'⟩:=aL.lst e'
 obtain⟨aD,rv,pp,hz⟩:=I1.list (cG.of g1)
 obtain⟨kT,bD,pp',hz'⟩:=I1.list (cG.of g1')
 refine call_zip_2 pp.isList pp'.isList fun h' hz hTI hTO h1 h2 iU hk=>wpAny_pyIter_zip hz ?_
 have o:∀ n:Nat,s1.heap.objs.size<=s1.heap.objs.size+n:=fun n=>Nat.le_add_right _ _
 have df:∀{i j:Nat},i≠j->s1.heap.objs.size+i≠s1.heap.objs.size+j:=fun h z=>h (Nat.add_left_cancel z)
 refine⟨s1.heap.objs.size+4,[s1.heap.objs.size+4,s1.heap.objs.size+3,s1.heap.objs.size,s1.heap.objs.size+1,s1.heap.objs.size+2],_,Df X.K _ _,H1,rfl,I1.kept (t':=s1.toks) hk,
  SX _ _ _ _ _ _ _ ⟨df (by decide),df (by decide),df (i:=0) (by decide),df (by decide),df (by decide),df (j:=0) (by decide),df (by decide),df (j:=0) (by decide),df (by decide),df (i:=0) (by decide)⟩,⟨hz,hTI,⟨_,_,hTO⟩,h1,h2⟩,fun c hc=>?_,hq _ _ ⟨_,_,aC,cR,aL,ZL aL e e',q1⟩⟩
 have hc':s1.heap.objs.size<=c:=by
  simp only[List.mem_cons,List.not_mem_nil,or_false]at hc
  rcases hc with hc|hc|hc|hc|hc<;>rw[hc]
  ·exact o 4
  ·exact o 3
  ·exact Nat.le_refl _
  ·exact o 1
  ·exact o 2
 exact I1.DT hc' (I1.cB.fresh hc')
end
end L3
end
section
namespace L3
open PySem PySem.Spec PyProof.Rows L2
section
variable {X:Cx}{C:bH}{sub:Nat->Nat->Bool}{E:XK}{a b:Expr}{x y:Ex}{p pos tp:Pos}{elts:List Expr}{x1:Nat}
theorem Pg (m:bM C C)(hm:X.mg "enumerate" = none)(ha:JA X C sub E [a] [x])(hg:X.env.kindOf "enumerate" = some .globalImplicit:=by kernel_rfl)(hs:starEach [a] X.env=[(false,eval a X.env)]:=by kernel_rfl):
 JI X C sub E (.Tuple elts x1 tp) (.Call (.Name "enumerate" p) [a] [] pos) (some .enum) [x]:=⟨YG m hg hm ha.h hs⟩
theorem Pm (m:bM C C)(hm:X.mg "zip" = none)(ha:JA X C sub E [a,b] [x,y])(hg:X.env.kindOf "zip" = some .globalImplicit:=by kernel_rfl)(hs:starEach [a,b] X.env=[(false,eval a X.env),(false,eval b X.env)]:=by kernel_rfl)(hs2:starEach [b] X.env=[(false,eval b X.env)]:=by kernel_rfl):
 JI X C sub E (.Tuple elts x1 tp) (.Call (.Name "zip" p) [a,b] [] pos) (some .zip) [x,y]:=⟨Bh m hg hm ha.h hs hs2⟩
theorem Ov {X:Cx}{scope:Scope}{cn:List Str}{aW:List Nat}(h:NX scope.names X.env.scope.names X.N cn aW=true:=by kernel_rfl)(hk:scope.kind=.function:=by kernel_rfl):kH X scope cn aW:=gX h rfl rfl hk
end
end L3
end
section
namespace L3
open PySem PySem.Spec PyProof.Rows L2
section
variable {X:Cx}{C:bH}{sub:Nat->Nat->Bool}{E:XK}{k v:Expr}{x y:Ex}{pos:Pos}
theorem Ml (hu:X.A.units+180<cLine)(ha:PE X k (bW X.K (aF C sub E x)))(hb:PE X v (bW X.K (aF C sub E y))):PE X (.Dict [some k] [v] pos) (bW X.K (aF C sub E (.d1 x y))):=fun pins s σ H Q I ⟨σd,st,R,r,ok,q,hq⟩=>by
 have hs:(evalEachOpt [some k] X.env).zip ((evalEach [v] X.env).map fun t=>do let z <-t;standAt pos;pure z)=([(eval k X.env,do let z <-eval v X.env;standAt pos;pure z)]:List (Sem Value×Sem Value)).map fun p=>(some p.1,p.2):=by
  simp [evalEachOpt,evalEach]
  rfl
 rw[arm_eval_Dict,hs,dictDisplay_pairs _ (by simp) (by simp)]
 refine wpAny_bind (wpAny_standAt (wpAny_bind ?_))
 unfold subDict
 refine wpAny_bind (wpAny_alloc ?_)
 refine wpAny_bind (wpAny_holding ?_)
 rw[if_pos (by simp)]
 have hf:H s.heap.objs.size=none:=I.cB.fresh (Nat.le_refl _)
 have I0:Inv X pins σ (upd H s.heap.objs.size (qO s.heap.objs.size [])) { s with heap:=s.heap.push { cls:=.type "dict", data:=.dict #[] } }:=by
  refine I.laid (a:=s.heap.objs.size) (o:=qO s.heap.objs.size []) (t':=s.toks) (fun _ _ q=>Heap.get?_push_of_some _ q) (Nat.le_refl _) ?_
  exact⟨⟨_,#[],0,Heap.get?_push_size _ rfl,⟨rfl,rfl,rfl⟩,rfl,rfl⟩,⟨_,Heap.get?_push_size _ rfl⟩,sU⟩
 have S0:Step H st (upd H s.heap.objs.size (qO s.heap.objs.size [])) (put st s.heap.objs.size (.tab [] [])):=lY hf
 have Lw:aR X.K (put st s.heap.objs.size (.tab [] [])) (upd H s.heap.objs.size (qO s.heap.objs.size [])) :=
  ok.TR hf ⟨[],[],dH,beq_eq_false_iff_ne.mpr (Nat.ne_of_gt (Lo I)),rfl,List.nodup_nil,.nil,fun x hx=>(by cases hx),.nil,.nil⟩
 have q:=q _ (ok.fresh hf)
 refine wpAny_bind (evalPairs_cons ?_)
 refine bA (ha pins _ σ _ _ I0 ⟨σd,_,_,r.step ok S0,Lw,q,fun v H' z=>z⟩) fun uk s1 ⟨vk,H1,I1,rvk,dk,aC,cR,aL,rdk,q1⟩=>?_
 refine wpAny_bind (bA (hb pins s1 σ H1 _ I1 ⟨σd,aC,_,(r.step ok S0).step Lw cR,aL,q1,fun v H' z=>z⟩) fun uv s2 ⟨vv,H2,I2,rvv,dv,aG,gF,bY,rdv,q2⟩=>?_)
 refine wpAny_bind (wpAny_standAt (wpAny_pure (evalPairs_nil ?_)))
 obtain⟨da,ks,vs,ed2,e,hk,hnew,hlen,q4⟩:=LZ q2
 cases ed2
 obtain⟨xs,ws,t1,t2,t3,t4,t5,t6,t8,t7⟩:=CF I2 bY e
 obtain⟨ka,rfl,rfl,hka⟩:=key_is I2 hk (rdk.step aL gF) rvk
 have hroom:(rW X.prog X.w).room X.A:=by show X.A.units+12<cLine;omega
 have hno:atKey xs dk=none:=by
  have:=HQ (k:=dk) hk t4
  rw[t3,hnew]at this
  cases q:atKey xs dk with
  |none=>rfl
  |some p=>rw[q]at this;cases this
 have hxl:xs.length=ks.length:=by rw[<-t3];simp
 refine wpAny_holding ?_
 rw[List.forIn_cons]
 refine wpAny_bind (wpAny_bind ?_)
 show wpAny _ _ (dictSet s.heap.objs.size (.ref ka) uv >>= fun _=>pure (ForInStep.yield PUnit.unit)) _ _ s2
 refine wpAny_bind (wpAny_dictSet_heap hroom hka t7 (fun h' hm hsb=>?_) (by rw[fK,hxl];have h10:(10000:Nat)<=aY:=(by decide);omega))
 rw[storedH_new hno]at hm
 obtain⟨o',es,ep,m1,m2,m3,m4,m5,m6⟩:=id hm
 have hS:Step H2 aG (upd H2 s.heap.objs.size (qO s.heap.objs.size (xs++[(dk,ka,uv)]))) (put aG s.heap.objs.size (.tab (ks++[dk]) (vs++[dv]))):=kI e
 have I4:Inv X pins σ (upd H2 s.heap.objs.size (qO s.heap.objs.size (xs++[(dk,ka,uv)]))) { s2 with heap:=h',toks:=s2.toks+(rW X.prog X.w).draws dk }:=by
  refine I2.write (x:=s.heap.objs.size) (e:=s.heap.objs.size) (by rw[t1];exact True.intro) (.inl rfl) (fun b u hb z=>(hsb.2 b hb).trans z) ⟨o',m1⟩ ?_
  exact⟨⟨o',es,ep,m1,m2,m3,m4⟩,⟨o',m1⟩,sU⟩
 refine wpAny_pure ?_
 show wpAny _ _ (forIn [] _ _) _ _ _
 rw[List.forIn_nil]
 refine wpAny_pure (wpAny_pure (wpAny_pure (wpAny_pure ⟨.ref s.heap.objs.size,_,I4,rfl,hq _ _ (.after S0 (.after cR (.after gF ⟨.ref s.heap.objs.size,_,hS,bY.DQ e ?_,.ref _,q4⟩)))⟩)))
 refine⟨xs++[(dk,ka,uv)],ws++[vv],dH,t2,by simp [t3],m6,?_,?_,?_,?_⟩
 ·rw[List.map_append]
  exact(t8.step bY hS).append (.cons ((rdk.step aL gF).step bY hS) .nil)
 ·intro x hx
  rcases List.mem_append.mp hx with hx|hx
  ·exact t4 x hx
  ·simp only[List.mem_singleton]at hx;subst hx;exact hk
 ·rw[List.map_append];exact t5.append (.cons rvv .nil)
 ·exact(t6.step bY hS).append (.cons (rdv.step bY hS) .nil)
theorem Pb (hu:X.A.units+180<cLine)(ha:JE X C sub E k x)(hb:JE X C sub E v y):JE X C sub E (.Dict [some k] [v] pos) (.d1 x y):=⟨Ml hu ha.h hb.h⟩
end
end L3
end
section
namespace L3
section
variable {C:bH}{sub:Nat->Nat->Bool}{E:XK}{σ:St}{st:aB}{Q:VK}{QQ:List D->aB->Prop}{QB:Bool->aB->Prop}{P:gB}{e a b c:Ex}{es:List Ex}{i:Nat}{d:D}{M:St->aB->Prop}
theorem J0:aF C sub E (.c d) σ st Q=Q d st:=rfl
theorem FN:aF C sub E (.v i) σ st Q=fT σ i fun d=>Q d st:=rfl
theorem Js:aF C sub E (.tup es) σ st Q=bJ C sub E es σ st fun ds aA=>Q (.tup ds) aA:=rfl
theorem Hc:aF C sub E (.lst es) σ st Q=bJ C sub E es σ st fun ds aA=>gU ds aA Q:=rfl
theorem NC {op:uJ}:aF C sub E (.bin op a b) σ st Q=aF C sub E a σ st fun x aC=>aF C sub E b σ aC fun y aG=>gN op x y aG Q:=rfl
theorem Hi:aF C sub E (.neg a) σ st Q=aF C sub E a σ st fun x aC=>EN x aC Q:=rfl
theorem Jw {op:qM}:aF C sub E (.cmp op a b) σ st Q=aF C sub E a σ st fun x aC=>aF C sub E b σ aC fun y aG=>cX op x y aG fun k=>Q (.bl k) aG:=rfl
theorem X6 {op op':qM}:aF C sub E (.chain op op' a b c) σ st Q=aF C sub E a σ st fun x aC=>aF C sub E b σ aC fun y aG=>cX op x y aG fun k =>
 if k=true then aF C sub E c σ aG fun z aU=>cX op' y z aU fun k=>Q (.bl k) aU else Q (.bl false) aG:=rfl
theorem Kr:aF C sub E (.and_ a b) σ st Q=aF C sub E a σ st fun x aC=>dX x aC fun k=>if k=true then aF C sub E b σ aC Q else Q x aC:=rfl
theorem Oe:aF C sub E (.or_ a b) σ st Q=aF C sub E a σ st fun x aC=>dX x aC fun k=>if k=true then Q x aC else aF C sub E b σ aC Q:=rfl
theorem Ld:aF C sub E (.not_ a) σ st Q=aF C sub E a σ st fun x aC=>dX x aC fun k=>Q (.bl (!k)) aC:=rfl
theorem Ic:aF C sub E (.ite c a b) σ st Q=aF C sub E c σ st fun x aC=>dX x aC fun k=>if k=true then aF C sub E a σ aC Q else aF C sub E b σ aC Q:=rfl
theorem Al {f:Nat}:aF C sub E (.call f es) σ st Q=bJ C sub E es σ st fun ds aA=>C f ds aA Q E:=rfl
theorem ZP {f:BI}:aF C sub E (.bi f es) σ st Q=bJ C sub E es σ st fun ds aA=>gJ f ds aA Q:=rfl
theorem Ia {ts:List Ty}:aF C sub E (.isi a ts) σ st Q=aF C sub E a σ st fun x aC=>uW sub x aC ts fun k=>Q (.bl k) aC:=rfl
theorem Z2 {m:MT}:aF C sub E (.cI m a es) σ st Q=aF C sub E a σ st fun x aC=>yV m x aC/\bJ C sub E es σ aC fun ds aG=>jH m x ds aG Q:=rfl
theorem B5:aF C sub E (.ix a b) σ st Q=aF C sub E a σ st fun x aC=>aF C sub E b σ aC fun y aG=>mH x y aG Q:=rfl
theorem Ma {lo hi:List Ex}:aF C sub E (.sl a lo hi) σ st Q=aF C sub E a σ st fun x aC=>bJ C sub E lo σ aC fun ls aG=>oI ls fun l=>bJ C sub E hi σ aG fun hs aU=>oI hs fun h=>C7 x l h aU Q:=rfl
theorem Kw {f:BI}{k:IK}:aF C sub E (.bit f k es) σ st Q=bJ C sub E es σ st fun ds aC=>fA (some k) ds aC fun _ xs=>eU f xs aC Q:=rfl
theorem Fp {n:Nat}{aW tg:List Nat}{one:Bool}{k:Option IK}{aD ifs:List Ex}:aF C sub E (.comp n aW tg one k aD ifs e) σ st Q=bJ C sub E aD σ st fun ds aC=>fA k ds aC fun as xs =>
 jI (same as aC) (fun x aG K=>kB one tg x (List.replicate n none++aW.map fun i=>(σ[i]?).getD none) fun σ' =>
 hZ C sub E ifs σ' aG fun b aU=>if b=true then aF C sub E e σ' aU fun d cC=>K (some d) cC else K none aU) xs [] aC fun ds dC=>gU ds dC Q:=rfl
theorem PR:bJ C sub E [] σ st QQ=QQ [] st:=rfl
theorem MS:bJ C sub E (e::es) σ st QQ=aF C sub E e σ st fun d aA=>bJ C sub E es σ aA fun ds aS=>QQ (d::ds) aS:=rfl
theorem Hk:hZ C sub E [] σ st QB=QB true st:=rfl
theorem Fb:hZ C sub E (e::es) σ st QB=aF C sub E e σ st fun d aA=>dX d aA fun k=>if k=true then hZ C sub E es σ aA QB else QB false aA:=rfl
theorem Gr:wpS C sub (.ex e) P σ st=aF C sub (fun c aA=>P.ex c σ aA) e σ st fun _ aA=>P.nx σ aA:=rfl
theorem uK {t:Tg}:wpS C sub (.asg t e) P σ st=aF C sub (fun c aA=>P.ex c σ aA) e σ st fun d aA=>mO C sub (fun c aA=>P.ex c σ aA) t d σ aA P.nx:=rfl
theorem Bl {op:uJ}:wpS C sub (.aug i op e) P σ st=fT σ i fun x=>aF C sub (fun c aA=>P.ex c σ aA) e σ st fun y aA=>notRef x/\gN op x y aA fun d aS=>P.nx (σ.set i (some d)) aS:=rfl
theorem Er {x y:List Sx}:wpS C sub (.iff e x y) P σ st=aF C sub (fun c aA=>P.ex c σ aA) e σ st fun d aA=>dX d aA fun k=>if k=true then cM C sub x P σ aA else cM C sub y P σ aA:=rfl
theorem Dw {t:Tg}{k:Option IK}{b:List Sx}:wpS C sub (.iB t k es b) P σ st=bJ C sub (fun c aA=>P.ex c σ aA) es σ st fun ds aC=>fA k ds aC fun as xs=>yO (same as aC) (fun x next σ st=>mO C sub (fun c aA=>P.ex c σ aA) t x σ st fun σ' aA=>cM C sub b { P with nx:=next,ct:=next,bk:=P.nx } σ' aA) P.nx xs σ aC:=rfl
theorem SA:wpS C sub (.ret e) P σ st=aF C sub (fun c aA=>P.ex c σ aA) e σ st P.rt:=rfl
theorem Z1:wpS C sub .brk P σ st=P.bk σ st:=rfl
theorem Z5:wpS C sub .cnt P σ st=P.ct σ st:=rfl
theorem YC:wpS C sub .pass P σ st=P.nx σ st:=rfl
theorem AF:mO C sub E (.nm i) d σ st M=M (σ.set i (some d)) st:=rfl
theorem Jy {is:List Nat}:mO C sub E (.tp is) d σ st M=kB false is d σ fun σ'=>M σ' st:=rfl
theorem Im:mO C sub E (.ix a b) d σ st M=aF C sub E a σ st fun x aC=>aF C sub E b σ aC fun y aG=>BX x y d aG fun aU=>M σ aU:=rfl
theorem Ib {c f:List Nat}:mO C sub E (.fl c f a) d σ st M=aF C sub E a σ st fun x aC=>DH c f d x aC fun aG=>M σ aG:=rfl
theorem Ku:mO C sub E (.dk a b) d σ st M=aF C sub E a σ st fun x aC=>aF C sub E b σ aC fun y aG=>yX y d x aG fun aU=>M σ aU:=rfl
theorem Gx {c f:List Nat}:aF C sub E (.fld c f a) σ st Q=aF C sub E a σ st fun x aC=>pH c f x aC Q:=rfl
theorem Mi {c:List Nat}{f:Nat}:aF C sub E (.mk c f es) σ st Q=bJ C sub E es σ st fun ds aC=>∀ p,aC p=none->C f (.ref p::ds) (put aC p (.ins c [])) (fun d aG=>d=.non/\Q (.ref p) aG) E:=rfl
theorem Gv {c m:List Nat}{f:Nat}:aF C sub E (.mcl c m f a es) σ st Q=aF C sub E a σ st fun x aC=>DZ c m x aC/\bJ C sub E es σ aC fun ds aG=>C f (x::ds) aG Q E:=rfl
theorem Mx {k v:Ex}:aF C sub E (.d1 k v) σ st Q = ∀ p,st p=none->aF C sub E k σ (put st p (.tab [] [])) fun x aC=>aF C sub E v σ aC fun y aG=>yX x y (.ref p) aG fun aU=>Q (.ref p) aU:=rfl
theorem By:aF C sub E .dnew σ st Q = ∀ p,st p=none->Q (.ref p) (put st p (.tab [] [])):=rfl
theorem Ks {neg:Bool}:aF C sub E (.din neg a b) σ st Q=aF C sub E a σ st fun x aC=>aF C sub E b σ aC fun y aG=>vU x y aG fun k=>Q (.bl (if neg=true then !k else k)) aG:=rfl
theorem Hl:aF C sub E (.dix a b) σ st Q=aF C sub E a σ st fun y aC=>aF C sub E b σ aC fun x aG=>qG x y aG Q:=rfl
theorem cP {c f:List Nat}{p:Nat}{fs:List (List Nat×D)}(h:st p=some (.ins c fs)){x:D}(hx:bS fs f=some x):pH c f (.ref p) st Q=Q x st:=by
 simp only[pH,mU,h,hx,cS,true_and]
theorem lN {c f:List Nat}{p:Nat}{fs:List (List Nat×D)}{R:aB->Prop}(h:st p=some (.ins c fs))(hl:fs.length<900):DH c f d (.ref p) st R=R (put st p (.ins c (qK f d fs))):=by
 simp only[DH,mU,h,hl,true_and]
theorem kL {c m:List Nat}{p:Nat}{fs:List (List Nat×D)}(h:st p=some (.ins c fs))(hm:bS fs m=none):DZ c m (.ref p) st=True:=by
 simp only[DZ,mU,h,hm,and_self]
theorem RS {x:D}{p:Nat}{ks vs:List D}{R:Bool->Prop}(h:st p=some (.tab ks vs))(hx:keyed x):vU x (.ref p) st R=R (ks.any fun k=>bI k x):=by
 simp only[vU,tabAt,h,hx,true_and]
theorem zH {x v:D}{p:Nat}{ks vs:List D}(h:st p=some (.tab ks vs))(hx:keyed x)(hv:kA ks vs x=some v):qG x (.ref p) st Q=Q v st:=by
 simp only[qG,tabAt,h,hx,hv,cS,true_and]
theorem OK {x v:D}{p:Nat}{ks vs:List D}{R:aB->Prop}(h:st p=some (.tab ks vs))(hx:keyed x)(hn:(ks.any fun k=>bI k x)=false)(hl:ks.length<10000):yX x v (.ref p) st R=R (put st p (.tab (ks++[x]) (vs++[v]))):=by
 simp only[yX,tabAt,h,hx,hn,hl,true_and]
end
section
variable {d:D}{r:St}{R:D->Prop}{o0 o1 o2 o3 o4 o5 o6 o7 o8 o9 sZ uT WH:Option D}
theorem EX:fT (some d::r) 0 R=R d:=rfl
theorem Eh:fT (o0::some d::r) 1 R=R d:=rfl
theorem Of:fT (o0::o1::some d::r) 2 R=R d:=rfl
theorem Ly:fT (o0::o1::o2::some d::r) 3 R=R d:=rfl
theorem Nj:fT (o0::o1::o2::o3::some d::r) 4 R=R d:=rfl
theorem Mq:fT (o0::o1::o2::o3::o4::some d::r) 5 R=R d:=rfl
theorem Nf:fT (o0::o1::o2::o3::o4::o5::some d::r) 6 R=R d:=rfl
theorem Na:fT (o0::o1::o2::o3::o4::o5::o6::some d::r) 7 R=R d:=rfl
theorem Nl:fT (o0::o1::o2::o3::o4::o5::o6::o7::some d::r) 8 R=R d:=rfl
theorem Mp:fT (o0::o1::o2::o3::o4::o5::o6::o7::o8::some d::r) 9 R=R d:=rfl
theorem Hh:fT (o0::o1::o2::o3::o4::o5::o6::o7::o8::o9::some d::r) 10 R=R d:=rfl
theorem Iw:fT (o0::o1::o2::o3::o4::o5::o6::o7::o8::o9::sZ::some d::r) 11 R=R d:=rfl
theorem Kv:fT (o0::o1::o2::o3::o4::o5::o6::o7::o8::o9::sZ::uT::some d::r) 12 R=R d:=rfl
theorem Iy:fT (o0::o1::o2::o3::o4::o5::o6::o7::o8::o9::sZ::uT::WH::some d::r) 13 R=R d:=rfl
end
end L3
end
section
open L3 PySem
local macro_rules|`(tactic| walk_at"wpe")=>`(tactic| simp only[↓J0,↓FN,↓Js,↓Hc,↓NC,↓Hi,↓Jw,↓X6,↓Kr,↓Oe,↓Ld,↓Ic,↓Al,↓ZP,↓Ia,↓Z2,↓B5,↓Ma,↓Kw,↓Fp,↓Gx,↓Mi,↓Gv,↓By,↓Ks,↓Hl,↓Ib,↓Ku,↓PR,↓MS,↓Hk,↓Fb,↓Gr,↓uK,↓Bl,↓Er,↓Dw,↓SA,↓Z1,↓Z5,↓YC,↓AF,↓Jy,↓Im,↓EX,↓Eh,↓Of,↓Ly,↓Nj,↓Mq,↓Nf,↓Na,↓Nl,↓Mp,↓Hh,↓Iw,↓Kv,↓Iy,↓ZZ,↓YO,↓WN,↓XQ,↓TQ,↓Z9,↓Ez,↓Bv,↓Fe,↓cmp_gt,↓Ft,↓YI,↓YF,↓SW,↓SJ,↓NS,↓K5,↓NB,↓K9,↓IG,↓K8,↓add_int,↓add_str,↓ER,↓ZM,↓sub_int,↓mul_int,↓Y0,↓UE,↓mod_int,↓pow_int,↓neg_int,↓XT,↓ZG,jM,↓lF,↓LQ,↓J6,↓Y8,yA,SI,UZ,Nz,Mu,↓aX,↓PM,↓Cj,↓Bi,↓KE,↓Fl,Hg,↓XS,↓UJ,↓VC,↓PK,↓lU,↓EI,↓DW,↓S6,↓NO,↓OQ,↓W3,↓RU,↓ZH,↓H0,↓len_str,↓D2,↓PB,↓PL,↓YY,↓Du,↓ZS,↓Q9,↓L4,↓JF,↓Ep,↓Y2,↓E8,↓Dn,↓Ey,↓WV,↓UL,↓Fq,↓W8,↓ZF,↓uU,↓OO,↓XX,↓rY,↓yN,↓JL,↓MC,↓Fu,↓RB,List.map_cons,List.map_nil,List.cons_append,List.nil_append,List.replicate,List.append_nil,if_true,if_false,Bool.not_true,Bool.not_false,Bool.false_eq_true,reduceIte,List.set_cons_zero,List.set_cons_succ,true_and,and_true,DE,N0,QO,NA,FA,GH,JK,FI,iD,YK,Cg,YZ,Option.getD_some,List.getElem?_cons_zero,List.getElem?_cons_succ,decide_eq_true_eq,Bool.and_eq_true,List.zip_cons_cons,List.zip_nil_left,List.zip_nil_right,List.foldl_cons,List.foldl_nil,List.length_cons,List.length_nil])
local macro_rules|`(tactic| walk_at"st")=>`(tactic| ((try dsimp only);(first|refine fF ?_|rw[PQ]);(try walk_at"wpe")))
local macro_rules|`(tactic| walk_at"ex")=>`(tactic| ((try dsimp only);(try walk_at"wpe")))
section
namespace L3
open PySem
theorem aV {G:Prog}{f k:Nat}{fn:Fn}{ds:List D}{st:aB}{Q:VK}{E:XK}(h:G.fns f=some fn):aN G (k+1) f ds st Q E=(ds.length=fn.np/\cM (aN G k) G.sub fn.body ⟨fun _ aA=>Q .non aA,Q,fun _ _=>False,fun _ _=>False,fun c _ aA=>E c aA⟩ (start fn.np fn.nl ds) st):=by
 simp only[aN,h]
noncomputable def aZ (as:List Nat)(st aA:aB):Prop:=∀ a o,a∉as->st a=some o->aA a=some o
theorem aZ.refl {as:List Nat}{st:aB}:aZ as st st:=fun _ _ _ h=>h
theorem aZ.trans {as:List Nat}{a b c:aB}(h:aZ as a b)(h':aZ as b c):aZ as a c:=fun x o n e=>h' x o n (h x o n e)
theorem aZ.mono {as bs:List Nat}{st aA:aB}(h:aZ as st aA)(s:∀ a∈as,a∈bs):aZ bs st aA:=fun x o n e=>h x o (fun z=>n (s x z)) e
theorem Ext.keep {as:List Nat}{st aA:aB}(h:Ext st aA):aZ as st aA:=fun x o _ e=>h x o e
theorem aZ.put {as:List Nat}{st:aB}{a:Nat}{o:MO}(h:a∈as):aZ as st (put st a o):=fun x u n e=>by rw[aJ (fun z=>n (by rw[z];exact h))];exact e
noncomputable def wF (ns:List Int)(k:Int):Int:=if k<ns.length then(ns[k.toNat]?).getD 0 else if ns=[]then 0 else(ns[(k % ns.length).toNat]?).getD 0*31+k
noncomputable def kE (ns:List Int)(k many:Int):Int :=
 let d:=(wF ns k+7919*k+1)*48271 % 2147483647
 (d*d+7*d+k) % 2147483629 % many
theorem gM {ns:List Int}{k many:Int}(h:0<many):0<=kE ns k many:=Int.emod_nonneg _ (by omega)
theorem gK {ns:List Int}{k many:Int}(h:0<many):kE ns k many<many:=Int.emod_lt_of_pos _ h
noncomputable def oG:Fn:=⟨2,2,[.iff (.cmp .lt (.v 1) (.bi .len [(.v 0)])) [.ret (.ix (.v 0) (.v 1))] [],.iff (.cmp .eq (.v 0) (.lst [])) [.ret (.c (.int 0))] [],
 .ret (.bin .add (.bin .mul (.ix (.v 0) (.bin .mod (.v 1) (.bi .len [(.v 0)]))) (.c (.int 31))) (.v 1))]⟩
noncomputable def nB (ic:Nat):Fn:=⟨3,4,[.asg (.nm 3) (.bin .mod (.bin .mul (.bin .add (.bin .add (.call ic [(.v 0),(.v 1)]) (.bin .mul (.c (.int 7919)) (.v 1))) (.c (.int 1))) (.c (.int 48271))) (.c (.int 2147483647))),
 .ret (.bin .mod (.bin .mod (.bin .add (.bin .add (.bin .mul (.v 3) (.v 3)) (.bin .mul (.c (.int 7)) (.v 3))) (.v 1)) (.c (.int 2147483629))) (.v 2))]⟩
noncomputable def rV (im:Nat):Fn:=⟨3,3,[.asg (.ix (.v 1) (.c (.int 0))) (.bin .add (.ix (.v 1) (.c (.int 0))) (.c (.int 1))),.ret (.call im [(.v 0),(.ix (.v 1) (.c (.int 0))),(.v 2)])]⟩
theorem CD (ns:List Int):bP (ns.map .int)=true/\cJ (ns.map .int)=0:=by
 induction ns with
 |nil=>exact⟨rfl,rfl⟩
 |cons n r ih=>exact⟨by simp only[List.map_cons,bP,bE,ih.1,Bool.and_self],by simp only[List.map_cons,cJ,cH,ih.2,Nat.max_self]⟩
theorem MI {ns:List Int}{k:Int}(h0:0<=k)(h1:k<ns.length):fV (ns.map D.int) k=some (.int ((ns[k.toNat]?).getD 0)):=by
 obtain⟨n,rfl⟩:∃ n:Nat,k=n:=⟨k.toNat,by omega⟩
 rw[eI (by simp;omega)]
 simp only[List.getElem?_map,Int.toNat_natCast]
 rw[List.getElem?_eq_getElem (by omega)]
 rfl
section
variable {G:Prog}{k ic im dD:Nat}{st:aB}{Q:VK}{E:XK}{ns:List Int}
theorem YX (hc:G.fns ic=some oG){i:Int}(hi:0<=i)(hQ:∀ aA,Ext st aA->Q (.int (wF ns i)) aA):aN G (k+1) ic [.bK (ns.map .int),.int i] st Q E:=by
 rw[aV hc]
 simp only[oG,start]
 refine⟨rfl,?_⟩
 refine fF ?_
 walk_at"wpe"
 simp only[List.length_map]
 by_cases h:i<ns.length
 ·simp only[h,decide_true,if_true]
  refine fF ?_
  walk_at"wpe"
  rw[MI hi h]
  walk_at"wpe"
  have:=hQ st .refl
  simp only[wF,h,if_true]at this
  exact this
 ·simp only[h,decide_false,Bool.false_eq_true,if_false,aH]
  refine fF ?_
  walk_at"wpe"
  refine⟨Nat.zero_le _,fun p hp=>?_⟩
  have hx:Ext st (put st p (.lst [])):=Ext.new hp
  dsimp only
  have e1:bR (put st p (.lst [])) (.bK (ns.map .int)) (.ref p)=ns.isEmpty:=by
   simp only[bR,aM,A8]
   cases ns with
   |nil=>rfl
   |cons n r=>rfl
  rw[e1]
  refine⟨⟨?_,Nat.zero_le _⟩,⟨?_,Nat.zero_le _⟩,?_⟩
  ·simp only[gI,(CD ns).1,(CD ns).2,Bool.true_and];rfl
  ·simp only[gI,aM,VY];rfl
  cases ns with
  |nil =>
   simp only[List.isEmpty_nil,if_true]
   refine fF ?_
   walk_at"wpe"
   have:=hQ _ hx
   simp only[wF,h,if_false,if_true]at this
   exact this
  |cons n r =>
   simp only[List.isEmpty_cons,Bool.false_eq_true,if_false,aH]
   refine fF ?_
   have hl:(0:Int)<((n::r).length:Int):=by simp only[List.length_cons];omega
   simp only[SA,NC,B5,FN,J0,ZP,MS,PR,Bp,ZT,RU,H0,mod_int,LQ,List.length_map,List.map_cons,List.cons_append,List.nil_append,List.map_nil]
   refine⟨by simpa using hl,?_⟩
   have hm0:0<=i % ((n::r).length:Int):=Int.emod_nonneg _ (by omega)
   have hm1:i % ((n::r).length:Int)<(n::r).length:=Int.emod_lt_of_pos _ hl
   have:=MI (ns:=n::r) hm0 hm1
   simp only[List.map_cons,List.length_cons]at this
   simp only[List.length_cons,List.length_map]
   rw[this]
   walk_at"wpe"
   refine⟨.inr ⟨by omega,by omega⟩,?_⟩
   have:=hQ _ hx
   simp only[wF,h,if_false]at this
   simpa using this
theorem UM (hm:G.fns im=some (nB ic))(hc:G.fns ic=some oG){i many:Int}(hi:0<=i)(hmany:0<many)(hQ:∀ aA,Ext st aA->Q (.int (kE ns i many)) aA):aN G (k+2) im [.bK (ns.map .int),.int i,.int many] st Q E:=by
 rw[aV hm]
 simp only[nB,start]
 refine⟨rfl,?_⟩
 refine fF ?_
 walk_at"wpe"
 refine YX hc hi fun aA e=>?_
 walk_at"wpe"
 refine⟨.inl ⟨by omega,by omega⟩,.inr ⟨by omega,by omega⟩,by omega,?_⟩
 refine fF ?_
 walk_at"wpe"
 have d0:0<=(wF ns i+7919*i+1)*48271 % 2147483647:=Int.emod_nonneg _ (by omega)
 have d1:(wF ns i+7919*i+1)*48271 % 2147483647<2147483647:=Int.emod_lt_of_pos _ (by omega)
 refine⟨.inl ⟨by omega,by omega⟩,.inl ⟨by omega,by omega⟩,by omega,hmany,?_⟩
 exact hQ aA e
theorem fL (hn:G.fns dD=some (rV im))(hm:G.fns im=some (nB ic))(hc:G.fns ic=some oG){a:Nat}{i many:Int}(ha:st a=some (.lst [.int i]))(hi:0<=i)(hmany:0<many)
 (hQ:∀ aA,aZ [a] st aA->aA a=some (.lst [.int (i+1)])->Q (.int (kE ns (i+1) many)) aA):aN G (k+3) dD [.bK (ns.map .int),.ref a,.int many] st Q E:=by
 rw[aV hn]
 simp only[rV,start]
 refine⟨rfl,?_⟩
 refine fF ?_
 walk_at"wpe"
 rw[dF ha]
 walk_at"wpe"
 rw[aE ha]
 have e0:mI [D.int i].length 0=some 0:=rfl
 simp only[e0,aX,List.set_cons_zero]
 refine fF ?_
 walk_at"wpe"
 rw[dF aM]
 walk_at"wpe"
 refine UM hm hc (by omega) hmany fun aA e=>?_
 refine hQ aA (fun x o n h=>e x o (by rw[aJ (by simpa using n)];exact h)) (e a _ aM)
end
end L3
end
section
namespace L3
open PySem
inductive W1 where
 |not|before|once|sofar
 deriving DecidableEq
inductive W2 where
 |and|or|bA|same|since
 deriving DecidableEq
inductive Sy where
 |yes|no|cN (n:List Nat)|one (w:W1)(s:Sy)|two (w:W2)(s t:Sy)
 deriving DecidableEq
noncomputable def c1:W1->List Nat
 |.not=>W "not"
 |.before=>W "before"
 |.once=>W "once"
 |.sofar=>W "sofar"
noncomputable def c2:W2->List Nat
 |.and=>W "and"
 |.or=>W "or"
 |.bA=>W "then"
 |.same=>W "same"
 |.since=>W "since"
noncomputable def toD:Sy->D
 |.yes=>.tup [.str (W "yes")]
 |.no=>.tup [.str (W "no")]
 |.cN n=>.tup [.str (W "lamp"),.str n]
 |.one w s=>.tup [.str (c1 w),toD s]
 |.two w s t=>.tup [.str (c2 w),toD s,toD t]
noncomputable def aO:Sy->Nat
 |.one _ s=>aO s+1
 |.two _ s t=>max (aO s) (aO t)+1
 |_=>1
noncomputable def p1:W1->Bool
 |.not=>false
 |_=>true
noncomputable def p2:W2->Bool
 |.since=>true
 |_=>false
noncomputable def cnt:Sy->Nat
 |.one w s=>(if p1 w then 1 else 0)+cnt s
 |.two w s t=>(if p2 w then 1 else 0)+(cnt s+cnt t)
 |_=>0
noncomputable def over (names:List (List Nat)):Sy->Prop
 |.cN n=>n∈names
 |.one _ s=>over names s
 |.two _ s t=>over names s/\over names t
 |_=>True
theorem lS:∀ s:Sy,bE (toD s)=true
 |.yes=>rfl
 |.no=>rfl
 |.cN n=>rfl
 |.one w s=>by simp only[toD,bE,bP,lS s,Bool.and_self]
 |.two w s t=>by simp only[toD,bE,bP,lS s,lS t,Bool.and_self]
theorem pW:∀ s:Sy,cH (toD s)=aO s
 |.yes=>rfl
 |.no=>rfl
 |.cN n=>rfl
 |.one w s=>by simp only[toD,cH,cJ,pW s,aO];omega
 |.two w s t=>by simp only[toD,cH,cJ,pW s,pW t,aO];omega
noncomputable def nV (dD is:Nat):Fn:=⟨5,7,[.asg (.nm 5) (.call dD [(.v 0),(.v 1),(.c (.int 13))]),.iff (.or_ (.cmp .eq (.v 3) (.c (.int 0))) (.cmp .lt (.v 5) (.c (.int 3)))) [.ret (.tup [(.c (.str (W "lamp"))),(.ix (.v 2) (.call dD [(.v 0),(.v 1),(.bi .len [(.v 2)])]))])] [],.iff (.cmp .eq (.v 5) (.c (.int 3))) [.ret (.tup [(.ix (.lst [(.c (.str (W "yes"))),(.c (.str (W "no")))]) (.call dD [(.v 0),(.v 1),(.c (.int 2))]))])] [],.iff (.and_ (.cmp .gt (.v 5) (.c (.int 8))) (.cmp .gt (.ix (.v 4) (.c (.int 0))) (.c (.int 0)))) [.asg (.ix (.v 4) (.c (.int 0))) (.bin .sub (.ix (.v 4) (.c (.int 0))) (.c (.int 1))),.asg (.nm 6) (.call is [(.v 0),(.v 1),(.v 2),(.bin .sub (.v 3) (.c (.int 1))),(.v 4)]),.iff (.cmp .eq (.v 5) (.c (.int 12))) [.ret (.tup [(.c (.str (W "since"))),(.v 6),(.call is [(.v 0),(.v 1),(.v 2),(.bin .sub (.v 3) (.c (.int 1))),(.v 4)])])] [],.ret (.tup [(.ix (.lst [(.c (.str (W "before"))),(.c (.str (W "once"))),(.c (.str (W "sofar")))]) (.bin .sub (.v 5) (.c (.int 9)))),(.v 6)])] [],.asg (.nm 6) (.call is [(.v 0),(.v 1),(.v 2),(.bin .sub (.v 3) (.c (.int 1))),(.v 4)]),.iff (.or_ (.cmp .eq (.v 5) (.c (.int 4))) (.cmp .gt (.v 5) (.c (.int 8)))) [.ret (.tup [(.c (.str (W "not"))),(.v 6)])] [],.ret (.tup [(.ix (.lst [(.c (.str (W "and"))),(.c (.str (W "or"))),(.c (.str (W "then"))),(.c (.str (W "same")))]) (.bin .sub (.v 5) (.c (.int 5)))),(.v 6),(.call is [(.v 0),(.v 1),(.v 2),(.bin .sub (.v 3) (.c (.int 1))),(.v 4)])])]⟩
noncomputable def Drawn (a b:Nat)(i l:Int)(st aA:aB)(i' l':Int):Prop:=aZ [a,b] st aA/\0<=i'/\aA a=some (.lst [.int i'])/\aA b=some (.lst [.int l'])
section
variable {G:Prog}{k ic im dD is:Nat}{st:aB}{Q:VK}{E:XK}{ns:List Int}
theorem WU {xs:List (List Nat)}{v:Int}(h0:0<=v)(h1:v<xs.length):∃ x∈xs,fV (xs.map D.str) v=some (.str x):=by
 obtain⟨n,rfl⟩:∃ n:Nat,v=n:=⟨v.toNat,by omega⟩
 have h:n<xs.length:=by omega
 refine⟨xs[n],List.getElem_mem h,?_⟩
 rw[eI (by simpa using h)]
 simp only[List.getElem?_map]
 rw[List.getElem?_eq_getElem h]
 rfl
theorem WC {d:D}{r:List D}:mI (d::r).length 0=some 0:=by
 unfold mI
 rw[if_pos (by omega),if_pos (by simp only[List.length_cons];omega)]
 rfl
theorem bU {ds:List D}{Q:VK}(hl:ds.length<=aY)(h:∀ p aA,Ext st aA->st p=none->aA p=some (.lst ds)->Q (.ref p) aA):gU ds st Q:=⟨hl,fun p hp=>h p _ (Ext.new hp) hp aM⟩
theorem sH (hs:G.fns is=some (nV dD is))(hn:G.fns dD=some (rV im))(hm:G.fns im=some (nB ic))(hc:G.fns ic=some oG){names:List (List Nat)}(jC:0<names.length){a b:Nat}(dQ:a≠b):
  ∀(n:Nat){st:aB}{Q:VK}{E:XK}{i l:Int},st a=some (.lst [.int i])->st b=some (.lst [.int l])->0<=i->0<=l ->
   (∀ s aA i',over names s->aO s<=n+1->(cnt s:Int)<=l->aZ [a,b] st aA->0<=i'->aA a=some (.lst [.int i'])->aA b=some (.lst [.int (l-cnt s)])->Q (toD s) aA) ->
   aN G (k+n+4) is [.bK (ns.map .int),.ref a,.tup (names.map .str),.int n,.ref b] st Q E:=by
 intro n
 have cN:∀{n:Nat}{st:aB}{Q:VK}{E:XK}{i l:Int}{K:Nat}{P:gB}{r:St},st a=some (.lst [.int i])->st b=some (.lst [.int l])->0<=i->0<=l ->
   (∀ s aA i',over names s->aO s<=n+1->(cnt s:Int)<=l->aZ [a,b] st aA->0<=i'->aA a=some (.lst [.int i'])->aA b=some (.lst [.int (l-cnt s)])->P.rt (toD s) aA) ->
   cM (aN G (K+3)) G.sub [.ret (.tup [(.c (.str (W "lamp"))),(.ix (.v 2) (.call dD [(.v 0),(.v 1),(.bi .len [(.v 2)])]))])] P (some (.bK (ns.map .int))::some (.ref a)::some (.tup (names.map .str))::r) st:=by
  intro n st Q E i l K P r ha hb hi hl hQ
  walk_at"st"
  simp only[List.length_map]
  refine fL hn hm hc ha hi (by omega) fun aC k1 a1=>?_
  walk_at"ex"
  obtain⟨x,hx,e⟩:=WU (xs:=names) (gM (ns:=ns) (k:=i+1) (many:=names.length) (by omega)) (gK (by omega))
  rw[e]
  walk_at"ex"
  have b1:aC b=some (.lst [.int l]):=k1 b _ (by simpa using dQ.symm) hb
  exact hQ (.cN x) aC (i+1) hx (by simp [aO]) (by simp [cnt];omega) (k1.mono (by simp)) (by omega) a1 (by simpa [cnt]using b1)
 induction n with
 |zero =>
  intro st Q E i l ha hb hi hl hQ
  rw[aV hs]
  simp only[nV,start]
  refine⟨rfl,?_⟩
  walk_at"st"
  refine fL hn hm hc ha hi (by omega) fun aC k1 a1=>?_
  walk_at"st"
  simp only[Int.natCast_zero,beq_self_eq_true,if_true]
  have b1:aC b=some (.lst [.int l]):=k1 b _ (by simpa using dQ.symm) hb
  have kk:aZ [a,b] st aC:=k1.mono (by simp)
  exact cN (n:=0) (Q:=Q) (E:=E) a1 b1 (by omega) hl fun s aA i' h1 h2 h3 h4 h5 h6 h7=>hQ s aA i' h1 h2 h3 (kk.trans h4) h5 h6 h7
 |succ n ih =>
  intro st Q E i l ha hb hi hl hQ
  rw[aV hs]
  simp only[nV,start]
  refine⟨rfl,?_⟩
  walk_at"st"
  refine fL hn hm hc ha hi (by omega) fun aC k1 a1=>?_
  have v0:=gM (ns:=ns) (k:=i+1) (many:=13) (by omega)
  have v1:=gK (ns:=ns) (k:=i+1) (many:=13) (by omega)
  generalize kE ns (i+1) 13=v at v0 v1
  have b1:aC b=some (.lst [.int l]):=k1 b _ (by simpa using dQ.symm) hb
  have kk:aZ [a,b] st aC:=k1.mono (by simp)
  have hn0:(((n+1:Nat):Int)==0)=false:=by rw[beq_eq_false_iff_ne];omega
  have hn1:((n+1:Nat):Int)-1=(n:Int):=by omega
  walk_at"st"
  simp only[hn0,Bool.false_eq_true,if_false]
  by_cases h3:v<3
  ·simp only[h3,decide_true,if_true]
   exact cN (n:=n+1) (Q:=Q) (E:=E) a1 b1 (by omega) hl fun s aA i' h1 h2 h3 h4 h5 h6 h7=>hQ s aA i' h1 h2 h3 (kk.trans h4) h5 h6 h7
  simp only[h3,decide_false,Bool.false_eq_true,if_false,aH]
  walk_at"st"
  by_cases e3:v=3
  ·subst e3
   simp only[beq_self_eq_true,if_true]
   walk_at"st"
   refine bU (by decide) fun p aG x2 hp lA=>?_
   walk_at"ex"
   have pa:p≠a:=fun z=>by rw[z,a1]at hp;cases hp
   have pb:p≠b:=fun z=>by rw[z,b1]at hp;cases hp
   refine fL hn hm hc (x2 a _ a1) (by omega) (by omega) fun aU k3 a3=>?_
   walk_at"ex"
   have w0:=gM (ns:=ns) (k:=i+1+1) (many:=2) (by omega)
   have w1:=gK (ns:=ns) (k:=i+1+1) (many:=2) (by omega)
   generalize kE ns (i+1+1) 2=w at w0 w1
   rw[dF (k3 p _ (by simpa using pa) lA)]
   have b3:aU b=some (.lst [.int l]):=k3 b _ (by simpa using dQ.symm) (x2 b _ b1)
   have kk3:aZ [a,b] st aU:=(kk.trans x2.keep).trans (k3.mono (by simp))
   obtain rfl|rfl:w=0∨w=1:=by omega
   ·walk_at"ex"
    exact hQ .yes aU _ trivial (by simp [aO]) (by simp [cnt];omega) kk3 (by omega) a3 (by simpa [cnt]using b3)
   ·walk_at"ex"
    exact hQ .no aU _ trivial (by simp [aO]) (by simp [cnt];omega) kk3 (by omega) a3 (by simpa [cnt]using b3)
  have e3':(v==3)=false:=by rw[beq_eq_false_iff_ne];exact e3
  simp only[e3',Bool.false_eq_true,if_false,aH]
  walk_at"st"
  have plain:∀{P:gB},(∀ s aA i',over names s->aO s<=n+1+1->(cnt s:Int)<=l->aZ [a,b] st aA->0<=i'->aA a=some (.lst [.int i'])->aA b=some (.lst [.int (l-cnt s)])->P.rt (toD s) aA) ->
    cM (aN G (k+n+4)) G.sub [.asg (.nm 6) (.call is [(.v 0),(.v 1),(.v 2),(.bin .sub (.v 3) (.c (.int 1))),(.v 4)]),.iff (.or_ (.cmp .eq (.v 5) (.c (.int 4))) (.cmp .gt (.v 5) (.c (.int 8)))) [.ret (.tup [(.c (.str (W "not"))),(.v 6)])] [],.ret (.tup [(.ix (.lst [(.c (.str (W "and"))),(.c (.str (W "or"))),(.c (.str (W "then"))),(.c (.str (W "same")))]) (.bin .sub (.v 5) (.c (.int 5)))),(.v 6),(.call is [(.v 0),(.v 1),(.v 2),(.bin .sub (.v 3) (.c (.int 1))),(.v 4)])])] P [some (.bK (ns.map .int)),some (.ref a),some (.tup (names.map .str)),some (.int ((n+1:Nat):Int)),some (.ref b),some (.int v),none] aC:=by
   intro P hQ
   walk_at"st"
   rw[hn1]
   refine ih a1 b1 (by omega) hl fun s1 aG i2 o1 d1 cc1 k2 hi2 a2 b2=>?_
   walk_at"st"
   have hor:((v==4)||decide (8<v))=true∨(v=5∨v=6∨v=7∨v=8):=by
    by_cases q:v=4
    ·left;simp [q]
    ·by_cases q':8<v
     ·left;simp [q']
     ·right;omega
   rcases hor with hor|hor
   ·have go:cM (aN G (k+n+4)) G.sub [.ret (.tup [.c (.str (W "not")),.v 6])] { P with nx:=cM (aN G (k+n+4)) G.sub [.ret (.tup [(.ix (.lst [(.c (.str (W "and"))),(.c (.str (W "or"))),(.c (.str (W "then"))),(.c (.str (W "same")))]) (.bin .sub (.v 5) (.c (.int 5)))),(.v 6),(.call is [(.v 0),(.v 1),(.v 2),(.bin .sub (.v 3) (.c (.int 1))),(.v 4)])])] P } [some (.bK (ns.map .int)),some (.ref a),some (.tup (names.map .str)),some (.int ((n+1:Nat):Int)),some (.ref b),some (.int v),some (toD s1)] aG:=by
     walk_at"st"
     exact hQ (.one .not s1) aG i2 o1 (by simp only[aO];omega) (by simp [cnt,p1];omega) (kk.trans k2) hi2 a2 (by simpa [cnt,p1]using b2)
    by_cases q:v=4
    ·simp only[q,beq_self_eq_true,if_true]
     rw[q]at go;exact go
    ·have q1:(v==4)=false:=by rw[beq_eq_false_iff_ne];exact q
     have q2:8<v:=by simpa [q1]using hor
     simp only[q1,q2,Bool.false_eq_true,if_false,if_true]
     exact go
   ·have q1:(v==4)=false:=by rw[beq_eq_false_iff_ne];omega
    have q2:¬8<v:=by omega
    simp only[q1,q2,Bool.false_eq_true,if_false,aH]
    walk_at"st"
    refine bU (by decide) fun p aU x3 hp hp3=>?_
    walk_at"ex"
    rw[dF hp3]
    have pa:p≠a:=fun z=>by rw[z,a2]at hp;cases hp
    have pb:p≠b:=fun z=>by rw[z,b2]at hp;cases hp
    have step:∀ w:W2,p2 w=false->∀{Q:VK},(∀ s aA i',over names s->aO s<=n+1+1->(cnt s:Int)<=l->aZ [a,b] st aA->0<=i'->aA a=some (.lst [.int i'])->aA b=some (.lst [.int (l-cnt s)])->Q (toD s) aA) ->
      aN G (k+n+4) is [.bK (ns.map .int),.ref a,.tup (names.map .str),.int (((n+1:Nat):Int)-1),.ref b] aU (fun d aA=>Q (.tup [.str (c2 w),toD s1,d]) aA) fun c aA=>P.ex c [some (.bK (ns.map .int)),some (.ref a),some (.tup (names.map .str)),some (.int ((n+1:Nat):Int)),some (.ref b),some (.int v),some (toD s1)] aA:=by
     intro w hw Q hQ
     rw[hn1]
     refine ih (x3 a _ a2) (x3 b _ b2) hi2 (by omega) fun s2 cC i4 o2 d2 c2' k4 hi4 a4 b4=>?_
     refine hQ (.two w s1 s2) cC i4 ⟨o1,o2⟩ (by simp only[aO];omega) (by simp only[cnt,hw];simp;omega) ((kk.trans k2).trans (x3.keep.trans k4)) hi4 a4 ?_
     rw[b4];simp only[cnt,hw];simp;omega
    rcases hor with rfl|rfl|rfl|rfl
    ·walk_at"ex"; exact step .and rfl hQ
    ·walk_at"ex"; exact step .or rfl hQ
    ·walk_at"ex"; exact step .bA rfl hQ
    ·walk_at"ex"; exact step .same rfl hQ
  by_cases h8:8<v
  ·simp only[h8,if_true]
   rw[dF b1]
   walk_at"ex"
   by_cases hl0:0<l
   ·simp only[hl0,if_true]
    walk_at"st"
    rw[dF b1]
    walk_at"ex"
    rw[aE b1]
    simp only[WC,aX,List.set_cons_zero]
    have a2:(put aC b (.lst [.int (l-1)])) a=some (.lst [.int (i+1)]):=by rw[aJ dQ];exact a1
    have kp:aZ [a,b] st (put aC b (.lst [.int (l-1)])):=kk.trans (aZ.put (by simp))
    walk_at"st"
    rw[hn1]
    refine ih a2 aM (by omega) (by omega) fun s1 aG i2 o1 d1 cc1 k2 hi2 a3 b3=>?_
    walk_at"st"
    by_cases e12:v=12
    ·simp only[e12,beq_self_eq_true,if_true]
     walk_at"st"
     rw[hn1]
     refine ih a3 b3 hi2 (by omega) fun s2 cC i4 o2 d2 c2' k4 hi4 a4 b4=>?_
     refine hQ (.two .since s1 s2) cC i4 ⟨o1,o2⟩ (by simp only[aO];omega) (by simp [cnt,p2];omega) ((kp.trans k2).trans k4) hi4 a4 ?_
     rw[b4];simp [cnt,p2];omega
    ·have e12':(v==12)=false:=by rw[beq_eq_false_iff_ne];exact e12
     simp only[e12',Bool.false_eq_true,if_false,aH]
     walk_at"st"
     refine bU (by decide) fun p aU x3 hp hp3=>?_
     walk_at"ex"
     rw[dF hp3]
     have fin:∀ w:W1,p1 w=true->Q (.tup [.str (c1 w),toD s1]) aU:=fun w hw=>by
      refine hQ (.one w s1) aU i2 o1 (by simp only[aO];omega) (by simp [cnt,hw];omega) ((kp.trans k2).trans x3.keep) hi2 (x3 _ _ a3) ?_
      rw[x3 _ _ b3];simp [cnt,hw];omega
     obtain rfl|rfl|rfl:v=9∨v=10∨v=11:=by omega
     ·walk_at"ex"; exact fin .before rfl
     ·walk_at"ex"; exact fin .once rfl
     ·walk_at"ex"; exact fin .sofar rfl
   ·simp only[hl0,if_false,aH]
    exact plain hQ
  ·simp only[h8,if_false,aH]
   exact plain hQ
end
end L3
end
section
namespace L3
open PySem
noncomputable def oE:List (List Nat):=[W "a", W "b", W "x", W "y", W "lamp", W "far", W "yesno", W "abcdefgh"]
noncomputable def tP (fs gs:List (List Nat)):Bool:=decide (1<=fs.length)&&decide (fs.length<=2)&&decide (1<=gs.length)&&decide (gs.length<=2)&&decide ((fs++gs).Nodup)&&(fs++gs).all fun n=>oE.contains n
noncomputable def pI (t:Int):List (List Nat):=cut oE (some t) none++cut oE none (some t)
theorem RR:∀(t:Fin 8)(f g:Fin 2),tP (cut (pI (t.val:Nat)) none (some (1+(f.val:Nat)))) (cut (pI (t.val:Nat)) (some (1+(f.val:Nat))) (some (1+(f.val:Nat)+(1+(g.val:Nat)))))=true:=by decide +kernel
theorem QW {t f g:Int}(h0:0<=t)(h1:t<8)(h2:0<=f)(h3:f<2)(h4:0<=g)(h5:g<2):tP (cut (pI t) none (some (1+f))) (cut (pI t) (some (1+f)) (some (1+f+(1+g))))=true:=by
 have:=RR ⟨t.toNat,by omega⟩ ⟨f.toNat,by omega⟩ ⟨g.toNat,by omega⟩
 simp only[Int.toNat_of_nonneg h0,Int.toNat_of_nonneg h2,Int.toNat_of_nonneg h4]at this
 exact this
theorem AK {α β:Type}(f:α->β)(xs:List α)(lo hi:Option Int):cut (xs.map f) lo hi=(cut xs lo hi).map f:=by
 simp only[cut,List.length_map,List.map_take,List.map_drop]
noncomputable def DI (dD:Nat):Fn:=⟨2,7,[.asg (.nm 2) (.lst [(.c (.str (W "a"))),(.c (.str (W "b"))),(.c (.str (W "x"))),(.c (.str (W "y"))),(.c (.str (W "lamp"))),(.c (.str (W "far"))),(.c (.str (W "yesno"))),(.c (.str (W "abcdefgh")))]),.asg (.nm 3) (.call dD [(.v 0),(.v 1),(.c (.int 8))]),.asg (.nm 4) (.bin .add (.sl (.v 2) [(.v 3)] []) (.sl (.v 2) [] [(.v 3)])),.asg (.nm 5) (.bin .add (.c (.int 1)) (.call dD [(.v 0),(.v 1),(.c (.int 2))])),.asg (.nm 6) (.bin .add (.c (.int 1)) (.call dD [(.v 0),(.v 1),(.c (.int 2))])),.ret (.tup [(.bi .tuple [(.sl (.v 4) [] [(.v 5)])]),(.bi .tuple [(.sl (.v 4) [(.v 5)] [(.bin .add (.v 5) (.v 6))])])])]⟩
section
variable {G:Prog}{k ic im dD is:Nat}{st:aB}{Q:VK}{E:XK}{ns:List Int}
theorem UW {inm:Nat}(hm':G.fns inm=some (DI dD))(hn:G.fns dD=some (rV im))(hm:G.fns im=some (nB ic))(hc:G.fns ic=some oG){a:Nat}{i:Int}(ha:st a=some (.lst [.int i]))(hi:0<=i)
  (hQ:∀ fs gs aA i',tP fs gs=true->aZ [a] st aA->0<=i'->aA a=some (.lst [.int i'])->Q (.tup [.tup (fs.map .str),.tup (gs.map .str)]) aA):
  aN G (k+4) inm [.bK (ns.map .int),.ref a] st Q E:=by
 have hL:aY=16777216:=rfl
 rw[aV hm']
 simp only[DI,start]
 refine⟨rfl,?_⟩
 walk_at"st"
 refine bU (by decide) fun p aC x1 hp hp1=>?_
 have pa:p≠a:=fun z=>by rw[z,ha]at hp;cases hp
 walk_at"st"
 refine fL hn hm hc (x1 a _ ha) hi (by omega) fun aG k2 a2=>?_
 have t0:=gM (ns:=ns) (k:=i+1) (many:=8) (by omega)
 have t1:=gK (ns:=ns) (k:=i+1) (many:=8) (by omega)
 generalize kE ns (i+1) 8=t at t0 t1
 have p2:=k2 p _ (by simpa using pa) hp1
 walk_at"st"
 rw[aE p2]
 intro q hq
 have x3:Ext aG (put aG q (.lst (cut [.str (W "a"),.str (W "b"),.str (W "x"),.str (W "y"),.str (W "lamp"),.str (W "far"),.str (W "yesno"),.str (W "abcdefgh")] (some t) none))):=Ext.new hq
 walk_at"ex"
 rw[aE (x3 p _ p2)]
 intro q' hq'
 have x4:=Ext.new (o:=.lst (cut [.str (W "a"),.str (W "b"),.str (W "x"),.str (W "y"),.str (W "lamp"),.str (W "far"),.str (W "yesno"),.str (W "abcdefgh")] none (some t))) hq'
 walk_at"ex"
 rw[aE (x4 q _ aM),aE aM]
 have eL:([.str (W "a"),.str (W "b"),.str (W "x"),.str (W "y"),.str (W "lamp"),.str (W "far"),.str (W "yesno"),.str (W "abcdefgh")]:List D)=oE.map .str:=rfl
 have er:cut ([.str (W "a"),.str (W "b"),.str (W "x"),.str (W "y"),.str (W "lamp"),.str (W "far"),.str (W "yesno"),.str (W "abcdefgh")]:List D) (some t) none++cut [.str (W "a"),.str (W "b"),.str (W "x"),.str (W "y"),.str (W "lamp"),.str (W "far"),.str (W "yesno"),.str (W "abcdefgh")] none (some t)=(pI t).map .str:=by
  rw[eL,AK,AK,<-List.map_append];rfl
 have lr:(pI t).length<=16:=by
  have l1:=zX (xs:=oE) (lo:=some t) (hi:=none)
  have l2:=zX (xs:=oE) (lo:=none) (hi:=some t)
  have l3:oE.length=8:=rfl
  simp only[pI,List.length_append];omega
 rw[er]
 refine bU (by simp only[List.length_map];omega) fun r dC x5 hr hr5=>?_
 have k5:aZ [a] st dC:=((x1.keep.trans k2).trans x3.keep).trans (x4.keep.trans x5.keep)
 have a5:dC a=some (.lst [.int (i+1)]):=x5 _ _ (x4 _ _ (x3 _ _ a2))
 have ra:r≠a:=fun z=>by rw[z,x4 _ _ (x3 _ _ a2)]at hr;cases hr
 walk_at"st"
 refine fL hn hm hc a5 (by omega) (by omega) fun fN k6 a6=>?_
 have f0:=gM (ns:=ns) (k:=i+1+1) (many:=2) (by omega)
 have f1:=gK (ns:=ns) (k:=i+1+1) (many:=2) (by omega)
 generalize kE ns (i+1+1) 2=f at f0 f1
 walk_at"ex"
 walk_at"st"
 refine fL hn hm hc a6 (by omega) (by omega) fun mM k7 a7=>?_
 have g0:=gM (ns:=ns) (k:=i+1+1+1) (many:=2) (by omega)
 have g1:=gK (ns:=ns) (k:=i+1+1+1) (many:=2) (by omega)
 generalize kE ns (i+1+1+1) 2=g at g0 g1
 have r7:mM r=some (.lst ((pI t).map .str)):=k7 r _ (by simpa using ra) (k6 r _ (by simpa using ra) hr5)
 walk_at"ex"
 walk_at"st"
 rw[aE r7]
 intro u hu
 walk_at"ex"
 rw[aE aM]
 have xu:=Ext.new (o:=.lst (cut ((pI t).map D.str) none (some (1+f)))) hu
 have c1:=zX (xs:=(pI t).map D.str) (lo:=none) (hi:=some (1+f))
 have c2:=zX (xs:=(pI t).map D.str) (lo:=some (1+f)) (hi:=some (1+f+(1+g)))
 simp only[List.length_map]at c1 c2
 refine⟨by omega,?_⟩
 rw[aE (xu r _ r7)]
 intro u' hu'
 walk_at"ex"
 rw[aE aM]
 refine⟨by omega,?_⟩
 have xu':=Ext.new (o:=.lst (cut ((pI t).map D.str) (some (1+f)) (some (1+f+(1+g))))) hu'
 rw[AK,AK]at *
 exact hQ _ _ _ (i+1+1+1) (QW t0 t1 f0 f1 g0 g1) ((k5.trans (k6.trans k7)).trans (xu.keep.trans xu'.keep)) (by omega) (xu' _ _ (xu _ _ a7))
end
end L3
end
section
namespace L3
open PySem
mutual
theorem WJ:∀ d:D,bE d=true->bI d d=true
 |.non,_=>rfl
 |.bl b,_=>by simp [bI]
 |.int i,_=>by simp [bI]
 |.str x,_=>by simp [bI]
 |.tup ds,h=>by simp only[bE]at h;simp only[bI];exact wB ds h
 |.ref _,h=>by simp [bE]at h
 |.cW _ _,h=>by simp [bE]at h
 |.bK _,h=>by simp [bE]at h
 |.exc _,h=>by simp [bE]at h
theorem wB:∀ ds:List D,bP ds=true->fG ds ds=true
 |[],_=>rfl
 |d::ds,h=>by
  simp only[bP,Bool.and_eq_true]at h
  simp only[fG,WJ d h.1,wB ds h.2,Bool.and_self]
end
theorem Dd (w w':W1):(c1 w==c1 w')=decide (w=w'):=by cases w<;>cases w'<;>decide +kernel
theorem Cp (w w':W2):(c2 w==c2 w')=decide (w=w'):=by cases w<;>cases w'<;>decide +kernel
theorem LV (w:W1):(W "lamp" == c1 w)=false/\(c1 w==W "lamp")=false:=by cases w<;>decide +kernel
theorem cO {st:aB}{as bs:List D}:bR st (.tup as) (.tup bs)=jG st as bs:=by simp only[bR]
theorem bX {st:aB}{a b:D}{as bs:List D}:jG st (a::as) (b::bs)=(bR st a b&&jG st as bs):=by simp only[jG]
theorem qP {st:aB}:jG st [] []=true:=rfl
theorem mF {st:aB}{b:D}{bs:List D}:jG st [] (b::bs)=false:=rfl
theorem mD {st:aB}{b:D}{bs:List D}:jG st (b::bs) []=false:=rfl
theorem QI:(W "yes" == W "no")=false/\(W "no" == W "yes")=false:=by decide +kernel
theorem pX {st:aB}:∀ s t:Sy,bR st (toD s) (toD t)=decide (s=t)
 |.yes,.yes=>by simp only[toD,cO,bX,iD,qP,beq_self_eq_true,Bool.and_self,decide_true]
 |.yes,.no=>by simp only[toD,cO,bX,iD,QI.1,Bool.false_and];rfl
 |.yes,.cN _=>by simp only[toD,cO,bX,mF,Bool.and_false];rfl
 |.yes,.one _ _=>by simp only[toD,cO,bX,mF,Bool.and_false];rfl
 |.yes,.two _ _ _=>by simp only[toD,cO,bX,mF,Bool.and_false];rfl
 |.no,.yes=>by simp only[toD,cO,bX,iD,QI.2,Bool.false_and];rfl
 |.no,.no=>by simp only[toD,cO,bX,iD,qP,beq_self_eq_true,Bool.and_self,decide_true]
 |.no,.cN _=>by simp only[toD,cO,bX,mF,Bool.and_false];rfl
 |.no,.one _ _=>by simp only[toD,cO,bX,mF,Bool.and_false];rfl
 |.no,.two _ _ _=>by simp only[toD,cO,bX,mF,Bool.and_false];rfl
 |.cN _,.yes=>by simp only[toD,cO,bX,mD,Bool.and_false];rfl
 |.cN _,.no=>by simp only[toD,cO,bX,mD,Bool.and_false];rfl
 |.cN m,.cN n=>by
  simp only[toD,cO,bX,qP,iD,beq_self_eq_true,Bool.and_true,Bool.true_and,Sy.cN.injEq]
  rw[Bool.beq_eq_decide_eq]
 |.cN m,.one w s=>by simp only[toD,cO,bX,iD,(LV w).1,Bool.false_and];rfl
 |.cN _,.two _ _ _=>by simp only[toD,cO,bX,mF,Bool.and_false];rfl
 |.one _ _,.yes=>by simp only[toD,cO,bX,mD,Bool.and_false];rfl
 |.one _ _,.no=>by simp only[toD,cO,bX,mD,Bool.and_false];rfl
 |.one w s,.cN m=>by simp only[toD,cO,bX,iD,(LV w).2,Bool.false_and];rfl
 |.one w s,.one w' s'=>by
  simp only[toD,cO,bX,qP,iD,Dd,pX s s',Bool.and_true,Sy.one.injEq]
  by_cases h:w=w'<;>by_cases h':s=s'<;>simp [h,h']
 |.one _ _,.two _ _ _=>by simp only[toD,cO,bX,mF,Bool.and_false];rfl
 |.two _ _ _,.yes=>by simp only[toD,cO,bX,mD,Bool.and_false];rfl
 |.two _ _ _,.no=>by simp only[toD,cO,bX,mD,Bool.and_false];rfl
 |.two _ _ _,.cN _=>by simp only[toD,cO,bX,mD,Bool.and_false];rfl
 |.two _ _ _,.one _ _=>by simp only[toD,cO,bX,mD,Bool.and_false];rfl
 |.two w s t,.two w' s' t'=>by
  simp only[toD,cO,bX,qP,iD,Cp,pX s s',pX t t',Bool.and_true,Sy.two.injEq]
  by_cases h:w=w'<;>by_cases h':s=s'<;>by_cases h'':t=t'<;>simp [h,h',h'']
theorem MM {st:aB}(x:Sy)(f:List Sy):((f.map toD).any fun d=>bR st d (toD x))=f.contains x:=by
 induction f with
 |nil=>rfl
 |cons y r ih =>
 simp only[List.map_cons,List.any_cons,ih,pX,List.contains_cons]
 congr 1
 by_cases h:y=x
 ·simp [h]
 ·simp [h,Ne.symm h]
theorem SE (f:List Sy):bP (f.map toD)=true:=by
 induction f with
 |nil=>rfl
 |cons x r ih=>simp only[List.map_cons,bP,lS,ih,Bool.and_self]
theorem U1 {n:Nat}(f:List Sy)(h:∀ s∈f,aO s<=n):cJ (f.map toD)<=n:=by
 induction f with
 |nil=>exact Nat.zero_le _
 |cons x r ih =>
 simp only[List.map_cons,cJ,pW]
 have:=h x (by simp)
 have:=ih fun s hs=>h s (by simp [hs])
 omega
theorem FJ {st:aB}{s:Sy}(h:aO s<=60):plainS st (toD s):=⟨BL _ (lS s),Nat.le_trans (by rw[pW];exact h) (by decide)⟩
theorem CT {st:aB}{f:List Sy}(h:∀ s∈f,aO s<=60):dU st (f.map toD):=⟨sL _ (SE f),Nat.le_trans (U1 f h) (by decide)⟩
noncomputable def wd:Sy->List Nat
 |.yes=>W "yes"
 |.no=>W "no"
 |.cN _=>W "lamp"
 |.one w _=>c1 w
 |.two w _ _=>c2 w
noncomputable def subs:Sy->List Sy
 |.one _ s=>[s]
 |.two _ s t=>[s,t]
 |_=>[]
noncomputable def bV:Sy->Bool
 |.one w _=>p1 w
 |.two w _ _=>p2 w
 |_=>false
noncomputable def gD:Sy->Bool
 |.cN _=>true
 |_=>false
theorem oV (s:Sy):∃ r,toD s=.tup (.str (wd s)::r):=by cases s<;>exact⟨_,rfl⟩
theorem S7 {s:Sy}(h:gD s=false):toD s=.tup (.str (wd s)::(subs s).map toD):=by cases s<;>first|rfl|cases h
noncomputable def nJ:List (List Nat):=[W "before", W "once", W "sofar", W "since"]
theorem DU (s:Sy):nJ.contains (wd s)=bV s:=by
 cases s with
 |one w s=>cases w<;>(simp only[wd,bV];decide +kernel)
 |two w s t=>cases w<;>(simp only[wd,bV];decide +kernel)
 |_=>(simp only[wd,bV];decide +kernel)
theorem EC (s:Sy):(wd s==W "lamp")=gD s:=by
 cases s with
 |one w s=>cases w<;>(simp only[wd,gD];decide +kernel)
 |two w s t=>cases w<;>(simp only[wd,gD];decide +kernel)
 |_=>(simp only[wd,gD];decide +kernel)
noncomputable def eT (f:List Sy)(s:Sy):List Sy:=if bV s && !f.contains s then f++[s]else f
noncomputable def aK:Sy->List Sy->List Sy
 |.one w s,f=>aK s (eT f (.one w s))
 |.two w s t,f=>aK t (aK s (eT f (.two w s t)))
 |_,f=>f
noncomputable def cL:List Sy->List Sy->List Sy
 |[],f=>f
 |s::r,f=>cL r (aK s f)
theorem Ar (s:Sy)(f:List Sy):aK s f=cL (subs s) (eT f s):=by
 cases s<;>simp [aK,subs,cL,eT,bV]
theorem LH (a b:List Sy)(f:List Sy):cL (a++b) f=cL b (cL a f):=by
 induction a generalizing f with
 |nil=>rfl
 |cons x r ih=>simp only[List.cons_append,cL,ih]
theorem QV (s:Sy)(r f:List Sy):cL (s::r) f=cL (subs s++r) (eT f s):=by rw[LH,<-Ar];rfl
noncomputable def sz:Sy->Nat
 |.one _ s=>sz s+1
 |.two _ s t=>sz s+sz t+1
 |_=>1
noncomputable def fX (l:List Sy):Nat:=(l.map sz).sum
theorem G9:∀ s:Sy,sz s+1<=2 ^ aO s
 |.yes=>by decide
 |.no=>by decide
 |.cN _=>by simp only[sz,aO];decide
 |.one w s=>by have:=G9 s;simp only[sz,aO,Nat.pow_succ];omega
 |.two w s t=>by
  have h1:=G9 s
  have h2:=G9 t
  have a:=Nat.pow_le_pow_right (n:=2) (by omega) (Nat.le_max_left (aO s) (aO t))
  have b:=Nat.pow_le_pow_right (n:=2) (by omega) (Nat.le_max_right (aO s) (aO t))
  simp only[sz,aO,Nat.pow_succ];omega
theorem M5 (s:Sy):fX (subs s)+1=sz s:=by cases s<;>simp [subs,fX,sz]
theorem B4 {s t:Sy}(h:t∈subs s):aO t<aO s:=by cases s<;>simp [subs]at h<;>simp only[aO]<;>(try rcases h with rfl|rfl)<;>(try subst h)<;>omega
theorem B1 {f:List Sy}{s:Sy}{n:Nat}(h:∀ x∈f,aO x<=n)(hs:aO s<=n):∀ x∈eT f s,aO x<=n:=by
 unfold eT
 split
 ·intro x hx
  rcases List.mem_append.mp hx with hx|hx
  ·exact h x hx
  ·simp at hx;subst hx;exact hs
 ·exact h
theorem UT (f:List Sy)(s:Sy):(eT f s).length<=f.length+1:=by unfold eT;split<;>simp
theorem zU:∀(s:Sy){f:List Sy}{n:Nat},(∀ x∈f,aO x<=n)->aO s<=n->∀ x∈aK s f,aO x<=n
 |.yes,_,_,h,_=>h
 |.no,_,_,h,_=>h
 |.cN _,_,_,h,_=>h
 |.one w s,f,n,h,hs=>zU s (B1 h hs) (by simp only[aO]at hs;omega)
 |.two w s t,f,n,h,hs=>zU t (zU s (B1 h hs) (by simp only[aO]at hs;omega)) (by simp only[aO]at hs;omega)
end L3
end
section
namespace L3
open PySem
noncomputable def iE:Fn:=⟨1,1,[.iff (.cmp .eq (.ix (.v 0) (.c (.int 0))) (.c (.str (W "lamp")))) [.ret (.tup [])] [],.ret (.sl (.v 0) [(.c (.int 1))] [])]⟩
noncomputable def vO:D:=.tup (nJ.map .str)
noncomputable def kP (iw:Nat):Fn:=⟨1,4,[.asg (.nm 1) (.lst []),.asg (.nm 2) (.bit .list .rev [(.v 0)]),.whl (.v 2) [.asg (.nm 3) (.cI .pop (.v 2) []),.iff (.and_ (.cmp .in_ (.ix (.v 3) (.c (.int 0))) (.c vO)) (.cmp .jQ (.v 3) (.v 1))) [.ex (.cI .append (.v 1) [(.v 3)])] [],.ex (.cI .extend (.v 2) [(.bit .list .rev [(.call iw [(.v 3)])])])],.ret (.v 1)]⟩
section
variable {G:Prog}{k ip iw:Nat}{st:aB}{Q:VK}{E:XK}
theorem sR (hw:G.fns iw=some iE){s:Sy}(hQ:Q (.tup ((subs s).map toD)) st):aN G (k+1) iw [toD s] st Q E:=by
 rw[aV hw]
 simp only[iE,start]
 refine⟨rfl,?_⟩
 obtain⟨r,er⟩:=oV s
 walk_at"st"
 rw[er]
 walk_at"ex"
 rw[EC,<-er]
 cases h:gD s with
 |true =>
 simp only[if_true]
 walk_at"st"
 cases s<;>first|exact hQ|cases h
 |false =>
 simp only[Bool.false_eq_true,if_false,aH]
 walk_at"st"
 rw[S7 h]
 walk_at"ex"
 exact hQ
end
end L3
end
section
namespace L3
open PySem
theorem uZ {C:bH}{sub:Nat->Nat->Bool}(hC:bM C C){c:Ex}{b:List Sx}{P:gB}(I:Nat->St->aB->Prop)
  (step:∀ m σ st,I m σ st->aF C sub (fun c aA=>P.ex c σ aA) c σ st fun d aA=>dX d aA fun k =>
   if k=true then cM C sub b { P with nx:=fun σ st=>∃ m',m'<m/\I m' σ st,ct:=fun σ st=>∃ m',m'<m/\I m' σ st,bk:=P.nx } σ aA else P.nx σ aA){m:Nat}{σ:St}{st:aB}(h:I m σ st):wpS C sub (.whl c b) P σ st:=by
 refine⟨m+1,?_⟩
 have key:∀(n m:Nat)(σ:St)(st:aB),m<n->I m σ st->oU (fun next σ st=>aF C sub (fun c aA=>P.ex c σ aA) c σ st fun d aA=>dX d aA fun k =>
   if k=true then cM C sub b { P with nx:=next,ct:=next,bk:=P.nx } σ aA else P.nx σ aA) n σ st:=by
  intro n
  induction n with
  |zero=>intro m σ st h;omega
  |succ n ih =>
   intro m σ st hm hI
   refine aT hC (fun _ _ z=>z) c (fun d aA=>iZ fun k=>?_) (step m σ st hI)
   split
   ·exact iH hC b ⟨fun σ st ⟨m',h1,h2⟩=>ih m' σ st (by omega) h2,fun _ _ z=>z,fun _ _ z=>z,fun σ st ⟨m',h1,h2⟩=>ih m' σ st (by omega) h2,fun _ _ _ z=>z⟩
   ·exact id
 exact key (m+1) m σ st (by omega) h
section
variable {G:Prog}{k ip iw iz:Nat}{st:aB}{Q:VK}{E:XK}
theorem jK (s:Sy)(r:List Sy):fX (s::r)=sz s+fX r:=by simp [fX]
theorem kU (a b:List Sy):fX (a++b)=fX a+fX b:=by simp [fX]
theorem QT (s:Sy):0<sz s:=by cases s<;>simp [sz]
theorem EK (r:List Sy):r.length<=fX r:=by
 induction r with
 |nil=>simp
 |cons s r ih=>have:=QT s;simp only[jK,List.length_cons];omega
theorem zB (hz:G.fns iz=some (kP iw))(hw:G.fns iw=some iE){l:Nat}{ss:List Sy}(hl:st l=some (.lst (ss.map toD)))(hd:∀ x∈ss,aO x<=60)(hs:fX ss<aY)
  (hQ:∀ p aA,Ext st aA->aA p=some (.lst ((cL ss []).map toD))->Q (.ref p) aA):aN G (k+2) iz [.ref l] st Q E:=by
 rw[aV hz]
 simp only[kP,start]
 refine⟨rfl,?_⟩
 walk_at"st"
 refine bU (by decide) fun p aC x1 hp hp1=>?_
 walk_at"st"
 rw[aE (x1 l _ hl)]
 refine bU (by have:=EK ss;simp only[List.length_reverse,List.length_map];omega) fun q aG x2 hq hq2=>?_
 have hpq:p≠q:=fun z=>by rw[z]at hp1;rw[hq]at hp1;cases hp1
 have p2:=x2 p _ hp1
 try dsimp only
 refine fF ?_
 refine uZ (oZ G (Nat.le_refl _)) (fun m σ aA=>∃(stack f:List Sy)(o:Option D),σ=[some (.ref l),some (.ref p),some (.ref q),o]/\aA p=some (.lst (f.map toD))/\aA q=some (.lst (stack.map toD).reverse)/\fX stack=m /\
  (∀ x∈stack,aO x<=60)/\(∀ x∈f,aO x<=60)/\f.length+fX stack<aY/\cL stack f=cL ss []/\Ext st aA) ?_ (m:=fX ss) ⟨ss,[],none,rfl,p2,hq2,rfl,hd,by simp,by simpa using hs,rfl,fun a o e=>x2 a o (x1 a o e)⟩
 rintro m σ aU ⟨stack,f,o,rfl,hp3,hq3,hm,hds,hdf,hlen,lB,x3⟩
 walk_at"ex"
 rw[ME,dI hq3]
 cases stack with
 |nil =>
  simp only[List.map_nil,List.reverse_nil,List.isEmpty_nil,Bool.not_true,Bool.false_eq_true,if_false]
  walk_at"st"
  refine hQ p aU x3 ?_
  rw[<-lB];exact hp3
 |cons s r =>
  have hne:(!((List.map toD (s::r)).reverse).isEmpty)=true:=by simp
  rw[hne]
  simp only[if_true]
  have hds':=hds s (by simp)
  rw[jK]at hm hlen
  have hsp:=QT s
  have hss:=M5 s
  walk_at"st"
  rw[aE hq3]
  refine⟨trivial,?_⟩
  rw[aE hq3]
  have elast:((List.map toD (s::r)).reverse)[((List.map toD (s::r)).reverse).length-1]? = some (toD s):=by
   simp only[List.map_cons,List.reverse_cons,List.length_append,List.length_cons,List.length_nil]
   rw[List.getElem?_append_right (by simp)]
   simp
  have edrop:((List.map toD (s::r)).reverse).dropLast=(r.map toD).reverse:=by simp
  rw[elast,edrop,aX]
  try dsimp only
  have hp4:(put aU q (.lst (r.map toD).reverse)) p=some (.lst (f.map toD)):=by rw[aJ hpq];exact hp3
  have hx4:Ext st (put aU q (.lst (r.map toD).reverse)):=fun a u e=>by
   by_cases ha:a=q
   ·exfalso
    rw[ha]at e
    rw[x1 q _ e]at hq;cases hq
   ·rw[aJ ha];exact x3 a u e
  have head:∀{P:gB}{cC:aB}{rest:List Sx},cC p=some (.lst (f.map toD)) ->
    (∀ aA,aZ [p] cC aA->aA p=some (.lst ((eT f s).map toD))->cM (aN G (k+1)) G.sub rest P [some (.ref l),some (.ref p),some (.ref q),some (toD s)] aA) ->
    cM (aN G (k+1)) G.sub ((.iff (.and_ (.cmp .in_ (.ix (.v 3) (.c (.int 0))) (.c vO)) (.cmp .jQ (.v 3) (.v 1))) [.ex (.cI .append (.v 1) [(.v 3)])] [])::rest) P [some (.ref l),some (.ref p),some (.ref q),some (toD s)] cC:=by
   intro P cC rest hb hN
   obtain⟨rr,er⟩:=oV s
   walk_at"st"
   rw[er]
   simp only[vO]
   walk_at"ex"
   rw[<-er]
   refine⟨(oJ nJ).s,?_⟩
   have e1:(List.any (nJ.map .str) fun d=>bR cC d (.str (wd s)))=bV s:=(vF (wd s) nJ).trans (DU s)
   rw[e1]
   cases hpp:bV s with
   |false =>
    simp only[Bool.false_eq_true,if_false,aH]
    refine hN cC .refl ?_
    simp only[eT,hpp,Bool.false_and,Bool.false_eq_true,if_false]
    exact hb
   |true =>
    simp only[if_true]
    rw[LB,dI hb,MM]
    refine⟨FJ hds',CT hdf,?_⟩
    cases hc:f.contains s with
    |true =>
     simp only[Bool.not_true,Bool.false_eq_true,if_false,aH]
     refine hN cC .refl ?_
     simp only[eT,hpp,hc,Bool.not_true,Bool.and_false,Bool.false_eq_true,if_false]
     exact hb
    |false =>
     simp only[Bool.not_false,if_true]
     walk_at"st"
     rw[aE hb]
     refine⟨trivial,?_⟩
     rw[aE hb]
     refine⟨by simp only[List.length_map];omega,?_⟩
     rw[aH]
     refine hN _ (aZ.put (by simp)) ?_
     rw[aM]
     simp only[eT,hpp,hc,Bool.not_false,Bool.and_self,if_true,List.map_append,List.map_cons,List.map_nil]
  refine head hp4 fun dC k5 hp5=>?_
  have hq5:dC q=some (.lst (r.map toD).reverse):=k5 q _ (by simpa using Ne.symm hpq) aM
  have hx5:Ext st dC:=fun a u e=>by
   by_cases ha:a=p
   ·exfalso
    rw[ha]at e;rw[hp]at e;cases e
   ·exact k5 a u (by simpa using ha) (hx4 a u e)
  walk_at"st"
  rw[aE hq5]
  refine⟨trivial,sR hw ?_⟩
  walk_at"ex"
  have hsl:=EK (subs s)
  have hrl:=EK r
  refine bU (by simp only[List.length_reverse,List.length_map];omega) fun u fN x6 hu hu6=>?_
  walk_at"ex"
  rw[aE (x6 q _ hq5),aE hu6]
  refine⟨by simp only[List.length_reverse,List.length_map];omega,?_⟩
  rw[aH]
  dsimp only
  refine⟨fX (subs s++r),by rw[kU];omega,subs s++r,eT f s,_,rfl,?_,?_,rfl,fun x hx=>?_,B1 hdf hds',?_,?_,fun a v e=>?_⟩
  ·rw[aJ hpq];exact x6 p _ hp5
  ·rw[aM];simp
  ·rcases List.mem_append.mp hx with hx|hx
   ·have:=B4 hx;omega
   ·exact hds x (by simp [hx])
  ·have:=UT f s;rw[kU];omega
  ·rw[<-QV];exact lB
  ·by_cases ha:a=q
   ·exfalso
    rw[ha]at e
    rw[x1 q _ e]at hq;cases hq
   ·rw[aJ ha];exact x6 a v (hx5 a v e)
end
end L3
end
section
namespace L3
open PySem
noncomputable def fH:List (List Nat):=[W "yes", W "no", W "not", W "and", W "or", W "then", W "same", W "before", W "once", W "sofar", W "since", W "foe", W "friend", W "promise", W "must", W "wish"]
noncomputable def eR:List Nat:=W "abcdefghijklmnopqrstuvwxyz"
noncomputable def iQ (nn lt lg:D):Fn:=⟨1,1,[.iff (.or_ (.not_ (.isi (.v 0) [.str])) (.cmp .in_ (.v 0) (.c nn))) [.ret (.c (.bl false))] [],.ret (.and_ (.chain .le .le (.c (.int 1)) (.bi .len [(.v 0)]) (.c lg)) (.bi .all [(.comp 1 [] [0] true none [(.v 0)] [] (.cmp .in_ (.v 0) (.c lt)))]))]⟩
noncomputable def fB (w:List Nat):Bool:=!(fH.any (·== w))&&decide (1<=w.length)&&decide (w.length<=8)&&w.all fun c=>occurs [c] eR
section
variable {G:Prog}{k i:Nat}{st:aB}{Q:VK}{E:XK}
theorem XY (st:aB)(w:List Nat):((fH.map D.str).any fun d=>bR st d (.str w))=fH.any (·== w):=by
 rw[List.any_map];rfl
theorem RW (st:aB):dU st (fH.map D.str):=⟨rfl,by decide⟩
noncomputable def VB:D->Bool
 |.str x=>occurs x eR
 |_=>false
theorem E6:∀(w:List Nat),boolsOf ((w.map fun c=>D.str [c]).map fun d=>.bl (VB d))=some (w.map fun c=>occurs [c] eR)
 |[]=>rfl
 |c::r=>by
  show(boolsOf ((r.map fun c=>D.str [c]).map fun d=>.bl (VB d))).map (_ :: ·)=_
  rw[E6 r];rfl
theorem DJ (h:G.fns i=some (iQ (.tup (fH.map .str)) (.str eR) (.int 8))){w:List Nat}(hw:w.length<=aY)(hQ:∀ aA,Ext st aA->Q (.bl (fB w)) aA):aN G (k+1) i [.str w] st Q E:=by
 have hL:aY=16777216:=rfl
 rw[aV h]
 simp only[iQ,start]
 refine⟨rfl,?_⟩
 walk_at"st"
 refine⟨RW st,?_⟩
 rw[XY]
 cases c1:fH.any (·== w)with
 |true =>
  simp only[if_true]
  walk_at"st"
  have e:fB w=false:=by simp [fB,c1]
  rw[<-e];exact hQ _ (fun _ _ z=>z)
 |false =>
  simp only[Bool.false_eq_true,if_false]
  rw[aH]
  walk_at"st"
  refine⟨hw,?_⟩
  split
  ·rename_i g1
   split
   ·rename_i g2
    refine⟨hw,?_⟩
    refine comp_map (fun d=>.bl (VB d)) _ [] st (fun aA x a ha=>by cases ha) ?_ (by simp only[List.length_map,List.length_nil];omega) fun aA x=>?_
    ·intro x hx aA K x1 hK
     obtain⟨c,hc,rfl⟩:=List.mem_map.mp hx
     exact hK aA .refl
    ·rw[List.nil_append]
     refine bU (by simp only[List.length_map];omega) fun p aG x2 hp lA=>?_
     simp only[dW]
     rw[aE lA,E6]
     have e:fB w=(w.map fun c=>occurs [c] eR).all id:=by
      simp only[fB,c1,List.all_map]
      have h1:decide (1<=w.length)=true:=decide_eq_true (by omega)
      have h2:decide (w.length<=8)=true:=decide_eq_true (by omega)
      rw[h1,h2]
      rfl
     show Q _ _
     rw[<-e]
     exact hQ _ (x.trans x2)
   ·rename_i g2
    have e:fB w=decide ((w.length:Int)<=8):=by
     have h2:decide (w.length<=8)=false:=decide_eq_false (by omega)
     have h3:decide ((w.length:Int)<=8)=false:=decide_eq_false g2
     simp only[fB,h2,h3,Bool.and_false,Bool.false_and]
    rw[<-e];exact hQ _ .refl
  ·rename_i g1
   have e:fB w=false:=by
    have h1:decide (1<=w.length)=false:=decide_eq_false (by omega)
    simp only[fB,h1,Bool.and_false,Bool.false_and]
   rw[<-e];exact hQ _ .refl
end
end L3
end
section
namespace L3
open PySem
noncomputable def nH (gZ eZ:Nat)(sw:D):Fn:=⟨3,3,[.iff (.or_ (.cmp .lt (.v 2) (.c (.int 1))) (.or_ (.not_ (.isi (.v 1) [.tuple])) (.or_ (.cmp .lt (.bi .len [(.v 1)]) (.c (.int 1))) (.not_ (.isi (.ix (.v 1) (.c (.int 0))) [.str]))))) [.ret (.c (.bl false))] [],.iff (.cmp .eq (.ix (.v 1) (.c (.int 0))) (.c (.str (W "lamp")))) [.ret (.and_ (.cmp .eq (.bi .len [(.v 1)]) (.c (.int 2))) (.and_ (.call gZ [(.ix (.v 1) (.c (.int 1)))]) (.cmp .in_ (.ix (.v 1) (.c (.int 1))) (.v 0))))] [],.iff (.or_ (.cmp .jQ (.ix (.v 1) (.c (.int 0))) (.c sw)) (.cmp .ne (.bi .len [(.v 1)]) (.bin .add (.c (.int 1)) (.ix (.c sw) (.ix (.v 1) (.c (.int 0))))))) [.ret (.c (.bl false))] [],.ret (.bi .all [(.comp 1 [0,2] [0] true none [(.sl (.v 1) [(.c (.int 1))] [])] [] (.call eZ [(.v 1),(.v 0),(.bin .sub (.v 2) (.c (.int 1)))]))])]⟩
section
variable {G:Prog}{k gZ eZ:Nat}{Q:VK}{E:XK}
noncomputable def yF:List D:=[(.str (W "yes")),(.str (W "no")),(.str (W "not")),(.str (W "before")),(.str (W "once")),(.str (W "sofar")),(.str (W "and")),(.str (W "or")),(.str (W "then")),(.str (W "same")),(.str (W "since"))]
noncomputable def AY:List D:=[(.int 0),(.int 0),(.int 1),(.int 1),(.int 1),(.int 1),(.int 2),(.int 2),(.int 2),(.int 2),(.int 2)]
theorem nA {α:Type}:∀(ps:List α),boolsOf (ps.map fun _=>.bl true)=some (ps.map fun _=>true)
 |[]=>rfl
 |_::r=>by
  show(boolsOf (r.map fun _=>.bl true)).map (true :: ·)=_
  rw[nA r];rfl
theorem vR (h:G.fns eZ=some (nH gZ eZ (.cW yF AY))){nm:D}{w:List Nat}{ps:List D}{st:aB}{d:Int}(hd:1<=d)(hl:¬(w==W "lamp")=true)(hin:(yF.any fun x=>bI x (.str w))=true)(har:wI yF AY (.str w)=some (.int ps.length))(hps:ps.length<=2)
  (hp:∀ x∈ps,∀(aA:aB)(Q':VK)(E':XK),Ext st aA->(∀ aS,Ext aA aS->Q' (.bl true) aS)->aN G k eZ [nm,x,.int (d-1)] aA Q' E')(hQ:∀ aA,Ext st aA->Q (.bl true) aA):aN G (k+1) eZ [nm,.tup (.str w::ps),.int d] st Q E:=by
 have hL:aY=16777216:=rfl
 rw[aV h]
 simp only[nH,start]
 refine⟨rfl,?_⟩
 walk_at"st"
 have n1:¬d<1:=by omega
 simp only[if_neg n1]
 have n2:¬((ps.length+1:Nat):Int)<1:=by omega
 simp only[List.length_cons,if_neg n2]
 walk_at"ex"
 rw[aH]
 walk_at"st"
 rw[if_neg hl]
 rw[aH]
 walk_at"st"
 rw[hin]
 simp only[Bool.not_true,Bool.false_eq_true,if_false]
 rw[har]
 show plainS st (.int (1+(ps.length:Int)))/\_
 refine⟨⟨rfl,Nat.zero_le _⟩,?_⟩
 have n3:¬(!bR st (.int ((ps.length+1:Nat):Int)) (.int (1+(ps.length:Int))))=true:=by
  have e:(((ps.length+1:Nat):Int)==1+(ps.length:Int))=true:=beq_iff_eq.mpr (by omega)
  simp only[bR,e,Bool.not_true,Bool.false_eq_true,not_false_iff]
 rw[if_neg n3,aH]
 walk_at"st"
 refine comp_map (fun _=>.bl true) ps [] st (fun aA x a ha=>by cases ha) (fun x hx aA K x1 hK=>hp x hx aA _ _ x1 fun aS x2=>hK aS x2) (by simp only[List.length_nil];omega) fun aA x1=>?_
 rw[List.nil_append]
 refine bU (by simp only[List.length_map];omega) fun p aG x2 hp' lA=>?_
 simp only[dW]
 rw[aE lA,nA]
 show Q (.bl (((ps.map fun _=>true).all id))) _
 have e:(ps.map fun _=>true).all id=true:=by simp
 rw[e]
 exact hQ _ (x1.trans x2)
theorem GI {n:List Nat}(h:fB n=true):n.length<=8:=by
 simp only[fB,Bool.and_eq_true,decide_eq_true_eq]at h
 exact h.1.2
theorem lK (st:aB):∀(names:List (List Nat)),dU st (names.map D.str)
 |[]=>⟨rfl,Nat.zero_le _⟩
 |n::r=>⟨by simp only[List.map_cons,gT,gI,Bool.true_and];exact(lK st r).1,by simp only[List.map_cons,cJ,cH];have:=(lK st r).2;omega⟩
theorem QM (st:aB)(names:List (List Nat))(n:List Nat)(h:n∈names):((names.map D.str).any fun d=>bR st d (.str n))=true:=by
 rw[List.any_map]
 exact List.any_eq_true.mpr ⟨n,h,by show(n==n)=true;simp⟩
theorem SF (h:G.fns eZ=some (nH gZ eZ (.cW yF AY)))(hn:G.fns gZ=some (iQ (.tup (fH.map .str)) (.str eR) (.int 8))){names:List (List Nat)}(jC:∀ n∈names,fB n=true){n:List Nat}(ho:n∈names){st:aB}{d:Int}(hd:1<=d)
 (hQ:∀ aA,Ext st aA->Q (.bl true) aA):aN G (k+1+1) eZ [.tup (names.map .str),.tup [.str (W "lamp"),.str n],.int d] st Q E:=by
 have hL:aY=16777216:=rfl
 rw[aV h]
 simp only[nH,start]
 refine⟨rfl,?_⟩
 walk_at"st"
 have n1:¬d<1:=by omega
 simp only[if_neg n1]
 walk_at"ex"
 have n2:¬((0+1+1:Nat):Int)<1:=by decide
 simp only[if_neg n2]
 walk_at"ex"
 rw[aH]
 walk_at"st"
 have n3:(W "lamp" == W "lamp")=true:=by simp
 simp only[n3,if_true]
 walk_at"st"
 rw[if_pos (by decide)]
 refine DJ (w:=n) hn (by have:=GI (jC n ho);omega) fun aA x1=>?_
 rw[jC n ho]
 show dU aA (names.map .str)/\Q (.bl ((names.map D.str).any fun d=>bR aA d (.str n))) aA
 refine⟨lK aA names,?_⟩
 rw[QM aA names n ho]
 exact hQ _ x1
theorem AG (h:G.fns eZ=some (nH gZ eZ (.cW yF AY)))(hn:G.fns gZ=some (iQ (.tup (fH.map .str)) (.str eR) (.int 8))){names:List (List Nat)}(jC:∀ n∈names,fB n=true):
  ∀(s:Sy){k:Nat}{st:aB}{Q:VK}{E:XK}{d:Int},over names s->(aO s:Int)<=d->(∀ aA,Ext st aA->Q (.bl true) aA)->aN G (k+aO s+1) eZ [.tup (names.map .str),toD s,.int d] st Q E
 |.yes,k,st,Q,E,d,ho,hd,hQ=>by
  simp only[aO]at hd
  exact vR h (by omega) (by decide) (by decide) rfl (by decide) (fun x hx=>by cases hx) hQ
 |.no,k,st,Q,E,d,ho,hd,hQ=>by
  simp only[aO]at hd
  exact vR h (by omega) (by decide) (by decide) rfl (by decide) (fun x hx=>by cases hx) hQ
 |.cN n,k,st,Q,E,d,ho,hd,hQ=>by
  simp only[aO]at hd ⊢
  exact SF h hn jC ho (by omega) hQ
 |.one w s,k,st,Q,E,d,ho,hd,hQ=>by
  simp only[aO]at hd ⊢
  refine vR (ps:=[toD s]) h (by omega) (by cases w<;>decide) (by cases w<;>decide) (by cases w<;>rfl) (by simp) (fun x hx aA Q' E' x1 hQ'=>?_) hQ
  simp only[List.mem_singleton]at hx
  subst hx
  have:=AG h hn jC s (k:=k) (st:=aA) (Q:=Q') (E:=E') (d:=d-1) ho (by omega) hQ'
  exact this
 |.two w s t,k,st,Q,E,d,ho,hd,hQ=>by
  simp only[aO]at hd ⊢
  refine vR (ps:=[toD s,toD t]) h (by omega) (by cases w<;>decide) (by cases w<;>decide) (by cases w<;>rfl) (by simp) (fun x hx aA Q' E' x1 hQ'=>?_) hQ
  have l1:=Nat.le_max_left (aO s) (aO t)
  have l2:=Nat.le_max_right (aO s) (aO t)
  simp only[List.mem_cons,List.not_mem_nil,or_false]at hx
  rcases hx with rfl|rfl
  ·have:=AG h hn jC s (k:=k+(max (aO s) (aO t)-aO s)) (st:=aA) (Q:=Q') (E:=E') (d:=d-1) ho.1 (by omega) hQ'
   have e:k+(max (aO s) (aO t)-aO s)+aO s+1=k+(max (aO s) (aO t)+1):=by omega
   rw[e]at this;exact this
  ·have:=AG h hn jC t (k:=k+(max (aO s) (aO t)-aO t)) (st:=aA) (Q:=Q') (E:=E') (d:=d-1) ho.2 (by omega) hQ'
   have e:k+(max (aO s) (aO t)-aO t)+aO t+1=k+(max (aO s) (aO t)+1):=by omega
   rw[e]at this;exact this
end
end L3
end
section
namespace L3
open PySem
noncomputable def lI:Fn:=⟨3,3,[.ret (.and_ (.isi (.v 0) [.tuple]) (.chain .le .le (.v 1) (.bi .len [(.v 0)]) (.v 2)))]⟩
noncomputable def KO (ir gZ:Nat)(ml:D):Fn:=⟨2,3,[.iff (.or_ (.not_ (.call ir [(.v 0),(.c (.int 1)),(.c ml)])) (.not_ (.call ir [(.v 1),(.c (.int 1)),(.c ml)]))) [.ret (.c (.bl false))] [],.asg (.nm 2) (.bin .add (.v 0) (.v 1)),.ret (.and_ (.bi .all [(.comp 1 [] [0] true none [(.v 2)] [] (.call gZ [(.v 0)]))]) (.cmp .eq (.bi .rL [(.v 2)]) (.bi .len [(.v 2)])))]⟩
section
variable {G:Prog}{k ir gZ il:Nat}{st:aB}{Q:VK}{E:XK}
theorem lZ (h:G.fns ir=some lI){ds:List D}{lo hi:Int}(hQ:Q (.bl (decide (lo<=(ds.length:Int))&&decide ((ds.length:Int)<=hi))) st):aN G (k+1) ir [.tup ds,.int lo,.int hi] st Q E:=by
 rw[aV h]
 simp only[lI,start]
 refine⟨rfl,?_⟩
 walk_at"st"
 by_cases c:lo<=(ds.length:Int)
 ·rw[if_pos c]
  rw[decide_eq_true c,Bool.true_and]at hQ
  exact hQ
 ·rw[if_neg c]
  rw[decide_eq_false c,Bool.false_and]at hQ
  exact hQ
theorem GV:∀(ws seen:List (List Nat)),(seen++ws).Nodup->zM seen ws=ws.length
 |[],_,_=>rfl
 |w::r,seen,h=>by
  have e:seen.any (·== w)=false:=by
   rw[List.any_eq_false]
   intro x hx z
   have:x=w:=by simpa using z
   subst this
   rw[List.nodup_append]at h
   exact h.2.2 x hx x (by simp) rfl
  show(if seen.any (·== w)=true then 0 else 1)+zM (seen++[w]) r=_
  rw[e,GV r (seen++[w]) (by simpa using h)]
  simp only[Bool.false_eq_true,if_false,List.length_cons]
  omega
theorem DG:∀(ws:List (List Nat)),strsOf (ws.map .str)=some ws
 |[]=>rfl
 |w::r=>by
  show(strsOf (r.map .str)).map (w :: ·)=_
  rw[DG r];rfl
theorem UQ (h:G.fns il=some (KO ir gZ (.int 2)))(hr:G.fns ir=some lI)(hn:G.fns gZ=some (iQ (.tup (fH.map .str)) (.str eR) (.int 8))){fs gs:List (List Nat)}(h1:1<=fs.length)(h2:fs.length<=2)(h3:1<=gs.length)(h4:gs.length<=2)(h5:(fs++gs).Nodup)(h6:∀ n∈fs++gs,fB n=true)
  (hQ:∀ aA,Ext st aA->Q (.bl true) aA):aN G (k+2) il [.tup (fs.map .str),.tup (gs.map .str)] st Q E:=by
 have hL:aY=16777216:=rfl
 rw[aV h]
 simp only[KO,start]
 refine⟨rfl,?_⟩
 walk_at"st"
 refine lZ hr ?_
 have e1:(decide ((1:Int)<=((fs.map D.str).length:Int))&&decide (((fs.map D.str).length:Int)<=2))=true:=by simp only[List.length_map,Bool.and_eq_true,decide_eq_true_eq];omega
 rw[e1]
 walk_at"ex"
 refine lZ hr ?_
 have e2:(decide ((1:Int)<=((gs.map D.str).length:Int))&&decide (((gs.map D.str).length:Int)<=2))=true:=by simp only[List.length_map,Bool.and_eq_true,decide_eq_true_eq];omega
 rw[e2]
 walk_at"ex"
 rw[aH]
 walk_at"st"
 refine⟨by simp only[List.length_map];omega,?_⟩
 rw[<-List.map_append]
 walk_at"st"
 refine comp_map (fun _=>.bl true) _ [] st (fun aA x a ha=>by cases ha) (fun x hx aA K x1 hK=>?_) (by simp only[List.length_map,List.length_append,List.length_nil];omega) fun aA x1=>?_
 ·obtain⟨n,hn',rfl⟩:=List.mem_map.mp hx
  refine DJ (w:=n) hn (by have:=GI (h6 n hn');omega) fun aS x2=>?_
  rw[h6 n hn']
  exact hK aS x2
 ·rw[List.nil_append]
  refine bU (by simp only[List.length_map,List.length_append];omega) fun p aG x2 hp' lA=>?_
  simp only[dW]
  rw[aE lA,nA]
  rw[aX,DG,aX]
  have e3:(List.map (fun _=>true) ((fs++gs).map D.str)).all id=true:=by simp
  rw[if_pos e3]
  refine⟨by simp only[List.length_append];omega,?_⟩
  have e4:(((zM [] (fs++gs):Nat):Int)==((((fs++gs).map D.str).length:Nat):Int))=true:=by
   rw[GV (fs++gs) [] (by simpa using h5),List.length_map];simp
  rw[e4]
  exact hQ _ (x1.trans x2)
end
end L3
end
section
namespace L3
open PySem
noncomputable def qS (eZ:Nat)(dp:D):Fn:=⟨2,2,[.ret (.call eZ [(.v 0),(.v 1),(.c dp)])]⟩
noncomputable def AB (ir iy:Nat):Fn:=⟨3,3,[.ret (.and_ (.call ir [(.v 1),(.c (.int 0)),(.v 2)]) (.bi .all [(.comp 1 [0] [0] true none [(.v 1)] [] (.call iy [(.v 1),(.v 0)]))]))]⟩
noncomputable def qB (hp:D):Fn:=⟨1,1,[.ret (.and_ (.isi (.v 0) [.int]) (.and_ (.not_ (.isi (.v 0) [.bool])) (.chain .le .le (.c (.int 1)) (.v 0) (.c hp))))]⟩
noncomputable def zW (ir ip iy:Nat):Fn:=⟨2,2,[.ret (.and_ (.call ir [(.v 1),(.c (.int 2)),(.c (.int 2))]) (.and_ (.call ip [(.ix (.v 1) (.c (.int 0)))]) (.call iy [(.v 0),(.ix (.v 1) (.c (.int 1)))])))]⟩
noncomputable def BR (ir iw:Nat)(mw:D):Fn:=⟨2,2,[.ret (.and_ (.call ir [(.v 1),(.c (.int 1)),(.c mw)]) (.bi .all [(.comp 1 [0] [0] true none [(.v 1)] [] (.call iw [(.v 1),(.v 0)]))]))]⟩
section
variable {G:Prog}{k ir gZ eZ iy ip iw ia:Nat}{st:aB}{Q:VK}{E:XK}{names:List (List Nat)}
theorem FQ (hy:G.fns iy=some (qS eZ (.int 8)))(h:G.fns eZ=some (nH gZ eZ (.cW yF AY)))(hn:G.fns gZ=some (iQ (.tup (fH.map .str)) (.str eR) (.int 8)))(jC:∀ n∈names,fB n=true){s:Sy}(ho:over names s)(hd:aO s<=8)
 (hQ:∀ aA,Ext st aA->Q (.bl true) aA):aN G (k+10) iy [.tup (names.map .str),toD s] st Q E:=by
 rw[aV hy]
 simp only[qS,start]
 refine⟨rfl,?_⟩
 walk_at"st"
 have:=AG h hn jC s (k:=k+(8-aO s)) (st:=st) (Q:=Q) (E:=E) (d:=8) ho (by omega) hQ
 have e:k+(8-aO s)+aO s+1=k+9:=by omega
 rw[e]at this;exact this
theorem DA (ha:G.fns ia=some (AB ir iy))(hr:G.fns ir=some lI)(hy:G.fns iy=some (qS eZ (.int 8)))(h:G.fns eZ=some (nH gZ eZ (.cW yF AY)))(hn:G.fns gZ=some (iQ (.tup (fH.map .str)) (.str eR) (.int 8)))(jC:∀ n∈names,fB n=true){ss:List Sy}{m:Int}
  (ho:∀ s∈ss,over names s/\aO s<=8)(hl:(ss.length:Int)<=m)(hl2:ss.length<=1000)(hQ:∀ aA,Ext st aA->Q (.bl true) aA):aN G (k+11) ia [.tup (names.map .str),.tup (ss.map toD),.int m] st Q E:=by
 have hL:aY=16777216:=rfl
 rw[aV ha]
 simp only[AB,start]
 refine⟨rfl,?_⟩
 walk_at"st"
 refine lZ hr ?_
 have e1:(decide ((0:Int)<=((ss.map toD).length:Int))&&decide (((ss.map toD).length:Int)<=m))=true:=by simp only[List.length_map,Bool.and_eq_true,decide_eq_true_eq];omega
 rw[e1]
 walk_at"ex"
 refine comp_map (fun _=>.bl true) _ [] st (fun aA x a ha=>by cases ha) (fun x hx aA K x1 hK=>?_) (by simp only[List.length_map,List.length_nil];omega) fun aA x1=>?_
 ·obtain⟨s,hs,rfl⟩:=List.mem_map.mp hx
  exact FQ hy h hn jC (ho s hs).1 (ho s hs).2 fun aS x2=>hK aS x2
 ·rw[List.nil_append]
  refine bU (by simp only[List.length_map];omega) fun p aG x2 hp' lA=>?_
  simp only[dW]
  rw[aE lA,nA,aX]
  have e3:(List.map (fun _=>true) (ss.map toD)).all id=true:=by simp
  rw[e3]
  exact hQ _ (x1.trans x2)
theorem LF (h:G.fns ip=some (qB (.int 99))){p:Int}(h1:1<=p)(h2:p<=99)(hQ:Q (.bl true) st):aN G (k+1) ip [.int p] st Q E:=by
 rw[aV h]
 simp only[qB,start]
 refine⟨rfl,?_⟩
 walk_at"st"
 rw[if_pos h1,decide_eq_true h2]
 exact hQ
theorem NN (hw:G.fns iw=some (zW ir ip iy))(hr:G.fns ir=some lI)(hp:G.fns ip=some (qB (.int 99)))(hy:G.fns iy=some (qS eZ (.int 8)))(h:G.fns eZ=some (nH gZ eZ (.cW yF AY)))(hn:G.fns gZ=some (iQ (.tup (fH.map .str)) (.str eR) (.int 8)))(jC:∀ n∈names,fB n=true){s:Sy}{p:Int}
 (h1:1<=p)(h2:p<=99)(ho:over names s)(hd:aO s<=8)(hQ:∀ aA,Ext st aA->Q (.bl true) aA):aN G (k+11) iw [.tup (names.map .str),.tup [.int p,toD s]] st Q E:=by
 rw[aV hw]
 simp only[zW,start]
 refine⟨rfl,?_⟩
 walk_at"st"
 refine lZ hr ?_
 have e1:(decide ((2:Int)<=(([.int p,toD s]:List D).length:Int))&&decide ((([.int p,toD s]:List D).length:Int)<=2))=true:=rfl
 rw[e1]
 walk_at"ex"
 refine LF hp h1 h2 ?_
 walk_at"ex"
 exact FQ hy h hn jC ho hd fun aS x2=>hQ aS x2
end
end L3
end
section
namespace L3
open PySem
noncomputable def uY (ih ib:Nat):Fn:=⟨2,2,[.iff (.cmp .eq (.ix (.v 1) (.c (.int 0))) (.c (.str (W "before")))) [.ret (.c (.bl false))] [],.iff (.cmp .eq (.ix (.v 1) (.c (.int 0))) (.c (.str (W "lamp")))) [.ret (.cmp .in_ (.ix (.v 1) (.c (.int 1))) (.v 0))] [],.ret (.bi .any [(.comp 1 [0] [0] true none [(.call ih [(.v 1)])] [] (.call ib [(.v 1),(.v 0)]))])]⟩
noncomputable def fQ (gs:List (List Nat)):Sy->Bool
 |.cN n=>gs.any (·== n)
 |.one .before _=>false
 |.one _ s=>fQ gs s
 |.two _ s t=>fQ gs s||fQ gs t
 |_=>false
section
variable {G:Prog}{k ih ib ir gZ eZ iy ip iw ia:Nat}{st:aB}{Q:VK}{E:XK}{names:List (List Nat)}
theorem LC (ha:G.fns ia=some (BR ir iw (.int 5)))(hw:G.fns iw=some (zW ir ip iy))(hr:G.fns ir=some lI)(hp:G.fns ip=some (qB (.int 99)))(hy:G.fns iy=some (qS eZ (.int 8)))(h:G.fns eZ=some (nH gZ eZ (.cW yF AY)))(hn:G.fns gZ=some (iQ (.tup (fH.map .str)) (.str eR) (.int 8)))(jC:∀ n∈names,fB n=true){ws:List (Int×Sy)}
  (ho:∀ w∈ws,1<=w.1/\w.1<=99/\over names w.2/\aO w.2<=8)(h1:1<=ws.length)(h2:ws.length<=5)(hQ:∀ aA,Ext st aA->Q (.bl true) aA):aN G (k+12) ia [.tup (names.map .str),.tup (ws.map fun w=>.tup [.int w.1,toD w.2])] st Q E:=by
 have hL:aY=16777216:=rfl
 rw[aV ha]
 simp only[BR,start]
 refine⟨rfl,?_⟩
 walk_at"st"
 refine lZ hr ?_
 have e1:(decide ((1:Int)<=((ws.map fun w=>D.tup [.int w.1,toD w.2]).length:Int))&&decide (((ws.map fun w=>D.tup [.int w.1,toD w.2]).length:Int)<=5))=true:=by simp only[List.length_map,Bool.and_eq_true,decide_eq_true_eq];omega
 rw[e1]
 walk_at"ex"
 refine comp_map (fun _=>.bl true) _ [] st (fun aA x a ha=>by cases ha) (fun x hx aA K x1 hK=>?_) (by simp only[List.length_map,List.length_nil];omega) fun aA x1=>?_
 ·obtain⟨s,hs,rfl⟩:=List.mem_map.mp hx
  obtain⟨o1,o2,o3,o4⟩:=ho s hs
  exact NN hw hr hp hy h hn jC o1 o2 o3 o4 fun aS x2=>hK aS x2
 ·rw[List.nil_append]
  refine bU (by simp only[List.length_map];omega) fun p aG x2 hp' lA=>?_
  simp only[dW]
  rw[aE lA,nA,aX]
  have e3:(List.map (fun _=>true) (ws.map fun w=>D.tup [.int w.1,toD w.2])).all id=true:=by simp
  rw[e3]
  exact hQ _ (x1.trans x2)
end
end L3
end
section
namespace L3
open PySem
theorem dS {α:Type}{g:aB->Prop}{turn:D->aB->(Option D->aB->Prop)->Prop}{R:List D->aB->Prop}(t f:α->D):∀(xs:List α)(acc:List D)(st:aB),
  (∀ aA,Ext st aA->g aA)->(∀ x∈xs,∀ aA (K:Option D->aB->Prop),Ext st aA->(∀ aS,Ext aA aS->K (some (f x)) aS)->turn (t x) aA K) ->
  acc.length+xs.length<=aY->(∀ aA,Ext st aA->R (acc++xs.map f) aA)->jI g turn (xs.map t) acc st R
 |[],acc,st,hg,_,_,hR=>⟨hg st .refl,by simpa using hR st .refl⟩
 |x::xs,acc,st,hg,ht,hl,hR=>by
  simp only[List.length_cons]at hl
  refine⟨hg st .refl,by omega,ht x (by simp) st _ .refl fun aS h''=>?_⟩
  exact dS t f xs (acc++[f x]) aS (fun aA h=>hg aA (h''.trans h)) (fun y hy aA K h=>ht y (by simp [hy]) aA K (h''.trans h)) (by simp only[List.length_append,List.length_cons,List.length_nil];omega) fun aA h=>by simpa using hR aA (h''.trans h)
theorem oA {α:Type}(b:α->Bool):∀(ps:List α),boolsOf (ps.map fun x=>.bl (b x))=some (ps.map b)
 |[]=>rfl
 |x::r=>by
  show(boolsOf (r.map fun x=>.bl (b x))).map (b x :: ·)=_
  rw[oA b r];rfl
section
variable {G:Prog}{k ih ib:Nat}{Q:VK}{E:XK}{gs:List (List Nat)}
theorem vI (h:G.fns ib=some (uY ih ib))(hh:G.fns ih=some iE){s:Sy}{st:aB}(h1:¬(wd s==W "before")=true)(h2:gD s=false)(h3:¬(wd s==W "lamp")=true)(h4:(subs s).length<=2)
 (hp:∀ x∈subs s,∀(aA:aB)(Q':VK)(E':XK),Ext st aA->(∀ aS,Ext aA aS->Q' (.bl (fQ gs x)) aS)->aN G (k+1) ib [.tup (gs.map .str),toD x] aA Q' E')(hQ:∀ aA,Ext st aA->Q (.bl ((subs s).any (fQ gs))) aA):aN G (k+2) ib [.tup (gs.map .str),toD s] st Q E:=by
 have hL:aY=16777216:=rfl
 rw[aV h]
 simp only[uY,start]
 refine⟨rfl,?_⟩
 obtain⟨r,er⟩:=oV s
 rw[er]
 walk_at"st"
 rw[if_neg h1,aH]
 walk_at"st"
 rw[if_neg h3,aH]
 walk_at"st"
 rw[<-er]
 refine sR hh ?_
 walk_at"ex"
 refine dS toD (fun x=>.bl (fQ gs x)) _ [] st (fun aA x a ha=>by cases ha) (fun x hx aA K x1 hK=>hp x hx aA _ _ x1 fun aS x2=>hK aS x2) (by simp only[List.length_nil];omega) fun aA x1=>?_
 rw[List.nil_append]
 refine bU (by simp only[List.length_map];omega) fun p aG x2 hp' lA=>?_
 simp only[dW]
 rw[aE lA,oA,aX,List.any_map]
 exact hQ _ (x1.trans x2)
theorem zV (h:G.fns ib=some (uY ih ib))(hh:G.fns ih=some iE):∀(s:Sy){k:Nat}{st:aB}{Q:VK}{E:XK},(∀ aA,Ext st aA->Q (.bl (fQ gs s)) aA)->aN G (k+aO s+1) ib [.tup (gs.map .str),toD s] st Q E
 |.yes,k,st,Q,E,hQ=>vI (k:=k) h hh (by decide) rfl (by decide) (by decide) (fun x hx=>by cases hx) hQ
 |.no,k,st,Q,E,hQ=>vI (k:=k) h hh (by decide) rfl (by decide) (by decide) (fun x hx=>by cases hx) hQ
 |.cN n,k,st,Q,E,hQ=>by
  rw[aV h]
  simp only[uY,start,toD]
  refine⟨rfl,?_⟩
  walk_at"st"
  have n1:¬(W "lamp" == W "before")=true:=by decide
  rw[if_neg n1,aH]
  walk_at"st"
  have n3:(W "lamp" == W "lamp")=true:=by decide
  rw[if_pos n3]
  walk_at"st"
  refine⟨lK st gs,?_⟩
  have e:((gs.map D.str).any fun d=>bR st d (.str n))=fQ gs (.cN n):=by rw[List.any_map];rfl
  rw[e]
  exact hQ _ .refl
 |.one w s,k,st,Q,E,hQ=>by
  by_cases hw:w=.before
  ·subst hw
   rw[aV h]
   simp only[uY,start,toD,c1]
   refine⟨rfl,?_⟩
   walk_at"st"
   have n1:(W "before" == W "before")=true:=by decide
   rw[if_pos n1]
   walk_at"st"
   exact hQ _ .refl
  ·have e0:k+aO (.one w s)+1=(k+aO s)+2:=by simp only[aO];omega
   rw[e0]
   refine vI h hh (show ¬(c1 w==W "before")=true by cases w<;>first|decide|exact absurd rfl hw) rfl (show ¬(c1 w==W "lamp")=true by cases w<;>decide) (by simp [subs]) (fun x hx aA Q' E' x1 hQ'=>?_) (fun aA x1=>?_)
   ·simp only[subs,List.mem_cons,List.not_mem_nil,or_false]at hx
    rw[hx]at hQ' ⊢
    exact zV h hh s (k:=k) (st:=aA) (Q:=Q') (E:=E') hQ'
   ·have e1:(subs (.one w s)).any (fQ gs)=fQ gs (.one w s):=by
     cases w<;>first|exact absurd rfl hw|simp [subs,fQ]
    rw[e1];exact hQ aA x1
 |.two w s t,k,st,Q,E,hQ=>by
  have l1:=Nat.le_max_left (aO s) (aO t)
  have l2:=Nat.le_max_right (aO s) (aO t)
  have e0:k+aO (.two w s t)+1=(k+max (aO s) (aO t))+2:=by simp only[aO];omega
  rw[e0]
  refine vI h hh (show ¬(c2 w==W "before")=true by cases w<;>decide) rfl (show ¬(c2 w==W "lamp")=true by cases w<;>decide) (by simp [subs]) (fun x hx aA Q' E' x1 hQ'=>?_) (fun aA x1=>by simpa [subs,fQ]using hQ aA x1)
  simp only[subs,List.mem_cons,List.not_mem_nil,or_false]at hx
  rcases hx with hx|hx
  ·rw[hx]at hQ' ⊢
   have:=zV h hh s (k:=k+(max (aO s) (aO t)-aO s)) (st:=aA) (Q:=Q') (E:=E') hQ'
   have e:k+(max (aO s) (aO t)-aO s)+aO s+1=k+max (aO s) (aO t)+1:=by omega
   rw[e]at this;exact this
  ·rw[hx]at hQ' ⊢
   have:=zV h hh t (k:=k+(max (aO s) (aO t)-aO t)) (st:=aA) (Q:=Q') (E:=E') hQ'
   have e:k+(max (aO s) (aO t)-aO t)+aO t+1=k+max (aO s) (aO t)+1:=by omega
   rw[e]at this;exact this
end
end L3
end
section
namespace L3
open PySem
noncomputable def ES (ia ib:Nat)(mp:D):Fn:=⟨3,3,[.ret (.and_ (.call ia [(.v 0),(.v 2),(.c mp)]) (.not_ (.bi .any [(.comp 1 [1] [0] true none [(.v 2)] [] (.call ib [(.v 1),(.v 0)]))])))]⟩
noncomputable def uQ:Fn:=⟨3,3,[.ret (.bin .add (.bin .add (.bi .list [(.v 0)]) (.bi .list [(.v 1)])) (.comp 1 [] [0] true none [(.v 2)] [] (.ix (.v 0) (.c (.int 1)))))]⟩
section
variable {G:Prog}{k ih ib ir gZ eZ iy ia iap io:Nat}{st:aB}{Q:VK}{E:XK}{names gs:List (List Nat)}
theorem OJ (hp:G.fns iap=some (ES ia ib (.int 3)))(hb:G.fns ib=some (uY ih ib))(hh:G.fns ih=some iE)(ha:G.fns ia=some (AB ir iy))(hr:G.fns ir=some lI)(hy:G.fns iy=some (qS eZ (.int 8)))(h:G.fns eZ=some (nH gZ eZ (.cW yF AY)))(hn:G.fns gZ=some (iQ (.tup (fH.map .str)) (.str eR) (.int 8)))(jC:∀ n∈names,fB n=true){ss:List Sy}
  (ho:∀ s∈ss,over names s/\aO s<=8)(hl:ss.length<=3)(hbare:∀ s∈ss,fQ gs s=false)(hQ:∀ aA,Ext st aA->Q (.bl true) aA):aN G (k+12) iap [.tup (names.map .str),.tup (gs.map .str),.tup (ss.map toD)] st Q E:=by
 have hL:aY=16777216:=rfl
 rw[aV hp]
 simp only[ES,start]
 refine⟨rfl,?_⟩
 walk_at"st"
 refine DA ha hr hy h hn jC ho (by omega) (by omega) fun aC y1=>?_
 walk_at"ex"
 refine dS toD (fun _=>.bl false) _ [] aC (fun aA x a ha=>by cases ha) (fun x hx aA K x1 hK=>?_) (by simp only[List.length_nil];omega) fun aA x1=>?_
 ·have e:k+11=(k+10-aO x)+aO x+1:=by have:=(ho x hx).2;omega
  rw[e]
  refine zV hb hh x fun aS x2=>?_
  rw[hbare x hx]
  exact hK aS x2
 ·rw[List.nil_append]
  refine bU (by simp only[List.length_map];omega) fun p aG x2 hp' lA=>?_
  simp only[dW]
  rw[aE lA,oA (fun _=>false),aX]
  have e3:(ss.map fun _=>false).any id=false:=by simp
  rw[e3]
  exact hQ _ ((y1.trans x1).trans x2)
theorem GP (h:G.fns io=some uQ){ps ms:List Sy}{ws:List (Int×Sy)}(h1:ps.length<=1000)(h2:ms.length<=1000)(h3:ws.length<=1000)
 (hQ:∀ p aA,Ext st aA->aA p=some (.lst ((ps++ms++ws.map (·.2)).map toD))->Q (.ref p) aA):aN G (k+1) io [.tup (ps.map toD),.tup (ms.map toD),.tup (ws.map fun w=>.tup [.int w.1,toD w.2])] st Q E:=by
 have hL:aY=16777216:=rfl
 rw[aV h]
 simp only[uQ,start]
 refine⟨rfl,?_⟩
 walk_at"st"
 refine bU (by simp only[List.length_map];omega) fun p aC x1 hp hp1=>?_
 walk_at"ex"
 refine bU (by simp only[List.length_map];omega) fun q aG x2 hq hq2=>?_
 walk_at"ex"
 rw[aE (x2 _ _ hp1),aE hq2]
 refine bU (by simp only[List.length_map,List.length_append];omega) fun r aU x3 hr hr3=>?_
 refine dS (fun w:Int×Sy=>D.tup [.int w.1,toD w.2]) (fun w=>toD w.2) _ [] aU (fun aA x a ha=>by cases ha) (fun x hx aA K y1 hK=>hK aA .refl) (by simp only[List.length_nil];omega) fun cC x4=>?_
 rw[List.nil_append]
 refine bU (by simp only[List.length_map];omega) fun u dC x5 hu hu5=>?_
 show cD dC r fun xs=>cD dC u fun ys=>gU (xs++ys) dC Q
 rw[aE (x5 _ _ (x4 _ _ hr3)),aE hu5]
 refine bU (by simp only[List.length_map,List.length_append];omega) fun v fN x6 hv hv6=>?_
 refine hQ v fN (((((x1.trans x2).trans x3).trans x4).trans x5).trans x6) ?_
 rw[hv6]
 simp only[List.map_append,List.map_map]
 rfl
end
end L3
end
section
namespace L3
open PySem
noncomputable def DX (ir il iap ia iaw ipi io:Nat)(mm mp:D):Fn:=⟨1,6,[.iff (.or_ (.not_ (.call ir [(.v 0),(.c (.int 5)),(.c (.int 5))])) (.not_ (.call il [(.ix (.v 0) (.c (.int 0))),(.ix (.v 0) (.c (.int 1)))]))) [.ret (.c (.bl false))] [],.asg (.nm 1) (.ix (.v 0) (.c (.int 1))),.asg (.nm 2) (.bin .add (.ix (.v 0) (.c (.int 0))) (.v 1)),.asg (.nm 3) (.ix (.v 0) (.c (.int 2))),.asg (.nm 4) (.ix (.v 0) (.c (.int 3))),.asg (.nm 5) (.ix (.v 0) (.c (.int 4))),.iff (.or_ (.not_ (.call iap [(.v 2),(.v 1),(.v 3)])) (.not_ (.call ia [(.v 2),(.v 4),(.c mm)]))) [.ret (.c (.bl false))] [],.ret (.and_ (.call iaw [(.v 2),(.v 5)]) (.cmp .le (.bi .len [(.call ipi [(.call io [(.v 3),(.v 4),(.v 5)])])]) (.c mp)))]⟩
structure Bk where
 fs:List (List Nat)
 gs:List (List Nat)
 ps:List Sy
 ms:List Sy
 ws:List (Int×Sy)
noncomputable def Bk.d (b:Bk):D:=.tup [.tup (b.fs.map .str),.tup (b.gs.map .str),.tup (b.ps.map toD),.tup (b.ms.map toD),.tup (b.ws.map fun w=>.tup [.int w.1,toD w.2])]
noncomputable def Bk.names (b:Bk):List (List Nat):=b.fs++b.gs
noncomputable def Bk.says (b:Bk):List Sy:=b.ps++b.ms++b.ws.map (·.2)
structure Bk.Ok (b:Bk):Prop where
 f1:1<=b.fs.length
 f2:b.fs.length<=2
 g1:1<=b.gs.length
 g2:b.gs.length<=2
 nd:b.names.Nodup
 nm:∀ n∈b.names,fB n=true
 p1:b.ps.length<=3
 p2:∀ s∈b.ps,over b.names s/\aO s<=8
 p3:∀ s∈b.ps,fQ b.gs s=false
 m1:b.ms.length<=3
 m2:∀ s∈b.ms,over b.names s/\aO s<=8
 w1:1<=b.ws.length
 w2:b.ws.length<=5
 w3:∀ w∈b.ws,1<=w.1/\w.1<=99/\over b.names w.2/\aO w.2<=8
section
variable {G:Prog}{k ih ib ir gZ eZ iy ia iap io il iaw ipi ip iw ibk:Nat}{st:aB}{Q:VK}{E:XK}
theorem LN (h:G.fns ir=some lI){ds:List D}{lo hi:Int}(h1:lo<=(ds.length:Int))(h2:(ds.length:Int)<=hi)(hQ:Q (.bl true) st):aN G (k+1) ir [.tup ds,.int lo,.int hi] st Q E :=
 lZ h (by rw[decide_eq_true h1,decide_eq_true h2];exact hQ)
end
end L3
end
section
namespace L3
open PySem
section
variable {G:Prog}{k ir il iap ia iaw ipi io ibk:Nat}{Q:VK}{E:XK}
theorem LA (hbk:G.fns ibk=some (DX ir il iap ia iaw ipi io (.int 3) (.int 4)))(hr:G.fns ir=some lI){F J P M V N:D}{st:aB}{Φ:Nat->aB->Prop}
 (h1:∀(st:aB)(Q:VK)(E:XK),(∀ aA,Ext st aA->Q (.bl true) aA)->aN G (k+12) il [F,J] st Q E)(h2:∀(st:aB)(Q:VK),Q N st->gN .add F J st Q)
 (h3:∀(st:aB)(Q:VK)(E:XK),(∀ aA,Ext st aA->Q (.bl true) aA)->aN G (k+12) iap [N,J,P] st Q E)(h4:∀(st:aB)(Q:VK)(E:XK),(∀ aA,Ext st aA->Q (.bl true) aA)->aN G (k+12) ia [N,M,.int 3] st Q E)
 (h5:∀(st:aB)(Q:VK)(E:XK),(∀ aA,Ext st aA->Q (.bl true) aA)->aN G (k+12) iaw [N,V] st Q E)(h6:∀(st:aB)(Q:VK)(E:XK),(∀ l aA,Ext st aA->Φ l aA->Q (.ref l) aA)->aN G (k+12) io [P,M,V] st Q E)
 (h7:∀(l:Nat)(st:aB)(Q:VK)(E:XK),Φ l st->(∀ p aA (xs:List D),Ext st aA->xs.length<=4->aA p=some (.lst xs)->Q (.ref p) aA)->aN G (k+12) ipi [.ref l] st Q E)
 (hQ:∀ aA,Ext st aA->Q (.bl true) aA):aN G (k+13) ibk [.tup [F,J,P,M,V]] st Q E:=by
 rw[aV hbk]
 simp only[DX,start]
 refine⟨rfl,?_⟩
 walk_at"st"
 refine LN hr (Int.le_refl 5) (Int.le_refl 5) ?_
 walk_at"ex"
 refine h1 _ _ _ fun aC x1=>?_
 walk_at"ex"
 rw[aH]
 try dsimp only
 refine fF ?_
 rw[uK,B5,FN]
 simp only[↓EX,↓J0]
 rw[lF,show fV [F,J,P,M,V] 1=some J from rfl,aX,AF]
 simp only[List.set_cons_succ,List.set_cons_zero]
 refine fF ?_
 rw[uK,NC,B5,FN]
 simp only[↓EX,↓J0]
 rw[lF,show fV [F,J,P,M,V] 0=some F from rfl,aX,FN]
 simp only[List.set_cons_succ,List.set_cons_zero,↓Eh]
 refine h2 _ _ ?_
 rw[AF]
 simp only[List.set_cons_succ,List.set_cons_zero]
 refine fF ?_
 rw[uK,B5,FN]
 simp only[List.set_cons_succ,List.set_cons_zero,↓EX,↓J0]
 rw[lF,show fV [F,J,P,M,V] 2=some P from rfl,aX,AF]
 simp only[List.set_cons_succ,List.set_cons_zero]
 refine fF ?_
 rw[uK,B5,FN]
 simp only[List.set_cons_succ,List.set_cons_zero,↓EX,↓J0]
 rw[lF,show fV [F,J,P,M,V] 3=some M from rfl,aX,AF]
 simp only[List.set_cons_succ,List.set_cons_zero]
 refine fF ?_
 rw[uK,B5,FN]
 simp only[List.set_cons_succ,List.set_cons_zero,↓EX,↓J0]
 rw[lF,show fV [F,J,P,M,V] 4=some V from rfl,aX,AF]
 simp only[List.set_cons_succ,List.set_cons_zero]
 walk_at"st"
 refine h3 _ _ _ fun aG x2=>?_
 walk_at"ex"
 refine h4 _ _ _ fun aU x3=>?_
 walk_at"ex"
 rw[aH]
 walk_at"st"
 refine h5 _ _ _ fun cC x4=>?_
 walk_at"ex"
 refine h6 _ _ _ fun l dC x5 hl=>?_
 walk_at"ex"
 refine h7 _ _ _ _ hl fun p fN xs x6 hx hp=>?_
 walk_at"ex"
 unfold eO
 rw[hp]
 show Q (.bl (decide ((xs.length:Int)<=4))) fN
 rw[decide_eq_true (show(xs.length:Int)<=4 by omega)]
 exact hQ _ (((((x1.trans x2).trans x3).trans x4).trans x5).trans x6)
end
end L3
end
section
namespace L3
open PySem
section
variable {G:Prog}{k ih ib ir gZ eZ iy ia iap io il iaw ipi ip iw ibk:Nat}{st:aB}{Q:VK}{E:XK}
theorem NG (hbk:G.fns ibk=some (DX ir il iap ia iaw ipi io (.int 3) (.int 4)))(hla:G.fns il=some (KO ir gZ (.int 2)))(hap:G.fns iap=some (ES ia ib (.int 3)))(hb:G.fns ib=some (uY ih ib))(hh:G.fns ih=some iE)(ha:G.fns ia=some (AB ir iy))(hr:G.fns ir=some lI)(hy:G.fns iy=some (qS eZ (.int 8)))(h:G.fns eZ=some (nH gZ eZ (.cW yF AY)))
  (hn:G.fns gZ=some (iQ (.tup (fH.map .str)) (.str eR) (.int 8)))(haw:G.fns iaw=some (BR ir iw (.int 5)))(hw:G.fns iw=some (zW ir ip iy))(hp:G.fns ip=some (qB (.int 99)))(ho:G.fns io=some uQ)(hpi:G.fns ipi=some (kP ih)){b:Bk}(B:b.Ok)(hs:fX b.says<aY)(hd:∀ x∈b.says,aO x<=60)(hc:(cL b.says []).length<=4)
  (hQ:∀ aA,Ext st aA->Q (.bl true) aA):aN G (k+13) ibk [b.d] st Q E:=by
 have hL:aY=16777216:=rfl
 have f2:=B.f2
 have g2:=B.g2
 have p1:=B.p1
 have m1:=B.m1
 have w2:=B.w2
 refine LA hbk hr (N:=.tup (b.names.map .str)) (Φ:=fun l st=>st l=some (.lst (b.says.map toD))) (fun st Q E q=>UQ (k:=k+10) hla hr hn B.f1 B.f2 B.g1 B.g2 B.nd B.nm q) (fun st Q q=>?_) (fun st Q E q=>OJ (k:=k) hap hb hh ha hr hy h hn B.nm B.p2 B.p1 B.p3 q)
  (fun st Q E q=>DA (k:=k+1) ha hr hy h hn B.nm B.m2 (by omega) (by omega) q) (fun st Q E q=>LC (k:=k) haw hw hr hp hy h hn B.nm B.w3 B.w1 B.w2 q) (fun st Q E q=>GP (k:=k+11) ho (by omega) (by omega) (by omega) fun p aA x e=>q p aA x e)
  (fun l st Q E e q=>zB (k:=k+10) hpi hh e hd hs fun p aA x e'=>q p aA _ x (by simpa using hc) e') hQ
 show _/\Q _ st
 refine⟨by simp only[List.length_map];omega,?_⟩
 rw[<-List.map_append]
 exact q
end
end L3
end
section
namespace L3
noncomputable def RX (f g:Nat->Bool):Nat->Bool
 |0=>g 0
 |t+1=>g (t+1)||(f (t+1)&&RX f g t)
noncomputable def Kf (names:List (List Nat))(jR:List (List Bool))(n:List Nat)(t:Nat):Bool:=(((jR[t]?).getD [])[names.idxOf n]?).getD false
noncomputable def hv (names:List (List Nat))(jR:List (List Bool)):Sy->Nat->Bool
 |.yes,_=>true
 |.no,_=>false
 |.cN n,t=>Kf names jR n t
 |.one .not s,t=>!hv names jR s t
 |.one .before s,t=>decide (0<t)&&hv names jR s (t-1)
 |.one .once s,t=>(List.range (t+1)).any (hv names jR s)
 |.one .sofar s,t=>(List.range (t+1)).all (hv names jR s)
 |.two .and s u,t=>hv names jR s t&&hv names jR u t
 |.two .or s u,t=>hv names jR s t||hv names jR u t
 |.two .bA s u,t=>hv names jR u t || !hv names jR s t
 |.two .same s u,t=>hv names jR s t==hv names jR u t
 |.two .since s u,t=>RX (hv names jR s) (hv names jR u) t
noncomputable def tQ:Sy->Sy
 |.one .before s=>s
 |s=>s
noncomputable def iS:Sy->Bool
 |.one .sofar _=>true
 |_=>false
noncomputable def lO:Sy->Bool->List Bool->Bool
 |.one .before _,m,_=>m
 |.one .once _,m,a::_=>m||a
 |.one .sofar _,m,a::_=>m&&a
 |.two .since _ _,m,a::b::_=>b||(m&&a)
 |_,_,_=>false
noncomputable def qH:Sy->List Bool->Bool
 |.yes,_=>true
 |.one .not _,a::_=>!a
 |.two .and _ _,a::b::_=>a&&b
 |.two .or _ _,a::b::_=>a||b
 |.two .bA _ _,a::b::_=>b || !a
 |.two .same _ _,a::b::_=>a==b
 |_,_=>false
end L3
end
section
namespace L3
open PySem
local macro_rules|`(tactic| walk_at"wd")=>`(tactic| (first|rw[if_pos (by decide +kernel)]|rw[if_neg (by decide +kernel)]))
noncomputable def vA:Fn:=⟨2,2,[.iff (.cmp .eq (.v 0) (.c (.str (W "not")))) [.ret (.not_ (.ix (.v 1) (.c (.int 0))))] [],.iff (.cmp .eq (.v 0) (.c (.str (W "and")))) [.ret (.and_ (.ix (.v 1) (.c (.int 0))) (.ix (.v 1) (.c (.int 1))))] [],.iff (.cmp .eq (.v 0) (.c (.str (W "or")))) [.ret (.or_ (.ix (.v 1) (.c (.int 0))) (.ix (.v 1) (.c (.int 1))))] [],.iff (.cmp .eq (.v 0) (.c (.str (W "then")))) [.ret (.or_ (.ix (.v 1) (.c (.int 1))) (.not_ (.ix (.v 1) (.c (.int 0)))))] [],.iff (.cmp .eq (.v 0) (.c (.str (W "same")))) [.ret (.cmp .eq (.ix (.v 1) (.c (.int 0))) (.ix (.v 1) (.c (.int 1))))] [],.ret (.cmp .eq (.v 0) (.c (.str (W "yes"))))]⟩
noncomputable def pT:Fn:=⟨3,3,[.iff (.cmp .eq (.v 0) (.c (.str (W "before")))) [.ret (.v 1)] [],.iff (.cmp .eq (.v 0) (.c (.str (W "once")))) [.ret (.or_ (.v 1) (.ix (.v 2) (.c (.int 0))))] [],.iff (.cmp .eq (.v 0) (.c (.str (W "sofar")))) [.ret (.and_ (.v 1) (.ix (.v 2) (.c (.int 0))))] [],.ret (.or_ (.ix (.v 2) (.c (.int 1))) (.and_ (.v 1) (.ix (.v 2) (.c (.int 0)))))]⟩
section
variable {G:Prog}{k i:Nat}{st:aB}{Q:VK}{E:XK}
theorem AJ {q:Nat}{bs:List Bool}{j:Nat}{b:Bool}(hq:st q=some (.lst (bs.map .bl)))(hb:bs[j]? = some b):mH (.ref q) (.int (j:Nat)) st Q=Q (.bl b) st:=by
 have hj:j<bs.length:=by
  by_cases h:j<bs.length
  ·exact h
  ·rw[List.getElem?_eq_none (by omega)]at hb;cases hb
 rw[dF hq,eI (by simpa using hj),List.getElem?_map,hb]
 rfl
theorem Eg (h:G.fns i=some vA){s:Sy}(hp:bV s=false)(hl:gD s=false){q:Nat}{bs:List Bool}(hb:bs.length=(subs s).length)(hq:st q=some (.lst (bs.map .bl)))(hQ:Q (.bl (qH s bs)) st):aN G (k+1) i [.str (wd s),.ref q] st Q E:=by
 rw[aV h]
 simp only[vA,start]
 refine⟨rfl,?_⟩
 cases s with
 |yes =>
  simp only[wd]
  iterate 5 (walk_at"st"; walk_at"wd"; rw[aH])
  walk_at"st"
  have e:(W "yes" == W "yes")=true:=by decide +kernel
  rw[e]
  exact hQ
 |no =>
  simp only[wd]
  iterate 5 (walk_at"st"; walk_at"wd"; rw[aH])
  walk_at"st"
  have e:(W "no" == W "yes")=false:=by decide +kernel
  rw[e]
  exact hQ
 |cN n=>cases hl
 |one w a =>
  cases w with
  |not =>
   simp only[wd,c1]
   match bs,hb,hq,hQ with
   |[b],_,hq,hQ =>
    have i0:=fun(Q:VK)=>AJ (st:=st) (Q:=Q) (j:=0) hq rfl
    simp only[Int.natCast_zero]at i0
    walk_at"st"; walk_at"wd"
    walk_at"st"
    rw[i0]
    walk_at"ex"
    exact hQ
  |_=>cases hp
 |two w a c =>
  match bs,hb,hq,hQ with
  |[b,b'],_,hq,hQ =>
   have i0:=fun(Q:VK)=>AJ (st:=st) (Q:=Q) (j:=0) hq rfl
   have i1:=fun(Q:VK)=>AJ (st:=st) (Q:=Q) (j:=1) hq rfl
   simp only[Int.natCast_zero]at i0
   have e1:((1:Nat):Int)=1:=rfl
   rw[e1]at i1
   cases w with
   |and =>
    simp only[wd,c2]
    iterate 1 (walk_at"st"; walk_at"wd"; rw[aH])
    walk_at"st"; walk_at"wd"
    walk_at"st"
    rw[i0]
    walk_at"ex"
    cases b with
    |false=>simpa [qH]using hQ
    |true=>simp only[if_true];rw[i1];simpa [qH]using hQ
   |or =>
    simp only[wd,c2]
    iterate 2 (walk_at"st"; walk_at"wd"; rw[aH])
    walk_at"st"; walk_at"wd"
    walk_at"st"
    rw[i0]
    walk_at"ex"
    cases b with
    |true=>simpa [qH]using hQ
    |false=>simp only[Bool.false_eq_true,if_false];rw[i1];simpa [qH]using hQ
   |bA =>
    simp only[wd,c2]
    iterate 3 (walk_at"st"; walk_at"wd"; rw[aH])
    walk_at"st"; walk_at"wd"
    walk_at"st"
    rw[i1]
    walk_at"ex"
    cases b' with
    |true=>simpa [qH]using hQ
    |false=>simp only[Bool.false_eq_true,if_false];walk_at"ex"; rw[i0];walk_at"ex"; simpa [qH]using hQ
   |same =>
    simp only[wd,c2]
    iterate 4 (walk_at"st"; walk_at"wd"; rw[aH])
    walk_at"st"; walk_at"wd"
    walk_at"st"
    rw[i0]
    rw[i1]
    walk_at"ex"
    exact hQ
   |since=>cases hp
theorem ZA (h:G.fns i=some pT){s:Sy}(hp:bV s=true){q:Nat}{m:Bool}{bs:List Bool}(hb:bs.length=(subs s).length)(hq:st q=some (.lst (bs.map .bl)))(hQ:Q (.bl (lO s m bs)) st):aN G (k+1) i [.str (wd s),.bl m,.ref q] st Q E:=by
 rw[aV h]
 simp only[pT,start]
 refine⟨rfl,?_⟩
 cases s with
 |one w a =>
  match bs,hb,hq,hQ with
  |[b],_,hq,hQ =>
   have i0:=fun(Q:VK)=>AJ (st:=st) (Q:=Q) (j:=0) hq rfl
   simp only[Int.natCast_zero]at i0
   cases w with
   |not=>cases hp
   |before =>
    simp only[wd,c1]
    walk_at"st"; walk_at"wd"
    walk_at"st"
    exact hQ
   |once =>
    simp only[wd,c1]
    iterate 1 (walk_at"st"; walk_at"wd"; rw[aH])
    walk_at"st"; walk_at"wd"
    walk_at"st"
    cases m with
    |true=>simpa [lO]using hQ
    |false=>simp only[Bool.false_eq_true,if_false];rw[i0];simpa [lO]using hQ
   |sofar =>
    simp only[wd,c1]
    iterate 2 (walk_at"st"; walk_at"wd"; rw[aH])
    walk_at"st"; walk_at"wd"
    walk_at"st"
    cases m with
    |false=>simpa [lO]using hQ
    |true=>simp only[if_true];rw[i0];simpa [lO]using hQ
 |two w a c =>
  match bs,hb,hq,hQ with
  |[b,b'],_,hq,hQ =>
   have i0:=fun(Q:VK)=>AJ (st:=st) (Q:=Q) (j:=0) hq rfl
   have i1:=fun(Q:VK)=>AJ (st:=st) (Q:=Q) (j:=1) hq rfl
   simp only[Int.natCast_zero]at i0
   have e1:((1:Nat):Int)=1:=rfl
   rw[e1]at i1
   cases w with
   |since =>
    simp only[wd,c2]
    iterate 3 (walk_at"st"; walk_at"wd"; rw[aH])
    walk_at"st"
    rw[i1]
    walk_at"ex"
    cases b' with
    |true=>simpa [lO]using hQ
    |false =>
     simp only[Bool.false_eq_true,if_false]
     cases m with
     |false=>simpa [lO]using hQ
     |true=>simp only[if_true];rw[i0];simpa [lO]using hQ
   |_=>cases hp
 |_=>cases hp
end
end L3
end
section
namespace L3
open PySem
mutual
theorem JX {st:aB}:∀(a b:D),bE a=true->bR st a b=bI a b
 |.non,b,_=>by cases b<;>simp only[bR,bI]
 |.bl _,b,_=>by cases b<;>simp only[bR,bI]
 |.int _,b,_=>by cases b<;>simp only[bR,bI]
 |.str _,b,_=>by cases b<;>simp only[bR,bI]
 |.tup as,b,h=>by
  cases b with
  |tup bs=>simp only[bR,bI];exact VU as bs (by simpa [bE]using h)
  |_=>simp only[bR,bI]
 |.ref _,_,h=>by simp [bE]at h
 |.cW _ _,_,h=>by simp [bE]at h
 |.bK _,_,h=>by simp [bE]at h
 |.exc _,_,h=>by simp [bE]at h
theorem VU {st:aB}:∀(as bs:List D),bP as=true->jG st as bs=fG as bs
 |[],[],_=>rfl
 |[],_::_,_=>rfl
 |_::_,[],_=>rfl
 |a::as,b::bs,h=>by
  simp only[bP,Bool.and_eq_true]at h
  simp only[jG,fG]
  rw[JX a b h.1,VU as bs h.2]
end
theorem L9 (s t:Sy):bI (toD s) (toD t)=decide (s=t):=by rw[<-JX (st:=fun _=>none) _ _ (lS s)];exact pX s t
theorem KZ (x:Sy)(f:List Sy):((f.map toD).any fun d=>bI d (toD x))=f.contains x:=by
 rw[<-MM (st:=fun _=>none),List.any_map,List.any_map]
 congr 1
 funext y
 simp only[Function.comp]
 rw[JX _ _ (lS y)]
theorem zY:∀ s:Sy,iL (toD s)=true
 |.yes=>rfl
 |.no=>rfl
 |.cN n=>rfl
 |.one w s=>by simp only[toD,iL,iP,zY s,Bool.and_self]
 |.two w s t=>by simp only[toD,iL,iP,zY s,zY t,Bool.and_self]
theorem oT {s:Sy}(h:aO s<=8):keyed (toD s):=by
 have h1:=zY s
 have h2:=pW s
 obtain⟨r,e⟩:=oV s
 rw[e]at h1 h2 ⊢
 simp only[iL]at h1
 simp only[cH]at h2
 exact⟨h1,by omega⟩
theorem FU {st:aB}{n:List Nat}:∀{names:List (List Nat)},n∈names->findD st (.str n) (names.map .str)=some (names.idxOf n)
 |[],h=>by cases h
 |m::r,h=>by
  simp only[List.map_cons,findD,iD]
  by_cases e:m=n
  ·subst e;simp [List.idxOf_cons]
  ·rw[if_neg (by simpa using e),FU (by simpa [Ne.symm e]using h)]
   rw[List.idxOf_cons,beq_eq_false_iff_ne.mpr e];rfl
theorem FK {st:aB}{s:Sy}:∀{ps:List Sy},s∈ps->findD st (toD s) (ps.map toD)=some (ps.idxOf s)
 |[],h=>by cases h
 |m::r,h=>by
  simp only[List.map_cons,findD,pX]
  by_cases e:m=s
  ·subst e;simp [List.idxOf_cons]
  ·rw[if_neg (by simpa using e),FK (by simpa [Ne.symm e]using h)]
   rw[List.idxOf_cons,beq_eq_false_iff_ne.mpr e];rfl
noncomputable def jV (names:List (List Nat))(aK:List Sy):Sy->D
 |.cN n=>.int (names.idxOf n:Nat)
 |s=>if bV s then .int (aK.idxOf s:Nat)else .non
noncomputable def GQ (aK:List Sy):Sy->Prop
 |.one w s=>(p1 w=true->Sy.one w s∈aK)/\GQ aK s
 |.two w s t=>(p2 w=true->Sy.two w s t∈aK)/\GQ aK s/\GQ aK t
 |_=>True
structure Good (names:List (List Nat))(aK:List Sy)(s:Sy):Prop where
 ov:over names s
 dp:aO s<=8
 pp:GQ aK s
theorem Good.subs {names:List (List Nat)}{aK:List Sy}{s t:Sy}(h:Good names aK s)(ht:t∈subs s):Good names aK t:=by
 have hd:=B4 ht
 have h0:=h.dp
 cases s with
 |one w a =>
 simp only[L3.subs,List.mem_singleton]at ht;subst ht
 exact⟨h.ov,by omega,h.pp.2⟩
 |two w a b =>
 simp only[L3.subs,List.mem_cons,List.not_mem_nil,or_false]at ht
 rcases ht with rfl|rfl
 ·exact⟨h.ov.1,by omega,h.pp.2.1⟩
 ·exact⟨h.ov.2,by omega,h.pp.2.2⟩
 |_=>cases ht
theorem Good.mem {names:List (List Nat)}{aK:List Sy}{s:Sy}(h:Good names aK s)(hp:bV s=true):s∈aK:=by
 cases s with
 |one w a=>exact h.pp.1 hp
 |two w a b=>exact h.pp.1 hp
 |_=>cases hp
noncomputable def Gm (st:aB)(lr:Nat)(names:List (List Nat))(aK R:List Sy)(j:Nat)(s:Sy)(d:D):Prop:=∃(q:Nat)(is:List Nat),d=.tup [.str (wd s),jV names aK s,.ref q]/\q≠lr/\st q=some (.lst (is.map fun i=>.int (i:Nat)))/\is.length=(subs s).length /\
 ∀(m i:Nat)(t:Sy),is[m]? = some i->(subs s)[m]? = some t->i<j/\R[i]? = some t
noncomputable def Ef (st:aB)(lr:Nat)(names:List (List Nat))(aK R:List Sy)(rows:List D):Prop:=rows.length=R.length/\∀ j s d,R[j]? = some s->rows[j]? = some d->Gm st lr names aK R j s d
noncomputable def sC (n:Nat):List D:=(List.range n).map fun i=>.int (i:Nat)
noncomputable def oP (names:List (List Nat))(lp lr ld:Nat):List (List Nat×D):=[(W "names", .tup (names.map .str)),(W "pieces", .ref lp),(W "rows", .ref lr),(W "row_of", .ref ld)]
structure iF (st:aB)(p lp lr ld:Nat)(names:List (List Nat))(aK R:List Sy)(xs:List (List Nat×D)):Prop where
 ins:st p=some (.ins (W "Table") (oP names lp lr ld++xs))
 pc:st lp=some (.lst (aK.map toD))
 rows:∃ rows,st lr=some (.lst rows)/\Ef st lr names aK R rows
 tab:st ld=some (.tab (R.map toD) (sC R.length))
 ne:lp≠lr
 nd:R.Nodup
 gd:∀ s∈R,Good names aK s
 len:R.length<=5000
 pd:∀ s∈aK,aO s<=60
theorem VA {names:List (List Nat)}{lp lr ld:Nat}{xs:List (List Nat×D)}:bS (oP names lp lr ld++xs) (W "names")=some (.tup (names.map .str)):=by
 simp only[oP,List.cons_append,bS];rw[if_pos True.intro]
theorem yH {names:List (List Nat)}{lp lr ld:Nat}{xs:List (List Nat×D)}:bS (oP names lp lr ld++xs) (W "pieces")=some (.ref lp):=by
 simp only[oP,List.cons_append,bS];rw[if_neg (by decide +kernel),if_pos True.intro]
theorem ED {names:List (List Nat)}{lp lr ld:Nat}{xs:List (List Nat×D)}:bS (oP names lp lr ld++xs) (W "rows")=some (.ref lr):=by
 simp only[oP,List.cons_append,bS];rw[if_neg (by decide +kernel),if_neg (by decide +kernel),if_pos True.intro]
theorem nR {names:List (List Nat)}{lp lr ld:Nat}{xs:List (List Nat×D)}:bS (oP names lp lr ld++xs) (W "row_of")=some (.ref ld):=by
 simp only[oP,List.cons_append,bS];rw[if_neg (by decide +kernel),if_neg (by decide +kernel),if_neg (by decide +kernel),if_pos True.intro]
theorem kY {names:List (List Nat)}{lp lr ld:Nat}{xs:List (List Nat×D)}{f:List Nat}(h1:W "names" ≠ f)(h2:W "pieces" ≠ f)(h3:W "rows" ≠ f)(h4:W "row_of" ≠ f):bS (oP names lp lr ld++xs) f=bS xs f:=by
 simp only[oP,List.cons_append,List.nil_append,bS];rw[if_neg h1,if_neg h2,if_neg h3,if_neg h4]
theorem iF.keep {st aA:aB}{p lp lr ld:Nat}{names:List (List Nat)}{aK R:List Sy}{xs:List (List Nat×D)}(T:iF st p lp lr ld names aK R xs)(h:Ext st aA):iF aA p lp lr ld names aK R xs:=by
 obtain⟨rows,r1,r2,r3⟩:=T.rows
 refine⟨h _ _ T.ins,h _ _ T.pc,⟨rows,h _ _ r1,r2,fun j s d e1 e2=>?_⟩,h _ _ T.tab,T.ne,T.nd,T.gd,T.len,T.pd⟩
 obtain⟨q,is,a1,a2,a3,a4⟩:=r3 j s d e1 e2
 exact⟨q,is,a1,a2,h _ _ a3,a4⟩
theorem IA {s:Sy}:∀{R:List Sy}{vs:List D}{j:Nat}{d:D},R.Nodup->R[j]? = some s->vs[j]? = some d->vs.length=R.length->kA (R.map toD) vs (toD s)=some d
 |[],_,_,_,_,h,_,_=>by simp at h
 |x::R,[],_,_,_,_,_,h=>by simp at h
 |x::R,v::vs,0,d,nd,h,hv,hl=>by
  simp at h hv
  subst h hv
  simp only[List.map_cons,kA,L9,decide_true,if_true]
 |x::R,v::vs,j+1,d,nd,h,hv,hl=>by
  simp at h hv hl
  have hx:x≠s:=fun e=>by subst e;exact(List.nodup_cons.mp nd).1 (List.mem_of_getElem? h)
  simp only[List.map_cons,kA,L9]
  rw[if_neg (by simpa using hx)]
  exact IA (List.nodup_cons.mp nd).2 h hv hl
theorem L8 (n:Nat):(sC n).length=n:=by simp [sC]
theorem R9 {n j:Nat}(h:j<n):(sC n)[j]? = some (.int (j:Nat)):=by simp [sC,h]
theorem iF.look {st:aB}{p lp lr ld:Nat}{names:List (List Nat)}{aK R:List Sy}{xs:List (List Nat×D)}(T:iF st p lp lr ld names aK R xs){s:Sy}{j:Nat}(h:R[j]? = some s):kA (R.map toD) (sC R.length) (toD s)=some (.int (j:Nat)):=by
 have hj:j<R.length:=by
  by_cases q:j<R.length
  ·exact q
  ·rw[List.getElem?_eq_none (by omega)]at h;cases h
 exact IA T.nd h (R9 hj) (L8 _)
end L3
end
section
namespace L3
open PySem
noncomputable def oW:Fn:=⟨2,2,[.iff (.cmp .eq (.ix (.v 1) (.c (.int 0))) (.c (.str (W "lamp")))) [.ret (.cI .index (.fld (W "Table") (W "names") (.v 0)) [(.ix (.v 1) (.c (.int 1)))])] [],.iff (.cmp .in_ (.ix (.v 1) (.c (.int 0))) (.c vO)) [.ret (.cI .index (.fld (W "Table") (W "pieces") (.v 0)) [(.v 1)])] [],.ret (.c .non)]⟩
noncomputable def BZ:Fn:=⟨2,2,[.iff (.cmp .eq (.ix (.v 1) (.c (.int 0))) (.c (.str (W "before")))) [.ret (.dix (.fld (W "Table") (W "row_of") (.v 0)) (.ix (.v 1) (.c (.int 1))))] [],.ret (.dix (.fld (W "Table") (W "row_of") (.v 0)) (.v 1))]⟩
noncomputable def rQ (iph inh:Nat):Fn:=⟨3,8,[.asg (.nm 3) (.lst []),.iB (.tp [4,5,6]) none [(.fld (W "Table") (W "rows") (.v 0))] [.asg (.nm 7) (.comp 1 [3] [0] true none [(.v 6)] [] (.ix (.v 1) (.v 0))),.iff (.cmp .eq (.v 4) (.c (.str (W "lamp")))) [.ex (.cI .append (.v 3) [(.ix (.v 2) (.v 5))])] [.iff (.cmp .in_ (.v 4) (.c vO)) [.ex (.cI .append (.v 3) [(.call iph [(.v 4),(.ix (.v 1) (.v 5)),(.v 7)])])] [.ex (.cI .append (.v 3) [(.call inh [(.v 4),(.v 7)])])]]],.ret (.v 3)]⟩
noncomputable def BF:Fn:=⟨2,2,[.ret (.bi .tuple [(.comp 1 [1] [0] true none [(.fld (W "Table") (W "remembered_rows") (.v 0))] [] (.ix (.v 1) (.v 0)))])]⟩
theorem gO {α:Type}(t:α->D){g:aB->Prop}{turn:D->(St->aB->Prop)->St->aB->Prop}{N:St->aB->Prop}(I:List α->St->aB->Prop)(hg:∀ xs σ st,I xs σ st->g st)
 (ht:∀ x r σ st (M:St->aB->Prop),I (x::r) σ st->(∀ σ' aA,I r σ' aA->M σ' aA)->turn (t x) M σ st)(hN:∀ σ st,I [] σ st->N σ st):∀(xs:List α)(σ:St)(st:aB),I xs σ st->yO g turn N (xs.map t) σ st
 |[],σ,st,h=>⟨hg _ _ _ h,hN _ _ h⟩
 |x::xs,σ,st,h=>⟨hg _ _ _ h,ht x xs σ st _ h fun σ' aA h'=>gO t I hg ht hN xs σ' aA h'⟩
theorem AS {names:List (List Nat)}{aK:List Sy}{s:Sy}(hl:gD s=false)(hp:bV s=true):jV names aK s=.int (aK.idxOf s:Nat):=by
 unfold jV
 split
 ·simp [gD]at hl
 ·rw[if_pos hp]
theorem NZ {names:List (List Nat)}{aK:List Sy}{s:Sy}(hl:gD s=false)(hp:bV s=false):jV names aK s=.non:=by
 unfold jV
 split
 ·simp [gD]at hl
 ·rw[hp];rfl
section
variable {G:Prog}{k i iph inh:Nat}{st:aB}{Q:VK}{E:XK}{p lp lr ld:Nat}{names:List (List Nat)}{aK R:List Sy}{xs:List (List Nat×D)}
theorem O5 (h:G.fns i=some oW)(tins:st p=some (.ins (W "Table") (oP names lp lr ld++xs)))(tpc:st lp=some (.lst (aK.map toD)))(tpd:∀ s∈aK,aO s<=60){s:Sy}(g:Good names aK s)(hQ:Q (jV names aK s) st):aN G (k+1) i [.ref p,toD s] st Q E:=by
 rw[aV h]
 simp only[oW,start]
 refine⟨rfl,?_⟩
 obtain⟨r,er⟩:=oV s
 cases hl:gD s with
 |true =>
  cases s with
  |cN n =>
   simp only[toD]
   walk_at"st"
   rw[if_pos (by decide +kernel)]
   walk_at"st"
   rw[cP tins VA]
   walk_at"ex"
   rw[E1,EI,HZ,EI]
   refine⟨True.intro,DE,lK st names,?_⟩
   rw[FU g.ov,aX]
   exact hQ
  |_=>cases hl
 |false =>
  have h1:(wd s==W "lamp")=false:=by rw[EC];exact hl
  have eP:∀ st:aB,(List.any (nJ.map .str) fun d=>bR st d (.str (wd s)))=bV s:=fun st=>(vF (wd s) nJ).trans (DU s)
  rw[er]
  walk_at"st"
  rw[if_neg (by rw[h1];exact Bool.false_ne_true),aH]
  walk_at"st"
  simp only[vO]
  walk_at"ex"
  refine⟨(oJ nJ).s,?_⟩
  rw[eP st]
  cases hp:bV s with
  |true =>
   simp only[if_true]
   walk_at"st"
   rw[cP tins yH]
   walk_at"ex"
   rw[E1,DW,aE tpc,HZ,DW,aE tpc,<-er]
   refine⟨True.intro,FJ (by have:=g.dp;omega),CT tpd,?_⟩
   rw[FK (g.mem hp),aX]
   have e:jV names aK s=.int (aK.idxOf s:Nat):=AS hl hp
   rw[e]at hQ
   exact hQ
  |false =>
   simp only[Bool.false_eq_true,if_false,aH]
   walk_at"st"
   have e:jV names aK s=.non:=NZ hl hp
   rw[e]at hQ
   exact hQ
theorem O4 (s:Sy)(hp:bV s=true):(wd s==W "before")=true/\(∃ a,s=.one .before a)∨(wd s==W "before")=false/\tQ s=s:=by
 cases s with
 |one w a=>cases w<;>first|exact .inl ⟨by simp only[wd,c1];decide +kernel,a,rfl⟩|exact .inr ⟨by simp only[wd,c1];decide +kernel,rfl⟩|cases hp
 |two w a b=>cases w<;>first|exact .inr ⟨by simp only[wd,c2];decide +kernel,rfl⟩|cases hp
 |_=>cases hp
theorem Cr (h:G.fns i=some BZ)(T:iF st p lp lr ld names aK R xs){s:Sy}(hp:bV s=true)(hd:aO s<=8){j:Nat}(hj:R[j]? = some (tQ s))(hQ:Q (.int (j:Nat)) st):aN G (k+1) i [.ref p,toD s] st Q E:=by
 rw[aV h]
 simp only[BZ,start]
 refine⟨rfl,?_⟩
 rcases O4 s hp with⟨e1,a,rfl⟩|⟨e1,e2⟩
 ·simp only[toD,c1]
  walk_at"st"
  rw[if_pos (by decide +kernel)]
  walk_at"st"
  rw[cP T.ins nR]
  walk_at"ex"
  simp only[tQ]at hj
  simp only[aO]at hd
  rw[zH T.tab (oT (by omega)) (T.look hj)]
  exact hQ
 ·obtain⟨r,er⟩:=oV s
  rw[er]
  walk_at"st"
  rw[if_neg (by rw[e1];exact Bool.false_ne_true),aH]
  walk_at"st"
  rw[cP T.ins nR]
  walk_at"ex"
  rw[e2]at hj
  rw[<-er,zH T.tab (oT hd) (T.look hj)]
  exact hQ
theorem YA (h:G.fns i=some (rQ iph inh))(hn:G.fns inh=some vA)(hpa:G.fns iph=some pT)(T:iF st p lp lr ld names aK R xs){mem set:List Bool}(V:Sy->Bool)
  (v1:∀ n∈names,set[names.idxOf n]? = some (V (.cN n)))(v2:∀ s∈aK,bV s=true->∃ m,mem[aK.idxOf s]? = some m/\V s=lO s m ((subs s).map V))(v3:∀ s,bV s=false->gD s=false->V s=qH s ((subs s).map V))
  (hQ:∀ aA q,st q=none->Ext st aA->aA q=some (.lst (R.map fun s=>.bl (V s)))->Q (.ref q) aA):aN G (k+2) i [.ref p,.tup (mem.map .bl),.tup (set.map .bl)] st Q E:=by
 have hL:aY=16777216:=rfl
 rw[aV h]
 simp only[rQ,start]
 refine⟨rfl,?_⟩
 walk_at"st"
 refine bU (by simp) fun q aC x1 hq hq1=>?_
 obtain⟨rows,r1,r2,r3⟩:=T.rows
 have T1:=T.keep x1
 walk_at"st"
 rw[cP T1.ins ED]
 rw[lU,aE (x1 _ _ r1)]
 have ez:rows=(R.zip rows).map Prod.snd:=by rw[List.map_snd_zip (by omega)]
 rw[ez]
 have qlr:q≠lr:=fun z=>by rw[z,r1]at hq;cases hq
 refine gO Prod.snd (I:=fun r σ aA=>∃ j o4 o5 o6 o7,r=(R.zip rows).drop j/\σ=[some (.ref p),some (.tup (mem.map .bl)),some (.tup (set.map .bl)),some (.ref q),o4,o5,o6,o7]/\aZ [q] aC aA/\aA q=some (.lst ((R.take j).map fun s=>.bl (V s)))) (fun r σ aA ⟨j,_,_,_,_,_,_,k1,_⟩=>?_) (fun x r σ aA M ⟨j,o4,o5,o6,o7,e1,e2,k1,k2⟩ hM=>?_) (fun σ aA ⟨j,o4,o5,o6,o7,e1,e2,k1,k2⟩=>?_) _ _ _ ⟨0,none,none,none,none,rfl,rfl,.refl,by simpa using hq1⟩
 ·intro a ha
  simp only[List.mem_singleton]at ha
  subst ha
  rw[x1 _ _ r1]
  exact k1 _ _ (by simpa using qlr.symm) (x1 _ _ r1)
 ·-- a row
  have hz:j<(R.zip rows).length:=by
   by_cases z:j<(R.zip rows).length
   ·exact z
   ·rw[List.drop_eq_nil_of_le (by omega)]at e1;cases e1
  have hjR:j<R.length:=by rw[List.length_zip]at hz;omega
  have hjr:j<rows.length:=by rw[List.length_zip]at hz;omega
  rw[List.drop_eq_getElem_cons hz]at e1
  injection e1 with e3 e4
  have ex:x=(R[j],rows[j]):=by rw[e3];simp
  obtain⟨s,d⟩:=x
  injection ex with es ed
  have hs:R[j]? = some s:=by rw[List.getElem?_eq_getElem hjR,es]
  have hd:rows[j]? = some d:=by rw[List.getElem?_eq_getElem hjr,ed]
  obtain⟨qq,is,f1,f2,f3,f4,f5⟩:=r3 j s d hs hd
  have gs:=T.gd s (List.mem_of_getElem? hs)
  have hlR:=T.len
  subst e2
  have qqq:qq≠q:=fun z=>by rw[z,hq]at f3;cases f3
  have f3':aA qq=some (.lst (is.map fun i=>.int (i:Nat))):=k1 _ _ (by simpa using qqq) (x1 _ _ f3)
  have hsub:(subs s).length<=2:=by cases s<;>simp [subs]
  show kB false [4,5,6] d _ _
  rw[f1]
  walk_at"ex"
  walk_at"st"
  rw[aE f3']
  have hval:∀ i∈is,∃ t,R[i]? = some t/\i<j:=fun i hi=>by
   obtain⟨m,hm⟩:=List.mem_iff_getElem?.mp hi
   have hml:m<(subs s).length:=by
    have:m<is.length:=by
     by_cases z:m<is.length
     ·exact z
     ·rw[List.getElem?_eq_none (by omega)]at hm;cases hm
    omega
   obtain⟨a,b⟩:=f5 m i _ hm (List.getElem?_eq_getElem hml)
   exact⟨_,b,a⟩
  refine dS (fun i:Nat=>D.int (i:Nat)) (fun i=>.bl (V ((R[i]?).getD .yes))) is [] aA (fun aS y a ha=>?_) (fun i hi aS K y1 hK=>?_) (by simp only[List.length_nil];omega) fun aG y2=>?_
  ·simp only[List.mem_singleton]at ha
   subst ha
   rw[f3',y _ _ f3']
  ·obtain⟨t,ht,hij⟩:=hval i hi
   show mH _ _ aS _
   have hlen:i<((R.take j).map fun s=>D.bl (V s)).length:=by simp;omega
   rw[dF (y1 _ _ k2),eI hlen,List.getElem?_map,List.getElem?_take,if_pos hij,ht]
   have:=hK aS .refl
   rw[ht]at this
   exact this
  rw[List.nil_append]
  have hparts:(is.map fun i=>D.bl (V ((R[i]?).getD .yes)))=((subs s).map V).map .bl:=by
   apply List.ext_getElem?
   intro m
   rw[List.getElem?_map,List.getElem?_map,List.getElem?_map]
   cases hm:is[m]? with
   |none =>
    have:is.length<=m:=by
     by_cases z:m<is.length
     ·rw[List.getElem?_eq_getElem z]at hm;cases hm
     ·omega
    rw[List.getElem?_eq_none (by omega)];rfl
   |some i =>
    have hml:m<(subs s).length:=by
     have:m<is.length:=by
      by_cases z:m<is.length
      ·exact z
      ·rw[List.getElem?_eq_none (by omega)]at hm;cases hm
     omega
    obtain⟨_,b⟩:=f5 m i _ hm (List.getElem?_eq_getElem hml)
    rw[List.getElem?_eq_getElem hml]
    simp only[Option.map_some]
    rw[b];rfl
  rw[hparts]
  refine bU (by simp only[List.length_map];omega) fun pp aU y3 hpp pM=>?_
  walk_at"ex"
  have k3:aU q=some (.lst ((R.take j).map fun s=>.bl (V s))):=y3 _ _ (y2 _ _ k2)
  have kk3:aZ [q] aC aU:=fun a o na e=>y3 _ _ (y2 _ _ (k1 a o na e))
  have fin:∀(σ':St),(∃ o4 o5 o6 o7,σ'=[some (.ref p),some (.tup (mem.map .bl)),some (.tup (set.map .bl)),some (.ref q),o4,o5,o6,o7])->∀ b,b=V s->M σ' (put aU q (.lst (((R.take j).map fun s=>.bl (V s))++[.bl b]))):=fun σ' ⟨o4,o5,o6,o7,e⟩ b hb=>by
   refine hM σ' _ ⟨j+1,o4,o5,o6,o7,e4,e,fun a o na e=>by rw[aJ (by simpa using na)];exact kk3 a o na e,?_⟩
   rw[aM,List.take_succ,hs,hb]
   simp
  have hlq:((R.take j).map fun s=>D.bl (V s)).length<aY:=by simp;omega
  cases hl:gD s with
  |true =>
   cases s with
   |cN n =>
    simp only[wd]
    walk_at"st"
    rw[if_pos (by decide +kernel)]
    walk_at"st"
    rw[aE k3]
    refine⟨True.intro,?_⟩
    simp only[jV]
    have hv:=v1 n gs.ov
    have hlen:names.idxOf n<(set.map D.bl).length:=by
     rw[List.length_map]
     by_cases z:names.idxOf n<set.length
     ·exact z
     ·rw[List.getElem?_eq_none (by omega)]at hv;cases hv
    rw[lF,eI hlen,List.getElem?_map,hv,Option.map_some,aX,aE k3]
    refine⟨hlq,?_⟩
    simp only[aH]
    exact fin _ ⟨_,_,_,_,rfl⟩ _ rfl
   |_=>cases hl
  |false =>
   have h1:(wd s==W "lamp")=false:=by rw[EC];exact hl
   have eP:∀ st:aB,(List.any (nJ.map .str) fun d=>bR st d (.str (wd s)))=bV s:=fun st=>(vF (wd s) nJ).trans (DU s)
   walk_at"st"
   rw[if_neg (by rw[h1];exact Bool.false_ne_true)]
   walk_at"st"
   simp only[vO]
   walk_at"ex"
   refine⟨(oJ nJ).s,?_⟩
   rw[eP aU]
   cases hp:bV s with
   |true =>
    simp only[if_true]
    walk_at"st"
    rw[aE k3]
    refine⟨True.intro,?_⟩
    obtain⟨m,hm,hV⟩:=v2 s (gs.mem hp) hp
    have e:jV names aK s=.int (aK.idxOf s:Nat):=AS hl hp
    rw[e]
    have hlen:aK.idxOf s<(mem.map D.bl).length:=by
     rw[List.length_map]
     by_cases z:aK.idxOf s<mem.length
     ·exact z
     ·rw[List.getElem?_eq_none (by omega)]at hm;cases hm
    walk_at"ex"
    (try rw[lF])
    rw[eI hlen,List.getElem?_map,hm,Option.map_some,aX]
    refine ZA hpa hp (by simp) pM ?_
    rw[aE k3]
    refine⟨hlq,?_⟩
    simp only[aH]
    exact fin _ ⟨_,_,_,_,rfl⟩ _ hV.symm
   |false =>
    simp only[Bool.false_eq_true,if_false]
    walk_at"st"
    rw[aE k3]
    refine⟨True.intro,?_⟩
    refine Eg hn hp hl (by simp) pM ?_
    rw[aE k3]
    refine⟨hlq,?_⟩
    simp only[aH]
    exact fin _ ⟨_,_,_,_,rfl⟩ _ (v3 s hp hl).symm
 ·-- the end
  subst e2
  have hj:R.length<=j:=by
   have:(R.zip rows).length<=j:=by
    by_cases z:j<(R.zip rows).length
    ·rw[List.drop_eq_getElem_cons z]at e1;cases e1
    ·omega
   rw[List.length_zip]at this;omega
  rw[List.take_of_length_le hj]at k2
  walk_at"st"
  exact hQ aA q hq (fun a o e=>k1 a o (by intro z;simp only[List.mem_singleton]at z;rw[z,hq]at e;cases e) (x1 a o e)) k2
end
end L3
end
section
namespace L3
open PySem
noncomputable def qC (ie iw ipo:Nat):Fn:=⟨2,4,[.iff (.din false (.v 1) (.fld (W "Table") (W "row_of") (.v 0))) [.ret (.c .non)] [],.iB (.nm 2) none [(.call iw [(.v 1)])] [.ex (.mcl (W "Table") (W "enter") ie (.v 0) [(.v 2)])],.asg (.nm 3) (.comp 1 [0] [0] true none [(.call iw [(.v 1)])] [] (.dix (.fld (W "Table") (W "row_of") (.v 1)) (.v 0))),.asg (.dk (.fld (W "Table") (W "row_of") (.v 0)) (.v 1)) (.bi .len [(.fld (W "Table") (W "rows") (.v 0))]),.ex (.cI .append (.fld (W "Table") (W "rows") (.v 0)) [(.tup [(.ix (.v 1) (.c (.int 0))),(.mcl (W "Table") (W "place_of") ipo (.v 0) [(.v 1)]),(.v 3)])])]⟩
theorem iJ {α:Type}{xs:List α}{j:Nat}{x:α}(h:xs[j]? = some x):j<xs.length:=by
 by_cases q:j<xs.length
 ·exact q
 ·rw[List.getElem?_eq_none (by omega)]at h;cases h
section
variable {G:Prog}{k i ie iw ipo:Nat}{st:aB}{Q:VK}{E:XK}{p lp lr ld lm:Nat}{names:List (List Nat)}{aK R:List Sy}{xs fs:List (List Nat×D)}
theorem Bt (h:G.fns i=some BF)(ins:st p=some (.ins (W "Table") fs))(hf:bS fs (W "remembered_rows")=some (.ref lm)){js:List Nat}(hlm:st lm=some (.lst (js.map fun j=>.int (j:Nat)))){q:Nat}{V:Sy->Bool}(hq:st q=some (.lst (R.map fun s=>.bl (V s))))(hl:js.length=aK.length)(hl2:aK.length<=5000)
  (hj:∀(m j:Nat)(s:Sy),js[m]? = some j->aK[m]? = some s->R[j]? = some (tQ s))(hQ:∀ aA,Ext st aA->Q (.tup (aK.map fun s=>.bl (V (tQ s)))) aA):aN G (k+1) i [.ref p,.ref q] st Q E:=by
 have hL:aY=16777216:=rfl
 rw[aV h]
 simp only[BF,start]
 refine⟨rfl,?_⟩
 walk_at"st"
 rw[cP ins hf,lU,aE hlm]
 refine dS (fun j:Nat=>D.int (j:Nat)) (fun j=>.bl (V ((R[j]?).getD .yes))) js [] st (fun aS y a ha=>?_) (fun j hjs aS K y1 hK=>?_) (by simp only[List.length_nil];omega) fun aG y2=>?_
 ·simp only[List.mem_singleton]at ha
  subst ha
  rw[hlm,y _ _ hlm]
 ·obtain⟨m,hm⟩:=List.mem_iff_getElem?.mp hjs
  have hml:m<aK.length:=by have:=iJ hm;omega
  have ht:=hj m j _ hm (List.getElem?_eq_getElem hml)
  show mH _ _ aS _
  have hlen:j<(R.map fun s=>D.bl (V s)).length:=by simpa using iJ ht
  rw[dF (y1 _ _ hq),eI hlen,List.getElem?_map,ht]
  have:=hK aS .refl
  rw[ht]at this
  exact this
 rw[List.nil_append]
 have e:(js.map fun j=>D.bl (V ((R[j]?).getD .yes)))=aK.map fun s=>.bl (V (tQ s)):=by
  apply List.ext_getElem?
  intro m
  rw[List.getElem?_map,List.getElem?_map]
  cases hm:js[m]? with
  |none =>
   have:js.length<=m:=by
    by_cases z:m<js.length
    ·rw[List.getElem?_eq_getElem z]at hm;cases hm
    ·omega
   rw[List.getElem?_eq_none (by omega)];rfl
  |some j =>
   have hml:m<aK.length:=by have:=iJ hm;omega
   have ht:=hj m j _ hm (List.getElem?_eq_getElem hml)
   rw[List.getElem?_eq_getElem hml]
   simp only[Option.map_some]
   rw[ht];rfl
 rw[e]
 refine bU (by simp only[List.length_map];omega) fun pp aU y3 hpp pM=>?_
 walk_at"ex"
 rw[aE pM]
 refine⟨by simp only[List.length_map];omega,hQ aU (y2.trans y3)⟩
theorem UO (h:G.fns ie=some (qC ie iw ipo))(hw:G.fns iw=some iE)(hpo:G.fns ipo=some oW)(hxe:bS xs (W "enter")=none)(hxp:bS xs (W "place_of")=none):∀(n:Nat){s:Sy}{k:Nat}{st:aB}{Q:VK}{E:XK}{R:List Sy},aO s<=n->iF st p lp lr ld names aK R xs->Good names aK s->R.length+sz s<=5000 ->
  (∀ aA R',aZ [lr,ld] st aA->iF aA p lp lr ld names aK R' xs->(∀ x∈R,x∈R')->s∈R'->(∀ x∈R',x∈R∨sz x<=sz s)->R'.length<=R.length+sz s->Q .non aA) ->
  aN G (k+n+2) ie [.ref p,toD s] st Q E:=by
 have hL:aY=16777216:=rfl
 intro n
 induction n with
 |zero=>intro s k st Q E R hn;cases s<;>simp [aO]at hn
 |succ n ih =>
  intro s k st Q E R hn T g hlen hQ
  rw[aV h]
  simp only[qC,start]
  refine⟨rfl,?_⟩
  have kd:=oT g.dp
  walk_at"st"
  rw[cP T.ins nR,RS T.tab kd,KZ]
  (try walk_at"ex")
  cases hc:R.contains s with
  |true =>
   simp only[if_true]
   walk_at"st"
   have hs:s∈R:=by simpa using hc
   exact hQ st R .refl T (fun x hx=>hx) hs (fun x hx=>.inl hx) (by omega)
  |false =>
   have hs:s∉R:=by simpa using hc
   simp only[Bool.false_eq_true,if_false,aH]
   walk_at"st"
   refine sR (k:=k+n+1) hw ?_
   walk_at"ex"
   have hss:=M5 s
   have hsub:(subs s).length<=2:=by cases s<;>simp [subs]
   have hszL:∀(l:List Sy)(t:Sy),t∈l->sz t<=fX l:=fun l=>by
    induction l with
    |nil=>intro t ht;cases ht
    |cons a l ihl =>
     intro t ht
     rw[jK]
     rcases List.mem_cons.mp ht with rfl|ht
     ·omega
     ·have:=ihl t ht;omega
   refine gO toD (I:=fun r σ aA=>∃ R1 o2 dn,subs s=dn++r/\σ=[some (.ref p),some (toD s),o2,none]/\aZ [lr,ld] st aA/\iF aA p lp lr ld names aK R1 xs/\(∀ x∈R,x∈R1)/\(∀ t∈dn,t∈R1)/\(∀ x∈R1,x∈R∨sz x<sz s)/\R1.length<=R.length+fX dn) (fun r σ aA hI a ha=>by cases ha) (fun x r σ aA M ⟨R1,o2,dn,e1,e2,k1,T1,a1,a2,a3,a4⟩ hM=>?_) (fun σ aA ⟨R1,o2,dn,e1,e2,k1,T1,a1,a2,a3,a4⟩=>?_) _ _ _ ⟨R,none,[],rfl,rfl,.refl,T,fun x hx=>hx,fun t ht=>(by cases ht),fun x hx=>.inl hx,by simp [fX]⟩
   ·-- a part
    subst e2
    have hx:x∈subs s:=by rw[e1];simp
    have hxd:=B4 hx
    have hdn:fX dn+sz x<=fX (subs s):=by rw[e1,kU,jK];omega
    walk_at"st"
    rw[kL T1.ins (by rw[kY (by decide +kernel) (by decide +kernel) (by decide +kernel) (by decide +kernel)];exact hxe)]
    refine⟨True.intro,?_⟩
    refine ih (k:=k) (by omega) T1 (g.subs hx) (by omega) fun aG R2 b1 b2 b3 b4 b5 b6=>?_
    rw[aH]
    refine hM _ aG ⟨R2,_,dn++[x],by simp [e1],rfl,k1.trans b1,b2,fun y hy=>b3 y (a1 y hy),fun t ht=>?_,fun y hy=>?_,?_⟩
    ·rcases List.mem_append.mp ht with ht|ht
     ·exact b3 t (a2 t ht)
     ·simp only[List.mem_singleton]at ht;subst ht;exact b4
    ·rcases b5 y hy with hy|hy
     ·exact a3 y hy
     ·exact .inr (by omega)
    ·rw[kU];simp only[jK];simp only[fX,List.map_nil,List.sum_nil]at *;omega
   ·-- the saying itself
    subst e2
    rw[List.append_nil]at e1
    subst e1
    have hs1:s∉R1:=fun z=>by
     rcases a3 s z with z|z
     ·exact hs z
     ·omega
    walk_at"st"
    refine sR (k:=k+n+1) hw ?_
    walk_at"ex"
    have hidx:∀ t∈subs s,R1[R1.idxOf t]? = some t:=fun t ht=>by
     have hm:=a2 t ht
     have:=List.idxOf_lt_length_iff.mpr hm
     rw[List.getElem?_eq_getElem this]
     simp
    refine dS toD (fun t=>.int (R1.idxOf t:Nat)) _ [] aA (fun aS y a ha=>by cases ha) (fun t ht aS K y1 hK=>?_) (by simp only[List.length_nil];omega) fun aG y2=>?_
    ·have T'':=T1.keep y1
     show pH _ _ _ aS _
     rw[cP T''.ins nR]
     have gt:=g.subs ht
     show qG _ _ aS _
     rw[zH T''.tab (oT gt.dp) (T''.look (hidx t ht))]
     exact hK aS .refl
    rw[List.nil_append]
    refine bU (by simp only[List.length_map];omega) fun q aU y3 hq hq3=>?_
    have T3:=T1.keep (y2.trans y3)
    have kk3:aZ [lr,ld] st aU:=k1.trans (y2.trans y3).keep
    obtain⟨rows,r1,r2,r3⟩:=T3.rows
    walk_at"ex"
    walk_at"st"
    rw[cP T3.ins ED]
    rw[D2,dI r1]
    rw[cP T3.ins nR]
    have hnew:(((R1.map toD).any fun d=>bI d (toD s))=false):=by rw[KZ];simpa using hs1
    have hl1:R1.length<5000:=by omega
    rw[OK T3.tab kd hnew (by simp;omega)]
    generalize hst4:put aU ld (.tab (R1.map toD++[toD s]) (sC R1.length++[.int (rows.length:Nat)]))=cC
    have lrld:lr≠ld:=fun z=>by rw[z,T3.tab]at r1;cases r1
    have pld:p≠ld:=fun z=>by have:=T3.ins;rw[z,T3.tab]at this;cases this
    have plr:p≠lr:=fun z=>by have:=T3.ins;rw[z,r1]at this;cases this
    have lpld:lp≠ld:=fun z=>by have:=T3.pc;rw[z,T3.tab]at this;cases this
    have ins4:cC p=some (.ins (W "Table") (oP names lp lr ld++xs)):=by rw[<-hst4,aJ pld];exact T3.ins
    have lr4:cC lr=some (.lst rows):=by rw[<-hst4,aJ lrld];exact r1
    have q4:cC q=some (.lst ((subs s).map fun t=>.int (R1.idxOf t:Nat))):=by
     rw[<-hst4,aJ (fun z=>by rw[z,T3.tab]at hq3;cases hq3)];exact hq3
    have tab4:cC ld=some (.tab ((R1++[s]).map toD) (sC (R1++[s]).length)):=by
     rw[<-hst4,aM,r2]
     simp [sC,List.range_succ]
    have qlr:q≠lr:=fun z=>by
     rw[z]at hq
     obtain⟨rows',r1',_⟩:=(T1.keep y2).rows
     rw[r1']at hq;cases hq
    walk_at"st"
    rw[cP ins4 ED,uU,aE lr4]
    refine⟨True.intro,?_⟩
    obtain⟨r,er⟩:=oV s
    rw[er]
    walk_at"ex"
    rw[<-er,kL ins4 (by rw[kY (by decide +kernel) (by decide +kernel) (by decide +kernel) (by decide +kernel)];exact hxp)]
    refine⟨True.intro,?_⟩
    have T4:iF (put cC lr (.lst (rows++[.tup [.str (wd s),jV names aK s,.ref q]]))) p lp lr ld names aK (R1++[s]) xs:=by
     have keep4:∀ a o,a≠lr->a≠ld->aU a=some o->(put cC lr (.lst (rows++[.tup [.str (wd s),jV names aK s,.ref q]]))) a=some o:=fun a o n1 n2 e=>by
      rw[aJ n1,<-hst4,aJ n2];exact e
     refine⟨keep4 _ _ plr pld T3.ins,keep4 _ _ T3.ne lpld T3.pc,⟨_,aM,by simp [r2],fun j t d ht hd=>?_⟩,?_,T3.ne,?_,?_,by simp;omega,T3.pd⟩
     ·by_cases hj:j<R1.length
      ·rw[List.getElem?_append_left hj]at ht
       rw[List.getElem?_append_left (by omega)]at hd
       obtain⟨q',is,c1,c2,c3,c4,c5⟩:=r3 j t d ht hd
       refine⟨q',is,c1,c2,keep4 _ _ c2 (fun z=>by rw[z,T3.tab]at c3;cases c3) c3,c4,fun m i' t' h1 h2=>?_⟩
       obtain⟨d1,d2⟩:=c5 m i' t' h1 h2
       exact⟨d1,by rw[List.getElem?_append_left (iJ d2)];exact d2⟩
      ·have hj2:j=R1.length:=by have:=iJ ht;simp at this;omega
       subst hj2
       rw[List.getElem?_append_right (Nat.le_refl _)]at ht
       rw[List.getElem?_append_right (by omega)]at hd
       simp at ht
       simp [r2]at hd
       subst ht hd
       refine⟨q,(subs s).map fun t=>R1.idxOf t,rfl,qlr,?_,by simp,fun m i' t' h1 h2=>?_⟩
       ·rw[aJ qlr,q4,List.map_map];rfl
       ·rw[List.getElem?_map,h2]at h1
        simp at h1
        subst h1
        have ht':=List.mem_of_getElem? h2
        have:=hidx t' ht'
        exact⟨iJ this,by rw[List.getElem?_append_left (iJ this)];exact this⟩
     ·rw[aJ lrld.symm];exact tab4
     ·rw[List.nodup_append]
      exact⟨T3.nd,by simp,fun a ha b hb=>by simp only[List.mem_singleton]at hb;subst hb;exact fun z=>hs1 (z▸ha)⟩
     ·intro t ht
      rcases List.mem_append.mp ht with ht|ht
      ·exact T3.gd t ht
      ·simp only[List.mem_singleton]at ht;subst ht;exact g
    refine O5 (k:=k+n+1) hpo ins4 (by rw[<-hst4,aJ lpld];exact T3.pc) T3.pd g ?_
    rw[aE lr4]
    refine⟨by omega,?_⟩
    simp only[aH]
    refine hQ _ (R1++[s]) (fun a o na e=>?_) T4 (fun x hx=>by simp [a1 x hx]) (by simp) (fun x hx=>?_) (by simp;omega)
    ·simp only[List.mem_cons,List.not_mem_nil,or_false,not_or]at na
     rw[aJ na.1,<-hst4,aJ na.2]
     exact kk3 a o (by simp [na]) e
    ·rcases List.mem_append.mp hx with hx|hx
     ·rcases a3 x hx with hx|hx
      ·exact .inl hx
      ·exact .inr (by omega)
     ·simp only[List.mem_singleton]at hx;subst hx;exact .inr (Nat.le_refl _)
end
end L3
end
section
namespace L3
open PySem
noncomputable def nS (iz ie irr:Nat):Fn:=⟨3,4,[.asg (.fl (W "Table") (W "names") (.v 0)) (.v 1),.asg (.fl (W "Table") (W "pieces") (.v 0)) (.call iz [(.v 2)]),.asg (.fl (W "Table") (W "rows") (.v 0)) (.lst []),.asg (.fl (W "Table") (W "row_of") (.v 0)) .dnew,.iB (.nm 3) none [(.v 2)] [.ex (.mcl (W "Table") (W "enter") ie (.v 0) [(.v 3)])],.asg (.fl (W "Table") (W "first_memory") (.v 0)) (.bi .tuple [(.comp 1 [] [0] true none [(.fld (W "Table") (W "pieces") (.v 0))] [] (.cmp .eq (.ix (.v 0) (.c (.int 0))) (.c (.str (W "sofar")))))]),.asg (.fl (W "Table") (W "remembered_rows") (.v 0)) (.comp 1 [0] [0] true none [(.fld (W "Table") (W "pieces") (.v 0))] [] (.mcl (W "Table") (W "remembered_row") irr (.v 1) [(.v 0)]))]⟩
theorem J3 {f:List Sy}{s x:Sy}(h:x∈f):x∈eT f s:=by
 unfold eT;split
 ·exact List.mem_append_left _ h
 ·exact h
theorem IL {f:List Sy}{s:Sy}(h:bV s=true):s∈eT f s:=by
 unfold eT
 rw[h]
 cases hc:f.contains s with
 |true=>simpa using hc
 |false=>simp
theorem mE:∀(s:Sy){f:List Sy}{x:Sy},x∈f->x∈aK s f
 |.yes,_,_,h=>h
 |.no,_,_,h=>h
 |.cN _,_,_,h=>h
 |.one w s,_,_,h=>mE s (J3 h)
 |.two w s t,_,_,h=>mE t (mE s (J3 h))
theorem qY {f g:List Sy}(h:∀ x∈f,x∈g):∀ s:Sy,GQ f s->GQ g s
 |.yes,_=>trivial
 |.no,_=>trivial
 |.cN _,_=>trivial
 |.one w s,⟨a,b⟩=>⟨fun q=>h _ (a q),qY h s b⟩
 |.two w s t,⟨a,b,c⟩=>⟨fun q=>h _ (a q),qY h s b,qY h t c⟩
theorem B9:∀(s:Sy)(f:List Sy),GQ (aK s f) s
 |.yes,_=>trivial
 |.no,_=>trivial
 |.cN _,_=>trivial
 |.one w s,f=>⟨fun q=>mE s (IL q),B9 s _⟩
 |.two w s t,f=>⟨fun q=>mE t (mE s (IL q)),qY (fun x hx=>mE t hx) s (B9 s _),B9 t _⟩
theorem JV:∀(l:List Sy){f:List Sy}{x:Sy},x∈f->x∈cL l f
 |[],_,_,h=>h
 |s::l,_,_,h=>JV l (mE s h)
theorem LW:∀(l:List Sy)(f:List Sy)(s:Sy),s∈l->GQ (cL l f) s
 |[],_,_,h=>by cases h
 |a::l,f,s,h=>by
  rcases List.mem_cons.mp h with rfl|h
  ·exact qY (fun x hx=>JV l hx) s (B9 s f)
  ·exact LW l _ s h
theorem PN {R f:List Sy}{s:Sy}(hf:∀ x∈f,x∈R)(hs:s∈R):∀ x∈eT f s,x∈R:=by
 unfold eT;split
 ·intro x hx
  rcases List.mem_append.mp hx with hx|hx
  ·exact hf x hx
  ·simp only[List.mem_singleton]at hx;subst hx;exact hs
 ·exact hf
theorem G5 {R:List Sy}(cl:∀ s∈R,∀ t∈subs s,t∈R):∀(s:Sy){f:List Sy},s∈R->(∀ x∈f,x∈R)->∀ x∈aK s f,x∈R
 |.yes,_,hs,hf=>hf
 |.no,_,hs,hf=>hf
 |.cN _,_,hs,hf=>hf
 |.one w s,f,hs,hf=>G5 cl s (cl _ hs s (by simp [subs])) (PN hf hs)
 |.two w s t,f,hs,hf=>G5 cl t (cl _ hs t (by simp [subs])) (G5 cl s (cl _ hs s (by simp [subs])) (PN hf hs))
theorem Q5 {R:List Sy}(cl:∀ s∈R,∀ t∈subs s,t∈R):∀(l f:List Sy),(∀ s∈l,s∈R)->(∀ x∈f,x∈R)->∀ x∈cL l f,x∈R
 |[],_,_,hf=>hf
 |s::l,f,hl,hf=>Q5 cl l _ (fun t ht=>hl t (by simp [ht])) (G5 cl s (hl s (by simp)) hf)
theorem E5 {f:List Sy}{s:Sy}(hf:∀ x∈f,bV x=true):∀ x∈eT f s,bV x=true:=by
 unfold eT
 by_cases h:(bV s && !f.contains s)=true
 ·rw[if_pos h]
  simp only[Bool.and_eq_true]at h
  intro x hx
  rcases List.mem_append.mp hx with hx|hx
  ·exact hf x hx
  ·simp only[List.mem_singleton]at hx;subst hx;exact h.1
 ·rw[if_neg h];exact hf
theorem vD:∀(s:Sy){f:List Sy},(∀ x∈f,bV x=true)->∀ x∈aK s f,bV x=true
 |.yes,_,hf=>hf
 |.no,_,hf=>hf
 |.cN _,_,hf=>hf
 |.one w s,f,hf=>vD s (E5 hf)
 |.two w s t,f,hf=>vD t (vD s (E5 hf))
theorem GJ:∀(l f:List Sy),(∀ x∈f,bV x=true)->∀ x∈cL l f,bV x=true
 |[],_,hf=>hf
 |s::l,f,hf=>GJ l _ (vD s hf)
theorem vB:∀(l:List Sy){f:List Sy}{n:Nat},(∀ x∈f,aO x<=n)->(∀ x∈l,aO x<=n)->∀ x∈cL l f,aO x<=n
 |[],_,_,hf,_=>hf
 |s::l,f,n,hf,hl=>vB l (zU s hf (hl s (by simp))) fun x hx=>hl x (by simp [hx])
theorem U6 (s:Sy):(wd s==W "sofar")=iS s:=by
 cases s with
 |one w s=>cases w<;>(simp only[wd,iS,c1];decide +kernel)
 |two w s t=>cases w<;>(simp only[wd,iS,c2];decide +kernel)
 |_=>(simp only[wd,iS];decide +kernel)
theorem gC {f:List Nat}{d:D}:∀{fs:List (List Nat×D)},bS fs f=none->qK f d fs=fs++[(f,d)]
 |[],_=>rfl
 |(g,x)::r,h=>by
  simp only[bS]at h
  by_cases q:g=f
  ·rw[if_pos q]at h;cases h
  ·rw[if_neg q]at h
   simp only[qK,if_neg q,gC h,List.cons_append]
theorem iF.closed {st:aB}{p lp lr ld:Nat}{names:List (List Nat)}{aK R:List Sy}{xs:List (List Nat×D)}(T:iF st p lp lr ld names aK R xs):∀ s∈R,∀ t∈subs s,t∈R:=by
 intro s hs t ht
 obtain⟨rows,_,r2,r3⟩:=T.rows
 obtain⟨j,hj⟩:=List.mem_iff_getElem?.mp hs
 have hjr:j<rows.length:=by have:=iJ hj;omega
 obtain⟨q,is,_,_,_,c4,c5⟩:=r3 j s _ hj (List.getElem?_eq_getElem hjr)
 obtain⟨m,hm⟩:=List.mem_iff_getElem?.mp ht
 have hmi:m<is.length:=by have:=iJ hm;omega
 exact List.mem_of_getElem? (c5 m _ t (List.getElem?_eq_getElem hmi) hm).2
noncomputable def Q6 (aK:List Sy)(lm:Nat):List (List Nat×D):=[(W "first_memory", .tup (aK.map fun s=>.bl (iS s))),(W "remembered_rows", .ref lm)]
section
variable {G:Prog}{k i ie iw ipo iz irr iti:Nat}{st:aB}{Q:VK}{E:XK}{p l:Nat}{names:List (List Nat)}{ss:List Sy}
structure Table (st:aB)(p:Nat)(names:List (List Nat))(aK R:List Sy):Prop where
 h:∃(lp lr ld lm:Nat)(js:List Nat),iF st p lp lr ld names aK R (Q6 aK lm)/\st lm=some (.lst (js.map fun(j:Nat)=>.int (j:Nat)))/\js.length=aK.length/\(∀(m j:Nat)(s:Sy),js[m]? = some j->aK[m]? = some s->R[j]? = some (tQ s))/\(∀ s∈aK,bV s=true)
theorem LG (h:G.fns iti=some (nS iz ie irr))(hz:G.fns iz=some (kP iw))(he:G.fns ie=some (qC ie iw ipo))(hw:G.fns iw=some iE)(hpo:G.fns ipo=some oW)(hrr:G.fns irr=some BZ)(hp:st p=some (.ins (W "Table") []))(hl:st l=some (.lst (ss.map toD)))
  (ho:∀ s∈ss,over names s/\aO s<=8)(hs:fX ss<=5000)(lB:(cL ss []).length<=5000)(hQ:∀ aA R,aZ [p] st aA->Table aA p names (cL ss []) R->(∀ s∈ss,s∈R)->Q .non aA):aN G (k+12) iti [.ref p,.tup (names.map .str),.ref l] st Q E:=by
 have hL:aY=16777216:=rfl
 rw[aV h]
 simp only[nS,start]
 refine⟨rfl,?_⟩
 have pl:p≠l:=fun z=>by rw[z,hl]at hp;cases hp
 walk_at"st"
 rw[lN hp (by simp)]
 have e1:qK (W "names") (.tup (names.map .str)) []=[(W "names", .tup (names.map .str))]:=rfl
 rw[e1]
 generalize hst1:put st p (.ins (W "Table") [(W "names", .tup (names.map .str))])=aC
 have p1:aC p=some (.ins (W "Table") [(W "names", .tup (names.map .str))]):=by rw[<-hst1,aM]
 have k1:aZ [p] st aC:=by rw[<-hst1];exact aZ.put (by simp)
 have l1:aC l=some (.lst (ss.map toD)):=k1 _ _ (by simpa using pl.symm) hl
 walk_at"st"
 refine zB (k:=k+9) hz hw l1 (fun x hx=>by have:=(ho x hx).2;omega) (by omega) fun lp aG x2 lp2=>?_
 walk_at"ex"
 rw[lN (x2 _ _ p1) (by simp),gC (by simp only[bS];rw[if_neg (by decide +kernel)])]
 generalize hst3:put aG p _=aU
 have p3:aU p=some (.ins (W "Table") ([(W "names", .tup (names.map .str))]++[(W "pieces", .ref lp)])):=by rw[<-hst3,aM]
 have k3:aZ [p] st aU:=k1.trans (x2.keep.trans (by rw[<-hst3];exact aZ.put (by simp)))
 have plp:p≠lp:=fun z=>by rw[<-z,x2 _ _ p1]at lp2;cases lp2
 have lp3:aU lp=some (.lst ((cL ss []).map toD)):=by rw[<-hst3,aJ plp.symm];exact lp2
 walk_at"st"
 refine bU (by decide) fun lr cC x4 hlr lr4=>?_
 walk_at"ex"
 rw[lN (x4 _ _ p3) (by simp),gC (by simp only[List.cons_append,List.nil_append,bS];rw[if_neg (by decide +kernel),if_neg (by decide +kernel)])]
 generalize hst5:put cC p _=dC
 have plr:p≠lr:=fun z=>by rw[<-z,p3]at hlr;cases hlr
 have lplr:lp≠lr:=fun z=>by rw[<-z,lp3]at hlr;cases hlr
 have llr:l≠lr:=fun z=>by rw[<-z,k3 _ _ (by simpa using pl.symm) hl]at hlr;cases hlr
 have p5:dC p=some (.ins (W "Table") ([(W "names", .tup (names.map .str))]++[(W "pieces", .ref lp)]++[(W "rows", .ref lr)])):=by rw[<-hst5,aM]
 have k5:aZ [p] st dC:=k3.trans (x4.keep.trans (by rw[<-hst5];exact aZ.put (by simp)))
 have lp5:dC lp=some (.lst ((cL ss []).map toD)):=by rw[<-hst5,aJ plp.symm];exact x4 _ _ lp3
 have lr5:dC lr=some (.lst []):=by rw[<-hst5,aJ plr.symm];exact lr4
 walk_at"st"
 intro ld hld
 generalize hst6:put dC ld (.tab [] [])=fN
 have x6:Ext dC fN:=by rw[<-hst6];exact Ext.new hld
 have ld6:fN ld=some (.tab [] []):=by rw[<-hst6,aM]
 rw[lN (x6 _ _ p5) (by simp),gC (by simp only[List.cons_append,List.nil_append,bS];rw[if_neg (by decide +kernel),if_neg (by decide +kernel),if_neg (by decide +kernel)])]
 generalize hst7:put fN p _=mM
 have pld:p≠ld:=fun z=>by rw[<-z,p5]at hld;cases hld
 have lld:l≠ld:=fun z=>by rw[<-z,k5 _ _ (by simpa using pl.symm) hl]at hld;cases hld
 have p7:mM p=some (.ins (W "Table") (oP names lp lr ld++[])):=by rw[<-hst7,aM];rfl
 have k7:aZ [p] st mM:=k5.trans (x6.keep.trans (by rw[<-hst7];exact aZ.put (by simp)))
 have o7:∀ a o,a≠p->dC a=some o->mM a=some o:=fun a o na e=>by rw[<-hst7,aJ na];exact x6 _ _ e
 have pd:∀ s∈cL ss [],aO s<=60:=fun s gY=>vB ss (n:=60) (by simp) (fun x hx=>by have:=(ho x hx).2;omega) s gY
 have T7:iF mM p lp lr ld names (cL ss []) [] []:=⟨p7,o7 _ _ plp.symm lp5,⟨[],o7 _ _ plr.symm lr5,rfl,fun j s d e=>by simp at e⟩,by rw[<-hst7,aJ pld.symm];exact ld6,lplr,List.nodup_nil,fun s gY=>(by cases gY),by simp,pd⟩
 have l7:mM l=some (.lst (ss.map toD)):=k7 _ _ (by simpa using pl.symm) hl
 have hszL:∀(l:List Sy)(t:Sy),t∈l->sz t<=fX l:=fun l=>by
  induction l with
  |nil=>intro t ht;cases ht
  |cons a l ihl =>
   intro t ht
   rw[jK]
   rcases List.mem_cons.mp ht with rfl|ht
   ·omega
   ·have:=ihl t ht;omega
 walk_at"st"
 rw[aE l7]
 refine gO toD (I:=fun r σ aA=>∃ R1 o3 dn,ss=dn++r/\σ=[some (.ref p),some (.tup (names.map .str)),some (.ref l),o3]/\aZ [lr,ld] mM aA/\iF aA p lp lr ld names (cL ss []) R1 []/\(∀ t∈dn,t∈R1)/\R1.length<=fX dn) (fun r σ aA ⟨R1,o3,dn,e1,e2,k1,T1,a2,a4⟩=>?_) (fun x r σ aA M ⟨R1,o3,dn,e1,e2,k1,T1,a2,a4⟩ hM=>?_) (fun σ aA ⟨R1,o3,dn,e1,e2,k1,T1,a2,a4⟩=>?_) _ _ _ ⟨[],none,[],rfl,rfl,.refl,T7,fun t ht=>(by cases ht),by simp [fX]⟩
 ·intro a ha
  simp only[List.mem_singleton]at ha
  subst ha
  rw[l7,k1 _ _ (by simp [llr,lld]) l7]
 ·-- a saying
  subst e2
  have hx:x∈ss:=by rw[e1];simp
  have hdn:fX dn+sz x<=fX ss:=by rw[e1,kU,jK];omega
  walk_at"st"
  rw[kL T1.ins (by rw[kY (by decide +kernel) (by decide +kernel) (by decide +kernel) (by decide +kernel)];rfl)]
  refine⟨True.intro,?_⟩
  refine UO (k:=k+1) he hw hpo rfl rfl 8 (ho x hx).2 T1 ⟨(ho x hx).1,(ho x hx).2,LW ss [] x hx⟩ (by omega) fun aG R2 b1 b2 b3 b4 b5 b6=>?_
  rw[aH]
  refine hM _ aG ⟨R2,_,dn++[x],by simp [e1],rfl,k1.trans b1,b2,fun t ht=>?_,?_⟩
  ·rcases List.mem_append.mp ht with ht|ht
   ·exact b3 t (a2 t ht)
   ·simp only[List.mem_singleton]at ht;subst ht;exact b4
  ·rw[kU];simp only[jK];simp only[fX,List.map_nil,List.sum_nil]at *;omega
 ·-- behind them
  subst e2
  rw[List.append_nil]at e1
  have pL:∀ s∈ss,s∈R1:=fun s gY=>a2 s (by rw[<-e1];exact gY)
  have kk:aZ [p,lr,ld] st aA:=(k7.mono (by simp)).trans (k1.mono (by simp))
  walk_at"st"
  rw[cP T1.ins yH,lU,aE T1.pc]
  refine dS toD (fun s=>.bl (iS s)) (cL ss []) [] aA (fun aS y a ha=>?_) (fun t ht aS K y1 hK=>?_) (by simp only[List.length_nil];omega) fun aG y2=>?_
  ·simp only[List.mem_singleton]at ha
   subst ha
   rw[T1.pc,y _ _ T1.pc]
  ·obtain⟨r,er⟩:=oV t
   rw[er]
   walk_at"ex"
   rw[U6]
   exact hK aS .refl
  rw[List.nil_append]
  refine bU (by simp only[List.length_map];omega) fun pp aU y3 hpp pM=>?_
  walk_at"ex"
  rw[aE pM]
  refine⟨by simp only[List.length_map];omega,?_⟩
  have T3:=T1.keep (y2.trans y3)
  rw[lN T3.ins (by simp [oP]),gC (by rw[kY (by decide +kernel) (by decide +kernel) (by decide +kernel) (by decide +kernel)];rfl)]
  generalize hst8:put aU p _=dM
  have nep:∀ a o,a≠p->aU a=some o->dM a=some o:=fun a o na e=>by rw[<-hst8,aJ na];exact e
  have lpp:lp≠p:=plp.symm
  have T8:iF dM p lp lr ld names (cL ss []) R1 [(W "first_memory", .tup ((cL ss []).map fun s=>.bl (iS s)))]:=by
   obtain⟨rows,r1,r2,r3⟩:=T3.rows
   refine⟨by rw[<-hst8,aM,List.append_assoc];rfl,nep _ _ lpp T3.pc,⟨rows,nep _ _ plr.symm r1,r2,fun j s d h1 h2=>?_⟩,nep _ _ pld.symm T3.tab,T3.ne,T3.nd,T3.gd,T3.len,T3.pd⟩
   obtain⟨q,is,c1,c2,c3,c4⟩:=r3 j s d h1 h2
   exact⟨q,is,c1,c2,nep _ _ (fun z=>by rw[z,T3.ins]at c3;cases c3) c3,c4⟩
  have cl:=T8.closed
  have hin:∀ s∈cL ss [],tQ s∈R1:=fun s gY=>by
   have h1:=Q5 cl ss [] pL (fun x hx=>by cases hx) s gY
   cases s with
   |one w a =>
    cases w with
    |before=>exact cl _ h1 a (by simp [subs])
    |_=>exact h1
   |_=>exact h1
  have hpast:=GJ ss [] (fun x hx=>by cases hx)
  walk_at"st"
  rw[cP T8.ins yH,lU,aE T8.pc]
  refine dS toD (fun s=>.int (R1.idxOf (tQ s):Nat)) (cL ss []) [] dM (fun aS y a ha=>?_) (fun t ht aS K y1 hK=>?_) (by simp only[List.length_nil];omega) fun rM y9=>?_
  ·simp only[List.mem_singleton]at ha
   subst ha
   rw[T8.pc,y _ _ T8.pc]
  ·have T'':=T8.keep y1
   walk_at"ex"
   rw[kL T''.ins (by rw[kY (by decide +kernel) (by decide +kernel) (by decide +kernel) (by decide +kernel)];simp only[bS];rw[if_neg (by decide +kernel)])]
   refine⟨True.intro,?_⟩
   have dP:=List.idxOf_lt_length_iff.mpr (hin t ht)
   have hd8:aO t<=8:=vB ss (n:=8) (by simp) (fun x hx=>(ho x hx).2) t ht
   refine Cr (k:=k+10) hrr T'' (hpast t ht) hd8 (j:=R1.idxOf (tQ t)) (by rw[List.getElem?_eq_getElem dP];simp) ?_
   exact hK aS .refl
  rw[List.nil_append]
  refine bU (by simp only[List.length_map];omega) fun lm K3 y10 hlm hlm10=>?_
  walk_at"ex"
  have T10:=T8.keep (y9.trans y10)
  rw[lN T10.ins (by simp [oP]),gC (by rw[kY (by decide +kernel) (by decide +kernel) (by decide +kernel) (by decide +kernel)];simp only[bS];rw[if_neg (by decide +kernel)])]
  simp only[aH]
  generalize hst11:put K3 p _=K4
  have nep2:∀ a o,a≠p->K3 a=some o->K4 a=some o:=fun a o na e=>by rw[<-hst11,aJ na];exact e
  refine hQ K4 R1 (fun a o na e=>?_) ⟨lp,lr,ld,lm,(cL ss []).map fun s=>R1.idxOf (tQ s),?_,?_,by simp,fun m j s h1 h2=>?_,hpast⟩ pL
  ·simp only[List.mem_singleton]at na
   have h7:=k7 a o (by simpa using na) e
   have alr:a≠lr:=fun z=>by rw[<-z,k3 a o (by simpa using na) e]at hlr;cases hlr
   have ald:a≠ld:=fun z=>by rw[<-z,k5 a o (by simpa using na) e]at hld;cases hld
   exact nep2 a o na ((y9.trans y10) _ _ (nep a o na ((y2.trans y3) _ _ (k1 a o (by simp [alr,ald]) h7))))
  ·obtain⟨rows,r1,r2,r3⟩:=T10.rows
   refine⟨by rw[<-hst11,aM,List.append_assoc];rfl,nep2 _ _ lpp T10.pc,⟨rows,nep2 _ _ plr.symm r1,r2,fun j s d h1 h2=>?_⟩,nep2 _ _ pld.symm T10.tab,T10.ne,T10.nd,T10.gd,T10.len,T10.pd⟩
   obtain⟨q,is,c1,c2,c3,c4⟩:=r3 j s d h1 h2
   exact⟨q,is,c1,c2,nep2 _ _ (fun z=>by rw[z,T10.ins]at c3;cases c3) c3,c4⟩
  ·rw[nep2 _ _ (fun z=>by rw[z,(T8.keep y9).ins]at hlm;cases hlm) hlm10,List.map_map];rfl
  ·rw[List.getElem?_map,h2]at h1
   simp at h1
   subst h1
   have dP:=List.idxOf_lt_length_iff.mpr (hin s (List.mem_of_getElem? h2))
   rw[List.getElem?_eq_getElem dP];simp
end
end L3
end
section
namespace L3
open PySem
noncomputable def yY (iti io:Nat):Fn:=⟨2,2,[.asg (.fl (W "Rules") (W "table") (.v 0)) (.mk (W "Table") iti [(.bin .add (.ix (.v 1) (.c (.int 0))) (.ix (.v 1) (.c (.int 1)))),(.call io [(.ix (.v 1) (.c (.int 2))),(.ix (.v 1) (.c (.int 3))),(.ix (.v 1) (.c (.int 4)))])]),.asg (.fl (W "Rules") (W "promise_rows") (.v 0)) (.comp 1 [0] [0] true none [(.ix (.v 1) (.c (.int 2)))] [] (.dix (.fld (W "Table") (W "row_of") (.fld (W "Rules") (W "table") (.v 1))) (.v 0))),.asg (.fl (W "Rules") (W "must_rows") (.v 0)) (.comp 1 [0] [0] true none [(.ix (.v 1) (.c (.int 3)))] [] (.dix (.fld (W "Table") (W "row_of") (.fld (W "Rules") (W "table") (.v 1))) (.v 0))),.asg (.fl (W "Rules") (W "priced_rows") (.v 0)) (.comp 1 [0] [0] true none [(.ix (.v 1) (.c (.int 4)))] [] (.tup [(.ix (.v 0) (.c (.int 0))),(.dix (.fld (W "Table") (W "row_of") (.fld (W "Rules") (W "table") (.v 1))) (.ix (.v 0) (.c (.int 1))))]))]⟩
noncomputable def rG (ibk:Nat):Fn:=⟨1,1,[.iff (.not_ (.call ibk [(.v 0)])) [.rais 2 [(.c (.str (W "no book")))]] [],.ret (.v 0)]⟩
theorem Table.keep {st aA:aB}{p:Nat}{names:List (List Nat)}{aK R:List Sy}(T:Table st p names aK R)(h:Ext st aA):Table aA p names aK R:=by
 obtain⟨lp,lr,ld,lm,js,a,b,c⟩:=T.h
 exact⟨lp,lr,ld,lm,js,a.keep h,h _ _ b,c⟩
theorem Table.set {st:aB}{p r:Nat}{names:List (List Nat)}{aK R:List Sy}{fs:List (List Nat×D)}{o:MO}(T:Table st p names aK R)(hr:st r=some (.ins (W "Rules") fs)):Table (put st r o) p names aK R:=by
 obtain⟨lp,lr,ld,lm,js,a,b',c⟩:=T.h
 have nr:∀ a u,st a=some u->u≠.ins (W "Rules") fs->put st r o a=some u:=fun a u e n=>by rw[aJ (fun z=>n (by rw[z,hr]at e;cases e;rfl))];exact e
 have hc:W "Table" ≠ W "Rules":=by decide +kernel
 obtain⟨rows,r1,r2',r3⟩:=a.rows
 refine⟨lp,lr,ld,lm,js,⟨nr _ _ a.ins (fun z=>by injection z with z1;exact hc z1),nr _ _ a.pc (fun z=>nomatch z),⟨rows,nr _ _ r1 (fun z=>nomatch z),r2',fun j s d h1 h2=>?_⟩,nr _ _ a.tab (fun z=>nomatch z),a.ne,a.nd,a.gd,a.len,a.pd⟩,nr _ _ b' (fun z=>nomatch z),c⟩
 obtain⟨q,is,c1,c2,c3,c4⟩:=r3 j s d h1 h2
 exact⟨q,is,c1,c2,nr _ _ c3 (fun z=>nomatch z),c4⟩
theorem Table.row {st:aB}{p:Nat}{names:List (List Nat)}{aK R:List Sy}(T:Table st p names aK R):∃ ld fs,st p=some (.ins (W "Table") fs)/\bS fs (W "row_of")=some (.ref ld)/\st ld=some (.tab (R.map toD) (sC R.length))/\∀ s∈R,aO s<=8/\kA (R.map toD) (sC R.length) (toD s)=some (.int (R.idxOf s:Nat)):=by
 obtain⟨lp,lr,ld,lm,js,a,b,c⟩:=T.h
 refine⟨ld,_,a.ins,nR,a.tab,fun s hs=>⟨(a.gd s hs).dp,?_⟩⟩
 have dP:=List.idxOf_lt_length_iff.mpr hs
 exact a.look (by rw[List.getElem?_eq_getElem dP];simp)
noncomputable def sT (p l1 l2 l3:Nat):List (List Nat×D):=[(W "table", .ref p),(W "promise_rows", .ref l1),(W "must_rows", .ref l2),(W "priced_rows", .ref l3)]
structure iC (st:aB)(r p l1 l2 l3:Nat)(b:Bk)(R:List Sy):Prop where
 ins:st r=some (.ins (W "Rules") (sT p l1 l2 l3))
 tab:Table st p b.names (cL b.says []) R
 pr:st l1=some (.lst (b.ps.map fun s=>.int (R.idxOf s:Nat)))
 mu:st l2=some (.lst (b.ms.map fun s=>.int (R.idxOf s:Nat)))
 wi:st l3=some (.lst (b.ws.map fun w=>.tup [.int w.1,.int (R.idxOf w.2:Nat)]))
 all:∀ s∈b.says,s∈R
theorem iC.keep {st aA:aB}{r p l1 l2 l3:Nat}{b:Bk}{R:List Sy}(T:iC st r p l1 l2 l3 b R)(h:Ext st aA):iC aA r p l1 l2 l3 b R:=⟨h _ _ T.ins,T.tab.keep h,h _ _ T.pr,h _ _ T.mu,h _ _ T.wi,T.all⟩
section
variable {G:Prog}{k i ie iw ipo iz irr iti io r:Nat}{st:aB}{Q:VK}{E:XK}{b:Bk}
theorem M3 (B:b.Ok):∀ s∈b.says,over b.names s/\aO s<=8:=by
 intro s hs
 simp only[Bk.says,List.mem_append,List.mem_map]at hs
 rcases hs with(hs|hs)|⟨w,hw,rfl⟩
 ·exact B.p2 s hs
 ·exact B.m2 s hs
 ·exact⟨(B.w3 w hw).2.2.1,(B.w3 w hw).2.2.2⟩
theorem U4 (h:G.fns i=some (yY iti io))(ht:G.fns iti=some (nS iz ie irr))(hz:G.fns iz=some (kP iw))(he:G.fns ie=some (qC ie iw ipo))(hw:G.fns iw=some iE)(hpo:G.fns ipo=some oW)(hrr:G.fns irr=some BZ)(hio:G.fns io=some uQ)
  (B:b.Ok)(hs:fX b.says<=5000)(lB:(cL b.says []).length<=5000)(hr:st r=some (.ins (W "Rules") []))(hQ:∀ aA p l1 l2 l3 R,aZ [r] st aA->iC aA r p l1 l2 l3 b R->Q .non aA):aN G (k+13) i [.ref r,b.d] st Q E:=by
 have hL:aY=16777216:=rfl
 have f2:=B.f2
 have g2:=B.g2
 have p1:=B.p1
 have m1:=B.m1
 have w2:=B.w2
 have e2:bS (sT 0 0 0 0) (W "table")=some (.ref 0):=by simp only[sT,bS];rw[if_pos True.intro]
 rw[aV h]
 simp only[yY,start]
 refine⟨rfl,?_⟩
 have hd:b.d=.tup [.tup (b.fs.map .str),.tup (b.gs.map .str),.tup (b.ps.map toD),.tup (b.ms.map toD),.tup (b.ws.map fun w=>.tup [.int w.1,toD w.2])]:=rfl
 rw[hd]
 walk_at"st"
 refine⟨by simp only[List.length_map];omega,?_⟩
 refine GP (k:=k+11) hio (by omega) (by omega) (by omega) fun l aC x1 l1=>?_
 intro p hp
 have l1':aC l=some (.lst (b.says.map toD)):=by rw[l1];simp [Bk.says]
 have lp:l≠p:=fun z=>by rw[z,hp]at l1;cases l1
 have rp:r≠p:=fun z=>by rw[<-z,x1 _ _ hr]at hp;cases hp
 have en:(b.fs.map D.str++b.gs.map D.str)=b.names.map .str:=by simp [Bk.names]
 rw[en]
 refine LG (k:=k) ht hz he hw hpo hrr aM (by rw[aJ lp];exact l1') (M3 B) hs lB fun aG R k2 T2 pL=>⟨rfl,?_⟩
 have kk2:Ext aC aG:=fun a o e=>k2 a o (by intro z;simp only[List.mem_singleton]at z;rw[z,hp]at e;cases e) (AM hp e)
 have r2:aG r=some (.ins (W "Rules") []):=kk2 _ _ (x1 _ _ hr)
 walk_at"ex"
 rw[lN r2 (by simp),gC rfl]
 generalize hst3:put aG r _=aU
 have T2':=T2
 have ne3:∀ a o,a≠r->aG a=some o->aU a=some o:=fun a o na e=>by rw[<-hst3,aJ na];exact e
 have T3:Table aU p b.names (cL b.says []) R:=by rw[<-hst3];exact T2.set r2
 have r3:aU r=some (.ins (W "Rules") ([]++[(W "table", .ref p)])):=by rw[<-hst3,aM]
 have kk3:aZ [r] st aU:=x1.keep.trans (kk2.keep.trans (by rw[<-hst3];exact aZ.put (by simp)))
 have look:∀{cC:aB}{fs:List (List Nat×D)}{s:Sy}{Q':VK},Table cC p b.names (cL b.says []) R->cC r=some (.ins (W "Rules") fs)->bS fs (W "table")=some (.ref p)->s∈R->Q' (.int (R.idxOf s:Nat)) cC ->
   pH (W "Rules") (W "table") (.ref r) cC fun x aC=>pH (W "Table") (W "row_of") x aC fun y aG=>qG (toD s) y aG Q':=by
  intro cC fs s Q' T4 r4 hf hsR hq
  obtain⟨ld,fs',a1,a2,a3,a4⟩:=T4.row
  rw[cP r4 hf,cP a1 a2,zH a3 (oT (a4 s hsR).1) (a4 s hsR).2]
  exact hq
 walk_at"st"
 refine dS toD (fun s=>.int (R.idxOf s:Nat)) b.ps [] aU (fun aS y a ha=>by cases ha) (fun t ht aS K y1 hK=>?_) (by simp only[List.length_nil];omega) fun cC y4=>?_
 ·exact look (T3.keep y1) (y1 _ _ r3) (by simp only[List.nil_append,bS];rw[if_pos True.intro]) (pL t (by simp [Bk.says,ht])) (hK aS .refl)
 rw[List.nil_append]
 refine bU (by simp only[List.length_map];omega) fun l1 dC y5 hl1 l15=>?_
 walk_at"ex"
 have y35:=y4.trans y5
 rw[lN (y35 _ _ r3) (by simp),gC (by simp only[List.nil_append,bS];rw[if_neg (by decide +kernel)])]
 generalize hst6:put dC r _=fN
 have T6:Table fN p b.names (cL b.says []) R:=by rw[<-hst6];exact(T3.keep y35).set (y35 _ _ r3)
 have r6:fN r=some (.ins (W "Rules") ([]++[(W "table", .ref p)]++[(W "promise_rows", .ref l1)])):=by rw[<-hst6,aM]
 have n6:∀ a o,a≠r->dC a=some o->fN a=some o:=fun a o na e=>by rw[<-hst6,aJ na];exact e
 have l1r:l1≠r:=fun z=>by rw[z,y4 _ _ r3]at hl1;cases hl1
 have l16:=n6 _ _ l1r l15
 have kk6:aZ [r] st fN:=kk3.trans (y35.keep.trans (by rw[<-hst6];exact aZ.put (by simp)))
 walk_at"st"
 refine dS toD (fun s=>.int (R.idxOf s:Nat)) b.ms [] fN (fun aS y a ha=>by cases ha) (fun t ht aS K y1 hK=>?_) (by simp only[List.length_nil];omega) fun mM y7=>?_
 ·exact look (T6.keep y1) (y1 _ _ r6) (by simp only[List.nil_append,List.cons_append,bS];rw[if_pos True.intro]) (pL t (by simp [Bk.says,ht])) (hK aS .refl)
 rw[List.nil_append]
 refine bU (by simp only[List.length_map];omega) fun l2 dM y8 hl2 l28=>?_
 walk_at"ex"
 have y68:=y7.trans y8
 rw[lN (y68 _ _ r6) (by simp),gC (by simp only[List.nil_append,List.cons_append,bS];rw[if_neg (by decide +kernel),if_neg (by decide +kernel)])]
 generalize hst9:put dM r _=rM
 have T9:Table rM p b.names (cL b.says []) R:=by rw[<-hst9];exact(T6.keep y68).set (y68 _ _ r6)
 have r9:rM r=some (.ins (W "Rules") ([]++[(W "table", .ref p)]++[(W "promise_rows", .ref l1)]++[(W "must_rows", .ref l2)])):=by rw[<-hst9,aM]
 have n9:∀ a o,a≠r->dM a=some o->rM a=some o:=fun a o na e=>by rw[<-hst9,aJ na];exact e
 have l2r:l2≠r:=fun z=>by rw[z,y7 _ _ r6]at hl2;cases hl2
 have l29:=n9 _ _ l2r l28
 have l19:=n9 _ _ l1r (y68 _ _ l16)
 have kk9:aZ [r] st rM:=kk6.trans (y68.keep.trans (by rw[<-hst9];exact aZ.put (by simp)))
 walk_at"st"
 refine dS (fun w:Int×Sy=>D.tup [.int w.1,toD w.2]) (fun w=>.tup [.int w.1,.int (R.idxOf w.2:Nat)]) b.ws [] rM (fun aS y a ha=>by cases ha) (fun t ht aS K y1 hK=>?_) (by simp only[List.length_nil];omega) fun K3 y10=>?_
 ·refine look (s:=t.2) (T9.keep y1) (y1 _ _ r9) (by simp only[List.nil_append,List.cons_append,bS];rw[if_pos True.intro]) (pL t.2 (by simp only[Bk.says,List.mem_append,List.mem_map];exact .inr ⟨t,ht,rfl⟩)) ?_
  exact hK aS .refl
 rw[List.nil_append]
 refine bU (by simp only[List.length_map];omega) fun l3 K4 y11 hl3 l311=>?_
 walk_at"ex"
 have y911:=y10.trans y11
 rw[lN (y911 _ _ r9) (by simp),gC (by simp only[List.nil_append,List.cons_append,bS];rw[if_neg (by decide +kernel),if_neg (by decide +kernel),if_neg (by decide +kernel)])]
 simp only[aH]
 generalize hst12:put K4 r _=Gg
 have n12:∀ a o,a≠r->K4 a=some o->Gg a=some o:=fun a o na e=>by rw[<-hst12,aJ na];exact e
 have l3r:l3≠r:=fun z=>by rw[z,y10 _ _ r9]at hl3;cases hl3
 refine hQ Gg p l1 l2 l3 R (kk9.trans (y911.keep.trans (by rw[<-hst12];exact aZ.put (by simp)))) ⟨by rw[<-hst12,aM];rfl,by rw[<-hst12];exact(T9.keep y911).set (y911 _ _ r9),n12 _ _ l1r (y911 _ _ l19),n12 _ _ l2r (y911 _ _ l29),n12 _ _ l3r l311,pL⟩
end
end L3
end
section
namespace L3
open PySem
noncomputable def bN (bs:List Bool):D:=.tup (bs.map .bl)
noncomputable def NQ (G:Prog)(ibk kb:Nat)(b:Bk):Prop:=∀(k:Nat)(st:aB)(Q:VK)(E:XK),(∀ aA,Ext st aA->Q (.bl true) aA)->aN G (k+kb) ibk [b.d] st Q E
section
variable {G:Prog}{k i ibk kb ich icp ist ie iw ipo iz irr iti io iri ima lC iph inh:Nat}{st:aB}{Q:VK}{E:XK}{b:Bk}
theorem OZ (h:G.fns ich=some (rG ibk))(hb:NQ G ibk kb b)(hQ:∀ aA,Ext st aA->Q b.d aA):aN G (k+kb+1) ich [b.d] st Q E:=by
 rw[aV h]
 simp only[rG,start]
 refine⟨rfl,?_⟩
 walk_at"st"
 refine hb k _ _ _ fun aC x1=>?_
 walk_at"ex"
 simp only[aH]
 walk_at"st"
 exact hQ aC x1
end
end L3
end
section
namespace L3
open PySem
local macro_rules|`(tactic| walk_at"wd")=>`(tactic| (first|rw[if_pos (by decide +kernel)]|rw[if_neg (by decide +kernel)]))
theorem kF {α:Type}{g:aB->Prop}{turn:D->aB->(Option D->aB->Prop)->Prop}{R:List D->aB->Prop}(t:α->D)(f:α->Option D):∀(xs:List α)(acc:List D)(st:aB),
  (∀ aA,Ext st aA->g aA)->(∀ x∈xs,∀ aA (K:Option D->aB->Prop),Ext st aA->(∀ aS,Ext aA aS->K (f x) aS)->turn (t x) aA K) ->
  acc.length+xs.length<=aY->(∀ aA,Ext st aA->R (acc++xs.filterMap f) aA)->jI g turn (xs.map t) acc st R
 |[],acc,st,hg,_,_,hR=>⟨hg st .refl,by simpa using hR st .refl⟩
 |x::xs,acc,st,hg,ht,hl,hR=>by
  simp only[List.length_cons]at hl
  refine⟨hg st .refl,by omega,ht x (by simp) st _ .refl fun aS h''=>?_⟩
  cases hf:f x with
  |none =>
   exact kF t f xs acc aS (fun aA h=>hg aA (h''.trans h)) (fun y hy aA K h=>ht y (by simp [hy]) aA K (h''.trans h)) (by omega) fun aA h=>by simpa [hf]using hR aA (h''.trans h)
  |some d =>
   exact kF t f xs (acc++[d]) aS (fun aA h=>hg aA (h''.trans h)) (fun y hy aA K h=>ht y (by simp [hy]) aA K (h''.trans h)) (by simp only[List.length_append,List.length_cons,List.length_nil];omega) fun aA h=>by simpa [hf]using hR aA (h''.trans h)
theorem sE (n:Nat):gE 0 n=(List.range n).map fun k=>D.int (k:Nat):=by
 unfold gE;congr 1;funext k;simp
end L3
end
section
namespace L3
open PySem
theorem vS (bs:List Bool):bE (bN bs)=true:=by
 simp only[bN,bE]
 induction bs with
 |nil=>rfl
 |cons a l ih=>simp only[List.map_cons,bP,bE,ih,Bool.and_self]
theorem M0 (bs:List Bool):cH (bN bs)<=1:=by
 simp only[bN,cH]
 have:cJ (bs.map D.bl)=0:=by
  induction bs with
  |nil=>rfl
  |cons a l ih=>simp only[List.map_cons,cJ,cH,ih];rfl
 omega
end L3
end
section
namespace L3
open PySem
noncomputable def AD (is dD:Nat):Fn:=⟨5,7,[.asg (.nm 5) (.call is [(.v 0),(.v 1),(.v 2),(.c (.int 1)),(.lst [(.c (.int 0))])]),.iff (.and_ (.cmp .gt (.ix (.v 4) (.c (.int 0))) (.c (.int 0))) (.cmp .eq (.call dD [(.v 0),(.v 1),(.c (.int 2))]) (.c (.int 1)))) [.asg (.ix (.v 4) (.c (.int 0))) (.bin .sub (.ix (.v 4) (.c (.int 0))) (.c (.int 1))),.asg (.nm 6) (.call is [(.v 0),(.v 1),(.v 3),(.c (.int 1)),(.lst [(.c (.int 0))])]),.ret (.tup [(.ix (.lst [(.c (.str (W "then"))),(.c (.str (W "or"))),(.c (.str (W "same")))]) (.call dD [(.v 0),(.v 1),(.c (.int 3))])),(.tup [(.c (.str (W "before"))),(.v 6)]),(.v 5)])] [],.ret (.v 5)]⟩
noncomputable def AA (inm dD is ipr:Nat):Fn:=⟨4,14,[.asg (.nm 4) (.lst [(.v 1)]),.asg (.tp [5,6]) (.call inm [(.v 0),(.v 4)]),.asg (.nm 7) (.bin .add (.v 5) (.v 6)),.asg (.nm 8) (.lst [(.call dD [(.v 0),(.v 4),(.bin .add (.v 2) (.c (.int 1)))])]),.asg (.nm 9) (.lst []),.iB (.nm 10) (some .range) [(.bin .add (.c (.int 1)) (.call dD [(.v 0),(.v 4),(.c (.int 3))]))] [.asg (.nm 11) (.bin .add (.c (.int 1)) (.call dD [(.v 0),(.v 4),(.ix (.lst [(.c (.int 3)),(.c (.int 9)),(.c (.int 99))]) (.call dD [(.v 0),(.v 4),(.c (.int 3))]))])),.ex (.cI .append (.v 9) [(.tup [(.v 11),(.call is [(.v 0),(.v 4),(.v 7),(.c (.int 2)),(.v 8)])])])],.asg (.nm 12) (.comp 1 [0,4,7,8] [0] true (some .range) [(.call dD [(.v 0),(.v 4),(.bin .add (.v 3) (.c (.int 1)))])] [] (.call is [(.v 1),(.v 2),(.v 3),(.c (.int 2)),(.v 4)])),.asg (.nm 13) (.comp 1 [0,4,5,7,8] [0] true (some .range) [(.call dD [(.v 0),(.v 4),(.c (.int 2))])] [] (.call ipr [(.v 1),(.v 2),(.v 3),(.v 4),(.v 5)])),.ret (.tup [(.v 5),(.v 6),(.bi .tuple [(.v 13)]),(.bi .tuple [(.v 12)]),(.bi .tuple [(.v 9)])])]⟩
end L3
end
section
namespace L3
open PySem
theorem oY {f g:List (List Nat)}(h:∀ n∈f,n∈g):∀ s:Sy,over f s->over g s
 |.yes,_=>trivial
 |.no,_=>trivial
 |.cN _,q=>h _ q
 |.one w s,q=>oY h s q
 |.two w s t,q=>⟨oY h s q.1,oY h t q.2⟩
theorem oO {fs gs:List (List Nat)}(h:∀ n∈fs,n∉gs):∀ s:Sy,over fs s->fQ gs s=false
 |.yes,_=>rfl
 |.no,_=>rfl
 |.cN n,q=>by
  simp only[fQ,List.any_eq_false]
  intro x hx e
  have:=h n q
  rw[<-eq_of_beq e]at this
  exact this hx
 |.one w s,q=>by cases w<;>first|rfl|exact oO h s q
 |.two w s t,q=>by simp only[fQ,oO h s q.1,oO h t q.2,Bool.or_self]
section
variable {G:Prog}{k ic im dD is ipr:Nat}{st:aB}{Q:VK}{E:XK}{ns:List Int}
theorem YN (h:G.fns ipr=some (AD is dD))(hs:G.fns is=some (nV dD is))(hn:G.fns dD=some (rV im))(hm:G.fns im=some (nB ic))(hc:G.fns ic=some oG){fs gs:List (List Nat)}(hf:0<fs.length)(hdis:∀ n∈fs,n∉gs){a b:Nat}(dQ:a≠b){i l:Int}
  (ha:st a=some (.lst [.int i]))(hb:st b=some (.lst [.int l]))(hi:0<=i)(hl:0<=l)
  (hQ:∀ s aA i',over (fs++gs) s->fQ gs s=false->aO s<=4->(cnt s:Int)<=l->aZ [a,b] st aA->0<=i'->aA a=some (.lst [.int i'])->aA b=some (.lst [.int (l-cnt s)])->Q (toD s) aA):
  aN G (k+6) ipr [.bK (ns.map .int),.ref a,.tup (fs.map .str),.tup ((fs++gs).map .str),.ref b] st Q E:=by
 rw[aV h]
 simp only[AD,start]
 refine⟨rfl,?_⟩
 have hfm:∀ n∈fs,n∈fs++gs:=fun n hn=>by simp [hn]
 walk_at"st"
 refine bU (by decide) fun z aC x1 hz hz1=>?_
 have za:a≠z:=fun e=>by rw[<-e,ha]at hz;cases hz
 have zb:b≠z:=fun e=>by rw[<-e,hb]at hz;cases hz
 have zz:∀ c o,st c=some o->c≠z:=fun c o e q=>by rw[q,hz]at e;cases e
 refine sH (k:=k) hs hn hm hc hf za 1 (x1 _ _ ha) hz1 hi (by omega) fun s aG i2 o1 d1 c1' k2 hi2 a2 z2=>?_
 have cs:cnt s=0:=by omega
 have b2:aG b=some (.lst [.int l]):=k2 b _ (by simp [dQ.symm,zb]) (x1 _ _ hb)
 have kk2:aZ [a,b] st aG:=fun c o nc e=>k2 c o (by simp only[List.mem_cons,List.not_mem_nil,or_false,not_or]at nc ⊢;exact⟨nc.1,zz c o e⟩) (x1 _ _ e)
 have base:∀ aU i3,aZ [a,b] aG aU->0<=i3->aU a=some (.lst [.int i3])->aU b=some (.lst [.int l])->Q (toD s) aU:=fun aU i3 k3 h3 a3 b3 =>
  hQ s aU i3 (oY hfm s o1) (oO hdis s o1) (by omega) (by omega) (kk2.trans k3) h3 a3 (by rw[cs];simpa using b3)
 walk_at"st"
 rw[dF b2,yA,aX]
 walk_at"ex"
 by_cases hl0:0<l
 ·rw[if_pos hl0]
  refine fL (k:=k+2) hn hm hc a2 hi2 (by omega) fun aU k3 a3=>?_
  have b3:aU b=some (.lst [.int l]):=k3 b _ (by simpa using dQ.symm) b2
  walk_at"ex"
  generalize hv:kE ns (i2+1) 2=v
  cases hv1:(v==1)with
  |true =>
   simp only[if_true]
   walk_at"st"
   rw[dF b3,yA,aX]
   walk_at"ex"
   rw[aE b3,WC,aX]
   generalize hst4:put aU b _=cC
   have b4:cC b=some (.lst [.int (l-1)]):=by rw[<-hst4,aM];rfl
   have a4:cC a=some (.lst [.int (i2+1)]):=by rw[<-hst4,aJ dQ];exact a3
   have k4:aZ [a,b] aU cC:=by rw[<-hst4];exact aZ.put (by simp)
   walk_at"st"
   refine bU (by decide) fun y dC x5 hy hy5=>?_
   have ya:a≠y:=fun e=>by rw[<-e,a4]at hy;cases hy
   have yb:b≠y:=fun e=>by rw[<-e,b4]at hy;cases hy
   have yy:∀ c o,cC c=some o->c≠y:=fun c o e q=>by rw[q,hy]at e;cases e
   refine sH (k:=k) hs hn hm hc (by simp;omega) ya 1 (x5 _ _ a4) hy5 (by omega) (by omega) fun s2 fN i6 o6 d6 c6 k6 hi6 a6 y6=>?_
   have cs2:cnt s2=0:=by omega
   have b6:fN b=some (.lst [.int (l-1)]):=k6 b _ (by simp [dQ.symm,yb]) (x5 _ _ b4)
   have kk6:aZ [a,b] cC fN:=fun c o nc e=>k6 c o (by simp only[List.mem_cons,List.not_mem_nil,or_false,not_or]at nc ⊢;exact⟨nc.1,yy c o e⟩) (x5 _ _ e)
   walk_at"st"
   refine bU (by decide) fun u mM x7 hu hu7=>?_
   walk_at"ex"
   refine fL (k:=k+2) hn hm hc (x7 _ _ a6) hi6 (by omega) fun dM k8 a8=>?_
   have u8:dM u=some (.lst [.str (W "then"),.str (W "or"),.str (W "same")]):=k8 u _ (by
    intro z'
    simp only[List.mem_singleton]at z'
    rw[z',a6]at hu;cases hu) hu7
   have w0:=gM (ns:=ns) (k:=i6+1) (many:=3) (by omega)
   have w1:=gK (ns:=ns) (k:=i6+1) (many:=3) (by omega)
   generalize kE ns (i6+1) 3=w at w0 w1
   have b8:dM b=some (.lst [.int (l-1)]):=k8 b _ (by simpa using dQ.symm) (x7 _ _ b6)
   have kk8:aZ [a,b] st dM:=((((kk2.trans (k3.mono (by simp))).trans k4).trans kk6).trans x7.keep).trans (k8.mono (by simp))
   have fin:∀ W2',p2 W2'=false->aO (Sy.two W2' (.one .before s2) s)<=4->Q (toD (Sy.two W2' (.one .before s2) s)) dM:=fun W2' lA hdp=>by
    have hcn:cnt (Sy.two W2' (.one .before s2) s)=1:=by simp [cnt,lA,p1,cs,cs2]
    refine hQ _ dM (i6+1) ⟨o6,oY hfm s o1⟩ ?_ hdp (by rw[hcn];omega) kk8 (by omega) a8 (by rw[hcn];exact b8)
    simp only[fQ,oO hdis s o1,Bool.or_self]
   walk_at"ex"
   have hdp:∀ W2',aO (Sy.two W2' (.one .before s2) s)<=4:=fun W2'=>by simp only[aO];omega
   have hw:w=0∨w=1∨w=2:=by omega
   rcases hw with rfl|rfl|rfl
   ·rw[dF u8,yA,aX];exact fin .bA rfl (hdp _)
   ·rw[dF u8,SI,aX];exact fin .or rfl (hdp _)
   ·rw[dF u8,UZ,aX];exact fin .same rfl (hdp _)
  |false =>
   simp only[Bool.false_eq_true,if_false,aH]
   walk_at"st"
   exact base aU (i2+1) (k3.mono (by simp)) (by omega) a3 b3
 ·rw[if_neg hl0]
  (try rw[if_neg hl0])
  (try simp only[decide_eq_false hl0,Bool.false_eq_true,if_false])
  rw[aH]
  walk_at"st"
  exact base aG i2 .refl hi2 a2 b2
end
end L3
end
section
namespace L3
open PySem
theorem TC {fs gs:List (List Nat)}(h:tP fs gs=true):1<=fs.length/\fs.length<=2/\1<=gs.length/\gs.length<=2/\(fs++gs).Nodup/\∀ n∈fs++gs,n∈oE:=by
 simp only[tP,Bool.and_eq_true,decide_eq_true_eq,List.all_eq_true]at h
 obtain⟨⟨⟨⟨⟨a,b⟩,c⟩,d⟩,e⟩,f⟩:=h
 exact⟨a,b,c,d,e,fun n hn=>by simpa using f n hn⟩
theorem N8:∀ n∈oE,fB n=true:=by decide +kernel
noncomputable def eQ (l:List Sy):Nat:=(l.map cnt).sum
theorem tG (a b:List Sy):eQ (a++b)=eQ a+eQ b:=by simp [eQ]
theorem II (f:List Sy)(s:Sy):(eT f s).length<=f.length+(if bV s=true then 1 else 0):=by
 unfold eT
 cases h:bV s with
 |true=>simp only[Bool.true_and,if_true];split<;>simp
 |false=>simp
theorem zT:∀(s:Sy)(f:List Sy),(aK s f).length<=f.length+cnt s
 |.yes,f=>by simp [aK]
 |.no,f=>by simp [aK]
 |.cN _,f=>by simp [aK]
 |.one w s,f=>by
  have h1:=zT s (eT f (.one w s))
  have h2:=II f (.one w s)
  simp only[bV]at h2
  simp only[aK,cnt]
  cases h:p1 w<;>simp [h]at h2 ⊢<;>omega
 |.two w s t,f=>by
  have h1:=zT s (eT f (.two w s t))
  have h2:=II f (.two w s t)
  have h3:=zT t (aK s (eT f (.two w s t)))
  simp only[bV]at h2
  simp only[aK,cnt]
  cases h:p2 w<;>simp [h]at h2 ⊢<;>omega
theorem IU:∀(l f:List Sy),(cL l f).length<=f.length+eQ l
 |[],f=>by simp [cL,eQ]
 |s::l,f=>by
  have h1:=IU l (aK s f)
  have h2:=zT s f
  have:eQ (s::l)=cnt s+eQ l:=by simp [eQ]
  simp only[cL];omega
structure Lr (b:Bk)(pieces fS:Int):Prop where
 ok:b.Ok
 d4:∀ s∈b.says,aO s<=4
 ms:(b.ms.length:Int)<=fS
 cn:(eQ b.says:Int)<=pieces
 n8:∀ n∈b.names,n∈oE
noncomputable abbrev bσ (at_ pieces fS:Int)(ns:List Int)(fs gs:List (List Nat))(m lf wl:Nat)(sZ uT WH Qe:Option D):St:=[some (.bK (ns.map .int)),some (.int at_),some (.int pieces),some (.int fS),some (.ref m),some (.tup (fs.map .str)),some (.tup (gs.map .str)),some (.tup ((fs++gs).map .str)),some (.ref lf),some (.ref wl),sZ,uT,WH,Qe]
inductive WI (σ0:Option D->Option D->St)(names:List (List Nat))(m lf wl:Nat)(fN:aB)(lv v:Int)(rest:List Nat)(σ:St)(aA:aB):Prop
 |mk (j:Nat)(sZ uT:Option D)(i':Int)(ws:List (Int×Sy))(e1:rest=(List.range (1+v).toNat).drop j)(e2:σ=σ0 sZ uT)(q1:aZ [m,lf,wl] fN aA)(q2:0<=i')(q3:aA m=some (.lst [.int i']))(q4:aA lf=some (.lst [.int (lv-eQ (ws.map (·.2)))]))(q5:(eQ (ws.map (·.2)):Int)<=lv)(q6:aA wl=some (.lst (ws.map fun w:Int×Sy=>.tup [.int w.1,toD w.2])))(q7:ws.length=j)(q7':j<=(1+v).toNat)(q8:∀ w∈ws,1<=w.1/\w.1<=99/\over names w.2/\aO w.2<=3)
theorem Pr {a b c:Nat}{x:Int}(h:(a:Int)<=x)(h':(b:Int)<=x-a):((a+b:Nat):Int)<=x:=by omega
theorem Pd {a b:Nat}{x:Int}:x-(a:Int)-(b:Int)=x-((a+b:Nat):Int):=by omega
theorem V7 {b:Nat}{x:Int}(h:(b:Int)<=x):0<=x-(b:Int):=by omega
theorem draws {turn:D->aB->(Option D->aB->Prop)->Prop}{R:List D->aB->Prop}{m lf:Nat}{ok:Sy->Prop}{rN:aB}
 (ht:∀(x:D)(st:aB)(K:Option D->aB->Prop)(i c:Int),0<=i->0<=c->st m=some (.lst [.int i])->st lf=some (.lst [.int c])->(∀ s aA i',ok s->(cnt s:Int)<=c->aZ [m,lf] st aA->0<=i'->aA m=some (.lst [.int i'])->aA lf=some (.lst [.int (c-cnt s)])->K (some (toD s)) aA)->turn x st K):
 ∀(xs:List D)(ss:List Sy){st:aB}{i c:Int},0<=i->0<=c->st m=some (.lst [.int i])->st lf=some (.lst [.int c])->ss.length+xs.length<aY ->
  (∀ ss' aA i',(∀ s∈ss',ok s)->ss'.length=xs.length->(eQ ss':Int)<=c->aZ [m,lf] st aA->0<=i'->aA m=some (.lst [.int i'])->aA lf=some (.lst [.int (c-eQ ss')])->R ((ss++ss').map toD) aA) ->
  jI (same [] rN) turn xs (ss.map toD) st R
 |[],ss,st,i,c,hi,hc,hm,hl,hn,h=>⟨KA,by have q:=h [] st i (fun _ h=>nomatch h) rfl (by simpa [eQ]using hc) .refl hi hm (by simpa [eQ]using hl);rw[List.append_nil]at q;exact q⟩
 |x::xs,ss,st,i,c,hi,hc,hm,hl,hn,h=>⟨KA,by rw[List.length_map];simp only[List.length_cons]at hn;omega,ht x st _ i c hi hc hm hl fun s aA i' o1 o2 k1 hi' m1 l1=>by
 have q:=draws (rN:=rN) ht xs (ss++[s]) hi' (V7 o2) m1 l1 (by simp only[List.length_append,List.length_cons,List.length_nil]at hn ⊢;omega) (fun ss' aS i'' p1 p2 p3 p4 p5 p6 p7=>by
  have e:eQ (s::ss')=cnt s+eQ ss':=by simp [eQ]
  have z:=h (s::ss') aS i'' (fun s' gY=>by
  rcases List.mem_cons.mp gY with rfl|gY
  ·exact o1
  ·exact p1 s' gY) (by simp [p2]) (by rw[e];exact Pr (c:=0) o2 p3) (k1.trans p4) p5 p6 (by rw[e,<-Pd];exact p7)
  rw[List.append_assoc]
  exact z)
 rw[List.map_append]at q
 exact q⟩
section
variable {G:Prog}{k i inm ic im dD is ipr:Nat}{st:aB}{Q:VK}{E:XK}{ns:List Int}
theorem Bz {v:Int}{n:Int}(h0:0<=v)(h1:v<n)(hn:n<=4):eY v:=by unfold eY;omega
theorem VZ {v:Int}{n:Int}{a:Nat}(e:a=v.toNat)(h1:v<n)(hn:n<=4):a<=3:=by omega
theorem Qa {v n:Int}{a:Nat}(e:a=v.toNat)(h0:0<=v)(h1:v<n+1):(a:Int)<=n:=by omega
theorem Ph {a b c:Nat}{x y:Int}(h:(a:Int)<=x-c-b)(h':x<y+1):((a+b+c:Nat):Int)<=y:=by omega
theorem QA {a:Nat}(h:a<=3):a<=aY:=Nat.le_trans h (by decide)
theorem QZ (hp:G.fns ipr=some (AD is dD))(hs:G.fns is=some (nV dD is))(hn:G.fns dD=some (rV im))(hm:G.fns im=some (nB ic))(hc:G.fns ic=some oG){fs gs:List (List Nat)}(f1:0<fs.length)(fpos:0<(fs++gs).length)(hdis:∀ n∈fs,n∉gs){m lf wl:Nat}(mlf:m≠lf)(mwl:m≠wl)(lfwl:lf≠wl){at_ pieces fS i' c:Int}(hmu:0<=fS)(hmu3:fS<=3){ws:List (Int×Sy)}{sZ uT:Option D}(q2:0<=i')(q3:st m=some (.lst [.int i']))(q4:st lf=some (.lst [.int c]))(hc0:0<=c)(q6:st wl=some (.lst (ws.map fun w:Int×Sy=>.tup [.int w.1,toD w.2])))(hws:ws.length<=3)
 (hQ:∀ ps ms aA,(∀ s∈ms,over (fs++gs) s/\aO s<=3)->(ms.length:Int)<=fS->ms.length<=3->(∀ s∈ps,over (fs++gs) s/\aO s<=4/\fQ gs s=false)->ps.length<=3->(eQ ms:Int)<=c->(eQ ps:Int)<=c-eQ ms->aZ [m,lf] st aA->Q (Bk.d ⟨fs,gs,ps,ms,ws⟩) aA):
 cM (aN G (k+6)) G.sub ((AA inm dD is ipr).body.drop 6) ⟨fun _ aA=>Q .non aA,Q,fun _ _=>False,fun _ _=>False,fun c _ aA=>E c aA⟩ (bσ at_ pieces fS ns fs gs m lf wl sZ uT none none) st:=by
 simp only[AA,List.drop_succ_cons,List.drop_zero,bσ]
 walk_at"st"
 refine fL (k:=k+3) hn hm hc q3 q2 (by omega) fun mM k7 m7=>?_
 have V2:=gM (ns:=ns) (k:=i'+1) (many:=fS+1) (by omega)
 have V3:=gK (ns:=ns) (k:=i'+1) (many:=fS+1) (by omega)
 generalize kE ns (i'+1) (fS+1)=v2 at V2 V3
 walk_at"ex"
 have h4:fS+1<=4:=by omega
 refine⟨Bz V2 V3 h4,?_⟩
 have lf7:=k7 lf _ (by simpa using mlf.symm) q4
 have wl7:=k7 wl _ (by simpa using mwl.symm) q6
 refine draws (m:=m) (lf:=lf) (ok:=fun s=>over (fs++gs) s/\aO s<=3) (fun x aA K i c hi hc' h1 h2 hK=>?_) _ [] (by omega) hc0 m7 lf7 ?_ fun ms dM i8 z8 z7 z6 z2 z3 z4 z5=>?_
 ·exact sH (k:=k) hs hn hm hc fpos mlf 2 h1 h2 hi hc' fun s dM i8 o8 d8 c8 k8 hi8 m8 lf8=>hK s dM i8 ⟨o8,d8⟩ c8 k8 hi8 m8 lf8
 ·simp only[List.length_nil,gE,List.length_map,List.length_range];exact Nat.lt_of_le_of_lt (by rw[Nat.zero_add];exact VZ rfl V3 h4) (by decide)
 simp only[gE,List.length_map,List.length_range]at z7
 have m3:=VZ z7 V3 h4
 refine bU (by rw[List.nil_append,List.length_map];exact QA m3) fun ml rM x9 hml ml9=>?_
 walk_at"ex"
 have wl9:=x9 _ _ (z2 wl _ (by simp [mwl.symm,lfwl.symm]) wl7)
 walk_at"st"
 refine fL (k:=k+3) hn hm hc (x9 _ _ z4) z3 (by decide) fun sta ka ma=>?_
 have V4:=gM (ns:=ns) (k:=i8+1) (many:=2) (by decide)
 have V5:=gK (ns:=ns) (k:=i8+1) (many:=2) (by decide)
 generalize kE ns (i8+1) 2=v3 at V4 V5
 walk_at"ex"
 refine⟨Bz V4 V5 (by decide),?_⟩
 have mml:m≠ml:=fun z=>by rw[<-z,z4]at hml;cases hml
 have lfml:lf≠ml:=fun z=>by rw[<-z,z5]at hml;cases hml
 have lfa:=ka lf _ (by simpa using mlf.symm) (x9 _ _ z5)
 have wla:=ka wl _ (by simpa using mwl.symm) wl9
 have mla:=ka ml _ (by simpa using mml.symm) ml9
 refine draws (m:=m) (lf:=lf) (ok:=fun s=>over (fs++gs) s/\aO s<=4/\fQ gs s=false) (fun x aA K i c hi hc' h1 h2 hK=>?_) _ [] (by omega) (V7 z6) ma lfa ?_ fun ps stb ib y8 y7 y6 y2 y3 y4 y5=>?_
 ·exact YN (k:=k) hp hs hn hm hc f1 hdis mlf h1 h2 hi hc' fun s dM i8 o8 b8 d8 c8 k8 hi8 m8 lf8=>hK s dM i8 ⟨o8,d8,b8⟩ c8 k8 hi8 m8 lf8
 ·simp only[List.length_nil,gE,List.length_map,List.length_range];exact Nat.lt_of_le_of_lt (by rw[Nat.zero_add];exact VZ rfl V5 (by decide)) (by decide)
 simp only[gE,List.length_map,List.length_range]at y7
 have p3:=VZ y7 V5 (by decide)
 refine bU (by rw[List.nil_append,List.length_map];exact QA p3) fun pl stc xc eJ plc=>?_
 walk_at"ex"
 have wlc:=xc _ _ (y2 wl _ (by simp [mwl.symm,lfwl.symm]) wla)
 have mlc:=xc _ _ (y2 ml _ (by simp [mml.symm,lfml.symm]) mla)
 simp only[List.nil_append]at plc mlc
 walk_at"st"
 rw[aE plc]
 refine⟨by rw[List.length_map];exact QA p3,?_⟩
 rw[aE mlc]
 refine⟨by rw[List.length_map];exact QA m3,?_⟩
 rw[aE wlc]
 refine⟨by rw[List.length_map];exact QA hws,?_⟩
 refine hQ ps ms stc z8 (Qa z7 V2 V3) m3 y8 p3 z6 y6 fun a o ha e=>?_
 have ha':=ha
 simp only[List.mem_cons,List.not_mem_nil,or_false,not_or]at ha'
 have t7:=k7 a o (by simpa using ha'.1) e
 have t9:=ka a o (by simpa using ha'.1) (x9 _ _ (z2 a o ha t7))
 exact xc _ _ (y2 a o ha t9)
theorem XZ (h:G.fns i=some (AA inm dD is ipr))(jC:G.fns inm=some (DI dD))(hp:G.fns ipr=some (AD is dD))(hs:G.fns is=some (nV dD is))(hn:G.fns dD=some (rV im))(hm:G.fns im=some (nB ic))(hc:G.fns ic=some oG){at_ pieces fS:Int}(ha:0<=at_)(hpi:0<=pieces)(hmu:0<=fS)(hmu3:fS<=3)
  (hQ:∀ b aA,Lr b pieces fS->Ext st aA->Q b.d aA):aN G (k+7) i [.bK (ns.map .int),.int at_,.int pieces,.int fS] st Q E:=by
 have hL:aY=16777216:=rfl
 rw[aV h]
 simp only[AA,start]
 refine⟨rfl,?_⟩
 walk_at"st"
 refine bU (by show 1<=aY;decide) fun m aC x1 hm0 m1=>?_
 walk_at"st"
 refine UW (k:=k+2) jC hn hm hc m1 ha fun fs gs aG i2 cB k2 hi2 m2=>?_
 obtain⟨f1,f2,g1,g2,nd,n8⟩:=TC cB
 walk_at"ex"
 walk_at"st"
 refine⟨by simp only[List.length_map];omega,?_⟩
 have en:(fs.map D.str++gs.map D.str)=(fs++gs).map .str:=by simp
 rw[en]
 walk_at"st"
 refine fL (k:=k+3) hn hm hc m2 hi2 (by omega) fun aU k3 m3=>?_
 have L0:=gM (ns:=ns) (k:=i2+1) (many:=pieces+1) (by omega)
 have L1:=gK (ns:=ns) (k:=i2+1) (many:=pieces+1) (by omega)
 generalize kE ns (i2+1) (pieces+1)=lv at L0 L1
 refine bU (by show 1<=aY;decide) fun lf cC x4 hlf lf4=>?_
 have m4:=x4 _ _ m3
 have mlf:m≠lf:=fun z=>by rw[<-z,m3]at hlf;cases hlf
 have old3:∀ a o,st a=some o->aU a=some o:=fun a o e=>by
  have hma:a≠m:=fun z=>by rw[z,hm0]at e;cases e
  exact k3 a o (by simpa using hma) (k2 a o (by simpa using hma) (x1 _ _ e))
 have old4:∀ a o,st a=some o->cC a=some o/\a≠m/\a≠lf:=fun a o e=>⟨x4 _ _ (old3 a o e),fun z=>(by rw[z,hm0]at e;cases e),fun z=>(by rw[<-z,old3 a o e]at hlf;cases hlf)⟩
 walk_at"ex"
 walk_at"st"
 refine bU (by simp) fun wl dC x5 hwl wl5=>?_
 have m5:=x5 _ _ m4
 have lf5:=x5 _ _ lf4
 have mwl:m≠wl:=fun z=>by rw[<-z,m4]at hwl;cases hwl
 have lfwl:lf≠wl:=fun z=>by rw[<-z,lf4]at hwl;cases hwl
 have old5:∀ a o,st a=some o->dC a=some o/\a≠m/\a≠lf/\a≠wl:=fun a o e=>by
  obtain⟨q1,q2,q3⟩:=old4 a o e
  exact⟨x5 _ _ q1,q2,q3,fun z=>by rw[<-z,q1]at hwl;cases hwl⟩
 walk_at"ex"
 walk_at"st"
 refine fL (k:=k+3) hn hm hc m5 (by omega) (by omega) fun fN k6 m6=>?_
 have V0:=gM (ns:=ns) (k:=i2+1+1) (many:=3) (by omega)
 have V1:=gK (ns:=ns) (k:=i2+1+1) (many:=3) (by omega)
 generalize kE ns (i2+1+1) 3=v at V0 V1
 have lf6:=k6 lf _ (by simpa using mlf.symm) lf5
 have wl6:=k6 wl _ (by simpa using mwl.symm) wl5
 walk_at"ex"
 refine⟨by unfold eY;omega,?_⟩
 rw[sE]
 have hname:∀ n∈fs++gs,fB n=true:=fun n hn'=>N8 n (n8 n hn')
 have fpos:0<(fs++gs).length:=by simp;omega
 have hdis:∀ n∈fs,n∉gs:=fun n h1 h2=>by
  rw[List.nodup_append]at nd
  exact nd.2.2 n h1 n h2 rfl
 refine gO (fun j:Nat=>D.int (j:Nat)) (I:=WI (fun sZ uT=>bσ at_ pieces fS ns fs gs m lf wl sZ uT none none) (fs++gs) m lf wl fN lv v) (fun rest σ aA _ a ha=>?_) (fun x rest σ aA M ⟨j,sZ,uT,i',ws,e1,e2,q1,q2,q3,q4,q5,q6,q7,q7',q8⟩ hM=>?_) (fun σ aA ⟨j,sZ,uT,i',ws,e1,e2,q1,q2,q3,q4,q5,q6,q7,q7',q8⟩=>?_) _ _ _ ⟨0,none,none,i2+1+1,[],rfl,rfl,.refl,by omega,m6,by simpa [eQ]using lf6,by simp [eQ];omega,wl6,rfl,Nat.zero_le _,by simp⟩
 ·cases ha
 ·subst e2
  have hj:j<(List.range (1+v).toNat).length:=by
   by_cases z:j<(List.range (1+v).toNat).length
   ·exact z
   ·rw[List.drop_eq_nil_of_le (by omega)]at e1;cases e1
  rw[List.drop_eq_getElem_cons hj]at e1
  injection e1 with e3 e4
  simp only[List.length_range]at hj
  simp only[bσ]
  walk_at"st"
  refine bU (by decide) fun u mM x7 hu hu7=>?_
  walk_at"ex"
  refine fL (k:=k+3) hn hm hc (x7 _ _ q3) q2 (by omega) fun dM k8 m8=>?_
  have um:u≠m:=fun z=>by rw[z,q3]at hu;cases hu
  have u8:=k8 u _ (by simpa using um) hu7
  have w0:=gM (ns:=ns) (k:=i'+1) (many:=3) (by omega)
  have w1:=gK (ns:=ns) (k:=i'+1) (many:=3) (by omega)
  generalize kE ns (i'+1) 3=w at w0 w1
  have hpr:∃ c:Int,0<c/\c<=99/\fV [D.int 3,D.int 9,D.int 99] w=some (.int c):=by
   have hw:w=0∨w=1∨w=2:=by omega
   rcases hw with rfl|rfl|rfl
   ·exact⟨3,by decide,by decide,yA⟩
   ·exact⟨9,by decide,by decide,SI⟩
   ·exact⟨99,by decide,by decide,UZ⟩
  obtain⟨c,V7,c99,hc'⟩:=hpr
  rw[dF u8,hc',aX]
  refine fL (k:=k+3) hn hm hc m8 (by omega) V7 fun rM k9 m9=>?_
  have y0:=gM (ns:=ns) (k:=i'+1+1) (many:=c) (by omega)
  have y1:=gK (ns:=ns) (k:=i'+1+1) (many:=c) (by omega)
  generalize kE ns (i'+1+1) c=y at y0 y1
  walk_at"ex"
  have kk9:aZ [m,lf,wl] aA rM:=(x7.keep.trans (k8.mono (by simp))).trans (k9.mono (by simp))
  have lf9:rM lf=some (.lst [.int (lv-eQ (ws.map (·.2)))]):=k9 lf _ (by simpa using mlf.symm) (k8 lf _ (by simpa using mlf.symm) (x7 _ _ q4))
  have wl9:rM wl=some (.lst (ws.map fun w:Int×Sy=>.tup [.int w.1,toD w.2])):=k9 wl _ (by simpa using mwl.symm) (k8 wl _ (by simpa using mwl.symm) (x7 _ _ q6))
  walk_at"st"
  rw[aE wl9]
  refine⟨True.intro,?_⟩
  refine sH (k:=k) hs hn hm hc fpos mlf 2 m9 lf9 (by omega) (by omega) fun s K3 i10 o10' d10 c10 k10 hi10 m10 lf10=>?_
  have wl10:=k10 wl _ (by simp [mwl.symm,lfwl.symm]) wl9
  walk_at"ex"
  rw[aE wl10]
  refine⟨by simp only[List.length_map];omega,?_⟩
  simp only[aH]
  have ec:eQ ((ws++[(1+y,s)]).map (·.2))=eQ (ws.map (·.2))+cnt s:=by rw[List.map_append,tG];simp [eQ]
  refine hM _ _ ⟨j+1,_,_,i10,ws++[(1+y,s)],e4,rfl,?_,hi10,?_,?_,?_,?_,by simp [q7],by omega,fun w' hw'=>?_⟩
  ·intro a o na e
   simp only[List.mem_cons,List.not_mem_nil,or_false,not_or]at na
   rw[aJ na.2.2]
   exact k10 a o (by simp [na]) (kk9 a o (by simp [na]) (q1 a o (by simp [na]) e))
  ·rw[aJ mwl];exact m10
  ·rw[aJ lfwl,lf10,ec];simp;omega
  ·rw[ec];simp;omega
  ·rw[aM];simp
  ·rcases List.mem_append.mp hw' with hw'|hw'
   ·exact q8 w' hw'
   ·simp only[List.mem_singleton]at hw';subst hw'
    exact⟨by show 1<=1+y;omega,by show 1+y<=99;omega,o10',d10⟩
 ·-- fS
  subst e2
  have hj:(1+v).toNat<=j:=by
   by_cases z:j<(List.range (1+v).toNat).length
   ·rw[List.drop_eq_getElem_cons z]at e1;cases e1
   ·simpa using z
  have hws:ws.length<=3:=by omega
  refine QZ (k:=k) (inm:=inm) hp hs hn hm hc (by omega) fpos hdis mlf mwl lfwl hmu hmu3 q2 q3 q4 (by omega) q6 hws fun ps ms dM z8 z7 m3 y8 p3 z6 y6 z2=>?_
  have w1:1<=ws.length:=by omega
  refine hQ ⟨fs,gs,ps,ms,ws⟩ dM ⟨⟨f1,f2,g1,g2,nd,hname,p3,fun s gY=>⟨(y8 s gY).1,Nat.le_trans (y8 s gY).2.1 (by decide)⟩,fun s gY=>(y8 s gY).2.2,m3,fun s gY=>⟨(z8 s gY).1,Nat.le_trans (z8 s gY).2 (by decide)⟩,w1,Nat.le_trans hws (by decide),fun w hw=>⟨(q8 w hw).1,(q8 w hw).2.1,(q8 w hw).2.2.1,Nat.le_trans (q8 w hw).2.2.2 (by decide)⟩⟩,fun s gY=>?_,z7,?_,n8⟩ fun a o e=>?_
  ·simp only[Bk.says,List.mem_append,List.mem_map]at gY
   rcases gY with(gY|gY)|⟨w,hw,rfl⟩
   ·exact(y8 s gY).2.1
   ·exact Nat.le_trans (z8 s gY).2 (by decide)
   ·exact Nat.le_trans (q8 w hw).2.2.2 (by decide)
  ·show((eQ (ps++ms++ws.map (·.2)):Nat):Int)<=pieces
   rw[tG,tG]
   exact Ph y6 L1
  ·obtain⟨s1,s2,s3,s4⟩:=old5 a o e
   have t6:=k6 a o (by simpa using s2) s1
   exact z2 a o (by simp [s2,s3]) (q1 a o (by simp [s2,s3,s4]) t6)
end
end L3
end
section
namespace L3
open PySem
theorem QY {n:Nat}:∀(l:List Sy),(∀ s∈l,aO s<=4)->fX l<=l.length*15
 |[],_=>by simp [fX]
 |s::l,h=>by
  have h1:=G9 s
  have h2:=h s (by simp)
  have h3:=QY (n:=n) l fun x hx=>h x (by simp [hx])
  have h4:2 ^ aO s<=2 ^ 4:=Nat.pow_le_pow_right (by decide) h2
  rw[jK]
  simp only[List.length_cons]
  omega
theorem FL {names:List (List Nat)}{f:List Sy}{s:Sy}(hf:∀ x∈f,over names x)(hs:over names s):∀ x∈eT f s,over names x:=by
 unfold eT;split
 ·intro x hx
  rcases List.mem_append.mp hx with hx|hx
  ·exact hf x hx
  ·simp only[List.mem_singleton]at hx;subst hx;exact hs
 ·exact hf
theorem vX {names:List (List Nat)}:∀(s:Sy){f:List Sy},(∀ x∈f,over names x)->over names s->∀ x∈aK s f,over names x
 |.yes,_,hf,_=>hf
 |.no,_,hf,_=>hf
 |.cN _,_,hf,_=>hf
 |.one w s,_,hf,hs=>vX s (FL hf hs) hs
 |.two w s t,_,hf,hs=>vX t (vX s (FL hf hs) hs.1) hs.2
theorem GF {names:List (List Nat)}:∀(l:List Sy){f:List Sy},(∀ x∈f,over names x)->(∀ s∈l,over names s)->∀ x∈cL l f,over names x
 |[],_,hf,_=>hf
 |s::l,_,hf,hl=>GF l (vX s hf (hl s (by simp))) fun x hx=>hl x (by simp [hx])
section
variable {G:Prog}{k il ibo ipl imb ilm inm ic im dD is ipr ibk ich icp ist ie iw ipo iz irr iti io iri ima lC iph inh ibp ip ih:Nat}{st:aB}{E:XK}{ns:List Int}
theorem O7 {b:Bk}{pieces fS:Int}(DR:Lr b pieces fS)(hp:pieces<=4):fX b.says<=200/\(∀ x∈b.says,aO x<=60)/\(cL b.says []).length<=4/\∀ s∈cL b.says [],over b.names s/\aO s<=8:=by
 have p1:=DR.ok.p1
 have m1:=DR.ok.m1
 have w2:=DR.ok.w2
 have hl:b.says.length<=11:=by simp [Bk.says];omega
 refine⟨?_,fun x hx=>by have:=DR.d4 x hx;omega,?_,fun s hs=>⟨GF b.says (by simp) (fun s hs=>(M3 DR.ok s hs).1) s hs,vB b.says (n:=8) (by simp) (fun x hx=>by have:=DR.d4 x hx;omega) s hs⟩⟩
 ·have:=QY (n:=0) b.says DR.d4;omega
 ·have:=IU b.says []
  have h2:=DR.cn
  simp at this;omega
end
end L3
end
section
namespace L3
open PySem
noncomputable def wH:Fn:=⟨1,5,[.asg (.nm 1) (.lst [(.tup [])]),.iB (.nm 2) (some .range) [(.bi .len [(.v 0)])] [.asg (.nm 3) (.lst []),.iB (.nm 4) none [(.v 1)] [.ex (.cI .append (.v 3) [(.bin .add (.v 4) (.tup [(.c (.bl false))]))]),.ex (.cI .append (.v 3) [(.bin .add (.v 4) (.tup [(.c (.bl true))]))])],.asg (.nm 1) (.v 3)],.ret (.v 1)]⟩
noncomputable def CN:Fn:=⟨2,2,[.ret (.bi .all [(.comp 1 [1] [0] true none [(.fld (W "Rules") (W "promise_rows") (.v 0))] [] (.ix (.v 1) (.v 0)))])]⟩
noncomputable def C8:Fn:=⟨2,2,[.ret (.bi .all [(.comp 1 [1] [0] true none [(.fld (W "Rules") (W "must_rows") (.v 0))] [] (.ix (.v 1) (.v 0)))])]⟩
noncomputable def zR:Fn:=⟨2,2,[.ret (.bi .sum [(.comp 2 [1] [0,1] false none [(.fld (W "Rules") (W "priced_rows") (.v 0))] [(.not_ (.ix (.v 2) (.v 1)))] (.v 0))])]⟩
noncomputable def C2:Fn:=⟨2,2,[.asg (.fl (W "Numbering") (W "met") (.v 0)) (.lst [(.v 1)]),.asg (.fl (W "Numbering") (W "numbers_met") (.v 0)) (.d1 (.v 1) (.c (.int 0)))]⟩
noncomputable def AI:Fn:=⟨2,2,[.iff (.din true (.v 1) (.fld (W "Numbering") (W "numbers_met") (.v 0))) [.asg (.dk (.fld (W "Numbering") (W "numbers_met") (.v 0)) (.v 1)) (.bi .len [(.fld (W "Numbering") (W "met") (.v 0))]),.ex (.cI .append (.fld (W "Numbering") (W "met") (.v 0)) [(.v 1)])] [],.ret (.dix (.fld (W "Numbering") (W "numbers_met") (.v 0)) (.v 1))]⟩
noncomputable def cZ:Nat->List (List Bool)
 |0=>[[]]
 |n+1=>(cZ n).flatMap fun r=>[r++[false],r++[true]]
noncomputable def vm (names:List (List Nat))(aK:List Sy)(m set:List Bool):Sy->Bool
 |.yes=>true
 |.no=>false
 |.cN n=>(set[names.idxOf n]?).getD false
 |.one w s=>if p1 w=true then lO (.one w s) ((m[aK.idxOf (.one w s)]?).getD false) [vm names aK m set s]else qH (.one w s) [vm names aK m set s]
 |.two w s t=>if p2 w=true then lO (.two w s t) ((m[aK.idxOf (.two w s t)]?).getD false) [vm names aK m set s,vm names aK m set t]else qH (.two w s t) [vm names aK m set s,vm names aK m set t]
theorem YS {names:List (List Nat)}{aK:List Sy}{m set:List Bool}{s:Sy}(h:bV s=true):vm names aK m set s=lO s ((m[aK.idxOf s]?).getD false) ((subs s).map (vm names aK m set)):=by
 cases s with
 |one w a=>simp only[bV]at h;simp only[vm,h,if_true,subs,List.map_cons,List.map_nil]
 |two w a b=>simp only[bV]at h;simp only[vm,h,if_true,subs,List.map_cons,List.map_nil]
 |_=>cases h
theorem Ff {names:List (List Nat)}{aK:List Sy}{m set:List Bool}{s:Sy}(h:bV s=false)(hl:gD s=false):vm names aK m set s=qH s ((subs s).map (vm names aK m set)):=by
 cases s with
 |one w a=>simp only[bV]at h;simp only[vm,h,Bool.false_eq_true,if_false,subs,List.map_cons,List.map_nil]
 |two w a b=>simp only[bV]at h;simp only[vm,h,Bool.false_eq_true,if_false,subs,List.map_cons,List.map_nil]
 |cN n=>cases hl
 |_=>rfl
theorem rC:∀(n:Nat)(r:List Bool),r∈cZ n->r.length=n
 |0,r,h=>by simp [cZ]at h;subst h;rfl
 |n+1,r,h=>by
  simp only[cZ,List.mem_flatMap,List.mem_cons,List.not_mem_nil,or_false]at h
  obtain⟨q,hq,h|h⟩:=h<;>(subst h;simp [rC n q hq])
theorem J7:∀(n:Nat)(r:List Bool),r.length=n->r∈cZ n
 |0,r,h=>by simp at h;subst h;simp [cZ]
 |n+1,r,h=>by
  simp only[cZ,List.mem_flatMap,List.mem_cons,List.not_mem_nil,or_false]
  have hr:r≠[]:=by intro z;rw[z]at h;cases h
  refine⟨r.dropLast,J7 n _ (by simp [h]),?_⟩
  have:=List.dropLast_concat_getLast hr
  cases hb:r.getLast hr with
  |false=>rw[hb]at this;exact .inl this.symm
  |true=>rw[hb]at this;exact .inr this.symm
theorem mL:∀ n:Nat,(cZ n).length=2 ^ n
 |0=>rfl
 |n+1=>by
  have h:=mL n
  simp only[cZ]
  have:∀ l:List (List Bool),(l.flatMap fun r=>[r++[false],r++[true]]).length=2*l.length:=fun l=>by
   induction l with
   |nil=>rfl
   |cons a l ih=>simp only[List.flatMap_cons,List.length_append,ih,List.length_cons,List.length_nil];omega
  rw[this,h,Nat.pow_succ];omega
theorem GN:∀ n:Nat,∃ r,cZ n=List.replicate n false::r
 |0=>⟨[],rfl⟩
 |n+1=>by
  obtain⟨r,e⟩:=GN n
  refine⟨(List.replicate n false++[true])::r.flatMap (fun r=>[r++[false],r++[true]]),?_⟩
  simp only[cZ,e,List.flatMap_cons,List.cons_append,List.nil_append]
  rw[List.replicate_succ']
theorem P4 {α:Type}[DecidableEq α]:∀(l u:List α),l.Nodup->(∀ x∈l,x∈u)->l.length<=u.length
 |[],u,_,_=>Nat.zero_le _
 |x::l,u,nd,h=>by
  have hx:=h x (by simp)
  have nd':=List.nodup_cons.mp nd
  have ih:=P4 l (u.erase x) nd'.2 fun y hy=>by
   have hne:y≠x:=fun e=>nd'.1 (e▸hy)
   exact(List.mem_erase_of_ne hne).mpr (h y (by simp [hy]))
  rw[List.length_erase_of_mem hx]at ih
  have:0<u.length:=List.length_pos_of_mem hx
  simp only[List.length_cons];omega
inductive Mb (N:Nat)(hd:Option D)(st:aB)(rest:List Nat)(σ:St)(aA:aB):Prop
 |mk (t q:Nat)(o2 o3 o4:Option D)(e0:t<=N)(e1:rest=(List.range N).drop t)(e2:σ=[hd,some (.ref q),o2,o3,o4])(hq:st q=none)(x3:Ext st aA)(e5:aA q=some (.lst ((cZ t).map bN)))
inductive Ol (t:Nat)(hd:Option D)(q x u:Nat)(cC:aB)(O0:List (List Bool))(σ:St)(dC:aB):Prop
 |mk (dn:List (List Bool))(o4:Option D)(f1:cZ t=dn++O0)(f2:σ=[hd,some (.ref q),some (.int (x:Nat)),some (.ref u),o4])(f3:aZ [u] cC dC)(f4:dC u=some (.lst ((dn.flatMap fun r=>[r++[false],r++[true]]).map bN)))
theorem Hx (l:List (List Bool)):(l.flatMap fun r=>[r++[false],r++[true]]).length=2*l.length:=by
 induction l with
 |nil=>rfl
 |cons a l ih=>simp only[List.flatMap_cons,List.length_append,ih,List.length_cons,List.length_nil];omega
theorem EE {t:Nat}(h:t<=4):(cZ t).length<=16:=by
 rw[mL];exact Nat.pow_le_pow_right (n:=2) (by decide) h
theorem drop_cons {N t x:Nat}{rest:List Nat}(h:x::rest=(List.range N).drop t):t<N/\rest=(List.range N).drop (t+1):=by
 have ht:t<(List.range N).length:=by
  by_cases z:t<(List.range N).length
  ·exact z
  ·rw[List.drop_eq_nil_of_le (by omega)]at h;cases h
 rw[List.drop_eq_getElem_cons ht]at h
 injection h with _ h
 exact⟨by simpa using ht,h⟩
theorem drop_nil {N t:Nat}(h:[]=(List.range N).drop t):N<=t:=by
 by_cases z:t<(List.range N).length
 ·rw[List.drop_eq_getElem_cons z]at h;cases h
 ·simpa using z
theorem YM {l dn r:List (List Bool)}{n:Nat}(e:l=dn++r)(h:l.length<=n):dn.length<=n:=by
 rw[e,List.length_append]at h;omega
section
variable {G:Prog}{k i:Nat}{st:aB}{Q:VK}{E:XK}
theorem EG (h:G.fns i=some wH){ds:List D}(hd:ds.length<=4)(hQ:∀ p aA,st p=none->Ext st aA->aA p=some (.lst ((cZ ds.length).map bN))->Q (.ref p) aA):aN G (k+1) i [.tup ds] st Q E:=by
 have hL:aY=16777216:=rfl
 rw[aV h]
 simp only[wH,start]
 refine⟨rfl,?_⟩
 walk_at"st"
 refine bU (by show 1<=aY;decide) fun p aC x1 hp hp1=>?_
 walk_at"st"
 refine⟨by unfold eY;omega,?_⟩
 rw[show((ds.length:Int)).toNat=ds.length by omega,sE]
 have p1:aC p=some (.lst ((cZ 0).map bN)):=hp1
 refine gO (fun j:Nat=>D.int (j:Nat)) (I:=Mb ds.length (some (.tup ds)) st) (fun rest σ aA _ a ha=>?_) (fun x rest σ aA M I hM=>?_) (fun σ aA I=>?_) _ _ _ ⟨0,p,none,none,none,Nat.zero_le _,rfl,rfl,hp,x1,p1⟩
 ·cases ha
 ·obtain⟨t,q,o2,o3,o4,e0,e1,e2,hq,x3,e5⟩:=I
  subst e2
  obtain⟨ht,e4⟩:=drop_cons e1
  have iU:(cZ t).length<=16:=EE (by omega)
  clear e1
  walk_at"st"
  refine bU (by simp) fun u cC x4 hu hu4=>?_
  have qu:q≠u:=fun z=>by rw[<-z,e5]at hu;cases hu
  walk_at"st"
  rw[aE (x4 _ _ e5)]
  refine gO bN (I:=Ol t (some (.tup ds)) q x u cC) (fun O0 σ dC J=>?_) (fun y O0 σ dC M2 J hM2=>?_) (fun σ dC J=>?_) _ _ _ ⟨[],o4,rfl,rfl,.refl,hu4⟩
  ·obtain⟨dn,o4,f1,f2,f3,f4⟩:=J
   intro a ha
   simp only[List.mem_singleton]at ha
   subst ha
   rw[x4 _ _ e5,f3 _ _ (by simpa using qu) (x4 _ _ e5)]
  ·obtain⟨dn,o4,f1,f2,f3,f4⟩:=J
   subst f2
   have hl:(dn.flatMap fun r=>[r++[false],r++[true]]).length<=40:=by have:=YM f1 iU;rw[Hx];omega
   have hyl:y.length=t:=rC t y (by rw[f1];simp)
   simp only[bN]
   walk_at"st"
   rw[aE f4]
   refine⟨True.intro,by simp only[List.length_map];omega,?_⟩
   rw[aE f4]
   refine⟨by simp only[List.length_map];omega,?_⟩
   walk_at"st"
   rw[aE aM]
   refine⟨True.intro,by simp only[List.length_map];omega,?_⟩
   rw[aE aM]
   refine⟨by simp only[List.length_map,List.length_append,List.length_cons,List.length_nil];omega,?_⟩
   simp only[aH]
   rw[X2]
   refine hM2 _ _ ⟨dn++[y],_,by simp [f1],rfl,fun a o na e=>by rw[aJ (by simpa using na)];exact f3 a o na e,?_⟩
   rw[aM]
   simp [bN,List.flatMap_append]
  ·obtain⟨dn,o4,f1,f2,f3,f4⟩:=J
   subst f2
   rw[List.append_nil]at f1
   walk_at"st"
   simp only[aH]
   refine hM _ dC ⟨t+1,u,_,_,_,by omega,e4,rfl,?_,fun a o e=>f3 a o (fun z=>?_) (x4 _ _ (x3 _ _ e)),?_⟩
   ·cases hz:st u with
    |none=>rfl
    |some o=>rw[x3 _ _ hz]at hu;cases hu
   ·simp only[List.mem_singleton]at z
    rw[z]at e
    rw[x3 _ _ e]at hu;cases hu
   ·rw[f4,<-f1];rfl
 ·obtain⟨t,q,o2,o3,o4,e0,e1,e2,hq,x3,e5⟩:=I
  subst e2
  have ht:=drop_nil e1
  have et:t=ds.length:=by omega
  subst et
  walk_at"st"
  exact hQ q aA hq x3 e5
end
end L3
end
section
namespace L3
open PySem
noncomputable def iT (ss:List Sy)(V:Sy->Bool):Bool:=ss.all V
noncomputable def OH (ws:List (Int×Sy))(V:Sy->Bool):Int:=((ws.filter fun w=>!V w.2).map (·.1)).sum
noncomputable def HM (l d:Nat):List (List Nat×D):=[(W "met", .ref l),(W "numbers_met", .ref d)]
structure lP (st:aB)(n l d:Nat)(met:List (List Bool)):Prop where
 ins:st n=some (.ins (W "Numbering") (HM l d))
 dic:st d=some (.tab (met.map bN) (sC met.length))
 met:st l=some (.lst (met.map bN))
theorem rR {p l1 l2 l3:Nat}:bS (sT p l1 l2 l3) (W "table")=some (.ref p):=by simp only[sT,bS];rw[if_pos True.intro]
theorem Bb {p l1 l2 l3:Nat}:bS (sT p l1 l2 l3) (W "promise_rows")=some (.ref l1):=by simp only[sT,bS];rw[if_neg (by decide +kernel),if_pos True.intro]
theorem Ed {p l1 l2 l3:Nat}:bS (sT p l1 l2 l3) (W "must_rows")=some (.ref l2):=by simp only[sT,bS];rw[if_neg (by decide +kernel),if_neg (by decide +kernel),if_pos True.intro]
theorem Ad {p l1 l2 l3:Nat}:bS (sT p l1 l2 l3) (W "priced_rows")=some (.ref l3):=by simp only[sT,bS];rw[if_neg (by decide +kernel),if_neg (by decide +kernel),if_neg (by decide +kernel),if_pos True.intro]
theorem HD {p l1 l2 l3:Nat}{f:List Nat}(h1:W "table" ≠ f)(h2:W "promise_rows" ≠ f)(h3:W "must_rows" ≠ f)(h4:W "priced_rows" ≠ f):bS (sT p l1 l2 l3) f=none:=by
 simp only[sT,bS];rw[if_neg h1,if_neg h2,if_neg h3,if_neg h4]
theorem zS {l d:Nat}:bS (HM l d) (W "met")=some (.ref l):=by simp only[HM,bS];rw[if_pos True.intro]
theorem DV {l d:Nat}:bS (HM l d) (W "numbers_met")=some (.ref d):=by simp only[HM,bS];rw[if_neg (by decide +kernel),if_pos True.intro]
theorem Bu {l d:Nat}{f:List Nat}(h1:W "met" ≠ f)(h2:W "numbers_met" ≠ f):bS (HM l d) f=none:=by simp only[HM,bS];rw[if_neg h1,if_neg h2]
theorem ZE {st:aB}(a b:List Bool):bR st (bN a) (bN b)=decide (a=b):=by
 rw[JX _ _ (vS a)]
 simp only[bN,bI]
 induction a generalizing b with
 |nil=>cases b<;>simp [fG]
 |cons x a ih =>
 cases b with
 |nil=>simp [fG]
 |cons y b =>
  simp only[List.map_cons,fG,bI,ih,List.cons.injEq]
  by_cases h1:x=y<;>by_cases h2:a=b<;>simp [h1,h2]
theorem LS (a b:List Bool):bI (bN a) (bN b)=decide (a=b):=(JX (st:=fun _=>none) _ _ (vS a)).symm.trans (ZE a b)
theorem J1 (m:List Bool)(met:List (List Bool)):((met.map bN).any fun k=>bI k (bN m))=met.contains m:=by
 induction met with
 |nil=>rfl
 |cons x met ih =>
 simp only[List.map_cons,List.any_cons,LS,ih,List.contains_cons]
 congr 1
 by_cases h:x=m
 ·subst h;simp
 ·rw[decide_eq_false h];exact(beq_eq_false_iff_ne.mpr fun z=>h z.symm).symm
theorem rO (m:List Bool):keyed (bN m):=by
 refine⟨?_,?_⟩
 ·induction m with
  |nil=>rfl
  |cons a l ih=>simp only[List.map_cons,iP,iL,Bool.true_and];exact ih
 ·have:cJ (m.map D.bl)=0:=by
   induction m with
   |nil=>rfl
   |cons a l ih=>simp only[List.map_cons,cJ,cH,ih];rfl
  omega
theorem HR {m:List Bool}:∀{met:List (List Bool)}{vs:List D}{d:D},m∈met->vs.length=met.length->vs[met.idxOf m]? = some d->kA (met.map bN) vs (bN m)=some d
 |[],_,_,h,_,_=>by cases h
 |x::r,[],_,_,h,_=>by simp at h
 |x::r,v::vs,d,h,hl,hv=>by
  simp only[List.map_cons,kA,LS]
  by_cases e:x=m
  ·subst e
   simp [List.idxOf_cons]at hv
   simp [hv]
  ·rw[if_neg (by simpa using e)]
   rw[List.idxOf_cons,beq_eq_false_iff_ne.mpr e]at hv
   exact HR (by simpa [Ne.symm e]using h) (by simpa using hl) (by simpa using hv)
noncomputable def kD (met:List (List Bool))(m:List Bool):List (List Bool):=if met.contains m then met else met++[m]
theorem BG (met:List (List Bool))(m:List Bool):m∈kD met m:=by
 unfold kD;split
 ·rename_i h;simpa using h
 ·simp
section
variable {G:Prog}{k i:Nat}{st:aB}{Q:VK}{E:XK}{b:Bk}{r p l1 l2 l3:Nat}{R:List Sy}{V:Sy->Bool}{q:Nat}
theorem QG (hR:∀ s∈R,True){s:Sy}(hs:s∈R)(hq:st q=some (.lst (R.map fun s=>.bl (V s)))){Q':VK}:mH (.ref q) (.int (R.idxOf s:Nat)) st Q'=Q' (.bl (V s)) st:=by
 have dP:=List.idxOf_lt_length_iff.mpr hs
 rw[dF hq,eI (by simpa using dP),List.getElem?_map,List.getElem?_eq_getElem dP]
 simp [cS]
theorem GO {f:List Nat}{l:Nat}{ss:List Sy}(h:G.fns i=some ⟨2,2,[.ret (.bi .all [(.comp 1 [1] [0] true none [(.fld (W "Rules") f (.v 0))] [] (.ix (.v 1) (.v 0)))])]⟩)(T:iC st r p l1 l2 l3 b R)(hf:bS (sT p l1 l2 l3) f=some (.ref l))(hl:st l=some (.lst (ss.map fun s=>.int (R.idxOf s:Nat))))(hss:∀ s∈ss,s∈R)(hn:ss.length<=1000)(hq:st q=some (.lst (R.map fun s=>.bl (V s))))
  (hQ:∀ aA,Ext st aA->Q (.bl (iT ss V)) aA):aN G (k+1) i [.ref r,.ref q] st Q E:=by
 have hL:aY=16777216:=rfl
 rw[aV h]
 simp only[start]
 refine⟨rfl,?_⟩
 walk_at"st"
 rw[cP T.ins hf,lU,aE hl]
 refine dS (fun s:Sy=>D.int (R.idxOf s:Nat)) (fun s=>.bl (V s)) ss [] st (fun aS y a ha=>?_) (fun s hs aS K y1 hK=>?_) (by simp only[List.length_nil];omega) fun aG y2=>?_
 ·simp only[List.mem_singleton]at ha
  subst ha
  rw[hl,y _ _ hl]
 ·show mH _ _ aS _
  rw[QG (fun _ _=>trivial) (hss s hs) (y1 _ _ hq)]
  exact hK aS .refl
 rw[List.nil_append]
 refine bU (by simp only[List.length_map];omega) fun pp aU y3 hpp pM=>?_
 walk_at"ex"
 rw[aE pM,oA,aX,List.all_map]
 exact hQ aU (y2.trans y3)
theorem Y4 (h:G.fns i=some CN)(T:iC st r p l1 l2 l3 b R)(B:b.Ok)(hq:st q=some (.lst (R.map fun s=>.bl (V s))))(hQ:∀ aA,Ext st aA->Q (.bl (iT b.ps V)) aA):aN G (k+1) i [.ref r,.ref q] st Q E :=
 GO h T Bb T.pr (fun s hs=>T.all s (by simp [Bk.says,hs])) (by have:=B.p1;omega) hq hQ
theorem Y5 (h:G.fns i=some C8)(T:iC st r p l1 l2 l3 b R)(B:b.Ok)(hq:st q=some (.lst (R.map fun s=>.bl (V s))))(hQ:∀ aA,Ext st aA->Q (.bl (iT b.ms V)) aA):aN G (k+1) i [.ref r,.ref q] st Q E :=
 GO h T Ed T.mu (fun s hs=>T.all s (by simp [Bk.says,hs])) (by have:=B.m1;omega) hq hQ
theorem S2 (V:Sy->Bool)(ws:List (Int×Sy)):intsOf (ws.filterMap fun w=>if(!V w.2)=true then some (D.int w.1)else none)=some ((ws.filter fun w=>!V w.2).map (·.1)):=by
 induction ws with
 |nil=>rfl
 |cons w ws ih =>
 cases hv:V w.2 with
 |true=>simp [List.filterMap_cons,List.filter_cons,hv]at ih ⊢;exact ih
 |false =>
  simp only[List.filterMap_cons,List.filter_cons,hv,Bool.not_false,if_true,intsOf,List.map_cons]
  rw[ih];rfl
theorem ZD (h:G.fns i=some zR)(T:iC st r p l1 l2 l3 b R)(B:b.Ok)(hq:st q=some (.lst (R.map fun s=>.bl (V s))))(hQ:∀ aA,Ext st aA->Q (.int (OH b.ws V)) aA):aN G (k+1) i [.ref r,.ref q] st Q E:=by
 have hL:aY=16777216:=rfl
 have w2:=B.w2
 rw[aV h]
 simp only[zR,start]
 refine⟨rfl,?_⟩
 walk_at"st"
 rw[cP T.ins Ad,lU,aE T.wi]
 refine kF (fun w:Int×Sy=>D.tup [.int w.1,.int (R.idxOf w.2:Nat)]) (fun w=>if(!V w.2)=true then some (D.int w.1)else none) b.ws [] st (fun aS y a ha=>?_) (fun w hw aS K y1 hK=>?_) (by simp only[List.length_nil];omega) fun aG y2=>?_
 ·simp only[List.mem_singleton]at ha
  subst ha
  rw[T.wi,y _ _ T.wi]
 ·have hs:w.2∈R:=T.all w.2 (by simp only[Bk.says,List.mem_append,List.mem_map];exact .inr ⟨w,hw,rfl⟩)
  walk_at"ex"
  rw[QG (fun _ _=>trivial) hs (y1 _ _ hq)]
  walk_at"ex"
  have:=hK aS .refl
  cases hv:V w.2 with
  |true=>simpa [hv]using this
  |false=>simpa [hv]using this
 rw[List.nil_append]
 refine bU (by have:=List.length_filterMap_le (fun w:Int×Sy=>if(!V w.2)=true then some (D.int w.1)else none) b.ws;omega) fun pp aU y3 hpp pM=>?_
 walk_at"ex"
 rw[aE pM,S2,aX]
 exact hQ aU (y2.trans y3)
theorem XB (h:G.fns i=some C2){n:Nat}{m:List Bool}(hn:st n=some (.ins (W "Numbering") []))(hQ:∀ aA l d,st l=none->st d=none->aZ [n] st aA->lP aA n l d [m]->Q .non aA):aN G (k+1) i [.ref n,bN m] st Q E:=by
 rw[aV h]
 simp only[C2,start]
 refine⟨rfl,?_⟩
 walk_at"st"
 refine bU (by show 1<=aY;decide) fun l aC x1 hl hl1=>?_
 walk_at"ex"
 rw[lN (x1 _ _ hn) (by simp),gC rfl]
 have nl:l≠n:=fun z=>by rw[z,hn]at hl;cases hl
 walk_at"st"
 rw[Mx]
 intro d hd
 have dn:d≠n:=fun z=>by rw[z,aM]at hd;cases hd
 have dl:d≠l:=fun z=>by rw[z,aJ nl,hl1]at hd;cases hd
 walk_at"ex"
 rw[OK aM (rO m) rfl (by decide)]
 rw[lN (fs:=[(W "met", .ref l)]) (by rw[aJ dn.symm,aJ dn.symm,aM]) (by simp),gC (by simp only[bS];rw[if_neg (by decide +kernel)])]
 simp only[aH]
 have hd0:st d=none:=by
  cases hz:st d with
  |none=>rfl
  |some o=>rw[aJ dn,x1 _ _ hz]at hd;cases hd
 refine hQ _ l d hl hd0 (fun a o na e=>?_) ⟨by rw[aM];rfl,by rw[aJ dn,aM];rfl,by rw[aJ nl,aJ dl.symm,aJ dl.symm,aJ nl];exact hl1⟩
 have an:a≠n:=by simpa using na
 have ad:a≠d:=fun z=>by rw[z,hd0]at e;cases e
 rw[aJ an,aJ ad,aJ ad,aJ an]
 exact x1 _ _ e
theorem ZN (h:G.fns i=some AI){n l d:Nat}{m:List Bool}{met:List (List Bool)}(N:lP st n l d met)(hlen:met.length<=1000)(hQ:∀ aA,aZ [l,d] st aA->lP aA n l d (kD met m)->Q (.int ((kD met m).idxOf m:Nat)) aA):aN G (k+1) i [.ref n,bN m] st Q E:=by
 have hL:aY=16777216:=rfl
 have nl:n≠l:=fun z=>by have:=N.ins;rw[z,N.met]at this;cases this
 have nd:n≠d:=fun z=>by have:=N.ins;rw[z,N.dic]at this;cases this
 have ld:l≠d:=fun z=>by have:=N.met;rw[z,N.dic]at this;cases this
 rw[aV h]
 simp only[AI,start]
 refine⟨rfl,?_⟩
 have fin:∀ aC,aZ [l,d] st aC->lP aC n l d (kD met m)->cM (aN G k) G.sub [.ret (.dix (.fld (W "Numbering") (W "numbers_met") (.v 0)) (.v 1))] ⟨fun _ aA=>Q .non aA,Q,fun _ _=>False,fun _ _=>False,fun c _ aA=>E c aA⟩ [some (.ref n),some (bN m)] aC:=fun aC k1 N1=>by
  walk_at"st"
  rw[cP N1.ins DV]
  walk_at"ex"
  rw[zH N1.dic (rO m) (HR (BG met m) (L8 _) (R9 (List.idxOf_lt_length_of_mem (BG met m))))]
  exact hQ aC k1 N1
 walk_at"st"
 rw[cP N.ins DV,RS N.dic (rO m),J1]
 cases hc:met.contains m with
 |true =>
  walk_at"ex"
  (try simp only[if_true,Bool.not_true,Bool.false_eq_true,if_false,aH])
  have e:kD met m=met:=by unfold kD;rw[hc];rfl
  exact fin st .refl (by rw[e];exact N)
 |false =>
  walk_at"ex"
  (try simp only[Bool.not_false,if_true])
  walk_at"st"
  rw[cP N.ins zS]
  walk_at"ex"
  rw[dI N.met,cP N.ins DV]
  walk_at"ex"
  rw[OK N.dic (rO m) (by rw[J1];exact hc) (by simp only[List.length_map];omega)]
  walk_at"st"
  have m1:(put st d (.tab (met.map bN++[bN m]) (sC met.length++[.int ((met.map bN).length:Nat)]))) l=some (.lst (met.map bN)):=by rw[aJ ld];exact N.met
  rw[cP (by rw[aJ nd];exact N.ins) zS,uU,aE m1]
  refine⟨True.intro,?_⟩
  walk_at"ex"
  rw[aE m1]
  refine⟨by simp only[List.length_map];omega,?_⟩
  simp only[aH]
  have e:kD met m=met++[m]:=by unfold kD;rw[hc];rfl
  refine fin _ (fun a o na e=>?_) ⟨by rw[aJ nl,aJ nd];exact N.ins,by rw[aJ ld.symm,aM,e];simp [sC,List.range_succ],by rw[aM,e];simp⟩
  simp only[List.mem_cons,List.not_mem_nil,or_false,not_or]at na
  rw[aJ na.1,aJ na.2];exact e
end
end L3
end
section
namespace L3
open PySem
noncomputable def CS (jS ifk lC:Nat):Fn:=⟨3,4,[.asg (.nm 3) (.ix (.call jS [(.ix (.v 0) (.c (.int 1)))]) (.c (.int 0))),.ret (.comp 1 [1,2,3] [0] true none [(.call jS [(.ix (.v 0) (.c (.int 0)))])] [(.mcl (W "Rules") (W "foe_keeps") ifk (.v 1) [(.mcl (W "Table") (W "held_at") lC (.fld (W "Rules") (W "table") (.v 1)) [(.v 2),(.bin .add (.v 0) (.v 3))])])] (.v 0))]⟩
noncomputable def J4 (jS lC imk ino ima ilo:Nat):Fn:=⟨5,9,[.asg (.nm 5) (.lst []),.iB (.nm 6) none [(.call jS [(.ix (.v 0) (.c (.int 1)))])] [.asg (.nm 7) (.mcl (W "Table") (W "held_at") lC (.fld (W "Rules") (W "table") (.v 1)) [(.v 3),(.bin .add (.v 4) (.v 6))]),.iff (.mcl (W "Rules") (W "friend_keeps") imk (.v 1) [(.v 7)]) [.asg (.nm 8) (.mcl (W "Numbering") (W "number_of") ino (.v 2) [(.mcl (W "Table") (W "memory_after") ima (.fld (W "Rules") (W "table") (.v 1)) [(.v 7)])]),.ex (.cI .append (.v 5) [(.tup [(.v 6),(.mcl (W "Rules") (W "loss_at") ilo (.v 1) [(.v 7)]),(.v 8)])])] []],.ret (.bi .tuple [(.v 5)])]⟩
noncomputable def Bk.aK (b:Bk):List Sy:=cL b.says []
noncomputable def Bk.vm (b:Bk)(m set:List Bool):Sy->Bool:=L3.vm b.names b.aK m set
noncomputable def Bk.zD (b:Bk)(m set:List Bool):List Bool:=b.aK.map fun s=>b.vm m set (tQ s)
noncomputable abbrev iX:=List Bool×Int×Nat
noncomputable def jN (a:iX):D:=.tup [bN a.1,.int a.2.1,.int (a.2.2:Nat)]
noncomputable def cK (b:Bk)(m bT:List Bool)(x:List iX×List (List Bool))(fr:List Bool):List iX×List (List Bool) :=
 if iT b.ms (b.vm m (bT++fr))=true then(x.1++[(fr,OH b.ws (b.vm m (bT++fr)),(kD x.2 (b.zD m (bT++fr))).idxOf (b.zD m (bT++fr)))],kD x.2 (b.zD m (bT++fr)))else x
noncomputable def kG (b:Bk)(m bT:List Bool)(met:List (List Bool)):List iX×List (List Bool):=(cZ b.gs.length).foldl (cK b m bT) ([],met)
noncomputable def mW (b:Bk)(m:List Bool):List (List Bool):=(cZ b.fs.length).filter fun bT=>iT b.ps (b.vm m (bT++List.replicate b.gs.length false))
structure kX (n:Nat)(met:List (List Bool)):Prop where
 nd:met.Nodup
 len:∀ m∈met,m.length=n
theorem kX.GR {n:Nat}{met:List (List Bool)}(h:kX n met)(hn:n<=4):met.length<=16:=by
 have h1:=P4 met (cZ n) h.nd fun m hm=>J7 n m (h.len m hm)
 rw[mL]at h1
 have:2 ^ n<=2 ^ 4:=Nat.pow_le_pow_right (by decide) hn
 omega
theorem kX.add {n:Nat}{met:List (List Bool)}(h:kX n met){m:List Bool}(hm:m.length=n):kX n (kD met m):=by
 unfold kD
 cases hc:met.contains m with
 |true=>exact h
 |false =>
 have hn:m∉met:=by simpa using hc
 refine⟨?_,fun x hx=>?_⟩
 ·show(met++[m]).Nodup
  rw[List.nodup_append]
  exact⟨h.nd,by simp,fun a ha c hc'=>by simp only[List.mem_singleton]at hc';subst hc';exact fun z=>hn (z▸ha)⟩
 ·rcases List.mem_append.mp (show x∈met++[m]from hx)with hx|hx
  ·exact h.len x hx
  ·simp only[List.mem_singleton]at hx;subst hx;exact hm
theorem W5 (b:Bk)(m set:List Bool):(b.zD m set).length=b.aK.length:=by simp [Bk.zD]
theorem LI {b:Bk}{m bT fr:List Bool}{x:List iX×List (List Bool)}(h:kX b.aK.length x.2):kX b.aK.length (cK b m bT x fr).2:=by
 unfold cK;split
 ·exact h.add (W5 b m _)
 ·exact h
theorem tF {b:Bk}{m bT:List Bool}:∀(l:List (List Bool)){x:List iX×List (List Bool)},kX b.aK.length x.2->kX b.aK.length (l.foldl (cK b m bT) x).2
 |[],_,h=>h
 |fr::l,_,h=>tF l (LI h)
section
variable {G:Prog}{k i jS ifk lC imk ino ima ilo iph inh:Nat}{st:aB}{Q:VK}{E:XK}{b:Bk}{r p l1 l2 l3:Nat}{R:List Sy}
theorem KS (hha:G.fns lC=some (rQ iph inh))(hn:G.fns inh=some vA)(hpa:G.fns iph=some pT)(T:iC st r p l1 l2 l3 b R){m set:List Bool}(hm:m.length=b.aK.length)(hs:set.length=b.names.length)
  (hQ:∀ aA q,st q=none->Ext st aA->aA q=some (.lst (R.map fun s=>.bl (b.vm m set s)))->Q (.ref q) aA):aN G (k+2) lC [.ref p,bN m,bN set] st Q E:=by
 obtain⟨lp,lr,ld,lm,js,T1,hlm,hjl,hjs,hpast⟩:=T.tab.h
 refine YA hha hn hpa T1 (mem:=m) (set:=set) (b.vm m set) (fun n hn'=>?_) (fun s gY hps=>⟨(m[b.aK.idxOf s]?).getD false,?_,YS hps⟩) (fun s h1 h2=>Ff h1 h2) hQ
 ·have dP:b.names.idxOf n<set.length:=by rw[hs];exact List.idxOf_lt_length_iff.mpr hn'
  simp only[Bk.vm,vm]
  rw[List.getElem?_eq_getElem dP];rfl
 ·have dP:b.aK.idxOf s<m.length:=by rw[hm];exact List.idxOf_lt_length_iff.mpr gY
  show m[b.aK.idxOf s]? = _
  rw[List.getElem?_eq_getElem dP];rfl
theorem X9 (hma:G.fns ima=some BF)(T:iC st r p l1 l2 l3 b R)(lB:b.aK.length<=4){m set:List Bool}{q:Nat}(hq:st q=some (.lst (R.map fun s=>.bl (b.vm m set s))))(hQ:∀ aA,Ext st aA->Q (bN (b.zD m set)) aA):aN G (k+1) ima [.ref p,.ref q] st Q E:=by
 obtain⟨lp,lr,ld,lm,js,T1,hlm,hjl,hjs,hpast⟩:=T.tab.h
 refine Bt (aK:=b.aK) hma T1.ins (lm:=lm) (by rw[kY (by decide +kernel) (by decide +kernel) (by decide +kernel) (by decide +kernel)];simp only[Q6,bS];rw[if_neg (by decide +kernel),if_pos True.intro]) hlm hq hjl (by omega) hjs fun aA x=>?_
 have e:(b.aK.map fun s=>D.bl (b.vm m set (tQ s)))=(b.zD m set).map .bl:=by simp [Bk.zD]
 rw[e]
 exact hQ aA x
theorem HN {T:List Nat}{lp lr ld lm:Nat}{names:List (List Nat)}{aK:List Sy}(h1:W "names" ≠ T)(h2:W "pieces" ≠ T)(h3:W "rows" ≠ T)(h4:W "row_of" ≠ T)(h5:W "first_memory" ≠ T)(h6:W "remembered_rows" ≠ T):bS (oP names lp lr ld++Q6 aK lm) T=none:=by
 rw[kY h1 h2 h3 h4];simp only[Q6,bS];rw[if_neg h5,if_neg h6]
theorem XH (h:G.fns i=some (CS jS ifk lC))(hse:G.fns jS=some wH)(hfk:G.fns ifk=some CN)(hha:G.fns lC=some (rQ iph inh))(hn:G.fns inh=some vA)(hpa:G.fns iph=some pT)(T:iC st r p l1 l2 l3 b R)(B:b.Ok){m:List Bool}(hm:m.length=b.aK.length)
  (hQ:∀ q aA,st q=none->Ext st aA->aA q=some (.lst ((mW b m).map bN))->Q (.ref q) aA):aN G (k+3) i [b.d,.ref r,bN m] st Q E:=by
 have hL:aY=16777216:=rfl
 have f2:=B.f2
 have g2:=B.g2
 have jC:b.names.length=b.fs.length+b.gs.length:=by simp [Bk.names]
 rw[aV h]
 simp only[CS,start,Bk.d]
 refine⟨rfl,?_⟩
 walk_at"st"
 refine EG (k:=k+1) hse (by simp only[List.length_map];omega) fun u aC hu x1 hu1=>?_
 rw[List.length_map]at hu1
 obtain⟨rr,er⟩:=GN b.gs.length
 walk_at"ex"
 rw[dF hu1,er,List.map_cons,yA,aX]
 walk_at"ex"
 walk_at"st"
 refine EG (k:=k+1) hse (by simp only[List.length_map];omega) fun u2 aG hu2 x2 hu22=>?_
 rw[List.length_map]at hu22
 walk_at"ex"
 rw[aE hu22]
 have T2:=T.keep (x1.trans x2)
 have iU:(cZ b.fs.length).length<=16:=by rw[mL];exact Nat.pow_le_pow_right (n:=2) (by decide) (by omega:b.fs.length<=4)
 obtain⟨lp,lr,ld,lm,js,T2',_⟩:=T2.tab.h
 refine kF bN (fun bT=>if iT b.ps (b.vm m (bT++List.replicate b.gs.length false))=true then some (bN bT)else none) (cZ b.fs.length) [] aG (fun aS y a ha=>?_) (fun bT hf aS K y1 hK=>?_) (by simp only[List.length_nil];omega) fun aU y3=>?_
 ·simp only[List.mem_singleton]at ha
  subst ha
  rw[hu22,y _ _ hu22]
 ·have T3:=T2.keep y1
  have hfl:=rC _ _ hf
  walk_at"ex"
  rw[kL T3.ins (HD (by decide +kernel) (by decide +kernel) (by decide +kernel) (by decide +kernel))]
  refine⟨True.intro,?_⟩
  rw[cP T3.ins rR]
  rw[kL (T2'.keep y1).ins (HN (by decide +kernel) (by decide +kernel) (by decide +kernel) (by decide +kernel) (by decide +kernel) (by decide +kernel))]
  refine⟨True.intro,?_⟩
  have ea:gN .add (bN bT) (bN (List.replicate b.gs.length false))=fun st Q=>(bT.map D.bl).length+((List.replicate b.gs.length false).map D.bl).length<=aY/\Q (bN (bT++List.replicate b.gs.length false)) st:=by
   funext st Q
   simp only[bN,ER,List.map_append]
  rw[ea]
  refine⟨by simp only[List.length_map,List.length_replicate];omega,?_⟩
  refine KS hha hn hpa T3 hm (by simp [hfl,jC]) fun cC q _ y4 hq=>?_
  refine Y4 (k:=k+1) hfk (T3.keep y4) B hq fun dC y5=>?_
  walk_at"ex"
  have:=hK dC (y4.trans y5)
  cases hv:iT b.ps (b.vm m (bT++List.replicate b.gs.length false))with
  |true=>simpa [hv]using this
  |false=>simpa [hv]using this
 rw[List.nil_append]
 have ef:((cZ b.fs.length).filterMap fun bT=>if iT b.ps (b.vm m (bT++List.replicate b.gs.length false))=true then some (bN bT)else none)=(mW b m).map bN:=by
  unfold mW
  generalize cZ b.fs.length=l
  induction l with
  |nil=>rfl
  |cons a l ih =>
   by_cases hv:iT b.ps (b.vm m (a++List.replicate b.gs.length false))=true
   ·simp only[List.filterMap_cons,List.filter_cons,hv,if_true,List.map_cons,ih]
   ·simp only[List.filterMap_cons,List.filter_cons,hv,ih];simp [hv]
 rw[ef]
 refine bU (by simp only[List.length_map];have:=List.length_filter_le (fun bT=>iT b.ps (b.vm m (bT++List.replicate b.gs.length false))) (cZ b.fs.length);unfold mW;omega) fun q cC y4 hq hq4=>?_
 refine hQ q cC ?_ (((x1.trans x2).trans y3).trans y4) hq4
 cases hz:st q with
 |none=>rfl
 |some o=>rw[((x1.trans x2).trans y3) _ _ hz]at hq;cases hq
end
end L3
end
section
namespace L3
open PySem
noncomputable def G4 (ich iri ini ifs ian:Nat):Fn:=⟨1,7,[.ex (.call ich [(.v 0)]),.asg (.nm 1) (.mk (W "Rules") iri [(.v 0)]),.asg (.nm 2) (.mk (W "Numbering") ini [(.fld (W "Table") (W "first_memory") (.fld (W "Rules") (W "table") (.v 1)))]),.asg (.nm 3) (.lst []),.whl (.cmp .lt (.bi .len [(.v 3)]) (.bi .len [(.fld (W "Numbering") (W "met") (.v 2))])) [.asg (.nm 4) (.ix (.fld (W "Numbering") (W "met") (.v 2)) (.bi .len [(.v 3)])),.asg (.nm 5) (.lst []),.iB (.nm 6) none [(.call ifs [(.v 0),(.v 1),(.v 4)])] [.ex (.cI .append (.v 5) [(.tup [(.v 6),(.call ian [(.v 0),(.v 1),(.v 2),(.v 4),(.v 6)])])])],.ex (.cI .append (.v 3) [(.tup [(.v 4),(.bi .tuple [(.v 5)])])])],.ret (.v 3)]⟩
theorem lP.keep {st aA:aB}{n l d:Nat}{met:List (List Bool)}(N:lP st n l d met)(h:Ext st aA):lP aA n l d met:=⟨h _ _ N.ins,h _ _ N.dic,h _ _ N.met⟩
theorem qZ {rN st aA:aB}{as:List Nat}(x:Ext rN st)(k:aZ as st aA)(h:∀ a∈as,rN a=none):Ext rN aA:=fun a o e=>k a o (fun z=>by rw[h a z]at e;cases e) (x a o e)
theorem jF {st aA:aB}{a:Nat}(x:Ext st aA)(h:aA a=none):st a=none:=by
 cases hz:st a with
 |none=>rfl
 |some o=>rw[x _ _ hz]at h;cases h
theorem TB {st:aB}{Q:VK}(a c:List Bool):gN .add (bN a) (bN c) st Q=((a.length+c.length<=aY)/\Q (bN (a++c)) st):=by
 simp only[bN,ER,List.map_append,List.length_map]
section
variable {G:Prog}{k i jS ifk lC imk ino ima ilo iph inh:Nat}{st rN:aB}{Q:VK}{E:XK}{b:Bk}{r p l1 l2 l3 n l dd:Nat}{R:List Sy}
theorem Ea (h:G.fns i=some (J4 jS lC imk ino ima ilo))(hse:G.fns jS=some wH)(hha:G.fns lC=some (rQ iph inh))(hn:G.fns inh=some vA)(hpa:G.fns iph=some pT)(hmk:G.fns imk=some C8)(hno:G.fns ino=some AI)(hma:G.fns ima=some BF)(hlo:G.fns ilo=some zR)
    (T0:iC rN r p l1 l2 l3 b R)(x0:Ext rN st)(hl0:rN l=none)(hd0:rN dd=none)(B:b.Ok)(lB:b.aK.length<=4){m bT:List Bool}{met:List (List Bool)}(N:lP st n l dd met)(hM:kX b.aK.length met)(hm:m.length=b.aK.length)(hf:bT.length=b.fs.length)
    (hQ:∀ aA,aZ [l,dd] st aA->lP aA n l dd (kG b m bT met).2->Q (.tup ((kG b m bT met).1.map jN)) aA):aN G (k+3) i [b.d,.ref r,.ref n,bN m,bN bT] st Q E:=by
  have hL:aY=16777216:=rfl
  have f2:=B.f2
  have g2:=B.g2
  have jC:b.names.length=b.fs.length+b.gs.length:=by simp [Bk.names]
  have hd:b.d=.tup [.tup (b.fs.map .str),.tup (b.gs.map .str),.tup (b.ps.map toD),.tup (b.ms.map toD),.tup (b.ws.map fun w=>.tup [.int w.1,toD w.2])]:=rfl
  rw[aV h]
  simp only[J4,start]
  refine⟨rfl,?_⟩
  walk_at"st"
  refine bU (by simp) fun u aC x1 hu hu1=>?_
  rw[hd]
  walk_at"st"
  refine EG (k:=k+1) hse (by simp only[List.length_map];omega) fun s aG hs x2 hs2=>?_
  rw[List.length_map]at hs2
  walk_at"ex"
  rw[aE hs2,<-hd]
  have iU:(cZ b.gs.length).length<=16:=by rw[mL];exact Nat.pow_le_pow_right (n:=2) (by decide) (by omega:b.gs.length<=4)
  have ul:u≠l:=fun z=>by rw[z,N.met]at hu;cases hu
  have ud:u≠dd:=fun z=>by rw[z,N.dic]at hu;cases hu
  have un:u≠n:=fun z=>by rw[z,N.ins]at hu;cases hu
  have sl:s≠l:=fun z=>by rw[z,x1 _ _ N.met]at hs;cases hs
  have sd:s≠dd:=fun z=>by rw[z,x1 _ _ N.dic]at hs;cases hs
  have su:s≠u:=fun z=>by rw[z,hu1]at hs;cases hs
  have nl:n≠l:=fun z=>by have:=N.ins;rw[z,N.met]at this;cases this
  have N2:=N.keep (x1.trans x2)
  have u0:rN u=none:=jF x0 hu
  refine gO bN (I:=fun rest σ aA=>∃ dn o6 o7 o8,cZ b.gs.length=dn++rest/\σ=[some b.d,some (.ref r),some (.ref n),some (bN m),some (bN bT),some (.ref u),o6,o7,o8]/\aZ [l,dd,u] aG aA/\lP aA n l dd (dn.foldl (cK b m bT) ([],met)).2/\aA u=some (.lst ((dn.foldl (cK b m bT) ([],met)).1.map jN))/\(dn.foldl (cK b m bT) ([],met)).1.length<=dn.length) (fun rest σ aA ⟨dn,o6,o7,o8,e1,e2,k1,N',e5,e6⟩=>?_) (fun fr rest σ aA M ⟨dn,o6,o7,o8,e1,e2,k1,N',e5,e6⟩ hM'=>?_) (fun σ aA ⟨dn,o6,o7,o8,e1,e2,k1,N',e5,e6⟩=>?_) _ _ _ ⟨[],none,none,none,rfl,rfl,.refl,N2,x2 _ _ hu1,by simp⟩
  · intro a ha
    simp only[List.mem_singleton]at ha
    subst ha
    rw[hs2,k1 _ _ (by simp [sl,sd,su]) hs2]
  · subst e2
    have hfr:fr.length=b.gs.length:=rC _ _ (by rw[e1];simp)
    have hdn : dn.length ≤ 16 := by have:dn.length≤(cZ b.gs.length).length:=by rw[e1];simp
                                    omega
    have hMx:=tF (b:=b) (m:=m) (bT:=bT) dn (x:=([],met)) hM
    have xx:Ext rN aA:=qZ (x0.trans (x1.trans x2)) k1 (fun a ha=>by
      simp only[List.mem_cons,List.not_mem_nil,or_false]at ha
      rcases ha with ha|ha|ha
      ·rw[ha];exact hl0
      ·rw[ha];exact hd0
      ·rw[ha];exact u0)
    have T':=T0.keep xx
    obtain⟨lp,lr,ld,lm,js,TT,_⟩:=T'.tab.h
    generalize hX:dn.foldl (cK b m bT) ([],met)=X at N' e5 e6 hMx
    have hXs:(dn++[fr]).foldl (cK b m bT) ([],met)=cK b m bT X fr:=by rw[List.foldl_append,hX];rfl
    walk_at"st"
    rw[cP T'.ins rR,kL TT.ins (HN (by decide +kernel) (by decide +kernel) (by decide +kernel) (by decide +kernel) (by decide +kernel) (by decide +kernel))]
    refine⟨True.intro,?_⟩
    rw[TB]
    refine⟨by omega,?_⟩
    refine KS hha hn hpa T' hm (by simp [hf,hfr,jC]) fun aU q hq0 y3 hq=>?_
    walk_at"ex"
    have T3:=T'.keep y3
    walk_at"st"
    rw[kL T3.ins (HD (by decide +kernel) (by decide +kernel) (by decide +kernel) (by decide +kernel))]
    refine⟨True.intro,?_⟩
    refine Y5 (k:=k+1) hmk T3 B hq fun cC y4=>?_
    walk_at"ex"
    have T4:=T3.keep y4
    have y34:=y3.trans y4
    cases hv:iT b.ms (b.vm m (bT++fr))with
    |false =>
      simp only[Bool.false_eq_true,if_false,aH]
      have eX:cK b m bT X fr=X:=by unfold cK;rw[hv];rfl
      refine hM' _ cC ⟨dn++[fr],_,_,_,by simp [e1],rfl,k1.trans y34.keep,by rw[hXs,eX];exact N'.keep y34,by rw[hXs,eX];exact y34 _ _ e5,by rw[hXs,eX];simp;omega⟩
    |true =>
      simp only[if_true]
      have eX:cK b m bT X fr=(X.1++[(fr,OH b.ws (b.vm m (bT++fr)),(kD X.2 (b.zD m (bT++fr))).idxOf (b.zD m (bT++fr)))],kD X.2 (b.zD m (bT++fr))):=by unfold cK;rw[hv];rfl
      have N4:=N'.keep y34
      walk_at"st"
      rw[kL N4.ins (Bu (by decide +kernel) (by decide +kernel))]
      refine⟨True.intro,?_⟩
      rw[cP T4.ins rR,kL (TT.keep y34).ins (HN (by decide +kernel) (by decide +kernel) (by decide +kernel) (by decide +kernel) (by decide +kernel) (by decide +kernel))]
      refine⟨True.intro,?_⟩
      refine X9 (k:=k+1) hma T4 lB (y4 _ _ hq) fun dC y5=>?_
      have N5:=N4.keep y5
      have hX2:=hMx.GR lB
      refine ZN (k:=k+1) hno N5 (by omega) fun fN k6 N6=>?_
      walk_at"ex"
      have x6:Ext rN fN:=qZ (xx.trans (y34.trans y5)) k6 (fun a ha=>by
        simp only[List.mem_cons,List.not_mem_nil,or_false]at ha
        rcases ha with ha|ha
        ·rw[ha];exact hl0
        ·rw[ha];exact hd0)
      have T6:=T0.keep x6
      have u6:fN u=some (.lst (X.1.map jN)):=k6 u _ (by simp [ul,ud]) (y5 _ _ (y34 _ _ e5))
      have ql:q≠l:=fun z=>by rw[z,N'.met]at hq0;cases hq0
      have qd:q≠dd:=fun z=>by rw[z,N'.dic]at hq0;cases hq0
      have q6:fN q=some (.lst (R.map fun s=>.bl (b.vm m (bT++fr) s))):=k6 q _ (by simp [ql,qd]) (y5 _ _ (y4 _ _ hq))
      walk_at"st"
      rw[aE u6]
      refine⟨True.intro,?_⟩
      rw[kL T6.ins (HD (by decide +kernel) (by decide +kernel) (by decide +kernel) (by decide +kernel))]
      refine⟨True.intro,?_⟩
      refine ZD (k:=k+1) hlo T6 B q6 fun mM y7=>?_
      walk_at"ex"
      rw[aE (y7 _ _ u6)]
      refine⟨by simp only[List.length_map];omega,?_⟩
      simp only[aH]
      refine hM' _ _ ⟨dn++[fr],_,_,_,by simp [e1],rfl,?_,?_,?_,?_⟩
      · intro a o na e
        simp only[List.mem_cons,List.not_mem_nil,or_false,not_or]at na
        rw[aJ na.2.2]
        exact y7 _ _ (k6 a o (by simp [na]) (y5 _ _ (y34 _ _ (k1 a o (by simp [na]) e))))
      · rw[hXs,eX]
        exact⟨by rw[aJ (Ne.symm un)];exact y7 _ _ N6.ins,by rw[aJ (Ne.symm ud)];exact y7 _ _ N6.dic,by rw[aJ (Ne.symm ul)];exact y7 _ _ N6.met⟩
      ·rw[aM,hXs,eX];simp [jN]
      ·rw[hXs,eX];simp;omega
  · subst e2
    rw[List.append_nil]at e1
    have eA:kG b m bT met=dn.foldl (cK b m bT) ([],met):=by unfold kG;rw[e1]
    walk_at"st"
    rw[aE e5]
    have hdn:dn.length<=16:=by rw[<-e1];exact iU
    refine⟨by simp only[List.length_map];omega,?_⟩
    rw[<-eA]
    refine hQ aA (fun a o na e=>?_) (by rw[eA];exact N')
    have au:a≠u:=fun z=>by rw[z,hu]at e;cases e
    simp only[List.mem_cons,List.not_mem_nil,or_false,not_or]at na
    exact k1 a o (by simp [na,au]) (x2 _ _ (x1 _ _ e))
noncomputable abbrev Node:=List Bool×List (List Bool×List iX)
noncomputable def kZ (x:List Bool×List iX):D:=.tup [bN x.1,.tup (x.2.map jN)]
noncomputable def eS (x:Node):D:=.tup [bN x.1,.tup (x.2.map kZ)]
noncomputable def cV (b:Bk)(m:List Bool)(x:List (List Bool×List iX)×List (List Bool))(bT:List Bool):List (List Bool×List iX)×List (List Bool) :=
 (x.1++[(bT,(kG b m bT x.2).1)],(kG b m bT x.2).2)
noncomputable def lE (b:Bk)(m:List Bool)(met:List (List Bool)):List (List Bool×List iX)×List (List Bool):=(mW b m).foldl (cV b m) ([],met)
noncomputable abbrev GS:=List (List Bool)×List Node
noncomputable def pV (b:Bk)(x:GS):GS:=if x.2.length<x.1.length then((lE b ((x.1[x.2.length]?).getD []) x.1).2,x.2++[((x.1[x.2.length]?).getD [],(lE b ((x.1[x.2.length]?).getD []) x.1).1)])else x
noncomputable def bB (b:Bk):Nat->GS
 |0=>([b.aK.map iS],[])
 |j+1=>pV b (bB b j)
noncomputable def vN (b:Bk):List Node:=(bB b 17).2
theorem G0 (met:List (List Bool))(m:List Bool):met.length<=(kD met m).length:=by unfold kD;split<;>simp
theorem B3 {b:Bk}{m bT:List Bool}:∀(l:List (List Bool))(x:List iX×List (List Bool)),x.2.length<=(l.foldl (cK b m bT) x).2.length
 |[],_=>Nat.le_refl _
 |fr::l,x=>by
  refine Nat.le_trans ?_ (B3 l (cK b m bT x fr))
  unfold cK;split
  ·exact G0 _ _
  ·exact Nat.le_refl _
theorem IW {b:Bk}{m:List Bool}:∀(l:List (List Bool))(x:List (List Bool×List iX)×List (List Bool)),x.2.length<=(l.foldl (cV b m) x).2.length
 |[],_=>Nat.le_refl _
 |fr::l,x=>Nat.le_trans (B3 _ ([],x.2)) (IW l (cV b m x fr))
theorem CO {b:Bk}{m:List Bool}(met:List (List Bool)):met.length<=(lE b m met).2.length:=IW _ ([],met)
theorem Q0 {b:Bk}{m bT:List Bool}(h:bT∈mW b m):bT.length=b.fs.length:=rC _ _ (List.mem_filter.mp h).1
theorem xW {b:Bk}{m:List Bool}:∀(l:List (List Bool)){x:List (List Bool×List iX)×List (List Bool)},kX b.aK.length x.2->kX b.aK.length (l.foldl (cV b m) x).2
 |[],_,h=>h
 |bT::l,_,h=>xW l (by simp only[cV];exact tF _ h)
theorem xZ (b:Bk):∀ j,kX b.aK.length (bB b j).1
 |0=>⟨by simp [bB],by simp [bB]⟩
 |j+1=>by
  have h:=xZ b j
  simp only[bB,pV]
  split
  ·exact xW _ h
  ·exact h
theorem sP (b:Bk)(lB:b.aK.length<=4):∀ j,(bB b j).2.length<=(bB b j).1.length
 |0=>by simp [bB]
 |j+1=>by
  have h:=sP b lB j
  simp only[bB,pV]
  split
  ·rename_i hl
   have:(bB b j).1.length<=(lE b (((bB b j).1[(bB b j).2.length]?).getD []) (bB b j).1).2.length:=CO _
   simp only[List.length_append,List.length_cons,List.length_nil];omega
  ·exact h
end
end L3
end
section
namespace L3
open PySem
theorem AZ (b:Bk)(lB:b.aK.length<=4):∀ j,(bB b j).2.length=j∨((bB b j).2.length=(bB b j).1.length)
 |0=>.inl rfl
 |j+1=>by
  rcases AZ b lB j with h|h
  ·simp only[bB,pV]
   by_cases q:(bB b j).2.length<(bB b j).1.length
   ·rw[if_pos q];left;simp only[List.length_append,List.length_cons,List.length_nil];omega
   ·rw[if_neg q];right;have:=sP b lB j;omega
  ·simp only[bB,pV]
   rw[if_neg (by omega)];exact .inr h
theorem DK (b:Bk){j:Nat}(h:¬(bB b j).2.length<(bB b j).1.length):∀ n,bB b (j+n)=bB b j
 |0=>rfl
 |n+1=>by
  show pV b (bB b (j+n))=_
  rw[DK b h n]
  unfold pV
  rw[if_neg h]
section
variable {G:Prog}{k i ich icp iri ini ifs ian ibk iti io iz ie irr iw ipo jS ifk lC imk ino ima ilo iph inh:Nat}{st:aB}{Q:VK}{E:XK}{b:Bk}
theorem WT (h:G.fns i=some (G4 ich iri ini ifs ian))(hch:G.fns ich=some (rG ibk))(hb:NQ G ibk 13 b)(hri:G.fns iri=some (yY iti io))(ht:G.fns iti=some (nS iz ie irr))(hz:G.fns iz=some (kP iw))(he:G.fns ie=some (qC ie iw ipo))(hw:G.fns iw=some iE)(hpo:G.fns ipo=some oW)(hrr:G.fns irr=some BZ)(hio:G.fns io=some uQ)
  (hni:G.fns ini=some C2)(hfs:G.fns ifs=some (CS jS ifk lC))(han:G.fns ian=some (J4 jS lC imk ino ima ilo))(hse:G.fns jS=some wH)(hfk:G.fns ifk=some CN)(hha:G.fns lC=some (rQ iph inh))(hn:G.fns inh=some vA)(hpa:G.fns iph=some pT)(hmk:G.fns imk=some C8)(hno:G.fns ino=some AI)(hma:G.fns ima=some BF)(hlo:G.fns ilo=some zR)
  (B:b.Ok)(hs:fX b.says<=5000)(lB:b.aK.length<=4)(hQ:∀ p aA,st p=none->Ext st aA->aA p=some (.lst ((vN b).map eS))->Q (.ref p) aA):aN G (k+15) i [b.d] st Q E:=by
 have hL:aY=16777216:=rfl
 have f2:=B.f2
 rw[aV h]
 simp only[G4,start]
 refine⟨rfl,?_⟩
 walk_at"st"
 refine OZ (k:=k) hch hb fun aC x1=>?_
 walk_at"st"
 intro r hr
 refine U4 (k:=k+1) hri ht hz he hw hpo hrr hio B hs (by show b.aK.length<=5000;omega) aM fun aG p l1 l2 l3 R k2 T2=>⟨rfl,?_⟩
 have x2:Ext aC aG:=fun a o e=>k2 a o (by intro z;simp only[List.mem_singleton]at z;rw[z,hr]at e;cases e) (AM hr e)
 walk_at"ex"
 walk_at"st"
 rw[cP T2.ins rR]
 obtain⟨lp,lr,ld,lm,js,TT,_⟩:=T2.tab.h
 rw[cP TT.ins (x:=.tup (b.aK.map fun s=>.bl (iS s))) (by rw[kY (by decide +kernel) (by decide +kernel) (by decide +kernel) (by decide +kernel)];simp only[Q6,bS];rw[if_pos True.intro];rfl)]
 intro n hn0
 have ei:D.tup (b.aK.map fun s=>.bl (iS s))=bN (b.aK.map iS):=by simp [bN]
 rw[ei]
 refine XB (k:=k+13) hni aM fun aU l dd hl3 hd3 k3 N3=>⟨rfl,?_⟩
 have x3:Ext aG aU:=fun a o e=>k3 a o (by intro z;simp only[List.mem_singleton]at z;rw[z,hn0]at e;cases e) (AM hn0 e)
 have hl2:aG l=none:=by
  have hnl:l≠n:=fun z=>by rw[z,aM]at hl3;cases hl3
  rwa [aJ hnl]at hl3
 have hd2:aG dd=none:=by
  have hnl:dd≠n:=fun z=>by rw[z,aM]at hd3;cases hd3
  rwa [aJ hnl]at hd3
 walk_at"ex"
 walk_at"st"
 refine bU (by simp) fun nd cC x4 hnd nd4=>?_
 walk_at"ex"
 have x24:=x3.trans x4
 have ndl:nd≠l:=fun z=>by rw[z,N3.met]at hnd;cases hnd
 have ndd:nd≠dd:=fun z=>by rw[z,N3.dic]at hnd;cases hnd
 have ndn:nd≠n:=fun z=>by rw[z,N3.ins]at hnd;cases hnd
 have nd2:aG nd=none:=jF x3 hnd
 refine fF ?_
 refine uZ (oZ G (Nat.le_refl _)) (I:=fun mm σ aA=>∃ j o4 o5 o6,mm+(bB b j).2.length=17/\j<=17/\(bB b j).2.length=j/\σ=[some b.d,some (.ref r),some (.ref n),some (.ref nd),o4,o5,o6]/\Ext aG aA/\lP aA n l dd (bB b j).1/\aA nd=some (.lst ((bB b j).2.map eS))) ?_ (m:=17) ⟨0,none,none,none,rfl,by omega,rfl,rfl,x24,N3.keep x4,nd4⟩
 rintro mm σ aA ⟨j,o4,o5,o6,e0,e0',ej,e2,x5,N5,nd5⟩
 subst e2
 have VE:=xZ b j
 have tM:=VE.GR lB
 have hlen:=sP b lB j
 walk_at"ex"
 rw[dI nd5,cP N5.ins zS,D2,dI N5.met]
 walk_at"ex"
 by_cases dP:(bB b j).2.length<(bB b j).1.length
 ·have hc:(((bB b j).2.map eS).length:Int)<((bB b j).1.map bN).length:=by simp only[List.length_map];omega
  rw[if_pos (by simpa using hc)]
  have hjm:j<(bB b j).1.length:=by omega
  generalize hm:(bB b j).1[j]=m
  have hmg:(bB b j).1[j]? = some m:=by rw[List.getElem?_eq_getElem hjm,hm]
  have hml:m.length=b.aK.length:=VE.len m (List.mem_of_getElem? hmg)
  walk_at"st"
  rw[cP N5.ins zS,dI nd5,dF N5.met,List.length_map,ej,eI (by simpa using hjm),List.getElem?_map,hmg,Option.map_some,aX]
  walk_at"ex"
  walk_at"st"
  refine bU (by simp) fun mv fN x6 hmv mv6=>?_
  walk_at"ex"
  have T6:=T2.keep (x5.trans x6)
  walk_at"st"
  refine XH (k:=k+11) hfs hse hfk hha hn hpa T6 B hml fun fl mM hfl x7 hfl7=>?_
  walk_at"ex"
  rw[aE hfl7]
  have N7:=N5.keep (x6.trans x7)
  have nd7:=x7 _ _ (x6 _ _ nd5)
  have mv7:=x7 _ _ mv6
  have mvl:mv≠l:=fun z=>by rw[z,N5.met]at hmv;cases hmv
  have mvd:mv≠dd:=fun z=>by rw[z,N5.dic]at hmv;cases hmv
  have mvn:mv≠n:=fun z=>by rw[z,N5.ins]at hmv;cases hmv
  have mvnd:mv≠nd:=fun z=>by rw[z,nd5]at hmv;cases hmv
  have flmv:fl≠mv:=fun z=>by rw[z,mv6]at hfl;cases hfl
  have fll:fl≠l:=fun z=>by rw[z,x6 _ _ N5.met]at hfl;cases hfl
  have fld:fl≠dd:=fun z=>by rw[z,x6 _ _ N5.dic]at hfl;cases hfl
  have mv2:aG mv=none:=jF x5 hmv
  have hfsz:(mW b m).length<=16:=by
   have h1:=List.length_filter_le (fun bT=>iT b.ps (b.vm m (bT++List.replicate b.gs.length false))) (cZ b.fs.length)
   have h2:(cZ b.fs.length).length<=16:=by rw[mL];exact Nat.pow_le_pow_right (n:=2) (by decide) (by omega:b.fs.length<=4)
   unfold mW;omega
  refine gO bN (I:=fun rest σ dM=>∃ dn o6,mW b m=dn++rest/\σ=[some b.d,some (.ref r),some (.ref n),some (.ref nd),some (bN m),some (.ref mv),o6]/\aZ [l,dd,mv] mM dM/\lP dM n l dd (dn.foldl (cV b m) ([],(bB b j).1)).2/\dM mv=some (.lst ((dn.foldl (cV b m) ([],(bB b j).1)).1.map kZ))/\(dn.foldl (cV b m) ([],(bB b j).1)).1.length=dn.length) (fun rest σ dM ⟨dn,o6,g1,g2,g3,g4,g5,g6⟩=>?_) (fun bT rest σ dM M ⟨dn,o6,g1,g2,g3,g4,g5,g6⟩ hM'=>?_) (fun σ dM ⟨dn,o6,g1,g2,g3,g4,g5,g6⟩=>?_) _ _ _ ⟨[],o6,rfl,rfl,.refl,N7,mv7,rfl⟩
  ·intro a ha
   simp only[List.mem_singleton]at ha
   subst ha
   rw[hfl7,g3 _ _ (by simp [fll,fld,flmv]) hfl7]
  ·subst g2
   have hfo:bT.length=b.fs.length:=Q0 (m:=m) (by rw[g1];simp)
   have hdn:dn.length<=16:=by rw[g1]at hfsz;simp at hfsz;omega
   have x8:Ext aG dM:=qZ (x5.trans (x6.trans x7)) g3 (fun a ha=>by
    simp only[List.mem_cons,List.not_mem_nil,or_false]at ha
    rcases ha with ha|ha|ha
    ·rw[ha];exact hl2
    ·rw[ha];exact hd2
    ·rw[ha];exact mv2)
   have hMx:=xW (b:=b) (m:=m) dn (x:=([],(bB b j).1)) VE
   generalize hX:dn.foldl (cV b m) ([],(bB b j).1)=X at g4 g5 g6 hMx
   have hXs:(dn++[bT]).foldl (cV b m) ([],(bB b j).1)=cV b m X bT:=by rw[List.foldl_append,hX];rfl
   walk_at"st"
   rw[aE g5]
   refine⟨True.intro,?_⟩
   refine Ea (k:=k+11) han hse hha hn hpa hmk hno hma hlo T2 x8 hl2 hd2 B lB g4 hMx hml hfo fun rM k9 N9=>?_
   have mv9:=k9 mv _ (by simp [mvl,mvd]) g5
   walk_at"ex"
   rw[aE mv9]
   refine⟨by simp only[List.length_map];omega,?_⟩
   simp only[aH]
   refine hM' _ _ ⟨dn++[bT],_,by simp [g1],rfl,?_,?_,?_,?_⟩
   ·intro a o na e
    simp only[List.mem_cons,List.not_mem_nil,or_false,not_or]at na
    rw[aJ na.2.2]
    exact k9 a o (by simp [na]) (g3 a o (by simp [na]) e)
   ·rw[hXs]
    exact⟨by rw[aJ (Ne.symm mvn)];exact N9.ins,by rw[aJ (Ne.symm mvd)];exact N9.dic,by rw[aJ (Ne.symm mvl)];exact N9.met⟩
   ·rw[aM,hXs];simp [cV,kZ]
   ·rw[hXs];simp [cV,g6]
  ·subst g2
   rw[List.append_nil]at g1
   have eM:lE b m (bB b j).1=dn.foldl (cV b m) ([],(bB b j).1):=by unfold lE;rw[g1]
   have hdn:dn.length<=16:=by rw[<-g1];exact hfsz
   have eG:bB b (j+1)=((lE b m (bB b j).1).2,(bB b j).2++[(m,(lE b m (bB b j).1).1)]):=by
    simp only[bB,pV]
    rw[if_pos dP,ej,hmg];rfl
   have nd8:dM nd=some (.lst ((bB b j).2.map eS)):=g3 nd _ (by simp [ndl,ndd,Ne.symm mvnd]) nd7
   walk_at"st"
   rw[aE nd8]
   refine⟨True.intro,?_⟩
   rw[aE g5]
   refine⟨by simp only[List.length_map];omega,?_⟩
   rw[aE nd8]
   refine⟨by simp only[List.length_map];omega,?_⟩
   simp only[aH]
   refine⟨mm-1,by omega,j+1,_,_,_,by rw[eG];simp;omega,by omega,by rw[eG];simp [ej],rfl,?_,?_,?_⟩
   ·intro a o e
    have and':a≠nd:=fun z=>by rw[z,nd2]at e;cases e
    have al:a≠l:=fun z=>by rw[z,hl2]at e;cases e
    have ad:a≠dd:=fun z=>by rw[z,hd2]at e;cases e
    have am:a≠mv:=fun z=>by rw[z,mv2]at e;cases e
    rw[aJ and']
    exact g3 a o (by simp [al,ad,am]) (x7 _ _ (x6 _ _ (x5 _ _ e)))
   ·rw[eG,eM]
    exact⟨by rw[aJ (Ne.symm ndn)];exact g4.ins,by rw[aJ (Ne.symm ndd)];exact g4.dic,by rw[aJ (Ne.symm ndl)];exact g4.met⟩
   ·rw[aM,eG,eM];simp [eS]
 ·have hc:¬(((bB b j).2.map eS).length:Int)<((bB b j).1.map bN).length:=by simp only[List.length_map];omega
  rw[if_neg (by simpa using hc)]
  walk_at"st"
  have hfin:vN b=(bB b j).2:=by
   unfold vN
   have:=DK b dP (17-j)
   rw[show j+(17-j)=17 by omega]at this
   rw[this]
  refine hQ nd aA ?_ ((x1.trans x2).trans x5) (by rw[hfin];exact nd5)
  exact jF (x1.trans x2) nd2
end
end L3
end
section
namespace L3
open PySem
noncomputable def qF:Fn:=⟨3,3,[.ret (.bi .all [(.comp 1 [1,2] [0] true none [(.ix (.v 0) (.c (.int 1)))] [] (.and_ (.cmp .isnot (.ix (.v 1) (.ix (.v 0) (.c (.int 2)))) (.c .non)) (.cmp .lt (.ix (.v 1) (.ix (.v 0) (.c (.int 2)))) (.v 2))))])]⟩
noncomputable abbrev Rk:=List (Option Nat)
noncomputable def rD:Option Nat->D
 |none=>.non
 |some t=>.int (t:Nat)
noncomputable def bC (R:Rk)(i:Nat):Option Nat:=(R[i]?).getD none
noncomputable abbrev Mv:=List Bool×List iX
noncomputable def dA (R:Rk)(t:Nat)(m:Mv):Bool:=m.2.all fun a=>(bC R a.2.2).any fun r=>decide (r<t)
noncomputable def vQ (n:Nat)(m:Mv):Prop:=m.2.length<=1000/\∀ a∈m.2,a.2.2<n
theorem nX (o:Option Nat):vG (rD o)=o.isNone:=by cases o<;>rfl
section
variable {G:Prog}{k i q:Nat}{st:aB}{Q:VK}{E:XK}{R:Rk}
theorem pS (hq:st q=some (.lst (R.map rD))){j:Nat}(hj:j<R.length):mH (.ref q) (.int (j:Nat)) st Q=Q (rD (bC R j)) st:=by
 rw[dF hq,eI (by simpa using hj),List.getElem?_map,List.getElem?_eq_getElem hj]
 simp [cS,bC,hj]
theorem J2 (h:G.fns i=some qF){m:Mv}{t:Nat}(hq:st q=some (.lst (R.map rD)))(hm:vQ R.length m)(hQ:∀ aA,Ext st aA->Q (.bl (dA R t m)) aA):aN G (k+1) i [kZ m,.ref q,.int (t:Nat)] st Q E:=by
 have hL:aY=16777216:=rfl
 have h1:=hm.1
 rw[aV h]
 simp only[qF,start,kZ]
 refine⟨rfl,?_⟩
 walk_at"st"
 refine dS jN (fun a=>.bl ((bC R a.2.2).any fun r=>decide (r<t))) m.2 [] st (fun _ _ _ ha=>by cases ha) (fun a ha aS K y1 hK=>?_) (by simp only[List.length_nil];omega) fun aG y2=>?_
 ·have hj:=hm.2 a ha
  have hq1:=y1 _ _ hq
  simp only[jN]
  walk_at"ex"
  rw[pS hq1 hj,nX]
  have:=hK aS .refl
  cases hr:bC R a.2.2 with
  |none =>
   rw[hr]at this
   walk_at"ex"
   exact this
  |some r =>
   rw[hr]at this
   walk_at"ex"
   rw[pS hq1 hj,hr]
   simp only[rD]
   walk_at"ex"
   have e:decide ((r:Int)<(t:Int))=decide (r<t):=by simp
   rw[e]
   exact this
 rw[List.nil_append]
 refine bU (by simp only[List.length_map];omega) fun pp aU y3 hpp pM=>?_
 walk_at"ex"
 rw[aE pM,oA,aX,List.all_map]
 exact hQ aU (y2.trans y3)
end
noncomputable def fD (gm:List Node)(R:Rk)(k:Nat):Bool:=(bC R k).isNone&&((gm[k]?).map (·.2)).any fun ms=>ms.any fun m=>m.2.all fun a=>(bC R a.2.2).isSome
noncomputable def A3 (gm:List Node)(t:Nat)(R:Rk):Rk:=(List.range gm.length).map fun k=>if fD gm R k=true then some t else bC R k
noncomputable def rk (gm:List Node):Nat->Rk
 |0=>List.replicate gm.length none
 |t+1=>A3 gm (t+1) (rk gm t)
theorem uL (gm:List Node)(t:Nat)(R:Rk):(A3 gm t R).length=gm.length:=by simp [A3]
theorem lG (gm:List Node):∀ t,(rk gm t).length=gm.length
 |0=>by simp [rk]
 |t+1=>uL _ _ _
theorem kK (gm:List Node)(t:Nat)(R:Rk){k:Nat}(hk:k<gm.length):bC (A3 gm t R) k=if fD gm R k=true then some t else bC R k:=by
 simp only[bC,A3,List.getElem?_map]
 rw[List.getElem?_range hk];rfl
theorem qD {R:Rk}{k:Nat}(h:R.length<=k):bC R k=none:=by
 simp [bC,List.getElem?_eq_none h]
theorem CH (gm:List Node):∀(t k r:Nat),bC (rk gm t) k=some r->r<=t
 |0,k,r,h=>by
  have:bC (rk gm 0) k=none:=by
   by_cases hk:k<gm.length
   ·simp [bC,rk,hk]
   ·exact qD (by rw[lG];omega)
  rw[this]at h;cases h
 |t+1,k,r,h=>by
  by_cases hk:k<gm.length
  ·rw[rk,kK _ _ _ hk]at h
   split at h
   ·cases h;exact Nat.le_refl _
   ·exact Nat.le_succ_of_le (CH gm t k r h)
  ·rw[qD (by rw[lG];omega)]at h;cases h
theorem MZ (gm:List Node){t k r:Nat}(h:bC (rk gm t) k=some r):∀ j,bC (rk gm (t+j)) k=some r
 |0=>h
 |j+1=>by
  have ih:=MZ gm h j
  have hk:k<gm.length:=by
   refine Nat.lt_of_not_le fun z=>?_
   rw[qD (by rw[lG];exact z)]at ih;cases ih
  show bC (A3 gm _ (rk gm (t+j))) k=_
  rw[kK _ _ _ hk,if_neg (by simp [fD,ih]),ih]
theorem yI {A B:Rk}(hl:A.length=B.length)(h:∀ k,k<A.length->bC A k=bC B k):A=B:=by
 refine List.ext_getElem hl fun k h1 h2=>?_
 have:=h k h1
 simpa [bC,h1,h2]using this
theorem QC (gm:List Node){t:Nat}(h:∀ k,k<gm.length->fD gm (rk gm t) k=false):∀ j,rk gm (t+j)=rk gm t
 |0=>rfl
 |j+1=>by
  have ih:=QC gm h j
  show A3 gm _ (rk gm (t+j))=_
  rw[ih]
  refine yI (by rw[uL,lG]) fun k hk=>?_
  rw[uL]at hk
  rw[kK _ _ _ hk,if_neg (by rw[h k hk];decide)]
noncomputable def B2 (gm:List Node)(R:Rk):Nat:=((List.range gm.length).filter fun k=>(bC R k).isSome).length
theorem EM (gm:List Node)(R:Rk):B2 gm R<=gm.length:=by
 have:=List.length_filter_le (fun k=>(bC R k).isSome) (List.range gm.length)
 simpa [B2]using this
theorem KW {α:Type}(p q:α->Bool):∀(l:List α),(∀ x∈l,p x=true->q x=true)->∀ x∈l,p x=false->q x=true->(l.filter p).length<(l.filter q).length
 |[],_,x,hx,_,_=>by cases hx
 |a::l,hpq,x,hx,h1,h2=>by
  have le:(l.filter p).length<=(l.filter q).length:=by
   have hh:∀(m:List α),(∀ x∈m,p x=true->q x=true)->(m.filter p).length<=(m.filter q).length:=by
    intro m
    induction m with
    |nil=>intro _;exact Nat.le_refl _
    |cons b m ih =>
     intro hm
     have h3:=ih fun x hx=>hm x (by simp [hx])
     cases hb:p b with
     |true=>simp only[List.filter_cons,hb,hm b (by simp) hb,if_true,List.length_cons];omega
     |false =>
      cases hq:q b with
      |true=>simp [List.filter_cons,hb,hq];omega
      |false=>simp [List.filter_cons,hb,hq];omega
   exact hh l fun x hx=>hpq x (by simp [hx])
  rcases List.mem_cons.mp hx with e|hx'
  ·subst e
   simp [List.filter_cons,h1,h2];omega
  ·have ih:=KW p q l (fun x hx=>hpq x (by simp [hx])) x hx' h1 h2
   cases hb:p a with
   |true=>simp only[List.filter_cons,hb,hpq a (by simp) hb,if_true,List.length_cons];omega
   |false =>
    cases hq:q a with
    |true=>simp [List.filter_cons,hb,hq];omega
    |false=>simp [List.filter_cons,hb,hq];omega
theorem Q1 (gm:List Node)(t:Nat){R:Rk}{k:Nat}(hk:k<gm.length)(h:fD gm R k=true):B2 gm R<B2 gm (A3 gm t R):=by
 refine KW _ _ _ (fun x hx hp=>?_) k (by simpa using hk) ?_ ?_
 ·rw[kK _ _ _ (by simpa using hx)]
  split
  ·rfl
  ·exact hp
 ·simp only[fD,Bool.and_eq_true]at h
  cases hr:bC R k with
  |none=>rfl
  |some r=>rw[hr]at h;simp at h
 ·rw[kK _ _ _ hk,if_pos h];rfl
theorem P9 (gm:List Node):∀(t k r:Nat),bC (rk gm t) k=some r->∃ n,gm[k]? = some n/\∃ m∈n.2,dA (rk gm t) r m=true
 |0,k,r,h=>by have:=CH gm 0 k r h;exact absurd h (by
   have:bC (rk gm 0) k=none:=by
    by_cases hk:k<gm.length
    ·simp [bC,rk,hk]
    ·exact qD (by rw[lG];omega)
   rw[this];intro z;cases z)
 |t+1,k,r,h=>by
  have hk:k<gm.length:=by
   refine Nat.lt_of_not_le fun z=>?_
   rw[qD (by rw[lG];exact z)]at h;cases h
  have up:∀ m:Mv,∀ r',dA (rk gm t) r' m=true->dA (rk gm (t+1)) r' m=true:=fun m r' hm=>by
   simp only[dA,List.all_eq_true]at hm ⊢
   intro a ha
   have:=hm a ha
   cases hr:bC (rk gm t) a.2.2 with
   |none=>rw[hr]at this;cases this
   |some x=>rw[MZ gm hr 1];rw[hr]at this;exact this
  rw[rk,kK _ _ _ hk]at h
  split at h
  ·rename_i hn
   cases h
   simp only[fD,Bool.and_eq_true]at hn
   cases hg:gm[k]? with
   |none=>rw[hg]at hn;simp at hn
   |some n =>
    rw[hg]at hn
    simp only[Option.map_some,Option.any_some,List.any_eq_true,List.all_eq_true]at hn
    obtain⟨_,m,hm,ha⟩:=hn
    refine⟨n,rfl,m,hm,up m _ ?_⟩
    simp only[dA,List.all_eq_true]
    intro a ha'
    have h1:=ha a ha'
    cases hr:bC (rk gm t) a.2.2 with
    |none=>rw[hr]at h1;cases h1
    |some x=>have:=CH gm t _ _ hr;simp;omega
  ·obtain⟨n,hn,m,hm,hl⟩:=P9 gm t k r h
   exact⟨n,hn,m,hm,up m r hl⟩
theorem PU (gm:List Node)(t:Nat)(m:Mv):dA (rk gm t) (t+1) m=m.2.all fun a=>(bC (rk gm t) a.2.2).isSome:=by
 unfold dA
 congr 1
 funext a
 cases hr:bC (rk gm t) a.2.2 with
 |none=>rfl
 |some x=>have:=CH gm t _ _ hr;simp;omega
end L3
end
section
namespace L3
open PySem
noncomputable def yJ (il:Nat):Fn:=⟨1,5,[.asg (.nm 1) (.comp 1 [] [0] true none [(.v 0)] [] (.c .non)),.asg (.nm 2) (.c (.int 1)),.whl (.c (.bl true)) [.asg (.nm 3) (.comp 2 [1,2] [0,1] false (some .enum) [(.v 0)] [(.and_ (.cmp .is_ (.ix (.v 2) (.v 0)) (.c .non)) (.bi .any [(.comp 1 [2,3] [0] true none [(.ix (.v 1) (.c (.int 1)))] [] (.call il [(.v 0),(.v 1),(.v 2)]))]))] (.v 0)),.iff (.not_ (.v 3)) [.ret (.v 1)] [],.iB (.nm 4) none [(.v 3)] [.asg (.ix (.v 1) (.v 4)) (.v 2)],.asg (.nm 2) (.bin .add (.v 2) (.c (.int 1)))]]⟩
structure KI (gm:List Node):Prop where
 GR:gm.length<=1000
 mv:∀ n∈gm,n.2.length<=1000
 an:∀ n∈gm,∀ m∈n.2,vQ gm.length m
noncomputable def gG (gm:List Node)(k:Nat):Node:=(gm[k]?).getD ([],[])
theorem D3 {gm:List Node}{k:Nat}(h:k<gm.length):gm[k]? = some (gG gm k):=by simp [gG,h]
theorem vP {gm:List Node}{k:Nat}(h:k<gm.length):gG gm k∈gm:=List.mem_of_getElem? (D3 h)
theorem BH {gm:List Node}{R:Rk}{k:Nat}(h:k<gm.length):fD gm R k=((bC R k).isNone&&(gG gm k).2.any fun m=>m.2.all fun a=>(bC R a.2.2).isSome):=by
 simp [fD,D3 h]
theorem CC (f:Node->D):∀(l:List Node)(s:Nat),lM s (l.map f)=(List.range l.length).map fun k=>D.tup [.int ((s+k:Nat)),f (gG l k)]
 |[],s=>rfl
 |x::l,s=>by
  rw[List.map_cons,lM,CC f l,List.length_cons,List.range_succ_eq_map,List.map_cons,List.map_map]
  congr 1
  refine List.map_congr_left fun k hk=>?_
  simp only[Function.comp,gG,List.getElem?_cons_succ]
  rw[show s+1+k=s+k.succ by omega]
noncomputable def found (gm:List Node)(R:Rk):List Nat:=(List.range gm.length).filter (fD gm R)
theorem RQ (p:Nat->Bool):∀ l:List Nat,(l.filterMap fun k=>if p k=true then some (D.int (k:Nat))else none)=(l.filter p).map fun k=>D.int (k:Nat)
 |[]=>rfl
 |a::l=>by
  rw[List.filterMap_cons,List.filter_cons,RQ p l]
  cases p a<;>rfl
noncomputable def zC (R:Rk)(t:Nat)(l:List Nat):Rk:=l.foldl (fun R k=>R.set k (some t)) R
theorem BK (R:Rk)(t:Nat)(l:List Nat):(zC R t l).length=R.length:=by
 induction l generalizing R with
 |nil=>rfl
 |cons a l ih=>show(zC (R.set a (some t)) t l).length=_;rw[ih,List.length_set]
theorem LR (t:Nat):∀(l:List Nat)(R:Rk)(k:Nat),k<R.length->bC (zC R t l) k=if k∈l then some t else bC R k
 |[],R,k,_=>by simp [zC]
 |a::l,R,k,h=>by
  show bC (zC (R.set a (some t)) t l) k=_
  rw[LR t l _ k (by rw[List.length_set];exact h)]
  by_cases h1:k∈l
  ·rw[if_pos h1,if_pos (by simp [h1])]
  ·rw[if_neg h1]
   by_cases h2:k=a
   ·subst h2;simp [bC,h]
   ·rw[if_neg (by simp [h1,h2])]
    simp only[bC];rw[List.getElem?_set_ne (Ne.symm h2)]
theorem NL (gm:List Node)(t:Nat){R:Rk}(hR:R.length=gm.length):zC R t (found gm R)=A3 gm t R:=by
 refine yI (by rw[BK,uL,hR]) fun k hk=>?_
 rw[BK,hR]at hk
 rw[LR _ _ _ _ (by omega),kK _ _ _ hk]
 by_cases h:fD gm R k=true
 ·rw[if_pos h,if_pos (by simp [found,hk,h])]
 ·rw[if_neg h,if_neg (by simp [found,h])]
theorem CM (R:Rk)(k t:Nat):(R.map rD).set k (.int (t:Nat))=(R.set k (some t)).map rD:=by
 rw[List.map_set];rfl
theorem L6 {n k:Nat}(h:k<n):mI n (k:Int)=some k:=by
 unfold mI
 rw[if_pos (by omega),if_pos (by omega)]
 simp
section
variable {G:Prog}{k i il p:Nat}{st:aB}{Q:VK}{E:XK}{gm:List Node}
theorem JY (h:G.fns i=some (yJ il))(hl:G.fns il=some qF)(hp:st p=some (.lst (gm.map eS)))(hg:KI gm)(hQ:∀ q aA,st q=none->Ext st aA->aA q=some (.lst ((rk gm gm.length).map rD))->Q (.ref q) aA):aN G (k+2) i [.ref p] st Q E:=by
 have hL:aY=16777216:=rfl
 have g1:=hg.GR
 rw[aV h]
 simp only[yJ,start]
 refine⟨rfl,?_⟩
 walk_at"st"
 rw[aE hp]
 refine dS eS (fun _=>D.non) gm [] st (fun aS y a ha=>?_) (fun a ha aS K y1 hK=>?_) (by simp only[List.length_nil];omega) fun aG y2=>?_
 ·simp only[List.mem_singleton]at ha
  subst ha
  rw[hp,y _ _ hp]
 ·walk_at"ex"
  exact hK aS .refl
 rw[List.nil_append]
 refine bU (by simp only[List.length_map];omega) fun q aU y3 hq hq3=>?_
 have e0:(gm.map fun _=>D.non)=(rk gm 0).map rD:=by
  simp only[rk,List.map_replicate,rD];exact List.map_const' ..
 rw[e0]at hq3
 walk_at"ex"
 walk_at"st"
 have y23:=y2.trans y3
 have hp3:=y23 _ _ hp
 have hq0:st q=none:=jF y2 hq
 have pq:p≠q:=fun z=>by rw[<-z,hp]at hq0;cases hq0
 refine fF ?_
 refine uZ (oZ G (Nat.le_refl _)) (I:=fun mm σ aA=>∃ t o3 o4,mm+t=gm.length/\t<=B2 gm (rk gm t)/\σ=[some (.ref p),some (.ref q),some (.int ((t+1:Nat))),o3,o4]/\Ext st aA/\aA q=some (.lst ((rk gm t).map rD))) ?_ (m:=gm.length) ⟨0,none,none,rfl,Nat.zero_le _,rfl,y23,hq3⟩
 rintro mm σ cC ⟨t,o3,o4,e1,e2,e3,x4,q4⟩
 subst e3
 have p4:=x4 _ _ hp
 have hRl:=lG gm t
 walk_at"ex"
 walk_at"st"
 rw[UI,aE p4,CC]
 refine kF (fun k:Nat=>D.tup [.int ((0+k:Nat)),eS (gG gm k)]) (fun k=>if fD gm (rk gm t) k=true then some (D.int (k:Nat))else none) (List.range gm.length) [] cC (fun aS y a ha=>?_) (fun j hj aS K y1 hK=>?_) (by simp only[List.length_nil,List.length_range];omega) fun dC y5=>?_
 ·simp only[List.mem_singleton]at ha
  subst ha
  rw[p4,y _ _ p4]
 ·have hj':j<gm.length:=by simpa using hj
  have q5:=y1 _ _ q4
  simp only[eS,Nat.zero_add]
  walk_at"ex"
  rw[pS q5 (by omega),nX]
  have hk:=hK aS .refl
  rw[BH hj']at hk
  rw[BH hj']at hK
  cases hr:bC (rk gm t) j with
  |some r =>
   rw[hr]at hk
   walk_at"ex"
   simpa using hk
  |none =>
   rw[hr]at hK
   walk_at"ex"
   have hn:=vP hj'
   have hmv:=hg.mv _ hn
   refine dS kZ (fun m=>.bl (dA (rk gm t) (t+1) m)) (gG gm j).2 [] aS (fun _ _ _ ha=>by cases ha) (fun m hm fN K' y6 hK'=>?_) (by simp only[List.length_nil];omega) fun mM y7=>?_
   ·walk_at"ex"
    exact J2 hl (y6 _ _ q5) (by rw[hRl];exact hg.an _ hn m hm) fun dM y8=>hK' dM y8
   rw[List.nil_append]
   refine bU (by simp only[List.length_map];omega) fun u dM y8 hu hu8=>?_
   walk_at"ex"
   rw[aE hu8,oA,aX,List.any_map]
   walk_at"ex"
   have:=hK dM (y7.trans y8)
   simp only[PU,Function.comp_def,id,Option.isNone_none,Bool.true_and]at this ⊢
   cases hv:((gG gm j).2.any fun m=>m.2.all fun a=>(bC (rk gm t) a.2.2).isSome)with
   |true=>rw[hv]at this;simpa using this
   |false=>rw[hv]at this;simpa using this
 rw[List.nil_append,RQ]
 refine bU (by simp only[List.length_map];have:=List.length_filter_le (fD gm (rk gm t)) (List.range gm.length);simp only[List.length_range]at this;omega) fun f fN y6 hf hf6=>?_
 walk_at"ex"
 walk_at"st"
 rw[ME,dI hf6]
 have q6:=y6 _ _ (y5 _ _ q4)
 have x6:=x4.trans (y5.trans y6)
 have fq:f≠q:=fun z=>by rw[z,y5 _ _ q4]at hf;cases hf
 have hf0:(List.range gm.length).filter (fD gm (rk gm t))=found gm (rk gm t):=rfl
 rw[hf0]at hf6 ⊢
 cases hz:found gm (rk gm t)with
 |nil =>
  walk_at"ex"
  simp only[List.isEmpty_nil,Bool.not_true,Bool.not_false,if_true]
  walk_at"st"
  have hnew:∀ k,k<gm.length->fD gm (rk gm t) k=false:=fun k hk=>by
   cases hn:fD gm (rk gm t) k with
   |false=>rfl
   |true =>
    have:k∈found gm (rk gm t):=by simp [found,hk,hn]
    rw[hz]at this;cases this
  have:=QC gm hnew (gm.length-t)
  have hc:=EM gm (rk gm t)
  rw[show t+(gm.length-t)=gm.length by omega]at this
  exact hQ q fN hq0 x6 (by rw[this];exact q6)
 |cons c r =>
  rw[<-hz]
  walk_at"ex"
  have hne:((found gm (rk gm t)).map fun k=>D.int (k:Nat)).isEmpty=false:=by rw[hz];rfl
  rw[hne]
  simp only[Bool.not_false,Bool.not_true,Bool.false_eq_true,if_false,aH]
  walk_at"st"
  rw[aE hf6]
  have hin:∀ k∈found gm (rk gm t),k<gm.length:=fun k hk=>by
   have:=(List.mem_filter.mp hk).1;simpa using this
  refine gO (fun k:Nat=>D.int (k:Nat)) (I:=fun rest σ aA=>∃ dn o4,found gm (rk gm t)=dn++rest/\σ=[some (.ref p),some (.ref q),some (.int ((t+1:Nat))),some (.ref f),o4]/\aZ [q] fN aA/\aA q=some (.lst ((zC (rk gm t) (t+1) dn).map rD))) (fun rest σ aA h=>?_) (fun x rest σ aA M h hM=>?_) (fun σ aA h=>?_) _ _ _ ⟨[],o4,rfl,rfl,.refl,q6⟩
  ·obtain⟨dn,o4,e4,e5,k7,q7⟩:=h
   intro a ha
   simp only[List.mem_singleton]at ha
   subst ha
   rw[hf6,k7 _ _ (by simp [fq]) hf6]
  ·obtain⟨dn,o4,e4,e5,k7,q7⟩:=h
   subst e5
   have hx:x<gm.length:=hin x (by rw[e4];simp)
   walk_at"st"
   rw[aE q7,L6 (by rw[List.length_map,BK,hRl];exact hx),aX,CM]
   simp only[aH]
   refine hM _ _ ⟨dn++[x],_,by simp [e4],rfl,k7.trans (aZ.put (by simp)),?_⟩
   rw[aM]
   simp [zC]
  ·obtain⟨dn,o4,e4,e5,k7,q7⟩:=h
   subst e5
   rw[List.append_nil]at e4
   rw[<-e4,NL gm _ hRl]at q7
   walk_at"st"
   simp only[aH]
   have hc:=EM gm (rk gm t)
   have hcf:c∈found gm (rk gm t):=by rw[hz];simp
   have hcm:B2 gm (rk gm t)<B2 gm (rk gm (t+1)):=Q1 gm (t+1) (k:=c) (hin c hcf) (List.mem_filter.mp hcf).2
   have hc2:=EM gm (rk gm (t+1))
   refine⟨mm-1,by omega,t+1,_,_,by omega,by omega,rfl,?_,q7⟩
   exact qZ x6 k7 (fun a ha=>by simp only[List.mem_singleton]at ha;rw[ha];exact hq0)
end
end L3
end
section
namespace L3
open PySem
noncomputable def CI:Fn:=⟨1,7,[.asg (.nm 1) (.comp 1 [] [0] true none [(.v 0)] [] (.c .non)),.iB (.nm 2) (some .range) [(.c (.int 1)),(.bin .add (.bi .len [(.v 0)]) (.c (.int 1)))] [.asg (.nm 3) (.bi .list [(.v 1)]),.iB (.nm 4) (some .range) [(.bi .len [(.v 0)])] [.iB (.tp [5,6]) none [(.ix (.ix (.v 0) (.v 4)) (.c (.int 1)))] [.iff (.and_ (.cmp .is_ (.ix (.v 3) (.v 4)) (.c .non)) (.cmp .eq (.comp 1 [3] [0] true none [(.v 6)] [(.cmp .is_ (.ix (.v 1) (.ix (.v 0) (.c (.int 2)))) (.c .non))] (.v 0)) (.lst []))) [.asg (.ix (.v 1) (.v 4)) (.v 2)] []]]],.ret (.v 1)]⟩
theorem LJ (lo:Nat)(n:Nat):gE (lo:Int) n=(List.range n).map fun k=>D.int ((lo+k:Nat)):=by
 unfold gE;congr 1
theorem WD {st:aB}{p:Nat}{gm:List Node}{Q:VK}(hp:st p=some (.lst (gm.map eS))){j:Nat}(hj:j<gm.length):mH (.ref p) (.int (j:Nat)) st Q=Q (eS (gG gm j)) st:=by
 rw[dF hp,eI (by simpa using hj),List.getElem?_map,D3 hj];rfl
noncomputable def allB (R:Rk)(m:Mv):Bool:=m.2.all fun a=>(bC R a.2.2).isSome
theorem MF (R:Rk):∀ l:List iX,(l.filterMap fun a=>if(bC R a.2.2).isNone=true then some (jN a)else none)=(l.filter fun a=>(bC R a.2.2).isNone).map jN
 |[]=>rfl
 |a::l=>by
  rw[List.filterMap_cons,List.filter_cons,MF R l]
  cases (bC R a.2.2).isNone<;>rfl
theorem MY (R:Rk):∀ l:List iX,((l.filter fun a=>(bC R a.2.2).isNone).map jN).isEmpty=l.all fun a=>(bC R a.2.2).isSome
 |[]=>rfl
 |a::l=>by
  rw[List.filter_cons,List.all_cons]
  cases hr:bC R a.2.2 with
  |none=>rfl
  |some r=>simp only[Option.isNone_some,Bool.false_eq_true,if_false,Option.isSome_some,Bool.true_and];exact MY R l
theorem oM {α:Type}(f:α->D){n:Nat}(h:∀ x,bE (f x)=true/\cH (f x)<=n):∀ l:List α,bP (l.map f)=true/\cJ (l.map f)<=n
 |[]=>⟨rfl,Nat.zero_le _⟩
 |a::l=>by
  have h1:=h a
  have h2:=oM f h l
  simp only[List.map_cons,bP,h1.1,h2.1,Bool.and_self,cJ,true_and]
  omega
theorem XO (a:iX):bE (jN a)=true/\cH (jN a)<=2:=by
 have h:=M0 a.1
 simp only[jN,bE,bP,vS,Bool.and_self,cH,cJ,true_and];omega
theorem jA {st:aB}{p n:Nat}{ds:List D}(h:st p=some (.lst ds))(hp:bP ds=true/\cJ ds<=n)(hn:n<=lT):plainS st (.ref p):=by
 refine⟨?_,Nat.zero_le _⟩
 simp only[gI,h,VY,hp.1,Bool.true_and,decide_eq_true_eq]
 exact Nat.le_trans hp.2 hn
theorem eq_empty {st:aB}{p u:Nat}{ds:List D}(h:st p=some (.lst ds))(hu:st u=some (.lst [])):bR st (.ref p) (.ref u)=ds.isEmpty:=by
 simp only[bR,h,hu,A8]
 cases ds<;>rfl
noncomputable def nG (gm:List Node)(t:Nat)(R:Rk)(k:Nat):Rk:=(List.range gm.length).map fun j=>if fD gm R j=true/\j<k then some t else bC R j
theorem kS (gm:List Node)(t:Nat)(R:Rk)(k:Nat):(nG gm t R k).length=gm.length:=by simp [nG]
theorem uE (gm:List Node)(t:Nat)(R:Rk){k j:Nat}(hj:j<gm.length):bC (nG gm t R k) j=if fD gm R j=true/\j<k then some t else bC R j:=by
 simp only[bC,nG,List.getElem?_map]
 rw[List.getElem?_range hj];rfl
theorem Ec (gm:List Node)(t:Nat){R:Rk}(hR:R.length=gm.length):nG gm t R 0=R:=by
 refine yI (by rw[kS,hR]) fun j hj=>?_
 rw[kS]at hj
 rw[uE _ _ _ hj,if_neg (by omega)]
theorem Fo (gm:List Node)(t:Nat){R:Rk}(hR:R.length=gm.length):nG gm t R gm.length=A3 gm t R:=by
 refine yI (by rw[kS,uL]) fun j hj=>?_
 rw[kS]at hj
 rw[uE _ _ _ hj,kK _ _ _ hj]
 by_cases h:fD gm R j=true
 ·rw[if_pos ⟨h,hj⟩,if_pos h]
 ·rw[if_neg (fun z=>h z.1),if_neg h]
noncomputable def uX (gm:List Node)(t:Nat)(R:Rk)(k:Nat)(b:Bool):Rk:=if b=true then(nG gm t R k).set k (some t)else nG gm t R k
theorem BN (gm:List Node)(t:Nat)(R:Rk)(k:Nat)(b:Bool):(uX gm t R k b).length=gm.length:=by
 unfold uX;split
 ·rw[List.length_set,kS]
 ·exact kS ..
theorem SK (gm:List Node)(t:Nat)(R:Rk)(k:Nat)(b:Bool):(uX gm t R k b).set k (some t)=uX gm t R k true:=by
 cases b
 ·rfl
 ·show((nG gm t R k).set k (some t)).set k (some t)=(nG gm t R k).set k (some t)
  rw[List.set_set]
theorem UU (gm:List Node)(t:Nat){R:Rk}{k:Nat}(hk:k<gm.length):uX gm t R k (fD gm R k)=nG gm t R (k+1):=by
 refine yI (by rw[BN,kS]) fun j hj=>?_
 rw[BN]at hj
 unfold uX
 rw[uE _ _ _ hj]
 split
 ·rename_i hn
  by_cases hjk:k=j
  ·subst hjk
   rw[if_pos ⟨hn,by omega⟩]
   simp only[bC];rw[List.getElem?_set_self (by rw[kS];exact hk)];rfl
  ·have e:bC ((nG gm t R k).set k (some t)) j=bC (nG gm t R k) j:=by simp only[bC];rw[List.getElem?_set_ne hjk]
   rw[e,uE _ _ _ hj]
   by_cases h:fD gm R j=true/\j<k
   ·rw[if_pos h,if_pos ⟨h.1,by omega⟩]
   ·rw[if_neg h,if_neg (fun z=>h ⟨z.1,by omega⟩)]
 ·rename_i hn
  rw[uE _ _ _ hj]
  by_cases h:fD gm R j=true/\j<k
  ·rw[if_pos h,if_pos ⟨h.1,by omega⟩]
  ·rw[if_neg h,if_neg (fun z=>h ⟨z.1,by
    have:j≠k:=fun e=>hn (e▸z.1)
    omega⟩)]
section
variable {G:Prog}{k i il p:Nat}{st:aB}{Q:VK}{E:XK}{gm:List Node}
theorem Cq (h:G.fns i=some CI)(hp:st p=some (.lst (gm.map eS)))(hg:KI gm)(hQ:∀ q aA,st q=none->Ext st aA->aA q=some (.lst ((rk gm gm.length).map rD))->Q (.ref q) aA):aN G (k+1) i [.ref p] st Q E:=by
 have hL:aY=16777216:=rfl
 have g1:=hg.GR
 rw[aV h]
 simp only[CI,start]
 refine⟨rfl,?_⟩
 walk_at"st"
 rw[aE hp]
 refine dS eS (fun _=>D.non) gm [] st (fun aS y a ha=>?_) (fun a ha aS K y1 hK=>?_) (by simp only[List.length_nil];omega) fun aG y2=>?_
 ·simp only[List.mem_singleton]at ha
  subst ha
  rw[hp,y _ _ hp]
 ·walk_at"ex"
  exact hK aS .refl
 rw[List.nil_append]
 refine bU (by simp only[List.length_map];omega) fun q aU y3 hq hq3=>?_
 have e0:(gm.map fun _=>D.non)=(rk gm 0).map rD:=by
  simp only[rk,List.map_replicate,rD];exact List.map_const' ..
 rw[e0]at hq3
 have y23:=y2.trans y3
 have hp3:=y23 _ _ hp
 have hq0:st q=none:=jF y2 hq
 have pq:p≠q:=fun z=>by rw[<-z,hp]at hq0;cases hq0
 walk_at"ex"
 walk_at"st"
 rw[dI hp3]
 walk_at"ex"
 simp only[List.length_map]
 refine⟨by unfold eY;omega,by unfold eY;omega,?_⟩
 rw[show((gm.length:Int)+1-1).toNat=gm.length by omega,show(1:Int)=((1:Nat):Int)from rfl,LJ]
 refine gO (fun t:Nat=>D.int ((1+t:Nat))) (I:=fun rest σ aA=>∃ t o2 o3 o4 o5 o6,rest=List.range' t (gm.length-t)/\t<=gm.length/\σ=[some (.ref p),some (.ref q),o2,o3,o4,o5,o6]/\Ext st aA/\aA q=some (.lst ((rk gm t).map rD))) (fun rest σ aA h=>fun a ha=>by cases ha) (fun x rest σ cC M h hM=>?_) (fun σ aA h=>?_) _ _ _ ⟨0,none,none,none,none,none,by rw[List.range_eq_range'];rfl,Nat.zero_le _,rfl,y23,hq3⟩
 ·obtain⟨t,o2,o3,o4,o5,o6,e1,e2,e3,x4,q4⟩:=h
  subst e3
  have htl:t<gm.length:=by
   refine Nat.lt_of_not_le fun z=>?_
   rw[show gm.length-t=0 by omega]at e1;cases e1
  rw[show gm.length-t=(gm.length-(t+1))+1 by omega,List.range'_succ]at e1
  injection e1 with e1 e1'
  subst e1
  have p4:=x4 _ _ hp
  have hRl:=lG gm x
  walk_at"st"
  rw[aE q4]
  refine bU (by simp only[List.length_map];omega) fun u dC y5 hu hu5=>?_
  walk_at"ex"
  have p5:=y5 _ _ p4
  have q5:=y5 _ _ q4
  have uq:u≠q:=fun z=>by rw[z,q4]at hu;cases hu
  have up:u≠p:=fun z=>by rw[z,p4]at hu;cases hu
  have iO:st u=none:=jF x4 hu
  walk_at"st"
  rw[dI p5]
  walk_at"ex"
  simp only[List.length_map]
  refine⟨by unfold eY;omega,?_⟩
  rw[show((gm.length:Int)).toNat=gm.length by omega,sE]
  refine gO (fun j:Nat=>D.int (j:Nat)) (I:=fun rest σ aA=>∃ j o4 o5 o6,rest=List.range' j (gm.length-j)/\j<=gm.length/\σ=[some (.ref p),some (.ref q),some (.int ((1+x:Nat))),some (.ref u),o4,o5,o6]/\aZ [q] dC aA/\aA q=some (.lst ((nG gm (x+1) (rk gm x) j).map rD))) (fun rest σ aA h=>fun a ha=>by cases ha) (fun j rest σ fN M' h hM'=>?_) (fun σ aA h=>?_) _ _ _ ⟨0,o4,o5,o6,by rw[List.range_eq_range'];rfl,Nat.zero_le _,rfl,.refl,by rw[Ec _ _ hRl];exact q5⟩
  ·obtain⟨j',o4,o5,o6,f1,f2,f3,k6,q6⟩:=h
   subst f3
   have hjl:j'<gm.length:=by
    refine Nat.lt_of_not_le fun z=>?_
    rw[show gm.length-j'=0 by omega]at f1;cases f1
   rw[show gm.length-j'=(gm.length-(j'+1))+1 by omega,List.range'_succ]at f1
   injection f1 with f1 f1'
   subst f1
   have p6:=k6 _ _ (by simp [pq]) p5
   have u6:=k6 _ _ (by simp [uq]) hu5
   have hn:=vP hjl
   walk_at"st"
   rw[WD p6 hjl]
   simp only[eS]
   walk_at"ex"
   refine gO kZ (I:=fun rest σ aA=>∃ dn o5 o6,(gG gm j).2=dn++rest/\σ=[some (.ref p),some (.ref q),some (.int ((1+x:Nat))),some (.ref u),some (.int (j:Nat)),o5,o6]/\aZ [q] fN aA/\aA q=some (.lst ((uX gm (x+1) (rk gm x) j ((bC (rk gm x) j).isNone&&dn.any (allB (rk gm x)))).map rD))) (fun rest σ aA h=>fun a ha=>by cases ha) (fun m rest σ mM M2 h hM2=>?_) (fun σ aA h=>?_) _ _ _ ⟨[],o5,o6,rfl,rfl,.refl,by rw[List.any_nil,Bool.and_false];exact q6⟩
   ·obtain⟨dn,o5,o6,d1,d2,k7,q7⟩:=h
    subst d2
    have u7:=k7 _ _ (by simp [uq]) u6
    have hmm:m∈(gG gm j).2:=by rw[d1];simp
    have hmo:=hg.an _ hn m hmm
    have hm1:=hmo.1
    simp only[kZ]
    walk_at"ex"
    walk_at"st"
    rw[pS u7 (by omega),nX]
    walk_at"ex"
    cases hr:bC (rk gm x) j with
    |some r =>
     simp only[Option.isNone_some,Bool.false_eq_true,if_false,aH]
     walk_at"ex"
     rw[hr]at q7
     exact hM2 _ _ ⟨dn++[m],_,_,by simp [d1],rfl,k7,by simpa [hr]using q7⟩
    |none =>
     simp only[Option.isNone_none,if_true]
     walk_at"ex"
     refine kF jN (fun a=>if(bC (rk gm x) a.2.2).isNone=true then some (jN a)else none) m.2 [] mM (fun _ _ _ ha=>by cases ha) (fun a ha dM K y8 hK=>?_) (by simp only[List.length_nil];omega) fun dM y8=>?_
     ·have hK':=hK dM .refl
      simp only[jN]at hK' ⊢
      walk_at"ex"
      rw[pS (y8 _ _ u7) (by rw[hRl];exact hmo.2 a ha),nX]
      walk_at"ex"
      cases hv:(bC (rk gm x) a.2.2).isNone with
      |true=>rw[hv]at hK';simpa using hK'
      |false=>rw[hv]at hK';simpa using hK'
     rw[List.nil_append,MF]
     refine bU (by have:=List.length_filter_le (fun a:iX=>(bC (rk gm x) a.2.2).isNone) m.2;simp only[List.length_map];omega) fun v rM y9 hv hv9=>?_
     refine bU (by simp) fun w K3 y10 hw hw10=>?_
     have v10:=y10 _ _ hv9
     refine⟨jA v10 (oM jN XO _) (by decide),jA hw10 (n:=0) ⟨rfl,Nat.le_refl _⟩ (by decide),?_⟩
     rw[eq_empty v10 hw10,MY]
     walk_at"ex"
     have y710:=y8.trans (y9.trans y10)
     have q10:=y710 _ _ q7
     have hre:(bC (rk gm x) j).isNone=true:=by rw[hr];rfl
     have eA:(m.2.all fun a=>(bC (rk gm x) a.2.2).isSome)=allB (rk gm x) m:=rfl
     rw[hre,Bool.true_and]at q10
     rw[eA]
     cases hv:allB (rk gm x) m with
     |false =>
      simp only[Bool.false_eq_true,if_false,aH]
      refine hM2 _ _ ⟨dn++[m],_,_,by simp [d1],rfl,k7.trans y710.keep,?_⟩
      rw[hre,Bool.true_and,List.any_append,List.any_cons,List.any_nil,hv,Bool.or_false,Bool.or_false]
      exact q10
     |true =>
      simp only[if_true]
      walk_at"st"
      rw[aE q10,L6 (by rw[List.length_map,BN];exact hjl),aX,CM,show ∀ b,(uX gm (x+1) (rk gm x) j b).set j (some (1+x))=uX gm (x+1) (rk gm x) j true from fun b=>by rw[Nat.add_comm 1 x,SK]]
      simp only[aH]
      refine hM2 _ _ ⟨dn++[m],_,_,by simp [d1],rfl,(k7.trans y710.keep).trans (aZ.put (by simp)),?_⟩
      rw[aM,hre,Bool.true_and,List.any_append,List.any_cons,List.any_nil,hv,Bool.or_false,Bool.or_true]
   ·obtain⟨dn,o5,o6,d1,d2,k7,q7⟩:=h
    subst d2
    rw[List.append_nil]at d1
    simp only[aH]
    refine hM' _ _ ⟨j+1,_,_,_,f1',by omega,rfl,k6.trans k7,?_⟩
    rw[<-UU _ _ hjl,BH hjl,d1]
    exact q7
  ·obtain⟨j',o4,o5,o6,f1,f2,f3,k6,q6⟩:=h
   subst f3
   have hj:j'=gm.length:=by
    have:=congrArg List.length f1
    simp at this;omega
   subst hj
   rw[Fo _ _ hRl]at q6
   simp only[aH]
   refine hM _ _ ⟨x+1,_,_,_,_,_,e1',by omega,rfl,?_,q6⟩
   exact qZ (x4.trans y5) k6 (fun a ha=>by simp only[List.mem_singleton]at ha;rw[ha];exact hq0)
 ·obtain⟨t,o2,o3,o4,o5,o6,e1,e2,e3,x4,q4⟩:=h
  subst e3
  have ht:t=gm.length:=by
   have:=congrArg List.length e1
   simp at this;omega
  subst ht
  walk_at"st"
  exact hQ q _ hq0 x4 q4
end
end L3
end
section
namespace L3
open PySem
noncomputable def EW (iga ilt:Nat):Fn:=⟨1,1,[.ret (.call ilt [(.call iga [(.v 0)])])]⟩
noncomputable def KG (il:Nat):Fn:=⟨3,3,[.iff (.cmp .is_ (.v 2) (.c .non)) [.ret (.c .non)] [],.ret (.ix (.comp 1 [1,2] [0] true none [(.v 0)] [(.call il [(.v 0),(.v 1),(.v 2)])] (.ix (.v 0) (.c (.int 0)))) (.c (.int 0)))]⟩
noncomputable def OW (iga ilt ibm:Nat):Fn:=⟨1,3,[.asg (.nm 1) (.call iga [(.v 0)]),.asg (.nm 2) (.call ilt [(.v 1)]),.ret (.comp 2 [2] [0,1] false (some .zip) [(.v 1),(.v 2)] [] (.call ibm [(.ix (.v 0) (.c (.int 1))),(.v 2),(.v 1)]))]⟩
theorem vQ.more {n n':Nat}{m:Mv}(h:vQ n m)(hn:n<=n'):vQ n' m:=⟨h.1,fun a ha=>Nat.lt_of_lt_of_le (h.2 a ha) hn⟩
theorem QP {b:Bk}{m bT:List Bool}:∀(l:List (List Bool))(x:List iX×List (List Bool)),(∀ a∈x.1,a.2.2<x.2.length)->∀ a∈(l.foldl (cK b m bT) x).1,a.2.2<(l.foldl (cK b m bT) x).2.length
 |[],_,h=>h
 |fr::l,x,h=>by
  refine QP l (cK b m bT x fr) ?_
  unfold cK
  split
  ·intro a ha
   rcases List.mem_append.mp ha with ha|ha
   ·exact Nat.lt_of_lt_of_le (h a ha) (G0 _ _)
   ·simp only[List.mem_singleton]at ha
    subst ha
    exact List.idxOf_lt_length_of_mem (BG _ _)
  ·exact h
theorem MP {b:Bk}{m bT:List Bool}:∀(l:List (List Bool))(x:List iX×List (List Bool)),(l.foldl (cK b m bT) x).1.length<=x.1.length+l.length
 |[],_=>Nat.le_refl _
 |fr::l,x=>by
  have ih:=MP (b:=b) (m:=m) (bT:=bT) l (cK b m bT x fr)
  have h1:(cK b m bT x fr).1.length<=x.1.length+1:=by
   unfold cK;split
   ·simp
   ·exact Nat.le_succ _
  simp only[List.foldl_cons,List.length_cons];omega
theorem LU {b:Bk}{m:List Bool}:∀(l:List (List Bool))(x:List Mv×List (List Bool)),(l.foldl (cV b m) x).1.length<=x.1.length+l.length
 |[],_=>Nat.le_refl _
 |fr::l,x=>by
  have ih:=LU (b:=b) (m:=m) l (cV b m x fr)
  have h1:(cV b m x fr).1.length=x.1.length+1:=by simp [cV]
  simp only[List.foldl_cons,List.length_cons];omega
theorem RH {b:Bk}(g2:b.gs.length<=2){m:List Bool}:∀(l:List (List Bool))(x:List Mv×List (List Bool)),(∀ v∈x.1,vQ x.2.length v)->∀ v∈(l.foldl (cV b m) x).1,vQ (l.foldl (cV b m) x).2.length v
 |[],_,h=>h
 |bT::l,x,h=>by
  refine RH g2 l (cV b m x bT) fun v hv=>?_
  simp only[cV]at hv ⊢
  rcases List.mem_append.mp hv with hv|hv
  ·exact(h v hv).more (B3 _ ([],x.2))
  ·simp only[List.mem_singleton]at hv
   subst hv
   refine⟨?_,QP _ _ (by simp)⟩
   have h1:=MP (b:=b) (m:=m) (bT:=bT) (cZ b.gs.length) ([],x.2)
   have h2:=EE (t:=b.gs.length) (by omega)
   simp only[List.length_nil]at h1
   show(kG b m bT x.2).1.length<=1000
   unfold kG;omega
theorem FY {b:Bk}(B:b.Ok):∀ j,∀ n∈(bB b j).2,n.2.length<=1000/\∀ v∈n.2,vQ (bB b j).1.length v
 |0=>by intro n hn;cases hn
 |j+1=>by
  have ih:=FY B j
  simp only[bB,pV]
  split
  ·intro n hn
   rcases List.mem_append.mp hn with hn|hn
   ·exact⟨(ih n hn).1,fun v hv=>((ih n hn).2 v hv).more (CO _)⟩
   ·simp only[List.mem_singleton]at hn
    subst hn
    refine⟨?_,RH B.g2 _ _ (by simp)⟩
    generalize ((bB b j).1[(bB b j).2.length]?).getD []=m
    have h1:=LU (b:=b) (m:=m) (mW b m) ([],(bB b j).1)
    have h2:=List.length_filter_le (fun bT=>iT b.ps (b.vm m (bT++List.replicate b.gs.length false))) (cZ b.fs.length)
    have h3:=EE (t:=b.fs.length) (by have:=B.f2;omega)
    simp only[List.length_nil]at h1
    show(lE b m (bB b j).1).1.length<=1000
    unfold lE
    have h4:(mW b m).length<=(cZ b.fs.length).length:=h2
    omega
  ·exact ih
theorem YL {b:Bk}(B:b.Ok)(lB:b.aK.length<=4):KI (vN b):=by
 have h1:=(xZ b 17).GR lB
 have h2:=sP b lB 17
 have h3:=AZ b lB 17
 have h4:=FY B 17
 have e:(bB b 17).2.length=(bB b 17).1.length:=by omega
 refine⟨by unfold vN;omega,fun n hn=>(h4 n hn).1,fun n hn v hv=>?_⟩
 have:=(h4 n hn).2 v hv
 rw[<-e]at this
 exact this
noncomputable def pK (R:Rk)(ms:List Mv):Option Nat->D
 |none=>.non
 |some r=>((ms.filter (dA R r)).head?.map fun m=>bN m.1).getD .non
theorem TF (R:Rk)(ms:List Mv)(o:Option Nat):bE (pK R ms o)=true/\cH (pK R ms o)<=1:=by
 cases o with
 |none=>exact⟨rfl,Nat.zero_le _⟩
 |some r =>
 simp only[pK]
 cases (ms.filter (dA R r)).head? with
 |none=>exact⟨rfl,Nat.zero_le _⟩
 |some m=>exact⟨vS m.1,M0 m.1⟩
theorem RZ (p:Mv->Bool):∀ l:List Mv,(l.filterMap fun m=>if p m=true then some (bN m.1)else none)=(l.filter p).map fun m=>bN m.1
 |[]=>rfl
 |a::l=>by
  rw[List.filterMap_cons,List.filter_cons,RZ p l]
  cases p a<;>rfl
theorem KU {R:Rk}{ms:List Mv}{r:Nat}(h:∃ m∈ms,dA R r m=true):∃ x l,(ms.filter (dA R r)).map (fun m=>bN m.1)=x::l/\pK R ms (some r)=x:=by
 obtain⟨m,hm,hl⟩:=h
 have hin:m∈ms.filter (dA R r):=List.mem_filter.mpr ⟨hm,hl⟩
 cases hf:ms.filter (dA R r)with
 |nil=>rw[hf]at hin;cases hin
 |cons a l=>exact⟨bN a.1,l.map fun m=>bN m.1,rfl,by simp [pK,hf]⟩
section
variable {G:Prog}{k i il q:Nat}{st:aB}{Q:VK}{E:XK}{R:Rk}
theorem Gc (h:G.fns i=some (KG il))(hl:G.fns il=some qF){ms:List Mv}(hq:st q=some (.lst (R.map rD)))(hm:∀ m∈ms,vQ R.length m)(hms:ms.length<=1000){o:Option Nat}(ho:∀ r,o=some r->∃ m∈ms,dA R r m=true)(hQ:∀ aA,Ext st aA->Q (pK R ms o) aA):aN G (k+2) i [.tup (ms.map kZ),.ref q,rD o] st Q E:=by
 have hL:aY=16777216:=rfl
 rw[aV h]
 simp only[KG,start]
 refine⟨rfl,?_⟩
 cases o with
 |none =>
 simp only[rD]
 walk_at"st"
 simp only[vG,if_true]
 walk_at"st"
 exact hQ st .refl
 |some r =>
 simp only[rD]
 walk_at"st"
 simp only[vG,Bool.false_eq_true,if_false,aH]
 walk_at"st"
 refine kF kZ (fun m=>if dA R r m=true then some (bN m.1)else none) ms [] st (fun _ _ _ ha=>by cases ha) (fun m hmm aG K y2 hK=>?_) (by simp only[List.length_nil];omega) fun aG y2=>?_
 ·walk_at"ex"
  refine J2 (k:=k) hl (y2 _ _ hq) (hm m hmm) fun aU y3=>?_
  walk_at"ex"
  have:=hK aU y3
  cases hv:dA R r m with
  |true =>
  rw[hv]at this
  simp only[if_true,kZ]at this ⊢
  walk_at"ex"
  exact this
  |false=>rw[hv]at this;simpa using this
 rw[List.nil_append,RZ]
 obtain⟨x,l,e1,e2⟩:=KU (ho r rfl)
 refine bU (by have:=List.length_filter_le (dA R r) ms;simp only[List.length_map];omega) fun u aU y3 hu hu3=>?_
 walk_at"ex"
 rw[dF hu3,e1,yA,aX,<-e2]
 exact hQ aU (y2.trans y3)
end
theorem FH:∀(gm:List Node)(R:Rk),R.length=gm.length->zip2 (gm.map eS) (R.map rD)=(List.range gm.length).map fun k=>D.tup [eS (gG gm k),rD (bC R k)]
 |[],R,h=>by cases R with
  |nil=>rfl
  |cons _ _=>cases h
 |n::gm,R,h=>by
  cases R with
  |nil=>cases h
  |cons r R =>
   simp only[List.map_cons,zip2]
   rw[FH gm R (by simpa using h),List.length_cons,List.range_succ_eq_map,List.map_cons,List.map_map]
   rfl
noncomputable def NP (gm:List Node):List D:=(List.range gm.length).map fun k=>pK (rk gm gm.length) (gG gm k).2 (bC (rk gm gm.length) k)
theorem SV (gm:List Node):bP (NP gm)=true/\cJ (NP gm)<=1:=oM (fun k=>pK (rk gm gm.length) (gG gm k).2 (bC (rk gm gm.length) k)) (fun k=>TF ..) _
theorem P5 (gm:List Node){k r:Nat}(h:bC (rk gm gm.length) k=some r):∃ m∈(gG gm k).2,dA (rk gm gm.length) r m=true:=by
 obtain⟨n,e,m,hm,hl⟩:=P9 gm _ _ _ h
 refine⟨m,?_,hl⟩
 simp only[gG,e];exact hm
section
variable {G:Prog}{k i il ilt ibm p:Nat}{st:aB}{Q:VK}{E:XK}{gm:List Node}
theorem O8 (dP:G.fns ilt=some (yJ il))(hl:G.fns il=some qF)(hbm:G.fns ibm=some (KG il))(hp:st p=some (.lst (gm.map eS)))(hg:KI gm){b:D}{P:gB}(hQ:∀ q aA,st q=none->Ext st aA->aA q=some (.lst (NP gm))->P.rt (.ref q) aA):
  cM (aN G (k+2)) G.sub [.asg (.nm 2) (.call ilt [(.v 1)]),.ret (.comp 2 [2] [0,1] false (some .zip) [(.v 1),(.v 2)] [] (.call ibm [(.ix (.v 0) (.c (.int 1))),(.v 2),(.v 1)]))] P [some b,some (.ref p),none] st:=by
 have hL:aY=16777216:=rfl
 have g1:=hg.GR
 walk_at"st"
 refine JY (k:=k) dP hl hp hg fun q aG hq x2 hq2=>?_
 walk_at"ex"
 have p2:=x2 _ _ hp
 have hRl:=lG gm gm.length
 walk_at"st"
 rw[XC,aE p2,aE hq2,FH _ _ hRl]
 refine dS (fun j:Nat=>D.tup [eS (gG gm j),rD (bC (rk gm gm.length) j)]) (fun j=>pK (rk gm gm.length) (gG gm j).2 (bC (rk gm gm.length) j)) (List.range gm.length) [] aG (fun aS y a ha=>?_) (fun j hj aU K y3 hK=>?_) (by simp only[List.length_nil,List.length_range];omega) fun aU y3=>?_
 ·simp only[List.mem_cons,List.not_mem_nil,or_false]at ha
  rcases ha with ha|ha
  ·subst ha;rw[p2,y _ _ p2]
  ·subst ha;rw[hq2,y _ _ hq2]
 ·have hj':j<gm.length:=by simpa using hj
  have hn:=vP hj'
  simp only[eS]
  walk_at"ex"
  refine Gc (k:=k) hbm hl (y3 _ _ hq2) (by rw[hRl];exact hg.an _ hn) (hg.mv _ hn) (fun r hr=>P5 gm hr) fun cC y4=>hK cC y4
 rw[List.nil_append]
 refine bU (by simp only[List.length_map,List.length_range];omega) fun u cC y4 hu hu4=>?_
 exact hQ u cC (jF (x2.trans y3) hu) (x2.trans (y3.trans y4)) hu4
end
end L3
end
section
namespace L3
open PySem
noncomputable def K1 (ibo iga irk iln ibs:Nat):Fn:=⟨1,10,[.asg (.nm 1) (.call ibo [(.v 0),(.c (.int 0)),(.c (.int 3)),(.c (.int 3))]),.asg (.nm 2) (.call iga [(.v 1)]),.asg (.nm 3) (.call irk [(.v 2)]),.iff (.cmp .ne (.call iln [(.v 1)]) (.v 3)) [.ret (.c (.bl false))] [],.asg (.nm 4) (.lst []),.iB (.nm 5) (some .range) [(.bi .len [(.v 2)])] [.asg (.nm 6) (.lst [(.c .non)]),.iff (.cmp .isnot (.ix (.v 3) (.v 5)) (.c .non)) [.asg (.nm 6) (.lst []),.iB (.tp [7,8]) none [(.ix (.ix (.v 2) (.v 5)) (.c (.int 1)))] [.iff (.cmp .eq (.comp 3 [3,5] [0,1,2] false none [(.v 8)] [(.or_ (.cmp .is_ (.ix (.v 3) (.v 2)) (.c .non)) (.cmp .ge (.ix (.v 3) (.v 2)) (.ix (.v 3) (.v 4))))] (.v 2)) (.lst [])) [.ex (.cI .append (.v 6) [(.v 7)])] []]] [],.ex (.cI .append (.v 4) [(.ix (.v 6) (.c (.int 0)))])],.asg (.nm 9) (.call ibs [(.v 1)]),.ret (.and_ (.isi (.v 9) [.list]) (.cmp .eq (.v 9) (.v 4)))]⟩
noncomputable def tI (R:Rk)(r:Nat)(a:iX):Bool:=(bC R a.2.2).all fun x=>decide (r<=x)
theorem MJ (R:Rk)(r:Nat):∀ l:List iX,(l.filterMap fun a=>if tI R r a=true then some (D.int (a.2.2:Nat))else none)=(l.filter (tI R r)).map fun a=>D.int (a.2.2:Nat)
 |[]=>rfl
 |a::l=>by
  rw[List.filterMap_cons,List.filter_cons,MJ R r l]
  cases tI R r a<;>rfl
theorem WY (R:Rk)(r:Nat)(l:List iX):((l.filter (tI R r)).map fun a=>D.int (a.2.2:Nat)).isEmpty=l.all fun a=>(bC R a.2.2).any fun x=>decide (x<r):=by
 induction l with
 |nil=>rfl
 |cons a l ih =>
 rw[List.filter_cons,List.all_cons]
 have e:((bC R a.2.2).any fun x=>decide (x<r)) = !tI R r a:=by
  unfold tI
  cases bC R a.2.2 with
  |none=>rfl
  |some x =>
  simp only[Option.any_some,Option.all_some]
  by_cases hx:x<r
  ·rw[decide_eq_true hx,decide_eq_false (by omega)];rfl
  ·rw[decide_eq_false hx,decide_eq_true (by omega)];rfl
 rw[e]
 cases hb:tI R r a with
 |true=>rfl
 |false=>simpa using ih
theorem UD (a:iX):bE (D.int (a.2.2:Nat))=true/\cH (D.int (a.2.2:Nat))<=0:=⟨rfl,Nat.le_refl _⟩
theorem W7 (o:Option Nat):bE (rD o)=true/\cH (rD o)<=0:=by cases o<;>exact⟨rfl,Nat.le_refl _⟩
noncomputable def LO:List Sx:=[.asg (.nm 6) (.lst [(.c .non)]),.iff (.cmp .isnot (.ix (.v 3) (.v 5)) (.c .non)) [.asg (.nm 6) (.lst []),.iB (.tp [7,8]) none [(.ix (.ix (.v 2) (.v 5)) (.c (.int 1)))] [.iff (.cmp .eq (.comp 3 [3,5] [0,1,2] false none [(.v 8)] [(.or_ (.cmp .is_ (.ix (.v 3) (.v 2)) (.c .non)) (.cmp .ge (.ix (.v 3) (.v 2)) (.ix (.v 3) (.v 4))))] (.v 2)) (.lst [])) [.ex (.cI .append (.v 6) [(.v 7)])] []]] [],.ex (.cI .append (.v 4) [(.ix (.v 6) (.c (.int 0)))])]
section
variable {C:bH}{sub:Nat->Nat->Bool}{p q u:Nat}{st:aB}{gm:List Node}{P:gB}{d0 d1:D}
theorem M4 {s:Nat}{ds:List D}{x:D}{l:List D}{o7 o8:Option D}{j:Nat}(hs:st s=some (.lst (x::l)))(hu:st u=some (.lst ds))(hd:ds.length<=1000)(hP:P.nx [some d0,some d1,some (.ref p),some (.ref q),some (.ref u),some (.int (j:Nat)),some (.ref s),o7,o8,none] (put st u (.lst (ds++[x])))):
 cM C sub [.ex (.cI .append (.v 4) [(.ix (.v 6) (.c (.int 0)))])] P [some d0,some d1,some (.ref p),some (.ref q),some (.ref u),some (.int (j:Nat)),some (.ref s),o7,o8,none] st:=by
 have hL:aY=16777216:=rfl
 walk_at"st"
 rw[aE hu]
 refine⟨True.intro,?_⟩
 rw[dF hs,yA,aX]
 walk_at"ex"
 rw[aE hu]
 refine⟨by omega,?_⟩
 simp only[aH]
 exact hP
theorem US {j:Nat}{ds:List D}{o6 o7 o8:Option D}(hj:j<gm.length)(hg:KI gm)(hp:st p=some (.lst (gm.map eS)))(hq:st q=some (.lst ((rk gm gm.length).map rD)))(hu:st u=some (.lst ds))(hd:ds.length<=1000)
  (hP:∀ aA o6 o7 o8,aZ [u] st aA->aA u=some (.lst (ds++[pK (rk gm gm.length) (gG gm j).2 (bC (rk gm gm.length) j)]))->P.nx [some d0,some d1,some (.ref p),some (.ref q),some (.ref u),some (.int (j:Nat)),o6,o7,o8,none] aA):
  cM C sub LO P [some d0,some d1,some (.ref p),some (.ref q),some (.ref u),some (.int (j:Nat)),o6,o7,o8,none] st:=by
 have hL:aY=16777216:=rfl
 have hRl:=lG gm gm.length
 have hn:=vP hj
 have hmv:=hg.mv _ hn
 unfold LO
 walk_at"st"
 refine bU (by show 1<=aY;decide) fun s aG x2 hs hs2=>?_
 walk_at"ex"
 have q2:=x2 _ _ hq
 walk_at"st"
 rw[pS q2 (by omega),nX]
 walk_at"ex"
 cases hr:bC (rk gm gm.length) j with
 |none =>
  simp only[Option.isNone_none,Bool.not_true,Bool.false_eq_true,if_false,aH]
  refine M4 hs2 (x2 _ _ hu) hd (hP _ _ _ _ (x2.keep.trans (aZ.put (by simp))) ?_)
  rw[aM,hr];rfl
 |some r =>
  simp only[Option.isNone_some,Bool.not_false,if_true]
  walk_at"st"
  refine bU (by simp) fun v aU x3 hv hv3=>?_
  walk_at"ex"
  have x23:=x2.trans x3
  have p3:=x23 _ _ hp
  have q3:=x23 _ _ hq
  have u3:=x23 _ _ hu
  have hv0:st v=none:=jF x2 hv
  have vq:q≠v:=fun z=>by rw[<-z,hq]at hv0;cases hv0
  have vu:u≠v:=fun z=>by rw[<-z,hu]at hv0;cases hv0
  walk_at"st"
  rw[WD p3 hj]
  simp only[eS]
  walk_at"ex"
  refine gO kZ (I:=fun rest σ aA=>∃ dn o7 o8,(gG gm j).2=dn++rest/\σ=[some d0,some d1,some (.ref p),some (.ref q),some (.ref u),some (.int (j:Nat)),some (.ref v),o7,o8,none]/\aZ [v] aU aA/\aA v=some (.lst ((dn.filter (dA (rk gm gm.length) r)).map fun m=>bN m.1))) (fun rest σ aA h=>fun a ha=>by cases ha) (fun m rest σ cC M h hM=>?_) (fun σ aA h=>?_) _ _ _ ⟨[],o7,o8,rfl,rfl,.refl,hv3⟩
  ·obtain⟨dn,o7,o8,e1,e2,k4,v4⟩:=h
   subst e2
   have q4:=k4 _ _ (by simp [vq]) q3
   have hmm:m∈(gG gm j).2:=by rw[e1];simp
   have hmo:=hg.an _ hn m hmm
   have hm1:=hmo.1
   have hdn:dn.length<=1000:=by rw[e1]at hmv;simp at hmv;omega
   simp only[kZ]
   walk_at"ex"
   walk_at"st"
   refine kF jN (fun a=>if tI (rk gm gm.length) r a=true then some (D.int (a.2.2:Nat))else none) m.2 [] cC (fun _ _ _ ha=>by cases ha) (fun a ha dC K y5 hK=>?_) (by simp only[List.length_nil];omega) fun dC y5=>?_
   ·have hK':=hK dC .refl
    have q5:=y5 _ _ q4
    have hal:a.2.2<(rk gm gm.length).length:=by rw[hRl];exact hmo.2 a ha
    simp only[jN]
    walk_at"ex"
    rw[pS q5 hal,nX]
    walk_at"ex"
    unfold tI at hK'
    cases hx:bC (rk gm gm.length) a.2.2 with
    |none =>
     rw[hx]at hK'
     simp only[Option.isNone_none,if_true]
     walk_at"ex"
     simpa using hK'
    |some x =>
     rw[hx]at hK'
     simp only[Option.isNone_some,Bool.false_eq_true,if_false]
     walk_at"ex"
     rw[pS q5 hal,hx,pS q5 (by omega),hr]
     simp only[rD]
     walk_at"ex"
     by_cases hxr:r<=x
     ·simp [hxr]at hK' ⊢
      exact hK'
     ·simp [hxr]at hK' ⊢
      exact hK'
   rw[List.nil_append,MJ]
   refine bU (by have:=List.length_filter_le (tI (rk gm gm.length) r) m.2;simp only[List.length_map];omega) fun w fN y6 hw hw6=>?_
   refine bU (by simp) fun z mM y7 hz hz7=>?_
   have w7:=y7 _ _ hw6
   refine⟨jA w7 (oM (fun a:iX=>D.int (a.2.2:Nat)) UD _) (by decide),jA hz7 (n:=0) ⟨rfl,Nat.le_refl _⟩ (by decide),?_⟩
   rw[eq_empty w7 hz7,WY]
   have eA:(m.2.all fun a=>(bC (rk gm gm.length) a.2.2).any fun x=>decide (x<r))=dA (rk gm gm.length) r m:=rfl
   rw[eA]
   walk_at"ex"
   have y47:=y5.trans (y6.trans y7)
   have v7:=y47 _ _ v4
   cases hb:dA (rk gm gm.length) r m with
   |false =>
    simp only[Bool.false_eq_true,if_false,aH]
    refine hM _ _ ⟨dn++[m],_,_,by simp [e1],rfl,k4.trans y47.keep,?_⟩
    rw[List.filter_append,List.filter_cons,hb,List.filter_nil];simpa using v7
   |true =>
    simp only[if_true]
    walk_at"st"
    rw[aE v7]
    refine⟨True.intro,?_⟩
    rw[aE v7]
    refine⟨by have:=List.length_filter_le (dA (rk gm gm.length) r) dn;simp only[List.length_map];omega,?_⟩
    simp only[aH]
    refine hM _ _ ⟨dn++[m],_,_,by simp [e1],rfl,(k4.trans y47.keep).trans (aZ.put (by simp)),?_⟩
    rw[aM,List.filter_append,List.filter_cons,hb,List.filter_nil];simp
  ·obtain⟨dn,o7,o8,e1,e2,k4,v4⟩:=h
   subst e2
   rw[List.append_nil]at e1
   obtain⟨x,l,f1,f2⟩:=KU (P5 gm hr)
   rw[<-e1,f1]at v4
   simp only[aH]
   refine M4 v4 (k4 _ _ (by simp [vu]) u3) hd (hP _ _ _ _ ?_ ?_)
   ·intro a o na e
    have av:a≠v:=fun z=>by rw[z,hv0]at e;cases e
    have au:a≠u:=by simpa using na
    rw[aJ au]
    exact k4 _ _ (by simp [av]) (x23 _ _ e)
   ·rw[aM,hr,f2]
end
section
variable {G:Prog}{k il ibo iga irk iln ibs inm ic im dD is ipr ibk ich iti iri ie iw ipo iz irr io ini ifs ian jS ifk lC imk ino ima ilo iph inh ilt ilb ibm:Nat}{st:aB}{E:XK}{ns:List Int}
theorem Kd (h:G.fns il=some (K1 ibo iga irk iln ibs))(hbo:G.fns ibo=some (AA inm dD is ipr))(jC:G.fns inm=some (DI dD))(hpr:G.fns ipr=some (AD is dD))(hs:G.fns is=some (nV dD is))(hn:G.fns dD=some (rV im))(hm:G.fns im=some (nB ic))(hc:G.fns ic=some oG)
  (hga:G.fns iga=some (G4 ich iri ini ifs ian))(hch:G.fns ich=some (rG ibk))(hb:∀ b:Bk,b.Ok->fX b.says<aY->(∀ x∈b.says,aO x<=60)->(cL b.says []).length<=4->NQ G ibk 13 b)(hri:G.fns iri=some (yY iti io))(ht:G.fns iti=some (nS iz ie irr))(hz:G.fns iz=some (kP iw))(he:G.fns ie=some (qC ie iw ipo))(hw:G.fns iw=some iE)(hpo:G.fns ipo=some oW)(hrr:G.fns irr=some BZ)(hio:G.fns io=some uQ)
  (hni:G.fns ini=some C2)(hfs:G.fns ifs=some (CS jS ifk lC))(han:G.fns ian=some (J4 jS lC imk ino ima ilo))(hset:G.fns jS=some wH)(hfk:G.fns ifk=some CN)(hha:G.fns lC=some (rQ iph inh))(hnh:G.fns inh=some vA)(hph:G.fns iph=some pT)(hmk:G.fns imk=some C8)(hno:G.fns ino=some AI)(hma:G.fns ima=some BF)(hlo:G.fns ilo=some zR)
  (hrk:G.fns irk=some CI)(hln:G.fns iln=some (EW iga ilt))(hbs:G.fns ibs=some (OW iga ilt ibm))(dP:G.fns ilt=some (yJ ilb))(hlb:G.fns ilb=some qF)(hbm:G.fns ibm=some (KG ilb)):aN G (k+17) il [.bK (ns.map .int)] st (fun d _=>d=.bl true) E:=by
 have hL:aY=16777216:=rfl
 rw[aV h]
 simp only[K1,start]
 refine⟨rfl,?_⟩
 walk_at"st"
 refine XZ (k:=k+9) hbo jC hpr hs hn hm hc (by decide) (by decide) (by decide) (by decide) fun b aC DR x1=>?_
 obtain⟨F1,F2,F3,F4⟩:=O7 DR (by decide)
 have hB:=hb b DR.ok (by omega) F2 F3
 have hg:=YL DR.ok F3
 have G1:∀{k:Nat}{st:aB}{Q:VK}{E:XK},(∀ p aA,st p=none->Ext st aA->aA p=some (.lst ((vN b).map eS))->Q (.ref p) aA)->aN G (k+15) iga [b.d] st Q E:=fun hQ=>WT hga hch hB hri ht hz he hw hpo hrr hio hni hfs han hset hfk hha hnh hph hmk hno hma hlo DR.ok (by omega) F3 hQ
 generalize vN b=gm at hg G1
 have g1:=hg.GR
 generalize hbd:b.d=bd at G1 ⊢
 walk_at"ex"
 walk_at"st"
 refine G1 (k:=k+1) fun p aG hp x2 lA=>?_
 walk_at"ex"
 walk_at"st"
 refine Cq (k:=k+15) hrk lA hg fun q aU hq x3 hq3=>?_
 walk_at"ex"
 have p3:=x3 _ _ lA
 walk_at"st"
 rw[aV hln]
 simp only[EW,start]
 refine⟨rfl,?_⟩
 walk_at"st"
 refine G1 (k:=k) fun p4 cC hp4 x4 hp44=>?_
 walk_at"ex"
 refine JY (k:=k+13) dP hlb hp44 hg fun q5 dC hq5 x5 hq55=>?_
 have q5:=x5 _ _ (x4 _ _ hq3)
 have pR:=oM rD (n:=0) W7 (rk gm gm.length)
 refine⟨jA hq55 pR (by decide),jA q5 pR (by decide),?_⟩
 simp only[bR,q5,hq55,A8]
 rw[wB _ pR.1]
 walk_at"ex"
 simp only[Bool.not_true,Bool.false_eq_true,if_false,aH]
 walk_at"st"
 refine bU (by simp) fun u fN x6 hu hu6=>?_
 walk_at"ex"
 have p6:=x6 _ _ (x5 _ _ (x4 _ _ p3))
 have q6:=x6 _ _ q5
 have up:p≠u:=fun z=>by rw[<-z,x5 _ _ (x4 _ _ p3)]at hu;cases hu
 have uq:q≠u:=fun z=>by rw[<-z,q5]at hu;cases hu
 walk_at"st"
 rw[dI p6]
 walk_at"ex"
 simp only[List.length_map]
 refine⟨by unfold eY;omega,?_⟩
 rw[show((gm.length:Int)).toNat=gm.length by omega,sE]
 have hR:List.range gm.length=List.range' 0 (gm.length-0):=by rw[List.range_eq_range'];rfl
 refine gO (fun j:Nat=>D.int (j:Nat)) (I:=fun rest σ aA=>∃ j o5 o6 o7 o8,rest=List.range' j (gm.length-j)/\j<=gm.length/\σ=[some (.bK (ns.map .int)),some bd,some (.ref p),some (.ref q),some (.ref u),o5,o6,o7,o8,none]/\aZ [u] fN aA/\aA u=some (.lst ((List.range j).map fun k=>pK (rk gm gm.length) (gG gm k).2 (bC (rk gm gm.length) k)))) (fun rest σ aA h=>fun a ha=>by cases ha) (fun j rest σ mM M h hM=>?_) (fun σ aA h=>?_) _ _ _ ⟨0,none,none,none,none,hR,Nat.zero_le _,rfl,.refl,hu6⟩
 ·obtain⟨j',o5,o6,o7,o8,f1,f2,f3,k7,u7⟩:=h
  subst f3
  have hjl:j'<gm.length:=by
   refine Nat.lt_of_not_le fun z=>?_
   rw[show gm.length-j'=0 by omega]at f1;cases f1
  rw[show gm.length-j'=(gm.length-(j'+1))+1 by omega,List.range'_succ]at f1
  injection f1 with f1 f1'
  subst f1
  refine US hjl hg (k7 _ _ (by simp [up]) p6) (k7 _ _ (by simp [uq]) q6) u7 (by simp only[List.length_map,List.length_range];omega) fun dM o6 o7 o8 k8 u8=>?_
  exact hM _ _ ⟨j+1,_,_,_,_,f1',by omega,rfl,k7.trans k8,by rw[u8,List.range_succ,List.map_append];rfl⟩
 ·obtain⟨j',o5,o6,o7,o8,f1,f2,f3,k7,u7⟩:=h
  subst f3
  have hj:j'=gm.length:=by
   have:=congrArg List.length f1
   simp at this;omega
  subst hj
  walk_at"st"
  rw[aV hbs]
  simp only[OW,start]
  refine⟨rfl,?_⟩
  walk_at"st"
  refine G1 (k:=k) fun p8 dM hp8 x8 hp88=>?_
  walk_at"ex"
  refine O8 (k:=k+13) dP hlb hbm hp88 hg fun q9 rM hq9 x9 hq99=>?_
  have u9:=x9 _ _ (x8 _ _ u7)
  walk_at"ex"
  walk_at"st"
  rw[dI hq99]
  walk_at"ex"
  have pd:=SV gm
  refine⟨jA hq99 pd (by decide),jA u9 pd (by decide),?_⟩
  simp only[bR,u9,hq99,A8]
  have ed:((List.range gm.length).map fun k=>pK (rk gm gm.length) (gG gm k).2 (bC (rk gm gm.length) k))=NP gm:=rfl
  rw[ed,wB _ pd.1]
end
end L3
end
end
namespace L3
open PySem PySem.Spec PyProof.Rows L2
noncomputable def g_LETTERS:D:=(.str (W "abcdefghijklmnopqrstuvwxyz"))
noncomputable def g_LONGEST_NAME:D:=(.int 8)
noncomputable def g_NO_NAMES:D:=(.tup [(.str (W "yes")),(.str (W "no")),(.str (W "not")),(.str (W "and")),(.str (W "or")),(.str (W "then")),(.str (W "same")),(.str (W "before")),(.str (W "once")),(.str (W "sofar")),(.str (W "since")),(.str (W "foe")),(.str (W "friend")),(.str (W "promise")),(.str (W "must")),(.str (W "wish"))])
noncomputable def g_DEEPEST:D:=(.int 8)
noncomputable def g_SAYINGS_WITHIN:D:=(.cW [(.str (W "yes")),(.str (W "no")),(.str (W "not")),(.str (W "before")),(.str (W "once")),(.str (W "sofar")),(.str (W "and")),(.str (W "or")),(.str (W "then")),(.str (W "same")),(.str (W "since"))] [(.int 0),(.int 0),(.int 1),(.int 1),(.int 1),(.int 1),(.int 2),(.int 2),(.int 2),(.int 2),(.int 2)])
noncomputable def g_PAST_WORDS:D:=(.tup [(.str (W "before")),(.str (W "once")),(.str (W "sofar")),(.str (W "since"))])
noncomputable def g_MOST_LAMPS:D:=(.int 2)
noncomputable def g_MOST_PROMISES:D:=(.int 3)
noncomputable def g_MOST_MUSTS:D:=(.int 3)
noncomputable def g_MOST_WISHES:D:=(.int 5)
noncomputable def g_HIGHEST_PRICE:D:=(.int 99)
noncomputable def g_MOST_PIECES:D:=(.int 4)
noncomputable abbrev xT:Nat:=0
noncomputable abbrev tJ:Nat:=1
noncomputable abbrev kR:Nat:=2
noncomputable abbrev gQ:Nat:=3
noncomputable abbrev oC:Nat:=4
noncomputable abbrev lV:Nat:=5
noncomputable abbrev BC:Nat:=6
noncomputable abbrev pJ:Nat:=7
noncomputable abbrev pA:Nat:=8
noncomputable abbrev tW:Nat:=9
noncomputable abbrev CV:Nat:=10
noncomputable abbrev FX:Nat:=11
noncomputable abbrev xK:Nat:=12
noncomputable abbrev nI:Nat:=13
noncomputable abbrev yL:Nat:=14
noncomputable abbrev E9:Nat:=15
noncomputable abbrev A2:Nat:=16
noncomputable abbrev xM:Nat:=17
noncomputable abbrev rB:Nat:=18
noncomputable abbrev pD:Nat:=19
noncomputable abbrev rE:Nat:=20
noncomputable abbrev lH:Nat:=21
noncomputable abbrev mN:Nat:=22
noncomputable abbrev mQ:Nat:=23
noncomputable abbrev qT:Nat:=24
noncomputable abbrev pP:Nat:=25
noncomputable abbrev mX:Nat:=26
noncomputable abbrev sG:Nat:=27
noncomputable abbrev pG:Nat:=28
noncomputable abbrev mP:Nat:=29
noncomputable abbrev mG:Nat:=30
noncomputable abbrev uF:Nat:=31
noncomputable abbrev zF:Nat:=32
noncomputable abbrev CB:Nat:=33
noncomputable abbrev nU:Nat:=34
noncomputable abbrev qV:Nat:=35
noncomputable abbrev FG:Nat:=36
noncomputable abbrev sO:Nat:=37
noncomputable abbrev qI:Nat:=38
noncomputable abbrev tR:Nat:=39
noncomputable abbrev yD:Nat:=40
noncomputable abbrev fP:Nat:=41
noncomputable abbrev zK:Nat:=42
noncomputable abbrev gA:Nat:=43
noncomputable abbrev tU:Nat:=44
noncomputable abbrev A1:Nat:=45
noncomputable abbrev xN:Nat:=46
noncomputable abbrev VO:Nat:=47
noncomputable def GY:Fn:=⟨1,1,[.iff (.or_ (.not_ (.isi (.v 0) [.str])) (.cmp .in_ (.v 0) (.c g_NO_NAMES))) [.ret (.c (.bl false))] [],.ret (.and_ (.chain .le .le (.c (.int 1)) (.bi .len [(.v 0)]) (.c g_LONGEST_NAME)) (.bi .all [(.comp 1 [] [0] true none [(.v 0)] [] (.cmp .in_ (.v 0) (.c g_LETTERS)))]))]⟩
noncomputable def A9:Fn:=⟨2,2,[.ret (.call kR [(.v 0),(.v 1),(.c g_DEEPEST)])]⟩
noncomputable def oX:Fn:=⟨3,3,[.iff (.or_ (.cmp .lt (.v 2) (.c (.int 1))) (.or_ (.not_ (.isi (.v 1) [.tuple])) (.or_ (.cmp .lt (.bi .len [(.v 1)]) (.c (.int 1))) (.not_ (.isi (.ix (.v 1) (.c (.int 0))) [.str]))))) [.ret (.c (.bl false))] [],.iff (.cmp .eq (.ix (.v 1) (.c (.int 0))) (.c (.str (W "lamp")))) [.ret (.and_ (.cmp .eq (.bi .len [(.v 1)]) (.c (.int 2))) (.and_ (.call xT [(.ix (.v 1) (.c (.int 1)))]) (.cmp .in_ (.ix (.v 1) (.c (.int 1))) (.v 0))))] [],.iff (.or_ (.cmp .jQ (.ix (.v 1) (.c (.int 0))) (.c g_SAYINGS_WITHIN)) (.cmp .ne (.bi .len [(.v 1)]) (.bin .add (.c (.int 1)) (.ix (.c g_SAYINGS_WITHIN) (.ix (.v 1) (.c (.int 0))))))) [.ret (.c (.bl false))] [],.ret (.bi .all [(.comp 1 [0,2] [0] true none [(.sl (.v 1) [(.c (.int 1))] [])] [] (.call kR [(.v 1),(.v 0),(.bin .sub (.v 2) (.c (.int 1)))]))])]⟩
noncomputable def rF:Fn:=⟨1,1,[.iff (.cmp .eq (.ix (.v 0) (.c (.int 0))) (.c (.str (W "lamp")))) [.ret (.tup [])] [],.ret (.sl (.v 0) [(.c (.int 1))] [])]⟩
noncomputable def BB:Fn:=⟨1,4,[.asg (.nm 1) (.lst []),.asg (.nm 2) (.bit .list .rev [(.v 0)]),.whl (.v 2) [.asg (.nm 3) (.cI .pop (.v 2) []),.iff (.and_ (.cmp .in_ (.ix (.v 3) (.c (.int 0))) (.c g_PAST_WORDS)) (.cmp .jQ (.v 3) (.v 1))) [.ex (.cI .append (.v 1) [(.v 3)])] [],.ex (.cI .extend (.v 2) [(.bit .list .rev [(.call gQ [(.v 3)])])])],.ret (.v 1)]⟩
noncomputable def IM:Fn:=⟨3,3,[.ret (.and_ (.isi (.v 0) [.tuple]) (.chain .le .le (.v 1) (.bi .len [(.v 0)]) (.v 2)))]⟩
noncomputable def A5:Fn:=⟨2,3,[.iff (.or_ (.not_ (.call lV [(.v 0),(.c (.int 1)),(.c g_MOST_LAMPS)])) (.not_ (.call lV [(.v 1),(.c (.int 1)),(.c g_MOST_LAMPS)]))) [.ret (.c (.bl false))] [],.asg (.nm 2) (.bin .add (.v 0) (.v 1)),.ret (.and_ (.bi .all [(.comp 1 [] [0] true none [(.v 2)] [] (.call xT [(.v 0)]))]) (.cmp .eq (.bi .rL [(.v 2)]) (.bi .len [(.v 2)])))]⟩
noncomputable def xD:Fn:=⟨3,3,[.ret (.and_ (.call lV [(.v 1),(.c (.int 0)),(.v 2)]) (.bi .all [(.comp 1 [0] [0] true none [(.v 1)] [] (.call tJ [(.v 1),(.v 0)]))]))]⟩
noncomputable def wW:Fn:=⟨2,2,[.iff (.cmp .eq (.ix (.v 1) (.c (.int 0))) (.c (.str (W "before")))) [.ret (.c (.bl false))] [],.iff (.cmp .eq (.ix (.v 1) (.c (.int 0))) (.c (.str (W "lamp")))) [.ret (.cmp .in_ (.ix (.v 1) (.c (.int 1))) (.v 0))] [],.ret (.bi .any [(.comp 1 [0] [0] true none [(.call gQ [(.v 1)])] [] (.call pA [(.v 1),(.v 0)]))])]⟩
noncomputable def uR:Fn:=⟨3,3,[.ret (.and_ (.call pJ [(.v 0),(.v 2),(.c g_MOST_PROMISES)]) (.not_ (.bi .any [(.comp 1 [1] [0] true none [(.v 2)] [] (.call pA [(.v 1),(.v 0)]))])))]⟩
noncomputable def DN:Fn:=⟨1,1,[.ret (.and_ (.isi (.v 0) [.int]) (.and_ (.not_ (.isi (.v 0) [.bool])) (.chain .le .le (.c (.int 1)) (.v 0) (.c g_HIGHEST_PRICE))))]⟩
noncomputable def FT:Fn:=⟨2,2,[.ret (.and_ (.call lV [(.v 1),(.c (.int 2)),(.c (.int 2))]) (.and_ (.call CV [(.ix (.v 1) (.c (.int 0)))]) (.call tJ [(.v 0),(.ix (.v 1) (.c (.int 1)))])))]⟩
noncomputable def yW:Fn:=⟨2,2,[.ret (.and_ (.call lV [(.v 1),(.c (.int 1)),(.c g_MOST_WISHES)]) (.bi .all [(.comp 1 [0] [0] true none [(.v 1)] [] (.call FX [(.v 1),(.v 0)]))]))]⟩
noncomputable def zN:Fn:=⟨3,3,[.ret (.bin .add (.bin .add (.bi .list [(.v 0)]) (.bi .list [(.v 1)])) (.comp 1 [] [0] true none [(.v 2)] [] (.ix (.v 0) (.c (.int 1)))))]⟩
noncomputable def FW:Fn:=⟨1,6,[.iff (.or_ (.not_ (.call lV [(.v 0),(.c (.int 5)),(.c (.int 5))])) (.not_ (.call BC [(.ix (.v 0) (.c (.int 0))),(.ix (.v 0) (.c (.int 1)))]))) [.ret (.c (.bl false))] [],.asg (.nm 1) (.ix (.v 0) (.c (.int 1))),.asg (.nm 2) (.bin .add (.ix (.v 0) (.c (.int 0))) (.v 1)),.asg (.nm 3) (.ix (.v 0) (.c (.int 2))),.asg (.nm 4) (.ix (.v 0) (.c (.int 3))),.asg (.nm 5) (.ix (.v 0) (.c (.int 4))),.iff (.or_ (.not_ (.call tW [(.v 2),(.v 1),(.v 3)])) (.not_ (.call pJ [(.v 2),(.v 4),(.c g_MOST_MUSTS)]))) [.ret (.c (.bl false))] [],.ret (.and_ (.call xK [(.v 2),(.v 5)]) (.cmp .le (.bi .len [(.call oC [(.call nI [(.v 3),(.v 4),(.v 5)])])]) (.c g_MOST_PIECES)))]⟩
noncomputable def GA:Fn:=rG yL
noncomputable def A0:Fn:=vA
noncomputable def zG:Fn:=pT
noncomputable def rH:Fn:=nS oC pD lH
noncomputable def wN:Fn:=qC pD gQ rE
noncomputable def qU:Fn:=oW
noncomputable def lJ:Fn:=BZ
noncomputable def rS:Fn:=rQ xM A2
noncomputable def mR:Fn:=BF
noncomputable def qE:Fn:=yY rB nI
noncomputable def pO:Fn:=CN
noncomputable def nC:Fn:=C8
noncomputable def sM:Fn:=zR
noncomputable def wY:Fn:=wH
noncomputable def mS:Fn:=C2
noncomputable def mC:Fn:=AI
noncomputable def uI:Fn:=CS pG pP mN
noncomputable def yG:Fn:=J4 pG mN mX mG mQ sG
noncomputable def R4:Fn:=G4 E9 qT mP uF zF
noncomputable def tO:Fn:=qF
noncomputable def xO:Fn:=yJ nU
noncomputable def GW:Fn:=EW CB qV
noncomputable def rT:Fn:=KG nU
noncomputable def qR:Fn:=OW CB qV sO
noncomputable def uA:Fn:=⟨2,2,[.iff (.cmp .lt (.v 1) (.bi .len [(.v 0)])) [.ret (.ix (.v 0) (.v 1))] [],.iff (.cmp .eq (.v 0) (.lst [])) [.ret (.c (.int 0))] [],.ret (.bin .add (.bin .mul (.ix (.v 0) (.bin .mod (.v 1) (.bi .len [(.v 0)]))) (.c (.int 31))) (.v 1))]⟩
noncomputable def xS:Fn:=⟨3,4,[.asg (.nm 3) (.bin .mod (.bin .mul (.bin .add (.bin .add (.call tR [(.v 0),(.v 1)]) (.bin .mul (.c (.int 7919)) (.v 1))) (.c (.int 1))) (.c (.int 48271))) (.c (.int 2147483647))),.ret (.bin .mod (.bin .mod (.bin .add (.bin .add (.bin .mul (.v 3) (.v 3)) (.bin .mul (.c (.int 7)) (.v 3))) (.v 1)) (.c (.int 2147483629))) (.v 2))]⟩
noncomputable def A7:Fn:=⟨3,3,[.asg (.ix (.v 1) (.c (.int 0))) (.bin .add (.ix (.v 1) (.c (.int 0))) (.c (.int 1))),.ret (.call yD [(.v 0),(.ix (.v 1) (.c (.int 0))),(.v 2)])]⟩
noncomputable def zL:Fn:=⟨2,7,[.asg (.nm 2) (.lst [(.c (.str (W "a"))),(.c (.str (W "b"))),(.c (.str (W "x"))),(.c (.str (W "y"))),(.c (.str (W "lamp"))),(.c (.str (W "far"))),(.c (.str (W "yesno"))),(.c (.str (W "abcdefgh")))]),.asg (.nm 3) (.call fP [(.v 0),(.v 1),(.c (.int 8))]),.asg (.nm 4) (.bin .add (.sl (.v 2) [(.v 3)] []) (.sl (.v 2) [] [(.v 3)])),.asg (.nm 5) (.bin .add (.c (.int 1)) (.call fP [(.v 0),(.v 1),(.c (.int 2))])),.asg (.nm 6) (.bin .add (.c (.int 1)) (.call fP [(.v 0),(.v 1),(.c (.int 2))])),.ret (.tup [(.bi .tuple [(.sl (.v 4) [] [(.v 5)])]),(.bi .tuple [(.sl (.v 4) [(.v 5)] [(.bin .add (.v 5) (.v 6))])])])]⟩
noncomputable def xI:Fn:=⟨5,7,[.asg (.nm 5) (.call fP [(.v 0),(.v 1),(.c (.int 13))]),.iff (.or_ (.cmp .eq (.v 3) (.c (.int 0))) (.cmp .lt (.v 5) (.c (.int 3)))) [.ret (.tup [(.c (.str (W "lamp"))),(.ix (.v 2) (.call fP [(.v 0),(.v 1),(.bi .len [(.v 2)])]))])] [],.iff (.cmp .eq (.v 5) (.c (.int 3))) [.ret (.tup [(.ix (.lst [(.c (.str (W "yes"))),(.c (.str (W "no")))]) (.call fP [(.v 0),(.v 1),(.c (.int 2))]))])] [],.iff (.and_ (.cmp .gt (.v 5) (.c (.int 8))) (.cmp .gt (.ix (.v 4) (.c (.int 0))) (.c (.int 0)))) [.asg (.ix (.v 4) (.c (.int 0))) (.bin .sub (.ix (.v 4) (.c (.int 0))) (.c (.int 1))),.asg (.nm 6) (.call gA [(.v 0),(.v 1),(.v 2),(.bin .sub (.v 3) (.c (.int 1))),(.v 4)]),.iff (.cmp .eq (.v 5) (.c (.int 12))) [.ret (.tup [(.c (.str (W "since"))),(.v 6),(.call gA [(.v 0),(.v 1),(.v 2),(.bin .sub (.v 3) (.c (.int 1))),(.v 4)])])] [],.ret (.tup [(.ix (.lst [(.c (.str (W "before"))),(.c (.str (W "once"))),(.c (.str (W "sofar")))]) (.bin .sub (.v 5) (.c (.int 9)))),(.v 6)])] [],.asg (.nm 6) (.call gA [(.v 0),(.v 1),(.v 2),(.bin .sub (.v 3) (.c (.int 1))),(.v 4)]),.iff (.or_ (.cmp .eq (.v 5) (.c (.int 4))) (.cmp .gt (.v 5) (.c (.int 8)))) [.ret (.tup [(.c (.str (W "not"))),(.v 6)])] [],.ret (.tup [(.ix (.lst [(.c (.str (W "and"))),(.c (.str (W "or"))),(.c (.str (W "then"))),(.c (.str (W "same")))]) (.bin .sub (.v 5) (.c (.int 5)))),(.v 6),(.call gA [(.v 0),(.v 1),(.v 2),(.bin .sub (.v 3) (.c (.int 1))),(.v 4)])])]⟩
noncomputable def tV:Fn:=AD gA fP
noncomputable def A6:Fn:=AA zK fP gA tU
noncomputable def yR:Fn:=CI
noncomputable def VG:Fn:=K1 A1 CB xN FG qI
noncomputable def Ow:Nat->Option Fn
 |0=>some GY
 |1=>some A9
 |2=>some oX
 |3=>some rF
 |4=>some BB
 |5=>some IM
 |6=>some A5
 |7=>some xD
 |8=>some wW
 |9=>some uR
 |10=>some DN
 |11=>some FT
 |12=>some yW
 |13=>some zN
 |14=>some FW
 |15=>some GA
 |16=>some A0
 |17=>some zG
 |18=>some rH
 |19=>some wN
 |20=>some qU
 |21=>some lJ
 |22=>some rS
 |23=>some mR
 |24=>some qE
 |25=>some pO
 |26=>some nC
 |27=>some sM
 |28=>some wY
 |29=>some mS
 |30=>some mC
 |31=>some uI
 |32=>some yG
 |33=>some R4
 |34=>some tO
 |35=>some xO
 |36=>some GW
 |37=>some rT
 |38=>some qR
 |39=>some uA
 |40=>some xS
 |41=>some A7
 |42=>some zL
 |43=>some xI
 |44=>some tV
 |45=>some A6
 |46=>some yR
 |47=>some VG
 |_=>none
noncomputable def Oj:Nat->Nat->Bool
 |0,0=>true
 |1,1=>true
 |1,0=>true
 |2,2=>true
 |2,1=>true
 |2,0=>true
 |_,_=>false
noncomputable def G:Prog:=⟨Ow,Oj⟩
noncomputable abbrev bd (n:Nat):Stmt:=PySem.Challenge.pw_leastloss_k10_lost_in.main.body.getD n (.Pass ⟨0,0,0,0⟩)
noncomputable def cY:Nat->Stmt
 |0=>bd 10
 |1=>bd 11
 |2=>bd 12
 |3=>bd 13
 |4=>bd 14
 |5=>bd 22
 |6=>bd 23
 |7=>bd 24
 |8=>bd 25
 |9=>bd 26
 |10=>bd 27
 |11=>bd 28
 |12=>bd 29
 |13=>bd 30
 |14=>bd 31
 |15=>bd 32
 |16=>bd 34
 |17=>bd 35
 |18=>jW (bd 36) 0
 |19=>jW (bd 36) 1
 |20=>jW (bd 36) 2
 |21=>jW (bd 36) 3
 |22=>jW (bd 36) 4
 |23=>jW (bd 36) 5
 |24=>jW (bd 37) 0
 |25=>jW (bd 37) 1
 |26=>jW (bd 37) 2
 |27=>jW (bd 37) 3
 |28=>bd 39
 |29=>jW (bd 40) 0
 |30=>jW (bd 40) 1
 |31=>bd 41
 |32=>bd 42
 |33=>bd 43
 |34=>bd 45
 |35=>bd 46
 |36=>bd 48
 |37=>bd 49
 |38=>bd 50
 |39=>bd 52
 |40=>bd 53
 |41=>bd 54
 |42=>bd 55
 |43=>bd 56
 |44=>bd 57
 |45=>bd 58
 |46=>bd 59
 |47=>bd 61
 |_=>.Pass ⟨0,0,0,0⟩
def tT:Nat->Str
 |0 =>"is_name"
 |1 =>"is_saying"
 |2 =>"is_saying_within"
 |3 =>"sayings_within"
 |4 =>"pieces_in"
 |5 =>"is_row"
 |6 =>"are_lamps"
 |7 =>"are_sayings"
 |8 =>"stands_bare"
 |9 =>"are_promises"
 |10 =>"is_price"
 |11 =>"is_wish"
 |12 =>"are_wishes"
 |13 =>"sayings_of"
 |14 =>"is_book"
 |15 =>"checked"
 |16 =>"now_holds"
 |17 =>"past_holds"
 |18 =>"__init__"
 |19 =>"enter"
 |20 =>"place_of"
 |21 =>"remembered_row"
 |22 =>"held_at"
 |23 =>"memory_after"
 |24 =>"__init__"
 |25 =>"foe_keeps"
 |26 =>"friend_keeps"
 |27 =>"loss_at"
 |28 =>"settings_of"
 |29 =>"__init__"
 |30 =>"number_of"
 |31 =>"foe_settings"
 |32 =>"answers_to"
 |33 =>"game"
 |34 =>"loses_before"
 |35 =>"lost_turns"
 |36 =>"lost_in"
 |37 =>"breaking_move"
 |38 =>"breaking_moves"
 |39 =>"_law_cell_at"
 |40 =>"_law_mixed"
 |41 =>"_law_next"
 |42 =>"_law_names"
 |43 =>"_law_saying"
 |44 =>"_law_promise"
 |45 =>"_law_book"
 |46 =>"_law_ranks"
 |47 =>"law"
 |_ =>""
def nO:Nat->Str
 |0 =>"is_name"
 |1 =>"is_saying"
 |2 =>"is_saying_within"
 |3 =>"sayings_within"
 |4 =>"pieces_in"
 |5 =>"is_row"
 |6 =>"are_lamps"
 |7 =>"are_sayings"
 |8 =>"stands_bare"
 |9 =>"are_promises"
 |10 =>"is_price"
 |11 =>"is_wish"
 |12 =>"are_wishes"
 |13 =>"sayings_of"
 |14 =>"is_book"
 |15 =>"checked"
 |16 =>"now_holds"
 |17 =>"past_holds"
 |18 =>"Table.__init__"
 |19 =>"Table.enter"
 |20 =>"Table.place_of"
 |21 =>"Table.remembered_row"
 |22 =>"Table.held_at"
 |23 =>"Table.memory_after"
 |24 =>"Rules.__init__"
 |25 =>"Rules.foe_keeps"
 |26 =>"Rules.friend_keeps"
 |27 =>"Rules.loss_at"
 |28 =>"settings_of"
 |29 =>"Numbering.__init__"
 |30 =>"Numbering.number_of"
 |31 =>"foe_settings"
 |32 =>"answers_to"
 |33 =>"game"
 |34 =>"loses_before"
 |35 =>"lost_turns"
 |36 =>"lost_in"
 |37 =>"breaking_move"
 |38 =>"breaking_moves"
 |39 =>"_law_cell_at"
 |40 =>"_law_mixed"
 |41 =>"_law_next"
 |42 =>"_law_names"
 |43 =>"_law_saying"
 |44 =>"_law_promise"
 |45 =>"_law_book"
 |46 =>"_law_ranks"
 |47 =>"law"
 |_ =>""
def rZ:Nat->At
 |0=>.top
 |1=>.top
 |2=>.top
 |3=>.top
 |4=>.top
 |5=>.top
 |6=>.top
 |7=>.top
 |8=>.top
 |9=>.top
 |10=>.top
 |11=>.top
 |12=>.top
 |13=>.top
 |14=>.top
 |15=>.top
 |16=>.top
 |17=>.top
 |18=>(.init (W "Table"))
 |19=>(.cI (W "Table"))
 |20=>(.cI (W "Table"))
 |21=>(.cI (W "Table"))
 |22=>(.cI (W "Table"))
 |23=>(.cI (W "Table"))
 |24=>(.init (W "Rules"))
 |25=>(.cI (W "Rules"))
 |26=>(.cI (W "Rules"))
 |27=>(.cI (W "Rules"))
 |28=>.top
 |29=>(.init (W "Numbering"))
 |30=>(.cI (W "Numbering"))
 |31=>.top
 |32=>.top
 |33=>.top
 |34=>.top
 |35=>.top
 |36=>.top
 |37=>.top
 |38=>.top
 |39=>.top
 |40=>.top
 |41=>.top
 |42=>.top
 |43=>.top
 |44=>.top
 |45=>.top
 |46=>.top
 |47=>.top
 |_=>.top
def nP:Nat->List Str
 |0=>["thing"]
 |1=>["names","thing"]
 |2=>["names","thing","deepest"]
 |3=>["saying"]
 |4=>["sayings"]
 |5=>["thing","fewest","most"]
 |6=>["foe","friend"]
 |7=>["names","things","most"]
 |8=>["names","saying"]
 |9=>["names","friend","things"]
 |10=>["thing"]
 |11=>["names","thing"]
 |12=>["names","things"]
 |13=>["promises","musts","wishes"]
 |14=>["thing"]
 |15=>["book"]
 |16=>["word","parts"]
 |17=>["word","remembered","parts"]
 |18=>["self","names","sayings"]
 |19=>["self","saying"]
 |20=>["self","saying"]
 |21=>["self","piece"]
 |22=>["self","memory","setting"]
 |23=>["self","held"]
 |24=>["self","book"]
 |25=>["self","held"]
 |26=>["self","held"]
 |27=>["self","held"]
 |28=>["lamps"]
 |29=>["self","first"]
 |30=>["self","thing"]
 |31=>["book","rules","memory"]
 |32=>["book","rules","numbering","memory","foe"]
 |33=>["book"]
 |34=>["move","lost","turns"]
 |35=>["nodes"]
 |36=>["book"]
 |37=>["moves","lost","turns"]
 |38=>["book"]
 |39=>["_law_script","_law_k"]
 |40=>["_law_script","_law_k","_law_many"]
 |41=>["_law_script","_law_m","_law_many"]
 |42=>["_law_script","_law_m"]
 |43=>["_law_script","_law_m","_law_names_here","_law_deep","_law_left"]
 |44=>["_law_script","_law_m","_law_foe","_law_names_here","_law_left"]
 |45=>["_law_script","_law_at","_law_pieces","_law_musts"]
 |46=>["_law_nodes"]
 |47=>["_law_script"]
 |_=>[]
structure Zt (K:PySem.W.Frag)(mg:Str->Option Value):Prop where
 b_isinstance:mg "isinstance" = none
 b_str:mg "str" = none
 b_len:mg "len" = none
 b_all:mg "all" = none
 b_tuple:mg "tuple" = none
 b_list:mg "list" = none
 b_reversed:mg "reversed" = none
 b_set:mg "set" = none
 b_any:mg "any" = none
 b_int:mg "int" = none
 b_bool:mg "bool" = none
 b_sum:mg "sum" = none
 b_range:mg "range" = none
 b_enumerate:mg "enumerate" = none
 b_zip:mg "zip" = none
 g_NO_NAMES:GC K mg "NO_NAMES" g_NO_NAMES
 g_LONGEST_NAME:GC K mg "LONGEST_NAME" g_LONGEST_NAME
 g_LETTERS:GC K mg "LETTERS" g_LETTERS
 g_DEEPEST:GC K mg "DEEPEST" g_DEEPEST
 g_SAYINGS_WITHIN:GC K mg "SAYINGS_WITHIN" g_SAYINGS_WITHIN
 g_PAST_WORDS:GC K mg "PAST_WORDS" g_PAST_WORDS
 g_MOST_LAMPS:GC K mg "MOST_LAMPS" g_MOST_LAMPS
 g_MOST_PROMISES:GC K mg "MOST_PROMISES" g_MOST_PROMISES
 g_HIGHEST_PRICE:GC K mg "HIGHEST_PRICE" g_HIGHEST_PRICE
 g_MOST_WISHES:GC K mg "MOST_WISHES" g_MOST_WISHES
 g_MOST_MUSTS:GC K mg "MOST_MUSTS" g_MOST_MUSTS
 g_MOST_PIECES:GC K mg "MOST_PIECES" g_MOST_PIECES
 c_Table:sN K (W "Table")
 c_Rules:sN K (W "Rules")
 c_Numbering:sN K (W "Numbering")
 a_Table_names:oN K (W "Table") (W "names")
 a_Table_pieces:oN K (W "Table") (W "pieces")
 a_Table_rows:oN K (W "Table") (W "rows")
 a_Table_row_of:oN K (W "Table") (W "row_of")
 a_Table_first_memory:oN K (W "Table") (W "first_memory")
 a_Table_remembered_rows:oN K (W "Table") (W "remembered_rows")
 a_Rules_table:oN K (W "Rules") (W "table")
 a_Rules_promise_rows:oN K (W "Rules") (W "promise_rows")
 a_Rules_must_rows:oN K (W "Rules") (W "must_rows")
 a_Rules_priced_rows:oN K (W "Rules") (W "priced_rows")
 a_Numbering_met:oN K (W "Numbering") (W "met")
 a_Numbering_numbers_met:oN K (W "Numbering") (W "numbers_met")
section
variable {P:Program}{w:World}{K:PySem.W.Frag}{mg:Str->Option Value}{base:Heap}
theorem XM {k:Nat}(T:BU K mg 48 tT nO nP cY rZ)(IH:∀ i,i<48->eV P w K mg base gP (2*k) (T.a i) (T.fd i) (nP i) (fI K (aN G k) i)){X:Cx}(e1:X.prog=P)(e2:X.w=w)(e3:X.K=K)(e4:X.mg=mg)(e5:X.base=base)(hr:dN (2*k+1) X.A)(i:Nat)(h:Nat.blt i 48=true)(ha:rZ i=.top):uM X (aN G k) (tT i) i:=by
 subst e1 e2 e3 e4 e5
 have h:i<48:=Nat.ble_eq.mp h
 have q:=T.mg i h
 rw[ha]at q
 exact⟨2*k,T.a i,T.fd i,nP i,IH i h,hr.mono (by omega),q,(T.fn i h).kp,T.bi i h⟩
theorem XF {k:Nat}(T:BU K mg 48 tT nO nP cY rZ)(IH:∀ i,i<48->eV P w K mg base gP (2*k) (T.a i) (T.fd i) (nP i) (fI K (aN G k) i)){X:Cx}(e1:X.prog=P)(e2:X.w=w)(e3:X.K=K)(e4:X.mg=mg)(e5:X.base=base)(hr:dN (2*k+1) X.A)(i:Nat)(c:List Nat)(h:Nat.blt i 48=true)(ha:rZ i=.cI c):uG X (aN G k) c (tT i) i:=by
 subst e1 e2 e3 e4 e5
 have h:i<48:=Nat.ble_eq.mp h
 have q:=T.mg i h
 rw[ha]at q
 obtain⟨C0,q1,q2,q3⟩:=q
 exact⟨2*k,T.a i,T.fd i,nP i,C0,IH i h,hr.mono (by omega),T.bi i h,q1,q2,q3⟩
theorem YR {k:Nat}(T:BU K mg 48 tT nO nP cY rZ)(IH:∀ i,i<48->eV P w K mg base gP (2*k) (T.a i) (T.fd i) (nP i) (fI K (aN G k) i)){X:Cx}(e1:X.prog=P)(e2:X.w=w)(e3:X.K=K)(e4:X.mg=mg)(e5:X.base=base)(hr:dN (2*k+1) X.A)(i:Nat)(c:List Nat)(h:Nat.blt i 48=true)(ha:rZ i=.init c){n:Str}(hn:n=⟨c.toArray⟩:=by kernel_rfl):HS X (aN G k) c n i:=by
 subst e1 e2 e3 e4 e5
 have h:i<48:=Nat.ble_eq.mp h
 have q:=T.mg i h
 rw[ha]at q
 obtain⟨C0,q1,q2,q3⟩:=q
 exact⟨2*k,T.a i,T.fd i,nP i,C0,IH i h,hr,T.bi i h,q1,by rw[hn];exact q2,q3⟩
noncomputable abbrev TT (K:PySem.W.Frag)(mg:Str->Option Value):=BU K mg 48 tT nO nP cY rZ
noncomputable abbrev IT (P:Program)(w:World)(base:Heap)(T:TT K mg)(k:Nat):Prop:=∀ i,i<48->eV P w K mg base gP (2*k) (T.a i) (T.fd i) (nP i) (fI K (aN G k) i)
noncomputable abbrev OT (P:Program)(w:World)(base:Heap)(T:TT K mg)(k i:Nat):Prop:=eV P w K mg base gP (2*k+1+1) (T.a i) (T.fd i) (nP i) (fI K (aN G (k+1)) i)
theorem dE (i:Nat){k:Nat}{fn:Fn}{N:List Str}(T:TT K mg)(IH:IT P w base T k)(hi:Nat.blt i 48=true)(S:tN N (nP i) (aP (cY i)))(hG:G.fns i=some fn)(hp:fn.np=(nP i).length)(hl:fn.nl=N.length)
 (hb:∀(bL:Value)(A:Around)(outer:List Env)(s:Shared)(H:Hp)(E:L2.XK)(hr:dN (2*k+1) (A.deeper (envOfC (nO i) (aP (cY i)) s.heap.objs.size (T.a i) bL)))(m:bM (aN G k) (aN G k))(u:(A.deeper (envOfC (nO i) (aP (cY i)) s.heap.objs.size (T.a i) bL)).units+180<PySem.cLine)
 (c:∀ j,Nat.blt j 48=true->rZ j=.top->uM (mY gP P w K mg base N (nO i) (aP (cY i)) (T.a i) bL A outer s H E).wQ (aN G k) (tT j) j)(cm:∀ j c,Nat.blt j 48=true->rZ j=.cI c->uG (mY gP P w K mg base N (nO i) (aP (cY i)) (T.a i) bL A outer s H E).wQ (aN G k) c (tT j) j)(ck:∀ j c,Nat.blt j 48=true->rZ j=.init c->∀{n:Str}(hn:n=⟨c.toArray⟩:=by kernel_rfl),HS (mY gP P w K mg base N (nO i) (aP (cY i)) (T.a i) bL A outer s H E).wQ (aN G k) c n j)(nd:N.Nodup),
 yB (mY gP P w K mg base N (nO i) (aP (cY i)) (T.a i) bL A outer s H E).wQ (aN G k) G.sub (iR (cY i)) fn.body):OT P w base T k i :=
 Cc (fn:=fn) (T.fn i (Nat.ble_eq.mp hi)) S hG hp hl fun bL A outer s H E hr=>hb bL A outer s H E hr (oZ G (Nat.le_refl k)) (Kj hr) (XM (X:=(mY gP P w K mg base N (nO i) (aP (cY i)) (T.a i) bL A outer s H E).wQ) T IH rfl rfl rfl rfl rfl hr) (XF (X:=(mY gP P w K mg base N (nO i) (aP (cY i)) (T.a i) bL A outer s H E).wQ) T IH rfl rfl rfl rfl rfl hr) (@YR P w K mg base k T IH (mY gP P w K mg base N (nO i) (aP (cY i)) (T.a i) bL A outer s H E).wQ rfl rfl rfl rfl rfl hr) S.nd
theorem Me {k:Nat}(T:TT K mg)(Z:Zt K mg)(IH:IT P w base T k):OT P w base T k 0 :=
 dE 0 (fn:=GY) (N:=["thing"]) T IH rfl ⟨rfl,rfl,rfl,by decide +kernel,rfl,by decide +kernel,by decide +kernel⟩ rfl rfl rfl fun bL A outer s H E hr m u c cm ck nd=>by
 exact(cc (dY m (sI (yM m (wV (tp (J8 (t:=.str) PF Z.b_isinstance Z.b_str (jv 0)))) (sF (dG (o:=.in_) u (jv 0) (jg Z.g_NO_NAMES))))) (cc (cA m jb)
 c0) c0)
 (cc (cA m (nN (Aq (o:=.le) (o':=.le) u ji (eB cQ eE Z.b_len (ja (jv 0) an)) (jg Z.g_LONGEST_NAME)) (nD (eB (iV hr.hd) oQ Z.b_all (ja (jU m (own:=["sign"]) (cn:=[]) (aW:=[]) (one:=true) (gX (on:=(aP (cY 0)).names) (N:=["thing"]) (by decide +kernel)) (iv (jv 0)) (fun _ _ _ _=>(b1 (gn (show(["sign"]:List Str).Nodup by decide +kernel)))) (fun _ _ _ _=>qn) (fun _ _ _ _=>(xA (o:=.in_) u (jv 0) (jg Z.g_LETTERS)))) an)))))
 c0))
theorem Nk {k:Nat}(T:TT K mg)(Z:Zt K mg)(IH:IT P w base T k):OT P w base T k 1 :=
 dE 1 (fn:=A9) (N:=["names","thing"]) T IH rfl ⟨rfl,rfl,rfl,by decide +kernel,rfl,by decide +kernel,by decide +kernel⟩ rfl rfl rfl fun bL A outer s H E hr m u c cm ck nd=>by
 exact(cc (cA m (bZ (c 2 rfl rfl) (ja (jv 0) (ja (jv 1) (ja (jg Z.g_DEEPEST) an)))))
 c0)
noncomputable abbrev N2:List Str:=["names","thing","deepest"]
theorem Mj {k:Nat}(T:TT K mg)(Z:Zt K mg)(IH:IT P w base T k):OT P w base T k 2 :=
 dE 2 (fn:=oX) (N:=N2) T IH rfl ⟨rfl,rfl,rfl,by decide +kernel,rfl,by decide +kernel,by decide +kernel⟩ rfl rfl rfl fun bL A outer s H E hr m u c cm ck nd=>by
 exact(cc (dY m (sI (yM m (dG (o:=.lt) u (bG 2) ji) (yM m (wV (tp (J8 (t:=.tuple) gW Z.b_isinstance Z.b_tuple (jv 1)))) (yM m (dG (o:=.lt) u (eB cQ eE Z.b_len (ja (jv 1) an)) ji) (sF (wV (tp (J8 (t:=.str) PF Z.b_isinstance Z.b_str (bF (jv 1) ji))))))))) (cc (cA m jb)
 c0) c0)
 (cc (dY m (dG (o:=.eq) u (bF (jv 1) ji) js) (cc (cA m (nN (xA (o:=.eq) u (eB cQ eE Z.b_len (ja (jv 1) an)) ji) (nN (bZ (c 0 rfl rfl) (ja (bF (jv 1) ji) an)) (nD (xA (o:=.in_) u (bF (jv 1) ji) (bG 0))))))
 c0) c0)
 (cc (dY m (sI (yM m (dG (o:=.jQ) u (bF (jv 1) ji) (jg Z.g_SAYINGS_WITHIN)) (sF (dG (o:=.ne) u (eB cQ eE Z.b_len (ja (jv 1) an)) (dO (op:=.add) ji (bF (jg Z.g_SAYINGS_WITHIN) (bF (jv 1) ji))))))) (cc (cA m jb)
 c0) c0)
 (cc (cA m (eB (iV hr.hd) oQ Z.b_all (ja (jU m (own:=["part"]) (cn:=["names","deepest"]) (aW:=[0,2]) (one:=true) (gX (on:=(aP (cY 2)).names) (N:=N2) (by decide +kernel)) (iv (MB (jv 1) (os ji) on)) (fun _ _ _ _=>(b1 (gn (show(["part","names","deepest"]:List Str).Nodup by decide +kernel)))) (fun _ _ _ _=>qn) (fun _ _ _ _=>(bZ ((c 2 rfl rfl).pN) (ja (bG 1) (ja (jv 0) (ja (dO (op:=.sub) (bG 2) ji) an)))))) an)))
 c0))))
theorem Nh {k:Nat}(T:TT K mg)(Z:Zt K mg)(IH:IT P w base T k):OT P w base T k 3 :=
 dE 3 (fn:=rF) (N:=["saying"]) T IH rfl ⟨rfl,rfl,rfl,by decide +kernel,rfl,by decide +kernel,by decide +kernel⟩ rfl rfl rfl fun bL A outer s H E hr m u c cm ck nd=>by
 exact(cc (dY m (dG (o:=.eq) u (bF (jv 0) ji) js) (cc (cA m (jt m an))
 c0) c0)
 (cc (cA m (MB (jv 0) (os ji) on))
 c0))
theorem Om {k:Nat}(T:TT K mg)(Z:Zt K mg)(IH:IT P w base T k):OT P w base T k 4 :=
 dE 4 (fn:=BB) (N:=["sayings","pieces","ahead","saying"]) T IH rfl ⟨rfl,rfl,rfl,by decide +kernel,rfl,by decide +kernel,by decide +kernel⟩ rfl rfl rfl fun bL A outer s H E hr m u c cm ck nd=>by
 exact(cc (sn (i:=1) m nd (jl an))
 (cc (sn (i:=2) m nd (Lk Z.b_list Z.b_reversed (ja (jv 0) an)))
 (cc (sw m (tp (jv 2)) (cc (sn (i:=3) m nd (Pw (jv 2) ))
 (cc (dY m (sI (Q4 m (dG (o:=.in_) u (bF (jv 3) ji) (jg Z.g_PAST_WORDS)) (sF (dG (o:=.jQ) u (jv 3) (jv 1))))) (cc (sx m (sD (jv 1) (ja (jv 3) an)))
 c0) c0)
 (cc (sx m (Po (jv 2) (ja (Lk Z.b_list Z.b_reversed (ja (bZ (c 3 rfl rfl) (ja (jv 3) an)) an)) an)))
 c0))))
 (cc (cA m (jv 1))
 c0))))
theorem Od {k:Nat}(T:TT K mg)(Z:Zt K mg)(IH:IT P w base T k):OT P w base T k 5 :=
 dE 5 (fn:=IM) (N:=["thing","fewest","most"]) T IH rfl ⟨rfl,rfl,rfl,by decide +kernel,rfl,by decide +kernel,by decide +kernel⟩ rfl rfl rfl fun bL A outer s H E hr m u c cm ck nd=>by
 exact(cc (cA m (nN (J8 (t:=.tuple) gW Z.b_isinstance Z.b_tuple (jv 0)) (nD (Aq (o:=.le) (o':=.le) u (jv 1) (eB cQ eE Z.b_len (ja (jv 0) an)) (jv 2)))))
 c0)
noncomputable abbrev N6:List Str:=["foe","friend","names"]
theorem Np {k:Nat}(T:TT K mg)(Z:Zt K mg)(IH:IT P w base T k):OT P w base T k 6 :=
 dE 6 (fn:=A5) (N:=N6) T IH rfl ⟨rfl,rfl,rfl,by decide +kernel,rfl,by decide +kernel,by decide +kernel⟩ rfl rfl rfl fun bL A outer s H E hr m u c cm ck nd=>by
 exact(cc (dY m (sI (yM m (wV (tp (bZ (c 5 rfl rfl) (ja (jv 0) (ja ji (ja (jg Z.g_MOST_LAMPS) an)))))) (sF (wV (tp (bZ (c 5 rfl rfl) (ja (jv 1) (ja ji (ja (jg Z.g_MOST_LAMPS) an))))))))) (cc (cA m jb)
 c0) c0)
 (cc (sn (i:=2) m nd (dO (op:=.add) (jv 0) (jv 1)))
 (cc (cA m (nN (eB (iV hr.hd) oQ Z.b_all (ja (jU m (own:=["name"]) (cn:=[]) (aW:=[]) (one:=true) (gX (on:=(aP (cY 6)).names) (N:=N6) (by decide +kernel)) (iv (jv 2)) (fun _ _ _ _=>(b1 (gn (show(["name"]:List Str).Nodup by decide +kernel)))) (fun _ _ _ _=>qn) (fun _ _ _ _=>(bZ ((c 0 rfl rfl).pN) (ja (jv 0) an)))) an)) (nD (xA (o:=.eq) u (Pz Z.b_len Z.b_set (ja (jv 2) an)) (eB cQ eE Z.b_len (ja (jv 2) an))))))
 c0)))
noncomputable abbrev N7:List Str:=["names","things","most"]
theorem Ob {k:Nat}(T:TT K mg)(Z:Zt K mg)(IH:IT P w base T k):OT P w base T k 7 :=
 dE 7 (fn:=xD) (N:=N7) T IH rfl ⟨rfl,rfl,rfl,by decide +kernel,rfl,by decide +kernel,by decide +kernel⟩ rfl rfl rfl fun bL A outer s H E hr m u c cm ck nd=>by
 exact(cc (cA m (nN (bZ (c 5 rfl rfl) (ja (jv 1) (ja ji (ja (jv 2) an)))) (nD (eB (iV hr.hd) oQ Z.b_all (ja (jU m (own:=["thing"]) (cn:=["names"]) (aW:=[0]) (one:=true) (gX (on:=(aP (cY 7)).names) (N:=N7) (by decide +kernel)) (iv (jv 1)) (fun _ _ _ _=>(b1 (gn (show(["thing","names"]:List Str).Nodup by decide +kernel)))) (fun _ _ _ _=>qn) (fun _ _ _ _=>(bZ ((c 1 rfl rfl).pN) (ja (bG 1) (ja (jv 0) an))))) an)))))
 c0)
theorem Mf {k:Nat}(T:TT K mg)(Z:Zt K mg)(IH:IT P w base T k):OT P w base T k 8 :=
 dE 8 (fn:=wW) (N:=["names","saying"]) T IH rfl ⟨rfl,rfl,rfl,by decide +kernel,rfl,by decide +kernel,by decide +kernel⟩ rfl rfl rfl fun bL A outer s H E hr m u c cm ck nd=>by
 exact(cc (dY m (dG (o:=.eq) u (bF (jv 1) ji) js) (cc (cA m jb)
 c0) c0)
 (cc (dY m (dG (o:=.eq) u (bF (jv 1) ji) js) (cc (cA m (xA (o:=.in_) u (bF (jv 1) ji) (bG 0)))
 c0) c0)
 (cc (cA m (eB (yP hr.hd) K2 Z.b_any (ja (jU m (own:=["part"]) (cn:=["names"]) (aW:=[0]) (one:=true) (gX (on:=(aP (cY 8)).names) (N:=["names","saying"]) (by decide +kernel)) (iv (bZ (c 3 rfl rfl) (ja (jv 1) an))) (fun _ _ _ _=>(b1 (gn (show(["part","names"]:List Str).Nodup by decide +kernel)))) (fun _ _ _ _=>qn) (fun _ _ _ _=>(bZ ((c 8 rfl rfl).pN) (ja (bG 1) (ja (jv 0) an))))) an)))
 c0)))
noncomputable abbrev N9:List Str:=["names","friend","things"]
theorem Ny {k:Nat}(T:TT K mg)(Z:Zt K mg)(IH:IT P w base T k):OT P w base T k 9 :=
 dE 9 (fn:=uR) (N:=N9) T IH rfl ⟨rfl,rfl,rfl,by decide +kernel,rfl,by decide +kernel,by decide +kernel⟩ rfl rfl rfl fun bL A outer s H E hr m u c cm ck nd=>by
 exact(cc (cA m (nN (bZ (c 7 rfl rfl) (ja (jv 0) (ja (jv 2) (ja (jg Z.g_MOST_PROMISES) an)))) (nD (VT (eB (yP hr.hd) K2 Z.b_any (ja (jU m (own:=["thing"]) (cn:=["friend"]) (aW:=[1]) (one:=true) (gX (on:=(aP (cY 9)).names) (N:=N9) (by decide +kernel)) (iv (jv 2)) (fun _ _ _ _=>(b1 (gn (show(["thing","friend"]:List Str).Nodup by decide +kernel)))) (fun _ _ _ _=>qn) (fun _ _ _ _=>(bZ ((c 8 rfl rfl).pN) (ja (bG 1) (ja (jv 0) an))))) an))))))
 c0)
theorem Ie {k:Nat}(T:TT K mg)(Z:Zt K mg)(IH:IT P w base T k):OT P w base T k 10 :=
 dE 10 (fn:=DN) (N:=["thing"]) T IH rfl ⟨rfl,rfl,rfl,by decide +kernel,rfl,by decide +kernel,by decide +kernel⟩ rfl rfl rfl fun bL A outer s H E hr m u c cm ck nd=>by
 exact(cc (cA m (nN (J8 (t:=.int) Av Z.b_isinstance Z.b_int (jv 0)) (nN (VT (J8 (t:=.bool) X7 Z.b_isinstance Z.b_bool (jv 0))) (nD (Aq (o:=.le) (o':=.le) u ji (jv 0) (jg Z.g_HIGHEST_PRICE))))))
 c0)
theorem Ha {k:Nat}(T:TT K mg)(Z:Zt K mg)(IH:IT P w base T k):OT P w base T k 11 :=
 dE 11 (fn:=FT) (N:=["names","thing"]) T IH rfl ⟨rfl,rfl,rfl,by decide +kernel,rfl,by decide +kernel,by decide +kernel⟩ rfl rfl rfl fun bL A outer s H E hr m u c cm ck nd=>by
 exact(cc (cA m (nN (bZ (c 5 rfl rfl) (ja (jv 1) (ja ji (ja ji an)))) (nN (bZ (c 10 rfl rfl) (ja (bF (jv 1) ji) an)) (nD (bZ (c 1 rfl rfl) (ja (jv 0) (ja (bF (jv 1) ji) an)))))))
 c0)
theorem Hv {k:Nat}(T:TT K mg)(Z:Zt K mg)(IH:IT P w base T k):OT P w base T k 12 :=
 dE 12 (fn:=yW) (N:=["names","things"]) T IH rfl ⟨rfl,rfl,rfl,by decide +kernel,rfl,by decide +kernel,by decide +kernel⟩ rfl rfl rfl fun bL A outer s H E hr m u c cm ck nd=>by
 exact(cc (cA m (nN (bZ (c 5 rfl rfl) (ja (jv 1) (ja ji (ja (jg Z.g_MOST_WISHES) an)))) (nD (eB (iV hr.hd) oQ Z.b_all (ja (jU m (own:=["thing"]) (cn:=["names"]) (aW:=[0]) (one:=true) (gX (on:=(aP (cY 12)).names) (N:=["names","things"]) (by decide +kernel)) (iv (jv 1)) (fun _ _ _ _=>(b1 (gn (show(["thing","names"]:List Str).Nodup by decide +kernel)))) (fun _ _ _ _=>qn) (fun _ _ _ _=>(bZ ((c 11 rfl rfl).pN) (ja (bG 1) (ja (jv 0) an))))) an)))))
 c0)
noncomputable abbrev Ll:List Str:=["promises","musts","wishes"]
theorem Kq {k:Nat}(T:TT K mg)(Z:Zt K mg)(IH:IT P w base T k):OT P w base T k 13 :=
 dE 13 (fn:=zN) (N:=Ll) T IH rfl ⟨rfl,rfl,rfl,by decide +kernel,rfl,by decide +kernel,by decide +kernel⟩ rfl rfl rfl fun bL A outer s H E hr m u c cm ck nd=>by
 exact(cc (cA m (dO (op:=.add) (dO (op:=.add) (pC wC tS Z.b_list (ja (jv 0) an)) (pC wC tS Z.b_list (ja (jv 1) an))) (jU m (own:=["wish"]) (cn:=[]) (aW:=[]) (one:=true) (gX (on:=(aP (cY 13)).names) (N:=Ll) (by decide +kernel)) (iv (jv 2)) (fun _ _ _ _=>(b1 (gn (show(["wish"]:List Str).Nodup by decide +kernel)))) (fun _ _ _ _=>qn) (fun _ _ _ _=>(bF (jv 0) ji)))))
 c0)
theorem He {k:Nat}(T:TT K mg)(Z:Zt K mg)(IH:IT P w base T k):OT P w base T k 14 :=
 dE 14 (fn:=FW) (N:=["thing","friend","names","promises","musts","wishes"]) T IH rfl ⟨rfl,rfl,rfl,by decide +kernel,rfl,by decide +kernel,by decide +kernel⟩ rfl rfl rfl fun bL A outer s H E hr m u c cm ck nd=>by
 exact(cc (dY m (sI (yM m (wV (tp (bZ (c 5 rfl rfl) (ja (jv 0) (ja ji (ja ji an)))))) (sF (wV (tp (bZ (c 6 rfl rfl) (ja (bF (jv 0) ji) (ja (bF (jv 0) ji) an)))))))) (cc (cA m jb)
 c0) c0)
 (cc (sn (i:=1) m nd (bF (jv 0) ji))
 (cc (sn (i:=2) m nd (dO (op:=.add) (bF (jv 0) ji) (jv 1)))
 (cc (sn (i:=3) m nd (bF (jv 0) ji))
 (cc (sn (i:=4) m nd (bF (jv 0) ji))
 (cc (sn (i:=5) m nd (bF (jv 0) ji))
 (cc (dY m (sI (yM m (wV (tp (bZ (c 9 rfl rfl) (ja (jv 2) (ja (jv 1) (ja (jv 3) an)))))) (sF (wV (tp (bZ (c 7 rfl rfl) (ja (jv 2) (ja (jv 4) (ja (jg Z.g_MOST_MUSTS) an))))))))) (cc (cA m jb)
 c0) c0)
 (cc (cA m (nN (bZ (c 12 rfl rfl) (ja (jv 2) (ja (jv 5) an))) (nD (xA (o:=.le) u (eB cQ eE Z.b_len (ja (bZ (c 4 rfl rfl) (ja (bZ (c 13 rfl rfl) (ja (jv 3) (ja (jv 4) (ja (jv 5) an)))) an)) an)) (jg Z.g_MOST_PIECES)))))
 c0))))))))
theorem Ih {k:Nat}(T:TT K mg)(Z:Zt K mg)(IH:IT P w base T k):OT P w base T k 15 :=
 dE 15 (fn:=GA) (N:=["book"]) T IH rfl ⟨rfl,rfl,rfl,by decide +kernel,rfl,by decide +kernel,by decide +kernel⟩ rfl rfl rfl fun bL A outer s H E hr m u c cm ck nd=>by
 exact(cc (dY m (wV (tp (bZ (c 14 rfl rfl) (ja (jv 0) an)))) (cc (Pu m)
 c0) c0)
 (cc (cA m (jv 0))
 c0))
theorem Gq {k:Nat}(T:TT K mg)(Z:Zt K mg)(IH:IT P w base T k):OT P w base T k 16 :=
 dE 16 (fn:=A0) (N:=["word","parts"]) T IH rfl ⟨rfl,rfl,rfl,by decide +kernel,rfl,by decide +kernel,by decide +kernel⟩ rfl rfl rfl fun bL A outer s H E hr m u c cm ck nd=>by
 exact(cc (dY m (dG (o:=.eq) u (jv 0) js) (cc (cA m (VT (bF (jv 1) ji)))
 c0) c0)
 (cc (dY m (dG (o:=.eq) u (jv 0) js) (cc (cA m (nN (bF (jv 1) ji) (nD (bF (jv 1) ji))))
 c0) c0)
 (cc (dY m (dG (o:=.eq) u (jv 0) js) (cc (cA m (VW (bF (jv 1) ji) (nD (bF (jv 1) ji))))
 c0) c0)
 (cc (dY m (dG (o:=.eq) u (jv 0) js) (cc (cA m (VW (bF (jv 1) ji) (nD (VT (bF (jv 1) ji)))))
 c0) c0)
 (cc (dY m (dG (o:=.eq) u (jv 0) js) (cc (cA m (xA (o:=.eq) u (bF (jv 1) ji) (bF (jv 1) ji)))
 c0) c0)
 (cc (cA m (xA (o:=.eq) u (jv 0) js))
 c0))))))
theorem Ik {k:Nat}(T:TT K mg)(Z:Zt K mg)(IH:IT P w base T k):OT P w base T k 17 :=
 dE 17 (fn:=zG) (N:=["word","remembered","parts"]) T IH rfl ⟨rfl,rfl,rfl,by decide +kernel,rfl,by decide +kernel,by decide +kernel⟩ rfl rfl rfl fun bL A outer s H E hr m u c cm ck nd=>by
 exact(cc (dY m (dG (o:=.eq) u (jv 0) js) (cc (cA m (jv 1))
 c0) c0)
 (cc (dY m (dG (o:=.eq) u (jv 0) js) (cc (cA m (VW (jv 1) (nD (bF (jv 2) ji))))
 c0) c0)
 (cc (dY m (dG (o:=.eq) u (jv 0) js) (cc (cA m (nN (jv 1) (nD (bF (jv 2) ji))))
 c0) c0)
 (cc (cA m (VW (bF (jv 2) ji) (nD (nN (jv 1) (nD (bF (jv 2) ji))))))
 c0))))
noncomputable abbrev Z0:List Str:=["self","names","sayings","saying"]
theorem Jg {k:Nat}(T:TT K mg)(Z:Zt K mg)(IH:IT P w base T k):OT P w base T k 18 :=
 dE 18 (fn:=rH) (N:=Z0) T IH rfl ⟨rfl,rfl,rfl,by decide +kernel,rfl,by decide +kernel,by decide +kernel⟩ rfl rfl rfl fun bL A outer s H E hr m u c cm ck nd=>by
 exact(cc (xC m (W "Table") Z.c_Table Z.a_Table_names (bG 0) (jv 1))
 (cc (xC m (W "Table") Z.c_Table Z.a_Table_pieces (bG 0) (bZ (c 4 rfl rfl) (ja (jv 2) an)))
 (cc (xC m (W "Table") Z.c_Table Z.a_Table_rows (bG 0) (jl an))
 (cc (xC m (W "Table") Z.c_Table Z.a_Table_row_of (bG 0) Pt)
 (cc (A4 (i:=3) m nd (iv (jv 2)) (cc (sx m (yC (mm:=W "enter") (cm 19 (W "Table") rfl rfl) (bG 0) (ja (jv 3) an)))
 c0))
 (cc (xC m (W "Table") Z.c_Table Z.a_Table_first_memory (bG 0) (pC fR gW Z.b_tuple (ja (jU m (own:=["piece"]) (cn:=[]) (aW:=[]) (one:=true) (gX (on:=(aP (cY 18)).names) (N:=Z0) (by decide +kernel)) (iv (fZ (W "Table") Z.c_Table Z.a_Table_pieces (bG 0))) (fun _ _ _ _=>(b1 (gn (show(["piece"]:List Str).Nodup by decide +kernel)))) (fun _ _ _ _=>qn) (fun _ _ _ _=>(xA (o:=.eq) u (bF (jv 0) ji) js))) an)))
 (cc (xC m (W "Table") Z.c_Table Z.a_Table_remembered_rows (bG 0) (jU m (own:=["piece"]) (cn:=["self"]) (aW:=[0]) (one:=true) (gX (on:=(aP (cY 18)).names) (N:=Z0) (by decide +kernel)) (iv (fZ (W "Table") Z.c_Table Z.a_Table_pieces (bG 0))) (fun _ _ _ _=>(b1 (gn (show(["piece", "self"]:List Str).Nodup by decide +kernel)))) (fun _ _ _ _=>qn) (fun _ _ _ _=>(yC (mm:=W "remembered_row") ((cm 21 (W "Table") rfl rfl).pN) (bG 1) (ja (jv 0) an)))))
 c0)))))))
noncomputable abbrev Lg:List Str:=["self","saying","part","parts"]
theorem Jm {k:Nat}(T:TT K mg)(Z:Zt K mg)(IH:IT P w base T k):OT P w base T k 19 :=
 dE 19 (fn:=wN) (N:=Lg) T IH rfl ⟨rfl,rfl,rfl,by decide +kernel,rfl,by decide +kernel,by decide +kernel⟩ rfl rfl rfl fun bL A outer s H E hr m u c cm ck nd=>by
 exact(cc (dY m (Pf u (jv 1) (fZ (W "Table") Z.c_Table Z.a_Table_row_of (bG 0))) (cc Qb
 c0) c0)
 (cc (A4 (i:=2) m nd (iv (bZ (c 3 rfl rfl) (ja (jv 1) an))) (cc (sx m (yC (mm:=W "enter") (cm 19 (W "Table") rfl rfl) (bG 0) (ja (jv 2) an)))
 c0))
 (cc (MQ (i:=3) m nd (own:=["part"]) (cn:=["self"]) (aW:=[0]) (one:=true) (gX (on:=(aP (cY 19)).names) (N:=Lg) (by decide +kernel)) (iv (bZ (c 3 rfl rfl) (ja (jv 1) an))) (fun _ _ _ _=>(b1 (gn (show(["part","self"]:List Str).Nodup by decide +kernel)))) (fun _ _ _ _=>qn) (fun _ _ _ _=>(KQ u (fZ (W "Table") Z.c_Table Z.a_Table_row_of (bG 1)) (jv 0))))
 (cc (Lq m u (fZ (W "Table") Z.c_Table Z.a_Table_row_of (bG 0)) (jv 1) (eB cQ eE Z.b_len (ja (fZ (W "Table") Z.c_Table Z.a_Table_rows (bG 0)) an)))
 (cc (sx m (sD (fZ (W "Table") Z.c_Table Z.a_Table_rows (bG 0)) (ja (jt m (ja (bF (jv 1) ji) (ja (yC (mm:=W "place_of") (cm 20 (W "Table") rfl rfl) (bG 0) (ja (jv 1) an)) (ja (jv 3) an)))) an)))
 c0)))))
theorem Jq {k:Nat}(T:TT K mg)(Z:Zt K mg)(IH:IT P w base T k):OT P w base T k 20 :=
 dE 20 (fn:=qU) (N:=["self","saying"]) T IH rfl ⟨rfl,rfl,rfl,by decide +kernel,rfl,by decide +kernel,by decide +kernel⟩ rfl rfl rfl fun bL A outer s H E hr m u c cm ck nd=>by
 exact(cc (dY m (dG (o:=.eq) u (bF (jv 1) ji) js) (cc (cA m (As m u (fZ (W "Table") Z.c_Table Z.a_Table_names (jv 0)) (ja (bF (jv 1) ji) an)))
 c0) c0)
 (cc (dY m (dG (o:=.in_) u (bF (jv 1) ji) (jg Z.g_PAST_WORDS)) (cc (cA m (As m u (fZ (W "Table") Z.c_Table Z.a_Table_pieces (jv 0)) (ja (jv 1) an)))
 c0) c0)
 (cc (cA m jn)
 c0)))
theorem Ka {k:Nat}(T:TT K mg)(Z:Zt K mg)(IH:IT P w base T k):OT P w base T k 21 :=
 dE 21 (fn:=lJ) (N:=["self","piece"]) T IH rfl ⟨rfl,rfl,rfl,by decide +kernel,rfl,by decide +kernel,by decide +kernel⟩ rfl rfl rfl fun bL A outer s H E hr m u c cm ck nd=>by
 exact(cc (dY m (dG (o:=.eq) u (bF (jv 1) ji) js) (cc (cA m (KQ u (fZ (W "Table") Z.c_Table Z.a_Table_row_of (jv 0)) (bF (jv 1) ji)))
 c0) c0)
 (cc (cA m (KQ u (fZ (W "Table") Z.c_Table Z.a_Table_row_of (jv 0)) (jv 1)))
 c0))
noncomputable abbrev Lh:List Str:=["self","memory","setting","held","word","place","part_rows","parts"]
theorem Hd {k:Nat}(T:TT K mg)(Z:Zt K mg)(IH:IT P w base T k):OT P w base T k 22 :=
 dE 22 (fn:=rS) (N:=Lh) T IH rfl ⟨rfl,rfl,rfl,by decide +kernel,rfl,by decide +kernel,by decide +kernel⟩ rfl rfl rfl fun bL A outer s H E hr m u c cm ck nd=>by
 exact(cc (xY (i:=3) m nd (jl an))
 (cc (sf m (iv (fZ (W "Table") Z.c_Table Z.a_Table_rows (jv 0))) (gt (gc (gn (i:=4) nd) (gc (gn (i:=5) nd) (gc (gn (i:=6) nd) nn)))) (cc (MQ (i:=7) m nd (own:=["row"]) (cn:=["held"]) (aW:=[3]) (one:=true) (gX (on:=(aP (cY 22)).names) (N:=Lh) (by decide +kernel)) (iv (jv 6)) (fun _ _ _ _=>(b1 (gn (show(["row","held"]:List Str).Nodup by decide +kernel)))) (fun _ _ _ _=>qn) (fun _ _ _ _=>(bF (bG 1) (jv 0))))
 (cc (dY m (dG (o:=.eq) u (jv 4) js) (cc (sx m (sD (bG 3) (ja (bF (jv 2) (jv 5)) an)))
 c0) (cc (dY m (dG (o:=.in_) u (jv 4) (jg Z.g_PAST_WORDS)) (cc (sx m (sD (bG 3) (ja (bZ (c 17 rfl rfl) (ja (jv 4) (ja (bF (jv 1) (jv 5)) (ja (jv 7) an)))) an)))
 c0) (cc (sx m (sD (bG 3) (ja (bZ (c 16 rfl rfl) (ja (jv 4) (ja (jv 7) an))) an)))
 c0))
 c0))
 c0)))
 (cc (cA m (bG 3))
 c0)))
theorem Hu {k:Nat}(T:TT K mg)(Z:Zt K mg)(IH:IT P w base T k):OT P w base T k 23 :=
 dE 23 (fn:=mR) (N:=["self","held"]) T IH rfl ⟨rfl,rfl,rfl,by decide +kernel,rfl,by decide +kernel,by decide +kernel⟩ rfl rfl rfl fun bL A outer s H E hr m u c cm ck nd=>by
 exact(cc (cA m (pC fR gW Z.b_tuple (ja (jU m (own:=["row"]) (cn:=["held"]) (aW:=[1]) (one:=true) (gX (on:=(aP (cY 23)).names) (N:=["self", "held"]) (by decide +kernel)) (iv (fZ (W "Table") Z.c_Table Z.a_Table_remembered_rows (jv 0))) (fun _ _ _ _=>(b1 (gn (show(["row","held"]:List Str).Nodup by decide +kernel)))) (fun _ _ _ _=>qn) (fun _ _ _ _=>(bF (bG 1) (jv 0)))) an)))
 c0)
theorem Gk {k:Nat}(T:TT K mg)(Z:Zt K mg)(IH:IT P w base T k):OT P w base T k 24 :=
 dE 24 (fn:=qE) (N:=["self","book"]) T IH rfl ⟨rfl,rfl,rfl,by decide +kernel,rfl,by decide +kernel,by decide +kernel⟩ rfl rfl rfl fun bL A outer s H E hr m u c cm ck nd=>by
 exact(cc (xC m (W "Rules") Z.c_Rules Z.a_Rules_table (bG 0) (Br (ck 18 (W "Table") rfl rfl) (ja (dO (op:=.add) (bF (jv 1) ji) (bF (jv 1) ji)) (ja (bZ (c 13 rfl rfl) (ja (bF (jv 1) ji) (ja (bF (jv 1) ji) (ja (bF (jv 1) ji) an)))) an))))
 (cc (xC m (W "Rules") Z.c_Rules Z.a_Rules_promise_rows (bG 0) (jU m (own:=["saying"]) (cn:=["self"]) (aW:=[0]) (one:=true) (gX (on:=(aP (cY 24)).names) (N:=["self", "book"]) (by decide +kernel)) (iv (bF (jv 1) ji)) (fun _ _ _ _=>(b1 (gn (show(["saying", "self"]:List Str).Nodup by decide +kernel)))) (fun _ _ _ _=>qn) (fun _ _ _ _=>(KQ u (fZ (W "Table") Z.c_Table Z.a_Table_row_of (fZ (W "Rules") Z.c_Rules Z.a_Rules_table (bG 1))) (jv 0)))))
 (cc (xC m (W "Rules") Z.c_Rules Z.a_Rules_must_rows (bG 0) (jU m (own:=["saying"]) (cn:=["self"]) (aW:=[0]) (one:=true) (gX (on:=(aP (cY 24)).names) (N:=["self", "book"]) (by decide +kernel)) (iv (bF (jv 1) ji)) (fun _ _ _ _=>(b1 (gn (show(["saying", "self"]:List Str).Nodup by decide +kernel)))) (fun _ _ _ _=>qn) (fun _ _ _ _=>(KQ u (fZ (W "Table") Z.c_Table Z.a_Table_row_of (fZ (W "Rules") Z.c_Rules Z.a_Rules_table (bG 1))) (jv 0)))))
 (cc (xC m (W "Rules") Z.c_Rules Z.a_Rules_priced_rows (bG 0) (jU m (own:=["wish"]) (cn:=["self"]) (aW:=[0]) (one:=true) (gX (on:=(aP (cY 24)).names) (N:=["self", "book"]) (by decide +kernel)) (iv (bF (jv 1) ji)) (fun _ _ _ _=>(b1 (gn (show(["wish", "self"]:List Str).Nodup by decide +kernel)))) (fun _ _ _ _=>qn) (fun _ _ _ _=>(jt m (ja (bF (jv 0) ji) (ja (KQ u (fZ (W "Table") Z.c_Table Z.a_Table_row_of (fZ (W "Rules") Z.c_Rules Z.a_Rules_table (bG 1))) (bF (jv 0) ji)) an))))))
 c0))))
theorem Ht {k:Nat}(T:TT K mg)(Z:Zt K mg)(IH:IT P w base T k):OT P w base T k 25 :=
 dE 25 (fn:=pO) (N:=["self","held"]) T IH rfl ⟨rfl,rfl,rfl,by decide +kernel,rfl,by decide +kernel,by decide +kernel⟩ rfl rfl rfl fun bL A outer s H E hr m u c cm ck nd=>by
 exact(cc (cA m (eB (iV hr.hd) oQ Z.b_all (ja (jU m (own:=["row"]) (cn:=["held"]) (aW:=[1]) (one:=true) (gX (on:=(aP (cY 25)).names) (N:=["self", "held"]) (by decide +kernel)) (iv (fZ (W "Rules") Z.c_Rules Z.a_Rules_promise_rows (jv 0))) (fun _ _ _ _=>(b1 (gn (show(["row","held"]:List Str).Nodup by decide +kernel)))) (fun _ _ _ _=>qn) (fun _ _ _ _=>(bF (bG 1) (jv 0)))) an)))
 c0)
theorem Hq {k:Nat}(T:TT K mg)(Z:Zt K mg)(IH:IT P w base T k):OT P w base T k 26 :=
 dE 26 (fn:=nC) (N:=["self","held"]) T IH rfl ⟨rfl,rfl,rfl,by decide +kernel,rfl,by decide +kernel,by decide +kernel⟩ rfl rfl rfl fun bL A outer s H E hr m u c cm ck nd=>by
 exact(cc (cA m (eB (iV hr.hd) oQ Z.b_all (ja (jU m (own:=["row"]) (cn:=["held"]) (aW:=[1]) (one:=true) (gX (on:=(aP (cY 26)).names) (N:=["self", "held"]) (by decide +kernel)) (iv (fZ (W "Rules") Z.c_Rules Z.a_Rules_must_rows (jv 0))) (fun _ _ _ _=>(b1 (gn (show(["row","held"]:List Str).Nodup by decide +kernel)))) (fun _ _ _ _=>qn) (fun _ _ _ _=>(bF (bG 1) (jv 0)))) an)))
 c0)
theorem Jl {k:Nat}(T:TT K mg)(Z:Zt K mg)(IH:IT P w base T k):OT P w base T k 27 :=
 dE 27 (fn:=sM) (N:=["self","held"]) T IH rfl ⟨rfl,rfl,rfl,by decide +kernel,rfl,by decide +kernel,by decide +kernel⟩ rfl rfl rfl fun bL A outer s H E hr m u c cm ck nd=>by
 exact(cc (cA m (eB (RJ hr.hd) Es Z.b_sum (ja (jU m (own:=["price", "row"]) (cn:=["held"]) (aW:=[1]) (one:=false) (gX (on:=(aP (cY 27)).names) (N:=["self", "held"]) (by decide +kernel)) (iv (fZ (W "Rules") Z.c_Rules Z.a_Rules_priced_rows (jv 0))) (fun _ _ _ _=>(bt (gc (gn (i:=0) (show(["price","row","held"]:List Str).Nodup by decide +kernel)) (gc (gn (i:=1) (show(["price","row","held"]:List Str).Nodup by decide +kernel)) nn)))) (fun _ _ _ _=>(qc (wV (tp (bF (bG 2) (jv 1)))) qn)) (fun _ _ _ _=>(jv 0))) an)))
 c0)
theorem Ho {k:Nat}(T:TT K mg)(Z:Zt K mg)(IH:IT P w base T k):OT P w base T k 28 :=
 dE 28 (fn:=wY) (N:=["lamps","settings","place","longer","setting"]) T IH rfl ⟨rfl,rfl,rfl,by decide +kernel,rfl,by decide +kernel,by decide +kernel⟩ rfl rfl rfl fun bL A outer s H E hr m u c cm ck nd=>by
 exact(cc (sn (i:=1) m nd (jl (ja (jt m an) an)))
 (cc (A4 (i:=2) m nd (MR m Z.b_range (ja (eB cQ eE Z.b_len (ja (jv 0) an)) an)) (cc (sn (i:=3) m nd (jl an))
 (cc (A4 (i:=4) m nd (iv (jv 1)) (cc (sx m (sD (jv 3) (ja (dO (op:=.add) (jv 4) (jt m (ja jb an))) an)))
 (cc (sx m (sD (jv 3) (ja (dO (op:=.add) (jv 4) (jt m (ja jb an))) an)))
 c0)))
 (cc (sn (i:=1) m nd (jv 3))
 c0))))
 (cc (cA m (jv 1))
 c0)))
theorem Il {k:Nat}(T:TT K mg)(Z:Zt K mg)(IH:IT P w base T k):OT P w base T k 29 :=
 dE 29 (fn:=mS) (N:=["self","first"]) T IH rfl ⟨rfl,rfl,rfl,by decide +kernel,rfl,by decide +kernel,by decide +kernel⟩ rfl rfl rfl fun bL A outer s H E hr m u c cm ck nd=>by
 exact(cc (xC m (W "Numbering") Z.c_Numbering Z.a_Numbering_met (jv 0) (jl (ja (jv 1) an)))
 (cc (xC m (W "Numbering") Z.c_Numbering Z.a_Numbering_numbers_met (jv 0) (Pb u (jv 1) ji))
 c0))
theorem La {k:Nat}(T:TT K mg)(Z:Zt K mg)(IH:IT P w base T k):OT P w base T k 30 :=
 dE 30 (fn:=mC) (N:=["self","thing"]) T IH rfl ⟨rfl,rfl,rfl,by decide +kernel,rfl,by decide +kernel,by decide +kernel⟩ rfl rfl rfl fun bL A outer s H E hr m u c cm ck nd=>by
 exact(cc (dY m (Pq u (jv 1) (fZ (W "Numbering") Z.c_Numbering Z.a_Numbering_numbers_met (jv 0))) (cc (Lq m u (fZ (W "Numbering") Z.c_Numbering Z.a_Numbering_numbers_met (jv 0)) (jv 1) (eB cQ eE Z.b_len (ja (fZ (W "Numbering") Z.c_Numbering Z.a_Numbering_met (jv 0)) an)))
 (cc (sx m (sD (fZ (W "Numbering") Z.c_Numbering Z.a_Numbering_met (jv 0)) (ja (jv 1) an)))
 c0)) c0)
 (cc (cA m (KQ u (fZ (W "Numbering") Z.c_Numbering Z.a_Numbering_numbers_met (jv 0)) (jv 1)))
 c0))
noncomputable abbrev Lv:List Str:=["book","rules","memory","friend"]
theorem Jn {k:Nat}(T:TT K mg)(Z:Zt K mg)(IH:IT P w base T k):OT P w base T k 31 :=
 dE 31 (fn:=uI) (N:=Lv) T IH rfl ⟨rfl,rfl,rfl,by decide +kernel,rfl,by decide +kernel,by decide +kernel⟩ rfl rfl rfl fun bL A outer s H E hr m u c cm ck nd=>by
 exact(cc (xY (i:=3) m nd (bF (bZ (c 28 rfl rfl) (ja (bF (jv 0) ji) an)) ji))
 (cc (cA m (jU m (own:=["foe"]) (cn:=["rules","memory","friend"]) (aW:=[1,2,3]) (one:=true) (gX (on:=(aP (cY 31)).names) (N:=Lv) (by decide +kernel)) (iv (bZ (c 28 rfl rfl) (ja (bF (jv 0) ji) an))) (fun _ _ _ _=>(b1 (gn (show(["foe","rules","memory","friend"]:List Str).Nodup by decide +kernel)))) (fun _ _ _ _=>(qc (tp (yC (mm:=W "foe_keeps") ((cm 25 (W "Rules") rfl rfl).pN) (bG 1) (ja (yC (mm:=W "held_at") ((cm 22 (W "Table") rfl rfl).pN) (fZ (W "Rules") Z.c_Rules Z.a_Rules_table (bG 1)) (ja (bG 2) (ja (dO (op:=.add) (jv 0) (bG 3)) an))) an))) qn)) (fun _ _ _ _=>(jv 0))))
 c0))
theorem Hb {k:Nat}(T:TT K mg)(Z:Zt K mg)(IH:IT P w base T k):OT P w base T k 32 :=
 dE 32 (fn:=yG) (N:=["book","rules","numbering","memory","foe","answers","friend","held","node"]) T IH rfl ⟨rfl,rfl,rfl,by decide +kernel,rfl,by decide +kernel,by decide +kernel⟩ rfl rfl rfl fun bL A outer s H E hr m u c cm ck nd=>by
 exact(cc (sn (i:=5) m nd (jl an))
 (cc (A4 (i:=6) m nd (iv (bZ (c 28 rfl rfl) (ja (bF (jv 0) ji) an))) (cc (sn (i:=7) m nd (yC (mm:=W "held_at") (cm 22 (W "Table") rfl rfl) (fZ (W "Rules") Z.c_Rules Z.a_Rules_table (jv 1)) (ja (jv 3) (ja (dO (op:=.add) (jv 4) (jv 6)) an))))
 (cc (dY m (tp (yC (mm:=W "friend_keeps") (cm 26 (W "Rules") rfl rfl) (jv 1) (ja (jv 7) an))) (cc (sn (i:=8) m nd (yC (mm:=W "number_of") (cm 30 (W "Numbering") rfl rfl) (jv 2) (ja (yC (mm:=W "memory_after") (cm 23 (W "Table") rfl rfl) (fZ (W "Rules") Z.c_Rules Z.a_Rules_table (jv 1)) (ja (jv 7) an)) an)))
 (cc (sx m (sD (jv 5) (ja (jt m (ja (jv 6) (ja (yC (mm:=W "loss_at") (cm 27 (W "Rules") rfl rfl) (jv 1) (ja (jv 7) an)) (ja (jv 8) an)))) an)))
 c0)) c0)
 c0)))
 (cc (cA m (pC fR gW Z.b_tuple (ja (jv 5) an)))
 c0)))
theorem Jd {k:Nat}(T:TT K mg)(Z:Zt K mg)(IH:IT P w base T k):OT P w base T k 33 :=
 dE 33 (fn:=R4) (N:=["book","rules","numbering","nodes","memory","moves","foe"]) T IH rfl ⟨rfl,rfl,rfl,by decide +kernel,rfl,by decide +kernel,by decide +kernel⟩ rfl rfl rfl fun bL A outer s H E hr m u c cm ck nd=>by
 exact(cc (sx m (bZ (c 15 rfl rfl) (ja (jv 0) an)))
 (cc (sn (i:=1) m nd (Br (ck 24 (W "Rules") rfl rfl) (ja (jv 0) an)))
 (cc (sn (i:=2) m nd (Br (ck 29 (W "Numbering") rfl rfl) (ja (fZ (W "Table") Z.c_Table Z.a_Table_first_memory (fZ (W "Rules") Z.c_Rules Z.a_Rules_table (jv 1))) an)))
 (cc (sn (i:=3) m nd (jl an))
 (cc (sw m (dG (o:=.lt) u (eB cQ eE Z.b_len (ja (jv 3) an)) (eB cQ eE Z.b_len (ja (fZ (W "Numbering") Z.c_Numbering Z.a_Numbering_met (jv 2)) an))) (cc (sn (i:=4) m nd (bF (fZ (W "Numbering") Z.c_Numbering Z.a_Numbering_met (jv 2)) (eB cQ eE Z.b_len (ja (jv 3) an))))
 (cc (sn (i:=5) m nd (jl an))
 (cc (A4 (i:=6) m nd (iv (bZ (c 31 rfl rfl) (ja (jv 0) (ja (jv 1) (ja (jv 4) an))))) (cc (sx m (sD (jv 5) (ja (jt m (ja (jv 6) (ja (bZ (c 32 rfl rfl) (ja (jv 0) (ja (jv 1) (ja (jv 2) (ja (jv 4) (ja (jv 6) an)))))) an))) an)))
 c0))
 (cc (sx m (sD (jv 3) (ja (jt m (ja (jv 4) (ja (pC fR gW Z.b_tuple (ja (jv 5) an)) an))) an)))
 c0)))))
 (cc (cA m (jv 3))
 c0))))))
noncomputable abbrev Lm:List Str:=["move","lost","turns"]
theorem Iu {k:Nat}(T:TT K mg)(Z:Zt K mg)(IH:IT P w base T k):OT P w base T k 34 :=
 dE 34 (fn:=tO) (N:=Lm) T IH rfl ⟨rfl,rfl,rfl,by decide +kernel,rfl,by decide +kernel,by decide +kernel⟩ rfl rfl rfl fun bL A outer s H E hr m u c cm ck nd=>by
 exact(cc (cA m (eB (iV hr.hd) oQ Z.b_all (ja (jU m (own:=["answer"]) (cn:=["lost","turns"]) (aW:=[1,2]) (one:=true) (gX (on:=(aP (cY 34)).names) (N:=Lm) (by decide +kernel)) (iv (bF (jv 0) ji)) (fun _ _ _ _=>(b1 (gn (show(["answer","lost","turns"]:List Str).Nodup by decide +kernel)))) (fun _ _ _ _=>qn) (fun _ _ _ _=>(nN (xA (o:=.isnot) u (bF (bG 1) (bF (jv 0) ji)) jn) (nD (xA (o:=.lt) u (bF (bG 1) (bF (jv 0) ji)) (bG 2)))))) an)))
 c0)
noncomputable abbrev Fm:List Str:=["nodes","lost","turns","found","number"]
theorem Iz {k:Nat}(T:TT K mg)(Z:Zt K mg)(IH:IT P w base T k):OT P w base T k 35 :=
 dE 35 (fn:=xO) (N:=Fm) T IH rfl ⟨rfl,rfl,rfl,by decide +kernel,rfl,by decide +kernel,by decide +kernel⟩ rfl rfl rfl fun bL A outer s H E hr m u c cm ck nd=>by
 exact(cc (xY (i:=1) m nd (jU m (own:=["node"]) (cn:=[]) (aW:=[]) (one:=true) (gX (on:=(aP (cY 35)).names) (N:=Fm) (by decide +kernel)) (iv (jv 0)) (fun _ _ _ _=>(b1 (gn (show(["node"]:List Str).Nodup by decide +kernel)))) (fun _ _ _ _=>qn) (fun _ _ _ _=>jn)))
 (cc (xY (i:=2) m nd ji)
 (cc (sw m (tp jb) (cc (MQ (i:=3) m nd (own:=["number","node"]) (cn:=["lost","turns"]) (aW:=[1,2]) (one:=false) (gX (on:=(aP (cY 35)).names) (N:=Fm) (by decide +kernel)) (Pg m Z.b_enumerate (ja (jv 0) an)) (fun _ _ _ _=>(bt (gc (gn (i:=0) (show(["number","node","lost","turns"]:List Str).Nodup by decide +kernel)) (gc (gn (i:=1) (show(["number","node","lost","turns"]:List Str).Nodup by decide +kernel)) nn)))) (fun _ _ _ _=>(qc (sI (Q4 m (dG (o:=.is_) u (bF (bG 2) (jv 0)) jn) (sF (tp (eB (yP hr.hd) K2 Z.b_any (ja (jU m (own:=["move"]) (cn:=["lost","turns"]) (aW:=[2,3]) (one:=true) Ov (iv (bF (jv 1) ji)) (fun _ _ _ _=>(b1 (gn (show(["move","lost","turns"]:List Str).Nodup by decide +kernel)))) (fun _ _ _ _=>qn) (fun _ _ _ _=>(bZ ((c 34 rfl rfl).pN.pN) (ja (jv 0) (ja (bG 1) (ja (bG 2) an)))))) an)))))) qn)) (fun _ _ _ _=>(jv 0)))
 (cc (dY m (wV (tp (jv 3))) (cc (cA m (bG 1))
 c0) c0)
 (cc (A4 (i:=4) m nd (iv (jv 3)) (cc (sg m (bG 2) (gi (bG 1) (jv 4)))
 c0))
 (cc (xY (i:=2) m nd (dO (op:=.add) (bG 2) ji))
 c0)))))
 c0)))
theorem Jk {k:Nat}(T:TT K mg)(Z:Zt K mg)(IH:IT P w base T k):OT P w base T k 36 :=
 dE 36 (fn:=GW) (N:=["book"]) T IH rfl ⟨rfl,rfl,rfl,by decide +kernel,rfl,by decide +kernel,by decide +kernel⟩ rfl rfl rfl fun bL A outer s H E hr m u c cm ck nd=>by
 exact(cc (cA m (bZ (c 35 rfl rfl) (ja (bZ (c 33 rfl rfl) (ja (jv 0) an)) an)))
 c0)
noncomputable abbrev Lu:List Str:=["moves","lost","turns"]
theorem Hf {k:Nat}(T:TT K mg)(Z:Zt K mg)(IH:IT P w base T k):OT P w base T k 37 :=
 dE 37 (fn:=rT) (N:=Lu) T IH rfl ⟨rfl,rfl,rfl,by decide +kernel,rfl,by decide +kernel,by decide +kernel⟩ rfl rfl rfl fun bL A outer s H E hr m u c cm ck nd=>by
 exact(cc (dY m (dG (o:=.is_) u (bG 2) jn) (cc (cA m jn)
 c0) c0)
 (cc (cA m (bF (jU m (own:=["move"]) (cn:=["lost","turns"]) (aW:=[1,2]) (one:=true) (gX (on:=(aP (cY 37)).names) (N:=Lu) (by decide +kernel)) (iv (jv 0)) (fun _ _ _ _=>(b1 (gn (show(["move","lost","turns"]:List Str).Nodup by decide +kernel)))) (fun _ _ _ _=>(qc (tp (bZ ((c 34 rfl rfl).pN) (ja (jv 0) (ja (bG 1) (ja (bG 2) an))))) qn)) (fun _ _ _ _=>(bF (jv 0) ji))) ji))
 c0))
noncomputable abbrev Lf:List Str:=["book","nodes","lost"]
theorem Hy {k:Nat}(T:TT K mg)(Z:Zt K mg)(IH:IT P w base T k):OT P w base T k 38 :=
 dE 38 (fn:=qR) (N:=Lf) T IH rfl ⟨rfl,rfl,rfl,by decide +kernel,rfl,by decide +kernel,by decide +kernel⟩ rfl rfl rfl fun bL A outer s H E hr m u c cm ck nd=>by
 exact(cc (sn (i:=1) m nd (bZ (c 33 rfl rfl) (ja (jv 0) an)))
 (cc (xY (i:=2) m nd (bZ (c 35 rfl rfl) (ja (jv 1) an)))
 (cc (cA m (jU m (own:=["node","turns"]) (cn:=["lost"]) (aW:=[2]) (one:=false) (gX (on:=(aP (cY 38)).names) (N:=Lf) (by decide +kernel)) (Pm m Z.b_zip (ja (jv 1) (ja (bG 2) an))) (fun _ _ _ _=>(bt (gc (gn (i:=0) (show(["node","turns","lost"]:List Str).Nodup by decide +kernel)) (gc (gn (i:=1) (show(["node","turns","lost"]:List Str).Nodup by decide +kernel)) nn)))) (fun _ _ _ _=>qn) (fun _ _ _ _=>(bZ ((c 37 rfl rfl).pN) (ja (bF (jv 0) ji) (ja (bG 2) (ja (jv 1) an)))))))
 c0)))
theorem Ig {k:Nat}(T:TT K mg)(Z:Zt K mg)(IH:IT P w base T k):OT P w base T k 39 :=
 dE 39 (fn:=uA) (N:=["_law_script","_law_k"]) T IH rfl ⟨rfl,rfl,rfl,by decide +kernel,rfl,by decide +kernel,by decide +kernel⟩ rfl rfl rfl fun bL A outer s H E hr m u c cm ck nd=>by
 exact(cc (dY m (dG (o:=.lt) u (jv 1) (eB cQ eE Z.b_len (ja (jv 0) an))) (cc (cA m (bF (jv 0) (jv 1)))
 c0) c0)
 (cc (dY m (dG (o:=.eq) u (jv 0) (jl an)) (cc (cA m ji)
 c0) c0)
 (cc (cA m (dO (op:=.add) (dO (op:=.mul) (bF (jv 0) (dO (op:=.mod) (jv 1) (eB cQ eE Z.b_len (ja (jv 0) an)))) ji) (jv 1)))
 c0)))
theorem Jx {k:Nat}(T:TT K mg)(Z:Zt K mg)(IH:IT P w base T k):OT P w base T k 40 :=
 dE 40 (fn:=xS) (N:=["_law_script","_law_k","_law_many","_law_drawn"]) T IH rfl ⟨rfl,rfl,rfl,by decide +kernel,rfl,by decide +kernel,by decide +kernel⟩ rfl rfl rfl fun bL A outer s H E hr m u c cm ck nd=>by
 exact(cc (sn (i:=3) m nd (dO (op:=.mod) (dO (op:=.mul) (dO (op:=.add) (dO (op:=.add) (bZ (c 39 rfl rfl) (ja (jv 0) (ja (jv 1) an))) (dO (op:=.mul) ji (jv 1))) ji) ji) ji))
 (cc (cA m (dO (op:=.mod) (dO (op:=.mod) (dO (op:=.add) (dO (op:=.add) (dO (op:=.mul) (jv 3) (jv 3)) (dO (op:=.mul) ji (jv 3))) (jv 1)) ji) (jv 2)))
 c0))
theorem Ir {k:Nat}(T:TT K mg)(Z:Zt K mg)(IH:IT P w base T k):OT P w base T k 41 :=
 dE 41 (fn:=A7) (N:=["_law_script","_law_m","_law_many"]) T IH rfl ⟨rfl,rfl,rfl,by decide +kernel,rfl,by decide +kernel,by decide +kernel⟩ rfl rfl rfl fun bL A outer s H E hr m u c cm ck nd=>by
 exact(cc (sg m (dO (op:=.add) (bF (jv 1) ji) ji) (gi (jv 1) ji))
 (cc (cA m (bZ (c 40 rfl rfl) (ja (jv 0) (ja (bF (jv 1) ji) (ja (jv 2) an)))))
 c0))
theorem Ko {k:Nat}(T:TT K mg)(Z:Zt K mg)(IH:IT P w base T k):OT P w base T k 42 :=
 dE 42 (fn:=zL) (N:=["_law_script","_law_m","_law_some","_law_turn","_law_row","_law_foe","_law_friend"]) T IH rfl ⟨rfl,rfl,rfl,by decide +kernel,rfl,by decide +kernel,by decide +kernel⟩ rfl rfl rfl fun bL A outer s H E hr m u c cm ck nd=>by
 exact(cc (sn (i:=2) m nd (jl (ja js (ja js (ja js (ja js (ja js (ja js (ja js (ja js an))))))))))
 (cc (sn (i:=3) m nd (bZ (c 41 rfl rfl) (ja (jv 0) (ja (jv 1) (ja ji an)))))
 (cc (sn (i:=4) m nd (dO (op:=.add) (MB (jv 2) (os (jv 3)) on) (MB (jv 2) on (os (jv 3)))))
 (cc (sn (i:=5) m nd (dO (op:=.add) ji (bZ (c 41 rfl rfl) (ja (jv 0) (ja (jv 1) (ja ji an))))))
 (cc (sn (i:=6) m nd (dO (op:=.add) ji (bZ (c 41 rfl rfl) (ja (jv 0) (ja (jv 1) (ja ji an))))))
 (cc (cA m (jt m (ja (pC fR gW Z.b_tuple (ja (MB (jv 4) on (os (jv 5))) an)) (ja (pC fR gW Z.b_tuple (ja (MB (jv 4) (os (jv 5)) (os (dO (op:=.add) (jv 5) (jv 6)))) an)) an))))
 c0))))))
theorem Iv {k:Nat}(T:TT K mg)(Z:Zt K mg)(IH:IT P w base T k):OT P w base T k 43 :=
 dE 43 (fn:=xI) (N:=["_law_script","_law_m","_law_names_here","_law_deep","_law_left","_law_way","_law_one"]) T IH rfl ⟨rfl,rfl,rfl,by decide +kernel,rfl,by decide +kernel,by decide +kernel⟩ rfl rfl rfl fun bL A outer s H E hr m u c cm ck nd=>by
 exact(cc (sn (i:=5) m nd (bZ (c 41 rfl rfl) (ja (jv 0) (ja (jv 1) (ja ji an)))))
 (cc (dY m (sI (yM m (dG (o:=.eq) u (jv 3) ji) (sF (dG (o:=.lt) u (jv 5) ji)))) (cc (cA m (jt m (ja js (ja (bF (jv 2) (bZ (c 41 rfl rfl) (ja (jv 0) (ja (jv 1) (ja (eB cQ eE Z.b_len (ja (jv 2) an)) an))))) an))))
 c0) c0)
 (cc (dY m (dG (o:=.eq) u (jv 5) ji) (cc (cA m (jt m (ja (bF (jl (ja js (ja js an))) (bZ (c 41 rfl rfl) (ja (jv 0) (ja (jv 1) (ja ji an))))) an)))
 c0) c0)
 (cc (dY m (sI (Q4 m (dG (o:=.gt) u (jv 5) ji) (sF (dG (o:=.gt) u (bF (jv 4) ji) ji)))) (cc (sg m (dO (op:=.sub) (bF (jv 4) ji) ji) (gi (jv 4) ji))
 (cc (sn (i:=6) m nd (bZ (c 43 rfl rfl) (ja (jv 0) (ja (jv 1) (ja (jv 2) (ja (dO (op:=.sub) (jv 3) ji) (ja (jv 4) an)))))))
 (cc (dY m (dG (o:=.eq) u (jv 5) ji) (cc (cA m (jt m (ja js (ja (jv 6) (ja (bZ (c 43 rfl rfl) (ja (jv 0) (ja (jv 1) (ja (jv 2) (ja (dO (op:=.sub) (jv 3) ji) (ja (jv 4) an)))))) an)))))
 c0) c0)
 (cc (cA m (jt m (ja (bF (jl (ja js (ja js (ja js an)))) (dO (op:=.sub) (jv 5) ji)) (ja (jv 6) an))))
 c0)))) c0)
 (cc (sn (i:=6) m nd (bZ (c 43 rfl rfl) (ja (jv 0) (ja (jv 1) (ja (jv 2) (ja (dO (op:=.sub) (jv 3) ji) (ja (jv 4) an)))))))
 (cc (dY m (sI (yM m (dG (o:=.eq) u (jv 5) ji) (sF (dG (o:=.gt) u (jv 5) ji)))) (cc (cA m (jt m (ja js (ja (jv 6) an))))
 c0) c0)
 (cc (cA m (jt m (ja (bF (jl (ja js (ja js (ja js (ja js an))))) (dO (op:=.sub) (jv 5) ji)) (ja (jv 6) (ja (bZ (c 43 rfl rfl) (ja (jv 0) (ja (jv 1) (ja (jv 2) (ja (dO (op:=.sub) (jv 3) ji) (ja (jv 4) an)))))) an)))))
 c0)))))))
theorem Kp {k:Nat}(T:TT K mg)(Z:Zt K mg)(IH:IT P w base T k):OT P w base T k 44 :=
 dE 44 (fn:=tV) (N:=["_law_script","_law_m","_law_foe","_law_names_here","_law_left","_law_one","_law_other"]) T IH rfl ⟨rfl,rfl,rfl,by decide +kernel,rfl,by decide +kernel,by decide +kernel⟩ rfl rfl rfl fun bL A outer s H E hr m u c cm ck nd=>by
 exact(cc (sn (i:=5) m nd (bZ (c 43 rfl rfl) (ja (jv 0) (ja (jv 1) (ja (jv 2) (ja ji (ja (jl (ja ji an)) an)))))))
 (cc (dY m (sI (Q4 m (dG (o:=.gt) u (bF (jv 4) ji) ji) (sF (dG (o:=.eq) u (bZ (c 41 rfl rfl) (ja (jv 0) (ja (jv 1) (ja ji an)))) ji)))) (cc (sg m (dO (op:=.sub) (bF (jv 4) ji) ji) (gi (jv 4) ji))
 (cc (sn (i:=6) m nd (bZ (c 43 rfl rfl) (ja (jv 0) (ja (jv 1) (ja (jv 3) (ja ji (ja (jl (ja ji an)) an)))))))
 (cc (cA m (jt m (ja (bF (jl (ja js (ja js (ja js an)))) (bZ (c 41 rfl rfl) (ja (jv 0) (ja (jv 1) (ja ji an))))) (ja (jt m (ja js (ja (jv 6) an))) (ja (jv 5) an)))))
 c0))) c0)
 (cc (cA m (jv 5))
 c0)))
noncomputable abbrev Z8:List Str:=["_law_script","_law_at","_law_pieces","_law_musts","_law_m","_law_foe","_law_friend","_law_names_here","_law_left","_law_wishes","_law_k","_law_price","_law_some","_law_known"]
theorem Jz {k:Nat}(T:TT K mg)(Z:Zt K mg)(IH:IT P w base T k):OT P w base T k 45 :=
 dE 45 (fn:=A6) (N:=Z8) T IH rfl ⟨rfl,rfl,rfl,by decide +kernel,rfl,by decide +kernel,by decide +kernel⟩ rfl rfl rfl fun bL A outer s H E hr m u c cm ck nd=>by
 exact(cc (xY (i:=4) m nd (jl (ja (jv 1) an)))
 (cc (sg m (bZ (c 42 rfl rfl) (ja (bG 0) (ja (bG 4) an))) (gt (gc (Pn (i:=5) nd) (gc (gn (i:=6) nd) nn))))
 (cc (xY (i:=7) m nd (dO (op:=.add) (bG 5) (jv 6)))
 (cc (xY (i:=8) m nd (jl (ja (bZ (c 41 rfl rfl) (ja (bG 0) (ja (bG 4) (ja (dO (op:=.add) (jv 2) ji) an)))) an)))
 (cc (sn (i:=9) m nd (jl an))
 (cc (A4 (i:=10) m nd (MR m Z.b_range (ja (dO (op:=.add) ji (bZ (c 41 rfl rfl) (ja (bG 0) (ja (bG 4) (ja ji an))))) an)) (cc (sn (i:=11) m nd (dO (op:=.add) ji (bZ (c 41 rfl rfl) (ja (bG 0) (ja (bG 4) (ja (bF (jl (ja ji (ja ji (ja ji an)))) (bZ (c 41 rfl rfl) (ja (bG 0) (ja (bG 4) (ja ji an))))) an))))))
 (cc (sx m (sD (jv 9) (ja (jt m (ja (jv 11) (ja (bZ (c 43 rfl rfl) (ja (bG 0) (ja (bG 4) (ja (bG 7) (ja ji (ja (bG 8) an)))))) an))) an)))
 c0)))
 (cc (MQ (i:=12) m nd (own:=["_law_k"]) (cn:=["_law_script","_law_m","_law_names_here","_law_left"]) (aW:=[0,4,7,8]) (one:=true) (gX (on:=(aP (cY 45)).names) (N:=Z8) (by decide +kernel)) (MR m Z.b_range (ja (bZ (c 41 rfl rfl) (ja (bG 0) (ja (bG 4) (ja (dO (op:=.add) (jv 3) ji) an)))) an)) (fun _ _ _ _=>(b1 (gn (show(["_law_k","_law_script","_law_m","_law_names_here","_law_left"]:List Str).Nodup by decide +kernel)))) (fun _ _ _ _=>qn) (fun _ _ _ _=>(bZ ((c 43 rfl rfl).pN) (ja (bG 1) (ja (bG 2) (ja (bG 3) (ja ji (ja (bG 4) an))))))))
 (cc (MQ (i:=13) m nd (own:=["_law_k"]) (cn:=["_law_script","_law_m","_law_foe","_law_names_here","_law_left"]) (aW:=[0,4,5,7,8]) (one:=true) (gX (on:=(aP (cY 45)).names) (N:=Z8) (by decide +kernel)) (MR m Z.b_range (ja (bZ (c 41 rfl rfl) (ja (bG 0) (ja (bG 4) (ja ji an)))) an)) (fun _ _ _ _=>(b1 (gn (show(["_law_k","_law_script","_law_m","_law_foe","_law_names_here","_law_left"]:List Str).Nodup by decide +kernel)))) (fun _ _ _ _=>qn) (fun _ _ _ _=>(bZ ((c 44 rfl rfl).pN) (ja (bG 1) (ja (bG 2) (ja (bG 3) (ja (bG 4) (ja (bG 5) an))))))))
 (cc (cA m (jt m (ja (bG 5) (ja (jv 6) (ja (pC fR gW Z.b_tuple (ja (jv 13) an)) (ja (pC fR gW Z.b_tuple (ja (jv 12) an)) (ja (pC fR gW Z.b_tuple (ja (jv 9) an)) an)))))))
 c0)))))))))
noncomputable abbrev ZU:List Str:=["_law_nodes","_law_ranks_here","_law_turn","_law_known","_law_k","_law_foe","_law_answers"]
theorem Hw {k:Nat}(T:TT K mg)(Z:Zt K mg)(IH:IT P w base T k):OT P w base T k 46 :=
 dE 46 (fn:=yR) (N:=ZU) T IH rfl ⟨rfl,rfl,rfl,by decide +kernel,rfl,by decide +kernel,by decide +kernel⟩ rfl rfl rfl fun bL A outer s H E hr m u c cm ck nd=>by
 exact(cc (MQ (i:=1) m nd (own:=["_law_node"]) (cn:=[]) (aW:=[]) (one:=true) (gX (on:=(aP (cY 46)).names) (N:=ZU) (by decide +kernel)) (iv (jv 0)) (fun _ _ _ _=>(b1 (gn (show(["_law_node"]:List Str).Nodup by decide +kernel)))) (fun _ _ _ _=>qn) (fun _ _ _ _=>jn))
 (cc (A4 (i:=2) m nd (Pc m Z.b_range (ja ji (ja (dO (op:=.add) (eB cQ eE Z.b_len (ja (jv 0) an)) ji) an))) (cc (xY (i:=3) m nd (pC wC tS Z.b_list (ja (jv 1) an)))
 (cc (A4 (i:=4) m nd (MR m Z.b_range (ja (eB cQ eE Z.b_len (ja (jv 0) an)) an)) (cc (sf m (iv (bF (bF (jv 0) (jv 4)) ji)) (gt (gc (gn (i:=5) nd) (gc (gn (i:=6) nd) nn))) (cc (dY m (sI (Q4 m (dG (o:=.is_) u (bF (bG 3) (jv 4)) jn) (sF (dG (o:=.eq) u (jU m (own:=["_law_answer"]) (cn:=["_law_known"]) (aW:=[3]) (one:=true) (gX (on:=(aP (cY 46)).names) (N:=ZU) (by decide +kernel)) (iv (jv 6)) (fun _ _ _ _=>(b1 (gn (show(["_law_answer","_law_known"]:List Str).Nodup by decide +kernel)))) (fun _ _ _ _=>(qc (dG (o:=.is_) u (bF (bG 1) (bF (jv 0) ji)) jn) qn)) (fun _ _ _ _=>(jv 0))) (jl an))))) (cc (sg m (jv 2) (gi (jv 1) (jv 4)))
 c0) c0)
 c0))
 c0))
 c0)))
 (cc (cA m (jv 1))
 c0)))
noncomputable abbrev Lj:List Str:=["_law_script","_law_book_here","_law_nodes","_law_ranks_here","_law_due","_law_k","_law_some","_law_foe","_law_answers","_law_answer"]
theorem Gu {k:Nat}(T:TT K mg)(Z:Zt K mg)(IH:IT P w base T k):OT P w base T k 47 :=
 dE 47 (fn:=VG) (N:=Lj) T IH rfl ⟨rfl,rfl,rfl,by decide +kernel,rfl,by decide +kernel,by decide +kernel⟩ rfl rfl rfl fun bL A outer s H E hr m u c cm ck nd=>by
 exact(cc (sn (i:=1) m nd (bZ (c 45 rfl rfl) (ja (jv 0) (ja ji (ja ji (ja ji an))))))
 (cc (sn (i:=2) m nd (bZ (c 33 rfl rfl) (ja (jv 1) an)))
 (cc (xY (i:=3) m nd (bZ (c 46 rfl rfl) (ja (jv 2) an)))
 (cc (dY m (dG (o:=.ne) u (bZ (c 36 rfl rfl) (ja (jv 1) an)) (bG 3)) (cc (cA m jb)
 c0) c0)
 (cc (sn (i:=4) m nd (jl an))
 (cc (Nt (i:=5) m nd (MR m Z.b_range (ja (eB cQ eE Z.b_len (ja (jv 2) an)) an)) (cc (sn (i:=6) m nd (jl (ja jn an)))
 (cc (dY m (dG (o:=.isnot) u (bF (bG 3) (bG 5)) jn) (cc (sn (i:=6) m nd (jl an))
 (cc (sf m (iv (bF (bF (jv 2) (bG 5)) ji)) (gt (gc (gn (i:=7) nd) (gc (gn (i:=8) nd) nn))) (cc (dY m (dG (o:=.eq) u (jU m (own:=["_law_friend","_law_loss","_law_node"]) (cn:=["_law_ranks_here","_law_k"]) (aW:=[3,5]) (one:=false) (gX (on:=(aP (cY 47)).names) (N:=Lj) (by decide +kernel)) (iv (jv 8)) (fun _ _ _ _=>(bt (gc (gn (i:=0) (show(["_law_friend","_law_loss","_law_node","_law_ranks_here","_law_k"]:List Str).Nodup by decide +kernel)) (gc (gn (i:=1) (show(["_law_friend","_law_loss","_law_node","_law_ranks_here","_law_k"]:List Str).Nodup by decide +kernel)) (gc (gn (i:=2) (show(["_law_friend","_law_loss","_law_node","_law_ranks_here","_law_k"]:List Str).Nodup by decide +kernel)) nn))))) (fun _ _ _ _=>(qc (sI (yM m (dG (o:=.is_) u (bF (bG 3) (jv 2)) jn) (sF (dG (o:=.ge) u (bF (bG 3) (jv 2)) (bF (bG 3) (bG 4)))))) qn)) (fun _ _ _ _=>(jv 2))) (jl an)) (cc (sx m (sD (jv 6) (ja (jv 7) an)))
 c0) c0)
 c0))
 c0)) c0)
 (cc (sx m (sD (jv 4) (ja (bF (jv 6) ji) an)))
 c0))))
 (cc (sn (i:=9) m nd (bZ (c 38 rfl rfl) (ja (jv 1) an)))
 (cc (cA m (nN (J8 (t:=.list) tS Z.b_isinstance Z.b_list (jv 9)) (nD (xA (o:=.eq) u (jv 9) (jv 4)))))
 c0))))))))
theorem Pp {k:Nat}(T:BU K mg 48 tT nO nP cY rZ)(Z:Zt K mg)(IH:∀ i,i<48->eV P w K mg base gP (2*k) (T.a i) (T.fd i) (nP i) (fI K (aN G k) i)):∀ i,i<48->eV P w K mg base gP (2*k+1+1) (T.a i) (T.fd i) (nP i) (fI K (aN G (k+1)) i)
 |0,_=>Me T Z IH
 |1,_=>Nk T Z IH
 |2,_=>Mj T Z IH
 |3,_=>Nh T Z IH
 |4,_=>Om T Z IH
 |5,_=>Od T Z IH
 |6,_=>Np T Z IH
 |7,_=>Ob T Z IH
 |8,_=>Mf T Z IH
 |9,_=>Ny T Z IH
 |10,_=>Ie T Z IH
 |11,_=>Ha T Z IH
 |12,_=>Hv T Z IH
 |13,_=>Kq T Z IH
 |14,_=>He T Z IH
 |15,_=>Ih T Z IH
 |16,_=>Gq T Z IH
 |17,_=>Ik T Z IH
 |18,_=>Jg T Z IH
 |19,_=>Jm T Z IH
 |20,_=>Jq T Z IH
 |21,_=>Ka T Z IH
 |22,_=>Hd T Z IH
 |23,_=>Hu T Z IH
 |24,_=>Gk T Z IH
 |25,_=>Ht T Z IH
 |26,_=>Hq T Z IH
 |27,_=>Jl T Z IH
 |28,_=>Ho T Z IH
 |29,_=>Il T Z IH
 |30,_=>La T Z IH
 |31,_=>Jn T Z IH
 |32,_=>Hb T Z IH
 |33,_=>Jd T Z IH
 |34,_=>Iu T Z IH
 |35,_=>Iz T Z IH
 |36,_=>Jk T Z IH
 |37,_=>Hf T Z IH
 |38,_=>Hy T Z IH
 |39,_=>Ig T Z IH
 |40,_=>Jx T Z IH
 |41,_=>Ir T Z IH
 |42,_=>Ko T Z IH
 |43,_=>Iv T Z IH
 |44,_=>Kp T Z IH
 |45,_=>Jz T Z IH
 |46,_=>Hw T Z IH
 |47,_=>Gu T Z IH
 |n+48,h=>absurd h (by omega)
end
theorem S8:∀ ns:List Int,ns.length<=63->aN G 18 VO [.bK (ns.map .int)] (fun _=>none) (fun d _=>d=.bl true) fun _ _=>False:=fun ns _ =>
 Kd (k:=1) (G:=G) (il:=VO) (ibo:=A1) (iga:=CB) (irk:=xN) (iln:=FG) (ibs:=qI) (inm:=zK) (ic:=tR) (im:=yD) (dD:=fP) (is:=gA) (ipr:=tU) (ibk:=yL) (ich:=E9) (iti:=rB) (iri:=qT) (ie:=pD) (iw:=gQ) (ipo:=rE) (iz:=oC) (irr:=lH) (io:=nI) (ini:=mP) (ifs:=uF) (ian:=zF) (jS:=pG) (ifk:=pP) (lC:=mN) (imk:=mX) (ino:=mG) (ima:=mQ) (ilo:=sG) (iph:=xM) (inh:=A2) (ilt:=qV) (ilb:=nU) (ibm:=sO)
 rfl rfl rfl rfl rfl rfl rfl rfl rfl rfl
 (fun b B hs hd hc k st Q E hQ=>NG (G:=G) (ir:=lV) (gZ:=xT) (eZ:=kR) (iy:=tJ) (ia:=pJ) (iap:=tW) (io:=nI) (il:=BC) (iaw:=xK) (ipi:=oC) (ip:=CV) (iw:=FX) (ibk:=yL) (ih:=gQ) (ib:=pA) rfl rfl rfl rfl rfl rfl rfl rfl rfl rfl rfl rfl rfl rfl rfl B hs hd hc hQ)
 rfl rfl rfl rfl rfl rfl rfl rfl rfl rfl rfl rfl rfl rfl rfl rfl rfl rfl rfl rfl rfl rfl rfl rfl rfl rfl
theorem uO {α:Type}{P:List α->Prop}(h:∀ a0,P [a0]):∀ us:List α,us.length=1->P us
 |[a0],_=>h a0
theorem ln2 {α:Type}{P:List α->Prop}(h:∀ a0 a1,P [a0,a1]):∀ us:List α,us.length=2->P us
 |[a0,a1],_=>h a0 a1
theorem uN {α:Type}{P:List α->Prop}(h:∀ a0 a1 a2,P [a0,a1,a2]):∀ us:List α,us.length=3->P us
 |[a0,a1,a2],_=>h a0 a1 a2
theorem Pe {α:Type}{P:List α->Prop}(h:∀ a0 a1 a2 a3,P [a0,a1,a2,a3]):∀ us:List α,us.length=4->P us
 |[a0,a1,a2,a3],_=>h a0 a1 a2 a3
theorem Dj {α:Type}{P:List α->Prop}(h:∀ a0 a1 a2 a3 a4,P [a0,a1,a2,a3,a4]):∀ us:List α,us.length=5->P us
 |[a0,a1,a2,a3,a4],_=>h a0 a1 a2 a3 a4
theorem Ln:∀ i,i<48->EV (tT i) (nO i) (nP i) (cY i)
 |0,_=>fun _ _ _ _ _ _=>uO fun _=>rfl
 |1,_=>fun _ _ _ _ _ _=>ln2 fun _ _=>rfl
 |2,_=>fun _ _ _ _ _ _=>uN fun _ _ _=>rfl
 |3,_=>fun _ _ _ _ _ _=>uO fun _=>rfl
 |4,_=>fun _ _ _ _ _ _=>uO fun _=>rfl
 |5,_=>fun _ _ _ _ _ _=>uN fun _ _ _=>rfl
 |6,_=>fun _ _ _ _ _ _=>ln2 fun _ _=>rfl
 |7,_=>fun _ _ _ _ _ _=>uN fun _ _ _=>rfl
 |8,_=>fun _ _ _ _ _ _=>ln2 fun _ _=>rfl
 |9,_=>fun _ _ _ _ _ _=>uN fun _ _ _=>rfl
 |10,_=>fun _ _ _ _ _ _=>uO fun _=>rfl
 |11,_=>fun _ _ _ _ _ _=>ln2 fun _ _=>rfl
 |12,_=>fun _ _ _ _ _ _=>ln2 fun _ _=>rfl
 |13,_=>fun _ _ _ _ _ _=>uN fun _ _ _=>rfl
 |14,_=>fun _ _ _ _ _ _=>uO fun _=>rfl
 |15,_=>fun _ _ _ _ _ _=>uO fun _=>rfl
 |16,_=>fun _ _ _ _ _ _=>ln2 fun _ _=>rfl
 |17,_=>fun _ _ _ _ _ _=>uN fun _ _ _=>rfl
 |18,_=>fun _ _ _ _ _ _=>uN fun _ _ _=>rfl
 |19,_=>fun _ _ _ _ _ _=>ln2 fun _ _=>rfl
 |20,_=>fun _ _ _ _ _ _=>ln2 fun _ _=>rfl
 |21,_=>fun _ _ _ _ _ _=>ln2 fun _ _=>rfl
 |22,_=>fun _ _ _ _ _ _=>uN fun _ _ _=>rfl
 |23,_=>fun _ _ _ _ _ _=>ln2 fun _ _=>rfl
 |24,_=>fun _ _ _ _ _ _=>ln2 fun _ _=>rfl
 |25,_=>fun _ _ _ _ _ _=>ln2 fun _ _=>rfl
 |26,_=>fun _ _ _ _ _ _=>ln2 fun _ _=>rfl
 |27,_=>fun _ _ _ _ _ _=>ln2 fun _ _=>rfl
 |28,_=>fun _ _ _ _ _ _=>uO fun _=>rfl
 |29,_=>fun _ _ _ _ _ _=>ln2 fun _ _=>rfl
 |30,_=>fun _ _ _ _ _ _=>ln2 fun _ _=>rfl
 |31,_=>fun _ _ _ _ _ _=>uN fun _ _ _=>rfl
 |32,_=>fun _ _ _ _ _ _=>Dj fun _ _ _ _ _=>rfl
 |33,_=>fun _ _ _ _ _ _=>uO fun _=>rfl
 |34,_=>fun _ _ _ _ _ _=>uN fun _ _ _=>rfl
 |35,_=>fun _ _ _ _ _ _=>uO fun _=>rfl
 |36,_=>fun _ _ _ _ _ _=>uO fun _=>rfl
 |37,_=>fun _ _ _ _ _ _=>uN fun _ _ _=>rfl
 |38,_=>fun _ _ _ _ _ _=>uO fun _=>rfl
 |39,_=>fun _ _ _ _ _ _=>ln2 fun _ _=>rfl
 |40,_=>fun _ _ _ _ _ _=>uN fun _ _ _=>rfl
 |41,_=>fun _ _ _ _ _ _=>uN fun _ _ _=>rfl
 |42,_=>fun _ _ _ _ _ _=>ln2 fun _ _=>rfl
 |43,_=>fun _ _ _ _ _ _=>Dj fun _ _ _ _ _=>rfl
 |44,_=>fun _ _ _ _ _ _=>Dj fun _ _ _ _ _=>rfl
 |45,_=>fun _ _ _ _ _ _=>Pe fun _ _ _ _=>rfl
 |46,_=>fun _ _ _ _ _ _=>uO fun _=>rfl
 |47,_=>fun _ _ _ _ _ _=>uO fun _=>rfl
 |n+48,h=>absurd h (by omega)
noncomputable abbrev FF (K:PySem.W.Frag)(mg:Str->Option Value)(i:Nat):=vT K mg (tT i) (nO i) (cY i) (rZ i)
theorem Pl {K:PySem.W.Frag}{mg:Str->Option Value}(F0:FF K mg 0)(F1:FF K mg 1)(F2:FF K mg 2)(F3:FF K mg 3)(F4:FF K mg 4)(F5:FF K mg 5)(F6:FF K mg 6)(F7:FF K mg 7)(F8:FF K mg 8)(F9:FF K mg 9)(F10:FF K mg 10)(F11:FF K mg 11)(F12:FF K mg 12)(F13:FF K mg 13)(F14:FF K mg 14)(F15:FF K mg 15)(F16:FF K mg 16)(F17:FF K mg 17)(F18:FF K mg 18)(F19:FF K mg 19)(F20:FF K mg 20)(F21:FF K mg 21)(F22:FF K mg 22)(F23:FF K mg 23)(F24:FF K mg 24)(F25:FF K mg 25)(F26:FF K mg 26)(F27:FF K mg 27)(F28:FF K mg 28)(F29:FF K mg 29)(F30:FF K mg 30)(F31:FF K mg 31)(F32:FF K mg 32)(F33:FF K mg 33)(F34:FF K mg 34)(F35:FF K mg 35)(F36:FF K mg 36)(F37:FF K mg 37)(F38:FF K mg 38)(F39:FF K mg 39)(F40:FF K mg 40)(F41:FF K mg 41)(F42:FF K mg 42)(F43:FF K mg 43)(F44:FF K mg 44)(F45:FF K mg 45)(F46:FF K mg 46)(F47:FF K mg 47):∀ i,i<48->vT K mg (tT i) (nO i) (cY i) (rZ i)
 |0,_=>F0
 |1,_=>F1
 |2,_=>F2
 |3,_=>F3
 |4,_=>F4
 |5,_=>F5
 |6,_=>F6
 |7,_=>F7
 |8,_=>F8
 |9,_=>F9
 |10,_=>F10
 |11,_=>F11
 |12,_=>F12
 |13,_=>F13
 |14,_=>F14
 |15,_=>F15
 |16,_=>F16
 |17,_=>F17
 |18,_=>F18
 |19,_=>F19
 |20,_=>F20
 |21,_=>F21
 |22,_=>F22
 |23,_=>F23
 |24,_=>F24
 |25,_=>F25
 |26,_=>F26
 |27,_=>F27
 |28,_=>F28
 |29,_=>F29
 |30,_=>F30
 |31,_=>F31
 |32,_=>F32
 |33,_=>F33
 |34,_=>F34
 |35,_=>F35
 |36,_=>F36
 |37,_=>F37
 |38,_=>F38
 |39,_=>F39
 |40,_=>F40
 |41,_=>F41
 |42,_=>F42
 |43,_=>F43
 |44,_=>F44
 |45,_=>F45
 |46,_=>F46
 |47,_=>F47
 |n+48,h=>absurd h (by omega)
theorem all_mk {P:Program}{w:World}{K:PySem.W.Frag}{mg:Str->Option Value}{fa:Addr}(hfa:mg "law" = some (.ref fa))(Z:Zt K mg)(F:∀ i,i<48->vT K mg (tT i) (nO i) (cY i) (rZ i)):
 ∃ fd:FuncData,(∀(s:Shared)(u:Value),BindsTo s fd ⟨[u],[]⟩ [("_law_script", u)])/\∀ base:Heap,K.In base->base.Ns mainGlobals mg->eV P w K mg base gP (2*18) fa fd ["_law_script"] (fI K (aN G 18) 47):=by
 obtain⟨_,d,_⟩:=F 0 (by decide)
 obtain⟨T⟩:=MX 48 Ln F d
 have e:=hfa.symm.trans (show mg "law" = some (.ref (T.a 47))from T.mg 47 (by decide))
 cases e
 exact⟨T.fd 47,OR (T.fn 47 (by decide)) (Ln 47 (by decide)),fun base _ _=>MH T (fun k IH=>Pp T Z IH) 18 47 (by decide)⟩
end L3
open PySem PySem.W PyProof.Rows
local macro_rules|`(tactic| walk_at"ft")=>`(tactic| (refine' L3.Ju (by assumption) (by assumption) ?a ?l ?c ?k;(case a=>k_is);(case l=>k_is);(case c=>k_is);(case k=>k_is)))
local macro_rules|`(tactic| walk_at"fi")=>`(tactic| (refine' L3.Hn (by assumption) (by assumption) ?cl ?mk ?kp ?a ?fn ?l ?cc ?k;(case cl=>k_is);(case mk=>k_is);(case kp=>k_is);(case a=>k_is);(case fn=>k_is);(case l=>k_is);(case cc=>k_is);(case k=>k_is)))
local macro_rules|`(tactic| walk_at"fm")=>`(tactic| (refine' L3.Gy (by assumption) (by assumption) ?cl ?pg ?hd ?po ?sa ?a ?fn ?l ?cc ?k;(case cl=>k_is);(case pg=>k_is);(case hd=>k_is);(case po=>k_is);(case sa=>k_is);(case a=>k_is);(case fn=>k_is);(case l=>k_is);(case cc=>k_is);(case k=>k_is)))
local macro_rules|`(tactic| walk_at"fc")=>`(tactic| (refine' L3.Et ?cl ?pg ?hd ?po ?sa;(case cl=>k_is);(case pg=>k_is);(case hd=>k_is);(case po=>k_is);(case sa=>k_is)))
local macro_rules|`(tactic| walk_at"fa")=>`(tactic| (refine' L3.Gb ?cl ?na;(case cl=>k_is);(case na=>k_is)))
local macro_rules|`(tactic| walk_at"fn")=>`(tactic| (refine' PySem.W.mg_none_of (by assumption) (by assumption) ?x;(case x=>k_is)))
local macro_rules|`(tactic| walk_at"fg")=>`(tactic| (refine' L3.Ct (by assumption) (by assumption) ?a;(case a=>k_is)))
def PySem.W.Fast.tw15816875593754751504:Unit:=()
def PySem.W.Fast.tw4602048990467904850:Unit:=()
def PySem.W.Fast.tw8530809451829401077:Unit:=()
def PySem.W.Fast.tw1579431225310190141:Unit:=()
def PySem.W.Fast.tw17168795796145097130:Unit:=()
def PySem.W.Fast.tw12254755037718680203:Unit:=()
def PySem.W.Fast.tw1381959768185631628:Unit:=()
def PySem.W.Fast.tw15074220671609280390:Unit:=()
def PySem.W.Fast.tw8081525729053852847:Unit:=()
def PySem.W.Fast.tw18345249069542818397:Unit:=()
def PySem.W.Fast.tw15033550843931832670:Unit:=()
def PySem.W.Fast.tw2729394759761679844:Unit:=()
def PySem.W.Fast.tw6399508438581343013:Unit:=()
def PySem.W.Fast.tw11513731287748123148:Unit:=()
def PySem.W.Fast.tw8210896803602174303:Unit:=()
def PySem.W.Fast.tw11071891128749831933:Unit:=()
def PySem.W.Fast.tw10829010878195069108:Unit:=()
def PySem.W.Fast.tw2014999286445719953:Unit:=()
def PySem.W.Fast.tw13896632806064053161:Unit:=()
def PySem.W.Fast.tw2248342755795904699:Unit:=()
def PySem.W.Fast.tw14701110498794064549:Unit:=()
def PySem.W.Fast.tw8886632341413716955:Unit:=()
def PySem.W.Fast.tw5416857026849279099:Unit:=()
def PySem.W.Fast.tw12420329091027389974:Unit:=()
def PySem.W.Fast.tw946058741653775682:Unit:=()
def PySem.W.Fast.tw8692505796348825538:Unit:=()
def PySem.W.Fast.tw8710282181972564167:Unit:=()
def PySem.W.Fast.tw1250955372920466576:Unit:=()
def PySem.W.Fast.tw5694298634120090578:Unit:=()
def PySem.W.Fast.tw2200262202715830329:Unit:=()
def PySem.W.Fast.tw9380408474924960332:Unit:=()
def PySem.W.Fast.tw7193008621221237648:Unit:=()
def PySem.W.Fast.tw11378579914458292329:Unit:=()
def PySem.W.Fast.tw17980500204484611423:Unit:=()
def PySem.W.Fast.tw1513954382190011121:Unit:=()
def PySem.W.Fast.tw951971378127135935:Unit:=()
def PySem.W.Fast.tw8425221071561952887:Unit:=()
def PySem.W.Fast.tw11685186838978688191:Unit:=()
def PySem.W.Fast.tw10545854853725001177:Unit:=()
def PySem.W.Fast.tw12282862979812120824:Unit:=()
def PySem.W.Fast.tw17558437861392140005:Unit:=()
def PySem.W.Fast.tw9017411350047553220:Unit:=()
def PySem.W.Fast.tw6000440745493831856:Unit:=()
def PySem.W.Fast.tw11543057823343574656:Unit:=()
def PySem.W.Fast.tw13225924828927240048:Unit:=()
def PySem.W.Fast.tw3656538363558830002:Unit:=()
def PySem.W.Fast.tw17489140200906772203:Unit:=()
def PySem.W.Fast.tw7727042501556109843:Unit:=()
def PySem.W.Fast.tw8718729780498656916:Unit:=()
def PySem.W.Fast.tw7956163382064418922:Unit:=()
def PySem.W.Fast.tw6049018179121351621:Unit:=()
def PySem.W.Fast.tw12067901247878929220:Unit:=()
def PySem.W.Fast.tw4907950416489850708:Unit:=()
def PySem.W.Fast.tw3040838407089155005:Unit:=()
def PySem.W.Fast.tw7287869661758708674:Unit:=()
def PySem.W.Fast.tw8701628695606825850:Unit:=()
def PySem.W.Fast.tw8381688315067628192:Unit:=()
def PySem.W.Fast.tw12515056530096130179:Unit:=()
def PySem.W.Fast.tw8857786689237078661:Unit:=()
def PySem.W.Fast.tw17326096021894954932:Unit:=()
def PySem.W.Fast.tw10946293976795616834:Unit:=()
def PySem.W.Fast.tw3662827742614544367:Unit:=()
def PySem.W.Fast.tw12241674847022144357:Unit:=()
def PySem.W.Fast.tw14520177526508738356:Unit:=()
def PySem.W.Fast.tw13132243405637750539:Unit:=()
def PySem.W.Fast.tw5851636312381940078:Unit:=()
def PySem.W.Fast.tw18444145425913634016:Unit:=()
def PySem.W.Fast.tw12408758801393741587:Unit:=()
def PySem.W.Fast.tw17438365437372982948:Unit:=()
def PySem.W.Fast.tw16395052091739356461:Unit:=()
def PySem.W.Fast.tw11798984947789173027:Unit:=()
def PySem.W.Fast.tw9616081838830061263:Unit:=()
def PySem.W.Fast.tw8763042559582609503:Unit:=()
def PySem.W.Fast.tw6487542774710281824:Unit:=()
def PySem.W.Fast.tw12898365110833696178:Unit:=()
def PySem.W.Fast.tw14845086455259921633:Unit:=()
def PySem.W.Fast.tw2728377851141440350:Unit:=()
def PySem.W.Fast.tw16978347670884398508:Unit:=()
def PySem.W.Fast.tw16013700637158153220:Unit:=()
def PySem.W.Fast.tw10168320674725584855:Unit:=()
def PySem.W.Fast.tw7646046031614889683:Unit:=()
def PySem.W.Fast.tw17783938673058672950:Unit:=()
def PySem.W.Fast.tw14486853133661384899:Unit:=()
def PySem.W.Fast.tw6246816298232071748:Unit:=()
def PySem.W.Fast.tw2516067475531559402:Unit:=()
def PySem.W.Fast.tw13545588135790711908:Unit:=()
def PySem.W.Fast.tw8632853429778150888:Unit:=()
def PySem.W.Fast.tw15507168843650936827:Unit:=()
def PySem.W.Fast.tw3971018611971165031:Unit:=()
def PySem.W.Fast.tw116725625898569531:Unit:=()
def PySem.W.Fast.tw7498580769532181511:Unit:=()
def PySem.W.Fast.tw606208582535471657:Unit:=()
def PySem.W.Fast.tw6415176906931113383:Unit:=()
def PySem.W.Fast.tw6917489051286130226:Unit:=()
def PySem.W.Fast.tw17865274441198015754:Unit:=()
def PySem.W.Fast.tw237777494426640944:Unit:=()
def PySem.W.Fast.tw5905609106740749814:Unit:=()
def PySem.W.Fast.tw17360702595854289055:Unit:=()
def PySem.W.Fast.tw13268295659448641855:Unit:=()
def PySem.W.Fast.tw16314596516697796199:Unit:=()
set_option maxRecDepth 100000 in
set_option maxHeartbeats 0 in
theorem PySem.Challenge.cw_leastloss_k10_lost_in_holds : PySem.Challenge.rw_leastloss_k10_lost_in.Holds := by
 w_on;o_law;k_head;(case hw=>w_witness2)
 k_fill
 refine L3.Fy (l:=PySem.Challenge.rw_leastloss_k10_lost_in) (x :="_law_script") (r:=2*18) (k:=18) (f:=47) (G:=L3.G) ⟨rfl,by decide,by decide⟩ L3.S8 rfl rfl (fun w h Y=>PySem.W.kIn_of Y) ?F
 case F =>
 intro w mg fa h KX G hmg
 refine L3.all_mk hmg ?Z (L3.Pl ?F0 ?F1 ?F2 ?F3 ?F4 ?F5 ?F6 ?F7 ?F8 ?F9 ?F10 ?F11 ?F12 ?F13 ?F14 ?F15 ?F16 ?F17 ?F18 ?F19 ?F20 ?F21 ?F22 ?F23 ?F24 ?F25 ?F26 ?F27 ?F28 ?F29 ?F30 ?F31 ?F32 ?F33 ?F34 ?F35 ?F36 ?F37 ?F38 ?F39 ?F40 ?F41 ?F42 ?F43 ?F44 ?F45 ?F46 ?F47)
 case Z =>
  refine⟨?b_isinstance,?b_str,?b_len,?b_all,?b_tuple,?b_list,?b_reversed,?b_set,?b_any,?b_int,?b_bool,?b_sum,?b_range,?b_enumerate,?b_zip,?g_NO_NAMES,?g_LONGEST_NAME,?g_LETTERS,?g_DEEPEST,?g_SAYINGS_WITHIN,?g_PAST_WORDS,?g_MOST_LAMPS,?g_MOST_PROMISES,?g_HIGHEST_PRICE,?g_MOST_WISHES,?g_MOST_MUSTS,?g_MOST_PIECES,?c_Table,?c_Rules,?c_Numbering,?a_Table_names,?a_Table_pieces,?a_Table_rows,?a_Table_row_of,?a_Table_first_memory,?a_Table_remembered_rows,?a_Rules_table,?a_Rules_promise_rows,?a_Rules_must_rows,?a_Rules_priced_rows,?a_Numbering_met,?a_Numbering_numbers_met⟩
  case b_isinstance=>walk_at"fn"
  case b_str=>walk_at"fn"
  case b_len=>walk_at"fn"
  case b_all=>walk_at"fn"
  case b_tuple=>walk_at"fn"
  case b_list=>walk_at"fn"
  case b_reversed=>walk_at"fn"
  case b_set=>walk_at"fn"
  case b_any=>walk_at"fn"
  case b_int=>walk_at"fn"
  case b_bool=>walk_at"fn"
  case b_sum=>walk_at"fn"
  case b_range=>walk_at"fn"
  case b_enumerate=>walk_at"fn"
  case b_zip=>walk_at"fn"
  case g_NO_NAMES=>refine' L3.P1 KX G ?NO_NAMESa ?NO_NAMESl ?NO_NAMESf ?NO_NAMESz;(case NO_NAMESa=>k_is);(case NO_NAMESl=>k_is);(case NO_NAMESf=>kernel_rfl);(case NO_NAMESz=>kernel_rfl)
  case g_LONGEST_NAME=>walk_at"fg"
  case g_LETTERS=>refine' L3.Cb KX G ?LETTERSa ?LETTERSe;(case LETTERSa=>k_is);(case LETTERSe=>rfl)
  case g_DEEPEST=>walk_at"fg"
  case g_SAYINGS_WITHIN=>refine' L3.Dr KX G ?SAYINGS_WITHINa ?SAYINGS_WITHINl ?SAYINGS_WITHINf;(case SAYINGS_WITHINa=>k_is);(case SAYINGS_WITHINl=>k_is);(case SAYINGS_WITHINf=>kernel_rfl)
  case g_PAST_WORDS=>refine' L3.P1 KX G ?PAST_WORDSa ?PAST_WORDSl ?PAST_WORDSf ?PAST_WORDSz;(case PAST_WORDSa=>k_is);(case PAST_WORDSl=>k_is);(case PAST_WORDSf=>kernel_rfl);(case PAST_WORDSz=>kernel_rfl)
  case g_MOST_LAMPS=>walk_at"fg"
  case g_MOST_PROMISES=>walk_at"fg"
  case g_HIGHEST_PRICE=>walk_at"fg"
  case g_MOST_WISHES=>walk_at"fg"
  case g_MOST_MUSTS=>walk_at"fg"
  case g_MOST_PIECES=>walk_at"fg"
  case c_Table=>walk_at"fc"
  case c_Rules=>walk_at"fc"
  case c_Numbering=>walk_at"fc"
  case a_Table_names=>walk_at"fa"
  case a_Table_pieces=>walk_at"fa"
  case a_Table_rows=>walk_at"fa"
  case a_Table_row_of=>walk_at"fa"
  case a_Table_first_memory=>walk_at"fa"
  case a_Table_remembered_rows=>walk_at"fa"
  case a_Rules_table=>walk_at"fa"
  case a_Rules_promise_rows=>walk_at"fa"
  case a_Rules_must_rows=>walk_at"fa"
  case a_Rules_priced_rows=>walk_at"fa"
  case a_Numbering_met=>walk_at"fa"
  case a_Numbering_numbers_met=>walk_at"fa"
 case F0=>walk_at"ft"
 case F1=>walk_at"ft"
 case F2=>walk_at"ft"
 case F3=>walk_at"ft"
 case F4=>walk_at"ft"
 case F5=>walk_at"ft"
 case F6=>walk_at"ft"
 case F7=>walk_at"ft"
 case F8=>walk_at"ft"
 case F9=>walk_at"ft"
 case F10=>walk_at"ft"
 case F11=>walk_at"ft"
 case F12=>walk_at"ft"
 case F13=>walk_at"ft"
 case F14=>walk_at"ft"
 case F15=>walk_at"ft"
 case F16=>walk_at"ft"
 case F17=>walk_at"ft"
 case F18=>walk_at"fi"
 case F19=>walk_at"fm"
 case F20=>walk_at"fm"
 case F21=>walk_at"fm"
 case F22=>walk_at"fm"
 case F23=>walk_at"fm"
 case F24=>walk_at"fi"
 case F25=>walk_at"fm"
 case F26=>walk_at"fm"
 case F27=>walk_at"fm"
 case F28=>walk_at"ft"
 case F29=>walk_at"fi"
 case F30=>walk_at"fm"
 case F31=>walk_at"ft"
 case F32=>walk_at"ft"
 case F33=>walk_at"ft"
 case F34=>walk_at"ft"
 case F35=>walk_at"ft"
 case F36=>walk_at"ft"
 case F37=>walk_at"ft"
 case F38=>walk_at"ft"
 case F39=>walk_at"ft"
 case F40=>walk_at"ft"
 case F41=>walk_at"ft"
 case F42=>walk_at"ft"
 case F43=>walk_at"ft"
 case F44=>walk_at"ft"
 case F45=>walk_at"ft"
 case F46=>walk_at"ft"
 case F47=>walk_at"ft"
