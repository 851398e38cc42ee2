import PyProof.Rows.All
import Wide.All
import OpenK.AllK
import Wide.FinOn
import Lean
import PyProof.EqAt
import PyProof.EqKinds
import PyProof.TupleCall
import PySem.Challenge.RW_leastloss_k08_whole_game
set_option Elab.async false
set_option linter.all false
set_option maxRecDepth 100000
set_option maxHeartbeats 4000000
section
namespace L2
open PySem PySem.Spec PyProof.Rows
abbrev Key:=Sum Int Str
def U3:Key->Value->Bool
 |.inl k,v=>Value.isInt k v
 |.inr x,v=>Value.isStrOf x v
def Me (w:World):Key->Int
 |.inl k=>hashInt k
 |.inr x=>hashStr w x
theorem fU:∀{k:Key}{v:Value},U3 k v=true->(∃ i t,k=Sum.inl i/\v=Value.int i t)∨(∃ x t,k=Sum.inr x/\v=Value.str x t)
 |.inl i,v,h=>by
  obtain⟨t,e⟩:=Value.isInt_shape (k:=i) (v:=v) h
  exact .inl ⟨i,t,rfl,e⟩
 |.inr x,v,h=>by
  obtain⟨t,e⟩:=Value.isStrOf_shape (x:=x) (v:=v) h
  exact .inr ⟨x,t,rfl,e⟩
theorem Ea (a b:Int):decide ((Sum.inl a:Key)=Sum.inl b)=(a==b):=by
 by_cases e:a=b
 ·subst e;simp
 ·have h:¬(Sum.inl a:Key)=Sum.inl b:=fun q=>e (Sum.inl.inj q)
  rw[decide_eq_false h]
  exact(beq_eq_false_iff_ne.mpr e).symm
theorem ZW (a b:Str):decide ((Sum.inr a:Key)=Sum.inr b)=decide (a=b):=by
 by_cases e:a=b
 ·subst e;simp
 ·have h:¬(Sum.inr a:Key)=Sum.inr b:=fun q=>e (Sum.inr.inj q)
  rw[decide_eq_false h,decide_eq_false e]
theorem El (a:Int)(b:Str):decide ((Sum.inl a:Key)=Sum.inr b)=false:=decide_eq_false (fun q=>nomatch q)
theorem Ej (a:Str)(b:Int):decide ((Sum.inr a:Key)=Sum.inl b)=false:=decide_eq_false (fun q=>nomatch q)
def FI (prog:Program)(w:World):PySem.KeyKind prog w Key where
 is:=U3
 hash:=Me w
 inj:=fun v a b ha hb=>by
  rcases fU ha with⟨i,t,rfl,rfl⟩|⟨x,t,rfl,rfl⟩
  ·rcases fU hb with⟨j,u,rfl,e⟩|⟨y,u,rfl,e⟩
   ·injection e with e1 _;rw[e1]
   ·exact nomatch e
  ·rcases fU hb with⟨j,u,rfl,e⟩|⟨y,u,rfl,e⟩
   ·exact nomatch e
   ·injection e with e1 _;rw[e1]
 byValue:=fun k v h=>by
  rcases fU h with⟨i,t,rfl,rfl⟩|⟨x,t,rfl,rfl⟩<;>rfl
 pyHash:=fun hv h=>by
  rcases fU hv with⟨i,t,rfl,rfl⟩|⟨x,t,rfl,rfl⟩
  ·exact wpAny_pyHash_int h
  ·exact wpAny_pyHash_str h
 eqBool:=fun hu hv h=>by
  rcases fU hu with⟨i,t,rfl,rfl⟩|⟨x,t,rfl,rfl⟩
  ·rcases fU hv with⟨j,u,rfl,rfl⟩|⟨y,u,rfl,rfl⟩
   ·rw[Ea]at h;exact wpAny_eqBool_int h
   ·rw[El]at h;exact SeqAt.EqAt.int_str i t y u _ _ _ _ h
  ·rcases fU hv with⟨j,u,rfl,rfl⟩|⟨y,u,rfl,rfl⟩
   ·rw[Ej]at h;exact SeqAt.EqAt.str_int x t j u _ _ _ _ h
   ·rw[ZW]at h;exact wpAny_eqBool_str h
 «strs»:=fun k x t v h=>by
  rcases fU h with⟨i,u,rfl,e⟩|⟨y,u,rfl,e⟩
  ·exact nomatch e
  ·injection e with e1 _
   subst e1
   cases v<;>rfl
end L2
namespace L2
open PySem PySem.Spec PyProof.Rows
inductive V where
 |non|bl (b:Bool)|int (i:Int)|str (x:Str)|byt (b:Array UInt8)|flt (b:UInt64)|ref (a:Addr)|ty (n:String)
 deriving DecidableEq
def RelV:V->Value->Prop
 |.non,u=>u=Value.none
 |.bl b,u=>u=Value.bool b
 |.int i,u=>∃ t,u=Value.int i t
 |.str x,u=>∃ t,u=Value.str x t
 |.byt b,u=>∃ t,u=Value.bytes b t
 |.flt b,u=>∃ t,u=Value.float b t
 |.ref a,u=>u=Value.ref a
 |.ty n,u=>u=Value.type n
abbrev aO:List V->List Value->Prop:=Paired RelV
theorem aO.length {xs:List V}{us:List Value}(r:aO xs us):xs.length=us.length:=Paired.length r
theorem aO.get:∀{xs:List V}{us:List Value}{i:Nat}{x:V},aO xs us->xs[i]? = some x->∃ u,us[i]? = some u/\RelV x u
 |_,_,_,_,.nil,e=>by simp at e
 |_,_,0,_,.cons r _,e=>by simp at e;subst e;exact⟨_,rfl,r⟩
 |_,_,i+1,x,.cons _ t,e=>by
  obtain⟨u,h1,h2⟩:=aO.get (i:=i) (x:=x) t (by simpa using e)
  exact⟨u,by simpa using h1,h2⟩
theorem aO.set {x:V}{u:Value}(r:RelV x u):∀{xs:List V}{us:List Value}(i:Nat),aO xs us->aO (xs.set i x) (us.set i u)
 |_,_,_,.nil=>.nil
 |_,_,0,.cons _ t=>.cons r t
 |_,_,i+1,.cons q t=>.cons q (aO.set r i t)
theorem aO.append:∀{xs ys:List V}{us ws:List Value},aO xs us->aO ys ws->aO (xs++ys) (us++ws)
 |_,_,_,_,.nil,s=>s
 |_,_,_,_,.cons r t,s=>.cons r (aO.append t s)
theorem aO.take:∀{xs:List V}{us:List Value}(n:Nat),aO xs us->aO (xs.take n) (us.take n)
 |_,_,0,_=>.nil
 |_,_,_+1,.nil=>.nil
 |_,_,n+1,.cons r t=>.cons r (aO.take n t)
theorem aO.drop:∀{xs:List V}{us:List Value}(n:Nat),aO xs us->aO (xs.drop n) (us.drop n)
 |_,_,0,r=>r
 |_,_,_+1,.nil=>.nil
 |_,_,n+1,.cons _ t=>aO.drop n t
def uD:Option V->Option Value->Prop
 |some v,some u=>RelV v u
 |none,none=>True
 |_,_=>False
def KV {κ:Type}:List (κ×V)->List (κ×Value)->Prop:=Paired fun(p:κ×V)(q:κ×Value)=>p.1=q.1/\RelV p.2 q.2
def kV:Key->V
 |.inl i=>.int i
 |.inr x=>.str x
inductive HO where
 /-- a list -/
 |lst (xs:List V)
 /-- a tuple (never changes) -/
 |tup (xs:List V)
 /-- a dict whose keys are ints and texts; one whose keys are tuples of ints and texts (the empty one is both) -/
 |dK (gJ:List (Key×V))|dT (gJ:List (List Key×V))
 /-- a set of ints: aD members, aD size -/
 |set (S:Int->Bool)(n:Nat)
 /-- an instance of the class at C, aD dict at dx, aD attributes -/
 |ins (C dx:Addr)(fs:List (Str×V))
 /-- the dict of the instance at x -/
 |own (x:Addr)
 /-- the dict of an exception -/
 |xd (fs:List (Str×V))
 /-- a bound method, f of x -/
 |met (f x:Addr)
 /-- a range object lo, lo + 1, .. below hi -/
 |rng (lo hi:Int)
 /-- a thing that is known to the object (the script; a dict while a loop walks it): read, never written while it is so -/
 |frz (o:Obj)(u:HO)
 /-- a code object's table -/
 |tbl (ps:Array Value)
 /-- any other thing, by what is true of aD one object (a def of one's own: SetO a S n := HO.ext fun h => ..) -/
 |ext (φ:Program->World->Heap->Prop)
abbrev Hp:=Addr->Option HO
def upd (H:Hp)(a:Addr)(o:HO):Hp:=fun b=>if b=a then some o else H b
theorem fO {H:Hp}{a:Addr}{o:HO}:upd H a o a=some o:=by unfold upd;rw[if_pos rfl]
theorem bZ {H:Hp}{a b:Addr}{o:HO}(h:b≠a):upd H a o b=H b:=by unfold upd;rw[if_neg h]
theorem OA {H:Hp}{a b:Addr}{o u:HO}(h:H a=some o)(h':H b=some u)(d:o≠u):a≠b:=by
 intro e;subst e;rw[h]at h';exact d (Option.some.inj h')
theorem iP {H:Hp}{a b:Addr}{o:HO}(h:H a=some o)(h':H b=none):a≠b:=by
 intro e;subst e;rw[h]at h';cases h'
def qK (h:Heap)(a:Addr)(aD:Array Value):Prop:=∃ o,h.get? a=some o/\o.cls=.type "tuple" /\ (∃ n,o.data=.seq aD n)/\o.dict=none
theorem qK.tup {h:Heap}{a:Addr}{aD:Array Value}:qK h a aD->IsTup h a aD:=fun⟨o,e,c,d,_⟩=>⟨o,e,c,d⟩
theorem qK.lt {h:Heap}{a:Addr}{aD:Array Value}(x:qK h a aD):a<h.objs.size:=x.tup.lt
theorem qK.new (h:Heap)(items:Array Value):qK (h.push { cls:=.type "tuple", data:=.seq items }) h.objs.size items:=⟨_,Heap.get?_push_size _ rfl,rfl,⟨_,rfl⟩,rfl⟩
section
variable (P:Program)(w:World)
def jR (H:Hp)(h:Heap)(a:Addr):HO->Prop
 |.lst xs=>xs.length<=sizeLine/\∃(aD:List Value)(n:Nat),aO xs aD/\h.get? a=some { cls:=.type "list", data:=.seq aD.toArray n }
 |.tup xs=>xs.length<=sizeLine/\∃ aD:List Value,aO xs aD/\qK h a aD.toArray
 |.dK gJ=>gJ.length<=sizeLine/\(a==sysModules)=false/\∃ vs,KV gJ vs/\h.DictOf (FI P w) a vs
 |.dT gJ=>gJ.length<=sizeLine/\(a==sysModules)=false/\∃ xs:List (List Key×Addr×Value),
  Paired (fun(p:List Key×V)(q:List Key×Addr×Value)=>p.1=q.1/\H q.2.1=some (.tup (p.1.map kV))/\RelV p.2 q.2.2) gJ xs /\
  ∃ o es ep,h.get? a=some o/\o.ExactDict/\o.data=.dict es ep/\es.toList=xs.map (entryOfKey (tupleKind (FI P w)))/\(xs.map (·.1)).Nodup
 |.set S n=>h.SetOf (intKind P w) a S n
 |.ins C dx fs=>H dx=some (.own a)/\fs.length<=1000/\dx≠a/\h.get? a=some (PySem.W.instObj C dx) /\
  ∃ mA,h.Ns1 dx mA/\(∀ f,uD (fs.lookup f) (mA f))/\PySem.Within mA (fs.map (·.1))
 |.own _=>∃ o,h.get? a=some o
 |.xd fs=>∃ mA,h.Ns1 a mA/\∀ f,uD (fs.lookup f) (mA f)
 |.rng lo hi=>∃ t u v,h.get? a=some { cls:=.type "range", data:=.fields #[.int lo t,.int hi u,.int 1 v] }
 |.frz o u=>h.get? a=some o/\jR H h a u
 |.tbl ps=>h.get? a=some { cls:=.none,data:=.fields ps }
 |.met f x=>h.get? a=some (PySem.W.methodObj (.ref f) (.ref x))
 |.ext φ=>φ P w h/\(∃ o,h.get? a=some o)/\∀ h1 h2:Heap,φ P w h1->(∀ o,h1.get? a=some o->h2.get? a=some o)->φ P w h2
def jD (H:Hp)(h:Heap):Prop:=∀ a o,H a=some o->jR P w H h a o
end
section
variable {P:Program}{w:World}{H H':Hp}{h h':Heap}{a:Addr}{o:HO}
theorem jR.lt (x:jR P w H h a o):a<h.objs.size:=by
 cases o with
 |lst xs=>obtain⟨_,_,_,_,e⟩:=x;exact Heap.lt_size e
 |tup xs=>obtain⟨_,_,_,p⟩:=x;exact p.lt
 |dK gJ=>obtain⟨_,_,_,_,o,_,_,e,_⟩:=x;exact Heap.lt_size e
 |dT gJ=>obtain⟨_,_,_,_,o,_,_,e,_⟩:=x;exact Heap.lt_size e
 |set S n=>obtain⟨o,_,_,_,e,_⟩:=x;exact Heap.lt_size e
 |ins C dx fs=>obtain⟨_,_,_,e,_⟩:=x;exact Heap.lt_size e
 |own y=>obtain⟨_,e⟩:=x;exact Heap.lt_size e
 |xd fs=>obtain⟨_,⟨_,_,_,e,_⟩,_⟩:=x;exact Heap.lt_size e
 |rng lo hi=>obtain⟨_,_,_,e⟩:=x;exact Heap.lt_size e
 |frz ob u=>obtain⟨e,_⟩:=x;exact Heap.lt_size e
 |tbl ps=>exact Heap.lt_size (show h.get? a=some _ from x)
 |met f y=>exact Heap.lt_size (show h.get? a=some _ from x)
 |ext φ=>obtain⟨_,⟨_,e⟩,_⟩:=x;exact Heap.lt_size e
theorem Paired.Du {α β:Type}{F G:α->β->Prop}:∀{l₁:List α}{l₂:List β},Paired F l₁ l₂->(∀ a b,F a b->G a b)->Paired G l₁ l₂
 |_,_,.nil,_=>.nil
 |_,_,.cons r t,f=>.cons (f _ _ r) (Paired.Du t f)
theorem jR.CD (x:jR P w H h a o)(k:∀ b u,(b=a∨H b=some (.own a))->h.get? b=some u->h'.get? b=some u)
 (ho:∀ b,H b=some (.own a)->H' b=some (.own a))(ht:∀ b xs,H b=some (.tup xs)->H' b=some (.tup xs)):jR P w H' h' a o:=by
 induction o with
 |lst xs=>obtain⟨z,aD,n,r,e⟩:=x;exact⟨z,aD,n,r,k _ _ (.inl rfl) e⟩
 |tup xs=>obtain⟨z,aD,r,ob,e,c⟩:=x;exact⟨z,aD,r,ob,k _ _ (.inl rfl) e,c⟩
 |dK gJ=>obtain⟨z,y,vs,r,ob,es,ep,e,c⟩:=x;exact⟨z,y,vs,r,ob,es,ep,k _ _ (.inl rfl) e,c⟩
 |dT gJ =>
 obtain⟨z,y,xs,r,ob,es,ep,e,c⟩:=x
 exact⟨z,y,xs,Paired.Du r fun p q z=>⟨z.1,ht _ _ z.2.1,z.2.2⟩,ob,es,ep,k _ _ (.inl rfl) e,c⟩
 |set S n=>obtain⟨ob,es,ep,t,e,c⟩:=x;exact⟨ob,es,ep,t,k _ _ (.inl rfl) e,c⟩
 |ins C dx fs =>
 obtain⟨d,z,ne,e,mA,⟨od,es,ep,e2,c⟩,r⟩:=x
 exact⟨ho _ d,z,ne,k _ _ (.inl rfl) e,mA,⟨od,es,ep,k _ _ (.inr d) e2,c⟩,r⟩
 |own y=>obtain⟨ob,e⟩:=x;exact⟨ob,k _ _ (.inl rfl) e⟩
 |xd fs=>obtain⟨mA,⟨od,es,ep,e,c⟩,r⟩:=x;exact⟨mA,⟨od,es,ep,k _ _ (.inl rfl) e,c⟩,r⟩
 |rng lo hi=>obtain⟨t,u,v,e⟩:=x;exact⟨t,u,v,k _ _ (.inl rfl) e⟩
 |frz ob u ih=>obtain⟨e,q⟩:=x;exact⟨k _ _ (.inl rfl) e,ih q⟩
 |tbl ps =>
 have e:h.get? a=some { cls:=.none,data:=.fields ps }:=x
 show h'.get? a=some { cls:=.none,data:=.fields ps }
 exact k a _ (.inl rfl) e
 |met f y =>
 have e:h.get? a=some (PySem.W.methodObj (.ref f) (.ref y)):=x
 show h'.get? a=some (PySem.W.methodObj (.ref f) (.ref y))
 exact k a _ (.inl rfl) e
 |ext φ=>obtain⟨p,⟨o,e⟩,st⟩:=x;exact⟨st _ _ p fun o q=>k _ _ (.inl rfl) q,⟨o,k _ _ (.inl rfl) e⟩,st⟩
theorem jD.lt (x:jD P w H h)(e:H a=some o):a<h.objs.size:=(x a o e).lt
theorem jD.fresh (x:jD P w H h)(e:h.objs.size<=a):H a=none:=by
 cases q:H a with
 |none=>rfl
 |some u=>exact absurd (Nat.lt_of_lt_of_le (x.lt q) e) (Nat.lt_irrefl _)
theorem jD.kept (x:jD P w H h)(k:∀ b u,h.get? b=some u->h'.get? b=some u):jD P w H h':=fun a o e =>
 (x a o e).CD (fun b u _ q=>k b u q) (fun _ q=>q) fun _ _ q=>q
theorem jD.laid (x:jD P w H h)(k:∀ b u,h.get? b=some u->h'.get? b=some u)(hp:h.objs.size<=a)(new:jR P w (upd H a o) h' a o):jD P w (upd H a o) h':=fun b u e=>by
 have hn:=x.fresh hp
 by_cases hb:b=a
 ·subst hb;rw[fO]at e;cases e;exact new
 ·rw[bZ hb]at e
  exact(x b u e).CD (fun c v _ q=>k c v q) (fun c q=>by rw[bZ (iP q hn)];exact q) fun c xs q=>by rw[bZ (iP q hn)];exact q
end
def Rd (H:Hp)(a:Addr)(u:HO):Prop:=H a=some u∨∃ o,H a=some (.frz o u)
theorem Rd.of {H:Hp}{a:Addr}{u:HO}(h:H a=some u):Rd H a u:=.inl h
theorem Rd.ok {P:Program}{w:World}{H:Hp}{h:Heap}{a:Addr}{u:HO}(r:Rd H a u)(x:jD P w H h):jR P w H h a u:=by
 rcases r with r|⟨o,r⟩
 ·exact x a u r
 ·obtain⟨_,q⟩:=x a _ r
  exact q
def VO:Option HO->Prop
 |some (.lst _)=>True
 |some (.dK _)=>True
 |some (.dT _)=>True
 |some (.set _ _)=>True
 |some (.ins _ _ _)=>True
 |some (.ext _)=>True
 |_=>False
section
variable {P:Program}{w:World}{H:Hp}{h h':Heap}{x e:Addr}{o':HO}
theorem jD.write (ok:jD P w H h)(mu:VO (H x))(he:e=x∨H e=some (.own x))(k:∀ b u,b≠e->h.get? b=some u->h'.get? b=some u)(heo:∃ u,h'.get? e=some u)
  (new:jR P w (upd H x o') h' x o'):jD P w (upd H x o') h':=fun b u q=>by
 have nown:∀ c y,H c=some (.own y)->c≠x:=fun c y r z=>by subst z;rw[r]at mu;exact mu
 have ntup:∀ c xs,H c=some (.tup xs)->c≠x:=fun c xs r z=>by subst z;rw[r]at mu;exact mu
 by_cases hb:b=x
 ·subst hb;rw[fO]at q;cases q;exact new
 ·rw[bZ hb]at q
  by_cases hbe:b=e
  ·have q':H b=some (.own x):=by
    rcases he with z|z
    ·exact absurd (hbe.trans z) hb
    ·rw[hbe];exact z
   rw[q]at q';cases q'
   obtain⟨v,hv⟩:=heo
   exact⟨v,by rw[hbe];exact hv⟩
  ·refine(ok b u q).CD (fun c v hc r=>k c v ?_ r) (fun c r=>by rw[bZ (nown c b r)];exact r) fun c xs r=>by rw[bZ (ntup c xs r)];exact r
   rcases hc with rfl|hc
   ·exact hbe
   ·rintro rfl
    rcases he with z|z
    ·exact nown c b hc z
    ·rw[hc]at z;cases z;exact hb rfl
end
structure Un (fs ex:List Addr)(H H':Hp)(h h':Heap):Prop where
 keep:∀ b o,h.get? b=some o->H b=none->b∉fs->b∉ex->h'.get? b=some o
 slot:∀ b o,h.get? b=some o->H b=none->b∈fs->b∉ex->∃ sl,h'.get? b=some { o with slots:=sl }
 free:∀ b o,h.get? b=some o->H b=none->b∉ex->H' b=none
 there:∀ b o,h.get? b=some o->b∉ex->∃ o',h'.get? b=some o'
 oS:∀ b xs,H b=some (.tup xs)->H' b=some (.tup xs)
 nY:∀ b o u,H b=some (.frz o u)->H' b=some (.frz o u)
 oT:∀ b ps,H b=some (.tbl ps)->∃ more,H' b=some (.tbl (ps++more))
section
variable {fs fs' ex ex':List Addr}{H H1 H2:Hp}{h h1 h2 h':Heap}{a x e:Addr}{o:HO}
theorem Un.any (u:Un fs ex H H1 h h1){b:Addr}{ob:Obj}(q:h.get? b=some ob)(n:H b=none)(hx:b∉ex):∃ sl,h1.get? b=some { ob with slots:=sl }:=by
 by_cases hb:b∈fs
 ·exact u.slot b ob q n hb hx
 ·exact⟨ob.slots,u.keep b ob q n hb hx⟩
theorem Un.trans (a:Un fs ex H H1 h h1)(b:Un fs ex H1 H2 h1 h2):Un fs ex H H2 h h2 where
 keep:=fun c ob q n hc hx=>b.keep c ob (a.keep c ob q n hc hx) (a.free c ob q n hx) hc hx
 slot:=fun c ob q n hc hx=>by
  obtain⟨sl,e1⟩:=a.slot c ob q n hc hx
  obtain⟨sl',e2⟩:=b.slot c _ e1 (a.free c ob q n hx) hc hx
  exact⟨sl',e2⟩
 free:=fun c ob q n hx=>by
  obtain⟨o',e1⟩:=a.there c ob q hx
  exact b.free c o' e1 (a.free c ob q n hx) hx
 there:=fun c ob q hx=>by
  obtain⟨o',e1⟩:=a.there c ob q hx
  exact b.there c o' e1 hx
 oS:=fun c xs q=>b.oS c xs (a.oS c xs q)
 nY:=fun c ob xs q=>b.nY c ob xs (a.nY c ob xs q)
 oT:=fun c ps q=>by
  obtain⟨m1,e1⟩:=a.oT c ps q
  obtain⟨m2,e2⟩:=b.oT c _ e1
  exact⟨m1++m2,by rw[e2,Array.append_assoc]⟩
theorem Un.kept (k:∀ b u,h.get? b=some u->h'.get? b=some u):Un fs ex H H h h' :=
 ⟨fun b ob q _ _ _=>k b ob q,fun b ob q _ _ _=>⟨ob.slots,k b ob q⟩,fun _ _ _ n _=>n,fun b ob q _=>⟨ob,k b ob q⟩,fun _ _ q=>q,fun _ _ _ q=>q,fun _ ps q=>⟨#[],by rw[q];simp⟩⟩
theorem Un.refl:Un fs ex H H h h:=Un.kept fun _ _ q=>q
theorem Un.laid (k:∀ b u,h.get? b=some u->h'.get? b=some u)(hp:h.objs.size<=a)(hn:H a=none):Un fs ex H (upd H a o) h h' where
 keep:=fun b u q _ _ _=>k b u q
 slot:=fun b u q _ _ _=>⟨u.slots,k b u q⟩
 free:=fun b u q n _=>by rw[bZ (Nat.ne_of_lt (Nat.lt_of_lt_of_le (Heap.lt_size q) hp))];exact n
 there:=fun b u q _=>⟨u,k b u q⟩
 oS:=fun b xs q=>by rw[bZ (iP q hn)];exact q
 nY:=fun b u xs q=>by rw[bZ (iP q hn)];exact q
 oT:=fun b ps q=>⟨#[],by rw[bZ (iP q hn),q];simp⟩
theorem Un.write (mu:VO (H x))(he:e=x∨H e=some (.own x))(k:∀ b u,b≠e->h.get? b=some u->h'.get? b=some u)(heo:∃ u,h'.get? e=some u):Un fs ex H (upd H x o) h h':=by
 have hx:∀ b,H b=none->b≠x:=fun b n z=>by subst z;rw[n]at mu;exact mu
 have hb:∀ b,H b=none->b≠e:=fun b n z=>by
  subst z
  rcases he with r|r
  ·exact hx b n r
  ·rw[n]at r;cases r
 have hm:∀ b u,H b=some u->¬VO (some u)->b≠x:=fun b u q nm z=>by subst z;rw[q]at mu;exact nm mu
 refine⟨fun b u q n _ _=>k b u (hb b n) q,fun b u q n _ _=>⟨u.slots,k b u (hb b n) q⟩,fun b u q n _=>by rw[bZ (hx b n)];exact n,fun b u q _=>?_,
  fun b xs q=>by rw[bZ (hm b _ q fun z=>z)];exact q,fun b u xs q=>by rw[bZ (hm b _ q fun z=>z)];exact q,fun b ps q=>⟨#[],by rw[bZ (hm b _ q fun z=>z),q];simp⟩⟩
 by_cases hbe:b=e
 ·subst hbe;exact heo
 ·exact⟨u,k b u hbe q⟩
theorem Un.mono (u:Un fs ex H H1 h h1)(hs:∀ b∈fs,b∈fs')(hx:∀ b∈ex,b∈ex'):Un fs' ex' H H1 h h1 :=
 ⟨fun b ob q n hb he=>u.keep b ob q n (fun z=>hb (hs b z)) fun z=>he (hx b z),fun _ _ q n _ he=>u.any q n fun z=>he (hx _ z),fun b ob q n he=>u.free b ob q n fun z=>he (hx b z),fun b ob q he=>u.there b ob q fun z=>he (hx b z),u.oS,u.nY,u.oT⟩
end
def VE (h:Heap)(H:Hp):List Addr:=(List.range h.objs.size).filter fun a=>(H a).isSome
def vV (h:Heap)(H:Hp):Heap:=PySem.W.hideAll h (VE h H)
theorem P7 (h:Heap)(H:Hp):(vV h H).objs.size=h.objs.size:=PySem.W.hideAll_size _ _
theorem UI {h:Heap}{H:Hp}{b:Addr}{o:Obj}(e:h.get? b=some o)(n:H b=none):(vV h H).get? b=some o :=
 PySem.W.hideAll_get _ e fun hm=>by
 have q:(H b).isSome=true:=(List.mem_filter.mp hm).2
 rw[n]at q;simp at q
theorem WW {h:Heap}{H:Hp}{b:Addr}{o:Obj}(e:(vV h H).get? b=some o):h.get? b=some o/\H b=none:=by
 have e':h.get? b=some o:=PySem.W.of_hideAll (VE h H) e
 refine⟨e',?_⟩
 cases q:H b with
 |none=>rfl
 |some x =>
 have hm:b∈VE h H:=List.mem_filter.mpr ⟨List.mem_range.mpr (Heap.lt_size e'),by simp [q]⟩
 have z:(vV h H).get? b=none:=PySem.W.hideAll_none (VE h H) hm
 rw[z]at e;cases e
def XG (g h:Heap)(L:Addr):List (Addr×Obj):=(List.range h.objs.size).filterMap fun a=>if a=L∨(g.get? a).isSome=true then none else(h.get? a).map fun o=>(a,o)
def rest (g h:Heap)(L d:Addr):List (Addr×Obj):=(XG g h L).filter fun p=>decide (p.1≠d)
end L2
namespace L2
open PySem PySem.Spec PyProof.Rows
structure Mod (K:PySem.W.Frag)(mg:Str->Option Value)(base:Heap):Prop where
 kin:K.In base
 glob:base.Ns mainGlobals mg
 blt:∃ mb,base.Ns builtinsNs mb/\∀ x:Str,x ≠"__name__" -> mb x=bootBuiltins x
 nolimit:base.NoLimit
structure Cx where
 prog:Program
 w:World
 K:PySem.W.Frag
 mg:Str->Option Value
 base:Heap
 A:Around
 N:List Str
 s₀:Shared
 H₀:Hp
 env:Env
 outer:List Env
 stack:List Env
 ex:List Addr
 fn:Str->Bool
 calm:Bool
 pn:List (Addr×Obj)
 xe:Value->Shared->Prop
def yG (l:List Env):List Addr:=l.filterMap (·.frame)
abbrev Cx.fs (X:Cx):List Addr:=yG X.outer
def Z4 (sc:Scope)(x:Str):Prop:=sc.names.lookup x=some .local∨sc.names.lookup x=some .cell∨sc.names.lookup x=some .free
def Loc (sc:Scope)(x:Str):Prop:=sc.names.lookup x=some .local∨sc.names.lookup x=some .cell
def Look (env:Env)(h:Heap)(m:Str->Option Value)(x:Str)(u:Value):Prop :=
 (env.kindOf x=some .local/\m x=some u)∨((env.kindOf x=some .cell∨env.kindOf x=some .free)/\∃ c,env.cells.lookup x=some c/\h.IsCell c (some u))
structure Cx.Ok (X:Cx):Prop where
 mod:Mod X.K X.mg X.base
 kind:X.env.scope.kind=.function
 glob:X.env.globals=mainGlobals
 blt:X.env.builtins=builtinsNs
 above:X.s₀.heap.objs.size<=X.env.locals
 inj:∀ x y c,X.env.cells.lookup x=some c->X.env.cells.lookup y=some c->x=y
 has:∀ x,(X.env.kindOf x=some .cell∨X.env.kindOf x=some .free)->∃ c,X.env.cells.lookup x=some c
 cab:∀ x c,X.fn x=true->X.env.cells.lookup x=some c->X.s₀.heap.objs.size<=c
 hd:X.calm=true->X.A.handled=none
 frames:X.A.frames=some X.stack
 stk:X.stack=X.outer∨(X.stack=X.env::X.outer/\X.env.frame=some X.env.locals)
 exf:∀ b∈X.ex,b≠X.env.locals/\∀ x c,X.env.cells.lookup x=some c->c≠b
 bs:∀ b o,X.base.get? b=some o->X.s₀.heap.get? b=some o/\X.H₀ b=none
 bsz:X.base.objs.size<=X.s₀.heap.objs.size
 noex:∀ b o,X.base.get? b=some o->b∉X.ex
 exfs:∀ b∈X.ex,b∉X.fs
 oO:X.s₀.heap.FunFrames X.base X.outer
 frf:∀ b∈X.fs,X.H₀ b=none
structure Inv (X:Cx)(pins:List (Addr×Obj))(σ:List (Option V))(H:Hp)(s:Shared):Prop where
 ok:X.Ok
 os:s.os=X.s₀.os
 bare:AllBare s.gens
 base:Un X.fs X.ex X.H₀ H X.s₀.heap s.heap
 loc:∃ m,s.heap.Ns X.env.locals m/\∀(i:Nat)(x:Str)(v:V),X.N[i]? = some x->σ[i]? = some (some v)->Z4 X.env.scope x->∃ u,RelV v u/\Look X.env s.heap m x u
 cell:∀ x c,X.env.cells.lookup x=some c->∃ v,s.heap.IsCell c v
 free:H X.env.locals=none
 mE:∀ x c,X.env.cells.lookup x=some c->H c=none
 pin:∀ p∈X.pn++pins,s.heap.get? p.1=some p.2/\H p.1=none/\p.1≠X.env.locals/\p.1∉X.fs/\∀ v,p.2.data≠.cell v
 cG:jD X.prog X.w H s.heap
 len:σ.length=X.N.length
section
variable {X:Cx}{pins:List (Addr×Obj)}{σ:List (Option V)}{H H':Hp}{s:Shared}{h':Heap}
theorem Cx.Ok.Ln (ok:X.Ok){b:Addr}{o:Obj}(e:X.base.get? b=some o):b∉X.fs:=fun hb=>by
 have:=(ok.oO.mem hb).1
 rw[e]at this;cases this
theorem Inv.bs (I:Inv X pins σ H s):∀ b o,X.base.get? b=some o->s.heap.get? b=some o/\H b=none:=fun b o e =>
 ⟨I.base.keep b o (I.ok.bs b o e).1 (I.ok.bs b o e).2 (I.ok.Ln e) (I.ok.noex b o e),I.base.free b o (I.ok.bs b o e).1 (I.ok.bs b o e).2 (I.ok.noex b o e)⟩
theorem Inv.bk (I:Inv X pins σ H s):∀ b o,X.base.get? b=some o->s.heap.get? b=some o:=fun b o e=>(I.bs b o e).1
theorem Inv.mod (I:Inv X pins σ H s):Mod X.K X.mg X.base:=I.ok.mod
theorem Inv.jZ (I:Inv X pins σ H s):X.K.In s.heap:=I.ok.mod.kin.keeps I.bk
theorem Inv.nolimit (I:Inv X pins σ H s):s.heap.NoLimit:=I.ok.mod.nolimit.keeps I.bk
theorem Inv.fr (I:Inv X pins σ H s):∃ m,Fr X.base X.env.locals s.heap m :=
 let⟨m,hn,_⟩:=I.loc
 ⟨m,hn,I.bk,Nat.le_trans I.ok.bsz I.ok.above⟩
theorem Inv.lt (I:Inv X pins σ H s):X.env.locals<s.heap.objs.size:=let⟨_,hn,_⟩:=I.loc;hn.lt
theorem Inv.sz (I:Inv X pins σ H s):X.s₀.heap.objs.size<=s.heap.objs.size:=Nat.le_trans I.ok.above (Nat.le_of_lt I.lt)
theorem Inv.Ds (I:Inv X pins σ H s){a:Addr}(h:s.heap.objs.size<=a):a∉X.fs:=fun hb=>by
 obtain⟨_,o,ho,_⟩:=I.ok.oO.mem hb
 exact absurd (Nat.lt_of_lt_of_le (Heap.lt_size ho) (Nat.le_trans I.sz h)) (Nat.lt_irrefl _)
theorem Inv.KZ (I:Inv X pins σ H s):∀ x c,X.env.cells.lookup x=some c->c≠X.env.locals:=fun x c e z=>by
 obtain⟨v,o,ho,hd⟩:=I.cell x c e
 obtain⟨m,⟨o',es,ep,ho',hd',_⟩,_⟩:=I.loc
 rw[z,ho']at ho;cases ho;rw[hd']at hd;cases hd
theorem Inv.oO (I:Inv X pins σ H s):s.heap.FunFrames X.base X.outer:=by
 have all:∀(l:List Env),(∀ b∈yG l,b∈X.fs)->X.s₀.heap.FunFrames X.base l->s.heap.FunFrames X.base l:=by
  intro l
  induction l with
  |nil=>intro _ _;trivial
  |cons env r ih =>
   intro hs hl
   obtain⟨hk,⟨L,o,hf,hn,ho,hd⟩,hr⟩:=hl
   have hL:L∈X.fs:=hs L (by unfold yG;rw[List.filterMap_cons,hf];exact List.mem_cons_self)
   obtain⟨sl,e⟩:=I.base.slot L o ho (I.ok.frf L hL) hL fun z=>I.ok.exfs L z hL
   exact⟨hk,⟨L,_,hf,hn,e,hd⟩,ih (fun b hb=>hs b (by unfold yG;rw[List.filterMap_cons,hf];exact List.mem_cons_of_mem _ hb)) hr⟩
 exact all X.outer (fun _ hb=>hb) I.ok.oO
theorem Inv.stack (I:Inv X pins σ H s):s.heap.FunFrames X.base X.stack:=by
 rcases I.ok.stk with e|⟨e,hf⟩
 ·rw[e];exact I.oO
 ·rw[e]
  obtain⟨m,hn,_⟩:=I.loc
  refine .cons (by rw[I.ok.kind];decide) hf hn ?_ I.oO
  exact Heap.get?_none_of_le (Nat.le_trans I.ok.bsz I.ok.above)
theorem Inv.JX (I:Inv X pins σ H s):∀ b∈yG X.stack,b∈X.env.locals::X.fs:=fun b hb=>by
 rcases I.ok.stk with e|⟨e,hf⟩
 ·rw[e]at hb;exact List.mem_cons_of_mem _ hb
 ·rw[e]at hb
  unfold yG at hb
  rw[List.filterMap_cons,hf]at hb
  exact hb
theorem Inv.MI (I:Inv X pins σ H s):∀ b∈yG X.stack,H b=none:=fun b hb=>by
 rcases List.mem_cons.mp (I.JX b hb)with e|hb
 ·rw[e];exact I.free
 ·obtain⟨_,o,ho,_⟩:=I.ok.oO.mem hb
  exact I.base.free b o ho (I.ok.frf b hb) fun z=>I.ok.exfs b z hb
theorem Inv.step {g':Array GenState}{t':Nat}{d':Drawn}{ch:List Addr}(I:Inv X pins σ H s)
  (hch:∀ b∈ch,(b∈X.ex∨X.s₀.heap.objs.size<=b)/\b≠X.env.locals/\(∀ x c,X.env.cells.lookup x=some c->c≠b)/\∀ p∈X.pn++pins,p.1≠b)
  (keep:∀ b o,b≠X.env.locals->b∉X.fs->b∉ch->s.heap.get? b=some o->H b=none->h'.get? b=some o)
  (slot:∀ b o,b≠X.env.locals->b∈X.fs->b∉ch->s.heap.get? b=some o->H b=none->∃ sl,h'.get? b=some { o with slots:=sl })(free:∀ b o,b∉ch->s.heap.get? b=some o->H b=none->H' b=none)
  (there:∀ b o,b∉ch->s.heap.get? b=some o->∃ o',h'.get? b=some o')
  (oS:∀ b xs,H b=some (.tup xs)->H' b=some (.tup xs))(nY:∀ b o u,H b=some (.frz o u)->H' b=some (.frz o u))(oT:∀ b ps,H b=some (.tbl ps)->∃ more,H' b=some (.tbl (ps++more)))
  (ns:∀ m,s.heap.Ns X.env.locals m->h'.Ns X.env.locals m)(cG:jD X.prog X.w H' h')(hg:AllBare g'):
  Inv X pins σ H' { s with heap:=h',gens:=g',drawn:=d',toks:=t' }:=by
 have neL:∀ b o,X.s₀.heap.get? b=some o->b≠X.env.locals:=fun b o e=>Nat.ne_of_lt (Nat.lt_of_lt_of_le (Heap.lt_size e) I.ok.above)
 have neC:∀ b o,X.s₀.heap.get? b=some o->b∉X.ex->b∉ch:=fun b o e hx hb=>by
  rcases(hch b hb).1 with z|z
  ·exact hx z
  ·exact absurd (Nat.lt_of_lt_of_le (Heap.lt_size e) z) (Nat.lt_irrefl _)
 have cellK:∀ x c,X.env.cells.lookup x=some c->∀ v,s.heap.IsCell c v->h'.IsCell c v:=fun x c e v ⟨o,ho,hd⟩=>by
  have nch:c∉ch:=fun z=>(hch c z).2.2.1 x c e rfl
  by_cases hc:c∈X.fs
  ·obtain⟨sl,q⟩:=slot c o (I.KZ x c e) hc nch ho (I.mE x c e)
   exact⟨_,q,hd⟩
  ·exact⟨o,keep c o (I.KZ x c e) hc nch ho (I.mE x c e),hd⟩
 refine⟨I.ok,I.os,hg,⟨fun b o e n hb hx=>?_,fun b o e n hb hx=>?_,fun b o e n hx=>?_,fun b o e hx=>?_,fun b xs e=>oS b xs (I.base.oS b xs e),fun b o xs e=>nY b o xs (I.base.nY b o xs e),fun b ps e=>?_⟩,?_,fun x c e=>?_,?_,fun x c e=>?_,fun p hp=>?_,cG,I.len⟩
 ·exact keep b o (neL b o e) hb (neC b o e hx) (I.base.keep b o e n hb hx) (I.base.free b o e n hx)
 ·obtain⟨sl,e1⟩:=I.base.slot b o e n hb hx
  obtain⟨sl',e2⟩:=slot b _ (neL b o e) hb (neC b o e hx) e1 (I.base.free b o e n hx)
  exact⟨sl',e2⟩
 ·obtain⟨o',e1⟩:=I.base.there b o e hx
  exact free b o' (neC b o e hx) e1 (I.base.free b o e n hx)
 ·obtain⟨o',e1⟩:=I.base.there b o e hx
  exact there b o' (neC b o e hx) e1
 ·obtain⟨m1,e1⟩:=I.base.oT b ps e
  obtain⟨m2,e2⟩:=oT b _ e1
  exact⟨m1++m2,by rw[e2,Array.append_assoc]⟩
 ·obtain⟨m,hn,hl⟩:=I.loc
  refine⟨m,ns m hn,fun i x v e1 e2 e3=>?_⟩
  obtain⟨u,r,l⟩:=hl i x v e1 e2 e3
  refine⟨u,r,?_⟩
  rcases l with l|⟨k,c,e,z⟩
  ·exact .inl l
  ·exact .inr ⟨k,c,e,cellK x c e _ z⟩
 ·obtain⟨v,z⟩:=I.cell x c e
  exact⟨v,cellK x c e v z⟩
 ·obtain⟨m,⟨o,_,_,ho,_⟩,_⟩:=I.loc
  exact free _ o (fun z=>(hch _ z).2.1 rfl) ho I.free
 ·obtain⟨v,o,ho,hd⟩:=I.cell x c e
  exact free c o (fun z=>(hch c z).2.2.1 x c e rfl) ho (I.mE x c e)
 ·obtain⟨e,n,ne,nf,d⟩:=I.pin p hp
  have nch:p.1∉ch:=fun z=>(hch p.1 z).2.2.2 p hp rfl
  exact⟨keep p.1 p.2 ne nf nch e n,free p.1 p.2 nch e n,ne,nf,d⟩
theorem Inv.un {t':Nat}(I:Inv X pins σ H s)(u:Un X.fs [] H H' s.heap h')(cG:jD X.prog X.w H' h'):Inv X pins σ H' { s with heap:=h',toks:=t' }:=by
 obtain⟨m,⟨o,es,ep,ho,r⟩,_⟩:=id I.loc
 obtain⟨sl,hL⟩:=u.any ho I.free (by simp)
 exact I.step (g':=s.gens) (d':=s.drawn) (ch:=[]) (fun _ z=>nomatch z) (fun b o _ hb _ e n=>u.keep b o e n hb (by simp)) (fun b o _ hb _ e n=>u.slot b o e n hb (by simp)) (fun b o _ e n=>u.free b o e n (by simp)) (fun b o _ e=>u.there b o e (by simp)) u.oS u.nY u.oT (fun m' hm=>by
 obtain⟨o',es',ep',ho',r'⟩:=hm
 rw[ho]at ho';cases ho'
 exact⟨_,es',ep',hL,r'⟩) cG I.bare
theorem Inv.call {g':Array GenState}{t':Nat}{d':Drawn}{ch:List Addr}(I:Inv X pins σ H s)(u:Un (yG X.stack) ch H H' s.heap h')(cG:jD X.prog X.w H' h')(hg:AllBare g')
 (hch:∀ b∈ch,(b∈X.ex∨X.s₀.heap.objs.size<=b)/\b≠X.env.locals/\(∀ x c,X.env.cells.lookup x=some c->c≠b)/\∀ p∈X.pn++pins,p.1≠b):
 Inv X pins σ H' { s with heap:=h',gens:=g',drawn:=d',toks:=t' }:=by
 obtain⟨m,⟨o,es,ep,ho,r⟩,_⟩:=id I.loc
 obtain⟨sl,hL⟩:=u.any ho I.free fun z=>(hch _ z).2.1 rfl
 exact I.step (ch:=ch) hch (fun b o hL hb hc e n=>u.keep b o e n (fun z=>(List.mem_cons.mp (I.JX b z)).elim hL hb) hc) (fun b o _ _ hc e n=>u.any e n hc) (fun b o hc e n=>u.free b o e n hc) (fun b o hc e=>u.there b o e hc) u.oS u.nY u.oT (fun m' hm=>by
 obtain⟨o',es',ep',ho',r'⟩:=hm
 rw[ho]at ho';cases ho'
 exact⟨_,es',ep',hL,r'⟩) cG hg
theorem Inv.turned {t':Nat}{it:Addr}(I:Inv X pins σ H s)(k:∀ b o,b≠it->s.heap.get? b=some o->h'.get? b=some o)(hn:H it=none)(hL:it≠X.env.locals)
  (h1:it∈X.ex∨X.s₀.heap.objs.size<=it)(h2:∀ x c,X.env.cells.lookup x=some c->c≠it)(h3:∀ p∈X.pn++pins,p.1≠it):Inv X pins σ H { s with heap:=h',toks:=t' }:=by
 have nit:∀ b u,H b=some u->b≠it:=fun b u e z=>by rw[z,hn]at e;cases e
 refine I.step (g':=s.gens) (d':=s.drawn) (ch:=[it]) (fun b hb=>?_) (fun b o _ _ hc e _=>k b o (fun z=>hc (by simp [z])) e) (fun b o _ _ hc e _=>⟨o.slots,k b o (fun z=>hc (by simp [z])) e⟩) (fun _ _ _ _ n=>n)
  (fun b o hc e=>⟨o,k b o (fun z=>hc (by simp [z])) e⟩) (fun _ _ e=>e) (fun _ _ _ e=>e) (fun b ps e=>⟨#[],by rw[e];simp⟩) (fun m hm=>?_) (fun b u e=>?_) I.bare
 ·have e:b=it:=by simpa using hb
  subst e
  exact⟨h1,hL,h2,h3⟩
 ·obtain⟨o,es,ep,ho,r⟩:=hm
  exact⟨o,es,ep,k _ o (Ne.symm hL) ho,r⟩
 ·refine(I.cG b u e).CD (fun c v hc q=>k c v ?_ q) (fun _ q=>q) fun _ _ q=>q
  rcases hc with z|z
  ·rw[z];exact nit b u e
  ·exact nit c _ z
theorem Inv.tok (I:Inv X pins σ H s)(t:Nat):Inv X pins σ H { s with toks:=t }:=I.un (h':=s.heap) (t':=t) Un.refl I.cG
theorem Inv.kept {t':Nat}(I:Inv X pins σ H s)(k:∀ b u,s.heap.get? b=some u->h'.get? b=some u):Inv X pins σ H { s with heap:=h',toks:=t' }:=I.un (Un.kept k) (I.cG.kept k)
theorem Inv.laid {a:Addr}{o:HO}{t':Nat}(I:Inv X pins σ H s)(k:∀ b u,s.heap.get? b=some u->h'.get? b=some u)(hp:s.heap.objs.size<=a)(new:jR X.prog X.w (upd H a o) h' a o):
 Inv X pins σ (upd H a o) { s with heap:=h',toks:=t' }:=I.un (Un.laid k hp (I.cG.fresh hp)) (I.cG.laid k hp new)
theorem Inv.write {x e:Addr}{o:HO}{t':Nat}(I:Inv X pins σ H s)(mu:VO (H x))(he:e=x∨H e=some (.own x))(k:∀ b u,b≠e->s.heap.get? b=some u->h'.get? b=some u)(heo:∃ u,h'.get? e=some u)
 (new:jR X.prog X.w (upd H x o) h' x o):Inv X pins σ (upd H x o) { s with heap:=h',toks:=t' }:=I.un (Un.write mu he k heo) (I.cG.write mu he k heo new)
theorem Inv.weak {σ':List (Option V)}(I:Inv X pins σ H s)(hl:σ'.length=σ.length)(w:∀(i:Nat) v,σ'[i]? = some (some v)->σ[i]? = some (some v)):Inv X pins σ' H s :=
 ⟨I.ok,I.os,I.bare,I.base,let⟨m,hn,hl'⟩:=I.loc;⟨m,hn,fun i x v e1 e2 e3=>hl' i x v e1 (w i v e2) e3⟩,I.cell,I.free,I.mE,I.pin,I.cG,hl.trans I.len⟩
theorem Inv.MZ {pins':List (Addr×Obj)}(I:Inv X pins σ H s)(h:∀ p∈pins',s.heap.get? p.1=some p.2/\H p.1=none/\p.1≠X.env.locals/\p.1∉X.fs/\∀ v,p.2.data≠.cell v):Inv X pins' σ H s :=
 ⟨I.ok,I.os,I.bare,I.base,I.loc,I.cell,I.free,I.mE,fun p hp=>(List.mem_append.mp hp).elim (fun z=>I.pin p (List.mem_append_left _ z)) (h p),I.cG,I.len⟩
theorem JK {N:List Str}(hN:N.Nodup){i j:Nat}{x:Str}(a:N[i]? = some x)(b:N[j]? = some x):i=j:=by
 obtain⟨h1,e1⟩:=List.getElem?_eq_some_iff.mp a
 obtain⟨h2,e2⟩:=List.getElem?_eq_some_iff.mp b
 exact(List.getElem_inj hN).mp (e1.trans e2.symm)
theorem GB {M:Model}{A:Around}{E:Value->Shared->Prop}{i:Nat}{x:Str}{v:V}{u:Value}{Q:Unit->Shared->Prop}(I:Inv X pins σ H s)(hN:X.N.Nodup)(hi:X.N[i]? = some x)(hx:Loc X.env.scope x)(r:RelV v u)
  (h:∀ s',Inv X pins (σ.set i (some v)) H s'->(∃ a,Heap.SameBut a s.heap s'.heap/\(a=X.env.locals∨X.env.cells.lookup x=some a))->Q () s')(hf:X.fn x=true∨X.env.scope.names.lookup x=some .local:=by first|exact .inl rfl|exact .inr rfl|assumption):wpAny M A (storeName X.env x u) Q E s:=by
 obtain⟨m,hn,hl⟩:=id I.loc
 have hcls:(X.env.scope.kind == .class||(X.env.scope.kind == .module&&X.env.locals != X.env.globals))=false:=by rw[I.ok.kind];rfl
 have hiσ:i<σ.length:=by rw[I.len];exact(List.getElem?_eq_some_iff.mp hi).1
 have KZ:=I.KZ
 have tracked:∀{a:Addr}{h':Heap},(∃ o,s.heap.get? a=some o/\H a=none)->Heap.SameBut a s.heap h'->jD X.prog X.w H h':=fun{a h'} ha hs b ob e=>by
  obtain⟨_,_,hfree⟩:=ha
  refine(I.cG b ob e).CD (fun c w' hc q=>(hs.2 c ?_).trans q) (fun _ q=>q) fun _ _ q=>q
  rintro rfl
  rcases hc with rfl|hc
  ·rw[hfree]at e;cases e
  ·rw[hfree]at hc;cases hc
 rcases hx with hk|hk
 ·refine wpAny_storeName_local hk hn (fun h' hn' hs=>?_) hcls
  obtain⟨oL,_,_,hoL,_⟩:=id hn
  refine h _ ⟨I.ok,I.os,I.bare,⟨fun b o e n hb hx=>?_,fun b o e n hb hx=>?_,I.base.free,fun b o e hx=>?_,I.base.oS,I.base.nY,I.base.oT⟩,⟨_,hn',fun j y v' e1 e2 e3=>?_⟩,fun y c e=>?_,I.free,I.mE,fun p hp=>?_,tracked ⟨oL,hoL,I.free⟩ hs,by simpa using I.len⟩ ⟨_,hs,.inl rfl⟩
  ·exact(hs.2 b (Nat.ne_of_lt (Nat.lt_of_lt_of_le (Heap.lt_size e) I.ok.above))).trans (I.base.keep b o e n hb hx)
  ·obtain⟨sl,e1⟩:=I.base.slot b o e n hb hx
   exact⟨sl,(hs.2 b (Nat.ne_of_lt (Nat.lt_of_lt_of_le (Heap.lt_size e) I.ok.above))).trans e1⟩
  ·obtain⟨o',e1⟩:=I.base.there b o e hx
   exact⟨o',(hs.2 b (Nat.ne_of_lt (Nat.lt_of_lt_of_le (Heap.lt_size e) I.ok.above))).trans e1⟩
  ·by_cases hj:j=i
   ·subst hj
    rw[hi]at e1;cases e1
    rw[List.getElem?_set_self hiσ]at e2
    cases e2
    exact⟨u,r,.inl ⟨hk,by simp⟩⟩
   ·rw[List.getElem?_set_ne (Ne.symm hj)]at e2
    obtain⟨u',r',q⟩:=hl j y v' e1 e2 e3
    refine⟨u',r',?_⟩
    rcases q with⟨k,e⟩|⟨k,c,e,z⟩
    ·refine .inl ⟨k,?_⟩
     have:y≠x:=fun e=>hj (JK hN e1 (e▸hi))
     simp [this,e]
    ·exact .inr ⟨k,c,e,z.sameBut hs (KZ y c e)⟩
  ·obtain⟨w',z⟩:=I.cell y c e
   exact⟨w',z.sameBut hs (KZ y c e)⟩
  ·obtain⟨e,n,ne,nf,d⟩:=I.pin p hp
   exact⟨(hs.2 p.1 ne).trans e,n,ne,nf,d⟩
 ·have hfn:X.fn x=true:=by
   rcases hf with z|z
   ·exact z
   ·rw[z]at hk;cases hk
  obtain⟨c,hc⟩:=I.ok.has x (.inl hk)
  obtain⟨w',z⟩:=I.cell x c hc
  refine wpAny_storeName_cell I.ok.kind hk hc z (fun h' hc' hs=>?_)
  obtain⟨oc,hoc,hocd⟩:=id z
  refine h { s with heap:=h' } ⟨I.ok,I.os,I.bare,⟨fun b o e n hb hx=>?_,fun b o e n hb hx=>?_,I.base.free,fun b o e hx=>?_,I.base.oS,I.base.nY,I.base.oT⟩,⟨m,hn.sameBut hs (Ne.symm (KZ x c hc)),fun j y v' e1 e2 e3=>?_⟩,fun y c' e=>?_,I.free,I.mE,fun p hp=>?_,tracked ⟨oc,hoc,I.mE x c hc⟩ hs,by simpa using I.len⟩ ⟨c,hs,.inr hc⟩
  ·exact(hs.2 b (Nat.ne_of_lt (Nat.lt_of_lt_of_le (Heap.lt_size e) (I.ok.cab x c hfn hc)))).trans (I.base.keep b o e n hb hx)
  ·obtain⟨sl,e1⟩:=I.base.slot b o e n hb hx
   exact⟨sl,(hs.2 b (Nat.ne_of_lt (Nat.lt_of_lt_of_le (Heap.lt_size e) (I.ok.cab x c hfn hc)))).trans e1⟩
  ·obtain⟨o',e1⟩:=I.base.there b o e hx
   exact⟨o',(hs.2 b (Nat.ne_of_lt (Nat.lt_of_lt_of_le (Heap.lt_size e) (I.ok.cab x c hfn hc)))).trans e1⟩
  ·by_cases hj:j=i
   ·subst hj
    rw[hi]at e1;cases e1
    rw[List.getElem?_set_self hiσ]at e2
    cases e2
    exact⟨u,r,.inr ⟨.inl hk,c,hc,hc'⟩⟩
   ·rw[List.getElem?_set_ne (Ne.symm hj)]at e2
    obtain⟨u',r',q⟩:=hl j y v' e1 e2 e3
    refine⟨u',r',?_⟩
    rcases q with q|⟨k,c',e,z'⟩
    ·exact .inl q
    ·refine .inr ⟨k,c',e,z'.sameBut hs ?_⟩
     rintro rfl
     exact hj (JK hN e1 (I.ok.inj _ _ _ e hc▸hi))
  ·by_cases hcc:c'=c
   ·subst hcc;exact⟨_,hc'⟩
   ·obtain⟨w2,z2⟩:=I.cell y c' e
    exact⟨w2,z2.sameBut hs hcc⟩
  ·obtain⟨e,n,ne,nf,d⟩:=I.pin p hp
   refine⟨(hs.2 p.1 ?_).trans e,n,ne,nf,d⟩
   intro q
   rw[q,hoc]at e
   have q':oc=p.2:=Option.some.inj e
   exact d w' (by rw[<-q'];exact hocd)
theorem TJ {M:Model}{A:Around}{E:Value->Shared->Prop}{i:Nat}{x:Str}{v:V}{u:Value}{Q:Unit->Shared->Prop}(I:Inv X pins σ H s)(hN:X.N.Nodup)(hi:X.N[i]? = some x)(hx:Loc X.env.scope x)(r:RelV v u)
 (h:∀ s',Inv X pins (σ.set i (some v)) H s'->Q () s')(hf:X.fn x=true∨X.env.scope.names.lookup x=some .local:=by first|exact .inl rfl|exact .inr rfl|assumption):wpAny M A (storeName X.env x u) Q E s :=
 GB I hN hi hx r (fun s' I' _=>h s' I') hf
theorem Inv.Hb {s':Shared}{ch:List Addr}(I:Inv X pins σ H s)(ho:s'.os=s.os)(u:Un (yG X.stack) ch H H' s.heap s'.heap)(cG:jD X.prog X.w H' s'.heap)(hg:AllBare s'.gens)
 (hch:∀ b∈ch,(b∈X.ex∨X.s₀.heap.objs.size<=b)/\b≠X.env.locals/\(∀ x c,X.env.cells.lookup x=some c->c≠b)/\∀ p∈X.pn++pins,p.1≠b):Inv X pins σ H' s':=by
 obtain⟨h',g',d',t',o'⟩:=s'
 have e:o'=s.os:=ho
 subst e
 exact I.call (g':=g') (t':=t') (d':=d') u cG hg hch
end
abbrev XK:=Value->Option Addr->Hp->Prop
abbrev St:=List (Option V)
abbrev VK:=V->Hp->Prop
abbrev TE:=St->Hp->VK->Prop
abbrev TT:=St->Hp->(Bool->Hp->Prop)->Prop
abbrev TA:=St->Hp->(List V->Hp->Prop)->Prop
structure Ends where
 nx:St->Hp->Prop
 rt:VK
 bk:St->Hp->Prop:=fun _ _=>False
 ct:St->Hp->Prop:=fun _ _=>False
abbrev TS:=Ends->St->Hp->Prop
def EP (X:Cx)(pins:List (Addr×Obj))(σ:St)(Q:VK)(u:Value)(s':Shared):Prop:=∃ v H',Inv X pins σ H' s'/\RelV v u/\Q v H'
def TP (X:Cx)(pins:List (Addr×Obj))(σ:St)(Q:Bool->Hp->Prop)(b:Bool)(s':Shared):Prop:=∃ H',Inv X pins σ H' s'/\Q b H'
def AP (X:Cx)(pins:List (Addr×Obj))(σ:St)(Q:List V->Hp->Prop)(us:List Value)(s':Shared):Prop:=∃ vs H',Inv X pins σ H' s'/\aO vs us/\Q vs H'
def SP (X:Cx)(pins:List (Addr×Obj))(D:Ends)(f:Flow)(s':Shared):Prop :=
 match f with
 |.next=>∃ σ' H',Inv X pins σ' H' s'/\D.nx σ' H'
 |.brk=>∃ σ' H',Inv X pins σ' H' s'/\D.bk σ' H'
 |.cont=>∃ σ' H',Inv X pins σ' H' s'/\D.ct σ' H'
 |.ret u=>∃ v σ' H',Inv X pins σ' H' s'/\RelV v u/\D.rt v H'
def PE (X:Cx)(e:Expr)(t:TE):Prop :=
 ∀(pins:List (Addr×Obj))(s:Shared)(σ:St)(H:Hp)(Q:VK),Inv X pins σ H s->t σ H Q->wpAny (model X.prog X.w) X.A (eval e X.env) (EP X pins σ Q) X.xe s
def PT (X:Cx)(e:Expr)(t:TT):Prop :=
 ∀(pins:List (Addr×Obj))(s:Shared)(σ:St)(H:Hp)(Q:Bool->Hp->Prop),Inv X pins σ H s->t σ H Q->wpAny (model X.prog X.w) X.A (isTrue e X.env (eval e X.env)) (TP X pins σ Q) X.xe s
def PW (X:Cx)(e:Expr)(t:TT):Prop :=
 ∀(whole:Sem Value)(pins:List (Addr×Obj))(s:Shared)(σ:St)(H:Hp)(Q:Bool->Hp->Prop),Inv X pins σ H s->t σ H Q->wpAny (model X.prog X.w) X.A (isTrue e X.env whole) (TP X pins σ Q) X.xe s
theorem PW.pt {X:Cx}{e:Expr}{t:TT}(h:PW X e t):PT X e t:=h _
def PA (X:Cx)(es:List Expr)(t:TA):Prop :=
 ∀(pos:Pos)(pins:List (Addr×Obj))(s:Shared)(σ:St)(H:Hp)(Q:List V->Hp->Prop),Inv X pins σ H s->t σ H Q->wpAny (model X.prog X.w) X.A (spliced (backTo pos (starEach es X.env))) (AP X pins σ Q) X.xe s
def PS (X:Cx)(st:Stmt)(t:TS):Prop :=
 ∀(pins:List (Addr×Obj))(s:Shared)(σ:St)(H:Hp)(D:Ends),Inv X pins σ H s->t D σ H->wpAny (model X.prog X.w) X.A (exec st X.env) (SP X pins D) X.xe s
def lF (X:Cx)(st:List Stmt)(t:TS):Prop :=
 ∀(pins:List (Addr×Obj))(s:Shared)(σ:St)(H:Hp)(D:Ends),Inv X pins σ H s->t D σ H->wpAny (model X.prog X.w) X.A (execs st X.env) (SP X pins D) X.xe s
theorem bE {α:Type}{t:Sem α}{Q Q':α->Shared->Prop}{M:Model}{A:Around}{E:Value->Shared->Prop}{s:Shared}(h:wpAny M A t Q E s)(hQ:∀ a s,Q a s->Q' a s):wpAny M A t Q' E s:=wpAny_mono h hQ fun _ _ x=>x
end L2
namespace L2
open PySem PySem.Spec PyProof.Rows
section
variable {X:Cx}
theorem bin {a b:Expr}{ta tb:TE}(ha:PE X a ta)(hb:PE X b tb){pins:List (Addr×Obj)}{s:Shared}{σ:St}{H:Hp}{R:V->V->Hp->Prop}(I:Inv X pins σ H s)(h:ta σ H fun x H1=>tb σ H1 fun y H2=>R x y H2)
 {α:Type}{Q:α->Shared->Prop}{f:Value->Value->Sem α}
 (hf:∀ v u s2 x y H2,Inv X pins σ H2 s2->RelV x v->RelV y u->R x y H2->wpAny (model X.prog X.w) X.A (f v u) Q X.xe s2):
 wpAny (model X.prog X.w) X.A (eval a X.env) (fun v s₁=>wpAny (model X.prog X.w) X.A (eval b X.env) (fun u s₂=>wpAny (model X.prog X.w) X.A (f v u) Q X.xe s₂) X.xe s₁) X.xe s:=by
 refine bE (ha pins s σ H _ I h) fun v s1 ⟨x,H1,I1,r1,q1⟩=>?_
 refine bE (hb pins s1 σ H1 _ I1 q1) fun u s2 ⟨y,H2,I2,r2,q2⟩=>?_
 exact hf v u s2 x y H2 I2 r1 r2 q2
def SQ (i:Nat):TE:=fun σ H Q=>∃ v,σ[i]? = some (some v)/\Q v H
def tC (v:V):TE:=fun _ H Q=>Q v H
theorem Af {i:Nat}{x:Str}{pos:Pos}(hN:X.N[i]? = some x)(hv:Z4 X.env.scope x)(hd:(x==("__debug__" : Str))=false:=by decide)(hcd:(x==("__classdict__" : Str))=false:=by decide):PE X (.Name x pos) (SQ i):=by
 intro pins s σ H Q I h
 obtain⟨v,e,h⟩:=h
 obtain⟨m,hn,hl⟩:=I.loc
 obtain⟨u,r,l⟩:=hl i x v hN e hv
 have fin:EP X pins σ Q u s:=⟨v,H,I,r,h⟩
 rcases l with⟨hk,hm⟩|⟨hk,c,hc,hcell⟩
 ·exact wpAny_Name (wpAny_loadName_local I.ok.kind hk hn hm fin) hd
 ·rcases hk with hk|hk
  ·exact wpAny_Name (wpAny_loadName_cell I.ok.kind hk hc hcell fin) hd
  ·exact wpAny_Name (wpAny_loadName_free I.ok.kind hk hc hcell fin hcd) hd
theorem Z3 {i j pos}:PE X (.Constant (.int i) j pos) (tC (.int i)):=fun _ _ _ H _ I h=>wpAny_Constant_int ⟨.int i,H,I.tok _,⟨_,rfl⟩,h⟩
theorem Ja {b j pos}:PE X (.Constant (.bool b) j pos) (tC (.bl b)):=fun _ _ _ H _ I h=>Constant_bool ⟨.bl b,H,I,rfl,h⟩
theorem Cn {j pos}:PE X (.Constant .none j pos) (tC .non):=fun _ _ _ H _ I h=>Constant_none ⟨.non,H,I,rfl,h⟩
theorem An {x j pos}:PE X (.Constant (.str x) j pos) (tC (.str x)):=fun _ _ _ H _ I h=>Calls.Constant_str ⟨.str x,H,I.tok _,⟨_,rfl⟩,h⟩
def Gl (X:Cx)(x:Str):Prop:=X.env.kindOf x=some .globalImplicit
theorem EK {E:Value->Shared->Prop}{pins:List (Addr×Obj)}{s:Shared}{σ:St}{H:Hp}{x:Str}{u:Value}{pos:Pos}{Q:Value->Shared->Prop}(I:Inv X pins σ H s)(hg:Gl X x)(hm:X.mg x=some u)(h:Q u s)
 (hd:(x==("__debug__" : Str))=false:=by decide):wpAny (model X.prog X.w) X.A (eval (.Name x pos) X.env) Q E s :=
 Calls.Name_function_global I.ok.kind hg (Calls.loadGlobal_global (by rw[I.ok.glob];exact I.mod.glob.keeps I.bk) hm h) hd
theorem nO {E:Value->Shared->Prop}{pins:List (Addr×Obj)}{s:Shared}{σ:St}{H:Hp}{x:Str}{u:Value}{pos:Pos}{Q:Value->Shared->Prop}(I:Inv X pins σ H s)(hg:Gl X x)(hm:X.mg x=none)(hv:bootBuiltins x=some u)(h:Q u s)
 (hn:x ≠"__name__":=by decide)(hd:(x==("__debug__" : Str))=false:=by decide):wpAny (model X.prog X.w) X.A (eval (.Name x pos) X.env) Q E s:=by
 obtain⟨mb,h1,h2⟩:=I.mod.blt
 exact Calls.Name_function_global I.ok.kind hg (Calls.loadGlobal_builtin (by rw[I.ok.glob];exact I.mod.glob.keeps I.bk) hm (by rw[I.ok.blt];exact h1.keeps I.bk) ((h2 x hn).trans hv) h) hd
theorem XZ {x:Str}{v:V}{u:Value}{pos:Pos}(hg:Gl X x)(hm:X.mg x=some u)(r:RelV v u)(hd:(x==("__debug__" : Str))=false:=by decide):PE X (.Name x pos) (tC v) :=
 fun _ _ _ H _ I h=>EK I hg hm ⟨v,H,I,r,h⟩ hd
theorem YQ {x:Str}{v:V}{u:Value}{pos:Pos}(hg:Gl X x)(hm:X.mg x=none)(hv:bootBuiltins x=some u)(r:RelV v u)(hn:x ≠"__name__":=by decide)(hd:(x==("__debug__" : Str))=false:=by decide):PE X (.Name x pos) (tC v) :=
 fun _ _ _ H _ I h=>nO I hg hm hv ⟨v,H,I,r,h⟩ hn hd
variable {a b:Expr}{ta tb:TE}{pos:Pos}
theorem RelV.S9 {x:V}{v:Value}(r:RelV x v):(v==Value.none)=decide (x=.non):=by
 cases x with
 |non=>cases r;rfl
 |bl _=>cases r;rfl
 |int _=>obtain⟨t,rfl⟩:=r;rfl
 |str _=>obtain⟨t,rfl⟩:=r;rfl
 |byt _=>obtain⟨t,rfl⟩:=r;rfl
 |flt _=>obtain⟨t,rfl⟩:=r;rfl
 |ref _=>cases r;rfl
 |ty _=>cases r;rfl
variable {tA tB':TT}{rest:List Expr}
def Lw (t u:TT):TT:=fun σ H Q=>t σ H fun c H1=>if c=true then u σ H1 Q else Q false H1
def Oo (t u:TT):TT:=fun σ H Q=>t σ H fun c H1=>if c=true then Q true H1 else u σ H1 Q
def Ky (t:TT):TT:=fun σ H Q=>t σ H fun c H1=>Q (!c) H1
theorem YZ (ha:PT X a tA):PW X (.BoolOp .And [a] pos) tA:=by
 intro wh pins s σ H Q I h
 refine isTrue_and (bE (ha pins s σ H Q I h) fun c s1 e=>?_)
 cases c with
 |true=>exact isTrue_and_nil e
 |false=>exact e
theorem ZM (ha:PT X a tA):PW X (.BoolOp .Or [a] pos) tA:=by
 intro wh pins s σ H Q I h
 refine isTrue_or (bE (ha pins s σ H Q I h) fun c s1 e=>?_)
 cases c with
 |false=>exact isTrue_or_nil e
 |true=>exact e
theorem ZG (ha:PT X a tA)(hb:PW X (.BoolOp .And (b::rest) pos) tB'):PW X (.BoolOp .And (a::b::rest) pos) (Lw tA tB'):=by
 intro wh pins s σ H Q I h
 refine isTrue_and (bE (ha pins s σ H _ I h) fun c s1 ⟨H1,I1,q1⟩=>?_)
 cases c with
 |true=>exact hb wh pins s1 σ H1 Q I1 q1
 |false=>exact⟨H1,I1,q1⟩
theorem Fz (ha:PT X a tA)(hb:PW X (.BoolOp .Or (b::rest) pos) tB'):PW X (.BoolOp .Or (a::b::rest) pos) (Oo tA tB'):=by
 intro wh pins s σ H Q I h
 refine isTrue_or (bE (ha pins s σ H _ I h) fun c s1 ⟨H1,I1,q1⟩=>?_)
 cases c with
 |true=>exact⟨H1,I1,q1⟩
 |false=>exact hb wh pins s1 σ H1 Q I1 q1
theorem ZN (ha:PT X a tA):PT X (.UnaryOp .Not a pos) (Ky tA):=by
 intro pins s σ H Q I h
 exact isTrue_not (ha pins s σ H (fun c H1=>Q (!c) H1) I h)
theorem Ak {op}{t:TE}(h:PE X a t):PE X (.BoolOp op [a] pos) t:=fun pins s σ H Q I hw=>BoolOp_one (h pins s σ H Q I hw)
end
end L2
namespace L2
open PySem PySem.Spec PyProof.Rows
def dN (K:PySem.W.Frag)(H:Hp)(a:Addr)(xs:List V):Prop :=
 Rd H a (.lst xs) ∨
 ∃(o:Obj)(aD:Array Value)(n:Nat),K.lookup a=some o/\o.cls=.type "list" /\ o.dict=none/\o.data=.seq aD n/\aD.size<=sizeLine/\aO xs aD.toList
def eU (K:PySem.W.Frag)(H:Hp)(a:Addr)(xs:List V):Prop :=
 Rd H a (.tup xs) ∨
 ∃(o:Obj)(aD:Array Value)(n:Nat),K.lookup a=some o/\o.cls=.type "tuple" /\ o.dict=none/\o.data=.seq aD n/\aD.size<=sizeLine/\aO xs aD.toList
def Lo:Value->Option V
 |.none=>some .non
 |.bool b=>some (.bl b)
 |.int i _=>some (.int i)
 |.str x _=>some (.str x)
 |.bytes b _=>some (.byt b)
 |.float b _=>some (.flt b)
 |.ref a=>some (.ref a)
 |.type n=>some (.ty n)
 |_=>none
theorem RelV.abs {x:V}{u:Value}(r:RelV x u):Lo u=some x:=by
 cases x with
 |non=>cases r;rfl
 |bl _=>cases r;rfl
 |int _=>obtain⟨t,rfl⟩:=r;rfl
 |str _=>obtain⟨t,rfl⟩:=r;rfl
 |byt _=>obtain⟨t,rfl⟩:=r;rfl
 |flt _=>obtain⟨t,rfl⟩:=r;rfl
 |ref _=>cases r;rfl
 |ty _=>cases r;rfl
theorem RelV.inj {x y:V}{u:Value}(r:RelV x u)(q:RelV y u):x=y:=Option.some.inj (r.abs.symm.trans q.abs)
theorem aO.inj:∀{xs ys:List V}{us:List Value},aO xs us->aO ys us->xs=ys
 |_,_,_,.nil,.nil=>rfl
 |_,_,_,.cons r t,.cons r' t'=>by rw[r.inj r',aO.inj t t']
section
variable {X:Cx}{pins:List (Addr×Obj)}{σ:St}{H:Hp}{s:Shared}{a:Addr}{xs ys:List V}
theorem dN.of {K:PySem.W.Frag}(h:H a=some (.lst xs)):dN K H a xs:=.inl (.inl h)
theorem eU.of {K:PySem.W.Frag}(h:H a=some (.tup xs)):eU K H a xs:=.inl (.inl h)
theorem Inv.list (I:Inv X pins σ H s)(h:dN X.K H a xs):∃ aD:List Value,aO xs aD/\PlainL s.heap a aD.toArray/\xs.length<=sizeLine:=by
 rcases h with h|⟨o,aD,n,hk,hc,hd,hs,hz,r⟩
 ·obtain⟨z,aD,n,r,e⟩:=h.ok I.cG
  exact⟨aD,r,⟨_,n,e,rfl,rfl,rfl⟩,z⟩
 ·refine⟨aD.toList,r,⟨o,n,I.jZ a o hk,hc,hd,by simpa using hs⟩,?_⟩
  have e:=r.length
  simp only[Array.length_toList]at e
  omega
theorem Inv.tuple (I:Inv X pins σ H s)(h:eU X.K H a xs):∃ aD:List Value,aO xs aD/\IsTup s.heap a aD.toArray/\xs.length<=sizeLine:=by
 rcases h with h|⟨o,aD,n,hk,hc,_,hs,hz,r⟩
 ·obtain⟨z,aD,r,p⟩:=h.ok I.cG
  exact⟨aD,r,p.tup,z⟩
 ·refine⟨aD.toList,r,⟨o,I.jZ a o hk,hc,n,by simpa using hs⟩,?_⟩
  have e:=r.length
  simp only[Array.length_toList]at e
  omega
theorem Inv.sJ (I:Inv X pins σ H s)(h:dN X.K H a xs)(h':dN X.K H a ys):xs=ys:=by
 obtain⟨aD,r,⟨o,n,e,_,_,d⟩,_⟩:=I.list h
 obtain⟨lP,r',⟨o',n',e',_,_,d'⟩,_⟩:=I.list h'
 rw[e]at e';cases e'
 rw[d]at d'
 injection d' with d1 _
 have:aD=lP:=by simpa using congrArg Array.toList d1
 subst this
 exact r.inj r'
theorem Inv.Jc (I:Inv X pins σ H s)(h:eU X.K H a xs):∃ o,s.heap.get? a=some o/\o.dict=none:=by
 rcases h with h|⟨o,aD,n,hk,hc,hd,hs,hz,r⟩
 ·obtain⟨z,aD,r,o,e,_,_,d⟩:=h.ok I.cG
  exact⟨o,e,d⟩
 ·exact⟨o,I.jZ a o hk,hd⟩
theorem Inv.tH (I:Inv X pins σ H s)(h:eU X.K H a xs)(h':eU X.K H a ys):xs=ys:=by
 obtain⟨aD,r,⟨o,e,_,n,d⟩,_⟩:=I.tuple h
 obtain⟨lP,r',⟨o',e',_,n',d'⟩,_⟩:=I.tuple h'
 rw[e]at e';cases e'
 rw[d]at d'
 injection d' with d1 _
 have:aD=lP:=by simpa using congrArg Array.toList d1
 subst this
 exact r.inj r'
end
abbrev Cx.qI (X:Cx)(E:Value->Shared->Prop):Cx:={ X with xe:=E }
abbrev Cx.qQ (X:Cx):Cx:=X.qI fun _ _=>False
theorem Cx.Ok.qI {X:Cx}(ok:X.Ok)(E:Value->Shared->Prop):(X.qI E).Ok :=
 ⟨ok.mod,ok.kind,ok.glob,ok.blt,ok.above,ok.inj,ok.has,ok.cab,ok.hd,ok.frames,ok.stk,ok.exf,ok.bs,ok.bsz,ok.noex,ok.exfs,ok.oO,ok.frf⟩
theorem Cx.Ok.lT {X:Cx}{E:Value->Shared->Prop}(ok:(X.qI E).Ok):X.Ok :=
 ⟨ok.mod,ok.kind,ok.glob,ok.blt,ok.above,ok.inj,ok.has,ok.cab,ok.hd,ok.frames,ok.stk,ok.exf,ok.bs,ok.bsz,ok.noex,ok.exfs,ok.oO,ok.frf⟩
section
variable {X:Cx}{pins:List (Addr×Obj)}{σ:St}{H:Hp}{s:Shared}{E:Value->Shared->Prop}
theorem Inv.qI (I:Inv X pins σ H s)(E:Value->Shared->Prop):Inv (X.qI E) pins σ H s:=⟨I.ok.qI E,I.os,I.bare,I.base,I.loc,I.cell,I.free,I.mE,I.pin,I.cG,I.len⟩
theorem Inv.lT (I:Inv (X.qI E) pins σ H s):Inv X pins σ H s:=⟨I.ok.lT,I.os,I.bare,I.base,I.loc,I.cell,I.free,I.mE,I.pin,I.cG,I.len⟩
theorem SP.lT {D:Ends}{f:Flow}{s':Shared}(h:SP (X.qI E) pins D f s'):SP X pins D f s':=by
 cases f with
 |next=>obtain⟨σ',H',I,q⟩:=h;exact⟨σ',H',I.lT,q⟩
 |brk=>obtain⟨σ',H',I,q⟩:=h;exact⟨σ',H',I.lT,q⟩
 |cont=>obtain⟨σ',H',I,q⟩:=h;exact⟨σ',H',I.lT,q⟩
 |ret u=>obtain⟨v,σ',H',I,r,q⟩:=h;exact⟨v,σ',H',I.lT,r,q⟩
theorem PE.qQ {e:Expr}{t:TE}(h:PE X.qQ e t):PE X e t:=fun pins s σ H Q I hw =>
 wpAny_mono (h pins s σ H Q (I.qI _) hw) (fun _ _ ⟨v,H',I',r,q⟩=>⟨v,H',I'.lT,r,q⟩) fun _ _ z=>False.elim z
theorem PT.qQ {e:Expr}{t:TT}(h:PT X.qQ e t):PT X e t:=fun pins s σ H Q I hw =>
 wpAny_mono (h pins s σ H Q (I.qI _) hw) (fun _ _ ⟨H',I',q⟩=>⟨H',I'.lT,q⟩) fun _ _ z=>False.elim z
theorem lF.qQ {st:List Stmt}{t:TS}(h:lF X.qQ st t):lF X st t:=fun pins s σ H D I hw =>
 wpAny_mono (h pins s σ H D (I.qI _) hw) (fun _ _ q=>q.lT) fun _ _ z=>False.elim z
end
section
variable {X:Cx}{st:Stmt}{rest:List Stmt}{t u:TS}{e:Expr}{te:TE}{pos:Pos}
def Jk:TS:=fun D σ H=>D.nx σ H
def Mq (t u:TS):TS:=fun D σ H=>t { D with nx:=u D } σ H
theorem XF:lF X [] Jk:=fun _ _ σ H _ I h=>wpAny_execs_nil ⟨σ,H,I,h⟩
theorem SS (h1:PS X st t)(h2:lF X rest u):lF X (st::rest) (Mq t u):=by
 intro pins s σ H D I h
 refine wpAny_execs_cons (bE (h1 pins s σ H { D with nx:=u D } I h) fun f s1 q=>?_)
 cases f with
 |next =>
 obtain⟨σ',H',I',q⟩:=q
 exact h2 pins s1 σ' H' D I' q
 |ret v=>exact q
 |brk=>exact q
 |cont=>exact q
theorem Inv.quiet {pins:List (Addr×Obj)}{σ:St}{H:Hp}{s:Shared}(I:Inv X pins σ H s):interactive X.env=false:=by simp [interactive,I.ok.kind]
def Iz (te:TE):TS:=fun D σ H=>te σ H fun _ H1=>D.nx σ H1
theorem WZ (he:PE X e te)(hs:swapsWith e none pos.line X.env=pure false:=by rfl):PS X (.Expr e pos) (Iz te):=by
 intro pins s σ H D I h
 exact wpAny_Expr_any (bE (he pins s σ H _ I h) fun v s1 ⟨x,H1,I1,r1,q1⟩=>⟨σ,H1,I1,q1⟩) I.quiet hs
def Lx (te:TE):TS:=fun D σ H=>te σ H D.rt
theorem Ek (he:PE X e te):PS X (.Return (some e) pos) (Lx te):=by
 intro pins s σ H D I h
 exact wpAny_Return_some (bE (he pins s σ H _ I h) fun v s1 ⟨x,H1,I1,r1,q1⟩=>⟨x,σ,H1,I1,r1,q1⟩)
def Ic:TS:=fun D _ H=>D.rt .non H
theorem WN:PS X (.Return none pos) Ic:=fun _ _ σ H _ I h=>wpAny_Return_none ⟨.non,σ,H,I,rfl,h⟩
def Ls (c:TT)(t u:TS):TS:=fun D σ H=>c σ H fun b H1=>if b=true then t D σ H1 else u D σ H1
theorem Hq {c:Expr}{a b:List Stmt}{tc:TT}(hc:PT X c tc)(ha:lF X a t)(hb:lF X b u):PS X (.If c a b pos) (Ls tc t u):=by
 intro pins s σ H D I h
 refine wpAny_If (bE (hc pins s σ H _ I h) fun d s1 ⟨H1,I1,q1⟩=>?_)
 cases d with
 |true=>exact ha pins s1 σ H1 D I1 q1
 |false=>exact hb pins s1 σ H1 D I1 q1
def Br:TS:=fun _ _ _=>False
theorem S2:PS X st Br:=fun _ _ _ _ _ _ h=>h.elim
end
abbrev TG:=V->St->Hp->(St->Hp->Prop)->Prop
abbrev GZ:=List V->St->Hp->(St->Hp->Prop)->Prop
def PG (X:Cx)(target:Expr)(t:TG):Prop :=
 ∀(pins:List (Addr×Obj))(s:Shared)(σ:St)(H:Hp)(v:V)(u:Value)(Q:St->Hp->Prop),Inv X pins σ H s->RelV v u->t v σ H Q ->
 wpAny (model X.prog X.w) X.A (assign target X.env u) (fun _ s'=>∃ σ' H',Inv X pins σ' H' s'/\Q σ' H') X.xe s
def C2 (X:Cx)(ts:List Expr)(t:GZ):Prop :=
 ∀(pins:List (Addr×Obj))(s:Shared)(σ:St)(H:Hp)(vs:List V)(us:List Value)(Q:St->Hp->Prop),Inv X pins σ H s->aO vs us->t vs σ H Q ->
 wpAny (model X.prog X.w) X.A (assignInOrder ((assignEach ts X.env).map (·.2)) us) (fun _ s'=>∃ σ' H',Inv X pins σ' H' s'/\Q σ' H') X.xe s
abbrev TK:=V->V->V->Hp->(Hp->Prop)->Prop
def Z2 (X:Cx)(t:TK):Prop :=
 ∀(pins:List (Addr×Obj))(s:Shared)(σ:St)(H:Hp)(o i v:V)(ov iv u:Value)(Q:Hp->Prop),Inv X pins σ H s->RelV o ov->RelV i iv->RelV v u->t o i v H Q ->
 wpAny (model X.prog X.w) X.A (setItem ov iv u) (fun _ s'=>∃ H',Inv X pins σ H' s'/\Q H') X.xe s
section
variable {X:Cx}{pos:Pos}
def DF (i:Nat):TG:=fun v σ H Q=>Q (σ.set i (some v)) H
theorem uJ {i:Nat}{x:Str}(hN:X.N.Nodup)(hi:X.N[i]? = some x)(hx:Loc X.env.scope x)(hf:X.fn x=true∨X.env.scope.names.lookup x=some .local:=by first|exact .inl rfl|exact .inr rfl|assumption):PG X (.Name x pos) (DF i):=by
 intro pins s σ H v u Q I r h
 exact wpAny_assign_Name (TJ I hN hi hx r (fun s' I'=>⟨_,H,I',h⟩) hf)
def Mr:GZ:=fun vs σ H Q=>vs=[]/\Q σ H
def Il (t:TG)(u:GZ):GZ:=fun vs σ H Q=>∃ v r,vs=v::r/\t v σ H fun σ' H'=>u r σ' H' Q
theorem WO:C2 X [] Mr:=by
 intro pins s σ H vs us Q I r h
 obtain⟨e,h⟩:=h
 subst e
 cases r
 exact assignInOrder_nil ⟨σ,H,I,h⟩
theorem UJ {e:Expr}{es:List Expr}{t:TG}{u:GZ}(h1:PG X e t)(h2:C2 X es u)
 (hs:(assignEach (e::es) X.env).map (·.2)=assign e X.env::(assignEach es X.env).map (·.2):=by rfl):C2 X (e::es) (Il t u):=by
 intro pins s σ H vs us Q I r h
 obtain⟨v,vr,e1,h⟩:=h
 subst e1
 cases r with
 |cons r rr =>
 rw[hs]
 refine assignInOrder_cons (bE (h1 pins s σ H _ _ _ I r h) fun _ s1 ⟨σ1,H1,I1,q1⟩=>?_)
 exact h2 pins s1 σ1 H1 _ _ Q I1 rr q1
def Z6 (K:PySem.W.Frag)(n:Nat)(t:GZ):TG:=fun v σ H Q=>∃ a xs,v=.ref a/\eU K H a xs/\xs.length=n/\t xs σ H Q
theorem QM {es:List Expr}{k:Nat}{t:GZ}{n:Nat}(hc:X.calm=true)(h:C2 X es t)
 (hn:(assignEach es X.env).length=n:=by rfl)(fF:(assignEach es X.env).findIdx? (·.1)=none:=by rfl):PG X (.Tuple es k pos) (Z6 X.K n t):=by
 intro pins s σ H v u Q I r hw
 obtain⟨a,xs,e1,hq,hl,hw⟩:=hw
 subst e1
 cases r
 obtain⟨aD,rv,ht,hz⟩:=I.tuple hq
 refine assign_Tuple_tuple (I.ok.hd hc) ht (by simp [hn,<-hl,rv.length]) fF fun h' hx=>?_
 have I1:Inv X pins σ H { s with heap:=h' }:=I.kept (t':=s.toks) fun b o e=>hx b o (Nat.ne_of_lt (Heap.lt_size e)) e
 exact h pins _ σ H xs _ Q I1 (by simpa using rv) hw
def Mz (to ti:TE)(t:TK):TG:=fun v σ H Q=>to σ H fun o H1=>ti σ H1 fun i H2=>t o i v H2 fun H3=>Q σ H3
theorem Ah {o i:Expr}{to ti:TE}{t:TK}(ho:PE X o to)(hi:PE X i ti)(hs:Z2 X t)
 (ha:∀ v,assign (.Subscript o i pos) X.env v=(do
  let ov <-holding [v] (eval o X.env)
  let iv <-holding [v,ov] (eval i X.env)
  standAt pos
  holding [v,ov,iv] (setItem ov iv v)
  release [v,ov,iv] []):=by intro _;rfl):PG X (.Subscript o i pos) (Mz to ti t):=by
 intro pins s σ H v u Q I r h
 rw[ha]
 refine wpAny_bind (wpAny_holding (bE (ho pins s σ H _ I h) fun ov s1 ⟨x,H1,I1,r1,q1⟩=>?_))
 refine wpAny_bind (wpAny_holding (bE (hi pins s1 σ H1 _ I1 q1) fun iv s2 ⟨y,H2,I2,r2,q2⟩=>?_))
 refine wpAny_bind (wpAny_standAt (wpAny_bind (wpAny_holding (bE (hs pins s2 σ H2 x y v ov iv u _ I2 r1 r2 r q2) fun _ s3 ⟨H3,I3,q3⟩=>?_))))
 exact wpAny_release ⟨σ,H3,I3,q3⟩
def Ng (te:TE)(g:TG):TS:=fun D σ H=>te σ H fun x H1=>g x σ H1 D.nx
theorem Dj {tg e:Expr}{te:TE}{g:TG}(he:PE X e te)(hg:PG X tg g)(hs:swapsWithSole [tg] e pos.line X.env=pure false:=by rfl)(hw:swappedStores [tg] e X.env=pure none:=by rfl)
 (h1:(assignEach [tg] X.env).map (·.2)=[assign tg X.env]:=by rfl):PS X (.Assign [tg] e pos) (Ng te g):=by
 intro pins s σ H D I h
 refine wpAny_Assign_stores (bE (he pins s σ H _ I h) fun v s1 ⟨x,H1,I1,r1,q1⟩=>?_) hs hw
 rw[h1]
 exact bE (hg pins s1 σ H1 x v _ I1 r1 q1) fun _ s2 q=>q
end
section
variable {X:Cx}{pos:Pos}
def Dd (c:TT)(tb:TS):TS:=fun D σ H=>∃ W:Nat->St->Hp->Prop,(∃ m,W m σ H)/\∀ m σ H,W m σ H ->
 c σ H fun b H1=>if b=true then ∃ N:St->Hp->Prop,(∀ σ' H',N σ' H'->∃ m',m'<m/\W m' σ' H')/\tb { D with nx:=N,ct:=N,bk:=D.nx } σ H1 else D.nx σ H1
theorem SY {c:Expr}{body:List Stmt}{tc:TT}{tb:TS}(hp:PassesOwn (model X.prog X.w) X.A X.env X.xe)(hc:PT X c tc)(hb:lF X body tb):PS X (.While c body [] pos) (Dd tc tb):=by
 intro pins s σ H D I h
 obtain⟨W,⟨m0,w0⟩,turn⟩:=h
 refine wpAny_While (codeAny_whileLoop (fun n s'=>∃ σ' H',Inv X pins σ' H' s'/\W n σ' H') ?_ m0 ⟨σ,H,I,w0⟩)
 rintro n s1 ⟨σ1,H1,I1,w1⟩
 refine wpAny_passesOwn hp (bE (hc pins s1 σ1 H1 _ I1 (turn n σ1 H1 w1)) fun b s2 ⟨H2,I2,q2⟩=>?_)
 cases b with
 |true =>
  obtain⟨N,hN,q2⟩:=q2
  rw[if_pos rfl]
  refine wpAny_passesOwn hp (bE (hb pins s2 σ1 H2 _ I2 q2) fun f s3 q3=>?_)
  cases f with
  |next =>
   obtain⟨σ3,H3,I3,n3⟩:=q3
   obtain⟨m',hm,w3⟩:=hN σ3 H3 n3
   exact⟨m',hm,σ3,H3,I3,w3⟩
  |cont =>
   obtain⟨σ3,H3,I3,n3⟩:=q3
   obtain⟨m',hm,w3⟩:=hN σ3 H3 n3
   exact⟨m',hm,σ3,H3,I3,w3⟩
  |brk=>exact q3
  |ret v=>exact q3
 |false =>
  rw[if_neg Bool.false_ne_true]
  exact wpAny_execs_nil ⟨σ1,H2,I2,q2⟩
end
structure It where
 go:Nat->Hp->Prop
 yld:Nat->Hp->V->Hp->Prop
 stop:Nat->Hp->Prop
def nP (X:Cx)(pins:List (Addr×Obj))(H:Hp)(b:Addr):Prop :=
 H b=none/\b≠X.env.locals/\b∉X.fs/\(b∈X.ex∨X.s₀.heap.objs.size<=b)/\(∀ x c,X.env.cells.lookup x=some c->c≠b)/\∀ p∈X.pn++pins,p.1≠b
theorem Inv.JY {X:Cx}{pins:List (Addr×Obj)}{σ:St}{H H':Hp}{s:Shared}{b:Addr}(I:Inv X pins σ H s)(hb:s.heap.objs.size<=b)(hn:H' b=none):nP X pins H' b:=by
 refine⟨hn,Nat.ne_of_gt (Nat.lt_of_lt_of_le I.lt hb),I.Ds hb,.inr (Nat.le_trans I.sz hb),fun x c e z=>?_,fun p hp z=>?_⟩
 ·obtain⟨v,q⟩:=I.cell x c e
  exact absurd (Nat.lt_of_lt_of_le q.lt (by rw[z];exact hb)) (Nat.lt_irrefl _)
 ·exact absurd (Nat.lt_of_lt_of_le (Heap.lt_size (I.pin p hp).1) (by rw[z];exact hb)) (Nat.lt_irrefl _)
structure Turn (P:Program)(w:World)(K:PySem.W.Frag)(tg:Expr)(J:It)(fp:List Addr)(it:Addr)(tn:Nat->Heap->Prop):Prop where
 mem:it∈fp
 obj:∀ i h,tn i h->∀ b∈fp,∃ o,h.get? b=some o/\∀ v,o.data≠.cell v
 keep:∀ i h h',tn i h->(∀ b∈fp,∀ o,h.get? b=some o->h'.get? b=some o)->tn i h'
 item:∀(X:Cx),X.prog=P->X.w=w->X.K=K->X.calm=true->∀(i:Nat)(pins:List (Addr×Obj))(s:Shared)(σ:St)(H:Hp)(E:Value->Shared->Prop),Inv X pins σ H s->(∀ b∈fp,nP X pins H b)->tn i s.heap->J.go i H ->
 wpAny (model P w) X.A (pyNext (.ref it)) (fun r s1=>∃ u,r=some u /\
  wpAny (model P w) X.A (letOwnedTupleGo tg (.ref it) u) (fun _ s2=>∃ x H',Inv X pins σ H' s2/\RelV x u/\J.yld i H x H'/\tn (i+1) s2.heap/\∀ b∈fp,H' b=none) E s1) E s
 done:∀(X:Cx),X.prog=P->X.w=w->X.K=K->X.calm=true->∀(i:Nat)(pins:List (Addr×Obj))(s:Shared)(σ:St)(H:Hp)(E:Value->Shared->Prop),Inv X pins σ H s->(∀ b∈fp,nP X pins H b)->tn i s.heap->J.stop i H ->
 wpAny (model P w) X.A (pyNext (.ref it)) (fun r s1=>r=none/\Inv X pins σ H s1) E s
 self:∀(A:Around)(i:Nat)(s:Shared)(Q:Value->Shared->Prop)(E:Value->Shared->Prop),tn i s.heap->Q (.ref it) s->wpAny (model P w) A (pyIter (.ref it)) Q E s
abbrev TI:=St->Hp->(It->Hp->Prop)->Prop
def PY (X:Cx)(pins:List (Addr×Obj))(σ:St)(tg:Expr)(R:It->Hp->Prop)(itv:Value)(s2:Shared):Prop :=
 ∃(it:Addr)(fp:List Addr)(tn:Nat->Heap->Prop)(J:It)(H':Hp),itv=.ref it/\Inv X pins σ H' s2/\Turn X.prog X.w X.K tg J fp it tn/\tn 0 s2.heap/\(∀ b∈fp,nP X pins H' b)/\R J H'
def PI (X:Cx)(tg iter:Expr)(wi:TI):Prop :=
 ∀(pins:List (Addr×Obj))(s:Shared)(σ:St)(H:Hp)(R:It->Hp->Prop),Inv X pins σ H s->wi σ H R ->
 wpAny (model X.prog X.w) X.A (eval iter X.env) (fun v s1=>wpAny (model X.prog X.w) X.A (pyIter v) (PY X pins σ tg R) X.xe s1) X.xe s
theorem CT {M:Model}{A:Around}{E:Value->Shared->Prop}{s:Shared}{tg:Expr}{it:Addr}{u:Value}{o:Obj}{n:String}{vs:Array Value}{Q:Unit->Shared->Prop}(ho:s.heap.get? it=some o)(hc:o.cls=.type n)(hd:o.data=.fields vs)
    (hn:["enumerate","zip","dict_itemiterator","dict_reverseitemiterator","odict_iterator","itertools.zip_longest","itertools.pairwise"].contains n=false)(hQ:Q () s):wpAny M A (letOwnedTupleGo tg (.ref it) u) Q E s:=by
  unfold letOwnedTupleGo
  cases tg<;>first
    |exact wpAny_pure hQ
    |(cases u<;>first
        |exact wpAny_pure hQ
        | (refine wpAny_bind (wpAny_load ho ?_)
           rw[hc,hd]
           show wpAny M A (if(["enumerate","zip","dict_itemiterator","dict_reverseitemiterator","odict_iterator","itertools.zip_longest","itertools.pairwise"].contains n&&vs[0]? == some (rawInt _))=true then _ else _) Q E s
           rw[if_neg (by intro h;rw[hn,Bool.false_and]at h;cases h)]
           exact wpAny_pure hQ))
def VD (K:PySem.W.Frag)(a:Addr):It :=
 ⟨fun i H=>∃ xs x,dN K H a xs/\xs[i]? = some x,fun i H x H'=>H'=H/\∀ xs,dN K H a xs->xs[i]? = some x,fun i H=>∃ xs,dN K H a xs/\xs.length<=i⟩
def Ce (K:PySem.W.Frag)(a:Addr):It :=
 ⟨fun i H=>∃ xs x,eU K H a xs/\xs[i]? = some x,fun i H x H'=>H'=H/\∀ xs,eU K H a xs->xs[i]? = some x,fun i H=>∃ xs,eU K H a xs/\xs.length<=i⟩
def U0 (lo:Int)(n:Nat):It:=⟨fun i _=>i<n,fun i H x H'=>H'=H/\x=.int (lo+i),fun i _=>n<=i⟩
theorem P2 {P:Program}{w:World}{K:PySem.W.Frag}{tg:Expr}(a it:Addr):Turn P w K tg (VD K a) [it] it (fun i h=>h.IsListIter it a i) where
 mem:=by simp
 obj:=fun i h st b hb=>by
  have e:b=it:=by simpa using hb
  subst e
  obtain⟨o,e,c,d⟩:=st
  exact⟨o,e,fun v z=>by rw[d]at z;cases z⟩
 keep:=fun i h h' st k=>st.at fun o e=>k it (by simp) o e
 item:=by
  intro X hP hw hK hc i pins s σ H E I hf st hg
  subst hP hw hK
  obtain⟨xs,x,hq,hx⟩:=hg
  obtain⟨aD,rv,p,hz⟩:=I.list hq
  obtain⟨u,hu,ru⟩:=rv.get hx
  obtain⟨f0,f1,f2,f3,f4,f5⟩:=hf it (by simp)
  refine wpAny_pyNext_list_item st p.isList (x:=u) (by simpa using hu) fun h' aA sb=>?_
  have I1:Inv X pins σ H { s with heap:=h' }:=I.turned (t':=s.toks) (fun b o hb e=>(sb.2 b hb).trans e) f0 f1 f3 f4 f5
  obtain⟨o,e,c,d⟩:=id aA
  exact⟨u,rfl,CT (s:={ s with heap:=h' }) e c d (by decide) ⟨x,H,I1,ru,⟨rfl,fun ys hy=>by rw[I.sJ hy hq];exact hx⟩,aA,fun b hb=>(hf b hb).1⟩⟩
 done:=by
  intro X hP hw hK hc i pins s σ H E I hf st hg
  subst hP hw hK
  obtain⟨xs,hq,hx⟩:=hg
  obtain⟨aD,rv,p,hz⟩:=I.list hq
  obtain⟨f0,f1,f2,f3,f4,f5⟩:=hf it (by simp)
  have hl:=rv.length
  exact wpAny_pyNext_list_end (I.ok.hd hc) st p.isList (by simp;omega) fun h' eb=>⟨rfl,I.turned (t':=s.toks) (fun b o hb e=>eb b o hb e) f0 f1 f3 f4 f5⟩
 self:=fun _ _ _ _ _ st h=>wpAny_pyIter_listiter st h
theorem OC {P:Program}{w:World}{K:PySem.W.Frag}{tg:Expr}(a it:Addr):Turn P w K tg (Ce K a) [it] it (fun i h=>h.IsTupleIter it a i) where
 mem:=by simp
 obj:=fun i h st b hb=>by
  have e:b=it:=by simpa using hb
  subst e
  obtain⟨o,e,c,d⟩:=st
  exact⟨o,e,fun v z=>by rw[d]at z;cases z⟩
 keep:=fun i h h' st k=>st.at fun o e=>k it (by simp) o e
 item:=by
  intro X hP hw hK hc i pins s σ H E I hf st hg
  subst hP hw hK
  obtain⟨xs,x,hq,hx⟩:=hg
  obtain⟨aD,rv,p,hz⟩:=I.tuple hq
  obtain⟨u,hu,ru⟩:=rv.get hx
  obtain⟨f0,f1,f2,f3,f4,f5⟩:=hf it (by simp)
  refine wpAny_pyNext_tuple_item st (show s.heap.IsTuple a aD.toArray from p) (x:=u) (by simpa using hu) fun h' aA sb=>?_
  have I1:Inv X pins σ H { s with heap:=h' }:=I.turned (t':=s.toks) (fun b o hb e=>(sb.2 b hb).trans e) f0 f1 f3 f4 f5
  obtain⟨o,e,c,d⟩:=id aA
  exact⟨u,rfl,CT (s:={ s with heap:=h' }) e c d (by decide) ⟨x,H,I1,ru,⟨rfl,fun ys hy=>by rw[I.tH hy hq];exact hx⟩,aA,fun b hb=>(hf b hb).1⟩⟩
 done:=by
  intro X hP hw hK hc i pins s σ H E I hf st hg
  subst hP hw hK
  obtain⟨xs,hq,hx⟩:=hg
  obtain⟨aD,rv,p,hz⟩:=I.tuple hq
  obtain⟨f0,f1,f2,f3,f4,f5⟩:=hf it (by simp)
  have hl:=rv.length
  exact wpAny_pyNext_tuple_end (I.ok.hd hc) st (show s.heap.IsTuple a aD.toArray from p) (by simp;omega) fun h' eb=>⟨rfl,I.turned (t':=s.toks) (fun b o hb e=>eb b o hb e) f0 f1 f3 f4 f5⟩
 self:=fun _ _ _ _ _ st h=>wpAny_pyIter_tupleiter st h
theorem ON {P:Program}{w:World}{K:PySem.W.Frag}{tg:Expr}(it:Addr)(lo:Int)(n:Nat):Turn P w K tg (U0 lo n) [it] it (fun i h=>IsRangeIter h it (lo+(i:Nat)*1) ((n:Int)-(i:Nat)) 1) where
 mem:=by simp
 obj:=fun i h st b hb=>by
  have e:b=it:=by simpa using hb
  subst e
  exact⟨_,st,fun v z=>by
   have z':Data.fields _=Data.cell v:=z
   cases z'⟩
 keep:=fun i h h' st k=>k it (by simp) _ st
 item:=by
  intro X hP hw hK hc i pins s σ H E I hf st hg
  subst hP hw hK
  obtain⟨f0,f1,f2,f3,f4,f5⟩:=hf it (by simp)
  have W:=Walks.range (prog:=X.prog) (w:=X.w) (I.ok.hd hc) it lo 1 n
  refine W.item i s _ _ hg st fun v h' tk hv aA kk=>?_
  obtain⟨t,rfl⟩:=hv
  have I1:Inv X pins σ H { s with heap:=h',toks:=tk }:=I.turned (fun b o hb e=>kk b o (by simpa using hb) e) f0 f1 f3 f4 f5
  refine⟨_,rfl,CT (s:={ s with heap:=h',toks:=tk }) (n :="range_iterator") aA rfl rfl (by decide) ⟨.int (lo+i),H,I1,⟨t,?_⟩,⟨rfl,rfl⟩,aA,fun b hb=>(hf b hb).1⟩⟩
  rw[Int.mul_one]
 done:=by
  intro X hP hw hK hc i pins s σ H E I hf st hg
  subst hP hw hK
  obtain⟨f0,f1,f2,f3,f4,f5⟩:=hf it (by simp)
  exact wpAny_pyNext_range_end (I.ok.hd hc) st (by have:n<=i:=hg;omega) fun h' eb=>⟨rfl,I.turned (t':=s.toks) (fun b o hb e=>eb b o hb e) f0 f1 f3 f4 f5⟩
 self:=fun _ _ _ _ _ st h=>wpAny_pyIter_rangeiter st h
end L2
namespace L2
open PySem PySem.Spec PyProof.Rows
section
variable {X:Cx}{tg:Expr}
theorem SN {pins:List (Addr×Obj)}{σ:St}{H:Hp}{s:Shared}{R:It->Hp->Prop}{E:Value->Shared->Prop}{lo hi:Int}{t u v:Tok}{tk:Nat}(I:Inv X pins σ H s) (h1 : -(2 ^ 62)<=lo)(h2:lo<2 ^ 62) (h3 : -(2 ^ 62)<=hi)(h4:hi<2 ^ 62)
  (q:R (U0 lo (hi-lo).toNat) H):wpAny (model X.prog X.w) X.A (pyIter (.ref s.heap.objs.size)) (PY X pins σ tg R) E { s with heap:=s.heap.push { cls:=.type "range", data:=.fields #[.int lo t,.int hi u,.int 1 v] },toks:=tk }:=by
 refine wpAny_pyIter_range (IsRange.new ..) (small_one h1 h2 h3 h4) ?_
 have I1:Inv X pins σ H { s with heap:=s.heap.push { cls:=.type "range", data:=.fields #[.int lo t,.int hi u,.int 1 v] },toks:=tk }:=I.kept fun b o e=>Heap.get?_push_of_some _ e
 refine⟨(s.heap.push { cls:=.type "range", data:=.fields #[.int lo t,.int hi u,.int 1 v] }).objs.size,[(s.heap.push { cls:=.type "range", data:=.fields #[.int lo t,.int hi u,.int 1 v] }).objs.size],_,_,H,rfl,
  I1.kept (t':=tk) fun b o e=>Heap.get?_push_of_some _ e,ON _ lo (hi-lo).toNat,?_,fun b hb=>?_,q⟩
 ·have e1:lo+((0:Nat):Int)*1=lo:=by simp
  have e2:(((hi-lo).toNat:Nat):Int)-((0:Nat):Int)=Builtin.Range.rangeSize lo hi 1:=by rw[rangeSize_one];split<;>omega
  show IsRangeIter _ _ (lo+((0:Nat):Int)*1) ((((hi-lo).toNat:Nat):Int)-((0:Nat):Int)) 1
  rw[e1,e2]
  exact Heap.get?_push_size _ rfl
 ·have e:b=(s.heap.push { cls:=.type "range", data:=.fields #[.int lo t,.int hi u,.int 1 v] }).objs.size:=by simpa using hb
  subst e
  exact I1.JY (Nat.le_refl _) (I1.cG.fresh (Nat.le_refl _))
def Hw (ta:TA):TI:=fun σ H R=>ta σ H fun vs H1=>∃ j:Int,vs=[.int j]/\-(2 ^ 62)<=j/\j<2 ^ 62/\R (U0 0 j.toNat) H1
theorem RD {a:Expr}{ta:TA}{p pos:Pos}(hg:Gl X "range")(hm:X.mg "range" = none)(ha:PA X [a] ta)(hs:starEach [a] X.env=[(false,eval a X.env)]:=by rfl):PI X tg (.Call (.Name "range" p) [a] [] pos) (Hw ta):=by
 intro pins s σ H R I h
 refine Call_ (nO I hg hm boot_range (PyProof.Rows.callWith_type1 (bE (ha pos pins s σ H _ I h) fun us s1 ⟨vs,H1,I1,r1,q1⟩=>?_) hs rfl))
 obtain⟨j,e,q1,q2,q⟩:=q1
 subst e
 cases r1 with
 |cons r rr =>
 cases rr
 obtain⟨t,rfl⟩:=r
 exact call_range_1 (SN I1 (by omega) (by omega) q1 q2 (by simpa using q))
def Nd (wi:TI)(g:TG)(tb:TS):TS:=fun D σ H=>wi σ H fun J H1=>∃ W:Nat->Nat->St->Hp->Prop,(∃ m,W 0 m σ H1)/\∀ i m σ H,W i m σ H ->
 (J.stop i H/\D.nx σ H)∨(J.go i H/\∃ N:St->Hp->Prop,(∀ σ' H',N σ' H'->∃ m',m'<m/\W (i+1) m' σ' H')/\∀ x H',J.yld i H x H'->g x σ H' fun σ2 H2=>tb { D with nx:=N,ct:=N,bk:=D.nx } σ2 H2)
def AF (fp:List Addr)(h:Heap):List (Addr×Obj):=fp.filterMap fun b=>(h.get? b).map fun o=>(b,o)
theorem wQ {fp:List Addr}{h:Heap}{b:Addr}{o:Obj}(hb:b∈fp)(e:h.get? b=some o):(b,o)∈AF fp h:=List.mem_filterMap.mpr ⟨b,hb,by rw[e];rfl⟩
theorem PC {fp:List Addr}{h:Heap}{p:Addr×Obj}(hp:p∈AF fp h):p.1∈fp/\h.get? p.1=some p.2:=by
 obtain⟨b,hb,e⟩:=List.mem_filterMap.mp hp
 cases q:h.get? b with
 |none=>rw[q]at e;cases e
 |some o =>
 rw[q]at e
 have e':(b,o)=p:=Option.some.inj e
 subst e'
 exact⟨hb,q⟩
theorem Inv.pinned {pins:List (Addr×Obj)}{σ:St}{H:Hp}{s:Shared}{fp:List Addr}(I:Inv X pins σ H s)(hf:∀ b∈fp,nP X pins H b)(ho:∀ b∈fp,∃ o,s.heap.get? b=some o/\∀ v,o.data≠.cell v):Inv X (pins++AF fp s.heap) σ H s :=
 I.MZ fun p hp=>(List.mem_append.mp hp).elim (fun z=>I.pin p (List.mem_append_right _ z)) fun z=>by
 obtain⟨hb,e⟩:=PC z
 obtain⟨f0,f1,f2,_⟩:=hf p.1 hb
 obtain⟨o,e',d⟩:=ho p.1 hb
 rw[e]at e';cases e'
 exact⟨e,f0,f1,f2,d⟩
theorem Inv.wR {pins pl:List (Addr×Obj)}{σ:St}{H:Hp}{s:Shared}(I:Inv X (pins++pl) σ H s):Inv X pins σ H s:=I.MZ fun p hp=>I.pin p (List.mem_append_right _ (List.mem_append_left _ hp))
theorem Al {iter:Expr}{body:List Stmt}{wi:TI}{g:TG}{tb:TS}{pos:Pos}(hp:PassesOwn (model X.prog X.w) X.A X.env X.xe)(hc:X.calm=true)(hi:PI X tg iter wi)(hg:PG X tg g)(hb:lF X body tb)
  (hs:∀ x,foldedSetIterable iter X.env x=pure x:=by intro _;rfl):PS X (.For tg iter body [] pos) (Nd wi g tb):=by
 intro pins s σ H D I h
 refine wpAny_For (bE (hi pins s σ H _ I h) fun v s1 h1=>bE h1 fun itv s2 h2=>?_) hs
 obtain⟨it,fp,tn,J,H2,e,I2,T,aH,f2,W,⟨m0,w0⟩,turn⟩:=h2
 subst e
 have stat:∀{H':Hp},(∀ b∈fp,H' b=none)->∀ b∈fp,nP X pins H' b:=fun hn b hb=>⟨hn b hb,(f2 b hb).2⟩
 refine codeAny_forLoop_any (fun n s'=>∃ i σ' H',Inv X pins σ' H' s'/\tn i s'.heap/\(∀ b∈fp,H' b=none)/\W i n σ' H') ?_ m0 ⟨0,σ,H2,I2,aH,fun b hb=>(f2 b hb).1,w0⟩
 rintro n s3 ⟨i,σ3,H3,I3,aV,fr3,w3⟩
 rcases turn i n σ3 H3 w3 with⟨stop,qn⟩|⟨go,N,hN,step⟩
 ·refine wpAny_passesOwn hp (bE (T.done X rfl rfl rfl hc i pins s3 σ3 H3 X.xe I3 (stat fr3) aV stop) fun r s4 ⟨hr,I4⟩=>?_)
  subst hr
  exact wpAny_execs_nil ⟨σ3,H3,I4,qn⟩
 ·refine wpAny_passesOwn hp (bE (T.item X rfl rfl rfl hc i pins s3 σ3 H3 X.xe I3 (stat fr3) aV go) fun r s4 ⟨u,hr,h4⟩=>?_)
  subst hr
  refine wpAny_passesOwn hp (bE h4 fun _ s5 ⟨x,H5,I5,r5,y5,cR,fr5⟩=>?_)
  have I5':=I5.pinned (stat fr5) (T.obj _ _ cR)
  refine wpAny_passesOwn hp (bE (hg _ s5 σ3 H5 x u _ I5' r5 (step x H5 y5)) fun _ s6 ⟨σ6,H6,I6,q6⟩=>?_)
  refine wpAny_passesOwn hp (bE (hb _ s6 σ6 H6 _ I6 q6) fun f s7 q7=>?_)
  have again:∀{σ7:St}{H7:Hp},Inv X (pins++AF fp s5.heap) σ7 H7 s7->N σ7 H7->∃ m,m<n/\∃ i σ' H',Inv X pins σ' H' s7/\tn i s7.heap/\(∀ b∈fp,H' b=none)/\W i m σ' H':=fun{σ7 H7} I7 n7=>by
   obtain⟨m',hm,w7⟩:=hN σ7 H7 n7
   refine⟨m',hm,i+1,σ7,H7,I7.wR,T.keep _ _ _ cR fun b hb o e=>(I7.pin (b,o) (List.mem_append_right _ (List.mem_append_right _ (wQ hb e)))).1,fun b hb=>?_,w7⟩
   obtain⟨o,e,d⟩:=T.obj _ _ cR b hb
   exact(I7.pin (b,o) (List.mem_append_right _ (List.mem_append_right _ (wQ hb e)))).2.1
  cases f with
  |next=>obtain⟨σ7,H7,I7,n7⟩:=q7;exact again I7 n7
  |cont=>obtain⟨σ7,H7,I7,n7⟩:=q7;exact again I7 n7
  |brk=>obtain⟨σ7,H7,I7,q7⟩:=q7;exact⟨σ7,H7,I7.wR,q7⟩
  |ret v=>obtain⟨x7,σ7,H7,I7,r7,q7⟩:=q7;exact⟨x7,σ7,H7,I7.wR,r7,q7⟩
end
end L2
namespace L2
open PySem PySem.Spec PyProof.Rows
abbrev R2:=V->V->Hp->VK->Prop
def iJ (X:Cx)(f:Value->Value->Sem Value)(r:R2):Prop :=
 ∀(pins:List (Addr×Obj))(s:Shared)(σ:St)(H:Hp)(x y:V)(v u:Value)(Q:VK),Inv X pins σ H s->RelV x v->RelV y u->r x y H Q ->
 wpAny (model X.prog X.w) X.A (f v u) (EP X pins σ Q) X.xe s
def ZP (X:Cx)(f:Value->Sem Value)(r:V->Hp->VK->Prop):Prop :=
 ∀(pins:List (Addr×Obj))(s:Shared)(σ:St)(H:Hp)(x:V)(v:Value)(Q:VK),Inv X pins σ H s->RelV x v->r x H Q ->
 wpAny (model X.prog X.w) X.A (f v) (EP X pins σ Q) X.xe s
def nL (X:Cx)(f:Value)(r:List V->Hp->VK->Prop):Prop :=
 ∀(pins:List (Addr×Obj))(s:Shared)(σ:St)(H:Hp)(xs:List V)(us:List Value)(Q:VK),Inv X pins σ H s->aO xs us->r xs H Q ->
 wpAny (model X.prog X.w) X.A (call f us) (EP X pins σ Q) X.xe s
def My (X:Cx)(r:V->Hp->(Bool->Hp->Prop)->Prop):Prop :=
 ∀(pins:List (Addr×Obj))(s:Shared)(σ:St)(H:Hp)(x:V)(v:Value)(Q:Bool->Hp->Prop),Inv X pins σ H s->RelV x v->r x H Q ->
 wpAny (model X.prog X.w) X.A (truthy v) (TP X pins σ Q) X.xe s
def Z0 (r:R2)(ta tb:TE):TE:=fun σ H Q=>ta σ H fun x H1=>tb σ H1 fun y H2=>r x y H2 Q
def Om (r:V->Hp->VK->Prop)(ta:TE):TE:=fun σ H Q=>ta σ H fun x H1=>r x H1 Q
def rI (C:Int->Int->Prop)(g:Int->Int->V):R2:=fun x y H Q=>∃ i j,x=.int i/\y=.int j/\C i j/\Q (g i j) H
def JD (g:Int->Int->V):R2:=fun x y H Q=>∃ i j,x=.int i/\y=.int j/\Q (g i j) H
def rU (g:Int->V):V->Hp->VK->Prop:=fun x H Q=>∃ i,x=.int i/\Q (g i) H
section
variable {X:Cx}{a b c:Expr}{ta tb tc:TE}{pos:Pos}
theorem Bz (ha:PE X a ta)(hb:PE X b tb){pins:List (Addr×Obj)}{s:Shared}{σ:St}{H:Hp}{R:V->V->Hp->Prop}(I:Inv X pins σ H s)
 (h:ta σ H fun x H1=>tb σ H1 fun y H2=>R x y H2){Q:Value->Shared->Prop}{f:Value->Value->Sem Value}
 (hf:∀ v u s2 x y H2,Inv X pins σ H2 s2->RelV x v->RelV y u->R x y H2->wpAny (model X.prog X.w) X.A (f v u) Q X.xe s2):
 wpAny (model X.prog X.w) X.A (eval a X.env) (fun v s₁=>wpAny (model X.prog X.w) X.A (eval b X.env) (fun u s₂=>wpAny (model X.prog X.w) X.A (f v u) Q X.xe s₂) X.xe s₁) X.xe s:=by
 refine bE (ha pins s σ H _ I h) fun v s1 ⟨x,H1,I1,r1,q1⟩=>?_
 refine bE (hb pins s1 σ H1 _ I1 q1) fun u s2 ⟨y,H2,I2,r2,q2⟩=>?_
 exact hf v u s2 x y H2 I2 r1 r2 q2
theorem Jy {op:Operator}{r:R2}(ho:iJ X (binaryOp op) r)(ha:PE X a ta)(hb:PE X b tb):PE X (.BinOp a op b pos) (Z0 r ta tb):=by
 intro pins s σ H Q I h
 exact wpAny_BinOp (Bz ha hb I h fun v u s2 x y H2 I2 rx ry q=>ho pins s2 σ H2 x y v u Q I2 rx ry q)
theorem Je {op:UnaryOp}{r:V->Hp->VK->Prop}(ho:ZP X (unaryOp op) r)(ha:PE X a ta):PE X (.UnaryOp op a pos) (Om r ta):=by
 intro pins s σ H Q I h
 exact UnaryOp_ (bE (ha pins s σ H _ I h) fun v s1 ⟨x,H1,I1,r1,q1⟩=>ho pins s1 σ H1 x v Q I1 r1 q1)
theorem VI {f:Value->Value->Sem Value}{C:Int->Int->Prop}{g:Int->Int->Int}
 (rule:∀(i j:Int)(t u:Tok)(s:Shared)(Q:Value->Shared->Prop)(E:Value->Shared->Prop),C i j->Q (.int (g i j) s.toks) { s with toks:=s.toks+1 }->wpAny (model X.prog X.w) X.A (f (.int i t) (.int j u)) Q E s):
 iJ X f (rI C fun i j=>.int (g i j)):=by
 intro pins s σ H x y v u Q I rx ry h
 obtain⟨i,j,rfl,rfl,hc,q⟩:=h
 obtain⟨t,rfl⟩:=rx
 obtain⟨t',rfl⟩:=ry
 exact rule i j t t' s _ _ hc ⟨.int (g i j),H,I.tok _,⟨_,rfl⟩,q⟩
theorem Aw {f:Value->Value->Sem Value}{g:Int->Int->Int}
 (rule:∀(i j:Int)(t u:Tok)(s:Shared)(Q:Value->Shared->Prop)(E:Value->Shared->Prop),Q (.int (g i j) s.toks) { s with toks:=s.toks+1 }->wpAny (model X.prog X.w) X.A (f (.int i t) (.int j u)) Q E s):
 iJ X f (JD fun i j=>.int (g i j)):=by
 intro pins s σ H x y v u Q I rx ry h
 obtain⟨i,j,rfl,rfl,q⟩:=h
 obtain⟨t,rfl⟩:=rx
 obtain⟨t',rfl⟩:=ry
 exact rule i j t t' s _ _ ⟨.int (g i j),H,I.tok _,⟨_,rfl⟩,q⟩
def Dx (i j:Int):Prop:=0<j/\j<1073741824
def Ez (i j:Int):Prop:=0<=j/\j<=1000000/\i.natAbs<2 ^ 64
def N0 (i j:Int):Prop:=(-(2 ^ 64)<i/\i<2 ^ 64)∨(-(2 ^ 64)<j/\j<2 ^ 64)
theorem N0.ok {i j:Int}(h:N0 i j):IntMulOk i j:=by
 rcases h with⟨h1,h2⟩|⟨h1,h2⟩
 ·exact .of_left (intBits_le_64 h1 h2)
 ·exact .of_right (intBits_le_64 h1 h2)
theorem En:iJ X (binaryOp .Add) (JD fun i j=>.int (i+j)):=Aw fun _ _ _ _ _ _ _ q=>add_int q
theorem Av:iJ X (binaryOp .Sub) (JD fun i j=>.int (i-j)):=Aw fun _ _ _ _ _ _ _ q=>sub_int q
theorem Bl:iJ X (binaryOp .Mult) (rI N0 fun i j=>.int (i*j)):=VI fun _ _ _ _ _ _ _ hc q=>mul_int q hc.ok
theorem WV:iJ X (binaryOp .FloorDiv) (rI Dx fun i j=>.int (i / j)):=VI fun i j _ _ _ _ _ hc q=>by
 have h1:(0:Int)<j:=hc.1
 have h2:j<1073741824:=hc.2
 exact floordiv_int (by omega) (by rw[Int.fdiv_eq_ediv_of_nonneg i (by omega)];exact q) (.inl (PyProof.noPylong_small (by omega)))
theorem ZH:iJ X (binaryOp .Mod) (rI (fun _ j=>0<j) fun i j=>.int (i % j)):=VI fun i j _ _ _ _ _ hc q=>by
 have h1:(0:Int)<j:=hc
 exact mod_int' (by omega) (by rw[Int.fmod_eq_emod_of_nonneg i (by omega)];exact q)
theorem Ed:iJ X (binaryOp .Pow) (rI Ez fun i j=>.int (i ^ j.toNat)):=VI fun _ _ _ _ _ _ _ hc q=>pow_int_small hc.1 hc.2.1 hc.2.2 q
theorem Nu {f:Value->Sem Value}{g:Int->Int}
 (rule:∀(i:Int)(t:Tok)(s:Shared)(Q:Value->Shared->Prop)(E:Value->Shared->Prop),Q (.int (g i) s.toks) { s with toks:=s.toks+1 }->wpAny (model X.prog X.w) X.A (f (.int i t)) Q E s):
 ZP X f (rU fun i=>.int (g i)):=by
 intro pins s σ H x v Q I rx h
 obtain⟨i,rfl,q⟩:=h
 obtain⟨t,rfl⟩:=rx
 exact rule i t s _ _ ⟨.int (g i),H,I.tok _,⟨_,rfl⟩,q⟩
theorem Eh:ZP X (unaryOp .USub) (rU fun i=>.int (-i)):=Nu fun _ _ _ _ _ q=>neg_int q
end
section
variable {X:Cx}{a b c:Expr}{ta tb tc:TE}{pos:Pos}
theorem Eb {pins:List (Addr×Obj)}{σ:St}{H:Hp}{s:Shared}{Q:VK}{k k':Bool}(I:Inv X pins σ H s)(q:Q (.bl k) H)(e:k=k'):EP X pins σ Q (.bool k') s:=by
 subst e
 exact⟨.bl k,H,I,rfl,q⟩
theorem QJ:iJ X (compareOp .In) (fun x y H Q=>∃ i j,x=.str i/\y=.str j/\Q (.bl (!(Builtin.Str.occurrences j i 0 j.length 1).isEmpty)) H):=by
 intro pins s σ H x y v u Q I rx ry h
 obtain⟨i,j,rfl,rfl,q⟩:=h
 obtain⟨t,rfl⟩:=rx
 obtain⟨t',rfl⟩:=ry
 exact in_str (Eb I q rfl)
theorem iJ.or {f:Value->Value->Sem Value}{r r':R2}(h:iJ X f r)(h':iJ X f r'):iJ X f (fun x y H Q=>r x y H Q∨r' x y H Q):=by
 intro pins s σ H x y v u Q I rx ry q
 rcases q with q|q
 ·exact h pins s σ H x y v u Q I rx ry q
 ·exact h' pins s σ H x y v u Q I rx ry q
def TY (K:PySem.W.Frag)(x:V)(H:Hp)(k:Bool):Prop :=
 match x with
 |.non=>k=false
 |.bl b=>k=b
 |.int i=>k=(i != 0)
 |.str y=>y.length<=sizeLine/\k=((y.length:Int) != 0)
 |.byt y=>y.size<=sizeLine/\k=((y.size:Int) != 0)
 |.ref p=>(∃ xs,dN K H p xs/\k = !xs.isEmpty)∨(∃ xs,eU K H p xs/\k = !xs.isEmpty)∨∃ gJ,H p=some (.dK gJ)/\k = !gJ.isEmpty
 |_=>False
theorem OF {κ:Type}{gJ:List (κ×V)}{vs:List (κ×Value)}(r:KV gJ vs):(!vs.isEmpty) = !gJ.isEmpty:=by
 cases r<;>rfl
theorem D7 {xs:List V}{aD:List Value}(r:aO xs aD):(!aD.toArray.isEmpty) = !xs.isEmpty:=by
 cases r<;>simp
theorem rS:(sizeLine:Nat)<2 ^ 63:=by rw[sizeLine_eq];decide
theorem DP:My X (fun x H Q=>∃ k,TY X.K x H k/\Q k H):=by
 intro pins s σ H x v Q I rx h
 obtain⟨k,e,q⟩:=h
 have hl:=rS
 have hs:sizeLine=16777216:=sizeLine_eq
 cases x with
 |non =>
 cases rx
 have e':k=false:=e
 subst e'
 exact truthy_none ⟨H,I,q⟩
 |bl b =>
 cases rx
 have e':k=b:=e
 subst e'
 exact wpAny_truthy_bool ⟨H,I,q⟩
 |int i =>
 obtain⟨t,rfl⟩:=rx
 have e':k=(i != 0):=e
 subst e'
 exact PySem.P.truthy_int ⟨H,I,q⟩
 |str y =>
 obtain⟨t,rfl⟩:=rx
 obtain⟨hy,e'⟩:y.length<=sizeLine/\k=((y.length:Int) != 0):=e
 subst e'
 exact PySem.P.truthy_str (by omega) ⟨H,I.tok _,q⟩
 |byt y =>
 obtain⟨t,rfl⟩:=rx
 obtain⟨hy,e'⟩:y.size<=sizeLine/\k=((y.size:Int) != 0):=e
 subst e'
 exact PySem.W.truthy_bytes (by omega) ⟨H,I.tok _,q⟩
 |ref p =>
 cases rx
 have e':(∃ xs,dN X.K H p xs/\k = !xs.isEmpty)∨(∃ xs,eU X.K H p xs/\k = !xs.isEmpty)∨∃ gJ,H p=some (.dK gJ)/\k = !gJ.isEmpty:=e
 rcases e' with⟨xs,hx,e'⟩|⟨xs,hx,e'⟩|⟨gJ,hx,e'⟩
 ·subst e'
  obtain⟨aD,r,pl,hz⟩:=I.list hx
  have hlen:=r.length
  exact wpAny_truthy_list pl.isList (by simp only[List.size_toArray];omega) ⟨H,I.tok _,by rw[D7 r];exact q⟩
 ·subst e'
  obtain⟨aD,r,pl,hz⟩:=I.tuple hx
  have hlen:=r.length
  exact truthy_tuple pl (by simp only[List.size_toArray];omega) ⟨H,I.tok _,by rw[D7 r];exact q⟩
 ·subst e'
  obtain⟨hz,hS,vs,r,m⟩:gJ.length<=sizeLine/\(p==sysModules)=false/\∃ vs,KV gJ vs/\s.heap.DictOf (FI X.prog X.w) p vs:=I.cG p _ hx
  have hlen:gJ.length=vs.length:=Paired.length r
  exact wpAny_truthy_dict hS m (by omega) ⟨H,I.tok _,by rw[OF r];exact q⟩
 |_=>exact(show False from e).elim
theorem S1 (ha:PE X a ta)(he:∀ whole,isTrue a X.env whole=(do let v <-whole;standAt a.pos;holding [v] (truthy v))):
 PT X a (fun σ H Q=>ta σ H fun x H'=>∃ k,TY X.K x H' k/\Q k H'):=by
 intro pins s σ H Q I h
 exact isTrue_plain (bE (ha pins s σ H _ I h) fun v s1 ⟨x,H1,I1,r1,q1⟩=>DP pins s1 σ H1 x v Q I1 r1 q1) (he _)
theorem O1:iJ X (binaryOp .Add) (fun x y H Q=>∃ i j,x=.str i/\y=.str j/\i.length+j.length<=sizeLine/\Q (.str (i++j)) H):=by
 intro pins s σ H x y v u Q I rx ry h
 obtain⟨i,j,rfl,rfl,hz,q⟩:=h
 obtain⟨t,rfl⟩:=rx
 obtain⟨t',rfl⟩:=ry
 exact add_str (fun t' tk=>⟨.str (i++j),H,I.tok _,⟨_,rfl⟩,q⟩) hz
theorem vals1 {x:V}{us:List Value}(r:aO [x] us):∃ u,us=[u]/\RelV x u:=by
 cases r with
 |cons r1 r2=>cases r2;exact⟨_,rfl,r1⟩
def Df (K:PySem.W.Frag)(x:V)(H:Hp)(n:Nat):Prop :=
 match x with
 |.str y=>y.length<=sizeLine/\n=y.length
 |.byt y=>y.size<=sizeLine/\n=y.size
 |.ref p=>(∃ xs,dN K H p xs/\n=xs.length)∨∃ xs,eU K H p xs/\n=xs.length
 |_=>False
theorem UQ:nL X (.builtin "len") (fun xs H Q=>∃ x n,xs=[x]/\Df X.K x H n/\Q (.int n) H):=by
 intro pins s σ H xs us Q I r h
 obtain⟨x,n,rfl,e,q⟩:=h
 obtain⟨u,rfl,rx⟩:=vals1 r
 have hl:=rS
 have hs:sizeLine=16777216:=sizeLine_eq
 cases x with
 |str y =>
 obtain⟨t,rfl⟩:=rx
 obtain⟨hy,e'⟩:y.length<=sizeLine/\n=y.length:=e
 subst e'
 exact len_str (by omega) ⟨.int _,H,I.tok _,⟨_,rfl⟩,q⟩
 |byt y =>
 obtain⟨t,rfl⟩:=rx
 obtain⟨hy,e'⟩:y.size<=sizeLine/\n=y.size:=e
 subst e'
 exact PySem.W.len_bytes (by omega) ⟨.int _,H,I.tok _,⟨_,rfl⟩,q⟩
 |ref p =>
 cases rx
 have e':(∃ xs,dN X.K H p xs/\n=xs.length)∨∃ xs,eU X.K H p xs/\n=xs.length:=e
 rcases e' with⟨xs,hx,e'⟩|⟨xs,hx,e'⟩
 ·subst e'
  obtain⟨aD,r',pl,hz⟩:=I.list hx
  have hlen:=r'.length
  exact Calls.call_len_list pl.isList (by simp only[List.size_toArray];omega) ⟨.int xs.length,H,I.tok _,⟨_,by simp only[List.size_toArray];rw[hlen]⟩,q⟩
 ·subst e'
  obtain⟨aD,r',pl,hz⟩:=I.tuple hx
  have hlen:=r'.length
  exact len_tuple pl (by simp only[List.size_toArray];omega) ⟨.int xs.length,H,I.tok _,⟨_,by simp only[List.size_toArray];rw[hlen]⟩,q⟩
 |_=>exact(show False from e).elim
end
end L2
namespace L2
open PySem PySem.Spec PyProof.Rows
structure CQ (h:Heap)(x dx C:Addr)(mA:Str->Option Value):Prop where
 obj:h.get? x=some (PySem.W.instObj C dx)
 ns:h.Ns1 dx mA
 ne:dx≠x
theorem QC {h:Heap}{dx:Addr}{mA:Str->Option Value}(n:h.Ns1 dx mA):∃ od,h.get? dx=some od/\∀ name,PySem.W.lookIn name od=some (mA name):=by
 obtain⟨o,es,ep,ho,hd,hk,_,hm⟩:=n
 refine⟨o,ho,fun name=>?_⟩
 have e:=hm name
 unfold nsFind findBy at e
 rw[<-Array.find?_toList]at e
 unfold PySem.W.lookIn
 rw[hd]
 dsimp only
 split
 ·rename_i y q
  rw[q]at e
  exact congrArg some e
 ·rename_i q
  rw[q]at e
  have a:es.toList.any (·.refKey)=false:=by
   rw[List.any_eq_false]
   intro y hy
   obtain⟨z,t,hkey⟩:=hk y (Array.mem_toList_iff.mp hy)
   simp [DictEntry.refKey,hkey]
  have a':¬es.toList.any (·.refKey)=true:=by rw[a];exact Bool.false_ne_true
  rw[if_neg a']
  exact congrArg some e
theorem CQ.look {h:Heap}{x dx C:Addr}{mA:Str->Option Value}(I:CQ h x dx C mA):∃ od,PySem.W.InstAt h x (PySem.W.instObj C dx) C (some od)/\∀ name,PySem.W.lookIn name od=some (mA name) :=
 let⟨od,ho,hl⟩:=QC I.ns
 ⟨od,⟨I.obj,rfl,rfl,ho⟩,hl⟩
section
variable {prog:Program}{w:World}{A:Around}{E:Value->Shared->Prop}{s:Shared}{K:PySem.W.Frag}{x dx C f:Addr}{mA:Str->Option Value}{name:Str}{v:Value}
theorem get_map {expr:Bool}{Q:Value->Shared->Prop}(X:K.In s.heap)(I:CQ s.heap x dx C mA)(hg:PySem.W.plainGet K C name=true)(hh:PySem.W.hasDictIn K C=true)
 (ha:PySem.W.findIn K (.ref C) name=some none)(hv:mA name=some v)(hv':PySem.W.handedIn v=true)(h:Q v { s with toks:=s.toks+1 }):
 wpAny (model prog w) A (getAttr (.ref x) name expr) Q E s:=by
 obtain⟨od,J,hl⟩:=I.look
 exact PySem.W.get_value X J (PySem.W.plainGet_of hg).1 (PySem.W.findObj_own hh ha rfl (by rw[hl,hv])) hv' h
theorem R7 {pl:Sem Bool}{Q:Value×List Value->Shared->Prop}(X:K.In s.heap)(I:CQ s.heap x dx C mA)(hg:PySem.W.plainGet K C name=true)
 (hf:PySem.W.findIn K (.ref C) name=some (some (.ref f)))(ht:PySem.W.isFn K (.ref f)=true)(hv:mA name=none)(h:Q (.ref f,[.ref x]) s):
 wpAny (model prog w) A (getMethod (.ref x) name pl) Q E s:=by
 obtain⟨od,J,hl⟩:=I.look
 exact PySem.W.method_fn X J (PySem.W.plainGet_of hg).1 (PySem.W.plainGet_of hg).2 hf (beq_iff_eq.mp ht) (by show(PySem.W.lookIn name od).map (·.isSome)=some false;rw[hl,hv];rfl) h
theorem XN {ns:List Str}{Q:Unit->Shared->Prop}(X:K.In s.heap)(I:CQ s.heap x dx C mA)
 (hs:PySem.W.findIn K (.ref C) "__setattr__" = some (some (.builtin "object.__setattr__")))(hp:PySem.W.plainOver K C=true)(ht:PySem.W.takerIn K C name=some none)(hh:PySem.W.hasDictIn K C=true)
 (hw:PySem.Within mA ns)(jE:ns.length<=sizeLine)
 (h:∀ h',CQ h' x dx C (fun y=>if y=name then some v else mA y)->Heap.SameBut dx s.heap h'->Q () { s with heap:=h',toks:=s.toks+2 }):
 wpAny (model prog w) A (setAttr (.ref x) name v) Q E s:=by
 obtain⟨od,J,hl⟩:=I.look
 refine PySem.W.set_plain X J hs (PySem.W.osa_open (s:={ s with toks:=s.toks+1 }) (r:=none) X J hp ht fun b=>?_)
 obtain⟨cd,hc,hd'⟩:=PySem.W.any_some hh
 have hx:s.heap.get? x=some ⟨.ref C,some dx,.plain,#[]⟩:=I.obj
 refine wpAny_bind (wpAny_pure (wpAny_bind (wpAny_bind (wpAny_loadPart hx (wpAny_bind (PySem.W.Looks.here (s:={ s with toks:=s.toks+1 }) (PySem.W.looks_clsIn X hc) ?_))))))
 rw[hd']
 refine wpAny_pure (a:=some dx) (wpAny_bind (wpAny_pure (wpAny_bind ?_)))
 refine wpAny_nsSet1 (s:={ s with toks:=s.toks+1 }) I.ns fun h' hn2 hs2=>?_
 obtain⟨oD,esD,epD,hoD,hdD,hcD⟩:=hn2.count (PySem.Within.cons name v hw)
 refine wpAny_bind (wpAny_lookBehind hoD (by rw[hdD];exact pastItsLine_dict (Nat.le_trans hcD (by rw[List.length_cons];omega))) ?_)
 exact wpAny_pure (h _ ⟨(hs2.2 _ (Ne.symm I.ne)).trans I.obj,hn2,I.ne⟩ hs2)
theorem UA {R:Result->Shared->Prop}{vs:List Value}{kw:List (Str×Value)}(X:K.In s.heap)(hm:PySem.W.makesIn K C=true)
 (hi:PySem.W.findIn K (.ref C) "__init__" = some (some (.ref f)))(hf:PySem.W.typeIn K (.ref f)=some (.type "function"))
 (h:codeAny (model prog w) (A.under (.builtin "type.__call__" ⟨.ref C::vs,kw⟩)) (.call (.ref f) ⟨.ref (s.heap.objs.size+1)::vs,kw⟩) (PySem.W.InitBack (s.heap.objs.size+1) R)
  { s with heap:=(s.heap.push PySem.W.emptyDict).push (PySem.W.instObj C s.heap.objs.size) }):
 codeAny (model prog w) A (.call (.ref C) ⟨vs,kw⟩) R s:=by
 obtain⟨hh,g,d,t,os⟩:=s
 exact PySem.W.make_core (PySem.W.makes_of X hm) (PySem.W.looks_findIn X hi) (fun self=>PySem.W.bind_fn X self hf) (.inl rfl) h
end
def jA (f:Str)(v:V):List (Str×V)->List (Str×V)
 |[]=>[(f,v)]
 |(g,x)::r=>if g=f then(g,v)::r else(g,x)::jA f v r
theorem BA (f g:Str)(v:V):∀ fs:List (Str×V),(jA f v fs).lookup g=if g=f then some v else fs.lookup g
 |[]=>by
  show List.lookup g [(f,v)]=_
  by_cases h:g=f
  ·have hb:(g==f)=true:=beq_iff_eq.mpr h
   simp only[List.lookup,hb,if_pos h]
  ·have hb:(g==f)=false:=beq_eq_false_iff_ne.mpr h
   simp only[List.lookup,hb,if_neg h]
 |(k,x)::r=>by
  have ih:=BA f g v r
  rw[show jA f v ((k,x)::r)=(if k=f then(k,v)::r else(k,x)::jA f v r)from rfl]
  by_cases hk:k=f
  ·rw[if_pos hk]
   by_cases h:g=k
   ·have hb:(g==k)=true:=beq_iff_eq.mpr h
    simp only[List.lookup,hb,if_pos (h.trans hk)]
   ·have hb:(g==k)=false:=beq_eq_false_iff_ne.mpr h
    simp only[List.lookup,hb,if_neg (fun e:g=f=>h (e.trans hk.symm))]
  ·rw[if_neg hk]
   by_cases h:g=k
   ·have hb:(g==k)=true:=beq_iff_eq.mpr h
    simp only[List.lookup,hb,if_neg (fun e:g=f=>hk (h.symm.trans e))]
   ·have hb:(g==k)=false:=beq_eq_false_iff_ne.mpr h
    simp only[List.lookup,hb]
    exact ih
theorem yO (f:Str)(v:V):∀ fs:List (Str×V),f∈(jA f v fs).map (·.1)/\∀ g,g∈fs.map (·.1)->g∈(jA f v fs).map (·.1)
 |[]=>⟨by simp [jA],fun g h=>by simp at h⟩
 |(k,x)::r=>by
  obtain⟨i1,i2⟩:=yO f v r
  rw[show jA f v ((k,x)::r)=(if k=f then(k,v)::r else(k,x)::jA f v r)from rfl]
  by_cases hk:k=f
  ·rw[if_pos hk]
   subst hk
   exact⟨by simp,fun g h=>by simpa using h⟩
  ·rw[if_neg hk]
   refine⟨?_,fun g h=>?_⟩
   ·rw[List.map_cons]
    exact List.mem_cons_of_mem _ i1
   ·rw[List.map_cons]at h ⊢
    rcases List.mem_cons.mp h with e|e
    ·exact List.mem_cons.mpr (.inl e)
    ·exact List.mem_cons_of_mem _ (i2 g e)
theorem BF (f:Str)(v:V):∀ fs:List (Str×V),(jA f v fs).length<=fs.length+1
 |[]=>by simp [jA]
 |(k,x)::r=>by
  have ih:=BF f v r
  rw[show jA f v ((k,x)::r)=(if k=f then(k,v)::r else(k,x)::jA f v r)from rfl]
  by_cases hk:k=f
  ·rw[if_pos hk,List.length_cons,List.length_cons];omega
  ·rw[if_neg hk,List.length_cons,List.length_cons];omega
theorem uD.some_of {v:V}{o:Option Value}(r:uD (some v) o):∃ u,o=some u/\RelV v u:=by
 cases o with
 |none=>exact(show False from r).elim
 |some u=>exact⟨u,rfl,r⟩
theorem uD.none_of {o:Option Value}(r:uD none o):o=none:=by
 cases o with
 |none=>rfl
 |some u=>exact(show False from r).elim
theorem QR {v:V}{u:Value}(r:RelV v u):PySem.W.handedIn u=true:=by
 cases v with
 |non=>cases (show u=Value.none from r);rfl
 |bl b=>cases (show u=Value.bool b from r);rfl
 |int i=>obtain⟨t,e⟩:=(show ∃ t,u=Value.int i t from r);cases e;rfl
 |str x=>obtain⟨t,e⟩:=(show ∃ t,u=Value.str x t from r);cases e;rfl
 |byt b=>obtain⟨t,e⟩:=(show ∃ t,u=Value.bytes b t from r);cases e;rfl
 |flt b=>obtain⟨t,e⟩:=(show ∃ t,u=Value.float b t from r);cases e;rfl
 |ref a=>cases (show u=Value.ref a from r);rfl
 |ty n=>cases (show u=Value.type n from r);rfl
section
variable {P:Program}{w:World}{H H':Hp}{h h':Heap}{a C dx:Addr}{fs fs':List (Str×V)}
theorem EJ (cG:jD P w H h)(e:H a=some (.ins C dx fs)):∃ mA,CQ h a dx C mA/\(∀ f,uD (fs.lookup f) (mA f))/\PySem.Within mA (fs.map (·.1))/\fs.length<=1000/\H dx=some (.own a):=by
 obtain⟨d,z,ne,ob,mA,n,r,q⟩:=(show jR P w H h a (.ins C dx fs)from cG a _ e)
 exact⟨mA,⟨ob,n,ne⟩,r,q,z,d⟩
end
structure tF (K:PySem.W.Frag)(C:Addr):Prop where
 pg:PySem.W.plainGet K C Str.empty=true
 hd:PySem.W.hasDictIn K C=true
 po:PySem.W.plainOver K C=true
 sa:PySem.W.findIn K (.ref C) "__setattr__" = some (some (.builtin "object.__setattr__"))
theorem tF.get {K:PySem.W.Frag}{C:Addr}(c:tF K C)(f:Str):PySem.W.plainGet K C f=true:=c.pg
def rL (K:PySem.W.Frag)(C:Addr)(f:Str):Prop:=PySem.W.findIn K (.ref C) f=some none
theorem rL.Ib {K:PySem.W.Frag}{C:Addr}{f:Str}(n:rL K C f):PySem.W.takerIn K C f=some none:=by
 unfold PySem.W.takerIn
 rw[show PySem.W.findIn K (.ref C) f=some none from n]
 rfl
structure Ox (K:PySem.W.Frag)(C:Addr)(f:Str)(v:V)(u:Value):Prop where
 at_:PySem.W.findIn K (.ref C) f=some (some u)
 rel:RelV v u
 get:PySem.W.specialIn K u "__get__" = some none
 cp:PySem.W.copiedNames.contains f=false
structure FE (K:PySem.W.Frag)(C:Addr)(m:Str)(f:Addr):Prop where
 at_:PySem.W.findIn K (.ref C) m=some (some (.ref f))
 fn:PySem.W.isFn K (.ref f)=true
 kp:PySem.W.keepIn K (.ref f)=true
section
variable {X:Cx}{pins:List (Addr×Obj)}{σ:St}{H:Hp}{s:Shared}{a C dx:Addr}{fs:List (Str×V)}{f:Str}{v:V}{A:Around}{E:Value->Shared->Prop}
theorem OZ {b:Bool}{Q:Value->Shared->Prop}(I:Inv X pins σ H s)(e:H a=some (.ins C dx fs))(c:tF X.K C)(n:rL X.K C f)(l:fs.lookup f=some v)
 (h:∀ u s',Inv X pins σ H s'->RelV v u->Q u s'):wpAny (model X.prog X.w) A (getAttr (.ref a) f b) Q E s:=by
 obtain⟨mA,O,r,_,_,_⟩:=EJ I.cG e
 obtain⟨u,hu,ru⟩:=uD.some_of (v:=v) (o:=mA f) (by rw[<-l];exact r f)
 exact get_map I.jZ O (c.get f) c.hd n hu (QR ru) (h u _ (I.tok _) ru)
theorem DH {m:Str}{g:Addr}{pl:Sem Bool}{Q:Value×List Value->Shared->Prop}(I:Inv X pins σ H s)(e:H a=some (.ins C dx fs))(c:tF X.K C)(k:FE X.K C m g)(l:fs.lookup m=none)
 (h:Q (.ref g,[.ref a]) s):wpAny (model X.prog X.w) A (getMethod (.ref a) m pl) Q E s:=by
 obtain⟨mA,O,r,_,_,_⟩:=EJ I.cG e
 have hn:mA m=none:=uD.none_of (by rw[<-l];exact r m)
 exact R7 I.jZ O (c.get m) k.at_ k.fn hn h
theorem OP {y:V}{u:Value}{Q:Unit->Shared->Prop}(I:Inv X pins σ H s)(e:H a=some (.ins C dx fs))(c:tF X.K C)(n:rL X.K C f)(hl:fs.length<1000)(ry:RelV y u)
  (h:∀ s',Inv X pins σ (upd H a (.ins C dx (jA f y fs))) s'->Q () s'):wpAny (model X.prog X.w) A (setAttr (.ref a) f u) Q E s:=by
 obtain⟨mA,O,r,wi,_,ho⟩:=EJ I.cG e
 have hz:(fs.map (·.1)).length<=sizeLine:=by rw[List.length_map,sizeLine_eq];omega
 refine XN I.jZ O c.sa c.po n.Ib c.hd wi hz fun h' O' sb=>h _ ?_
 have hd:∃ o,h'.get? dx=some o:=let⟨o,_,_,e',_⟩:=O'.ns;⟨o,e'⟩
 refine I.write (x:=a) (e:=dx) (by rw[e];exact True.intro) (.inr ho) (fun b q hb z=>(sb.2 b hb).trans z) hd ?_
 refine⟨by rw[bZ O.ne];exact ho,?_,O.ne,O'.obj,_,O'.ns,fun g=>?_,fun g hg=>?_⟩
 ·have:=BF f y fs;omega
 ·show uD ((jA f y fs).lookup g) (if g=f then some u else mA g)
  rw[BA]
  by_cases q:g=f
  ·rw[if_pos q,if_pos q];exact ry
  ·rw[if_neg q,if_neg q];exact r g
 ·by_cases q:g=f
  ·rw[q];exact(yO f y fs).1
  ·refine(yO f y fs).2 g (wi g fun z=>hg ?_)
   show(if g=f then some u else mA g)=none
   rw[if_neg q];exact z
theorem Inv.made (I:Inv X pins σ H s):Inv X pins σ (upd (upd H s.heap.objs.size (.own (s.heap.objs.size+1))) (s.heap.objs.size+1) (.ins C s.heap.objs.size []))
  { s with heap:=(s.heap.push PySem.W.emptyDict).push (PySem.W.instObj C s.heap.objs.size) }:=by
 have e1:(s.heap.push PySem.W.emptyDict).get? s.heap.objs.size=some PySem.W.emptyDict:=Heap.get?_push_size s.heap rfl
 have e2:((s.heap.push PySem.W.emptyDict).push (PySem.W.instObj C s.heap.objs.size)).get? (s.heap.objs.size+1)=some (PySem.W.instObj C s.heap.objs.size):=by
  have:=Heap.get?_push_size (s.heap.push PySem.W.emptyDict) (o:=PySem.W.instObj C s.heap.objs.size) rfl
  rwa [Heap.size_push]at this
 have e3:(s.heap.push PySem.W.emptyDict).Ns s.heap.objs.size (fun _=>none):=⟨PySem.W.emptyDict,#[],_,e1,rfl,(fun e he=>absurd he (by simp)),fun _=>rfl⟩
 have I1:=I.laid (a:=s.heap.objs.size) (o:=.own (s.heap.objs.size+1)) (h':=s.heap.push PySem.W.emptyDict) (t':=s.toks) (fun b u q=>Heap.get?_push_of_some _ q) (Nat.le_refl _) ⟨_,e1⟩
 refine I1.laid (a:=s.heap.objs.size+1) (o:=.ins C s.heap.objs.size []) (t':=s.toks) (fun b u q=>Heap.get?_push_of_some _ q) (Nat.le_of_eq (Heap.size_push _ _)) ?_
 have ne:s.heap.objs.size≠s.heap.objs.size+1:=Nat.ne_of_lt (Nat.lt_succ_self _)
 refine⟨by rw[bZ ne,fO],Nat.zero_le _,ne,e2,fun _=>none,(Heap.Ns1.of_empty e3).at fun o q=>Heap.get?_push_of_some _ q,fun _=>True.intro,fun y hy=>absurd rfl hy⟩
theorem VX {prog:Program}{w:World}{env:Env}{e:Expr}{f:Str}{pos:Pos}{s:Shared}{Q:Value->Shared->Prop}(hb:attributeBase e f env (eval e env)=eval e env)
 (h:wpAny (model prog w) A (eval e env) (fun o s₁=>wpAny (model prog w) A (getAttr o f true) Q E s₁) E s):wpAny (model prog w) A (eval (.Attribute e f pos) env) Q E s :=
 Attribute_any_ h (by rw[arm_eval_Attribute,hb])
end
def Nb (K:PySem.W.Frag)(ta:TE)(f:Str):TE:=fun σ H Q=>ta σ H fun x H1=>∃ a C dx fs v,x=.ref a/\H1 a=some (.ins C dx fs)/\tF K C/\rL K C f/\fs.lookup f=some v/\Q v H1
def Md (K:PySem.W.Frag)(ta tv:TE)(f:Str):TS:=fun D σ H=>tv σ H fun y H1=>ta σ H1 fun x H2=>∃ a C dx fs,x=.ref a/\H2 a=some (.ins C dx fs)/\tF K C/\rL K C f/\fs.length<1000 /\
 D.nx σ (upd H2 a (.ins C dx (jA f y fs)))
section
variable {X:Cx}{o e value:Expr}{f:Str}{pos pos' tpos:Pos}{ta tv:TE}
theorem Cr (he:PE X e ta)(hb:attributeBase e f X.env (eval e X.env)=eval e X.env):PE X (.Attribute e f pos) (Nb X.K ta f):=by
 intro pins s σ H Q I h
 refine VX hb (bE (he pins s σ H _ I h) fun u s1 ⟨x,H1,I1,rx,a,C,dx,fs,v,ex,ea,c,n,l,q⟩=>?_)
 subst ex
 obtain rfl:u=Value.ref a:=rx
 exact OZ I1 ea c n l fun u' s2 I2 ru=>⟨v,H1,I2,ru,q⟩
theorem Be (ha:PE X o ta)(hv:PE X value tv)(hs:swapsWith value (some (.Attribute o f pos')) pos.line X.env=pure false):PS X (.Assign [.Attribute o f pos'] value pos) (Md X.K ta tv f):=by
 intro pins s σ H D I h
 refine plainObj_wpAny_Assign_Attribute (bE (hv pins s σ H _ I h) fun u s1 ⟨y,H1,I1,ry,q⟩=>bE (ha pins s1 σ H1 _ I1 q) fun ov s2 ⟨x,H2,I2,rx,a,C,dx,fs,ex,ea,c,n,l,q2⟩=>?_) hs
 subst ex
 obtain rfl:ov=Value.ref a:=rx
 exact OP I2 ea c n l ry fun s3 I3=>⟨σ,_,I3,q2⟩
theorem Fd {pl:Sem Bool}{m:Str}{apos:Pos}{args:List Expr}{pins:List (Addr×Obj)}{s:Shared}{σ:St}{H:Hp}{Q:Value->Shared->Prop}{te:TE}(he:PE X e te)(I:Inv X pins σ H s)
 (h:te σ H fun x H1=>∃ a C dx fs g,x=.ref a/\H1 a=some (.ins C dx fs)/\tF X.K C/\FE X.K C m g/\fs.lookup m=none /\
  ∀ s1,Inv X pins σ H1 s1->wpAny (model X.prog X.w) X.A (callWith pos (.ref g) [.ref a] (backTo pos (starEach args X.env)) (backToKw pos (keywordEach [] X.env))) Q X.xe s1)
 (ht:eval (.Call (.Attribute e m apos) args [] pos) X.env=(do
  let ov <-eval e X.env
  standAt apos.atName
  let(f,first) <-holding [ov] (getMethod ov m pl)
  callWith pos f first (backTo pos (starEach args X.env)) (backToKw pos (keywordEach [] X.env)))):
 wpAny (model X.prog X.w) X.A (eval (.Call (.Attribute e m apos) args [] pos) X.env) Q X.xe s:=by
 refine PySem.W.methodCall_KW (pl:=pl) (bE (he pins s σ H _ I h) fun u s1 ⟨x,H1,I1,rx,a,C,dx,fs,g,ex,ea,c,k,l,q⟩=>?_) ht
 subst ex
 obtain rfl:u=Value.ref a:=rx
 exact DH I1 ea c k l (q s1 I1)
end
section
variable {X:Cx}{pins:List (Addr×Obj)}{σ:St}{H:Hp}{s:Shared}{A:Around}{E:Value->Shared->Prop}{Q:Value->Shared->Prop}{c:Value}{b:Bool}
inductive rP (K:PySem.W.Frag)(H:Hp):V->Value->Prop where
 |non:rP K H .non (.type "NoneType")
 |bl (x:Bool):rP K H (.bl x) (.type "bool")
 |int (i:Int):rP K H (.int i) (.type "int")
 |str (x:Str):rP K H (.str x) (.type "str")
 |flt (x:UInt64):rP K H (.flt x) (.type "float")
 |lst {a:Addr}{xs:List V}(e:H a=some (.lst xs)):rP K H (.ref a) (.type "list")
 |frz {a:Addr}{o:Obj}{xs:List V}(e:H a=some (.frz o (.lst xs))):rP K H (.ref a) (.type "list")
 |tup {a:Addr}{xs:List V}(e:H a=some (.tup xs)):rP K H (.ref a) (.type "tuple")
 |dK {a:Addr}{gJ:List (Key×V)}(e:H a=some (.dK gJ)):rP K H (.ref a) (.type "dict")
 |dT {a:Addr}{gJ:List (List Key×V)}(e:H a=some (.dT gJ)):rP K H (.ref a) (.type "dict")
 |ins {a C dx:Addr}{fs:List (Str×V)}(e:H a=some (.ins C dx fs))(cl:tF K C)(ha:PySem.W.findIn K (.ref C) "__class__" = some (some (.builtin "object.__class__")))
  (hn:PySem.W.specialIn K (.builtin "object.__class__") "__get__" = some (some (.builtin "getset_descriptor.__get__")))(htk:PySem.W.takesIn K (.builtin "object.__class__")=some true)
  (hm:PySem.W.mroIn K C (.type "object")=some true):rP K H (.ref a) (.ref C)
end
end L2
namespace L2
open PySem PySem.Spec PyProof.Rows
structure dM (k:Nat)(A:Around):Prop where
 hd:A.handled=none
 dp:A.depth+3*k+5<recursionLimit
 un:A.units+16*k+200<cLine
theorem dM.mono {j k:Nat}{A:Around}(r:dM k A)(h:j<=k):dM j A:=⟨r.hd,by have:=r.dp;omega,by have:=r.un;omega⟩
theorem dM.deeper {k:Nat}{A:Around}(r:dM (k+1) A)(env:Env):dM k (A.deeper env) :=
 ⟨r.hd,by have:=r.dp;show A.depth+1+3*k+5<_;omega,by have:=r.un;show A.units+3+16*k+200<_;omega⟩
theorem OE {A:Around}{C:Addr}{us:List Value}{kw:List (Str×Value)}:(A.under (.builtin "type.__call__" ⟨.ref C::us,kw⟩)).depth=A.depth+1:=by
 first|rfl|simp [Around.under,Code.weight,Code.isCreation,Code.isGuard,Code.isCaller,Code.frames,Code.isFrame,guardIds]
theorem NV {A:Around}{C:Addr}{us:List Value}{kw:List (Str×Value)}:(A.under (.builtin "type.__call__" ⟨.ref C::us,kw⟩)).units=A.units+1:=by
 first|rfl|simp [Around.under,Code.cUnits,Code.frames,Code.isFrame]
theorem dM.make {k:Nat}{A:Around}(r:dM (k+1) A)(C:Addr)(us:List Value)(kw:List (Str×Value)):dM k (A.under (.builtin "type.__call__" ⟨.ref C::us,kw⟩)) :=
 ⟨r.hd,by have:=r.dp;rw[OE];omega,by have:=r.un;rw[NV];omega⟩
theorem dM.depth {k:Nat}{A:Around}(r:dM k A):A.depth<recursionLimit:=by have:=r.dp;omega
theorem dM.units {k:Nat}{A:Around}(r:dM k A):A.units+64<cLine:=by have:=r.un;omega
def Lr:TA:=fun _ H Q=>Q [] H
def Jp (ta:TE)(tr:TA):TA:=fun σ H Q=>ta σ H fun x H1=>tr σ H1 fun xs H2=>Q (x::xs) H2
section
variable {X:Cx}{e:Expr}{es:List Expr}{te:TE}{t:TA}{pos:Pos}
theorem PV:PA X [] Lr:=fun _ _ _ _ H Q I h=>Calls.spliced_nil ⟨[],H,I,.nil,h⟩
theorem EG (ha:PE X e te)(hr:PA X es t)(hs:starEach (e::es) X.env=(false,eval e X.env)::starEach es X.env:=by rfl):PA X (e::es) (Jp te t):=by
 intro pos pins s σ H Q I h
 rw[hs]
 show wpAny _ _ (spliced ((false,eval e X.env)::backTo pos (starEach es X.env))) _ _ s
 refine Calls.spliced_cons (bE (ha pins s σ H _ I h) fun u s1 ⟨x,H1,I1,r1,q1⟩=>?_)
 exact bE (hr pos pins s1 σ H1 _ I1 q1) fun us s2 ⟨xs,H2,I2,r2,q2⟩=>⟨x::xs,H2,I2,.cons r1 r2,q2⟩
def Nn (t:TA):TE:=fun σ H Q=>t σ H fun xs H1=>xs.length<=sizeLine/\∀ p,H1 p=none->Q (.ref p) (upd H1 p (.tup xs))
def Nh (t:TA):TE:=fun σ H Q=>t σ H fun xs H1=>xs.length<=sizeLine/\∀ p,H1 p=none->Q (.ref p) (upd H1 p (.lst xs))
theorem Dp {x1}(h:PA X es t):PE X (.Tuple es x1 pos) (Nn t):=by
 intro pins s σ H Q I hq
 refine wpAny_Tuple_spliced (bE (h pos pins s σ H _ I hq) fun us s1 ⟨xs,H1,I1,r,z,q⟩=>⟨by rw[<-r.length];exact z,?_⟩)
 have hf:H1 s1.heap.objs.size=none:=I1.cG.fresh (Nat.le_refl _)
 refine⟨.ref s1.heap.objs.size,upd H1 s1.heap.objs.size (.tup xs),I1.laid (t':=s1.toks) (fun b u e=>Heap.get?_push_of_some _ e) (Nat.le_refl _) ?_,rfl,q _ hf⟩
 exact⟨z,us,r,qK.new _ _⟩
theorem ZU (h:PA X es t):PE X (.List es pos) (Nh t):=by
 intro pins s σ H Q I hq
 refine wpAny_List_spliced (bE (h pos pins s σ H _ I hq) fun us s1 ⟨xs,H1,I1,r,z,q⟩=>⟨by rw[<-r.length];exact z,?_⟩)
 have hf:H1 s1.heap.objs.size=none:=I1.cG.fresh (Nat.le_refl _)
 refine⟨.ref s1.heap.objs.size,upd H1 s1.heap.objs.size (.lst xs),I1.laid (t':=s1.toks) (fun b u e=>Heap.get?_push_of_some _ e) (Nat.le_refl _) ?_,rfl,q _ hf⟩
 exact⟨z,us,0,r,Heap.get?_push_size _ rfl⟩
end
abbrev Sp:=List V->Hp->VK->XK->Prop
abbrev tR:=List Env->Hp->Shared->XK->Value->Shared->Prop
structure CO (P:Program)(w:World)(K:PySem.W.Frag)(mg:Str->Option Value)(base:Heap)(A:Around)(outer:List Env)(s:Shared)(H:Hp):Prop where
 frames:A.frames=some outer
 mod:Mod K mg base
 bs:∀ b o,base.get? b=some o->s.heap.get? b=some o/\H b=none
 bsz:base.objs.size<=s.heap.objs.size
 oO:s.heap.FunFrames base outer
 frf:∀ b∈yG outer,H b=none
 cG:jD P w H s.heap
 bare:AllBare s.gens
def CE (outer:List Env)(P:Program)(w:World)(H:Hp)(s:Shared)(Q:VK)(u:Value)(s':Shared):Prop :=
 ∃ v H',s'.os=s.os/\AllBare s'.gens/\Un (yG outer) [] H H' s.heap s'.heap/\jD P w H' s'.heap/\RelV v u/\Q v H'
def CR (CX:tR)(outer:List Env)(P:Program)(w:World)(H:Hp)(s:Shared)(Q:VK)(E:XK)(r:Result)(s':Shared):Prop :=
 match r with
 |.ok (.ret u)=>CE outer P w H s Q u s'
 |.ok _=>False
 |.error e=>CX outer H s E e s'
structure dR (P:Program)(w:World)(K:PySem.W.Frag)(mg:Str->Option Value)(base:Heap)(CX:tR)(k:Nat)(f:Addr)(fd:FuncData)(ps:List Str)(sp:Sp):Prop where
 len:∀ vs H Q E,sp vs H Q E->vs.length=ps.length
 run:∀(A:Around)(outer:List Env)(s:Shared)(H:Hp)(args:Args)(us:List Value)(vs:List V)(Q:VK)(E:XK),dM k A->CO P w K mg base A outer s H->BindsTo s fd args (ps.zip us)->aO vs us->sp vs H Q E ->
 codeAny (model P w) A (.call (.ref f) args) (CR CX outer P w H s Q E) s
theorem dR.mono {P:Program}{w:World}{K:PySem.W.Frag}{mg:Str->Option Value}{base:Heap}{CX:tR}{j k:Nat}{f:Addr}{fd:FuncData}{ps:List Str}{sp:Sp}(F:dR P w K mg base CX j f fd ps sp)(h:j<=k):
 dR P w K mg base CX k f fd ps sp:=⟨F.len,fun A outer s H args us vs Q E hr=>F.run A outer s H args us vs Q E (hr.mono h)⟩
theorem dR.imp {P:Program}{w:World}{K:PySem.W.Frag}{mg:Str->Option Value}{base:Heap}{CX:tR}{k:Nat}{f:Addr}{fd:FuncData}{ps:List Str}{sp sp':Sp}(F:dR P w K mg base CX k f fd ps sp)
 (h:∀ vs H Q E,sp' vs H Q E->sp vs H Q E):dR P w K mg base CX k f fd ps sp' :=
 ⟨fun vs H Q E q=>F.len vs H Q E (h _ _ _ _ q),fun A outer s H args us vs Q E hr he hb hv hs=>F.run A outer s H args us vs Q E hr he hb hv (h _ _ _ _ hs)⟩
theorem CO.make {P:Program}{w:World}{K:PySem.W.Frag}{mg:Str->Option Value}{base:Heap}{A:Around}{outer:List Env}{s:Shared}{H:Hp}(e:CO P w K mg base A outer s H)(C:Addr)(us:List Value)(kw:List (Str×Value)):
 CO P w K mg base (A.under (.builtin "type.__call__" ⟨.ref C::us,kw⟩)) outer s H:=⟨by first|exact e.frames|(simpa [Around.under,Code.envs,Code.isFrame,pushEnvs]using e.frames),e.mod,e.bs,e.bsz,e.oO,e.frf,e.cG,e.bare⟩
section
variable {X:Cx}{pins:List (Addr×Obj)}{σ:St}{H:Hp}{s s':Shared}
theorem Inv.ZS (I:Inv X pins σ H s):CO X.prog X.w X.K X.mg X.base X.A X.stack s H :=
 ⟨I.ok.frames,I.ok.mod,I.bs,Nat.le_trans I.ok.bsz I.sz,I.stack,I.MI,I.cG,I.bare⟩
theorem Inv.after {Q:VK}{u:Value}(I:Inv X pins σ H s)(h:CE X.stack X.prog X.w H s Q u s'):EP X pins σ Q u s':=by
 obtain⟨v,H',os,bare,un,cG,r,q⟩:=h
 obtain⟨hh,g,d,t,os'⟩:=s'
 obtain rfl:os'=s.os:=os
 exact⟨v,H',I.call (h':=hh) (g':=g) (d':=d) (t':=t) (ch:=[]) un cG bare (fun b z=>absurd z (by simp)),r,q⟩
end
def Iw (sp:Sp)(dvs:List V)(E:XK)(t:TA):TE:=fun σ H Q=>t σ H fun vs H1=>sp (vs++dvs) H1 Q E
def Ik (C:Addr)(m:Str)(sp:Sp)(dvs:List V)(E:XK)(ta:TE)(t:TA):TE:=fun σ H Q=>ta σ H fun x H1=>∃ a dx fs,x=.ref a/\H1 a=some (.ins C dx fs)/\fs.lookup m=none /\
 t σ H1 fun vs H2=>sp (x::(vs++dvs)) H2 Q E
def Jw (C:Addr)(sp:Sp)(dvs:List V)(E:XK)(t:TA):TE:=fun σ H Q=>t σ H fun vs H1=>∀ x dx,H1 x=none->H1 dx=none->dx≠x ->
 sp (.ref x::(vs++dvs)) (upd (upd H1 dx (.own x)) x (.ins C dx [])) (fun v H2=>v=.non/\Q (.ref x) H2) E
def Binds (K:PySem.W.Frag)(fd:FuncData)(ps:List Str)(ds:List Value):Prop :=
 ∀(s:Shared)(us:List Value),K.In s.heap->(us++ds).length=ps.length->BindsTo s fd ⟨us,[]⟩ (ps.zip (us++ds))
theorem Binds.all {K:PySem.W.Frag}{fd:FuncData}{ps:List Str}(h:∀ us:List Value,us.length=ps.length->bindArgs fd ⟨us,[]⟩=pure (ps.zip us)):Binds K fd ps []:=fun s us _ hl=>by
 rw[List.append_nil]at hl ⊢
 exact .of_eq (h us hl)
def sI (CX:tR)(X:Cx)(E:XK):Prop:=∀(pins:List (Addr×Obj))(σ:St)(H:Hp)(s:Shared)(e:Value)(s':Shared),Inv X pins σ H s->CX X.stack H s E e s'->X.xe e s'
section
variable {X:Cx}{CX:tR}{k:Nat}{f C:Addr}{fd:FuncData}{ps:List Str}{sp:Sp}{dvs:List V}{ds:List Value}{E:XK}{x m:Str}{p pos apos:Pos}{e o:Expr}{es:List Expr}{ta:TE}{t:TA}
theorem QA {pins:List (Addr×Obj)}{σ:St}{H:Hp}{s:Shared}{Q:VK}{us:List Value}{vs:List V}(F:dR X.prog X.w X.K X.mg X.base CX k f fd ps sp)(hr:dM k X.A)(hb:Binds X.K fd ps ds)(hd:aO dvs ds)(hx:sI CX X E)
 (I:Inv X pins σ H s)(r:aO vs us)(h:sp (vs++dvs) H Q E):wpAny (model X.prog X.w) X.A (call (.ref f) us) (EP X pins σ Q) X.xe s:=by
 have r2:aO (vs++dvs) (us++ds):=r.append hd
 have hl:(us++ds).length=ps.length:=by rw[<-r2.length];exact F.len _ _ _ _ h
 refine wpAny_call (codeAny_mono (F.run X.A X.stack s H ⟨us,[]⟩ (us++ds) (vs++dvs) Q E hr I.ZS (hb s us I.jZ hl) r2 h) fun r s' hq=>?_)
 cases r with
 |error e=>exact hx pins σ H s e s' I hq
 |ok fl =>
 cases fl with
 |ret u=>exact I.after hq
 |next=>exact False.elim hq
 |brk=>exact False.elim hq
 |cont=>exact False.elim hq
theorem XH (F:dR X.prog X.w X.K X.mg X.base CX k f fd ps sp)(hr:dM k X.A)(hg:Gl X x)(hm:X.mg x=some (.ref f))(hk:PySem.W.keepIn X.K (.ref f)=true)(hb:Binds X.K fd ps ds)(hd:aO dvs ds)(hx:sI CX X E)
 (ha:PA X (e::es) t)(hdb:(x==("__debug__" : Str))=false:=by decide)(he:starEach (e::es) X.env=(false,eval e X.env)::starEach es X.env:=by rfl)(dC:(backTo pos (starEach es X.env)).any (·.1)=false:=by rfl):
 PE X (.Call (.Name x p) (e::es) [] pos) (Iw sp dvs E t):=by
 intro pins s σ H Q I h
 refine wpAny_Call_Name_kw (EK I hg hm ?_ hdb)
 refine PySem.W.callWith_K (h₀:=X.base) I.ok.mod.kin hk (bE (ha pos pins s σ H _ I h) fun us s1 ⟨vs,H1,I1,r,q⟩=>⟨I1.jZ,?_⟩) he dC
 exact QA F hr hb hd hx I1 r q
theorem XY {pl:Sem Bool}(he:PE X o ta)(c:tF X.K C)(hm:FE X.K C m f)(F:dR X.prog X.w X.K X.mg X.base CX k f fd ps sp)(hr:dM k X.A)(hb:Binds X.K fd ps ds)(hd:aO dvs ds)(hx:sI CX X E)(ha:PA X (e::es) t)
 (fF:starEach (e::es) X.env=(false,eval e X.env)::starEach es X.env:=by rfl)(dC:(backTo pos (starEach es X.env)).any (·.1)=false:=by rfl)
 (ht:eval (.Call (.Attribute o m apos) (e::es) [] pos) X.env=(do
  let ov <-eval o X.env
  standAt apos.atName
  let(f,first) <-holding [ov] (getMethod ov m pl)
  callWith pos f first (backTo pos (starEach (e::es) X.env)) (backToKw pos (keywordEach [] X.env))):=by rfl):
 PE X (.Call (.Attribute o m apos) (e::es) [] pos) (Ik C m sp dvs E ta t):=by
 intro pins s σ H Q I h
 refine PySem.W.methodCall_KW (pl:=pl) (bE (he pins s σ H _ I h) fun u s1 ⟨x,H1,I1,rx,a,dx,fs,ex,ea,l,q⟩=>?_) ht
 subst ex
 obtain rfl:u=Value.ref a:=rx
 refine DH I1 ea c hm l ?_
 refine PySem.W.callWith_K (first:=[.ref a]) (h₀:=X.base) I.ok.mod.kin hm.kp (bE (ha pos pins s1 σ H1 _ I1 q) fun us s2 ⟨vs,H2,I2,r,q2⟩=>⟨I2.jZ,?_⟩) fF dC
 exact QA (us:=.ref a::us) (vs:=.ref a::vs) F hr hb hd hx I2 (.cons rfl r) q2
structure Mk (K:PySem.W.Frag)(C f:Addr):Prop where
 makes:PySem.W.makesIn K C=true
 init:PySem.W.findIn K (.ref C) "__init__" = some (some (.ref f))
 fn:PySem.W.isFn K (.ref f)=true
 kp:PySem.W.keepIn K (.ref C)=true
theorem UC {pins:List (Addr×Obj)}{σ:St}{H:Hp}{s:Shared}{Q:VK}{us:List Value}{vs:List V}(M:Mk X.K C f)(F:dR X.prog X.w X.K X.mg X.base CX k f fd ps sp)(hr:dM (k+1) X.A)(hb:Binds X.K fd ps ds)(hd:aO dvs ds)
  (hx:sI CX X E)(I:Inv X pins σ H s)(r:aO vs us)
  (h:∀ x dx,H x=none->H dx=none->dx≠x->sp (.ref x::(vs++dvs)) (upd (upd H dx (.own x)) x (.ins C dx [])) (fun v H2=>v=.non/\Q (.ref x) H2) E):
  wpAny (model X.prog X.w) X.A (call (.ref C) us) (EP X pins σ Q) X.xe s:=by
 have hq:=h (s.heap.objs.size+1) s.heap.objs.size (I.cG.fresh (Nat.le_succ _)) (I.cG.fresh (Nat.le_refl _)) (Nat.ne_of_lt (Nat.lt_succ_self _))
 have I2:=Inv.made (C:=C) I
 have r2:aO (V.ref (s.heap.objs.size+1)::(vs++dvs)) (Value.ref (s.heap.objs.size+1)::(us++ds)):=.cons rfl (r.append hd)
 have hl:(Value.ref (s.heap.objs.size+1)::us++ds).length=ps.length:=by
  have e:=r2.length
  rw[F.len _ _ _ _ hq]at e
  exact e.symm
 refine wpAny_call (UA (f:=f) I.jZ M.makes M.init (beq_iff_eq.mp M.fn) (codeAny_mono (F.run _ X.stack _ _ ⟨Value.ref (s.heap.objs.size+1)::us,[]⟩ (Value.ref (s.heap.objs.size+1)::(us++ds)) _ _ E (hr.make C us [])
  (I2.ZS.make C us []) (hb _ (Value.ref (s.heap.objs.size+1)::us) I2.jZ hl) r2 hq) fun r s' hq'=>?_))
 cases r with
 |error e=>exact hx pins σ _ _ e s' I2 hq'
 |ok fl =>
  cases fl with
  |ret u =>
   obtain⟨v,H',I3,rv,ev,q3⟩:=I2.after hq'
   subst ev
   exact⟨rv,⟨V.ref (s.heap.objs.size+1),H',I3,rfl,q3⟩⟩
  |next=>exact False.elim hq'
  |brk=>exact False.elim hq'
  |cont=>exact False.elim hq'
theorem X3 (M:Mk X.K C f)(F:dR X.prog X.w X.K X.mg X.base CX k f fd ps sp)(hr:dM (k+1) X.A)(hg:Gl X x)(hm:X.mg x=some (.ref C))(hb:Binds X.K fd ps ds)(hd:aO dvs ds)(hx:sI CX X E)
 (ha:PA X (e::es) t)(hdb:(x==("__debug__" : Str))=false:=by decide)(he:starEach (e::es) X.env=(false,eval e X.env)::starEach es X.env:=by rfl)(dC:(backTo pos (starEach es X.env)).any (·.1)=false:=by rfl):
 PE X (.Call (.Name x p) (e::es) [] pos) (Jw C sp dvs E t):=by
 intro pins s σ H Q I h
 refine wpAny_Call_Name_kw (EK I hg hm ?_ hdb)
 refine PySem.W.callWith_K (h₀:=X.base) I.ok.mod.kin M.kp (bE (ha pos pins s σ H _ I h) fun us s1 ⟨vs,H1,I1,r,q⟩=>⟨I1.jZ,?_⟩) he dC
 exact UC M F hr hb hd hx I1 r q
end
section
variable {X:Cx}{CX:tR}{k:Nat}{f C:Addr}{fd:FuncData}{ps ks:List Str}{sp:Sp}{E:XK}{x m:Str}{p pos apos kpos:Pos}{e o:Expr}{es:List Expr}{kws:List Keyword}{te ta:TE}{t tk:TA}{nm:Option Str}
structure Nr (K:PySem.W.Frag)(fd:FuncData)(ps ks:List Str)(g:List Value->List Value->List Value)(gV:List V->List V->List V):Prop where
 to:∀(s:Shared)(us ws:List Value),K.In s.heap->(g us ws).length=ps.length->BindsTo s fd ⟨us,ks.zip ws⟩ (ps.zip (g us ws))
 rel:∀{vs:List V}{us:List Value}{zs:List V}{ws:List Value},aO vs us->aO zs ws->aO (gV vs zs) (g us ws)
variable {g:List Value->List Value->List Value}{gV:List V->List V->List V}
end
structure vG (N P:List Str)(sc:Scope):Prop where
 kind:sc.kind=.function
 co:sc.isCoroutine=false
 gen:sc.isGenerator=false
 nd:N.Nodup
 pre:N.take P.length=P
 par:∀ x∈P,sc.names.lookup x=some .local∨sc.names.lookup x=some .cell
 nofree:∀ y∈sc.names,y.2≠.free
theorem HH {kindOf:Str->Option NameKind}{x:Str}:∀{binds:List (Str×Value)}{m:Str->Option Value},(∀ v,(x,v)∉binds)->bindL kindOf binds m x=m x
 |[],_,_=>rfl
 |(n,v)::r,m,h=>by
  unfold bindL
  rw[HH fun w hw=>h w (List.mem_cons_of_mem _ hw)]
  split
  ·have:x≠n:=by rintro rfl;exact h v List.mem_cons_self
   simp [this]
  ·rfl
theorem FP {kindOf:Str->Option NameKind}{x:Str}:∀{binds:List (Str×Value)}{m:Str->Option Value},(∀ v,(x,v)∉binds)->bindC kindOf binds m x=m x
 |[],_,_=>rfl
 |(n,v)::r,m,h=>by
  unfold bindC
  rw[FP fun w hw=>h w (List.mem_cons_of_mem _ hw)]
  split
  ·rfl
  ·have:x≠n:=by rintro rfl;exact h v List.mem_cons_self
   simp [this]
theorem FU {kindOf:Str->Option NameKind}{x:Str}{v:Value}:∀{P:List Str}{vs:List Value}{i:Nat}{m:Str->Option Value},P.Nodup->P[i]? = some x->vs[i]? = some v->kindOf x=some .local ->
  bindL kindOf (P.zip vs) m x=some v
 |[],_,_,_,_,h,_,_=>by simp at h
 |_::_,[],_,_,_,_,h,_=>by simp at h
 |p::P,w::vs,0,m,nd,h1,h2,hk=>by
  simp at h1 h2;subst h1;subst h2
  show bindL kindOf ((p,w)::P.zip vs) m p=_
  unfold bindL
  rw[HH fun v hv=>(List.nodup_cons.mp nd).1 (List.of_mem_zip hv).1,if_pos hk]
  simp
 |p::P,w::vs,i+1,m,nd,h1,h2,hk=>by
  show bindL kindOf ((p,w)::P.zip vs) m x=_
  unfold bindL
  exact FU (i:=i) (List.nodup_cons.mp nd).2 (by simpa using h1) (by simpa using h2) hk
theorem FO {kindOf:Str->Option NameKind}{x:Str}{v:Value}:∀{P:List Str}{vs:List Value}{i:Nat}{m:Str->Option Value},P.Nodup->P[i]? = some x->vs[i]? = some v->kindOf x≠some .local ->
  bindC kindOf (P.zip vs) m x=some v
 |[],_,_,_,_,h,_,_=>by simp at h
 |_::_,[],_,_,_,_,h,_=>by simp at h
 |p::P,w::vs,0,m,nd,h1,h2,hk=>by
  simp at h1 h2;subst h1;subst h2
  show bindC kindOf ((p,w)::P.zip vs) m p=_
  unfold bindC
  rw[FP fun v hv=>(List.nodup_cons.mp nd).1 (List.of_mem_zip hv).1,if_neg hk]
  simp
 |p::P,w::vs,i+1,m,nd,h1,h2,hk=>by
  show bindC kindOf ((p,w)::P.zip vs) m x=_
  unfold bindC
  exact FO (i:=i) (List.nodup_cons.mp nd).2 (by simpa using h1) (by simpa using h2) hk
def start (N:List Str)(vs:List V):St:=vs.map some++List.replicate (N.length-vs.length) none
def nU (CX:tR)(P:Program)(w:World)(K:PySem.W.Frag)(mg:Str->Option Value)(base:Heap)(N:List Str)(qual:Str)(scope:Scope)(f:Addr)(cd:Value)(A:Around)(outer:List Env)(s:Shared)(H:Hp)(E:XK):Cx where
 prog:=P
 w:=w
 K:=K
 mg:=mg
 base:=base
 A:=A.deeper (envOfC qual scope s.heap.objs.size f cd)
 N:=N
 s₀:=s
 H₀:=H
 env:=envOfC qual scope s.heap.objs.size f cd
 outer:=outer
 stack:=envOfC qual scope s.heap.objs.size f cd::outer
 ex:=[]
 calm:=true
 fn:=fun _=>true
 pn:=[]
 xe:=fun e s'=>wpAny (model P w) (A.deeper (envOfC qual scope s.heap.objs.size f cd)) (leaving (envOfC qual scope s.heap.objs.size f cd) e) (fun _ s''=>CX outer H s E e s'') (fun e' s''=>CX outer H s E e' s'') s'
theorem K8 {sc:Scope}{n:Nat}{x:Str}(h:sc.names.lookup x=some .cell):∃ c,(cellsFrom n sc.names []).lookup x=some c:=by
 have q:=PySem.W.cellsFrom_some sc.names n [] (.inl h)
 exact Option.isSome_iff_exists.mp q
theorem RE {CX:tR}{P:Program}{w:World}{K:PySem.W.Frag}{mg:Str->Option Value}{base:Heap}{N ps:List Str}{qual:Str}{scope:Scope}{f:Addr}{cd:Value}{A:Around}{outer:List Env}{s s1:Shared}{H:Hp}{E:XK}{us:List Value}{vs:List V}
  (S:vG N ps scope)(hd:A.handled=none)(e0:CO P w K mg base A outer s H)(hl:vs.length=ps.length)(r:aO vs us)
  (x:InCallC s s.heap.objs.size (bindL (envOfC qual scope s.heap.objs.size f cd).kindOf (ps.zip us) fun _=>none) (cellsFrom (s.heap.objs.size+1) scope.names []) (bindC (envOfC qual scope s.heap.objs.size f cd).kindOf (ps.zip us) fun _=>none) s1):
  Inv (nU CX P w K mg base N qual scope f cd A outer s H E) [] (start N vs) H s1:=by
 have dC:ps.length<=N.length:=by have:=congrArg List.length S.pre;rw[List.length_take]at this;omega
 obtain⟨h1,tk,rfl,hk⟩:=x.done
 have noA:∀ b:Addr,b∉(nU CX P w K mg base N qual scope f cd A outer s H E).ex:=fun b z=>absurd (show b∈([]:List Addr)from z) (by simp)
 refine⟨⟨e0.mod,S.kind,rfl,rfl,Nat.le_refl _,fun y z c h1 h2=>?_,fun y hy=>?_,fun y c _ h=>?_,fun _=>hd,Around.frames_deeper e0.frames,.inr ⟨rfl,rfl⟩,fun b z=>absurd z (noA b),e0.bs,e0.bsz,fun b _ _=>noA b,fun b z=>absurd z (noA b),e0.oO,e0.frf⟩,
  rfl,e0.bare,Un.kept hk,⟨_,x.toInCall.ns,fun i y v h1 h2 h3=>?_⟩,fun y c h=>⟨_,x.cell y c h⟩,e0.cG.fresh (Nat.le_refl _),fun y c h=>?_,fun p hp=>absurd (show p∈([]:List (Addr×Obj))from hp) (by simp),e0.cG.kept hk,?_⟩
 ·exact name_of_addr x.apart (PySem.mem_of_lookup h1) (PySem.mem_of_lookup h2)
 ·have hy:scope.names.lookup y=some .cell∨scope.names.lookup y=some .free:=hy
  rcases hy with hy|hy
  ·exact K8 hy
  ·exact absurd rfl (S.nofree _ (PySem.mem_of_lookup hy))
 ·exact Nat.le_of_lt (x.above y c (PySem.mem_of_lookup h))
 ·have hi:i<vs.length:=by
   unfold start at h2
   by_cases hi:i<vs.length
   ·exact hi
   ·rw[List.getElem?_append_right (by simpa using hi)]at h2
    rw[List.getElem?_replicate]at h2
    split at h2<;>cases h2
  have ha:vs[i]? = some v:=by
   unfold start at h2
   rw[List.getElem?_append_left (by simpa using hi),List.getElem?_map]at h2
   cases e:vs[i]? with
   |none=>rw[e]at h2;cases h2
   |some a=>rw[e]at h2;cases h2;rfl
  obtain⟨u,hu,rv⟩:=r.get ha
  have hp:ps[i]? = some y:=by
   rw[<-S.pre,List.getElem?_take_of_lt (by omega)];exact h1
  have ndP:ps.Nodup:=by rw[<-S.pre];exact S.nd.sublist (List.take_sublist _ _)
  refine⟨u,rv,?_⟩
  rcases S.par y (List.mem_of_getElem? hp)with k|k
  ·exact .inl ⟨k,FU ndP hp hu k⟩
  ·obtain⟨c,e⟩:=K8 (n:=s.heap.objs.size+1) k
   refine .inr ⟨.inl k,c,e,?_⟩
   have q:=x.cell y c e
   rw[FO ndP hp hu (by show scope.names.lookup y≠_;rw[k];decide)]at q
   exact q
 ·exact e0.cG.fresh (Nat.le_of_lt (x.above y c (PySem.mem_of_lookup h)))
 ·unfold start
  show _=N.length
  rw[List.length_append,List.length_map,List.length_replicate]
  omega
theorem Fx {CX:tR}{P:Program}{w:World}{K:PySem.W.Frag}{mg:Str->Option Value}{base:Heap}{k:Nat}{f:Addr}{name qual:Str}{params:Arguments}{body:List Stmt}{scope:Scope}{dV kV doc pm bL ct oc:Value}{an od:Option Addr}
  {osl:Array (Option Value)}{N ps:List Str}{sp:Sp}(lk:K.lookup f=some ⟨oc,od,.func (PySem.W.fnOf name qual params body scope dV kV doc pm an bL ct),osl⟩)(hcd:PySem.W.codeIn K bL qual=true)(S:vG N ps scope)
  (len:∀ vs H Q E,sp vs H Q E->vs.length=ps.length)
  (hbody:∀(A:Around)(outer:List Env)(s:Shared)(H:Hp)(vs:List V)(Q:VK)(E:XK),dM k (A.deeper (envOfC qual scope s.heap.objs.size f bL))->sp vs H Q E ->
   ∃ t,lF (nU CX P w K mg base N qual scope f bL A outer s H E) body t/\t { nx:=fun _ H'=>Q .non H',rt:=Q } (start N vs) H):
  dR P w K mg base CX (k+1) f (PySem.W.fnOf name qual params body scope dV kV doc pm an bL ct) ps sp:=by
 refine⟨len,fun A outer s H args us vs Q E hr e0 hb r hsp=>?_⟩
 have hl:=len _ _ _ _ hsp
 have KX:K.In s.heap:=e0.mod.kin.keeps fun b o e=>(e0.bs b o e).1
 have lim:s.heap.NoLimit:=e0.mod.nolimit.keeps fun b o e=>(e0.bs b o e).1
 have hkind:∀ y∈ps.zip us,scope.names.lookup y.1=some .local∨(scope.names.lookup y.1=some .cell/\((cellsFrom (s.heap.objs.size+1) scope.names []).lookup y.1).isSome=true):=fun⟨n,v⟩ hy=>by
  rcases S.par n (List.of_mem_zip hy).1 with q|q
  ·exact .inl q
  ·exact .inr ⟨q,PySem.W.cellsFrom_some _ _ _ (.inl q)⟩
 refine codeAny_call_function hr.depth (KX _ _ lk) rfl S.co S.gen rfl (PySem.W.codeRec_of KX hcd) (hb _ _ _ _ ?_)
 refine wpAny_newFunctionEnv_cells S.kind hkind fun env he s1 x=>?_
 subst he
 refine⟨lim.keeps x.toInCall.keep,codeAny_func ?_⟩
 obtain⟨t,ht,hq⟩:=hbody A outer s H vs Q E (hr.deeper _) hsp
 have I:Inv (nU CX P w K mg base N qual scope f bL A outer s H E) [] (start N vs) H s1:=RE S hr.hd e0 hl r x
 refine wpAny_mono (ht [] s1 (start N vs) H _ I hq) (fun fl s' hs=>?_) fun e s' hs=>hs
 have fin:∀{σ':St}{H':Hp}{v:V}{u:Value},Inv (nU CX P w K mg base N qual scope f bL A outer s H E) [] σ' H' s'->RelV v u->Q v H'->CE outer P w H s Q u s' :=
  fun{σ' H' v u} J rv q=>⟨v,H',J.os,J.bare,J.base,J.cG,rv,q⟩
 cases fl with
 |ret u =>
  obtain⟨v,σ',H',J,rv,q⟩:=hs
  exact fin J rv q
 |next =>
  obtain⟨σ',H',J,q⟩:=hs
  exact fin (v:=V.non) (u:=Value.none) J rfl q
 |brk =>
  obtain⟨_,_,_,q⟩:=hs
  exact False.elim q
 |cont =>
  obtain⟨_,_,_,q⟩:=hs
  exact False.elim q
end L2
namespace L2
open PySem PySem.Spec PyProof.Rows
section
variable {X:Cx}{x:Str}{p pos:Pos}{e:Expr}{es:List Expr}{t:TA}{id T:String}{r:List V->Hp->VK->Prop}
def As (r:List V->Hp->VK->Prop)(t:TA):TE:=fun σ H Q=>t σ H fun vs H1=>r vs H1 Q
theorem J9 (hc:nL X (.builtin id) r)(hg:Gl X x)(hm:X.mg x=none)(hv:bootBuiltins x=some (.builtin id))(ha:PA X (e::es) t)(hn:x ≠"__name__":=by decide)(hdb:(x==("__debug__" : Str))=false:=by decide)
 (he:starEach (e::es) X.env=(false,eval e X.env)::starEach es X.env:=by rfl)(dC:(backTo pos (starEach es X.env)).any (·.1)=false:=by rfl):PE X (.Call (.Name x p) (e::es) [] pos) (As r t):=by
 intro pins s σ H Q I h
 refine wpAny_Call_Name_kw (nO I hg hm hv ?_ hn hdb)
 exact PyProof.Rows.callWith_builtin1 (bE (ha pos pins s σ H _ I h) fun us s1 ⟨vs,H1,I1,r1,q1⟩=>hc pins s1 σ H1 vs us Q I1 r1 q1) he dC
theorem QS (hc:nL X (.type T) r)(hg:Gl X x)(hm:X.mg x=none)(hv:bootBuiltins x=some (.type T))(ha:PA X (e::es) t)(hn:x ≠"__name__":=by decide)(hdb:(x==("__debug__" : Str))=false:=by decide)
 (he:starEach (e::es) X.env=(false,eval e X.env)::starEach es X.env:=by rfl)(dC:(backTo pos (starEach es X.env)).any (·.1)=false:=by rfl):PE X (.Call (.Name x p) (e::es) [] pos) (As r t):=by
 intro pins s σ H Q I h
 refine wpAny_Call_Name_kw (nO I hg hm hv ?_ hn hdb)
 exact PyProof.Rows.callWith_type1 (bE (ha pos pins s σ H _ I h) fun us s1 ⟨vs,H1,I1,r1,q1⟩=>hc pins s1 σ H1 vs us Q I1 r1 q1) he dC
end
end L2
namespace HT
open PySem PyProof.Rows
section
variable {prog:Program}{w:World}{A:Around}{E:Value->Shared->Prop}{s:Shared}
theorem YU {t b:Addr}{vs ws:List Value}{Q:Value->Shared->Prop}(ht:IsTup s.heap t vs.toArray)(hb:IsTup s.heap b ws.toArray)(hv:vs≠[])
  (h1:ws=[]->Q (.ref t) s)(h2:ws≠[]->Q (.ref s.heap.objs.size) { s with heap:=s.heap.push { cls:=.type "tuple", data:=.seq (vs++ws).toArray } })
  (jE:vs.length+ws.length<=sizeLine):wpAny (model prog w) A (binaryOp .Add (.ref t) (.ref b)) Q E s:=by
 obtain⟨⟨cls,dd,data,sl⟩,ho,hc,n,hd⟩:=id ht
 obtain⟨⟨cls2,dd2,data2,sl2⟩,ho2,hc2,n2,hd2⟩:=id hb
 simp only at hc hd hc2 hd2
 subst hc hd hc2 hd2
 have e:vs.toArray++ws.toArray=(vs++ws).toArray:=by simp
 by_cases hw:ws=[]
 ·exact concat_meets ⟨_,ho,rfl⟩ ⟨_,ho2,rfl⟩ noFill_tuple_add seq_tuple_add PySem.F.slot_tuple_add PySem.F.entry_tuple_add (PySem.F.args_tuple_add_2 _ _)
   (tuple_addW1 t b vs.toArray ws.toArray n n2 dd dd2 sl sl2 (by simpa using hv) (by simp [hw])) ⟨ho,ho2,h1 hw⟩
 ·refine concat_meets ⟨_,ho,rfl⟩ ⟨_,ho2,rfl⟩ noFill_tuple_add seq_tuple_add PySem.F.slot_tuple_add PySem.F.entry_tuple_add (PySem.F.args_tuple_add_2 _ _)
   (tuple_addW2 t b vs.toArray ws.toArray n n2 dd dd2 sl sl2 (by simpa using hv) (by simpa using hw) (by rw[List.size_toArray,List.size_toArray];exact jE)) ⟨ho,ho2,?_⟩
  rw[e]
  exact h2 hw
def cF (n d:Nat):Option Int->Nat
 |none=>d
 |some v=>if v<0 then(v+(n:Int)).toNat else min v.toNat n
theorem Er (n d:Nat)(hd:d<=n)(o:Option Int):cF n d o<=n:=by
 cases o with
 |none=>exact hd
 |some v =>
 show(if v<0 then(v+(n:Int)).toNat else min v.toNat n)<=n
 by_cases hv:v<0
 ·rw[if_pos hv];omega
 ·rw[if_neg hv];exact Nat.min_le_right _ _
theorem MY (v:Int)(n d:Nat):(if v<0 then max (v+(n:Int)) 0 else min v (n:Int))=((cF n d (some v):Nat):Int):=by
 show(if v<0 then max (v+(n:Int)) 0 else min v (n:Int))=(((if v<0 then(v+(n:Int)).toNat else min v.toNat n):Nat):Int)
 by_cases hv:v<0
 ·simp only[if_pos hv];omega
 ·simp only[if_neg hv];omega
theorem O2 (lo hi:Option Int)(n:Nat):Builtin.Slice.sliceAdjust lo hi 1 (n:Int)=(((cF n 0 lo:Nat):Int),((cF n n hi:Nat):Int)):=by
 have h1:¬((1:Int)<0):=by omega
 unfold Builtin.Slice.sliceAdjust
 simp only[h1,if_false]
 refine Prod.ext ?_ ?_
 ·cases lo with
 |none=>rfl
 |some v=>exact MY v n 0
 ·cases hi with
 |none=>rfl
 |some v=>exact MY v n n
theorem NU (i j:Nat):Builtin.Slice.slicePlaces (i:Int) (j:Int) 1=j-i:=by
 unfold Builtin.Slice.slicePlaces
 have h1:(1:Int)>0:=by omega
 simp only[h1,if_true,Int.ediv_one]
 split<;>omega
theorem DE {v:Value}{o:Option Int}{Q:Option Int->Shared->Prop}(p:IsPart v o)(h:Q o s):wpAny (model prog w) A (Builtin.Slice.slicePartIndex v) Q E s:=by
 cases p with
 |none=>exact slicePart_none h
 |int i t=>exact slicePart_int h
theorem sR {sl:Addr}{vl vu:Value}{lo hi:Option Int}{n:Nat}{Q:Int×Int×Nat->Shared->Prop}(hs:s.heap.IsSliceOf sl vl vu .none)(pl:IsPart vl lo)(pu:IsPart vu hi)
 (h:Q (((cF n 0 lo:Nat):Int),1,cF n n hi-cF n 0 lo) s):wpAny (model prog w) A (Builtin.Slice.sliceApplied (.ref sl) (pure (n:Int))) Q E s:=by
 obtain⟨os,hos,hcs,hds⟩:=id hs
 unfold Builtin.Slice.sliceApplied Builtin.Slice.sliceFields
 refine wpAny_bind (wpAny_bind (wpAny_field hos hds (x:=vl) rfl (wpAny_bind (wpAny_field hos hds (x:=vu) rfl (wpAny_bind (wpAny_field hos hds (x:=.none) rfl (wpAny_pure ?_)))))))
 refine wpAny_bind (slicePart_none ?_)
 show wpAny _ _ (if((1:Int)==0)=true then _ else _) _ _ s
 rw[if_neg (by decide)]
 refine wpAny_bind (DE pl (wpAny_bind (DE pu (wpAny_bind (wpAny_pure ?_)))))
 show wpAny _ _ (match Builtin.Slice.sliceAdjust lo hi 1 (n:Int)with|(lo,hi)=>pure (lo,(1:Int),Builtin.Slice.slicePlaces lo hi 1)) _ _ s
 rw[O2 lo hi n]
 show wpAny _ _ (pure (((cF n 0 lo:Nat):Int),(1:Int),Builtin.Slice.slicePlaces ((cF n 0 lo:Nat):Int) ((cF n n hi:Nat):Int) 1)) _ _ s
 rw[NU]
 exact wpAny_pure h
theorem T5 (xs:Array Value)(i k:Nat):((List.range k).filterMap fun(m:Nat)=>xs[((i:Int)+(m:Int)*1).toNat]?).toArray=((xs.toList.drop i).take k).toArray:=by
 have e:(fun(m:Nat)=>xs[((i:Int)+(m:Int)*1).toNat]?)=fun m=>xs[i+m]?:=by
  funext m
  have:((i:Int)+(m:Int)*1).toNat=i+m:=by omega
  rw[this]
 rw[e]
 have:=pick_run xs i k
 rw[List.filterMap_map]at this
 have e2:((fun x=>xs[x]?)∘fun x=>i+x)=fun m=>xs[i+m]?:=rfl
 rw[e2]at this
 rw[this]
theorem A7 {t sl:Addr}{items:Array Value}{vl vu:Value}{lo hi:Option Int}{Q:Value->Shared->Prop}(ht:IsTup s.heap t items)(hs:s.heap.IsSliceOf sl vl vu .none)(pl:IsPart vl lo)(pu:IsPart vu hi)
  (hw:¬(cF items.size 0 lo=0/\cF items.size items.size hi=items.size))
  (h:Q (.ref s.heap.objs.size) { s with heap:=s.heap.push { cls:=.type "tuple", data:=.seq ((items.toList.drop (cF items.size 0 lo)).take (cF items.size items.size hi-cF items.size 0 lo)).toArray } })
  (jE:items.size<=sizeLine):wpAny (model prog w) A (getItem (.ref t) (.ref sl)) Q E s:=by
 have htake:sizeOk (.seq ((items.toList.drop (cF items.size 0 lo)).take (cF items.size items.size hi-cF items.size 0 lo)).toArray):=by
  show((items.toList.drop (cF items.size 0 lo)).take (cF items.size items.size hi-cF items.size 0 lo)).toArray.size<=sizeLine
  rw[List.size_toArray,List.length_take,List.length_drop,Array.length_toList]
  omega
 have hj:cF items.size items.size hi<=items.size:=Er _ _ (Nat.le_refl _) hi
 obtain⟨os,hos,hcs,hds⟩:=id hs
 have hTs:s.TypeIs (.ref sl) "slice":=⟨os,hos,hcs⟩
 unfold getItem
 try with_reducible refine wpAny_holding ?_
 first|refine wpAny_bind (wpAny_pure ?_)|skip
 refine wpAny_bind (wpAny_sequenceKey ht.typeIs (by decide) ?_)
 refine wpAny_bind (wpAny_callSpecial?_slot (name:=Str.ofString "__getitem__") ht.typeIs PyProof.Rows.slot_tuple_getitem
  (wpAny_call_entry PyProof.Rows.slot_tuple_getitem ht.typeIs entry_tuple_getitem ?_ (args_tuple_getitem _ _)))
 show wpAny _ _ (Builtin.Tuple.tupleItemsOf (.ref t) >>= _) _ _ s
 refine wpAny_bind (tupleItemsOf_ ht ?_)
 refine wpAny_bind (wpAny_typeOf hTs ?_)
 rw[if_pos (by decide)]
 refine wpAny_bind (sR hs pl pu ?_)
 have hno:¬((((cF items.size 0 lo:Nat):Int)==0&&(1:Int)==1&&(cF items.size items.size hi-cF items.size 0 lo)==items.size)=true):=by
  intro q
  rw[Bool.and_eq_true,Bool.and_eq_true]at q
  have q1:((cF items.size 0 lo:Nat):Int)=0:=eq_of_beq q.1.1
  have q2:cF items.size items.size hi-cF items.size 0 lo=items.size:=eq_of_beq q.2
  exact hw ⟨by omega,by omega⟩
 show wpAny _ _ (if(((cF items.size 0 lo:Nat):Int)==0&&(1:Int)==1&&(cF items.size items.size hi-cF items.size 0 lo)==items.size)=true then _ else _) _ _ s
 rw[if_neg hno,T5]
 first
  |exact wpAny_bind (m:=Builtin.Tuple.tupleExact _) (wpAny_newObj_type (wpAny_pure ⟨_,rfl,wpAny_pure h⟩) htake)
  |exact wpAny_bind (m:=Builtin.Tuple.tupleExact _) (wpAny_newObj_type (wpAny_bind (wpAny_pure (wpAny_pure ⟨_,rfl,wpAny_pure h⟩))) htake)
  |exact wpAny_bind (wpAny_bind (m:=Builtin.Tuple.tupleExact _) (wpAny_newObj_type (wpAny_pure (wpAny_pure ⟨_,rfl,wpAny_pure h⟩)) htake))
  |exact wpAny_bind (wpAny_bind (m:=Builtin.Tuple.tupleExact _) (wpAny_newObj_type (wpAny_pure ⟨_,rfl,wpAny_pure h⟩) htake))
end
end HT
namespace L2
open PySem PySem.Spec PyProof.Rows
abbrev TO:=St->Hp->(Option Int->Hp->Prop)->Prop
def PO (X:Cx)(e:Option Expr)(t:TO):Prop :=
 ∀(pins:List (Addr×Obj))(s:Shared)(σ:St)(H:Hp)(Q:Option Int->Hp->Prop),Inv X pins σ H s->t σ H Q ->
 wpAny (model X.prog X.w) X.A (evalPart e X.env) (fun u s'=>∃ o H',Inv X pins σ H' s'/\IsPart u o/\Q o H') X.xe s
def WB:TO:=fun _ H Q=>Q none H
def Ha (t:TE):TO:=fun σ H Q=>t σ H fun x H1=>∃ i,x=.int i/\Q (some i) H1
section
variable {X:Cx}{e:Expr}{te:TE}{lo hi:Option Expr}{tl th:TO}{pos p2:Pos}
theorem WQ:PO X none WB:=by
 intro pins s σ H Q I h
 rw[evalPart_none]
 exact wpAny_pure ⟨none,H,I,.none,h⟩
theorem WD (h:PE X e te):PO X (some e) (Ha te):=by
 intro pins s σ H Q I hw
 rw[evalPart_some]
 refine bE (h pins s σ H _ I hw) fun u s1 ⟨x,H1,I1,r1,q1⟩=>?_
 obtain⟨i,rfl,q⟩:=q1
 obtain⟨t,rfl⟩:=r1
 exact⟨some i,H1,I1,.int i t,q⟩
def yX (X:Cx)(r:V->Option Int->Option Int->Hp->VK->Prop):Prop :=
 ∀(pins:List (Addr×Obj))(s:Shared)(σ:St)(H:Hp)(x:V)(v vl vu:Value)(lo hi:Option Int)(sl:Addr)(Q:VK),Inv X pins σ H s->RelV x v->s.heap.IsSliceOf sl vl vu .none->IsPart vl lo->IsPart vu hi->r x lo hi H Q ->
 ∃ T id,typeLookup (.type T) "__getitem__" = pure (some (.builtin id))/\s.TypeIs v T/\wpAny (model X.prog X.w) X.A (getItem v (.ref sl)) (EP X pins σ Q) X.xe s
theorem yX.or {r r':V->Option Int->Option Int->Hp->VK->Prop}(h:yX X r)(h':yX X r'):yX X (fun x lo hi H Q=>r x lo hi H Q∨r' x lo hi H Q):=by
 intro pins s σ H x v vl vu lo hi sl Q I rx hs pl pu q
 rcases q with q|q
 ·exact h pins s σ H x v vl vu lo hi sl Q I rx hs pl pu q
 ·exact h' pins s σ H x v vl vu lo hi sl Q I rx hs pl pu q
def Ol (r:V->Option Int->Option Int->Hp->VK->Prop)(te:TE)(tl th:TO):TE:=fun σ H Q=>te σ H fun x H1=>tl σ H1 fun l H2=>th σ H2 fun u H3=>r x l u H3 Q
theorem UU {r:V->Option Int->Option Int->Hp->VK->Prop}(hr:yX X r)(he:PE X e te)(hl:PO X lo tl)(hu:PO X hi th):PE X (.Subscript e (.Slice lo hi none p2) pos) (Ol r te tl th):=by
 intro pins s σ H Q I h
 refine Subscript_ (bE (he pins s σ H _ I h) fun v s1 ⟨x,H1,I1,r1,q1⟩=>?_)
 refine wpAny_Slice (bE (hl pins s1 σ H1 _ I1 q1) fun vl s2 ⟨l,H2,I2,pl,q2⟩=>bE (hu pins s2 σ H2 _ I2 q2) fun vu s3 ⟨u,H3,I3,pu,q3⟩=>?_)
 rw[evalPart_none]
 refine wpAny_pure ?_
 have I4:Inv X pins σ H3 { s3 with heap:=s3.heap.push { cls:=.type "slice", data:=.fields #[vl,vu,.none] } }:=I3.kept (t':=s3.toks) fun b ob q=>Heap.get?_push_of_some _ q
 obtain⟨T,id,hT,ht,hg⟩:=hr pins { s3 with heap:=s3.heap.push { cls:=.type "slice", data:=.fields #[vl,vu,.none] } } σ H3 x v vl vu l u s3.heap.objs.size Q I4 r1 (Heap.IsSliceOf.new ..) pl pu q3
 show wpAny (model X.prog X.w) X.A (subscriptTail e (.Slice lo hi none p2) v (.ref s3.heap.objs.size)) (EP X pins σ Q) X.xe { s3 with heap:=s3.heap.push { cls:=.type "slice", data:=.fields #[vl,vu,.none] } }
 exact tail_any (ops:=[.ref s3.heap.objs.size,v]) ht hT hg (by with_unfolding_all rfl)
def E8 (xs:List V)(lo hi:Option Int):List V:=(xs.drop (HT.cF xs.length 0 lo)).take (HT.cF xs.length xs.length hi-HT.cF xs.length 0 lo)
theorem BY (xs:List V)(lo hi:Option Int):(E8 xs lo hi).length<=xs.length:=by
 unfold E8
 rw[List.length_take,List.length_drop]
 omega
def ZJ (K:PySem.W.Frag):V->Option Int->Option Int->Hp->VK->Prop:=fun x lo hi H Q=>∃ a xs,x=.ref a/\eU K H a xs /\
 ¬(HT.cF xs.length 0 lo=0/\HT.cF xs.length xs.length hi=xs.length)/\∀ p,H p=none->Q (.ref p) (upd H p (.tup (E8 xs lo hi)))
theorem LH:yX X (ZJ X.K):=by
 intro pins s σ H x v vl vu lo hi sl Q I rx hs pl pu h
 obtain⟨a,xs,rfl,hx,hw,q⟩:=h
 cases rx
 obtain⟨aD,r,ht,hz⟩:=I.tuple hx
 have hlen:aD.toArray.size=xs.length:=by rw[List.size_toArray];exact r.length.symm
 refine⟨"tuple", _,PyProof.Rows.slot_tuple_getitem.lookup,ht.typeIs,?_⟩
 refine HT.A7 ht hs pl pu (by rw[hlen];exact hw) ?_ (by rw[hlen];exact hz)
 rw[hlen]
 refine⟨.ref s.heap.objs.size,_,I.laid (t':=s.toks) (o:=.tup (E8 xs lo hi)) (fun b ob q=>Heap.get?_push_of_some _ q) (Nat.le_refl _) ?_,rfl,q _ (I.cG.fresh (Nat.le_refl _))⟩
 exact⟨Nat.le_trans (BY xs lo hi) hz,_,(r.drop (HT.cF xs.length 0 lo)).take (HT.cF xs.length xs.length hi-HT.cF xs.length 0 lo),qK.new _ _⟩
def VN (K:PySem.W.Frag):R2:=fun x y H Q=>∃ a b xs ys,x=.ref a/\y=.ref b/\eU K H a xs/\eU K H b ys/\xs≠[]/\xs.length+ys.length<=sizeLine /\
 (ys=[]->Q (.ref a) H)/\(ys≠[]->∀ p,H p=none->Q (.ref p) (upd H p (.tup (xs++ys))))
theorem aO.A4 {xs:List V}{us:List Value}(r:aO xs us):us=[]↔xs=[]:=by
 cases r with
 |nil=>simp
 |cons _ _=>simp
theorem WL:iJ X (binaryOp .Add) (VN X.K):=by
 intro pins s σ H x y v u Q I rx ry h
 obtain⟨a,b,xs,ys,rfl,rfl,ha,hb,hx,hz,q1,q2⟩:=h
 cases rx
 cases ry
 obtain⟨aD,r1,p1,_⟩:=I.tuple ha
 obtain⟨nZ,r2,p2,_⟩:=I.tuple hb
 refine HT.YU p1 p2 (fun z=>hx (r1.A4.mp z)) (fun z=>⟨.ref a,H,I,rfl,q1 (r2.A4.mp z)⟩) (fun z=>?_) (by rw[<-r1.length,<-r2.length];exact hz)
 refine⟨.ref s.heap.objs.size,_,I.laid (t':=s.toks) (o:=.tup (xs++ys)) (fun b ob q=>Heap.get?_push_of_some _ q) (Nat.le_refl _) ?_,rfl,q2 (fun w=>z (r2.A4.mpr w)) _ (I.cG.fresh (Nat.le_refl _))⟩
 exact⟨by rw[List.length_append];exact hz,_,r1.append r2,qK.new _ _⟩
end
end L2
namespace L2
open PySem PySem.Spec PyProof.Rows
def oC (n:Nat)(i:Int):Option Nat:=if 0<=i then(if i<n then some i.toNat else none)else if -(n:Int)<=i then some (i+n).toNat else none
def gC {α:Type}(xs:List α)(i:Int):Option α:=(oC xs.length i).bind fun j=>xs[j]?
theorem MR {n:Nat}{i:Int}{j:Nat}(h:oC n i=some j):seqIndex? i n=some j/\j<n/\-(n:Int)<=i/\i<n:=by
 unfold oC at h
 by_cases h0:0<=i
 ·rw[if_pos h0]at h
  by_cases h1:i<n
  ·rw[if_pos h1]at h
   have e:i.toNat=j:=Option.some.inj h
   exact⟨by rw[seqIndex_of h0 h1,e],by omega,by omega,h1⟩
  ·rw[if_neg h1]at h;cases h
 ·rw[if_neg h0]at h
  by_cases h1 : -(n:Int)<=i
  ·rw[if_pos h1]at h
   have e:(i+n).toNat=j:=Option.some.inj h
   exact⟨by rw[seqIndex_neg (by omega) h1,e],by omega,h1,by omega⟩
  ·rw[if_neg h1]at h;cases h
theorem FH {α:Type}{xs:List α}{i:Int}{v:α}(h:gC xs i=some v):∃ j,seqIndex? i xs.length=some j/\xs[j]? = some v/\j<xs.length/\-(xs.length:Int)<=i/\i<xs.length:=by
 unfold gC at h
 cases e:oC xs.length i with
 |none=>rw[e]at h;cases h
 |some j =>
 rw[e]at h
 obtain⟨h1,h2,h3,h4⟩:=MR e
 exact⟨j,h1,h,h2,h3,h4⟩
theorem dY {α:Type}{xs:List α}{j:Nat}{v:α}(h:xs[j]? = some v):gC xs (j:Int)=some v:=by
 have hj:j<xs.length:=(List.getElem?_eq_some_iff.mp h).1
 have e:oC xs.length (j:Int)=some j:=by
  unfold oC
  rw[if_pos (by omega),if_pos (by omega)];simp
 unfold gC;rw[e];exact h
def vM (b:Expr):Prop:=∀ o i,subscripted b false o i=operate [o,i] (getItem o i)
def xT (X:Cx)(r:R2):Prop :=
 ∀(value slice:Expr)(pins:List (Addr×Obj))(s:Shared)(σ:St)(H:Hp)(x y:V)(v u:Value)(Q:VK),Inv X pins σ H s->RelV x v->RelV y u->r x y H Q ->
 subscripted slice false v u=operate [v,u] (getItem v u)->wpAny (model X.prog X.w) X.A (subscriptTail value slice v u) (EP X pins σ Q) X.xe s
def GD (X:Cx)(id:String)(r:V->List V->Hp->VK->Prop):Prop :=
 ∀(pins:List (Addr×Obj))(s:Shared)(σ:St)(H:Hp)(x:V)(xs:List V)(v:Value)(us:List Value)(Q:VK),Inv X pins σ H s->RelV x v->aO xs us->r x xs H Q ->
 wpAny (model X.prog X.w) X.A (call (.builtin id) (v::us)) (EP X pins σ Q) X.xe s
section
variable {X:Cx}{a b:Expr}{ta tb:TE}{pos:Pos}
theorem xT.or {r r':R2}(h:xT X r)(h':xT X r'):xT X (fun x y H Q=>r x y H Q∨r' x y H Q):=by
 intro value slice pins s σ H x y v u Q I rx ry q hs
 rcases q with q|q
 ·exact h value slice pins s σ H x y v u Q I rx ry q hs
 ·exact h' value slice pins s σ H x y v u Q I rx ry q hs
theorem GD.or {id:String}{r r':V->List V->Hp->VK->Prop}(h:GD X id r)(h':GD X id r'):GD X id (fun x xs H Q=>r x xs H Q∨r' x xs H Q):=by
 intro pins s σ H x xs v us Q I rx rs q
 rcases q with q|q
 ·exact h pins s σ H x xs v us Q I rx rs q
 ·exact h' pins s σ H x xs v us Q I rx rs q
theorem U5 {r:R2}(hr:xT X r)(ha:PE X a ta)(hb:PE X b tb)(hs:vM b):PE X (.Subscript a b pos) (Z0 r ta tb):=by
 intro pins s σ H Q I h
 exact Subscript_ (Bz ha hb I h fun v u s2 x y H2 I2 rx ry q=>hr a b pins s2 σ H2 x y v u Q I2 rx ry q (hs _ _))
def Et (K:PySem.W.Frag):R2:=fun x y H Q=>∃ p xs i v,x=.ref p/\y=.int i/\dN K H p xs/\gC xs i=some v/\Q v H
def Eu (K:PySem.W.Frag):R2:=fun x y H Q=>∃ p xs i v,x=.ref p/\y=.int i/\eU K H p xs/\gC xs i=some v/\Q v H
def Dz:R2:=fun x y H Q=>∃ z i c,x=.str z/\y=.int i/\z.length<=sizeLine/\gC z.cps.toList i=some c/\Q (.str ⟨#[c]⟩) H
theorem YS:xT X (Et X.K):=by
 intro value slice pins s σ H x y v u Q I rx ry h hs
 obtain⟨p,xs,i,z,rfl,rfl,hq,he,q⟩:=h
 cases rx
 obtain⟨t,rfl⟩:=ry
 obtain⟨aD,r,pl,hz⟩:=I.list hq
 obtain⟨j,h1,h2,h3,h4,h5⟩:=FH he
 obtain⟨w,ew,rw'⟩:=r.get h2
 have hl:=r.length
 have hn:=rS
 have fin:EP X pins σ Q w s:=⟨z,H,I,rw',q⟩
 by_cases h0:0<=i
 ·have hj:i.toNat=j:=by
   rw[seqIndex_of h0 h5]at h1
   exact Option.some.inj h1
  exact item_listR pl.isList h0 (by omega) (by rw[hj];simpa using ew) fin hs
 ·have hj:(i+(aD.toArray.size:Int)).toNat=j:=by
   rw[seqIndex_neg (by omega) h4]at h1
   rw[List.size_toArray,<-hl]
   exact Option.some.inj h1
  exact subscriptTail_builtinR (x:=w) pl.isList.typeIs slot_list_getitem.lookup
   (wpAny_getItem_list_neg (Q:=fun r s'=>r=w/\EP X pins σ Q r s') pl.isList (by omega) (by rw[List.size_toArray]<;>omega) (by omega) (by rw[hj];simpa using ew) ⟨rfl,fin⟩) hs
theorem kS:xT X (Eu X.K):=by
 intro value slice pins s σ H x y v u Q I rx ry h hs
 obtain⟨p,xs,i,z,rfl,rfl,hq,he,q⟩:=h
 cases rx
 obtain⟨t,rfl⟩:=ry
 obtain⟨aD,r,pl,hz⟩:=I.tuple hq
 obtain⟨j,h1,h2,h3,h4,h5⟩:=FH he
 obtain⟨w,ew,rw'⟩:=r.get h2
 have hl:=r.length
 have hn:=rS
 have fin:EP X pins σ Q w s:=⟨z,H,I,rw',q⟩
 exact subscriptTail_builtinR (x:=w) pl.typeIs slot_tuple_getitem.lookup
  (getItem_tuple (j:=j) (Q:=fun r s'=>r=w/\EP X pins σ Q r s') pl (by omega) (by omega) (by rw[List.size_toArray,<-hl];exact h1) (by simpa using ew) ⟨rfl,fin⟩) hs
theorem IL:xT X Dz:=by
 intro value slice pins s σ H x y v u Q I rx ry h hs
 obtain⟨z,i,c,rfl,rfl,hz,he,q⟩:=h
 obtain⟨t,rfl⟩:=rx
 obtain⟨t',rfl⟩:=ry
 obtain⟨j,h1,h2,h3,h4,h5⟩:=FH he
 have hl:z.cps.toList.length=z.length:=by simp [Str.length]
 rw[hl]at h1 h4 h5
 have hn:=rS
 exact tail_any (typeIs_str s z t) slot_str_getitem.lookup (getItem_str (c:=c) (by
 have e1:decide (i < -(2 ^ 63:Int))=false:=decide_eq_false (by omega)
 have e2:decide (i ≥ 2 ^ 63)=false:=decide_eq_false (by omega)
 rw[e1,e2,Bool.or_false]) (by rw[h1];simpa using h2) ⟨.str ⟨#[c]⟩,H,I.tok _,⟨_,rfl⟩,q⟩) hs
def Ko (K:PySem.W.Frag):R2:=fun x y H Q=>Et K x y H Q∨Eu K x y H Q∨Dz x y H Q
theorem Y6:xT X (Ko X.K):=YS.or (kS.or IL)
theorem OX (aD:List Value)(n j:Nat)(u:Value):Obj.mapSeq (·.setIfInBounds j u) { cls:=.type "list", data:=.seq aD.toArray n } = { cls:=.type "list", data:=.seq (aD.set j u).toArray n }:=by
 simp [Obj.mapSeq]
theorem Inv.lst {pins:List (Addr×Obj)}{σ:St}{H:Hp}{s:Shared}{p:Addr}{xs:List V}(I:Inv X pins σ H s)(h:H p=some (.lst xs)):
 ∃(aD:List Value)(n:Nat),aO xs aD/\s.heap.get? p=some { cls:=.type "list", data:=.seq aD.toArray n }/\xs.length<=sizeLine:=by
 obtain⟨z,aD,n,r,e⟩:=I.cG p _ h
 exact⟨aD,n,r,e,z⟩
theorem Inv.Bc {pins:List (Addr×Obj)}{σ:St}{H:Hp}{s:Shared}{p:Addr}{xs ys:List V}{aD lP:List Value}{n n':Nat}{f:Obj->Obj}(I:Inv X pins σ H s)(h:H p=some (.lst xs))
  (ho:s.heap.get? p=some { cls:=.type "list", data:=.seq aD.toArray n })(hf:f { cls:=.type "list", data:=.seq aD.toArray n } = { cls:=.type "list", data:=.seq lP.toArray n' })(r:aO ys lP)(hz:ys.length<=sizeLine)(t:Nat):
  Inv X pins σ (upd H p (.lst ys)) { s with heap:=s.heap.update p f,toks:=t }:=by
 have e:(s.heap.update p f).get? p=some { cls:=.type "list", data:=.seq lP.toArray n' }:=by
  rw[Heap.get?_update_self f ho (by rw[hf]<;>rfl),hf]
 refine I.write (x:=p) (e:=p) (by rw[h];trivial) (.inl rfl) (fun b u hb q=>(Heap.get?_update_other _ _ (Ne.symm hb)).trans q) ⟨_,e⟩ ?_
 exact⟨hz,lP,n',r,e⟩
def Jb:V->V->V->Hp->(Hp->Prop)->Prop:=fun o i v H Q=>∃ p xs k j,o=.ref p/\i=.int k/\H p=some (.lst xs)/\oC xs.length k=some j/\Q (upd H p (.lst (xs.set j v)))
theorem set_list:Z2 X Jb:=by
 intro pins s σ H o i v ov iv u Q I ro ri rv h
 obtain⟨p,xs,k,j,rfl,rfl,hp,hj,q⟩:=h
 cases ro
 obtain⟨t,rfl⟩:=ri
 obtain⟨aD,n,r,ho,hz⟩:=I.lst hp
 obtain⟨h1,h2,h3,h4⟩:=MR hj
 have hl:=r.length
 have hn:=rS
 have I':Inv X pins σ (upd H p (.lst (xs.set j v))) { s with heap:=s.heap.update p (Obj.mapSeq (·.setIfInBounds j u)) } :=
  I.Bc hp ho (OX aD n j u) (r.set rv j) (by rw[List.length_set];exact hz) s.toks
 by_cases h0:0<=k
 ·have hk:k.toNat=j:=by
   rw[seqIndex_of h0 h4]at h1
   exact Option.some.inj h1
  exact PySem.W.ki_setAt ho h0 (by omega) (by rw[List.size_toArray,<-hl];exact h4) (by rw[hk];exact⟨_,I',q⟩)
 ·have hk:(k+(aD.toArray.size:Int)).toNat=j:=by
   rw[seqIndex_neg (by omega) h3]at h1
   rw[List.size_toArray,<-hl]
   exact Option.some.inj h1
  exact PySem.W.ki_setBack ho (by omega) (by rw[List.size_toArray,<-hl];exact h3) (by omega) (by rw[hk];exact⟨_,I',q⟩)
theorem HZ (lo hi:Option Int)(n:Nat):(sliceBounds lo hi none n).1=((HT.cF n 0 lo:Nat):Int)/\(sliceBounds lo hi none n).2.1=((HT.cF n n hi:Nat):Int)/\(sliceBounds lo hi none n).2.2=1:=by
 refine⟨?_,?_,rfl⟩
 ·cases lo with
 |none=>simp [sliceBounds,HT.cF]
 |some i =>
  simp only[sliceBounds,HT.cF,Option.getD_none,show(1:Int)>0 by decide,if_true]
  by_cases h:i<0
  ·simp only[h,if_true]<;>omega
  ·simp only[h,if_false]<;>omega
 ·cases hi with
 |none=>simp [sliceBounds,HT.cF]
 |some i =>
  simp only[sliceBounds,HT.cF,Option.getD_none,show(1:Int)>0 by decide,if_true]
  by_cases h:i<0
  ·simp only[h,if_true]<;>omega
  ·simp only[h,if_false]<;>omega
theorem HK (aD:List Value)(lo hi:Option Int):slicePick aD.toArray lo hi none=((aD.drop (HT.cF aD.length 0 lo)).take (HT.cF aD.length aD.length hi-HT.cF aD.length 0 lo)).toArray:=by
 obtain⟨h1,h2,h3⟩:=HZ lo hi aD.toArray.size
 unfold slicePick
 rw[h1,h2,h3]
 simp only[sliceRange_one,pick_run,List.size_toArray]<;>rfl
def Bm (K:PySem.W.Frag):V->Option Int->Option Int->Hp->VK->Prop:=fun x lo hi H Q=>∃ a xs,x=.ref a/\dN K H a xs/\∀ p,H p=none->Q (.ref p) (upd H p (.lst (E8 xs lo hi)))
theorem XT:yX X (Bm X.K):=by
 intro pins s σ H x v vl vu lo hi sl Q I rx hs pl pu h
 obtain⟨a,xs,rfl,hx,q⟩:=h
 cases rx
 obtain⟨aD,r,ht,hz⟩:=I.list hx
 have hlen:=r.length
 refine⟨"list", _,slot_list_getitem.lookup,ht.isList.typeIs,?_⟩
 refine wpAny_getItem_list_slice ht.isList hs pl pu .none (by simp) ?_ (by rw[List.size_toArray]<;>omega)
 rw[HK,<-hlen]
 refine⟨.ref s.heap.objs.size,_,I.laid (t':=s.toks) (o:=.lst (E8 xs lo hi)) (fun b ob q=>Heap.get?_push_of_some _ q) (Nat.le_refl _) ?_,rfl,q _ (I.cG.fresh (Nat.le_refl _))⟩
 exact⟨Nat.le_trans (BY xs lo hi) hz,_,0,(r.drop (HT.cF xs.length 0 lo)).take (HT.cF xs.length xs.length hi-HT.cF xs.length 0 lo),Heap.get?_push_size _ rfl⟩
theorem JV:iJ X (compareOp .NotIn) (fun x y H Q=>∃ i j,x=.str i/\y=.str j/\Q (.bl (!(!(Builtin.Str.occurrences j i 0 j.length 1).isEmpty))) H):=by
 intro pins s σ H x y v u Q I rx ry h
 obtain⟨i,j,rfl,rfl,q⟩:=h
 obtain⟨t,rfl⟩:=rx
 obtain⟨t',rfl⟩:=ry
 exact notIn_str ⟨.bl _,H,I,rfl,q⟩
theorem nL.or {f:Value}{r r':List V->Hp->VK->Prop}(h:nL X f r)(h':nL X f r'):nL X f (fun xs H Q=>r xs H Q∨r' xs H Q):=by
 intro pins s σ H xs us Q I rs q
 rcases q with q|q
 ·exact h pins s σ H xs us Q I rs q
 ·exact h' pins s σ H xs us Q I rs q
theorem IP:nL X (.type "list") (fun xs H Q=>∃ p ys,xs=[.ref p]/\(dN X.K H p ys∨eU X.K H p ys)/\∀ l,H l=none->Q (.ref l) (upd H l (.lst ys))):=by
 intro pins s σ H xs us Q I r h
 obtain⟨p,ys,rfl,hq,q⟩:=h
 obtain⟨u,rfl,rx⟩:=vals1 r
 cases rx
 have fin:∀(aD:List Value),aO ys aD->ys.length<=sizeLine->∀(h':Heap)(c':Nat),(∀ b o',s.heap.get? b=some o'->h'.get? b=some o') ->
   h'.get? s.heap.objs.size=some { cls:=.type "list", dict:=none,data:=.seq aD.toArray c',slots:=#[] }->EP X pins σ Q (.ref s.heap.objs.size) { s with heap:=h' }:=fun aD r' hz h' c' kp e =>
  ⟨.ref s.heap.objs.size,_,I.laid (t':=s.toks) kp (Nat.le_refl _) (show jR X.prog X.w _ h' _ (.lst ys)from⟨hz,aD,c',r',e⟩),rfl,q _ (I.cG.fresh (Nat.le_refl _))⟩
 rcases hq with hq|hq
 ·obtain⟨aD,r',pl,hz⟩:=I.list hq
  have hlen:=r'.length
  obtain⟨o,ho,hc,n,hd⟩:=pl.isList
  exact call_list_seq p (.inl rfl) ho hc hd (fun h' c' kp e=>fin aD r' hz h' c' kp e) (by simp only[List.size_toArray]<;>omega)
 ·obtain⟨aD,r',pl,hz⟩:=I.tuple hq
  have hlen:=r'.length
  obtain⟨o,ho,hc,n,hd⟩:=pl
  exact call_list_seq p (.inr rfl) ho hc hd (fun h' c' kp e=>fin aD r' hz h' c' kp e) (by simp only[List.size_toArray]<;>omega)
theorem yE:nL X (.type "tuple") (fun xs H Q=>∃ p ys,xs=[.ref p]/\((dN X.K H p ys/\∀ l,H l=none->Q (.ref l) (upd H l (.tup ys)))∨(eU X.K H p ys/\Q (.ref p) H))):=by
 intro pins s σ H xs us Q I r h
 obtain⟨p,ys,rfl,h⟩:=h
 obtain⟨u,rfl,rx⟩:=vals1 r
 cases rx
 rcases h with⟨hq,q⟩|⟨hq,q⟩
 ·obtain⟨aD,r',pl,hz⟩:=I.list hq
  have hlen:=r'.length
  refine call_tuple_list pl.isList (fun h' kp=>?_) (by simp only[List.size_toArray]<;>omega)
  have I1:Inv X pins σ H { s with heap:=h' }:=I.kept (t':=s.toks) kp
  have I2:Inv X pins σ (upd H h'.objs.size (.tup ys)) { s with heap:=h'.push { cls:=.type "tuple", data:=.seq aD.toArray } } :=
   I1.laid (t':=s.toks) (fun b o e=>Heap.get?_push_of_some _ e) (Nat.le_refl _) (show jR X.prog X.w _ _ _ (.tup ys)from⟨hz,aD,r',qK.new _ _⟩)
  exact⟨.ref h'.objs.size,_,I2,rfl,q _ (I1.cG.fresh (Nat.le_refl _))⟩
 ·obtain⟨aD,r',pl,hz⟩:=I.tuple hq
  exact call_tuple_same pl ⟨.ref p,H,I,rfl,q⟩
def QO (K:PySem.W.Frag)(T:String)(x:V)(H:Hp):Prop:=match x with
 |.str _=>T ="str"
 |.int _=>T ="int"
 |.ref p=>(T ="list" /\ ∃ xs,dN K H p xs)∨(T ="tuple" /\ ∃ o,K.lookup p=some o/\o.cls=.type "tuple" /\ o.dict=none) ∨
  (T ="dict" /\ ((∃ gJ,H p=some (.dK gJ))∨∃ gJ,H p=some (.dT gJ)))∨(T ="set" /\ ∃ S n,H p=some (.set S n))
 |_=>False
theorem QN {pins:List (Addr×Obj)}{σ:St}{H:Hp}{s:Shared}{T:String}{x:V}{v:Value}(I:Inv X pins σ H s)(r:RelV x v)(ty:QO X.K T x H):
  s.TypeIs v T/\∀ a,v=.ref a->∃ ob,s.heap.get? a=some ob/\ob.dict=none:=by
 cases x with
 |str z =>
  obtain⟨t,rfl⟩:=r
  cases (show T ="str" from ty)
  exact⟨typeIs_str s z t,fun _ e=>nomatch e⟩
 |int i =>
  obtain⟨t,rfl⟩:=r
  cases (show T ="int" from ty)
  exact⟨typeIs_int s i t,fun _ e=>nomatch e⟩
 |ref p =>
  cases r
  rcases ty with⟨rfl,xs,hq⟩|⟨rfl,o,hk,hc,hd⟩|⟨rfl,hk⟩|⟨rfl,S,n,hk⟩
  ·obtain⟨aD,_,pl,_⟩:=I.list hq
   refine⟨pl.isList.typeIs,fun a e=>?_⟩
   cases e
   obtain⟨o,n,e,c,hd,_⟩:=pl
   exact⟨o,e,hd⟩
  ·refine⟨⟨o,I.jZ p o hk,hc⟩,fun a e=>?_⟩
   cases e
   exact⟨o,I.jZ _ o hk,hd⟩
  ·have z:∃ o,s.heap.get? p=some o/\o.ExactDict:=by
    rcases hk with⟨gJ,hk⟩|⟨gJ,hk⟩
    ·obtain⟨_,_,_,_,o,_,_,e,ex,_⟩:=I.cG p _ hk
     exact⟨o,e,ex⟩
    ·obtain⟨_,_,_,_,o,_,_,e,ex,_⟩:=I.cG p _ hk
     exact⟨o,e,ex⟩
   obtain⟨o,e,ex⟩:=z
   refine⟨⟨o,e,ex.1⟩,fun a e2=>?_⟩
   cases e2
   exact⟨o,e,ex.2.1⟩
  ·obtain⟨o,_,_,_,e,ex,_⟩:=I.cG p _ hk
   refine⟨⟨o,e,ex.1⟩,fun a e2=>?_⟩
   cases e2
   exact⟨o,e,ex.2.1⟩
 |_=>exact False.elim ty
def Mp (K:PySem.W.Frag)(T:String)(r:V->List V->Hp->VK->Prop)(to:TE):TE:=fun σ H Q=>to σ H fun x H1=>QO K T x H1/\r x [] H1 Q
def Oh (K:PySem.W.Frag)(T:String)(r:V->List V->Hp->VK->Prop)(to:TE)(t:TA):TE:=fun σ H Q=>to σ H fun x H1=>QO K T x H1/\t σ H1 fun xs H2=>r x xs H2 Q
variable {o e:Expr}{es:List Expr}{to:TE}{t:TA}{name:Str}{apos kK:Pos}{T id:String}{r:V->List V->Hp->VK->Prop}
theorem Cz (pa:PlainAttrs T)(slot:Slot T name id)(hty:typeOf (.builtin id)=pure (.type "method_descriptor"))(hm:GD X id r)(ho:PE X o to)
 (jT:attributeBase o name X.env (eval o X.env)=eval o X.env:=by rfl)(jU:(apos.endLine==kK.line)=true:=by rfl):PE X (.Call (.Attribute o name apos) [] [] kK) (Mp X.K T r to):=by
 intro pins s σ H Q I h
 refine wpAny_Call_method0_late jT jU (bE (ho pins s σ H _ I h) fun v s1 ⟨x,H1,I1,r1,ty,q1⟩=>?_)
 obtain⟨h1,h2⟩:=QN I1 r1 ty
 exact⟨T,id,pa,slot,hty,h1,h2,Calls.callWith_builtin rfl (PySem.evalArgs_none (hm pins s1 σ H1 x [] v [] Q I1 r1 .nil q1))⟩
theorem Hm (pa:PlainAttrs T)(slot:Slot T name id)(hty:typeOf (.builtin id)=pure (.type "method_descriptor"))(hm:GD X id r)(ho:PE X o to)(ha:PA X (e::es) t)
 (jT:attributeBase o name X.env (eval o X.env)=eval o X.env:=by rfl)
 (sS:((backTo kK (starEach (e::es) X.env)).all (fun x=>!x.1)&&(backToKw kK (keywordEach [] X.env)).all (fun x=>x.1.isSome)
  && decide ((e::es).length+([]:List Keyword).length+(if([]:List Keyword).isEmpty then 0 else 1)<30))=true:=by rfl)
 (jU:(apos.endLine==kK.line)=true:=by rfl)(hs:starEach (e::es) X.env=(false,eval e X.env)::starEach es X.env:=by rfl)(sT:(backTo kK (starEach es X.env)).any (·.1)=false:=by rfl):
 PE X (.Call (.Attribute o name apos) (e::es) [] kK) (Oh X.K T r to t):=by
 intro pins s σ H Q I h
 refine wpAny_Call_method_late jT sS jU rfl (bE (ho pins s σ H _ I h) fun v s1 ⟨x,H1,I1,r1,ty,q1⟩=>?_)
 obtain⟨h1,h2⟩:=QN I1 r1 ty
 refine⟨T,id,pa,slot,hty,h1,h2,?_⟩
 have hA:=ha kK pins s1 σ H1 _ I1 q1
 rw[hs]at hA ⊢
 refine Calls.callWith_builtin (by show(false||(backTo kK (starEach es X.env)).any (·.1))=false;rw[sT]<;>rfl) (Calls.evalArgs_plain ?_)
 exact bE hA fun us s2 ⟨vs,H2,I2,r2,q2⟩=>hm pins s2 σ H2 x vs v us Q I2 r1 r2 q2
end
end L2
namespace L2
open PySem PySem.Spec PyProof.Rows
def Cs (X:Cx)(id:String)(r:V->List V->Hp->VK->Prop):Prop :=
 ∀(pins:List (Addr×Obj))(s:Shared)(σ:St)(H:Hp)(x:V)(xs:List V)(v:Value)(us:List Value)(Q:VK),Inv X pins σ H s->RelV x v->aO xs us->r x xs H Q ->
 wpAny (model X.prog X.w) X.A (call (.builtin id) (v::us)) (EP X pins σ Q) X.xe s
theorem aO.one:∀{x:V}{us:List Value},aO [x] us->∃ u,us=[u]/\RelV x u
 |_,_,.cons r .nil=>⟨_,rfl,r⟩
theorem aO.two:∀{x y:V}{us:List Value},aO [x,y] us->∃ u v,us=[u,v]/\RelV x u/\RelV y v
 |_,_,_,.cons r (.cons q .nil)=>⟨_,_,rfl,r,q⟩
theorem aO.zero:∀{us:List Value},aO [] us->us=[]
 |_,.nil=>rfl
theorem aO.dropLast {xs:List V}{us:List Value}(h:aO xs us):aO xs.dropLast us.dropLast:=by
 induction h with
 |nil=>exact .nil
 |cons r t ih =>
 cases t with
 |nil=>exact .nil
 |cons q t'=>exact .cons r ih
theorem aO.reverse {xs:List V}{us:List Value}(h:aO xs us):aO xs.reverse us.reverse:=by
 induction h with
 |nil=>exact .nil
 |cons r t ih=>rw[List.reverse_cons,List.reverse_cons];exact aO.append ih (.cons r .nil)
theorem aO.rep {xs:List V}{us:List Value}(h:aO xs us):∀ k:Nat,aO (List.replicate k xs).flatten (List.replicate k us).flatten
 |0=>.nil
 |k+1=>by
  rw[List.replicate_succ,List.replicate_succ,List.flatten_cons,List.flatten_cons]
  exact aO.append h (aO.rep h k)
theorem NX {α:Type}(l:List α):l.eraseIdx (l.length-1)=l.dropLast:=by
 induction l with
 |nil=>rfl
 |cons a r ih =>
  cases r with
  |nil=>rfl
  |cons b r =>
   have e:(a::b::r).length-1=((b::r).length-1)+1:=by
    have h1:(a::b::r).length=r.length+2:=rfl
    have h2:(b::r).length=r.length+1:=rfl
    omega
   rw[e,List.eraseIdx_cons_succ,ih]
   all_goals rfl
theorem foldl_rep (aD:List Value):∀(k:Nat)(acc:List Value),
  List.foldl (fun x1 x2=>x1++x2) acc.toArray (List.replicate k aD.toArray)=(acc++(List.replicate k aD).flatten).toArray
 |0,acc=>by simp
 |k+1,acc=>by
  have e:acc.toArray++aD.toArray=(acc++aD).toArray:=by simp
  have e2:(acc++aD)++(List.replicate k aD).flatten=acc++(List.replicate (k+1) aD).flatten:=by
   rw[List.replicate_succ,List.flatten_cons,List.append_assoc]
  rw[<-e2,<-foldl_rep aD k (acc++aD),<-e,List.replicate_succ,List.foldl_cons]
section
variable {X:Cx}{pins:List (Addr×Obj)}{σ:St}{H:Hp}{s:Shared}{l b:Addr}{xs ys zs:List V}
theorem Inv.OU {aD lP:List Value}{n:Nat}{f:Array Value->Array Value}{t':Nat}(I:Inv X pins σ H s)(hH:H l=some (.lst xs))
 (e:s.heap.get? l=some { cls:=.type "list", data:=.seq aD.toArray n })(hf:f aD.toArray=lP.toArray)(hv:aO ys lP)(hz:ys.length<=sizeLine):
 Inv X pins σ (upd H l (.lst ys)) { s with heap:=s.heap.update l (Obj.mapSeq f),toks:=t' }:=by
 have q:=PySem.IsL.update e f
 rw[hf]at q
 refine I.write (x:=l) (e:=l) (by rw[hH];exact trivial) (.inl rfl) (fun b' u hb hu=>(Heap.get?_update_other s.heap (Obj.mapSeq f) (Ne.symm hb)).trans hu) ⟨_,q⟩ ?_
 exact⟨hz,lP,_,hv,q⟩
theorem Inv.S6 {aD:List Value}{t':Nat}(I:Inv X pins σ H s)(hv:aO ys aD)(hz:ys.length<=sizeLine):
 Inv X pins σ (upd H s.heap.objs.size (.lst ys)) { s with heap:=s.heap.push { cls:=.type "list", data:=.seq aD.toArray },toks:=t' } :=
 I.laid (fun _ _ q=>Heap.get?_push_of_some _ q) (Nat.le_refl _) ⟨hz,aD,0,hv,Heap.get?_push_size _ rfl⟩
theorem Inv.fresh (I:Inv X pins σ H s):H s.heap.objs.size=none:=I.cG.fresh (Nat.le_refl _)
theorem Inv.vZ (I:Inv X pins σ H s)(hH:H l=some (.lst xs)):xs.length<=sizeLine/\∃(aD:List Value)(n:Nat),aO xs aD/\xs.length=aD.length/\s.heap.get? l=some { cls:=.type "list", data:=.seq aD.toArray n }:=by
 obtain⟨z,aD,n,r,e⟩:=I.cG l _ hH
 exact⟨z,aD,n,r,r.length,e⟩
theorem B6 {n:Nat}(h:n<=sizeLine):Builtin.List.listTooLong n=false:=by
 unfold Builtin.List.listTooLong
 exact decide_eq_false (by omega)
end
section
variable {X:Cx}
def YO:V->List V->Hp->VK->Prop:=fun x vs H Q=>∃ l xs y,x=.ref l/\vs=[y]/\H l=some (.lst xs)/\xs.length<sizeLine/\Q .non (upd H l (.lst (xs++[y])))
theorem tX:Cs X "list.append" YO:=by
 intro pins s σ H x vs v us Q I rx rv h
 obtain⟨l,xs,y,rfl,rfl,hH,hz,q⟩:=h
 cases rx
 obtain⟨u,rfl,ru⟩:=rv.one
 obtain⟨z,aD,n,r,hl,e⟩:=I.vZ hH
 refine call_meets F.slot_list_append ⟨_,e,rfl⟩ F.entry_list_append (F.args_list_append_2 _ _) (PySem.list_append l aD.toArray n u (by rw[List.size_toArray];omega)) ⟨e,?_⟩
 refine⟨.non,_,I.OU (lP:=aD++[u]) hH e (by simp) (r.append (.cons ru .nil)) ?_,rfl,q⟩
 rw[List.length_append,List.length_singleton]
 omega
def WS:V->List V->Hp->VK->Prop:=fun x vs H Q=>∃ l b xs zs,x=.ref l/\vs=[.ref b]/\H l=some (.lst xs)/\H b=some (.lst zs)/\xs.length+zs.length<=sizeLine/\Q .non (upd H l (.lst (xs++zs)))
theorem zC:Cs X "list.extend" WS:=by
 intro pins s σ H x vs v us Q I rx rv h
 obtain⟨l,b,xs,zs,rfl,rfl,hH,hB,hz,q⟩:=h
 cases rx
 obtain⟨u,rfl,ru⟩:=rv.one
 cases ru
 obtain⟨z,aD,n,r,hl,e⟩:=I.vZ hH
 obtain⟨z2,nZ,n2,r2,hl2,e2⟩:=I.vZ hB
 have jE:aD.toArray.size+nZ.toArray.size<=sizeLine:=by rw[List.size_toArray,List.size_toArray];omega
 have hlong:¬(!aD.toArray.isEmpty&&Builtin.List.listTooLong (aD.toArray.size+nZ.toArray.size))=true:=by
  rw[B6 jE,Bool.and_false]
  exact Bool.false_ne_true
 refine call_meets F.slot_list_extend ⟨_,e,rfl⟩ F.entry_list_extend (F.args_list_extend_2 _ _)
  (AutoSeq1.list_extend_list_list_0 l aD.toArray n b nZ.toArray n2 hlong (by rw[List.size_toArray];omega) (by omega)) ⟨e,e2,?_⟩
 refine⟨.non,_,I.OU (lP:=aD++nZ) hH e (by simp) (r.append r2) ?_,rfl,q⟩
 rw[List.length_append]
 omega
def Mw:V->List V->Hp->VK->Prop:=fun x vs H Q=>∃ l xs y,x=.ref l/\vs=[]/\H l=some (.lst xs)/\xs[xs.length-1]? = some y/\Q y (upd H l (.lst xs.dropLast))
theorem HY:Cs X "list.pop" Mw:=by
 intro pins s σ H x vs v us Q I rx rv h
 obtain⟨l,xs,y,rfl,rfl,hH,hy,q⟩:=h
 cases rx
 have hus:=rv.zero
 subst hus
 obtain⟨z,aD,n,r,hl,e⟩:=I.vZ hH
 obtain⟨u,hu,ru⟩:=r.get hy
 have hy':aD.toArray[aD.toArray.size-1]? = some u:=by
  show aD.toArray[aD.length-1]? = some u
  rw[<-Array.getElem?_toList,<-hl]
  exact hu
 refine call_meets F.slot_list_pop ⟨_,e,rfl⟩ F.entry_list_pop (F.args_list_pop_1 _) (MeetsSeq.list_pop_last l aD.toArray n u hy' (by rw[List.size_toArray];omega)) ⟨e,?_⟩
 refine⟨y,_,I.OU (lP:=aD.dropLast) hH e ?_ r.dropLast ?_,ru,q⟩
 ·show aD.toArray.eraseIdxIfInBounds (aD.toArray.size-1)=aD.dropLast.toArray
  rw[List.size_toArray,List.eraseIdxIfInBounds_toArray,NX]
 ·rw[List.length_dropLast]
  omega
def Cw:R2:=fun x y H Q=>∃ l b xs zs,x=.ref l/\y=.ref b/\H l=some (.lst xs)/\H b=some (.lst zs)/\xs.length+zs.length<=sizeLine/\∀ p,H p=none->Q (.ref p) (upd H p (.lst (xs++zs)))
theorem Bg:iJ X (binaryOp .Add) Cw:=by
 intro pins s σ H x y v u Q I rx ry h
 obtain⟨l,b,xs,zs,rfl,rfl,hH,hB,hz,q⟩:=h
 cases rx
 cases ry
 obtain⟨z,aD,n,r,hl,e⟩:=I.vZ hH
 obtain⟨z2,nZ,n2,r2,hl2,e2⟩:=I.vZ hB
 refine PySem.P.add_list e e2 ?_ (by rw[List.size_toArray,List.size_toArray];omega)
 have ea:aD.toArray++nZ.toArray=(aD++nZ).toArray:=by simp
 rw[ea]
 exact⟨.ref _,_,I.S6 (t':=s.toks) (r.append r2) (by rw[List.length_append];omega),rfl,q _ I.fresh⟩
def Bu:R2:=fun x y H Q=>∃ l k xs,x=.ref l/\y=.int k/\H l=some (.lst xs)/\-(2 ^ 63)<=k/\k<2 ^ 63/\xs.length*k.toNat<=sizeLine /\
 ∀ p,H p=none->Q (.ref p) (upd H p (.lst (List.replicate k.toNat xs).flatten))
theorem len_rep {α:Type}(xs:List α)(k:Nat):(List.replicate k xs).flatten.length=k*xs.length:=by
 induction k with
 |zero=>simp
 |succ k ih=>rw[List.replicate_succ,List.flatten_cons,List.length_append,ih,Nat.succ_mul,Nat.add_comm]
theorem Bx:iJ X (binaryOp .Mult) Bu:=by
 intro pins s σ H x y v u Q I rx ry h
 obtain⟨l,k,xs,rfl,rfl,hH,h1,h2,hz,q⟩:=h
 cases rx
 obtain⟨t,rfl⟩:=ry
 obtain⟨z,aD,n,r,hl,e⟩:=I.vZ hH
 have hlen:aD.toArray.size*k.toNat<=sizeLine:=by rw[List.size_toArray,<-hl];exact hz
 have hcap:¬aD.toArray.size*k.toNat>(2 ^ 63-1) / 8:=by
  have:(sizeLine:Nat)<=(2 ^ 63-1) / 8:=by decide
  omega
 have oA:¬(!Builtin.List.listFitsIndex k)=true:=by
  rw[fitsIndex_both h1 h2]
  exact Bool.false_ne_true
 have hlong:¬Builtin.List.listTooLong (aD.toArray.size*k.toNat)=true:=by
  rw[B6 hlen]
  exact Bool.false_ne_true
 have hnew:List.foldl (fun x1 x2=>x1++x2) #[] (List.replicate (if aD.toArray.isEmpty=true then 0 else k.toNat) aD.toArray)=(List.replicate k.toNat aD).flatten.toArray:=by
  have f0:∀ m:Nat,List.foldl (fun x1 x2=>x1++x2) #[] (List.replicate m aD.toArray)=(List.replicate m aD).flatten.toArray:=fun m=>by
   have:=foldl_rep aD m []
   rw[List.nil_append]at this
   exact this
  rw[f0]
  cases aD with
  |nil=>simp
  |cons a r'=>rw[if_neg (by simp)]
 refine wpAny_binaryOp_repeat_ref (T :="list") (U :="int") (by decide) ⟨_,e,rfl⟩ (fun s'=>typeIs_int s' k t) noFill_list_mul F.fills_int_mul F.slot_int_rmul repeat_list F.slot_int_index.lookup
  (call_meets F.slot_int_rmul (typeIs_int s k t) F.entry_int_rmul (F.args_int_rmul_2 _ _) (int___rmul___int_list k t l aD.toArray n)
   ⟨e,rfl,⟨_,e,rfl⟩,call_meets F.slot_list_mul ⟨_,e,rfl⟩ F.entry_list_mul (F.args_list_mul_2 _ _) (AutoListH.list___mul___list_int_3 l aD.toArray n k t oA hcap hlong) ⟨e,?_⟩⟩)
 rw[hnew]
 exact⟨.ref _,_,I.S6 (t':=s.toks) (r.rep k.toNat) (by rw[len_rep,Nat.mul_comm];exact hz),rfl,q _ I.fresh⟩
end
end L2
namespace Att
open PySem PySem.W PySem.Calls PyProof.Rows
theorem CY {P:Params}{h:Heap}:∀(ns:List Int)(vs:List Value),WellAll P h vs (ns.map WData.int)->IntsAre vs ns:=by
 intro ns
 induction ns with
 |nil =>
 intro vs w
 rw[List.map_nil]at w
 cases w
 exact .nil
 |cons n ns ih =>
 intro vs w
 rw[List.map_cons]at w
 cases w with
 |cons a b =>
  cases a
  exact .cons _ _ (ih _ b)
theorem PN {l:OpenLaw}{n:Nat}(hn:l.most=some n){P:Params}{h:Heap}{args:List WData}{vals:List Value}
  (hpre:l.row.toRowW.claim.pre args=true)(hwl:WellAll P h vals args):
  ∃ a vs ns,vals=[Value.ref a]/\args=[WData.list (ns.map WData.int)]/\h.get? a=some { cls:=.type "list", data:=.seq vs.toArray }/\IntsAre vs ns/\ns.length<=n:=by
 have hsh:WShape.hasAll [] args [.list .int]=true:=(pre_splitW hpre).1
 have hc:l.pre.holds [] { args:=args }=true:=(pre_splitW hpre).2
 obtain⟨d,r,rfl,h1,h2⟩:=hasAllW_cons hsh
 obtain rfl:=hasAllW_nil h2
 obtain⟨xs,rfl,h3⟩:=hasW_list h1
 obtain⟨ns,rfl⟩:=items_int h3
 have hlen:ns.length<=n:=by
  unfold OpenLaw.pre at hc
  have h4:(WTm.not (.lt (.lit (.int (n:Int))) (.len (.arg 0)))).holds [] { args:=[.list (ns.map .int)] }=true:=by
   have h4:=(holds_andW hc).1
   rw[hn]at h4
   exact h4
  have h5:=condW_of h4 (w_not (w_lt w_lit (w_len_list (w_arg rfl))))
  rw[List.length_map]at h5
  refine Nat.le_of_not_lt fun q=>?_
  have q':(n:Int)<((ns.length:Nat):Int):=by omega
  first
   |(rw[decide_eq_true q']at h5;exact absurd h5 (by decide))
   |(simp at h5;omega)
 cases hwl with
 |cons w1 w2 =>
  cases w2
  cases w1 with
  |list ho qM=>exact⟨_,_,ns,rfl,rfl,ho,CY ns _ qM,hlen⟩
theorem PH (l:OpenLaw)(args:List WData):l.row.toRowW.claim.post args (.bool true) args=true :=
 postW_of (r:=l.row.toRowW) (X:=(true==true))
 (show WShape.has [] (.bool true) .bool=true by first|rfl|decide|simp [WShape.has,WShape.arms,WShape.armsAll])
 (show(WTm.eq .res (.lit (.bool true))).value [] { args:=args,res:=some (.bool true),after:=args }=some (.bool (true==true))from w_eq_bool (w_res rfl) w_lit) rfl
theorem L8 {l:OpenLaw}{n:Nat}{q:Program}{loose:List Str}{XP:(Str->Option Value)->Heap->Prop}{YP:World->Heap->Prop}{d:DefRec}
 (hn:l.most=some n)(hdf:d.params.defaults=[])
 (call:∀(w:World)(s₀ s₁:Shared)(mg mb:Str->Option Value)(fa:Addr)(o:Obj)(pm cd doc:Value)(a:Addr)(vs:List Value)(ns:List Int),
  Ground q loose [] XP w s₀ mg mb s₁.heap->YP w s₁.heap ->
  s₁.heap.get? fa=some o->o.data=.func (docDef d.name d.params d.body d.scope pm cd doc)->s₁.heap.CodeRec cd d.name->mg d.name=some (.ref fa) ->
  s₁.heap.get? a=some { cls:=.type "list", data:=.seq vs.toArray }->IntsAre vs ns->ns.length<=n->s₁.gens = #[] ->
  codeAny (model l.prog w) callerA (.call (.ref fa) ⟨[.ref a],[]⟩) (fun r s'=>r=.ok (.ret (.bool true))/\OldK s₁.heap s'.heap/\s'.os=s₁.os/\AllBare s'.gens) s₁):
 WalkO q loose XP YP l.row.toRowW d [] (fun f vs=>PySem.call f vs):=by
 intro w s₀ s₁ mg mb G Y fa o pm cd doc dV kV ho hd hcd hD hmg hg args vals as hpre hlay hrd hwl hlo
 obtain rfl:dV=.none:=Dflts.none hD hdf
 obtain rfl:kV=.none:=Dflts.noKw hD
 obtain⟨a,vs,ns,rfl,rfl,hobj,hints,hlen⟩:=PN hn hpre hwl
 refine enter_call (codeAny_mono (call w s₀ s₁ mg mb fa o pm cd doc a vs ns G Y ho (fd_plain hd) hcd hmg hobj hints hlen hg) fun r s' hq=>?_)
 obtain⟨rfl,h2,h3,h4⟩:=hq
 exact⟨.inl ⟨.bool true,.bool true,[],rfl,fun _=>rfl,.bool true,PH l _,fun _=>⟨List.Pairwise.nil,fun _ hm=>(nomatch hm)⟩⟩,h2,h3,h4⟩
end Att
namespace L2
open PySem PySem.Spec PyProof.Rows
theorem G9:∀{vs:List Value}{ns:List Int},IntsAre vs ns->aO (ns.map V.int) vs
 |_,_,.nil=>.nil
 |_,_,.cons n t h=>.cons ⟨t,rfl⟩ (G9 h)
def N8 (H:Hp):Prop:=∀ b,H b=none∨∃ o xs,H b=some (.frz o (.lst xs))
theorem UX {P:Program}{w:World}{K:PySem.W.Frag}{mg mb:Str->Option Value}{CX:tR}{k:Nat}{fa a:Addr}{fd:FuncData}{x:Str}{sp:Sp}{s₁:Shared}{vs:List Value}{ns:List Int}
  (KX:K.In s₁.heap)(hns:s₁.heap.Ns mainGlobals mg)(hb:s₁.heap.Ns builtinsNs mb)(hbb:∀ x:Str,x ≠"__name__" -> mb x=bootBuiltins x)(hlim:s₁.heap.NoLimit)(hg:s₁.gens = #[])
  (ha:s₁.heap.get? a=some { cls:=.type "list", data:=.seq vs.toArray })(hi:IntsAre vs ns)(hl:ns.length<=sizeLine)(hr:dM k callerA)
  (F:∀ base:Heap,K.In base->base.Ns mainGlobals mg->dR P w K mg base CX k fa fd [x] sp)(hbind:∀(s:Shared)(u:Value),BindsTo s fd ⟨[u],[]⟩ [(x,u)])
  (hsp:∀ H:Hp,N8 H->dN K H a (ns.map V.int)->sp [.ref a] H (fun v _=>v=.bl true) fun _ _ _=>False)
  (hCX:∀ H e s',CX [] H s₁ (fun _ _ _=>False) e s'->False):
  codeAny (model P w) callerA (.call (.ref fa) ⟨[.ref a],[]⟩) (fun r s'=>r=.ok (.ret (.bool true))/\OldK s₁.heap s'.heap/\s'.os=s₁.os/\AllBare s'.gens) s₁:=by
 have rv:=G9 hi
 have lenV:=hi.length
 have core:∀ H:Hp,N8 H->dN K H a (ns.map V.int)->jD P w H s₁.heap->(∀ b,H b≠none->b=a)->(H a≠none->K.lookup a=none) ->
   codeAny (model P w) callerA (.call (.ref fa) ⟨[.ref a],[]⟩) (fun r s'=>r=.ok (.ret (.bool true))/\OldK s₁.heap s'.heap/\s'.os=s₁.os/\AllBare s'.gens) s₁:=by
  intro H hO hS cG hA hK
  have base_of:∀{b:Addr}{o:Obj},s₁.heap.get? b=some o->H b=none->(vV s₁.heap H).get? b=some o:=fun e n=>UI e n
  have noA:∀{b:Addr}{o:Obj}{es:Array DictEntry}{ep:Nat},s₁.heap.get? b=some o->o.data=.dict es ep->H b=none:=fun{b o es ep} e d=>by
   cases q:H b with
   |none=>rfl
   |some u =>
    have e':b=a:=hA b (by rw[q];simp)
    subst e'
    rw[ha]at e;cases e
    have d':Data.seq vs.toArray _=Data.dict es ep:=d
    cases d'
  have nsK:∀{b:Addr}{m:Str->Option Value},s₁.heap.Ns b m->(vV s₁.heap H).Ns b m:=fun{b m} ⟨o,es,ep,e,d,r⟩=>⟨o,es,ep,base_of e (noA e d),d,r⟩
  have hKb:K.In (vV s₁.heap H):=fun b o e=>base_of (KX b o e) (by
   cases q:H b with
   |none=>rfl
   |some u =>
    have e':b=a:=hA b (by rw[q];simp)
    subst e'
    rw[hK (by rw[q];simp)]at e;cases e)
  have hM:Mod K mg (vV s₁.heap H):=⟨hKb,nsK hns,⟨mb,nsK hb,hbb⟩,let⟨mc,h1,h2⟩:=hlim;⟨mc,nsK h1,h2⟩⟩
  have e0:CO P w K mg (vV s₁.heap H) callerA [] s₁ H:=⟨rfl,hM,fun b o e=>WW e,Nat.le_of_eq (P7 _ _),trivial,fun b hb=>absurd (show b∈([]:List Addr)from hb) (by simp),cG,.of_eq hg⟩
  refine codeAny_mono ((F _ hKb (nsK hns)).run callerA [] s₁ H ⟨[.ref a],[]⟩ [.ref a] [.ref a] _ _ hr e0 (hbind s₁ (.ref a)) (.cons rfl .nil) (hsp H hO hS)) fun r s' h=>?_
  cases r with
  |error e=>exact(hCX H e s' h).elim
  |ok fl =>
   cases fl with
   |next=>exact False.elim h
   |brk=>exact False.elim h
   |cont=>exact False.elim h
   |ret u =>
    obtain⟨v,H',os,bare,un,hok',r',q⟩:=h
    have q':v=.bl true:=q
    subst q'
    obtain rfl:u=Value.bool true:=r'
    refine⟨rfl,OldK.of_keep fun b o e=>?_,os,bare⟩
    cases q:H b with
    |none=>exact un.keep b o e q (by intro z;exact absurd (show b∈([]:List Addr)from z) (by simp)) (by simp)
    |some u =>
     rcases hO b with z|⟨ob,xs,z⟩
     ·rw[q]at z;cases z
     ·have z2:=un.nY b ob _ z
      obtain⟨e1,_⟩:=cG b _ z
      obtain⟨e2,_⟩:=hok' b _ z2
      rw[e]at e1;cases e1
      exact e2
 cases hk:K.lookup a with
 |some o =>
  have e:=KX a o hk
  rw[ha]at e
  cases e
  refine core (fun _=>none) (fun _=>.inl rfl) (.inr ⟨_,vs.toArray,_,hk,rfl,rfl,rfl,by rw[List.size_toArray,lenV];exact hl,by simpa using rv⟩) (fun b u z=>by have z':(none:Option HO)=some u:=z;cases z') (fun b z=>absurd rfl z) fun z=>absurd rfl z
 |none =>
  refine core (fun b=>if b=a then some (.frz { cls:=.type "list", data:=.seq vs.toArray } (.lst (ns.map V.int)))else none) (fun b=>?_) (.inl (.inr ⟨{ cls:=.type "list", data:=.seq vs.toArray },if_pos rfl⟩)) (fun b u z=>?_) (fun b z=>?_) fun _=>hk
  ·by_cases hb:b=a
   ·exact .inr ⟨_,_,if_pos hb⟩
   ·exact .inl (if_neg hb)
  ·by_cases hb:b=a
   ·have z':=(if_pos hb).symm.trans z
    cases z'
    subst hb
    exact⟨ha,by rw[List.length_map];exact hl,vs,_,rv,ha⟩
   ·have z':=(if_neg hb).symm.trans z
    cases z'
  ·by_cases hb:b=a
   ·exact hb
   ·exact absurd (if_neg hb) z
end L2
namespace L2
open PySem PySem.Spec PyProof.Rows
theorem WY {l:PySem.W.OpenLaw}{n k:Nat}{q:Program}{loose:List Str}{XP:(Str->Option Value)->Heap->Prop}{YP:World->Heap->Prop}{d:DefRec}{K:Params->PySem.W.Frag}{CX:World->tR}{sp:World->Sp}{x:Str}
 (hn:l.most=some n)(hn2:n<=sizeLine)(hdf:d.params.defaults=[])(hr:dM k callerA)
 (hY:∀(w:World)(h:Heap),YP w h->(K w.params).In h)
 (F:∀(w:World)(mg:Str->Option Value)(fa:Addr)(h:Heap),(K w.params).In h->h.Ns mainGlobals mg->mg d.name=some (.ref fa) ->
  ∃ fd:FuncData,(∀(s:Shared)(u:Value),BindsTo s fd ⟨[u],[]⟩ [(x,u)]) /\
  ∀ base:Heap,(K w.params).In base->base.Ns mainGlobals mg->dR l.prog w (K w.params) mg base (CX w) k fa fd [x] (sp w))
 (hsp:∀(w:World)(H:Hp)(a:Addr)(ns:List Int),ns.length<=n->N8 H->dN (K w.params) H a (ns.map V.int)->sp w [.ref a] H (fun v _=>v=.bl true) fun _ _ _=>False)
 (hCX:∀(w:World)(H:Hp)(s:Shared)(e:Value)(s':Shared),CX w [] H s (fun _ _ _=>False) e s'->False):
 PySem.W.WalkO q loose XP YP l.row.toRowW d [] (fun f vs=>PySem.call f vs):=by
 refine Att.L8 hn hdf fun w s₀ s₁ mg mb fa o pm cd doc a vs ns G Y ho hd hcd hmg hobj hints hlen hg=>?_
 have KX:=hY w _ Y
 obtain⟨fd,hb,hF⟩:=F w mg fa _ KX G.T.g hmg
 exact UX KX G.T.g G.T.b G.T.builtins G.T.nolimit hg hobj hints (Nat.le_trans hlen hn2) hr hF hb (fun H hO hS=>hsp w H a ns hlen hO hS) fun H e s'=>hCX w H s₁ e s'
end L2
namespace L2
open PySem PySem.Spec PyProof.Rows
def mS (s:Stmt):Arguments:=match s with
 |.FunctionDef _ a _ _ _ _ _ _ _ _=>a
 |_=>{ posonlyargs:=[],args:=[],vararg:=none,kwonlyargs:=[],kw_defaults:=[],kwarg:=none,defaults:=[] }
def jH (s:Stmt):List Stmt:=match s with
 |.FunctionDef _ _ b _ _ _ _ _ _ _=>b
 |_=>[]
def aR (s:Stmt):Scope:=match s with
 |.FunctionDef _ _ _ _ _ _ sc _ _ _=>sc
 |_=>{ kind:=.function,names:=[],isGenerator:=false,isCoroutine:=false }
abbrev hJ:tR:=fun _ _ _ _ _ _=>False
abbrev E0:XK:=fun _ _ _=>False
theorem OH {X:Cx}:sI hJ X E0:=fun _ _ _ _ _ _ _ h=>h.elim
structure BL (K:PySem.W.Frag)(x qual:Str)(st:Stmt)(f:Addr)(fd:FuncData):Prop where
 ex:∃(oc:Value)(od:Option Addr)(kV doc pm:Value)(an:Option Addr)(bL ct:Value)(osl:Array (Option Value)),
 fd=PySem.W.fnOf x qual (mS st) (jH st) (aR st) .none kV doc pm an bL ct/\K.lookup f=some ⟨oc,od,.func fd,osl⟩/\PySem.W.codeIn K bL qual=true
 kp:PySem.W.keepIn K (.ref f)=true
section
variable {P:Program}{w:World}{K:PySem.W.Frag}{mg:Str->Option Value}{base:Heap}
theorem BL.ok {x qual:Str}{st:Stmt}{f:Addr}{fd:FuncData}{N ps:List Str}{k:Nat}{sp:Sp}(F:BL K x qual st f fd)(S:vG N ps (aR st))(len:∀ vs H Q E,sp vs H Q E->vs.length=ps.length)
 (hbody:∀(bL:Value)(A:Around)(outer:List Env)(s:Shared)(H:Hp)(vs:List V)(Q:VK)(E:XK),dM k (A.deeper (envOfC qual (aR st) s.heap.objs.size f bL))->sp vs H Q E ->
  ∃ t,lF (nU hJ P w K mg base N qual (aR st) f bL A outer s H E).qQ (jH st) t/\t { nx:=fun _ H'=>Q .non H',rt:=Q } (start N vs) H):dR P w K mg base hJ (k+1) f fd ps sp:=by
 obtain⟨oc,od,kV,doc,pm,an,bL,ct,osl,rfl,lk,hcd⟩:=F.ex
 refine Fx lk hcd S len fun A outer s H vs Q E hr hsp=>?_
 obtain⟨t,h,q⟩:=hbody bL A outer s H vs Q E hr hsp
 exact⟨t,h.qQ,q⟩
theorem BL.binds {x qual:Str}{st:Stmt}{f:Addr}{fd:FuncData}{ps:List Str}(F:BL K x qual st f fd)
 (h:∀(kV doc pm:Value)(an:Option Addr)(bL ct:Value)(us:List Value),us.length=ps.length->bindArgs (PySem.W.fnOf x qual (mS st) (jH st) (aR st) .none kV doc pm an bL ct) ⟨us,[]⟩=pure (ps.zip us)):Binds K fd ps []:=by
 obtain⟨oc,od,kV,doc,pm,an,bL,ct,osl,rfl,lk,hcd⟩:=F.ex
 exact .all (h kV doc pm an bL ct)
theorem KW {x qual:Str}{st:Stmt}{f:Addr}{oc:Value}{od an:Option Addr}{osl:Array (Option Value)}{kV doc pm bL ct:Value}(l:K.lookup f=some ⟨oc,od,.func (PySem.W.fnOf x qual (mS st) (jH st) (aR st) .none kV doc pm an bL ct),osl⟩)
 (c:PySem.W.codeIn K bL qual=true)(k:PySem.W.keepIn K (.ref f)=true):BL K x qual st f (PySem.W.fnOf x qual (mS st) (jH st) (aR st) .none kV doc pm an bL ct):=⟨⟨oc,od,kV,doc,pm,an,bL,ct,osl,rfl,l,c⟩,k⟩
end
theorem PK {n:Nat}(h:n<=1000):n<sizeLine:=Nat.lt_of_le_of_lt h (by decide)
section
variable {X:Cx}
theorem pv (i:Nat){x:Str}{pos:Pos}(hN:X.N[i]? = some x:=by rfl)(hv:Z4 X.env.scope x:=by first|exact Or.inl rfl|exact Or.inr (Or.inl rfl)|exact Or.inr (Or.inr rfl))(hd:(x==("__debug__" : Str))=false:=by decide)
 (hcd:(x==("__classdict__" : Str))=false:=by decide):PE X (.Name x pos) (SQ i):=Af hN hv hd hcd
end
def uH (H H':Hp):Prop:=∀ b o,H b=some o->H' b=some o
theorem uH.refl (H:Hp):uH H H:=fun _ _ h=>h
theorem uH.trans {H H1 H2:Hp}(a:uH H H1)(b:uH H1 H2):uH H H2:=fun c o h=>b c o (a c o h)
theorem uH.free {H H':Hp}(e:uH H H'){l:Addr}(h:H' l=Option.none):H l=Option.none:=by
 cases q:H l with
 |none=>rfl
 |some o =>
 rw[e l o q]at h
 cases h
theorem uH.seq {K:PySem.W.Frag}{H H':Hp}{a:Addr}{xs:List V}(e:uH H H')(h:dN K H a xs):dN K H' a xs:=by
 rcases h with(h|⟨o,h⟩)|h
 ·exact .inl (.inl (e _ _ h))
 ·exact .inl (.inr ⟨o,e _ _ h⟩)
 ·exact .inr h
end L2
end
section
namespace L3
inductive D where
 |non|bl (b:Bool)|int (i:Int)|str (x:List Nat)|tup (ds:List D)|ref (a:Nat)|dB (ks vs:List D)|bP (ds:List D)|exc (c:Nat)
inductive MO where
 |lst (ds:List D)
 |dic (ks vs:List D)
 /-- an instance of the class of this name: aD attributes -/
 |ins (c:List Nat)(fs:List (List Nat×D))
 /-- a dict that is filled: aD keys are tuples of texts and of such tuples -/
 |tab (ks vs:List D)
abbrev aB:=Nat->Option MO
def put (st:aB)(a:Nat)(o:MO):aB:=fun b=>if b=a then some o else st b
inductive vC where
 |add|sub|mul|fdiv|mod|pow
inductive rJ where
 |eq|ne|lt|le|gt|ge|is_|isnot|in_|fE
inductive Ty where
 |int|str|bool|list|tuple|dict|err (c:Nat)
inductive BI where
 |len|all|any|max|min|sum|abs|list|tuple|int|str|bool|sU|sorted
inductive MT where
 |append|extend|pop|index|count|join|split|get|insert|remove
inductive IK where
 |range|zip|enum|rev|items|keys|values
inductive Ex where
 |c (d:D)|v (i:Nat)
 |tup (es:List Ex)|lst (es:List Ex)
 |bin (op:vC)(a b:Ex)|neg (a:Ex)
 |cmp (op:rJ)(a b:Ex)|chain (op op':rJ)(a b c:Ex)
 |and_ (a b:Ex)|or_ (a b:Ex)|not_ (a:Ex)|ite (c a b:Ex)
 |call (f:Nat)(es:List Ex)|bi (f:BI)(es:List Ex)|isi (a:Ex)(ts:List Ty)
 |bW (m:MT)(o:Ex)(es:List Ex)
 |ix (a b:Ex)|sl (a:Ex)(lo hi:List Ex)
 /-- f(g(..)), g what is walked on the spot -/
 |bit (f:BI)(k:IK)(es:List Ex)
 |comp (n:Nat)(bH:List Nat)(tg:List Nat)(one:Bool)(k:Option IK)(aD:List Ex)(ifs:List Ex)(elt:Ex)
 |dic (ks vs:List Ex)
 /-- o.f of an instance of the class c; C(..), f aD __init__; o.m(..), f the def -/
 |fld (c f:List Nat)(o:Ex)|mk (c:List Nat)(f:Nat)(es:List Ex)|mcl (c m:List Nat)(f:Nat)(o:Ex)(es:List Ex)
 /-- {}; k in d; d[k] -/
 |dnew|din (neg:Bool)(k d:Ex)|dix (d k:Ex)
inductive Tg where
 |nm (i:Nat)|tp (is:List Nat)|ix (o i:Ex)|fl (c f:List Nat)(o:Ex)|dk (o i:Ex)
inductive Sx where
 |ex (e:Ex)|asg (t:Tg)(e:Ex)|aug (i:Nat)(op:vC)(e:Ex)
 |iff (c:Ex)(a b:List Sx)|whl (c:Ex)(b:List Sx)|gQ (t:Tg)(k:Option IK)(aD:List Ex)(b:List Sx)
 |ret (e:Ex)|brk|cnt|pass|rais (c:Nat)(es:List Ex)
 |tryy (b:List Sx)(c:Nat)(n:Option Nat)(h:List Sx)
structure Fn where
 np:Nat
 nl:Nat
 body:List Sx
structure Prog where
 fns:Nat->Option Fn
 /-- class c is class c' or stands under it -/
 sub:Nat->Nat->Bool
abbrev St:=List (Option D)
abbrev VK:=D->aB->Prop
abbrev XK:=Nat->aB->Prop
abbrev bO:=Nat->List D->aB->VK->XK->Prop
abbrev aZ:Nat:=16777216
abbrev mL:Nat:=80
def W (x:String):List Nat:=x.toList.map Char.toNat
def Ext (st aA:aB):Prop:=∀ a o,st a=some o->aA a=some o
def gL (σ:St)(i:Nat)(Q:D->Prop):Prop:=match σ[i]? with
 |some (some d)=>Q d
 |_=>False
mutual
def bU:D->D->Bool
 |.non,.non=>true
 |.bl a,.bl b=>a==b
 |.bl a,.int b=>(if a then 1 else 0)==b
 |.int a,.bl b=>a==(if b then 1 else 0)
 |.int a,.int b=>a==b
 |.str a,.str b=>a==b
 |.tup as,.tup bs=>fP as bs
 |_,_=>false
def fP:List D->List D->Bool
 |[],[]=>true
 |a::as,b::bs=>bU a b&&fP as bs
 |_,_=>false
end
mutual
def bI:D->Bool
 |.non=>true
 |.bl _=>true
 |.int _=>true
 |.str _=>true
 |.tup ds=>bN ds
 |_=>false
def bN:List D->Bool
 |[]=>true
 |d::ds=>bI d&&bN ds
end
mutual
def cL:D->Nat
 |.tup ds=>cK ds+1
 |_=>0
def cK:List D->Nat
 |[]=>0
 |d::ds=>max (cL d) (cK ds)
end
def plain (d:D):Prop:=bI d=true/\cL d<=mL
def uO (ds:List D):Prop:=bN ds=true/\cK ds<=mL
def KC:Option MO->Bool
 |some (.lst ds)=>bN ds&&decide (cK ds<=mL)
 |_=>false
mutual
def fI (st:aB):D->Bool
 |.non=>true
 |.bl _=>true
 |.int _=>true
 |.str _=>true
 |.tup ds=>iD st ds
 |.ref a=>KC (st a)
 |.bP ds=>bN ds&&decide (cK ds<=mL)
 |_=>false
def iD (st:aB):List D->Bool
 |[]=>true
 |d::ds=>fI st d&&iD st ds
end
def C6:Option MO->Option MO->Bool
 |some (.lst xs),some (.lst ys)=>fP xs ys
 |_,_=>false
mutual
def bT (st:aB):D->D->Bool
 |.non,.non=>true
 |.bl a,.bl b=>a==b
 |.bl a,.int b=>(if a then 1 else 0)==b
 |.int a,.bl b=>a==(if b then 1 else 0)
 |.int a,.int b=>a==b
 |.str a,.str b=>a==b
 |.tup as,.tup bs=>jO st as bs
 |.ref a,.ref b=>C6 (st a) (st b)
 |.bP xs,.ref b=>C6 (some (.lst xs)) (st b)
 |.ref a,.bP ys=>C6 (st a) (some (.lst ys))
 |.bP xs,.bP ys=>fP xs ys
 |_,_=>false
def jO (st:aB):List D->List D->Bool
 |[],[]=>true
 |a::as,b::bs=>bT st a b&&jO st as bs
 |_,_=>false
end
def plainS (st:aB)(d:D):Prop:=fI st d=true/\cL d<=mL
def dW (st:aB)(ds:List D):Prop:=iD st ds=true/\cK ds<=mL
def VH (x y:D)(st:aB)(P:Bool->Prop):Prop:=plainS st x/\plainS st y/\P (bT st x y)
def occurs (x:List Nat):List Nat->Bool
 |[]=>x.isEmpty
 |c::r=>x.isPrefixOf (c::r)||occurs x r
def cP (st:aB)(a:Nat)(K:List D->Prop):Prop:=match st a with
 |some (.lst ds)=>K ds
 |_=>False
def dA {α:Type}(o:Option α)(K:α->Prop):Prop:=match o with
 |some x=>K x
 |none=>False
def eT (st:aB)(a:Nat)(K:List D->Prop)(M:List D->List D->Prop):Prop:=match st a with
 |some (.lst ds)=>K ds
 |some (.dic ks vs)=>M ks vs
 |_=>False
def K2:D->D->aB->(Bool->Prop)->Prop
 |x,.tup ds,st,P=>plainS st x/\dW st ds/\P (ds.any fun d=>bT st d x)
 |x,.ref a,st,P=>eT st a (fun ds=>plainS st x/\dW st ds/\P (ds.any fun d=>bT st d x)) fun ks _=>plain x/\uO ks/\P (ks.any fun d=>bU d x)
 |.str w,.dB ks _,_,P=>P (ks.any fun d=>bU d (.str w))
 |x,.bP ds,st,P=>plainS st x/\dW st ds/\P (ds.any fun d=>bT st d x)
 |.str w,.str z,_,P=>P (occurs w z)
 |_,_,_,_=>False
def wO (f:Int->Int->Bool):D->D->(Bool->Prop)->Prop
 |.int i,.int j,P=>P (f i j)
 |_,_,_=>False
def HU:D->Bool
 |.non=>true
 |_=>false
def R9 (b:Bool):D->Bool
 |.bl c=>c==b
 |_=>false
def DA:D->D->(Bool->Prop)->Prop
 |x,.non,P=>P (HU x)
 |x,.bl b,P=>P (R9 b x)
 |_,_,_=>False
def dD:rJ->D->D->aB->(Bool->Prop)->Prop
 |.eq,x,y,st,P=>VH x y st P
 |.ne,x,y,st,P=>VH x y st fun b=>P (!b)
 |.lt,x,y,_,P=>wO (fun i j=>decide (i<j)) x y P
 |.le,x,y,_,P=>wO (fun i j=>decide (i<=j)) x y P
 |.gt,x,y,_,P=>wO (fun i j=>decide (j<i)) x y P
 |.ge,x,y,_,P=>wO (fun i j=>decide (j<=i)) x y P
 |.is_,x,y,_,P=>DA x y P
 |.isnot,x,y,_,P=>DA x y fun b=>P (!b)
 |.in_,x,y,st,P=>K2 x y st P
 |.fE,x,y,st,P=>K2 x y st fun b=>P (!b)
def ED (i:Int):Prop:=-18446744073709551616<i/\i<18446744073709551616
def iE (ds:List D)(st:aB)(Q:VK):Prop:=ds.length<=aZ/\∀ p,st p=none->Q (.ref p) (put st p (.lst ds))
def iB:vC->D->D->aB->VK->Prop
 |.add,.int i,.int j,st,Q=>Q (.int (i+j)) st
 |.add,.str a,.str b,st,Q=>a.length+b.length<=aZ/\Q (.str (a++b)) st
 |.add,.tup a,.tup b,st,Q=>a.length+b.length<=aZ/\Q (.tup (a++b)) st
 |.add,.ref a,.ref b,st,Q=>cP st a fun xs=>cP st b fun ys=>iE (xs++ys) st Q
 |.sub,.int i,.int j,st,Q=>Q (.int (i-j)) st
 |.mul,.int i,.int j,st,Q=>(ED i∨ED j)/\Q (.int (i*j)) st
 |.mul,.ref a,.int k,st,Q=>cP st a fun xs=>xs.length*k.toNat<=aZ/\(-9223372036854775808<=k/\k<9223372036854775808)/\iE (List.replicate k.toNat xs).flatten st Q
 |.mul,.tup xs,.int k,st,Q=>(0<xs.length/\xs.length<=1000/\1<=k/\k<1000)/\Q (.tup (List.replicate k.toNat xs).flatten) st
 |.fdiv,.int i,.int j,st,Q=>(0<j/\j<1073741824)/\Q (.int (i / j)) st
 |.mod,.int i,.int j,st,Q=>0<j/\Q (.int (i % j)) st
 |.pow,.int i,.int j,st,Q=>(0<=j/\j<=1000000/\i.natAbs<18446744073709551616)/\Q (.int (i ^ j.toNat)) st
 |_,_,_,_,_=>False
def zQ:D->aB->VK->Prop
 |.int i,st,Q=>Q (.int (-i)) st
 |_,_,_=>False
def bY:List (List Nat×D)->List Nat->Option D
 |[],_=>none
 |(g,d)::r,f=>if g=f then some d else bY r f
def rN (f:List Nat)(d:D):List (List Nat×D)->List (List Nat×D)
 |[]=>[(f,d)]
 |(g,x)::r=>if g=f then(g,d)::r else(g,x)::rN f d r
def nR (st:aB)(a:Nat)(K:List Nat->List (List Nat×D)->Prop):Prop:=match st a with
 |some (.ins c fs)=>K c fs
 |_=>False
def tabAt (st:aB)(a:Nat)(K:List D->List D->Prop):Prop:=match st a with
 |some (.tab ks vs)=>K ks vs
 |_=>False
def qF (c f:List Nat):D->aB->VK->Prop
 |.ref a,st,Q=>nR st a fun c' fs=>c'=c/\dA (bY fs f) fun d=>Q d st
 |_,_,_=>False
def DI (c f:List Nat)(v:D):D->aB->(aB->Prop)->Prop
 |.ref a,st,Q=>nR st a fun c' fs=>c'=c/\fs.length<900/\Q (put st a (.ins c (rN f v fs)))
 |_,_,_=>False
mutual
def kJ:D->Bool
 |.str _=>true
 |.tup ds=>kL ds
 |_=>false
def kL:List D->Bool
 |[]=>true
 |d::ds=>kJ d&&kL ds
end
def keyed:D->Prop
 |.tup ds=>kL ds=true/\cK ds<=7
 |_=>False
def mB:List D->List D->D->Option D
 |k::ks,v::vs,x=>if bU k x then some v else mB ks vs x
 |_,_,_=>none
def wK (x:D):D->aB->(Bool->Prop)->Prop
 |.ref a,st,P=>tabAt st a fun ks _=>keyed x/\P (ks.any fun k=>bU k x)
 |_,_,_=>False
def rV (x:D):D->aB->VK->Prop
 |.ref a,st,Q=>tabAt st a fun ks vs=>keyed x/\dA (mB ks vs x) fun d=>Q d st
 |_,_,_=>False
def DB (x v:D):D->aB->(aB->Prop)->Prop
 |.ref a,st,Q=>tabAt st a fun ks vs=>keyed x/\(ks.any fun k=>bU k x)=false/\ks.length<10000/\Q (put st a (.tab (ks++[x]) (vs++[v])))
 |_,_,_=>False
def EH (c m:List Nat):D->aB->Prop
 |.ref a,st=>nR st a fun c' fs=>c'=c/\bY fs m=none
 |_,_=>False
def eI:D->aB->(Bool->Prop)->Prop
 |.non,_,P=>P false
 |.bl b,_,P=>P b
 |.int i,_,P=>P (i != 0)
 |.str x,_,P=>x.length<=aZ/\P (!x.isEmpty)
 |.tup ds,_,P=>P (!ds.isEmpty)
 |.ref a,st,P=>eT st a (fun ds=>P (!ds.isEmpty)) fun ks _=>P (!ks.isEmpty)
 |.bP ds,_,P=>P (!ds.isEmpty)
 |_,_,_=>False
def jL (sub:Nat->Nat->Bool):D->aB->Ty->(Bool->Prop)->Prop
 |.non,_,_,P=>P false
 |.bl _,_,.bool,P=>P true
 |.bl _,_,.int,P=>P true
 |.bl _,_,_,P=>P false
 |.int _,_,.int,P=>P true
 |.int _,_,_,P=>P false
 |.str _,_,.str,P=>P true
 |.str _,_,_,P=>P false
 |.tup _,_,.tuple,P=>P true
 |.tup _,_,_,P=>P false
 |.ref a,st,.list,P=>eT st a (fun _=>P true) fun _ _=>P false
 |.ref a,st,.dict,P=>eT st a (fun _=>P false) fun _ _=>P true
 |.ref a,st,_,P=>eT st a (fun _=>P false) fun _ _=>P false
 |.bP _,_,.list,P=>P true
 |.bP _,_,_,P=>P false
 |.exc c,_,.err c',P=>P (sub c c')
 |_,_,_,_=>False
def xI (sub:Nat->Nat->Bool)(d:D)(st:aB):List Ty->(Bool->Prop)->Prop
 |[],_=>False
 |[t],P=>jL sub d st t P
 |t::u::ts,P=>jL sub d st t fun b=>if b=true then P true else xI sub d st (u::ts) P
def oC (n:Nat)(i:Int):Option Nat:=if 0<=i then(if i<n then some i.toNat else none)else if -(n:Int)<=i then some (i+n).toNat else none
def gC {α:Type}(xs:List α)(i:Int):Option α:=(oC xs.length i).bind fun j=>xs[j]?
def vT:List D->List D->D->Option D
 |k::ks,v::vs,x=>if bU k x then some v else vT ks vs x
 |_,_,_=>none
def oG:D->D->aB->VK->Prop
 |.tup ds,.int i,st,Q=>dA (gC ds i) fun d=>Q d st
 |.bP ds,.int i,st,Q=>dA (gC ds i) fun d=>Q d st
 |.str z,.int i,st,Q=>z.length<=aZ/\dA (gC z i) fun c=>Q (.str [c]) st
 |.dB ks vs,.str w,st,Q=>dA (vT ks vs (.str w)) fun d=>Q d st
 |.ref a,y,st,Q=>eT st a (fun ds=>match y with
  |.int i=>dA (gC ds i) fun d=>Q d st
  |_=>False) fun ks vs=>plain y/\uO ks/\dA (vT ks vs y) fun d=>Q d st
 |_,_,_,_=>False
def cF (n d:Nat):Option Int->Nat
 |none=>d
 |some v=>if v<0 then(v+(n:Int)).toNat else min v.toNat n
def cut {α:Type}(xs:List α)(lo hi:Option Int):List α:=(xs.drop (cF xs.length 0 lo)).take (cF xs.length xs.length hi-cF xs.length 0 lo)
def nN:List D->(Option Int->Prop)->Prop
 |[],P=>P none
 |[.int i],P=>P (some i)
 |_,_=>False
def D2:D->Option Int->Option Int->aB->VK->Prop
 |.tup ds,lo,hi,st,Q=>Q (.tup (cut ds lo hi)) st
 |.ref a,lo,hi,st,Q=>cP st a fun ds=>∀ p,st p=none->Q (.ref p) (put st p (.lst (cut ds lo hi)))
 |_,_,_,_,_=>False
def dP:D->aB->(List Nat->List D->Prop)->Prop
 |.tup ds,_,K=>K [] ds
 |.ref a,st,K=>cP st a fun ds=>K [a] ds
 |.bP ds,_,K=>K [] ds
 |_,_,_=>False
def oZ:D->aB->(List Nat->List D->Prop)->Prop
 |.tup ds,_,K=>K [] ds
 |.str x,_,K=>x.length<=aZ/\K [] (x.map fun c=>.str [c])
 |.ref a,st,K=>cP st a fun ds=>K [a] ds
 |.bP ds,_,K=>K [] ds
 |_,_,_=>False
def zip2:List D->List D->List D
 |x::xs,y::ys=>.tup [x,y]::zip2 xs ys
 |_,_=>[]
def VL:Nat->List D->List D
 |_,[]=>[]
 |i,x::xs=>.tup [.int i,x]::VL (i+1) xs
def lQ (lo:Int)(n:Nat):List D:=(List.range n).map fun k=>.int (lo+(k:Nat))
def oJ (hi:Int)(n:Nat):List D:=(List.range n).map fun k=>.int (hi-(k:Nat))
def dX (i:Int):Prop:=-4611686018427387904<=i/\i<4611686018427387904
def gN:Option IK->List D->aB->(List Nat->List D->Prop)->Prop
 |none,[x],st,P=>oZ x st P
 |some .range,[.int j],_,P=>dX j/\P [] (lQ 0 j.toNat)
 |some .range,[.int i,.int j],_,P=>dX i/\dX j/\P [] (lQ i (j-i).toNat)
 |some .range,[.int i,.int j,.int c],_,P=>c = -1/\dX i/\dX j/\P [] (oJ i (i-j).toNat)
 |some .zip,[x,y],st,P=>dP x st fun as xs=>dP y st fun bs ys=>P (as++bs) (zip2 xs ys)
 |some .enum,[x],st,P=>dP x st fun as xs=>P as (VL 0 xs)
 |some .rev,[x],st,P=>dP x st fun as xs=>P as xs.reverse
 |_,_,_,_=>False
def boolsOf:List D->Option (List Bool)
 |[]=>some []
 |.bl b::r=>(boolsOf r).map (b :: ·)
 |_=>none
def intsOf:List D->Option (List Int)
 |[]=>some []
 |.int i::r=>(intsOf r).map (i :: ·)
 |_=>none
def qL:D->aB->(Nat->Prop)->Prop
 |.tup ds,_,P=>P ds.length
 |.str x,_,P=>x.length<=aZ/\P x.length
 |.ref a,st,P=>eT st a (fun ds=>P ds.length) fun ks _=>P ks.length
 |.bP ds,_,P=>P ds.length
 |_,_,_=>False
def Dy:Int->List Int->Int
 |m,[]=>m
 |m,i::r=>Dy (if i>m then i else m) r
def Dq:Int->List Int->Int
 |m,[]=>m
 |m,i::r=>Dq (if i<m then i else m) r
def fD:BI->List D->aB->VK->Prop
 |.all,xs,st,Q=>dA (boolsOf xs) fun bs=>Q (.bl (bs.all id)) st
 |.any,xs,st,Q=>dA (boolsOf xs) fun bs=>Q (.bl (bs.any id)) st
 |.max,xs,st,Q=>dA (intsOf xs) fun is=>match is with
  |i::r=>Q (.int (Dy i r)) st
  |[]=>False
 |.min,xs,st,Q=>dA (intsOf xs) fun is=>match is with
  |i::r=>Q (.int (Dq i r)) st
  |[]=>False
 |.sum,xs,st,Q=>dA (intsOf xs) fun is=>Q (.int is.sum) st
 |.list,xs,st,Q=>iE xs st Q
 |.tuple,xs,st,Q=>xs.length<=aZ/\Q (.tup xs) st
 |_,_,_,_=>False
def strsOf:List D->Option (List (List Nat))
 |[]=>some []
 |.str w::r=>(strsOf r).map (w :: ·)
 |_=>none
def AA:List (List Nat)->List (List Nat)->Nat
 |_,[]=>0
 |seen,w::r=>(if seen.any (·== w)then 0 else 1)+AA (seen++[w]) r
def gT:BI->List D->aB->VK->Prop
 |.len,[d],st,Q=>qL d st fun n=>Q (.int (n:Nat)) st
 |.sU,[.tup ds],st,Q=>dA (strsOf ds) fun ws=>ws.length<4000/\Q (.int (AA [] ws:Nat)) st
 |.max,[.int i,.int j],st,Q=>Q (.int (if j>i then j else i)) st
 |.min,[.int i,.int j],st,Q=>Q (.int (if j<i then j else i)) st
 |.abs,[.int i],st,Q=>Q (.int (if i<0 then -i else i)) st
 |.int,[.int i],st,Q=>Q (.int i) st
 |.int,[.bl b],st,Q=>Q (.int (if b then 1 else 0)) st
 |.bool,[.int i],st,Q=>Q (.bl (i != 0)) st
 |.bool,[.bl b],st,Q=>Q (.bl b) st
 |f,[d],st,Q=>dP d st fun _ xs=>fD f xs st Q
 |_,_,_,_=>False
def zL:D->aB->(List D->Prop)->Prop
 |.tup ds,_,K=>K ds
 |.ref a,st,K=>cP st a K
 |_,_,_=>False
def findD (st:aB)(d:D):List D->Option Nat
 |[]=>none
 |e::r=>if bT st e d=true then some 0 else(findD st d r).map (·+ 1)
def jQ:MT->D->List D->aB->VK->Prop
 |.append,.ref a,[d],st,Q=>cP st a fun xs=>xs.length<aZ/\Q .non (put st a (.lst (xs++[d])))
 |.extend,.ref a,[d],st,Q=>cP st a fun xs=>zL d st fun ys=>xs.length+ys.length<=aZ/\Q .non (put st a (.lst (xs++ys)))
 |.pop,.ref a,[],st,Q=>cP st a fun xs=>dA (xs[xs.length-1]?) fun d=>Q d (put st a (.lst xs.dropLast))
 |.index,x,[d],st,Q=>dP x st fun _ ds=>plainS st d/\dW st ds/\dA (findD st d ds) fun i=>Q (.int (i:Nat)) st
 |_,_,_,_,_=>False
def AD:MT->D->aB->Prop
 |.append,.ref a,st=>cP st a fun _=>True
 |.extend,.ref a,st=>cP st a fun _=>True
 |.pop,.ref a,st=>cP st a fun _=>True
 |.index,x,st=>dP x st fun _ _=>True
 |_,_,_=>False
def kM:Bool->List Nat->D->St->(St->Prop)->Prop
 |true,[i],x,σ,P=>P (σ.set i (some x))
 |false,is,.tup ds,σ,P=>ds.length=is.length/\P ((is.zip ds).foldl (fun σ p=>σ.set p.1 (some p.2)) σ)
 |_,_,_,_,_=>False
def jS (g:aB->Prop)(turn:D->aB->(Option D->aB->Prop)->Prop):List D->List D->aB->(List D->aB->Prop)->Prop
 |[],acc,st,R=>g st/\R acc st
 |x::xs,acc,st,R=>g st/\acc.length<aZ/\turn x st fun o aA=>jS g turn xs (match o with|none=>acc|some d=>acc++[d]) aA R
def same (as:List Nat)(st aA:aB):Prop:=∀ a∈as,aA a=st a
mutual
def aG (C:bO)(sub:Nat->Nat->Bool)(E:XK):Ex->St->aB->VK->Prop
 |.c d,_,st,Q=>Q d st
 |.v i,σ,st,Q=>gL σ i fun d=>Q d st
 |.tup es,σ,st,Q=>bG C sub E es σ st fun ds aA=>Q (.tup ds) aA
 |.lst es,σ,st,Q=>bG C sub E es σ st fun ds aA=>iE ds aA Q
 |.bin op a b,σ,st,Q=>aG C sub E a σ st fun x aC=>aG C sub E b σ aC fun y aH=>iB op x y aH Q
 |.neg a,σ,st,Q=>aG C sub E a σ st fun x aC=>zQ x aC Q
 |.cmp op a b,σ,st,Q=>aG C sub E a σ st fun x aC=>aG C sub E b σ aC fun y aH=>dD op x y aH fun k=>Q (.bl k) aH
 |.chain op op' a b c,σ,st,Q=>aG C sub E a σ st fun x aC=>aG C sub E b σ aC fun y aH=>dD op x y aH fun k =>
  if k=true then aG C sub E c σ aH fun z aV=>dD op' y z aV fun k=>Q (.bl k) aV else Q (.bl false) aH
 |.and_ a b,σ,st,Q=>aG C sub E a σ st fun x aC=>eI x aC fun k=>if k=true then aG C sub E b σ aC Q else Q x aC
 |.or_ a b,σ,st,Q=>aG C sub E a σ st fun x aC=>eI x aC fun k=>if k=true then Q x aC else aG C sub E b σ aC Q
 |.not_ a,σ,st,Q=>aG C sub E a σ st fun x aC=>eI x aC fun k=>Q (.bl (!k)) aC
 |.ite c a b,σ,st,Q=>aG C sub E c σ st fun x aC=>eI x aC fun k=>if k=true then aG C sub E a σ aC Q else aG C sub E b σ aC Q
 |.call f es,σ,st,Q=>bG C sub E es σ st fun ds aA=>C f ds aA Q E
 |.bi f es,σ,st,Q=>bG C sub E es σ st fun ds aA=>gT f ds aA Q
 |.isi a ts,σ,st,Q=>aG C sub E a σ st fun x aC=>xI sub x aC ts fun k=>Q (.bl k) aC
 |.bW m o es,σ,st,Q=>aG C sub E o σ st fun x aC=>AD m x aC/\bG C sub E es σ aC fun ds aH=>jQ m x ds aH Q
 |.ix a b,σ,st,Q=>aG C sub E a σ st fun x aC=>aG C sub E b σ aC fun y aH=>oG x y aH Q
 |.sl a lo hi,σ,st,Q=>aG C sub E a σ st fun x aC=>bG C sub E lo σ aC fun ls aH=>nN ls fun l=>bG C sub E hi σ aH fun hs aV=>nN hs fun h=>D2 x l h aV Q
 |.bit f k es,σ,st,Q=>bG C sub E es σ st fun ds aC=>gN (some k) ds aC fun _ xs=>fD f xs aC Q
 |.comp n bH tg one k aD ifs elt,σ,st,Q=>bG C sub E aD σ st fun ds aC=>gN k ds aC fun as xs =>
  jS (same as aC) (fun x aH K=>kM one tg x (List.replicate n none++bH.map fun i=>(σ[i]?).getD none) fun σ' =>
  fH C sub E ifs σ' aH fun b aV=>if b=true then aG C sub E elt σ' aV fun d cJ=>K (some d) cJ else K none aV) xs [] aC fun ds cR=>iE ds cR Q
 |.dic _ _,_,_,_=>False
 |.fld c f o,σ,st,Q=>aG C sub E o σ st fun x aC=>qF c f x aC Q
 |.mk c f es,σ,st,Q=>bG C sub E es σ st fun ds aC=>∀ p,aC p=none->C f (.ref p::ds) (put aC p (.ins c [])) (fun d aH=>d=.non/\Q (.ref p) aH) E
 |.mcl c m f o es,σ,st,Q=>aG C sub E o σ st fun x aC=>EH c m x aC/\bG C sub E es σ aC fun ds aH=>C f (x::ds) aH Q E
 |.dnew,σ,st,Q=>∀ p,st p=none->Q (.ref p) (put st p (.tab [] []))
 |.din neg k d,σ,st,Q=>aG C sub E k σ st fun x aC=>aG C sub E d σ aC fun y aH=>wK x y aH fun b=>Q (.bl (if neg=true then !b else b)) aH
 |.dix d k,σ,st,Q=>aG C sub E d σ st fun y aC=>aG C sub E k σ aC fun x aH=>rV x y aH Q
def bG (C:bO)(sub:Nat->Nat->Bool)(E:XK):List Ex->St->aB->(List D->aB->Prop)->Prop
 |[],_,st,Q=>Q [] st
 |e::es,σ,st,Q=>aG C sub E e σ st fun d aA=>bG C sub E es σ aA fun ds aY=>Q (d::ds) aY
/-- all tests, one after another -/
def fH (C:bO)(sub:Nat->Nat->Bool)(E:XK):List Ex->St->aB->(Bool->aB->Prop)->Prop
 |[],_,st,Q=>Q true st
 |e::es,σ,st,Q=>aG C sub E e σ st fun d aA=>eI d aA fun k=>if k=true then fH C sub E es σ aA Q else Q false aA
end
structure iK where
 nx:St->aB->Prop
 rt:D->aB->Prop
 bk:St->aB->Prop
 ct:St->aB->Prop
 ex:Nat->St->aB->Prop
def notRef:D->Prop
 |.ref _=>False
 |_=>True
def CF:D->D->D->aB->(aB->Prop)->Prop
 |.ref a,.int k,v,st,Q=>cP st a fun xs=>dA (oC xs.length k) fun j=>Q (put st a (.lst (xs.set j v)))
 |_,_,_,_,_=>False
def fX (C:bO)(sub:Nat->Nat->Bool)(E:XK):Tg->D->St->aB->(St->aB->Prop)->Prop
 |.nm i,d,σ,st,Q=>Q (σ.set i (some d)) st
 |.tp is,d,σ,st,Q=>kM false is d σ fun σ'=>Q σ' st
 |.ix o i,d,σ,st,Q=>aG C sub E o σ st fun x aC=>aG C sub E i σ aC fun y aH=>CF x y d aH fun aV=>Q σ aV
 |.fl c f o,d,σ,st,Q=>aG C sub E o σ st fun x aC=>DI c f d x aC fun aH=>Q σ aH
 |.dk o i,d,σ,st,Q=>aG C sub E o σ st fun x aC=>aG C sub E i σ aC fun y aH=>DB y d x aH fun aV=>Q σ aV
def rY (g:aB->Prop)(turn:D->(St->aB->Prop)->St->aB->Prop)(N:St->aB->Prop):List D->St->aB->Prop
 |[],σ,st=>g st/\N σ st
 |x::xs,σ,st=>g st/\turn x (rY g turn N xs) σ st
def pT (turn:(St->aB->Prop)->St->aB->Prop):Nat->St->aB->Prop
 |0,_,_=>False
 |n+1,σ,st=>turn (pT turn n) σ st
def KP (n:Option Nat)(o:Option D)(σ:St):St:=match n with
 |some i=>σ.set i o
 |none=>σ
def Ni (sub:Nat->Nat->Bool)(c:Nat)(n:Option Nat)(P:iK)(h:iK->St->aB->Prop):iK :=
 ⟨P.nx,P.rt,P.bk,P.ct,fun c' σ' aA=>if sub c' c=true then
 h ⟨fun σ2 aH=>P.nx (KP n none σ2) aH,P.rt,fun _ _=>False,fun _ _=>False,fun _ _ _=>False⟩ (KP n (some (.exc c')) σ') aA else P.ex c' σ' aA⟩
def IY:bO:=fun _ _ _ _ _=>False
mutual
def wpS (C:bO)(sub:Nat->Nat->Bool):Sx->iK->St->aB->Prop
 |.ex e,P,σ,st=>aG C sub (fun c aA=>P.ex c σ aA) e σ st fun _ aA=>P.nx σ aA
 |.asg t e,P,σ,st=>aG C sub (fun c aA=>P.ex c σ aA) e σ st fun d aA=>fX C sub (fun c aA=>P.ex c σ aA) t d σ aA P.nx
 |.aug i op e,P,σ,st=>gL σ i fun x=>aG C sub (fun c aA=>P.ex c σ aA) e σ st fun y aA=>notRef x/\iB op x y aA fun d aY=>P.nx (σ.set i (some d)) aY
 |.iff c a b,P,σ,st=>aG C sub (fun c aA=>P.ex c σ aA) c σ st fun d aA=>eI d aA fun k=>if k=true then cN C sub a P σ aA else cN C sub b P σ aA
 |.whl c b,P,σ,st=>∃ n,pT (fun next σ st=>aG C sub (fun c aA=>P.ex c σ aA) c σ st fun d aA=>eI d aA fun k =>
  if k=true then cN C sub b { P with nx:=next,ct:=next,bk:=P.nx } σ aA else P.nx σ aA) n σ st
 |.gQ t k aD b,P,σ,st=>bG C sub (fun c aA=>P.ex c σ aA) aD σ st fun ds aC=>gN k ds aC fun as xs=>rY (same as aC) (fun x next σ st=>fX C sub (fun c aA=>P.ex c σ aA) t x σ st fun σ' aA=>cN C sub b { P with nx:=next,ct:=next,bk:=P.nx } σ' aA) P.nx xs σ aC
 |.ret e,P,σ,st=>aG C sub (fun c aA=>P.ex c σ aA) e σ st P.rt
 |.brk,P,σ,st=>P.bk σ st
 |.cnt,P,σ,st=>P.ct σ st
 |.pass,P,σ,st=>P.nx σ st
 |.rais c es,P,σ,st=>bG C sub (fun c aA=>P.ex c σ aA) es σ st fun _ aA=>P.ex c σ aA
 |.tryy b c n h,P,σ,st=>cN C sub b (Ni sub c n P fun P' σ' aA=>cN IY sub h P' σ' aA) σ st
def cN (C:bO)(sub:Nat->Nat->Bool):List Sx->iK->St->aB->Prop
 |[],P,σ,st=>P.nx σ st
 |s::ss,P,σ,st=>wpS C sub s { P with nx:=cN C sub ss P } σ st
end
def start (np nl:Nat)(ds:List D):St:=ds.map some++List.replicate (nl-np) none
def aM (G:Prog):Nat->bO
 |0=>fun _ _ _ _ _=>False
 |k+1=>fun f ds st Q E=>match G.fns f with
 |none=>False
 |some fn=>ds.length=fn.np/\cN (aM G k) G.sub fn.body ⟨fun _ aA=>Q .non aA,Q,fun _ _=>False,fun _ _=>False,fun c _ aA=>E c aA⟩ (start fn.np fn.nl ds) st
end L3
end
section
namespace L3
theorem HB {σ:St}{i:Nat}{Q Q':D->Prop}(h:∀ d,Q d->Q' d):gL σ i Q->gL σ i Q':=by
 unfold gL;split
 ·exact h _
 ·exact id
theorem nQ {st:aB}{a:Nat}{K K':List D->Prop}{M M':List D->List D->Prop}(h:∀ ds,K ds->K' ds)(h':∀ ks vs,M ks vs->M' ks vs):eT st a K M->eT st a K' M':=by
 unfold eT;split
 ·exact h _
 ·exact h' _ _
 ·exact id
theorem eV {st:aB}{a:Nat}{K K':List D->Prop}(h:∀ ds,K ds->K' ds):cP st a K->cP st a K':=by
 unfold cP;split
 ·exact h _
 ·exact id
theorem eR {α:Type}{o:Option α}{K K':α->Prop}(h:∀ x,K x->K' x):dA o K->dA o K':=by
 unfold dA;split
 ·exact h _
 ·exact id
theorem jI {d:D}{st:aB}{P P':Bool->Prop}(h:∀ b,P b->P' b):eI d st P->eI d st P':=by
 unfold eI;split
 all_goals first|exact h _|exact id|exact(fun x=>⟨x.1,h _ x.2⟩)|exact nQ (fun _=>h _) fun _ _=>h _
theorem pF {ds:List D}{st:aB}{Q Q':VK}(h:∀ d st,Q d st->Q' d st):iE ds st Q->iE ds st Q':=fun x=>⟨x.1,fun p hp=>h _ _ (x.2 p hp)⟩
theorem HG {op:vC}{x y:D}{st:aB}{Q Q':VK}(h:∀ d st,Q d st->Q' d st):iB op x y st Q->iB op x y st Q':=by
 unfold iB
 split
 all_goals first|exact h _ _|exact id|exact(fun z=>⟨z.1,h _ _ z.2⟩)|exact eV (fun _=>eV fun _=>pF h)|exact eV (fun _ z=>⟨z.1,z.2.1,pF h z.2.2⟩)
theorem PX {x:D}{st:aB}{Q Q':VK}(h:∀ d st,Q d st->Q' d st):zQ x st Q->zQ x st Q':=by
 unfold zQ;split
 ·exact h _ _
 ·exact id
theorem JM {x y:D}{st:aB}{P P':Bool->Prop}(h:∀ b,P b->P' b):VH x y st P->VH x y st P':=fun z=>⟨z.1,z.2.1,h _ z.2.2⟩
theorem LI {x y:D}{st:aB}{P P':Bool->Prop}(h:∀ b,P b->P' b):K2 x y st P->K2 x y st P':=by
 unfold K2
 split
 all_goals first|exact(fun z=>⟨z.1,z.2.1,h _ z.2.2⟩)|exact h _|exact id|exact nQ (fun _ z=>⟨z.1,z.2.1,h _ z.2.2⟩) fun _ _ z=>⟨z.1,z.2.1,h _ z.2.2⟩
theorem tU {f:Int->Int->Bool}{x y:D}{P P':Bool->Prop}(h:∀ b,P b->P' b):wO f x y P->wO f x y P':=by
 unfold wO;split
 ·exact h _
 ·exact id
theorem IC {x y:D}{P P':Bool->Prop}(h:∀ b,P b->P' b):DA x y P->DA x y P':=by
 unfold DA
 split
 all_goals first|exact h _|exact id
theorem yM {op:rJ}{x y:D}{st:aB}{P P':Bool->Prop}(h:∀ b,P b->P' b):dD op x y st P->dD op x y st P':=by
 cases op
 ·exact JM h
 ·exact JM fun b=>h (!b)
 ·exact tU h
 ·exact tU h
 ·exact tU h
 ·exact tU h
 ·exact IC h
 ·exact IC fun b=>h (!b)
 ·exact LI h
 ·exact LI fun b=>h (!b)
theorem C7 {sub:Nat->Nat->Bool}{x:D}{st:aB}{t:Ty}{P P':Bool->Prop}(h:∀ b,P b->P' b):jL sub x st t P->jL sub x st t P':=by
 unfold jL
 split
 all_goals first|exact h _|exact id|exact nQ (fun _=>h _) fun _ _=>h _
theorem FQ {sub:Nat->Nat->Bool}{x:D}{st:aB}{P P':Bool->Prop}(h:∀ b,P b->P' b):∀{ts:List Ty},xI sub x st ts P->xI sub x st ts P'
 |[]=>id
 |[t]=>C7 h
 |t::u::ts=>by
  unfold xI
  refine C7 fun b=>?_
  split
  ·exact h _
  ·exact FQ h
theorem UT {x y:D}{st:aB}{Q Q':VK}(h:∀ d st,Q d st->Q' d st):oG x y st Q->oG x y st Q':=by
 unfold oG
 split
 all_goals first|exact id|exact eR (fun _=>h _ _)|exact(fun z=>⟨z.1,eR (fun _=>h _ _) z.2⟩)|exact(fun z=>⟨z.1,z.2.1,eR (fun _=>h _ _) z.2.2⟩)|skip
 refine nQ (fun _=>?_) (fun _ _ z=>⟨z.1,z.2.1,eR (fun _=>h _ _) z.2.2⟩)
 split
 ·exact eR fun _=>h _ _
 ·exact id
theorem DO {ds:List D}{P P':Option Int->Prop}(h:∀ o,P o->P' o):nN ds P->nN ds P':=by
 unfold nN;split
 all_goals first|exact h _|exact id
theorem SO {x:D}{lo hi:Option Int}{st:aB}{Q Q':VK}(h:∀ d st,Q d st->Q' d st):D2 x lo hi st Q->D2 x lo hi st Q':=by
 unfold D2
 split
 ·exact h _ _
 ·exact eV fun _ z p hp=>h _ _ (z p hp)
 ·exact id
theorem OS {d:D}{st:aB}{K K':List Nat->List D->Prop}(h:∀ as xs,K as xs->K' as xs):oZ d st K->oZ d st K':=by
 unfold oZ
 split
 all_goals first|exact h _ _|exact id|exact(fun z=>⟨z.1,h _ _ z.2⟩)|exact eV (fun _=>h _ _)
theorem mW {d:D}{st:aB}{K K':List Nat->List D->Prop}(h:∀ as xs,K as xs->K' as xs):dP d st K->dP d st K':=by
 unfold dP
 split
 all_goals first|exact h _ _|exact id|exact eV (fun _=>h _ _)
theorem zB {k:Option IK}{ds:List D}{st:aB}{P P':List Nat->List D->Prop}(h:∀ as xs,P as xs->P' as xs):gN k ds st P->gN k ds st P':=by
 unfold gN
 split
 ·exact OS h
 ·exact fun z=>⟨z.1,h _ _ z.2⟩
 ·exact fun z=>⟨z.1,z.2.1,h _ _ z.2.2⟩
 ·exact fun z=>⟨z.1,z.2.1,z.2.2.1,h _ _ z.2.2.2⟩
 ·exact mW fun _ _=>mW fun _ _=>h _ _
 ·exact mW fun _ _=>h _ _
 ·exact mW fun _ _=>h _ _
 ·exact id
theorem Q9 {d:D}{st:aB}{P P':Nat->Prop}(h:∀ n,P n->P' n):qL d st P->qL d st P':=by
 unfold qL
 split
 all_goals first|exact h _|exact id|exact(fun z=>⟨z.1,h _ z.2⟩)|exact nQ (fun _=>h _) fun _ _=>h _
theorem BU {f:BI}{xs:List D}{st:aB}{Q Q':VK}(h:∀ d st,Q d st->Q' d st):fD f xs st Q->fD f xs st Q':=by
 unfold fD
 split
 all_goals first|exact id|exact pF h|exact(fun z=>⟨z.1,h _ _ z.2⟩)|exact eR (fun _=>h _ _)|skip
 all_goals refine eR fun is=>?_
 all_goals cases is
 all_goals first|exact id|exact h _ _
theorem SK {f:BI}{ds:List D}{st:aB}{Q Q':VK}(h:∀ d st,Q d st->Q' d st):gT f ds st Q->gT f ds st Q':=by
 unfold gT
 split
 all_goals first|exact id|exact h _ _|exact Q9 (fun _=>h _ _)|exact mW (fun _ _=>BU h)|exact eR (fun _ z=>⟨z.1,h _ _ z.2⟩)
theorem Q4 {d:D}{st:aB}{K K':List D->Prop}(h:∀ xs,K xs->K' xs):zL d st K->zL d st K':=by
 unfold zL
 split
 all_goals first|exact h _|exact id|exact eV h
theorem NL {m:MT}{o:D}{ds:List D}{st:aB}{Q Q':VK}(h:∀ d st,Q d st->Q' d st):jQ m o ds st Q->jQ m o ds st Q':=by
 unfold jQ
 split
 ·exact eV fun _ z=>⟨z.1,h _ _ z.2⟩
 ·exact eV fun _=>Q4 fun _ z=>⟨z.1,h _ _ z.2⟩
 ·exact eV fun _=>eR fun _=>h _ _
 ·exact mW fun _ _ z=>⟨z.1,z.2.1,eR (fun _=>h _ _) z.2.2⟩
 ·exact id
theorem DZ {one:Bool}{tg:List Nat}{x:D}{σ:St}{P P':St->Prop}(h:∀ σ,P σ->P' σ):kM one tg x σ P->kM one tg x σ P':=by
 unfold kM
 split
 ·exact h _
 ·exact fun z=>⟨z.1,h _ z.2⟩
 ·exact id
theorem C9 {g:aB->Prop}{turn uB:D->aB->(Option D->aB->Prop)->Prop}{R R':List D->aB->Prop}
 (ht:∀ x st K K',(∀ o st,K o st->K' o st)->turn x st K->uB x st K')(h:∀ ds st,R ds st->R' ds st):∀{xs acc:List D}{st:aB},jS g turn xs acc st R->jS g uB xs acc st R'
 |[],_,_,z=>⟨z.1,h _ _ z.2⟩
 |_::_,_,_,z=>⟨z.1,z.2.1,ht _ _ _ _ (fun _ _ y=>C9 ht h y) z.2.2⟩
theorem CU {st:aB}{a:Nat}{K K':List Nat->List (List Nat×D)->Prop}(h:∀ c fs,K c fs->K' c fs):nR st a K->nR st a K':=by
 unfold nR;split
 ·exact h _ _
 ·exact id
theorem vY {st:aB}{a:Nat}{K K':List D->List D->Prop}(h:∀ c fs,K c fs->K' c fs):tabAt st a K->tabAt st a K':=by
 unfold tabAt;split
 ·exact h _ _
 ·exact id
theorem QF {c f:List Nat}{x:D}{st:aB}{Q Q':VK}(h:∀ d st,Q d st->Q' d st):qF c f x st Q->qF c f x st Q':=by
 unfold qF;split
 ·exact CU fun _ _ z=>⟨z.1,eR (fun _=>h _ _) z.2⟩
 ·exact id
theorem TB {c f:List Nat}{v x:D}{st:aB}{Q Q':aB->Prop}(h:∀ st,Q st->Q' st):DI c f v x st Q->DI c f v x st Q':=by
 unfold DI;split
 ·exact CU fun _ _ z=>⟨z.1,z.2.1,h _ z.2.2⟩
 ·exact id
theorem RY {x y:D}{st:aB}{P P':Bool->Prop}(h:∀ b,P b->P' b):wK x y st P->wK x y st P':=by
 unfold wK;split
 ·exact vY fun _ _ z=>⟨z.1,h _ z.2⟩
 ·exact id
theorem RQ {x y:D}{st:aB}{Q Q':VK}(h:∀ d st,Q d st->Q' d st):rV x y st Q->rV x y st Q':=by
 unfold rV;split
 ·exact vY fun _ _ z=>⟨z.1,eR (fun _=>h _ _) z.2⟩
 ·exact id
theorem SW {x v y:D}{st:aB}{Q Q':aB->Prop}(h:∀ st,Q st->Q' st):DB x v y st Q->DB x v y st Q':=by
 unfold DB;split
 ·exact vY fun _ _ z=>⟨z.1,z.2.1,z.2.2.1,h _ z.2.2.2⟩
 ·exact id
def bX (C C':bO):Prop:=∀ f ds st Q Q' E E',(∀ d st,Q d st->Q' d st)->(∀ c st,E c st->E' c st)->C f ds st Q E->C' f ds st Q' E'
mutual
theorem aW {C C':bO}{sub}{E E':XK}(hC:bX C C')(hE:∀ c st,E c st->E' c st):∀(e:Ex){σ:St}{st:aB}{Q Q':VK},(∀ d st,Q d st->Q' d st)->aG C sub E e σ st Q->aG C' sub E' e σ st Q'
 |.c d,σ,st,Q,Q',h=>by simp only[aG];exact h _ _
 |.v i,σ,st,Q,Q',h=>by simp only[aG];exact HB fun d=>h _ _
 |.tup es,σ,st,Q,Q',h=>by simp only[aG];exact cY hC hE es fun _ _=>h _ _
 |.lst es,σ,st,Q,Q',h=>by simp only[aG];exact cY hC hE es fun _ _=>pF h
 |.bin op a b,σ,st,Q,Q',h=>by simp only[aG];exact aW hC hE a fun _ _=>aW hC hE b fun _ _=>HG h
 |.neg a,σ,st,Q,Q',h=>by
  simp only[aG];exact aW hC hE a fun _ _=>PX h
 |.cmp op a b,σ,st,Q,Q',h=>by simp only[aG];exact aW hC hE a fun _ _=>aW hC hE b fun _ _=>yM fun _=>h _ _
 |.chain op op' a b c,σ,st,Q,Q',h=>by
  simp only[aG];refine aW hC hE a fun _ _=>aW hC hE b fun _ _=>yM fun k=>?_
  split
  ·exact aW hC hE c fun _ _=>yM fun _=>h _ _
  ·exact h _ _
 |.and_ a b,σ,st,Q,Q',h=>by
  simp only[aG];refine aW hC hE a fun _ _=>jI fun k=>?_
  split
  ·exact aW hC hE b h
  ·exact h _ _
 |.or_ a b,σ,st,Q,Q',h=>by
  simp only[aG];refine aW hC hE a fun _ _=>jI fun k=>?_
  split
  ·exact h _ _
  ·exact aW hC hE b h
 |.not_ a,σ,st,Q,Q',h=>by simp only[aG];exact aW hC hE a fun _ _=>jI fun k=>h _ _
 |.ite c a b,σ,st,Q,Q',h=>by
  simp only[aG];refine aW hC hE c fun _ _=>jI fun k=>?_
  split
  ·exact aW hC hE a h
  ·exact aW hC hE b h
 |.call f es,σ,st,Q,Q',h=>by simp only[aG];exact cY hC hE es fun _ _=>hC _ _ _ _ _ _ _ h hE
 |.bi f es,σ,st,Q,Q',h=>by simp only[aG];exact cY hC hE es fun _ _=>SK h
 |.isi a ts,σ,st,Q,Q',h=>by simp only[aG];exact aW hC hE a fun _ _=>FQ fun _=>h _ _
 |.bW m o es,σ,st,Q,Q',h=>by simp only[aG];exact aW hC hE o fun _ _ z=>⟨z.1,cY hC hE es (fun _ _=>NL h) z.2⟩
 |.ix a b,σ,st,Q,Q',h=>by simp only[aG];exact aW hC hE a fun _ _=>aW hC hE b fun _ _=>UT h
 |.sl a lo hi,σ,st,Q,Q',h=>by simp only[aG];exact aW hC hE a fun _ _=>cY hC hE lo fun _ _=>DO fun _=>cY hC hE hi fun _ _=>DO fun _=>SO h
 |.bit f k es,σ,st,Q,Q',h=>by simp only[aG];exact cY hC hE es fun _ _=>zB fun _ _=>BU h
 |.comp n bH tg one k aD ifs elt,σ,st,Q,Q',h=>by
  simp only[aG];refine cY hC hE aD fun d aC=>zB fun as xs=>?_
  intro z
  refine C9 (fun x st K K' hK=>?_) (fun _ _=>pF h) z
  refine DZ fun σ'=>GA hC hE ifs fun b st=>?_
  split
  ·exact aW hC hE elt fun _ _=>hK _ _
  ·exact hK _ _
 |.dic _ _,σ,st,Q,Q',h=>by simp only[aG];exact id
 |.fld c f o,σ,st,Q,Q',h=>by simp only[aG];exact aW hC hE o fun _ _=>QF h
 |.mk c f es,σ,st,Q,Q',h=>by simp only[aG];exact cY hC hE es fun _ _ z p hp=>hC _ _ _ _ _ _ _ (fun _ _ y=>⟨y.1,h _ _ y.2⟩) hE (z p hp)
 |.mcl c m f o es,σ,st,Q,Q',h=>by simp only[aG];exact aW hC hE o fun _ _ z=>⟨z.1,cY hC hE es (fun _ _=>hC _ _ _ _ _ _ _ h hE) z.2⟩
 |.dnew,σ,st,Q,Q',h=>by simp only[aG];exact fun z p hp=>h _ _ (z p hp)
 |.din neg k d,σ,st,Q,Q',h=>by simp only[aG];exact aW hC hE k fun _ _=>aW hC hE d fun _ _=>RY fun _=>h _ _
 |.dix d k,σ,st,Q,Q',h=>by simp only[aG];exact aW hC hE d fun _ _=>aW hC hE k fun _ _=>RQ h
theorem cY {C C':bO}{sub}{E E':XK}(hC:bX C C')(hE:∀ c st,E c st->E' c st):∀(es:List Ex){σ:St}{st:aB}{Q Q':List D->aB->Prop},(∀ d st,Q d st->Q' d st)->bG C sub E es σ st Q->bG C' sub E' es σ st Q'
 |[],σ,st,Q,Q',h=>by simp only[bG];exact h _ _
 |e::es,σ,st,Q,Q',h=>by simp only[bG];exact aW hC hE e fun _ _=>cY hC hE es fun _ _=>h _ _
theorem GA {C C':bO}{sub}{E E':XK}(hC:bX C C')(hE:∀ c st,E c st->E' c st):∀(es:List Ex){σ:St}{st:aB}{Q Q':Bool->aB->Prop},(∀ d st,Q d st->Q' d st)->fH C sub E es σ st Q->fH C' sub E' es σ st Q'
 |[],σ,st,Q,Q',h=>by simp only[fH];exact h _ _
 |e::es,σ,st,Q,Q',h=>by
  simp only[fH];refine aW hC hE e fun _ _=>jI fun k=>?_
  split
  ·exact GA hC hE es h
  ·exact h _ _
end
structure iK.Le (P P':iK):Prop where
 nx:∀ σ st,P.nx σ st->P'.nx σ st
 rt:∀ d st,P.rt d st->P'.rt d st
 bk:∀ σ st,P.bk σ st->P'.bk σ st
 ct:∀ σ st,P.ct σ st->P'.ct σ st
 ex:∀ c σ st,P.ex c σ st->P'.ex c σ st
theorem QZ {o i v:D}{st:aB}{Q Q':aB->Prop}(h:∀ st,Q st->Q' st):CF o i v st Q->CF o i v st Q':=by
 unfold CF
 split
 ·exact eV fun _=>eR fun _=>h _
 ·exact id
theorem vW {C C':bO}{sub}{E E':XK}(hC:bX C C')(hE:∀ c st,E c st->E' c st){d:D}{Q Q':St->aB->Prop}(h:∀ σ st,Q σ st->Q' σ st):∀(t:Tg){σ:St}{st:aB},fX C sub E t d σ st Q->fX C' sub E' t d σ st Q'
 |.nm i,_,_=>by simp only[fX];exact h _ _
 |.tp is,_,_=>by simp only[fX];exact DZ fun _=>h _ _
 |.ix o i,_,_=>by simp only[fX];exact aW hC hE o fun _ _=>aW hC hE i fun _ _=>QZ fun _=>h _ _
 |.fl c f o,_,_=>by simp only[fX];exact aW hC hE o fun _ _=>TB fun _=>h _ _
 |.dk o i,_,_=>by simp only[fX];exact aW hC hE o fun _ _=>aW hC hE i fun _ _=>SW fun _=>h _ _
theorem GP {g:aB->Prop}{turn uB:D->(St->aB->Prop)->St->aB->Prop}{N N':St->aB->Prop}
 (ht:∀ x M M' σ st,(∀ σ st,M σ st->M' σ st)->turn x M σ st->uB x M' σ st)(h:∀ σ st,N σ st->N' σ st):∀{xs:List D}{σ:St}{st:aB},rY g turn N xs σ st->rY g uB N' xs σ st
 |[],_,_,z=>⟨z.1,h _ _ z.2⟩
 |_::_,_,_,z=>⟨z.1,ht _ _ _ _ _ (fun _ _=>GP ht h) z.2⟩
theorem BS {turn uB:(St->aB->Prop)->St->aB->Prop}(ht:∀ M M' σ st,(∀ σ st,M σ st->M' σ st)->turn M σ st->uB M' σ st):∀{n:Nat}{σ:St}{st:aB},pT turn n σ st->pT uB n σ st
 |0,_,_,z=>z
 |n+1,_,_,z=>ht _ _ _ _ (fun _ _=>BS ht) z
theorem LW:bX IY IY:=fun _ _ _ _ _ _ _ _ _ x=>x
mutual
theorem wpS_mono {C C':bO}{sub}(hC:bX C C'):∀(s:Sx){P P':iK}{σ:St}{st:aB},P.Le P'->wpS C sub s P σ st->wpS C' sub s P' σ st
 |.ex e,P,P',σ,st,h=>by simp only[wpS];exact aW hC (fun _ _=>h.ex _ _ _) e fun _ _=>h.nx _ _
 |.asg t e,P,P',σ,st,h=>by simp only[wpS];exact aW hC (fun _ _=>h.ex _ _ _) e fun _ _=>vW hC (fun _ _=>h.ex _ _ _) h.nx t
 |.aug i op e,P,P',σ,st,h=>by
  simp only[wpS];exact HB fun x=>aW hC (fun _ _=>h.ex _ _ _) e fun _ _ z=>⟨z.1,HG (fun _ _=>h.nx _ _) z.2⟩
 |.iff c a b,P,P',σ,st,h=>by
  simp only[wpS];refine aW hC (fun _ _=>h.ex _ _ _) c fun _ _=>jI fun k=>?_
  split
  ·exact iT hC a h
  ·exact iT hC b h
 |.whl c b,P,P',σ,st,h=>by
  simp only[wpS]
  rintro⟨n,z⟩
  refine⟨n,BS (fun M M' σ st hM=>aW hC (fun _ _=>h.ex _ _ _) c fun _ _=>jI fun k=>?_) z⟩
  split
  ·exact iT hC b ⟨hM,h.rt,h.nx,hM,h.ex⟩
  ·exact h.nx _ _
 |.gQ t k aD b,P,P',σ,st,h=>by
  simp only[wpS];refine cY hC (fun _ _=>h.ex _ _ _) aD fun _ _=>zB fun as xs=>?_
  exact GP (fun x M M' σ st hM=>vW hC (fun _ _=>h.ex _ _ _) (fun _ _=>iT hC b (P:={ P with nx:=M,ct:=M,bk:=P.nx }) (P':={ P' with nx:=M',ct:=M',bk:=P'.nx }) ⟨hM,h.rt,h.nx,hM,h.ex⟩) t) h.nx
 |.ret e,P,P',σ,st,h=>by simp only[wpS];exact aW hC (fun _ _=>h.ex _ _ _) e h.rt
 |.brk,P,P',σ,st,h=>by simp only[wpS];exact h.bk _ _
 |.cnt,P,P',σ,st,h=>by simp only[wpS];exact h.ct _ _
 |.pass,P,P',σ,st,h=>by simp only[wpS];exact h.nx _ _
 |.rais c es,P,P',σ,st,h=>by simp only[wpS];exact cY hC (fun _ _=>h.ex _ _ _) es fun _ _=>h.ex _ _ _
 |.tryy b c n hh,P,P',σ,st,h=>by
  simp only[wpS]
  refine iT hC b ⟨h.nx,h.rt,h.bk,h.ct,fun c' σ st=>?_⟩
  show(if sub c' c=true then _ else _)->(if sub c' c=true then _ else _)
  split
  ·exact iT LW hh ⟨fun _ _=>h.nx _ _,h.rt,fun _ _=>id,fun _ _=>id,fun _ _ _=>id⟩
  ·exact h.ex _ _ _
theorem iT {C C':bO}{sub}(hC:bX C C'):∀(ss:List Sx){P P':iK}{σ:St}{st:aB},P.Le P'->cN C sub ss P σ st->cN C' sub ss P' σ st
 |[],P,P',σ,st,h=>by simp only[cN];exact h.nx _ _
 |s::ss,P,P',σ,st,h=>by simp only[cN];exact wpS_mono hC s ⟨fun _ _=>iT hC ss h,h.rt,h.bk,h.ct,h.ex⟩
end
theorem pQ (G:Prog):∀{j k:Nat},j<=k->bX (aM G j) (aM G k)
 |0,k,_=>fun _ _ _ _ _ _ _ _ _ x=>x.elim
 |j+1,0,h=>by omega
 |j+1,k+1,h=>fun f ds st Q Q' E E' hQ hE=>by
  simp only[aM]
  split
  ·exact id
  ·have hj:j<=k:=by omega
   exact fun z=>⟨z.1,iT (pQ G hj) _ (P:=⟨fun _ aA=>Q .non aA,Q,fun _ _=>False,fun _ _=>False,fun c _ aA=>E c aA⟩) (P':=⟨fun _ aA=>Q' .non aA,Q',fun _ _=>False,fun _ _=>False,fun c _ aA=>E' c aA⟩) ⟨fun _ _=>hQ _ _,hQ,fun _ _=>id,fun _ _=>id,fun _ _ _=>hE _ _⟩ z.2⟩
end L3
end
section
namespace L3
section
variable {C:bO}{sub:Nat->Nat->Bool}{E:XK}{σ:St}{st:aB}{Q:VK}{P:Bool->Prop}{e a b c:Ex}{es:List Ex}{x y:D}{i j:Int}{u v:List Nat}{ds xs ys ks vs:List D}{p q:Nat}{K:List D->Prop}{M:List D->List D->Prop}
theorem aF {R:iK}:cN C sub [] R σ st=R.nx σ st:=by simp only[cN]
theorem cU {R:iK}{s:Sx}{ss:List Sx}:cN C sub (s::ss) R σ st=wpS C sub s { R with nx:=cN C sub ss R } σ st:=by simp only[cN]
theorem cM (h:st p=some (.lst ds)):eT st p K M=K ds:=by unfold eT;rw[h]
theorem aE (h:st p=some (.lst ds)):cP st p K=K ds:=by unfold cP;rw[h]
theorem bB {α:Type}{x:α}{K:α->Prop}:dA (some x) K=K x:=rfl
theorem PM {α:Type}{K:α->Prop}:dA none K=False:=rfl
theorem Ef {d:D}{r:St}{R:D->Prop}:gL (some d::r) 0 R=R d:=rfl
theorem Cf {o:Option D}{r:St}{n:Nat}{R:D->Prop}:gL (o::r) (n+1) R=gL r n R:=rfl
theorem aP {o:MO}:put st p o p=some o:=by unfold put;rw[if_pos rfl]
theorem aJ {o:MO}(h:q≠p):put st p o q=st q:=by unfold put;rw[if_neg h]
theorem AK {o u:MO}(h:st p=none)(h':st q=some u):put st p o q=some u:=by
 rw[aJ];exact h'
 intro e;rw[e,h]at h';cases h'
theorem X0 {o u:MO}:put (put st p o) p u=put st p u:=by funext b;unfold put;split<;>rfl
theorem YX:eI .non st P=P false:=rfl
theorem EA {k:Bool}:eI (.bl k) st P=P k:=rfl
theorem W3:eI (.int i) st P=P (i != 0):=rfl
theorem V6:eI (.tup ds) st P=P (!ds.isEmpty):=rfl
theorem XI:eI (.ref p) st P=eT st p (fun ds=>P (!ds.isEmpty)) fun ks _=>P (!ks.isEmpty):=rfl
theorem TQ:eI (.bP ds) st P=P (!ds.isEmpty):=rfl
theorem ZK:dD .eq x y st P=(plainS st x/\plainS st y/\P (bT st x y)):=rfl
theorem Ab:dD .ne x y st P=(plainS st x/\plainS st y/\P (!bT st x y)):=rfl
theorem Ad:dD .lt (.int i) (.int j) st P=P (decide (i<j)):=rfl
theorem ZD:dD .le (.int i) (.int j) st P=P (decide (i<=j)):=rfl
theorem cmp_gt:dD .gt (.int i) (.int j) st P=P (decide (j<i)):=rfl
theorem Cp:dD .ge (.int i) (.int j) st P=P (decide (j<=i)):=rfl
theorem WM:dD .is_ x .non st P=P (HU x):=rfl
theorem W7 {k:Bool}:dD .is_ x (.bl k) st P=P (R9 k x):=rfl
theorem UK:dD .isnot x .non st P=P (!HU x):=rfl
theorem SX {k:Bool}:dD .isnot x (.bl k) st P=P (!R9 k x):=rfl
theorem OV:dD .in_ x (.tup ds) st P=(plainS st x/\dW st ds/\P (ds.any fun d=>bT st d x)):=rfl
theorem L6 {w:List Nat}:dD .in_ (.str w) (.dB ks vs) st P=P (ks.any fun d=>bU d (.str w)):=rfl
theorem NG:dD .in_ (.str u) (.str v) st P=P (occurs u v):=rfl
theorem L4:dD .fE x (.tup ds) st P=(plainS st x/\dW st ds/\P (!ds.any fun d=>bT st d x)):=rfl
theorem oW:dD .fE x (.ref p) st P=eT st p (fun ds=>plainS st x/\dW st ds/\P (!ds.any fun d=>bT st d x)) fun ks _=>plain x/\uO ks/\P (!ks.any fun d=>bU d x):=rfl
theorem JU {w:List Nat}:dD .fE (.str w) (.dB ks vs) st P=P (!ks.any fun d=>bU d (.str w)):=rfl
theorem LQ:dD .fE (.str u) (.str v) st P=P (!occurs u v):=rfl
theorem add_int:iB .add (.int i) (.int j) st Q=Q (.int (i+j)) st:=rfl
theorem add_str:iB .add (.str u) (.str v) st Q=(u.length+v.length<=aZ/\Q (.str (u++v)) st):=rfl
theorem FD:iB .add (.tup xs) (.tup ys) st Q=(xs.length+ys.length<=aZ/\Q (.tup (xs++ys)) st):=rfl
theorem WJ:iB .add (.ref p) (.ref q) st Q=cP st p fun xs=>cP st q fun ys=>iE (xs++ys) st Q:=rfl
theorem sub_int:iB .sub (.int i) (.int j) st Q=Q (.int (i-j)) st:=rfl
theorem mul_int:iB .mul (.int i) (.int j) st Q=((ED i∨ED j)/\Q (.int (i*j)) st):=rfl
theorem YV:iB .mul (.tup xs) (.int i) st Q=((0<xs.length/\xs.length<=1000/\1<=i/\i<1000)/\Q (.tup (List.replicate i.toNat xs).flatten) st):=rfl
theorem SG:iB .fdiv (.int i) (.int j) st Q=((0<j/\j<1073741824)/\Q (.int (i / j)) st):=rfl
theorem mod_int:iB .mod (.int i) (.int j) st Q=(0<j/\Q (.int (i % j)) st):=rfl
theorem pow_int:iB .pow (.int i) (.int j) st Q=((0<=j/\j<=1000000/\i.natAbs<18446744073709551616)/\Q (.int (i ^ j.toNat)) st):=rfl
theorem neg_int:zQ (.int i) st Q=Q (.int (-i)) st:=rfl
theorem ML {t:Ty}:xI sub x st [t] P=jL sub x st t P:=rfl
theorem X9 {t t':Ty}{ts:List Ty}:xI sub x st (t::t'::ts) P=jL sub x st t fun b=>if b=true then P true else xI sub x st (t'::ts) P:=rfl
theorem kS:oG (.tup ds) (.int i) st Q=dA (gC ds i) fun d=>Q d st:=rfl
theorem MQ:oG (.bP ds) (.int i) st Q=dA (gC ds i) fun d=>Q d st:=rfl
theorem IL:oG (.str u) (.int i) st Q=(u.length<=aZ/\dA (gC u i) fun c=>Q (.str [c]) st):=rfl
theorem W5 {w:List Nat}:oG (.dB ks vs) (.str w) st Q=dA (vT ks vs (.str w)) fun d=>Q d st:=rfl
theorem dZ (h:st p=some (.lst ds)):oG (.ref p) (.int i) st Q=dA (gC ds i) fun d=>Q d st:=by
 show eT st p _ _=_
 rw[cM h]
theorem dY {α:Type}{xs:List α}{n:Nat}(h:n<xs.length):gC xs (n:Int)=xs[n]?:=by
 unfold gC oC
 rw[if_pos (by omega),if_pos (by omega)]
 simp
theorem E5 {α:Type}{x:α}{r:List α}:gC (x::r) 0=some x:=dY (n:=0) (by simp)
theorem SM {α:Type}{x y:α}{r:List α}:gC (x::y::r) 1=some y:=dY (n:=1) (by simp)
theorem S7 {α:Type}{x y z:α}{r:List α}:gC (x::y::z::r) 2=some z:=dY (n:=2) (by simp)
theorem Mt {α:Type}{x y z w:α}{r:List α}:gC (x::y::z::w::r) 3=some w:=dY (n:=3) (by simp)
theorem Lc {α:Type}{x y z w t:α}{r:List α}:gC (x::y::z::w::t::r) 4=some t:=dY (n:=4) (by simp)
theorem Z1 {R:Option Int->Prop}:nN [] R=R none:=rfl
theorem Bn {R:Option Int->Prop}:nN [.int i] R=R (some i):=rfl
theorem LH {lo hi:Option Int}:D2 (.tup ds) lo hi st Q=Q (.tup (cut ds lo hi)) st:=rfl
theorem ZL {lo hi:Option Int}:D2 (.ref p) lo hi st Q=cP st p fun ds=>∀ p,st p=none->Q (.ref p) (put st p (.lst (cut ds lo hi))):=rfl
theorem Gi {α:Type}{d:α}{ds:List α}:cut (d::ds) (some 1) none=ds:=by simp [cut,cF]
theorem A0 {α:Type}{xs:List α}{lo hi:Option Int}:(cut xs lo hi).length<=xs.length:=by simp only[cut,List.length_take,List.length_drop];omega
theorem MC {R:List Nat->List D->Prop}:gN none [x] st R=oZ x st R:=rfl
theorem UG {R:List Nat->List D->Prop}:oZ (.tup ds) st R=R [] ds:=rfl
theorem UY {R:List Nat->List D->Prop}:oZ (.str u) st R=(u.length<=aZ/\R [] (u.map fun c=>.str [c])):=rfl
theorem mM {R:List Nat->List D->Prop}:oZ (.ref p) st R=cP st p fun ds=>R [p] ds:=rfl
theorem PZ {R:List Nat->List D->Prop}:oZ (.bP ds) st R=R [] ds:=rfl
theorem vR {R:List Nat->List D->Prop}:dP (.tup ds) st R=R [] ds:=rfl
theorem oN {R:List Nat->List D->Prop}:dP (.ref p) st R=cP st p fun ds=>R [p] ds:=rfl
theorem TF {R:List Nat->List D->Prop}:dP (.bP ds) st R=R [] ds:=rfl
theorem OL {R:List Nat->List D->Prop}:gN (some .range) [.int j] st R=(dX j/\R [] (lQ 0 j.toNat)):=rfl
theorem OG {R:List Nat->List D->Prop}:gN (some .range) [.int i,.int j] st R=(dX i/\dX j/\R [] (lQ i (j-i).toNat)):=rfl
theorem CZ {R:List Nat->List D->Prop}{c:Int}:gN (some .range) [.int i,.int j,.int c] st R=(c = -1/\dX i/\dX j/\R [] (oJ i (i-j).toNat)):=rfl
theorem YK {R:List Nat->List D->Prop}:gN (some .rev) [x] st R=dP x st fun as xs=>R as xs.reverse:=rfl
theorem Q2:gT .len [x] st Q=qL x st fun n=>Q (.int (n:Nat)) st:=rfl
theorem YE {R:Nat->Prop}:qL (.tup ds) st R=R ds.length:=rfl
theorem LC {R:Nat->Prop}:qL (.bP ds) st R=R ds.length:=rfl
theorem len_str {R:Nat->Prop}:qL (.str u) st R=(u.length<=aZ/\R u.length):=rfl
theorem ET {R:Nat->Prop}:qL (.ref p) st R=eT st p (fun ds=>R ds.length) fun ks _=>R ks.length:=rfl
theorem RU:gT .all [x] st Q=dP x st fun _ xs=>fD .all xs st Q:=by cases x<;>rfl
theorem QH:gT .any [x] st Q=dP x st fun _ xs=>fD .any xs st Q:=by cases x<;>rfl
theorem ZE:gT .max [x] st Q=dP x st fun _ xs=>fD .max xs st Q:=by cases x<;>rfl
theorem Z9:gT .min [x] st Q=dP x st fun _ xs=>fD .min xs st Q:=by cases x<;>rfl
theorem RW:gT .sum [x] st Q=dP x st fun _ xs=>fD .sum xs st Q:=by cases x<;>rfl
theorem MJ:gT .list [x] st Q=dP x st fun _ xs=>fD .list xs st Q:=by cases x<;>rfl
theorem J0:gT .tuple [x] st Q=dP x st fun _ xs=>fD .tuple xs st Q:=by cases x<;>rfl
theorem HI {ds:List D}:gT .sU [.tup ds] st Q=dA (strsOf ds) fun ws=>ws.length<4000/\Q (.int (AA [] ws:Nat)) st:=rfl
theorem VW:gT .max [.int i,.int j] st Q=Q (.int (if j>i then j else i)) st:=rfl
theorem Bi:gT .int [.int i] st Q=Q (.int i) st:=rfl
theorem YY {k:Bool}:gT .int [.bl k] st Q=Q (.int (if k then 1 else 0)) st:=rfl
theorem Ae:fD .all xs st Q=dA (boolsOf xs) fun bs=>Q (.bl (bs.all id)) st:=rfl
theorem Cj:fD .any xs st Q=dA (boolsOf xs) fun bs=>Q (.bl (bs.any id)) st:=rfl
theorem Ey:fD .sum xs st Q=dA (intsOf xs) fun is=>Q (.int is.sum) st:=rfl
theorem XW:fD .list xs st Q=iE xs st Q:=rfl
theorem UR:fD .tuple xs st Q=(xs.length<=aZ/\Q (.tup xs) st):=rfl
theorem X8:zL (.tup ds) st K=K ds:=rfl
theorem M9:zL (.ref p) st K=cP st p K:=rfl
theorem xD:AD .append (.ref p) st=cP st p fun _=>True:=rfl
theorem NP:AD .extend (.ref p) st=cP st p fun _=>True:=rfl
theorem YH:AD .pop (.ref p) st=cP st p fun _=>True:=rfl
theorem pS {x:D}:AD .index x st=dP x st fun _ _=>True:=rfl
theorem rK {x d:D}:jQ .index x [d] st Q=dP x st fun _ ds=>plainS st d/\dW st ds/\dA (findD st d ds) fun i=>Q (.int (i:Nat)) st:=rfl
theorem tX:jQ .append (.ref p) [x] st Q=cP st p fun xs=>xs.length<aZ/\Q .non (put st p (.lst (xs++[x]))):=rfl
theorem zC:jQ .extend (.ref p) [x] st Q=cP st p fun xs=>zL x st fun ys=>xs.length+ys.length<=aZ/\Q .non (put st p (.lst (xs++ys))):=rfl
theorem HY:jQ .pop (.ref p) [] st Q=cP st p fun xs=>dA (xs[xs.length-1]?) fun d=>Q d (put st p (.lst xs.dropLast)):=rfl
theorem MM {R:aB->Prop}:CF (.ref p) (.int i) x st R=cP st p fun xs=>dA (oC xs.length i) fun j=>R (put st p (.lst (xs.set j x))):=rfl
theorem Cq {n:Nat}{R:St->Prop}:kM true [n] x σ R=R (σ.set n (some x)):=rfl
theorem II {is:List Nat}{R:St->Prop}:kM false is (.tup ds) σ R=(ds.length=is.length/\R ((is.zip ds).foldl (fun σ p=>σ.set p.1 (some p.2)) σ)):=by cases is<;>rfl
end
theorem Ext.refl {st:aB}:Ext st st:=fun _ _ h=>h
theorem Ext.trans {a b c:aB}(h:Ext a b)(h':Ext b c):Ext a c:=fun x o e=>h' x o (h x o e)
theorem Ext.new {st:aB}{p:Nat}{o:MO}(h:st p=none):Ext st (put st p o):=fun a u e=>AK h e
end L3
end
section
namespace L3
theorem mF {st aA:aB}:same [] st aA:=fun _ h=>nomatch h
theorem comp_map {g:aB->Prop}{turn:D->aB->(Option D->aB->Prop)->Prop}{R:List D->aB->Prop}(f:D->D):∀(xs acc:List D)(st:aB),
  (∀ aA,Ext st aA->g aA)->(∀ x∈xs,∀ aA (K:Option D->aB->Prop),Ext st aA->(∀ aY,Ext aA aY->K (some (f x)) aY)->turn x aA K) ->
  acc.length+xs.length<=aZ->(∀ aA,Ext st aA->R (acc++xs.map f) aA)->jS g turn xs acc st R
 |[],acc,st,hg,_,_,hR=>⟨hg st .refl,by simpa using hR st .refl⟩
 |x::xs,acc,st,hg,ht,hl,hR=>by
  refine⟨hg st .refl,by simp at hl;omega,ht x (by simp) st _ .refl fun aY h''=>?_⟩
  refine comp_map f xs (acc++[f x]) aY (fun aA h=>hg aA (h''.trans h)) (fun y hy aA K h=>ht y (by simp [hy]) aA K (h''.trans h)) (by simp at hl ⊢;omega) fun aA h=>?_
  simpa using hR aA (h''.trans h)
mutual
theorem xJ {st:aB}:∀ d:D,bI d=true->fI st d=true
 |.non,_=>rfl
 |.bl _,_=>rfl
 |.int _,_=>rfl
 |.str _,_=>rfl
 |.tup ds,h=>by simp only[bI]at h;simp only[fI];exact pV ds h
 |.ref _,h=>by simp [bI]at h
 |.dB _ _,h=>by simp [bI]at h
 |.bP _,h=>by simp [bI]at h
 |.exc _,h=>by simp [bI]at h
theorem pV {st:aB}:∀ ds:List D,bN ds=true->iD st ds=true
 |[],_=>rfl
 |d::ds,h=>by
  simp only[bN,Bool.and_eq_true]at h
  simp only[iD,Bool.and_eq_true]
  exact⟨xJ d h.1,pV ds h.2⟩
end
theorem plain.s {d:D}(h:plain d){st:aB}:plainS st d:=⟨xJ d h.1,h.2⟩
theorem uO.s {ds:List D}(h:uO ds){st:aB}:dW st ds:=⟨pV ds h.1,h.2⟩
theorem FV {x:List Nat}:plain (.str x):=⟨rfl,Nat.zero_le _⟩
theorem GR {i:Int}:plain (.int i):=⟨rfl,Nat.zero_le _⟩
theorem K1 {b:Bool}:plain (.bl b):=⟨rfl,Nat.zero_le _⟩
theorem HD:plain .non:=⟨rfl,Nat.zero_le _⟩
theorem xN {x:List Nat}{st:aB}:plainS st (.str x):=FV.s
theorem OI {i:Int}{st:aB}:plainS st (.int i):=GR.s
theorem Q5 {b:Bool}{st:aB}:plainS st (.bl b):=K1.s
theorem NI {st:aB}:plainS st .non:=HD.s
theorem lX:∀ xs:List (List Nat),uO (xs.map .str)
 |[]=>⟨rfl,Nat.zero_le _⟩
 |x::xs=>by
  have h:=lX xs
  exact⟨by simp only[List.map_cons,bN,bI,Bool.true_and];exact h.1,by simp only[List.map_cons,cK,cL];exact Nat.max_le.mpr ⟨Nat.zero_le _,h.2⟩⟩
theorem iM {st:aB}{x y:List Nat}:bT st (.str x) (.str y)=(x==y):=by simp only[bT]
theorem W6 {st:aB}{x y:Int}:bT st (.int x) (.int y)=(x==y):=by simp only[bT]
theorem ZV {st:aB}{x y:Bool}:bT st (.bl x) (.bl y)=(x==y):=by simp only[bT]
theorem W8 {x y:List Nat}:bU (.str x) (.str y)=(x==y):=by simp only[bU]
theorem sO {st:aB}(x:List Nat):∀ xs:List (List Nat),((xs.map D.str).any fun d=>bT st d (.str x))=xs.contains x
 |[]=>rfl
 |y::xs=>by
  simp only[List.map_cons,List.any_cons,iM,sO x xs,List.contains_cons]
  congr 1
  exact Bool.beq_comm
end L3
end
section
namespace L3
open PySem PySem.Spec PyProof.Rows L2
mutual
def tO (w:World):D->Int
 |.str x=>hashStr w ⟨x.toArray⟩
 |.tup ds=>reduceHash (Builtin.Tuple.tupleHashOf (iG w ds))
 |_=>0
def iG (w:World):List D->List Int
 |[]=>[]
 |d::ds=>tO w d::iG w ds
end
mutual
def wN:D->Nat
 |.tup ds=>kC ds+1
 |_=>1
def kC:List D->Nat
 |[]=>0
 |d::ds=>wN d+kC ds
end
def Lv (w:World)(x:D×Addr×Value):DictEntry:=⟨tO w x.1,.ref x.2.1,x.2.2⟩
def NM (a:Addr)(xs:List (D×Addr×Value))(w:World)(h:Heap):Prop:=∃ o es ep,h.get? a=some o/\o.ExactDict/\o.data=.dict es ep/\es.toList=xs.map (Lv w)
def LK (a:Addr)(xs:List (D×Addr×Value)):HO:=.ext fun _ w h=>NM a xs w h
def clsAt (K:PySem.W.Frag)(c:List Nat)(C:Addr):Prop:=PySem.W.nsIn K mainGlobals ⟨c.toArray⟩=some (some (.ref C))
theorem clsAt.inj {K:PySem.W.Frag}{c:List Nat}{C C':Addr}(h:clsAt K c C)(h':clsAt K c C'):C=C':=by
 have:=h.symm.trans h'
 injection this with e;injection e with e;injection e
end L3
end
section
namespace L3
open PySem PySem.Spec PyProof.Rows L2
def sH (K:PySem.W.Frag)(H:Hp)(a:Addr)(vs:List V):Prop :=
 (∃ o,H a=some (.frz o (.lst vs)))∨∃(o:Obj)(aD:Array Value)(n:Nat),K.lookup a=some o/\o.cls=.type "list" /\ o.dict=none/\o.data=.seq aD n/\aD.size<=sizeLine/\aO vs aD.toList
theorem sH.sq {K:PySem.W.Frag}{H:Hp}{a:Addr}{vs:List V}:sH K H a vs->dN K H a vs
 |.inl ⟨o,h⟩=>.inl (.inr ⟨o,h⟩)
 |.inr h=>.inr h
def sW:PyData->D
 |.bool b=>.bl b
 |.int i=>.int i
 |.str x=>.str x.cps.toList
 |_=>.non
def oM:PyData->Bool
 |.none=>true
 |.bool _=>true
 |.int _=>true
 |.str _=>true
 |_=>false
def Ew (K:PySem.W.Frag)(a:Addr)(ks vs:List D):Prop:=∃ T:List (Str×PyData),KTD.tabLook KTD.flatLooks (fun b=>K.lookup b) a T=true/\(T.all fun p=>oM p.2)=true/\ks=T.map (fun p=>.str p.1.cps.toList)/\vs=T.map (fun p=>sW p.2)
mutual
inductive Rep (K:PySem.W.Frag)(H:Hp):D->V->Prop where
 |non:Rep K H .non .non
 |bl (b:Bool):Rep K H (.bl b) (.bl b)
 |int (i:Int):Rep K H (.int i) (.int i)
 |str (x:List Nat):Rep K H (.str x) (.str ⟨x.toArray⟩)
 |tup {ds:List D}{a:Addr}{vs:List V}(h:eU K H a vs)(r:aL K H ds vs):Rep K H (.tup ds) (.ref a)
 |ref (a:Addr):Rep K H (.ref a) (.ref a)
 |bP {ds:List D}{a:Addr}{vs:List V}(h:sH K H a vs)(r:aL K H ds vs):Rep K H (.bP ds) (.ref a)
 |dB {ks vs:List D}{a:Addr}(h:Ew K a ks vs):Rep K H (.dB ks vs) (.ref a)
inductive aL (K:PySem.W.Frag)(H:Hp):List D->List V->Prop where
 |nil:aL K H [] []
 |cons {d:D}{v:V}{ds:List D}{vs:List V}(h:Rep K H d v)(r:aL K H ds vs):aL K H (d::ds) (v::vs)
end
def iQ (K:PySem.W.Frag)(H:Hp)(fs:List (List Nat×D))(ws:List (Str×V)):Prop:=ws.map (·.1)=fs.map (fun p=>(⟨p.1.toArray⟩:Str))/\aL K H (fs.map (·.2)) (ws.map (·.2))
def bears:HO->Bool
 |.lst _=>true
 |.ins _ _ _=>true
 |.ext _=>true
 |_=>false
def zF (K:PySem.W.Frag)(H:Hp)(a:Addr):MO->Prop
 |.lst ds=>∃ vs,H a=some (.lst vs)/\aL K H ds vs
 |.dic _ _=>False
 |.ins c fs=>∃ C dx ws,clsAt K c C/\H a=some (.ins C dx ws)/\iQ K H fs ws
 |.tab ks vs=>∃(xs:List (D×Addr×Value))(ws:List V),H a=some (LK a xs)/\(a==sysModules)=false/\xs.map (·.1)=ks/\(xs.map (·.1)).Nodup/\aL K H ks (xs.map fun x=>.ref x.2.1)/\(∀ x∈xs,keyed x.1)/\aO ws (xs.map (·.2.2))/\aL K H vs ws
def aS (K:PySem.W.Frag)(st:aB)(H:Hp):Prop:=∀ a o,st a=some o->zF K H a o
def Step (H:Hp)(st:aB)(H':Hp)(aA:aB):Prop:=∀ a o,H a=some o->st a=none->H' a=some o/\aA a=none
theorem Step.refl {H:Hp}{st:aB}:Step H st H st:=fun _ _ h n=>⟨h,n⟩
theorem Step.trans {H H1 H2:Hp}{st aC aH:aB}(a:Step H st H1 aC)(b:Step H1 aC H2 aH):Step H st H2 aH:=fun x o h n=>let⟨h1,n1⟩:=a x o h n;b x o h1 n1
section
variable {K:PySem.W.Frag}{H H' H1:Hp}{st aA aC:aB}{a p:Addr}{d:D}{v:V}{ds:List D}{vs:List V}
theorem zF.bears {m:MO}(h:zF K H a m):∃ o,H a=some o/\L3.bears o=true:=by
 cases m with
 |lst ds=>obtain⟨vs,q,_⟩:=h;exact⟨_,q,rfl⟩
 |dic _ _=>exact h.elim
 |ins c fs=>obtain⟨_,_,_,_,q,_⟩:=h;exact⟨_,q,rfl⟩
 |tab ks vs=>obtain⟨_,_,q,_⟩:=h;exact⟨_,q,rfl⟩
theorem aS.JF (ok:aS K st H){o:HO}(h:H a=some o)(n:L3.bears o=false):st a=none:=by
 cases e:st a with
 |none=>rfl
 |some u =>
 obtain⟨o',e1,e2⟩:=(ok a u e).bears
 rw[h]at e1;cases e1
 rw[n]at e2;cases e2
theorem aS.fresh (ok:aS K st H)(h:H a=none):st a=none:=by
 cases e:st a with
 |none=>rfl
 |some u =>
 obtain⟨o',e1,e2⟩:=(ok a u e).bears
 rw[h]at e1;cases e1
theorem vU (ok:aS K st H)(s:Step H st H' aA)(h:eU K H a vs):eU K H' a vs:=by
 rcases h with(h|⟨o,h⟩)|h
 ·exact .inl (.inl (s a _ h (ok.JF h rfl)).1)
 ·exact .inl (.inr ⟨o,(s a _ h (ok.JF h rfl)).1⟩)
 ·exact .inr h
theorem tB (ok:aS K st H)(s:Step H st H' aA)(h:sH K H a vs):sH K H' a vs:=by
 rcases h with⟨o,h⟩|h
 ·exact .inl ⟨o,(s a _ h (ok.JF h rfl)).1⟩
 ·exact .inr h
mutual
theorem Rep.step (ok:aS K st H)(s:Step H st H' aA):∀{d:D}{v:V},Rep K H d v->Rep K H' d v
 |_,_,.non=>.non
 |_,_,.bl b=>.bl b
 |_,_,.int i=>.int i
 |_,_,.str x=>.str x
 |_,_,.tup h r=>.tup (vU ok s h) (aL.step ok s r)
 |_,_,.ref a=>.ref a
 |_,_,.bP h r=>.bP (tB ok s h) (aL.step ok s r)
 |_,_,.dB h=>.dB h
theorem aL.step (ok:aS K st H)(s:Step H st H' aA):∀{ds:List D}{vs:List V},aL K H ds vs->aL K H' ds vs
 |_,_,.nil=>.nil
 |_,_,.cons h r=>.cons (Rep.step ok s h) (aL.step ok s r)
end
theorem zF.step (ok:aS K st H)(s:Step H st H' aA){m:MO}(h:zF K H a m)(e:H' a=H a):zF K H' a m:=by
 cases m with
 |lst ds=>obtain⟨vs,q,r⟩:=h;exact⟨vs,e.trans q,r.step ok s⟩
 |dic _ _=>exact h
 |ins c fs=>obtain⟨C,dx,ws,q,q2,q3,r⟩:=h;exact⟨C,dx,ws,q,e.trans q2,q3,r.step ok s⟩
 |tab ks vs=>obtain⟨xs,ws,q,q0,q1,q2,q3,q4,q5,r⟩:=h;exact⟨xs,ws,e.trans q,q0,q1,q2,q3.step ok s,q4,q5,r.step ok s⟩
theorem aL.length:∀{ds:List D}{vs:List V},aL K H ds vs->ds.length=vs.length
 |_,_,.nil=>rfl
 |_,_,.cons _ r=>by simp [aL.length r]
theorem aL.get:∀{ds:List D}{vs:List V}{i:Nat}{d:D},aL K H ds vs->ds[i]? = some d->∃ v,vs[i]? = some v/\Rep K H d v
 |_,_,_,_,.nil,e=>by simp at e
 |_,_,0,_,.cons h _,e=>by simp at e;subst e;exact⟨_,rfl,h⟩
 |_,_,i+1,d,.cons _ r,e=>by
  obtain⟨v,e1,e2⟩:=aL.get (i:=i) (d:=d) r (by simpa using e)
  exact⟨v,by simpa using e1,e2⟩
theorem aL.append:∀{ds es:List D}{vs us:List V},aL K H ds vs->aL K H es us->aL K H (ds++es) (vs++us)
 |_,_,_,_,.nil,s=>s
 |_,_,_,_,.cons h r,s=>.cons h (aL.append r s)
theorem aL.take:∀{ds:List D}{vs:List V}(n:Nat),aL K H ds vs->aL K H (ds.take n) (vs.take n)
 |_,_,0,_=>by simp;exact .nil
 |_,_,_+1,.nil=>by simp;exact .nil
 |_,_,n+1,.cons h r=>by simp only[List.take_succ_cons];exact .cons h (aL.take n r)
theorem aL.drop:∀{ds:List D}{vs:List V}(n:Nat),aL K H ds vs->aL K H (ds.drop n) (vs.drop n)
 |_,_,0,r=>by simpa using r
 |_,_,_+1,.nil=>by simp;exact .nil
 |_,_,n+1,.cons _ r=>by simp only[List.drop_succ_cons];exact aL.drop n r
theorem aL.set (h:Rep K H d v):∀{ds:List D}{vs:List V}(i:Nat),aL K H ds vs->aL K H (ds.set i d) (vs.set i v)
 |_,_,_,.nil=>by simp;exact .nil
 |_,_,0,.cons _ r=>by simp only[List.set_cons_zero];exact .cons h r
 |_,_,i+1,.cons q r=>by simp only[List.set_cons_succ];exact .cons q (aL.set h i r)
theorem aL.dropLast {ds:List D}{vs:List V}(r:aL K H ds vs):aL K H ds.dropLast vs.dropLast:=by
 rw[List.dropLast_eq_take,List.dropLast_eq_take,r.length]
 exact r.take _
theorem aL.reverse:∀{ds:List D}{vs:List V},aL K H ds vs->aL K H ds.reverse vs.reverse
 |_,_,.nil=>by simp;exact .nil
 |_,_,.cons h r=>by simp only[List.reverse_cons];exact(aL.reverse r).append (.cons h .nil)
def QD (K:PySem.W.Frag)(H:Hp)(st:aB)(R:VK):L2.VK:=fun v H'=>∃ d aA,Step H st H' aA/\aS K aA H'/\Rep K H' d v/\R d aA
theorem QD.here {R:VK}(ok:aS K st H)(r:Rep K H d v)(h:R d st):QD K H st R v H:=⟨d,st,.refl,ok,r,h⟩
theorem QD.after {R:VK}(s:Step H st H1 aC)(h:QD K H1 aC R v H'):QD K H st R v H':=let⟨d,aA,s',ok,r,q⟩:=h;⟨d,aA,s.trans s',ok,r,q⟩
theorem sL {o:HO}(hp:H p=none):Step H st (upd H p o) st:=fun a u h n=>by
 have e:a≠p:=fun e=>by rw[e,hp]at h;cases h
 exact⟨by rw[bZ e];exact h,n⟩
theorem pN {o:HO}{m:MO}(hp:H p=none):Step H st (upd H p o) (put st p m):=fun a u h n=>by
 have e:a≠p:=fun e=>by rw[e,hp]at h;cases h
 exact⟨by rw[bZ e];exact h,by rw[aJ e];exact n⟩
theorem aS.new {o:HO}(ok:aS K st H)(hp:H p=none):aS K st (upd H p o):=fun a u e=>by
 have ne:a≠p:=fun z=>by obtain⟨o',q,_⟩:=(ok a u e).bears;rw[z,hp]at q;cases q
 exact(ok a u e).step ok (sL (st:=st) hp) (bZ ne)
theorem aS.Dn {o:HO}{m:MO}(ok:aS K st H)(hp:H p=none)(r:zF K (upd H p o) p m):aS K (put st p m) (upd H p o):=fun a u e=>by
 have s:Step H st (upd H p o) (put st p m):=pN hp
 by_cases ha:a=p
 ·subst ha
  rw[aP]at e;cases e
  exact r
 ·rw[aJ ha]at e
  exact(ok a u e).step ok s (bZ ha)
theorem aS.iE (ok:aS K st H)(hp:H p=none)(r:aL K H ds vs):aS K (put st p (.lst ds)) (upd H p (.lst vs)):=fun a u e=>by
 have s:Step H st (upd H p (.lst vs)) (put st p (.lst ds)):=pN hp
 by_cases ha:a=p
 ·subst ha
  rw[aP]at e;cases e
  exact⟨vs,fO,r.step ok s⟩
 ·rw[aJ ha]at e
  exact(ok a u e).step ok s (bZ ha)
theorem QD.IB {R:VK}(ok:aS K st H)(r:aL K H ds vs)(hp:H p=none)(h:R (.tup ds) st):QD K H st R (.ref p) (upd H p (.tup vs)) :=
 ⟨.tup ds,st,sL hp,ok.new hp,.tup (eU.of fO) (r.step ok (sL (st:=st) hp)),h⟩
theorem QD.iE {R:VK}(ok:aS K st H)(r:aL K H ds vs)(hp:H p=none)(h:∀ p,st p=none->R (.ref p) (put st p (.lst ds))):QD K H st R (.ref p) (upd H p (.lst vs)) :=
 ⟨.ref p,put st p (.lst ds),pN hp,ok.iE hp r,.ref p,h p (ok.fresh hp)⟩
theorem aS.lst (ok:aS K st H)(h:st a=some (.lst ds)):∃ vs,H a=some (.lst vs)/\aL K H ds vs:=ok a _ h
theorem mJ {o:HO}{m m':MO}(h:st a=some m):Step H st (upd H a o) (put st a m'):=fun b u hb n=>by
 have e:b≠a:=fun e=>by rw[e,h]at n;cases n
 exact⟨by rw[bZ e];exact hb,by rw[aJ e];exact n⟩
theorem aS.set (ok:aS K st H){m:MO}(h:st a=some m)(r:aL K H ds vs):aS K (put st a (.lst ds)) (upd H a (.lst vs)):=fun b u e=>by
 have s:Step H st (upd H a (.lst vs)) (put st a (.lst ds)):=mJ h
 by_cases ha:b=a
 ·subst ha
  rw[aP]at e;cases e
  exact⟨vs,fO,r.step ok s⟩
 ·rw[aJ ha]at e
  exact(ok b u e).step ok s (bZ ha)
theorem aS.KP {o:HO}{m m':MO}(ok:aS K st H)(h:st a=some m)(r:zF K (upd H a o) a m'):aS K (put st a m') (upd H a o):=fun b u e=>by
 have s:Step H st (upd H a o) (put st a m'):=mJ h
 by_cases ha:b=a
 ·subst ha
  rw[aP]at e;cases e
  exact r
 ·rw[aJ ha]at e
  exact(ok b u e).step ok s (bZ ha)
theorem QD.set {R:VK}(ok:aS K st H){m:MO}(h:st a=some m)(r:aL K H ds vs)(rd:Rep K H d v)(q:R d (put st a (.lst ds))):QD K H st R v (upd H a (.lst vs)) :=
 ⟨d,put st a (.lst ds),mJ h,ok.set h r,rd.step ok (mJ (m':=.lst ds) h),q⟩
end
def dQ (K:PySem.W.Frag)(H:Hp)(σd:St)(σ:L2.St):Prop:=σd.length=σ.length/\∀(i:Nat)(d:D),σd[i]? = some (some d)->∃ v,σ[i]? = some (some v)/\Rep K H d v
theorem dQ.step {K:PySem.W.Frag}{H H':Hp}{st aA:aB}{σd:St}{σ:L2.St}(r:dQ K H σd σ)(ok:aS K st H)(s:Step H st H' aA):dQ K H' σd σ :=
 ⟨r.1,fun i d e=>let⟨v,e1,e2⟩:=r.2 i d e;⟨v,e1,e2.step ok s⟩⟩
theorem dQ.set {K:PySem.W.Frag}{H:Hp}{σd:St}{σ:L2.St}{d:D}{v:V}(r:dQ K H σd σ)(i:Nat)(h:Rep K H d v):dQ K H (σd.set i (some d)) (σ.set i (some v)):=by
 refine⟨by simpa using r.1,fun j e hj=>?_⟩
 by_cases q:j=i
 ·subst q
  by_cases hl:j<σd.length
  ·rw[List.getElem?_set_self hl]at hj
   cases hj
   exact⟨v,by rw[List.getElem?_set_self (by rw[<-r.1];exact hl)],h⟩
  ·rw[List.getElem?_eq_none (by simp;omega)]at hj;cases hj
 ·rw[List.getElem?_set_ne (Ne.symm q)]at hj
  obtain⟨u,e1,e2⟩:=r.2 j e hj
  exact⟨u,by rw[List.getElem?_set_ne (Ne.symm q)];exact e1,e2⟩
abbrev Cu:=St->aB->VK->Prop
def cB (K:PySem.W.Frag)(te:Cu):L2.TE:=fun σ H Q=>∃ σd st R,dQ K H σd σ/\aS K st H/\te σd st R/\∀ v H',QD K H st R v H'->Q v H'
def mN (K:PySem.W.Frag)(te:St->aB->(List D->aB->Prop)->Prop):L2.TA:=fun σ H Q=>∃ σd st R,dQ K H σd σ/\aS K st H/\te σd st R /\
 ∀ vs H',(∃ ds aA,Step H st H' aA/\aS K aA H'/\aL K H' ds vs/\R ds aA)->Q vs H'
def jG (K:PySem.W.Frag)(te:Cu):L2.TT:=fun σ H Q=>∃(σd:St)(st:aB)(R:Bool->aB->Prop),dQ K H σd σ/\aS K st H/\te σd st (fun d aA=>eI d aA fun b=>R b aA) /\
 ∀(b:Bool) H',(∃ aA,Step H st H' aA/\aS K aA H'/\R b aA)->Q b H'
theorem _root_.L2.PE.imp {X:Cx}{e:Expr}{t t':L2.TE}(i:∀ σ H Q,t' σ H Q->t σ H Q)(h:PE X e t):PE X e t':=fun pins s σ H Q I q=>h pins s σ H Q I (i σ H Q q)
theorem _root_.L2.PT.imp {X:Cx}{e:Expr}{t t':L2.TT}(i:∀ σ H Q,t' σ H Q->t σ H Q)(h:PT X e t):PT X e t':=fun pins s σ H Q I q=>h pins s σ H Q I (i σ H Q q)
theorem _root_.L2.PW.imp {X:Cx}{e:Expr}{t t':L2.TT}(i:∀ σ H Q,t' σ H Q->t σ H Q)(h:PW X e t):PW X e t':=fun wh pins s σ H Q I q=>h wh pins s σ H Q I (i σ H Q q)
theorem _root_.L2.PA.imp {X:Cx}{es:List Expr}{t t':L2.TA}(i:∀ σ H Q,t' σ H Q->t σ H Q)(h:PA X es t):PA X es t':=fun pos pins s σ H Q I q=>h pos pins s σ H Q I (i σ H Q q)
theorem _root_.L2.PS.imp {X:Cx}{e:Stmt}{t t':L2.TS}(i:∀ D σ H,t' D σ H->t D σ H)(h:PS X e t):PS X e t':=fun pins s σ H D I q=>h pins s σ H D I (i D σ H q)
theorem _root_.L2.lF.imp {X:Cx}{e:List Stmt}{t t':L2.TS}(i:∀ D σ H,t' D σ H->t D σ H)(h:lF X e t):lF X e t':=fun pins s σ H D I q=>h pins s σ H D I (i D σ H q)
end L3
end
section
namespace L3
open PySem PySem.Spec PyProof.Rows L2
theorem gG:sizeLine=aZ:=sizeLine_eq
section
variable {X:Cx}{C:bO}{sub:Nat->Nat->Bool}{E:XK}{a b c e:Expr}{x y z:Ex}{pos:Pos}
theorem uZ {d:D}{v:V}(h:PE X e (tC v))(r:∀ H,Rep X.K H d v):PE X e (cB X.K (aG C sub E (.c d))) :=
 h.imp fun σ H Q ⟨σd,st,R,_,ok,q,hq⟩=>by
 simp only[aG]at q
 exact hq v H (.here ok (r H) q)
theorem VJ {i:Nat}(h:PE X e (SQ i)):PE X e (cB X.K (aG C sub E (.v i))) :=
 h.imp fun σ H Q ⟨σd,st,R,r,ok,q,hq⟩=>by
 simp only[aG,gL]at q
 split at q
 ·rename_i d ed
  obtain⟨v,e1,e2⟩:=r.2 i d ed
  exact⟨v,e1,hq v H (.here ok e2 q)⟩
 ·exact q.elim
theorem Fe:PA X [] (mN X.K (bG C sub E [])) :=
 PV.imp fun σ H Q ⟨σd,st,R,r,ok,q,hq⟩=>by
 simp only[bG]at q
 exact hq [] H ⟨[],st,.refl,ok,.nil,q⟩
theorem Ee {es:List Expr}{xs:List Ex}(h:PE X e (cB X.K (aG C sub E x)))(hs:PA X es (mN X.K (bG C sub E xs)))
 (fF:starEach (e::es) X.env=(false,eval e X.env)::starEach es X.env):PA X (e::es) (mN X.K (bG C sub E (x::xs))) :=
 (EG h hs fF).imp fun σ H Q ⟨σd,st,R,r,ok,q,hq⟩=>by
 simp only[bG]at q
 refine⟨σd,st,_,r,ok,q,fun v H1 ⟨d,aC,s1,aQ,r1,q1⟩=>?_⟩
 refine⟨σd,aC,_,r.step ok s1,aQ,q1,fun vs H2 ⟨ds,aH,s2,cH,r2,q2⟩=>?_⟩
 exact hq _ _ ⟨d::ds,aH,s1.trans s2,cH,.cons (r1.step aQ s2) r2,q2⟩
theorem sC:∀(xs:List Ex){σ:St}{st:aB}{R:List D->aB->Prop},bX C C->bG C sub E xs σ st R->bG C sub E xs σ st (fun ds aA=>ds.length=xs.length/\R ds aA)
 |[],σ,st,R,_,h=>by simp only[bG]at h ⊢;exact⟨rfl,h⟩
 |x::xs,σ,st,R,hC,h=>by
  simp only[bG]at h ⊢
  refine aW hC (fun _ _ z=>z) x (fun d aA h'=>?_) h
  exact cY hC (fun _ _ z=>z) xs (fun ds aY z=>⟨by simp [z.1],z.2⟩) (sC xs hC h')
theorem Gj {es:List Expr}{xs:List Ex}{k:Nat}(hC:bX C C)(hs:PA X es (mN X.K (bG C sub E xs)))(hl:xs.length<=aZ):PE X (.Tuple es k pos) (cB X.K (aG C sub E (.tup xs))) :=
 (Dp hs).imp fun σ H Q ⟨σd,st,R,r,ok,q,hq⟩=>by
 simp only[aG]at q
 refine⟨σd,st,_,r,ok,sC xs hC q,fun vs H1 ⟨ds,aC,s1,aQ,r1,l1,q1⟩=>⟨?_,fun p hp=>?_⟩⟩
 ·rw[gG,<-r1.length,l1];exact hl
 ·exact hq _ _ (.after s1 (.IB aQ r1 hp q1))
theorem Fo {es:List Expr}{xs:List Ex}(hs:PA X es (mN X.K (bG C sub E xs))):PE X (.List es pos) (cB X.K (aG C sub E (.lst xs))) :=
 (ZU hs).imp fun σ H Q ⟨σd,st,R,r,ok,q,hq⟩=>by
 simp only[aG]at q
 refine⟨σd,st,_,r,ok,q,fun vs H1 ⟨ds,aC,s1,aQ,r1,q1⟩=>⟨?_,fun p hp=>?_⟩⟩
 ·rw[gG,<-r1.length];exact q1.1
 ·exact hq _ _ (.after s1 (.iE aQ r1 hp q1.2))
theorem two {r:R2}{te tf:Cu}{σ:L2.St}{H:Hp}{Q:L2.VK}{σd:St}{st:aB}{W:D->D->aB->Prop}{R:VK}
 (sr:dQ X.K H σd σ)(ok:aS X.K st H)(q:te σd st fun d aC=>tf σd aC fun d' aH=>W d d' aH)(hq:∀ v H',QD X.K H st R v H'->Q v H')
 (op:∀ d d' v v' H2 aH,aS X.K aH H2->Rep X.K H2 d v->Rep X.K H2 d' v'->W d d' aH->r v v' H2 (QD X.K H2 aH R))
 (mono:∀ v v' H (Q Q':L2.VK),(∀ v H,Q v H->Q' v H)->r v v' H Q->r v v' H Q'):Z0 r (cB X.K te) (cB X.K tf) σ H Q:=by
 refine⟨σd,st,_,sr,ok,q,fun v H1 ⟨d,aC,s1,aQ,r1,q1⟩=>?_⟩
 refine⟨σd,aC,_,sr.step ok s1,aQ,q1,fun v' H2 ⟨d',aH,s2,cH,r2,q2⟩=>?_⟩
 refine mono _ _ _ _ _ (fun u H' z=>hq u H' (.after (s1.trans s2) z)) (op d d' v v' H2 aH cH (r1.step aQ s2) r2 q2)
theorem IA {g:Int->Int->V}(v v':V)(H:Hp)(Q Q':L2.VK)(h:∀ v H,Q v H->Q' v H)(z:JD g v v' H Q):JD g v v' H Q':=let⟨i,j,e,e',q⟩:=z;⟨i,j,e,e',h _ _ q⟩
theorem AW {P:Int->Int->Prop}{g:Int->Int->V}(v v':V)(H:Hp)(Q Q':L2.VK)(h:∀ v H,Q v H->Q' v H)(z:rI P g v v' H Q):rI P g v v' H Q':=let⟨i,j,e,e',p,q⟩:=z;⟨i,j,e,e',p,h _ _ q⟩
end
end L3
end
section
namespace L3
open PySem PySem.Spec PyProof.Rows L2
theorem CH:fillsNumberSlot (.type "tuple") "mul" = pure false:=by kernel_rfl
theorem KS:seqRepeat? (.type "tuple")=pure (some (.builtin "tuple.__mul__")):=by kernel_rfl
theorem EU (a:Int)(t:Tok)(l:Addr)(items:Array Value)(n:Nat)(dd:Option Addr)(sl:Array (Option Value)):
 Meets (Builtin.«int.__rmul__» ⟨[.int a t,.ref l],[]⟩) (fun _ R s=>s.heap.get? l=some { cls:=.type "tuple", dict:=dd,data:=.seq items n,slots:=sl }/\R (.ok (.ret Value.notImplemented)) s) :=
 .of_wp fun prog w A R s h=>by obtain⟨hp,g,d,tk,os⟩:=s;obtain⟨hl,h⟩:=h;wp_walk;exact⟨_,rfl,h⟩
section
variable {prog:Program}{w:World}{A:Around}{E:Value->Shared->Prop}{s:Shared}
theorem IE {l:Addr}{items:Array Value}{n:Nat}{dd:Option Addr}{sl:Array (Option Value)}{k:Int}{t:Tok}{Q:PySem.Fin->Shared->Prop}(hl:s.heap.get? l=some { cls:=.type "tuple", dict:=dd,data:=.seq items n,slots:=sl })
  (h1:1<=k)(h2:k<1000)(hm:0<items.size)(hm2:items.size<=1000)(oU:k=1->Q (.done (.ret (.ref l))) s)
  (h:Q (.done (.ret (.ref s.heap.objs.size))) { s with heap:=s.heap.push { cls:=.type "tuple", data:=.seq ((List.replicate k.toNat items).foldl (·++ ·) #[]) } }):
  wpAny (model prog w) A (Builtin.«tuple.__mul__» ⟨[.ref l,.int k t],[]⟩) Q E s:=by
 have hT:s.TypeIs (.ref l) "tuple":=⟨_,hl,rfl⟩
 unfold Builtin.«tuple.__mul__»
 wp_walk
 rw[if_neg (by simp;omega)]
 show wpAny _ _ (Builtin.Tuple.tupleItemsOf (.ref l) >>= _) _ _ s
 refine wpAny_bind (wpAny_tupleItemsOf hl rfl ?_)
 have hne:items.isEmpty=false:=by
  rw[Array.isEmpty_eq_false_iff];intro z;rw[z]at hm;simp at hm
 have jp:wpAny (model prog w) A (if(decide (k<=0)||items.isEmpty)=true then do
     let __do_lift <-Builtin.Tuple.tupleExact #[]
     ret __do_lift
    else
     have __do_jp:=fun(__r:Unit) =>
      have __do_jp:=fun(__r:Unit)=>do
       let __do_lift <-
        Builtin.Tuple.tupleExact (List.foldl (fun x1 x2=>x1++x2) #[] (List.replicate k.toNat items))
       ret __do_lift;
      if Builtin.Tuple.tupleTooMany (↑items.size*k)=true then do
       let __r <-unsupported "tuple.__mul__:memory"
       __do_jp __r
      else __do_jp ();
     if ↑items.size*k>(2 ^ 63-1) / 8 then do
      rule "tuple.repeat.no-memory"
      let __do_lift <-newExc (Value.type "MemoryError") []
      let __r <-raiseNew __do_lift
      __do_jp __r
     else __do_jp ()) Q E s:=by
  rw[if_neg (by rw[hne];simp;omega)]
  have hmul:(items.size:Int)*k<=1000*1000:=Int.mul_le_mul (by omega) (by omega) (by omega) (by decide)
  have hmul0:0<=(items.size:Int)*k:=Int.mul_nonneg (by omega) (by omega)
  dsimp only
  rw[if_neg (by omega),if_neg (by simp [Builtin.Tuple.tupleTooMany,sizeLine_eq];omega)]
  wp_walk
  have jE:¬(List.foldl (fun x1 x2=>x1++x2) #[] (List.replicate k.toNat items)).size>sizeLine:=by
   have e1:=foldl_rep items.toList k.toNat []
   rw[List.nil_append]at e1
   have e2:List.foldl (fun x1 x2=>x1++x2) #[] (List.replicate k.toNat items)=(List.replicate k.toNat items.toList).flatten.toArray:=by simpa using e1
   rw[e2,List.size_toArray,List.length_flatten,List.map_replicate,List.sum_replicate_nat,Array.length_toList,sizeLine_eq]
   have:k.toNat*items.size<=1000*1000:=Nat.mul_le_mul (by omega) hm2
   omega
  rw[if_neg jE]
  wp_walk
  exact h
 show wpAny _ _ (if(items.isEmpty||k==1)=true then _ else _) _ _ s
 by_cases hk:k=1
 ·subst hk
  rw[if_pos (by simp)]
  wp_walk
  exact oU rfl
 ·rw[if_neg (by rw[hne];simpa using hk)]
  exact jp
end
def VC (K:PySem.W.Frag):R2:=fun x y H Q=>∃(a:Addr)(k:Int)(xs:List V),x=.ref a/\y=.int k/\eU K H a xs/\0<xs.length/\xs.length<=1000/\1<=k/\k<1000/\(k=1->Q (.ref a) H)/\∀ p,H p=none->Q (.ref p) (upd H p (.tup (List.replicate k.toNat xs).flatten))
theorem XA {X:Cx}:iJ X (binaryOp .Mult) (VC X.K):=by
 intro pins s σ H x y v u Q I rx ry h
 obtain⟨a,k,xs,rfl,rfl,hH,h0,h00,h1,h2,oU,q⟩:=h
 cases rx
 obtain⟨t,rfl⟩:=ry
 obtain⟨aD,r,⟨⟨cls,dd,data,sl⟩,ho,hc,n,hd⟩,z⟩:=I.tuple hH
 simp only at hc hd
 subst hc hd
 have hl:xs.length=aD.length:=r.length
 have hnew:List.foldl (fun x1 x2=>x1++x2) #[] (List.replicate k.toNat aD.toArray)=(List.replicate k.toNat aD).flatten.toArray:=by
  have:=foldl_rep aD k.toNat []
  rw[List.nil_append]at this
  exact this
 refine wpAny_binaryOp_repeat_ref (T :="tuple") (U :="int") (by decide) ⟨_,ho,rfl⟩ (fun s'=>typeIs_int s' k t) CH PySem.F.fills_int_mul PySem.F.slot_int_rmul KS PySem.F.slot_int_index.lookup
  (call_meets PySem.F.slot_int_rmul (typeIs_int s k t) PySem.F.entry_int_rmul (PySem.F.args_int_rmul_2 _ _) (EU k t a aD.toArray n dd sl)
   ⟨ho,rfl,⟨_,ho,rfl⟩,wpAny_call_entry PySem.F.slot_tuple_mul ⟨_,ho,rfl⟩ PySem.F.entry_tuple_mul (IE ho h1 h2 (by simpa [<-hl]using h0) (by simpa [<-hl]using h00) (fun e=>?_) ?_) (PySem.F.args_tuple_mul_2 _ _)⟩)
 ·exact⟨_,rfl,.ref a,H,I,rfl,oU e⟩
 ·refine⟨_,rfl,.ref s.heap.objs.size,_,I.laid (a:=s.heap.objs.size) (o:=.tup (List.replicate k.toNat xs).flatten) (t':=s.toks) (fun b u e=>Heap.get?_push_of_some _ e) (Nat.le_refl _) ?_,rfl,q _ (I.cG.fresh (Nat.le_refl _))⟩
  refine⟨by rw[len_rep,sizeLine_eq];have:k.toNat*xs.length<=1000*1000:=Nat.mul_le_mul (by omega) h00;omega,_,r.rep k.toNat,?_⟩
  rw[hnew]
  exact qK.new s.heap _
end L3
end
section
namespace L3
open PySem PySem.Spec PyProof.Rows L2
section
variable {X:Cx}
theorem YG {prog:Program}{w:World}{A:Around}{E:Value->Shared->Prop}{s:Shared}{t b:Addr}{ws:List Value}{Q:Value->Shared->Prop}(ht:IsTup s.heap t #[])(hb:IsTup s.heap b ws.toArray)
  (h:Q (.ref b) s):wpAny (model prog w) A (binaryOp .Add (.ref t) (.ref b)) Q E s:=by
 obtain⟨⟨cls,dd,data,sl⟩,ho,hc,n,hd⟩:=id ht
 obtain⟨⟨cls2,dd2,data2,sl2⟩,ho2,hc2,n2,hd2⟩:=id hb
 simp only at hc hd hc2 hd2
 subst hc hd hc2 hd2
 exact concat_meets ⟨_,ho,rfl⟩ ⟨_,ho2,rfl⟩ noFill_tuple_add seq_tuple_add PySem.F.slot_tuple_add PySem.F.entry_tuple_add (PySem.F.args_tuple_add_2 _ _)
  (tuple_addW0 t b #[] ws.toArray n n2 dd dd2 sl sl2 (by simp)) ⟨ho,ho2,h⟩
def U8 (K:PySem.W.Frag):R2:=fun x y H Q=>∃ a b ys,x=.ref a/\y=.ref b/\eU K H a []/\eU K H b ys/\Q (.ref b) H
theorem WA:iJ X (binaryOp .Add) (U8 X.K):=by
 intro pins s σ H x y v u Q I rx ry h
 obtain⟨a,b,ys,rfl,rfl,ha,hb,q⟩:=h
 cases rx
 cases ry
 obtain⟨aD,r1,p1,_⟩:=I.tuple ha
 obtain⟨nZ,r2,p2,_⟩:=I.tuple hb
 have e:aD=[]:=r1.A4.mpr rfl
 subst e
 exact YG p1 p2 ⟨.ref b,H,I,rfl,q⟩
def Jg:R2:=fun x y H Q=>∃ i j,x=.str i/\y=.str j/\i.length+j.length<=sizeLine/\Q (.str (i++j)) H
abbrev VR (K:PySem.W.Frag):R2:=fun x y H Q=>JD (fun i j=>.int (i+j)) x y H Q∨Jg x y H Q∨VN K x y H Q∨U8 K x y H Q∨Cw x y H Q
theorem YT:iJ X (binaryOp .Add) (VR X.K):=iJ.or En (iJ.or O1 (iJ.or WL (iJ.or WA Bg)))
abbrev VB (K:PySem.W.Frag):R2:=fun x y H Q=>rI N0 (fun i j=>.int (i*j)) x y H Q∨Bu x y H Q∨VC K x y H Q
theorem VY:iJ X (binaryOp .Mult) (VB X.K):=iJ.or Bl (iJ.or Bx XA)
def Bp:vC->Operator
 |.add=>.Add|.sub=>.Sub|.mul=>.Mult|.fdiv=>.FloorDiv|.mod=>.Mod|.pow=>.Pow
def NN (K:PySem.W.Frag):vC->R2
 |.add=>VR K
 |.sub=>JD fun i j=>.int (i-j)
 |.mul=>VB K
 |.fdiv=>rI Dx fun i j=>.int (i / j)
 |.mod=>rI (fun _ j=>0<j) fun i j=>.int (i % j)
 |.pow=>rI Ez fun i j=>.int (i ^ j.toNat)
theorem Y9:∀ op:vC,iJ X (binaryOp (Bp op)) (NN X.K op)
 |.add=>YT
 |.sub=>Av
 |.mul=>VY
 |.fdiv=>WV
 |.mod=>ZH
 |.pow=>Ed
theorem PB {K:PySem.W.Frag}:∀(op:vC)(v v':V)(H:Hp)(Q Q':L2.VK),(∀ v H,Q v H->Q' v H)->NN K op v v' H Q->NN K op v v' H Q'
 |.add,v,v',H,Q,Q',h,z=>by
  rcases z with z|⟨i,j,e,e',l,q⟩|⟨a,b,xs,ys,e,e',s,s',n,l,q,q'⟩|⟨a,b,ys,e,e',s,s',q⟩|⟨l,b,xs,zs,e,e',s,s',n,q⟩
  ·exact .inl (IA _ _ _ _ _ h z)
  ·exact .inr (.inl ⟨i,j,e,e',l,h _ _ q⟩)
  ·exact .inr (.inr (.inl ⟨a,b,xs,ys,e,e',s,s',n,l,fun z=>h _ _ (q z),fun z p hp=>h _ _ (q' z p hp)⟩))
  ·exact .inr (.inr (.inr (.inl ⟨a,b,ys,e,e',s,s',h _ _ q⟩)))
  ·exact .inr (.inr (.inr (.inr ⟨l,b,xs,zs,e,e',s,s',n,fun p hp=>h _ _ (q p hp)⟩)))
 |.sub,v,v',H,Q,Q',h,z=>IA _ _ _ _ _ h z
 |.mul,v,v',H,Q,Q',h,z=>by
  rcases z with z|⟨l,k,xs,e,e',s,b1,b2,b3,q⟩|⟨l,k,xs,e,e',s,b1,b2,b3,b4,q0,q⟩
  ·exact .inl (AW _ _ _ _ _ h z)
  ·exact .inr (.inl ⟨l,k,xs,e,e',s,b1,b2,b3,fun p hp=>h _ _ (q p hp)⟩)
  ·exact .inr (.inr ⟨l,k,xs,e,e',s,b1,b2,b3,b4,fun z=>h _ _ (q0 z),fun p hp=>h _ _ (q p hp)⟩)
 |.fdiv,v,v',H,Q,Q',h,z=>AW _ _ _ _ _ h z
 |.mod,v,v',H,Q,Q',h,z=>AW _ _ _ _ _ h z
 |.pow,v,v',H,Q,Q',h,z=>AW _ _ _ _ _ h z
end
section
variable {K:PySem.W.Frag}{H:Hp}{st:aB}{R:VK}
theorem Rep.int_inv {i:Int}{v:V}(r:Rep K H (.int i) v):v=.int i:=by cases r;rfl
theorem Rep.str_inv {x:List Nat}{v:V}(r:Rep K H (.str x) v):v=.str ⟨x.toArray⟩:=by cases r;rfl
theorem Rep.gM {b:Bool}{v:V}(r:Rep K H (.bl b) v):v=.bl b:=by cases r;rfl
theorem Rep.fN {v:V}(r:Rep K H .non v):v=.non:=by cases r;rfl
theorem Rep.cQ {a:Addr}{v:V}(r:Rep K H (.ref a) v):v=.ref a:=by cases r;rfl
theorem Rep.bS {ds:List D}{v:V}(r:Rep K H (.tup ds) v):∃ a vs,v=.ref a/\eU K H a vs/\aL K H ds vs:=by cases r with|tup h r=>exact⟨_,_,rfl,h,r⟩
theorem Rep.K0 {ks vs:List D}{v:V}(r:Rep K H (.dB ks vs) v):∃ a,v=.ref a/\Ew K a ks vs:=by cases r with|dB h=>exact⟨_,rfl,h⟩
theorem Rep.kZ {ds:List D}{v:V}(r:Rep K H (.bP ds) v):∃ a vs,v=.ref a/\sH K H a vs/\aL K H ds vs:=by cases r with|bP h r=>exact⟨_,_,rfl,h,r⟩
theorem eF {a:Nat}{P:List D->Prop}(h:cP st a P):∃ ds,st a=some (.lst ds)/\P ds:=by
 unfold cP at h
 split at h
 ·rename_i ds e;exact⟨ds,e,h⟩
 ·exact h.elim
theorem tM {a:Nat}{P:List D->Prop}{M:List D->List D->Prop}(ok:aS K st H)(h:eT st a P M):∃ ds,st a=some (.lst ds)/\P ds:=by
 unfold eT at h
 split at h
 ·rename_i ds e;exact⟨ds,e,h⟩
 ·rename_i e;exact(ok _ _ e).elim
 ·exact h.elim
theorem eO {α:Type}{o:Option α}{P:α->Prop}(h:dA o P):∃ x,o=some x/\P x:=by
 unfold dA at h
 split at h
 ·exact⟨_,rfl,h⟩
 ·exact h.elim
theorem V8 (x y:List Nat):(⟨x.toArray⟩:Str)++⟨y.toArray⟩=⟨(x++y).toArray⟩:=by
 show Str.mk _=Str.mk _
 simp
theorem aL.nil_inv {vs:List V}(r:aL K H [] vs):vs=[]:=by cases r;rfl
theorem aL.flat {ds:List D}{vs:List V}(r:aL K H ds vs):∀ k:Nat,aL K H (List.replicate k ds).flatten (List.replicate k vs).flatten
 |0=>.nil
 |k+1=>by simp only[List.replicate_succ,List.flatten_cons];exact r.append (aL.flat r k)
theorem Q7 {op:vC}{d d':D}{v v':V}(ok:aS K st H)(r:Rep K H d v)(r':Rep K H d' v')(h:iB op d d' st R):NN K op v v' H (QD K H st R):=by
 unfold iB at h
 split at h
 ·cases r.int_inv;cases r'.int_inv
  exact .inl ⟨_,_,rfl,rfl,.here ok (.int _) h⟩
 ·rename_i a b
  cases r.str_inv;cases r'.str_inv
  refine .inr (.inl ⟨_,_,rfl,rfl,?_,?_⟩)
  ·rw[gG];simpa [Str.length]using h.1
  ·rw[V8];exact .here ok (.str _) h.2
 ·rename_i ds es
  obtain⟨a,vs,rfl,s1,q1⟩:=r.bS
  obtain⟨b,us,rfl,s2,q2⟩:=r'.bS
  cases ds with
  |nil =>
   cases q1.nil_inv
   exact .inr (.inr (.inr (.inl ⟨a,b,us,rfl,rfl,s1,s2,.here ok r' (by simpa using h.2)⟩)))
  |cons d ds =>
   refine .inr (.inr (.inl ⟨a,b,vs,us,rfl,rfl,s1,s2,?_,?_,fun e=>?_,fun _ p hp=>.IB ok (q1.append q2) hp h.2⟩))
   ·intro e;subst e;cases q1
   ·rw[gG,<-q1.length,<-q2.length];exact h.1
   ·subst e
    cases q2
    exact .here ok r (by simpa using h.2)
 ·rename_i a b
  cases r.cQ;cases r'.cQ
  obtain⟨xs,e1,h⟩:=eF h
  obtain⟨ys,e2,h⟩:=eF h
  obtain⟨vs,g1,q1⟩:=ok.lst e1
  obtain⟨us,g2,q2⟩:=ok.lst e2
  refine .inr (.inr (.inr (.inr ⟨a,b,vs,us,rfl,rfl,g1,g2,?_,fun p hp=>.iE ok (q1.append q2) hp h.2⟩)))
  rw[gG,<-q1.length,<-q2.length];simpa using h.1
 ·cases r.int_inv;cases r'.int_inv
  exact⟨_,_,rfl,rfl,.here ok (.int _) h⟩
 ·cases r.int_inv;cases r'.int_inv
  exact .inl ⟨_,_,rfl,rfl,h.1.imp (fun z=>z) (fun z=>z),.here ok (.int _) h.2⟩
 ·rename_i a k
  cases r.cQ;cases r'.int_inv
  obtain⟨xs,e1,h1,h2,h⟩:=eF h
  obtain⟨vs,g1,q1⟩:=ok.lst e1
  refine .inr (.inl ⟨a,k,vs,rfl,rfl,g1,by omega,by omega,?_,fun p hp=>.iE ok (q1.flat _) hp h.2⟩)
  rw[gG,<-q1.length];exact h1
 ·rename_i xs k
  obtain⟨a,vs,rfl,f,g⟩:=r.bS
  cases r'.int_inv
  obtain⟨⟨c1,c2,c3,c4⟩,h⟩:=h
  refine .inr (.inr ⟨a,k,vs,rfl,rfl,f,by rw[<-g.length];exact c1,by rw[<-g.length];exact c2,c3,c4,fun e=>?_,fun p hp=>.IB ok (g.flat _) hp h⟩)
  subst e
  have e1:(List.replicate (1:Int).toNat xs).flatten=xs:=by simp
  rw[e1]at h
  exact .here ok r h
 ·cases r.int_inv;cases r'.int_inv
  exact⟨_,_,rfl,rfl,h.1,.here ok (.int _) h.2⟩
 ·cases r.int_inv;cases r'.int_inv
  exact⟨_,_,rfl,rfl,h.1,.here ok (.int _) h.2⟩
 ·cases r.int_inv;cases r'.int_inv
  exact⟨_,_,rfl,rfl,h.1,.here ok (.int _) h.2⟩
 ·exact h.elim
end
section
variable {X:Cx}{C:bO}{sub:Nat->Nat->Bool}{E:XK}{a b c e:Expr}{x y z:Ex}{pos:Pos}
theorem Ir {op:vC}(ha:PE X a (cB X.K (aG C sub E x)))(hb:PE X b (cB X.K (aG C sub E y))):PE X (.BinOp a (Bp op) b pos) (cB X.K (aG C sub E (.bin op x y))) :=
 (Jy (Y9 op) ha hb).imp fun σ H Q ⟨σd,st,R,r,ok,q,hq⟩=>by
 simp only[aG]at q
 exact two (W:=fun d d' aH=>iB op d d' aH R) r ok q hq (fun d d' v v' H2 aH cH r1 r2 h=>Q7 cH r1 r2 h) (PB op)
theorem Fi (ha:PE X a (cB X.K (aG C sub E x))):PE X (.UnaryOp .USub a pos) (cB X.K (aG C sub E (.neg x))) :=
 (Je Eh ha).imp fun σ H Q ⟨σd,st,R,r,ok,q,hq⟩=>by
 simp only[aG]at q
 refine⟨σd,st,_,r,ok,q,fun v H1 ⟨d,aC,s1,aQ,r1,q1⟩=>?_⟩
 have q1:zQ d aC R:=q1
 unfold zQ at q1
 split at q1
 ·cases r1.int_inv
  exact⟨_,rfl,hq _ _ (.after s1 (.here aQ (.int _) q1))⟩
 ·exact q1.elim
def Mf (d:D)(st:aB):Option Bool:=match d with
 |.non=>some false
 |.bl b=>some b
 |.int i=>some (i != 0)
 |.str x=>if x.length<=aZ then some (!x.isEmpty)else none
 |.tup ds=>some (!ds.isEmpty)
 |.ref a=>match st a with
  |some (.lst ds)=>some (!ds.isEmpty)
  |some (.dic ks _)=>some (!ks.isEmpty)
  |some _=>none
  |none=>none
 |.bP ds=>some (!ds.isEmpty)
 |_=>none
theorem wZ {d:D}{st:aB}{P:Bool->Prop}:eI d st P↔∃ k,Mf d st=some k/\P k:=by
 cases d with
 |str x =>
  show(x.length<=aZ/\P (!x.isEmpty))↔∃ k,(if x.length<=aZ then some (!x.isEmpty)else none)=some k/\P k
  split
  ·rename_i h;exact⟨fun z=>⟨_,rfl,z.2⟩,fun⟨k,e,q⟩=>⟨h,by cases e;exact q⟩⟩
  ·rename_i h;exact⟨fun z=>(h z.1).elim,fun⟨k,e,q⟩=>by cases e⟩
 |ref a =>
  show eT st a _ _↔∃ k,(match st a with|some (.lst ds)=>some (!ds.isEmpty)|some (.dic ks _)=>some (!ks.isEmpty)|some _=>none|none=>none)=some k/\P k
  unfold eT
  cases st a with
  |none=>exact⟨fun z=>z.elim,fun⟨k,e,q⟩=>by cases e⟩
  |some o=>cases o with
   |lst ds=>exact⟨fun z=>⟨_,rfl,z⟩,fun⟨k,e,q⟩=>by cases e;exact q⟩
   |dic ks vs=>exact⟨fun z=>⟨_,rfl,z⟩,fun⟨k,e,q⟩=>by cases e;exact q⟩
   |ins _ _=>exact⟨fun z=>z.elim,fun⟨k,e,q⟩=>by cases e⟩
   |tab _ _=>exact⟨fun z=>z.elim,fun⟨k,e,q⟩=>by cases e⟩
 |dB _ _=>exact⟨fun z=>z.elim,fun⟨k,e,q⟩=>by cases e⟩
 |exc _=>exact⟨fun z=>z.elim,fun⟨k,e,q⟩=>by cases e⟩
 |_=>exact⟨fun z=>⟨_,rfl,z⟩,fun⟨k,e,q⟩=>by cases e;exact q⟩
theorem iY {α:Type}(x:List α):(!x.isEmpty)=(((x.length:Nat):Int) != 0):=by
 cases x with
 |nil=>rfl
 |cons a r =>
 simp only[List.isEmpty_cons,Bool.not_false,List.length_cons]
 symm
 rw[bne_iff_ne];omega
theorem tZ {K:PySem.W.Frag}{H:Hp}{st:aB}{d:D}{v:V}{P:Bool->Prop}(ok:aS K st H)(r:Rep K H d v)(h:eI d st P):∃ k,TY K v H k/\P k:=by
 unfold eI at h
 split at h
 ·cases r.fN;exact⟨_,rfl,h⟩
 ·cases r.gM;exact⟨_,rfl,h⟩
 ·cases r.int_inv;exact⟨_,rfl,h⟩
 ·rename_i x P
  cases r.str_inv
  refine⟨_,⟨by rw[gG];simpa [Str.length]using h.1,?_⟩,h.2⟩
  rw[iY];simp [Str.length]
 ·obtain⟨a,vs,rfl,s1,q1⟩:=r.bS
  refine⟨_,.inr (.inl ⟨vs,s1,?_⟩),h⟩
  rw[iY,iY,q1.length]
 ·cases r.cQ
  obtain⟨ds,e,h⟩:=tM ok h
  obtain⟨vs,g,q⟩:=ok.lst e
  refine⟨_,.inl ⟨vs,dN.of g,?_⟩,h⟩
  rw[iY,iY,q.length]
 ·obtain⟨a,vs,rfl,s1,q1⟩:=r.kZ
  refine⟨_,.inl ⟨vs,s1.sq,?_⟩,h⟩
  rw[iY,iY,q1.length]
 ·exact h.elim
theorem TN (h:PE X e (cB X.K (aG C sub E x)))(he:∀ whole,isTrue e X.env whole=(do let v <-whole;standAt e.pos;holding [v] (truthy v))):PT X e (jG X.K (aG C sub E x)) :=
 (S1 h he).imp fun σ H Q ⟨σd,st,R,r,ok,q,hq⟩=>by
 refine⟨σd,st,_,r,ok,q,fun v H1 ⟨d,aC,s1,aQ,r1,q1⟩=>?_⟩
 obtain⟨k,t,z⟩:=tZ aQ r1 q1
 exact⟨k,t,hq _ _ ⟨aC,s1,aQ,z⟩⟩
theorem Ay (h:PT X e (jG X.K (aG C sub E x))):PT X (.UnaryOp .Not e pos) (jG X.K (aG C sub E (.not_ x))) :=
 (ZN h).imp fun σ H Q ⟨σd,st,R,r,ok,q,hq⟩=>by
 simp only[aG,EA]at q
 exact⟨σd,st,fun b aA=>R (!b) aA,r,ok,q,fun b H1 z=>hq _ _ z⟩
theorem Jm (h:PE X e (cB X.K (aG C sub E x))):PE X (.UnaryOp .Not e pos) (cB X.K (aG C sub E (.not_ x))):=by
 intro pins s σ H Q I ⟨σd,st,R,r,ok,q,hq⟩
 simp only[aG]at q
 refine UnaryOp_ (bE (h pins s σ H _ I ⟨σd,st,_,r,ok,q,fun v H' z=>z⟩) fun u s1 ⟨v,H1,I1,rv,d,aC,st1s,aQ,r1,q1⟩=>?_)
 obtain⟨k,t,z⟩:=tZ aQ r1 q1
 exact not_of (bE (DP pins s1 σ H1 v u (fun b H'=>Q (.bl (!b)) H') I1 rv ⟨k,t,hq _ _ (.after st1s (.here aQ (.bl _) z))⟩) fun b s2 ⟨H2,I2,w⟩=>⟨.bl (!b),H2,I2,rfl,w⟩)
theorem PW.jt (h:PW X e (jG X.K (aG C sub E x))):PT X e (jG X.K (aG C sub E x)):=h.pt
theorem Ci {op:BoolOp}(h:PT X e (jG X.K (aG C sub E x))):PW X (.BoolOp op [e] pos) (jG X.K (aG C sub E x)):=by
 cases op
 ·exact YZ h
 ·exact ZM h
theorem Dk {rest:List Expr}(hC:bX C C)(ha:PT X a (jG X.K (aG C sub E x)))(hb:PW X (.BoolOp .And (b::rest) pos) (jG X.K (aG C sub E y))):PW X (.BoolOp .And (a::b::rest) pos) (jG X.K (aG C sub E (.and_ x y))) :=
 (ZG ha hb).imp fun σ H Q ⟨σd,st,R,r,ok,q,hq⟩=>by
 simp only[aG]at q
 refine⟨σd,st,fun k aC=>if k=true then aG C sub E y σd aC (fun d aA=>eI d aA fun b=>R b aA)else R false aC,r,ok,aW hC (fun _ _ z=>z) x (fun d aC z=>?_) q,fun k H1 ⟨aC,s1,aQ,z⟩=>?_⟩
 ·rw[wZ]at z ⊢
  obtain⟨k,t,z⟩:=z
  refine⟨k,t,?_⟩
  cases k with
  |true=>exact z
  |false =>
  have z':eI d aC fun b=>R b aC:=z
  rw[wZ]at z'
  obtain⟨k',t',z'⟩:=z'
  rw[t]at t';cases t'
  exact z'
 ·cases k with
  |true=>exact⟨σd,aC,R,r.step ok s1,aQ,z,fun k H2 ⟨aH,s2,cH,w⟩=>hq _ _ ⟨aH,s1.trans s2,cH,w⟩⟩
  |false=>exact hq _ _ ⟨aC,s1,aQ,z⟩
theorem Kc {rest:List Expr}(hC:bX C C)(ha:PT X a (jG X.K (aG C sub E x)))(hb:PW X (.BoolOp .Or (b::rest) pos) (jG X.K (aG C sub E y))):PW X (.BoolOp .Or (a::b::rest) pos) (jG X.K (aG C sub E (.or_ x y))) :=
 (Fz ha hb).imp fun σ H Q ⟨σd,st,R,r,ok,q,hq⟩=>by
 simp only[aG]at q
 refine⟨σd,st,fun k aC=>if k=true then R true aC else aG C sub E y σd aC (fun d aA=>eI d aA fun b=>R b aA),r,ok,aW hC (fun _ _ z=>z) x (fun d aC z=>?_) q,fun k H1 ⟨aC,s1,aQ,z⟩=>?_⟩
 ·rw[wZ]at z ⊢
  obtain⟨k,t,z⟩:=z
  refine⟨k,t,?_⟩
  cases k with
  |false=>exact z
  |true =>
  have z':eI d aC fun b=>R b aC:=z
  rw[wZ]at z'
  obtain⟨k',t',z'⟩:=z'
  rw[t]at t';cases t'
  exact z'
 ·cases k with
  |false=>exact⟨σd,aC,R,r.step ok s1,aQ,z,fun k H2 ⟨aH,s2,cH,w⟩=>hq _ _ ⟨aH,s1.trans s2,cH,w⟩⟩
  |true=>exact hq _ _ ⟨aC,s1,aQ,z⟩
theorem Hu {rest:List Expr}(ha:PE X a (cB X.K (aG C sub E x)))(hb:PE X (.BoolOp .And (b::rest) pos) (cB X.K (aG C sub E y))):PE X (.BoolOp .And (a::b::rest) pos) (cB X.K (aG C sub E (.and_ x y))):=by
 intro pins s σ H Q I ⟨σd,st,R,r,ok,q,hq⟩
 simp only[aG]at q
 refine BoolOp_and (bE (ha pins s σ H _ I ⟨σd,st,_,r,ok,q,fun v H' z=>z⟩) fun u s1 ⟨v,H1,I1,rv,d,aC,st1s,aQ,r1,q1⟩=>?_)
 obtain⟨k,t,z⟩:=tZ aQ r1 q1
 refine bE (DP pins s1 σ H1 v u (fun b H'=>b=k/\H'=H1) I1 rv ⟨k,t,rfl,rfl⟩) fun b s2 ⟨H2,I2,e,e'⟩=>?_
 subst e e'
 cases b with
 |true=>exact hb pins s2 σ H2 Q I2 ⟨σd,aC,R,r.step ok st1s,aQ,z,fun v H' w=>hq _ _ (.after st1s w)⟩
 |false=>exact⟨v,H2,I2,rv,hq _ _ (.after st1s (.here aQ r1 z))⟩
theorem Mi {rest:List Expr}(ha:PE X a (cB X.K (aG C sub E x)))(hb:PE X (.BoolOp .Or (b::rest) pos) (cB X.K (aG C sub E y))):PE X (.BoolOp .Or (a::b::rest) pos) (cB X.K (aG C sub E (.or_ x y))):=by
 intro pins s σ H Q I ⟨σd,st,R,r,ok,q,hq⟩
 simp only[aG]at q
 refine BoolOp_or (bE (ha pins s σ H _ I ⟨σd,st,_,r,ok,q,fun v H' z=>z⟩) fun u s1 ⟨v,H1,I1,rv,d,aC,st1s,aQ,r1,q1⟩=>?_)
 obtain⟨k,t,z⟩:=tZ aQ r1 q1
 refine bE (DP pins s1 σ H1 v u (fun b H'=>b=k/\H'=H1) I1 rv ⟨k,t,rfl,rfl⟩) fun b s2 ⟨H2,I2,e,e'⟩=>?_
 subst e e'
 cases b with
 |false=>exact hb pins s2 σ H2 Q I2 ⟨σd,aC,R,r.step ok st1s,aQ,z,fun v H' w=>hq _ _ (.after st1s w)⟩
 |true=>exact⟨v,H2,I2,rv,hq _ _ (.after st1s (.here aQ r1 z))⟩
theorem Fk {op:BoolOp}(h:PE X e (cB X.K (aG C sub E x))):PE X (.BoolOp op [e] pos) (cB X.K (aG C sub E x)):=Ak h
end
end L3
end
section
namespace L3
open PySem PySem.Spec PyProof.Rows L2 PySem.SeqAt
mutual
theorem wG:∀ d:D,bI d=true->bU d d=true
 |.non,_=>rfl
 |.bl b,_=>by simp [bU]
 |.int i,_=>by simp [bU]
 |.str x,_=>by simp [bU]
 |.tup ds,h=>by simp only[bI]at h;simp only[bU];exact lE ds h
 |.ref _,h=>by simp [bI]at h
 |.dB _ _,h=>by simp [bI]at h
 |.bP _,h=>by simp [bI]at h
 |.exc _,h=>by simp [bI]at h
theorem lE:∀ ds:List D,bN ds=true->fP ds ds=true
 |[],_=>rfl
 |d::ds,h=>by
  simp only[bN,Bool.and_eq_true]at h
  simp only[fP,Bool.and_eq_true]
  exact⟨wG d h.1,lE ds h.2⟩
end
theorem nJ:∀{ds:List D}{d:D},bN ds=true->d∈ds->bI d=true
 |e::ds,d,h,m=>by
  simp only[bN,Bool.and_eq_true]at h
  rcases List.mem_cons.mp m with rfl|m
  ·exact h.1
  ·exact nJ h.2 m
theorem jJ:∀{ds:List D}{d:D},d∈ds->cL d<=cK ds
 |e::ds,d,m=>by
  simp only[cK]
  rcases List.mem_cons.mp m with rfl|m
  ·omega
  ·have:=jJ m;omega
theorem xG:∀{ds es:List D}(e:Nat->Bool),(∀ j d d',ds[j]? = some d->es[j]? = some d'->e j=bU d d')->((List.range (min ds.length es.length)).all e&&ds.length==es.length)=fP ds es
 |[],[],e,h=>by simp [fP]
 |[],_::_,e,h=>by simp [fP]
 |_::_,[],e,h=>by simp [fP]
 |d::ds,d'::es,e,h=>by
  have ih:=xG (fun j=>e (j+1)) fun j x x' e1 e2=>h (j+1) x x' (by simpa using e1) (by simpa using e2)
  have h0:=h 0 d d' rfl rfl
  simp only[fP,List.length_cons,Nat.add_min_add_right,List.range_succ_eq_map,List.all_cons,List.all_map,Function.comp_def]
  rw[<-ih,h0]
  have hl:(ds.length+1==es.length+1)=(ds.length==es.length):=by simp
  rw[hl,Bool.and_assoc]
theorem R0 {ds es:List D}(e:Nat->Bool)(hl:ds.length=es.length)(h:∀ j d d',ds[j]? = some d->es[j]? = some d'->e j=bU d d'):(List.range ds.length).all e=fP ds es:=by
 rw[<-xG e h,<-hl];simp
theorem KD:∀{ds es:List D},ds.length≠es.length->fP ds es=false
 |[],[],h=>(h rfl).elim
 |[],_::_,h=>rfl
 |_::_,[],h=>rfl
 |d::ds,d'::es,h=>by simp only[fP,KD (ds:=ds) (es:=es) (by simpa using h),Bool.and_false]
section
variable {X:Cx}{pins:List (Addr×Obj)}{σ:L2.St}{H:Hp}{s:Shared}{st:aB}
theorem aO.at {vs:List V}{aD:List Value}(r:aO vs aD){j:Nat}(h:j<aD.toArray.size):∃ v,vs[j]? = some v/\RelV v aD.toArray[j]:=by
 have hl:=r.length
 have hj:j<vs.length:=by simp at h;omega
 obtain⟨u,e1,e2⟩:=aO.get r (List.getElem?_eq_getElem hj)
 refine⟨vs[j],List.getElem?_eq_getElem hj,?_⟩
 rw[List.getElem?_eq_some_iff]at e1
 obtain⟨h1,e1⟩:=e1
 simp only[List.getElem_toArray,e1]
 exact e2
theorem aL.get' {K:PySem.W.Frag}:∀{ds:List D}{vs:List V}{i:Nat}{v:V},aL K H ds vs->vs[i]? = some v->∃ d,ds[i]? = some d/\Rep K H d v
 |_,_,_,_,.nil,e=>by simp at e
 |_,_,0,_,.cons h _,e=>by simp at e;subst e;exact⟨_,rfl,h⟩
 |_,_,i+1,v,.cons _ r,e=>by
  obtain⟨d,e1,e2⟩:=aL.get' (i:=i) (v:=v) r (by simpa using e)
  exact⟨d,by simpa using e1,e2⟩
theorem AS (I:Inv X pins σ H s):∀(n:Nat){d d':D}{v:V},cL d<=n->bI d=true->bI d'=true->Rep X.K H d v->Rep X.K H d' v->d=d':=by
 intro n
 induction n with
 |zero =>
 intro d d' v hn p p' r r'
 cases r<;>cases r'<;>first|rfl|(simp [bI]at p;done)|(simp [bI]at p';done)|(simp [cL]at hn;done)
 |succ n ih =>
 intro d d' v hn p p' r r'
 cases r<;>cases r'<;>first|rfl|(simp [bI]at p;done)|(simp [bI]at p';done)|skip
 rename_i ds a vs h r es us r' h'
 cases I.tH h h'
 have go:∀(ds es:List D)(vs:List V),cK ds<=n->bN ds=true->bN es=true->aL X.K H ds vs->aL X.K H es vs->ds=es:=by
  intro ds
  induction ds with
  |nil=>intro es vs _ _ _ r r';cases r;cases r';rfl
  |cons d ds ihs =>
  intro es vs hd pp pp' r r'
  cases r with
  |cons r1 r2=>cases r' with
   |cons r1' r2' =>
   simp only[cK]at hd
   simp only[bN,Bool.and_eq_true]at pp pp'
   rw[ih (by omega) pp.1 pp'.1 r1 r1',ihs _ _ (by omega) pp.2 pp'.2 r2 r2']
 rw[go ds es vs (by simp only[cL]at hn;omega) (by simpa [bI]using p) (by simpa [bI]using p') r r']
def yA (A:Around)(s:Shared)(u u':Value)(b:Bool):Prop:=RcAt A s u u' b/\EqAt A s u u' b/\RcNeAt A s u u' (!b)
def pC:D->Bool
 |.non=>true
 |.bl _=>true
 |.int _=>true
 |.str _=>true
 |_=>false
theorem JJ (x y:List Nat):((⟨x.toArray⟩:Str)==⟨y.toArray⟩)=(x==y):=by
 rw[<-str_beq]
theorem wW {K:PySem.W.Frag}{H:Hp}{A:Around}{s:Shared}{d d':D}{v v':V}{u u':Value}(p:pC d=true)(p':pC d'=true)(r:Rep K H d v)(rv:RelV v u)(r':Rep K H d' v')(bK:RelV v' u'):yA A s u u' (bU d d'):=by
 cases d with
 |non=>cases d' with
  |non =>
   cases r.fN;cases rv
   cases r'.fN;cases bK
   exact⟨RcAt.none_none,EqAt.same _,RcNeAt.none_none⟩
  |bl b' =>
   cases r.fN;cases rv
   cases r'.gM;cases bK
   simp only[bU]
   exact⟨RcAt.none_bool _,EqAt.none_bool _,RcNeAt.none_bool _⟩
  |int i' =>
   cases r.fN;cases rv
   cases r'.int_inv;obtain⟨_,rfl⟩:=bK
   simp only[bU]
   exact⟨RcAt.none_int _ _,EqAt.none_int _ _,RcNeAt.none_int _ _⟩
  |str x' =>
   cases r.fN;cases rv
   cases r'.str_inv;obtain⟨_,rfl⟩:=bK
   simp only[bU]
   exact⟨RcAt.none_str _ _,EqAt.none_str _ _,RcNeAt.none_str _ _⟩
  |_=>cases p'
 |bl b=>cases d' with
  |non =>
   cases r.gM;cases rv
   cases r'.fN;cases bK
   simp only[bU]
   exact⟨RcAt.bool_none _,EqAt.bool_none _,RcNeAt.bool_none _⟩
  |bl b' =>
   cases r.gM;cases rv
   cases r'.gM;cases bK
   simp only[bU]
   exact⟨RcAt.bool_bool _ _,EqAt.bool_bool _ _,RcNeAt.bool_bool _ _⟩
  |int i' =>
   cases r.gM;cases rv
   cases r'.int_inv;obtain⟨_,rfl⟩:=bK
   simp only[bU]
   exact⟨RcAt.bool_int _ _ _,EqAt.bool_int _ _ _,RcNeAt.bool_int _ _ _⟩
  |str x' =>
   cases r.gM;cases rv
   cases r'.str_inv;obtain⟨_,rfl⟩:=bK
   simp only[bU]
   exact⟨RcAt.bool_str _ _ _,EqAt.bool_str _ _ _,RcNeAt.bool_str _ _ _⟩
  |_=>cases p'
 |int i=>cases d' with
  |non =>
   cases r.int_inv;obtain⟨_,rfl⟩:=rv
   cases r'.fN;cases bK
   simp only[bU]
   exact⟨RcAt.int_none _ _,EqAt.int_none _ _,RcNeAt.int_none _ _⟩
  |bl b' =>
   cases r.int_inv;obtain⟨_,rfl⟩:=rv
   cases r'.gM;cases bK
   simp only[bU]
   exact⟨RcAt.int_bool _ _ _,EqAt.int_bool _ _ _,RcNeAt.int_bool _ _ _⟩
  |int i' =>
   cases r.int_inv;obtain⟨_,rfl⟩:=rv
   cases r'.int_inv;obtain⟨_,rfl⟩:=bK
   simp only[bU]
   exact⟨RcAt.int_int _ _ _ _,EqAt.int_int _ _ _ _,RcNeAt.int_int _ _ _ _⟩
  |str x' =>
   cases r.int_inv;obtain⟨_,rfl⟩:=rv
   cases r'.str_inv;obtain⟨_,rfl⟩:=bK
   simp only[bU]
   exact⟨RcAt.int_str _ _ _ _,EqAt.int_str _ _ _ _,RcNeAt.int_str _ _ _ _⟩
  |_=>cases p'
 |str x=>cases d' with
  |non =>
   cases r.str_inv;obtain⟨_,rfl⟩:=rv
   cases r'.fN;cases bK
   simp only[bU]
   exact⟨RcAt.str_none _ _,EqAt.str_none _ _,RcNeAt.str_none _ _⟩
  |bl b' =>
   cases r.str_inv;obtain⟨_,rfl⟩:=rv
   cases r'.gM;cases bK
   simp only[bU]
   exact⟨RcAt.str_bool _ _ _,EqAt.str_bool _ _ _,RcNeAt.str_bool _ _ _⟩
  |int i' =>
   cases r.str_inv;obtain⟨_,rfl⟩:=rv
   cases r'.int_inv;obtain⟨_,rfl⟩:=bK
   simp only[bU]
   exact⟨RcAt.str_int _ _ _ _,EqAt.str_int _ _ _ _,RcNeAt.str_int _ _ _ _⟩
  |str x' =>
   cases r.str_inv;obtain⟨_,rfl⟩:=rv
   cases r'.str_inv;obtain⟨_,rfl⟩:=bK
   have e:bU (.str x) (.str x')=((⟨x.toArray⟩:Str)==⟨x'.toArray⟩):=by rw[JJ];simp only[bU]
   rw[e]
   exact⟨RcAt.str_str _ _ _ _,EqAt.str_str _ _ _ _,RcNeAt.str_str _ _ _ _⟩
  |_=>cases p'
 |_=>cases p
theorem gZ {K:PySem.W.Frag}{H:Hp}{A:Around}{s:Shared}{l:Addr}{aD:Array Value}{d':D}{v':V}{u':Value}(hl:s.heap.IsTuple l aD)(hu:A.units<cLine)(p':pC d'=true)(r':Rep K H d' v')(bK:RelV v' u'):yA A s (.ref l) u' false/\yA A s u' (.ref l) false:=by
 cases d' with
 |non =>
 cases r'.fN;cases bK
 exact⟨⟨RcAt.tuple_none hl hu,EqAt.tuple_none hl hu,RcNeAt.tuple_none hl hu⟩,⟨RcAt.none_tuple hl hu,EqAt.none_tuple hl hu,RcNeAt.none_tuple hl hu⟩⟩
 |bl b =>
 cases r'.gM;cases bK
 exact⟨⟨RcAt.tuple_bool _ hl hu,EqAt.tuple_bool _ hl hu,RcNeAt.tuple_bool _ hl hu⟩,⟨RcAt.bool_tuple _ hl hu,EqAt.bool_tuple _ hl hu,RcNeAt.bool_tuple _ hl hu⟩⟩
 |int i =>
 cases r'.int_inv;obtain⟨_,rfl⟩:=bK
 exact⟨⟨RcAt.tuple_int _ _ hl hu,EqAt.tuple_int _ _ hl hu,RcNeAt.tuple_int _ _ hl hu⟩,⟨RcAt.int_tuple _ _ hl hu,EqAt.int_tuple _ _ hl hu,RcNeAt.int_tuple _ _ hl hu⟩⟩
 |str x =>
 cases r'.str_inv;obtain⟨_,rfl⟩:=bK
 exact⟨⟨RcAt.tuple_str _ _ hl hu,EqAt.tuple_str _ _ hl hu,RcNeAt.tuple_str _ _ hl hu⟩,⟨RcAt.str_tuple _ _ hl hu,EqAt.str_tuple _ _ hl hu,RcNeAt.str_tuple _ _ hl hu⟩⟩
 |_=>cases p'
theorem mD {K:PySem.W.Frag}{H:Hp}{A:Around}{s:Shared}{l:Addr}{aD:Array Value}{d':D}{v':V}{u':Value}(hl:s.heap.IsList l aD)(hu:A.units<cLine)(p':pC d'=true)(r':Rep K H d' v')(bK:RelV v' u'):yA A s (.ref l) u' false/\yA A s u' (.ref l) false:=by
 cases d' with
 |non =>
 cases r'.fN;cases bK
 exact⟨⟨RcAt.list_none hl hu,EqAt.list_none hl hu,RcNeAt.list_none hl hu⟩,⟨RcAt.none_list hl hu,EqAt.none_list hl hu,RcNeAt.none_list hl hu⟩⟩
 |bl b =>
 cases r'.gM;cases bK
 exact⟨⟨RcAt.list_bool _ hl hu,EqAt.list_bool _ hl hu,RcNeAt.list_bool _ hl hu⟩,⟨RcAt.bool_list _ hl hu,EqAt.bool_list _ hl hu,RcNeAt.bool_list _ hl hu⟩⟩
 |int i =>
 cases r'.int_inv;obtain⟨_,rfl⟩:=bK
 exact⟨⟨RcAt.list_int _ _ hl hu,EqAt.list_int _ _ hl hu,RcNeAt.list_int _ _ hl hu⟩,⟨RcAt.int_list _ _ hl hu,EqAt.int_list _ _ hl hu,RcNeAt.int_list _ _ hl hu⟩⟩
 |str x =>
 cases r'.str_inv;obtain⟨_,rfl⟩:=bK
 exact⟨⟨RcAt.list_str _ _ hl hu,EqAt.list_str _ _ hl hu,RcNeAt.list_str _ _ hl hu⟩,⟨RcAt.str_list _ _ hl hu,EqAt.str_list _ _ hl hu,RcNeAt.str_list _ _ hl hu⟩⟩
 |_=>cases p'
theorem IQ (I:Inv X pins σ H s){A:Around}{a b:Addr}{vs us:List V}{b0:Bool}(e:Nat->Bool)(ha:eU X.K H a vs)(hb:eU X.K H b us)(hu:A.units<cLine)(hs:a=b->b0=true)
  (he:∀ j v v' u u',vs[j]? = some v->us[j]? = some v'->RelV v u->RelV v' u'->EqAt A.in1 s u u' (e j))(hb0:((List.range (min vs.length us.length)).all e&&vs.length==us.length)=b0):yA A s (.ref a) (.ref b) b0:=by
 obtain⟨aD,r1,p1,_⟩:=I.tuple ha
 obtain⟨jts,r2,p2,_⟩:=I.tuple hb
 have l1:aD.toArray.size=vs.length:=by rw[List.size_toArray];exact r1.length.symm
 have l2:jts.toArray.size=us.length:=by rw[List.size_toArray];exact r2.length.symm
 have hi:∀ j (h1:j<aD.toArray.size)(h2:j<jts.toArray.size),EqAt A.in1 s aD.toArray[j] jts.toArray[j] (e j):=fun j h1 h2=>by
  obtain⟨v,e1,q1⟩:=aO.at r1 h1
  obtain⟨v',e2,q2⟩:=aO.at r2 h2
  exact he j v v' _ _ e1 e2 q1 q2
 have rc:RcAt A s (.ref a) (.ref b) b0:=by
  have:=RcAt.tuples (e:=e) p1 p2 hu hi
  rw[l1,l2,hb0]at this
  exact this
 have rn:RcNeAt A s (.ref a) (.ref b) (!b0):=by
  have:=RcNeAt.tuples (e:=e) p1 p2 hu hi
  rw[l1,l2,hb0]at this
  exact this
 refine⟨rc,?_,rn⟩
 by_cases q:a=b
 ·rw[hs q,q];exact EqAt.same _
 ·exact EqAt.of_refs q rc
theorem SV (I:Inv X pins σ H s){A:Around}{a b:Addr}{vs us:List V}{b0:Bool}(e:Nat->Bool)(ha:dN X.K H a vs)(hb:dN X.K H b us)(hu:A.units<cLine)(hs:a=b->b0=true)
  (he:∀ j v v' u u',vs[j]? = some v->us[j]? = some v'->RelV v u->RelV v' u'->EqAt A.in1 s u u' (e j))(hn:vs.length≠us.length->b0=false)(hb0:vs.length=us.length->(List.range vs.length).all e=b0):yA A s (.ref a) (.ref b) b0:=by
 obtain⟨aD,r1,p1,_⟩:=I.list ha
 obtain⟨jts,r2,p2,_⟩:=I.list hb
 have l1:aD.toArray.size=vs.length:=by rw[List.size_toArray];exact r1.length.symm
 have l2:jts.toArray.size=us.length:=by rw[List.size_toArray];exact r2.length.symm
 have hi:∀ j (h1:j<aD.toArray.size)(h2:j<jts.toArray.size),EqAt A.in1 s aD.toArray[j] jts.toArray[j] (e j):=fun j h1 h2=>by
  obtain⟨v,e1,q1⟩:=aO.at r1 h1
  obtain⟨v',e2,q2⟩:=aO.at r2 h2
  exact he j v v' _ _ e1 e2 q1 q2
 have both:RcAt A s (.ref a) (.ref b) b0/\RcNeAt A s (.ref a) (.ref b) (!b0):=by
  by_cases hl:vs.length=us.length
  ·have:=RcAt.lists (e:=e) p1.isList p2.isList (by rw[l1,l2,hl]) hu hi
   have rn:=RcNeAt.lists (e:=e) p1.isList p2.isList (by rw[l1,l2,hl]) hu hi
   rw[l1,hb0 hl]at this rn
   exact⟨this,rn⟩
  ·rw[hn hl]
   have hz:(aD.toArray.size != jts.toArray.size)=true:=by rw[l1,l2,bne_iff_ne];exact hl
   exact⟨RcAt.lists_lengths p1.isList p2.isList hz hu,RcNeAt.lists_lengths p1.isList p2.isList hz hu⟩
 refine⟨both.1,?_,both.2⟩
 by_cases q:a=b
 ·rw[hs q,q];exact EqAt.same _
 ·exact EqAt.of_refs q both.1
theorem uN {d:D}(p:bI d=true):pC d=true∨∃ ds,d=.tup ds:=by
 cases d<;>first|exact .inl rfl|exact .inr ⟨_,rfl⟩|cases p
theorem Od (I:Inv X pins σ H s):∀(n:Nat){d d':D}{A:Around}{v v':V}{u u':Value},cL d<=n->bI d=true->bI d'=true->Rep X.K H d v->RelV v u->Rep X.K H d' v'->RelV v' u'->A.units+n+2<cLine ->
  yA A s u u' (bU d d'):=by
 intro n
 induction n with
 |zero =>
  intro d d' A v v' u u' hn p p' r rv r' bK hu
  have kO:A.units<cLine:=by omega
  rcases uN p with q|⟨ds,rfl⟩
  ·rcases uN p' with q'|⟨jK,rfl⟩
   ·exact wW q q' r rv r' bK
   ·obtain⟨b,us,rfl,h2,q2⟩:=r'.bS
    cases bK
    obtain⟨aD,r1,p1,_⟩:=I.tuple h2
    have:=(gZ p1 kO q r rv).2
    have e:bU d (.tup jK)=false:=by cases d<;>first|rfl|cases q
    rw[e];exact this
  ·simp only[cL]at hn;omega
 |succ n ih =>
  intro d d' A v v' u u' hn p p' r rv r' bK hu
  have kO:A.units<cLine:=by omega
  rcases uN p with q|⟨ds,rfl⟩
  ·rcases uN p' with q'|⟨jK,rfl⟩
   ·exact wW q q' r rv r' bK
   ·obtain⟨b,us,rfl,h2,q2⟩:=r'.bS
    cases bK
    obtain⟨aD,r1,p1,_⟩:=I.tuple h2
    have:=(gZ p1 kO q r rv).2
    have e:bU d (.tup jK)=false:=by cases d<;>first|rfl|cases q
    rw[e];exact this
  ·obtain⟨a,vs,rfl,h1,q1⟩:=r.bS
   cases rv
   rcases uN p' with q'|⟨jK,rfl⟩
   ·obtain⟨aD,r1,p1,_⟩:=I.tuple h1
    have:=(gZ p1 kO q' r' bK).1
    have e:bU (.tup ds) d'=false:=by cases d'<;>first|rfl|cases q'
    rw[e];exact this
   ·obtain⟨b,us,rfl,h2,q2⟩:=r'.bS
    cases bK
    have pd:bN ds=true:=by simpa [bI]using p
    have pd':bN jK=true:=by simpa [bI]using p'
    have e0:bU (.tup ds) (.tup jK)=fP ds jK:=by simp only[bU]
    rw[e0]
    refine IQ I (fun j=>match ds[j]?,jK[j]? with|some x,some y=>bU x y|_,_=>true) h1 h2 kO (fun e=>?_) (fun j v v' u u' e1 e2 rv bK=>?_) ?_
    ·subst e
     have:=AS I (cL (.tup ds)) (Nat.le_refl _) p p' r r'
     cases this
     exact lE ds pd
    ·obtain⟨x,f1,g1⟩:=aL.get' q1 e1
     obtain⟨y,f2,g2⟩:=aL.get' q2 e2
     simp only[f1,f2]
     have hx:=jJ (List.mem_of_getElem? f1)
     simp only[cL]at hn
     exact(ih (by omega) (nJ pd (List.mem_of_getElem? f1)) (nJ pd' (List.mem_of_getElem? f2)) g1 rv g2 bK (by simp only[Around.in1_units];omega)).2.1
    ·rw[<-q1.length,<-q2.length]
     exact xG _ fun j x y e1 e2=>by simp only[e1,e2]
end
end L3
end
section
namespace L3
open PySem PySem.Spec PyProof.Rows L2 PySem.SeqAt
def rX (st:aB):D->Option (List D)
 |.ref a=>match st a with
  |some (.lst xs)=>some xs
  |_=>none
 |.bP xs=>some xs
 |_=>none
theorem kinds {st:aB}{d:D}(p:fI st d=true):pC d=true∨(∃ ds,d=.tup ds/\iD st ds=true)∨∃ xs,rX st d=some xs/\bN xs=true/\cK xs<=mL:=by
 cases d with
 |tup ds=>exact .inr (.inl ⟨ds,rfl,by simpa [fI]using p⟩)
 |ref a =>
  simp only[fI]at p
  cases q:st a with
  |none=>rw[q]at p;cases p
  |some o=>cases o with
   |lst xs =>
    rw[q]at p
    simp only[KC,Bool.and_eq_true,decide_eq_true_eq]at p
    exact .inr (.inr ⟨xs,by simp [rX,q],p⟩)
   |dic _ _=>rw[q]at p;cases p
   |ins _ _=>rw[q]at p;cases p
   |tab _ _=>rw[q]at p;cases p
 |bP xs =>
  simp only[fI,Bool.and_eq_true,decide_eq_true_eq]at p
  exact .inr (.inr ⟨xs,rfl,p⟩)
 |dB _ _=>cases p
 |exc _=>cases p
 |_=>exact .inl rfl
theorem DX {st:aB}{d d':D}{xs ys:List D}(h:rX st d=some xs)(h':rX st d'=some ys):bT st d d'=fP xs ys:=by
 cases d with
 |ref a =>
  simp only[rX]at h
  split at h
  ·rename_i zs e
   cases h
   cases d' with
   |ref b =>
    simp only[rX]at h'
    split at h'
    ·rename_i ws e'
     cases h'
     simp only[bT,e,e',C6]
    ·cases h'
   |bP ws=>cases h';simp only[bT,e,C6]
   |_=>cases h'
  ·cases h
 |bP zs =>
  cases h
  cases d' with
  |ref b =>
   simp only[rX]at h'
   split at h'
   ·rename_i ws e'
    cases h'
    simp only[bT,e',C6]
   ·cases h'
  |bP ws=>cases h';simp only[bT]
  |_=>cases h'
 |_=>cases h
theorem DK {st:aB}{d d':D}{xs:List D}(h:rX st d=some xs)(p:pC d'=true):bT st d d'=false/\bT st d' d=false:=by
 cases d<;>first|(cases h;done)|skip
 all_goals (cases d'<;>first|(cases p;done)|exact⟨rfl,rfl⟩|(simp [bT];done))
theorem LJ {st:aB}{d:D}{ds xs:List D}(h:rX st d=some xs):bT st d (.tup ds)=false/\bT st (.tup ds) d=false:=by
 cases d<;>first|(cases h;done)|exact⟨rfl,rfl⟩|(simp [bT];done)
theorem DY {st:aB}{d d':D}(p:pC d=true)(p':pC d'=true):bT st d d'=bU d d':=by
 cases d<;>first|(cases p;done)|skip
 all_goals (cases d'<;>first|(cases p';done)|rfl|(simp [bT,bU];done))
theorem JL {st:aB}{d:D}{ds:List D}(p:pC d=true):bT st d (.tup ds)=false/\bT st (.tup ds) d=false:=by
 cases d<;>first|(cases p;done)|exact⟨rfl,rfl⟩|(simp [bT];done)
theorem gO {st:aB}:∀{ds:List D}{d:D},iD st ds=true->d∈ds->fI st d=true
 |e::ds,d,h,m=>by
  simp only[iD,Bool.and_eq_true]at h
  rcases List.mem_cons.mp m with rfl|m
  ·exact h.1
  ·exact gO h.2 m
theorem K3 {st:aB}:∀{ds es:List D}(e:Nat->Bool),(∀ j d d',ds[j]? = some d->es[j]? = some d'->e j=bT st d d')->((List.range (min ds.length es.length)).all e&&ds.length==es.length)=jO st ds es
 |[],[],e,h=>by simp [jO]
 |[],_::_,e,h=>by simp [jO]
 |_::_,[],e,h=>by simp [jO]
 |d::ds,d'::es,e,h=>by
  have ih:=K3 (fun j=>e (j+1)) fun j x x' e1 e2=>h (j+1) x x' (by simpa using e1) (by simpa using e2)
  have h0:=h 0 d d' rfl rfl
  simp only[jO,List.length_cons,Nat.add_min_add_right,List.range_succ_eq_map,List.all_cons,List.all_map,Function.comp_def]
  rw[<-ih,h0]
  have hl:(ds.length+1==es.length+1)=(ds.length==es.length):=by simp
  rw[hl,Bool.and_assoc]
section
variable {X:Cx}{pins:List (Addr×Obj)}{σ:L2.St}{H:Hp}{s:Shared}{st:aB}
theorem fZ {K:PySem.W.Frag}{d:D}{v:V}{xs:List D}(ok:aS K st H)(h:rX st d=some xs)(r:Rep K H d v):∃ a vs,v=.ref a/\dN K H a vs/\aL K H xs vs:=by
 cases r with
 |ref a =>
 simp only[rX]at h
 split at h
 ·rename_i zs e
  cases h
  obtain⟨vs,g,q⟩:=ok.lst e
  exact⟨a,vs,rfl,dN.of g,q⟩
 ·cases h
 |bP f q=>cases h;exact⟨_,_,rfl,f.sq,q⟩
 |_=>cases h
theorem rZ (I:Inv X pins σ H s):∀{ds es:List D}{vs:List V},bN ds=true->bN es=true->aL X.K H ds vs->aL X.K H es vs->ds=es
 |_,_,_,_,_,.nil,.nil=>rfl
 |_,_,_,p,p',.cons h r,.cons h' r'=>by
  simp only[bN,Bool.and_eq_true]at p p'
  rw[AS I _ (Nat.le_refl _) p.1 p'.1 h h',rZ I p.2 p'.2 r r']
theorem EL (I:Inv X pins σ H s){a:Addr}{vs us:List V}(h:dN X.K H a vs)(h':eU X.K H a us):False:=by
 obtain⟨aD,_,p1,_⟩:=I.list h
 obtain⟨jts,_,p2,_⟩:=I.tuple h'
 exact ne_of_list_tuple p1.isList p2 rfl
theorem WI (I:Inv X pins σ H s)(ok:aS X.K st H):∀(n:Nat){d d':D}{v:V},cL d<=n->fI st d=true->fI st d'=true->Rep X.K H d v->Rep X.K H d' v->bT st d d'=true:=by
 intro n
 induction n with
 |zero =>
  intro d d' v hn p p' r r'
  rcases kinds p with q|⟨ds,rfl,q⟩|⟨xs,q,q1,q2⟩
  ·rcases kinds p' with q'|⟨jK,rfl,q'⟩|⟨ys,q',q1',q2'⟩
   ·rw[DY q q']
    have pd:bI d=true:=by cases d<;>first|rfl|cases q
    have pd':bI d'=true:=by cases d'<;>first|rfl|cases q'
    rw[AS I _ (Nat.le_refl _) pd pd' r r']
    exact wG d' pd'
   ·obtain⟨a,vs,rfl,_⟩:=r'.bS
    cases r<;>cases q
   ·obtain⟨a,vs,rfl,_⟩:=fZ ok q' r'
    cases r<;>cases q
  ·simp only[cL]at hn;omega
  ·obtain⟨a,vs,rfl,f1,g1⟩:=fZ ok q r
   rcases kinds p' with q'|⟨jK,rfl,q'⟩|⟨ys,q',q1',q2'⟩
   ·cases r'<;>cases q'
   ·obtain⟨b,us,e,f2,g2⟩:=r'.bS
    cases e
    exact(EL I f1 f2).elim
   ·obtain⟨b,us,e,f2,g2⟩:=fZ ok q' r'
    cases e
    cases I.sJ f1 f2
    rw[DX q q',rZ I q1 q1' g1 g2]
    exact lE _ q1'
 |succ n ih =>
  intro d d' v hn p p' r r'
  rcases kinds p with q|⟨ds,rfl,q⟩|⟨xs,q,q1,q2⟩
  ·rcases kinds p' with q'|⟨jK,rfl,q'⟩|⟨ys,q',q1',q2'⟩
   ·rw[DY q q']
    have pd:bI d=true:=by cases d<;>first|rfl|cases q
    have pd':bI d'=true:=by cases d'<;>first|rfl|cases q'
    rw[AS I _ (Nat.le_refl _) pd pd' r r']
    exact wG d' pd'
   ·obtain⟨a,vs,rfl,_⟩:=r'.bS
    cases r<;>cases q
   ·obtain⟨a,vs,rfl,_⟩:=fZ ok q' r'
    cases r<;>cases q
  ·obtain⟨a,vs,rfl,f1,g1⟩:=r.bS
   rcases kinds p' with q'|⟨jK,rfl,q'⟩|⟨ys,q',q1',q2'⟩
   ·cases r'<;>cases q'
   ·obtain⟨b,us,e,f2,g2⟩:=r'.bS
    cases e
    cases I.tH f1 f2
    simp only[cL]at hn
    have go:∀(ds es:List D)(vs:List V),cK ds<=n->iD st ds=true->iD st es=true->aL X.K H ds vs->aL X.K H es vs->jO st ds es=true:=by
     intro ds
     induction ds with
     |nil=>intro es vs _ _ _ r r';cases r;cases r';rfl
     |cons d ds ihs =>
      intro es vs hd pp pp' r r'
      cases r with
      |cons r1 r2=>cases r' with
       |cons r1' r2' =>
        simp only[cK]at hd
        simp only[iD,Bool.and_eq_true]at pp pp'
        simp only[jO,Bool.and_eq_true]
        exact⟨ih (by omega) pp.1 pp'.1 r1 r1',ihs _ _ (by omega) pp.2 pp'.2 r2 r2'⟩
    simp only[bT]
    exact go ds jK vs (by omega) q q' g1 g2
   ·obtain⟨b,us,e,f2,g2⟩:=fZ ok q' r'
    cases e
    exact(EL I f2 f1).elim
  ·obtain⟨a,vs,rfl,f1,g1⟩:=fZ ok q r
   rcases kinds p' with q'|⟨jK,rfl,q'⟩|⟨ys,q',q1',q2'⟩
   ·cases r'<;>cases q'
   ·obtain⟨b,us,e,f2,g2⟩:=r'.bS
    cases e
    exact(EL I f1 f2).elim
   ·obtain⟨b,us,e,f2,g2⟩:=fZ ok q' r'
    cases e
    cases I.sJ f1 f2
    rw[DX q q',rZ I q1 q1' g1 g2]
    exact lE _ q1'
theorem oQ {A:Around}{l b:Addr}{aD jts:Array Value}(hl:s.heap.IsList l aD)(hb:s.heap.IsTuple b jts)(hu:A.units<cLine):yA A s (.ref l) (.ref b) false/\yA A s (.ref b) (.ref l) false :=
 ⟨⟨RcAt.list_tuple hl hb hu,EqAt.list_tuple hl hb hu,RcNeAt.list_tuple hl hb hu⟩,⟨RcAt.tuple_list hb hl hu,EqAt.tuple_list hb hl hu,RcNeAt.tuple_list hb hl hu⟩⟩
theorem RH (I:Inv X pins σ H s){A:Around}{a b:Addr}{vs us:List V}{xs ys:List D}(f1:dN X.K H a vs)(g1:aL X.K H xs vs)(f2:dN X.K H b us)(g2:aL X.K H ys us)(p1:bN xs=true)(d1:cK xs<=mL)(p2:bN ys=true)
  (hu:A.units+85<cLine):yA A s (.ref a) (.ref b) (fP xs ys):=by
 refine SV I (fun j=>match xs[j]?,ys[j]? with|some x,some y=>bU x y|_,_=>true) f1 f2 (by omega) (fun e=>?_) (fun j v v' u u' e1 e2 rv bK=>?_) (fun h=>?_) (fun h=>?_)
 ·subst e
  cases I.sJ f1 f2
  rw[rZ I p1 p2 g1 g2]
  exact lE _ p2
 ·obtain⟨x,h1,k1⟩:=aL.get' g1 e1
  obtain⟨y,h2,k2⟩:=aL.get' g2 e2
  simp only[h1,h2]
  have hx:=jJ (List.mem_of_getElem? h1)
  have hD:mL=80:=rfl
  exact(Od I mL (by omega) (nJ p1 (List.mem_of_getElem? h1)) (nJ p2 (List.mem_of_getElem? h2)) k1 rv k2 bK (by simp only[Around.in1_units];omega)).2.1
 ·exact KD (by rw[g1.length,g2.length];exact h)
 ·rw[<-g1.length]
  exact R0 _ (by rw[g1.length,g2.length];exact h) fun j x y e1 e2=>by simp only[e1,e2]
theorem OJ (I:Inv X pins σ H s)(ok:aS X.K st H):∀(n:Nat){d d':D}{A:Around}{v v':V}{u u':Value},cL d<=n->fI st d=true->fI st d'=true->Rep X.K H d v->RelV v u->Rep X.K H d' v'->RelV v' u'->A.units+n+85<cLine ->
  yA A s u u' (bT st d d'):=by
 intro n
 induction n with
 |zero =>
  intro d d' A v v' u u' hn p p' r rv r' bK hu
  have kO:A.units<cLine:=by omega
  rcases kinds p with q|⟨ds,rfl,q⟩|⟨xs,q,q1,q2⟩
  ·rcases kinds p' with q'|⟨jK,rfl,q'⟩|⟨ys,q',q1',q2'⟩
   ·rw[DY q q'];exact wW q q' r rv r' bK
   ·obtain⟨b,us,rfl,h2,g2⟩:=r'.bS
    cases bK
    obtain⟨aD,r1,p1,_⟩:=I.tuple h2
    rw[(JL q).1]
    exact(gZ p1 kO q r rv).2
   ·obtain⟨b,us,rfl,h2,g2⟩:=fZ ok q' r'
    cases bK
    obtain⟨aD,r1,p1,_⟩:=I.list h2
    rw[(DK q' q).2]
    exact(mD p1.isList kO q r rv).2
  ·simp only[cL]at hn;omega
  ·obtain⟨a,vs,rfl,f1,g1⟩:=fZ ok q r
   cases rv
   obtain⟨aD,r1,p1,_⟩:=I.list f1
   rcases kinds p' with q'|⟨jK,rfl,q'⟩|⟨ys,q',q1',q2'⟩
   ·rw[(DK q q').1]
    exact(mD p1.isList kO q' r' bK).1
   ·obtain⟨b,us,rfl,h2,g2⟩:=r'.bS
    cases bK
    obtain⟨jts,r2,p2,_⟩:=I.tuple h2
    rw[(LJ q).1]
    exact(oQ p1.isList p2 kO).1
   ·obtain⟨b,us,rfl,h2,g2⟩:=fZ ok q' r'
    cases bK
    rw[DX q q']
    exact RH I f1 g1 h2 g2 q1 q2 q1' (by omega)
 |succ n ih =>
  intro d d' A v v' u u' hn p p' r rv r' bK hu
  have kO:A.units<cLine:=by omega
  rcases kinds p with q|⟨ds,rfl,q⟩|⟨xs,q,q1,q2⟩
  ·rcases kinds p' with q'|⟨jK,rfl,q'⟩|⟨ys,q',q1',q2'⟩
   ·rw[DY q q'];exact wW q q' r rv r' bK
   ·obtain⟨b,us,rfl,h2,g2⟩:=r'.bS
    cases bK
    obtain⟨aD,r1,p1,_⟩:=I.tuple h2
    rw[(JL q).1]
    exact(gZ p1 kO q r rv).2
   ·obtain⟨b,us,rfl,h2,g2⟩:=fZ ok q' r'
    cases bK
    obtain⟨aD,r1,p1,_⟩:=I.list h2
    rw[(DK q' q).2]
    exact(mD p1.isList kO q r rv).2
  ·obtain⟨a,vs,rfl,f1,g1⟩:=r.bS
   cases rv
   obtain⟨aD,r1,p1,_⟩:=I.tuple f1
   rcases kinds p' with q'|⟨jK,rfl,q'⟩|⟨ys,q',q1',q2'⟩
   ·rw[(JL q').2]
    exact(gZ p1 kO q' r' bK).1
   ·obtain⟨b,us,rfl,h2,g2⟩:=r'.bS
    cases bK
    have e0:bT st (.tup ds) (.tup jK)=jO st ds jK:=by simp only[bT]
    refine IQ I (fun j=>match ds[j]?,jK[j]? with|some x,some y=>bT st x y|_,_=>true) f1 h2 kO (fun e=>?_) (fun j v v' u u' e1 e2 rv bK=>?_) ?_
    ·subst e
     exact WI I ok _ (Nat.le_refl _) p p' r r'
    ·obtain⟨x,k1,l1⟩:=aL.get' g1 e1
     obtain⟨y,k2,l2⟩:=aL.get' g2 e2
     simp only[k1,k2]
     have hx:=jJ (List.mem_of_getElem? k1)
     simp only[cL]at hn
     exact(ih (by omega) (gO q (List.mem_of_getElem? k1)) (gO q' (List.mem_of_getElem? k2)) l1 rv l2 bK (by simp only[Around.in1_units];omega)).2.1
    ·rw[<-g1.length,<-g2.length,e0]
     exact K3 _ fun j x y e1 e2=>by simp only[e1,e2]
   ·obtain⟨b,us,rfl,h2,g2⟩:=fZ ok q' r'
    cases bK
    obtain⟨jts,r2,p2,_⟩:=I.list h2
    rw[(LJ q').2]
    exact(oQ p2.isList p1 kO).2
  ·obtain⟨a,vs,rfl,f1,g1⟩:=fZ ok q r
   cases rv
   obtain⟨aD,r1,p1,_⟩:=I.list f1
   rcases kinds p' with q'|⟨jK,rfl,q'⟩|⟨ys,q',q1',q2'⟩
   ·rw[(DK q q').1]
    exact(mD p1.isList kO q' r' bK).1
   ·obtain⟨b,us,rfl,h2,g2⟩:=r'.bS
    cases bK
    obtain⟨jts,r2,p2,_⟩:=I.tuple h2
    rw[(LJ q).1]
    exact(oQ p1.isList p2 kO).1
   ·obtain⟨b,us,rfl,h2,g2⟩:=fZ ok q' r'
    cases bK
    rw[DX q q']
    exact RH I f1 g1 h2 g2 q1 q2 q1' (by omega)
end
end L3
end
section
namespace L3
open PySem PySem.Spec PyProof.Rows L2 PySem.SeqAt
mutual
inductive kW (h:Heap):D->Value->Prop where
 |str (x:List Nat)(t:Tok):kW h (.str x) (.str ⟨x.toArray⟩ t)
 |tup {ds:List D}{a:Addr}{o:Obj}{aD:Array Value}{n:Nat}(e:h.get? a=some o)(c:o.cls=.type "tuple")(d:o.data=.seq aD n)(r:gB h ds aD.toList):kW h (.tup ds) (.ref a)
inductive gB (h:Heap):List D->List Value->Prop where
 |nil:gB h [] []
 |cons {d:D}{ds:List D}{v:Value}{vs:List Value}(r:kW h d v)(rs:gB h ds vs):gB h (d::ds) (v::vs)
end
section
variable {h h':Heap}
theorem kW.str_inv {d:D}{x:Str}{t:Tok}(q:kW h d (.str x t)):∃ y,d=.str y/\x=⟨y.toArray⟩:=by
 cases q;exact⟨_,rfl,rfl⟩
theorem kW.cQ {d:D}{a:Addr}(q:kW h d (.ref a)):∃ ds o aD n,d=.tup ds/\h.get? a=some o/\o.cls=.type "tuple" /\ o.data=.seq aD n/\gB h ds aD.toList:=by
 cases q with|tup e c d r=>exact⟨_,_,_,_,rfl,e,c,d,r⟩
mutual
theorem kW.inj:∀{x y:D}{v:Value},kW h x v->kW h y v->x=y
 |_,y,_,.str x t,q=>by
  obtain⟨z,rfl,e⟩:=q.str_inv
  have:x.toArray=z.toArray:=congrArg Str.cps e
  have:x=z:=by simpa using this
  rw[this]
 |_,y,_,.tup e c d r,q=>by
  obtain⟨ds,o,aD,n,rfl,e',c',d',r'⟩:=q.cQ
  rw[e]at e';cases e'
  rw[d]at d'
  injection d' with d1 d2
  subst d1
  rw[gB.inj r r']
theorem gB.inj:∀{xs ys:List D}{vs:List Value},gB h xs vs->gB h ys vs->xs=ys
 |_,_,_,.nil,q=>by cases q;rfl
 |_,_,_,.cons r rs,q=>by cases q with|cons r' rs'=>rw[kW.inj r r',gB.inj rs rs']
end
mutual
theorem kW.keeps {b:Addr}{ob:Obj}{es:Array DictEntry}{ep:Nat}(ho:h.get? b=some ob)(hd:ob.data=.dict es ep)(hs:Heap.SameBut b h h'):∀{x:D}{v:Value},kW h x v->kW h' x v
 |_,_,.str x t=>.str x t
 |_,_,@kW.tup _ ds a o aD n e c d r=>.tup (by
  have ne:a≠b:=by
   intro z
   rw[z,ho]at e;cases e
   rw[hd]at d;cases d
  exact(hs.2 a ne).trans e) c d (gB.keeps ho hd hs r)
theorem gB.keeps {b:Addr}{ob:Obj}{es:Array DictEntry}{ep:Nat}(ho:h.get? b=some ob)(hd:ob.data=.dict es ep)(hs:Heap.SameBut b h h'):∀{xs:List D}{vs:List Value},gB h xs vs->gB h' xs vs
 |_,_,.nil=>.nil
 |_,_,.cons r rs=>.cons (kW.keeps ho hd hs r) (gB.keeps ho hd hs rs)
end
theorem gB.length:∀{xs:List D}{vs:List Value},gB h xs vs->xs.length=vs.length
 |_,_,.nil=>rfl
 |_,_,.cons _ rs=>by simp [gB.length rs]
theorem gB.get:∀{xs:List D}{vs:List Value}{j:Nat}{v:Value},gB h xs vs->vs[j]? = some v->∃ x,xs[j]? = some x/\kW h x v
 |_,_,_,_,.nil,e=>by simp at e
 |_,_,0,_,.cons r _,e=>by simp at e;subst e;exact⟨_,rfl,r⟩
 |_,_,j+1,v,.cons _ rs,e=>by
  obtain⟨x,e1,e2⟩:=gB.get (j:=j) (v:=v) rs (by simpa using e)
  exact⟨x,by simpa using e1,e2⟩
end
theorem xY (w:World):∀ a b:List D,iG w (a++b)=iG w a++iG w b
 |[],b=>by simp [iG]
 |d::a,b=>by simp [iG,xY w a b]
theorem yI:∀ a b:List D,kC (a++b)=kC a+kC b
 |[],b=>by simp [kC]
 |d::a,b=>by simp [kC,yI a b,Nat.add_assoc]
theorem XE {prog:Program}{w:World}:∀(n:Nat){d:D}{v:Value}{A:Around}{E:Value->Shared->Prop}{s:Shared}{Q:Int->Shared->Prop},cL d<=n->kW s.heap d v->A.units+n<cLine->Q (tO w d) { s with toks:=s.toks+wN d } ->
  wpAny (model prog w) A (pyHash v) Q E s:=by
 intro n
 induction n with
 |zero =>
  intro d v A E s Q hn hk hu h
  cases hk with
  |str x t =>
   simp only[tO,wN]at h
   exact(strKind prog w).pyHash (k:=⟨x.toArray⟩) (strKind_is _ _ _ _) h
  |tup e c dd r=>simp only[cL]at hn;omega
 |succ n ih =>
  intro d v A E s Q hn hk hu h
  cases hk with
  |str x t =>
   simp only[tO,wN]at h
   exact(strKind prog w).pyHash (k:=⟨x.toArray⟩) (strKind_is _ _ _ _) h
  |@tup ds a o items m ho c hd hi =>
   have hT:s.TypeIs (.ref a) "tuple":=⟨o,ho,c⟩
   simp only[cL]at hn
   simp only[tO,wN]at h
   unfold pyHash
   first|unfold pyHashByItsType|skip
   first|refine wpAny_bind (wpAny_cRoomFor_or (.inr (by omega)) ?_)|skip
   refine wpAny_bind (wpAny_specialOf hT PySem.F.slot_tuple_hash.lookup ?_)
   show wpAny _ _ (if(some (Value.builtin "tuple.__hash__")==some Value.none)=true then _ else _) Q E s
   rw[if_neg (by rw[beq_builtin_none];exact Bool.false_ne_true)]
   refine wpAny_bind (wpAny_specialOf hT PySem.F.slot_tuple_hash.lookup ?_)
   show wpAny _ _ (callSpecialIfBoundUnlessNone? (.ref a) "__hash__" _ >>= _) Q E s
   refine wpAny_bind (wpAny_callSpecialIfBoundUnlessNone?_slot hT PySem.F.slot_tuple_hash (wpAny_call_entry PySem.F.slot_tuple_hash hT PySem.F.entry_tuple_hash ?_ (PySem.F.args_tuple_hash_1 _)))
   show wpAny _ _ (Builtin.Tuple.tupleItemsOf (.ref a) >>= _) _ _ s
   refine wpAny_bind (wpAny_tupleItemsOf ho hd ?_)
   refine wpAny_bind ?_
   rw[<-Array.forIn_toList]
   refine wpAny_forIn_list _
    (fun rest (b:Array Int) s'=>∃ done left,ds=done++left/\gB s.heap left rest/\b.toList=iG w done/\s' = { s with toks:=s.toks+kC done })
    _ ?_ ?_ _ _ ⟨[],ds,rfl,hi,rfl,rfl⟩
   ·rintro x rest b s' ⟨done,left,e0,hl,hb,rfl⟩
    cases hl with
    |@cons k ks' _ _ h1 hl' =>
     have hdep:cL k<=cK ds:=jJ (by rw[e0];simp)
     refine wpAny_bind (ih (s:={ s with toks:=s.toks+kC done }) (d:=k) (by omega) h1 (by simp only[Around.in1_units];omega) ?_)
     have e1:kC (done++[k])=kC done+wN k:=by rw[yI];simp [kC]
     have e2:iG w (done++[k])=iG w done++[tO w k]:=by rw[xY];simp [iG]
     first
      |exact wpAny_pure ⟨done++[k],ks',by simp [e0],hl',by simp [hb,e2],by simp [e1,Nat.add_assoc]⟩
      |exact wpAny_bind (wpAny_pure (wpAny_pure ⟨done++[k],ks',by simp [e0],hl',by simp [hb,e2],by simp [e1,Nat.add_assoc]⟩))
   ·rintro b s' ⟨done,left,e0,hl,hb,rfl⟩
    cases hl
    rw[List.append_nil]at e0
    subst e0
    show wpAny _ _ (retInt (Builtin.Tuple.tupleHashOf b.toList)) _ _ _
    rw[hb]
    refine wpAny_ret_mkInt ?_
    show wpAny _ _ (if(decide (-(2:Int) ^ 63<=Builtin.Tuple.tupleHashOf (iG w ds))&&decide (Builtin.Tuple.tupleHashOf (iG w ds)<2 ^ 63))=true then _ else _) Q E _
    unfold reduceHash at h
    by_cases hr:(decide (-(2:Int) ^ 63<=Builtin.Tuple.tupleHashOf (iG w ds))&&decide (Builtin.Tuple.tupleHashOf (iG w ds)<2 ^ 63))=true
    ·rw[if_pos hr]
     rw[if_pos hr]at h
     exact wpAny_pure (by simpa [Nat.add_assoc]using h)
    ·rw[if_neg hr]
     rw[if_neg hr]at h
     exact wpAny_bind (wpAny_rule (wpAny_pure (by simpa [Nat.add_assoc]using h)))
mutual
theorem LG:∀ d:D,kJ d=true->bI d=true
 |.str _,_=>rfl
 |.tup ds,h=>by simp only[kJ]at h;simp only[bI];exact yP ds h
 |.non,h=>by cases h
 |.bl _,h=>by cases h
 |.int _,h=>by cases h
 |.ref _,h=>by cases h
 |.dB _ _,h=>by cases h
 |.bP _,h=>by cases h
 |.exc _,h=>by cases h
theorem yP:∀ ds:List D,kL ds=true->bN ds=true
 |[],_=>rfl
 |d::ds,h=>by
  simp only[kL,Bool.and_eq_true]at h
  simp only[bN,Bool.and_eq_true]
  exact⟨LG d h.1,yP ds h.2⟩
end
mutual
theorem R3:∀ x y:D,kJ x=true->bU x y=true->x=y
 |.str a,y,_,e=>by
  cases y with
  |str b=>simp only[bU,beq_iff_eq]at e;rw[e]
  |_=>simp [bU]at e
 |.tup as,y,h,e=>by
  cases y with
  |tup bs=>simp only[bU]at e;simp only[kJ]at h;rw[MV as bs h e]
  |_=>simp [bU]at e
 |.non,_,h,_=>by cases h
 |.bl _,_,h,_=>by cases h
 |.int _,_,h,_=>by cases h
 |.ref _,_,h,_=>by cases h
 |.dB _ _,_,h,_=>by cases h
 |.bP _,_,h,_=>by cases h
 |.exc _,_,h,_=>by cases h
theorem MV:∀ xs ys:List D,kL xs=true->fP xs ys=true->xs=ys
 |[],[],_,_=>rfl
 |[],_::_,_,e=>by cases e
 |_::_,[],_,e=>by cases e
 |x::xs,y::ys,h,e=>by
  simp only[fP,Bool.and_eq_true]at e
  simp only[kL,Bool.and_eq_true]at h
  rw[R3 x y h.1 e.1,MV xs ys h.2 e.2]
end
noncomputable instance decD:DecidableEq D:=fun a b=>Classical.propDecidable (a=b)
theorem E4 {x y:D}(h:kJ x=true):bU x y=decide (x=y):=by
 by_cases e:x=y
 ·subst e;rw[wG x (LG x h)];simp
 ·rw[decide_eq_false e]
  cases q:bU x y with
  |false=>rfl
  |true=>exact(e (R3 x y h q)).elim
theorem Fp:∀(n:Nat){x y:D}{u v:Value}{A:Around}{s:Shared},cL x<=n->kW s.heap x u->kW s.heap y v->kJ x=true->A.units+n+2<cLine->EqAt A s u v (bU x y):=by
 intro n
 induction n with
 |zero =>
  intro x y u v A s hn hx hy ht hu
  have kO:A.units<cLine:=by omega
  cases hx with
  |str a t =>
   cases hy with
   |str b t' =>
    have e:bU (.str a) (.str b)=((⟨a.toArray⟩:Str)==⟨b.toArray⟩):=by rw[JJ];simp only[bU]
    rw[e]
    exact EqAt.str_str _ _ _ _
   |tup e c d r =>
    simp only[bU]
    exact EqAt.str_tuple _ _ (show s.heap.IsTuple _ _ from⟨_,e,c,_,d⟩) kO
  |tup e c d r=>simp only[cL]at hn;omega
 |succ n ih =>
  intro x y u v A s hn hx hy ht hu
  have kO:A.units<cLine:=by omega
  cases hx with
  |str a t =>
   cases hy with
   |str b t' =>
    have e:bU (.str a) (.str b)=((⟨a.toArray⟩:Str)==⟨b.toArray⟩):=by rw[JJ];simp only[bU]
    rw[e]
    exact EqAt.str_str _ _ _ _
   |tup e c d r =>
    simp only[bU]
    exact EqAt.str_tuple _ _ (show s.heap.IsTuple _ _ from⟨_,e,c,_,d⟩) kO
  |@tup ds a o aD m e c d r =>
   have hp1:s.heap.IsTuple a aD:=⟨_,e,c,_,d⟩
   cases hy with
   |str b t' =>
    simp only[bU]
    exact EqAt.tuple_str _ _ hp1 kO
   |@tup es b o' jts m' e' c' d' r' =>
    have gU:s.heap.IsTuple b jts:=⟨_,e',c',_,d'⟩
    have e0:bU (.tup ds) (.tup es)=fP ds es:=by simp only[bU]
    rw[e0]
    have hts:kL ds=true:=by simpa [kJ]using ht
    by_cases q:a=b
    ·subst q
     rw[e]at e';cases e'
     rw[d]at d';injection d' with d1 d2;subst d1
     rw[gB.inj r r',lE es (yP es (by rw[<-gB.inj r r'];exact hts))]
     exact EqAt.same _
    ·refine EqAt.of_refs q ?_
     have l1:aD.size=ds.length:=by rw[<-Array.length_toList];exact r.length.symm
     have l2:jts.size=es.length:=by rw[<-Array.length_toList];exact r'.length.symm
     have:=RcAt.tuples (e:=fun j=>match ds[j]?,es[j]? with|some x,some y=>bU x y|_,_=>true) hp1 gU kO (fun j h1 h2=>by
      obtain⟨x,f1,g1⟩:=r.get (j:=j) (v:=aD[j]) (by simp [h1])
      obtain⟨y,f2,g2⟩:=r'.get (j:=j) (v:=jts[j]) (by simp [h2])
      simp only[f1,f2]
      have hx:=jJ (List.mem_of_getElem? f1)
      simp only[cL]at hn
      have htx:kJ x=true:=by
       have:∀(l:List D)(x:D),kL l=true->x∈l->kJ x=true:=by
        intro l
        induction l with
        |nil=>intro x _ hm;cases hm
        |cons z l ihl =>
         intro x hh hm
         simp only[kL,Bool.and_eq_true]at hh
         rcases List.mem_cons.mp hm with rfl|hm
         ·exact hh.1
         ·exact ihl x hh.2 hm
       exact this ds x hts (List.mem_of_getElem? f1)
      exact ih (by omega) g1 g2 htx (by simp only[Around.in1_units];omega))
     rw[l1,l2,xG _ fun j x y e1 e2=>by simp only[e1,e2]]at this
     exact this
theorem TV {prog:Program}{w:World}:∀(n:Nat){d:D}{v:Value}{A:Around}{E:Value->Shared->Prop}{s:Shared}{Q:Bool->Shared->Prop},cL d<=n->kW s.heap d v->Q true s->wpAny (model prog w) A (eqIsQuiet n v) Q E s:=by
 intro n
 induction n with
 |zero =>
  intro d v A E s Q hn hk h
  cases hk with
  |str x t=>rw[eqIsQuiet_byValue _ rfl];exact wpAny_pure h
  |tup e c dd r=>simp only[cL]at hn;omega
 |succ n ih =>
  intro d v A E s Q hn hk h
  cases hk with
  |str x t=>rw[eqIsQuiet_byValue _ rfl];exact wpAny_pure h
  |@tup ds a o items m ho c hd hi =>
   have hT:s.TypeIs (.ref a) "tuple":=⟨o,ho,c⟩
   simp only[cL]at hn
   unfold eqIsQuiet
   refine wpAny_bind (wpAny_specialOf hT PySem.F.slot_tuple_eq.lookup ?_)
   show wpAny _ _ (isInstance (.ref a) (.type "tuple") >>= _) _ _ s
   refine wpAny_bind (wpAny_isInstance hT isSubtype_tuple_tuple ?_)
   simp only[Bool.not_true,Bool.false_eq_true,if_false]
   refine wpAny_bind (wpAny_seqItems ho hd ?_)
   refine wpAny_bind ?_
   show wpAny _ _ (forIn items _ _) _ _ s
   rw[<-Array.forIn_toList]
   refine wpAny_forIn_list _ (fun rest r s'=>r.1=none/\s'=s/\∃ ks,gB s.heap ks rest/\cK ks<=n) _ ?_ ?_ _ _ ⟨rfl,rfl,ds,hi,by omega⟩
   ·rintro v rest r s' ⟨hr,rfl,ks,hks,hdep⟩
    cases hks with
    |@cons k ks' _ _ h1 h2 =>
     simp only[cK]at hdep
     refine wpAny_bind (ih (d:=k) (by omega) h1 ?_)
     simp only[Bool.not_true,Bool.false_eq_true,if_false]
     exact wpAny_pure ⟨rfl,rfl,ks',h2,by omega⟩
   ·rintro⟨r1,r2⟩ s' ⟨hr,rfl,_⟩
    simp only at hr
    subst hr
    exact wpAny_pure h
theorem keyed.aK {d:D}(h:keyed d):cL d<=8:=by
 cases d with
 |tup ds=>have:=h.2;simp only[cL];omega
 |_=>exact h.elim
theorem keyed.txt {d:D}(h:keyed d):kJ d=true:=by
 cases d with
 |tup ds=>simp only[kJ];exact h.1
 |_=>exact h.elim
noncomputable def AX (prog:Program)(w:World):HeapKind prog w D where
 is:=fun h d a=>keyed d/\kW h d (.ref a)
 hash:=tO w
 draws:=wN
 room:=fun A=>A.units+12<cLine
 inj:=fun hx hy=>hx.2.inj hy.2
 keeps:=fun x ho hd hs=>⟨x.1,x.2.keeps ho hd hs⟩
 pyHash:=fun hu hk h=>XE 8 hk.1.aK hk.2 (by omega) h
 eqBool:=fun{A E s x y a b Q} hu hx hy h=>by
  have:=Fp 8 hx.1.aK hx.2 hy.2 hx.1.txt (A:=A) (by omega) prog w E Q
  rw[E4 hx.1.txt]at this
  exact this h
 quiet:=fun hk h=>TV 8 hk.1.aK hk.2 h
end L3
end
section
namespace L3
open PySem PySem.Spec PyProof.Rows L2 PySem.SeqAt
def oI (X:Cx)(op:CmpOp)(W:D->D->aB->(Bool->Prop)->Prop):Prop :=
 ∀(pins:List (Addr×Obj))(s:Shared)(σ:L2.St)(H:Hp)(st:aB)(d d':D)(v v':V)(u u':Value)(P:Bool->Prop),Inv X pins σ H s->aS X.K st H->Rep X.K H d v->RelV v u->Rep X.K H d' v'->RelV v' u'->W d d' st P ->
 wpAny (model X.prog X.w) X.A (compareOp op u u') (fun r s'=>∃ k,r=.bool k/\P k/\Inv X pins σ H s') X.xe s
theorem C5 (w:List Nat):∀ z:List Nat,occurs w z=true↔∃ i,i+w.length<=z.length/\(z.drop i).take w.length=w
 |[]=>by
  unfold occurs
  constructor
  ·intro h;rw[List.isEmpty_iff]at h;subst h;exact⟨0,by simp,by simp⟩
  ·rintro⟨i,h,_⟩;rw[List.isEmpty_iff];exact List.length_eq_zero_iff.mp (by simp only[List.length_nil]at h;omega)
 |c::r=>by
  unfold occurs
  rw[Bool.or_eq_true,C5 w r,List.isPrefixOf_iff_prefix]
  constructor
  ·rintro(h|⟨i,h1,h2⟩)
   ·exact⟨0,by have:=h.length_le;omega,by rw[List.drop_zero];exact(List.prefix_iff_eq_take.mp h).symm⟩
   ·exact⟨i+1,by simp;omega,by simpa using h2⟩
  ·rintro⟨i,h1,h2⟩
   cases i with
   |zero=>exact .inl (by rw[List.drop_zero]at h2;rw[List.prefix_iff_eq_take];exact h2.symm)
   |succ i=>exact .inr ⟨i,by simp at h1;omega,by simpa using h2⟩
theorem G1 (w z:List Nat):(!(Builtin.Str.occurrences ⟨z.toArray⟩ ⟨w.toArray⟩ 0 (⟨z.toArray⟩:Str).length 1).isEmpty)=occurs w z:=by
 rw[Bool.eq_iff_iff,PySem.StrLaws.found_iff,C5]
 refine⟨fun⟨i,h1,h2⟩=>⟨i,by simpa [Str.length]using h1,?_⟩,fun⟨i,h1,h2⟩=>⟨i,by simpa [Str.length]using h1,?_⟩⟩
 ·unfold Builtin.Str.subAt at h2
  have:=eq_of_beq h2
  simp only[Str.length,List.size_toArray]at this
  have e:=congrArg Array.toList this
  simp only[Array.toList_extract,List.extract_eq_take_drop,Nat.add_sub_cancel_left]at e
  exact e
 ·unfold Builtin.Str.subAt
  rw[beq_iff_eq]
  simp only[Str.length,List.size_toArray]
  apply Array.toList_inj.mp
  simp only[Array.toList_extract,List.extract_eq_take_drop,Nat.add_sub_cancel_left]
  exact h2
section
variable {X:Cx}{C:bO}{sub:Nat->Nat->Bool}{E:XK}{a b c e:Expr}{x y z:Ex}{pos:Pos}
theorem Mb (hu:X.A.units+180<cLine):oI X .Eq (dD .eq):=by
 intro pins s σ H st d d' v v' u u' P I ok r rv r' bK ⟨p,p',q⟩
 have hD:mL=80:=rfl
 exact(OJ I ok 80 (by have:=p.2;omega) p.1 p'.1 r rv r' bK (by omega)).1 _ _ _ _ ⟨_,rfl,q,I⟩
theorem Lk (hu:X.A.units+180<cLine):oI X .NotEq (dD .ne):=by
 intro pins s σ H st d d' v v' u u' P I ok r rv r' bK ⟨p,p',q⟩
 have hD:mL=80:=rfl
 exact(OJ I ok 80 (by have:=p.2;omega) p.1 p'.1 r rv r' bK (by omega)).2.2 _ _ _ _ ⟨_,rfl,q,I⟩
theorem HN {op:CmpOp}{o:rJ}{f:Int->Int->Bool}(hW:∀ d d' st P,dD o d d' st P=wO f d d' P)
  (rule:∀(i j:Int)(t u:Tok)(Q:Value->Shared->Prop)(s:Shared),Q (.bool (f i j)) s->wpAny (model X.prog X.w) X.A (compareOp op (.int i t) (.int j u)) Q X.xe s):oI X op (dD o):=by
 intro pins s σ H st d d' v v' u u' P I ok r rv r' bK q
 rw[hW]at q
 unfold wO at q
 split at q
 ·cases r.int_inv;cases r'.int_inv
  obtain⟨t,rfl⟩:=rv
  obtain⟨t',rfl⟩:=bK
  exact rule _ _ _ _ _ _ ⟨_,rfl,q,I⟩
 ·exact q.elim
theorem Mn:oI X .Lt (dD .lt):=HN (fun _ _ _ _=>rfl) fun _ _ _ _ _ _ h=>lt_int h
theorem Lz:oI X .LtE (dD .le):=HN (fun _ _ _ _=>rfl) fun _ _ _ _ _ _ h=>le_int h
theorem Nk:oI X .Gt (dD .gt):=HN (fun _ _ _ _=>rfl) fun _ _ _ _ _ _ h=>gt_int h
theorem La:oI X .GtE (dD .ge):=HN (fun _ _ _ _=>rfl) fun _ _ _ _ _ _ h=>ge_int h
theorem PD {pins:List (Addr×Obj)}{s:Shared}{σ:L2.St}{H:Hp}{a:Addr}{vs us:List V}(I:Inv X pins σ H s)(h:H a=some (.lst vs))(f:sH X.K H a us):False:=by
 rcases f with⟨o,e⟩|⟨o,_,_,e,_⟩
 ·rw[h]at e;cases e
 ·have:=(I.bs a o (I.ok.mod.kin a o e)).2
  rw[h]at this;cases this
theorem LF {pins:List (Addr×Obj)}{s:Shared}{σ:L2.St}{H:Hp}{st:aB}(I:Inv X pins σ H s)(ok:aS X.K st H):∀(n:Nat){d d':D}{v:V},cL d<=n->fI st d=true->fI st d'=true->Rep X.K H d v->Rep X.K H d' v->d=d':=by
 have lists:∀{d d':D}{v:V}{xs ys:List D},rX st d=some xs->rX st d'=some ys->bN xs=true->bN ys=true->Rep X.K H d v->Rep X.K H d' v->d=d':=by
  intro d d' v xs ys q q' p p' r r'
  cases r with
  |ref a=>cases r' with
   |ref _=>rfl
   |bP f g =>
    simp only[rX]at q
    split at q
    ·rename_i e
     obtain⟨vs,h,_⟩:=ok.lst e
     exact(PD I h f).elim
    ·cases q
   |_=>cases q'
  |bP f g=>cases r' with
   |ref _ =>
    simp only[rX]at q'
    split at q'
    ·rename_i e
     obtain⟨vs,h,_⟩:=ok.lst e
     exact(PD I h f).elim
    ·cases q'
   |bP f' g' =>
    cases q;cases q'
    cases I.sJ f.sq f'.sq
    rw[rZ I p p' g g']
   |_=>cases q'
  |_=>cases q
 intro n
 induction n with
 |zero =>
  intro d d' v hn p p' r r'
  rcases kinds p with q|⟨ds,rfl,q⟩|⟨xs,q,q1,q2⟩
  ·cases r<;>cases r'<;>first|rfl|(cases q;done)|skip
  ·simp only[cL]at hn;omega
  ·obtain⟨a,vs,rfl,f1,g1⟩:=fZ ok q r
   rcases kinds p' with q'|⟨jK,rfl,q'⟩|⟨ys,q',q1',q2'⟩
   ·cases r'<;>cases q'
   ·obtain⟨b,us,e,f2,g2⟩:=r'.bS
    cases e
    exact(EL I f1 f2).elim
   ·exact lists q q' q1 q1' r r'
 |succ n ih =>
  intro d d' v hn p p' r r'
  rcases kinds p with q|⟨ds,rfl,q⟩|⟨xs,q,q1,q2⟩
  ·cases r<;>cases r'<;>first|rfl|(cases q;done)|skip
  ·obtain⟨a,vs,rfl,f1,g1⟩:=r.bS
   rcases kinds p' with q'|⟨jK,rfl,q'⟩|⟨ys,q',q1',q2'⟩
   ·cases r'<;>cases q'
   ·obtain⟨b,us,e,f2,g2⟩:=r'.bS
    cases e
    cases I.tH f1 f2
    simp only[cL]at hn
    have go:∀(ds es:List D)(vs:List V),cK ds<=n->iD st ds=true->iD st es=true->aL X.K H ds vs->aL X.K H es vs->ds=es:=by
     intro ds
     induction ds with
     |nil=>intro es vs _ _ _ r r';cases r;cases r';rfl
     |cons d ds ihs =>
      intro es vs hd pp pp' r r'
      cases r with
      |cons r1 r2=>cases r' with
       |cons r1' r2' =>
        simp only[cK]at hd
        simp only[iD,Bool.and_eq_true]at pp pp'
        rw[ih (by omega) pp.1 pp'.1 r1 r1',ihs _ _ (by omega) pp.2 pp'.2 r2 r2']
    rw[go ds jK vs (by omega) q q' g1 g2]
   ·obtain⟨b,us,e,f2,g2⟩:=fZ ok q' r'
    cases e
    exact(EL I f2 f1).elim
  ·obtain⟨a,vs,rfl,f1,g1⟩:=fZ ok q r
   rcases kinds p' with q'|⟨jK,rfl,q'⟩|⟨ys,q',q1',q2'⟩
   ·cases r'<;>cases q'
   ·obtain⟨b,us,e,f2,g2⟩:=r'.bS
    cases e
    exact(EL I f1 f2).elim
   ·exact lists q q' q1 q1' r r'
theorem GW {pins:List (Addr×Obj)}{s:Shared}{σ:L2.St}{H:Hp}{st:aB}(I:Inv X pins σ H s)(ok:aS X.K st H){ds:List D}{vs:List V}{aD:List Value}{d:D}{v:V}{u:Value}{A:Around}
  (g:aL X.K H ds vs)(r:aO vs aD)(p:dW st ds)(pd:plainS st d)(rd:Rep X.K H d v)(rv:RelV v u)(hu:A.units+178<cLine):
  ∃ e:Value->Bool,(∀ y,y∈aD.toArray->EqAt A.in1 s y u (e y))/\aD.toArray.any e=ds.any fun d'=>bT st d' d:=by
 classical
 have hD:mL=80:=rfl
 have item:∀(d':D)(v':V)(y:Value),d'∈ds->Rep X.K H d' v'->RelV v' y->EqAt A.in1 s y u (bT st d' d):=fun d' v' y m r' bK=>by
  have h1:=jJ m
  have h2:=p.2
  exact(OJ I ok 80 (by omega) (gO p.1 m) pd.1 r' bK rd rv (by simp only[Around.in1_units];omega)).2.1
 let e:Value->Bool:=fun y=>decide (∃ d' v',d'∈ds/\Rep X.K H d' v'/\RelV v' y/\bT st d' d=true)
 have he:∀(d':D)(v':V)(y:Value),d'∈ds->Rep X.K H d' v'->RelV v' y->e y=bT st d' d:=fun d' v' y m r' bK=>by
  show decide _=_
  cases q:bT st d' d with
  |true=>exact decide_eq_true ⟨d',v',m,r',bK,q⟩
  |false =>
   refine decide_eq_false fun⟨d2,v2,m2,r2,rv2,q2⟩=>?_
   cases RelV.inj bK rv2
   have:=LF I ok _ (Nat.le_refl _) (gO p.1 m) (gO p.1 m2) r' r2
   subst this
   rw[q]at q2;cases q2
 refine⟨e,fun y hy=>?_,?_⟩
 ·obtain⟨j,hj,rfl⟩:=Array.mem_iff_getElem.mp hy
  obtain⟨v',e1,e2⟩:=aO.at r hj
  obtain⟨d',e3,e4⟩:=aL.get' g e1
  rw[he d' v' _ (List.mem_of_getElem? e3) e4 e2]
  exact item d' v' _ (List.mem_of_getElem? e3) e4 e2
 ·have go:∀(es:List D)(vs:List V)(aD:List Value),(∀ d∈es,d∈ds)->aL X.K H es vs->aO vs aD->aD.any e=es.any fun d'=>bT st d' d:=by
   intro es
   induction es with
   |nil=>intro vs aD _ g r;cases g;cases r;rfl
   |cons d1 es ih =>
    intro vs aD hm g r
    cases g with
    |cons g1 g2=>cases r with
     |cons r1 r2 =>
      simp only[List.any_cons]
      rw[he d1 _ _ (hm d1 (by simp)) g1 r1,ih _ _ (fun d m=>hm d (by simp [m])) g2 r2]
  rw[List.any_toArray]
  exact go ds vs aD (fun _ m=>m) g r
theorem RP (k x:Str):(decide (k=x))=(x.cps.toList==k.cps.toList):=by
 by_cases h:k=x
 ·subst h;simp
 ·rw[decide_eq_false h]
  symm
  refine beq_eq_false_iff_ne.mpr fun e=>h ?_
  obtain⟨⟨k⟩⟩:=k
  obtain⟨⟨x⟩⟩:=x
  have e:x=k:=e
  subst e;rfl
theorem E1 {pins:List (Addr×Obj)}{s:Shared}{σ:L2.St}{H:Hp}{a:Addr}{T:List (Str×PyData)}(I:Inv X pins σ H s)(h:KTD.tabLook KTD.flatLooks (fun b=>X.K.lookup b) a T=true):KTD.Here s.heap s.heap a (T.map fun p=>(p.1,KTD.Dat.flat p.2)) :=
 ⟨(KTD.tab_of_look (fun d v=>KTD.flat_of_looks) (fun a o e=>I.jZ a o e) h).text,fun _ _ e=>e⟩
theorem NA (k:List Nat):∀(T:List (Str×PyData)),KTD.inKeys (⟨k.toArray⟩:Str) (T.map fun p=>(p.1,KTD.Dat.flat p.2))=(T.map fun p=>D.str p.1.cps.toList).any fun d=>bU d (.str k)
 |[]=>rfl
 |(x,d)::T=>by
  show(decide ((⟨k.toArray⟩:Str)=x)||KTD.inKeys _ _)=((x.cps.toList==k)||_)
  rw[NA k T,RP]
theorem Bf (hu:X.A.units+180<cLine):oI X .In (dD .in_)/\oI X .NotIn (dD .fE):=by
 have main:∀(neg:Bool)(pins:List (Addr×Obj))(s:Shared)(σ:L2.St)(H:Hp)(st:aB)(d d':D)(v v':V)(u u':Value)(P:Bool->Prop),Inv X pins σ H s->aS X.K st H->Rep X.K H d v->RelV v u->Rep X.K H d' v'->RelV v' u' ->
   K2 d d' st (fun b=>P (if neg then !b else b))->wpAny (model X.prog X.w) X.A (compareOp (if neg then .NotIn else .In) u u') (fun r s'=>∃ k,r=.bool k/\P k/\Inv X pins σ H s') X.xe s:=by
  intro neg pins s σ H st d d' v v' u u' P I ok r rv r' bK q
  have lst:∀(a:Addr)(vs:List V)(ds:List D),dN X.K H a vs->aL X.K H ds vs->plainS st d->dW st ds->P (if neg then !(ds.any fun d'=>bT st d' d)else ds.any fun d'=>bT st d' d) ->
    wpAny (model X.prog X.w) X.A (compareOp (if neg then .NotIn else .In) u (.ref a)) (fun r s'=>∃ k,r=.bool k/\P k/\Inv X pins σ H s') X.xe s:=by
   intro a vs ds f g pd ps q
   obtain⟨aD,r1,p1,_⟩:=I.list f
   obtain⟨e,he,ha⟩:=GW I ok g r1 ps pd r rv (A:=X.A) (by omega)
   rw[<-ha]at q
   cases neg with
   |true=>exact notIn_listAt e p1.isList he ⟨_,rfl,q,I⟩
   |false=>exact in_listAt e p1.isList he ⟨_,rfl,q,I⟩
  unfold K2 at q
  split at q
  ·obtain⟨a,vs,rfl,f,g⟩:=r'.bS
   cases bK
   obtain⟨aD,r1,p1,_⟩:=I.tuple f
   obtain⟨pd,ps,q⟩:=q
   obtain⟨e,he,ha⟩:=GW I ok g r1 ps pd r rv (A:=X.A) (by omega)
   rw[<-ha]at q
   cases neg with
   |true=>exact notIn_tupleAt e p1 he ⟨_,rfl,q,I⟩
   |false=>exact in_tupleAt e p1 he ⟨_,rfl,q,I⟩
  ·cases r'.cQ
   cases bK
   obtain⟨ds,e1,pd,ps,q⟩:=tM ok q
   obtain⟨vs,g1,g2⟩:=ok.lst e1
   exact lst _ vs ds (dN.of g1) g2 pd ps q
  ·obtain⟨a,rfl,T,h1,_,h2,_⟩:=r'.K0
   cases bK
   cases r.str_inv
   obtain⟨t,rfl⟩:=rv
   rw[h2,<-NA]at q
   cases neg with
   |true=>exact KTD.notin_text (E1 I h1) ⟨_,rfl,q,I.tok _⟩
   |false=>exact KTD.in_text (E1 I h1) ⟨_,rfl,q,I.tok _⟩
  ·obtain⟨a,vs,rfl,f,g⟩:=r'.kZ
   cases bK
   exact lst a vs _ f.sq g q.1 q.2.1 q.2.2
  ·cases r.str_inv;cases r'.str_inv
   cases neg with
   |true =>
    refine bE (JV (X:=X) pins s σ H _ _ _ _ (fun v H'=>H'=H/\∃ k,v=.bl k/\P k) I rv bK ⟨_,_,rfl,rfl,rfl,_,rfl,?_⟩) fun r s1 ⟨v,H',I1,r1,e,k,e',q'⟩=>?_
    ·rw[G1];exact q
    ·subst e e';cases r1;exact⟨k,rfl,q',I1⟩
   |false =>
    refine bE (QJ (X:=X) pins s σ H _ _ _ _ (fun v H'=>H'=H/\∃ k,v=.bl k/\P k) I rv bK ⟨_,_,rfl,rfl,rfl,_,rfl,?_⟩) fun r s1 ⟨v,H',I1,r1,e,k,e',q'⟩=>?_
    ·rw[G1];exact q
    ·subst e e';cases r1;exact⟨k,rfl,q',I1⟩
  ·exact q.elim
 exact⟨fun pins s σ H st d d' v v' u u' P I ok r rv r' bK q=>main false pins s σ H st d d' v v' u u' P I ok r rv r' bK q,fun pins s σ H st d d' v v' u u' P I ok r rv r' bK q=>main true pins s σ H st d d' v v' u u' P I ok r rv r' bK q⟩
theorem GL {K:PySem.W.Frag}{H:Hp}{d:D}{v:V}{u:Value}(r:Rep K H d v)(rv:RelV v u):(u==Value.none)=HU d:=by
 rw[rv.S9]
 cases r<;>rfl
theorem Az:oI X .Is (dD .is_)/\oI X .IsNot (dD .isnot):=by
 constructor
 ·intro pins s σ H st d d' v v' u u' P I ok r rv r' bK q
  have q:DA d d' P:=q
  unfold DA at q
  split at q
  ·cases r'.fN;cases bK
   exact is_none_gen ⟨_,rfl,by rw[GL r rv];exact q,I⟩
  ·rename_i b
   cases r'.gM;cases bK
   cases r with
   |bl c=>cases rv;exact is_bool ⟨_,rfl,q,I⟩
   |non=>cases rv;exact wpAny_is_other rfl (by intro z;cases z) ⟨_,rfl,q,I⟩
   |int i=>obtain⟨t,rfl⟩:=rv;exact wpAny_is_other rfl (by intro z;cases z) ⟨_,rfl,q,I⟩
   |str z=>obtain⟨t,rfl⟩:=rv;exact wpAny_is_other rfl (by intro z;cases z) ⟨_,rfl,q,I⟩
   |tup _ _=>cases rv;exact wpAny_is_other rfl (by intro z;cases z) ⟨_,rfl,q,I⟩
   |ref _=>cases rv;exact wpAny_is_other rfl (by intro z;cases z) ⟨_,rfl,q,I⟩
   |bP _ _=>cases rv;exact wpAny_is_other rfl (by intro z;cases z) ⟨_,rfl,q,I⟩
   |dB _=>cases rv;exact wpAny_is_other rfl (by intro z;cases z) ⟨_,rfl,q,I⟩
  ·exact q.elim
 ·intro pins s σ H st d d' v v' u u' P I ok r rv r' bK q
  have q:DA d d' (fun b=>P (!b)):=q
  unfold DA at q
  split at q
  ·cases r'.fN;cases bK
   exact isnot_none_gen ⟨_,rfl,by rw[GL r rv];exact q,I⟩
  ·rename_i b
   cases r'.gM;cases bK
   cases r with
   |bl c=>cases rv;exact isnot_bool ⟨_,rfl,q,I⟩
   |non=>cases rv;exact wpAny_isNot_other rfl (by intro z;cases z) ⟨_,rfl,q,I⟩
   |int i=>obtain⟨t,rfl⟩:=rv;exact wpAny_isNot_other rfl (by intro z;cases z) ⟨_,rfl,q,I⟩
   |str z=>obtain⟨t,rfl⟩:=rv;exact wpAny_isNot_other rfl (by intro z;cases z) ⟨_,rfl,q,I⟩
   |tup _ _=>cases rv;exact wpAny_isNot_other rfl (by intro z;cases z) ⟨_,rfl,q,I⟩
   |ref _=>cases rv;exact wpAny_isNot_other rfl (by intro z;cases z) ⟨_,rfl,q,I⟩
   |bP _ _=>cases rv;exact wpAny_isNot_other rfl (by intro z;cases z) ⟨_,rfl,q,I⟩
   |dB _=>cases rv;exact wpAny_isNot_other rfl (by intro z;cases z) ⟨_,rfl,q,I⟩
  ·exact q.elim
def pL:rJ->CmpOp
 |.eq=>.Eq|.ne=>.NotEq|.lt=>.Lt|.le=>.LtE|.gt=>.Gt|.ge=>.GtE|.is_=>.Is|.isnot=>.IsNot|.in_=>.In|.fE=>.NotIn
theorem HV (hu:X.A.units+180<cLine):∀ o:rJ,oI X (pL o) (dD o)
 |.eq=>Mb hu
 |.ne=>Lk hu
 |.lt=>Mn
 |.le=>Lz
 |.gt=>Nk
 |.ge=>La
 |.is_=>Az.1
 |.isnot=>Az.2
 |.in_=>(Bf hu).1
 |.fE=>(Bf hu).2
theorem Gs {o:rJ}(hu:X.A.units+180<cLine)(ha:PE X a (cB X.K (aG C sub E x)))(hb:PE X b (cB X.K (aG C sub E y)))(hm:behindInMarks (pL o) b=false):PE X (.Compare a [pL o] [b] pos) (cB X.K (aG C sub E (.cmp o x y))):=by
 intro pins s σ H Q I ⟨σd,st,R,r,ok,q,hq⟩
 simp only[aG]at q
 refine wpAny_Compare1 (bE (ha pins s σ H _ I ⟨σd,st,_,r,ok,q,fun v H' z=>z⟩) fun u s1 ⟨v,H1,I1,rv,d,aC,dJ,aQ,r1,q1⟩ =>
 bE (hb pins s1 σ H1 _ I1 ⟨σd,aC,_,r.step ok dJ,aQ,q1,fun v H' z=>z⟩) fun u' s2 ⟨v',H2,I2,bK,d',aH,iW,cH,r2,q2⟩ =>
 bE (HV hu o pins s2 σ H2 aH d d' v v' u u' _ I2 cH (r1.step aQ iW) rv r2 bK q2) fun w s3 ⟨k,e,q3,I3⟩=>?_) hm
 subst e
 exact⟨.bl k,H2,I3,rfl,hq _ _ (.after (dJ.trans iW) (.here cH (.bl k) q3))⟩
theorem Eg {o:rJ}(hu:X.A.units+180<cLine)(ha:PE X a (cB X.K (aG C sub E x)))(hb:PE X b (cB X.K (aG C sub E y)))(hm:behindInMarks (pL o) b=false):PT X (.Compare a [pL o] [b] pos) (jG X.K (aG C sub E (.cmp o x y))):=by
 intro pins s σ H Q I ⟨σd,st,R,r,ok,q,hq⟩
 simp only[aG,EA]at q
 refine wpAny_isTrue_Compare1 (bE (ha pins s σ H _ I ⟨σd,st,_,r,ok,q,fun v H' z=>z⟩) fun u s1 ⟨v,H1,I1,rv,d,aC,dJ,aQ,r1,q1⟩ =>
 bE (hb pins s1 σ H1 _ I1 ⟨σd,aC,_,r.step ok dJ,aQ,q1,fun v H' z=>z⟩) fun u' s2 ⟨v',H2,I2,bK,d',aH,iW,cH,r2,q2⟩ =>
 bE (HV hu o pins s2 σ H2 aH d d' v v' u u' _ I2 cH (r1.step aQ iW) rv r2 bK q2) fun w s3 ⟨k,e,q3,I3⟩=>?_) hm
 subst e
 exact wpAny_truthy_bool ⟨H2,I3,hq _ _ ⟨aH,dJ.trans iW,cH,q3⟩⟩
theorem Y1 {o o':rJ}(hu:X.A.units+180<cLine)(ha:PE X a (cB X.K (aG C sub E x)))(hb:PE X b (cB X.K (aG C sub E y)))(hc:PE X c (cB X.K (aG C sub E z)))(hm:lastMarks [pL o,pL o'] [b,c]=false):
 PE X (.Compare a [pL o,pL o'] [b,c] pos) (cB X.K (aG C sub E (.chain o o' x y z))):=by
 intro pins s σ H Q I ⟨σd,st,R,r,ok,q,hq⟩
 simp only[aG]at q
 refine Compare_chain (bE (ha pins s σ H _ I ⟨σd,st,_,r,ok,q,fun v H' z=>z⟩) fun u s1 ⟨v,H1,I1,rv,d,aC,dJ,aQ,r1,q1⟩ =>
 chain_link (bE (hb pins s1 σ H1 _ I1 ⟨σd,aC,_,r.step ok dJ,aQ,q1,fun v H' z=>z⟩) fun u' s2 ⟨v',H2,I2,bK,d',aH,iW,cH,r2,q2⟩ =>
 bE (HV hu o pins s2 σ H2 aH d d' v v' u u' _ I2 cH (r1.step aQ iW) rv r2 bK q2) fun w s3 ⟨k,e,q3,I3⟩=>?_)) hm
 subst e
 refine wpAny_truthy_bool ?_
 cases k with
 |false=>exact ite_ff ⟨.bl false,H2,I3,rfl,hq _ _ (.after (dJ.trans iW) (.here cH (.bl _) q3))⟩
 |true =>
 refine ite_tt (chain_last (bE (hc pins s3 σ H2 _ I3 ⟨σd,aH,_,(r.step ok dJ).step aQ iW,cH,q3,fun v H' z=>z⟩) fun u3 s4 ⟨v3,H4,I4,rv3,d3,cJ,s4s,VS,r4,q4⟩ =>
  bE (HV hu o' pins s4 σ H4 cJ d' d3 v' v3 u' u3 _ I4 VS (r2.step cH s4s) bK r4 rv3 q4) fun w s5 ⟨k,e,q5,I5⟩=>?_))
 subst e
 exact⟨.bl k,H4,I5,rfl,hq _ _ (.after ((dJ.trans iW).trans s4s) (.here VS (.bl k) q5))⟩
end
end L3
end
section
namespace L3
open PySem PySem.Spec PyProof.Rows PyProof.V L2
section
variable {X:Cx}{C:bO}{sub:Nat->Nat->Bool}{E:XK}{a b c e:Expr}{x y z:Ex}{pos:Pos}
theorem ZX (n:Nat)(i:Int):L2.oC n i=oC n i:=rfl
theorem EE {K:PySem.W.Frag}{H:Hp}{ds:List D}{vs:List V}{i:Int}{d:D}(r:aL K H ds vs)(h:gC ds i=some d):∃ v,L2.gC vs i=some v/\Rep K H d v:=by
 unfold gC at h
 unfold L2.gC
 rw[ZX,<-r.length]
 cases e:oC ds.length i with
 |none=>rw[e]at h;cases h
 |some j =>
 rw[e]at h
 obtain⟨v,e1,e2⟩:=r.get (i:=j) h
 exact⟨v,e1,e2⟩
def Y4 (K:PySem.W.Frag):R2:=fun x y H Q=>∃(p:Addr)(T:List (Str×PyData))(k:Str)(d:PyData),x=.ref p/\y=.str k/\KTD.tabLook KTD.flatLooks (fun b=>K.lookup b) p T=true/\KTD.datumAt k T=some d/\oM d=true/\∀ v u,RelV v u->Flat u d->Q v H
def O3 (K:PySem.W.Frag):R2:=fun x y H Q=>Ko K x y H Q∨Y4 K x y H Q
theorem wU {k:Str}{d:PyData}:∀{T:List (Str×PyData)},KTD.datumAt k T=some d->KTD.datumAt k (T.map fun p=>(p.1,KTD.Dat.flat p.2))=some (.flat d)
 |[],h=>by cases h
 |(x,e)::T,h=>by
  show(if decide (k=x)=true then some (KTD.Dat.flat e)else _)=_
  have h:(if decide (k=x)=true then some e else KTD.datumAt k T)=some d:=h
  by_cases c:decide (k=x)=true
  ·rw[if_pos c]at h ⊢;cases h;rfl
  ·rw[if_neg c]at h ⊢;exact wU h
theorem Fq {X:Cx}:xT X (Y4 X.K):=by
 intro value slice pins s σ H x y v u Q I rx ry h hs
 obtain⟨p,T,k,d,rfl,rfl,hT,hd,hsd,q⟩:=h
 cases rx
 obtain⟨t,rfl⟩:=ry
 have hh:=E1 I hT
 refine subscriptTail_builtin_flat hh.typeIs slot_dict_getitem.lookup ?_ hs
 unfold getItem
 try with_reducible refine wpAny_holding ?_
 refine wpAny_bind (wpAny_sequenceKey hh.typeIs (by decide) ?_)
 refine wpAny_bind (wpAny_callSpecial?_slot (name:=Str.ofString "__getitem__") hh.typeIs slot_dict_getitem
  (wpAny_call_entry slot_dict_getitem hh.typeIs entry_dict_getitem ?_ (args_dict_getitem _ _)))
 show wpAny _ _ (dictGet p (.str k t) >>= _) _ _ s
 refine wpAny_bind (KTD.dictGet_text hh (fun d' v ha hv=>?_) fun hn=>?_)
 ·rw[wU hd]at ha
  cases ha
  have hv:Flat v d:=hv
  refine wpAny_pure ⟨v,rfl,wpAny_pure ⟨Flat.notRef hv,?_⟩⟩
  obtain⟨w,rw'⟩:∃ w,RelV w v:=by
   cases d with
   |none=>cases Flat.none_inv hv;exact⟨.non,rfl⟩
   |bool b=>cases Flat.bool_inv hv;exact⟨.bl b,rfl⟩
   |int i=>obtain⟨t,rfl⟩:=Flat.int_inv hv;exact⟨.int i,⟨t,rfl⟩⟩
   |str x=>obtain⟨t,rfl⟩:=Flat.str_inv hv;exact⟨.str x,⟨t,rfl⟩⟩
   |_=>cases hsd
  exact⟨w,H,I.tok _,rw',q w v rw' hv⟩
 ·rw[wU hd]at hn;cases hn
theorem Ai {X:Cx}:xT X (O3 X.K):=Y6.or Fq
theorem RC {K:PySem.W.Frag}(v v':V)(H:Hp)(Q Q':L2.VK)(h:∀ v H,Q v H->Q' v H)(z:O3 K v v' H Q):O3 K v v' H Q':=by
 rcases z with z|⟨p,T,k,d,e,e',e1,e2,e3,q⟩
 ·refine .inl ?_
  rcases z with⟨p,xs,i,v,e,e',s,t,q⟩|⟨p,xs,i,v,e,e',s,t,q⟩|⟨z,i,c,e,e',s,t,q⟩
  ·exact .inl ⟨p,xs,i,v,e,e',s,t,h _ _ q⟩
  ·exact .inr (.inl ⟨p,xs,i,v,e,e',s,t,h _ _ q⟩)
  ·exact .inr (.inr ⟨z,i,c,e,e',s,t,h _ _ q⟩)
 ·exact .inr ⟨p,T,k,d,e,e',e1,e2,e3,fun v u r f=>h _ _ (q v u r f)⟩
theorem JP {k:List Nat}{d:D}:∀{T:List (Str×PyData)},(T.all fun p=>oM p.2)=true->vT (T.map fun p=>.str p.1.cps.toList) (T.map fun p=>sW p.2) (.str k)=some d->∃ e,KTD.datumAt (⟨k.toArray⟩:Str) T=some e/\oM e=true/\d=sW e
 |[],_,h=>by cases h
 |(x,e)::T,a,h=>by
  simp only[List.all_cons,Bool.and_eq_true]at a
  have h:(if(x.cps.toList==k)=true then some (sW e)else vT (T.map fun p=>.str p.1.cps.toList) (T.map fun p=>sW p.2) (.str k))=some d:=h
  show ∃ e',(if decide ((⟨k.toArray⟩:Str)=x)=true then some e else KTD.datumAt _ T)=some e'/\_
  rw[RP]
  by_cases c:(x.cps.toList==k)=true
  ·rw[if_pos c]at h;cases h
   exact⟨e,if_pos c,a.1,rfl⟩
  ·rw[if_neg c]at h
   obtain⟨e',h1,h2⟩:=JP a.2 h
   exact⟨e',(if_neg c).trans h1,h2⟩
theorem UH {K:PySem.W.Frag}{H:Hp}{e:PyData}{v:V}{u:Value}(s:oM e=true)(r:RelV v u)(f:Flat u e):Rep K H (sW e) v:=by
 cases e with
 |none=>cases Flat.none_inv f;cases RelV.inj r (show RelV .non .none from rfl);exact .non
 |bool b=>cases Flat.bool_inv f;cases RelV.inj r (show RelV (.bl b) (.bool b)from rfl);exact .bl b
 |int i=>obtain⟨t,rfl⟩:=Flat.int_inv f;cases RelV.inj r (show RelV (.int i) (.int i t)from⟨t,rfl⟩);exact .int i
 |str x=>obtain⟨t,rfl⟩:=Flat.str_inv f;cases RelV.inj r (show RelV (.str x) (.str x t)from⟨t,rfl⟩);exact .str x.cps.toList
 |_=>cases s
theorem SH {K:PySem.W.Frag}{H:Hp}{st:aB}{R:VK}{d d':D}{v v':V}(ok:aS K st H)(r:Rep K H d v)(r':Rep K H d' v')(h:oG d d' st R):O3 K v v' H (QD K H st R):=by
 unfold oG at h
 split at h
 ·obtain⟨a,vs,rfl,f,g⟩:=r.bS
  cases r'.int_inv
  obtain⟨d,e,q⟩:=eO h
  obtain⟨v,e1,e2⟩:=EE g e
  exact .inl (.inr (.inl ⟨a,vs,_,v,rfl,rfl,f,e1,.here ok e2 q⟩))
 ·obtain⟨a,vs,rfl,f,g⟩:=r.kZ
  cases r'.int_inv
  obtain⟨d,e,q⟩:=eO h
  obtain⟨v,e1,e2⟩:=EE g e
  exact .inl (.inl ⟨a,vs,_,v,rfl,rfl,f.sq,e1,.here ok e2 q⟩)
 ·cases r.str_inv
  cases r'.int_inv
  obtain⟨l,h⟩:=h
  obtain⟨c,e,q⟩:=eO h
  exact .inl (.inr (.inr ⟨_,_,c,rfl,rfl,by rw[gG];simpa [Str.length]using l,e,.here ok (.str [c]) q⟩))
 ·obtain⟨a,rfl,T,h1,h2,h3,h4⟩:=r.K0
  cases r'.str_inv
  obtain⟨d,e,q⟩:=eO h
  rw[h3,h4]at e
  obtain⟨e',e1,e2,rfl⟩:=JP h2 e
  exact .inr ⟨a,T,_,e',rfl,rfl,h1,e1,e2,fun v u r f=>.here ok (UH e2 r f) q⟩
 ·cases r.cQ
  obtain⟨ds,e,q⟩:=tM ok h
  obtain⟨vs,g1,g2⟩:=ok.lst e
  split at q
  ·cases r'.int_inv
   obtain⟨d,e,q⟩:=eO q
   obtain⟨v,e1,e2⟩:=EE g2 e
   exact .inl (.inl ⟨_,vs,_,v,rfl,rfl,dN.of g1,e1,.here ok e2 q⟩)
  ·exact q.elim
 ·exact h.elim
theorem Ma (ha:PE X a (cB X.K (aG C sub E x)))(hb:PE X b (cB X.K (aG C sub E y)))(hp:vM b):PE X (.Subscript a b pos) (cB X.K (aG C sub E (.ix x y))) :=
 (U5 Ai ha hb hp).imp fun σ H Q ⟨σd,st,R,r,ok,q,hq⟩=>by
 simp only[aG]at q
 exact two (W:=fun d d' aH=>oG d d' aH R) r ok q hq (fun d d' v v' H2 aH cH r1 r2 h=>SH cH r1 r2 h) RC
theorem yK {prog:Program}{w:World}{A:Around}{E:Value->Shared->Prop}{s:Shared}{t sl:Addr}{items:Array Value}{vl vu:Value}{lo hi:Option Int}{Q:Value->Shared->Prop}(ht:IsTup s.heap t items)(hs:s.heap.IsSliceOf sl vl vu .none)(pl:IsPart vl lo)(pu:IsPart vu hi)
  (hw:HT.cF items.size 0 lo=0/\HT.cF items.size items.size hi=items.size)(h:Q (.ref t) s):wpAny (model prog w) A (getItem (.ref t) (.ref sl)) Q E s:=by
 obtain⟨os,hos,hcs,hds⟩:=id hs
 have hTs:s.TypeIs (.ref sl) "slice":=⟨os,hos,hcs⟩
 unfold getItem
 try with_reducible refine wpAny_holding ?_
 first|refine wpAny_bind (wpAny_pure ?_)|skip
 refine wpAny_bind (wpAny_sequenceKey ht.typeIs (by decide) ?_)
 refine wpAny_bind (wpAny_callSpecial?_slot (name:=Str.ofString "__getitem__") ht.typeIs PyProof.Rows.slot_tuple_getitem
  (wpAny_call_entry PyProof.Rows.slot_tuple_getitem ht.typeIs entry_tuple_getitem ?_ (args_tuple_getitem _ _)))
 show wpAny _ _ (Builtin.Tuple.tupleItemsOf (.ref t) >>= _) _ _ s
 refine wpAny_bind (tupleItemsOf_ ht ?_)
 refine wpAny_bind (wpAny_typeOf hTs ?_)
 rw[if_pos (by decide)]
 refine wpAny_bind (HT.sR hs pl pu ?_)
 have hyes:(((HT.cF items.size 0 lo:Nat):Int)==0&&(1:Int)==1&&(HT.cF items.size items.size hi-HT.cF items.size 0 lo)==items.size)=true:=by
  rw[hw.1,hw.2];simp
 show wpAny _ _ (if(((HT.cF items.size 0 lo:Nat):Int)==0&&(1:Int)==1&&(HT.cF items.size items.size hi-HT.cF items.size 0 lo)==items.size)=true then _ else _) _ _ s
 rw[if_pos hyes]
 have hex:∀{Q:Bool->Shared->Prop},Q true s->wpAny (model prog w) A.in1 (Builtin.Tuple.tupleIsExact (.ref t)) Q E s:=fun h=>by
  unfold Builtin.Tuple.tupleIsExact
  exact wpAny_bind (wpAny_typeOf ht.typeIs (wpAny_pure h))
 refine wpAny_bind (hex ?_)
 rw[if_pos rfl]
 exact wpAny_bind (wpAny_rule (wpAny_pure ⟨_,rfl,wpAny_pure h⟩))
theorem O7 (n d:Nat)(o:Option Int):HT.cF n d o=cF n d o:=rfl
theorem aL.cut {K:PySem.W.Frag}{H:Hp}{ds:List D}{vs:List V}(r:aL K H ds vs)(lo hi:Option Int):aL K H (cut ds lo hi) (cut vs lo hi):=by
 unfold L3.cut
 rw[r.length]
 exact(r.drop _).take _
def Ac (K:PySem.W.Frag):V->Option Int->Option Int->Hp->L2.VK->Prop:=fun x lo hi H Q=>∃ a xs,x=.ref a/\eU K H a xs/\(HT.cF xs.length 0 lo=0/\HT.cF xs.length xs.length hi=xs.length)/\Q (.ref a) H
theorem XR:yX X (Ac X.K):=by
 intro pins s σ H x v vl vu lo hi sl Q I rx hs pl pu h
 obtain⟨a,xs,rfl,hx,hw,q⟩:=h
 cases rx
 obtain⟨aD,r,ht,hz⟩:=I.tuple hx
 have hlen:aD.toArray.size=xs.length:=by rw[List.size_toArray];exact r.length.symm
 refine⟨"tuple", _,PyProof.Rows.slot_tuple_getitem.lookup,ht.typeIs,?_⟩
 exact yK ht hs pl pu (by rw[hlen];exact hw) ⟨.ref a,H,I,rfl,q⟩
abbrev Aq (K:PySem.W.Frag):V->Option Int->Option Int->Hp->L2.VK->Prop:=fun x lo hi H Q=>ZJ K x lo hi H Q∨Ac K x lo hi H Q∨Bm K x lo hi H Q
theorem Dc:yX X (Aq X.K):=yX.or L2.LH (yX.or XR XT)
theorem UP {K:PySem.W.Frag}{H:Hp}{st:aB}{R:VK}{Q:L2.VK}{d:D}{v:V}{lo hi:Option Int}(ok:aS K st H)(r:Rep K H d v)(h:D2 d lo hi st R)(hq:∀ v H',QD K H st R v H'->Q v H'):Aq K v lo hi H Q:=by
 unfold D2 at h
 split at h
 ·rename_i ds0
  obtain⟨a,vs,rfl,f,g⟩:=r.bS
  by_cases hw:HT.cF vs.length 0 lo=0/\HT.cF vs.length vs.length hi=vs.length
  ·refine .inr (.inl ⟨a,vs,rfl,f,hw,hq _ _ (.here ok r ?_)⟩)
   have e:L3.cut ds0 lo hi=ds0:=by
    unfold L3.cut
    rw[g.length,<-O7,<-O7,hw.1,hw.2,List.drop_zero,Nat.sub_zero,<-g.length,List.take_length]
   rw[e]at h
   exact h
  ·exact .inl ⟨a,vs,rfl,f,hw,fun p hp=>hq _ _ (.IB ok (g.cut lo hi) hp h)⟩
 ·cases r.cQ
  obtain⟨ds,e,h⟩:=eF h
  obtain⟨vs,g1,g2⟩:=ok.lst e
  exact .inr (.inr ⟨_,vs,rfl,dN.of g1,fun p hp=>hq _ _ (.iE ok (g2.cut lo hi) hp h)⟩)
 ·exact h.elim
def KA (K:PySem.W.Frag)(te:St->aB->(List D->aB->Prop)->Prop):TO:=fun σ H Q=>∃(σd:St)(st:aB)(R:Option Int->aB->Prop),dQ K H σd σ/\aS K st H/\te σd st (fun ds aA=>nN ds fun o=>R o aA) /\
 ∀(o:Option Int) H',(∃ aA,Step H st H' aA/\aS K aA H'/\R o aA)->Q o H'
theorem _root_.L2.PO.imp {X:Cx}{e:Option Expr}{t t':TO}(i:∀ σ H Q,t' σ H Q->t σ H Q)(h:PO X e t):PO X e t':=fun pins s σ H Q I q=>h pins s σ H Q I (i σ H Q q)
theorem WE:PO X none (KA X.K (bG C sub E [])) :=
 WQ.imp fun σ H Q ⟨σd,st,R,r,ok,q,hq⟩=>by
 simp only[bG,nN]at q
 exact hq _ _ ⟨st,.refl,ok,q⟩
theorem XM (h:PE X e (cB X.K (aG C sub E x))):PO X (some e) (KA X.K (bG C sub E [x])) :=
 (WD h).imp fun σ H Q ⟨σd,st,R,r,ok,q,hq⟩=>by
 simp only[bG]at q
 refine⟨σd,st,_,r,ok,q,fun v H1 ⟨d,aC,s1,aQ,r1,q1⟩=>?_⟩
 cases d with
 |int i=>cases r1.int_inv;exact⟨i,rfl,hq _ _ ⟨aC,s1,aQ,q1⟩⟩
 |_=>exact q1.elim
theorem Lu {lo hi:Option Expr}{xl xh:List Ex}{p2:Pos}(ha:PE X a (cB X.K (aG C sub E x)))(hl:PO X lo (KA X.K (bG C sub E xl)))(hh:PO X hi (KA X.K (bG C sub E xh))):
 PE X (.Subscript a (.Slice lo hi none p2) pos) (cB X.K (aG C sub E (.sl x xl xh))) :=
 (UU Dc ha hl hh).imp fun σ H Q ⟨σd,st,R,r,ok,q,hq⟩=>by
 simp only[aG]at q
 refine⟨σd,st,_,r,ok,q,fun v H1 ⟨d,aC,s1,aQ,r1,q1⟩=>?_⟩
 refine⟨σd,aC,_,r.step ok s1,aQ,q1,fun lo H2 ⟨aH,s2,cH,q2⟩=>?_⟩
 refine⟨σd,aH,_,(r.step ok s1).step aQ s2,cH,q2,fun hi H3 ⟨aV,s3,vS,q3⟩=>?_⟩
 exact UP vS ((r1.step aQ s2).step cH s3) q3 fun v H' z=>hq _ _ (.after ((s1.trans s2).trans s3) z)
def yD (X:Cx)(f:Value)(W:List D->aB->VK->Prop):Prop :=
 ∀(pins:List (Addr×Obj))(s:Shared)(σ:L2.St)(H:Hp)(st:aB)(ds:List D)(vs:List V)(us:List Value)(R:VK),Inv X pins σ H s->aS X.K st H->aL X.K H ds vs->aO vs us->W ds st R ->
 wpAny (model X.prog X.w) X.A (call f us) (EP X pins σ (QD X.K H st R)) X.xe s
def Ks (K:PySem.W.Frag)(W:List D->aB->VK->Prop):List V->Hp->L2.VK->Prop:=fun vs H Q=>∃ ds st R,aL K H ds vs/\aS K st H/\W ds st R/\∀ v H',QD K H st R v H'->Q v H'
theorem yD.call {f:Value}{W:List D->aB->VK->Prop}(h:yD X f W):nL X f (Ks X.K W):=fun pins s σ H vs us Q I rv ⟨ds,st,R,r,ok,q,hq⟩ =>
 bE (h pins s σ H st ds vs us R I ok r rv q) fun u s' ⟨v,H',I',r',z⟩=>⟨v,H',I',r',hq _ _ z⟩
theorem H0 {K:PySem.W.Frag}{W:List D->aB->VK->Prop}{xs:List Ex}{σ:L2.St}{H:Hp}{Q:L2.VK}(h:cB K (fun σ st R=>bG C sub E xs σ st fun ds aA=>W ds aA R) σ H Q):As (Ks K W) (mN K (bG C sub E xs)) σ H Q:=by
 obtain⟨σd,st,R,r,ok,q,hq⟩:=h
 refine⟨σd,st,_,r,ok,q,fun vs H1 ⟨ds,aC,s1,aQ,r1,q1⟩=>?_⟩
 exact⟨ds,aC,R,r1,aQ,q1,fun v H' z=>hq _ _ (.after s1 z)⟩
theorem Hd {W:List D->aB->VK->Prop}{n:Str}{id:String}{p:Pos}{es:List Expr}{xs:List Ex}(hW:yD X (.builtin id) W)(hg:Gl X n)(hm:X.mg n=none)(hv:bootBuiltins n=some (.builtin id))(ha:PA X (e::es) (mN X.K (bG C sub E xs)))
 (hn:n ≠"__name__")(hdb:(n==("__debug__" : Str))=false)(he:starEach (e::es) X.env=(false,eval e X.env)::starEach es X.env)(dC:(backTo pos (starEach es X.env)).any (·.1)=false):
 PE X (.Call (.Name n p) (e::es) [] pos) (cB X.K fun σ st R=>bG C sub E xs σ st fun ds aA=>W ds aA R) :=
 (J9 hW.call hg hm hv ha hn hdb he dC).imp fun σ H Q h=>H0 h
theorem ZZ {W:List D->aB->VK->Prop}{n:Str}{T:String}{p:Pos}{es:List Expr}{xs:List Ex}(hW:yD X (.type T) W)(hg:Gl X n)(hm:X.mg n=none)(hv:bootBuiltins n=some (.type T))(ha:PA X (e::es) (mN X.K (bG C sub E xs)))
 (hn:n ≠"__name__")(hdb:(n==("__debug__" : Str))=false)(he:starEach (e::es) X.env=(false,eval e X.env)::starEach es X.env)(dC:(backTo pos (starEach es X.env)).any (·.1)=false):
 PE X (.Call (.Name n p) (e::es) [] pos) (cB X.K fun σ st R=>bG C sub E xs σ st fun ds aA=>W ds aA R) :=
 (QS hW.call hg hm hv ha hn hdb he dC).imp fun σ H Q h=>H0 h
theorem aL.one {K:PySem.W.Frag}{H:Hp}{d:D}{vs:List V}(r:aL K H [d] vs):∃ v,vs=[v]/\Rep K H d v:=by
 cases r with|cons h r=>cases r;exact⟨_,rfl,h⟩
theorem RO {K:PySem.W.Frag}{H:Hp}{st:aB}{d:D}{v:V}{P:Nat->Prop}(ok:aS K st H)(r:Rep K H d v)(h:qL d st P):∃ n,Df K v H n/\P n:=by
 unfold qL at h
 split at h
 ·obtain⟨a,vs,rfl,f,g⟩:=r.bS
  exact⟨_,.inr ⟨vs,f,g.length⟩,h⟩
 ·cases r.str_inv
  exact⟨_,⟨by rw[gG];simpa [Str.length]using h.1,by simp [Str.length]⟩,h.2⟩
 ·cases r.cQ
  obtain⟨ds,e,h⟩:=tM ok h
  obtain⟨vs,g1,g2⟩:=ok.lst e
  exact⟨_,.inl ⟨vs,dN.of g1,g2.length⟩,h⟩
 ·obtain⟨a,vs,rfl,f,g⟩:=r.kZ
  exact⟨_,.inl ⟨vs,f.sq,g.length⟩,h⟩
 ·exact h.elim
theorem cA:yD X (.builtin "len") (gT .len):=by
 intro pins s σ H st ds vs us R I ok r rv q
 match ds,q with
 |[d],q =>
 have q:qL d st fun n=>R (.int (n:Nat)) st:=q
 obtain⟨v,rfl,rd⟩:=r.one
 obtain⟨n,l,q⟩:=RO ok rd q
 exact UQ pins s σ H _ us _ I rv ⟨v,n,rfl,l,.here ok (.int _) q⟩
 |[],q=>exact(show False from q).elim
 |_::_::_,q=>exact(show False from q).elim
end
end L3
end
section
namespace L3
open PySem PySem.Spec PyProof.Rows L2
section
variable {X:Cx}{pins:List (Addr×Obj)}{σ:L2.St}{H:Hp}{s:Shared}
def PJ (K:PySem.W.Frag)(H:Hp)(a:Addr)(vs:List V):Prop:=dN K H a vs∨eU K H a vs
theorem CA {A:Around}{E:Value->Shared->Prop}{a:Addr}{vs:List V}{Q:Value->Shared->Prop}(hh:A.handled=none)(I:Inv X pins σ H s)(h:PJ X.K H a vs)
  (hQ:∀(aD:List Value)(I0:Addr)(fp wr:List Addr)(St:Nat->Heap->Prop)(s₂:Shared),aO vs aD->Walks X.prog X.w A I0 fp wr aD.length (fun i v=>aD[i]? = some v) St->St 0 s₂.heap->(∀ b∈fp,b<s₂.heap.objs.size) ->
   (∀ h' tk,(∀ b o,b∉wr->s₂.heap.get? b=some o->h'.get? b=some o)->Inv X pins σ H { s₂ with heap:=h',toks:=tk })->Q (.ref I0) s₂):wpAny (model X.prog X.w) A (pyIter (.ref a)) Q E s:=by
 rcases h with h|h
 ·obtain⟨aD,r,p,hz⟩:=I.list h
  have hl:=p.isList
  have dU:a<s.heap.objs.size:=by obtain⟨_,e,_⟩:=hl;exact Heap.lt_size e
  have W:=Walks.list (prog:=X.prog) (w:=X.w) (A:=A) hh s.heap.objs.size a (Nat.ne_of_lt dU) aD.toArray
  have e1:aD.toArray.size=aD.length:=by simp
  have e2:(fun(i:Nat)(v:Value)=>aD.toArray[i]? = some v)=fun i v=>aD[i]? = some v:=by funext i v;simp
  rw[e1,e2]at W
  refine wpAny_pyIter_list hl (hQ aD s.heap.objs.size _ _ _ _ r W ⟨⟨_,Heap.get?_push_size _ rfl,rfl,rfl⟩,hl.push _⟩ (fun b hb=>?_) fun h' tk hk=>?_)
  ·show b<(s.heap.push _).objs.size
   rw[Heap.size_push]
   rcases List.mem_cons.mp hb with rfl|hb
   ·exact Nat.lt_succ_self _
   ·rcases List.mem_cons.mp hb with rfl|hb
    ·exact Nat.lt_succ_of_lt dU
    ·cases hb
  ·exact I.kept (t':=tk) (old_kept hk)
 ·obtain⟨aD,r,p,hz⟩:=I.tuple h
  have hl:s.heap.IsTuple a aD.toArray:=p
  have dU:a<s.heap.objs.size:=by obtain⟨_,e,_⟩:=hl;exact Heap.lt_size e
  have W:=Walks.tuple (prog:=X.prog) (w:=X.w) (A:=A) hh s.heap.objs.size a (Nat.ne_of_lt dU) aD.toArray
  have e1:aD.toArray.size=aD.length:=by simp
  have e2:(fun(i:Nat)(v:Value)=>aD.toArray[i]? = some v)=fun i v=>aD[i]? = some v:=by funext i v;simp
  rw[e1,e2]at W
  refine wpAny_pyIter_tuple hl (hQ aD s.heap.objs.size _ _ _ _ r W ⟨⟨_,Heap.get?_push_size _ rfl,rfl,rfl⟩,hl.push _⟩ (fun b hb=>?_) fun h' tk hk=>?_)
  ·show b<(s.heap.push _).objs.size
   rw[Heap.size_push]
   rcases List.mem_cons.mp hb with rfl|hb
   ·exact Nat.lt_succ_self _
   ·rcases List.mem_cons.mp hb with rfl|hb
    ·exact Nat.lt_succ_of_lt dU
    ·cases hb
  ·refine I.kept (t':=tk) fun b o e=>hk b o (fun hm=>?_) (Heap.get?_push_of_some _ e)
   rcases List.mem_cons.mp hm with e1|hm
   ·exact absurd (e1▸Heap.lt_size e) (Nat.lt_irrefl _)
   ·cases hm
theorem mX {K:PySem.W.Frag}{st:aB}{d:D}{v:V}{P:List Nat->List D->Prop}(ok:aS K st H)(r:Rep K H d v)(h:dP d st P):∃ a vs as ds,v=.ref a/\PJ K H a vs/\aL K H ds vs/\P as ds:=by
 unfold dP at h
 split at h
 ·obtain⟨a,vs,rfl,f,g⟩:=r.bS
  exact⟨a,vs,_,_,rfl,.inr f,g,h⟩
 ·cases r.cQ
  obtain⟨ds,e,h⟩:=eF h
  obtain⟨vs,g1,g2⟩:=ok.lst e
  exact⟨_,vs,_,ds,rfl,.inl (dN.of g1),g2,h⟩
 ·obtain⟨a,vs,rfl,f,g⟩:=r.kZ
  exact⟨a,vs,_,_,rfl,.inl f.sq,g,h⟩
 ·exact h.elim
theorem CI {K:PySem.W.Frag}:∀{ds:List D}{vs:List V}{aD:List Value}{bs:List Bool},boolsOf ds=some bs->aL K H ds vs->aO vs aD->aD=bs.map Value.bool
 |_,_,_,_,h,.nil,.nil=>by cases h;rfl
 |d::ds,_,_,bs,h,.cons r1 r2,.cons v1 v2=>by
  cases d with
  |bl b =>
   simp only[boolsOf,Option.map_eq_some_iff]at h
   obtain⟨bs',e,rfl⟩:=h
   cases r1.gM
   cases v1
   rw[CI e r2 v2];rfl
  |_=>simp [boolsOf]at h
theorem all_range (bs:List Bool):(List.range bs.length).all (fun i=>(bs[i]?).getD true)=bs.all id:=by
 induction bs with
 |nil=>rfl
 |cons b bs ih =>
 simp only[List.length_cons,List.range_succ_eq_map,List.all_cons,List.all_map,Function.comp_def,List.getElem?_cons_zero,List.getElem?_cons_succ,Option.getD_some,id]
 rw[<-ih]
theorem any_range (bs:List Bool):(List.range bs.length).any (fun i=>(bs[i]?).getD true)=bs.any id:=by
 induction bs with
 |nil=>rfl
 |cons b bs ih =>
 simp only[List.length_cons,List.range_succ_eq_map,List.any_cons,List.any_map,Function.comp_def,List.getElem?_cons_zero,List.getElem?_cons_succ,Option.getD_some,id]
 rw[<-ih]
theorem B2 {prog:Program}{w:World}{A:Around}(bs:List Bool):TruthOf prog w A (fun i v=>(bs.map Value.bool)[i]? = some v) (fun i=>(bs[i]?).getD true):=fun i v s Q E hP hQ=>by
 have hP:(bs.map Value.bool)[i]? = some v:=hP
 rw[List.getElem?_map,Option.map_eq_some_iff]at hP
 obtain⟨b,e,rfl⟩:=hP
 simp only[e,Option.getD_some]at hQ
 exact wpAny_truthy_bool hQ
theorem lC (hh:X.A.handled=none):yD X (.builtin "all") (gT .all):=by
 intro pins s σ H st ds vs us R I ok r rv q
 match ds,q with
 |[d],q =>
 have q:gT .all [d] st R:=q
 rw[RU]at q
 obtain⟨v,rfl,rd⟩:=r.one
 obtain⟨u,rfl,ru⟩:=vals1 rv
 obtain⟨a,ws,as,xs,rfl,sa,g,q⟩:=mX ok rd q
 cases ru
 obtain⟨bs,e,q⟩:=eO q
 refine call_all_walk (CA (A:=X.A.in1) hh I sa fun aD I0 fp wr St s₂ rr W h0 hfp hk=>?_)
 cases CI e g rr
 refine⟨I0,fp,wr,_,_,St,_,rfl,W,h0,B2 bs,fun h' tk hk'=>⟨.bl _,H,hk h' tk hk',rfl,?_⟩⟩
 rw[List.length_map,all_range]
 exact .here ok (.bl _) q
 |[],q=>exact(show False from q).elim
 |_::_::_,q=>exact(show False from q).elim
theorem HF (hh:X.A.handled=none):yD X (.builtin "any") (gT .any):=by
 intro pins s σ H st ds vs us R I ok r rv q
 match ds,q with
 |[d],q =>
 have q:gT .any [d] st R:=q
 rw[QH]at q
 obtain⟨v,rfl,rd⟩:=r.one
 obtain⟨u,rfl,ru⟩:=vals1 rv
 obtain⟨a,ws,as,xs,rfl,sa,g,q⟩:=mX ok rd q
 cases ru
 obtain⟨bs,e,q⟩:=eO q
 refine call_any_walk (CA (A:=X.A.in1) hh I sa fun aD I0 fp wr St s₂ rr W h0 hfp hk=>?_)
 cases CI e g rr
 refine⟨I0,fp,wr,_,_,St,_,rfl,W,h0,B2 bs,fun h' tk hk'=>⟨.bl _,H,hk h' tk hk',rfl,?_⟩⟩
 rw[List.length_map,any_range]
 exact .here ok (.bl _) q
 |[],q=>exact(show False from q).elim
 |_::_::_,q=>exact(show False from q).elim
theorem CW:yD X (.type "list") (gT .list):=by
 intro pins s σ H st ds vs us R I ok r rv q
 match ds,q with
 |[d],q =>
 have q:gT .list [d] st R:=q
 rw[MJ]at q
 obtain⟨v,rfl,rd⟩:=r.one
 obtain⟨a,ws,as,xs,rfl,sa,g,q⟩:=mX ok rd q
 exact IP pins s σ H _ us _ I rv ⟨a,ws,rfl,sa,fun l hl=>.iE ok g hl q.2⟩
 |[],q=>exact(show False from q).elim
 |_::_::_,q=>exact(show False from q).elim
theorem dH:yD X (.type "tuple") (gT .tuple):=by
 intro pins s σ H st ds vs us R I ok r rv q
 match ds,q with
 |[d],q =>
 have q:gT .tuple [d] st R:=q
 rw[J0]at q
 obtain⟨v,rfl,rd⟩:=r.one
 obtain⟨a,ws,as,xs,rfl,sa,g,q⟩:=mX ok rd q
 rcases sa with sa|sa
 ·exact yE pins s σ H _ us _ I rv ⟨a,ws,rfl,.inl ⟨sa,fun l hl=>.IB ok g hl q.2⟩⟩
 ·exact yE pins s σ H _ us _ I rv ⟨a,ws,rfl,.inr ⟨sa,.here ok (.tup sa g) q.2⟩⟩
 |[],q=>exact(show False from q).elim
 |_::_::_,q=>exact(show False from q).elim
theorem NB {K:PySem.W.Frag}:∀{ds:List D}{vs:List V}{aD:List Value}{is:List Int},intsOf ds=some is->aL K H ds vs->aO vs aD->IntsAre aD is
 |_,_,_,_,h,.nil,.nil=>by cases h;exact .nil
 |d::ds,_,_,bs,h,.cons r1 r2,.cons v1 v2=>by
  cases d with
  |int i =>
   simp only[intsOf,Option.map_eq_some_iff]at h
   obtain⟨bs',e,rfl⟩:=h
   cases r1.int_inv
   obtain⟨t,rfl⟩:=v1
   exact .cons _ _ (NB e r2 v2)
  |_=>simp [intsOf]at h
def KR (is:List Int)(i:Nat):Int:=(is[i]?).getD 0
theorem PR:∀{aD:List Value}{is:List Int},IntsAre aD is->∀(i:Nat)(v:Value),aD[i]? = some v->∃ t,v=.int (KR is i) t
 |_,_,.nil,i,v,e=>by simp at e
 |_,_,.cons n t r,0,v,e=>by simp at e;exact⟨t,e.symm⟩
 |_,_,.cons n t r,i+1,v,e=>by
  obtain⟨t',e'⟩:=PR r i v (by simpa using e)
  exact⟨t',by simpa [KR]using e'⟩
theorem M7:∀{aD:List Value}{is:List Int},IntsAre aD is->aD.length=is.length
 |_,_,.nil=>rfl
 |_,_,.cons _ _ r=>by simp [M7 r]
theorem take_snoc {r:List Int}{k:Nat}(h:k<r.length):r.take (k+1)=r.take k++[r[k]]:=by rw[List.take_succ_eq_append_getElem h]
theorem D3 (is:List Int):∀ n,n<=is.length->preSum (KR is) n=(is.take n).sum
 |0,_=>rfl
 |n+1,h=>by
  rw[take_snoc (by omega),List.sum_append,<-D3 is n (by omega)]
  simp [preSum,KR,List.getElem?_eq_getElem (show n<is.length by omega)]
theorem FT (hh:X.A.handled=none):yD X (.builtin "sum") (gT .sum):=by
 intro pins s σ H st ds vs us R I ok r rv q
 match ds,q with
 |[d],q =>
 have q:gT .sum [d] st R:=q
 rw[RW]at q
 obtain⟨v,rfl,rd⟩:=r.one
 obtain⟨u,rfl,ru⟩:=vals1 rv
 obtain⟨a,ws,as,xs,rfl,sa,g,q⟩:=mX ok rd q
 cases ru
 obtain⟨is,e,q⟩:=eO q
 refine call_sum_walkG (CA (A:=X.A.in1) hh I sa fun aD I0 fp wr St s₂ rr W h0 hfp hk=>?_)
 have ia:=NB e g rr
 have hl:=M7 ia
 refine⟨I0,fp,wr,_,_,St,KR is,rfl,W,h0,hfp,fun j v e=>PR ia j v e,fun h' tk t' hk'=>?_⟩
 refine⟨.int _,H,hk h' tk hk',⟨t',rfl⟩,?_⟩
 rw[hl,D3 is is.length (Nat.le_refl _),List.take_length]
 exact .here ok (.int _) q
 |[],q=>exact(show False from q).elim
 |_::_::_,q=>exact(show False from q).elim
theorem Oc {K:PySem.W.Frag}{a:Addr}{vs:List V}(h:H a=some (.lst vs)):QO K "list" (.ref a) H:=.inl ⟨rfl,vs,dN.of h⟩
theorem A6 (l:Addr)(items:Array Value)(n:Nat)(b:Addr)(items2:Array Value)(n2:Nat)(dd:Option Addr)(sl:Array (Option Value))(hs0:¬(!items.isEmpty&&Builtin.List.listTooLong (items.size+items2.size))=true)(hs1:items.size<=sizeLine)(hs2:items.size+items2.size<=sizeLine+1):
 Meets (Builtin.«list.extend» ⟨[.ref l,.ref b],[]⟩) (fun _ R s=>s.heap.get? l=some { cls:=.type "list", dict:=none,data:=.seq items n,slots:=#[] }/\s.heap.get? b=some { cls:=.type "tuple", dict:=dd,data:=.seq items2 n2,slots:=sl }/\R (.ok (.ret Value.none)) { s with heap:=s.heap.update l (Obj.mapSeq fun x=>x++items2),toks:=s.toks }) :=
 .of_wp fun prog w A R s h=>by
 obtain⟨hp,g,d,tk,os⟩:=s;obtain⟨hl,hb,h⟩:=h;have f1:=AutoSeq1.idx_int;have f2:=AutoSeq1.sub_tuple_tuple;have f3:=AutoSeq1.sub_list_list;have f4:=AutoSeq1.sub_tuple_list;have f5:=AutoSeq1.sub_list_tuple;
 have hz':(items++items2).size<=sizeLine+1:=by rw[Array.size_append];exact hs2
 wp_walk using(wpAny_updateSeq hl rfl (hz:=hs1) (_hz':=hz')),AutoSeq1.wpAny_loadPart' hl,AutoSeq1.wpAny_loadPart' hb;exact⟨_,rfl,h⟩
def UN (K:PySem.W.Frag):V->List V->Hp->L2.VK->Prop:=fun x vs H Q=>∃ l b xs zs,x=.ref l/\vs=[.ref b]/\H l=some (.lst xs)/\eU K H b zs/\xs.length+zs.length<=sizeLine/\Q .non (upd H l (.lst (xs++zs)))
theorem OM:GD X "list.extend" (UN X.K):=by
 intro pins s σ H x vs v us Q I rx rv h
 obtain⟨l,b,xs,zs,rfl,rfl,hH,hB,hz,q⟩:=h
 cases rx
 obtain⟨u,rfl,ru⟩:=rv.one
 cases ru
 obtain⟨z,aD,n,r,hl,e⟩:=I.vZ hH
 obtain⟨nZ,r2,p2,_⟩:=I.tuple hB
 have hl2:=r2.length
 obtain⟨⟨cls,dd,data,sl⟩,ho,hc,n2,hd⟩:=id p2
 simp only at hc hd
 subst hc hd
 have jE:aD.toArray.size+nZ.toArray.size<=sizeLine:=by rw[List.size_toArray,List.size_toArray];omega
 have hlong:¬(!aD.toArray.isEmpty&&Builtin.List.listTooLong (aD.toArray.size+nZ.toArray.size))=true:=by
  rw[B6 jE,Bool.and_false]
  exact Bool.false_ne_true
 refine call_meets F.slot_list_extend ⟨_,e,rfl⟩ F.entry_list_extend (F.args_list_extend_2 _ _)
  (A6 l aD.toArray n b nZ.toArray n2 dd sl hlong (by rw[List.size_toArray];omega) (by omega)) ⟨e,ho,?_⟩
 refine⟨.non,_,I.OU (lP:=aD++nZ) hH e (by simp) (r.append r2) ?_,rfl,q⟩
 rw[List.length_append]
 omega
def JZ (X:Cx)(T id:String)(W:D->List D->aB->VK->Prop):Prop :=
 ∀(pins:List (Addr×Obj))(s:Shared)(σ:L2.St)(H:Hp)(st:aB)(d:D)(ds:List D)(v:V)(vs:List V)(u:Value)(us:List Value)(R:VK),Inv X pins σ H s->aS X.K st H->Rep X.K H d v->RelV v u->aL X.K H ds vs->aO vs us->W d ds st R ->
 wpAny (model X.prog X.w) X.A (call (.builtin id) (u::us)) (EP X pins σ (QD X.K H st R)) X.xe s
def Kz (K:PySem.W.Frag)(W:D->List D->aB->VK->Prop):V->List V->Hp->L2.VK->Prop:=fun v vs H Q=>∃ d ds st R,Rep K H d v/\aL K H ds vs/\aS K st H/\W d ds st R/\∀ v H',QD K H st R v H'->Q v H'
theorem JZ.mt {T id:String}{W:D->List D->aB->VK->Prop}(h:JZ X T id W):GD X id (Kz X.K W):=fun pins s σ H v vs u us Q I rv rvs ⟨d,ds,st,R,r,rs,ok,q,hq⟩ =>
 bE (h pins s σ H st d ds v vs u us R I ok r rv rs rvs q) fun u s' ⟨v,H',I',r',z⟩=>⟨v,H',I',r',hq _ _ z⟩
theorem RI:JZ X "list" "list.append" (jQ .append):=by
 intro pins s σ H st d ds v vs u us R I ok r rv rs rvs q
 cases d<;>first|exact(show False from q).elim|skip
 match ds,q with
 |[d],q =>
 cases r.cQ
 obtain⟨w,rfl,rd⟩:=rs.one
 obtain⟨xs,e,q⟩:=eF (st:=st) q
 obtain⟨ys,g1,g2⟩:=ok.lst e
 exact L2.tX pins s σ H _ _ u us _ I rv rvs ⟨_,ys,w,rfl,rfl,g1,by rw[gG,<-g2.length];exact q.1,.set ok e (g2.append (.cons rd .nil)) .non q.2⟩
 |[],q=>exact(show False from q).elim
 |_::_::_,q=>exact(show False from q).elim
theorem QI:JZ X "list" "list.extend" (jQ .extend):=by
 intro pins s σ H st d ds v vs u us R I ok r rv rs rvs q
 cases d<;>first|exact(show False from q).elim|skip
 match ds,q with
 |[d],q =>
 cases r.cQ
 obtain⟨w,rfl,rd⟩:=rs.one
 obtain⟨xs,e,q⟩:=eF (st:=st) q
 obtain⟨ys,g1,g2⟩:=ok.lst e
 have q:zL d st fun zs=>xs.length+zs.length<=aZ/\R .non (put st _ (.lst (xs++zs))):=q
 cases d<;>first|exact(show False from q).elim|skip
 ·obtain⟨b,ws,rfl,f,g⟩:=rd.bS
  exact OM pins s σ H _ _ u us _ I rv rvs ⟨_,b,ys,ws,rfl,rfl,g1,f,by rw[gG,<-g2.length,<-g.length];exact q.1,.set ok e (g2.append g) .non q.2⟩
 ·cases rd.cQ
  obtain⟨zs,e2,q⟩:=eF (st:=st) q
  obtain⟨ws,k1,k2⟩:=ok.lst e2
  exact L2.zC pins s σ H _ _ u us _ I rv rvs ⟨_,_,ys,ws,rfl,rfl,g1,k1,by rw[gG,<-g2.length,<-k2.length];exact q.1,.set ok e (g2.append k2) .non q.2⟩
 |[],q=>exact(show False from q).elim
 |_::_::_,q=>exact(show False from q).elim
theorem Ck:JZ X "list" "list.pop" (jQ .pop):=by
 intro pins s σ H st d ds v vs u us R I ok r rv rs rvs q
 cases d<;>first|exact(show False from q).elim|skip
 match ds,q with
 |[],q =>
 cases r.cQ
 cases rs
 obtain⟨xs,e,q⟩:=eF (st:=st) q
 obtain⟨ys,g1,g2⟩:=ok.lst e
 obtain⟨d,e2,q⟩:=eO q
 obtain⟨w,k1,k2⟩:=g2.get e2
 exact L2.HY pins s σ H _ _ u us _ I rv rvs ⟨_,ys,w,rfl,rfl,g1,by rw[<-g2.length];exact k1,.set ok e g2.dropLast k2 q⟩
 |_::_,q=>exact(show False from q).elim
theorem RF {K:PySem.W.Frag}{m:MT}{st:aB}{d:D}{v:V}(hm:m≠.index)(ok:aS K st H)(r:Rep K H d v)(h:AD m d st):QO K "list" v H:=by
 unfold AD at h
 split at h
 all_goals first|(exact h.elim;done)|(exact absurd rfl hm;done)|skip
 all_goals
 cases r.cQ
 obtain⟨ds,e,_⟩:=eF h
 obtain⟨vs,g,_⟩:=ok.lst e
 exact Oc g
end
section
variable {X:Cx}{C:bO}{sub:Nat->Nat->Bool}{E:XK}{a b c e o:Expr}{x y z:Ex}{pos apos kK:Pos}
theorem RB {m:MT}{name:Str}{id:String}{es:List Expr}{xs:List Ex}(hmi:m≠.index)(slot:Slot "list" name id)(hty:typeOf (.builtin id)=pure (.type "method_descriptor"))(hm:JZ X "list" id (jQ m))(ho:PE X o (cB X.K (aG C sub E x)))(ha:PA X (e::es) (mN X.K (bG C sub E xs)))
 (jT:attributeBase o name X.env (eval o X.env)=eval o X.env)
 (sS:((backTo kK (starEach (e::es) X.env)).all (fun x=>!x.1)&&(backToKw kK (keywordEach [] X.env)).all (fun x=>x.1.isSome)&&decide ((e::es).length+([]:List Keyword).length+(if([]:List Keyword).isEmpty then 0 else 1)<30))=true)(jU:(apos.endLine==kK.line)=true)
 (hs:starEach (e::es) X.env=(false,eval e X.env)::starEach es X.env)(sT:(backTo kK (starEach es X.env)).any (·.1)=false):
 PE X (.Call (.Attribute o name apos) (e::es) [] kK) (cB X.K (aG C sub E (.bW m x xs))) :=
 (Hm PySem.F.plainAttrs_list slot hty hm.mt ho ha jT sS jU hs sT).imp fun σ H Q ⟨σd,st,R,r,ok,q,hq⟩=>by
 simp only[aG]at q
 refine⟨σd,st,_,r,ok,q,fun v H1 ⟨d,aC,s1,aQ,r1,q1⟩=>⟨RF hmi aQ r1 q1.1,?_⟩⟩
 refine⟨σd,aC,_,r.step ok s1,aQ,q1.2,fun vs H2 ⟨ds,aH,s2,cH,r2,q2⟩=>?_⟩
 exact⟨d,ds,aH,R,r1.step aQ s2,r2,cH,q2,fun v H' z=>hq _ _ (.after (s1.trans s2) z)⟩
theorem XD {m:MT}{name:Str}{id:String}(hmi:m≠.index)(slot:Slot "list" name id)(hty:typeOf (.builtin id)=pure (.type "method_descriptor"))(hm:JZ X "list" id (jQ m))(ho:PE X o (cB X.K (aG C sub E x)))
 (jT:attributeBase o name X.env (eval o X.env)=eval o X.env)(jU:(apos.endLine==kK.line)=true):
 PE X (.Call (.Attribute o name apos) [] [] kK) (cB X.K (aG C sub E (.bW m x []))) :=
 (Cz PySem.F.plainAttrs_list slot hty hm.mt ho jT jU).imp fun σ H Q ⟨σd,st,R,r,ok,q,hq⟩=>by
 simp only[aG,bG]at q
 refine⟨σd,st,_,r,ok,q,fun v H1 ⟨d,aC,s1,aQ,r1,q1⟩=>⟨RF hmi aQ r1 q1.1,?_⟩⟩
 exact⟨d,[],aC,R,r1,.nil,aQ,q1.2,fun v H' z=>hq _ _ (.after s1 z)⟩
def fV (K:PySem.W.Frag)(C:bO)(f:Nat):Sp:=fun vs H Q _=>∃ ds st R,aL K H ds vs/\aS K st H/\C f ds st R (fun _ _=>False)/\∀ v H',QD K H st R v H'->Q v H'
theorem Z5 {CX:tR}{k:Nat}{f:Addr}{fid:Nat}{fd:FuncData}{ps:List Str}{n:Str}{p:Pos}{es:List Expr}{xs:List Ex}(F:dR X.prog X.w X.K X.mg X.base CX k f fd ps (fV X.K C fid))(hr:dM k X.A)(hg:Gl X n)(hm:X.mg n=some (.ref f))
 (hk:PySem.W.keepIn X.K (.ref f)=true)(hb:Binds X.K fd ps [])(hx:sI CX X E0)(ha:PA X (e::es) (mN X.K (bG C sub (fun _ _=>False) xs)))
 (hdb:(n==("__debug__" : Str))=false)(he:starEach (e::es) X.env=(false,eval e X.env)::starEach es X.env)(dC:(backTo pos (starEach es X.env)).any (·.1)=false):
 PE X (.Call (.Name n p) (e::es) [] pos) (cB X.K (aG C sub (fun _ _=>False) (.call fid xs))) :=
 (XH F hr hg hm hk hb .nil hx ha hdb he dC).imp fun σ H Q ⟨σd,st,R,r,ok,q,hq⟩=>by
 simp only[aG]at q
 refine⟨σd,st,_,r,ok,q,fun vs H1 ⟨ds,aC,s1,aQ,r1,q1⟩=>?_⟩
 show fV X.K C fid (vs++[]) H1 Q E0
 rw[List.append_nil]
 exact⟨ds,aC,R,r1,aQ,q1,fun v H' z=>hq _ _ (.after s1 z)⟩
end
end L3
end
section
namespace L3
open PySem PySem.Spec PyProof.Rows L2
abbrev EF:XK:=fun _ _=>False
structure EB (K:PySem.W.Frag)(H:Hp)(st:aB)(P:iK)(D:Ends):Prop where
 nx:∀ σ' H' eH aA,dQ K H' eH σ'->Step H st H' aA->aS K aA H'->P.nx eH aA->D.nx σ' H'
 rt:∀ v H',QD K H st P.rt v H'->D.rt v H'
 bk:∀ σ' H' eH aA,dQ K H' eH σ'->Step H st H' aA->aS K aA H'->P.bk eH aA->D.bk σ' H'
 ct:∀ σ' H' eH aA,dQ K H' eH σ'->Step H st H' aA->aS K aA H'->P.ct eH aA->D.ct σ' H'
 ex:∀ c σd st,¬P.ex c σd st
theorem EB.after {K:PySem.W.Frag}{H H1:Hp}{st aC:aB}{P:iK}{D:Ends}(h:EB K H st P D)(s:Step H st H1 aC):EB K H1 aC P D :=
 ⟨fun σ' H' eH aA r t ok q=>h.nx σ' H' eH aA r (s.trans t) ok q,fun v H' z=>h.rt v H' (.after s z),fun σ' H' eH aA r t ok q=>h.bk σ' H' eH aA r (s.trans t) ok q,fun σ' H' eH aA r t ok q=>h.ct σ' H' eH aA r (s.trans t) ok q,h.ex⟩
def jB (K:PySem.W.Frag)(ts:iK->St->aB->Prop):L2.TS:=fun D σ H=>∃ σd st P,dQ K H σd σ/\aS K st H/\ts P σd st/\EB K H st P D
section
variable {X:Cx}{C:bO}{sub:Nat->Nat->Bool}{a b c e:Expr}{x y z:Ex}{pos:Pos}{s:Stmt}{ss:List Stmt}{xs:List Sx}{sx:Sx}
theorem Hc:lF X [] (jB X.K (cN C sub [])) :=
 XF.imp fun D σ H ⟨σd,st,P,r,ok,q,h⟩=>by
 simp only[cN]at q
 exact h.nx _ _ _ _ r .refl ok q
theorem Cv (h1:PS X s (jB X.K (wpS C sub sx)))(h2:lF X ss (jB X.K (cN C sub xs))):lF X (s::ss) (jB X.K (cN C sub (sx::xs))) :=
 (SS h1 h2).imp fun D σ H ⟨σd,st,P,r,ok,q,h⟩=>by
 simp only[cN]at q
 exact⟨σd,st,_,r,ok,q,⟨fun σ' H' eH aA r' s' gD q'=>⟨eH,aA,P,r',gD,q',h.after s'⟩,h.rt,h.bk,h.ct,h.ex⟩⟩
theorem rF {P:iK}{σd:St}{st:aB}{x:Ex}{Q:VK}(hC:bX C C)(he:∀ c σd st,¬P.ex c σd st)(q:aG C sub (fun c aA=>P.ex c σd aA) x σd st Q):aG C sub EF x σd st Q :=
 aW hC (fun c st z=>he _ _ _ z) x (fun _ _ z=>z) q
theorem Hg {P:iK}{σd:St}{st:aB}{xs:List Ex}{Q:List D->aB->Prop}(hC:bX C C)(he:∀ c σd st,¬P.ex c σd st)(q:bG C sub (fun c aA=>P.ex c σd aA) xs σd st Q):bG C sub EF xs σd st Q :=
 cY hC (fun c st z=>he _ _ _ z) xs (fun _ _ z=>z) q
theorem Iy (hC:bX C C)(h:PE X e (cB X.K (aG C sub EF x))):PS X (.Return (some e) pos) (jB X.K (wpS C sub (.ret x))) :=
 (Ek h).imp fun D σ H ⟨σd,st,P,r,ok,q,h⟩=>by
 simp only[wpS]at q
 exact⟨σd,st,_,r,ok,rF hC h.ex q,h.rt⟩
theorem Cd:PS X (.Return none pos) (jB X.K (wpS C sub (.ret (.c .non)))) :=
 WN.imp fun D σ H ⟨σd,st,P,r,ok,q,h⟩=>by
 simp only[wpS,aG]at q
 exact h.rt _ _ (.here ok .non q)
theorem Lm (hC:bX C C)(h:PE X e (cB X.K (aG C sub EF x)))(hs:swapsWith e none pos.line X.env=pure false):PS X (.Expr e pos) (jB X.K (wpS C sub (.ex x))) :=
 (WZ h hs).imp fun D σ H ⟨σd,st,P,r,ok,q,h⟩=>by
 simp only[wpS]at q
 exact⟨σd,st,_,r,ok,rF hC h.ex q,fun v H' ⟨d,aA,s',gD,_,q'⟩=>h.nx _ _ _ _ (r.step ok s') s' gD q'⟩
theorem Mj {as bs:List Stmt}{ax bx:List Sx}(hC:bX C C)(hc:PT X c (jG X.K (aG C sub EF x)))(ha:lF X as (jB X.K (cN C sub ax)))(hb:lF X bs (jB X.K (cN C sub bx))):PS X (.If c as bs pos) (jB X.K (wpS C sub (.iff x ax bx))) :=
 (Hq hc ha hb).imp fun D σ H ⟨σd,st,P,r,ok,q,h⟩=>by
 simp only[wpS]at q
 refine⟨σd,st,fun k aA=>if k=true then cN C sub ax P σd aA else cN C sub bx P σd aA,r,ok,rF hC h.ex q,fun k H' ⟨aA,s',gD,q'⟩=>?_⟩
 cases k with
 |true=>exact⟨σd,aA,P,r.step ok s',gD,q',h.after s'⟩
 |false=>exact⟨σd,aA,P,r.step ok s',gD,q',h.after s'⟩
theorem Z7 {cl:Nat}{es:List Ex}(hC:bX C C)(hn:∀ σd st,¬bG C sub EF es σd st fun _ _=>False):PS X s (jB X.K (wpS C sub (.rais cl es))) :=
 S2.imp fun D σ H ⟨σd,st,P,r,ok,q,h⟩=>by
 simp only[wpS]at q
 exact hn σd st (cY hC (fun c st z=>(h.ex _ _ _ z).elim) es (fun _ _ z=>(h.ex _ _ _ z).elim) q)
def M4 (K:PySem.W.Frag)(g:D->St->aB->(St->aB->Prop)->Prop):TG:=fun v σ H Q=>∃ d σd st M,Rep K H d v/\dQ K H σd σ/\aS K st H/\g d σd st M /\
 ∀ σ' H' eH aA,dQ K H' eH σ'->Step H st H' aA->aS K aA H'->M eH aA->Q σ' H'
theorem _root_.L2.PG.imp {X:Cx}{e:Expr}{t t':TG}(i:∀ v σ H Q,t' v σ H Q->t v σ H Q)(h:PG X e t):PG X e t':=fun pins s σ H v u Q I r q=>h pins s σ H v u Q I r (i v σ H Q q)
theorem TX {E:XK}{i:Nat}(h:PG X e (DF i)):PG X e (M4 X.K (fX C sub E (.nm i))) :=
 h.imp fun v σ H Q ⟨d,σd,st,M,rd,r,ok,q,hq⟩=>by
 simp only[fX]at q
 exact hq _ _ _ _ (r.set i rd) .refl ok q
theorem NJ {tg:Expr}{t:Tg}(hC:bX C C)(he:PE X e (cB X.K (aG C sub EF x)))(hg:PG X tg (M4 X.K (fX C sub EF t)))
 (hs:swapsWithSole [tg] e pos.line X.env=pure false)(hw:swappedStores [tg] e X.env=pure none)(h1:(assignEach [tg] X.env).map (·.2)=[assign tg X.env]):PS X (.Assign [tg] e pos) (jB X.K (wpS C sub (.asg t x))) :=
 (Dj he hg hs hw h1).imp fun D σ H ⟨σd,st,P,r,ok,q,h⟩=>by
 simp only[wpS]at q
 refine⟨σd,st,_,r,ok,rF hC h.ex q,fun v H' ⟨d,aA,s',gD,rd,q'⟩=>?_⟩
 refine⟨d,σd,aA,P.nx,rd,r.step ok s',gD,vW hC (fun c st z=>h.ex _ _ _ z) (fun _ _ z=>z) t q',fun σ2 H2 uC aH r2 s2 cH q2=>?_⟩
 exact h.nx _ _ _ _ r2 (s'.trans s2) cH q2
theorem YM {bs:List Stmt}{bx:List Sx}(hC:bX C C)(hp:PassesOwn (model X.prog X.w) X.A X.env X.xe)(hc:PT X c (jG X.K (aG C sub EF x)))(hb:lF X bs (jB X.K (cN C sub bx))):PS X (.While c bs [] pos) (jB X.K (wpS C sub (.whl x bx))) :=
 (SY hp hc hb).imp fun D σ H ⟨σd,st,P,r,ok,q,h⟩=>by
 simp only[wpS]at q
 obtain⟨n,q⟩:=q
 refine⟨fun m σ' H'=>∃ eH aA,dQ X.K H' eH σ'/\Step H st H' aA/\aS X.K aA H'/\pT _ m eH aA,⟨n,σd,st,r,.refl,ok,q⟩,fun m σ1 H1 ⟨σd1,aC,r1,s1,aQ,q1⟩=>?_⟩
 cases m with
 |zero=>exact q1.elim
 |succ m =>
  simp only[pT]at q1
  refine⟨σd1,aC,fun k aA=>if k=true then cN C sub bx _ σd1 aA else P.nx σd1 aA,r1,aQ,rF hC h.ex q1,fun k H2 ⟨aH,s2,cH,q2⟩=>?_⟩
  cases k with
  |false=>exact h.nx _ _ _ _ (r1.step aQ s2) (s1.trans s2) cH q2
  |true =>
  refine⟨fun σ' H'=>∃ eH aA,dQ X.K H' eH σ'/\Step H st H' aA/\aS X.K aA H'/\pT _ m eH aA,fun σ' H' z=>⟨m,Nat.lt_succ_self _,z⟩,?_⟩
  refine⟨σd1,aH,_,r1.step aQ s2,cH,q2,⟨fun σ' H' eH aA r' s' gD q'=>⟨eH,aA,r',(s1.trans s2).trans s',gD,q'⟩,fun v H' z=>h.rt _ _ (.after (s1.trans s2) z),fun σ' H' eH aA r' s' gD q'=>h.nx _ _ _ _ r' ((s1.trans s2).trans s') gD q',
   fun σ' H' eH aA r' s' gD q'=>⟨eH,aA,r',(s1.trans s2).trans s',gD,q'⟩,h.ex⟩⟩
end
end L3
end
section
namespace L3
open PySem PySem.Spec PyProof.Rows L2
def U6 (x:Str):It:=⟨fun i _=>i<x.cps.size,fun i H v H'=>H'=H/\∃ c,x.cps[i]? = some c/\v=.str ⟨#[c]⟩,fun i _=>x.cps.size<=i⟩
theorem JR {P:Program}{w:World}{K:PySem.W.Frag}{tg:Expr}(it:Addr)(x:Str)(t:Tok)(ty:String)(hty:["enumerate","zip","dict_itemiterator","dict_reverseitemiterator","odict_iterator","itertools.zip_longest","itertools.pairwise"].contains ty=false)
  (W:∀ A:Around,A.handled=none->Walks P w A it [it] [it] x.cps.size (SignAt x) (fun i h=>h.IsStrIter it ty x t i))
  (hd:∀(A:Around)(i:Nat)(s:Shared)(Q:Option Value->Shared->Prop)(E:Value->Shared->Prop),A.handled=none->s.heap.IsStrIter it ty x t i->x.cps.size<=i->(∀ h',(∀ b o,b≠it->s.heap.get? b=some o->h'.get? b=some o)->Q none { s with heap:=h' })->wpAny (model P w) A (pyNext (.ref it)) Q E s)
  (hself:∀(A:Around)(i:Nat)(s:Shared)(Q:Value->Shared->Prop)(E:Value->Shared->Prop),s.heap.IsStrIter it ty x t i->Q (.ref it) s->wpAny (model P w) A (pyIter (.ref it)) Q E s):Turn P w K tg (U6 x) [it] it (fun i h=>h.IsStrIter it ty x t i) where
 mem:=by simp
 obj:=fun i h st b hb=>by
  have e:b=it:=by simpa using hb
  subst e
  obtain⟨o,e,c,d⟩:=st
  exact⟨o,e,fun v z=>by rw[d]at z;cases z⟩
 keep:=fun i h h' st k=>let⟨o,e,r⟩:=st;⟨o,k it (by simp) o e,r⟩
 item:=by
  intro X hP hw hK hc i pins s σ H E I hf st hg
  subst hP hw hK
  obtain⟨f0,f1,f2,f3,f4,f5⟩:=hf it (by simp)
  refine(W X.A (I.ok.hd hc)).item i s _ _ hg st fun v h' tk hv aA kk=>?_
  obtain⟨c,u,hc',rfl⟩:=hv
  have I1:Inv X pins σ H { s with heap:=h',toks:=tk }:=I.turned (fun b o hb e=>kk b o (by simpa using hb) e) f0 f1 f3 f4 f5
  obtain⟨o,e,c1,d⟩:=id aA
  exact⟨_,rfl,CT (s:={ s with heap:=h',toks:=tk }) e c1 d hty ⟨.str ⟨#[c]⟩,H,I1,⟨u,rfl⟩,⟨rfl,c,hc',rfl⟩,aA,fun b hb=>(hf b hb).1⟩⟩
 done:=by
  intro X hP hw hK hc i pins s σ H E I hf st hg
  subst hP hw hK
  obtain⟨f0,f1,f2,f3,f4,f5⟩:=hf it (by simp)
  exact hd X.A i s _ _ (I.ok.hd hc) st hg fun h' eb=>⟨rfl,I.turned (t':=s.toks) (fun b o hb e=>eb b o hb e) f0 f1 f3 f4 f5⟩
 self:=fun A i s Q E st h=>hself A i s Q E st h
structure B1 (K:PySem.W.Frag)(J:It)(as:List Nat)(xs:List D)(H1:Hp)(aC:aB):Prop where
 go:∀ i H st d,Step H1 aC H st->aS K st H->same as aC st->xs[i]? = some d->J.go i H
 yld:∀ i H st d x H',Step H1 aC H st->aS K st H->same as aC st->xs[i]? = some d->J.yld i H x H'->Step H st H' st/\aS K st H'/\Rep K H' d x
 stop:∀ i H st,Step H1 aC H st->aS K st H->same as aC st->xs.length<=i->J.stop i H
def EI (K:PySem.W.Frag)(te:St->aB->(List Nat->List D->aB->Prop)->Prop):TI:=fun σ H R=>∃ σd st M,dQ K H σd σ/\aS K st H/\te σd st M /\
 ∀ J H1,(∃ as xs aC,Step H st H1 aC/\aS K aC H1/\B1 K J as xs H1 aC/\M as xs aC)->R J H1
section
variable {K:PySem.W.Frag}{H1:Hp}{aC:aB}{a:Addr}{xs:List D}{vs:List V}
theorem X4 (aQ:aS K aC H1)(f:eU K H1 a vs)(g:aL K H1 xs vs):B1 K (Ce K a) [] xs H1 aC where
 go:=fun i H st d s ok _ e=>let⟨v,e1,_⟩:=g.get e;⟨vs,v,vU aQ s f,e1⟩
 yld:=fun i H st d x H' s ok _ e ⟨e',h⟩=>by
  subst e'
  obtain⟨v,e1,e2⟩:=g.get e
  have:=h vs (vU aQ s f)
  rw[e1]at this;cases this
  exact⟨.refl,ok,e2.step aQ s⟩
 stop:=fun i H st s ok _ l=>⟨vs,vU aQ s f,by rw[<-g.length];exact l⟩
theorem SR (aQ:aS K aC H1)(f:sH K H1 a vs)(g:aL K H1 xs vs):B1 K (VD K a) [] xs H1 aC where
 go:=fun i H st d s ok _ e=>let⟨v,e1,_⟩:=g.get e;⟨vs,v,(tB aQ s f).sq,e1⟩
 yld:=fun i H st d x H' s ok _ e ⟨e',h⟩=>by
  subst e'
  obtain⟨v,e1,e2⟩:=g.get e
  have:=h vs (tB aQ s f).sq
  rw[e1]at this;cases this
  exact⟨.refl,ok,e2.step aQ s⟩
 stop:=fun i H st s ok _ l=>⟨vs,(tB aQ s f).sq,by rw[<-g.length];exact l⟩
theorem VU (aQ:aS K aC H1)(e0:aC a=some (.lst xs)):B1 K (VD K a) [a] xs H1 aC where
 go:=fun i H st d s ok sm e=>by
  have e':st a=some (.lst xs):=(sm a (by simp)).trans e0
  obtain⟨us,g1,g2⟩:=ok.lst e'
  obtain⟨v,e1,_⟩:=g2.get e
  exact⟨us,v,dN.of g1,e1⟩
 yld:=fun i H st d x H' s ok sm e ⟨e',h⟩=>by
  subst e'
  have e':st a=some (.lst xs):=(sm a (by simp)).trans e0
  obtain⟨us,g1,g2⟩:=ok.lst e'
  obtain⟨v,e1,e2⟩:=g2.get e
  have:=h us (dN.of g1)
  rw[e1]at this;cases this
  exact⟨.refl,ok,e2⟩
 stop:=fun i H st s ok sm l=>by
  have e':st a=some (.lst xs):=(sm a (by simp)).trans e0
  obtain⟨us,g1,g2⟩:=ok.lst e'
  exact⟨us,dN.of g1,by rw[<-g2.length];exact l⟩
theorem RX (lo:Int)(n:Nat):B1 K (U0 lo n) [] (lQ lo n) H1 aC where
 go:=fun i H st d s ok _ e=>by
  have:=(List.getElem?_eq_some_iff.mp e).1
  show i<n
  simpa [lQ]using this
 yld:=fun i H st d x H' s ok _ e ⟨e',h⟩=>by
  subst e' h
  simp only[lQ,List.getElem?_map,Option.map_eq_some_iff]at e
  obtain⟨k,e1,rfl⟩:=e
  have:k=i:=by
   rw[List.getElem?_eq_some_iff]at e1
   obtain⟨_,e2⟩:=e1
   simp at e2
   exact e2.symm
  subst this
  exact⟨.refl,ok,.int _⟩
 stop:=fun i H st s ok _ l=>by show n<=i;simpa [lQ]using l
theorem ND (x:List Nat):B1 K (U6 ⟨x.toArray⟩) [] (x.map fun c=>.str [c]) H1 aC where
 go:=fun i H st d s ok _ e=>by
  have:=(List.getElem?_eq_some_iff.mp e).1
  show i<(⟨x.toArray⟩:Str).cps.size
  simpa using this
 yld:=fun i H st d v H' s ok _ e ⟨e',c,ec,ev⟩=>by
  subst e' ev
  simp only[List.getElem?_map,Option.map_eq_some_iff]at e
  obtain⟨c',e1,rfl⟩:=e
  have:c=c':=by
   have ec:x.toArray[i]? = some c:=ec
   simp at ec
   rw[ec]at e1;exact Option.some.inj e1
  subst this
  exact⟨.refl,ok,.str [c]⟩
 stop:=fun i H st s ok _ l=>by
  show(⟨x.toArray⟩:Str).cps.size<=i
  simpa using l
end
section
variable {X:Cx}{C:bO}{sub:Nat->Nat->Bool}{a b c e tg:Expr}{x y z:Ex}{pos:Pos}
theorem _root_.L2.PI.imp {X:Cx}{tg e:Expr}{t t':TI}(i:∀ σ H Q,t' σ H Q->t σ H Q)(h:PI X tg e t):PI X tg e t':=fun pins s σ H Q I q=>h pins s σ H Q I (i σ H Q q)
theorem Dg {E:XK}(h:PE X e (cB X.K (aG C sub E x))):PI X tg e (EI X.K fun σ st M=>bG C sub E [x] σ st fun ds aC=>gN none ds aC fun as xs=>M as xs aC):=by
 intro pins s σ H R I ⟨σd,st,M,r,ok,q,hq⟩
 simp only[bG,MC]at q
 refine bE (h pins s σ H _ I ⟨σd,st,_,r,ok,q,fun v H' z=>z⟩) fun u s1 ⟨v,H1,I1,rv,d,aC,dJ,aQ,r1,q1⟩=>?_
 have fresh:∀{b:Addr},b∈[s1.heap.objs.size]->nP X pins H1 b:=fun{b} hb=>by
  have e:b=s1.heap.objs.size:=by simpa using hb
  subst e
  exact I1.JY (Nat.le_refl _) (I1.cG.fresh (Nat.le_refl _))
 have tup:∀(a:Addr)(vs:List V)(as:List Nat)(xs:List D),v=.ref a->eU X.K H1 a vs->B1 X.K (Ce X.K a) as xs H1 aC->M as xs aC->wpAny (model X.prog X.w) X.A (pyIter u) (PY X pins σ tg R) X.xe s1:=by
  intro a vs as xs e f j q
  subst e
  cases rv
  obtain⟨aD,rr,p,hz⟩:=I1.tuple f
  exact wpAny_pyIter_tuple (show s1.heap.IsTuple a aD.toArray from p) ⟨s1.heap.objs.size,[s1.heap.objs.size],_,_,H1,rfl,I1.kept (t':=s1.toks) fun b o e=>Heap.get?_push_of_some _ e,OC a _,⟨_,Heap.get?_push_size _ rfl,rfl,rfl⟩,fun b hb=>fresh hb,hq _ _ ⟨as,xs,aC,dJ,aQ,j,q⟩⟩
 have lst:∀(a:Addr)(vs:List V)(as:List Nat)(xs:List D),v=.ref a->dN X.K H1 a vs->B1 X.K (VD X.K a) as xs H1 aC->M as xs aC->wpAny (model X.prog X.w) X.A (pyIter u) (PY X pins σ tg R) X.xe s1:=by
  intro a vs as xs e f j q
  subst e
  cases rv
  obtain⟨aD,rr,p,hz⟩:=I1.list f
  exact wpAny_pyIter_list p.isList ⟨s1.heap.objs.size,[s1.heap.objs.size],_,_,H1,rfl,I1.kept (t':=s1.toks) fun b o e=>Heap.get?_push_of_some _ e,P2 a _,⟨_,Heap.get?_push_size _ rfl,rfl,rfl⟩,fun b hb=>fresh hb,hq _ _ ⟨as,xs,aC,dJ,aQ,j,q⟩⟩
 have q1:oZ d aC fun as xs=>M as xs aC:=q1
 cases d with
 |tup ds =>
  obtain⟨a,vs,e,f,g⟩:=r1.bS
  exact tup a vs _ _ e f (X4 aQ f g) q1
 |str z =>
  have q1:z.length<=aZ/\M [] (z.map fun c=>.str [c]) aC:=q1
  cases r1.str_inv
  obtain⟨t,rfl⟩:=rv
  cases ha:(⟨z.toArray⟩:Str).cps.all (·< 128)
  ·exact wpAny_pyIter_wide ha ⟨s1.heap.objs.size,[s1.heap.objs.size],_,U6 ⟨z.toArray⟩,H1,rfl,I1.kept (t':=s1.toks) fun b o e=>Heap.get?_push_of_some _ e,
   JR s1.heap.objs.size ⟨z.toArray⟩ t "str_iterator" (by decide) (fun A hA=>Walks.strWide hA _ _ t) (fun A i s Q E hA hi hn hQ=>wpAny_pyNext_wide_end hA hi (by simpa using hn) fun h' he=>hQ h' he) (fun A i s Q E hi hQ=>wpAny_pyIter_striter_wide hi hQ),
   ⟨_,Heap.get?_push_size _ rfl,rfl,rfl⟩,fun b hb=>fresh hb,hq _ _ ⟨_,_,aC,dJ,aQ,ND z,q1.2⟩⟩
  ·exact wpAny_pyIter_ascii ha ⟨s1.heap.objs.size,[s1.heap.objs.size],_,U6 ⟨z.toArray⟩,H1,rfl,I1.kept (t':=s1.toks) fun b o e=>Heap.get?_push_of_some _ e,
   JR s1.heap.objs.size ⟨z.toArray⟩ t "str_ascii_iterator" (by decide) (fun A hA=>Walks.strAscii hA _ _ t) (fun A i s Q E hA hi hn hQ=>wpAny_pyNext_ascii_end hA hi (by simpa using hn) fun h' he=>hQ h' he) (fun A i s Q E hi hQ=>wpAny_pyIter_striter_ascii hi hQ),
   ⟨_,Heap.get?_push_size _ rfl,rfl,rfl⟩,fun b hb=>fresh hb,hq _ _ ⟨_,_,aC,dJ,aQ,ND z,q1.2⟩⟩
 |ref a =>
  cases r1.cQ
  obtain⟨ds,e,q1⟩:=eF (st:=aC) q1
  obtain⟨vs,g1,g2⟩:=aQ.lst e
  exact lst _ vs _ _ rfl (dN.of g1) (VU aQ e) q1
 |bP ds =>
  obtain⟨a,vs,e,f,g⟩:=r1.kZ
  exact lst a vs _ _ e f.sq (SR aQ f g) q1
 |_=>exact(show False from q1).elim
theorem WT {E:XK}{p:Pos}(hC:bX C C)(hg:Gl X "range")(hm:X.mg "range" = none)(ha:PA X [a] (mN X.K (bG C sub E [x])))(hs:starEach [a] X.env=[(false,eval a X.env)]):
 PI X tg (.Call (.Name "range" p) [a] [] pos) (EI X.K fun σ st M=>bG C sub E [x] σ st fun ds aC=>gN (some .range) ds aC fun as xs=>M as xs aC) :=
 (RD hg hm ha hs).imp fun σ H R ⟨σd,st,M,r,ok,q,hq⟩=>by
 refine⟨σd,st,_,r,ok,sC [x] hC q,fun vs H1 ⟨ds,aC,s1,aQ,r1,l1,q1⟩=>?_⟩
 match ds,l1,q1 with
 |[d],_,q1 =>
  obtain⟨v,rfl,rd⟩:=r1.one
  have q1:gN (some .range) [d] aC fun as xs=>M as xs aC:=q1
  cases d with
  |int j =>
  cases rd.int_inv
  exact⟨j,rfl,q1.1.1,q1.1.2,hq _ _ ⟨_,_,aC,s1,aQ,RX 0 _,q1.2⟩⟩
  |_=>exact(show False from q1).elim
theorem U4 {k:Option IK}{aD:List Ex}{iter:Expr}{t:Tg}{bs:List Stmt}{bx:List Sx}(hC:bX C C)(hp:PassesOwn (model X.prog X.w) X.A X.env X.xe)(hc:X.calm=true)
 (hi:PI X tg iter (EI X.K fun σ st M=>bG C sub EF aD σ st fun ds aC=>gN k ds aC fun as xs=>M as xs aC))(hg:PG X tg (M4 X.K (fX C sub EF t)))(hb:lF X bs (jB X.K (cN C sub bx)))
 (hs:∀ x,foldedSetIterable iter X.env x=pure x):PS X (.For tg iter bs [] pos) (jB X.K (wpS C sub (.gQ t k aD bx))) :=
 (Al hp hc hi hg hb hs).imp fun DD σ H ⟨σd,st,P,r,ok,q,h⟩=>by
 simp only[wpS]at q
 refine⟨σd,st,_,r,ok,Hg hC h.ex q,fun J H1 ⟨as,xs,aC,s1,aQ,j,q1⟩=>?_⟩
 refine⟨fun i m σ' H'=>∃ eH aA,dQ X.K H' eH σ'/\Step H1 aC H' aA/\aS X.K aA H'/\m+i=xs.length/\rY (same as aC) (fun(x:L3.D) next σ st=>fX C sub (fun c aA=>P.ex c σ aA) t x σ st fun σ' aA=>cN C sub bx { P with nx:=next,ct:=next,bk:=P.nx } σ' aA) P.nx (xs.drop i) eH aA,⟨xs.length,σd,aC,r.step ok s1,.refl,aQ,by omega,by simpa using q1⟩,fun i m σ2 H2 ⟨uC,aH,r2,s2,cH,e2,q2⟩=>?_⟩
 by_cases hi':i<xs.length
 ·have ed:xs.drop i=xs[i]::xs.drop (i+1):=List.drop_eq_getElem_cons hi'
  rw[ed]at q2
  obtain⟨g2,q2⟩:=q2
  refine .inr ⟨j.go i H2 aH xs[i] s2 cH g2 (List.getElem?_eq_getElem hi'),fun σ' H'=>∃ eH aA,dQ X.K H' eH σ'/\Step H1 aC H' aA/\aS X.K aA H'/\rY (same as aC) (fun(x:L3.D) next σ st=>fX C sub (fun c aA=>P.ex c σ aA) t x σ st fun σ' aA=>cN C sub bx { P with nx:=next,ct:=next,bk:=P.nx } σ' aA) P.nx (xs.drop (i+1)) eH aA,
  fun σ' H' ⟨eH,aA,r',s',gD,q'⟩=>⟨m-1,by omega,eH,aA,r',s',gD,by omega,q'⟩,fun v H3 y3=>?_⟩
  obtain⟨s3,vS,r3⟩:=j.yld i H2 aH xs[i] v H3 s2 cH g2 (List.getElem?_eq_getElem hi') y3
  refine⟨xs[i],uC,aH,_,r3,r2.step cH s3,vS,vW hC (fun c st z=>h.ex _ _ _ z) (fun _ _ z=>z) t q2,fun σ4 H4 σd4 cJ r4 s4 VS q4=>?_⟩
  refine⟨σd4,cJ,_,r4,VS,q4,⟨fun σ' H' eH aA r' s' gD q'=>⟨eH,aA,r',((s2.trans s3).trans s4).trans s',gD,q'⟩,fun v H' z=>h.rt _ _ (.after (((s1.trans s2).trans s3).trans s4) z),
  fun σ' H' eH aA r' s' gD q'=>h.nx _ _ _ _ r' ((((s1.trans s2).trans s3).trans s4).trans s') gD q',fun σ' H' eH aA r' s' gD q'=>⟨eH,aA,r',((s2.trans s3).trans s4).trans s',gD,q'⟩,h.ex⟩⟩
 ·have ed:xs.drop i=[]:=List.drop_eq_nil_of_le (by omega)
  rw[ed]at q2
  exact .inl ⟨j.stop i H2 aH s2 cH q2.1 (by omega),h.nx _ _ _ _ r2 (s1.trans s2) cH q2.2⟩
end
end L3
end
section
namespace L3
open PySem PySem.Spec PyProof.Rows L2
section
variable {X:Cx}{C:bO}{sub:Nat->Nat->Bool}{a b c e o i tg:Expr}{x y z:Ex}{pos:Pos}
def lL (is:List Nat)(vs:List V)(σ:L2.St):L2.St:=(is.zip vs).foldl (fun σ p=>σ.set p.1 (some p.2)) σ
def uR (is:List Nat):GZ:=fun vs σ H Q=>vs.length=is.length/\Q (lL is vs σ) H
theorem ZO:C2 X [] (uR []):=fun pins s σ H vs us Q I r h=>by
 have:vs=[]:=List.length_eq_zero_iff.mp h.1
 subst this
 exact WO pins s σ H [] us Q I r ⟨rfl,h.2⟩
theorem XJ {es:List Expr}{i:Nat}{is:List Nat}(h1:PG X e (DF i))(h2:C2 X es (uR is))(hs:(assignEach (e::es) X.env).map (·.2)=assign e X.env::(assignEach es X.env).map (·.2)):C2 X (e::es) (uR (i::is)):=fun pins s σ H vs us Q I r h=>by
 obtain⟨hl,h⟩:=h
 cases vs with
 |nil=>simp at hl
 |cons v vs=>exact UJ h1 h2 hs pins s σ H (v::vs) us Q I r ⟨v,vs,rfl,by simpa using hl,h⟩
theorem dQ.cI {K:PySem.W.Frag}{H:Hp}:∀(is:List Nat){ds:List D}{vs:List V}{σd:St}{σ:L2.St},dQ K H σd σ->aL K H ds vs->dQ K H ((is.zip ds).foldl (fun σ p=>σ.set p.1 (some p.2)) σd) (lL is vs σ)
 |[],_,_,_,_,r,_=>by simpa [lL]using r
 |_::_,_,_,_,_,r,.nil=>by simpa [lL]using r
 |i::is,_,_,_,_,r,.cons h t=>by
  have:=dQ.cI is (r.set i h) t
  simpa [lL]using this
theorem Lf {E:XK}{es:List Expr}{k:Nat}{is:List Nat}(hc:X.calm=true)(h:C2 X es (uR is))(hn:(assignEach es X.env).length=is.length)(fF:(assignEach es X.env).findIdx? (·.1)=none):
 PG X (.Tuple es k pos) (M4 X.K (fX C sub E (.tp is))) :=
 (QM hc h hn fF).imp fun v σ H Q ⟨d,σd,st,M,rd,r,ok,q,hq⟩=>by
 simp only[fX]at q
 cases d with
 |tup ds0 =>
  rw[II]at q
  obtain⟨a,vs,rfl,f,g⟩:=rd.bS
  exact⟨a,vs,rfl,f,by rw[<-g.length];exact q.1,by rw[<-g.length];exact q.1,hq _ _ _ _ (r.cI is g) .refl ok q.2⟩
 |_=>exact(show False by cases is<;>exact q).elim
theorem Np {E:XK}(ho:PE X o (cB X.K (aG C sub E x)))(hi:PE X i (cB X.K (aG C sub E y)))
 (ha:∀ v,assign (.Subscript o i pos) X.env v=(do
  let ov <-holding [v] (eval o X.env)
  let iv <-holding [v,ov] (eval i X.env)
  standAt pos
  holding [v,ov,iv] (setItem ov iv v)
  release [v,ov,iv] [])):PG X (.Subscript o i pos) (M4 X.K (fX C sub E (.ix x y))) :=
 (Ah ho hi set_list ha).imp fun v σ H Q ⟨d,σd,st,M,rd,r,ok,q,hq⟩=>by
 simp only[fX]at q
 refine⟨σd,st,_,r,ok,q,fun v1 H1 ⟨d1,aC,s1,aQ,r1,q1⟩=>?_⟩
 refine⟨σd,aC,_,r.step ok s1,aQ,q1,fun v2 H2 ⟨d2,aH,s2,cH,r2,q2⟩=>?_⟩
 have r1':=r1.step aQ s2
 have rd':=(rd.step ok s1).step aQ s2
 have q2:CF d1 d2 d aH fun aV=>M σd aV:=q2
 cases d1<;>first|exact(show False from q2).elim|skip
 cases d2<;>first|exact(show False from q2).elim|skip
 cases r1'.cQ
 cases r2.int_inv
 rw[MM]at q2
 obtain⟨xs,e,q2⟩:=eF q2
 obtain⟨j,ej,q2⟩:=eO q2
 obtain⟨vs,g1,g2⟩:=cH.lst e
 refine⟨_,vs,_,j,rfl,rfl,g1,by rw[<-g2.length];exact ej,?_⟩
 have s3:=mJ (H:=H2) (st:=aH) (o:=.lst (vs.set j v)) (m':=.lst (xs.set j d)) e
 exact hq _ _ _ _ (((r.step ok s1).step aQ s2).step cH s3) ((s1.trans s2).trans s3) (cH.set e (g2.set rd' j)) q2
end
end L3
end
section
namespace L3
open PySem PySem.Spec PyProof.Rows L2
def nD (cells:List (Str×Addr)):List (Str×NameKind)->List (Str×Addr)->List (Str×Addr)
 |[],cs=>cs
 |(n,k)::r,cs=>nD cells r (if k == .free then(n,(cells.lookup n).getD 0)::cs else cs)
theorem DN {env:Env}:∀(names:List (Str×NameKind))(cs:List (Str×Addr)),(∀ p∈names,p.2=.free->∃ c,env.cells.lookup p.1=some c) ->
  (forIn names cs fun(p:Str×NameKind)(cs:List (Str×Addr))=>(if p.2 == .free then do let c <-cellOf env p.1;pure (ForInStep.yield ((p.1,c)::cs))else pure (ForInStep.yield cs):Sem (ForInStep (List (Str×Addr)))))=pure (nD env.cells names cs)
 |[],cs,_=>by simp [nD]
 |(n,k)::r,cs,h=>by
  have ih:=fun cs=>DN r cs fun p hp=>h p (List.mem_cons_of_mem _ hp)
  simp only[List.forIn_cons,nD]
  cases e:(k==NameKind.free)with
  |true =>
   obtain⟨c,hc⟩:=h (n,k) (List.mem_cons_self ..) (by simpa using e)
   have hc:env.cells.lookup n=some c:=hc
   simp only[if_true,cellOf,hc,Option.getD_some,pure_bind]
   exact ih _
  |false =>
   simp only[Bool.false_eq_true,if_false,pure_bind]
   exact ih _
theorem yJ {env:Env}{scope:Scope}(h:∀ p∈scope.names,p.2=.free->∃ c,env.cells.lookup p.1=some c):closureFor scope env=pure (nD env.cells scope.names []):=by
 rw[<-DN scope.names [] h]
 unfold closureFor
 simp only[bind_pure]
theorem mG {cells:List (Str×Addr)}:∀(names:List (Str×NameKind))(cs:List (Str×Addr)){x:Str}{c:Addr},(∀ p∈names,p.2=.free->∃ c,cells.lookup p.1=some c)->(∀ x c,cs.lookup x=some c->cells.lookup x=some c)->(nD cells names cs).lookup x=some c->cells.lookup x=some c
 |[],cs,x,c,_,h,e=>h x c e
 |(n,k)::r,cs,x,c,hn,h,e=>by
  simp only[nD]at e
  refine mG r _ (fun p hp=>hn p (List.mem_cons_of_mem _ hp)) (fun y d ed=>?_) e
  split at ed
  ·rename_i hk
   obtain⟨c',hc'⟩:=hn (n,k) (List.mem_cons_self ..) (by simpa using hk)
   have hc':cells.lookup n=some c':=hc'
   rw[List.lookup_cons]at ed
   split at ed
   ·rename_i q
    have q:y=n:=by simpa using q
    subst q
    rw[hc']at ed ⊢
    simpa using ed
   ·exact h y d ed
  ·exact h y d ed
theorem GO {cells:List (Str×Addr)}:∀(names:List (Str×NameKind))(cs:List (Str×Addr)){x:Str},(∃ c,cs.lookup x=some c)->∃ c,(nD cells names cs).lookup x=some c
 |[],cs,x,h=>h
 |(n,k)::r,cs,x,h=>by
  simp only[nD]
  refine GO r _ ?_
  split
  ·rw[List.lookup_cons]
   split
   ·exact⟨_,rfl⟩
   ·exact h
  ·exact h
theorem CL {cells:List (Str×Addr)}:∀(names:List (Str×NameKind))(cs:List (Str×Addr)){x:Str},names.lookup x=some .free->∃ c,(nD cells names cs).lookup x=some c
 |[],cs,x,h=>by simp at h
 |(n,k)::r,cs,x,h=>by
  simp only[nD]
  rw[List.lookup_cons]at h
  split at h
  ·rename_i q
   cases h
   refine GO r _ ?_
   simp only[beq_self_eq_true,if_true]
   rw[List.lookup_cons,q]
   exact⟨_,rfl⟩
  ·exact CL r _ h
theorem sE {env:Env}:∀{names:List (Str×NameKind)}{x:Str}{k:NameKind},(names.map fun(n,k)=>if(k==NameKind.free&&env.scope.kind == .function&&env.kindOf n==some .cell)then(n,NameKind.cell)else(n,k)).lookup x=some k->∃ k',names.lookup x=some k'/\(k'=k∨(k'=.free/\k=.cell))
 |[],x,k,h=>by simp at h
 |(n,k0)::r,x,k,h=>by
  simp only[List.map_cons]at h
  cases q:(x==n)with
  |true =>
   refine⟨k0,by simp only[List.lookup_cons,q],?_⟩
   by_cases hc:(k0==NameKind.free&&env.scope.kind == .function&&env.kindOf n==some .cell)=true
   ·simp only[hc,if_true,List.lookup_cons,q]at h
    cases h
    simp only[Bool.and_eq_true]at hc
    exact .inr ⟨by simpa using hc.1.1,rfl⟩
   ·simp only[hc,if_false,List.lookup_cons,q,Bool.false_eq_true]at h
    cases h
    exact .inl rfl
  |false =>
   simp only[List.lookup_cons,q]
   refine sE (env:=env) (names:=r) ?_
   by_cases hc:(k0==NameKind.free&&env.scope.kind == .function&&env.kindOf n==some .cell)=true
   ·simp only[hc,if_true,List.lookup_cons,q]at h
    exact h
   ·simp only[hc,if_false,List.lookup_cons,q,Bool.false_eq_true]at h
    exact h
theorem rR {env:Env}:∀{names:List (Str×NameKind)}{x:Str},names.lookup x=some .free->(names.map fun(n,k)=>if(k==NameKind.free&&env.scope.kind == .function&&env.kindOf n==some .cell)then(n,NameKind.cell)else(n,k)).lookup x=some .cell∨(names.map fun(n,k)=>if(k==NameKind.free&&env.scope.kind == .function&&env.kindOf n==some .cell)then(n,NameKind.cell)else(n,k)).lookup x=some .free
 |[],x,h=>by simp at h
 |(n,k0)::r,x,h=>by
  simp only[List.map_cons]
  rw[List.lookup_cons]at h
  split at h
  ·rename_i q;cases h
   split
   ·exact .inl (by rw[List.lookup_cons,q])
   ·exact .inr (by rw[List.lookup_cons,q])
  ·rename_i q
   split
   ·rw[List.lookup_cons,q];exact rR h
   ·rw[List.lookup_cons,q];exact rR h
structure lY (X:Cx)(scope:Scope)(cn:List Str)(bH:List Nat):Prop where
 kind:scope.kind=.function
 nocell:∀ y∈scope.names,y.2≠.cell
 names:∀ y∈scope.names,y.2=.local->scope.names.lookup y.1=some .local
 free:∀ y∈scope.names,y.2=.free->X.env.kindOf y.1=some .cell∨X.env.kindOf y.1=some .free
 len:cn.length=bH.length
 cap:∀(j:Nat)(y:Str),cn[j]? = some y->scope.names.lookup y=some .free/\∃ i,bH[j]? = some i/\X.N[i]? = some y/\(X.env.kindOf y=some .cell∨X.env.kindOf y=some .free)
def lV (X:Cx)(scope:Scope)(own cn:List Str)(fp:List Addr)(s:Shared)(H:Hp)(Ca:Addr):Cx :=
 { X with N:=own++cn,s₀:=s,H₀:=H,env:=compEnvC scope (nD X.env.cells scope.names []) Ca X.env,outer:=X.stack,ex:=fp,fn:=fun _=>false,calm:=true,pn:=[],xe:=fun _ _=>False }
def pY (bH:List Nat)(σ:L2.St):L2.St:=bH.map fun i=>(σ[i]?).getD none
section
variable {X:Cx}{scope:Scope}{own cn:List Str}{bH:List Nat}{fp:List Addr}{pins:List (Addr×Obj)}{σ:L2.St}{H:Hp}{s:Shared}
theorem lY.cells (S:lY X scope cn bH)(ok:X.Ok):∀ p∈scope.names,p.2=.free->∃ c,X.env.cells.lookup p.1=some c:=fun p hp e=>ok.has p.1 (S.free p hp e)
theorem SA (S:lY X scope cn bH)(hc:X.calm=true)(I:Inv X pins σ H s)(hf:∀ b∈fp,nP X pins H b)(dU:∀ b∈fp,b<s.heap.objs.size){Ca:Addr}(hC:s.heap.objs.size<=Ca):(lV X scope own cn fp s H Ca).Ok where
 mod:=I.ok.mod
 kind:=S.kind
 glob:=I.ok.glob
 blt:=I.ok.blt
 above:=hC
 inj:=fun x y c h1 h2=>I.ok.inj x y c (mG _ [] (S.cells I.ok) (fun _ _ h=>by simp at h) h1) (mG _ [] (S.cells I.ok) (fun _ _ h=>by simp at h) h2)
 has:=fun x h=>by
  refine CL _ [] ?_
  rcases h with h|h
  ·obtain⟨k,e,r⟩:=sE (env:=X.env) (show List.lookup x (List.map _ scope.names)=_ from h)
   rcases r with rfl|⟨rfl,_⟩
   ·exact absurd rfl (S.nocell _ (PySem.mem_of_lookup e))
   ·exact e
  ·obtain⟨k,e,r⟩:=sE (env:=X.env) (show List.lookup x (List.map _ scope.names)=_ from h)
   rcases r with rfl|⟨rfl,r⟩
   ·exact e
   ·cases r
 cab:=fun x c h _=>by cases h
 hd:=fun _=>I.ok.hd hc
 frames:=I.ok.frames
 stk:=.inl rfl
 exf:=fun b hb=>⟨fun e=>absurd (dU b hb) (by rw[e];exact Nat.not_lt.mpr hC),fun x c h=>(hf b hb).2.2.2.2.1 x c (mG _ [] (S.cells I.ok) (fun _ _ h=>by simp at h) h)⟩
 bs:=I.bs
 bsz:=Nat.le_trans I.ok.bsz I.sz
 noex:=fun b o e hb=>by
  rcases(hf b hb).2.2.2.1 with z|z
  ·exact I.ok.noex b o e z
  ·exact absurd (Nat.lt_of_lt_of_le (Heap.lt_size e) (Nat.le_trans I.ok.bsz z)) (Nat.lt_irrefl _)
 exfs:=fun b hb z=>by
  rcases List.mem_cons.mp (I.JX b z)with e|e
  ·exact(hf b hb).2.1 e
  ·exact(hf b hb).2.2.1 e
 oO:=I.stack
 frf:=I.MI
theorem LU (S:lY X scope cn bH)(hc:X.calm=true)(I:Inv X pins σ H s)(hf:∀ b∈fp,nP X pins H b)(dU:∀ b∈fp,b<s.heap.objs.size){Ca:Addr}(hC:s.heap.objs.size<=Ca){h1:Heap}{tk:Nat}
  {m:Str->Option Value}(hn:h1.Ns Ca m)(hk:∀ b o,s.heap.get? b=some o->h1.get? b=some o):
  Inv (lV X scope own cn fp s H Ca) [] (List.replicate own.length none++pY bH σ) H { s with heap:=h1,toks:=tk } where
 ok:=SA S hc I hf dU hC
 os:=rfl
 bare:=I.bare
 base:=Un.kept hk
 loc:=⟨m,hn,fun i y v h1' h2 h3=>by
  have hi:own.length<=i:=by
   refine Nat.le_of_not_lt fun hi=>?_
   rw[List.getElem?_append_left (by simpa using hi),List.getElem?_replicate]at h2
   split at h2<;>cases h2
  rw[List.getElem?_append_right (by simpa using hi)]at h2
  have h1':(own++cn)[i]? = some y:=h1'
  rw[List.getElem?_append_right hi]at h1'
  simp only[List.length_replicate,pY,List.getElem?_map,Option.map_eq_some_iff]at h2
  obtain⟨k,e1,e2⟩:=h2
  obtain⟨hfr,i',e3,e4,e5⟩:=S.cap _ y h1'
  rw[e1]at e3;cases e3
  cases e6:σ[k]? with
  |none=>rw[e6]at e2;cases e2
  |some u =>
   rw[e6]at e2
   have e2:u=some v:=e2
   subst e2
   obtain⟨m0,hn0,hl0⟩:=I.loc
   obtain⟨w,rw',lk⟩:=hl0 k y v e4 e6 (e5.elim (fun z=>.inr (.inl z)) fun z=>.inr (.inr z))
   refine⟨w,rw',?_⟩
   rcases lk with⟨z,_⟩|⟨_,c,ec,⟨oc,hoc,hdc⟩⟩
   ·rcases e5 with e5|e5
    ·rw[e5]at z;cases z
    ·rw[e5]at z;cases z
   ·obtain⟨c',ec'⟩:=CL (cells:=X.env.cells) scope.names [] hfr
    have:=mG _ [] (S.cells I.ok) (fun _ _ h=>by simp at h) ec'
    rw[ec]at this;cases this
    exact .inr ⟨rR (env:=X.env) hfr,c,ec',⟨oc,hk _ _ hoc,hdc⟩⟩⟩
 cell:=fun x c h=>by
  obtain⟨v,o,ho,hd⟩:=I.cell x c (mG _ [] (S.cells I.ok) (fun _ _ h=>by simp at h) h)
  exact⟨v,o,hk _ _ ho,hd⟩
 free:=I.cG.fresh hC
 mE:=fun x c h=>I.mE x c (mG _ [] (S.cells I.ok) (fun _ _ h=>by simp at h) h)
 pin:=fun p hp=>absurd (show p∈([]:List (Addr×Obj))from hp) (by simp)
 cG:=I.cG.kept hk
 len:=by
  show(List.replicate own.length none++pY bH σ).length=(own++cn).length
  simp [pY,S.len]
end
end L3
end
section
namespace L3
open PySem PySem.Spec PyProof.Rows L2
def AU (ifs:List Expr)(env:Env):Sem Bool:=forIn ifs true fun c r=>if r=true then do let ok <-isTrue c env (eval c env);pure (ForInStep.yield ok)else pure (ForInStep.yield r)
def GF (X:Cx)(ifs:List Expr)(t:L2.TT):Prop :=
 ∀(pins:List (Addr×Obj))(s:Shared)(σ:L2.St)(H:Hp)(Q:Bool->Hp->Prop),Inv X pins σ H s->t σ H Q->wpAny (model X.prog X.w) X.A (AU ifs X.env) (TP X pins σ Q) X.xe s
def AB (K:PySem.W.Frag)(te:St->aB->(Bool->aB->Prop)->Prop):L2.TT:=fun σ H Q=>∃(σd:St)(st:aB)(R:Bool->aB->Prop),dQ K H σd σ/\aS K st H/\te σd st R /\
 ∀(b:Bool) H',(∃ aA,Step H st H' aA/\aS K aA H'/\R b aA)->Q b H'
section
variable {X:Cx}{C:bO}{sub:Nat->Nat->Bool}{E:XK}{a b c e o i tg:Expr}{x y z:Ex}{pos:Pos}
theorem B3 (env:Env):∀(ifs:List Expr),(forIn ifs false fun c r=>if r=true then do let ok <-isTrue c env (eval c env);pure (ForInStep.yield ok)else pure (ForInStep.yield r):Sem Bool)=pure false
 |[]=>by simp
 |c::r=>by
  simp only[List.forIn_cons,Bool.false_eq_true,if_false,pure_bind]
  exact B3 env r
theorem Co:GF X [] (AB X.K (fH C sub E [])):=fun pins s σ H Q I ⟨σd,st,R,r,ok,q,hq⟩=>by
 simp only[fH]at q
 unfold AU
 simp only[List.forIn_nil]
 exact wpAny_pure ⟨H,I,hq true H ⟨st,.refl,ok,q⟩⟩
theorem W9 {es:List Expr}{xs:List Ex}(h:PT X e (jG X.K (aG C sub E x)))(hs:GF X es (AB X.K (fH C sub E xs))):GF X (e::es) (AB X.K (fH C sub E (x::xs))):=fun pins s σ H Q I ⟨σd,st,R,r,ok,q,hq⟩=>by
 simp only[fH]at q
 unfold AU
 simp only[List.forIn_cons,if_true]
 refine wpAny_bind (wpAny_bind (bE (h pins s σ H _ I ⟨σd,st,fun k aA=>if k=true then fH C sub E xs σd aA R else R false aA,r,ok,q,fun b H' z=>z⟩) fun k s1 ⟨H1,I1,aC,dJ,aQ,q1⟩=>wpAny_pure ?_))
 cases k with
 |true =>
 have q1:fH C sub E xs σd aC R:=q1
 refine hs pins s1 σ H1 _ I1 ⟨σd,aC,R,r.step ok dJ,aQ,q1,fun b H' ⟨aA,s',gD,q'⟩=>hq b H' ⟨aA,dJ.trans s',gD,q'⟩⟩
 |false =>
 show wpAny _ _ (forIn es false _) _ _ _
 rw[B3]
 exact wpAny_pure ⟨H1,I1,hq false H1 ⟨aC,dJ,aQ,q1⟩⟩
end
theorem J1 {prog:Program}{w:World}{A:Around}{s:Shared}{R:Result->Shared->Prop}{elt target iter:Expr}{ifs:List Expr}{scope:Scope}{pos:Pos}{it acc:Value}{env:Env}(I:Nat->Shared->Prop)
 (turn:∀ n s,I n s->wpAny (model prog w) A (pyNext it) (fun r s₁=>match r with
  |none=>R (.ok .next) s₁
  |some v=>wpAny (model prog w) A (letOwnedTupleGo target it v) (fun _ s₁'=>wpAny (model prog w) A (assign target env v) (fun _ s₂ =>
   wpAny (model prog w) A (AU ifs env) (fun ok s₃ =>
   if ok=true then wpAny (model prog w) A (eval elt env) (fun x s₄ =>
    wpAny (model prog w) A (call (.builtin "list.append") [acc,x]) (fun _ s₅=>∃ m,m<n/\I m s₅) (fun _ _=>False) s₄) (fun _ _=>False) s₃
   else ∃ m,m<n/\I m s₃) (fun _ _=>False) s₂) (fun _ _=>False) s₁') (fun _ _=>False) s₁) (fun _ _=>False) s)
 (n:Nat)(h:I n s):
 codeAny (model prog w) A (.compLoop (.ListComp elt [⟨target,iter,ifs,0⟩] scope pos) 0 it acc env) R s:=by
 refine codeAny_loop rfl I (fun n s hI=>?_) n h
 show wpAny _ A ((compTurn (.ListComp elt [⟨target,iter,ifs,0⟩] scope pos) 0 it acc env).onRaise (fun x=>do noteFrame x env;theTreesLotGoes x)) _ _ s
 refine wpAny_noted ?_
 rw[compTurn_list]
 refine wpAny_bind (wpAny_standAt (wpAny_bind (wpAny_mono (turn n s hI) (fun r s₁ h₁=>?_) fun _ _ h'=>h'.elim)))
 cases r with
 |none=>exact wpAny_pure h₁
 |some v =>
 refine wpAny_bind (wpAny_mono h₁ (fun _ s₁' h₁'=>?_) fun _ _ h'=>h'.elim)
 refine wpAny_bind (wpAny_mono h₁' (fun _ s₂ h₂=>wpAny_bind (wpAny_mono h₂ (fun ok s₃ h₃=>?_) fun _ _ h'=>h'.elim)) fun _ _ h'=>h'.elim)
 cases ok with
 |false=>exact wpAny_pure ⟨rfl,h₃⟩
 |true =>
  exact wpAny_bind (wpAny_bind (wpAny_mono h₃ (fun x s₄ h₄=>wpAny_bind (wpAny_mono h₄ (fun _ s₅ h₅=>wpAny_pure (wpAny_pure ⟨rfl,h₅⟩)) fun _ _ h'=>h'.elim)) fun _ _ h'=>h'.elim))
def MF (K:PySem.W.Frag):Bool->Nat->TG
 |true,_=>DF 0
 |false,n=>Z6 K n (uR (List.range n))
theorem DV:∀(is:List Nat)(vs:List V)(σ:L2.St)(n i:Nat),(∀ j∈is,j<n)->n<=i->(lL is vs σ)[i]? = σ[i]?
 |[],_,_,_,_,_,_=>by simp [lL]
 |_::_,[],_,_,_,_,_=>by simp [lL]
 |j::is,v::vs,σ,n,i,h,hi=>by
  have:=DV is vs (σ.set j (some v)) n i (fun k hk=>h k (List.mem_cons_of_mem _ hk)) hi
  simp only[lL,List.zip_cons_cons,List.foldl_cons]at this ⊢
  rw[this]
  have:=h j (List.mem_cons_self ..)
  rw[List.getElem?_set_ne (by omega)]
theorem GU:∀(is:List Nat)(vs:List V)(σ:L2.St),(lL is vs σ).length=σ.length
 |[],_,_=>by simp [lL]
 |_::_,[],_=>by simp [lL]
 |j::is,v::vs,σ=>by
  have:=GU is vs (σ.set j (some v))
  simp only[lL,List.zip_cons_cons,List.foldl_cons,List.length_set]at this ⊢
  exact this
theorem OD {K:PySem.W.Frag}{H:Hp}{one:Bool}{n:Nat}{d:D}{v:V}{σd:St}{σ:L2.St}{P:St->Prop}{Q:L2.St->Hp->Prop}(hn:one=true->n=1)(h:kM one (List.range n) d σd P)(r:dQ K H σd σ)(rd:Rep K H d v)
 (hQ:∀ σ2 uC,dQ K H uC σ2->P uC->(∀ i,n<=i->σ2[i]? = σ[i]?)->σ2.length=σ.length->Q σ2 H):MF K one n v σ H Q:=by
 cases one with
 |true =>
 cases hn rfl
 have h:P (σd.set 0 (some d)):=h
 refine hQ _ _ (r.set 0 rd) h (fun i hi=>?_) (by simp)
 rw[List.getElem?_set_ne (by omega)]
 |false =>
 cases d with
 |tup ds =>
  rw[II]at h
  obtain⟨a,vs,rfl,f,g⟩:=rd.bS
  have hl:vs.length=n:=by rw[<-g.length,h.1];simp
  refine⟨a,vs,rfl,f,hl,by simp [hl],hQ _ _ (r.cI _ g) h.2 (fun i hi=>DV _ _ _ n i (fun j hj=>by simpa using hj) hi) (GU _ _ _)⟩
 |_=>exact(show False by cases n<;>exact h).elim
section
variable {K:PySem.W.Frag}{H:Hp}{st:aB}{Da:Addr}{ys zs:List V}
theorem YJ (hD:H Da=some (.lst ys)){a:Addr}{vs:List V}(h:eU K H a vs):eU K (upd H Da (.lst zs)) a vs:=by
 rcases h with(h|⟨o,h⟩)|h
 ·exact .inl (.inl (by rw[bZ (OA h hD (by simp))];exact h))
 ·exact .inl (.inr ⟨o,by rw[bZ (OA h hD (by simp))];exact h⟩)
 ·exact .inr h
theorem TZ (hD:H Da=some (.lst ys)){a:Addr}{vs:List V}(h:sH K H a vs):sH K (upd H Da (.lst zs)) a vs:=by
 rcases h with⟨o,h⟩|h
 ·exact .inl ⟨o,by rw[bZ (OA h hD (by simp))];exact h⟩
 ·exact .inr h
mutual
theorem Rep.alt (hD:H Da=some (.lst ys)):∀{d:D}{v:V},Rep K H d v->Rep K (upd H Da (.lst zs)) d v
 |_,_,.non=>.non
 |_,_,.bl b=>.bl b
 |_,_,.int i=>.int i
 |_,_,.str x=>.str x
 |_,_,.tup h r=>.tup (YJ hD h) (aL.alt hD r)
 |_,_,.ref a=>.ref a
 |_,_,.bP h r=>.bP (TZ hD h) (aL.alt hD r)
 |_,_,.dB h=>.dB h
theorem aL.alt (hD:H Da=some (.lst ys)):∀{ds:List D}{vs:List V},aL K H ds vs->aL K (upd H Da (.lst zs)) ds vs
 |_,_,.nil=>.nil
 |_,_,.cons h r=>.cons (Rep.alt hD h) (aL.alt hD r)
end
theorem aS.alt (ok:aS K st H)(hD:H Da=some (.lst ys))(hn:st Da=none):aS K st (upd H Da (.lst zs)):=fun a o e=>by
 have ne:a≠Da:=fun z=>by rw[z,hn]at e;cases e
 have:=ok a o e
 cases o with
 |lst ds =>
 obtain⟨vs,q,r⟩:=this
 exact⟨vs,by rw[bZ ne];exact q,r.alt hD⟩
 |dic _ _=>exact this.elim
 |ins c fs =>
 obtain⟨C,dx,ws,q,q2,q3,r⟩:=this
 exact⟨C,dx,ws,q,by rw[bZ ne];exact q2,q3,r.alt hD⟩
 |tab ks vs =>
 obtain⟨xs,ws,q,q0,q1,q2,q3,q4,q5,r⟩:=this
 exact⟨xs,ws,by rw[bZ ne];exact q,q0,q1,q2,q3.alt hD,q4,q5,r.alt hD⟩
theorem aS.take (ok:aS K st H)(hD:H Da=some (.lst ys)){ds:List D}(r:aL K H ds ys):aS K (put st Da (.lst ds)) H:=fun a o e=>by
 by_cases ha:a=Da
 ·subst ha
  rw[aP]at e;cases e
  exact⟨ys,hD,r⟩
 ·rw[aJ ha]at e
  exact ok a o e
end
theorem SD {K:PySem.W.Frag}{H:Hp}{σd:St}{σ:L2.St}(r:dQ K H σd σ)(n:Nat)(bH:List Nat):dQ K H (List.replicate n none++bH.map fun i=>(σd[i]?).getD none) (List.replicate n none++pY bH σ):=by
 refine⟨by simp [pY],fun i d e=>?_⟩
 by_cases hi:i<n
 ·rw[List.getElem?_append_left (by simpa using hi),List.getElem?_replicate]at e
  split at e<;>cases e
 ·rw[List.getElem?_append_right (by simpa using hi)]at e ⊢
  simp only[List.length_replicate,List.getElem?_map,Option.map_eq_some_iff]at e ⊢
  obtain⟨k,e1,e2⟩:=e
  cases q:σd[k]? with
  |none=>rw[q]at e2;cases e2
  |some u =>
   rw[q]at e2
   have e2:u=some d:=e2
   subst e2
   obtain⟨v,h1,h2⟩:=r.2 k d q
   refine⟨v,?_,h2⟩
   simp only[pY,List.getElem?_map,Option.map_eq_some_iff]
   exact⟨k,e1,by rw[h1];rfl⟩
end L3
end
section
namespace L3
open PySem PySem.Spec PyProof.Rows L2
theorem X1 {P:Program}{w:World}{H:Hp}{h h':Heap}{Ca:Addr}(ok:jD P w H h)(hn:H Ca=none)(hs:Heap.SameBut Ca h h'):jD P w H h':=fun b u e=>by
 refine(ok b u e).CD (fun c v hc q=>hs.extBut c v ?_ q) (fun _ q=>q) fun _ _ q=>q
 rcases hc with z|z
 ·rw[z];exact fun y=>by rw[y,hn]at e;cases e
 ·exact fun y=>by rw[y,hn]at z;cases z
section
variable {X:Cx}{C:bO}{sub:Nat->Nat->Bool}{elt iter tg:Expr}{ifs:List Expr}{xe:Ex}{mO aD:List Ex}{pos:Pos}{scope:Scope}{own cn:List Str}{bH:List Nat}{one:Bool}{k:Option IK}
theorem G7 (hC:bX C C)(S:lY X scope cn bH)(hc:X.calm=true)(oU:one=true->own.length=1)
  (hg:∀ fp s H Ca,PG (lV X scope own cn fp s H Ca) tg (MF X.K one own.length))
  (hts:∀ fp s H Ca,GF (lV X scope own cn fp s H Ca) ifs (AB X.K (fH C sub EF mO)))
  (he:∀ fp s H Ca,PE (lV X scope own cn fp s H Ca) elt (cB X.K (aG C sub EF xe)))
  {use:Option (Value->Sem Unit)}{Qf:Value->Shared->Prop}
  {pins:List (Addr×Obj)}{s₂:Shared}{σ:L2.St}{σd:St}{H1:Hp}{aC:aB}{J:It}{fp:List Addr}{it:Addr}{tn:Nat->Heap->Prop}{as:List Nat}{xs:List D}{R:List D->aB->Prop}
  (I2:Inv X pins σ H1 s₂)(T:Turn X.prog X.w X.K tg J fp it tn)(t0:tn 0 s₂.heap)(f2:∀ b∈fp,nP X pins H1 b)(r:dQ X.K H1 σd σ)(aQ:aS X.K aC H1)(j:B1 X.K J as xs H1 aC)
  (q:jS (same as aC) (fun x aH K=>kM one (List.range own.length) x (List.replicate own.length none++bH.map fun i=>(σd[i]?).getD none) fun σ' =>
    fH C sub EF mO σ' aH fun b aV=>if b=true then aG C sub EF xe σ' aV fun d cJ=>K (some d) cJ else K none aV) xs [] aC R)
  (fin:∀(Da Ca:Addr)(H':Hp)(aA:aB)(ds:List D)(m:Str->Option Value)(s':Shared),s'.heap.Ns Ca m->(∀ h',Heap.SameBut Ca s'.heap h'->Inv X pins σ H' { s' with heap:=h' })->Inv X pins σ H' s'->Ca≠X.env.locals->(∀ x c,X.env.cells.lookup x=some c->c≠Ca)->Ca∉X.fs->X.s₀.heap.objs.size<=Ca->(∀ p∈X.pn++pins,p.1≠Ca)->H' Ca=none->Step H1 aC H' aA->aS X.K (put aA Da (.lst ds)) H'->H1 Da=none->aA Da=none->R ds aA ->
   compPost (model X.prog X.w) X.A X.xe use Qf (.ref Da) Ca (.ok .next) s'):
  wpAny (model X.prog X.w) X.A (newList []) (fun acc s₃ =>
   wpAny (model X.prog X.w) X.A (newFunctionEnv scope X.env.globals (nD X.env.cells scope.names []) [] X.env.qual none .none (some X.env)) (fun cenv s₄ =>
    codeAny (model X.prog X.w) X.A (.compStart (.ListComp elt [⟨tg,iter,ifs,0⟩] scope pos) 0 (.ref it) acc { cenv with scope:=relabel scope X.env }) (compPost (model X.prog X.w) X.A X.xe use Qf acc cenv.locals) s₄) X.xe s₃) X.xe s₂:=by
 have hD1:H1 s₂.heap.objs.size=none:=I2.fresh
 obtain⟨tf,htf0⟩:∃ tf:D->aB->(Option D->aB->Prop)->Prop,tf=fun x aH K=>kM one (List.range own.length) x (List.replicate own.length none++bH.map fun i=>(σd[i]?).getD none) fun σ' =>
    fH C sub EF mO σ' aH fun b aV=>if b=true then aG C sub EF xe σ' aV fun d cJ=>K (some d) cJ else K none aV:=⟨_,rfl⟩
 have htf:∀ x aH (K:Option D->aB->Prop),tf x aH K->kM one (List.range own.length) x (List.replicate own.length none++bH.map fun i=>(σd[i]?).getD none) fun σ' =>
    fH C sub EF mO σ' aH fun b aV=>if b=true then aG C sub EF xe σ' aV fun d cJ=>K (some d) cJ else K none aV:=fun x aH K h=>by rw[htf0]at h;exact h
 rw[<-htf0]at q
 refine wpAny_newObj_type ?_
 have I3:=I2.S6 (aD:=[]) (ys:=[]) (t':=s₂.toks) .nil (Nat.zero_le _)
 generalize hS3:({ s₂ with heap:=s₂.heap.push { cls:=.type "list", dict:=none,data:=.seq ([]:List Value).toArray } }:Shared)=s₃
 have I3:Inv X pins σ (upd H1 s₂.heap.objs.size (.lst [])) s₃:=by rw[<-hS3];exact I3
 have lt3:s₂.heap.objs.size<s₃.heap.objs.size:=by rw[<-hS3];show _<(s₂.heap.push _).objs.size;rw[Heap.size_push];exact Nat.lt_succ_self _
 have old3:∀ b o,s₂.heap.get? b=some o->s₃.heap.get? b=some o:=fun b o e=>by rw[<-hS3];exact Heap.get?_push_of_some _ e
 generalize hDa:s₂.heap.objs.size=Da at *
 have hlt2:∀ b∈fp,b<Da:=fun b hb=>by
  obtain⟨o,e,_⟩:=T.obj _ _ t0 b hb
  rw[<-hDa];exact Heap.lt_size e
 have f3:∀ b∈fp,nP X pins (upd H1 Da (.lst [])) b:=fun b hb=>⟨by rw[bZ (Nat.ne_of_lt (hlt2 b hb))];exact(f2 b hb).1,(f2 b hb).2⟩
 have hlt3:∀ b∈fp,b<s₃.heap.objs.size:=fun b hb=>Nat.lt_trans (hlt2 b hb) lt3
 refine wpAny_newFunctionEnv S.nocell (by intro y hy;simp at hy) (fun h₁ hns hsb=>?_) S.kind
 have keep1:∀ b o,s₃.heap.get? b=some o->h₁.get? b=some o:=fun b o e=>hsb.extBut b o (Nat.ne_of_lt (Heap.lt_size e)) (Heap.get?_push_of_some _ e)
 have t1:tn 0 h₁:=T.keep _ _ _ t0 fun b hb o e=>keep1 b o (old3 b o e)
 have B0:=LU (own:=own) S hc I3 f3 hlt3 (Nat.le_refl _) (tk:=s₃.toks+([]:List (Str×Value)).length) hns keep1
 generalize hXc:lV X scope own cn fp s₃ (upd H1 Da (.lst [])) s₃.heap.objs.size=Xc at B0
 have hgc:PG Xc tg (MF X.K one own.length):=by rw[<-hXc];exact hg _ _ _ _
 have htc:GF Xc ifs (AB X.K (fH C sub EF mO)):=by rw[<-hXc];exact hts _ _ _ _
 have hec:PE Xc elt (cB X.K (aG C sub EF xe)):=by rw[<-hXc];exact he _ _ _ _
 have eP:Xc.prog=X.prog:=by rw[<-hXc];rfl
 have eW:Xc.w=X.w:=by rw[<-hXc];rfl
 have eK:Xc.K=X.K:=by rw[<-hXc];rfl
 have eA:Xc.A=X.A:=by rw[<-hXc];rfl
 have eX:Xc.xe=fun _ _=>False:=by rw[<-hXc];rfl
 have eN:Xc.env=compEnvC scope (nD X.env.cells scope.names []) s₃.heap.objs.size X.env:=by rw[<-hXc];rfl
 have eL:Xc.env.locals=s₃.heap.objs.size:=by rw[eN];rfl
 have eC:Xc.calm=true:=by rw[<-hXc];rfl
 have fC:∀{H':Hp},(∀ b∈fp,H' b=none)->∀ b∈fp,nP Xc [] H' b:=fun{H'} hn b hb=>by
  have ok:=B0.ok
  refine⟨hn b hb,by rw[eL];exact Nat.ne_of_lt (hlt3 b hb),ok.exfs b (by rw[<-hXc];exact hb),.inl (by rw[<-hXc];exact hb),fun x c e=>(ok.exf b (by rw[<-hXc];exact hb)).2 x c e,fun p hp=>?_⟩
  have:p∈([]:List (Addr×Obj)):=by rw[<-hXc]at hp;exact hp
  cases this
 have capsRel:∀{H':Hp}{aA:aB},Step H1 aC H' aA->dQ X.K H' (List.replicate own.length none++bH.map fun i=>(σd[i]?).getD none) (List.replicate own.length none++pY bH σ):=fun s'=>(SD r _ _).step aQ s'
 have loop:∀ s4:Shared,s4 = { s₃ with heap:=h₁,toks:=s₃.toks+([]:List (Str×Value)).length }->codeAny (model X.prog X.w) X.A (.compLoop (.ListComp elt [⟨tg,iter,ifs,0⟩] scope pos) 0 (.ref it) (.ref Da) Xc.env) (compPost (model X.prog X.w) X.A X.xe use Qf (.ref Da) s₃.heap.objs.size) s4:=by
  rintro s4 rfl
  refine J1 (fun n s'=>∃ i H' aA ds ys,n+i=xs.length/\Inv Xc [] (List.replicate own.length none++pY bH σ) H' s'/\tn i s'.heap/\(∀ b∈fp,H' b=none)/\Step H1 aC H' aA/\aS X.K aA H'/\H' Da=some (.lst ys)/\aA Da=none/\aL X.K H' ds ys /\
   jS (same as aC) tf (xs.drop i) ds aA R) ?_ xs.length
   ⟨0,_,aC,[],[],rfl,B0,t1,fun b hb=>(f3 b hb).1,sL hD1,aQ.new hD1,fO,aQ.fresh hD1,.nil,by simpa using q⟩
  rintro n s' ⟨i,H',aA,ds,ys,hni,I',ti,fr',dJ,gD,hD',hst',rs,q'⟩
  by_cases hi:i<xs.length
  ·-- a turn
   have ed:xs.drop i=xs[i]::xs.drop (i+1):=List.drop_eq_getElem_cons hi
   rw[ed]at q'
   obtain⟨g1,gl,q'⟩:=q'
   have hx:xs[i]? = some xs[i]:=List.getElem?_eq_getElem hi
   have hpn:=T.item Xc eP eW eK eC i [] s' _ H' (fun _ _=>False) I' (fC fr') ti (j.go i H' aA xs[i] dJ gD g1 hx)
   rw[eA]at hpn
   refine bE hpn fun rr s5 ⟨u,hu,h5⟩=>?_
   subst hu
   refine bE h5 fun _ s6 ⟨v,H6,I6,rv,y6,t6,fr6⟩=>?_
   obtain⟨s6s,Fc,rd⟩:=j.yld i H' aA xs[i] v H6 dJ gD g1 hx y6
   have D6:=s6s Da _ hD' hst'
   have I6':=I6.pinned (fC fr6) (T.obj _ _ t6)
   have hasg:=hgc _ s6 _ H6 v u (fun σ2 H2=>∃ uC,H2=H6/\dQ X.K H6 uC σ2/\(∀ i,own.length<=i->σ2[i]? = (List.replicate own.length none++pY bH σ)[i]?)/\σ2.length=(List.replicate own.length none++pY bH σ).length /\
    fH C sub EF mO uC aA fun b aV=>if b=true then aG C sub EF xe uC aV fun d cJ=>jS (same as aC) tf (xs.drop (i+1)) (ds++[d]) cJ R else jS (same as aC) tf (xs.drop (i+1)) ds aV R) I6' rv
    (OD oU (htf _ _ _ q') ((capsRel dJ).step gD s6s) rd fun σ2 uC r2 p2 k2 l2=>⟨uC,rfl,r2,k2,l2,p2⟩)
   rw[eP,eW,eA,eX]at hasg
   refine bE hasg fun _ s7 ⟨σ2,H7,I7,uC,e7,r7,k7,l7,q7⟩=>?_
   subst e7
   have hte:=htc _ s7 σ2 H7 _ I7 ⟨uC,aA,_,r7,Fc,q7,fun b H' z=>z⟩
   rw[eP,eW,eA,eX]at hte
   have again:∀{H8:Hp}{s8:Shared}{gE:aB}{ds8:List D}{ys8:List V},Inv Xc ([]++AF fp s6.heap) σ2 H8 s8->Step H1 aC H8 gE->aS X.K gE H8->H8 Da=some (.lst ys8)->gE Da=none->aL X.K H8 ds8 ys8->jS (same as aC) tf (xs.drop (i+1)) ds8 gE R ->
     ∃ m,m<n/\∃ i H' aA ds ys,m+i=xs.length/\Inv Xc [] (List.replicate own.length none++pY bH σ) H' s8/\tn i s8.heap/\(∀ b∈fp,H' b=none)/\Step H1 aC H' aA/\aS X.K aA H'/\H' Da=some (.lst ys)/\aA Da=none/\aL X.K H' ds ys/\jS (same as aC) tf (xs.drop i) ds aA R:=fun{H8 s8 gE ds8 ys8} I8 s8s R6 hD8 hs8 rs8 q8=>by
    have pinned:∀ b∈fp,∀ o,s6.heap.get? b=some o->s8.heap.get? b=some o/\H8 b=none:=fun b hb o e=>by
     have:=I8.pin (b,o) (List.mem_append_right _ (List.mem_append_right _ (wQ hb e)))
     exact⟨this.1,this.2.1⟩
    refine⟨n-1,by omega,i+1,H8,gE,ds8,ys8,by omega,?_,T.keep _ _ _ t6 fun b hb o e=>(pinned b hb o e).1,fun b hb=>?_,s8s,R6,hD8,hs8,rs8,q8⟩
    ·refine I8.wR.weak (by rw[l7]) fun i0 v0 e0=>?_
     by_cases hi0:i0<own.length
     ·rw[List.getElem?_append_left (by simpa using hi0),List.getElem?_replicate]at e0
      split at e0<;>cases e0
     ·rw[k7 i0 (by omega)];exact e0
    ·obtain⟨o,e,_⟩:=T.obj _ _ t6 b hb
     exact(pinned b hb o e).2
   have s17:=dJ.trans s6s
   have rs7:=rs.step gD s6s
   refine bE hte fun b s8 ⟨H8,I8,gE,s8s,R6,q8⟩=>?_
   have D8:=s8s Da _ D6.1 D6.2
   have rs8:=rs7.step Fc s8s
   cases b with
   |false=>exact again I8 (s17.trans s8s) R6 D8.1 D8.2 rs8 q8
   |true =>
    have hel:=hec _ s8 σ2 H8 _ I8 ⟨uC,gE,_,r7.step Fc s8s,R6,q8,fun v H' z=>z⟩
    rw[eP,eW,eA,eX]at hel
    refine bE hel fun u9 s9 ⟨v9,H9,I9,rv9,d9,kD,s9s,Oq,rd9,q9⟩=>?_
    have D9:=s9s Da _ D8.1 D8.2
    have rs9:=rs8.step R6 s9s
    have hap:=L2.tX _ s9 σ2 H9 (.ref Da) [v9] (.ref Da) [u9] (fun _ H'=>H'=upd H9 Da (.lst (ys++[v9]))) I9 rfl (.cons rv9 .nil) ⟨Da,ys,v9,rfl,rfl,D9.1,by rw[gG,<-rs9.length];exact gl,rfl⟩
    rw[eP,eW,eA,eX]at hap
    refine bE hap fun _ s10 ⟨_,H10,I10,_,e10⟩=>?_
    subst e10
    refine again I10 (fun a o e0 n0=>?_) (Oq.alt D9.1 D9.2) fO D9.2 ((rs9.append (.cons rd9 .nil)).alt D9.1) q9
    have:=((s17.trans s8s).trans s9s) a o e0 n0
    exact⟨by rw[bZ (iP e0 hD1)];exact this.1,this.2⟩
  ·-- the end
   have ed:xs.drop i=[]:=List.drop_eq_nil_of_le (by omega)
   rw[ed]at q'
   have hpn:=T.done Xc eP eW eK eC i [] s' _ H' (fun _ _=>False) I' (fC fr') ti (j.stop i H' aA dJ gD q'.1 (by omega))
   rw[eA]at hpn
   refine bE hpn fun rr s5 ⟨hr,I5⟩=>?_
   subst hr
   have un5:Un (yG X.stack) fp (upd H1 Da (.lst [])) H' s₃.heap s5.heap:=by have:=I5.base;rw[<-hXc]at this;exact this
   have os5:s5.os=s₃.os:=by have:=I5.os;rw[<-hXc]at this;exact this
   have fC5:H' s₃.heap.objs.size=none:=by have:=I5.free;rw[eL]at this;exact this
   have hch:∀ b∈fp,(b∈X.ex∨X.s₀.heap.objs.size<=b)/\b≠X.env.locals/\(∀ x c,X.env.cells.lookup x=some c->c≠b)/\∀ p∈X.pn++pins,p.1≠b:=fun b hb=>⟨(f2 b hb).2.2.2.1,(f2 b hb).2.1,(f2 b hb).2.2.2.2.1,(f2 b hb).2.2.2.2.2⟩
   have hok5:jD X.prog X.w H' s5.heap:=by have:=I5.cG;rw[eP,eW]at this;exact this
   have Iall:∀ h',(∀ b o,b≠s₃.heap.objs.size->s5.heap.get? b=some o->h'.get? b=some o)->jD X.prog X.w H' h'->Inv X pins σ H' { s5 with heap:=h' }:=fun h' kk cG=>by
    have ne:∀ b o,s₃.heap.get? b=some o->b≠s₃.heap.objs.size:=fun b o e=>Nat.ne_of_lt (Heap.lt_size e)
    refine I3.Hb (s':={ s5 with heap:=h' }) (ch:=fp) os5 ⟨fun b o e n hb hx=>kk b o (ne b o e) (un5.keep b o e n hb hx),fun b o e n hb hx=>?_,un5.free,fun b o e hx=>?_,un5.oS,un5.nY,un5.oT⟩ cG I5.bare hch
    ·obtain⟨sl,e'⟩:=un5.slot b o e n hb hx
     exact⟨sl,kk b _ (ne b o e) e'⟩
    ·obtain⟨o',e'⟩:=un5.there b o e hx
     exact⟨o',kk b o' (ne b o e) e'⟩
   obtain⟨m5,ns5,_⟩:=I5.loc
   rw[eL]at ns5
   refine fin Da s₃.heap.objs.size H' aA ds m5 s5 ns5 (fun h' hs=>Iall h' (fun b o hb e=>hs.extBut b o hb e) (X1 hok5 fC5 hs)) (Iall s5.heap (fun b o _ e=>e) hok5) (Nat.ne_of_gt I3.lt) (fun x c e=>?_) (I3.Ds (Nat.le_refl _)) I3.sz (fun p hp=>Nat.ne_of_lt (Heap.lt_size (I3.pin p hp).1)) fC5 dJ (gD.take hD' rs) hD1 hst' q'.2
   obtain⟨v,o,ho,_⟩:=I3.cell x c e
   exact Nat.ne_of_lt (Heap.lt_size ho)
 have hl:=loop _ rfl
 rw[eN]at hl
 exact codeAny_compStart_list hl (T.self X.A 0 _ _ _ t1 hl)
theorem K9 {H H1 H':Hp}{st aC aA:aB}{Da:Addr}{o:MO}(s1:Step H st H1 aC)(s2:Step H1 aC H' aA)(hD:H1 Da=none):Step H st H' (put aA Da o):=fun a u e n=>by
 have e1:=s1 a u e n
 have e2:=s2 a u e1.1 e1.2
 exact⟨e2.1,by rw[aJ (iP e1.1 hD)];exact e2.2⟩
theorem Ba (hC:bX C C)(S:lY X scope cn bH)(hc:X.calm=true)(oU:one=true->own.length=1)
 (hi:PI X tg iter (EI X.K fun σ st M=>bG C sub EF aD σ st fun ds aC=>gN k ds aC fun as xs=>M as xs aC))
 (hg:∀ fp s H Ca,PG (lV X scope own cn fp s H Ca) tg (MF X.K one own.length))
 (hts:∀ fp s H Ca,GF (lV X scope own cn fp s H Ca) ifs (AB X.K (fH C sub EF mO)))
 (he:∀ fp s H Ca,PE (lV X scope own cn fp s H Ca) elt (cB X.K (aG C sub EF xe)))
 (hs:∀ x,foldedSetIterable iter X.env x=pure x):
 PE X (.ListComp elt [⟨tg,iter,ifs,0⟩] scope pos) (cB X.K (aG C sub EF (.comp own.length bH (List.range own.length) one k aD mO xe))):=by
 intro pins s σ H Q I ⟨σd,st,R,r,ok,q,hq⟩
 simp only[aG]at q
 rw[eval_ListComp]
 refine wpAny_comprehension_free (use:=none) rfl hs (yJ (S.cells I.ok)) S.kind S.names ?_
 refine bE (hi pins s σ H _ I ⟨σd,st,_,r,ok,q,fun J H1 z=>z⟩) fun v s1 h1=>bE h1 fun itv s2 h2=>?_
 obtain⟨it,fp,tn,J,H1,rfl,I2,T,t0,f2,as,xs,aC,dJ,aQ,j,q1⟩:=h2
 refine G7 (use:=none) hC S hc oU hg hts he I2 T t0 f2 (r.step ok dJ) aQ j q1 ?_
 intro Da Ca H' aA ds m s' hns qM hI _ _ _ _ _ _ iW okp hD1 hst' hR
 exact⟨m,hns,fun h' hh=>⟨.ref Da,H',qM h' hh,rfl,hq _ _ ⟨.ref Da,_,K9 dJ iW hD1,okp,.ref Da,hR.2 Da hst'⟩⟩⟩
theorem Bo {i:Nat}{y:Str}{py spos:Pos}(hC:bX C C)(S:lY X scope cn bH)(hc:X.calm=true)(oU:one=true->own.length=1)
  (hi:PI X tg iter (EI X.K fun σ st M=>bG C sub EF aD σ st fun ds aC=>gN k ds aC fun as xs=>M as xs aC))
  (hg:∀ fp s H Ca,PG (lV X scope own cn fp s H Ca) tg (MF X.K one own.length))
  (hts:∀ fp s H Ca,GF (lV X scope own cn fp s H Ca) ifs (AB X.K (fH C sub EF mO)))
  (he:∀ fp s H Ca,PE (lV X scope own cn fp s H Ca) elt (cB X.K (aG C sub EF xe)))
  (hN:X.N.Nodup)(hy:X.N[i]? = some y)(hx:Loc X.env.scope y)(hf:X.fn y=true∨X.env.scope.names.lookup y=some .local)
  (hsw:swapsWith (.ListComp elt [⟨tg,iter,ifs,0⟩] scope pos) (some (.Name y py)) spos.line X.env=pure true)
  (hs:∀ x,foldedSetIterable iter X.env x=pure x):
  PS X (.Assign [.Name y py] (.ListComp elt [⟨tg,iter,ifs,0⟩] scope pos) spos) (jB X.K (wpS C sub (.asg (.nm i) (.comp own.length bH (List.range own.length) one k aD mO xe)))):=by
 intro pins s σ H D I ⟨σd,st,P,r,ok,q,h⟩
 simp only[wpS,fX]at q
 have q:=rF hC h.ex q
 simp only[aG]at q
 rw[exec_Assign_Name_used _ _ _ _ hsw]
 refine wpAny_bind (wpAny_standAt (wpAny_bind ?_))
 show wpAny _ X.A (do let _ <-comprehension (.ListComp elt [⟨tg,iter,ifs,0⟩] scope pos) scope X.env _ (newList []) false (eval iter X.env) (some (assign (.Name y py) X.env))) _ _ s
 refine wpAny_bind (wpAny_mono (wpAny_comprehension_free (use:=some (assign (.Name y py) X.env)) (Q:=fun _ s'=>SP X pins D .next s') rfl hs (yJ (S.cells I.ok)) S.kind S.names ?_) (fun _ s' hq=>wpAny_pure (wpAny_pure hq)) fun _ _ e=>e)
 refine bE (hi pins s σ H _ I ⟨σd,st,_,r,ok,q,fun J H1 z=>z⟩) fun v s1 h1=>bE h1 fun itv s2 h2=>?_
 obtain⟨it,fp,tn,J,H1,rfl,I2,T,t0,f2,as,xs,aC,dJ,aQ,j,q1⟩:=h2
 refine G7 (use:=some (assign (.Name y py) X.env)) hC S hc oU hg hts he I2 T t0 f2 (r.step ok dJ) aQ j q1 ?_
 intro Da Ca H' aA ds m s' hns qM hI hL hcl hfs jE hpins hn iW okp hD1 hst' hR
 show wpAny _ X.A (assign (.Name y py) X.env (.ref Da)) _ _ _
 refine wpAny_assign_Name (GB hI hN hy hx (v:=.ref Da) rfl (fun s'' I'' kk=>?_) hf)
 obtain⟨ad,sb,had⟩:=kk
 have nad:Ca≠ad:=fun z=>by
  rcases had with e|e
  ·exact hL (z.trans e)
  ·exact hcl y ad e z.symm
 refine⟨m,hns.at' fun o e=>(sb.2 Ca nad).trans e,fun h' hh=>?_⟩
 refine⟨σ.set i (some (.ref Da)),H',I''.turned (t':=s''.toks) (fun b o hb e=>hh.extBut b o hb e) hn hL (.inr jE) hcl hpins,?_⟩
 have aV:=K9 (o:=.lst ds) dJ iW hD1
 exact h.nx _ _ _ _ ((r.step ok aV).set i (.ref Da)) aV okp (hR.2 Da hst')
end
end L3
end
section
namespace L3
open PySem PySem.Spec PyProof.Rows L2
theorem R5 {K:PySem.W.Frag}{H:Hp}{ds:List D}{vs:List V}(r:aL K H ds vs){N:List Str}{np:Nat}(h:ds.length=np):dQ K H (start np N.length ds) (L2.start N vs):=by
 refine⟨by simp [start,L2.start,r.length,<-h],fun i d e=>?_⟩
 unfold start at e
 by_cases hi:i<ds.length
 ·rw[List.getElem?_append_left (by simpa using hi),List.getElem?_map,Option.map_eq_some_iff]at e
  obtain⟨d',e1,e2⟩:=e
  cases e2
  obtain⟨v,e3,e4⟩:=r.get e1
  refine⟨v,?_,e4⟩
  unfold L2.start
  rw[List.getElem?_append_left (by rw[List.length_map,<-r.length];exact hi),List.getElem?_map,e3];rfl
 ·rw[List.getElem?_append_right (by simpa using hi),List.getElem?_replicate]at e
  split at e<;>cases e
theorem YD {P:Program}{w:World}{K:PySem.W.Frag}{mg:Str->Option Value}{base:Heap}{G:Prog}{f:Nat}{a:Addr}{fd:FuncData}{ps:List Str}:dR P w K mg base hJ 0 a fd ps (fV K (aM G 0) f):=by
 have no:∀ vs H Q E,¬fV K (aM G 0) f vs H Q E:=fun vs H Q E ⟨_,_,_,_,_,h,_⟩=>h
 exact⟨fun vs H Q E h=>absurd h (no vs H Q E),fun A outer s H args us vs Q E _ _ _ _ h=>absurd h (no vs H Q E)⟩
structure Top (K:PySem.W.Frag)(mg:Str->Option Value)(nf:Nat)(nm:Nat->Str)(ps:Nat->List Str)(st:Nat->Stmt) where
 a:Nat->Addr
 fd:Nat->FuncData
 fn:∀ i,i<nf->BL K (nm i) (nm i) (st i) (a i) (fd i)
 bi:∀ i,i<nf->Binds K (fd i) (ps i) []
 mg:∀ i,i<nf->mg (nm i)=some (.ref (a i))
theorem Ec {K:PySem.W.Frag}{G:Prog}{k f:Nat}(h:∀ ns:List Int,ns.length<=63->aM G k f [.bP (ns.map .int)] (fun _=>none) (fun d _=>d=.bl true) fun _ _=>False)(H:Hp)(a:Addr)(ns:List Int)(hl:ns.length<=63)(hO:N8 H)(hS:dN K H a (ns.map V.int)):
  fV K (aM G k) f [.ref a] H (fun v _=>v=.bl true) fun _ _ _=>False:=by
 have hF:sH K H a (ns.map V.int):=by
  rcases hS with(e|⟨o,e⟩)|e
  ·rcases hO a with z|⟨o,xs,z⟩
   ·rw[z]at e;cases e
   ·rw[z]at e;cases e
  ·exact .inl ⟨o,e⟩
  ·exact .inr e
 have ri:∀ ns:List Int,aL K H (ns.map .int) (ns.map V.int):=fun ns=>by
  induction ns with
  |nil=>exact .nil
  |cons i r ih=>exact .cons (.int i) ih
 refine⟨[.bP (ns.map .int)],fun _=>none,fun d _=>d=.bl true,.cons (.bP hF (ri ns)) .nil,fun a o e=>(by cases e),h ns hl,fun v H' ⟨d,aA,_,_,r,q⟩=>?_⟩
 subst q
 exact r.gM
end L3
end
section
namespace L3
open PySem PySem.Spec PyProof.Rows L2
theorem cX:bootBuiltins "len" = some (.builtin "len"):=by decide +kernel
theorem sN:bootBuiltins "all" = some (.builtin "all"):=by decide +kernel
theorem Q8:bootBuiltins "any" = some (.builtin "any"):=by decide +kernel
theorem O6:bootBuiltins "sum" = some (.builtin "sum"):=by decide +kernel
theorem HJ:bootBuiltins "isinstance" = some (.builtin "isinstance"):=by decide +kernel
theorem ZF:bootBuiltins "int" = some (.type "int"):=by decide +kernel
theorem O9:bootBuiltins "str" = some (.type "str"):=by decide +kernel
theorem XX:bootBuiltins "bool" = some (.type "bool"):=by decide +kernel
theorem AG:bootBuiltins "list" = some (.type "list"):=by decide +kernel
theorem eE:bootBuiltins "tuple" = some (.type "tuple"):=by decide +kernel
theorem Eo:bootBuiltins "set" = some (.type "set"):=by decide +kernel
theorem LV:bootBuiltins "reversed" = some (.type "reversed"):=by decide +kernel
theorem TC:bootBuiltins "range" = some (.type "range"):=by decide +kernel
def LL:Ty->String
 |.int =>"int"
 |.str =>"str"
 |.bool =>"bool"
 |.list =>"list"
 |.tuple =>"tuple"
 |.dict =>"dict"
 |.err _ =>"?"
def HL:Ty->Bool
 |.err _=>false
 |_=>true
section
variable {X:Cx}{pins:List (Addr×Obj)}{σ:L2.St}{H:Hp}{s:Shared}{st:aB}{sub:Nat->Nat->Bool}
abbrev Bs (X:Cx)(s:Shared)(u:Value)(t:Ty)(b:Bool):Prop:=∀(A:Around)(Q:Value->Shared->Prop)(E:Value->Shared->Prop),(∀ tk,Q (.bool b) { s with toks:=tk })->wpAny (model X.prog X.w) A (call (.builtin "isinstance") [u,.type (LL t)]) Q E s
theorem AI {a:Addr}(I:Inv X pins σ H s)(h:∃ o,s.heap.get? a=some o/\o.cls=.type "list"){t:Ty}{b:Bool}(e:PySem.W.kitOne X.K (.type "list") (.type (LL t))=some b):Bs X s (.ref a) t b:=fun A Q E hQ =>
 PySem.W.kia_one PySem.W.kitx_list I.jZ h e (fun z=>nomatch z) hQ
theorem M0 {a:Addr}(I:Inv X pins σ H s)(h:∃ o,s.heap.get? a=some o/\o.cls=.type "tuple"){t:Ty}{b:Bool}(e:PySem.W.kitOne X.K (.type "tuple") (.type (LL t))=some b):Bs X s (.ref a) t b:=fun A Q E hQ =>
 PySem.W.kia_one PySem.W.kitx_tuple I.jZ h e (fun z=>nomatch z) hQ
theorem QY {d:D}{v:V}{u:Value}{t:Ty}{P:Bool->Prop}(I:Inv X pins σ H s)(ok:aS X.K st H)(r:Rep X.K H d v)(rv:RelV v u)(ht:HL t=true)(h:jL sub d st t P):∃ b,P b/\Bs X s u t b:=by
 cases d with
 |non =>
  cases r.fN;cases rv
  refine⟨false,by cases t<;>exact h,fun A Q E hQ=>PySem.W.kia_one PySem.W.kitx_none I.jZ True.intro ?_ (fun z=>nomatch z) hQ⟩
  cases t<;>first|rfl|cases ht
 |bl k =>
  cases r.gM;cases rv
  cases t with
  |bool=>exact⟨true,h,fun A Q E hQ=>PySem.W.kia_one PySem.W.kitx_bool I.jZ True.intro rfl (fun z=>nomatch z) hQ⟩
  |int=>exact⟨true,h,fun A Q E hQ=>PySem.W.kia_one PySem.W.kitx_bool I.jZ True.intro rfl (fun z=>nomatch z) hQ⟩
  |err _=>cases ht
  |_=>exact⟨false,h,fun A Q E hQ=>PySem.W.kia_one PySem.W.kitx_bool I.jZ True.intro rfl (fun z=>nomatch z) hQ⟩
 |int k =>
  cases r.int_inv;obtain⟨tk,rfl⟩:=rv
  cases t with
  |int=>exact⟨true,h,fun A Q E hQ=>PySem.W.kia_one PySem.W.kitx_int I.jZ True.intro rfl (fun z=>nomatch z) hQ⟩
  |err _=>cases ht
  |_=>exact⟨false,h,fun A Q E hQ=>PySem.W.kia_one PySem.W.kitx_int I.jZ True.intro rfl (fun z=>nomatch z) hQ⟩
 |str k =>
  cases r.str_inv;obtain⟨tk,rfl⟩:=rv
  cases t with
  |str=>exact⟨true,h,fun A Q E hQ=>PySem.W.kia_one PySem.W.kitx_str I.jZ True.intro rfl (fun z=>nomatch z) hQ⟩
  |err _=>cases ht
  |_=>exact⟨false,h,fun A Q E hQ=>PySem.W.kia_one PySem.W.kitx_str I.jZ True.intro rfl (fun z=>nomatch z) hQ⟩
 |tup ds =>
  obtain⟨a,vs,rfl,f,g⟩:=r.bS
  cases rv
  obtain⟨aD,_,⟨o,h1,h2,_⟩,_⟩:=I.tuple f
  cases t with
  |tuple=>exact⟨true,h,M0 I ⟨o,h1,h2⟩ rfl⟩
  |err _=>cases ht
  |_=>exact⟨false,h,M0 I ⟨o,h1,h2⟩ rfl⟩
 |ref a =>
  cases r.cQ
  cases rv
  have key:∃ ds,st a=some (.lst ds):=by
   cases e:st a with
   |none=>exfalso;cases t<;>first|(simp only[jL,eT,e]at h)|cases ht
   |some o =>
    cases o with
    |lst ds=>exact⟨ds,rfl⟩
    |dic _ _=>exact(ok a _ e).elim
    |ins _ _=>exfalso;cases t<;>first|(simp only[jL,eT,e]at h)|cases ht
    |tab _ _=>exfalso;cases t<;>first|(simp only[jL,eT,e]at h)|cases ht
  obtain⟨ds,e⟩:=key
  obtain⟨vs,g1,_⟩:=ok.lst e
  obtain⟨_,aD,n,_,_,e1⟩:=I.vZ g1
  have ho:∃ o,s.heap.get? a=some o/\o.cls=.type "list":=⟨_,e1,rfl⟩
  cases t with
  |list=>simp only[jL]at h;rw[cM e]at h;exact⟨true,h,AI I ho rfl⟩
  |err _=>cases ht
  |_=>simp only[jL]at h;rw[cM e]at h;exact⟨false,h,AI I ho rfl⟩
 |bP ds =>
  obtain⟨a,vs,rfl,f,g⟩:=r.kZ
  cases rv
  obtain⟨aD,_,p,_⟩:=I.list f.sq
  obtain⟨o,h1,h2,_⟩:=p.isList
  cases t with
  |list=>exact⟨true,h,AI I ⟨o,h1,h2⟩ rfl⟩
  |err _=>cases ht
  |_=>exact⟨false,h,AI I ⟨o,h1,h2⟩ rfl⟩
 |dB _ _=>cases t<;>exact(show False from h).elim
 |exc c=>cases r
end
section
variable {X:Cx}{C:bO}{sub:Nat->Nat->Bool}{E:XK}{a:Expr}{x:Ex}{p p2 pos:Pos}
def Nm (K:PySem.W.Frag)(sub:Nat->Nat->Bool)(t:Ty):List V->Hp->L2.VK->Prop:=fun vs H Q=>∃ d v st R,vs=[v,.ty (LL t)]/\Rep K H d v/\aS K st H/\jL sub d st t (fun b=>R (.bl b) st)/\∀ v H',QD K H st R v H'->Q v H'
theorem UM {t:Ty}(ht:HL t=true):nL X (.builtin "isinstance") (Nm X.K sub t):=by
 intro pins s σ H vs us Q I rv h
 obtain⟨d,v,st,R,rfl,r,ok,h,hq⟩:=h
 cases rv with|cons r1 r2=>cases r2 with|cons r2 r3 =>
 cases r3
 cases r2
 obtain⟨b,hb,hi⟩:=QY I ok r r1 ht h
 exact hi X.A _ _ fun tk=>⟨.bl b,H,I.tok tk,rfl,hq _ _ (.here ok (.bl b) hb)⟩
theorem Ig {t:Ty}{n:Str}(ht:HL t=true)(hg:Gl X "isinstance")(hm:X.mg "isinstance" = none)(hg2:Gl X n)(hm2:X.mg n=none)(hv2:bootBuiltins n=some (.type (LL t)))(ha:PE X a (cB X.K (aG C sub E x)))
 (hn2:n ≠"__name__")(hd2:(n==("__debug__" : Str))=false)(he:starEach [a,.Name n p2] X.env=(false,eval a X.env)::starEach [.Name n p2] X.env)(he2:starEach [.Name n p2] X.env=[(false,eval (.Name n p2) X.env)])(dC:(backTo pos (starEach [.Name n p2] X.env)).any (·.1)=false):
 PE X (.Call (.Name "isinstance" p) [a,.Name n p2] [] pos) (cB X.K (aG C sub E (.isi x [t]))) :=
 (J9 (UM (sub:=sub) ht) hg hm HJ (EG ha (EG (YQ hg2 hm2 hv2 (v:=.ty (LL t)) rfl hn2 hd2) PV he2) he) (by decide) (by decide) he dC).imp fun σ H Q ⟨σd,st,R,r,ok,q,hq⟩=>by
 simp only[aG,ML]at q
 refine⟨σd,st,_,r,ok,q,fun v H1 ⟨d,aC,s1,aQ,r1,q1⟩=>?_⟩
 exact⟨d,v,aC,R,rfl,r1,aQ,q1,fun v H' z=>hq _ _ (.after s1 z)⟩
theorem Hi {t:String}{j:Nat}(h:Str.ofString t=⟨(W t).toArray⟩):PE X (.Constant (.str (Str.ofString t)) j pos) (cB X.K (aG C sub E (.c (.str (W t))))) :=
 uZ An fun H=>by rw[h];exact .str _
end
end L3
end
section
namespace L3
open PySem PySem.Spec PyProof.Rows L2
structure JE (X:Cx)(C:bO)(sub:Nat->Nat->Bool)(E:XK)(e:Expr)(x:Ex):Prop where
 h:PE X e (cB X.K (aG C sub E x))
structure JT (X:Cx)(C:bO)(sub:Nat->Nat->Bool)(E:XK)(e:Expr)(x:Ex):Prop where
 h:PT X e (jG X.K (aG C sub E x))
structure JW (X:Cx)(C:bO)(sub:Nat->Nat->Bool)(E:XK)(e:Expr)(x:Ex):Prop where
 h:PW X e (jG X.K (aG C sub E x))
structure JA (X:Cx)(C:bO)(sub:Nat->Nat->Bool)(E:XK)(es:List Expr)(xs:List Ex):Prop where
 h:PA X es (mN X.K (bG C sub E xs))
structure JO (X:Cx)(C:bO)(sub:Nat->Nat->Bool)(E:XK)(e:Option Expr)(xs:List Ex):Prop where
 h:PO X e (KA X.K (bG C sub E xs))
structure JI (X:Cx)(C:bO)(sub:Nat->Nat->Bool)(E:XK)(tg e:Expr)(k:Option IK)(xs:List Ex):Prop where
 h:PI X tg e (EI X.K fun σ st M=>bG C sub E xs σ st fun ds aC=>gN k ds aC fun as ys=>M as ys aC)
structure JG (X:Cx)(C:bO)(sub:Nat->Nat->Bool)(E:XK)(tg:Expr)(t:Tg):Prop where
 h:PG X tg (M4 X.K (fX C sub E t))
structure JN (X:Cx)(tg:Expr)(i:Nat):Prop where
 h:PG X tg (DF i)
structure RK (X:Cx)(es:List Expr)(is:List Nat):Prop where
 h:C2 X es (uR is)
structure JB (X:Cx)(tg:Expr)(one:Bool)(n:Nat):Prop where
 h:PG X tg (MF X.K one n)
structure JQ (X:Cx)(C:bO)(sub:Nat->Nat->Bool)(E:XK)(es:List Expr)(xs:List Ex):Prop where
 h:GF X es (AB X.K (fH C sub E xs))
structure JS (X:Cx)(C:bO)(sub:Nat->Nat->Bool)(s:Stmt)(x:Sx):Prop where
 h:PS X s (jB X.K (wpS C sub x))
structure BE (X:Cx)(C:bO)(sub:Nat->Nat->Bool)(ss:List Stmt)(xs:List Sx):Prop where
 h:lF X ss (jB X.K (cN C sub xs))
structure vB (X:Cx)(C:bO)(n:Str)(fid:Nat):Prop where
 h:∃ k f fd ps,dR X.prog X.w X.K X.mg X.base hJ k f fd ps (fV X.K C fid)/\dM k X.A/\X.mg n=some (.ref f)/\PySem.W.keepIn X.K (.ref f)=true/\Binds X.K fd ps []
def GC (K:PySem.W.Frag)(mg:Str->Option Value)(n:Str)(d:D):Prop:=∃ u v,mg n=some u/\RelV v u/\∀ H,Rep K H d v
section
variable {X:Cx}{C:bO}{sub:Nat->Nat->Bool}{E:XK}{a b c e o tg:Expr}{es:List Expr}{x y z:Ex}{xs:List Ex}{p p2 pos apos:Pos}{k:Nat}{n:Str}{s:Stmt}{ss:List Stmt}{sxs:List Sx}
theorem jv (i:Nat)(hN:X.N[i]? = some n:=by kernel_rfl)(hv:X.env.scope.names.lookup n=some .local:=by kernel_rfl)(hd:(n==("__debug__" : Str))=false:=by kernel_rfl)
 (hcd:(n==("__classdict__" : Str))=false:=by kernel_rfl):JE X C sub E (.Name n pos) (.v i):=⟨VJ (pv i hN (.inl hv) hd hcd)⟩
theorem bF (i:Nat)(hN:X.N[i]? = some n:=by kernel_rfl)(hv:X.env.scope.names.lookup n=some .cell:=by kernel_rfl)(hd:(n==("__debug__" : Str))=false:=by kernel_rfl)
 (hcd:(n==("__classdict__" : Str))=false:=by kernel_rfl):JE X C sub E (.Name n pos) (.v i):=⟨VJ (pv i hN (.inr (.inl hv)) hd hcd)⟩
theorem ji {i:Int}:JE X C sub E (.Constant (.int i) k pos) (.c (.int i)):=⟨uZ Z3 fun _=>.int _⟩
theorem jb {i:Bool}:JE X C sub E (.Constant (.bool i) k pos) (.c (.bl i)):=⟨uZ Ja fun _=>.bl _⟩
theorem jn:JE X C sub E (.Constant .none k pos) (.c .non):=⟨uZ Cn fun _=>.non⟩
theorem js {t:String}(h:Str.ofString t=⟨(W t).toArray⟩:=by kernel_rfl):JE X C sub E (.Constant (.str (Str.ofString t)) k pos) (.c (.str (W t))):=⟨Hi h⟩
theorem jg {d:D}(h:GC X.K X.mg n d)(hg:X.env.kindOf n=some .globalImplicit:=by kernel_rfl)(hd:(n==("__debug__" : Str))=false:=by kernel_rfl):JE X C sub E (.Name n pos) (.c d):=⟨let⟨u,v,h1,h2,h3⟩:=h;uZ (XZ hg h1 h2 hd) h3⟩
theorem ja (h:JE X C sub E e x)(hs:JA X C sub E es xs)(fF:starEach (e::es) X.env=(false,eval e X.env)::starEach es X.env:=by kernel_rfl):JA X C sub E (e::es) (x::xs):=⟨Ee h.h hs.h fF⟩
theorem jt (m:bX C C)(hs:JA X C sub E es xs)(hl:xs.length<=aZ:=by decide):JE X C sub E (.Tuple es k pos) (.tup xs):=⟨Gj m hs.h hl⟩
theorem pD {o:rJ}(u:X.A.units+180<cLine)(ha:JE X C sub E a x)(hb:JE X C sub E b y)(hm:behindInMarks (pL o) b=false:=by kernel_rfl):JE X C sub E (.Compare a [pL o] [b] pos) (.cmp o x y):=⟨Gs u ha.h hb.h hm⟩
theorem cT {o:rJ}(u:X.A.units+180<cLine)(ha:JE X C sub E a x)(hb:JE X C sub E b y)(hm:behindInMarks (pL o) b=false:=by kernel_rfl):JT X C sub E (.Compare a [pL o] [b] pos) (.cmp o x y):=⟨Eg u ha.h hb.h hm⟩
theorem De {o o':rJ}(u:X.A.units+180<cLine)(ha:JE X C sub E a x)(hb:JE X C sub E b y)(hc:JE X C sub E c z)(hm:lastMarks [pL o,pL o'] [b,c]=false:=by kernel_rfl):JE X C sub E (.Compare a [pL o,pL o'] [b,c] pos) (.chain o o' x y z):=⟨Y1 u ha.h hb.h hc.h hm⟩
theorem tp (h:JE X C sub E e x)(he:∀ whole,isTrue e X.env whole=(do let v <-whole;standAt e.pos;holding [v] (truthy v)):=by intro _;rfl):JT X C sub E e x:=⟨TN h.h he⟩
theorem bC (ha:JE X C sub E a x)(hb:JE X C sub E b y)(hp:vM b:=by intro _ _;rfl):JE X C sub E (.Subscript a b pos) (.ix x y):=⟨Ma ha.h hb.h hp⟩
theorem bQ {fid:Nat}(h:vB X C n fid)(ha:JA X C sub EF (e::es) xs)(hg:X.env.kindOf n=some .globalImplicit:=by kernel_rfl)(hdb:(n==("__debug__" : Str))=false:=by kernel_rfl)(he:starEach (e::es) X.env=(false,eval e X.env)::starEach es X.env:=by kernel_rfl)(dC:(backTo pos (starEach es X.env)).any (·.1)=false:=by kernel_rfl):
 JE X C sub EF (.Call (.Name n p) (e::es) [] pos) (.call fid xs):=⟨let⟨k,f,fd,ps,h1,h2,h3,h4,h5⟩:=h.h;Z5 h1 h2 hg h3 h4 h5 OH ha.h hdb he dC⟩
theorem dI {f:BI}{id:String}(hW:yD X (.builtin id) (gT f))(hv:bootBuiltins n=some (.builtin id))(hm:X.mg n=none)(ha:JA X C sub E (e::es) xs)(hg:X.env.kindOf n=some .globalImplicit:=by kernel_rfl)
 (hn:n ≠"__name__":=by decide)(hdb:(n==("__debug__" : Str))=false:=by kernel_rfl)(he:starEach (e::es) X.env=(false,eval e X.env)::starEach es X.env:=by kernel_rfl)(dC:(backTo pos (starEach es X.env)).any (·.1)=false:=by kernel_rfl):
 JE X C sub E (.Call (.Name n p) (e::es) [] pos) (.bi f xs):=⟨(Hd hW hg hm hv ha.h hn hdb he dC).imp fun σ H Q ⟨σd,st,R,r,ok,q,hq⟩=>⟨σd,st,R,r,ok,by simpa only[aG]using q,hq⟩⟩
theorem mI {f:BI}{id:String}(hW:yD X (.type id) (gT f))(hv:bootBuiltins n=some (.type id))(hm:X.mg n=none)(ha:JA X C sub E (e::es) xs)(hg:X.env.kindOf n=some .globalImplicit:=by kernel_rfl)
 (hn:n ≠"__name__":=by decide)(hdb:(n==("__debug__" : Str))=false:=by kernel_rfl)(he:starEach (e::es) X.env=(false,eval e X.env)::starEach es X.env:=by kernel_rfl)(dC:(backTo pos (starEach es X.env)).any (·.1)=false:=by kernel_rfl):
 JE X C sub E (.Call (.Name n p) (e::es) [] pos) (.bi f xs):=⟨(ZZ hW hg hm hv ha.h hn hdb he dC).imp fun σ H Q ⟨σd,st,R,r,ok,q,hq⟩=>⟨σd,st,R,r,ok,by simpa only[aG]using q,hq⟩⟩
theorem GJ {t:Ty}(hv:bootBuiltins n=some (.type (LL t)))(hm:X.mg "isinstance" = none)(hm2:X.mg n=none)(ha:JE X C sub E a x)(ht:HL t=true:=by kernel_rfl)(hg:X.env.kindOf "isinstance" = some .globalImplicit:=by kernel_rfl)(hg2:X.env.kindOf n=some .globalImplicit:=by kernel_rfl)
 (hn2:n ≠"__name__":=by decide)(hd2:(n==("__debug__" : Str))=false:=by kernel_rfl)(he:starEach [a,.Name n p2] X.env=(false,eval a X.env)::starEach [.Name n p2] X.env:=by kernel_rfl)(he2:starEach [.Name n p2] X.env=[(false,eval (.Name n p2) X.env)]:=by kernel_rfl)(dC:(backTo pos (starEach [.Name n p2] X.env)).any (·.1)=false:=by kernel_rfl):
 JE X C sub E (.Call (.Name "isinstance" p) [a,.Name n p2] [] pos) (.isi x [t]):=⟨Ig ht hg hm hg2 hm2 hv ha.h hn2 hd2 he he2 dC⟩
theorem lN (ho:JE X C sub E o x)(ha:JA X C sub E (e::es) xs)(jT:attributeBase o "append" X.env (eval o X.env)=eval o X.env:=by kernel_rfl)
 (sS:((backTo pos (starEach (e::es) X.env)).all (fun x=>!x.1)&&(backToKw pos (keywordEach [] X.env)).all (fun x=>x.1.isSome)&&decide ((e::es).length+([]:List Keyword).length+(if([]:List Keyword).isEmpty then 0 else 1)<30))=true:=by kernel_rfl)(jU:(apos.endLine==pos.line)=true:=by kernel_rfl)
 (hs:starEach (e::es) X.env=(false,eval e X.env)::starEach es X.env:=by kernel_rfl)(sT:(backTo pos (starEach es X.env)).any (·.1)=false:=by kernel_rfl):
 JE X C sub E (.Call (.Attribute o "append" apos) (e::es) [] pos) (.bW .append x xs):=⟨RB (fun z=>nomatch z) PySem.F.slot_list_append PySem.F.type_list_append RI ho.h ha.h jT sS jU hs sT⟩
theorem Kj (ho:JE X C sub E o x)(ha:JA X C sub E (e::es) xs)(jT:attributeBase o "extend" X.env (eval o X.env)=eval o X.env:=by kernel_rfl)
 (sS:((backTo pos (starEach (e::es) X.env)).all (fun x=>!x.1)&&(backToKw pos (keywordEach [] X.env)).all (fun x=>x.1.isSome)&&decide ((e::es).length+([]:List Keyword).length+(if([]:List Keyword).isEmpty then 0 else 1)<30))=true:=by kernel_rfl)(jU:(apos.endLine==pos.line)=true:=by kernel_rfl)
 (hs:starEach (e::es) X.env=(false,eval e X.env)::starEach es X.env:=by kernel_rfl)(sT:(backTo pos (starEach es X.env)).any (·.1)=false:=by kernel_rfl):
 JE X C sub E (.Call (.Attribute o "extend" apos) (e::es) [] pos) (.bW .extend x xs):=⟨RB (fun z=>nomatch z) PySem.F.slot_list_extend PySem.F.type_list_extend QI ho.h ha.h jT sS jU hs sT⟩
theorem Nv (ho:JE X C sub E o x)(jT:attributeBase o "pop" X.env (eval o X.env)=eval o X.env:=by kernel_rfl)(jU:(apos.endLine==pos.line)=true:=by kernel_rfl):
 JE X C sub E (.Call (.Attribute o "pop" apos) [] [] pos) (.bW .pop x []):=⟨XD (fun z=>nomatch z) PySem.F.slot_list_pop PySem.F.type_list_pop Ck ho.h jT jU⟩
theorem sx (m:bX C C)(h:JE X C sub EF e x)(hs:swapsWith e none pos.line X.env=pure false:=by kernel_rfl):JS X C sub (.Expr e pos) (.ex x):=⟨Lm m h.h hs⟩
theorem sn {i:Nat}(m:bX C C)(nd:X.N.Nodup)(he:JE X C sub EF e x)(hi:X.N[i]? = some n:=by kernel_rfl)(hx:X.env.scope.names.lookup n=some .local:=by kernel_rfl)
 (hs:swapsWithSole [.Name n p] e pos.line X.env=pure false:=by kernel_rfl)(hw:swappedStores [.Name n p] e X.env=pure none:=by kernel_rfl)(h1:(assignEach [.Name n p] X.env).map (·.2)=[assign (.Name n p) X.env]:=by kernel_rfl):JS X C sub (.Assign [.Name n p] e pos) (.asg (.nm i) x):=⟨NJ m he.h (TX (uJ nd hi (.inl hx) (.inr hx))) hs hw h1⟩
theorem MA {i:Nat}(m:bX C C)(nd:X.N.Nodup)(he:JE X C sub EF e x)(hi:X.N[i]? = some n:=by kernel_rfl)(hx:X.env.scope.names.lookup n=some .cell:=by kernel_rfl)(hf:X.fn n=true:=by kernel_rfl)
 (hs:swapsWithSole [.Name n p] e pos.line X.env=pure false:=by kernel_rfl)(hw:swappedStores [.Name n p] e X.env=pure none:=by kernel_rfl)(h1:(assignEach [.Name n p] X.env).map (·.2)=[assign (.Name n p) X.env]:=by kernel_rfl):JS X C sub (.Assign [.Name n p] e pos) (.asg (.nm i) x):=⟨NJ m he.h (TX (uJ nd hi (.inr hx) (.inl hf))) hs hw h1⟩
theorem gn {i:Nat}(nd:X.N.Nodup)(hi:X.N[i]? = some n:=by kernel_rfl)(hx:X.env.scope.names.lookup n=some .local:=by kernel_rfl):JN X (.Name n p) i:=⟨uJ nd hi (.inl hx) (.inr hx)⟩
theorem Oj {i:Nat}(nd:X.N.Nodup)(hi:X.N[i]? = some n:=by kernel_rfl)(hx:X.env.scope.names.lookup n=some .cell:=by kernel_rfl)(hf:X.fn n=true:=by kernel_rfl):JN X (.Name n p) i:=⟨uJ nd hi (.inr hx) (.inl hf)⟩
theorem gc {i:Nat}{is:List Nat}(h1:JN X e i)(h2:RK X es is)(hs:(assignEach (e::es) X.env).map (·.2)=assign e X.env::(assignEach es X.env).map (·.2):=by kernel_rfl):RK X (e::es) (i::is):=⟨XJ h1.h h2.h hs⟩
theorem gt {is:List Nat}(h:RK X es is)(hc:X.calm=true:=by kernel_rfl)(hn:(assignEach es X.env).length=is.length:=by kernel_rfl)(fF:(assignEach es X.env).findIdx? (·.1)=none:=by kernel_rfl):JG X C sub E (.Tuple es k pos) (.tp is):=⟨Lf hc h.h hn fF⟩
theorem gi (ho:JE X C sub E o x)(hi:JE X C sub E a y)
 (ha:∀ v,assign (.Subscript o a pos) X.env v=(do
  let ov <-holding [v] (eval o X.env)
  let iv <-holding [v,ov] (eval a X.env)
  standAt pos
  holding [v,ov,iv] (setItem ov iv v)
  release [v,ov,iv] []):=by intro _;rfl):JG X C sub E (.Subscript o a pos) (.ix x y):=⟨Np ho.h hi.h ha⟩
theorem sg {t:Tg}(m:bX C C)(he:JE X C sub EF e x)(hg:JG X C sub EF tg t)
 (hs:swapsWithSole [tg] e pos.line X.env=pure false:=by kernel_rfl)(hw:swappedStores [tg] e X.env=pure none:=by kernel_rfl)(h1:(assignEach [tg] X.env).map (·.2)=[assign tg X.env]:=by kernel_rfl):JS X C sub (.Assign [tg] e pos) (.asg t x):=⟨NJ m he.h hg.h hs hw h1⟩
theorem sw (m:bX C C)(hc:JT X C sub EF c x)(hb:BE X C sub ss sxs)(hp:PassesOwn (model X.prog X.w) X.A X.env X.xe:=by exact PassesOwn.never):JS X C sub (.While c ss [] pos) (.whl x sxs):=⟨YM m hp hc.h hb.h⟩
theorem sf {kk:Option IK}{t:Tg}(m:bX C C)(hi:JI X C sub EF tg e kk xs)(hg:JG X C sub EF tg t)(hb:BE X C sub ss sxs)
 (hp:PassesOwn (model X.prog X.w) X.A X.env X.xe:=by exact PassesOwn.never)(hc:X.calm=true:=by kernel_rfl)(hs:∀ x,foldedSetIterable e X.env x=pure x:=by intro _;rfl):JS X C sub (.For tg e ss [] pos) (.gQ t kk xs sxs):=⟨U4 m hp hc hi.h hg.h hb.h hs⟩
theorem sM {kk:Option IK}{i:Nat}(m:bX C C)(nd:X.N.Nodup)(hi:JI X C sub EF (.Name n p) e kk xs)(hb:BE X C sub ss sxs)
 (hN:X.N[i]? = some n:=by kernel_rfl)(hx:X.env.scope.names.lookup n=some .local:=by kernel_rfl)
 (hp:PassesOwn (model X.prog X.w) X.A X.env X.xe:=by exact PassesOwn.never)(hc:X.calm=true:=by kernel_rfl)(hs:∀ x,foldedSetIterable e X.env x=pure x:=by intro _;rfl):JS X C sub (.For (.Name n p) e ss [] pos) (.gQ (.nm i) kk xs sxs):=⟨U4 m hp hc hi.h (TX (uJ nd hN (.inl hx) (.inr hx))) hb.h hs⟩
theorem IJ (m:bX C C)(hm:X.mg "range" = none)(ha:JA X C sub E [a] [x])(hg:X.env.kindOf "range" = some .globalImplicit:=by kernel_rfl)(hs:starEach [a] X.env=[(false,eval a X.env)]:=by kernel_rfl):
 JI X C sub E tg (.Call (.Name "range" p) [a] [] pos) (some .range) [x]:=⟨WT m hg hm ha.h hs⟩
theorem Nx {cl:Nat}{t:String}(m:bX C C):JS X C sub s (.rais cl [.c (.str (W t))]):=⟨Z7 m fun σd st h=>by simp only[bG,aG]at h⟩
end
section
variable {X:Cx}{C:bO}{sub:Nat->Nat->Bool}{E:XK}{a b c e o tg:Expr}{es rest:List Expr}{x y z:Ex}{xs:List Ex}{p p2 pos apos:Pos}{k:Nat}{n:Str}{s:Stmt}{ss as bs:List Stmt}{sx1:Sx}{sxs ax bx:List Sx}
theorem an:JA X C sub E [] []:=⟨Fe⟩
theorem jl (hs:JA X C sub E es xs):JE X C sub E (.List es pos) (.lst xs):=⟨Fo hs.h⟩
theorem cO {op:vC}(ha:JE X C sub E a x)(hb:JE X C sub E b y):JE X C sub E (.BinOp a (Bp op) b pos) (.bin op x y):=⟨Ir ha.h hb.h⟩
theorem Kp (ha:JE X C sub E a x):JE X C sub E (.UnaryOp .USub a pos) (.neg x):=⟨Fi ha.h⟩
theorem MD (ha:JE X C sub E a x):JE X C sub E (.UnaryOp .Not a pos) (.not_ x):=⟨Jm ha.h⟩
theorem lZ {op:BoolOp}(ha:JE X C sub E a x):JE X C sub E (.BoolOp op [a] pos) x:=⟨Fk ha.h⟩
theorem oE (ha:JE X C sub E a x)(hb:JE X C sub E (.BoolOp .And (b::rest) pos) y):JE X C sub E (.BoolOp .And (a::b::rest) pos) (.and_ x y):=⟨Hu ha.h hb.h⟩
theorem MH (ha:JE X C sub E a x)(hb:JE X C sub E (.BoolOp .Or (b::rest) pos) y):JE X C sub E (.BoolOp .Or (a::b::rest) pos) (.or_ x y):=⟨Mi ha.h hb.h⟩
theorem on:JO X C sub E none []:=⟨WE⟩
theorem os (h:JE X C sub E e x):JO X C sub E (some e) [x]:=⟨XM h.h⟩
theorem IG {lo hi:Option Expr}{xl xh:List Ex}(ha:JE X C sub E a x)(hl:JO X C sub E lo xl)(hh:JO X C sub E hi xh):JE X C sub E (.Subscript a (.Slice lo hi none p2) pos) (.sl x xl xh):=⟨Lu ha.h hl.h hh.h⟩
theorem pW (h:JT X C sub E e x):JT X C sub E (.UnaryOp .Not e pos) (.not_ x):=⟨Ay h.h⟩
theorem tE (h:JW X C sub E e x):JT X C sub E e x:=⟨h.h.pt⟩
theorem tP {op:BoolOp}(h:JT X C sub E e x):JW X C sub E (.BoolOp op [e] pos) x:=⟨Ci h.h⟩
theorem VF (m:bX C C)(ha:JT X C sub E a x)(hb:JW X C sub E (.BoolOp .And (b::rest) pos) y):JW X C sub E (.BoolOp .And (a::b::rest) pos) (.and_ x y):=⟨Dk m ha.h hb.h⟩
theorem xS (m:bX C C)(ha:JT X C sub E a x)(hb:JW X C sub E (.BoolOp .Or (b::rest) pos) y):JW X C sub E (.BoolOp .Or (a::b::rest) pos) (.or_ x y):=⟨Kc m ha.h hb.h⟩
theorem iv (h:JE X C sub E e x):JI X C sub E tg e none [x]:=⟨Dg h.h⟩
theorem qn:JQ X C sub E [] []:=⟨Co⟩
theorem qc (h:JT X C sub E e x)(hs:JQ X C sub E es xs):JQ X C sub E (e::es) (x::xs):=⟨W9 h.h hs.h⟩
theorem nn:RK X [] []:=⟨ZO⟩
theorem b1 (h:JN X tg 0):JB X tg true 1:=⟨h.h⟩
theorem bt {is:List Nat}{q:Nat}(h:RK X es is)(hi:is=List.range q:=by rfl)(hc:X.calm=true:=by kernel_rfl)(hn:(assignEach es X.env).length=q:=by kernel_rfl)(fF:(assignEach es X.env).findIdx? (·.1)=none:=by kernel_rfl):JB X (.Tuple es k pos) false q:=⟨by
 subst hi
 exact QM hc h.h hn fF⟩
theorem c0:BE X C sub [] []:=⟨Hc⟩
theorem cc (h1:JS X C sub s sx1)(h2:BE X C sub ss sxs):BE X C sub (s::ss) (sx1::sxs):=⟨Cv h1.h h2.h⟩
theorem cV (m:bX C C)(hc:JT X C sub EF c x)(ha:BE X C sub as ax)(hb:BE X C sub bs bx):JS X C sub (.If c as bs pos) (.iff x ax bx):=⟨Mj m hc.h ha.h hb.h⟩
theorem bR (m:bX C C)(h:JE X C sub EF e x):JS X C sub (.Return (some e) pos) (.ret x):=⟨Iy m h.h⟩
theorem Oi:JS X C sub (.Return none pos) (.ret (.c .non)):=⟨Cd⟩
end
section
variable {X:Cx}{C:bO}{sub:Nat->Nat->Bool}{elt iter tg:Expr}{ifs:List Expr}{xe:Ex}{mO aD:List Ex}{pos:Pos}{scope:Scope}{own cn:List Str}{bH:List Nat}{one:Bool}{k:Option IK}
theorem kN (m:bX C C)(S:lY X scope cn bH)(hi:JI X C sub EF tg iter k aD)
 (hg:∀ fp s H Ca,JB (lV X scope own cn fp s H Ca) tg one own.length)
 (hts:∀ fp s H Ca,JQ (lV X scope own cn fp s H Ca) C sub EF ifs mO)
 (he:∀ fp s H Ca,JE (lV X scope own cn fp s H Ca) C sub EF elt xe)(hc:X.calm=true:=by kernel_rfl)(oU:one=true->own.length=1:=by decide)
 (hs:∀ x,foldedSetIterable iter X.env x=pure x:=by intro _;rfl):
 JE X C sub EF (.ListComp elt [⟨tg,iter,ifs,0⟩] scope pos) (.comp own.length bH (List.range own.length) one k aD mO xe) :=
 ⟨Ba m S hc oU hi.h (fun a b c d=>(hg a b c d).h) (fun a b c d=>(hts a b c d).h) (fun a b c d=>(he a b c d).h) hs⟩
theorem VP {i:Nat}{y:Str}{py spos:Pos}(m:bX C C)(nd:X.N.Nodup)(S:lY X scope cn bH)(hi:JI X C sub EF tg iter k aD)
 (hg:∀ fp s H Ca,JB (lV X scope own cn fp s H Ca) tg one own.length)
 (hts:∀ fp s H Ca,JQ (lV X scope own cn fp s H Ca) C sub EF ifs mO)
 (he:∀ fp s H Ca,JE (lV X scope own cn fp s H Ca) C sub EF elt xe)(hy:X.N[i]? = some y:=by kernel_rfl)(hx:X.env.scope.names.lookup y=some .local:=by kernel_rfl)
 (hsw:swapsWith (.ListComp elt [⟨tg,iter,ifs,0⟩] scope pos) (some (.Name y py)) spos.line X.env=pure true:=by kernel_rfl)(hc:X.calm=true:=by kernel_rfl)(oU:one=true->own.length=1:=by decide)
 (hs:∀ x,foldedSetIterable iter X.env x=pure x:=by intro _;rfl):
 JS X C sub (.Assign [.Name y py] (.ListComp elt [⟨tg,iter,ifs,0⟩] scope pos) spos) (.asg (.nm i) (.comp own.length bH (List.range own.length) one k aD mO xe)) :=
 ⟨Bo m S hc oU hi.h (fun a b c d=>(hg a b c d).h) (fun a b c d=>(hts a b c d).h) (fun a b c d=>(he a b c d).h) nd hy (.inl hx) (.inr hx) hsw hs⟩
end
def NK (k:Option NameKind):Bool:=k==some .cell||k==some .free
def VG (names on:List (Str×NameKind))(N cn:List Str)(bH:List Nat):Bool :=
 names.all (fun y=>!(y.2 == .cell)&&(!(y.2 == .local)||names.lookup y.1==some .local)&&(!(y.2 == .free)||NK (on.lookup y.1)))&&(cn.length==bH.length) &&
 (cn.zip bH).all (fun p=>names.lookup p.1==some .free&&N[p.2]? == some p.1&&NK (on.lookup p.1))
theorem NC {k:Option NameKind}(h:NK k=true):k=some .cell∨k=some .free:=by
 unfold NK at h
 rw[Bool.or_eq_true]at h
 rcases h with h|h
 ·exact .inl (by simpa using h)
 ·exact .inr (by simpa using h)
theorem jC {X:Cx}{scope:Scope}{cn:List Str}{bH:List Nat}{on:List (Str×NameKind)}{N:List Str}(h:VG scope.names on N cn bH=true)(hE:X.env.scope.names=on:=by kernel_rfl)(hN:X.N=N:=by kernel_rfl)(hk:scope.kind=.function:=by kernel_rfl):lY X scope cn bH:=by
 unfold VG at h
 rw[Bool.and_eq_true,Bool.and_eq_true]at h
 obtain⟨⟨h1,h2⟩,h3⟩:=h
 have h1:=List.all_eq_true.mp h1
 have hl:cn.length=bH.length:=by simpa using h2
 refine⟨hk,fun y hy=>?_,fun y hy e=>?_,fun y hy e=>?_,hl,fun j y e=>?_⟩
 ·have:=h1 y hy
  simp only[Bool.and_eq_true]at this
  intro z;rw[z]at this;simp at this
 ·have:=h1 y hy
  simp only[Bool.and_eq_true,Bool.or_eq_true]at this
  rcases this.1.2 with q|q
  ·rw[e]at q;simp at q
  ·simpa using q
 ·have:=h1 y hy
  simp only[Bool.and_eq_true,Bool.or_eq_true]at this
  rcases this.2 with q|q
  ·rw[e]at q;simp at q
  ·show X.env.scope.names.lookup y.1=_∨X.env.scope.names.lookup y.1=_
   rw[hE];exact NC q
 ·obtain⟨hj,ej⟩:=List.getElem?_eq_some_iff.mp e
  have hj':j<bH.length:=by omega
  have hm:(y,bH[j])∈cn.zip bH:=by
   rw[<-ej]
   exact List.mem_iff_getElem.mpr ⟨j,by simp;omega,by simp⟩
  have:=List.all_eq_true.mp h3 _ hm
  simp only[Bool.and_eq_true]at this
  refine⟨by simpa using this.1.1,bH[j],List.getElem?_eq_getElem hj',by rw[hN];simpa using this.1.2,?_⟩
  show X.env.scope.names.lookup y=_∨X.env.scope.names.lookup y=_
  rw[hE];exact NC this.2
end L3
namespace L3
theorem Iq {k:Nat}{A:PySem.Around}(hr:L2.dM k A):A.units+180<PySem.cLine:=by have:=hr.un;omega
end L3
end
section
namespace PySem
open Sem (wp)
section
variable {prog:Program}{w:World}{A:Around}{s:Shared}{R:Result->Shared->Prop}{I:Addr}{fp wr:List Addr}{n:Nat}{P:Nat->Value->Prop}{St:Nat->Heap->Prop}
def zT (prog:Program)(w:World)(I:Addr)(St:Nat->Heap->Prop):Prop:=∀(A:Around)(s:Shared)(Q:Bool->Shared->Prop)(E:Value->Shared->Prop),St 0 s.heap->(∀ b tk,Q b { s with toks:=tk })->wpAny (model prog w) A (Builtin.List.listLengthHint (.ref I)) Q E s
theorem PQ {T:String}(W:Walks prog w A.in1 I fp wr n P St)(hn:n<=sizeLine)(hT:∀ h,St 0 h->∃ o,h.get? I=some o/\o.cls=.type T)(h2:(Value.type T==Value.type "list")=false)(h3:(Value.type T==Value.type "tuple")=false)(hint:zT prog w I St)
  (S:Addr)(res:Value)(c₀:Nat)(fF:St 0 s.heap)(hSf:S∉fp)(hI:I∈fp)(hS:s.heap.get? S=some { cls:=.type "list", data:=.seq #[] c₀ })
  (hR:∀ h' tk oB c',(∀ b o,b∉S::wr->s.heap.get? b=some o->h'.get? b=some o)->h'.get? S=some { cls:=.type "list", dict:=none,data:=.seq oB c',slots:=#[] }->ItemsOf P oB n->R (.ok (.ret res)) { s with heap:=h',toks:=tk }):
  wpAny (model prog w) A.in1 (Builtin.List.listExtendWith (.ref S) (.ref I) res)
   (fun fin s'=>match fin with|.done f=>R (.ok f) s'|.again c'=>c'.quiet=true/\codeAny (model prog w) A c' R s') (fun e s'=>R (.error e) s') s:=by
 have hSI:S≠I:=fun e=>hSf (e▸hI)
 have key:∀(h:Heap)(c₁ tk:Nat),St 0 h->(∀ b o,b≠S->s.heap.get? b=some o->h.get? b=some o)->h.get? S=some { cls:=.type "list", data:=.seq #[] c₁ } ->
   codeAny (model prog w) A (.builtin "list.extend.loop" ⟨[.ref S,.ref I,res],[]⟩) R { s with heap:=h,toks:=tk }:=by
  intro h c₁ tk hst₁ hk hS₁
  refine codeAny_extend_loopS W.toS hn S hSf res n 0 _ #[] c₁ rfl (Nat.zero_le _) hst₁ hS₁ (ItemsOf.nil _) fun s' oB c' hm hS' hacc=>?_
  rw[Moved.eq_with hm]
  exact hR s'.heap s'.toks oB c' (fun b o hb e=>hm.heap b o hb (hk b o (fun z=>hb (by rw[z];exact List.mem_cons_self ..)) e)) hS' hacc
 unfold Builtin.List.listExtendWith
 refine wpAny_bind (wpAny_typeOf (T:=T) (hT _ fF) ?_)
 have h1:Builtin.List.listSameRef (.ref S) (.ref I)=false:=by simp [Builtin.List.listSameRef,hSI]
 simp only[h1,h2,h3,Bool.or_false,Bool.false_eq_true,if_false]
 refine wpAny_bind (W.self 0 _ _ _ fF ?_)
 refine wpAny_bind (wpAny_holding (hint _ _ _ _ fF fun b tk=>?_))
 have touch:∀{Q:Fin->Shared->Prop}{E:Value->Shared->Prop}{k:Unit->Sem Fin},(∀ h' , St 0 h'->(∀ b o,b≠S->s.heap.get? b=some o->h'.get? b=some o)->(∃ c₁,h'.get? S=some { cls:=.type "list", data:=.seq #[] c₁ })->wpAny (model prog w) A.in1 (k ()) Q E { s with heap:=h',toks:=tk }) ->
   wpAny (model prog w) A.in1 (rule "list.extend.makes-room" >>= fun _=>Builtin.List.listTouch (.ref S) >>= k) Q E { s with toks:=tk }:=fun{Q E k} hk=>by
  refine wpAny_bind (wpAny_rule (wpAny_bind ?_))
  show wpAny _ A.in1 (updateSeq S (·.push .none) >>= fun _=>updateSeq S (·.pop)) _ _ _
  refine wpAny_bind (wpAny_updateSeq hS rfl ?_)
  have hS₂:=Heap.get?_update_self (Obj.mapSeq (·.push Value.none)) hS rfl
  refine wpAny_updateSeq (hz:=by seq_fits) hS₂ rfl ?_
  have hS₃:=Heap.get?_update_self (Obj.mapSeq (·.pop)) hS₂ rfl
  have oth:∀ b o,b≠S->s.heap.get? b=some o->((s.heap.update S (Obj.mapSeq (·.push Value.none))).update S (Obj.mapSeq (·.pop))).get? b=some o :=
   fun b o hb e=>(Heap.get?_update_other _ _ (Ne.symm hb)).trans ((Heap.get?_update_other _ _ (Ne.symm hb)).trans e)
  exact hk _ (W.frame _ _ _ fF fun b hb o e=>oth b o (fun h=>hSf (h▸hb)) e) oth ⟨_,hS₃⟩
 refine wpAny_ite_split (fun _=>?_) (fun _=>wpAny_pure ⟨plainId_quiet F.plain_extend_loop _,key _ c₀ _ fF (fun b o _ e=>e) hS⟩)
 refine touch fun h' a b ⟨c₁,c⟩=>wpAny_pure ⟨plainId_quiet F.plain_extend_loop _,key _ c₁ _ a b c⟩
theorem K7 {T:String}(W:Walks prog w A.in1 I fp wr n P St)(hn:n<=sizeLine)(hT:∀ h,St 0 h->∃ o,h.get? I=some o/\o.cls=.type T)(h2:(Value.type T==Value.type "list")=false)(h3:(Value.type T==Value.type "tuple")=false)(hint:zT prog w I St)
 (S:Addr)(fF:St 0 s.heap)(hSf:S∉fp)(hI:I∈fp)(hS:s.heap.get? S=some { cls:=.type "list", data:=.seq #[] })
 (hR:∀ h' tk oB c',(∀ b o,b∉S::wr->s.heap.get? b=some o->h'.get? b=some o)->h'.get? S=some { cls:=.type "list", dict:=none,data:=.seq oB c',slots:=#[] }->ItemsOf P oB n->R (.ok (.ret .none)) { s with heap:=h',toks:=tk }):
 wpAny (model prog w) A.in1 (Builtin.«list.__init__» ⟨[.ref S,.ref I],[]⟩)
  (fun fin s'=>match fin with|.done f=>R (.ok f) s'|.again c'=>c'.quiet=true/\codeAny (model prog w) A c' R s') (fun e s'=>R (.error e) s') s:=by
 show wpAny _ A.in1 (do let old <-Builtin.List.listItems (.ref S);Builtin.List.listUpdate (.ref S) (fun _=>#[]);letGo old.toList.reverse;Builtin.List.listExtendWith (.ref S) (.ref I) .none) _ _ s
 refine wpAny_bind ?_
 unfold Builtin.List.listItems
 refine wpAny_bind (wpAny_seqItems hS rfl (wpAny_pure ?_))
 show wpAny _ A.in1 (updateSeq S (fun _=>#[]) >>= fun _=>letGo (#[]:Array Value).toList.reverse >>= fun _=>Builtin.List.listExtendWith (.ref S) (.ref I) .none) _ _ s
 refine wpAny_bind (wpAny_updateSeq hS rfl ?_)
 have hS₂:=Heap.get?_update_self (Obj.mapSeq (fun _=>(#[]:Array Value))) hS rfl
 have oth:∀ b o,b≠S->s.heap.get? b=some o->(s.heap.update S (Obj.mapSeq (fun _=>(#[]:Array Value)))).get? b=some o :=
 fun b o hb e=>(Heap.get?_update_other _ _ (Ne.symm hb)).trans e
 refine wpAny_bind (wpAny_letGo ?_)
 refine PQ W hn hT h2 h3 hint S .none _ (W.frame _ _ _ fF fun b hb o e=>oth b o (fun h=>hSf (h▸hb)) e) hSf hI hS₂ fun h' tk oB c' hm hS' hacc=>?_
 exact hR h' tk oB c' (fun b o hb e=>hm b o hb (oth b o (fun z=>hb (by rw[z];exact List.mem_cons_self ..)) e)) hS' hacc
end
section
variable {prog:Program}{w:World}{A:Around}{E:Value->Shared->Prop}{s:Shared}{I:Addr}{fp wr:List Addr}{n:Nat}{P:Nat->Value->Prop}{St:Nat->Heap->Prop}
theorem zK {T:String}{Q:Value->Shared->Prop}(W:Walks prog w A.in1.in1 I fp wr n P St)(hn:n<=sizeLine)(hT:∀ h,St 0 h->∃ o,h.get? I=some o/\o.cls=.type T)(h2:(Value.type T==Value.type "list")=false)(h3:(Value.type T==Value.type "tuple")=false)(hint:zT prog w I St)
  (fF:St 0 s.heap)(hfp:∀ b∈fp,b<s.heap.objs.size)(hI:I∈fp)
  (hQ:∀ h' tk oB c',(∀ b o,b∉wr->s.heap.get? b=some o->h'.get? b=some o)->h'.get? s.heap.objs.size=some { cls:=.type "list", dict:=none,data:=.seq oB c',slots:=#[] }->ItemsOf P oB n->Q (.ref s.heap.objs.size) { s with heap:=h',toks:=tk }):
  wpAny (model prog w) A (call (.type "list") [.ref I]) Q E s:=by
 have hSf:s.heap.objs.size∉fp:=fun hm=>Nat.lt_irrefl _ (hfp _ hm)
 refine callType_codes (Q₁:=fun obj s₁=>obj=.ref s.heap.objs.size/\s₁ = { s with heap:=s.heap.push { cls:=.type "list", data:=.seq #[] } }) F.called_list (F.typeCall_list_1 _) F.entry_list_init
  (code_list_new _ ⟨rfl,rfl⟩) fun obj s₁ h₁=>?_
 obtain⟨rfl,rfl⟩:=h₁
 have hS:(s.heap.push { cls:=.type "list", data:=.seq #[] }).get? s.heap.objs.size=some { cls:=.type "list", data:=.seq #[] }:=Heap.get?_push_size _ rfl
 refine⟨⟨_,hS,rfl⟩,F.args_list_init_2 _ _,K7 (A:=A.in1) W hn hT h2 h3 hint _ (W.frame _ _ _ fF fun b _ o e=>Heap.get?_push_of_some _ e) hSf hI hS fun h' tk oB c' hk hS' hacc=>?_⟩
 refine⟨rfl,hQ h' tk oB c' (fun b o hb e=>hk b o (fun z=>?_) (Heap.get?_push_of_some _ e)) hS' hacc⟩
 rcases List.mem_cons.mp z with z|z
 ·exact absurd (Heap.lt_size e) (by rw[z];exact Nat.lt_irrefl _)
 ·exact hb z
end
end PySem
end
section
namespace PySem
namespace F
theorem NT:typeLookup (.type "list_reverseiterator") "__len__" = pure none:=by rw[typeLookup_type,builtinLookup_eq_fast];kernel_rfl
theorem SJ:typeLookup (.type "list_reverseiterator") "__length_hint__" = pure (some (.builtin "list_reverseiterator.__length_hint__")):=by rw[typeLookup_type,builtinLookup_eq_fast];kernel_rfl
end F
section
variable {prog:Program}{w:World}
theorem UO {I l:Addr}{items:Array Value}:zT prog w I (fun i h=>i<=items.size/\h.IsRevIter I l ((items.size:Int)-1-(i:Int))/\h.IsList l items):=fun A s Q E fF hQ=>by
 have hT:=fF.2.1.typeIs
 unfold Builtin.List.listLengthHint
 refine wpAny_bind (wpAny_specialOf hT F.NT ?_)
 refine wpAny_ite_split (fun eB=>absurd eB (by decide)) (fun _=>?_)
 refine wpAny_ite_split (fun eB=>absurd eB (by decide)) (fun _=>?_)
 refine wpAny_bind (wpAny_specialOf hT F.SJ ?_)
 generalize hid:("list_reverseiterator.__length_hint__" : String)=id0
 wp_delta
 rw[show splitId id0=some ("list_reverseiterator","__length_hint__")from by subst hid;decide +kernel]
 subst hid
 refine wpAny_bind (wpAny_isInstance (T :="list_reverseiterator") (b:=true) hT (by rw[isSubtype_type];kernel_rfl) ?_)
 refine wpAny_ite_split (fun eB=>absurd eB (by decide)) (fun _=>?_)
 refine wpAny_ite_split (fun _=>?_) (fun eB=>absurd (by decide +kernel) eB)
 refine wpAny_ite_split (fun eB=>absurd eB (by decide +kernel)) (fun _=>?_)
 exact wpAny_pure (hQ false s.toks)
end
end PySem
end
section
namespace PySem
open PyProof.Rows
namespace F
theorem OY:typeLookup (.type "tuple") "__reversed__" = pure none:=by rw[typeLookup_type,builtinLookup_eq_fast];kernel_rfl
theorem KL:typeLookup (.type "tuple") "__getitem__" = pure (some (.builtin "tuple.__getitem__")):=by rw[typeLookup_type,builtinLookup_eq_fast];kernel_rfl
theorem NH:typeLookup (.type "reversed") "__len__" = pure none:=by rw[typeLookup_type,builtinLookup_eq_fast];kernel_rfl
theorem yL:Manifest.owners.lookup (String.ofList ['d','e','s','r','e','v','e','r'].reverse)=some Manifest.sig_reversed:=by kernel_rfl
theorem jW:Slot "reversed" "__next__" "reversed.__next__" :=
 .of (owner :="reversed") (n :="__next__") (by rw[typeLookup_type,builtinLookup_eq_fast];kernel_rfl) (by decide +kernel) (by decide +kernel) (by decide +kernel)
 (by first|exact .inl (by decide +kernel)|exact .inr (by decide +kernel)) (by rw[isSubtype_type];kernel_rfl)
theorem qC:Slot "reversed" "__length_hint__" "reversed.__length_hint__" :=
 .of (owner :="reversed") (n :="__length_hint__") (by rw[typeLookup_type,builtinLookup_eq_fast];kernel_rfl) (by decide +kernel) (by decide +kernel) (by decide +kernel)
 (by first|exact .inl (by decide +kernel)|exact .inr (by decide +kernel)) (by rw[isSubtype_type];kernel_rfl)
theorem yC:Slot "reversed" "__iter__" "reversed.__iter__" :=
 .of (owner :="reversed") (n :="__iter__") (by rw[typeLookup_type,builtinLookup_eq_fast];kernel_rfl) (by decide +kernel) (by decide +kernel) (by decide +kernel)
 (by first|exact .inl (by decide +kernel)|exact .inr (by decide +kernel)) (by rw[isSubtype_type];kernel_rfl)
theorem uU:entryFor table "reversed.__next__" = some Builtin.«reversed.__next__»:=entryFor_of_tree (by kernel_rfl)
theorem EW:entryFor table "reversed.__length_hint__" = some Builtin.«reversed.__length_hint__»:=entryFor_of_tree (by kernel_rfl)
theorem tK (a:Value):argsOk "reversed.__next__" ⟨[a],[]⟩:=by
 unfold argsOk;rw[signature?_of (id :="reversed.__next__") (n:=['_','_','t','x','e','n','_','_']) (o:=['d','e','s','r','e','v','e','r']) (by kernel_rfl) yL];kernel_rfl
theorem DJ (a:Value):argsOk "reversed.__length_hint__" ⟨[a],[]⟩:=by
 unfold argsOk;rw[signature?_of (id :="reversed.__length_hint__") (n :="__length_hint__".toList.reverse) (o:=['d','e','s','r','e','v','e','r']) (by kernel_rfl) yL];kernel_rfl
theorem D1 (a:Value):argsOk "reversed.__iter__" ⟨[a],[]⟩:=by
 unfold argsOk;rw[signature?_of (id :="reversed.__iter__") (n:=['_','_','r','e','t','i','_','_']) (o:=['d','e','s','r','e','v','e','r']) (by kernel_rfl) yL];kernel_rfl
theorem FG:entryFor table "reversed.__iter__" = some Builtin.«dict_keyiterator.__iter__» :=
 entryFor_alias (id' :="dict_keyiterator.__iter__") (by kernel_rfl) (by first|rfl|decide +kernel|(unfold String.splitOn;simp +decide [String.splitOnAux])) (by decide +kernel) (by kernel_rfl)
end F
end PySem
end
section
namespace PySem
open PyProof.Rows
section
variable {prog:Program}{w:World}{A:Around}{E:Value->Shared->Prop}{s:Shared}
def NR (t:Addr)(i:Int):Obj:={ cls:=.type "reversed", data:=.fields #[.ref t,rawInt i] }
def Heap.lI (h:Heap)(a t:Addr)(i:Int):Prop:=∃ o,h.get? a=some o/\o.cls=.type "reversed" /\ o.data=.fields #[.ref t,rawInt i]
theorem Heap.lI.typeIs {a t:Addr}{i:Int}(x:s.heap.lI a t i):s.TypeIs (.ref a) "reversed":=let⟨o,ho,hc,_⟩:=x;⟨o,ho,hc⟩
theorem Heap.lI.at {h h':Heap}{a t:Addr}{i:Int}(x:h.lI a t i)(e:∀ o,h.get? a=some o->h'.get? a=some o):h'.lI a t i:=let⟨o,ho,r⟩:=x;⟨o,e _ ho,r⟩
theorem zU {t:Addr}{items:Array Value}{Q₁:Value->Shared->Prop}(ht:IsTup s.heap t items)(oA:(items.size:Int)<2 ^ 63)
 (h:Q₁ (.ref s.heap.objs.size) { s with heap:=s.heap.push (NR t ((items.size:Int)-1)),toks:=s.toks+1+1 }):
 codeAny (model prog w) A (.call (.builtin "reversed.__new__") ⟨[.type "reversed", .ref t],[]⟩) (wants Q₁ E) s:=by
 refine codeAny_of_tree ?_
 show wpAny _ A.in1 (do checkBuiltinCall "reversed.__new__" ⟨[.type "reversed", .ref t],[]⟩;again (.builtin "reversed.__new__" ⟨[.type "reversed", .ref t],[]⟩)) _ _ s
 refine wpAny_bind (wpAny_of_eq (F.newCall_reversed_1 _) (wpAny_pure ⟨plainId_quiet F.plain_reversed_new _,codeAny_builtin F.entry_reversed_new ?_⟩))
 rw[Around.under_plainId F.plain_reversed_new _]
 unfold Builtin.«reversed.__new__»
 refine wpAny_bind (wpAny_of_eq (newClass_reversed _) ?_)
 try dsimp only
 refine wpAny_bind (wpAny_of_eq (a:=()) (by first|rfl|kernel_rfl) ?_)
 refine wpAny_bind (wpAny_of_eq (a:=()) (by first|rfl|kernel_rfl) ?_)
 try dsimp only
 refine wpAny_bind (wpAny_specialOf ht.typeIs F.OY ?_)
 try dsimp only
 refine wpAny_bind ?_
 wp_delta
 refine wpAny_bind (wpAny_isInstance (T :="tuple") (b:=false) ht.typeIs (by rw[isSubtype_type];kernel_rfl) ?_)
 refine wpAny_ite_split (fun eB=>absurd eB (by decide)) (fun _=>?_)
 refine wpAny_bind (wpAny_specialOf ht.typeIs F.KL ?_)
 refine wpAny_ite_split (fun _=>?_) (fun eB=>absurd (by decide +kernel) eB)
 refine wpAny_pure ?_
 refine wpAny_ite_split (fun eB=>absurd eB (by decide)) (fun _=>?_)
 refine wpAny_bind (len_tuple ht oA ?_)
 refine wpAny_bind (m:=asInt? _) (wpAny_pure ?_)
 refine wpAny_bind (m:=Builtin.SmallTypes.newRecord (.type "reversed") [Value.ref t,rawInt ((items.size:Int)-1)]) ?_
 show wpAny _ _ (newObj (.type "reversed") (.fields #[Value.ref t,rawInt ((items.size:Int)-1)])) _ _ _
 exact wpAny_newObj_type (wpAny_pure h)
theorem A9 {it t:Addr}{i:Int}{Q:Value->Shared->Prop}(hit:s.heap.lI it t i)(h:Q (.ref it) s):wpAny (model prog w) A (pyIter (.ref it)) Q E s:=by
 refine wpAny_pyIter_slot hit.typeIs F.yC (wpAny_call_entry F.yC hit.typeIs F.FG ?_ (F.D1 _))
 show wpAny _ _ (ret (.ref it)) _ _ s
 exact wpAny_pure ⟨_,rfl,"reversed", _,hit.typeIs,F.jW.lookup,h⟩
theorem uE {it t:Addr}{i:Nat}{items:Array Value}{x:Value}{Q:Option Value->Shared->Prop}(hit:s.heap.lI it t (i:Int))(ht:IsTup s.heap t items)(oA:(items.size:Int)<2 ^ 63)(hx:items[i]? = some x)
  (hQ:∀ h',h'.lI it t ((i:Int)-1)->Heap.SameBut it s.heap h'->Q (some x) { s with heap:=h',toks:=s.toks+1 }):wpAny (model prog w) A (pyNext (.ref it)) Q E s:=by
 obtain⟨o,ho,hc,hd⟩:=id hit
 have hi:i<items.size:=by
  rcases Nat.lt_or_ge i items.size with z|z
  ·exact z
  ·rw[Array.getElem?_eq_none z]at hx;cases hx
 unfold pyNext
 refine wpAny_bind (wpAny_attempt (wpAny_callSpecial?_slot (name:=Str.ofString "__next__") hit.typeIs F.jW
  (wpAny_call_entry F.jW hit.typeIs F.uU ?_ (F.tK _))))
 unfold Builtin.«reversed.__next__»
 refine wpAny_bind (wpAny_of_eq (a:=(Value.ref it,[])) rfl ?_)
 try dsimp only
 refine wpAny_bind (wpAny_field ho hd (x:=.ref t) rfl ?_)
 refine wpAny_bind (wpAny_field ho hd (x:=rawInt (i:Int)) rfl ?_)
 show wpAny _ _ (if(i:Int)<0 then _ else _) _ _ s
 rw[if_neg (by omega)]
 refine wpAny_bind (wpAny_specialOf ht.typeIs F.KL ?_)
 refine wpAny_ite_split (fun eB=>absurd eB (by decide)) (fun _=>?_)
 refine wpAny_bind (wpAny_mkInt ?_)
 refine wpAny_bind (wpAny_attempt (PyProof.Rows.getItem_tuple (j:=i) ht (by omega) (by omega) (seqIndex_of (by omega) (by omega)) hx ?_))
 refine wpAny_bind (wpAny_field ho hd (x:=rawInt (i:Int)) rfl ?_)
 refine wpAny_bind (wpAny_setField ho hd (by simp) ?_)
 first
 |refine wpAny_pure ⟨x,rfl,wpAny_pure (hQ _ ?_ (Heap.SameBut.update ..))⟩
 |refine wpAny_bind (wpAny_pure (wpAny_pure ⟨x,rfl,wpAny_pure (hQ _ ?_ (Heap.SameBut.update ..))⟩))
 exact⟨_,Heap.get?_update_self _ ho (Obj.isFreed_of_fields (Obj.data_mapFields hd _)),(Obj.cls_mapFields ..).trans hc,by
  rw[Obj.data_mapFields hd];simp⟩
end
end PySem
end
section
namespace PySem
open PyProof.Rows
section
variable {prog:Program}{w:World}{A:Around}{E:Value->Shared->Prop}{s:Shared}
theorem uL {it t:Addr}{Q:Option Value->Shared->Prop}(hh:A.handled=none)(hit:s.heap.lI it t (-1))
 (hQ:∀ h',Heap.ExtBut it s.heap h'->Q none { s with heap:=h' }):wpAny (model prog w) A (pyNext (.ref it)) Q E s:=by
 obtain⟨o,ho,hc,hd⟩:=id hit
 unfold pyNext
 refine wpAny_bind (wpAny_attempt (wpAny_callSpecial?_slot (name:=Str.ofString "__next__") hit.typeIs F.jW
 (wpAny_call_entry F.jW hit.typeIs F.uU ?_ (F.tK _))))
 unfold Builtin.«reversed.__next__»
 refine wpAny_bind (wpAny_of_eq (a:=(Value.ref it,[])) rfl ?_)
 try dsimp only
 refine wpAny_bind (wpAny_field ho hd (x:=.ref t) rfl ?_)
 refine wpAny_bind (wpAny_field ho hd (x:=rawInt (-1)) rfl ?_)
 show wpAny _ _ (if(-1:Int)<0 then _ else _) _ _ s
 rw[if_pos (by decide)]
 refine wpAny_bind (wpAny_rule ?_)
 refine wpAny_bind ?_
 wp_delta
 have ho2:=Heap.get?_update_self (Obj.mapFields (·.setIfInBounds 1 (rawInt (-1)))) ho (Obj.isFreed_of_fields (Obj.data_mapFields hd _))
 refine wpAny_bind (wpAny_setField ho hd (by simp) ?_)
 refine wpAny_setField ho2 (Obj.data_mapFields hd _) (by simp) ?_
 first
 |show wpAny _ _ (newExc (.type "StopIteration") [] >>= _) _ _ _
 |(refine wpAny_bind ?_;show wpAny _ _ (newExc (.type "StopIteration") [] >>= _) _ _ _)
 refine wpAny_bind ?_
 simp only[newExc,newTuple]
 refine wpAny_bind (wpAny_newObj_type ?_ (by size_fits))
 refine wpAny_bind (m:=firstArgMember _ _) (wpAny_of_eq (a:=Value.none) (by first|rfl|(simp only[firstArgMember];rfl)) ?_)
 refine wpAny_newObj_type ?_ (by size_fits)
 simp only[raiseNew]
 refine wpAny_bind (wpAny_handled ?_)
 first|rw[show A.in1.handled=none from hh]|rw[hh]
 refine wpAny_bind (wpAny_pure (wpAny_throw ?_))
 refine wpAny_bind (wpAny_isInstance (T :="StopIteration") (b:=true) ⟨_,Heap.get?_push_size _ rfl,rfl⟩ isSubtype_stop ?_)
 refine wpAny_pure (hQ _ ?_)
 have e1:Heap.ExtBut it s.heap ((s.heap.update it (Obj.mapFields (·.setIfInBounds 1 (rawInt (-1))))).update it (Obj.mapFields (·.setIfInBounds 0 Value.none))):=fun b u hb e =>
 (Heap.get?_update_other _ _ (Ne.symm hb)).trans ((Heap.get?_update_other _ _ (Ne.symm hb)).trans e)
 exact(e1.push _).push _
end
theorem Walks.ZI {prog:Program}{w:World}{A:Around}(hh:A.handled=none)(I l:Addr)(hne:l≠I)(items:Array Value)(oA:(items.size:Int)<2 ^ 63):
  Walks prog w A I [I,l] [I] items.size (fun i v=>items[items.size-1-i]? = some v) (fun i h=>i<=items.size/\h.lI I l ((items.size:Int)-1-(i:Int))/\IsTup h l items) where
 sub:=fun b hb=>by simp at hb;simp [hb]
 frame:=fun _ _ _ x hk=>⟨x.1,x.2.1.at fun o e=>hk I (by simp) o e,let⟨o,ho,r⟩:=x.2.2;⟨o,hk l (by simp) o ho,r⟩⟩
 item:=fun i s Q E hi x hQ=>by
  have e:(items.size:Int)-1-(i:Int)=((items.size-1-i:Nat):Int):=by omega
  have hit:=x.2.1
  rw[e]at hit
  have hx:items[items.size-1-i]? = some (items[items.size-1-i]'(by omega)):=Array.getElem?_eq_getElem (by omega)
  refine uE hit x.2.2 oA hx fun h' hit' eS=>?_
  have e2:((items.size-1-i:Nat):Int)-1=(items.size:Int)-1-((i+1:Nat):Int):=by omega
  rw[e2]at hit'
  exact hQ _ h' _ hx ⟨hi,hit',let⟨o,ho,r⟩:=x.2.2;⟨o,(eS.2 l hne).trans ho,r⟩⟩ fun b o hb eo=>eS.extBut b o (fun h=>hb (by simp [h])) eo
 done:=fun s Q E x hQ=>by
  have e:(items.size:Int)-1-(items.size:Int) = -1:=by omega
  have hit:=x.2.1
  rw[e]at hit
  exact uL hh hit fun h' he'=>hQ h' s.toks fun b o hb eo=>he' b o (fun h=>hb (by simp [h])) eo
 self:=fun _ _ _ _ x hQ=>A9 x.2.1 hQ
section
variable {prog:Program}{w:World}{A:Around}{E:Value->Shared->Prop}{s:Shared}
theorem F.zX:Slot "reversed" "__init__" "object.__init__" :=
 .of (owner :="object") (n :="__init__") (by rw[typeLookup_type,builtinLookup_eq_fast];kernel_rfl) (by decide +kernel) (by decide +kernel) (by decide +kernel)
 (by first|exact .inl (by decide +kernel)|exact .inr (by decide +kernel)) (by rw[isSubtype_type];kernel_rfl)
theorem F.nH:TypeCalled "reversed" "reversed.__new__" "object.__init__" :=
 ⟨by decide +kernel,by decide +kernel,⟨_,_,F.mro_reversed⟩,F.made_reversed,by decide +kernel,by rw[isSubtype_type];kernel_rfl,F.zX⟩
theorem A8 {t:Addr}{items:Array Value}{Q:Value->Shared->Prop}(ht:IsTup s.heap t items)(oA:(items.size:Int)<2 ^ 63)
  (h:Q (.ref s.heap.objs.size) { s with heap:=s.heap.push (NR t ((items.size:Int)-1)),toks:=s.toks+1+1 }):wpAny (model prog w) A (call (.type "reversed") [.ref t]) Q E s:=by
 refine callType_codes (Q₁:=fun obj s₁=>s₁.TypeIs obj "reversed" /\ Q obj s₁) F.nH (F.typeCall_reversed_1 _) F.entry_object_init
  (zU ht oA ⟨⟨_,Heap.get?_push_size _ rfl,rfl⟩,h⟩) fun obj s₁ hq=>⟨hq.1,F.args_object_init_2 obj _,?_⟩
 exact object_init_meets F.nH.init.lookup F.nH.made (by decide) prog w A.in1 _ s₁ ⟨hq.1,rfl,hq.2⟩
theorem TU {I l:Addr}{items:Array Value}(oA:items.size<=sizeLine):zT prog w I (fun i h=>i<=items.size/\h.lI I l ((items.size:Int)-1-(i:Int))/\IsTup h l items):=fun A s Q E fF hQ=>by
 have hit:=fF.2.1
 have hT:=hit.typeIs
 obtain⟨o,ho,hc,hd⟩:=id hit
 have hf:(items.size:Int)<2 ^ 63:=by have:=oA;rw[sizeLine_eq]at this;omega
 unfold Builtin.List.listLengthHint
 refine wpAny_bind (wpAny_specialOf hT F.NH ?_)
 refine wpAny_ite_split (fun eB=>absurd eB (by decide)) (fun _=>?_)
 refine wpAny_ite_split (fun eB=>absurd eB (by decide)) (fun _=>?_)
 refine wpAny_bind (wpAny_specialOf hT F.qC.lookup ?_)
 generalize hid:("reversed.__length_hint__" : String)=id0
 wp_delta
 rw[show splitId id0=some ("reversed","__length_hint__")from by subst hid;decide +kernel]
 subst hid
 refine wpAny_bind (wpAny_isInstance (T :="reversed") (b:=true) hT (by rw[isSubtype_type];kernel_rfl) ?_)
 refine wpAny_ite_split (fun eB=>absurd eB (by decide)) (fun _=>?_)
 refine wpAny_ite_split (fun eB=>absurd eB (by decide +kernel)) (fun _=>?_)
 refine wpAny_bind (wpAny_rule ?_)
 refine wpAny_bind (wpAny_of_eq (F.qC.bind _) ?_)
 refine wpAny_bind (wpAny_attempt (wpAny_call_entry F.qC hT F.EW ?_ (F.DJ _)))
 unfold Builtin.«reversed.__length_hint__»
 refine wpAny_bind (wpAny_of_eq (a:=Value.ref I) rfl ?_)
 refine wpAny_bind (wpAny_field ho hd (x:=.ref l) rfl ?_)
 refine wpAny_ite_split (fun eB=>absurd eB (by simp)) (fun _=>?_)
 refine wpAny_bind (len_tuple fF.2.2 hf ?_)
 refine wpAny_bind (m:=asInt? _) (wpAny_pure ?_)
 refine wpAny_bind (m:=field (.ref I) 1) (wpAny_field ho hd (x:=rawInt ((items.size:Int)-1-((0:Nat):Int))) rfl ?_)
 show wpAny _ _ (if(items.size:Int)<((items.size:Int)-1-((0:Nat):Int))+1 then _ else _) _ _ _
 rw[if_neg (by omega)]
 refine wpAny_bind (wpAny_mkInt (wpAny_pure ⟨_,rfl,?_⟩))
 refine wpAny_bind (m:=asInt? _) (wpAny_pure ?_)
 dsimp only
 have e0:(items.size:Int)-1-((0:Nat):Int)+1=items.size:=by omega
 rw[e0]
 have hfi:Builtin.List.listFitsIndex (items.size:Int)=true:=fitsIndex_both (by omega) hf
 have htl:Builtin.List.listTooLong ((items.size:Int).toNat)=false:=by simp [Builtin.List.listTooLong];exact oA
 rw[hfi,htl]
 refine wpAny_ite_split (fun eB=>absurd eB (by decide)) (fun _=>?_)
 refine wpAny_ite_split (fun eB=>absurd eB (by omega)) (fun _=>?_)
 refine wpAny_ite_split (fun eB=>absurd eB (by decide)) (fun _=>wpAny_pure (hQ _ _))
end
end PySem
end
section
namespace L3
open PySem PySem.Spec PyProof.Rows L2
theorem UB {X:Cx}{pins:List (Addr×Obj)}{σ:L2.St}{H:Hp}{s:Shared}{h':Heap}{t':Nat}{it:Addr}{ys:List V}{aD:List Value}{n:Nat}(I:Inv X pins σ H s)(f:nP X pins H it)(k:∀ b o,b≠it->s.heap.get? b=some o->h'.get? b=some o)
  (new:h'.get? s.heap.objs.size=some { cls:=.type "list", data:=.seq aD.toArray n })(hv:aO ys aD)(hz:ys.length<=sizeLine):Inv X pins σ (upd H s.heap.objs.size (.lst ys)) { s with heap:=h',toks:=t' }:=by
 have hS:=I.fresh
 have neS:∀ b o,s.heap.get? b=some o->b≠s.heap.objs.size:=fun b o e=>Nat.ne_of_lt (Heap.lt_size e)
 have tr:∀ b u,H b=some u->b≠s.heap.objs.size:=fun b u e=>iP e hS
 obtain⟨f0,f1,f2,f3,f4,f5⟩:=f
 refine I.step (g':=s.gens) (d':=s.drawn) (ch:=[it]) (fun b hb=>?_) (fun b o _ _ hc e _=>k b o (fun z=>hc (by simp [z])) e) (fun b o _ _ hc e _=>⟨o.slots,k b o (fun z=>hc (by simp [z])) e⟩) (fun b o _ e n=>by rw[bZ (neS b o e)];exact n)
  (fun b o hc e=>⟨o,k b o (fun z=>hc (by simp [z])) e⟩) (fun b xs e=>by rw[bZ (tr b _ e)];exact e) (fun b o u e=>by rw[bZ (tr b _ e)];exact e) (fun b ps e=>⟨#[],by rw[bZ (tr b _ e),e];simp⟩) (fun m hm=>?_) (fun b u e=>?_) I.bare
 ·have e:b=it:=by simpa using hb
  subst e
  exact⟨f3,f1,f4,f5⟩
 ·obtain⟨o,es,ep,ho,r⟩:=hm
  exact⟨o,es,ep,k _ o (Ne.symm f1) ho,r⟩
 ·by_cases hb:b=s.heap.objs.size
  ·subst hb
   rw[fO]at e;cases e
   exact⟨hz,aD,n,hv,new⟩
  ·rw[bZ hb]at e
   refine(I.cG b u e).CD (fun c v hc q=>k c v ?_ q) (fun c q=>by rw[bZ (tr c _ q)];exact q) fun c xs q=>by rw[bZ (tr c _ q)];exact q
   rcases hc with z|z
   ·rw[z];exact fun y=>by rw[y,f0]at e;cases e
   ·exact fun y=>by rw[y,f0]at z;cases z
theorem P6 {aD:List Value}{acc:Array Value}(h:ItemsOf (fun i v=>aD.toArray[aD.toArray.size-1-i]? = some v) acc aD.toArray.size):acc=aD.reverse.toArray:=by
 obtain⟨h1,h2⟩:=h
 apply Array.ext
 ·rw[h1];simp
 ·intro i hi hi'
  have:aD.toArray[aD.toArray.size-1-i]? = some acc[i]:=h2 i acc[i] (Array.getElem?_eq_getElem hi)
  have hl:i<aD.length:=by rw[h1]at hi;simpa using hi
  have e:aD.toArray[aD.toArray.size-1-i]? = some (aD.reverse.toArray[i]):=by
   simp
  rw[e]at this
  exact(Option.some.inj this).symm
theorem aO.reverse:∀{vs:List V}{us:List Value},aO vs us->aO vs.reverse us.reverse
 |_,_,.nil=>.nil
 |_,_,.cons h t=>by simp only[List.reverse_cons];exact(aO.reverse t).append (.cons h .nil)
section
variable {X:Cx}{C:bO}{sub:Nat->Nat->Bool}{E:XK}{a b c e o tg:Expr}{es:List Expr}{x y z:Ex}{xs:List Ex}{p p2 pos pos2:Pos}{kk:IK}
theorem Ju (hm:X.mg "list" = none)(hm2:X.mg "reversed" = none)(hc:X.calm=true)(ha:PA X [a] (mN X.K (bG C sub E [x])))(hg:X.env.kindOf "list" = some .globalImplicit:=by kernel_rfl)(hg2:X.env.kindOf "reversed" = some .globalImplicit:=by kernel_rfl)
  (he:starEach [.Call (.Name "reversed" p2) [a] [] pos2] X.env=(false,eval (.Call (.Name "reversed" p2) [a] [] pos2) X.env)::starEach [] X.env:=by kernel_rfl)(dC:(backTo pos (starEach [] X.env)).any (·.1)=false:=by kernel_rfl)
  (he2:starEach [a] X.env=(false,eval a X.env)::starEach [] X.env:=by kernel_rfl)(hpl2:(backTo pos2 (starEach [] X.env)).any (·.1)=false:=by kernel_rfl):
  PE X (.Call (.Name "list" p) [.Call (.Name "reversed" p2) [a] [] pos2] [] pos) (cB X.K (aG C sub E (.bit .list .rev [x]))):=by
 intro pins s σ H Q I ⟨σd,st,R,r,ok,q,hq⟩
 simp only[aG]at q
 refine wpAny_Call_Name_kw (nO I hg hm AG ?_ (by decide) (by decide))
 refine PyProof.Rows.callWith_type1 ?_ he dC
 rw[he]
 show wpAny _ _ (spliced ((false,eval (.Call (.Name "reversed" p2) [a] [] pos2) X.env)::backTo pos (starEach [] X.env))) _ _ s
 refine Calls.spliced_cons ?_
 refine wpAny_Call_Name_kw (nO I hg2 hm2 LV ?_ (by decide) (by decide))
 refine PyProof.Rows.callWith_type1 (bE (ha pos2 pins s σ H _ I ⟨σd,st,_,r,ok,q,fun vs H' z=>z⟩) fun us s1 ⟨vs,H1,I1,rv,ds,aC,dJ,aQ,rs,q1⟩=>?_) he2 hpl2
 match ds,rs,q1 with
 |[d],rs,q1 =>
  obtain⟨v,rfl,rd⟩:=rs.one
  obtain⟨u,rfl,ru⟩:=vals1 rv
  have q1:dP d aC fun as xs=>iE xs.reverse aC R:=q1
  obtain⟨l,ws,as,ys,rfl,sa,g,q1⟩:=mX aQ rd q1
  cases ru
  have hh:X.A.handled=none:=I1.ok.hd hc
  have nil:∀{Q':List Value->Shared->Prop}{s':Shared},Q' [] s'->wpAny (model X.prog X.w) X.A (spliced (backTo pos (starEach [] X.env))) Q' X.xe s':=fun h=>Calls.spliced_nil h
  have fin:∀(aD:List Value)(s2:Shared)(h':Heap)(tk:Nat)(acc:Array Value)(cc:Nat),aO ws aD->ws.length<=sizeLine->Inv X pins σ H1 s2->nP X pins H1 s1.heap.objs.size->(∀ b o,b∉[s1.heap.objs.size]->s2.heap.get? b=some o->h'.get? b=some o) ->
    h'.get? s2.heap.objs.size=some { cls:=.type "list", dict:=none,data:=.seq acc cc,slots:=#[] }->ItemsOf (fun i v=>aD.toArray[aD.toArray.size-1-i]? = some v) acc aD.toArray.size->EP X pins σ Q (.ref s2.heap.objs.size) { s2 with heap:=h',toks:=tk }:=by
   intro aD s2 h' tk acc cc hv hz I2 f2 k2 hS hacc
   have ea:=P6 hacc
   subst ea
   refine⟨.ref s2.heap.objs.size,_,UB I2 f2 (fun b o hb e=>k2 b o (by simpa using hb) e) hS (aO.reverse hv) (by simpa using hz),rfl,hq _ _ (.after dJ ?_)⟩
   exact .iE aQ g.reverse I2.fresh q1.2
  rcases sa with sa|sa
  ·obtain⟨aD,r1,pl,hz⟩:=I1.list sa
   have hl:=pl.isList
   have dU:l<s1.heap.objs.size:=by obtain⟨_,e,_⟩:=hl;exact Heap.lt_size e
   have hzz:aD.toArray.size<=sizeLine:=by simp;rw[<-r1.length];exact hz
   refine call_reversed_list hl (nil ?_)
   have I2:Inv X pins σ H1 { s1 with heap:=s1.heap.push (revObj l ((aD.toArray.size:Int)-1)) }:=I1.kept (t':=s1.toks) fun b o e=>Heap.get?_push_of_some _ e
   have W:=fun A hA=>Walks.listRev (prog:=X.prog) (w:=X.w) (A:=A) hA s1.heap.objs.size l (Nat.ne_of_lt dU) aD.toArray
   refine zK (W _ hh) hzz (fun h st=>let⟨o,ho,hcl,_⟩:=st.2.1;⟨o,ho,hcl⟩) (by decide) (by decide) UO ⟨Nat.zero_le _,⟨_,Heap.get?_push_size _ rfl,rfl,by simp [revObj]⟩,hl.push _⟩ (fun b hb=>?_) (by simp) fun h' tk acc cc k hS hacc=>?_
   ·show b<(s1.heap.push _).objs.size
    rw[Heap.size_push]
    rcases List.mem_cons.mp hb with rfl|hb
    ·exact Nat.lt_succ_self _
    ·rcases List.mem_cons.mp hb with rfl|hb
     ·exact Nat.lt_succ_of_lt dU
     ·cases hb
   ·exact fin aD _ h' tk acc cc r1 hz I2 (I1.JY (Nat.le_refl _) I1.fresh) k hS hacc
  ·obtain⟨aD,r1,pl,hz⟩:=I1.tuple sa
   have dU:l<s1.heap.objs.size:=by obtain⟨_,e,_⟩:=pl;exact Heap.lt_size e
   have hzz:aD.toArray.size<=sizeLine:=by simp;rw[<-r1.length];exact hz
   have oA:(aD.toArray.size:Int)<2 ^ 63:=by have:=hzz;rw[sizeLine_eq]at this;omega
   refine A8 pl oA (nil ?_)
   have I2:Inv X pins σ H1 { s1 with heap:=s1.heap.push (NR l ((aD.toArray.size:Int)-1)),toks:=s1.toks+1+1 }:=I1.kept (t':=s1.toks+1+1) fun b o e=>Heap.get?_push_of_some _ e
   have W:=fun A hA=>Walks.ZI (prog:=X.prog) (w:=X.w) (A:=A) hA s1.heap.objs.size l (Nat.ne_of_lt dU) aD.toArray oA
   refine zK (W _ hh) hzz (fun h st=>let⟨o,ho,hcl,_⟩:=st.2.1;⟨o,ho,hcl⟩) (by decide) (by decide) (TU hzz) ⟨Nat.zero_le _,⟨_,Heap.get?_push_size _ rfl,rfl,by simp [NR]⟩,let⟨o,ho,r⟩:=pl;⟨o,Heap.get?_push_of_some _ ho,r⟩⟩ (fun b hb=>?_) (by simp) fun h' tk acc cc k hS hacc=>?_
   ·show b<(s1.heap.push _).objs.size
    rw[Heap.size_push]
    rcases List.mem_cons.mp hb with rfl|hb
    ·exact Nat.lt_succ_self _
    ·rcases List.mem_cons.mp hb with rfl|hb
     ·exact Nat.lt_succ_of_lt dU
     ·cases hb
   ·exact fin aD _ h' tk acc cc r1 hz I2 (I1.JY (Nat.le_refl _) I1.fresh) k hS hacc
theorem Kl (hm:X.mg "list" = none)(hm2:X.mg "reversed" = none)(ha:JA X C sub E [a] [x])(hc:X.calm=true:=by kernel_rfl)(hg:X.env.kindOf "list" = some .globalImplicit:=by kernel_rfl)(hg2:X.env.kindOf "reversed" = some .globalImplicit:=by kernel_rfl)
 (he:starEach [.Call (.Name "reversed" p2) [a] [] pos2] X.env=(false,eval (.Call (.Name "reversed" p2) [a] [] pos2) X.env)::starEach [] X.env:=by kernel_rfl)(dC:(backTo pos (starEach [] X.env)).any (·.1)=false:=by kernel_rfl)
 (he2:starEach [a] X.env=(false,eval a X.env)::starEach [] X.env:=by kernel_rfl)(hpl2:(backTo pos2 (starEach [] X.env)).any (·.1)=false:=by kernel_rfl):
 JE X C sub E (.Call (.Name "list" p) [.Call (.Name "reversed" p2) [a] [] pos2] [] pos) (.bit .list .rev [x]):=⟨Ju hm hm2 hc ha.h hg hg2 he dC he2 hpl2⟩
end
end L3
end
section
namespace L3
open PySem PySem.Spec PyProof.Rows L2
theorem Dt {K:PySem.W.Frag}{h:Heap}{mg:Str->Option Value}(X:K.In h)(G:h.Ns mainGlobals mg){n:Str}{i:Int}{t:Tok}(a:PySem.W.nsIn K mainGlobals n=some (some (.int i t))):GC K mg n (.int i):=⟨_,.int i,PySem.W.mg_of X G a,⟨t,rfl⟩,fun _=>.int i⟩
theorem Cc {K:PySem.W.Frag}{h:Heap}{mg:Str->Option Value}(X:K.In h)(G:h.Ns mainGlobals mg){n:Str}{x:Str}{w:List Nat}{t:Tok}(a:PySem.W.nsIn K mainGlobals n=some (some (.str x t)))(e:x=⟨w.toArray⟩):GC K mg n (.str w):=⟨_,.str x,PySem.W.mg_of X G a,⟨t,rfl⟩,fun _=>by rw[e];exact .str w⟩
def NY:D->Value->Bool
 |.non,.none=>true
 |.bl b,.bool c=>b==c
 |.int i,.int j _=>i==j
 |.str w,.str x _=>w==x.cps.toList
 |_,_=>false
def HP:List D->List Value->Bool
 |[],[]=>true
 |d::ds,u::us=>NY d u&&HP ds us
 |_,_=>false
def U1:D->V
 |.bl b=>.bl b
 |.int i=>.int i
 |.str w=>.str ⟨w.toArray⟩
 |_=>.non
theorem UE {K:PySem.W.Frag}{H:Hp}{d:D}{u:Value}(h:NY d u=true):L2.RelV (U1 d) u/\Rep K H d (U1 d):=by
 unfold NY at h
 split at h
 ·exact⟨rfl,.non⟩
 ·exact⟨by rw[eq_of_beq h];rfl,.bl _⟩
 ·exact⟨⟨_,by rw[eq_of_beq h]⟩,.int _⟩
 ·rename_i w x t
  exact⟨⟨t,by rw[eq_of_beq h]⟩,.str w⟩
 ·cases h
theorem IW {K:PySem.W.Frag}{H:Hp}:∀{ds:List D}{us:List Value},HP ds us=true->aO (ds.map U1) us/\aL K H ds (ds.map U1)
 |[],[],_=>⟨.nil,.nil⟩
 |d::ds,u::us,h=>by
  simp only[HP,Bool.and_eq_true]at h
  have r:=UE (K:=K) (H:=H) h.1
  have s:=IW (K:=K) (H:=H) h.2
  exact⟨.cons r.1 s.1,.cons r.2 s.2⟩
 |[],_::_,h=>by cases h
 |_::_,[],h=>by cases h
theorem RZ {K:PySem.W.Frag}{h:Heap}{mg:Str->Option Value}(X:K.In h)(G:h.Ns mainGlobals mg){n:Str}{ds:List D}{p:Addr}{aD:Array Value}{k:Nat}{sl:Array (Option Value)}(a:PySem.W.nsIn K mainGlobals n=some (some (.ref p)))
 (l:K.lookup p=some ⟨.type "tuple", none,.seq aD k,sl⟩)(f:HP ds aD.toList=true)(z:Nat.ble aD.size 1000=true):GC K mg n (.tup ds):=by
 refine⟨_,.ref p,PySem.W.mg_of X G a,rfl,fun H=>?_⟩
 have s:=IW (K:=K) (H:=H) f
 exact .tup (.inr ⟨_,aD,k,l,rfl,rfl,rfl,Nat.le_of_lt (PK (Nat.le_of_ble_eq_true z)),s.1⟩) s.2
end L3
end
section
namespace L3
open PySem PySem.Spec PyProof.Rows L2
def Bv (hi:Int)(n:Nat):It:=⟨fun i _=>i<n,fun i H x H'=>H'=H/\x=.int (hi-i),fun i _=>n<=i⟩
theorem RA {P:Program}{w:World}{K:PySem.W.Frag}{tg:Expr}(it:Addr)(lo:Int)(n:Nat):Turn P w K tg (Bv lo n) [it] it (fun i h=>IsRangeIter h it (lo+(i:Nat)*(-1)) ((n:Int)-(i:Nat)) (-1)) where
 mem:=by simp
 obj:=fun i h st b hb=>by
  have e:b=it:=by simpa using hb
  subst e
  exact⟨_,st,fun v z=>by
   have z':Data.fields _=Data.cell v:=z
   cases z'⟩
 keep:=fun i h h' st k=>k it (by simp) _ st
 item:=by
  intro X hP hw hK hc i pins s σ H E I hf st hg
  subst hP hw hK
  obtain⟨f0,f1,f2,f3,f4,f5⟩:=hf it (by simp)
  have W:=Walks.range (prog:=X.prog) (w:=X.w) (I.ok.hd hc) it lo (-1) n
  refine W.item i s _ _ hg st fun v h' tk hv aA kk=>?_
  obtain⟨t,rfl⟩:=hv
  have I1:Inv X pins σ H { s with heap:=h',toks:=tk }:=I.turned (fun b o hb e=>kk b o (by simpa using hb) e) f0 f1 f3 f4 f5
  refine⟨_,rfl,CT (s:={ s with heap:=h',toks:=tk }) (n :="range_iterator") aA rfl rfl (by decide) ⟨.int (lo-i),H,I1,⟨t,?_⟩,⟨rfl,rfl⟩,aA,fun b hb=>(hf b hb).1⟩⟩
  congr 1;omega
 done:=by
  intro X hP hw hK hc i pins s σ H E I hf st hg
  subst hP hw hK
  obtain⟨f0,f1,f2,f3,f4,f5⟩:=hf it (by simp)
  exact wpAny_pyNext_range_end (I.ok.hd hc) st (by have:n<=i:=hg;omega) fun h' eb=>⟨rfl,I.turned (t':=s.toks) (fun b o hb e=>eb b o hb e) f0 f1 f3 f4 f5⟩
 self:=fun _ _ _ _ _ st h=>wpAny_pyIter_rangeiter st h
theorem UZ {K:PySem.W.Frag}{H1:Hp}{aC:aB}(lo:Int)(n:Nat):B1 K (Bv lo n) [] (oJ lo n) H1 aC where
 go:=fun i H st d s ok _ e=>by
  have:=(List.getElem?_eq_some_iff.mp e).1
  show i<n
  simpa [oJ]using this
 yld:=fun i H st d x H' s ok _ e ⟨e',h⟩=>by
  subst e' h
  simp only[oJ,List.getElem?_map,Option.map_eq_some_iff]at e
  obtain⟨k,e1,rfl⟩:=e
  have:k=i:=by
   rw[List.getElem?_eq_some_iff]at e1
   obtain⟨_,e2⟩:=e1
   simp at e2
   exact e2.symm
  subst this
  exact⟨.refl,ok,.int _⟩
 stop:=fun i H st s ok _ l=>by show n<=i;simpa [oJ]using l
section
variable {X:Cx}{tg:Expr}
theorem RN {pins:List (Addr×Obj)}{σ:L2.St}{H:Hp}{s:Shared}{R:It->Hp->Prop}{E:Value->Shared->Prop}{lo hi:Int}{t u v:Tok}{tk:Nat}(I:Inv X pins σ H s) (h1 : -(2 ^ 62)<=lo)(h2:lo<2 ^ 62) (h3 : -(2 ^ 62)<=hi)(h4:hi<2 ^ 62)
  (q:R (Bv lo (lo-hi).toNat) H):wpAny (model X.prog X.w) X.A (pyIter (.ref s.heap.objs.size)) (PY X pins σ tg R) E { s with heap:=s.heap.push { cls:=.type "range", data:=.fields #[.int lo t,.int hi u,.int (-1) v] },toks:=tk }:=by
 refine wpAny_pyIter_range (IsRange.new ..) (PySem.W.small_down h1 h2 h3 h4) ?_
 have I1:Inv X pins σ H { s with heap:=s.heap.push { cls:=.type "range", data:=.fields #[.int lo t,.int hi u,.int (-1) v] },toks:=tk }:=I.kept fun b o e=>Heap.get?_push_of_some _ e
 refine⟨(s.heap.push { cls:=.type "range", data:=.fields #[.int lo t,.int hi u,.int (-1) v] }).objs.size,[(s.heap.push { cls:=.type "range", data:=.fields #[.int lo t,.int hi u,.int (-1) v] }).objs.size],_,_,H,rfl,
  I1.kept (t':=tk) fun b o e=>Heap.get?_push_of_some _ e,RA _ lo (lo-hi).toNat,?_,fun b hb=>?_,q⟩
 ·have e1:lo+((0:Nat):Int)*(-1)=lo:=by simp
  have e2:(((lo-hi).toNat:Nat):Int)-((0:Nat):Int)=Builtin.Range.rangeSize lo hi (-1):=by rw[PySem.W.rangeSize_downNat];omega
  show IsRangeIter _ _ (lo+((0:Nat):Int)*(-1)) ((((lo-hi).toNat:Nat):Int)-((0:Nat):Int)) (-1)
  rw[e1,e2]
  exact Heap.get?_push_size _ rfl
 ·have e:b=(s.heap.push { cls:=.type "range", data:=.fields #[.int lo t,.int hi u,.int (-1) v] }).objs.size:=by simpa using hb
  subst e
  exact I1.JY (Nat.le_refl _) (I1.cG.fresh (Nat.le_refl _))
variable {C:bO}{sub:Nat->Nat->Bool}{E:XK}{a b c:Expr}{x y z:Ex}{p pos:Pos}
theorem US {d d' d'':L3.D}{st:aB}{R:List Nat->List L3.D->Prop}(h:gN (some .range) [d,d',d''] st R):∃ i j c,d=.int i/\d'=.int j/\d''=.int c:=by
 unfold gN at h
 split at h
 all_goals first|(rename_i h1 h2;cases h2;exact⟨_,_,_,rfl,rfl,rfl⟩)|(rename_i h1 h2;cases h2)|(rename_i h1 h2;cases h1)|exact h.elim
theorem Og (m:bX C C)(hm:X.mg "range" = none)(ha:JA X C sub E [a,b,c] [x,y,z])(hg:X.env.kindOf "range" = some .globalImplicit:=by kernel_rfl)
  (hs:starEach [a,b,c] X.env=[(false,eval a X.env),(false,eval b X.env),(false,eval c X.env)]:=by kernel_rfl)(hs2:starEach [b,c] X.env=[(false,eval b X.env),(false,eval c X.env)]:=by kernel_rfl):
  JI X C sub E tg (.Call (.Name "range" p) [a,b,c] [] pos) (some .range) [x,y,z]:=⟨by
 intro pins s σ H R I ⟨σd,st,M,r,ok,q,hq⟩
 refine Call_ (nO I hg hm TC (PyProof.Rows.callWith_type1 (bE (ha.h pos pins s σ H _ I ⟨σd,st,_,r,ok,sC [x,y,z] m q,fun vs H' z=>z⟩) fun us s1 ⟨vs,H1,I1,rv,ds,aC,dJ,aQ,rs,l1,q1⟩=>?_) (by rw[hs,hs2]) (by rw[hs2];rfl)))
 obtain⟨d,d',d'',rfl⟩:∃ d d' d'',ds=[d,d',d'']:=by
  match ds,l1 with
  |[d,d',d''],_=>exact⟨d,d',d'',rfl⟩
 have q1:gN (some .range) [d,d',d''] aC fun as xs=>M as xs aC:=q1
 obtain⟨i,j,c,rfl,rfl,rfl⟩:=US q1
 cases rs with|cons r1 rs=>cases rs with|cons r2 rs=>cases rs with|cons r3 rs =>
  cases rs
  cases r1.int_inv;cases r2.int_inv;cases r3.int_inv
  rw[CZ]at q1
  obtain⟨rfl,⟨a1,a2⟩,⟨b1,b2⟩,q1⟩:=q1
  cases rv with|cons v1 rv=>cases rv with|cons v2 rv=>cases rv with|cons v3 rv =>
   cases rv
   obtain⟨t1,rfl⟩:=v1
   obtain⟨t2,rfl⟩:=v2
   obtain⟨t3,rfl⟩:=v3
   exact call_range_3 (by decide) (RN I1 a1 a2 b1 b2 (hq _ _ ⟨_,_,aC,dJ,aQ,UZ _ _,q1⟩))⟩
end
end L3
end
section
namespace L3
open PySem PySem.Spec PyProof.Rows L2
def By:D->PyData
 |.bl b=>.bool b
 |.int i=>.int i
 |.str w=>.str ⟨w.toArray⟩
 |_=>.none
def Kt:D->Bool
 |.non=>true
 |.bl _=>true
 |.int _=>true
 |.str _=>true
 |_=>false
def wF:List D->List D->List (Str×PyData)
 |.str w::ks,v::vs=>(⟨w.toArray⟩,By v)::wF ks vs
 |_,_=>[]
def U2:List D->List D->Bool
 |[],[]=>true
 |.str _::ks,v::vs=>Kt v&&U2 ks vs
 |_,_=>false
theorem Ep {v:D}(h:Kt v=true):sW (By v)=v/\oM (By v)=true:=by
 cases v<;>first|exact⟨rfl,rfl⟩|cases h
theorem O8:∀{ks vs:List D},U2 ks vs=true->((wF ks vs).all fun p=>oM p.2)=true/\ks=(wF ks vs).map (fun p=>.str p.1.cps.toList)/\vs=(wF ks vs).map (fun p=>sW p.2)
 |[],[],_=>⟨rfl,rfl,rfl⟩
 |.str w::ks,v::vs,h=>by
  simp only[U2,Bool.and_eq_true]at h
  obtain⟨a,b,c⟩:=O8 h.2
  obtain⟨d,e⟩:=Ep h.1
  refine⟨?_,?_,?_⟩
  ·simp only[wF,List.all_cons,e,a,Bool.and_self]
  ·simp only[wF,List.map_cons];rw[<-b]
  ·simp only[wF,List.map_cons,d];rw[<-c]
 |[],_::_,h=>by cases h
 |.str _::_,[],h=>by cases h
 |.non::_,_,h=>by cases h
 |.bl _::_,_,h=>by cases h
 |.int _::_,_,h=>by cases h
 |.tup _::_,_,h=>by cases h
 |.ref _::_,_,h=>by cases h
 |.dB _ _::_,_,h=>by cases h
 |.bP _::_,_,h=>by cases h
 |.exc _::_,_,h=>by cases h
theorem Bw {K:PySem.W.Frag}{h:Heap}{mg:Str->Option Value}(X:K.In h)(G:h.Ns mainGlobals mg){n:Str}{ks vs:List D}{p:Addr}{es:Array DictEntry}{ep:Nat}(a:PySem.W.nsIn K mainGlobals n=some (some (.ref p)))
 (l:K.lookup p=some ⟨.type "dict", none,.dict es ep,#[]⟩)(f:(KTD.rowsLook KTD.flatLooks es.toList (wF ks vs)&&U2 ks vs && !(p==sysModules))=true):GC K mg n (.dB ks vs):=by
 simp only[Bool.and_eq_true]at f
 obtain⟨⟨f1,f2⟩,f3⟩:=f
 obtain⟨a1,a2,a3⟩:=O8 f2
 refine⟨_,.ref p,PySem.W.mg_of X G a,rfl,fun H=>.dB ⟨wF ks vs,?_,a1,a2,a3⟩⟩
 simp only[KTD.tabLook,l,f1,f3]
 rfl
end L3
end
section
namespace L3
open PySem PySem.Spec PyProof.Rows L2 PySem.SeqAt
theorem LZ {β:Type}(n:Nat)(b:β)(f:Nat->β->Sem (ForInStep β)):forIn [0:n] b f=forIn (List.range' 0 n 1) b f:=by
 rw[Std.Legacy.Range.forIn_eq_forIn_range']
 have jE:([0:n]:Std.Legacy.Range).size=n:=by simp [Std.Legacy.Range.size]
 show forIn (List.range' 0 ([0:n]:Std.Legacy.Range).size 1) b f=_
 rw[jE]
theorem CM {prog:Program}{w:World}{A:Around}{E:Value->Shared->Prop}{s:Shared}{t:Addr}{items:Array Value}{x:Value}{e:Value->Bool}{j:Nat}{P:Fin->Shared->Prop}(ht:IsTup s.heap t items)
  (he:∀ y,y∈items->EqAt A s y x (e y))(hj:j<items.size)(hit:e items[j]=true)(hno:∀ m (hm:m<items.size),m<j->e items[m]=false)
  (h:P (.done (.ret (.int j s.toks))) { s with toks:=s.toks+1 }):wpAny (model prog w) A (Builtin.«tuple.index» ⟨[.ref t,x],[]⟩) P E s:=by
 show wpAny _ _ (Builtin.Tuple.tupleItemsOf (.ref t) >>= _) _ _ s
 refine wpAny_bind (tupleItemsOf_ ht ?_)
 show wpAny _ _ (forIn [0:min items.size items.size] _ _ >>= _) _ _ s
 rw[Nat.min_self,LZ]
 refine wpAny_bind (wpAny_mono (Q:=fun(b:Option PySem.Fin×Unit) s'=>b.1=some (.done (.ret (.int j s.toks)))/\s' = { s with toks:=s.toks+1 }) (wpAny_forIn_list (β:=Option PySem.Fin×Unit) _ (fun rest b s'=>s'=s/\b.1=none/\∃ i,rest=List.range' i (items.size-i) 1/\i<=j) _ ?_ ?_ _ _ ⟨rfl,rfl,0,rfl,Nat.zero_le _⟩) ?_ fun _ _ z=>z)
 ·rintro i rest b s' ⟨rfl,hb,k,hk,hkj⟩
  have dU:k<items.size:=by omega
  have e1:items.size-k=(items.size-(k+1))+1:=by omega
  rw[e1,List.range'_succ]at hk
  injection hk with h1 h2
  subst h1
  have hg:items[i]? = some items[i]:=by simp [dU]
  rw[hg]
  show wpAny _ _ (eqBool items[i] x >>= _) _ _ _
  refine wpAny_bind (he _ (Array.getElem_mem dU) prog w _ _ ?_)
  by_cases hij:i=j
  ·subst hij
   rw[hit]
   exact wpAny_bind (wpAny_bind (wpAny_mkInt (wpAny_pure (wpAny_pure ⟨rfl,rfl⟩))))
  ·rw[hno i dU (by omega)]
   exact wpAny_pure ⟨rfl,rfl,i+1,h2,by omega⟩
 ·rintro b s' ⟨_,_,i,hi,hij⟩
  have:(List.range' i (items.size-i) 1).length=0:=by rw[<-hi];rfl
  simp at this
  omega
 ·rintro⟨b1,b2⟩ s' ⟨hb,rfl⟩
  simp only at hb
  subst hb
  exact wpAny_pure h
end L3
end
section
namespace L3
open PySem PySem.Spec PyProof.Rows L2 PySem.SeqAt
section
variable {X:Cx}
theorem KO {pins:List (Addr×Obj)}{s:Shared}{σ:L2.St}{H:Hp}{st:aB}(I:Inv X pins σ H s)(ok:aS X.K st H){ds:List D}{vs:List V}{aD:List Value}{d:D}{v:V}{u:Value}{A:Around}
  (g:aL X.K H ds vs)(r:aO vs aD)(p:dW st ds)(pd:plainS st d)(rd:Rep X.K H d v)(rv:RelV v u)(hu:A.units+178<cLine):
  ∃ e:Value->Bool,(∀ y,y∈aD.toArray->EqAt A.in1 s y u (e y))/\∀ j (hj:j<aD.length)(hj':j<ds.length),e aD[j]=bT st ds[j] d:=by
 classical
 have hD:mL=80:=rfl
 have item:∀(d':D)(v':V)(y:Value),d'∈ds->Rep X.K H d' v'->RelV v' y->EqAt A.in1 s y u (bT st d' d):=fun d' v' y m r' bK=>by
  have h1:=jJ m
  have h2:=p.2
  exact(OJ I ok 80 (by omega) (gO p.1 m) pd.1 r' bK rd rv (by simp only[Around.in1_units];omega)).2.1
 let e:Value->Bool:=fun y=>decide (∃ d' v',d'∈ds/\Rep X.K H d' v'/\RelV v' y/\bT st d' d=true)
 have he:∀(d':D)(v':V)(y:Value),d'∈ds->Rep X.K H d' v'->RelV v' y->e y=bT st d' d:=fun d' v' y m r' bK=>by
  show decide _=_
  cases q:bT st d' d with
  |true=>exact decide_eq_true ⟨d',v',m,r',bK,q⟩
  |false =>
   refine decide_eq_false fun⟨d2,v2,m2,r2,rv2,q2⟩=>?_
   cases RelV.inj bK rv2
   have:=LF I ok _ (Nat.le_refl _) (gO p.1 m) (gO p.1 m2) r' r2
   subst this
   rw[q]at q2;cases q2
 refine⟨e,fun y hy=>?_,fun j hj hj'=>?_⟩
 ·obtain⟨j,hj,rfl⟩:=Array.mem_iff_getElem.mp hy
  obtain⟨v',e1,e2⟩:=aO.at r hj
  obtain⟨d',e3,e4⟩:=aL.get' g e1
  rw[he d' v' _ (List.mem_of_getElem? e3) e4 e2]
  exact item d' v' _ (List.mem_of_getElem? e3) e4 e2
 ·obtain⟨v',e1,e2⟩:=aO.at r (by simpa using hj)
  obtain⟨d',e3,e4⟩:=aL.get' g e1
  have e5:ds[j]=d':=(List.getElem?_eq_some_iff.mp e3).2
  rw[e5]
  exact he d' v' _ (List.mem_of_getElem? e3) e4 (by simpa using e2)
theorem wB {st:aB}{d:D}:∀{ds:List D}{j:Nat},findD st d ds=some j->∃ hj:j<ds.length,bT st ds[j] d=true/\∀ m (hm:m<ds.length),m<j->bT st ds[m] d=false
 |[],_,h=>by cases h
 |x::r,j,h=>by
  have h:(if bT st x d=true then some 0 else(findD st d r).map (·+ 1))=some j:=h
  by_cases c:bT st x d=true
  ·rw[if_pos c]at h;cases h
   exact⟨by simp,c,fun m _ hm=>by omega⟩
  ·rw[if_neg c]at h
   obtain⟨k,e,rfl⟩:=Option.map_eq_some_iff.mp h
   obtain⟨h1,h2,h3⟩:=wB e
   refine⟨by simpa using h1,by simpa using h2,fun m hm hl=>?_⟩
   cases m with
   |zero=>simpa using c
   |succ m=>simpa using h3 m (by simpa using hm) (by omega)
theorem index_list {pins:List (Addr×Obj)}{s:Shared}{σ:L2.St}{H:Hp}{st:aB}{R:VK}{ds:List D}{vs:List V}{d:D}{v:V}{u:Value}{a:Addr}{j:Nat}(hu:X.A.units+180<cLine)(I:Inv X pins σ H s)(ok:aS X.K st H)(f:dN X.K H a vs)(g:aL X.K H ds vs)
  (rd:Rep X.K H d v)(rv:RelV v u)(pd:plainS st d)(ps:dW st ds)(hj:findD st d ds=some j)(q:R (.int (j:Nat)) st):wpAny (model X.prog X.w) X.A (call (.builtin "list.index") [.ref a,u]) (EP X pins σ (QD X.K H st R)) X.xe s:=by
 obtain⟨aD,r1,p1,hz⟩:=I.list f
 obtain⟨e,he,ha⟩:=KO I ok g r1 ps pd rd rv (A:=X.A) (by omega)
 obtain⟨h1,h2,h3⟩:=wB hj
 have l1:=g.length
 have l2:=r1.length
 have hn:=rS
 obtain⟨⟨cls,dd,data,sl⟩,ho,hc,n,hd⟩:=id p1.isList
 simp only at hc hd
 subst hc hd
 refine call_meets PySem.F.slot_list_index ⟨_,ho,rfl⟩ PySem.F.entry_list_index (PySem.F.args_list_index_2 _ _)
  (list_indexAt a aD.toArray n dd sl u e j (by simp;omega) (by omega) ?_ ?_) ⟨ho,he,?_⟩
 ·show e aD[j]=true
  rw[ha j (by omega) h1];exact h2
 ·intro m hm hl
  have hm:m<aD.length:=by simpa using hm
  show e aD[m]=false
  rw[ha m hm (by omega)];exact h3 m (by omega) hl
 ·exact⟨.int j,H,I.tok _,⟨_,rfl⟩,.here ok (.int _) q⟩
theorem Q1 {pins:List (Addr×Obj)}{s:Shared}{σ:L2.St}{H:Hp}{st:aB}{R:VK}{ds:List D}{vs:List V}{d:D}{v:V}{u:Value}{a:Addr}{j:Nat}(hu:X.A.units+180<cLine)(I:Inv X pins σ H s)(ok:aS X.K st H)(f:eU X.K H a vs)(g:aL X.K H ds vs)
  (rd:Rep X.K H d v)(rv:RelV v u)(pd:plainS st d)(ps:dW st ds)(hj:findD st d ds=some j)(q:R (.int (j:Nat)) st):wpAny (model X.prog X.w) X.A (call (.builtin "tuple.index") [.ref a,u]) (EP X pins σ (QD X.K H st R)) X.xe s:=by
 obtain⟨aD,r1,p1,hz⟩:=I.tuple f
 obtain⟨e,he,ha⟩:=KO I ok g r1 ps pd rd rv (A:=X.A) (by omega)
 obtain⟨h1,h2,h3⟩:=wB hj
 have l1:=g.length
 have l2:=r1.length
 refine wpAny_call_entry PySem.F.slot_tuple_index p1.typeIs PySem.F.entry_tuple_index (CM p1 he (j:=j) (by simp;omega) ?_ ?_ ⟨_,rfl,?_⟩) (PySem.F.args_tuple_index_2 _ _)
 ·show e aD[j]=true
  rw[ha j (by omega) h1];exact h2
 ·intro m hm hl
  have hm:m<aD.length:=by simpa using hm
  show e aD[m]=false
  rw[ha m hm (by omega)];exact h3 m (by omega) hl
 ·exact⟨.int j,H,I.tok _,⟨_,rfl⟩,.here ok (.int _) q⟩
end
section
variable {X:Cx}{C:bO}{sub:Nat->Nat->Bool}{E:XK}{e o:Expr}{x y:Ex}{pos apos kK:Pos}
def Ar:D->Bool
 |.tup _=>true
 |_=>false
theorem J4 {K:PySem.W.Frag}{H:Hp}{st:aB}{d:D}{v:V}{Kk:List Nat->List D->Prop}(ok:aS K st H)(r:Rep K H d v)(h:dP d st Kk):∃ a vs as ds,v=.ref a/\aL K H ds vs/\((Ar d=false/\dN K H a vs)∨(Ar d=true/\eU K H a vs))/\Kk as ds:=by
 unfold dP at h
 split at h
 ·obtain⟨a,vs,rfl,f,g⟩:=r.bS
  exact⟨a,vs,_,_,rfl,g,.inr ⟨rfl,f⟩,h⟩
 ·cases r.cQ
  obtain⟨ds,e,h⟩:=eF h
  obtain⟨vs,g1,g2⟩:=ok.lst e
  exact⟨_,vs,_,_,rfl,g2,.inl ⟨rfl,dN.of g1⟩,h⟩
 ·obtain⟨a,vs,rfl,f,g⟩:=r.kZ
  exact⟨a,vs,_,_,rfl,g,.inl ⟨rfl,f.sq⟩,h⟩
 ·exact h.elim
theorem IU (m:bX C C)(hu:X.A.units+180<cLine)(ho:JE X C sub E o x)(ha:JA X C sub E [e] [y])(jT:attributeBase o "index" X.env (eval o X.env)=eval o X.env:=by kernel_rfl)
  (sS:((backTo pos (starEach [e] X.env)).all (fun x=>!x.1)&&(backToKw pos (keywordEach [] X.env)).all (fun x=>x.1.isSome)&&decide ([e].length+([]:List Keyword).length+(if([]:List Keyword).isEmpty then 0 else 1)<30))=true:=by kernel_rfl)(jU:(apos.endLine==pos.line)=true:=by kernel_rfl)
  (hs:starEach [e] X.env=[(false,eval e X.env)]:=by kernel_rfl):
  JE X C sub E (.Call (.Attribute o "index" apos) [e] [] pos) (.bW .index x [y]):=⟨by
 intro pins s σ H Q I ⟨σd,st,R,r,ok,q,hq⟩
 simp only[aG]at q
 refine wpAny_Call_method_late jT sS jU rfl (bE (ho.h pins s σ H _ I ⟨σd,st,_,r,ok,q,fun v H' z=>z⟩) fun v s1 ⟨x1,H1,I1,r1,d1,aC,dJ,aQ,rd1,q1⟩=>?_)
 obtain⟨rc,q1⟩:=q1
 obtain⟨a,vs,as,ds,rfl,g,ty,-⟩:=J4 aQ rd1 rc
 cases r1
 have rest:∀ id:String,(∀(s2:Shared)(H2:Hp)(aH:aB)(d2:D)(v2:V)(u2:Value),Inv X pins σ H2 s2->Step H1 aC H2 aH->aS X.K aH H2->Rep X.K H2 d2 v2->RelV v2 u2->jQ .index d1 [d2] aH R->wpAny (model X.prog X.w) X.A (call (.builtin id) [.ref a,u2]) (EP X pins σ (QD X.K H2 aH R)) X.xe s2) ->
   wpAny (model X.prog X.w) X.A (callWith pos (.builtin id) [.ref a] (backTo pos (starEach [e] X.env)) []) (EP X pins σ Q) X.xe s1:=by
  intro id hc
  have hA:=ha.h pos pins s1 σ H1 _ I1 ⟨σd,aC,_,r.step ok dJ,aQ,sC [y] m q1,fun vs H' z=>z⟩
  rw[hs]at hA ⊢
  refine Calls.callWith_builtin (by rfl) (Calls.evalArgs_plain ?_)
  refine bE hA fun us s2 ⟨ws,H2,I2,r2,es,aH,iW,cH,rs2,l2,q2⟩=>?_
  match es,l2,ws,rs2,us,r2 with
  |[d2],_,_,.cons rd2 .nil,_,.cons rv2 .nil =>
   exact bE (hc s2 H2 aH d2 _ _ I2 iW cH rd2 rv2 q2) fun w s3 ⟨v3,H3,I3,r3,z⟩=>⟨v3,H3,I3,r3,hq _ _ (.after (dJ.trans iW) z)⟩
 rcases ty with⟨tk,ty⟩|⟨tk,ty⟩
 ·obtain⟨aD,_,p1,_⟩:=I1.list ty
  refine⟨"list","list.index", PySem.F.plainAttrs_list,PySem.F.slot_list_index,PySem.F.type_list_index,p1.isList.typeIs,fun b e=>?_,rest _ fun s2 H2 aH d2 v2 u2 I2 iW cH rd2 rv2 q2=>?_⟩
  ·cases e
   obtain⟨o,n,e,c,hd,_⟩:=p1
   exact⟨o,e,hd⟩
  ·obtain⟨a',vs2,as2,ds2,e2,g2,ty2,pd,ps,q2⟩:=J4 cH (rd1.step aQ iW) q2
   cases e2
   obtain⟨j,hj,q2⟩:=eO q2
   rcases ty2 with⟨tk2,ty2⟩|⟨tk2,ty2⟩
   ·exact index_list hu I2 cH ty2 g2 rd2 rv2 pd ps hj q2
   ·rw[tk]at tk2;cases tk2
 ·obtain⟨aD,_,p1,_⟩:=I1.tuple ty
  refine⟨"tuple","tuple.index", PySem.F.plainAttrs_tuple,PySem.F.slot_tuple_index,PySem.F.type_tuple_index,p1.typeIs,fun b e=>?_,rest _ fun s2 H2 aH d2 v2 u2 I2 iW cH rd2 rv2 q2=>?_⟩
  ·cases e
   exact I1.Jc ty
  ·obtain⟨a',vs2,as2,ds2,e2,g2,ty2,pd,ps,q2⟩:=J4 cH (rd1.step aQ iW) q2
   cases e2
   obtain⟨j,hj,q2⟩:=eO q2
   rcases ty2 with⟨tk2,ty2⟩|⟨tk2,ty2⟩
   ·rw[tk]at tk2;cases tk2
   ·exact Q1 hu I2 cH ty2 g2 rd2 rv2 pd ps hj q2⟩
end
end L3
end
section
namespace L3
open PySem PySem.Spec PyProof.Rows L2 PySem.SeqAt
def tQ (val:Nat->Str):Nat->Nat
 |0=>0
 |i+1=>if((List.range i).map val).any (·== val i)then tQ val i else tQ val i+1
theorem RM (val:Nat->Str):∀ i,tQ val i<=i
 |0=>Nat.le_refl _
 |i+1=>by
  have:=RM val i
  unfold tQ
  split<;>omega
section
variable {prog:Program}{w:World}{A:Around}{R:Result->Shared->Prop}{I:Addr}{fp wr:List Addr}{G:Array GenState->Array GenState->Prop}{n:Nat}{P:Nat->Value->Prop}{St:Nat->Shared->Prop}
abbrev qX (prog:Program)(w:World)(val:Nat->Str)(S:Addr)(i:Nat)(h:Heap):Prop:=h.SetOf (strKind prog w) S (fun k=>((List.range i).map val).any (·== k)) (tQ val i)
theorem LX {val:Nat->Str}{S:Addr}{i:Nat}{h:Heap}(x:h.SetOf (strKind prog w) S (fun k'=>((List.range i).map val).any (·== k')||decide (k'=val i)) (if((List.range i).map val).any (·== val i)then tQ val i else tQ val i+1)):qX prog w val S (i+1) h:=by
 refine SetOf_congr x (fun k=>?_) rfl
 rw[List.range_succ,List.map_append,List.any_append]
 congr 1
 simp only[List.map_cons,List.map_nil,List.any_cons,List.any_nil,Bool.or_false]
 by_cases e:k=val i
 ·subst e;simp
 ·rw[decide_eq_false e];symm;exact beq_eq_false_iff_ne.mpr fun z=>e z.symm
theorem SI (W:WalksS prog w A.in1 I fp wr G n P St)(S:Addr)(hSf:S∉fp)(val:Nat->Str)(hval:∀ i v,P i v->∃ t,v=.str (val i) t)(hb:n+1<scanBound):
 ∀(k i:Nat)(s:Shared),n-i=k->i<=n->St i s->qX prog w val S i s.heap->(∀ s',Moved (S::wr) G s s'->qX prog w val S n s'.heap->R (.ok (.ret .none)) s') ->
  codeAny (model prog w) A (.builtin "set.update.loop" ⟨[.ref S,.ref I],[]⟩) R s:=by
 have hSw:S∉wr:=fun h=>hSf (W.sub _ h)
 have hsub:∀ b∈wr,b∈S::wr:=fun b hb=>List.mem_cons_of_mem _ hb
 have keep:∀{i:Nat}{s s':Shared},qX prog w val S i s.heap->Moved wr G s s'->qX prog w val S i s'.heap:=fun⟨o,es,ep,t,ho,rest⟩ hm=>⟨o,es,ep,t,hm.heap S _ hSw ho,rest⟩
 intro k
 induction k with
 |zero =>
 intro i s hk hi fF hS hR
 obtain rfl:i=n:=by omega
 refine codeAny_builtin PyProof.Rows.F.entry_set_update_loop ?_
 rw[Around.under_plainId PyProof.Rows.F.plain_set_update_loop _]
 show wpAny _ A.in1 (pyNext (.ref I) >>= _) _ _ s
 refine wpAny_bind (W.done s _ _ fF fun s' hm=>?_)
 show wpAny _ A.in1 (ret Value.none) _ _ s'
 exact wpAny_pure (hR s' (hm.mono hsub) (keep hS hm))
 |succ k ih =>
 intro i s hk hi fF hS hR
 have dU:i<n:=by omega
 refine codeAny_builtin PyProof.Rows.F.entry_set_update_loop ?_
 rw[Around.under_plainId PyProof.Rows.F.plain_set_update_loop _]
 show wpAny _ A.in1 (pyNext (.ref I) >>= _) _ _ s
 refine wpAny_bind (W.item i s _ _ dU fF fun v s' hP hst' hm=>?_)
 obtain⟨t,rfl⟩:=hval i v hP
 show wpAny _ A.in1 (holding [Value.str (val i) t] (setAdd S (.str (val i) t)) >>= _) _ _ s'
 refine wpAny_bind (wpAny_holding ?_)
 unfold setAdd
 refine wpAny_holding (wpAny_bind ((strKind prog w).pyHash (k:=val i) (strKind_is _ _ _ _) ?_))
 refine wpAny_setAddHashed_of (knd:=strKind prog w) (s:={ s' with toks:=s'.toks+1 }) (strKind_is _ _ _ _) rfl (show qX prog w val S i s'.heap from keep hS hm) (by have:=RM val i;omega) fun h' hsb hS2=>?_
 refine wpAny_pure ⟨plainId_quiet PyProof.Rows.F.plain_set_update_loop _,ih (i+1) _ (by omega) dU (W.frame _ s' _ _ hst' (Nat.le_succ _) fun b hb o e=>?_) (LX hS2) fun s'' hm'' hS''=>?_⟩
 ·rw[hsb.2 b (fun h:b=S=>hSf (by rw[<-h];exact hb))];exact e
 ·refine hR s'' (Moved.trans W.gtrans ((hm.mono hsub).then_heap (Nat.le_succ _) fun b o hb e=>?_) hm'') hS''
  rw[hsb.2 b (fun h:b=S=>hb (by rw[h];exact List.mem_cons_self))];exact e
end
section
variable {prog:Program}{w:World}{A:Around}{E:Value->Shared->Prop}{s:Shared}
abbrev iC (led:Bool):Obj:={ cls:=.type "set", dict:=none,data:=.set #[] 0 (.fresh 0 0 led) }
theorem EZ {l:Addr}{items:Array Value}{val:Nat->Str}{led:Bool}{Q:PySem.Fin->Shared->Prop}(hh:A.handled=none)(hl:s.heap.IsTuple l items)(hv:∀(i:Nat)(v:Value),items[i]? = some v->∃ t,v=.str (val i) t)(hb:items.size+1<scanBound)
  (h:∀(h':Heap)(tk:Nat),qX prog w val s.heap.objs.size items.size h'->(∀ b o,s.heap.get? b=some o->h'.get? b=some o)->Q (.done (.ret .none)) { s with heap:=h',toks:=tk }):
  wpAny (model prog w) A (Builtin.«set.__init__» ⟨[.ref s.heap.objs.size,.ref l],[]⟩) Q E { s with heap:=s.heap.push (iC led) }:=by
 obtain⟨ol,hol,hcl,nl,hdl⟩:=hl
 obtain⟨ocls,odict,odata,oslots⟩:=ol
 simp only at hcl hdl
 subst hcl;subst hdl
 have hS:(s.heap.push (iC led)).get? s.heap.objs.size=some (iC led):=Heap.get?_push_size _ rfl
 have hT:Shared.TypeIs { s with heap:=s.heap.push (iC led) } (.ref s.heap.objs.size) "set":=⟨_,hS,rfl⟩
 have hol':(s.heap.push (iC led)).get? l=some { cls:=.type "tuple", dict:=odict,data:=.seq items nl,slots:=oslots }:=Heap.get?_push_of_some _ hol
 have hsls:=PySem.F.sub_tuple_set
 have hslf:=PySem.F.sub_tuple_frozenset
 have hne:(Value.type "tuple" == Value.type "dict")=false:=by decide
 have hl1:(s.heap.push (iC led)).IsTuple l items:=⟨_,hol',rfl,nl,rfl⟩
 unfold Builtin.«set.__init__» noKeywords Builtin.Frozenset.updateFrom
 generalize hPI:pyIter=PI
 wp_walk
 subst hPI
 refine wpAny_pyIter_tuple hl1 ?_
 refine wpAny_bind (wpAny_runValue ?_)
 have hlS:l<s.heap.objs.size:=Heap.lt_size hol
 have hh3:A.in1.handled=none:=by simp [hh]
 have jE:(s.heap.push (iC led)).objs.size=s.heap.objs.size+1:=Heap.size_push ..
 have hneI:l≠(s.heap.push (iC led)).objs.size:=by rw[jE];exact Nat.ne_of_lt (Nat.lt_succ_of_lt hlS)
 have hSf:s.heap.objs.size∉[(s.heap.push (iC led)).objs.size,l]:=by
  simp only[List.mem_cons,List.not_mem_nil,or_false,not_or]
  exact⟨by rw[jE];exact Nat.ne_of_lt (Nat.lt_succ_self _),Nat.ne_of_gt hlS⟩
 refine SI ((Walks.tuple hh3 _ l hneI items).toS) s.heap.objs.size hSf val hv hb (items.size-0) 0 _ (by omega) (Nat.zero_le _) ⟨?hT1,?hT0⟩ ?hS0 ?hR
 case hT1=>exact⟨_,Heap.get?_push_size _ rfl,rfl,rfl⟩
 case hT0=>exact⟨_,Heap.get?_push_of_some _ hol',rfl,nl,rfl⟩
 case hS0=>exact SetOf_congr ((setObjOf_fresh (knd:=strKind prog w) led).setOf (Heap.get?_push_of_some _ hS) (by unfold scanBound;omega)) (fun _=>rfl) rfl
 case hR =>
  intro s' hm hS'
  obtain⟨h',g',d',tk',os'⟩:=s'
  have eg:g'=s.gens:=hm.gens
  have ed:d'=s.drawn:=hm.drawn
  have eo:os'=s.os:=hm.os
  subst eg;subst ed;subst eo
  show wpAny _ _ _ _ _ _
  refine wpAny_pure ?_
  show wpAny _ _ (ret Value.none) _ _ _
  refine wpAny_pure (h h' tk' hS' fun b o e=>?_)
  have hb1:b<s.heap.objs.size:=Heap.lt_size e
  exact hm.heap b o (by simp only[List.mem_cons,List.not_mem_nil,or_false,not_or];exact⟨Nat.ne_of_lt hb1,by rw[jE];exact Nat.ne_of_lt (Nat.lt_succ_of_lt hb1)⟩) (Heap.get?_push_of_some _ (Heap.get?_push_of_some _ e))
set_option maxHeartbeats 6400000 in
theorem J3 {l:Addr}{items:Array Value}{val:Nat->Str}{Q:Value->Shared->Prop}(hh:A.handled=none)(hl:s.heap.IsTuple l items)(hv:∀(i:Nat)(v:Value),items[i]? = some v->∃ t,v=.str (val i) t)(hb:items.size+1<scanBound)
 (h:∀(h':Heap)(tk:Nat),qX prog w val s.heap.objs.size items.size h'->(∀ b o,s.heap.get? b=some o->h'.get? b=some o)->Q (.ref s.heap.objs.size) { s with heap:=h',toks:=tk }):
 wpAny (model prog w) A (call (.type "set") [.ref l]) Q E s:=by
 obtain⟨c,tl,hmro⟩:=PySem.F.called_set.mro
 have hmade:=PySem.F.called_set.made
 have hsub:=PySem.F.called_set.sub
 refine wpAny_call (codeAny_of_tree ?_)
 show wpAny _ _ (callAny (.type "set") _) _ _ _
 refine wpAny_pure ⟨Code.quiet_builtin _ (by decide +kernel),codeAny_builtin PySem.F.entry_type_call ?_⟩
 rw[Around.under_plain (weight_type_call_type "set" [.ref l] []) rfl]
 have h1:=PySem.F.called_set.notType
 have h2:=PySem.F.called_set.canCreate
 have hct:=PySem.F.typeCall_set_1 (.ref l)
 repeat (any_goals (first|assumption|wp_step))
 refine codeAny_mono (code_set_new_1 (.ref l) (E:=E) (Q₁:=fun obj s₁=>∃ led:Bool,obj=.ref s.heap.objs.size/\s₁ = { s with heap:=s.heap.push (iC led) }) fun led=>⟨led,rfl,rfl⟩) fun r s₁ hr=>?_
 cases r with
 |error e=>exact hr
 |ok fl =>
 cases fl with
 |ret obj =>
  obtain⟨led,rfl,rfl⟩:=hr
  have hT:Shared.TypeIs { s with heap:=s.heap.push (iC led) } (.ref s.heap.objs.size) "set":=⟨_,Heap.get?_push_size _ rfl,rfl⟩
  have hli:=PySem.F.called_set.init.lookup
  have hbi:=PySem.F.called_set.init.bind (.ref s.heap.objs.size)
  repeat (any_goals (first|assumption|wp_step))
  refine codeAny_mono (codeAny_call_builtin (R:=wants (fun r s₂=>r=.none/\∃ h' tk,s₂ = { s with heap:=h',toks:=tk }/\qX prog w val s.heap.objs.size items.size h'/\(∀ b o,s.heap.get? b=some o->h'.get? b=some o)) E) PySem.F.called_set.init.plain PySem.F.entry_set_init (check_set_init_1 hT ?_)) fun r₂ s₂ hr₂=>?_
  ·exact EZ (by simp [hh]) hl hv hb fun h' tk hS hk=>⟨rfl,h',tk,rfl,hS,hk⟩
  ·cases r₂ with
  |error e=>exact hr₂
  |ok fl₂ =>
   cases fl₂ with
   |ret r =>
   obtain⟨rfl,h',tk,rfl,hS',hk'⟩:=hr₂
   repeat (any_goals (first|assumption|wp_step))
   exact h _ _ hS' hk'
   |_=>exact hr₂.elim
 |_=>exact hr.elim
end
end L3
end
section
namespace L3
open PySem PySem.Spec PyProof.Rows L2 PySem.SeqAt
abbrev nG (ws:List (List Nat))(i:Nat):Str:=⟨(ws.getD i []).toArray⟩
theorem str_beq (a b:List Nat):((⟨a.toArray⟩:Str)==⟨b.toArray⟩)=(a==b):=by
 by_cases h:a=b
 ·subst h;simp
 ·rw[beq_eq_false_iff_ne.mpr h]
  refine beq_eq_false_iff_ne.mpr fun e=>h ?_
  have e1:a.toArray=b.toArray:=congrArg Str.cps e
  simpa using e1
theorem P8 (ws:List (List Nat)):∀(rest seen:List (List Nat)),ws=seen++rest->tQ (nG ws) seen.length+AA seen rest=tQ (nG ws) ws.length
 |[],seen,h=>by simp [h,AA]
 |w::r,seen,h=>by
  have ih:=P8 ws r (seen++[w]) (by simp [h])
  rw[<-ih]
  have e1:nG ws seen.length=⟨w.toArray⟩:=by simp [nG,h]
  have e2:((List.range seen.length).map (nG ws)).any (·== nG ws seen.length)=seen.any (·== w):=by
   have e3:(List.range seen.length).map (nG ws)=seen.map fun x=>(⟨x.toArray⟩:Str):=by
    refine List.ext_getElem (by simp) fun i h1 h2=>?_
    have hi:i<seen.length:=by simpa using h1
    simp [nG,h,List.getElem?_append_left hi,List.getElem?_eq_getElem hi]
   rw[e3,e1,List.any_map]
   congr 1
   funext x
   exact str_beq x w
  simp only[List.length_append,List.length_cons,List.length_nil,AA]
  have e5:tQ (nG ws) (seen.length+1)=if seen.any (·== w)=true then tQ (nG ws) seen.length else tQ (nG ws) seen.length+1:=by rw[<-e2];rfl
  show _=tQ (nG ws) (seen.length+1)+_
  rw[e5]
  by_cases c:seen.any (·== w)=true
  ·rw[if_pos c,if_pos c];omega
  ·rw[if_neg c,if_neg c];omega
theorem GQ {K:PySem.W.Frag}{H:Hp}:∀{ds:List D}{ws:List (List Nat)}{vs:List V}{us:List Value},strsOf ds=some ws->aL K H ds vs->aO vs us->us.length=ws.length/\∀(i:Nat)(v:Value),us[i]? = some v->∃ t,v=.str (nG ws i) t
 |[],ws,_,_,h,.nil,.nil=>by cases h;exact⟨rfl,fun i v e=>by simp at e⟩
 |.str w::r,ws,_,_,h,.cons rd rs,.cons rv rvs=>by
  have h:(strsOf r).map (w :: ·)=some ws:=h
  obtain⟨ws',e,rfl⟩:=Option.map_eq_some_iff.mp h
  obtain⟨l,ih⟩:=GQ e rs rvs
  refine⟨by simpa using l,fun i v e=>?_⟩
  cases i with
  |zero =>
   cases rd.str_inv
   obtain⟨t,rfl⟩:=rv
   simp at e
   exact⟨t,e.symm⟩
  |succ i=>exact ih i v (by simpa using e)
 |.non::_,_,_,_,h,_,_=>by cases h
 |.bl _::_,_,_,_,h,_,_=>by cases h
 |.int _::_,_,_,_,h,_,_=>by cases h
 |.tup _::_,_,_,_,h,_,_=>by cases h
 |.ref _::_,_,_,_,h,_,_=>by cases h
 |.dB _ _::_,_,_,_,h,_,_=>by cases h
 |.bP _::_,_,_,_,h,_,_=>by cases h
 |.exc _::_,_,_,_,h,_,_=>by cases h
theorem Nt {a b:D}{r:List D}{st:aB}{Q:VK}(h:gT .sU (a::b::r) st Q):False:=by
 unfold gT at h
 split at h<;>simp_all
section
variable {X:Cx}{C:bO}{sub:Nat->Nat->Bool}{E:XK}{a:Expr}{x:Ex}{p p2 pos pos2:Pos}
theorem Oe (hm:X.mg "len" = none)(hm2:X.mg "set" = none)(ha:JA X C sub E [a] [x])(hc:X.calm=true:=by kernel_rfl)(hg:X.env.kindOf "len" = some .globalImplicit:=by kernel_rfl)(hg2:X.env.kindOf "set" = some .globalImplicit:=by kernel_rfl)
  (he:starEach [.Call (.Name "set" p2) [a] [] pos2] X.env=(false,eval (.Call (.Name "set" p2) [a] [] pos2) X.env)::starEach [] X.env:=by kernel_rfl)(dC:(backTo pos (starEach [] X.env)).any (·.1)=false:=by kernel_rfl)
  (he2:starEach [a] X.env=(false,eval a X.env)::starEach [] X.env:=by kernel_rfl)(hpl2:(backTo pos2 (starEach [] X.env)).any (·.1)=false:=by kernel_rfl):
  JE X C sub E (.Call (.Name "len" p) [.Call (.Name "set" p2) [a] [] pos2] [] pos) (.bi .sU [x]):=⟨by
 intro pins s σ H Q I ⟨σd,st,R,r,ok,q,hq⟩
 simp only[aG]at q
 refine wpAny_Call_Name_kw (nO I hg hm cX ?_ (by decide) (by decide))
 rw[he]
 refine Calls.callWith_builtin (by show(false||(backTo pos (starEach [] X.env)).any (·.1))=false;rw[dC];rfl) (Calls.evalArgs_plain ?_)
 show wpAny _ _ (spliced ((false,eval (.Call (.Name "set" p2) [a] [] pos2) X.env)::backTo pos (starEach [] X.env))) _ _ s
 refine Calls.spliced_cons ?_
 refine wpAny_Call_Name_kw (nO I hg2 hm2 Eo ?_ (by decide) (by decide))
 refine PyProof.Rows.callWith_type1 (bE (ha.h pos2 pins s σ H _ I ⟨σd,st,_,r,ok,q,fun vs H' z=>z⟩) fun us s1 ⟨vs,H1,I1,rv,ds,aC,dJ,aQ,rs,q1⟩=>?_) he2 hpl2
 match ds,rs,q1 with
 |[d],rs,q1 =>
  obtain⟨v,rfl,rd⟩:=rs.one
  obtain⟨u,rfl,ru⟩:=vals1 rv
  cases d with
  |tup es =>
   rw[HI]at q1
   obtain⟨ws,e1,hl,q1⟩:=eO q1
   obtain⟨l,vs,rfl,f,g⟩:=rd.bS
   cases ru
   obtain⟨aD,r1,pl,hz⟩:=I1.tuple f
   obtain⟨hlen,hat⟩:=GQ e1 g r1
   have hh:X.A.handled=none:=I1.ok.hd hc
   refine J3 (val:=nG ws) hh (show s1.heap.IsTuple l aD.toArray from pl) (fun i v e=>hat i v (by simpa using e)) (by simp;unfold scanBound;omega) fun h' tk hS hk=>?_
   refine Calls.spliced_nil ?_
   have I2:Inv X pins σ H1 { s1 with heap:=h',toks:=tk }:=I1.kept hk
   obtain⟨o,es',ep,t,ho,hex,hd,hel,hmem,hb,hf,hn⟩:=hS
   refine call_len_set (s:={ s1 with heap:=h',toks:=tk }) ho hex hd hf (by unfold scanBound at hb;omega) ?_
   have hn2:es'.size=AA [] ws:=by
    rw[hn]
    have:=P8 ws ws [] rfl
    simp only[List.length_nil,tQ,Nat.zero_add]at this
    rw[this]
    simp [hlen]
   rw[hn2]
   exact⟨.int (AA [] ws:Nat),H1,I2.tok _,⟨_,rfl⟩,hq _ _ (.after dJ (.here aQ (.int _) q1))⟩
  |ref b =>
   obtain⟨_,_,z⟩:=eF (show cP aC b fun xs=>fD .sU xs aC R from q1)
   exact(show False from z).elim
  |_=>exact(show False from q1).elim
 |[],rs,q1=>exact(show False from q1).elim
 |_::_::_,rs,q1=>exact(Nt q1).elim⟩
end
end L3
end
section
namespace L3
open PySem PySem.Spec PyProof.Rows L2
theorem vB.pO {X:Cx}{C:bO}{n:Str}{i:Nat}{scope:Scope}{own cn:List Str}{fp:List Addr}{s:Shared}{H:Hp}{Ca:Addr}(h:vB X C n i):vB (lV X scope own cn fp s H Ca) C n i:=let⟨a,b⟩:=h;⟨a,b⟩
end L3
end
section
namespace L3
open PySem PySem.Spec PyProof.Rows L2
section
variable {K:PySem.W.Frag}{H:Hp}
theorem str_inj {a b:List Nat}(h:(⟨a.toArray⟩:Str)=⟨b.toArray⟩):a=b:=by
 have:a.toArray=b.toArray:=congrArg Str.cps h
 simpa using this
theorem iQ.get {f:List Nat}{d:D}:∀{fs:List (List Nat×D)}{ws:List (Str×V)},iQ K H fs ws->bY fs f=some d->∃ v,ws.lookup (⟨f.toArray⟩:Str)=some v/\Rep K H d v
 |[],_,_,h=>by cases h
 |(g,e)::fs,[],r,_=>by cases r.1
 |(g,e)::fs,(g',v)::ws,r,h=>by
  obtain⟨r1,r2⟩:=r
  simp only[List.map_cons,List.cons.injEq]at r1
  cases r2 with
  |cons rd rs =>
   simp only[bY]at h
   by_cases q:g=f
   ·rw[if_pos q]at h;cases h
    refine⟨v,?_,rd⟩
    simp [List.lookup,r1.1,q]
   ·rw[if_neg q]at h
    obtain⟨v',e1,e2⟩:=iQ.get (fs:=fs) (ws:=ws) ⟨r1.2,rs⟩ h
    refine⟨v',?_,e2⟩
    have:((⟨f.toArray⟩:Str)==g')=false:=beq_eq_false_iff_ne.mpr fun z=>q (str_inj (by rw[z];exact r1.1.symm))
    simp only[List.lookup,this]
    exact e1
theorem iQ.no {f:List Nat}:∀{fs:List (List Nat×D)}{ws:List (Str×V)},iQ K H fs ws->bY fs f=none->ws.lookup (⟨f.toArray⟩:Str)=none
 |[],[],_,_=>rfl
 |[],_::_,r,_=>by cases r.1
 |(g,e)::fs,[],r,_=>by cases r.1
 |(g,e)::fs,(g',v)::ws,r,h=>by
  obtain⟨r1,r2⟩:=r
  simp only[List.map_cons,List.cons.injEq]at r1
  cases r2 with
  |cons rd rs =>
   simp only[bY]at h
   by_cases q:g=f
   ·rw[if_pos q]at h;cases h
   ·rw[if_neg q]at h
    have:((⟨f.toArray⟩:Str)==g')=false:=beq_eq_false_iff_ne.mpr fun z=>q (str_inj (by rw[z];exact r1.1.symm))
    simp only[List.lookup,this]
    exact iQ.no (fs:=fs) (ws:=ws) ⟨r1.2,rs⟩ h
theorem iQ.put {f:List Nat}{d:D}{v:V}(rd:Rep K H d v):∀{fs:List (List Nat×D)}{ws:List (Str×V)},iQ K H fs ws->iQ K H (rN f d fs) (jA ⟨f.toArray⟩ v ws)
 |[],[],_=>⟨rfl,.cons rd .nil⟩
 |[],_::_,r=>by cases r.1
 |(g,e)::fs,[],r=>by cases r.1
 |(g,e)::fs,(g',v')::ws,r=>by
  obtain⟨r1,r2⟩:=r
  simp only[List.map_cons,List.cons.injEq]at r1
  cases r2 with
  |cons rd' rs =>
   by_cases q:g=f
   ·have q':g'=(⟨f.toArray⟩:Str):=by rw[r1.1,q]
    simp only[rN,jA,if_pos q,if_pos q']
    exact⟨by simp [r1.1,r1.2],.cons rd rs⟩
   ·have q':¬g'=(⟨f.toArray⟩:Str):=fun z=>q (str_inj (r1.1.symm.trans z))
    simp only[rN,jA,if_neg q,if_neg q']
    have ih:=iQ.put (f:=f) rd (fs:=fs) (ws:=ws) ⟨r1.2,rs⟩
    exact⟨by simp [r1.1,ih.1],.cons rd' ih.2⟩
theorem iQ.length {fs:List (List Nat×D)}{ws:List (Str×V)}(r:iQ K H fs ws):ws.length=fs.length:=by
 have:=congrArg List.length r.1
 simpa using this
end
theorem zA {st:aB}{a:Nat}{P:List Nat->List (List Nat×D)->Prop}(h:nR st a P):∃ c fs,st a=some (.ins c fs)/\P c fs:=by
 unfold nR at h
 split at h
 ·exact⟨_,_,by assumption,h⟩
 ·exact h.elim
theorem yQ {st:aB}{a:Nat}{P:List D->List D->Prop}(h:tabAt st a P):∃ c fs,st a=some (.tab c fs)/\P c fs:=by
 unfold tabAt at h
 split at h
 ·exact⟨_,_,by assumption,h⟩
 ·exact h.elim
theorem TR {c f:List Nat}{x:D}{st:aB}{Q:VK}(h:qF c f x st Q):∃ a fs d,x=.ref a/\st a=some (.ins c fs)/\bY fs f=some d/\Q d st:=by
 unfold qF at h
 split at h
 ·obtain⟨c',fs,e,rfl,q⟩:=zA h
  obtain⟨d,e1,q⟩:=eO q
  exact⟨_,fs,d,rfl,e,e1,q⟩
 ·exact h.elim
theorem WK {c f:List Nat}{v x:D}{st:aB}{Q:aB->Prop}(h:DI c f v x st Q):∃ a fs,x=.ref a/\st a=some (.ins c fs)/\fs.length<900/\Q (put st a (.ins c (rN f v fs))):=by
 unfold DI at h
 split at h
 ·obtain⟨c',fs,e,rfl,l,q⟩:=zA h
  exact⟨_,fs,rfl,e,l,q⟩
 ·exact h.elim
theorem TL {c m:List Nat}{x:D}{st:aB}(h:EH c m x st):∃ a fs,x=.ref a/\st a=some (.ins c fs)/\bY fs m=none:=by
 unfold EH at h
 split at h
 ·obtain⟨c',fs,e,rfl,q⟩:=zA h
  exact⟨_,fs,rfl,e,q⟩
 ·exact h.elim
structure sY (K:PySem.W.Frag)(c:List Nat):Prop where
 h:∃ C,clsAt K c C/\tF K C
structure qP (K:PySem.W.Frag)(c f:List Nat):Prop where
 h:∀ C,clsAt K c C->rL K C ⟨f.toArray⟩
structure vH (X:Cx)(C:bO)(c:List Nat)(n:Str)(fid:Nat):Prop where
 h:∃ k f fd ps C0,dR X.prog X.w X.K X.mg X.base hJ k f fd ps (fV X.K C fid)/\dM k X.A/\Binds X.K fd ps []/\clsAt X.K c C0/\tF X.K C0/\FE X.K C0 n f
structure vI (X:Cx)(C:bO)(c:List Nat)(n:Str)(fid:Nat):Prop where
 h:∃ k f fd ps C0,dR X.prog X.w X.K X.mg X.base hJ k f fd ps (fV X.K C fid)/\dM (k+1) X.A/\Binds X.K fd ps []/\clsAt X.K c C0/\X.mg n=some (.ref C0)/\Mk X.K C0 f
theorem vH.pO {X:Cx}{C:bO}{c:List Nat}{n:Str}{i:Nat}{scope:Scope}{own cn:List Str}{fp:List Addr}{s:Shared}{H:Hp}{Ca:Addr}(h:vH X C c n i):vH (lV X scope own cn fp s H Ca) C c n i:=let⟨a,b⟩:=h;⟨a,b⟩
theorem vI.pO {X:Cx}{C:bO}{c:List Nat}{n:Str}{i:Nat}{scope:Scope}{own cn:List Str}{fp:List Addr}{s:Shared}{H:Hp}{Ca:Addr}(h:vI X C c n i):vI (lV X scope own cn fp s H Ca) C c n i:=let⟨a,b⟩:=h;⟨a,b⟩
section
variable {X:Cx}{C:bO}{sub:Nat->Nat->Bool}{E:XK}{a b e o value:Expr}{es:List Expr}{x y:Ex}{xs:List Ex}{p pos apos pos':Pos}{n:Str}{c f:List Nat}{fid:Nat}
theorem Fs (hn:n=⟨f.toArray⟩)(hc:sY X.K c)(hna:qP X.K c f)(ho:PE X o (cB X.K (aG C sub E x)))(hb:attributeBase o n X.env (eval o X.env)=eval o X.env):PE X (.Attribute o n pos) (cB X.K (aG C sub E (.fld c f x))) :=
 (Cr ho hb).imp fun σ H Q ⟨σd,st,R,r,ok,q,hq⟩=>by
 simp only[aG]at q
 refine⟨σd,st,_,r,ok,q,fun v H1 ⟨d,aC,s1,aQ,r1,q1⟩=>?_⟩
 obtain⟨a,fs,d',rfl,e,ed,q1⟩:=TR q1
 cases r1.cQ
 obtain⟨C0,dx,ws,h1,h2,h3⟩:=aQ a _ e
 obtain⟨v,l,rv⟩:=iQ.get h3 ed
 obtain⟨C',c1,c2⟩:=hc.h
 have eC:=c1.inj h1
 subst eC
 exact⟨a,C',dx,ws,v,rfl,h2,c2,by rw[hn];exact hna.h C' c1,by rw[hn];exact l,hq _ _ (.after s1 (.here aQ rv q1))⟩
theorem Ft (hC:bX C C)(hn:n=⟨f.toArray⟩)(hc:sY X.K c)(hna:qP X.K c f)(ho:PE X o (cB X.K (aG C sub EF y)))(hv:PE X value (cB X.K (aG C sub EF x)))(hs:swapsWith value (some (.Attribute o n pos')) pos.line X.env=pure false):
 PS X (.Assign [.Attribute o n pos'] value pos) (jB X.K (wpS C sub (.asg (.fl c f y) x))) :=
 (Be ho hv hs).imp fun D σ H ⟨σd,st,P,r,ok,q,h⟩=>by
 simp only[wpS,fX]at q
 refine⟨σd,st,_,r,ok,rF hC h.ex q,fun v H1 ⟨d,aC,s1,aQ,rd,q1⟩=>?_⟩
 refine⟨σd,aC,_,r.step ok s1,aQ,rF hC h.ex q1,fun u H2 ⟨d2,aH,s2,cH,r2,q2⟩=>?_⟩
 obtain⟨a,fs,rfl,e,l,q2⟩:=WK q2
 cases r2.cQ
 obtain⟨C0,dx,ws,h1,h2,h3⟩:=cH a _ e
 obtain⟨C',c1,c2⟩:=hc.h
 have eC:=c1.inj h1
 subst eC
 have s3:Step H2 aH (upd H2 a (.ins C' dx (jA n v ws))) (put aH a (.ins c (rN f d fs))):=mJ e
 have rd2:=(rd.step aQ s2).step cH s3
 have h3':iQ X.K (upd H2 a (.ins C' dx (jA n v ws))) fs ws:=⟨h3.1,h3.2.step cH s3⟩
 refine⟨a,C',dx,ws,rfl,h2,c2,by rw[hn];exact hna.h C' c1,by rw[h3.length];omega,h.nx _ _ _ _ (((r.step ok s1).step aQ s2).step cH s3) ((s1.trans s2).trans s3) (cH.KP e ?_) q2⟩
 exact⟨C',dx,_,c1,fO,by rw[hn]at *;exact iQ.put rd2 h3'⟩
theorem Gw {k:Nat}{fa:Addr}{fd:FuncData}{ps:List Str}{C0:Addr}{pl:Sem Bool}{m:List Nat}(hn:n=⟨m.toArray⟩)(hcl:clsAt X.K c C0)(hC0:tF X.K C0)(hm:FE X.K C0 n fa)(F:dR X.prog X.w X.K X.mg X.base hJ k fa fd ps (fV X.K C fid))(hr:dM k X.A)(hb:Binds X.K fd ps [])
 (ho:PE X o (cB X.K (aG C sub EF x)))(ha:PA X (e::es) (mN X.K (bG C sub EF xs)))
 (fF:starEach (e::es) X.env=(false,eval e X.env)::starEach es X.env)(dC:(backTo pos (starEach es X.env)).any (·.1)=false)
 (ht:eval (.Call (.Attribute o n apos) (e::es) [] pos) X.env=(do
  let ov <-eval o X.env
  standAt apos.atName
  let(f,first) <-holding [ov] (getMethod ov n pl)
  callWith pos f first (backTo pos (starEach (e::es) X.env)) (backToKw pos (keywordEach [] X.env)))):
 PE X (.Call (.Attribute o n apos) (e::es) [] pos) (cB X.K (aG C sub EF (.mcl c m fid x xs))) :=
 (XY (pl:=pl) ho hC0 hm F hr hb .nil OH ha fF dC ht).imp fun σ H Q ⟨σd,st,R,r,ok,q,hq⟩=>by
 simp only[aG]at q
 refine⟨σd,st,_,r,ok,q,fun v H1 ⟨d,aC,s1,aQ,r1,q1,q2⟩=>?_⟩
 obtain⟨a,fs,rfl,e0,l⟩:=TL q1
 cases r1.cQ
 obtain⟨C1,dx,ws,h1,h2,h3⟩:=aQ a _ e0
 cases hcl.inj h1
 refine⟨a,dx,ws,rfl,h2,by rw[hn];exact iQ.no h3 l,?_⟩
 refine⟨σd,aC,_,r.step ok s1,aQ,q2,fun vs H2 ⟨ds,aH,s2,cH,r2,q3⟩=>?_⟩
 show fV X.K C fid (.ref a::(vs++[])) H2 Q E0
 rw[List.append_nil]
 exact⟨.ref a::ds,aH,R,.cons (.ref a) r2,cH,q3,fun v H' z=>hq _ _ (.after (s1.trans s2) z)⟩
theorem Nf {k:Nat}{fa:Addr}{fd:FuncData}{ps:List Str}{C0:Addr}(hcl:clsAt X.K c C0)(hM:Mk X.K C0 fa)(F:dR X.prog X.w X.K X.mg X.base hJ k fa fd ps (fV X.K C fid))(hr:dM (k+1) X.A)(hg:Gl X n)(hmg:X.mg n=some (.ref C0))(hb:Binds X.K fd ps [])
 (ha:PA X (e::es) (mN X.K (bG C sub EF xs)))(hdb:(n==("__debug__" : Str))=false)(he:starEach (e::es) X.env=(false,eval e X.env)::starEach es X.env)(dC:(backTo pos (starEach es X.env)).any (·.1)=false):
 PE X (.Call (.Name n p) (e::es) [] pos) (cB X.K (aG C sub EF (.mk c fid xs))) :=
 (X3 hM F hr hg hmg hb .nil OH ha hdb he dC).imp fun σ H Q ⟨σd,st,R,r,ok,q,hq⟩=>by
 simp only[aG]at q
 refine⟨σd,st,_,r,ok,q,fun vs H1 ⟨ds,aC,s1,aQ,r1,q1⟩=>?_⟩
 intro x dx hx hdx hne
 show fV X.K C fid (.ref x::(vs++[])) _ _ E0
 rw[List.append_nil]
 have cH:aS X.K aC (upd H1 dx (.own x)):=aQ.new hdx
 have s2:Step H1 aC (upd H1 dx (.own x)) aC:=sL hdx
 have hx2:upd H1 dx (.own x) x=none:=by rw[bZ (Ne.symm hne)];exact hx
 have s3:Step (upd H1 dx (.own x)) aC (upd (upd H1 dx (.own x)) x (.ins C0 dx [])) (put aC x (.ins c [])):=pN hx2
 have vS:aS X.K (put aC x (.ins c [])) (upd (upd H1 dx (.own x)) x (.ins C0 dx [])):=cH.Dn hx2 ⟨C0,dx,[],hcl,fO,rfl,.nil⟩
 refine⟨.ref x::ds,put aC x (.ins c []),_,.cons (.ref x) ((r1.step aQ s2).step cH s3),vS,q1 x (aQ.fresh hx),fun v H' ⟨d,aA,s',gD,rd,ed,q'⟩=>?_⟩
 subst ed
 exact⟨rd.fN,hq _ _ (.after ((s1.trans s2).trans (s3.trans s')) (.here gD (.ref x) q'))⟩
theorem gS (c:List Nat)(hc:sY X.K c)(hna:qP X.K c f)(ho:JE X C sub E o x)(hn:n=⟨f.toArray⟩:=by kernel_rfl)(hb:attributeBase o n X.env (eval o X.env)=eval o X.env:=by kernel_rfl):JE X C sub E (.Attribute o n pos) (.fld c f x):=⟨Fs hn hc hna ho.h hb⟩
theorem zY (m:bX C C)(c:List Nat)(hc:sY X.K c)(hna:qP X.K c f)(ho:JE X C sub EF o y)(hv:JE X C sub EF value x)(hn:n=⟨f.toArray⟩:=by kernel_rfl)(hs:swapsWith value (some (.Attribute o n pos')) pos.line X.env=pure false:=by kernel_rfl):
 JS X C sub (.Assign [.Attribute o n pos'] value pos) (.asg (.fl c f y) x):=⟨Ft m hn hc hna ho.h hv.h hs⟩
theorem yY {pl:Sem Bool}{mm:List Nat}(h:vH X C c n fid)(ho:JE X C sub EF o x)(ha:JA X C sub EF (e::es) xs)(hn:n=⟨mm.toArray⟩:=by kernel_rfl)
 (fF:starEach (e::es) X.env=(false,eval e X.env)::starEach es X.env:=by kernel_rfl)(dC:(backTo pos (starEach es X.env)).any (·.1)=false:=by kernel_rfl)
 (ht:eval (.Call (.Attribute o n apos) (e::es) [] pos) X.env=(do
  let ov <-eval o X.env
  standAt apos.atName
  let(f,first) <-holding [ov] (getMethod ov n pl)
  callWith pos f first (backTo pos (starEach (e::es) X.env)) (backToKw pos (keywordEach [] X.env))):=by rfl):
 JE X C sub EF (.Call (.Attribute o n apos) (e::es) [] pos) (.mcl c mm fid x xs):=⟨let⟨k,f,fd,ps,C0,h1,h2,h3,h4,h5,h6⟩:=h.h;Gw hn h4 h5 h6 h1 h2 h3 ho.h ha.h fF dC ht⟩
theorem ZR (h:vI X C c n fid)(ha:JA X C sub EF (e::es) xs)(hg:X.env.kindOf n=some .globalImplicit:=by kernel_rfl)(hdb:(n==("__debug__" : Str))=false:=by kernel_rfl)(he:starEach (e::es) X.env=(false,eval e X.env)::starEach es X.env:=by kernel_rfl)(dC:(backTo pos (starEach es X.env)).any (·.1)=false:=by kernel_rfl):
 JE X C sub EF (.Call (.Name n p) (e::es) [] pos) (.mk c fid xs):=⟨let⟨k,f,fd,ps,C0,h1,h2,h3,h4,h5,h6⟩:=h.h;Nf h4 h6 h1 h2 hg h5 h3 ha.h hdb he dC⟩
end
end L3
end
section
namespace L3
open PySem PySem.Spec PyProof.Rows L2
section
variable {X:Cx}{pins:List (Addr×Obj)}{σ:L2.St}{H:Hp}{s:Shared}{st:aB}
mutual
theorem KG (I:Inv X pins σ H s):∀{d:D}{v:V}{u:Value},kJ d=true->Rep X.K H d v->RelV v u->kW s.heap d u
 |_,_,u,_,.str x,rv=>by obtain⟨tk,rfl⟩:=rv;exact .str x tk
 |_,_,u,t,.tup h r,rv=>by
  cases rv
  obtain⟨aD,r1,⟨o,e,c,n,d⟩,_⟩:=I.tuple h
  exact .tup e c d (by simpa using MP I (by simpa [kJ]using t) r r1)
 |_,_,_,t,.non,_=>by cases t
 |_,_,_,t,.bl _,_=>by cases t
 |_,_,_,t,.int _,_=>by cases t
 |_,_,_,t,.ref _,_=>by cases t
 |_,_,_,t,.bP _ _,_=>by cases t
 |_,_,_,t,.dB _,_=>by cases t
theorem MP (I:Inv X pins σ H s):∀{ds:List D}{vs:List V}{us:List Value},kL ds=true->aL X.K H ds vs->aO vs us->gB s.heap ds us
 |_,_,_,_,.nil,rv=>by cases rv;exact .nil
 |_,_,_,t,.cons h r,rv=>by
  simp only[kL,Bool.and_eq_true]at t
  cases rv with
  |cons r1 r2=>exact .cons (KG I t.1 h r1) (MP I t.2 r r2)
end
theorem key_is (I:Inv X pins σ H s){d:D}{v:V}{u:Value}(k:keyed d)(r:Rep X.K H d v)(rv:RelV v u):∃ a,u=.ref a/\v=.ref a/\(AX X.prog X.w).is s.heap d a:=by
 have h:=KG I k.txt r rv
 cases d with
 |tup ds =>
 obtain⟨a,vs,rfl,_,_⟩:=r.bS
 cases rv
 exact⟨a,rfl,rfl,k,h⟩
 |_=>exact k.elim
theorem KE (I:Inv X pins σ H s)(ok:aS X.K st H){a:Addr}{ks vs:List D}(e:st a=some (.tab ks vs)):∃(xs:List (D×Addr×Value))(ws:List V),H a=some (LK a xs)/\(a==sysModules)=false/\xs.map (·.1)=ks/\(∀ x∈xs,keyed x.1)/\aO ws (xs.map (·.2.2))/\aL X.K H vs ws/\aL X.K H ks (xs.map fun x=>.ref x.2.1) /\
  s.heap.DictOfH (AX X.prog X.w) a xs:=by
 obtain⟨xs,ws,q,q0,q1,q2,q3,q4,q5,r⟩:=ok a _ e
 refine⟨xs,ws,q,q0,q1,q4,q5,r,q3,?_⟩
 obtain⟨⟨o,es,ep,h1,h2,h3,h4⟩,_⟩:=I.cG a _ q
 refine⟨o,es,ep,h1,h2,h3,h4,fun x hx=>?_,q2⟩
 obtain⟨j,hj⟩:=List.mem_iff_getElem?.mp hx
 have e1:ks[j]? = some x.1:=by rw[<-q1,List.getElem?_map,hj];rfl
 obtain⟨v,e2,rv⟩:=q3.get e1
 have e3:v=.ref x.2.1:=by
  rw[List.getElem?_map,hj]at e2
  exact(Option.some.inj e2).symm
 subst e3
 exact⟨q4 x hx,KG I (q4 x hx).txt rv rfl⟩
theorem QV {xs:List (D×Addr×Value)}{k:D}(h:∀ x∈xs,keyed x.1):(atKey xs k).isSome=(xs.map (·.1)).any fun y=>bU y k:=by
 induction xs with
 |nil=>rfl
 |cons x xs ih =>
 have ih:=ih fun y hy=>h y (by simp [hy])
 simp only[List.map_cons,List.any_cons,<-ih,E4 (h x (by simp)).txt]
 by_cases q:x.1=k
 ·simp [atKey,q]
 ·simp [atKey,q]
theorem M8 {K:PySem.W.Frag}{k:D}{d:D}:∀{xs:List (D×Addr×Value)}{vs:List D}{ws:List V},(∀ x∈xs,keyed x.1)->aO ws (xs.map (·.2.2))->aL K H vs ws->mB (xs.map (·.1)) vs k=some d->∃ p v,atKey xs k=some p/\RelV v p.2/\Rep K H d v
 |[],_,_,_,_,_,h=>by simp [mB]at h
 |x::xs,[],_,_,rv,r,h=>by simp [mB]at h
 |x::xs,d0::vs,ws,hk,rv,r,h=>by
  cases r with
  |cons r1 r2 =>
   cases rv with
   |cons v1 v2 =>
    simp only[List.map_cons,mB]at h
    rw[E4 (hk x (by simp)).txt]at h
    by_cases q:x.1=k
    ·rw[if_pos (by simpa using q)]at h;cases h
     exact⟨x.2,_,by simp [atKey,q],v1,r1⟩
    ·rw[if_neg (by simpa using q)]at h
     obtain⟨p,v,e1,e2,e3⟩:=M8 (fun y hy=>hk y (by simp [hy])) v2 r2 h
     exact⟨p,v,by simpa [atKey,q]using e1,e2,e3⟩
end
section
variable {X:Cx}{C:bO}{sub:Nat->Nat->Bool}{E:XK}{a b e o i value:Expr}{x y z:Ex}{p pos apos pos':Pos}
theorem Gn (hu:X.A.units+180<cLine)(neg:Bool):oI X (if neg=true then .NotIn else .In) (fun d d' st P=>wK d d' st fun b=>P (if neg=true then !b else b)):=by
 intro pins s σ H st d d' v v' u u' P I ok r rv r' bK q
 unfold wK at q
 split at q
 ·obtain⟨ks,vs,e,hk,q⟩:=yQ q
  cases r'.cQ
  cases bK
  obtain⟨xs,ws,t1,t2,t3,t4,t5,t6,t8,t7⟩:=KE I ok e
  obtain⟨ka,rfl,rfl,hka⟩:=key_is I hk r rv
  have hroom:(AX X.prog X.w).room X.A.in1:=by show X.A.in1.units+12<cLine;simp only[Around.in1_units];omega
  rw[<-t3,<-QV t4]at q
  cases neg with
  |true=>exact wpAny_notIn_heap hroom hka t2 t7 ⟨_,rfl,q,I.tok _⟩
  |false=>exact wpAny_in_heap hroom hka t2 t7 ⟨_,rfl,q,I.tok _⟩
 ·exact q.elim
theorem ZQ {neg:Bool}(hu:X.A.units+180<cLine)(ha:PE X a (cB X.K (aG C sub E x)))(hb:PE X b (cB X.K (aG C sub E y)))(hm:behindInMarks (if neg=true then .NotIn else .In) b=false):PT X (.Compare a [if neg=true then .NotIn else .In] [b] pos) (jG X.K (aG C sub E (.din neg x y))):=by
 intro pins s σ H Q I ⟨σd,st,R,r,ok,q,hq⟩
 simp only[aG,EA]at q
 refine wpAny_isTrue_Compare1 (bE (ha pins s σ H _ I ⟨σd,st,_,r,ok,q,fun v H' z=>z⟩) fun u s1 ⟨v,H1,I1,rv,d,aC,dJ,aQ,r1,q1⟩ =>
 bE (hb pins s1 σ H1 _ I1 ⟨σd,aC,_,r.step ok dJ,aQ,q1,fun v H' z=>z⟩) fun u' s2 ⟨v',H2,I2,bK,d',aH,iW,cH,r2,q2⟩ =>
 bE (Gn hu neg pins s2 σ H2 aH d d' v v' u u' (fun k=>R k aH) I2 cH (r1.step aQ iW) rv r2 bK q2) fun w s3 ⟨k,e,q3,I3⟩=>?_) hm
 subst e
 exact wpAny_truthy_bool ⟨H2,I3,hq _ _ ⟨aH,dJ.trans iW,cH,q3⟩⟩
def Nj (K:PySem.W.Frag):R2:=fun v v' H Q=>∃ d d' st R,Rep K H d v/\Rep K H d' v'/\aS K st H/\rV d' d st R/\∀ v H',QD K H st R v H'->Q v H'
theorem ZT (hu:X.A.units+180<cLine):xT X (Nj X.K):=by
 intro value slice pins s σ H x y v u Q I rx ry h hs
 obtain⟨d,d',st,R,r1,r2,ok,q,hq⟩:=h
 unfold rV at q
 split at q
 ·obtain⟨ks,vs,e,hk,q⟩:=yQ q
  obtain⟨d0,e0,q⟩:=eO q
  cases r1.cQ
  cases rx
  obtain⟨xs,ws,t1,t2,t3,t4,t5,t6,t8,t7⟩:=KE I ok e
  obtain⟨ka,rfl,rfl,hka⟩:=key_is I hk r2 ry
  have hroom:(AX X.prog X.w).room X.A.in1:=by show X.A.in1.units+12<cLine;simp only[Around.in1_units];omega
  rw[<-t3]at e0
  obtain⟨pp,v0,e1,e2,e3⟩:=M8 t4 t5 t6 e0
  refine subscriptTail_builtinR (x:=pp.2) t7.typeIs slot_dict_getitem.lookup ?_ hs
  exact wpAny_getItem_heap hroom hka t7 e1 ⟨rfl,v0,H,I.tok _,e2,hq _ _ (.here ok e3 q)⟩
 ·exact q.elim
theorem Hh (hu:X.A.units+180<cLine)(ha:PE X a (cB X.K (aG C sub E x)))(hb:PE X b (cB X.K (aG C sub E y)))(hp:vM b):PE X (.Subscript a b pos) (cB X.K (aG C sub E (.dix x y))) :=
 (U5 (ZT hu) ha hb hp).imp fun σ H Q ⟨σd,st,R,r,ok,q,hq⟩=>by
 simp only[aG]at q
 refine⟨σd,st,_,r,ok,q,fun v H1 ⟨d,aC,s1,aQ,r1,q1⟩=>?_⟩
 refine⟨σd,aC,_,r.step ok s1,aQ,q1,fun v' H2 ⟨d',aH,s2,cH,r2,q2⟩=>?_⟩
 exact⟨d,d',aH,R,r1.step aQ s2,r2,cH,q2,fun v H' z=>hq _ _ (.after (s1.trans s2) z)⟩
theorem Oa {pins:List (Addr×Obj)}{σ:L2.St}{H:Hp}{s:Shared}(I:Inv X pins σ H s):sysModules<s.heap.objs.size:=by
 have h:mainGlobals<s.heap.objs.size:=(I.mod.glob.keeps I.bk).lt
 exact Nat.lt_trans (by decide) h
theorem G3 {a:Addr}{xs:List (D×Addr×Value)}{w:World}:∀ h1 h2:Heap,NM a xs w h1->(∀ o,h1.get? a=some o->h2.get? a=some o)->NM a xs w h2:=fun h1 h2 ⟨o,es,ep,e,r⟩ k=>⟨o,es,ep,k o e,r⟩
theorem Ag:PE X (.Dict [] [] pos) (cB X.K (aG C sub E .dnew)):=fun pins s σ H Q I ⟨σd,st,R,r,ok,q,hq⟩=>by
 simp only[aG]at q
 have hf:H s.heap.objs.size=none:=I.cG.fresh (Nat.le_refl _)
 refine wpAny_Dict_empty ⟨.ref s.heap.objs.size,_,I.laid (a:=s.heap.objs.size) (o:=LK s.heap.objs.size []) (t':=s.toks) (fun _ _ q=>Heap.get?_push_of_some _ q) (Nat.le_refl _) ?_,rfl,hq _ _ ⟨.ref s.heap.objs.size,put st s.heap.objs.size (.tab [] []),pN hf,ok.Dn hf ?_,.ref _,q _ (ok.fresh hf)⟩⟩
 ·exact⟨⟨_,#[],0,Heap.get?_push_size _ rfl,⟨rfl,rfl,rfl⟩,rfl,rfl⟩,⟨_,Heap.get?_push_size _ rfl⟩,G3⟩
 ·exact⟨[],[],fO,beq_eq_false_iff_ne.mpr (Nat.ne_of_gt (Oa I)),rfl,List.nodup_nil,.nil,fun x hx=>(by cases hx),.nil,.nil⟩
theorem XS {x v y:D}{st:aB}{Q:aB->Prop}(h:DB x v y st Q):∃ a ks vs,y=.ref a/\st a=some (.tab ks vs)/\keyed x/\(ks.any fun k=>bU k x)=false/\ks.length<10000/\Q (put st a (.tab (ks++[x]) (vs++[v]))):=by
 unfold DB at h
 split at h
 ·obtain⟨ks,vs,e,h1,h2,h3,q⟩:=yQ h
  exact⟨_,ks,vs,rfl,e,h1,h2,h3,q⟩
 ·exact h.elim
theorem Lp (hC:bX C C)(hu:X.A.units+180<cLine)(ho:PE X o (cB X.K (aG C sub EF y)))(hi:PE X i (cB X.K (aG C sub EF z)))(hv:PE X value (cB X.K (aG C sub EF x)))(hs:swapsWith value (some (.Subscript o i pos')) pos.line X.env=pure false):
  PS X (.Assign [.Subscript o i pos'] value pos) (jB X.K (wpS C sub (.asg (.dk y z) x))):=by
 intro pins s σ H D I ⟨σd,st,P,r,ok,q,h⟩
 simp only[wpS,fX]at q
 refine wpAny_Assign_Subscript (bE (hv pins s σ H _ I ⟨σd,st,_,r,ok,rF hC h.ex q,fun v H' z=>z⟩) fun uv s1 ⟨v,H1,I1,rv,d,aC,dJ,aQ,rd,q1⟩ =>
  bE (ho pins s1 σ H1 _ I1 ⟨σd,aC,_,r.step ok dJ,aQ,rF hC h.ex q1,fun v H' z=>z⟩) fun uo s2 ⟨vo,H2,I2,rvo,d2,aH,iW,cH,rd2,q2⟩ =>
  bE (hi pins s2 σ H2 _ I2 ⟨σd,aH,_,(r.step ok dJ).step aQ iW,cH,rF hC h.ex q2,fun v H' z=>z⟩) fun ui s3 ⟨vi,H3,I3,rvi,d3,aV,s3s,vS,rd3,q3⟩=>?_) hs
 obtain⟨da,ks,vs,ed2,e,hk,hnew,hlen,q4⟩:=XS q3
 ·subst ed2
  cases rd2.cQ
  cases rvo
  obtain⟨xs,ws,t1,t2,t3,t4,t5,t6,t8,t7⟩:=KE I3 vS e
  obtain⟨ka,rfl,rfl,hka⟩:=key_is I3 hk rd3 rvi
  have hroom:(AX X.prog X.w).room X.A.in1:=by show X.A.in1.units+12<cLine;simp only[Around.in1_units];omega
  have hno:atKey xs d3=none:=by
   have:=QV (k:=d3) t4
   rw[t3,hnew]at this
   cases q:atKey xs d3 with
   |none=>rfl
   |some p=>rw[q]at this;cases this
  have hxl:xs.length=ks.length:=by rw[<-t3];simp
  refine wpAny_setItem_heap hroom hka t7 (fun h' hm hsb=>?_) (by rw[gG,hxl];have h10:(10000:Nat)<=aZ:=(by decide);omega)
  rw[storedH_new hno]at hm
  obtain⟨o',es,ep,m1,m2,m3,m4,m5,m6⟩:=id hm
  have hS:Step H3 aV (upd H3 da (LK da (xs++[(d3,ka,uv)]))) (put aV da (.tab (ks++[d3]) (vs++[d]))):=mJ e
  have I4:Inv X pins σ (upd H3 da (LK da (xs++[(d3,ka,uv)]))) { s3 with heap:=h',toks:=s3.toks+(AX X.prog X.w).draws d3 }:=by
   refine I3.write (x:=da) (e:=da) (by rw[t1];exact True.intro) (.inl rfl) (fun b u hb z=>(hsb.2 b hb).trans z) ⟨o',m1⟩ ?_
   exact⟨⟨o',es,ep,m1,m2,m3,m4⟩,⟨o',m1⟩,G3⟩
  refine⟨σ,_,I4,h.nx _ _ _ _ ((((r.step ok dJ).step aQ iW).step cH s3s).step vS hS) (((dJ.trans iW).trans s3s).trans hS) (vS.KP e ?_) q4⟩
  refine⟨xs++[(d3,ka,uv)],ws++[v],fO,t2,by simp [t3],m6,?_,?_,?_,?_⟩
  ·rw[List.map_append]
   exact(t8.step vS hS).append (.cons (rd3.step vS hS) .nil)
  ·intro x hx
   rcases List.mem_append.mp hx with hx|hx
   ·exact t4 x hx
   ·simp only[List.mem_singleton]at hx;subst hx;exact hk
  ·rw[List.map_append];exact t5.append (.cons rv .nil)
  ·exact(t6.step vS hS).append (.cons ((((rd.step aQ iW).step cH s3s)).step vS hS) .nil)
theorem Of (hu:X.A.units+180<cLine)(ha:JE X C sub E a x)(hb:JE X C sub E b y)(hm:behindInMarks .In b=false:=by kernel_rfl):JT X C sub E (.Compare a [.In] [b] pos) (.din false x y):=⟨ZQ (neg:=false) hu ha.h hb.h hm⟩
theorem MW (hu:X.A.units+180<cLine)(ha:JE X C sub E a x)(hb:JE X C sub E b y)(hp:vM b:=by intro _ _;rfl):JE X C sub E (.Subscript a b pos) (.dix x y):=⟨Hh hu ha.h hb.h hp⟩
theorem Ob:JE X C sub E (.Dict [] [] pos) .dnew:=⟨Ag⟩
theorem Ny (m:bX C C)(hu:X.A.units+180<cLine)(ho:JE X C sub EF o y)(hi:JE X C sub EF i z)(hv:JE X C sub EF value x)(hs:swapsWith value (some (.Subscript o i pos')) pos.line X.env=pure false:=by kernel_rfl):
 JS X C sub (.Assign [.Subscript o i pos'] value pos) (.asg (.dk y z) x):=⟨Lp m hu ho.h hi.h hv.h hs⟩
end
end L3
end
section
namespace L3
open PySem PySem.Spec PyProof.Rows L2
theorem Fb {P:Program}{w:World}{K:PySem.W.Frag}{mg:Str->Option Value}{base:Heap}{G:Prog}{r k f:Nat}{fn:Fn}{x qual:Str}{st:Stmt}{a:Addr}{fd:FuncData}{N ps:List Str}(F:BL K x qual st a fd)(S:vG N ps (aR st))
  (hG:G.fns f=some fn)(hp:fn.np=ps.length)(hl:fn.nl=N.length)
  (hb:∀(bL:Value)(A:Around)(outer:List Env)(s:Shared)(H:Hp)(E:L2.XK),dM r (A.deeper (envOfC qual (aR st) s.heap.objs.size a bL)) ->
   BE (nU hJ P w K mg base N qual (aR st) a bL A outer s H E).qQ (aM G k) G.sub (jH st) fn.body):
  dR P w K mg base hJ (r+1) a fd ps (fV K (aM G (k+1)) f):=by
 refine F.ok S (fun vs H Q E h=>?_) (fun bL A outer s H vs Q E hr h=>?_)
 ·obtain⟨ds,aA,R,r,_,h,_⟩:=h
  simp only[aM,hG]at h
  rw[<-r.length,h.1,hp]
 ·obtain⟨ds,aA,R,r,ok,h,hq⟩:=h
  simp only[aM,hG]at h
  refine⟨_,(hb bL A outer s H E hr).h,?_⟩
  refine⟨start fn.np fn.nl ds,aA,_,?_,ok,h.2,⟨fun σ' H' eH aY sr s' gD q=>?_,fun v H' z=>hq v H' z,fun _ _ _ _ _ _ _ q=>q,fun _ _ _ _ _ _ _ q=>q,fun _ _ _ q=>q⟩⟩
  ·rw[hl];exact R5 r h.1
  ·exact hq _ _ ⟨.non,aY,s',gD,.non,q⟩
def kB (s:Stmt)(j:Nat):Stmt:=match s with
 |.ClassDef _ _ _ body ..=>body.getD j (.Pass ⟨0,0,0,0⟩)
 |_=>.Pass ⟨0,0,0,0⟩
inductive At where
 |top
 |bW (c:List Nat)
 |init (c:List Nat)
def Am (K:PySem.W.Frag)(mg:Str->Option Value)(n:Str)(a:Addr):At->Prop
 |.top=>mg n=some (.ref a)
 |.bW c=>∃ C0,clsAt K c C0/\tF K C0/\FE K C0 n a
 |.init c=>∃ C0,clsAt K c C0/\mg ⟨c.toArray⟩=some (.ref C0)/\Mk K C0 a
structure CC (K:PySem.W.Frag)(mg:Str->Option Value)(nf:Nat)(nm qn:Nat->Str)(ps:Nat->List Str)(st:Nat->Stmt)(at_:Nat->At) where
 a:Nat->Addr
 fd:Nat->FuncData
 fn:∀ i,i<nf->BL K (nm i) (qn i) (st i) (a i) (fd i)
 bi:∀ i,i<nf->Binds K (fd i) (ps i) []
 mg:∀ i,i<nf->Am K mg (nm i) (a i) (at_ i)
theorem ME {P:Program}{w:World}{K:PySem.W.Frag}{mg:Str->Option Value}{base:Heap}{G:Prog}{nf:Nat}{nm qn:Nat->Str}{ps:Nat->List Str}{st:Nat->Stmt}{at_:Nat->At}(T:CC K mg nf nm qn ps st at_)
 (step:∀ k,(∀ i,i<nf->dR P w K mg base hJ (2*k) (T.a i) (T.fd i) (ps i) (fV K (aM G k) i))->∀ i,i<nf->dR P w K mg base hJ (2*k+1+1) (T.a i) (T.fd i) (ps i) (fV K (aM G (k+1)) i)):
 ∀ k i,i<nf->dR P w K mg base hJ (2*k) (T.a i) (T.fd i) (ps i) (fV K (aM G k) i)
 |0,i,_=>YD
 |k+1,i,h=>step k (ME T step k) i h
def ES (n q:Str)(ps:List Str)(st:Stmt):Prop:=∀(kV doc pm:Value)(an:Option Addr)(bL ct:Value)(us:List Value),us.length=ps.length->bindArgs (PySem.W.fnOf n q (mS st) (jH st) (aR st) .none kV doc pm an bL ct) ⟨us,[]⟩=pure (ps.zip us)
def xB (K:PySem.W.Frag)(mg:Str->Option Value)(n q:Str)(st:Stmt)(at_:At):Prop:=∃ a fd,BL K n q st a fd/\Am K mg n a at_
theorem Gd {K:PySem.W.Frag}{h:Heap}{mg:Str->Option Value}(X:K.In h)(G:h.Ns mainGlobals mg){n:Str}{st:Stmt}{f:Addr}{oc:Value}{od an:Option Addr}{sl:Array (Option Value)}{kV dc pm cd ct:Value}
 (a:PySem.W.nsIn K mainGlobals n=some (some (.ref f)))(l:K.lookup f=some ⟨oc,od,.func (PySem.W.fnOf n n (mS st) (jH st) (aR st) .none kV dc pm an cd ct),sl⟩)(c:PySem.W.codeIn K cd n=true)(k:PySem.W.keepIn K (.ref f)=true):xB K mg n n st .top :=
 ⟨f,_,KW l c k,PySem.W.mg_of X G a⟩
theorem Hn {K:PySem.W.Frag}{h:Heap}{mg:Str->Option Value}(X:K.In h)(G:h.Ns mainGlobals mg){n q:Str}{c:List Nat}{C:Addr}{st:Stmt}{f:Addr}{oc:Value}{od an:Option Addr}{sl:Array (Option Value)}{kV dc pm cd ct:Value}
 (cl:PySem.W.nsIn K mainGlobals ⟨c.toArray⟩=some (some (.ref C)))(pg:PySem.W.plainGet K C Str.empty=true)(hd:PySem.W.hasDictIn K C=true)(po:PySem.W.plainOver K C=true)(sa:PySem.W.findIn K (.ref C) "__setattr__" = some (some (.builtin "object.__setattr__")))
 (a:PySem.W.findIn K (.ref C) n=some (some (.ref f)))(fn:PySem.W.isFn K (.ref f)=true)
 (l:K.lookup f=some ⟨oc,od,.func (PySem.W.fnOf n q (mS st) (jH st) (aR st) .none kV dc pm an cd ct),sl⟩)(cc:PySem.W.codeIn K cd q=true)(k:PySem.W.keepIn K (.ref f)=true):xB K mg n q st (.bW c) :=
 ⟨f,_,KW l cc k,C,cl,⟨pg,hd,po,sa⟩,⟨a,fn,k⟩⟩
theorem Ho {K:PySem.W.Frag}{h:Heap}{mg:Str->Option Value}(X:K.In h)(G:h.Ns mainGlobals mg){q:Str}{c:List Nat}{C:Addr}{st:Stmt}{f:Addr}{oc:Value}{od an:Option Addr}{sl:Array (Option Value)}{kV dc pm cd ct:Value}
 (cl:PySem.W.nsIn K mainGlobals ⟨c.toArray⟩=some (some (.ref C)))(mk:PySem.W.makesIn K C=true)(kp:PySem.W.keepIn K (.ref C)=true)
 (a:PySem.W.findIn K (.ref C) "__init__" = some (some (.ref f)))(fn:PySem.W.isFn K (.ref f)=true)
 (l:K.lookup f=some ⟨oc,od,.func (PySem.W.fnOf "__init__" q (mS st) (jH st) (aR st) .none kV dc pm an cd ct),sl⟩)(cc:PySem.W.codeIn K cd q=true)(k:PySem.W.keepIn K (.ref f)=true):xB K mg "__init__" q st (.init c) :=
 ⟨f,_,KW l cc k,C,cl,PySem.W.mg_of X G cl,⟨mk,a,fn,kp⟩⟩
theorem Dr {K:PySem.W.Frag}{c:List Nat}{C:Addr}(cl:PySem.W.nsIn K mainGlobals ⟨c.toArray⟩=some (some (.ref C)))(pg:PySem.W.plainGet K C Str.empty=true)(hd:PySem.W.hasDictIn K C=true)(po:PySem.W.plainOver K C=true)(sa:PySem.W.findIn K (.ref C) "__setattr__" = some (some (.builtin "object.__setattr__"))):sY K c:=⟨C,cl,pg,hd,po,sa⟩
theorem Bb {K:PySem.W.Frag}{c f:List Nat}{C:Addr}(cl:PySem.W.nsIn K mainGlobals ⟨c.toArray⟩=some (some (.ref C)))(na:PySem.W.findIn K (.ref C) ⟨f.toArray⟩=some none):qP K c f:=⟨fun C' h=>by cases clsAt.inj h cl;exact na⟩
theorem NF {K:PySem.W.Frag}{mg:Str->Option Value}{nm qn:Nat->Str}{ps:Nat->List Str}{st:Nat->Stmt}{at_:Nat->At}:∀(nf:Nat),(∀ i,i<nf->ES (nm i) (qn i) (ps i) (st i))->(∀ i,i<nf->xB K mg (nm i) (qn i) (st i) (at_ i))->FuncData->Nonempty (CC K mg nf nm qn ps st at_)
 |0,_,_,d=>⟨⟨fun _=>0,fun _=>d,fun i h=>absurd h (by omega),fun i h=>absurd h (by omega),fun i h=>absurd h (by omega)⟩⟩
 |nf+1,B,H,d=>by
  obtain⟨T⟩:=NF nf (fun i h=>B i (by omega)) (fun i h=>H i (by omega)) d
  obtain⟨a,fd,hF,hm⟩:=H nf (by omega)
  refine⟨⟨fun i=>if i=nf then a else T.a i,fun i=>if i=nf then fd else T.fd i,fun i h=>?_,fun i h=>?_,fun i h=>?_⟩⟩
  ·by_cases e:i=nf
   ·subst e;simpa using hF
   ·simpa only[if_neg e]using T.fn i (by omega)
  ·by_cases e:i=nf
   ·subst e;simpa using hF.binds (B i (by omega))
   ·simpa only[if_neg e]using T.bi i (by omega)
  ·by_cases e:i=nf
   ·subst e;simpa using hm
   ·simpa only[if_neg e]using T.mg i (by omega)
theorem NO {K:PySem.W.Frag}{n q x:Str}{st:Stmt}{a:Addr}{fd:FuncData}(F:BL K n q st a fd)(h:ES n q [x] st)(s:Shared)(u:Value):BindsTo s fd ⟨[u],[]⟩ [(x,u)]:=by
 obtain⟨oc,od,kV,doc,pm,an,bL,ct,osl,rfl,lk,hcd⟩:=F.ex
 exact .of_eq (h kV doc pm an bL ct [u] rfl)
theorem Dv {l:PySem.W.OpenLaw}{q:Program}{loose:List Str}{XP:(Str->Option Value)->Heap->Prop}{YP:World->Heap->Prop}{d:DefRec}{K:Params->PySem.W.Frag}{G:Prog}{r k f:Nat}{x:Str}(hr:dM r callerA)(UW:∀ ns:List Int,ns.length<=63->aM G k f [.bP (ns.map .int)] (fun _=>none) (fun d _=>d=.bl true) fun _ _=>False)(hn:l.most=some 63)(hdf:d.params.defaults=[])
 (hY:∀(w:World)(h:Heap),YP w h->(K w.params).In h)
 (F:∀(w:World)(mg:Str->Option Value)(fa:Addr)(h:Heap),(K w.params).In h->h.Ns mainGlobals mg->mg d.name=some (.ref fa) ->
  ∃ fd:FuncData,(∀(s:Shared)(u:Value),BindsTo s fd ⟨[u],[]⟩ [(x,u)])/\∀ base:Heap,(K w.params).In base->base.Ns mainGlobals mg->dR l.prog w (K w.params) mg base hJ r fa fd [x] (fV (K w.params) (aM G k) f)):
 PySem.W.WalkO q loose XP YP l.row.toRowW d [] (fun f vs=>PySem.call f vs) :=
 L2.WY (n:=63) (k:=r) (x:=x) (CX:=fun _=>hJ) (sp:=fun w=>fV (K w.params) (aM G k) f) hn (by decide) hdf hr hY F (fun _ H a ns hl hO hS=>Ec UW H a ns hl hO hS) fun _ _ _ _ _ z=>z
end L3
end
section
namespace L3
section
variable {C:bO}{sub:Nat->Nat->Bool}{E:XK}{σ:St}{st:aB}{Q:VK}{QQ:List D->aB->Prop}{QB:Bool->aB->Prop}{P:iK}{e a b c:Ex}{es:List Ex}{i:Nat}{d:D}{M:St->aB->Prop}
theorem M3:aG C sub E (.c d) σ st Q=Q d st:=by simp only[aG]
theorem JH:aG C sub E (.v i) σ st Q=gL σ i fun d=>Q d st:=by simp only[aG]
theorem Gx:aG C sub E (.tup es) σ st Q=bG C sub E es σ st fun ds aA=>Q (.tup ds) aA:=by simp only[aG]
theorem Hj:aG C sub E (.lst es) σ st Q=bG C sub E es σ st fun ds aA=>iE ds aA Q:=by simp only[aG]
theorem U9 {op:vC}:aG C sub E (.bin op a b) σ st Q=aG C sub E a σ st fun x aC=>aG C sub E b σ aC fun y aH=>iB op x y aH Q:=by simp only[aG]
theorem Ih:aG C sub E (.neg a) σ st Q=aG C sub E a σ st fun x aC=>zQ x aC Q:=by simp only[aG]
theorem Fy {op:rJ}:aG C sub E (.cmp op a b) σ st Q=aG C sub E a σ st fun x aC=>aG C sub E b σ aC fun y aH=>dD op x y aH fun k=>Q (.bl k) aH:=by simp only[aG]
theorem XO {op op':rJ}:aG C sub E (.chain op op' a b c) σ st Q=aG C sub E a σ st fun x aC=>aG C sub E b σ aC fun y aH=>dD op x y aH fun k =>
 if k=true then aG C sub E c σ aH fun z aV=>dD op' y z aV fun k=>Q (.bl k) aV else Q (.bl false) aH:=by simp only[aG]
theorem Ga:aG C sub E (.and_ a b) σ st Q=aG C sub E a σ st fun x aC=>eI x aC fun k=>if k=true then aG C sub E b σ aC Q else Q x aC:=by simp only[aG]
theorem Mv:aG C sub E (.or_ a b) σ st Q=aG C sub E a σ st fun x aC=>eI x aC fun k=>if k=true then Q x aC else aG C sub E b σ aC Q:=by simp only[aG]
theorem Fh:aG C sub E (.not_ a) σ st Q=aG C sub E a σ st fun x aC=>eI x aC fun k=>Q (.bl (!k)) aC:=by simp only[aG]
theorem Gr:aG C sub E (.ite c a b) σ st Q=aG C sub E c σ st fun x aC=>eI x aC fun k=>if k=true then aG C sub E a σ aC Q else aG C sub E b σ aC Q:=by simp only[aG]
theorem Ei {f:Nat}:aG C sub E (.call f es) σ st Q=bG C sub E es σ st fun ds aA=>C f ds aA Q E:=by simp only[aG]
theorem Lq {f:BI}:aG C sub E (.bi f es) σ st Q=bG C sub E es σ st fun ds aA=>gT f ds aA Q:=by simp only[aG]
theorem Hy {ts:List Ty}:aG C sub E (.isi a ts) σ st Q=aG C sub E a σ st fun x aC=>xI sub x aC ts fun k=>Q (.bl k) aC:=by simp only[aG]
theorem Cg {m:MT}:aG C sub E (.bW m a es) σ st Q=aG C sub E a σ st fun x aC=>AD m x aC/\bG C sub E es σ aC fun ds aH=>jQ m x ds aH Q:=by simp only[aG]
theorem EM:aG C sub E (.ix a b) σ st Q=aG C sub E a σ st fun x aC=>aG C sub E b σ aC fun y aH=>oG x y aH Q:=by simp only[aG]
theorem Ms {lo hi:List Ex}:aG C sub E (.sl a lo hi) σ st Q=aG C sub E a σ st fun x aC=>bG C sub E lo σ aC fun ls aH=>nN ls fun l=>bG C sub E hi σ aH fun hs aV=>nN hs fun h=>D2 x l h aV Q:=by simp only[aG]
theorem Hx {f:BI}{k:IK}:aG C sub E (.bit f k es) σ st Q=bG C sub E es σ st fun ds aC=>gN (some k) ds aC fun _ xs=>fD f xs aC Q:=by simp only[aG]
theorem Ap {n:Nat}{bH tg:List Nat}{one:Bool}{k:Option IK}{aD ifs:List Ex}:aG C sub E (.comp n bH tg one k aD ifs e) σ st Q=bG C sub E aD σ st fun ds aC=>gN k ds aC fun as xs =>
 jS (same as aC) (fun x aH K=>kM one tg x (List.replicate n none++bH.map fun i=>(σ[i]?).getD none) fun σ' =>
 fH C sub E ifs σ' aH fun b aV=>if b=true then aG C sub E e σ' aV fun d cJ=>K (some d) cJ else K none aV) xs [] aC fun ds cR=>iE ds cR Q:=by simp only[aG]
theorem Es:bG C sub E [] σ st QQ=QQ [] st:=by simp only[bG]
theorem YF:bG C sub E (e::es) σ st QQ=aG C sub E e σ st fun d aA=>bG C sub E es σ aA fun ds aY=>QQ (d::ds) aY:=by simp only[bG]
theorem Gu:fH C sub E [] σ st QB=QB true st:=by simp only[fH]
theorem Aa:fH C sub E (e::es) σ st QB=aG C sub E e σ st fun d aA=>eI d aA fun k=>if k=true then fH C sub E es σ aA QB else QB false aA:=by simp only[fH]
theorem Jh:wpS C sub (.ex e) P σ st=aG C sub (fun c aA=>P.ex c σ aA) e σ st fun _ aA=>P.nx σ aA:=by simp only[wpS]
theorem vE {t:Tg}:wpS C sub (.asg t e) P σ st=aG C sub (fun c aA=>P.ex c σ aA) e σ st fun d aA=>fX C sub (fun c aA=>P.ex c σ aA) t d σ aA P.nx:=by simp only[wpS]
theorem Ax {op:vC}:wpS C sub (.aug i op e) P σ st=gL σ i fun x=>aG C sub (fun c aA=>P.ex c σ aA) e σ st fun y aA=>notRef x/\iB op x y aA fun d aY=>P.nx (σ.set i (some d)) aY:=by simp only[wpS]
theorem Bh {x y:List Sx}:wpS C sub (.iff e x y) P σ st=aG C sub (fun c aA=>P.ex c σ aA) e σ st fun d aA=>eI d aA fun k=>if k=true then cN C sub x P σ aA else cN C sub y P σ aA:=by simp only[wpS]
theorem Dl {t:Tg}{k:Option IK}{b:List Sx}:wpS C sub (.gQ t k es b) P σ st=bG C sub (fun c aA=>P.ex c σ aA) es σ st fun ds aC=>gN k ds aC fun as xs=>rY (same as aC) (fun x next σ st=>fX C sub (fun c aA=>P.ex c σ aA) t x σ st fun σ' aA=>cN C sub b { P with nx:=next,ct:=next,bk:=P.nx } σ' aA) P.nx xs σ aC:=by simp only[wpS]
theorem Cb:wpS C sub (.ret e) P σ st=aG C sub (fun c aA=>P.ex c σ aA) e σ st P.rt:=by simp only[wpS]
theorem Y5:wpS C sub .brk P σ st=P.bk σ st:=by simp only[wpS]
theorem Dh:wpS C sub .cnt P σ st=P.ct σ st:=by simp only[wpS]
theorem V9:wpS C sub .pass P σ st=P.nx σ st:=by simp only[wpS]
theorem AY:fX C sub E (.nm i) d σ st M=M (σ.set i (some d)) st:=by simp only[fX]
theorem Fm {is:List Nat}:fX C sub E (.tp is) d σ st M=kM false is d σ fun σ'=>M σ' st:=by simp only[fX]
theorem Gp:fX C sub E (.ix a b) d σ st M=aG C sub E a σ st fun x aC=>aG C sub E b σ aC fun y aH=>CF x y d aH fun aV=>M σ aV:=by simp only[fX]
theorem Jl {c f:List Nat}:fX C sub E (.fl c f a) d σ st M=aG C sub E a σ st fun x aC=>DI c f d x aC fun aH=>M σ aH:=by simp only[fX]
theorem Hk:fX C sub E (.dk a b) d σ st M=aG C sub E a σ st fun x aC=>aG C sub E b σ aC fun y aH=>DB y d x aH fun aV=>M σ aV:=by simp only[fX]
theorem Jj {c f:List Nat}:aG C sub E (.fld c f a) σ st Q=aG C sub E a σ st fun x aC=>qF c f x aC Q:=by simp only[aG]
theorem Li {c:List Nat}{f:Nat}:aG C sub E (.mk c f es) σ st Q=bG C sub E es σ st fun ds aC=>∀ p,aC p=none->C f (.ref p::ds) (put aC p (.ins c [])) (fun d aH=>d=.non/\Q (.ref p) aH) E:=by simp only[aG]
theorem Io {c m:List Nat}{f:Nat}:aG C sub E (.mcl c m f a es) σ st Q=aG C sub E a σ st fun x aC=>EH c m x aC/\bG C sub E es σ aC fun ds aH=>C f (x::ds) aH Q E:=by simp only[aG]
theorem Dm:aG C sub E .dnew σ st Q = ∀ p,st p=none->Q (.ref p) (put st p (.tab [] [])):=by simp only[aG]
theorem Gy {neg:Bool}:aG C sub E (.din neg a b) σ st Q=aG C sub E a σ st fun x aC=>aG C sub E b σ aC fun y aH=>wK x y aH fun k=>Q (.bl (if neg=true then !k else k)) aH:=by simp only[aG]
theorem Gk:aG C sub E (.dix a b) σ st Q=aG C sub E a σ st fun y aC=>aG C sub E b σ aC fun x aH=>rV x y aH Q:=by simp only[aG]
theorem cW {c f:List Nat}{p:Nat}{fs:List (List Nat×D)}(h:st p=some (.ins c fs)){x:D}(hx:bY fs f=some x):qF c f (.ref p) st Q=Q x st:=by
 simp only[qF,nR,h,hx,dA,true_and]
theorem mZ {c f:List Nat}{p:Nat}{fs:List (List Nat×D)}{R:aB->Prop}(h:st p=some (.ins c fs))(hl:fs.length<900):DI c f d (.ref p) st R=R (put st p (.ins c (rN f d fs))):=by
 simp only[DI,nR,h,hl,true_and]
theorem kU {c m:List Nat}{p:Nat}{fs:List (List Nat×D)}(h:st p=some (.ins c fs))(hm:bY fs m=none):EH c m (.ref p) st=True:=by
 simp only[EH,nR,h,hm,and_self]
theorem Bd {x:D}{p:Nat}{ks vs:List D}{R:Bool->Prop}(h:st p=some (.tab ks vs))(hx:keyed x):wK x (.ref p) st R=R (ks.any fun k=>bU k x):=by
 simp only[wK,tabAt,h,hx,true_and]
theorem EC {x v:D}{p:Nat}{ks vs:List D}(h:st p=some (.tab ks vs))(hx:keyed x)(hv:mB ks vs x=some v):rV x (.ref p) st Q=Q v st:=by
 simp only[rV,tabAt,h,hx,hv,dA,true_and]
theorem Ff {x v:D}{p:Nat}{ks vs:List D}{R:aB->Prop}(h:st p=some (.tab ks vs))(hx:keyed x)(hn:(ks.any fun k=>bU k x)=false)(hl:ks.length<10000):DB x v (.ref p) st R=R (put st p (.tab (ks++[x]) (vs++[v]))):=by
 simp only[DB,tabAt,h,hx,hn,hl,true_and]
end
section
variable {d:D}{r:St}{R:D->Prop}{o0 o1 o2 o3 o4 o5 o6 o7 o8 o9 kE lO VT:Option D}
theorem ER:gL (some d::r) 0 R=R d:=rfl
theorem Cm:gL (o0::some d::r) 1 R=R d:=rfl
theorem Mu:gL (o0::o1::some d::r) 2 R=R d:=rfl
theorem Lb:gL (o0::o1::o2::some d::r) 3 R=R d:=rfl
theorem Ld:gL (o0::o1::o2::o3::some d::r) 4 R=R d:=rfl
theorem Mh:gL (o0::o1::o2::o3::o4::some d::r) 5 R=R d:=rfl
theorem Nq:gL (o0::o1::o2::o3::o4::o5::some d::r) 6 R=R d:=rfl
theorem Mx:gL (o0::o1::o2::o3::o4::o5::o6::some d::r) 7 R=R d:=rfl
theorem Kx:gL (o0::o1::o2::o3::o4::o5::o6::o7::some d::r) 8 R=R d:=rfl
theorem Ly:gL (o0::o1::o2::o3::o4::o5::o6::o7::o8::some d::r) 9 R=R d:=rfl
theorem Ia:gL (o0::o1::o2::o3::o4::o5::o6::o7::o8::o9::some d::r) 10 R=R d:=rfl
theorem Fw:gL (o0::o1::o2::o3::o4::o5::o6::o7::o8::o9::kE::some d::r) 11 R=R d:=rfl
theorem He:gL (o0::o1::o2::o3::o4::o5::o6::o7::o8::o9::kE::lO::some d::r) 12 R=R d:=rfl
theorem Jq:gL (o0::o1::o2::o3::o4::o5::o6::o7::o8::o9::kE::lO::VT::some d::r) 13 R=R d:=rfl
end
end L3
end
section
open L3 PySem
local macro_rules|`(tactic| walk_at"wpe")=>`(tactic| simp only[↓M3,↓JH,↓Gx,↓Hj,↓U9,↓Ih,↓Fy,↓XO,↓Ga,↓Mv,↓Fh,↓Gr,↓Ei,↓Lq,↓Hy,↓Cg,↓EM,↓Ms,↓Hx,↓Ap,↓Jj,↓Li,↓Io,↓Dm,↓Gy,↓Gk,↓Jl,↓Hk,↓Es,↓YF,↓Gu,↓Aa,↓Jh,↓vE,↓Ax,↓Bh,↓Dl,↓Cb,↓Y5,↓Dh,↓V9,↓AY,↓Fm,↓Gp,↓ER,↓Cm,↓Mu,↓Lb,↓Ld,↓Mh,↓Nq,↓Mx,↓Kx,↓Ly,↓Ia,↓Fw,↓He,↓Jq,↓EA,↓YX,↓W3,↓V6,↓TQ,↓ZK,↓Ab,↓Ad,↓ZD,↓cmp_gt,↓Cp,↓WM,↓W7,↓UK,↓SX,↓OV,↓L6,↓NG,↓L4,↓JU,↓LQ,↓add_int,↓add_str,↓FD,↓WJ,↓sub_int,↓mul_int,↓YV,↓SG,↓mod_int,↓pow_int,↓neg_int,↓ML,↓X9,jL,↓kS,↓MQ,↓IL,↓W5,E5,SM,S7,Mt,Lc,↓bB,↓PM,↓Z1,↓Bn,↓LH,↓ZL,Gi,↓MC,↓UG,↓UY,↓PZ,↓mM,↓vR,↓oN,↓TF,↓OL,↓OG,↓YK,↓Q2,↓YE,↓LC,↓len_str,↓ET,↓RU,↓QH,↓VW,↓ZE,↓Z9,↓RW,↓MJ,↓J0,↓Bi,↓YY,↓HI,↓Ae,↓Cj,↓XW,↓UR,↓Ey,↓X8,↓M9,↓xD,↓NP,↓YH,↓tX,↓zC,↓HY,↓MM,↓Cq,↓II,List.map_cons,List.map_nil,List.cons_append,List.nil_append,List.replicate,List.append_nil,if_true,if_false,Bool.not_true,Bool.not_false,Bool.false_eq_true,reduceIte,List.set_cons_zero,List.set_cons_succ,true_and,and_true,xN,OI,Q5,NI,FV,GR,K1,HD,iM,W6,ZV,W8,Option.getD_some,List.getElem?_cons_zero,List.getElem?_cons_succ,decide_eq_true_eq,Bool.and_eq_true,List.zip_cons_cons,List.zip_nil_left,List.zip_nil_right,List.foldl_cons,List.foldl_nil,List.length_cons,List.length_nil])
local macro_rules|`(tactic| walk_at"st")=>`(tactic| ((try dsimp only);rw[cU];(try walk_at"wpe")))
local macro_rules|`(tactic| walk_at"ex")=>`(tactic| ((try dsimp only);(try walk_at"wpe")))
section
namespace L3
open PySem
theorem aT {G:Prog}{f k:Nat}{fn:Fn}{ds:List D}{st:aB}{Q:VK}{E:XK}(h:G.fns f=some fn):aM G (k+1) f ds st Q E=(ds.length=fn.np/\cN (aM G k) G.sub fn.body ⟨fun _ aA=>Q .non aA,Q,fun _ _=>False,fun _ _=>False,fun c _ aA=>E c aA⟩ (start fn.np fn.nl ds) st):=by
 simp only[aM,h]
def bD (as:List Nat)(st aA:aB):Prop:=∀ a o,a∉as->st a=some o->aA a=some o
theorem bD.refl {as:List Nat}{st:aB}:bD as st st:=fun _ _ _ h=>h
theorem bD.trans {as:List Nat}{a b c:aB}(h:bD as a b)(h':bD as b c):bD as a c:=fun x o n e=>h' x o n (h x o n e)
theorem bD.mono {as bs:List Nat}{st aA:aB}(h:bD as st aA)(s:∀ a∈as,a∈bs):bD bs st aA:=fun x o n e=>h x o (fun z=>n (s x z)) e
theorem Ext.keep {as:List Nat}{st aA:aB}(h:Ext st aA):bD as st aA:=fun x o _ e=>h x o e
theorem bD.put {as:List Nat}{st:aB}{a:Nat}{o:MO}(h:a∈as):bD as st (put st a o):=fun x u n e=>by rw[aJ (fun z=>n (by rw[z];exact h))];exact e
def xE (ns:List Int)(k:Int):Int:=if k<ns.length then(ns[k.toNat]?).getD 0 else if ns=[]then 0 else(ns[(k % ns.length).toNat]?).getD 0*31+k
def lB (ns:List Int)(k many:Int):Int :=
 let d:=(xE ns k+7919*k+1)*48271 % 2147483647
 (d*d+7*d+k) % 2147483629 % many
theorem gW {ns:List Int}{k many:Int}(h:0<many):0<=lB ns k many:=Int.emod_nonneg _ (by omega)
theorem gY {ns:List Int}{k many:Int}(h:0<many):lB ns k many<many:=Int.emod_lt_of_pos _ h
def qV:Fn:=⟨2,2,[.iff (.cmp .lt (.v 1) (.bi .len [(.v 0)])) [.ret (.ix (.v 0) (.v 1))] [],.iff (.cmp .eq (.v 0) (.lst [])) [.ret (.c (.int 0))] [],
 .ret (.bin .add (.bin .mul (.ix (.v 0) (.bin .mod (.v 1) (.bi .len [(.v 0)]))) (.c (.int 31))) (.v 1))]⟩
def pJ (ic:Nat):Fn:=⟨3,4,[.asg (.nm 3) (.bin .mod (.bin .mul (.bin .add (.bin .add (.call ic [(.v 0),(.v 1)]) (.bin .mul (.c (.int 7919)) (.v 1))) (.c (.int 1))) (.c (.int 48271))) (.c (.int 2147483647))),
 .ret (.bin .mod (.bin .mod (.bin .add (.bin .add (.bin .mul (.v 3) (.v 3)) (.bin .mul (.c (.int 7)) (.v 3))) (.v 1)) (.c (.int 2147483629))) (.v 2))]⟩
def wI (im:Nat):Fn:=⟨3,3,[.asg (.ix (.v 1) (.c (.int 0))) (.bin .add (.ix (.v 1) (.c (.int 0))) (.c (.int 1))),.ret (.call im [(.v 0),(.ix (.v 1) (.c (.int 0))),(.v 2)])]⟩
theorem DT (ns:List Int):bN (ns.map .int)=true/\cK (ns.map .int)=0:=by
 induction ns with
 |nil=>exact⟨rfl,rfl⟩
 |cons n r ih=>exact⟨by simp only[List.map_cons,bN,bI,ih.1,Bool.and_self],by simp only[List.map_cons,cK,cL,ih.2,Nat.max_self]⟩
theorem MG {ns:List Int}{k:Int}(h0:0<=k)(h1:k<ns.length):gC (ns.map D.int) k=some (.int ((ns[k.toNat]?).getD 0)):=by
 obtain⟨n,rfl⟩:∃ n:Nat,k=n:=⟨k.toNat,by omega⟩
 rw[dY (by simp;omega)]
 simp only[List.getElem?_map,Int.toNat_natCast]
 rw[List.getElem?_eq_getElem (by omega)]
 rfl
section
variable {G:Prog}{k ic im eD:Nat}{st:aB}{Q:VK}{E:XK}{ns:List Int}
theorem YC (hc:G.fns ic=some qV){i:Int}(hi:0<=i)(hQ:∀ aA,Ext st aA->Q (.int (xE ns i)) aA):aM G (k+1) ic [.bP (ns.map .int),.int i] st Q E:=by
 rw[aT hc]
 simp only[qV,start]
 refine⟨rfl,?_⟩
 rw[cU]
 walk_at"wpe"
 simp only[List.length_map]
 by_cases h:i<ns.length
 ·simp only[h,decide_true,if_true]
  rw[cU]
  walk_at"wpe"
  rw[MG hi h]
  walk_at"wpe"
  have:=hQ st .refl
  simp only[xE,h,if_true]at this
  exact this
 ·simp only[h,decide_false,Bool.false_eq_true,if_false,aF]
  rw[cU]
  walk_at"wpe"
  refine⟨Nat.zero_le _,fun p hp=>?_⟩
  have hx:Ext st (put st p (.lst [])):=Ext.new hp
  dsimp only
  have e1:bT (put st p (.lst [])) (.bP (ns.map .int)) (.ref p)=ns.isEmpty:=by
   simp only[bT,aP,C6]
   cases ns with
   |nil=>rfl
   |cons n r=>rfl
  rw[e1]
  refine⟨⟨?_,Nat.zero_le _⟩,⟨?_,Nat.zero_le _⟩,?_⟩
  ·simp only[fI,(DT ns).1,(DT ns).2,Bool.true_and];rfl
  ·simp only[fI,aP,KC];rfl
  cases ns with
  |nil =>
   simp only[List.isEmpty_nil,if_true]
   rw[cU]
   walk_at"wpe"
   have:=hQ _ hx
   simp only[xE,h,if_false,if_true]at this
   exact this
  |cons n r =>
   simp only[List.isEmpty_cons,Bool.false_eq_true,if_false,aF]
   rw[cU]
   have hl:(0:Int)<((n::r).length:Int):=by simp only[List.length_cons];omega
   simp only[wpS,aG,bG,Ef,Cf,Q2,LC,mod_int,MQ,List.length_map,List.map_cons,List.cons_append,List.nil_append,List.map_nil]
   refine⟨by simpa using hl,?_⟩
   have hm0:0<=i % ((n::r).length:Int):=Int.emod_nonneg _ (by omega)
   have hm1:i % ((n::r).length:Int)<(n::r).length:=Int.emod_lt_of_pos _ hl
   have:=MG (ns:=n::r) hm0 hm1
   simp only[List.map_cons,List.length_cons]at this
   simp only[List.length_cons,List.length_map]
   rw[this]
   walk_at"wpe"
   refine⟨.inr ⟨by omega,by omega⟩,?_⟩
   have:=hQ _ hx
   simp only[xE,h,if_false]at this
   simpa using this
theorem S0 (hm:G.fns im=some (pJ ic))(hc:G.fns ic=some qV){i many:Int}(hi:0<=i)(hmany:0<many)(hQ:∀ aA,Ext st aA->Q (.int (lB ns i many)) aA):aM G (k+2) im [.bP (ns.map .int),.int i,.int many] st Q E:=by
 rw[aT hm]
 simp only[pJ,start]
 refine⟨rfl,?_⟩
 rw[cU]
 walk_at"wpe"
 refine YC hc hi fun aA e=>?_
 walk_at"wpe"
 refine⟨.inl ⟨by omega,by omega⟩,.inr ⟨by omega,by omega⟩,by omega,?_⟩
 rw[cU]
 walk_at"wpe"
 have d0:0<=(xE ns i+7919*i+1)*48271 % 2147483647:=Int.emod_nonneg _ (by omega)
 have d1:(xE ns i+7919*i+1)*48271 % 2147483647<2147483647:=Int.emod_lt_of_pos _ (by omega)
 refine⟨.inl ⟨by omega,by omega⟩,.inl ⟨by omega,by omega⟩,by omega,hmany,?_⟩
 exact hQ aA e
theorem fQ (hn:G.fns eD=some (wI im))(hm:G.fns im=some (pJ ic))(hc:G.fns ic=some qV){a:Nat}{i many:Int}(ha:st a=some (.lst [.int i]))(hi:0<=i)(hmany:0<many)
 (hQ:∀ aA,bD [a] st aA->aA a=some (.lst [.int (i+1)])->Q (.int (lB ns (i+1) many)) aA):aM G (k+3) eD [.bP (ns.map .int),.ref a,.int many] st Q E:=by
 rw[aT hn]
 simp only[wI,start]
 refine⟨rfl,?_⟩
 rw[cU]
 walk_at"wpe"
 rw[dZ ha]
 walk_at"wpe"
 rw[aE ha]
 have e0:oC [D.int i].length 0=some 0:=rfl
 simp only[e0,bB,List.set_cons_zero]
 rw[cU]
 walk_at"wpe"
 rw[dZ aP]
 walk_at"wpe"
 refine S0 hm hc (by omega) hmany fun aA e=>?_
 refine hQ aA (fun x o n h=>e x o (by rw[aJ (by simpa using n)];exact h)) (e a _ aP)
end
end L3
end
section
namespace L3
open PySem
inductive W1 where
 |not|before|once|sofar
 deriving DecidableEq
inductive W2 where
 |and|or|bE|same|since
 deriving DecidableEq
inductive Sy where
 |yes|no|cE (n:List Nat)|one (w:W1)(s:Sy)|two (w:W2)(s t:Sy)
 deriving DecidableEq
def c1:W1->List Nat
 |.not=>W "not"
 |.before=>W "before"
 |.once=>W "once"
 |.sofar=>W "sofar"
def c2:W2->List Nat
 |.and=>W "and"
 |.or=>W "or"
 |.bE=>W "then"
 |.same=>W "same"
 |.since=>W "since"
def toD:Sy->D
 |.yes=>.tup [.str (W "yes")]
 |.no=>.tup [.str (W "no")]
 |.cE n=>.tup [.str (W "lamp"),.str n]
 |.one w s=>.tup [.str (c1 w),toD s]
 |.two w s t=>.tup [.str (c2 w),toD s,toD t]
def aK:Sy->Nat
 |.one _ s=>aK s+1
 |.two _ s t=>max (aK s) (aK t)+1
 |_=>1
def p1:W1->Bool
 |.not=>false
 |_=>true
def p2:W2->Bool
 |.since=>true
 |_=>false
def cnt:Sy->Nat
 |.one w s=>(if p1 w then 1 else 0)+cnt s
 |.two w s t=>(if p2 w then 1 else 0)+(cnt s+cnt t)
 |_=>0
def over (names:List (List Nat)):Sy->Prop
 |.cE n=>n∈names
 |.one _ s=>over names s
 |.two _ s t=>over names s/\over names t
 |_=>True
theorem mK:∀ s:Sy,bI (toD s)=true
 |.yes=>rfl
 |.no=>rfl
 |.cE n=>rfl
 |.one w s=>by simp only[toD,bI,bN,mK s,Bool.and_self]
 |.two w s t=>by simp only[toD,bI,bN,mK s,mK t,Bool.and_self]
theorem qY:∀ s:Sy,cL (toD s)=aK s
 |.yes=>rfl
 |.no=>rfl
 |.cE n=>rfl
 |.one w s=>by simp only[toD,cL,cK,qY s,aK];omega
 |.two w s t=>by simp only[toD,cL,cK,qY s,qY t,aK];omega
def rC (eD is:Nat):Fn:=⟨5,7,[.asg (.nm 5) (.call eD [(.v 0),(.v 1),(.c (.int 13))]),.iff (.or_ (.cmp .eq (.v 3) (.c (.int 0))) (.cmp .lt (.v 5) (.c (.int 3)))) [.ret (.tup [(.c (.str (W "lamp"))),(.ix (.v 2) (.call eD [(.v 0),(.v 1),(.bi .len [(.v 2)])]))])] [],.iff (.cmp .eq (.v 5) (.c (.int 3))) [.ret (.tup [(.ix (.lst [(.c (.str (W "yes"))),(.c (.str (W "no")))]) (.call eD [(.v 0),(.v 1),(.c (.int 2))]))])] [],.iff (.and_ (.cmp .gt (.v 5) (.c (.int 8))) (.cmp .gt (.ix (.v 4) (.c (.int 0))) (.c (.int 0)))) [.asg (.ix (.v 4) (.c (.int 0))) (.bin .sub (.ix (.v 4) (.c (.int 0))) (.c (.int 1))),.asg (.nm 6) (.call is [(.v 0),(.v 1),(.v 2),(.bin .sub (.v 3) (.c (.int 1))),(.v 4)]),.iff (.cmp .eq (.v 5) (.c (.int 12))) [.ret (.tup [(.c (.str (W "since"))),(.v 6),(.call is [(.v 0),(.v 1),(.v 2),(.bin .sub (.v 3) (.c (.int 1))),(.v 4)])])] [],.ret (.tup [(.ix (.lst [(.c (.str (W "before"))),(.c (.str (W "once"))),(.c (.str (W "sofar")))]) (.bin .sub (.v 5) (.c (.int 9)))),(.v 6)])] [],.asg (.nm 6) (.call is [(.v 0),(.v 1),(.v 2),(.bin .sub (.v 3) (.c (.int 1))),(.v 4)]),.iff (.or_ (.cmp .eq (.v 5) (.c (.int 4))) (.cmp .gt (.v 5) (.c (.int 8)))) [.ret (.tup [(.c (.str (W "not"))),(.v 6)])] [],.ret (.tup [(.ix (.lst [(.c (.str (W "and"))),(.c (.str (W "or"))),(.c (.str (W "then"))),(.c (.str (W "same")))]) (.bin .sub (.v 5) (.c (.int 5)))),(.v 6),(.call is [(.v 0),(.v 1),(.v 2),(.bin .sub (.v 3) (.c (.int 1))),(.v 4)])])]⟩
def Drawn (a b:Nat)(i l:Int)(st aA:aB)(i' l':Int):Prop:=bD [a,b] st aA/\0<=i'/\aA a=some (.lst [.int i'])/\aA b=some (.lst [.int l'])
section
variable {G:Prog}{k ic im eD is:Nat}{st:aB}{Q:VK}{E:XK}{ns:List Int}
theorem X6 {xs:List (List Nat)}{v:Int}(h0:0<=v)(h1:v<xs.length):∃ x∈xs,gC (xs.map D.str) v=some (.str x):=by
 obtain⟨n,rfl⟩:∃ n:Nat,v=n:=⟨v.toNat,by omega⟩
 have h:n<xs.length:=by omega
 refine⟨xs[n],List.getElem_mem h,?_⟩
 rw[dY (by simpa using h)]
 simp only[List.getElem?_map]
 rw[List.getElem?_eq_getElem h]
 rfl
theorem VQ {d:D}{r:List D}:oC (d::r).length 0=some 0:=by
 unfold oC
 rw[if_pos (by omega),if_pos (by simp only[List.length_cons];omega)]
 rfl
theorem bJ {ds:List D}{Q:VK}(hl:ds.length<=aZ)(h:∀ p aA,Ext st aA->st p=none->aA p=some (.lst ds)->Q (.ref p) aA):iE ds st Q:=⟨hl,fun p hp=>h p _ (Ext.new hp) hp aP⟩
theorem tG (hs:G.fns is=some (rC eD is))(hn:G.fns eD=some (wI im))(hm:G.fns im=some (pJ ic))(hc:G.fns ic=some qV){names:List (List Nat)}(iH:0<names.length){a b:Nat}(eB:a≠b):
  ∀(n:Nat){st:aB}{Q:VK}{E:XK}{i l:Int},st a=some (.lst [.int i])->st b=some (.lst [.int l])->0<=i->0<=l ->
   (∀ s aA i',over names s->aK s<=n+1->(cnt s:Int)<=l->bD [a,b] st aA->0<=i'->aA a=some (.lst [.int i'])->aA b=some (.lst [.int (l-cnt s)])->Q (toD s) aA) ->
   aM G (k+n+4) is [.bP (ns.map .int),.ref a,.tup (names.map .str),.int n,.ref b] st Q E:=by
 intro n
 have cE:∀{n:Nat}{st:aB}{Q:VK}{E:XK}{i l:Int}{K:Nat}{P:iK}{r:St},st a=some (.lst [.int i])->st b=some (.lst [.int l])->0<=i->0<=l ->
   (∀ s aA i',over names s->aK s<=n+1->(cnt s:Int)<=l->bD [a,b] st aA->0<=i'->aA a=some (.lst [.int i'])->aA b=some (.lst [.int (l-cnt s)])->P.rt (toD s) aA) ->
   cN (aM G (K+3)) G.sub [.ret (.tup [(.c (.str (W "lamp"))),(.ix (.v 2) (.call eD [(.v 0),(.v 1),(.bi .len [(.v 2)])]))])] P (some (.bP (ns.map .int))::some (.ref a)::some (.tup (names.map .str))::r) st:=by
  intro n st Q E i l K P r ha hb hi hl hQ
  walk_at"st"
  simp only[List.length_map]
  refine fQ hn hm hc ha hi (by omega) fun aC k1 a1=>?_
  walk_at"ex"
  obtain⟨x,hx,e⟩:=X6 (xs:=names) (gW (ns:=ns) (k:=i+1) (many:=names.length) (by omega)) (gY (by omega))
  rw[e]
  walk_at"ex"
  have b1:aC b=some (.lst [.int l]):=k1 b _ (by simpa using eB.symm) hb
  exact hQ (.cE x) aC (i+1) hx (by simp [aK]) (by simp [cnt];omega) (k1.mono (by simp)) (by omega) a1 (by simpa [cnt]using b1)
 induction n with
 |zero =>
  intro st Q E i l ha hb hi hl hQ
  rw[aT hs]
  simp only[rC,start]
  refine⟨rfl,?_⟩
  walk_at"st"
  refine fQ hn hm hc ha hi (by omega) fun aC k1 a1=>?_
  walk_at"st"
  simp only[Int.natCast_zero,beq_self_eq_true,if_true]
  have b1:aC b=some (.lst [.int l]):=k1 b _ (by simpa using eB.symm) hb
  have kk:bD [a,b] st aC:=k1.mono (by simp)
  exact cE (n:=0) (Q:=Q) (E:=E) a1 b1 (by omega) hl fun s aA i' h1 h2 h3 h4 h5 h6 h7=>hQ s aA i' h1 h2 h3 (kk.trans h4) h5 h6 h7
 |succ n ih =>
  intro st Q E i l ha hb hi hl hQ
  rw[aT hs]
  simp only[rC,start]
  refine⟨rfl,?_⟩
  walk_at"st"
  refine fQ hn hm hc ha hi (by omega) fun aC k1 a1=>?_
  have v0:=gW (ns:=ns) (k:=i+1) (many:=13) (by omega)
  have v1:=gY (ns:=ns) (k:=i+1) (many:=13) (by omega)
  generalize lB ns (i+1) 13=v at v0 v1
  have b1:aC b=some (.lst [.int l]):=k1 b _ (by simpa using eB.symm) hb
  have kk:bD [a,b] st aC:=k1.mono (by simp)
  have hn0:(((n+1:Nat):Int)==0)=false:=by rw[beq_eq_false_iff_ne];omega
  have hn1:((n+1:Nat):Int)-1=(n:Int):=by omega
  walk_at"st"
  simp only[hn0,Bool.false_eq_true,if_false]
  by_cases h3:v<3
  ·simp only[h3,decide_true,if_true]
   exact cE (n:=n+1) (Q:=Q) (E:=E) a1 b1 (by omega) hl fun s aA i' h1 h2 h3 h4 h5 h6 h7=>hQ s aA i' h1 h2 h3 (kk.trans h4) h5 h6 h7
  simp only[h3,decide_false,Bool.false_eq_true,if_false,aF]
  walk_at"st"
  by_cases e3:v=3
  ·subst e3
   simp only[beq_self_eq_true,if_true]
   walk_at"st"
   refine bJ (by decide) fun p aH x2 hp gU=>?_
   walk_at"ex"
   have pa:p≠a:=fun z=>by rw[z,a1]at hp;cases hp
   have pb:p≠b:=fun z=>by rw[z,b1]at hp;cases hp
   refine fQ hn hm hc (x2 a _ a1) (by omega) (by omega) fun aV k3 a3=>?_
   walk_at"ex"
   have w0:=gW (ns:=ns) (k:=i+1+1) (many:=2) (by omega)
   have w1:=gY (ns:=ns) (k:=i+1+1) (many:=2) (by omega)
   generalize lB ns (i+1+1) 2=w at w0 w1
   rw[dZ (k3 p _ (by simpa using pa) gU)]
   have b3:aV b=some (.lst [.int l]):=k3 b _ (by simpa using eB.symm) (x2 b _ b1)
   have kk3:bD [a,b] st aV:=(kk.trans x2.keep).trans (k3.mono (by simp))
   obtain rfl|rfl:w=0∨w=1:=by omega
   ·walk_at"ex"
    exact hQ .yes aV _ trivial (by simp [aK]) (by simp [cnt];omega) kk3 (by omega) a3 (by simpa [cnt]using b3)
   ·walk_at"ex"
    exact hQ .no aV _ trivial (by simp [aK]) (by simp [cnt];omega) kk3 (by omega) a3 (by simpa [cnt]using b3)
  have e3':(v==3)=false:=by rw[beq_eq_false_iff_ne];exact e3
  simp only[e3',Bool.false_eq_true,if_false,aF]
  walk_at"st"
  have plain:∀{P:iK},(∀ s aA i',over names s->aK s<=n+1+1->(cnt s:Int)<=l->bD [a,b] st aA->0<=i'->aA a=some (.lst [.int i'])->aA b=some (.lst [.int (l-cnt s)])->P.rt (toD s) aA) ->
    cN (aM G (k+n+4)) G.sub [.asg (.nm 6) (.call is [(.v 0),(.v 1),(.v 2),(.bin .sub (.v 3) (.c (.int 1))),(.v 4)]),.iff (.or_ (.cmp .eq (.v 5) (.c (.int 4))) (.cmp .gt (.v 5) (.c (.int 8)))) [.ret (.tup [(.c (.str (W "not"))),(.v 6)])] [],.ret (.tup [(.ix (.lst [(.c (.str (W "and"))),(.c (.str (W "or"))),(.c (.str (W "then"))),(.c (.str (W "same")))]) (.bin .sub (.v 5) (.c (.int 5)))),(.v 6),(.call is [(.v 0),(.v 1),(.v 2),(.bin .sub (.v 3) (.c (.int 1))),(.v 4)])])] P [some (.bP (ns.map .int)),some (.ref a),some (.tup (names.map .str)),some (.int ((n+1:Nat):Int)),some (.ref b),some (.int v),none] aC:=by
   intro P hQ
   walk_at"st"
   rw[hn1]
   refine ih a1 b1 (by omega) hl fun s1 aH i2 o1 d1 cc1 k2 hi2 a2 b2=>?_
   walk_at"st"
   have hor:((v==4)||decide (8<v))=true∨(v=5∨v=6∨v=7∨v=8):=by
    by_cases q:v=4
    ·left;simp [q]
    ·by_cases q':8<v
     ·left;simp [q']
     ·right;omega
   rcases hor with hor|hor
   ·have go:cN (aM G (k+n+4)) G.sub [.ret (.tup [.c (.str (W "not")),.v 6])] { P with nx:=cN (aM G (k+n+4)) G.sub [.ret (.tup [(.ix (.lst [(.c (.str (W "and"))),(.c (.str (W "or"))),(.c (.str (W "then"))),(.c (.str (W "same")))]) (.bin .sub (.v 5) (.c (.int 5)))),(.v 6),(.call is [(.v 0),(.v 1),(.v 2),(.bin .sub (.v 3) (.c (.int 1))),(.v 4)])])] P } [some (.bP (ns.map .int)),some (.ref a),some (.tup (names.map .str)),some (.int ((n+1:Nat):Int)),some (.ref b),some (.int v),some (toD s1)] aH:=by
     walk_at"st"
     exact hQ (.one .not s1) aH i2 o1 (by simp only[aK];omega) (by simp [cnt,p1];omega) (kk.trans k2) hi2 a2 (by simpa [cnt,p1]using b2)
    by_cases q:v=4
    ·simp only[q,beq_self_eq_true,if_true]
     rw[q]at go;exact go
    ·have q1:(v==4)=false:=by rw[beq_eq_false_iff_ne];exact q
     have q2:8<v:=by simpa [q1]using hor
     simp only[q1,q2,Bool.false_eq_true,if_false,if_true]
     exact go
   ·have q1:(v==4)=false:=by rw[beq_eq_false_iff_ne];omega
    have q2:¬8<v:=by omega
    simp only[q1,q2,Bool.false_eq_true,if_false,aF]
    walk_at"st"
    refine bJ (by decide) fun p aV x3 hp hp3=>?_
    walk_at"ex"
    rw[dZ hp3]
    have pa:p≠a:=fun z=>by rw[z,a2]at hp;cases hp
    have pb:p≠b:=fun z=>by rw[z,b2]at hp;cases hp
    have step:∀ w:W2,p2 w=false->∀{Q:VK},(∀ s aA i',over names s->aK s<=n+1+1->(cnt s:Int)<=l->bD [a,b] st aA->0<=i'->aA a=some (.lst [.int i'])->aA b=some (.lst [.int (l-cnt s)])->Q (toD s) aA) ->
      aM G (k+n+4) is [.bP (ns.map .int),.ref a,.tup (names.map .str),.int (((n+1:Nat):Int)-1),.ref b] aV (fun d aA=>Q (.tup [.str (c2 w),toD s1,d]) aA) fun c aA=>P.ex c [some (.bP (ns.map .int)),some (.ref a),some (.tup (names.map .str)),some (.int ((n+1:Nat):Int)),some (.ref b),some (.int v),some (toD s1)] aA:=by
     intro w hw Q hQ
     rw[hn1]
     refine ih (x3 a _ a2) (x3 b _ b2) hi2 (by omega) fun s2 cJ i4 o2 d2 c2' k4 hi4 a4 b4=>?_
     refine hQ (.two w s1 s2) cJ i4 ⟨o1,o2⟩ (by simp only[aK];omega) (by simp only[cnt,hw];simp;omega) ((kk.trans k2).trans (x3.keep.trans k4)) hi4 a4 ?_
     rw[b4];simp only[cnt,hw];simp;omega
    rcases hor with rfl|rfl|rfl|rfl
    ·walk_at"ex"; exact step .and rfl hQ
    ·walk_at"ex"; exact step .or rfl hQ
    ·walk_at"ex"; exact step .bE rfl hQ
    ·walk_at"ex"; exact step .same rfl hQ
  by_cases h8:8<v
  ·simp only[h8,if_true]
   rw[dZ b1]
   walk_at"ex"
   by_cases hl0:0<l
   ·simp only[hl0,if_true]
    walk_at"st"
    rw[dZ b1]
    walk_at"ex"
    rw[aE b1]
    simp only[VQ,bB,List.set_cons_zero]
    have a2:(put aC b (.lst [.int (l-1)])) a=some (.lst [.int (i+1)]):=by rw[aJ eB];exact a1
    have kp:bD [a,b] st (put aC b (.lst [.int (l-1)])):=kk.trans (bD.put (by simp))
    walk_at"st"
    rw[hn1]
    refine ih a2 aP (by omega) (by omega) fun s1 aH i2 o1 d1 cc1 k2 hi2 a3 b3=>?_
    walk_at"st"
    by_cases e12:v=12
    ·simp only[e12,beq_self_eq_true,if_true]
     walk_at"st"
     rw[hn1]
     refine ih a3 b3 hi2 (by omega) fun s2 cJ i4 o2 d2 c2' k4 hi4 a4 b4=>?_
     refine hQ (.two .since s1 s2) cJ i4 ⟨o1,o2⟩ (by simp only[aK];omega) (by simp [cnt,p2];omega) ((kp.trans k2).trans k4) hi4 a4 ?_
     rw[b4];simp [cnt,p2];omega
    ·have e12':(v==12)=false:=by rw[beq_eq_false_iff_ne];exact e12
     simp only[e12',Bool.false_eq_true,if_false,aF]
     walk_at"st"
     refine bJ (by decide) fun p aV x3 hp hp3=>?_
     walk_at"ex"
     rw[dZ hp3]
     have fin:∀ w:W1,p1 w=true->Q (.tup [.str (c1 w),toD s1]) aV:=fun w hw=>by
      refine hQ (.one w s1) aV i2 o1 (by simp only[aK];omega) (by simp [cnt,hw];omega) ((kp.trans k2).trans x3.keep) hi2 (x3 _ _ a3) ?_
      rw[x3 _ _ b3];simp [cnt,hw];omega
     obtain rfl|rfl|rfl:v=9∨v=10∨v=11:=by omega
     ·walk_at"ex"; exact fin .before rfl
     ·walk_at"ex"; exact fin .once rfl
     ·walk_at"ex"; exact fin .sofar rfl
   ·simp only[hl0,if_false,aF]
    exact plain hQ
  ·simp only[h8,if_false,aF]
   exact plain hQ
end
end L3
end
section
namespace L3
open PySem
def qU:List (List Nat):=[W "a", W "b", W "x", W "y", W "lamp", W "far", W "yesno", W "abcdefgh"]
def vD (fs gs:List (List Nat)):Bool:=decide (1<=fs.length)&&decide (fs.length<=2)&&decide (1<=gs.length)&&decide (gs.length<=2)&&decide ((fs++gs).Nodup)&&(fs++gs).all fun n=>qU.contains n
def qG (t:Int):List (List Nat):=cut qU (some t) none++cut qU none (some t)
theorem Q3:∀(t:Fin 8)(f g:Fin 2),vD (cut (qG (t.val:Nat)) none (some (1+(f.val:Nat)))) (cut (qG (t.val:Nat)) (some (1+(f.val:Nat))) (some (1+(f.val:Nat)+(1+(g.val:Nat)))))=true:=by decide +kernel
theorem QP {t f g:Int}(h0:0<=t)(h1:t<8)(h2:0<=f)(h3:f<2)(h4:0<=g)(h5:g<2):vD (cut (qG t) none (some (1+f))) (cut (qG t) (some (1+f)) (some (1+f+(1+g))))=true:=by
 have:=Q3 ⟨t.toNat,by omega⟩ ⟨f.toNat,by omega⟩ ⟨g.toNat,by omega⟩
 simp only[Int.toNat_of_nonneg h0,Int.toNat_of_nonneg h2,Int.toNat_of_nonneg h4]at this
 exact this
theorem A3 {α β:Type}(f:α->β)(xs:List α)(lo hi:Option Int):cut (xs.map f) lo hi=(cut xs lo hi).map f:=by
 simp only[cut,List.length_map,List.map_take,List.map_drop]
def CV (eD:Nat):Fn:=⟨2,7,[.asg (.nm 2) (.lst [(.c (.str (W "a"))),(.c (.str (W "b"))),(.c (.str (W "x"))),(.c (.str (W "y"))),(.c (.str (W "lamp"))),(.c (.str (W "far"))),(.c (.str (W "yesno"))),(.c (.str (W "abcdefgh")))]),.asg (.nm 3) (.call eD [(.v 0),(.v 1),(.c (.int 8))]),.asg (.nm 4) (.bin .add (.sl (.v 2) [(.v 3)] []) (.sl (.v 2) [] [(.v 3)])),.asg (.nm 5) (.bin .add (.c (.int 1)) (.call eD [(.v 0),(.v 1),(.c (.int 2))])),.asg (.nm 6) (.bin .add (.c (.int 1)) (.call eD [(.v 0),(.v 1),(.c (.int 2))])),.ret (.tup [(.bi .tuple [(.sl (.v 4) [] [(.v 5)])]),(.bi .tuple [(.sl (.v 4) [(.v 5)] [(.bin .add (.v 5) (.v 6))])])])]⟩
section
variable {G:Prog}{k ic im eD is:Nat}{st:aB}{Q:VK}{E:XK}{ns:List Int}
theorem SU {inm:Nat}(hm':G.fns inm=some (CV eD))(hn:G.fns eD=some (wI im))(hm:G.fns im=some (pJ ic))(hc:G.fns ic=some qV){a:Nat}{i:Int}(ha:st a=some (.lst [.int i]))(hi:0<=i)
  (hQ:∀ fs gs aA i',vD fs gs=true->bD [a] st aA->0<=i'->aA a=some (.lst [.int i'])->Q (.tup [.tup (fs.map .str),.tup (gs.map .str)]) aA):
  aM G (k+4) inm [.bP (ns.map .int),.ref a] st Q E:=by
 have hL:aZ=16777216:=rfl
 rw[aT hm']
 simp only[CV,start]
 refine⟨rfl,?_⟩
 walk_at"st"
 refine bJ (by decide) fun p aC x1 hp hp1=>?_
 have pa:p≠a:=fun z=>by rw[z,ha]at hp;cases hp
 walk_at"st"
 refine fQ hn hm hc (x1 a _ ha) hi (by omega) fun aH k2 a2=>?_
 have t0:=gW (ns:=ns) (k:=i+1) (many:=8) (by omega)
 have t1:=gY (ns:=ns) (k:=i+1) (many:=8) (by omega)
 generalize lB ns (i+1) 8=t at t0 t1
 have p2:=k2 p _ (by simpa using pa) hp1
 walk_at"st"
 rw[aE p2]
 intro q hq
 have x3:Ext aH (put aH q (.lst (cut [.str (W "a"),.str (W "b"),.str (W "x"),.str (W "y"),.str (W "lamp"),.str (W "far"),.str (W "yesno"),.str (W "abcdefgh")] (some t) none))):=Ext.new hq
 walk_at"ex"
 rw[aE (x3 p _ p2)]
 intro q' hq'
 have x4:=Ext.new (o:=.lst (cut [.str (W "a"),.str (W "b"),.str (W "x"),.str (W "y"),.str (W "lamp"),.str (W "far"),.str (W "yesno"),.str (W "abcdefgh")] none (some t))) hq'
 walk_at"ex"
 rw[aE (x4 q _ aP),aE aP]
 have eL:([.str (W "a"),.str (W "b"),.str (W "x"),.str (W "y"),.str (W "lamp"),.str (W "far"),.str (W "yesno"),.str (W "abcdefgh")]:List D)=qU.map .str:=rfl
 have er:cut ([.str (W "a"),.str (W "b"),.str (W "x"),.str (W "y"),.str (W "lamp"),.str (W "far"),.str (W "yesno"),.str (W "abcdefgh")]:List D) (some t) none++cut [.str (W "a"),.str (W "b"),.str (W "x"),.str (W "y"),.str (W "lamp"),.str (W "far"),.str (W "yesno"),.str (W "abcdefgh")] none (some t)=(qG t).map .str:=by
  rw[eL,A3,A3,<-List.map_append];rfl
 have lr:(qG t).length<=16:=by
  have l1:=A0 (xs:=qU) (lo:=some t) (hi:=none)
  have l2:=A0 (xs:=qU) (lo:=none) (hi:=some t)
  have l3:qU.length=8:=rfl
  simp only[qG,List.length_append];omega
 rw[er]
 refine bJ (by simp only[List.length_map];omega) fun r cR x5 hr hr5=>?_
 have k5:bD [a] st cR:=((x1.keep.trans k2).trans x3.keep).trans (x4.keep.trans x5.keep)
 have a5:cR a=some (.lst [.int (i+1)]):=x5 _ _ (x4 _ _ (x3 _ _ a2))
 have ra:r≠a:=fun z=>by rw[z,x4 _ _ (x3 _ _ a2)]at hr;cases hr
 walk_at"st"
 refine fQ hn hm hc a5 (by omega) (by omega) fun fL k6 a6=>?_
 have f0:=gW (ns:=ns) (k:=i+1+1) (many:=2) (by omega)
 have f1:=gY (ns:=ns) (k:=i+1+1) (many:=2) (by omega)
 generalize lB ns (i+1+1) 2=f at f0 f1
 walk_at"ex"
 walk_at"st"
 refine fQ hn hm hc a6 (by omega) (by omega) fun pX k7 a7=>?_
 have g0:=gW (ns:=ns) (k:=i+1+1+1) (many:=2) (by omega)
 have g1:=gY (ns:=ns) (k:=i+1+1+1) (many:=2) (by omega)
 generalize lB ns (i+1+1+1) 2=g at g0 g1
 have r7:pX r=some (.lst ((qG t).map .str)):=k7 r _ (by simpa using ra) (k6 r _ (by simpa using ra) hr5)
 walk_at"ex"
 walk_at"st"
 rw[aE r7]
 intro u hu
 walk_at"ex"
 rw[aE aP]
 have xu:=Ext.new (o:=.lst (cut ((qG t).map D.str) none (some (1+f)))) hu
 have c1:=A0 (xs:=(qG t).map D.str) (lo:=none) (hi:=some (1+f))
 have c2:=A0 (xs:=(qG t).map D.str) (lo:=some (1+f)) (hi:=some (1+f+(1+g)))
 simp only[List.length_map]at c1 c2
 refine⟨by omega,?_⟩
 rw[aE (xu r _ r7)]
 intro u' hu'
 walk_at"ex"
 rw[aE aP]
 refine⟨by omega,?_⟩
 have xu':=Ext.new (o:=.lst (cut ((qG t).map D.str) (some (1+f)) (some (1+f+(1+g))))) hu'
 rw[A3,A3]at *
 exact hQ _ _ _ (i+1+1+1) (QP t0 t1 f0 f1 g0 g1) ((k5.trans (k6.trans k7)).trans (xu.keep.trans xu'.keep)) (by omega) (xu' _ _ (xu _ _ a7))
end
end L3
end
section
namespace L3
open PySem
mutual
theorem XU:∀ d:D,bI d=true->bU d d=true
 |.non,_=>rfl
 |.bl b,_=>by simp [bU]
 |.int i,_=>by simp [bU]
 |.str x,_=>by simp [bU]
 |.tup ds,h=>by simp only[bI]at h;simp only[bU];exact B9 ds h
 |.ref _,h=>by simp [bI]at h
 |.dB _ _,h=>by simp [bI]at h
 |.bP _,h=>by simp [bI]at h
 |.exc _,h=>by simp [bI]at h
theorem B9:∀ ds:List D,bN ds=true->fP ds ds=true
 |[],_=>rfl
 |d::ds,h=>by
  simp only[bN,Bool.and_eq_true]at h
  simp only[fP,XU d h.1,B9 ds h.2,Bool.and_self]
end
theorem Aj (w w':W1):(c1 w==c1 w')=decide (w=w'):=by cases w<;>cases w'<;>decide +kernel
theorem Y8 (w w':W2):(c2 w==c2 w')=decide (w=w'):=by cases w<;>cases w'<;>decide +kernel
theorem E3 (w:W1):(W "lamp" == c1 w)=false/\(c1 w==W "lamp")=false:=by cases w<;>decide +kernel
theorem cS {st:aB}{as bs:List D}:bT st (.tup as) (.tup bs)=jO st as bs:=by simp only[bT]
theorem cC {st:aB}{a b:D}{as bs:List D}:jO st (a::as) (b::bs)=(bT st a b&&jO st as bs):=by simp only[jO]
theorem rQ {st:aB}:jO st [] []=true:=rfl
theorem mV {st:aB}{b:D}{bs:List D}:jO st [] (b::bs)=false:=rfl
theorem mR {st:aB}{b:D}{bs:List D}:jO st (b::bs) []=false:=rfl
theorem QW:(W "yes" == W "no")=false/\(W "no" == W "yes")=false:=by decide +kernel
theorem rA {st:aB}:∀ s t:Sy,bT st (toD s) (toD t)=decide (s=t)
 |.yes,.yes=>by simp only[toD,cS,cC,iM,rQ,beq_self_eq_true,Bool.and_self,decide_true]
 |.yes,.no=>by simp only[toD,cS,cC,iM,QW.1,Bool.false_and];rfl
 |.yes,.cE _=>by simp only[toD,cS,cC,mV,Bool.and_false];rfl
 |.yes,.one _ _=>by simp only[toD,cS,cC,mV,Bool.and_false];rfl
 |.yes,.two _ _ _=>by simp only[toD,cS,cC,mV,Bool.and_false];rfl
 |.no,.yes=>by simp only[toD,cS,cC,iM,QW.2,Bool.false_and];rfl
 |.no,.no=>by simp only[toD,cS,cC,iM,rQ,beq_self_eq_true,Bool.and_self,decide_true]
 |.no,.cE _=>by simp only[toD,cS,cC,mV,Bool.and_false];rfl
 |.no,.one _ _=>by simp only[toD,cS,cC,mV,Bool.and_false];rfl
 |.no,.two _ _ _=>by simp only[toD,cS,cC,mV,Bool.and_false];rfl
 |.cE _,.yes=>by simp only[toD,cS,cC,mR,Bool.and_false];rfl
 |.cE _,.no=>by simp only[toD,cS,cC,mR,Bool.and_false];rfl
 |.cE m,.cE n=>by
  simp only[toD,cS,cC,rQ,iM,beq_self_eq_true,Bool.and_true,Bool.true_and,Sy.cE.injEq]
  rw[Bool.beq_eq_decide_eq]
 |.cE m,.one w s=>by simp only[toD,cS,cC,iM,(E3 w).1,Bool.false_and];rfl
 |.cE _,.two _ _ _=>by simp only[toD,cS,cC,mV,Bool.and_false];rfl
 |.one _ _,.yes=>by simp only[toD,cS,cC,mR,Bool.and_false];rfl
 |.one _ _,.no=>by simp only[toD,cS,cC,mR,Bool.and_false];rfl
 |.one w s,.cE m=>by simp only[toD,cS,cC,iM,(E3 w).2,Bool.false_and];rfl
 |.one w s,.one w' s'=>by
  simp only[toD,cS,cC,rQ,iM,Aj,rA s s',Bool.and_true,Sy.one.injEq]
  by_cases h:w=w'<;>by_cases h':s=s'<;>simp [h,h']
 |.one _ _,.two _ _ _=>by simp only[toD,cS,cC,mV,Bool.and_false];rfl
 |.two _ _ _,.yes=>by simp only[toD,cS,cC,mR,Bool.and_false];rfl
 |.two _ _ _,.no=>by simp only[toD,cS,cC,mR,Bool.and_false];rfl
 |.two _ _ _,.cE _=>by simp only[toD,cS,cC,mR,Bool.and_false];rfl
 |.two _ _ _,.one _ _=>by simp only[toD,cS,cC,mR,Bool.and_false];rfl
 |.two w s t,.two w' s' t'=>by
  simp only[toD,cS,cC,rQ,iM,Y8,rA s s',rA t t',Bool.and_true,Sy.two.injEq]
  by_cases h:w=w'<;>by_cases h':s=s'<;>by_cases h'':t=t'<;>simp [h,h',h'']
theorem EX {st:aB}(x:Sy)(f:List Sy):((f.map toD).any fun d=>bT st d (toD x))=f.contains x:=by
 induction f with
 |nil=>rfl
 |cons y r ih =>
 simp only[List.map_cons,List.any_cons,ih,rA,List.contains_cons]
 congr 1
 by_cases h:y=x
 ·simp [h]
 ·simp [h,Ne.symm h]
theorem HE (f:List Sy):bN (f.map toD)=true:=by
 induction f with
 |nil=>rfl
 |cons x r ih=>simp only[List.map_cons,bN,mK,ih,Bool.and_self]
theorem KQ {n:Nat}(f:List Sy)(h:∀ s∈f,aK s<=n):cK (f.map toD)<=n:=by
 induction f with
 |nil=>exact Nat.zero_le _
 |cons x r ih =>
 simp only[List.map_cons,cK,qY]
 have:=h x (by simp)
 have:=ih fun s hs=>h s (by simp [hs])
 omega
theorem zN {st:aB}{s:Sy}(h:aK s<=60):plainS st (toD s):=⟨xJ _ (mK s),Nat.le_trans (by rw[qY];exact h) (by decide)⟩
theorem wX {st:aB}{f:List Sy}(h:∀ s∈f,aK s<=60):dW st (f.map toD):=⟨pV _ (HE f),Nat.le_trans (KQ f h) (by decide)⟩
def wd:Sy->List Nat
 |.yes=>W "yes"
 |.no=>W "no"
 |.cE _=>W "lamp"
 |.one w _=>c1 w
 |.two w _ _=>c2 w
def subs:Sy->List Sy
 |.one _ s=>[s]
 |.two _ s t=>[s,t]
 |_=>[]
def bM:Sy->Bool
 |.one w _=>p1 w
 |.two w _ _=>p2 w
 |_=>false
def fK:Sy->Bool
 |.cE _=>true
 |_=>false
theorem kX (s:Sy):∃ r,toD s=.tup (.str (wd s)::r):=by cases s<;>exact⟨_,rfl⟩
theorem S3 {s:Sy}(h:fK s=false):toD s=.tup (.str (wd s)::(subs s).map toD):=by cases s<;>first|rfl|cases h
def lJ:List (List Nat):=[W "before", W "once", W "sofar", W "since"]
theorem A2 (s:Sy):lJ.contains (wd s)=bM s:=by
 cases s with
 |one w s=>cases w<;>(simp only[wd,bM];decide +kernel)
 |two w s t=>cases w<;>(simp only[wd,bM];decide +kernel)
 |_=>(simp only[wd,bM];decide +kernel)
theorem EY (s:Sy):(wd s==W "lamp")=fK s:=by
 cases s with
 |one w s=>cases w<;>(simp only[wd,fK];decide +kernel)
 |two w s t=>cases w<;>(simp only[wd,fK];decide +kernel)
 |_=>(simp only[wd,fK];decide +kernel)
def cZ (f:List Sy)(s:Sy):List Sy:=if bM s && !f.contains s then f++[s]else f
def aI:Sy->List Sy->List Sy
 |.one w s,f=>aI s (cZ f (.one w s))
 |.two w s t,f=>aI t (aI s (cZ f (.two w s t)))
 |_,f=>f
def bV:List Sy->List Sy->List Sy
 |[],f=>f
 |s::r,f=>bV r (aI s f)
theorem Dw (s:Sy)(f:List Sy):aI s f=bV (subs s) (cZ f s):=by
 cases s<;>simp [aI,subs,bV,cZ,bM]
theorem BJ (a b:List Sy)(f:List Sy):bV (a++b) f=bV b (bV a f):=by
 induction a generalizing f with
 |nil=>rfl
 |cons x r ih=>simp only[List.cons_append,bV,ih]
theorem PF (s:Sy)(r f:List Sy):bV (s::r) f=bV (subs s++r) (cZ f s):=by rw[BJ,<-Dw];rfl
def sz:Sy->Nat
 |.one _ s=>sz s+1
 |.two _ s t=>sz s+sz t+1
 |_=>1
def eJ (l:List Sy):Nat:=(l.map sz).sum
theorem HR:∀ s:Sy,sz s+1<=2 ^ aK s
 |.yes=>by decide
 |.no=>by decide
 |.cE _=>by simp only[sz,aK];decide
 |.one w s=>by have:=HR s;simp only[sz,aK,Nat.pow_succ];omega
 |.two w s t=>by
  have h1:=HR s
  have h2:=HR t
  have a:=Nat.pow_le_pow_right (n:=2) (by omega) (Nat.le_max_left (aK s) (aK t))
  have b:=Nat.pow_le_pow_right (n:=2) (by omega) (Nat.le_max_right (aK s) (aK t))
  simp only[sz,aK,Nat.pow_succ];omega
theorem MS (s:Sy):eJ (subs s)+1=sz s:=by cases s<;>simp [subs,eJ,sz]
theorem CK {s t:Sy}(h:t∈subs s):aK t<aK s:=by cases s<;>simp [subs]at h<;>simp only[aK]<;>(try rcases h with rfl|rfl)<;>(try subst h)<;>omega
theorem sP {f:List Sy}{s:Sy}{n:Nat}(h:∀ x∈f,aK x<=n)(hs:aK s<=n):∀ x∈cZ f s,aK x<=n:=by
 unfold cZ
 split
 ·intro x hx
  rcases List.mem_append.mp hx with hx|hx
  ·exact h x hx
  ·simp at hx;subst hx;exact hs
 ·exact h
theorem rT (f:List Sy)(s:Sy):(cZ f s).length<=f.length+1:=by unfold cZ;split<;>simp
theorem rB:∀(s:Sy){f:List Sy}{n:Nat},(∀ x∈f,aK x<=n)->aK s<=n->∀ x∈aI s f,aK x<=n
 |.yes,_,_,h,_=>h
 |.no,_,_,h,_=>h
 |.cE _,_,_,h,_=>h
 |.one w s,f,n,h,hs=>rB s (sP h hs) (by simp only[aK]at hs;omega)
 |.two w s t,f,n,h,hs=>rB t (rB s (sP h hs) (by simp only[aK]at hs;omega)) (by simp only[aK]at hs;omega)
theorem vO:∀(s:Sy)(f:List Sy),(aI s f).length<=f.length+sz s
 |.yes,f=>by simp [aI,sz]
 |.no,f=>by simp [aI,sz]
 |.cE _,f=>by simp [aI,sz]
 |.one w s,f=>by have:=vO s (cZ f (.one w s));have:=rT f (.one w s);simp only[aI,sz];omega
 |.two w s t,f=>by
  have h1:=vO s (cZ f (.two w s t))
  have h2:=vO t (aI s (cZ f (.two w s t)))
  have:=rT f (.two w s t)
  simp only[aI,sz];omega
end L3
end
section
namespace L3
open PySem
def kH (ip:Nat):Fn:=⟨2,3,[.iff (.and_ (.cmp .in_ (.ix (.v 0) (.c (.int 0))) (.tup [(.c (.str (W "before"))),(.c (.str (W "once"))),(.c (.str (W "sofar"))),(.c (.str (W "since")))])) (.cmp .fE (.v 0) (.v 1))) [.ex (.bW .append (.v 1) [(.v 0)])] [],.iff (.cmp .ne (.ix (.v 0) (.c (.int 0))) (.c (.str (W "lamp")))) [.gQ (.nm 2) none [(.sl (.v 0) [(.c (.int 1))] [])] [.ex (.call ip [(.v 2),(.v 1)])]] [],.ret (.v 1)]⟩
def iL:Fn:=⟨1,1,[.iff (.cmp .eq (.ix (.v 0) (.c (.int 0))) (.c (.str (W "lamp")))) [.ret (.tup [])] [],.ret (.sl (.v 0) [(.c (.int 1))] [])]⟩
def vX:D:=.tup (lJ.map .str)
def lG (iw:Nat):Fn:=⟨1,4,[.asg (.nm 1) (.lst []),.asg (.nm 2) (.bit .list .rev [(.v 0)]),.whl (.v 2) [.asg (.nm 3) (.bW .pop (.v 2) []),.iff (.and_ (.cmp .in_ (.ix (.v 3) (.c (.int 0))) (.c vX)) (.cmp .fE (.v 3) (.v 1))) [.ex (.bW .append (.v 1) [(.v 3)])] [],.ex (.bW .extend (.v 2) [(.bit .list .rev [(.call iw [(.v 3)])])])],.ret (.v 1)]⟩
theorem zR {g:aB->Prop}{t:D->(St->aB->Prop)->St->aB->Prop}{N:St->aB->Prop}{x:D}{xs:List D}{σ:St}{st:aB}:rY g t N (x::xs) σ st=(g st/\t x (rY g t N xs) σ st):=rfl
theorem wV {g:aB->Prop}{t:D->(St->aB->Prop)->St->aB->Prop}{N:St->aB->Prop}{σ:St}{st:aB}:rY g t N [] σ st=(g st/\N σ st):=rfl
section
variable {G:Prog}{k ip iw:Nat}{st:aB}{Q:VK}{E:XK}
theorem QG (hp:G.fns ip=some (kH ip)){b:Nat}:∀(s:Sy)(n:Nat){st:aB}{Q:VK}{E:XK}{f:List Sy},aK s<=n->aK s<=60->(∀ x∈f,aK x<=60)->f.length+sz s<aZ->st b=some (.lst (f.map toD)) ->
  (∀ aA,bD [b] st aA->aA b=some (.lst ((aI s f).map toD))->Q (.ref b) aA)->aM G (k+n) ip [toD s,.ref b] st Q E:=by
 intro s
 have head:∀{s:Sy}{K:Nat}{st:aB}{f:List Sy}{P:iK}{rest:List Sx},aK s<=60->(∀ x∈f,aK x<=60)->f.length<aZ->st b=some (.lst (f.map toD)) ->
   (∀ aA,bD [b] st aA->aA b=some (.lst ((cZ f s).map toD))->cN (aM G K) G.sub rest P [some (toD s),some (.ref b),none] aA) ->
   cN (aM G K) G.sub ((.iff (.and_ (.cmp .in_ (.ix (.v 0) (.c (.int 0))) (.tup [(.c (.str (W "before"))),(.c (.str (W "once"))),(.c (.str (W "sofar"))),(.c (.str (W "since")))])) (.cmp .fE (.v 0) (.v 1))) [.ex (.bW .append (.v 1) [(.v 0)])] [])::rest) P [some (toD s),some (.ref b),none] st:=by
  intro s K st f P rest hs hf hlen hb hN
  obtain⟨r,er⟩:=kX s
  walk_at"st"
  rw[er]
  walk_at"ex"
  rw[<-er]
  refine⟨(lX lJ).s,?_⟩
  have e1:(List.any [D.str (W "before"),D.str (W "once"),D.str (W "sofar"),D.str (W "since")] fun d=>bT st d (.str (wd s)))=bM s:=(sO (wd s) lJ).trans (A2 s)
  rw[e1]
  cases hp:bM s with
  |false =>
   simp only[Bool.false_eq_true,if_false,aF]
   refine hN st .refl ?_
   simp only[cZ,hp,Bool.false_and,Bool.false_eq_true,if_false]
   exact hb
  |true =>
   simp only[if_true]
   rw[oW,cM hb,EX]
   refine⟨zN hs,wX hf,?_⟩
   cases hc:f.contains s with
   |true =>
    simp only[Bool.not_true,Bool.false_eq_true,if_false,aF]
    refine hN st .refl ?_
    simp only[cZ,hp,hc,Bool.not_true,Bool.and_false,Bool.false_eq_true,if_false]
    exact hb
   |false =>
    simp only[Bool.not_false,if_true]
    walk_at"st"
    rw[aE hb]
    refine⟨trivial,?_⟩
    rw[aE hb]
    refine⟨by simpa using hlen,?_⟩
    rw[aF]
    refine hN _ (bD.put (by simp)) ?_
    rw[aP]
    simp only[cZ,hp,hc,Bool.not_false,Bool.and_self,if_true,List.map_append,List.map_cons,List.map_nil]
 induction s with
 |yes =>
  intro n st Q E f hn hd hf hl hb hQ
  obtain⟨n,rfl⟩:∃ m,n=m+1:=⟨n-1,by simp only[aK]at hn;omega⟩
  rw[show k+(n+1)=(k+n)+1 from rfl,aT hp]
  simp only[kH,start]
  refine⟨rfl,head (s:=.yes) hd hf (by simp only[sz]at hl;omega) hb fun aC k1 b1=>?_⟩
  walk_at"st"
  simp only[toD]
  walk_at"ex"
  rw[show(W "yes" == W "lamp")=false from by decide +kernel]
  simp only[Bool.not_false,if_true]
  walk_at"st"
  rw[wV]
  refine⟨mF,?_⟩
  rw[aF]
  walk_at"st"
  exact hQ aC k1 b1
 |no =>
  intro n st Q E f hn hd hf hl hb hQ
  obtain⟨n,rfl⟩:∃ m,n=m+1:=⟨n-1,by simp only[aK]at hn;omega⟩
  rw[show k+(n+1)=(k+n)+1 from rfl,aT hp]
  simp only[kH,start]
  refine⟨rfl,head (s:=.no) hd hf (by simp only[sz]at hl;omega) hb fun aC k1 b1=>?_⟩
  walk_at"st"
  simp only[toD]
  walk_at"ex"
  rw[show(W "no" == W "lamp")=false from by decide +kernel]
  simp only[Bool.not_false,if_true]
  walk_at"st"
  rw[wV]
  refine⟨mF,?_⟩
  rw[aF]
  walk_at"st"
  exact hQ aC k1 b1
 |cE m =>
  intro n st Q E f hn hd hf hl hb hQ
  obtain⟨n,rfl⟩:∃ m,n=m+1:=⟨n-1,by simp only[aK]at hn;omega⟩
  rw[show k+(n+1)=(k+n)+1 from rfl,aT hp]
  simp only[kH,start]
  refine⟨rfl,head (s:=.cE m) hd hf (by simp only[sz]at hl;omega) hb fun aC k1 b1=>?_⟩
  walk_at"st"
  simp only[toD]
  walk_at"ex"
  simp only[beq_self_eq_true,Bool.not_true,Bool.false_eq_true,if_false,aF]
  walk_at"st"
  exact hQ aC k1 b1
 |one w s ih =>
  intro n st Q E f hn hd hf hl hb hQ
  obtain⟨n,rfl⟩:∃ m,n=m+1:=⟨n-1,by simp only[aK]at hn;omega⟩
  rw[show k+(n+1)=(k+n)+1 from rfl,aT hp]
  simp only[kH,start]
  refine⟨rfl,head (s:=.one w s) hd hf (by simp only[sz]at hl;omega) hb fun aC k1 b1=>?_⟩
  have hf1:=sP hf hd
  have hl1:=rT f (.one w s)
  simp only[aK]at hn hd
  simp only[sz]at hl
  walk_at"st"
  simp only[toD]
  walk_at"ex"
  rw[(E3 w).2]
  simp only[Bool.not_false,if_true]
  walk_at"st"
  rw[zR]
  refine⟨mF,?_⟩
  walk_at"st"
  refine ih n (by omega) (by omega) hf1 (by omega) b1 fun aH k2 b2=>?_
  try dsimp only
  rw[aF]
  dsimp only
  rw[wV]
  refine⟨mF,?_⟩
  rw[aF]
  walk_at"st"
  exact hQ aH (k1.trans k2) b2
 |two w s t ih1 ih2 =>
  intro n st Q E f hn hd hf hl hb hQ
  obtain⟨n,rfl⟩:∃ m,n=m+1:=⟨n-1,by simp only[aK]at hn;omega⟩
  rw[show k+(n+1)=(k+n)+1 from rfl,aT hp]
  simp only[kH,start]
  refine⟨rfl,head (s:=.two w s t) hd hf (by simp only[sz]at hl;omega) hb fun aC k1 b1=>?_⟩
  have hf1:=sP hf hd
  have hl1:=rT f (.two w s t)
  simp only[aK]at hn hd
  simp only[sz]at hl
  have hf2:=rB s hf1 (by omega)
  have hl2:=vO s (cZ f (.two w s t))
  walk_at"st"
  simp only[toD]
  walk_at"ex"
  rw[show(c2 w==W "lamp")=false from by cases w<;>decide +kernel]
  simp only[Bool.not_false,if_true]
  walk_at"st"
  rw[zR]
  refine⟨mF,?_⟩
  walk_at"st"
  refine ih1 n (by omega) (by omega) hf1 (by omega) b1 fun aH k2 b2=>?_
  try dsimp only
  rw[aF]
  dsimp only
  rw[zR]
  refine⟨mF,?_⟩
  walk_at"st"
  refine ih2 n (by omega) (by omega) hf2 (by omega) b2 fun aV k3 b3=>?_
  try dsimp only
  rw[aF]
  dsimp only
  rw[wV]
  refine⟨mF,?_⟩
  rw[aF]
  walk_at"st"
  exact hQ aV (k1.trans (k2.trans k3)) b3
theorem tL (hw:G.fns iw=some iL){s:Sy}(hQ:Q (.tup ((subs s).map toD)) st):aM G (k+1) iw [toD s] st Q E:=by
 rw[aT hw]
 simp only[iL,start]
 refine⟨rfl,?_⟩
 obtain⟨r,er⟩:=kX s
 walk_at"st"
 rw[er]
 walk_at"ex"
 rw[EY,<-er]
 cases h:fK s with
 |true =>
 simp only[if_true]
 walk_at"st"
 cases s<;>first|exact hQ|cases h
 |false =>
 simp only[Bool.false_eq_true,if_false,aF]
 walk_at"st"
 rw[S3 h]
 walk_at"ex"
 exact hQ
end
end L3
end
section
namespace L3
open PySem
theorem xM {C:bO}{sub:Nat->Nat->Bool}(hC:bX C C){c:Ex}{b:List Sx}{P:iK}(I:Nat->St->aB->Prop)
  (step:∀ m σ st,I m σ st->aG C sub (fun c aA=>P.ex c σ aA) c σ st fun d aA=>eI d aA fun k =>
   if k=true then cN C sub b { P with nx:=fun σ st=>∃ m',m'<m/\I m' σ st,ct:=fun σ st=>∃ m',m'<m/\I m' σ st,bk:=P.nx } σ aA else P.nx σ aA){m:Nat}{σ:St}{st:aB}(h:I m σ st):wpS C sub (.whl c b) P σ st:=by
 simp only[wpS]
 refine⟨m+1,?_⟩
 have key:∀(n m:Nat)(σ:St)(st:aB),m<n->I m σ st->pT (fun next σ st=>aG C sub (fun c aA=>P.ex c σ aA) c σ st fun d aA=>eI d aA fun k =>
   if k=true then cN C sub b { P with nx:=next,ct:=next,bk:=P.nx } σ aA else P.nx σ aA) n σ st:=by
  intro n
  induction n with
  |zero=>intro m σ st h;omega
  |succ n ih =>
   intro m σ st hm hI
   refine aW hC (fun _ _ z=>z) c (fun d aA=>jI fun k=>?_) (step m σ st hI)
   split
   ·exact iT hC b ⟨fun σ st ⟨m',h1,h2⟩=>ih m' σ st (by omega) h2,fun _ _ z=>z,fun _ _ z=>z,fun σ st ⟨m',h1,h2⟩=>ih m' σ st (by omega) h2,fun _ _ _ z=>z⟩
   ·exact id
 exact key (m+1) m σ st (by omega) h
section
variable {G:Prog}{k ip iw iz:Nat}{st:aB}{Q:VK}{E:XK}
theorem iA (s:Sy)(r:List Sy):eJ (s::r)=sz s+eJ r:=by simp [eJ]
theorem iU (a b:List Sy):eJ (a++b)=eJ a+eJ b:=by simp [eJ]
theorem QU (s:Sy):0<sz s:=by cases s<;>simp [sz]
theorem FA (r:List Sy):r.length<=eJ r:=by
 induction r with
 |nil=>simp
 |cons s r ih=>have:=QU s;simp only[iA,List.length_cons];omega
theorem zS (hz:G.fns iz=some (lG iw))(hw:G.fns iw=some iL){l:Nat}{ss:List Sy}(hl:st l=some (.lst (ss.map toD)))(hd:∀ x∈ss,aK x<=60)(hs:eJ ss<aZ)
  (hQ:∀ p aA,Ext st aA->aA p=some (.lst ((bV ss []).map toD))->Q (.ref p) aA):aM G (k+2) iz [.ref l] st Q E:=by
 rw[aT hz]
 simp only[lG,start]
 refine⟨rfl,?_⟩
 walk_at"st"
 refine bJ (by decide) fun p aC x1 hp hp1=>?_
 walk_at"st"
 rw[aE (x1 l _ hl)]
 refine bJ (by have:=FA ss;simp only[List.length_reverse,List.length_map];omega) fun q aH x2 hq hq2=>?_
 have hpq:p≠q:=fun z=>by rw[z]at hp1;rw[hq]at hp1;cases hp1
 have p2:=x2 p _ hp1
 try dsimp only
 rw[cU]
 refine xM (pQ G (Nat.le_refl _)) (fun m σ aA=>∃(stack f:List Sy)(o:Option D),σ=[some (.ref l),some (.ref p),some (.ref q),o]/\aA p=some (.lst (f.map toD))/\aA q=some (.lst (stack.map toD).reverse)/\eJ stack=m /\
  (∀ x∈stack,aK x<=60)/\(∀ x∈f,aK x<=60)/\f.length+eJ stack<aZ/\bV stack f=bV ss []/\Ext st aA) ?_ (m:=eJ ss) ⟨ss,[],none,rfl,p2,hq2,rfl,hd,by simp,by simpa using hs,rfl,fun a o e=>x2 a o (x1 a o e)⟩
 rintro m σ aV ⟨stack,f,o,rfl,hp3,hq3,hm,hds,hdf,hlen,kF,x3⟩
 walk_at"ex"
 rw[XI,cM hq3]
 cases stack with
 |nil =>
  simp only[List.map_nil,List.reverse_nil,List.isEmpty_nil,Bool.not_true,Bool.false_eq_true,if_false]
  walk_at"st"
  refine hQ p aV x3 ?_
  rw[<-kF];exact hp3
 |cons s r =>
  have hne:(!((List.map toD (s::r)).reverse).isEmpty)=true:=by simp
  rw[hne]
  simp only[if_true]
  have hds':=hds s (by simp)
  rw[iA]at hm hlen
  have hsp:=QU s
  have hss:=MS s
  walk_at"st"
  rw[aE hq3]
  refine⟨trivial,?_⟩
  rw[aE hq3]
  have elast:((List.map toD (s::r)).reverse)[((List.map toD (s::r)).reverse).length-1]? = some (toD s):=by
   simp only[List.map_cons,List.reverse_cons,List.length_append,List.length_cons,List.length_nil]
   rw[List.getElem?_append_right (by simp)]
   simp
  have edrop:((List.map toD (s::r)).reverse).dropLast=(r.map toD).reverse:=by simp
  rw[elast,edrop,bB]
  try dsimp only
  have hp4:(put aV q (.lst (r.map toD).reverse)) p=some (.lst (f.map toD)):=by rw[aJ hpq];exact hp3
  have hx4:Ext st (put aV q (.lst (r.map toD).reverse)):=fun a u e=>by
   by_cases ha:a=q
   ·exfalso
    rw[ha]at e
    rw[x1 q _ e]at hq;cases hq
   ·rw[aJ ha];exact x3 a u e
  have head:∀{P:iK}{cJ:aB}{rest:List Sx},cJ p=some (.lst (f.map toD)) ->
    (∀ aA,bD [p] cJ aA->aA p=some (.lst ((cZ f s).map toD))->cN (aM G (k+1)) G.sub rest P [some (.ref l),some (.ref p),some (.ref q),some (toD s)] aA) ->
    cN (aM G (k+1)) G.sub ((.iff (.and_ (.cmp .in_ (.ix (.v 3) (.c (.int 0))) (.c vX)) (.cmp .fE (.v 3) (.v 1))) [.ex (.bW .append (.v 1) [(.v 3)])] [])::rest) P [some (.ref l),some (.ref p),some (.ref q),some (toD s)] cJ:=by
   intro P cJ rest hb hN
   obtain⟨rr,er⟩:=kX s
   walk_at"st"
   rw[er]
   simp only[vX]
   walk_at"ex"
   rw[<-er]
   refine⟨(lX lJ).s,?_⟩
   have e1:(List.any (lJ.map .str) fun d=>bT cJ d (.str (wd s)))=bM s:=(sO (wd s) lJ).trans (A2 s)
   rw[e1]
   cases hpp:bM s with
   |false =>
    simp only[Bool.false_eq_true,if_false,aF]
    refine hN cJ .refl ?_
    simp only[cZ,hpp,Bool.false_and,Bool.false_eq_true,if_false]
    exact hb
   |true =>
    simp only[if_true]
    rw[oW,cM hb,EX]
    refine⟨zN hds',wX hdf,?_⟩
    cases hc:f.contains s with
    |true =>
     simp only[Bool.not_true,Bool.false_eq_true,if_false,aF]
     refine hN cJ .refl ?_
     simp only[cZ,hpp,hc,Bool.not_true,Bool.and_false,Bool.false_eq_true,if_false]
     exact hb
    |false =>
     simp only[Bool.not_false,if_true]
     walk_at"st"
     rw[aE hb]
     refine⟨trivial,?_⟩
     rw[aE hb]
     refine⟨by simp only[List.length_map];omega,?_⟩
     rw[aF]
     refine hN _ (bD.put (by simp)) ?_
     rw[aP]
     simp only[cZ,hpp,hc,Bool.not_false,Bool.and_self,if_true,List.map_append,List.map_cons,List.map_nil]
  refine head hp4 fun cR k5 hp5=>?_
  have hq5:cR q=some (.lst (r.map toD).reverse):=k5 q _ (by simpa using Ne.symm hpq) aP
  have hx5:Ext st cR:=fun a u e=>by
   by_cases ha:a=p
   ·exfalso
    rw[ha]at e;rw[hp]at e;cases e
   ·exact k5 a u (by simpa using ha) (hx4 a u e)
  walk_at"st"
  rw[aE hq5]
  refine⟨trivial,tL hw ?_⟩
  walk_at"ex"
  have hsl:=FA (subs s)
  have hrl:=FA r
  refine bJ (by simp only[List.length_reverse,List.length_map];omega) fun u fL x6 hu hu6=>?_
  walk_at"ex"
  rw[aE (x6 q _ hq5),aE hu6]
  refine⟨by simp only[List.length_reverse,List.length_map];omega,?_⟩
  rw[aF]
  dsimp only
  refine⟨eJ (subs s++r),by rw[iU];omega,subs s++r,cZ f s,_,rfl,?_,?_,rfl,fun x hx=>?_,sP hdf hds',?_,?_,fun a v e=>?_⟩
  ·rw[aJ hpq];exact x6 p _ hp5
  ·rw[aP];simp
  ·rcases List.mem_append.mp hx with hx|hx
   ·have:=CK hx;omega
   ·exact hds x (by simp [hx])
  ·have:=rT f s;rw[iU];omega
  ·rw[<-PF];exact kF
  ·by_cases ha:a=q
   ·exfalso
    rw[ha]at e
    rw[x1 q _ e]at hq;cases hq
   ·rw[aJ ha];exact x6 a v (hx5 a v e)
end
end L3
end
section
namespace L3
open PySem
def fM:List (List Nat):=[W "yes", W "no", W "not", W "and", W "or", W "then", W "same", W "before", W "once", W "sofar", W "since", W "foe", W "friend", W "promise", W "must", W "wish"]
def fB:List Nat:=W "abcdefghijklmnopqrstuvwxyz"
def jF (nn lt lg:D):Fn:=⟨1,1,[.iff (.or_ (.not_ (.isi (.v 0) [.str])) (.cmp .in_ (.v 0) (.c nn))) [.ret (.c (.bl false))] [],.ret (.and_ (.chain .le .le (.c (.int 1)) (.bi .len [(.v 0)]) (.c lg)) (.bi .all [(.comp 1 [] [0] true none [(.v 0)] [] (.cmp .in_ (.v 0) (.c lt)))]))]⟩
def fJ (w:List Nat):Bool:=!(fM.any (·== w))&&decide (1<=w.length)&&decide (w.length<=8)&&w.all fun c=>occurs [c] fB
section
variable {G:Prog}{k i:Nat}{st:aB}{Q:VK}{E:XK}
theorem XB (st:aB)(w:List Nat):((fM.map D.str).any fun d=>bT st d (.str w))=fM.any (·== w):=by
 rw[List.any_map];rfl
theorem QL (st:aB):dW st (fM.map D.str):=⟨rfl,by decide⟩
def UL:D->Bool
 |.str x=>occurs x fB
 |_=>false
theorem G6:∀(w:List Nat),boolsOf ((w.map fun c=>D.str [c]).map fun d=>.bl (UL d))=some (w.map fun c=>occurs [c] fB)
 |[]=>rfl
 |c::r=>by
  show(boolsOf ((r.map fun c=>D.str [c]).map fun d=>.bl (UL d))).map (_ :: ·)=_
  rw[G6 r];rfl
theorem DU (h:G.fns i=some (jF (.tup (fM.map .str)) (.str fB) (.int 8))){w:List Nat}(hw:w.length<=aZ)(hQ:∀ aA,Ext st aA->Q (.bl (fJ w)) aA):aM G (k+1) i [.str w] st Q E:=by
 have hL:aZ=16777216:=rfl
 rw[aT h]
 simp only[jF,start]
 refine⟨rfl,?_⟩
 walk_at"st"
 refine⟨QL st,?_⟩
 rw[XB]
 cases c1:fM.any (·== w)with
 |true =>
  simp only[if_true]
  walk_at"st"
  have e:fJ w=false:=by simp [fJ,c1]
  rw[<-e];exact hQ _ (fun _ _ z=>z)
 |false =>
  simp only[Bool.false_eq_true,if_false]
  rw[aF]
  walk_at"st"
  refine⟨hw,?_⟩
  split
  ·rename_i g1
   split
   ·rename_i g2
    refine⟨hw,?_⟩
    refine comp_map (fun d=>.bl (UL d)) _ [] st (fun aA x a ha=>by cases ha) ?_ (by simp only[List.length_map,List.length_nil];omega) fun aA x=>?_
    ·intro x hx aA K x1 hK
     obtain⟨c,hc,rfl⟩:=List.mem_map.mp hx
     exact hK aA .refl
    ·rw[List.nil_append]
     refine bJ (by simp only[List.length_map];omega) fun p aH x2 hp gU=>?_
     simp only[dP]
     rw[aE gU,G6]
     have e:fJ w=(w.map fun c=>occurs [c] fB).all id:=by
      simp only[fJ,c1,List.all_map]
      have h1:decide (1<=w.length)=true:=decide_eq_true (by omega)
      have h2:decide (w.length<=8)=true:=decide_eq_true (by omega)
      rw[h1,h2]
      rfl
     show Q _ _
     rw[<-e]
     exact hQ _ (x.trans x2)
   ·rename_i g2
    have e:fJ w=decide ((w.length:Int)<=8):=by
     have h2:decide (w.length<=8)=false:=decide_eq_false (by omega)
     have h3:decide ((w.length:Int)<=8)=false:=decide_eq_false g2
     simp only[fJ,h2,h3,Bool.and_false,Bool.false_and]
    rw[<-e];exact hQ _ .refl
  ·rename_i g1
   have e:fJ w=false:=by
    have h1:decide (1<=w.length)=false:=decide_eq_false (by omega)
    simp only[fJ,h1,Bool.and_false,Bool.false_and]
   rw[<-e];exact hQ _ .refl
end
end L3
end
section
namespace L3
open PySem
def nB (iI fG:Nat)(sw:D):Fn:=⟨3,3,[.iff (.or_ (.cmp .lt (.v 2) (.c (.int 1))) (.or_ (.not_ (.isi (.v 1) [.tuple])) (.or_ (.cmp .lt (.bi .len [(.v 1)]) (.c (.int 1))) (.not_ (.isi (.ix (.v 1) (.c (.int 0))) [.str]))))) [.ret (.c (.bl false))] [],.iff (.cmp .eq (.ix (.v 1) (.c (.int 0))) (.c (.str (W "lamp")))) [.ret (.and_ (.cmp .eq (.bi .len [(.v 1)]) (.c (.int 2))) (.and_ (.call iI [(.ix (.v 1) (.c (.int 1)))]) (.cmp .in_ (.ix (.v 1) (.c (.int 1))) (.v 0))))] [],.iff (.or_ (.cmp .fE (.ix (.v 1) (.c (.int 0))) (.c sw)) (.cmp .ne (.bi .len [(.v 1)]) (.bin .add (.c (.int 1)) (.ix (.c sw) (.ix (.v 1) (.c (.int 0))))))) [.ret (.c (.bl false))] [],.ret (.bi .all [(.comp 1 [0,2] [0] true none [(.sl (.v 1) [(.c (.int 1))] [])] [] (.call fG [(.v 1),(.v 0),(.bin .sub (.v 2) (.c (.int 1)))]))])]⟩
section
variable {G:Prog}{k iI fG:Nat}{Q:VK}{E:XK}
def zD:List D:=[(.str (W "yes")),(.str (W "no")),(.str (W "not")),(.str (W "before")),(.str (W "once")),(.str (W "sofar")),(.str (W "and")),(.str (W "or")),(.str (W "then")),(.str (W "same")),(.str (W "since"))]
def BZ:List D:=[(.int 0),(.int 0),(.int 1),(.int 1),(.int 1),(.int 1),(.int 2),(.int 2),(.int 2),(.int 2),(.int 2)]
theorem nS {α:Type}:∀(ps:List α),boolsOf (ps.map fun _=>.bl true)=some (ps.map fun _=>true)
 |[]=>rfl
 |_::r=>by
  show(boolsOf (r.map fun _=>.bl true)).map (true :: ·)=_
  rw[nS r];rfl
theorem wJ (h:G.fns fG=some (nB iI fG (.dB zD BZ))){nm:D}{w:List Nat}{ps:List D}{st:aB}{d:Int}(hd:1<=d)(hl:¬(w==W "lamp")=true)(hin:(zD.any fun x=>bU x (.str w))=true)(har:vT zD BZ (.str w)=some (.int ps.length))(hps:ps.length<=2)
  (hp:∀ x∈ps,∀(aA:aB)(Q':VK)(E':XK),Ext st aA->(∀ aY,Ext aA aY->Q' (.bl true) aY)->aM G k fG [nm,x,.int (d-1)] aA Q' E')(hQ:∀ aA,Ext st aA->Q (.bl true) aA):aM G (k+1) fG [nm,.tup (.str w::ps),.int d] st Q E:=by
 have hL:aZ=16777216:=rfl
 rw[aT h]
 simp only[nB,start]
 refine⟨rfl,?_⟩
 walk_at"st"
 have n1:¬d<1:=by omega
 simp only[if_neg n1]
 have n2:¬((ps.length+1:Nat):Int)<1:=by omega
 simp only[List.length_cons,if_neg n2]
 walk_at"ex"
 rw[aF]
 walk_at"st"
 rw[if_neg hl]
 rw[aF]
 walk_at"st"
 rw[hin]
 simp only[Bool.not_true,Bool.false_eq_true,if_false]
 rw[har]
 show plainS st (.int (1+(ps.length:Int)))/\_
 refine⟨⟨rfl,Nat.zero_le _⟩,?_⟩
 have n3:¬(!bT st (.int ((ps.length+1:Nat):Int)) (.int (1+(ps.length:Int))))=true:=by
  have e:(((ps.length+1:Nat):Int)==1+(ps.length:Int))=true:=beq_iff_eq.mpr (by omega)
  simp only[bT,e,Bool.not_true,Bool.false_eq_true,not_false_iff]
 rw[if_neg n3,aF]
 walk_at"st"
 refine comp_map (fun _=>.bl true) ps [] st (fun aA x a ha=>by cases ha) (fun x hx aA K x1 hK=>hp x hx aA _ _ x1 fun aY x2=>hK aY x2) (by simp only[List.length_nil];omega) fun aA x1=>?_
 rw[List.nil_append]
 refine bJ (by simp only[List.length_map];omega) fun p aH x2 hp' gU=>?_
 simp only[dP]
 rw[aE gU,nS]
 show Q (.bl (((ps.map fun _=>true).all id))) _
 have e:(ps.map fun _=>true).all id=true:=by simp
 rw[e]
 exact hQ _ (x1.trans x2)
theorem HC {n:List Nat}(h:fJ n=true):n.length<=8:=by
 simp only[fJ,Bool.and_eq_true,decide_eq_true_eq]at h
 exact h.1.2
theorem kI (st:aB):∀(names:List (List Nat)),dW st (names.map D.str)
 |[]=>⟨rfl,Nat.zero_le _⟩
 |n::r=>⟨by simp only[List.map_cons,iD,fI,Bool.true_and];exact(kI st r).1,by simp only[List.map_cons,cK,cL];have:=(kI st r).2;omega⟩
theorem RR (st:aB)(names:List (List Nat))(n:List Nat)(h:n∈names):((names.map D.str).any fun d=>bT st d (.str n))=true:=by
 rw[List.any_map]
 exact List.any_eq_true.mpr ⟨n,h,by show(n==n)=true;simp⟩
theorem RL (h:G.fns fG=some (nB iI fG (.dB zD BZ)))(hn:G.fns iI=some (jF (.tup (fM.map .str)) (.str fB) (.int 8))){names:List (List Nat)}(iH:∀ n∈names,fJ n=true){n:List Nat}(ho:n∈names){st:aB}{d:Int}(hd:1<=d)
 (hQ:∀ aA,Ext st aA->Q (.bl true) aA):aM G (k+1+1) fG [.tup (names.map .str),.tup [.str (W "lamp"),.str n],.int d] st Q E:=by
 have hL:aZ=16777216:=rfl
 rw[aT h]
 simp only[nB,start]
 refine⟨rfl,?_⟩
 walk_at"st"
 have n1:¬d<1:=by omega
 simp only[if_neg n1]
 walk_at"ex"
 have n2:¬((0+1+1:Nat):Int)<1:=by decide
 simp only[if_neg n2]
 walk_at"ex"
 rw[aF]
 walk_at"st"
 have n3:(W "lamp" == W "lamp")=true:=by simp
 simp only[n3,if_true]
 walk_at"st"
 rw[if_pos (by decide)]
 refine DU (w:=n) hn (by have:=HC (iH n ho);omega) fun aA x1=>?_
 rw[iH n ho]
 show dW aA (names.map .str)/\Q (.bl ((names.map D.str).any fun d=>bT aA d (.str n))) aA
 refine⟨kI aA names,?_⟩
 rw[RR aA names n ho]
 exact hQ _ x1
theorem A1 (h:G.fns fG=some (nB iI fG (.dB zD BZ)))(hn:G.fns iI=some (jF (.tup (fM.map .str)) (.str fB) (.int 8))){names:List (List Nat)}(iH:∀ n∈names,fJ n=true):
  ∀(s:Sy){k:Nat}{st:aB}{Q:VK}{E:XK}{d:Int},over names s->(aK s:Int)<=d->(∀ aA,Ext st aA->Q (.bl true) aA)->aM G (k+aK s+1) fG [.tup (names.map .str),toD s,.int d] st Q E
 |.yes,k,st,Q,E,d,ho,hd,hQ=>by
  simp only[aK]at hd
  exact wJ h (by omega) (by decide) (by decide) rfl (by decide) (fun x hx=>by cases hx) hQ
 |.no,k,st,Q,E,d,ho,hd,hQ=>by
  simp only[aK]at hd
  exact wJ h (by omega) (by decide) (by decide) rfl (by decide) (fun x hx=>by cases hx) hQ
 |.cE n,k,st,Q,E,d,ho,hd,hQ=>by
  simp only[aK]at hd ⊢
  exact RL h hn iH ho (by omega) hQ
 |.one w s,k,st,Q,E,d,ho,hd,hQ=>by
  simp only[aK]at hd ⊢
  refine wJ (ps:=[toD s]) h (by omega) (by cases w<;>decide) (by cases w<;>decide) (by cases w<;>rfl) (by simp) (fun x hx aA Q' E' x1 hQ'=>?_) hQ
  simp only[List.mem_singleton]at hx
  subst hx
  have:=A1 h hn iH s (k:=k) (st:=aA) (Q:=Q') (E:=E') (d:=d-1) ho (by omega) hQ'
  exact this
 |.two w s t,k,st,Q,E,d,ho,hd,hQ=>by
  simp only[aK]at hd ⊢
  refine wJ (ps:=[toD s,toD t]) h (by omega) (by cases w<;>decide) (by cases w<;>decide) (by cases w<;>rfl) (by simp) (fun x hx aA Q' E' x1 hQ'=>?_) hQ
  have l1:=Nat.le_max_left (aK s) (aK t)
  have l2:=Nat.le_max_right (aK s) (aK t)
  simp only[List.mem_cons,List.not_mem_nil,or_false]at hx
  rcases hx with rfl|rfl
  ·have:=A1 h hn iH s (k:=k+(max (aK s) (aK t)-aK s)) (st:=aA) (Q:=Q') (E:=E') (d:=d-1) ho.1 (by omega) hQ'
   have e:k+(max (aK s) (aK t)-aK s)+aK s+1=k+(max (aK s) (aK t)+1):=by omega
   rw[e]at this;exact this
  ·have:=A1 h hn iH t (k:=k+(max (aK s) (aK t)-aK t)) (st:=aA) (Q:=Q') (E:=E') (d:=d-1) ho.2 (by omega) hQ'
   have e:k+(max (aK s) (aK t)-aK t)+aK t+1=k+(max (aK s) (aK t)+1):=by omega
   rw[e]at this;exact this
end
end L3
end
section
namespace L3
open PySem
def lW:Fn:=⟨3,3,[.ret (.and_ (.isi (.v 0) [.tuple]) (.chain .le .le (.v 1) (.bi .len [(.v 0)]) (.v 2)))]⟩
def KH (ir iI:Nat)(ml:D):Fn:=⟨2,3,[.iff (.or_ (.not_ (.call ir [(.v 0),(.c (.int 1)),(.c ml)])) (.not_ (.call ir [(.v 1),(.c (.int 1)),(.c ml)]))) [.ret (.c (.bl false))] [],.asg (.nm 2) (.bin .add (.v 0) (.v 1)),.ret (.and_ (.bi .all [(.comp 1 [] [0] true none [(.v 2)] [] (.call iI [(.v 0)]))]) (.cmp .eq (.bi .sU [(.v 2)]) (.bi .len [(.v 2)])))]⟩
section
variable {G:Prog}{k ir iI il:Nat}{st:aB}{Q:VK}{E:XK}
theorem mT (h:G.fns ir=some lW){ds:List D}{lo hi:Int}(hQ:Q (.bl (decide (lo<=(ds.length:Int))&&decide ((ds.length:Int)<=hi))) st):aM G (k+1) ir [.tup ds,.int lo,.int hi] st Q E:=by
 rw[aT h]
 simp only[lW,start]
 refine⟨rfl,?_⟩
 walk_at"st"
 by_cases c:lo<=(ds.length:Int)
 ·rw[if_pos c]
  rw[decide_eq_true c,Bool.true_and]at hQ
  exact hQ
 ·rw[if_neg c]
  rw[decide_eq_false c,Bool.false_and]at hQ
  exact hQ
theorem GY:∀(ws seen:List (List Nat)),(seen++ws).Nodup->AA seen ws=ws.length
 |[],_,_=>rfl
 |w::r,seen,h=>by
  have e:seen.any (·== w)=false:=by
   rw[List.any_eq_false]
   intro x hx z
   have:x=w:=by simpa using z
   subst this
   rw[List.nodup_append]at h
   exact h.2.2 x hx x (by simp) rfl
  show(if seen.any (·== w)=true then 0 else 1)+AA (seen++[w]) r=_
  rw[e,GY r (seen++[w]) (by simpa using h)]
  simp only[Bool.false_eq_true,if_false,List.length_cons]
  omega
theorem DC:∀(ws:List (List Nat)),strsOf (ws.map .str)=some ws
 |[]=>rfl
 |w::r=>by
  show(strsOf (r.map .str)).map (w :: ·)=_
  rw[DC r];rfl
theorem R8 (h:G.fns il=some (KH ir iI (.int 2)))(hr:G.fns ir=some lW)(hn:G.fns iI=some (jF (.tup (fM.map .str)) (.str fB) (.int 8))){fs gs:List (List Nat)}(h1:1<=fs.length)(h2:fs.length<=2)(h3:1<=gs.length)(h4:gs.length<=2)(h5:(fs++gs).Nodup)(h6:∀ n∈fs++gs,fJ n=true)
  (hQ:∀ aA,Ext st aA->Q (.bl true) aA):aM G (k+2) il [.tup (fs.map .str),.tup (gs.map .str)] st Q E:=by
 have hL:aZ=16777216:=rfl
 rw[aT h]
 simp only[KH,start]
 refine⟨rfl,?_⟩
 walk_at"st"
 refine mT hr ?_
 have e1:(decide ((1:Int)<=((fs.map D.str).length:Int))&&decide (((fs.map D.str).length:Int)<=2))=true:=by simp only[List.length_map,Bool.and_eq_true,decide_eq_true_eq];omega
 rw[e1]
 walk_at"ex"
 refine mT hr ?_
 have e2:(decide ((1:Int)<=((gs.map D.str).length:Int))&&decide (((gs.map D.str).length:Int)<=2))=true:=by simp only[List.length_map,Bool.and_eq_true,decide_eq_true_eq];omega
 rw[e2]
 walk_at"ex"
 rw[aF]
 walk_at"st"
 refine⟨by simp only[List.length_map];omega,?_⟩
 rw[<-List.map_append]
 walk_at"st"
 refine comp_map (fun _=>.bl true) _ [] st (fun aA x a ha=>by cases ha) (fun x hx aA K x1 hK=>?_) (by simp only[List.length_map,List.length_append,List.length_nil];omega) fun aA x1=>?_
 ·obtain⟨n,hn',rfl⟩:=List.mem_map.mp hx
  refine DU (w:=n) hn (by have:=HC (h6 n hn');omega) fun aY x2=>?_
  rw[h6 n hn']
  exact hK aY x2
 ·rw[List.nil_append]
  refine bJ (by simp only[List.length_map,List.length_append];omega) fun p aH x2 hp' gU=>?_
  simp only[dP]
  rw[aE gU,nS]
  rw[bB,DC,bB]
  have e3:(List.map (fun _=>true) ((fs++gs).map D.str)).all id=true:=by simp
  rw[if_pos e3]
  refine⟨by simp only[List.length_append];omega,?_⟩
  have e4:(((AA [] (fs++gs):Nat):Int)==((((fs++gs).map D.str).length:Nat):Int))=true:=by
   rw[GY (fs++gs) [] (by simpa using h5),List.length_map];simp
  rw[e4]
  exact hQ _ (x1.trans x2)
end
end L3
end
section
namespace L3
open PySem
def sF (fG:Nat)(dp:D):Fn:=⟨2,2,[.ret (.call fG [(.v 0),(.v 1),(.c dp)])]⟩
def AO (ir iy:Nat):Fn:=⟨3,3,[.ret (.and_ (.call ir [(.v 1),(.c (.int 0)),(.v 2)]) (.bi .all [(.comp 1 [0] [0] true none [(.v 1)] [] (.call iy [(.v 1),(.v 0)]))]))]⟩
def sQ (hp:D):Fn:=⟨1,1,[.ret (.and_ (.isi (.v 0) [.int]) (.and_ (.not_ (.isi (.v 0) [.bool])) (.chain .le .le (.c (.int 1)) (.v 0) (.c hp))))]⟩
def AJ (ir ip iy:Nat):Fn:=⟨2,2,[.ret (.and_ (.call ir [(.v 1),(.c (.int 2)),(.c (.int 2))]) (.and_ (.call ip [(.ix (.v 1) (.c (.int 0)))]) (.call iy [(.v 0),(.ix (.v 1) (.c (.int 1)))])))]⟩
def B7 (ir iw:Nat)(mw:D):Fn:=⟨2,2,[.ret (.and_ (.call ir [(.v 1),(.c (.int 1)),(.c mw)]) (.bi .all [(.comp 1 [0] [0] true none [(.v 1)] [] (.call iw [(.v 1),(.v 0)]))]))]⟩
section
variable {G:Prog}{k ir iI fG iy ip iw ia:Nat}{st:aB}{Q:VK}{E:XK}{names:List (List Nat)}
theorem G2 (hy:G.fns iy=some (sF fG (.int 8)))(h:G.fns fG=some (nB iI fG (.dB zD BZ)))(hn:G.fns iI=some (jF (.tup (fM.map .str)) (.str fB) (.int 8)))(iH:∀ n∈names,fJ n=true){s:Sy}(ho:over names s)(hd:aK s<=8)
 (hQ:∀ aA,Ext st aA->Q (.bl true) aA):aM G (k+10) iy [.tup (names.map .str),toD s] st Q E:=by
 rw[aT hy]
 simp only[sF,start]
 refine⟨rfl,?_⟩
 walk_at"st"
 have:=A1 h hn iH s (k:=k+(8-aK s)) (st:=st) (Q:=Q) (E:=E) (d:=8) ho (by omega) hQ
 have e:k+(8-aK s)+aK s+1=k+9:=by omega
 rw[e]at this;exact this
theorem DQ (ha:G.fns ia=some (AO ir iy))(hr:G.fns ir=some lW)(hy:G.fns iy=some (sF fG (.int 8)))(h:G.fns fG=some (nB iI fG (.dB zD BZ)))(hn:G.fns iI=some (jF (.tup (fM.map .str)) (.str fB) (.int 8)))(iH:∀ n∈names,fJ n=true){ss:List Sy}{m:Int}
  (ho:∀ s∈ss,over names s/\aK s<=8)(hl:(ss.length:Int)<=m)(hl2:ss.length<=1000)(hQ:∀ aA,Ext st aA->Q (.bl true) aA):aM G (k+11) ia [.tup (names.map .str),.tup (ss.map toD),.int m] st Q E:=by
 have hL:aZ=16777216:=rfl
 rw[aT ha]
 simp only[AO,start]
 refine⟨rfl,?_⟩
 walk_at"st"
 refine mT hr ?_
 have e1:(decide ((0:Int)<=((ss.map toD).length:Int))&&decide (((ss.map toD).length:Int)<=m))=true:=by simp only[List.length_map,Bool.and_eq_true,decide_eq_true_eq];omega
 rw[e1]
 walk_at"ex"
 refine comp_map (fun _=>.bl true) _ [] st (fun aA x a ha=>by cases ha) (fun x hx aA K x1 hK=>?_) (by simp only[List.length_map,List.length_nil];omega) fun aA x1=>?_
 ·obtain⟨s,hs,rfl⟩:=List.mem_map.mp hx
  exact G2 hy h hn iH (ho s hs).1 (ho s hs).2 fun aY x2=>hK aY x2
 ·rw[List.nil_append]
  refine bJ (by simp only[List.length_map];omega) fun p aH x2 hp' gU=>?_
  simp only[dP]
  rw[aE gU,nS,bB]
  have e3:(List.map (fun _=>true) (ss.map toD)).all id=true:=by simp
  rw[e3]
  exact hQ _ (x1.trans x2)
theorem LP (h:G.fns ip=some (sQ (.int 99))){p:Int}(h1:1<=p)(h2:p<=99)(hQ:Q (.bl true) st):aM G (k+1) ip [.int p] st Q E:=by
 rw[aT h]
 simp only[sQ,start]
 refine⟨rfl,?_⟩
 walk_at"st"
 rw[if_pos h1,decide_eq_true h2]
 exact hQ
theorem OO (hw:G.fns iw=some (AJ ir ip iy))(hr:G.fns ir=some lW)(hp:G.fns ip=some (sQ (.int 99)))(hy:G.fns iy=some (sF fG (.int 8)))(h:G.fns fG=some (nB iI fG (.dB zD BZ)))(hn:G.fns iI=some (jF (.tup (fM.map .str)) (.str fB) (.int 8)))(iH:∀ n∈names,fJ n=true){s:Sy}{p:Int}
 (h1:1<=p)(h2:p<=99)(ho:over names s)(hd:aK s<=8)(hQ:∀ aA,Ext st aA->Q (.bl true) aA):aM G (k+11) iw [.tup (names.map .str),.tup [.int p,toD s]] st Q E:=by
 rw[aT hw]
 simp only[AJ,start]
 refine⟨rfl,?_⟩
 walk_at"st"
 refine mT hr ?_
 have e1:(decide ((2:Int)<=(([.int p,toD s]:List D).length:Int))&&decide ((([.int p,toD s]:List D).length:Int)<=2))=true:=rfl
 rw[e1]
 walk_at"ex"
 refine LP hp h1 h2 ?_
 walk_at"ex"
 exact G2 hy h hn iH ho hd fun aY x2=>hQ aY x2
end
end L3
end
section
namespace L3
open PySem
def xA (ih ib:Nat):Fn:=⟨2,2,[.iff (.cmp .eq (.ix (.v 1) (.c (.int 0))) (.c (.str (W "before")))) [.ret (.c (.bl false))] [],.iff (.cmp .eq (.ix (.v 1) (.c (.int 0))) (.c (.str (W "lamp")))) [.ret (.cmp .in_ (.ix (.v 1) (.c (.int 1))) (.v 0))] [],.ret (.bi .any [(.comp 1 [0] [0] true none [(.call ih [(.v 1)])] [] (.call ib [(.v 1),(.v 0)]))])]⟩
def gF (gs:List (List Nat)):Sy->Bool
 |.cE n=>gs.any (·== n)
 |.one .before _=>false
 |.one _ s=>gF gs s
 |.two _ s t=>gF gs s||gF gs t
 |_=>false
section
variable {G:Prog}{k ih ib ir iI fG iy ip iw ia:Nat}{st:aB}{Q:VK}{E:XK}{names:List (List Nat)}
theorem LY (ha:G.fns ia=some (B7 ir iw (.int 5)))(hw:G.fns iw=some (AJ ir ip iy))(hr:G.fns ir=some lW)(hp:G.fns ip=some (sQ (.int 99)))(hy:G.fns iy=some (sF fG (.int 8)))(h:G.fns fG=some (nB iI fG (.dB zD BZ)))(hn:G.fns iI=some (jF (.tup (fM.map .str)) (.str fB) (.int 8)))(iH:∀ n∈names,fJ n=true){ws:List (Int×Sy)}
  (ho:∀ w∈ws,1<=w.1/\w.1<=99/\over names w.2/\aK w.2<=8)(h1:1<=ws.length)(h2:ws.length<=5)(hQ:∀ aA,Ext st aA->Q (.bl true) aA):aM G (k+12) ia [.tup (names.map .str),.tup (ws.map fun w=>.tup [.int w.1,toD w.2])] st Q E:=by
 have hL:aZ=16777216:=rfl
 rw[aT ha]
 simp only[B7,start]
 refine⟨rfl,?_⟩
 walk_at"st"
 refine mT hr ?_
 have e1:(decide ((1:Int)<=((ws.map fun w=>D.tup [.int w.1,toD w.2]).length:Int))&&decide (((ws.map fun w=>D.tup [.int w.1,toD w.2]).length:Int)<=5))=true:=by simp only[List.length_map,Bool.and_eq_true,decide_eq_true_eq];omega
 rw[e1]
 walk_at"ex"
 refine comp_map (fun _=>.bl true) _ [] st (fun aA x a ha=>by cases ha) (fun x hx aA K x1 hK=>?_) (by simp only[List.length_map,List.length_nil];omega) fun aA x1=>?_
 ·obtain⟨s,hs,rfl⟩:=List.mem_map.mp hx
  obtain⟨o1,o2,o3,o4⟩:=ho s hs
  exact OO hw hr hp hy h hn iH o1 o2 o3 o4 fun aY x2=>hK aY x2
 ·rw[List.nil_append]
  refine bJ (by simp only[List.length_map];omega) fun p aH x2 hp' gU=>?_
  simp only[dP]
  rw[aE gU,nS,bB]
  have e3:(List.map (fun _=>true) (ws.map fun w=>D.tup [.int w.1,toD w.2])).all id=true:=by simp
  rw[e3]
  exact hQ _ (x1.trans x2)
end
end L3
end
section
namespace L3
open PySem
theorem gH {α:Type}{g:aB->Prop}{turn:D->aB->(Option D->aB->Prop)->Prop}{R:List D->aB->Prop}(t f:α->D):∀(xs:List α)(acc:List D)(st:aB),
  (∀ aA,Ext st aA->g aA)->(∀ x∈xs,∀ aA (K:Option D->aB->Prop),Ext st aA->(∀ aY,Ext aA aY->K (some (f x)) aY)->turn (t x) aA K) ->
  acc.length+xs.length<=aZ->(∀ aA,Ext st aA->R (acc++xs.map f) aA)->jS g turn (xs.map t) acc st R
 |[],acc,st,hg,_,_,hR=>⟨hg st .refl,by simpa using hR st .refl⟩
 |x::xs,acc,st,hg,ht,hl,hR=>by
  simp only[List.length_cons]at hl
  refine⟨hg st .refl,by omega,ht x (by simp) st _ .refl fun aY h''=>?_⟩
  exact gH t f xs (acc++[f x]) aY (fun aA h=>hg aA (h''.trans h)) (fun y hy aA K h=>ht y (by simp [hy]) aA K (h''.trans h)) (by simp only[List.length_append,List.length_cons,List.length_nil];omega) fun aA h=>by simpa using hR aA (h''.trans h)
theorem xO {α:Type}(b:α->Bool):∀(ps:List α),boolsOf (ps.map fun x=>.bl (b x))=some (ps.map b)
 |[]=>rfl
 |x::r=>by
  show(boolsOf (r.map fun x=>.bl (b x))).map (b x :: ·)=_
  rw[xO b r];rfl
section
variable {G:Prog}{k ih ib:Nat}{Q:VK}{E:XK}{gs:List (List Nat)}
theorem xH (h:G.fns ib=some (xA ih ib))(hh:G.fns ih=some iL){s:Sy}{st:aB}(h1:¬(wd s==W "before")=true)(h2:fK s=false)(h3:¬(wd s==W "lamp")=true)(h4:(subs s).length<=2)
 (hp:∀ x∈subs s,∀(aA:aB)(Q':VK)(E':XK),Ext st aA->(∀ aY,Ext aA aY->Q' (.bl (gF gs x)) aY)->aM G (k+1) ib [.tup (gs.map .str),toD x] aA Q' E')(hQ:∀ aA,Ext st aA->Q (.bl ((subs s).any (gF gs))) aA):aM G (k+2) ib [.tup (gs.map .str),toD s] st Q E:=by
 have hL:aZ=16777216:=rfl
 rw[aT h]
 simp only[xA,start]
 refine⟨rfl,?_⟩
 obtain⟨r,er⟩:=kX s
 rw[er]
 walk_at"st"
 rw[if_neg h1,aF]
 walk_at"st"
 rw[if_neg h3,aF]
 walk_at"st"
 rw[<-er]
 refine tL hh ?_
 walk_at"ex"
 refine gH toD (fun x=>.bl (gF gs x)) _ [] st (fun aA x a ha=>by cases ha) (fun x hx aA K x1 hK=>hp x hx aA _ _ x1 fun aY x2=>hK aY x2) (by simp only[List.length_nil];omega) fun aA x1=>?_
 rw[List.nil_append]
 refine bJ (by simp only[List.length_map];omega) fun p aH x2 hp' gU=>?_
 simp only[dP]
 rw[aE gU,xO,bB,List.any_map]
 exact hQ _ (x1.trans x2)
theorem AZ (h:G.fns ib=some (xA ih ib))(hh:G.fns ih=some iL):∀(s:Sy){k:Nat}{st:aB}{Q:VK}{E:XK},(∀ aA,Ext st aA->Q (.bl (gF gs s)) aA)->aM G (k+aK s+1) ib [.tup (gs.map .str),toD s] st Q E
 |.yes,k,st,Q,E,hQ=>xH (k:=k) h hh (by decide) rfl (by decide) (by decide) (fun x hx=>by cases hx) hQ
 |.no,k,st,Q,E,hQ=>xH (k:=k) h hh (by decide) rfl (by decide) (by decide) (fun x hx=>by cases hx) hQ
 |.cE n,k,st,Q,E,hQ=>by
  rw[aT h]
  simp only[xA,start,toD]
  refine⟨rfl,?_⟩
  walk_at"st"
  have n1:¬(W "lamp" == W "before")=true:=by decide
  rw[if_neg n1,aF]
  walk_at"st"
  have n3:(W "lamp" == W "lamp")=true:=by decide
  rw[if_pos n3]
  walk_at"st"
  refine⟨kI st gs,?_⟩
  have e:((gs.map D.str).any fun d=>bT st d (.str n))=gF gs (.cE n):=by rw[List.any_map];rfl
  rw[e]
  exact hQ _ .refl
 |.one w s,k,st,Q,E,hQ=>by
  by_cases hw:w=.before
  ·subst hw
   rw[aT h]
   simp only[xA,start,toD,c1]
   refine⟨rfl,?_⟩
   walk_at"st"
   have n1:(W "before" == W "before")=true:=by decide
   rw[if_pos n1]
   walk_at"st"
   exact hQ _ .refl
  ·have e0:k+aK (.one w s)+1=(k+aK s)+2:=by simp only[aK];omega
   rw[e0]
   refine xH h hh (show ¬(c1 w==W "before")=true by cases w<;>first|decide|exact absurd rfl hw) rfl (show ¬(c1 w==W "lamp")=true by cases w<;>decide) (by simp [subs]) (fun x hx aA Q' E' x1 hQ'=>?_) (fun aA x1=>?_)
   ·simp only[subs,List.mem_cons,List.not_mem_nil,or_false]at hx
    rw[hx]at hQ' ⊢
    exact AZ h hh s (k:=k) (st:=aA) (Q:=Q') (E:=E') hQ'
   ·have e1:(subs (.one w s)).any (gF gs)=gF gs (.one w s):=by
     cases w<;>first|exact absurd rfl hw|simp [subs,gF]
    rw[e1];exact hQ aA x1
 |.two w s t,k,st,Q,E,hQ=>by
  have l1:=Nat.le_max_left (aK s) (aK t)
  have l2:=Nat.le_max_right (aK s) (aK t)
  have e0:k+aK (.two w s t)+1=(k+max (aK s) (aK t))+2:=by simp only[aK];omega
  rw[e0]
  refine xH h hh (show ¬(c2 w==W "before")=true by cases w<;>decide) rfl (show ¬(c2 w==W "lamp")=true by cases w<;>decide) (by simp [subs]) (fun x hx aA Q' E' x1 hQ'=>?_) (fun aA x1=>by simpa [subs,gF]using hQ aA x1)
  simp only[subs,List.mem_cons,List.not_mem_nil,or_false]at hx
  rcases hx with hx|hx
  ·rw[hx]at hQ' ⊢
   have:=AZ h hh s (k:=k+(max (aK s) (aK t)-aK s)) (st:=aA) (Q:=Q') (E:=E') hQ'
   have e:k+(max (aK s) (aK t)-aK s)+aK s+1=k+max (aK s) (aK t)+1:=by omega
   rw[e]at this;exact this
  ·rw[hx]at hQ' ⊢
   have:=AZ h hh t (k:=k+(max (aK s) (aK t)-aK t)) (st:=aA) (Q:=Q') (E:=E') hQ'
   have e:k+(max (aK s) (aK t)-aK t)+aK t+1=k+max (aK s) (aK t)+1:=by omega
   rw[e]at this;exact this
end
end L3
end
section
namespace L3
open PySem
def E6 (ia ib:Nat)(mp:D):Fn:=⟨3,3,[.ret (.and_ (.call ia [(.v 0),(.v 2),(.c mp)]) (.not_ (.bi .any [(.comp 1 [1] [0] true none [(.v 2)] [] (.call ib [(.v 1),(.v 0)]))])))]⟩
def uS:Fn:=⟨3,3,[.ret (.bin .add (.bin .add (.bi .list [(.v 0)]) (.bi .list [(.v 1)])) (.comp 1 [] [0] true none [(.v 2)] [] (.ix (.v 0) (.c (.int 1)))))]⟩
section
variable {G:Prog}{k ih ib ir iI fG iy ia iap io:Nat}{st:aB}{Q:VK}{E:XK}{names gs:List (List Nat)}
theorem OR (hp:G.fns iap=some (E6 ia ib (.int 3)))(hb:G.fns ib=some (xA ih ib))(hh:G.fns ih=some iL)(ha:G.fns ia=some (AO ir iy))(hr:G.fns ir=some lW)(hy:G.fns iy=some (sF fG (.int 8)))(h:G.fns fG=some (nB iI fG (.dB zD BZ)))(hn:G.fns iI=some (jF (.tup (fM.map .str)) (.str fB) (.int 8)))(iH:∀ n∈names,fJ n=true){ss:List Sy}
  (ho:∀ s∈ss,over names s/\aK s<=8)(hl:ss.length<=3)(hbare:∀ s∈ss,gF gs s=false)(hQ:∀ aA,Ext st aA->Q (.bl true) aA):aM G (k+12) iap [.tup (names.map .str),.tup (gs.map .str),.tup (ss.map toD)] st Q E:=by
 have hL:aZ=16777216:=rfl
 rw[aT hp]
 simp only[E6,start]
 refine⟨rfl,?_⟩
 walk_at"st"
 refine DQ ha hr hy h hn iH ho (by omega) (by omega) fun aC y1=>?_
 walk_at"ex"
 refine gH toD (fun _=>.bl false) _ [] aC (fun aA x a ha=>by cases ha) (fun x hx aA K x1 hK=>?_) (by simp only[List.length_nil];omega) fun aA x1=>?_
 ·have e:k+11=(k+10-aK x)+aK x+1:=by have:=(ho x hx).2;omega
  rw[e]
  refine AZ hb hh x fun aY x2=>?_
  rw[hbare x hx]
  exact hK aY x2
 ·rw[List.nil_append]
  refine bJ (by simp only[List.length_map];omega) fun p aH x2 hp' gU=>?_
  simp only[dP]
  rw[aE gU,xO (fun _=>false),bB]
  have e3:(ss.map fun _=>false).any id=false:=by simp
  rw[e3]
  exact hQ _ ((y1.trans x1).trans x2)
theorem GK (h:G.fns io=some uS){ps ms:List Sy}{ws:List (Int×Sy)}(h1:ps.length<=1000)(h2:ms.length<=1000)(h3:ws.length<=1000)
 (hQ:∀ p aA,Ext st aA->aA p=some (.lst ((ps++ms++ws.map (·.2)).map toD))->Q (.ref p) aA):aM G (k+1) io [.tup (ps.map toD),.tup (ms.map toD),.tup (ws.map fun w=>.tup [.int w.1,toD w.2])] st Q E:=by
 have hL:aZ=16777216:=rfl
 rw[aT h]
 simp only[uS,start]
 refine⟨rfl,?_⟩
 walk_at"st"
 refine bJ (by simp only[List.length_map];omega) fun p aC x1 hp hp1=>?_
 walk_at"ex"
 refine bJ (by simp only[List.length_map];omega) fun q aH x2 hq hq2=>?_
 walk_at"ex"
 rw[aE (x2 _ _ hp1),aE hq2]
 refine bJ (by simp only[List.length_map,List.length_append];omega) fun r aV x3 hr hr3=>?_
 refine gH (fun w:Int×Sy=>D.tup [.int w.1,toD w.2]) (fun w=>toD w.2) _ [] aV (fun aA x a ha=>by cases ha) (fun x hx aA K y1 hK=>hK aA .refl) (by simp only[List.length_nil];omega) fun cJ x4=>?_
 rw[List.nil_append]
 refine bJ (by simp only[List.length_map];omega) fun u cR x5 hu hu5=>?_
 show cP cR r fun xs=>cP cR u fun ys=>iE (xs++ys) cR Q
 rw[aE (x5 _ _ (x4 _ _ hr3)),aE hu5]
 refine bJ (by simp only[List.length_map,List.length_append];omega) fun v fL x6 hv hv6=>?_
 refine hQ v fL (((((x1.trans x2).trans x3).trans x4).trans x5).trans x6) ?_
 rw[hv6]
 simp only[List.map_append,List.map_map]
 rfl
end
end L3
end
section
namespace L3
open PySem
def EN (ir il iap ia iaw ipi io:Nat)(mm mp:D):Fn:=⟨1,6,[.iff (.or_ (.not_ (.call ir [(.v 0),(.c (.int 5)),(.c (.int 5))])) (.not_ (.call il [(.ix (.v 0) (.c (.int 0))),(.ix (.v 0) (.c (.int 1)))]))) [.ret (.c (.bl false))] [],.asg (.nm 1) (.ix (.v 0) (.c (.int 1))),.asg (.nm 2) (.bin .add (.ix (.v 0) (.c (.int 0))) (.v 1)),.asg (.nm 3) (.ix (.v 0) (.c (.int 2))),.asg (.nm 4) (.ix (.v 0) (.c (.int 3))),.asg (.nm 5) (.ix (.v 0) (.c (.int 4))),.iff (.or_ (.not_ (.call iap [(.v 2),(.v 1),(.v 3)])) (.not_ (.call ia [(.v 2),(.v 4),(.c mm)]))) [.ret (.c (.bl false))] [],.ret (.and_ (.call iaw [(.v 2),(.v 5)]) (.cmp .le (.bi .len [(.call ipi [(.call io [(.v 3),(.v 4),(.v 5)])])]) (.c mp)))]⟩
structure Bk where
 fs:List (List Nat)
 gs:List (List Nat)
 ps:List Sy
 ms:List Sy
 ws:List (Int×Sy)
def Bk.d (b:Bk):D:=.tup [.tup (b.fs.map .str),.tup (b.gs.map .str),.tup (b.ps.map toD),.tup (b.ms.map toD),.tup (b.ws.map fun w=>.tup [.int w.1,toD w.2])]
def Bk.names (b:Bk):List (List Nat):=b.fs++b.gs
def Bk.says (b:Bk):List Sy:=b.ps++b.ms++b.ws.map (·.2)
structure Bk.Ok (b:Bk):Prop where
 f1:1<=b.fs.length
 f2:b.fs.length<=2
 g1:1<=b.gs.length
 g2:b.gs.length<=2
 nd:b.names.Nodup
 nm:∀ n∈b.names,fJ n=true
 p1:b.ps.length<=3
 p2:∀ s∈b.ps,over b.names s/\aK s<=8
 p3:∀ s∈b.ps,gF b.gs s=false
 m1:b.ms.length<=3
 m2:∀ s∈b.ms,over b.names s/\aK s<=8
 w1:1<=b.ws.length
 w2:b.ws.length<=5
 w3:∀ w∈b.ws,1<=w.1/\w.1<=99/\over b.names w.2/\aK w.2<=8
section
variable {G:Prog}{k ih ib ir iI fG iy ia iap io il iaw ipi ip iw ibk:Nat}{st:aB}{Q:VK}{E:XK}
theorem L5 (h:G.fns ir=some lW){ds:List D}{lo hi:Int}(h1:lo<=(ds.length:Int))(h2:(ds.length:Int)<=hi)(hQ:Q (.bl true) st):aM G (k+1) ir [.tup ds,.int lo,.int hi] st Q E :=
 mT h (by rw[decide_eq_true h1,decide_eq_true h2];exact hQ)
end
end L3
end
section
namespace L3
open PySem
section
variable {G:Prog}{k ir il iap ia iaw ipi io ibk:Nat}{Q:VK}{E:XK}
theorem LS (hbk:G.fns ibk=some (EN ir il iap ia iaw ipi io (.int 3) (.int 4)))(hr:G.fns ir=some lW){F J P M V N:D}{st:aB}{Φ:Nat->aB->Prop}
 (h1:∀(st:aB)(Q:VK)(E:XK),(∀ aA,Ext st aA->Q (.bl true) aA)->aM G (k+12) il [F,J] st Q E)(h2:∀(st:aB)(Q:VK),Q N st->iB .add F J st Q)
 (h3:∀(st:aB)(Q:VK)(E:XK),(∀ aA,Ext st aA->Q (.bl true) aA)->aM G (k+12) iap [N,J,P] st Q E)(h4:∀(st:aB)(Q:VK)(E:XK),(∀ aA,Ext st aA->Q (.bl true) aA)->aM G (k+12) ia [N,M,.int 3] st Q E)
 (h5:∀(st:aB)(Q:VK)(E:XK),(∀ aA,Ext st aA->Q (.bl true) aA)->aM G (k+12) iaw [N,V] st Q E)(h6:∀(st:aB)(Q:VK)(E:XK),(∀ l aA,Ext st aA->Φ l aA->Q (.ref l) aA)->aM G (k+12) io [P,M,V] st Q E)
 (h7:∀(l:Nat)(st:aB)(Q:VK)(E:XK),Φ l st->(∀ p aA (xs:List D),Ext st aA->xs.length<=4->aA p=some (.lst xs)->Q (.ref p) aA)->aM G (k+12) ipi [.ref l] st Q E)
 (hQ:∀ aA,Ext st aA->Q (.bl true) aA):aM G (k+13) ibk [.tup [F,J,P,M,V]] st Q E:=by
 rw[aT hbk]
 simp only[EN,start]
 refine⟨rfl,?_⟩
 walk_at"st"
 refine L5 hr (Int.le_refl 5) (Int.le_refl 5) ?_
 walk_at"ex"
 refine h1 _ _ _ fun aC x1=>?_
 walk_at"ex"
 rw[aF]
 try dsimp only
 rw[cU,vE,EM,JH]
 simp only[↓ER,↓M3]
 rw[kS,show gC [F,J,P,M,V] 1=some J from rfl,bB,AY]
 simp only[List.set_cons_succ,List.set_cons_zero]
 rw[cU,vE,U9,EM,JH]
 simp only[↓ER,↓M3]
 rw[kS,show gC [F,J,P,M,V] 0=some F from rfl,bB,JH]
 simp only[List.set_cons_succ,List.set_cons_zero,↓Cm]
 refine h2 _ _ ?_
 rw[AY]
 simp only[List.set_cons_succ,List.set_cons_zero]
 rw[cU,vE,EM,JH]
 simp only[List.set_cons_succ,List.set_cons_zero,↓ER,↓M3]
 rw[kS,show gC [F,J,P,M,V] 2=some P from rfl,bB,AY]
 simp only[List.set_cons_succ,List.set_cons_zero]
 rw[cU,vE,EM,JH]
 simp only[List.set_cons_succ,List.set_cons_zero,↓ER,↓M3]
 rw[kS,show gC [F,J,P,M,V] 3=some M from rfl,bB,AY]
 simp only[List.set_cons_succ,List.set_cons_zero]
 rw[cU,vE,EM,JH]
 simp only[List.set_cons_succ,List.set_cons_zero,↓ER,↓M3]
 rw[kS,show gC [F,J,P,M,V] 4=some V from rfl,bB,AY]
 simp only[List.set_cons_succ,List.set_cons_zero]
 walk_at"st"
 refine h3 _ _ _ fun aH x2=>?_
 walk_at"ex"
 refine h4 _ _ _ fun aV x3=>?_
 walk_at"ex"
 rw[aF]
 walk_at"st"
 refine h5 _ _ _ fun cJ x4=>?_
 walk_at"ex"
 refine h6 _ _ _ fun l cR x5 hl=>?_
 walk_at"ex"
 refine h7 _ _ _ _ hl fun p fL xs x6 hx hp=>?_
 walk_at"ex"
 unfold eT
 rw[hp]
 show Q (.bl (decide ((xs.length:Int)<=4))) fL
 rw[decide_eq_true (show(xs.length:Int)<=4 by omega)]
 exact hQ _ (((((x1.trans x2).trans x3).trans x4).trans x5).trans x6)
end
end L3
end
section
namespace L3
open PySem
section
variable {G:Prog}{k ih ib ir iI fG iy ia iap io il iaw ipi ip iw ibk:Nat}{st:aB}{Q:VK}{E:XK}
theorem OW (hbk:G.fns ibk=some (EN ir il iap ia iaw ipi io (.int 3) (.int 4)))(hla:G.fns il=some (KH ir iI (.int 2)))(hap:G.fns iap=some (E6 ia ib (.int 3)))(hb:G.fns ib=some (xA ih ib))(hh:G.fns ih=some iL)(ha:G.fns ia=some (AO ir iy))(hr:G.fns ir=some lW)(hy:G.fns iy=some (sF fG (.int 8)))(h:G.fns fG=some (nB iI fG (.dB zD BZ)))
  (hn:G.fns iI=some (jF (.tup (fM.map .str)) (.str fB) (.int 8)))(haw:G.fns iaw=some (B7 ir iw (.int 5)))(hw:G.fns iw=some (AJ ir ip iy))(hp:G.fns ip=some (sQ (.int 99)))(ho:G.fns io=some uS)(hpi:G.fns ipi=some (lG ih)){b:Bk}(B:b.Ok)(hs:eJ b.says<aZ)(hd:∀ x∈b.says,aK x<=60)(hc:(bV b.says []).length<=4)
  (hQ:∀ aA,Ext st aA->Q (.bl true) aA):aM G (k+13) ibk [b.d] st Q E:=by
 have hL:aZ=16777216:=rfl
 have f2:=B.f2
 have g2:=B.g2
 have p1:=B.p1
 have m1:=B.m1
 have w2:=B.w2
 refine LS hbk hr (N:=.tup (b.names.map .str)) (Φ:=fun l st=>st l=some (.lst (b.says.map toD))) (fun st Q E q=>R8 (k:=k+10) hla hr hn B.f1 B.f2 B.g1 B.g2 B.nd B.nm q) (fun st Q q=>?_) (fun st Q E q=>OR (k:=k) hap hb hh ha hr hy h hn B.nm B.p2 B.p1 B.p3 q)
  (fun st Q E q=>DQ (k:=k+1) ha hr hy h hn B.nm B.m2 (by omega) (by omega) q) (fun st Q E q=>LY (k:=k) haw hw hr hp hy h hn B.nm B.w3 B.w1 B.w2 q) (fun st Q E q=>GK (k:=k+11) ho (by omega) (by omega) (by omega) fun p aA x e=>q p aA x e)
  (fun l st Q E e q=>zS (k:=k+10) hpi hh e hd hs fun p aA x e'=>q p aA _ x (by simpa using hc) e') hQ
 show _/\Q _ st
 refine⟨by simp only[List.length_map];omega,?_⟩
 rw[<-List.map_append]
 exact q
end
end L3
end
section
namespace L3
def jX (f g:Nat->Bool):Nat->Bool
 |0=>g 0
 |t+1=>g (t+1)||(f (t+1)&&jX f g t)
def HQ (names:List (List Nat))(bA:List (List Bool))(n:List Nat)(t:Nat):Bool:=(((bA[t]?).getD [])[names.idxOf n]?).getD false
def hv (names:List (List Nat))(bA:List (List Bool)):Sy->Nat->Bool
 |.yes,_=>true
 |.no,_=>false
 |.cE n,t=>HQ names bA n t
 |.one .not s,t=>!hv names bA s t
 |.one .before s,t=>decide (0<t)&&hv names bA s (t-1)
 |.one .once s,t=>(List.range (t+1)).any (hv names bA s)
 |.one .sofar s,t=>(List.range (t+1)).all (hv names bA s)
 |.two .and s u,t=>hv names bA s t&&hv names bA u t
 |.two .or s u,t=>hv names bA s t||hv names bA u t
 |.two .bE s u,t=>hv names bA u t || !hv names bA s t
 |.two .same s u,t=>hv names bA s t==hv names bA u t
 |.two .since s u,t=>jX (hv names bA s) (hv names bA u) t
def lR:Sy->Sy
 |.one .before s=>s
 |s=>s
def eQ:Sy->Bool
 |.one .sofar _=>true
 |_=>false
def fW (names:List (List Nat))(bA:List (List Bool))(t:Nat)(p:Sy):Bool:=if t=0 then eQ p else hv names bA (lR p) (t-1)
def fS:Sy->Bool->List Bool->Bool
 |.one .before _,m,_=>m
 |.one .once _,m,a::_=>m||a
 |.one .sofar _,m,a::_=>m&&a
 |.two .since _ _,m,a::b::_=>b||(m&&a)
 |_,_,_=>false
def qJ:Sy->List Bool->Bool
 |.yes,_=>true
 |.one .not _,a::_=>!a
 |.two .and _ _,a::b::_=>a&&b
 |.two .or _ _,a::b::_=>a||b
 |.two .bE _ _,a::b::_=>b || !a
 |.two .same _ _,a::b::_=>a==b
 |_,_=>false
section
variable {names:List (List Nat)}{bA:List (List Bool)}
theorem E9 (f:Nat->Bool)(t:Nat):(List.range (t+1)).any f=((List.range t).any f||f t):=by rw[List.range_succ];simp
theorem FJ (f:Nat->Bool)(t:Nat):(List.range (t+1)).all f=((List.range t).all f&&f t):=by rw[List.range_succ];simp
theorem YI {s:Sy}(h:bM s=true)(t:Nat):hv names bA s t=fS s (fW names bA t s) ((subs s).map fun u=>hv names bA u t):=by
 cases s with
 |one w a =>
  cases w with
  |not=>cases h
  |before =>
   cases t with
   |zero=>simp [hv,fS,fW,eQ]
   |succ t=>simp [hv,fS,fW,lR]
  |once =>
   cases t with
   |zero=>simp [hv,fS,fW,eQ,subs]
   |succ t=>simp only[hv,fS,fW,lR,subs,List.map_cons];rw[E9];simp
  |sofar =>
   cases t with
   |zero=>simp [hv,fS,fW,eQ,subs]
   |succ t=>simp only[hv,fS,fW,lR,subs,List.map_cons];rw[FJ];simp
 |two w a b =>
  cases w with
  |since =>
   cases t with
   |zero=>simp [hv,fS,fW,eQ,subs,jX]
   |succ t =>
    simp only[hv,fS,fW,lR,subs,List.map_cons,jX]
    simp [Bool.and_comm]
  |_=>cases h
 |_=>cases h
theorem Cy {s:Sy}(h:bM s=false)(hl:fK s=false)(t:Nat):hv names bA s t=qJ s ((subs s).map fun u=>hv names bA u t):=by
 cases s with
 |one w a=>cases w<;>first|rfl|cases h
 |two w a b=>cases w<;>first|rfl|cases h
 |cE n=>cases hl
 |_=>rfl
end
end L3
end
section
namespace L3
open PySem
local macro_rules|`(tactic| walk_at"wd")=>`(tactic| (first|rw[if_pos (by decide +kernel)]|rw[if_neg (by decide +kernel)]))
def wA:Fn:=⟨2,2,[.iff (.cmp .eq (.v 0) (.c (.str (W "not")))) [.ret (.not_ (.ix (.v 1) (.c (.int 0))))] [],.iff (.cmp .eq (.v 0) (.c (.str (W "and")))) [.ret (.and_ (.ix (.v 1) (.c (.int 0))) (.ix (.v 1) (.c (.int 1))))] [],.iff (.cmp .eq (.v 0) (.c (.str (W "or")))) [.ret (.or_ (.ix (.v 1) (.c (.int 0))) (.ix (.v 1) (.c (.int 1))))] [],.iff (.cmp .eq (.v 0) (.c (.str (W "then")))) [.ret (.or_ (.ix (.v 1) (.c (.int 1))) (.not_ (.ix (.v 1) (.c (.int 0)))))] [],.iff (.cmp .eq (.v 0) (.c (.str (W "same")))) [.ret (.cmp .eq (.ix (.v 1) (.c (.int 0))) (.ix (.v 1) (.c (.int 1))))] [],.ret (.cmp .eq (.v 0) (.c (.str (W "yes"))))]⟩
def qT:Fn:=⟨3,3,[.iff (.cmp .eq (.v 0) (.c (.str (W "before")))) [.ret (.v 1)] [],.iff (.cmp .eq (.v 0) (.c (.str (W "once")))) [.ret (.or_ (.v 1) (.ix (.v 2) (.c (.int 0))))] [],.iff (.cmp .eq (.v 0) (.c (.str (W "sofar")))) [.ret (.and_ (.v 1) (.ix (.v 2) (.c (.int 0))))] [],.ret (.or_ (.ix (.v 2) (.c (.int 1))) (.and_ (.v 1) (.ix (.v 2) (.c (.int 0)))))]⟩
section
variable {G:Prog}{k i:Nat}{st:aB}{Q:VK}{E:XK}
theorem AN {q:Nat}{bs:List Bool}{j:Nat}{b:Bool}(hq:st q=some (.lst (bs.map .bl)))(hb:bs[j]? = some b):oG (.ref q) (.int (j:Nat)) st Q=Q (.bl b) st:=by
 have hj:j<bs.length:=by
  by_cases h:j<bs.length
  ·exact h
  ·rw[List.getElem?_eq_none (by omega)]at hb;cases hb
 rw[dZ hq,dY (by simpa using hj),List.getElem?_map,hb]
 rfl
theorem Y7 (h:G.fns i=some wA){s:Sy}(hp:bM s=false)(hl:fK s=false){q:Nat}{bs:List Bool}(hb:bs.length=(subs s).length)(hq:st q=some (.lst (bs.map .bl)))(hQ:Q (.bl (qJ s bs)) st):aM G (k+1) i [.str (wd s),.ref q] st Q E:=by
 rw[aT h]
 simp only[wA,start]
 refine⟨rfl,?_⟩
 cases s with
 |yes =>
  simp only[wd]
  iterate 5 (walk_at"st"; walk_at"wd"; rw[aF])
  walk_at"st"
  have e:(W "yes" == W "yes")=true:=by decide +kernel
  rw[e]
  exact hQ
 |no =>
  simp only[wd]
  iterate 5 (walk_at"st"; walk_at"wd"; rw[aF])
  walk_at"st"
  have e:(W "no" == W "yes")=false:=by decide +kernel
  rw[e]
  exact hQ
 |cE n=>cases hl
 |one w a =>
  cases w with
  |not =>
   simp only[wd,c1]
   match bs,hb,hq,hQ with
   |[b],_,hq,hQ =>
    have i0:=fun(Q:VK)=>AN (st:=st) (Q:=Q) (j:=0) hq rfl
    simp only[Int.natCast_zero]at i0
    walk_at"st"; walk_at"wd"
    walk_at"st"
    rw[i0]
    walk_at"ex"
    exact hQ
  |_=>cases hp
 |two w a c =>
  match bs,hb,hq,hQ with
  |[b,b'],_,hq,hQ =>
   have i0:=fun(Q:VK)=>AN (st:=st) (Q:=Q) (j:=0) hq rfl
   have i1:=fun(Q:VK)=>AN (st:=st) (Q:=Q) (j:=1) hq rfl
   simp only[Int.natCast_zero]at i0
   have e1:((1:Nat):Int)=1:=rfl
   rw[e1]at i1
   cases w with
   |and =>
    simp only[wd,c2]
    iterate 1 (walk_at"st"; walk_at"wd"; rw[aF])
    walk_at"st"; walk_at"wd"
    walk_at"st"
    rw[i0]
    walk_at"ex"
    cases b with
    |false=>simpa [qJ]using hQ
    |true=>simp only[if_true];rw[i1];simpa [qJ]using hQ
   |or =>
    simp only[wd,c2]
    iterate 2 (walk_at"st"; walk_at"wd"; rw[aF])
    walk_at"st"; walk_at"wd"
    walk_at"st"
    rw[i0]
    walk_at"ex"
    cases b with
    |true=>simpa [qJ]using hQ
    |false=>simp only[Bool.false_eq_true,if_false];rw[i1];simpa [qJ]using hQ
   |bE =>
    simp only[wd,c2]
    iterate 3 (walk_at"st"; walk_at"wd"; rw[aF])
    walk_at"st"; walk_at"wd"
    walk_at"st"
    rw[i1]
    walk_at"ex"
    cases b' with
    |true=>simpa [qJ]using hQ
    |false=>simp only[Bool.false_eq_true,if_false];walk_at"ex"; rw[i0];walk_at"ex"; simpa [qJ]using hQ
   |same =>
    simp only[wd,c2]
    iterate 4 (walk_at"st"; walk_at"wd"; rw[aF])
    walk_at"st"; walk_at"wd"
    walk_at"st"
    rw[i0]
    rw[i1]
    walk_at"ex"
    exact hQ
   |since=>cases hp
theorem YA (h:G.fns i=some qT){s:Sy}(hp:bM s=true){q:Nat}{m:Bool}{bs:List Bool}(hb:bs.length=(subs s).length)(hq:st q=some (.lst (bs.map .bl)))(hQ:Q (.bl (fS s m bs)) st):aM G (k+1) i [.str (wd s),.bl m,.ref q] st Q E:=by
 rw[aT h]
 simp only[qT,start]
 refine⟨rfl,?_⟩
 cases s with
 |one w a =>
  match bs,hb,hq,hQ with
  |[b],_,hq,hQ =>
   have i0:=fun(Q:VK)=>AN (st:=st) (Q:=Q) (j:=0) hq rfl
   simp only[Int.natCast_zero]at i0
   cases w with
   |not=>cases hp
   |before =>
    simp only[wd,c1]
    walk_at"st"; walk_at"wd"
    walk_at"st"
    exact hQ
   |once =>
    simp only[wd,c1]
    iterate 1 (walk_at"st"; walk_at"wd"; rw[aF])
    walk_at"st"; walk_at"wd"
    walk_at"st"
    cases m with
    |true=>simpa [fS]using hQ
    |false=>simp only[Bool.false_eq_true,if_false];rw[i0];simpa [fS]using hQ
   |sofar =>
    simp only[wd,c1]
    iterate 2 (walk_at"st"; walk_at"wd"; rw[aF])
    walk_at"st"; walk_at"wd"
    walk_at"st"
    cases m with
    |false=>simpa [fS]using hQ
    |true=>simp only[if_true];rw[i0];simpa [fS]using hQ
 |two w a c =>
  match bs,hb,hq,hQ with
  |[b,b'],_,hq,hQ =>
   have i0:=fun(Q:VK)=>AN (st:=st) (Q:=Q) (j:=0) hq rfl
   have i1:=fun(Q:VK)=>AN (st:=st) (Q:=Q) (j:=1) hq rfl
   simp only[Int.natCast_zero]at i0
   have e1:((1:Nat):Int)=1:=rfl
   rw[e1]at i1
   cases w with
   |since =>
    simp only[wd,c2]
    iterate 3 (walk_at"st"; walk_at"wd"; rw[aF])
    walk_at"st"
    rw[i1]
    walk_at"ex"
    cases b' with
    |true=>simpa [fS]using hQ
    |false =>
     simp only[Bool.false_eq_true,if_false]
     cases m with
     |false=>simpa [fS]using hQ
     |true=>simp only[if_true];rw[i0];simpa [fS]using hQ
   |_=>cases hp
 |_=>cases hp
end
end L3
end
section
namespace L3
open PySem
mutual
theorem OQ {st:aB}:∀(a b:D),bI a=true->bT st a b=bU a b
 |.non,b,_=>by cases b<;>simp only[bT,bU]
 |.bl _,b,_=>by cases b<;>simp only[bT,bU]
 |.int _,b,_=>by cases b<;>simp only[bT,bU]
 |.str _,b,_=>by cases b<;>simp only[bT,bU]
 |.tup as,b,h=>by
  cases b with
  |tup bs=>simp only[bT,bU];exact VM as bs (by simpa [bI]using h)
  |_=>simp only[bT,bU]
 |.ref _,_,h=>by simp [bI]at h
 |.dB _ _,_,h=>by simp [bI]at h
 |.bP _,_,h=>by simp [bI]at h
 |.exc _,_,h=>by simp [bI]at h
theorem VM {st:aB}:∀(as bs:List D),bN as=true->jO st as bs=fP as bs
 |[],[],_=>rfl
 |[],_::_,_=>rfl
 |_::_,[],_=>rfl
 |a::as,b::bs,h=>by
  simp only[bN,Bool.and_eq_true]at h
  simp only[jO,fP]
  rw[OQ a b h.1,VM as bs h.2]
end
theorem MB (s t:Sy):bU (toD s) (toD t)=decide (s=t):=by rw[<-OQ (st:=fun _=>none) _ _ (mK s)];exact rA s t
theorem KN (x:Sy)(f:List Sy):((f.map toD).any fun d=>bU d (toD x))=f.contains x:=by
 rw[<-EX (st:=fun _=>none),List.any_map,List.any_map]
 congr 1
 funext y
 simp only[Function.comp]
 rw[OQ _ _ (mK y)]
theorem AL:∀ s:Sy,kJ (toD s)=true
 |.yes=>rfl
 |.no=>rfl
 |.cE n=>rfl
 |.one w s=>by simp only[toD,kJ,kL,AL s,Bool.and_self]
 |.two w s t=>by simp only[toD,kJ,kL,AL s,AL t,Bool.and_self]
theorem pH {s:Sy}(h:aK s<=8):keyed (toD s):=by
 have h1:=AL s
 have h2:=qY s
 obtain⟨r,e⟩:=kX s
 rw[e]at h1 h2 ⊢
 simp only[kJ]at h1
 simp only[cL]at h2
 exact⟨h1,by omega⟩
theorem zE {st:aB}{n:List Nat}:∀{names:List (List Nat)},n∈names->findD st (.str n) (names.map .str)=some (names.idxOf n)
 |[],h=>by cases h
 |m::r,h=>by
  simp only[List.map_cons,findD,iM]
  by_cases e:m=n
  ·subst e;simp [List.idxOf_cons]
  ·rw[if_neg (by simpa using e),zE (by simpa [Ne.symm e]using h)]
   rw[List.idxOf_cons,beq_eq_false_iff_ne.mpr e];rfl
theorem FR {st:aB}{s:Sy}:∀{ps:List Sy},s∈ps->findD st (toD s) (ps.map toD)=some (ps.idxOf s)
 |[],h=>by cases h
 |m::r,h=>by
  simp only[List.map_cons,findD,rA]
  by_cases e:m=s
  ·subst e;simp [List.idxOf_cons]
  ·rw[if_neg (by simpa using e),FR (by simpa [Ne.symm e]using h)]
   rw[List.idxOf_cons,beq_eq_false_iff_ne.mpr e];rfl
def jY (names:List (List Nat))(aI:List Sy):Sy->D
 |.cE n=>.int (names.idxOf n:Nat)
 |s=>if bM s then .int (aI.idxOf s:Nat)else .non
def lA (aI:List Sy):Sy->Prop
 |.one w s=>(p1 w=true->Sy.one w s∈aI)/\lA aI s
 |.two w s t=>(p2 w=true->Sy.two w s t∈aI)/\lA aI s/\lA aI t
 |_=>True
structure Good (names:List (List Nat))(aI:List Sy)(s:Sy):Prop where
 ov:over names s
 dp:aK s<=8
 pp:lA aI s
theorem Good.subs {names:List (List Nat)}{aI:List Sy}{s t:Sy}(h:Good names aI s)(ht:t∈subs s):Good names aI t:=by
 have hd:=CK ht
 have h0:=h.dp
 cases s with
 |one w a =>
 simp only[L3.subs,List.mem_singleton]at ht;subst ht
 exact⟨h.ov,by omega,h.pp.2⟩
 |two w a b =>
 simp only[L3.subs,List.mem_cons,List.not_mem_nil,or_false]at ht
 rcases ht with rfl|rfl
 ·exact⟨h.ov.1,by omega,h.pp.2.1⟩
 ·exact⟨h.ov.2,by omega,h.pp.2.2⟩
 |_=>cases ht
theorem Good.mem {names:List (List Nat)}{aI:List Sy}{s:Sy}(h:Good names aI s)(hp:bM s=true):s∈aI:=by
 cases s with
 |one w a=>exact h.pp.1 hp
 |two w a b=>exact h.pp.1 hp
 |_=>cases hp
def Jf (st:aB)(lr:Nat)(names:List (List Nat))(aI R:List Sy)(j:Nat)(s:Sy)(d:D):Prop:=∃(q:Nat)(is:List Nat),d=.tup [.str (wd s),jY names aI s,.ref q]/\q≠lr/\st q=some (.lst (is.map fun i=>.int (i:Nat)))/\is.length=(subs s).length /\
 ∀(m i:Nat)(t:Sy),is[m]? = some i->(subs s)[m]? = some t->i<j/\R[i]? = some t
def Ct (st:aB)(lr:Nat)(names:List (List Nat))(aI R:List Sy)(rows:List D):Prop:=rows.length=R.length/\∀ j s d,R[j]? = some s->rows[j]? = some d->Jf st lr names aI R j s d
def zI (n:Nat):List D:=(List.range n).map fun i=>.int (i:Nat)
def pM (names:List (List Nat))(lp lr ld:Nat):List (List Nat×D):=[(W "names", .tup (names.map .str)),(W "pieces", .ref lp),(W "rows", .ref lr),(W "row_of", .ref ld)]
structure iO (st:aB)(p lp lr ld:Nat)(names:List (List Nat))(aI R:List Sy)(xs:List (List Nat×D)):Prop where
 ins:st p=some (.ins (W "Table") (pM names lp lr ld++xs))
 pc:st lp=some (.lst (aI.map toD))
 rows:∃ rows,st lr=some (.lst rows)/\Ct st lr names aI R rows
 tab:st ld=some (.tab (R.map toD) (zI R.length))
 ne:lp≠lr
 nd:R.Nodup
 gd:∀ s∈R,Good names aI s
 len:R.length<=5000
 pd:∀ s∈aI,aK s<=60
theorem SE {names:List (List Nat)}{lp lr ld:Nat}{xs:List (List Nat×D)}:bY (pM names lp lr ld++xs) (W "names")=some (.tup (names.map .str)):=by
 simp only[pM,List.cons_append,bY];rw[if_pos True.intro]
theorem yT {names:List (List Nat)}{lp lr ld:Nat}{xs:List (List Nat×D)}:bY (pM names lp lr ld++xs) (W "pieces")=some (.ref lp):=by
 simp only[pM,List.cons_append,bY];rw[if_neg (by decide +kernel),if_pos True.intro]
theorem E2 {names:List (List Nat)}{lp lr ld:Nat}{xs:List (List Nat×D)}:bY (pM names lp lr ld++xs) (W "rows")=some (.ref lr):=by
 simp only[pM,List.cons_append,bY];rw[if_neg (by decide +kernel),if_neg (by decide +kernel),if_pos True.intro]
theorem oK {names:List (List Nat)}{lp lr ld:Nat}{xs:List (List Nat×D)}:bY (pM names lp lr ld++xs) (W "row_of")=some (.ref ld):=by
 simp only[pM,List.cons_append,bY];rw[if_neg (by decide +kernel),if_neg (by decide +kernel),if_neg (by decide +kernel),if_pos True.intro]
theorem lK {names:List (List Nat)}{lp lr ld:Nat}{xs:List (List Nat×D)}{f:List Nat}(h1:W "names" ≠ f)(h2:W "pieces" ≠ f)(h3:W "rows" ≠ f)(h4:W "row_of" ≠ f):bY (pM names lp lr ld++xs) f=bY xs f:=by
 simp only[pM,List.cons_append,List.nil_append,bY];rw[if_neg h1,if_neg h2,if_neg h3,if_neg h4]
theorem iO.keep {st aA:aB}{p lp lr ld:Nat}{names:List (List Nat)}{aI R:List Sy}{xs:List (List Nat×D)}(T:iO st p lp lr ld names aI R xs)(h:Ext st aA):iO aA p lp lr ld names aI R xs:=by
 obtain⟨rows,r1,r2,r3⟩:=T.rows
 refine⟨h _ _ T.ins,h _ _ T.pc,⟨rows,h _ _ r1,r2,fun j s d e1 e2=>?_⟩,h _ _ T.tab,T.ne,T.nd,T.gd,T.len,T.pd⟩
 obtain⟨q,is,a1,a2,a3,a4⟩:=r3 j s d e1 e2
 exact⟨q,is,a1,a2,h _ _ a3,a4⟩
theorem ID {s:Sy}:∀{R:List Sy}{vs:List D}{j:Nat}{d:D},R.Nodup->R[j]? = some s->vs[j]? = some d->vs.length=R.length->mB (R.map toD) vs (toD s)=some d
 |[],_,_,_,_,h,_,_=>by simp at h
 |x::R,[],_,_,_,_,_,h=>by simp at h
 |x::R,v::vs,0,d,nd,h,hv,hl=>by
  simp at h hv
  subst h hv
  simp only[List.map_cons,mB,MB,decide_true,if_true]
 |x::R,v::vs,j+1,d,nd,h,hv,hl=>by
  simp at h hv hl
  have hx:x≠s:=fun e=>by subst e;exact(List.nodup_cons.mp nd).1 (List.mem_of_getElem? h)
  simp only[List.map_cons,mB,MB]
  rw[if_neg (by simpa using hx)]
  exact ID (List.nodup_cons.mp nd).2 h hv hl
theorem YL (n:Nat):(zI n).length=n:=by simp [zI]
theorem ZA {n j:Nat}(h:j<n):(zI n)[j]? = some (.int (j:Nat)):=by simp [zI,h]
theorem iO.look {st:aB}{p lp lr ld:Nat}{names:List (List Nat)}{aI R:List Sy}{xs:List (List Nat×D)}(T:iO st p lp lr ld names aI R xs){s:Sy}{j:Nat}(h:R[j]? = some s):mB (R.map toD) (zI R.length) (toD s)=some (.int (j:Nat)):=by
 have hj:j<R.length:=by
  by_cases q:j<R.length
  ·exact q
  ·rw[List.getElem?_eq_none (by omega)]at h;cases h
 exact ID T.nd h (ZA hj) (YL _)
end L3
end
section
namespace L3
open PySem
def pI:Fn:=⟨2,2,[.iff (.cmp .eq (.ix (.v 1) (.c (.int 0))) (.c (.str (W "lamp")))) [.ret (.bW .index (.fld (W "Table") (W "names") (.v 0)) [(.ix (.v 1) (.c (.int 1)))])] [],.iff (.cmp .in_ (.ix (.v 1) (.c (.int 0))) (.c vX)) [.ret (.bW .index (.fld (W "Table") (W "pieces") (.v 0)) [(.v 1)])] [],.ret (.c .non)]⟩
def CN:Fn:=⟨2,2,[.iff (.cmp .eq (.ix (.v 1) (.c (.int 0))) (.c (.str (W "before")))) [.ret (.dix (.fld (W "Table") (W "row_of") (.v 0)) (.ix (.v 1) (.c (.int 1))))] [],.ret (.dix (.fld (W "Table") (W "row_of") (.v 0)) (.v 1))]⟩
def tN (iph inh:Nat):Fn:=⟨3,8,[.asg (.nm 3) (.lst []),.gQ (.tp [4,5,6]) none [(.fld (W "Table") (W "rows") (.v 0))] [.asg (.nm 7) (.comp 1 [3] [0] true none [(.v 6)] [] (.ix (.v 1) (.v 0))),.iff (.cmp .eq (.v 4) (.c (.str (W "lamp")))) [.ex (.bW .append (.v 3) [(.ix (.v 2) (.v 5))])] [.iff (.cmp .in_ (.v 4) (.c vX)) [.ex (.bW .append (.v 3) [(.call iph [(.v 4),(.ix (.v 1) (.v 5)),(.v 7)])])] [.ex (.bW .append (.v 3) [(.call inh [(.v 4),(.v 7)])])]]],.ret (.v 3)]⟩
def CP:Fn:=⟨2,2,[.ret (.bi .tuple [(.comp 1 [1] [0] true none [(.fld (W "Table") (W "remembered_rows") (.v 0))] [] (.ix (.v 1) (.v 0)))])]⟩
theorem fY {α:Type}(t:α->D){g:aB->Prop}{turn:D->(St->aB->Prop)->St->aB->Prop}{N:St->aB->Prop}(I:List α->St->aB->Prop)(hg:∀ xs σ st,I xs σ st->g st)
 (ht:∀ x r σ st (M:St->aB->Prop),I (x::r) σ st->(∀ σ' aA,I r σ' aA->M σ' aA)->turn (t x) M σ st)(hN:∀ σ st,I [] σ st->N σ st):∀(xs:List α)(σ:St)(st:aB),I xs σ st->rY g turn N (xs.map t) σ st
 |[],σ,st,h=>⟨hg _ _ _ h,hN _ _ h⟩
 |x::xs,σ,st,h=>⟨hg _ _ _ h,ht x xs σ st _ h fun σ' aA h'=>fY t I hg ht hN xs σ' aA h'⟩
theorem BO {names:List (List Nat)}{aI:List Sy}{s:Sy}(hl:fK s=false)(hp:bM s=true):jY names aI s=.int (aI.idxOf s:Nat):=by
 unfold jY
 split
 ·simp [fK]at hl
 ·rw[if_pos hp]
theorem NZ {names:List (List Nat)}{aI:List Sy}{s:Sy}(hl:fK s=false)(hp:bM s=false):jY names aI s=.non:=by
 unfold jY
 split
 ·simp [fK]at hl
 ·rw[hp];rfl
section
variable {G:Prog}{k i iph inh:Nat}{st:aB}{Q:VK}{E:XK}{p lp lr ld:Nat}{names:List (List Nat)}{aI R:List Sy}{xs:List (List Nat×D)}
theorem QE (h:G.fns i=some pI)(tins:st p=some (.ins (W "Table") (pM names lp lr ld++xs)))(tpc:st lp=some (.lst (aI.map toD)))(tpd:∀ s∈aI,aK s<=60){s:Sy}(g:Good names aI s)(hQ:Q (jY names aI s) st):aM G (k+1) i [.ref p,toD s] st Q E:=by
 rw[aT h]
 simp only[pI,start]
 refine⟨rfl,?_⟩
 obtain⟨r,er⟩:=kX s
 cases hl:fK s with
 |true =>
  cases s with
  |cE n =>
   simp only[toD]
   walk_at"st"
   rw[if_pos (by decide +kernel)]
   walk_at"st"
   rw[cW tins SE]
   walk_at"ex"
   rw[pS,vR,rK,vR]
   refine⟨True.intro,xN,kI st names,?_⟩
   rw[zE g.ov,bB]
   exact hQ
  |_=>cases hl
 |false =>
  have h1:(wd s==W "lamp")=false:=by rw[EY];exact hl
  have eP:∀ st:aB,(List.any (lJ.map .str) fun d=>bT st d (.str (wd s)))=bM s:=fun st=>(sO (wd s) lJ).trans (A2 s)
  rw[er]
  walk_at"st"
  rw[if_neg (by rw[h1];exact Bool.false_ne_true),aF]
  walk_at"st"
  simp only[vX]
  walk_at"ex"
  refine⟨(lX lJ).s,?_⟩
  rw[eP st]
  cases hp:bM s with
  |true =>
   simp only[if_true]
   walk_at"st"
   rw[cW tins yT]
   walk_at"ex"
   rw[pS,oN,aE tpc,rK,oN,aE tpc,<-er]
   refine⟨True.intro,zN (by have:=g.dp;omega),wX tpd,?_⟩
   rw[FR (g.mem hp),bB]
   have e:jY names aI s=.int (aI.idxOf s:Nat):=BO hl hp
   rw[e]at hQ
   exact hQ
  |false =>
   simp only[Bool.false_eq_true,if_false,aF]
   walk_at"st"
   have e:jY names aI s=.non:=NZ hl hp
   rw[e]at hQ
   exact hQ
theorem FN (s:Sy)(hp:bM s=true):(wd s==W "before")=true/\(∃ a,s=.one .before a)∨(wd s==W "before")=false/\lR s=s:=by
 cases s with
 |one w a=>cases w<;>first|exact .inl ⟨by simp only[wd,c1];decide +kernel,a,rfl⟩|exact .inr ⟨by simp only[wd,c1];decide +kernel,rfl⟩|cases hp
 |two w a b=>cases w<;>first|exact .inr ⟨by simp only[wd,c2];decide +kernel,rfl⟩|cases hp
 |_=>cases hp
theorem Bj (h:G.fns i=some CN)(T:iO st p lp lr ld names aI R xs){s:Sy}(hp:bM s=true)(hd:aK s<=8){j:Nat}(hj:R[j]? = some (lR s))(hQ:Q (.int (j:Nat)) st):aM G (k+1) i [.ref p,toD s] st Q E:=by
 rw[aT h]
 simp only[CN,start]
 refine⟨rfl,?_⟩
 rcases FN s hp with⟨e1,a,rfl⟩|⟨e1,e2⟩
 ·simp only[toD,c1]
  walk_at"st"
  rw[if_pos (by decide +kernel)]
  walk_at"st"
  rw[cW T.ins oK]
  walk_at"ex"
  simp only[lR]at hj
  simp only[aK]at hd
  rw[EC T.tab (pH (by omega)) (T.look hj)]
  exact hQ
 ·obtain⟨r,er⟩:=kX s
  rw[er]
  walk_at"st"
  rw[if_neg (by rw[e1];exact Bool.false_ne_true),aF]
  walk_at"st"
  rw[cW T.ins oK]
  walk_at"ex"
  rw[e2]at hj
  rw[<-er,EC T.tab (pH hd) (T.look hj)]
  exact hQ
theorem WR (h:G.fns i=some (tN iph inh))(hn:G.fns inh=some wA)(hpa:G.fns iph=some qT)(T:iO st p lp lr ld names aI R xs){mem set:List Bool}(V:Sy->Bool)
  (v1:∀ n∈names,set[names.idxOf n]? = some (V (.cE n)))(v2:∀ s∈aI,bM s=true->∃ m,mem[aI.idxOf s]? = some m/\V s=fS s m ((subs s).map V))(v3:∀ s,bM s=false->fK s=false->V s=qJ s ((subs s).map V))
  (hQ:∀ aA q,st q=none->Ext st aA->aA q=some (.lst (R.map fun s=>.bl (V s)))->Q (.ref q) aA):aM G (k+2) i [.ref p,.tup (mem.map .bl),.tup (set.map .bl)] st Q E:=by
 have hL:aZ=16777216:=rfl
 rw[aT h]
 simp only[tN,start]
 refine⟨rfl,?_⟩
 walk_at"st"
 refine bJ (by simp) fun q aC x1 hq hq1=>?_
 obtain⟨rows,r1,r2,r3⟩:=T.rows
 have T1:=T.keep x1
 walk_at"st"
 rw[cW T1.ins E2]
 rw[mM,aE (x1 _ _ r1)]
 have ez:rows=(R.zip rows).map Prod.snd:=by rw[List.map_snd_zip (by omega)]
 rw[ez]
 have qlr:q≠lr:=fun z=>by rw[z,r1]at hq;cases hq
 refine fY Prod.snd (I:=fun r σ aA=>∃ j o4 o5 o6 o7,r=(R.zip rows).drop j/\σ=[some (.ref p),some (.tup (mem.map .bl)),some (.tup (set.map .bl)),some (.ref q),o4,o5,o6,o7]/\bD [q] aC aA/\aA q=some (.lst ((R.take j).map fun s=>.bl (V s)))) (fun r σ aA ⟨j,_,_,_,_,_,_,k1,_⟩=>?_) (fun x r σ aA M ⟨j,o4,o5,o6,o7,e1,e2,k1,k2⟩ hM=>?_) (fun σ aA ⟨j,o4,o5,o6,o7,e1,e2,k1,k2⟩=>?_) _ _ _ ⟨0,none,none,none,none,rfl,rfl,.refl,by simpa using hq1⟩
 ·intro a ha
  simp only[List.mem_singleton]at ha
  subst ha
  rw[x1 _ _ r1]
  exact k1 _ _ (by simpa using qlr.symm) (x1 _ _ r1)
 ·-- a row
  have hz:j<(R.zip rows).length:=by
   by_cases z:j<(R.zip rows).length
   ·exact z
   ·rw[List.drop_eq_nil_of_le (by omega)]at e1;cases e1
  have hjR:j<R.length:=by rw[List.length_zip]at hz;omega
  have hjr:j<rows.length:=by rw[List.length_zip]at hz;omega
  rw[List.drop_eq_getElem_cons hz]at e1
  injection e1 with e3 e4
  have ex:x=(R[j],rows[j]):=by rw[e3];simp
  obtain⟨s,d⟩:=x
  injection ex with es ed
  have hs:R[j]? = some s:=by rw[List.getElem?_eq_getElem hjR,es]
  have hd:rows[j]? = some d:=by rw[List.getElem?_eq_getElem hjr,ed]
  obtain⟨qq,is,f1,f2,f3,f4,f5⟩:=r3 j s d hs hd
  have gs:=T.gd s (List.mem_of_getElem? hs)
  have hlR:=T.len
  subst e2
  have qqq:qq≠q:=fun z=>by rw[z,hq]at f3;cases f3
  have f3':aA qq=some (.lst (is.map fun i=>.int (i:Nat))):=k1 _ _ (by simpa using qqq) (x1 _ _ f3)
  have hsub:(subs s).length<=2:=by cases s<;>simp [subs]
  show kM false [4,5,6] d _ _
  rw[f1]
  walk_at"ex"
  walk_at"st"
  rw[aE f3']
  have hval:∀ i∈is,∃ t,R[i]? = some t/\i<j:=fun i hi=>by
   obtain⟨m,hm⟩:=List.mem_iff_getElem?.mp hi
   have hml:m<(subs s).length:=by
    have:m<is.length:=by
     by_cases z:m<is.length
     ·exact z
     ·rw[List.getElem?_eq_none (by omega)]at hm;cases hm
    omega
   obtain⟨a,b⟩:=f5 m i _ hm (List.getElem?_eq_getElem hml)
   exact⟨_,b,a⟩
  refine gH (fun i:Nat=>D.int (i:Nat)) (fun i=>.bl (V ((R[i]?).getD .yes))) is [] aA (fun aY y a ha=>?_) (fun i hi aY K y1 hK=>?_) (by simp only[List.length_nil];omega) fun aH y2=>?_
  ·simp only[List.mem_singleton]at ha
   subst ha
   rw[f3',y _ _ f3']
  ·obtain⟨t,ht,hij⟩:=hval i hi
   show oG _ _ aY _
   have hlen:i<((R.take j).map fun s=>D.bl (V s)).length:=by simp;omega
   rw[dZ (y1 _ _ k2),dY hlen,List.getElem?_map,List.getElem?_take,if_pos hij,ht]
   have:=hK aY .refl
   rw[ht]at this
   exact this
  rw[List.nil_append]
  have hparts:(is.map fun i=>D.bl (V ((R[i]?).getD .yes)))=((subs s).map V).map .bl:=by
   apply List.ext_getElem?
   intro m
   rw[List.getElem?_map,List.getElem?_map,List.getElem?_map]
   cases hm:is[m]? with
   |none =>
    have:is.length<=m:=by
     by_cases z:m<is.length
     ·rw[List.getElem?_eq_getElem z]at hm;cases hm
     ·omega
    rw[List.getElem?_eq_none (by omega)];rfl
   |some i =>
    have hml:m<(subs s).length:=by
     have:m<is.length:=by
      by_cases z:m<is.length
      ·exact z
      ·rw[List.getElem?_eq_none (by omega)]at hm;cases hm
     omega
    obtain⟨_,b⟩:=f5 m i _ hm (List.getElem?_eq_getElem hml)
    rw[List.getElem?_eq_getElem hml]
    simp only[Option.map_some]
    rw[b];rfl
  rw[hparts]
  refine bJ (by simp only[List.length_map];omega) fun pp aV y3 hpp qN=>?_
  walk_at"ex"
  have k3:aV q=some (.lst ((R.take j).map fun s=>.bl (V s))):=y3 _ _ (y2 _ _ k2)
  have kk3:bD [q] aC aV:=fun a o na e=>y3 _ _ (y2 _ _ (k1 a o na e))
  have fin:∀(σ':St),(∃ o4 o5 o6 o7,σ'=[some (.ref p),some (.tup (mem.map .bl)),some (.tup (set.map .bl)),some (.ref q),o4,o5,o6,o7])->∀ b,b=V s->M σ' (put aV q (.lst (((R.take j).map fun s=>.bl (V s))++[.bl b]))):=fun σ' ⟨o4,o5,o6,o7,e⟩ b hb=>by
   refine hM σ' _ ⟨j+1,o4,o5,o6,o7,e4,e,fun a o na e=>by rw[aJ (by simpa using na)];exact kk3 a o na e,?_⟩
   rw[aP,List.take_succ,hs,hb]
   simp
  have hlq:((R.take j).map fun s=>D.bl (V s)).length<aZ:=by simp;omega
  cases hl:fK s with
  |true =>
   cases s with
   |cE n =>
    simp only[wd]
    walk_at"st"
    rw[if_pos (by decide +kernel)]
    walk_at"st"
    rw[aE k3]
    refine⟨True.intro,?_⟩
    simp only[jY]
    have hv:=v1 n gs.ov
    have hlen:names.idxOf n<(set.map D.bl).length:=by
     rw[List.length_map]
     by_cases z:names.idxOf n<set.length
     ·exact z
     ·rw[List.getElem?_eq_none (by omega)]at hv;cases hv
    rw[kS,dY hlen,List.getElem?_map,hv,Option.map_some,bB,aE k3]
    refine⟨hlq,?_⟩
    simp only[aF]
    exact fin _ ⟨_,_,_,_,rfl⟩ _ rfl
   |_=>cases hl
  |false =>
   have h1:(wd s==W "lamp")=false:=by rw[EY];exact hl
   have eP:∀ st:aB,(List.any (lJ.map .str) fun d=>bT st d (.str (wd s)))=bM s:=fun st=>(sO (wd s) lJ).trans (A2 s)
   walk_at"st"
   rw[if_neg (by rw[h1];exact Bool.false_ne_true)]
   walk_at"st"
   simp only[vX]
   walk_at"ex"
   refine⟨(lX lJ).s,?_⟩
   rw[eP aV]
   cases hp:bM s with
   |true =>
    simp only[if_true]
    walk_at"st"
    rw[aE k3]
    refine⟨True.intro,?_⟩
    obtain⟨m,hm,hV⟩:=v2 s (gs.mem hp) hp
    have e:jY names aI s=.int (aI.idxOf s:Nat):=BO hl hp
    rw[e]
    have hlen:aI.idxOf s<(mem.map D.bl).length:=by
     rw[List.length_map]
     by_cases z:aI.idxOf s<mem.length
     ·exact z
     ·rw[List.getElem?_eq_none (by omega)]at hm;cases hm
    walk_at"ex"
    (try rw[kS])
    rw[dY hlen,List.getElem?_map,hm,Option.map_some,bB]
    refine YA hpa hp (by simp) qN ?_
    rw[aE k3]
    refine⟨hlq,?_⟩
    simp only[aF]
    exact fin _ ⟨_,_,_,_,rfl⟩ _ hV.symm
   |false =>
    simp only[Bool.false_eq_true,if_false]
    walk_at"st"
    rw[aE k3]
    refine⟨True.intro,?_⟩
    refine Y7 hn hp hl (by simp) qN ?_
    rw[aE k3]
    refine⟨hlq,?_⟩
    simp only[aF]
    exact fin _ ⟨_,_,_,_,rfl⟩ _ (v3 s hp hl).symm
 ·-- the end
  subst e2
  have hj:R.length<=j:=by
   have:(R.zip rows).length<=j:=by
    by_cases z:j<(R.zip rows).length
    ·rw[List.drop_eq_getElem_cons z]at e1;cases e1
    ·omega
   rw[List.length_zip]at this;omega
  rw[List.take_of_length_le hj]at k2
  walk_at"st"
  exact hQ aA q hq (fun a o e=>k1 a o (by intro z;simp only[List.mem_singleton]at z;rw[z,hq]at e;cases e) (x1 a o e)) k2
end
end L3
end
section
namespace L3
open PySem
def sD (ie iw ipo:Nat):Fn:=⟨2,4,[.iff (.din false (.v 1) (.fld (W "Table") (W "row_of") (.v 0))) [.ret (.c .non)] [],.gQ (.nm 2) none [(.call iw [(.v 1)])] [.ex (.mcl (W "Table") (W "enter") ie (.v 0) [(.v 2)])],.asg (.nm 3) (.comp 1 [0] [0] true none [(.call iw [(.v 1)])] [] (.dix (.fld (W "Table") (W "row_of") (.v 1)) (.v 0))),.asg (.dk (.fld (W "Table") (W "row_of") (.v 0)) (.v 1)) (.bi .len [(.fld (W "Table") (W "rows") (.v 0))]),.ex (.bW .append (.fld (W "Table") (W "rows") (.v 0)) [(.tup [(.ix (.v 1) (.c (.int 0))),(.mcl (W "Table") (W "place_of") ipo (.v 0) [(.v 1)]),(.v 3)])])]⟩
theorem iS {α:Type}{xs:List α}{j:Nat}{x:α}(h:xs[j]? = some x):j<xs.length:=by
 by_cases q:j<xs.length
 ·exact q
 ·rw[List.getElem?_eq_none (by omega)]at h;cases h
section
variable {G:Prog}{k i ie iw ipo:Nat}{st:aB}{Q:VK}{E:XK}{p lp lr ld lm:Nat}{names:List (List Nat)}{aI R:List Sy}{xs fs:List (List Nat×D)}
theorem Di (h:G.fns i=some CP)(ins:st p=some (.ins (W "Table") fs))(hf:bY fs (W "remembered_rows")=some (.ref lm)){js:List Nat}(hlm:st lm=some (.lst (js.map fun j=>.int (j:Nat)))){q:Nat}{V:Sy->Bool}(hq:st q=some (.lst (R.map fun s=>.bl (V s))))(hl:js.length=aI.length)(hl2:aI.length<=5000)
  (hj:∀(m j:Nat)(s:Sy),js[m]? = some j->aI[m]? = some s->R[j]? = some (lR s))(hQ:∀ aA,Ext st aA->Q (.tup (aI.map fun s=>.bl (V (lR s)))) aA):aM G (k+1) i [.ref p,.ref q] st Q E:=by
 have hL:aZ=16777216:=rfl
 rw[aT h]
 simp only[CP,start]
 refine⟨rfl,?_⟩
 walk_at"st"
 rw[cW ins hf,mM,aE hlm]
 refine gH (fun j:Nat=>D.int (j:Nat)) (fun j=>.bl (V ((R[j]?).getD .yes))) js [] st (fun aY y a ha=>?_) (fun j hjs aY K y1 hK=>?_) (by simp only[List.length_nil];omega) fun aH y2=>?_
 ·simp only[List.mem_singleton]at ha
  subst ha
  rw[hlm,y _ _ hlm]
 ·obtain⟨m,hm⟩:=List.mem_iff_getElem?.mp hjs
  have hml:m<aI.length:=by have:=iS hm;omega
  have ht:=hj m j _ hm (List.getElem?_eq_getElem hml)
  show oG _ _ aY _
  have hlen:j<(R.map fun s=>D.bl (V s)).length:=by simpa using iS ht
  rw[dZ (y1 _ _ hq),dY hlen,List.getElem?_map,ht]
  have:=hK aY .refl
  rw[ht]at this
  exact this
 rw[List.nil_append]
 have e:(js.map fun j=>D.bl (V ((R[j]?).getD .yes)))=aI.map fun s=>.bl (V (lR s)):=by
  apply List.ext_getElem?
  intro m
  rw[List.getElem?_map,List.getElem?_map]
  cases hm:js[m]? with
  |none =>
   have:js.length<=m:=by
    by_cases z:m<js.length
    ·rw[List.getElem?_eq_getElem z]at hm;cases hm
    ·omega
   rw[List.getElem?_eq_none (by omega)];rfl
  |some j =>
   have hml:m<aI.length:=by have:=iS hm;omega
   have ht:=hj m j _ hm (List.getElem?_eq_getElem hml)
   rw[List.getElem?_eq_getElem hml]
   simp only[Option.map_some]
   rw[ht];rfl
 rw[e]
 refine bJ (by simp only[List.length_map];omega) fun pp aV y3 hpp qN=>?_
 walk_at"ex"
 rw[aE qN]
 refine⟨by simp only[List.length_map];omega,hQ aV (y2.trans y3)⟩
theorem TM (h:G.fns ie=some (sD ie iw ipo))(hw:G.fns iw=some iL)(hpo:G.fns ipo=some pI)(hxe:bY xs (W "enter")=none)(hxp:bY xs (W "place_of")=none):∀(n:Nat){s:Sy}{k:Nat}{st:aB}{Q:VK}{E:XK}{R:List Sy},aK s<=n->iO st p lp lr ld names aI R xs->Good names aI s->R.length+sz s<=5000 ->
  (∀ aA R',bD [lr,ld] st aA->iO aA p lp lr ld names aI R' xs->(∀ x∈R,x∈R')->s∈R'->(∀ x∈R',x∈R∨sz x<=sz s)->R'.length<=R.length+sz s->Q .non aA) ->
  aM G (k+n+2) ie [.ref p,toD s] st Q E:=by
 have hL:aZ=16777216:=rfl
 intro n
 induction n with
 |zero=>intro s k st Q E R hn;cases s<;>simp [aK]at hn
 |succ n ih =>
  intro s k st Q E R hn T g hlen hQ
  rw[aT h]
  simp only[sD,start]
  refine⟨rfl,?_⟩
  have kd:=pH g.dp
  walk_at"st"
  rw[cW T.ins oK,Bd T.tab kd,KN]
  (try walk_at"ex")
  cases hc:R.contains s with
  |true =>
   simp only[if_true]
   walk_at"st"
   have hs:s∈R:=by simpa using hc
   exact hQ st R .refl T (fun x hx=>hx) hs (fun x hx=>.inl hx) (by omega)
  |false =>
   have hs:s∉R:=by simpa using hc
   simp only[Bool.false_eq_true,if_false,aF]
   walk_at"st"
   refine tL (k:=k+n+1) hw ?_
   walk_at"ex"
   have hss:=MS s
   have hsub:(subs s).length<=2:=by cases s<;>simp [subs]
   have hszL:∀(l:List Sy)(t:Sy),t∈l->sz t<=eJ l:=fun l=>by
    induction l with
    |nil=>intro t ht;cases ht
    |cons a l ihl =>
     intro t ht
     rw[iA]
     rcases List.mem_cons.mp ht with rfl|ht
     ·omega
     ·have:=ihl t ht;omega
   refine fY toD (I:=fun r σ aA=>∃ R1 o2 dn,subs s=dn++r/\σ=[some (.ref p),some (toD s),o2,none]/\bD [lr,ld] st aA/\iO aA p lp lr ld names aI R1 xs/\(∀ x∈R,x∈R1)/\(∀ t∈dn,t∈R1)/\(∀ x∈R1,x∈R∨sz x<sz s)/\R1.length<=R.length+eJ dn) (fun r σ aA hI a ha=>by cases ha) (fun x r σ aA M ⟨R1,o2,dn,e1,e2,k1,T1,a1,a2,a3,a4⟩ hM=>?_) (fun σ aA ⟨R1,o2,dn,e1,e2,k1,T1,a1,a2,a3,a4⟩=>?_) _ _ _ ⟨R,none,[],rfl,rfl,.refl,T,fun x hx=>hx,fun t ht=>(by cases ht),fun x hx=>.inl hx,by simp [eJ]⟩
   ·-- a part
    subst e2
    have hx:x∈subs s:=by rw[e1];simp
    have hxd:=CK hx
    have hdn:eJ dn+sz x<=eJ (subs s):=by rw[e1,iU,iA];omega
    walk_at"st"
    rw[kU T1.ins (by rw[lK (by decide +kernel) (by decide +kernel) (by decide +kernel) (by decide +kernel)];exact hxe)]
    refine⟨True.intro,?_⟩
    refine ih (k:=k) (by omega) T1 (g.subs hx) (by omega) fun aH R2 b1 b2 b3 b4 b5 b6=>?_
    rw[aF]
    refine hM _ aH ⟨R2,_,dn++[x],by simp [e1],rfl,k1.trans b1,b2,fun y hy=>b3 y (a1 y hy),fun t ht=>?_,fun y hy=>?_,?_⟩
    ·rcases List.mem_append.mp ht with ht|ht
     ·exact b3 t (a2 t ht)
     ·simp only[List.mem_singleton]at ht;subst ht;exact b4
    ·rcases b5 y hy with hy|hy
     ·exact a3 y hy
     ·exact .inr (by omega)
    ·rw[iU];simp only[iA];simp only[eJ,List.map_nil,List.sum_nil]at *;omega
   ·-- the saying itself
    subst e2
    rw[List.append_nil]at e1
    subst e1
    have hs1:s∉R1:=fun z=>by
     rcases a3 s z with z|z
     ·exact hs z
     ·omega
    walk_at"st"
    refine tL (k:=k+n+1) hw ?_
    walk_at"ex"
    have hidx:∀ t∈subs s,R1[R1.idxOf t]? = some t:=fun t ht=>by
     have hm:=a2 t ht
     have:=List.idxOf_lt_length_iff.mpr hm
     rw[List.getElem?_eq_getElem this]
     simp
    refine gH toD (fun t=>.int (R1.idxOf t:Nat)) _ [] aA (fun aY y a ha=>by cases ha) (fun t ht aY K y1 hK=>?_) (by simp only[List.length_nil];omega) fun aH y2=>?_
    ·have T'':=T1.keep y1
     show qF _ _ _ aY _
     rw[cW T''.ins oK]
     have gt:=g.subs ht
     show rV _ _ aY _
     rw[EC T''.tab (pH gt.dp) (T''.look (hidx t ht))]
     exact hK aY .refl
    rw[List.nil_append]
    refine bJ (by simp only[List.length_map];omega) fun q aV y3 hq hq3=>?_
    have T3:=T1.keep (y2.trans y3)
    have kk3:bD [lr,ld] st aV:=k1.trans (y2.trans y3).keep
    obtain⟨rows,r1,r2,r3⟩:=T3.rows
    walk_at"ex"
    walk_at"st"
    rw[cW T3.ins E2]
    rw[ET,cM r1]
    rw[cW T3.ins oK]
    have hnew:(((R1.map toD).any fun d=>bU d (toD s))=false):=by rw[KN];simpa using hs1
    have hl1:R1.length<5000:=by omega
    rw[Ff T3.tab kd hnew (by simp;omega)]
    generalize hst4:put aV ld (.tab (R1.map toD++[toD s]) (zI R1.length++[.int (rows.length:Nat)]))=cJ
    have lrld:lr≠ld:=fun z=>by rw[z,T3.tab]at r1;cases r1
    have pld:p≠ld:=fun z=>by have:=T3.ins;rw[z,T3.tab]at this;cases this
    have plr:p≠lr:=fun z=>by have:=T3.ins;rw[z,r1]at this;cases this
    have lpld:lp≠ld:=fun z=>by have:=T3.pc;rw[z,T3.tab]at this;cases this
    have ins4:cJ p=some (.ins (W "Table") (pM names lp lr ld++xs)):=by rw[<-hst4,aJ pld];exact T3.ins
    have lr4:cJ lr=some (.lst rows):=by rw[<-hst4,aJ lrld];exact r1
    have q4:cJ q=some (.lst ((subs s).map fun t=>.int (R1.idxOf t:Nat))):=by
     rw[<-hst4,aJ (fun z=>by rw[z,T3.tab]at hq3;cases hq3)];exact hq3
    have tab4:cJ ld=some (.tab ((R1++[s]).map toD) (zI (R1++[s]).length)):=by
     rw[<-hst4,aP,r2]
     simp [zI,List.range_succ]
    have qlr:q≠lr:=fun z=>by
     rw[z]at hq
     obtain⟨rows',r1',_⟩:=(T1.keep y2).rows
     rw[r1']at hq;cases hq
    walk_at"st"
    rw[cW ins4 E2,xD,aE lr4]
    refine⟨True.intro,?_⟩
    obtain⟨r,er⟩:=kX s
    rw[er]
    walk_at"ex"
    rw[<-er,kU ins4 (by rw[lK (by decide +kernel) (by decide +kernel) (by decide +kernel) (by decide +kernel)];exact hxp)]
    refine⟨True.intro,?_⟩
    have T4:iO (put cJ lr (.lst (rows++[.tup [.str (wd s),jY names aI s,.ref q]]))) p lp lr ld names aI (R1++[s]) xs:=by
     have keep4:∀ a o,a≠lr->a≠ld->aV a=some o->(put cJ lr (.lst (rows++[.tup [.str (wd s),jY names aI s,.ref q]]))) a=some o:=fun a o n1 n2 e=>by
      rw[aJ n1,<-hst4,aJ n2];exact e
     refine⟨keep4 _ _ plr pld T3.ins,keep4 _ _ T3.ne lpld T3.pc,⟨_,aP,by simp [r2],fun j t d ht hd=>?_⟩,?_,T3.ne,?_,?_,by simp;omega,T3.pd⟩
     ·by_cases hj:j<R1.length
      ·rw[List.getElem?_append_left hj]at ht
       rw[List.getElem?_append_left (by omega)]at hd
       obtain⟨q',is,c1,c2,c3,c4,c5⟩:=r3 j t d ht hd
       refine⟨q',is,c1,c2,keep4 _ _ c2 (fun z=>by rw[z,T3.tab]at c3;cases c3) c3,c4,fun m i' t' h1 h2=>?_⟩
       obtain⟨d1,d2⟩:=c5 m i' t' h1 h2
       exact⟨d1,by rw[List.getElem?_append_left (iS d2)];exact d2⟩
      ·have hj2:j=R1.length:=by have:=iS ht;simp at this;omega
       subst hj2
       rw[List.getElem?_append_right (Nat.le_refl _)]at ht
       rw[List.getElem?_append_right (by omega)]at hd
       simp at ht
       simp [r2]at hd
       subst ht hd
       refine⟨q,(subs s).map fun t=>R1.idxOf t,rfl,qlr,?_,by simp,fun m i' t' h1 h2=>?_⟩
       ·rw[aJ qlr,q4,List.map_map];rfl
       ·rw[List.getElem?_map,h2]at h1
        simp at h1
        subst h1
        have ht':=List.mem_of_getElem? h2
        have:=hidx t' ht'
        exact⟨iS this,by rw[List.getElem?_append_left (iS this)];exact this⟩
     ·rw[aJ lrld.symm];exact tab4
     ·rw[List.nodup_append]
      exact⟨T3.nd,by simp,fun a ha b hb=>by simp only[List.mem_singleton]at hb;subst hb;exact fun z=>hs1 (z▸ha)⟩
     ·intro t ht
      rcases List.mem_append.mp ht with ht|ht
      ·exact T3.gd t ht
      ·simp only[List.mem_singleton]at ht;subst ht;exact g
    refine QE (k:=k+n+1) hpo ins4 (by rw[<-hst4,aJ lpld];exact T3.pc) T3.pd g ?_
    rw[aE lr4]
    refine⟨by omega,?_⟩
    simp only[aF]
    refine hQ _ (R1++[s]) (fun a o na e=>?_) T4 (fun x hx=>by simp [a1 x hx]) (by simp) (fun x hx=>?_) (by simp;omega)
    ·simp only[List.mem_cons,List.not_mem_nil,or_false,not_or]at na
     rw[aJ na.1,<-hst4,aJ na.2]
     exact kk3 a o (by simp [na]) e
    ·rcases List.mem_append.mp hx with hx|hx
     ·rcases a3 x hx with hx|hx
      ·exact .inl hx
      ·exact .inr (by omega)
     ·simp only[List.mem_singleton]at hx;subst hx;exact .inr (Nat.le_refl _)
end
end L3
end
section
namespace L3
open PySem
def oR (iz ie irr:Nat):Fn:=⟨3,4,[.asg (.fl (W "Table") (W "names") (.v 0)) (.v 1),.asg (.fl (W "Table") (W "pieces") (.v 0)) (.call iz [(.v 2)]),.asg (.fl (W "Table") (W "rows") (.v 0)) (.lst []),.asg (.fl (W "Table") (W "row_of") (.v 0)) .dnew,.gQ (.nm 3) none [(.v 2)] [.ex (.mcl (W "Table") (W "enter") ie (.v 0) [(.v 3)])],.asg (.fl (W "Table") (W "first_memory") (.v 0)) (.bi .tuple [(.comp 1 [] [0] true none [(.fld (W "Table") (W "pieces") (.v 0))] [] (.cmp .eq (.ix (.v 0) (.c (.int 0))) (.c (.str (W "sofar")))))]),.asg (.fl (W "Table") (W "remembered_rows") (.v 0)) (.comp 1 [0] [0] true none [(.fld (W "Table") (W "pieces") (.v 0))] [] (.mcl (W "Table") (W "remembered_row") irr (.v 1) [(.v 0)]))]⟩
theorem LD {f:List Sy}{s x:Sy}(h:x∈f):x∈cZ f s:=by
 unfold cZ;split
 ·exact List.mem_append_left _ h
 ·exact h
theorem K5 {f:List Sy}{s:Sy}(h:bM s=true):s∈cZ f s:=by
 unfold cZ
 rw[h]
 cases hc:f.contains s with
 |true=>simpa using hc
 |false=>simp
theorem mY:∀(s:Sy){f:List Sy}{x:Sy},x∈f->x∈aI s f
 |.yes,_,_,h=>h
 |.no,_,_,h=>h
 |.cE _,_,_,h=>h
 |.one w s,_,_,h=>mY s (LD h)
 |.two w s t,_,_,h=>mY t (mY s (LD h))
theorem sG {f g:List Sy}(h:∀ x∈f,x∈g):∀ s:Sy,lA f s->lA g s
 |.yes,_=>trivial
 |.no,_=>trivial
 |.cE _,_=>trivial
 |.one w s,⟨a,b⟩=>⟨fun q=>h _ (a q),sG h s b⟩
 |.two w s t,⟨a,b,c⟩=>⟨fun q=>h _ (a q),sG h s b,sG h t c⟩
theorem CS:∀(s:Sy)(f:List Sy),lA (aI s f) s
 |.yes,_=>trivial
 |.no,_=>trivial
 |.cE _,_=>trivial
 |.one w s,f=>⟨fun q=>mY s (K5 q),CS s _⟩
 |.two w s t,f=>⟨fun q=>mY t (mY s (K5 q)),sG (fun x hx=>mY t hx) s (CS s _),CS t _⟩
theorem J5:∀(l:List Sy){f:List Sy}{x:Sy},x∈f->x∈bV l f
 |[],_,_,h=>h
 |s::l,_,_,h=>J5 l (mY s h)
theorem EO:∀(l:List Sy)(f:List Sy)(s:Sy),s∈l->lA (bV l f) s
 |[],_,_,h=>by cases h
 |a::l,f,s,h=>by
  rcases List.mem_cons.mp h with rfl|h
  ·exact sG (fun x hx=>J5 l hx) s (CS s f)
  ·exact EO l _ s h
theorem RT {R f:List Sy}{s:Sy}(hf:∀ x∈f,x∈R)(hs:s∈R):∀ x∈cZ f s,x∈R:=by
 unfold cZ;split
 ·intro x hx
  rcases List.mem_append.mp hx with hx|hx
  ·exact hf x hx
  ·simp only[List.mem_singleton]at hx;subst hx;exact hs
 ·exact hf
theorem HW {R:List Sy}(cl:∀ s∈R,∀ t∈subs s,t∈R):∀(s:Sy){f:List Sy},s∈R->(∀ x∈f,x∈R)->∀ x∈aI s f,x∈R
 |.yes,_,hs,hf=>hf
 |.no,_,hs,hf=>hf
 |.cE _,_,hs,hf=>hf
 |.one w s,f,hs,hf=>HW cl s (cl _ hs s (by simp [subs])) (RT hf hs)
 |.two w s t,f,hs,hf=>HW cl t (cl _ hs t (by simp [subs])) (HW cl s (cl _ hs s (by simp [subs])) (RT hf hs))
theorem QT {R:List Sy}(cl:∀ s∈R,∀ t∈subs s,t∈R):∀(l f:List Sy),(∀ s∈l,s∈R)->(∀ x∈f,x∈R)->∀ x∈bV l f,x∈R
 |[],_,_,hf=>hf
 |s::l,f,hl,hf=>QT cl l _ (fun t ht=>hl t (by simp [ht])) (HW cl s (hl s (by simp)) hf)
theorem FY {f:List Sy}{s:Sy}(hf:∀ x∈f,bM x=true):∀ x∈cZ f s,bM x=true:=by
 unfold cZ
 by_cases h:(bM s && !f.contains s)=true
 ·rw[if_pos h]
  simp only[Bool.and_eq_true]at h
  intro x hx
  rcases List.mem_append.mp hx with hx|hx
  ·exact hf x hx
  ·simp only[List.mem_singleton]at hx;subst hx;exact h.1
 ·rw[if_neg h];exact hf
theorem wH:∀(s:Sy){f:List Sy},(∀ x∈f,bM x=true)->∀ x∈aI s f,bM x=true
 |.yes,_,hf=>hf
 |.no,_,hf=>hf
 |.cE _,_,hf=>hf
 |.one w s,f,hf=>wH s (FY hf)
 |.two w s t,f,hf=>wH t (wH s (FY hf))
theorem zG:∀(l f:List Sy),(∀ x∈f,bM x=true)->∀ x∈bV l f,bM x=true
 |[],_,hf=>hf
 |s::l,f,hf=>zG l _ (wH s hf)
theorem xP:∀(l:List Sy){f:List Sy}{n:Nat},(∀ x∈f,aK x<=n)->(∀ x∈l,aK x<=n)->∀ x∈bV l f,aK x<=n
 |[],_,_,hf,_=>hf
 |s::l,f,n,hf,hl=>xP l (rB s hf (hl s (by simp))) fun x hx=>hl x (by simp [hx])
theorem KY (s:Sy):(wd s==W "sofar")=eQ s:=by
 cases s with
 |one w s=>cases w<;>(simp only[wd,eQ,c1];decide +kernel)
 |two w s t=>cases w<;>(simp only[wd,eQ,c2];decide +kernel)
 |_=>(simp only[wd,eQ];decide +kernel)
theorem hU {f:List Nat}{d:D}:∀{fs:List (List Nat×D)},bY fs f=none->rN f d fs=fs++[(f,d)]
 |[],_=>rfl
 |(g,x)::r,h=>by
  simp only[bY]at h
  by_cases q:g=f
  ·rw[if_pos q]at h;cases h
  ·rw[if_neg q]at h
   simp only[rN,if_neg q,hU h,List.cons_append]
theorem iO.closed {st:aB}{p lp lr ld:Nat}{names:List (List Nat)}{aI R:List Sy}{xs:List (List Nat×D)}(T:iO st p lp lr ld names aI R xs):∀ s∈R,∀ t∈subs s,t∈R:=by
 intro s hs t ht
 obtain⟨rows,_,r2,r3⟩:=T.rows
 obtain⟨j,hj⟩:=List.mem_iff_getElem?.mp hs
 have hjr:j<rows.length:=by have:=iS hj;omega
 obtain⟨q,is,_,_,_,c4,c5⟩:=r3 j s _ hj (List.getElem?_eq_getElem hjr)
 obtain⟨m,hm⟩:=List.mem_iff_getElem?.mp ht
 have hmi:m<is.length:=by have:=iS hm;omega
 exact List.mem_of_getElem? (c5 m _ t (List.getElem?_eq_getElem hmi) hm).2
def P4 (aI:List Sy)(lm:Nat):List (List Nat×D):=[(W "first_memory", .tup (aI.map fun s=>.bl (eQ s))),(W "remembered_rows", .ref lm)]
section
variable {G:Prog}{k i ie iw ipo iz irr iti:Nat}{st:aB}{Q:VK}{E:XK}{p l:Nat}{names:List (List Nat)}{ss:List Sy}
structure Table (st:aB)(p:Nat)(names:List (List Nat))(aI R:List Sy):Prop where
 h:∃(lp lr ld lm:Nat)(js:List Nat),iO st p lp lr ld names aI R (P4 aI lm)/\st lm=some (.lst (js.map fun(j:Nat)=>.int (j:Nat)))/\js.length=aI.length/\(∀(m j:Nat)(s:Sy),js[m]? = some j->aI[m]? = some s->R[j]? = some (lR s))/\(∀ s∈aI,bM s=true)
theorem L7 (h:G.fns iti=some (oR iz ie irr))(hz:G.fns iz=some (lG iw))(he:G.fns ie=some (sD ie iw ipo))(hw:G.fns iw=some iL)(hpo:G.fns ipo=some pI)(hrr:G.fns irr=some CN)(hp:st p=some (.ins (W "Table") []))(hl:st l=some (.lst (ss.map toD)))
  (ho:∀ s∈ss,over names s/\aK s<=8)(hs:eJ ss<=5000)(kF:(bV ss []).length<=5000)(hQ:∀ aA R,bD [p] st aA->Table aA p names (bV ss []) R->(∀ s∈ss,s∈R)->Q .non aA):aM G (k+12) iti [.ref p,.tup (names.map .str),.ref l] st Q E:=by
 have hL:aZ=16777216:=rfl
 rw[aT h]
 simp only[oR,start]
 refine⟨rfl,?_⟩
 have pl:p≠l:=fun z=>by rw[z,hl]at hp;cases hp
 walk_at"st"
 rw[mZ hp (by simp)]
 have e1:rN (W "names") (.tup (names.map .str)) []=[(W "names", .tup (names.map .str))]:=rfl
 rw[e1]
 generalize hst1:put st p (.ins (W "Table") [(W "names", .tup (names.map .str))])=aC
 have p1:aC p=some (.ins (W "Table") [(W "names", .tup (names.map .str))]):=by rw[<-hst1,aP]
 have k1:bD [p] st aC:=by rw[<-hst1];exact bD.put (by simp)
 have l1:aC l=some (.lst (ss.map toD)):=k1 _ _ (by simpa using pl.symm) hl
 walk_at"st"
 refine zS (k:=k+9) hz hw l1 (fun x hx=>by have:=(ho x hx).2;omega) (by omega) fun lp aH x2 lp2=>?_
 walk_at"ex"
 rw[mZ (x2 _ _ p1) (by simp),hU (by simp only[bY];rw[if_neg (by decide +kernel)])]
 generalize hst3:put aH p _=aV
 have p3:aV p=some (.ins (W "Table") ([(W "names", .tup (names.map .str))]++[(W "pieces", .ref lp)])):=by rw[<-hst3,aP]
 have k3:bD [p] st aV:=k1.trans (x2.keep.trans (by rw[<-hst3];exact bD.put (by simp)))
 have plp:p≠lp:=fun z=>by rw[<-z,x2 _ _ p1]at lp2;cases lp2
 have lp3:aV lp=some (.lst ((bV ss []).map toD)):=by rw[<-hst3,aJ plp.symm];exact lp2
 walk_at"st"
 refine bJ (by decide) fun lr cJ x4 hlr lr4=>?_
 walk_at"ex"
 rw[mZ (x4 _ _ p3) (by simp),hU (by simp only[List.cons_append,List.nil_append,bY];rw[if_neg (by decide +kernel),if_neg (by decide +kernel)])]
 generalize hst5:put cJ p _=cR
 have plr:p≠lr:=fun z=>by rw[<-z,p3]at hlr;cases hlr
 have lplr:lp≠lr:=fun z=>by rw[<-z,lp3]at hlr;cases hlr
 have llr:l≠lr:=fun z=>by rw[<-z,k3 _ _ (by simpa using pl.symm) hl]at hlr;cases hlr
 have p5:cR p=some (.ins (W "Table") ([(W "names", .tup (names.map .str))]++[(W "pieces", .ref lp)]++[(W "rows", .ref lr)])):=by rw[<-hst5,aP]
 have k5:bD [p] st cR:=k3.trans (x4.keep.trans (by rw[<-hst5];exact bD.put (by simp)))
 have lp5:cR lp=some (.lst ((bV ss []).map toD)):=by rw[<-hst5,aJ plp.symm];exact x4 _ _ lp3
 have lr5:cR lr=some (.lst []):=by rw[<-hst5,aJ plr.symm];exact lr4
 walk_at"st"
 intro ld hld
 generalize hst6:put cR ld (.tab [] [])=fL
 have x6:Ext cR fL:=by rw[<-hst6];exact Ext.new hld
 have ld6:fL ld=some (.tab [] []):=by rw[<-hst6,aP]
 rw[mZ (x6 _ _ p5) (by simp),hU (by simp only[List.cons_append,List.nil_append,bY];rw[if_neg (by decide +kernel),if_neg (by decide +kernel),if_neg (by decide +kernel)])]
 generalize hst7:put fL p _=pX
 have pld:p≠ld:=fun z=>by rw[<-z,p5]at hld;cases hld
 have lld:l≠ld:=fun z=>by rw[<-z,k5 _ _ (by simpa using pl.symm) hl]at hld;cases hld
 have p7:pX p=some (.ins (W "Table") (pM names lp lr ld++[])):=by rw[<-hst7,aP];rfl
 have k7:bD [p] st pX:=k5.trans (x6.keep.trans (by rw[<-hst7];exact bD.put (by simp)))
 have o7:∀ a o,a≠p->cR a=some o->pX a=some o:=fun a o na e=>by rw[<-hst7,aJ na];exact x6 _ _ e
 have pd:∀ s∈bV ss [],aK s<=60:=fun s eS=>xP ss (n:=60) (by simp) (fun x hx=>by have:=(ho x hx).2;omega) s eS
 have T7:iO pX p lp lr ld names (bV ss []) [] []:=⟨p7,o7 _ _ plp.symm lp5,⟨[],o7 _ _ plr.symm lr5,rfl,fun j s d e=>by simp at e⟩,by rw[<-hst7,aJ pld.symm];exact ld6,lplr,List.nodup_nil,fun s eS=>(by cases eS),by simp,pd⟩
 have l7:pX l=some (.lst (ss.map toD)):=k7 _ _ (by simpa using pl.symm) hl
 have hszL:∀(l:List Sy)(t:Sy),t∈l->sz t<=eJ l:=fun l=>by
  induction l with
  |nil=>intro t ht;cases ht
  |cons a l ihl =>
   intro t ht
   rw[iA]
   rcases List.mem_cons.mp ht with rfl|ht
   ·omega
   ·have:=ihl t ht;omega
 walk_at"st"
 rw[aE l7]
 refine fY toD (I:=fun r σ aA=>∃ R1 o3 dn,ss=dn++r/\σ=[some (.ref p),some (.tup (names.map .str)),some (.ref l),o3]/\bD [lr,ld] pX aA/\iO aA p lp lr ld names (bV ss []) R1 []/\(∀ t∈dn,t∈R1)/\R1.length<=eJ dn) (fun r σ aA ⟨R1,o3,dn,e1,e2,k1,T1,a2,a4⟩=>?_) (fun x r σ aA M ⟨R1,o3,dn,e1,e2,k1,T1,a2,a4⟩ hM=>?_) (fun σ aA ⟨R1,o3,dn,e1,e2,k1,T1,a2,a4⟩=>?_) _ _ _ ⟨[],none,[],rfl,rfl,.refl,T7,fun t ht=>(by cases ht),by simp [eJ]⟩
 ·intro a ha
  simp only[List.mem_singleton]at ha
  subst ha
  rw[l7,k1 _ _ (by simp [llr,lld]) l7]
 ·-- a saying
  subst e2
  have hx:x∈ss:=by rw[e1];simp
  have hdn:eJ dn+sz x<=eJ ss:=by rw[e1,iU,iA];omega
  walk_at"st"
  rw[kU T1.ins (by rw[lK (by decide +kernel) (by decide +kernel) (by decide +kernel) (by decide +kernel)];rfl)]
  refine⟨True.intro,?_⟩
  refine TM (k:=k+1) he hw hpo rfl rfl 8 (ho x hx).2 T1 ⟨(ho x hx).1,(ho x hx).2,EO ss [] x hx⟩ (by omega) fun aH R2 b1 b2 b3 b4 b5 b6=>?_
  rw[aF]
  refine hM _ aH ⟨R2,_,dn++[x],by simp [e1],rfl,k1.trans b1,b2,fun t ht=>?_,?_⟩
  ·rcases List.mem_append.mp ht with ht|ht
   ·exact b3 t (a2 t ht)
   ·simp only[List.mem_singleton]at ht;subst ht;exact b4
  ·rw[iU];simp only[iA];simp only[eJ,List.map_nil,List.sum_nil]at *;omega
 ·-- behind them
  subst e2
  rw[List.append_nil]at e1
  have qM:∀ s∈ss,s∈R1:=fun s eS=>a2 s (by rw[<-e1];exact eS)
  have kk:bD [p,lr,ld] st aA:=(k7.mono (by simp)).trans (k1.mono (by simp))
  walk_at"st"
  rw[cW T1.ins yT,mM,aE T1.pc]
  refine gH toD (fun s=>.bl (eQ s)) (bV ss []) [] aA (fun aY y a ha=>?_) (fun t ht aY K y1 hK=>?_) (by simp only[List.length_nil];omega) fun aH y2=>?_
  ·simp only[List.mem_singleton]at ha
   subst ha
   rw[T1.pc,y _ _ T1.pc]
  ·obtain⟨r,er⟩:=kX t
   rw[er]
   walk_at"ex"
   rw[KY]
   exact hK aY .refl
  rw[List.nil_append]
  refine bJ (by simp only[List.length_map];omega) fun pp aV y3 hpp qN=>?_
  walk_at"ex"
  rw[aE qN]
  refine⟨by simp only[List.length_map];omega,?_⟩
  have T3:=T1.keep (y2.trans y3)
  rw[mZ T3.ins (by simp [pM]),hU (by rw[lK (by decide +kernel) (by decide +kernel) (by decide +kernel) (by decide +kernel)];rfl)]
  generalize hst8:put aV p _=gE
  have nep:∀ a o,a≠p->aV a=some o->gE a=some o:=fun a o na e=>by rw[<-hst8,aJ na];exact e
  have lpp:lp≠p:=plp.symm
  have T8:iO gE p lp lr ld names (bV ss []) R1 [(W "first_memory", .tup ((bV ss []).map fun s=>.bl (eQ s)))]:=by
   obtain⟨rows,r1,r2,r3⟩:=T3.rows
   refine⟨by rw[<-hst8,aP,List.append_assoc];rfl,nep _ _ lpp T3.pc,⟨rows,nep _ _ plr.symm r1,r2,fun j s d h1 h2=>?_⟩,nep _ _ pld.symm T3.tab,T3.ne,T3.nd,T3.gd,T3.len,T3.pd⟩
   obtain⟨q,is,c1,c2,c3,c4⟩:=r3 j s d h1 h2
   exact⟨q,is,c1,c2,nep _ _ (fun z=>by rw[z,T3.ins]at c3;cases c3) c3,c4⟩
  have cl:=T8.closed
  have hin:∀ s∈bV ss [],lR s∈R1:=fun s eS=>by
   have h1:=QT cl ss [] qM (fun x hx=>by cases hx) s eS
   cases s with
   |one w a =>
    cases w with
    |before=>exact cl _ h1 a (by simp [subs])
    |_=>exact h1
   |_=>exact h1
  have hpast:=zG ss [] (fun x hx=>by cases hx)
  walk_at"st"
  rw[cW T8.ins yT,mM,aE T8.pc]
  refine gH toD (fun s=>.int (R1.idxOf (lR s):Nat)) (bV ss []) [] gE (fun aY y a ha=>?_) (fun t ht aY K y1 hK=>?_) (by simp only[List.length_nil];omega) fun kD y9=>?_
  ·simp only[List.mem_singleton]at ha
   subst ha
   rw[T8.pc,y _ _ T8.pc]
  ·have T'':=T8.keep y1
   walk_at"ex"
   rw[kU T''.ins (by rw[lK (by decide +kernel) (by decide +kernel) (by decide +kernel) (by decide +kernel)];simp only[bY];rw[if_neg (by decide +kernel)])]
   refine⟨True.intro,?_⟩
   have dU:=List.idxOf_lt_length_iff.mpr (hin t ht)
   have hd8:aK t<=8:=xP ss (n:=8) (by simp) (fun x hx=>(ho x hx).2) t ht
   refine Bj (k:=k+10) hrr T'' (hpast t ht) hd8 (j:=R1.idxOf (lR t)) (by rw[List.getElem?_eq_getElem dU];simp) ?_
   exact hK aY .refl
  rw[List.nil_append]
  refine bJ (by simp only[List.length_map];omega) fun lm xQ y10 hlm hlm10=>?_
  walk_at"ex"
  have T10:=T8.keep (y9.trans y10)
  rw[mZ T10.ins (by simp [pM]),hU (by rw[lK (by decide +kernel) (by decide +kernel) (by decide +kernel) (by decide +kernel)];simp only[bY];rw[if_neg (by decide +kernel)])]
  simp only[aF]
  generalize hst11:put xQ p _=FK
  have nep2:∀ a o,a≠p->xQ a=some o->FK a=some o:=fun a o na e=>by rw[<-hst11,aJ na];exact e
  refine hQ FK R1 (fun a o na e=>?_) ⟨lp,lr,ld,lm,(bV ss []).map fun s=>R1.idxOf (lR s),?_,?_,by simp,fun m j s h1 h2=>?_,hpast⟩ qM
  ·simp only[List.mem_singleton]at na
   have h7:=k7 a o (by simpa using na) e
   have alr:a≠lr:=fun z=>by rw[<-z,k3 a o (by simpa using na) e]at hlr;cases hlr
   have ald:a≠ld:=fun z=>by rw[<-z,k5 a o (by simpa using na) e]at hld;cases hld
   exact nep2 a o na ((y9.trans y10) _ _ (nep a o na ((y2.trans y3) _ _ (k1 a o (by simp [alr,ald]) h7))))
  ·obtain⟨rows,r1,r2,r3⟩:=T10.rows
   refine⟨by rw[<-hst11,aP,List.append_assoc];rfl,nep2 _ _ lpp T10.pc,⟨rows,nep2 _ _ plr.symm r1,r2,fun j s d h1 h2=>?_⟩,nep2 _ _ pld.symm T10.tab,T10.ne,T10.nd,T10.gd,T10.len,T10.pd⟩
   obtain⟨q,is,c1,c2,c3,c4⟩:=r3 j s d h1 h2
   exact⟨q,is,c1,c2,nep2 _ _ (fun z=>by rw[z,T10.ins]at c3;cases c3) c3,c4⟩
  ·rw[nep2 _ _ (fun z=>by rw[z,(T8.keep y9).ins]at hlm;cases hlm) hlm10,List.map_map];rfl
  ·rw[List.getElem?_map,h2]at h1
   simp at h1
   subst h1
   have dU:=List.idxOf_lt_length_iff.mpr (hin s (List.mem_of_getElem? h2))
   rw[List.getElem?_eq_getElem dU];simp
end
end L3
end
section
namespace L3
open PySem
def yW (iti io:Nat):Fn:=⟨2,2,[.asg (.fl (W "Rules") (W "table") (.v 0)) (.mk (W "Table") iti [(.bin .add (.ix (.v 1) (.c (.int 0))) (.ix (.v 1) (.c (.int 1)))),(.call io [(.ix (.v 1) (.c (.int 2))),(.ix (.v 1) (.c (.int 3))),(.ix (.v 1) (.c (.int 4)))])]),.asg (.fl (W "Rules") (W "promise_rows") (.v 0)) (.comp 1 [0] [0] true none [(.ix (.v 1) (.c (.int 2)))] [] (.dix (.fld (W "Table") (W "row_of") (.fld (W "Rules") (W "table") (.v 1))) (.v 0))),.asg (.fl (W "Rules") (W "must_rows") (.v 0)) (.comp 1 [0] [0] true none [(.ix (.v 1) (.c (.int 3)))] [] (.dix (.fld (W "Table") (W "row_of") (.fld (W "Rules") (W "table") (.v 1))) (.v 0))),.asg (.fl (W "Rules") (W "priced_rows") (.v 0)) (.comp 1 [0] [0] true none [(.ix (.v 1) (.c (.int 4)))] [] (.tup [(.ix (.v 0) (.c (.int 0))),(.dix (.fld (W "Table") (W "row_of") (.fld (W "Rules") (W "table") (.v 1))) (.ix (.v 0) (.c (.int 1))))]))]⟩
def rM (ibk:Nat):Fn:=⟨1,1,[.iff (.not_ (.call ibk [(.v 0)])) [.rais 2 [(.c (.str (W "no book")))]] [],.ret (.v 0)]⟩
theorem Table.keep {st aA:aB}{p:Nat}{names:List (List Nat)}{aI R:List Sy}(T:Table st p names aI R)(h:Ext st aA):Table aA p names aI R:=by
 obtain⟨lp,lr,ld,lm,js,a,b,c⟩:=T.h
 exact⟨lp,lr,ld,lm,js,a.keep h,h _ _ b,c⟩
theorem Table.set {st:aB}{p r:Nat}{names:List (List Nat)}{aI R:List Sy}{fs:List (List Nat×D)}{o:MO}(T:Table st p names aI R)(hr:st r=some (.ins (W "Rules") fs)):Table (put st r o) p names aI R:=by
 obtain⟨lp,lr,ld,lm,js,a,b',c⟩:=T.h
 have nr:∀ a u,st a=some u->u≠.ins (W "Rules") fs->put st r o a=some u:=fun a u e n=>by rw[aJ (fun z=>n (by rw[z,hr]at e;cases e;rfl))];exact e
 have hc:W "Table" ≠ W "Rules":=by decide +kernel
 obtain⟨rows,r1,r2',r3⟩:=a.rows
 refine⟨lp,lr,ld,lm,js,⟨nr _ _ a.ins (fun z=>by injection z with z1;exact hc z1),nr _ _ a.pc (fun z=>nomatch z),⟨rows,nr _ _ r1 (fun z=>nomatch z),r2',fun j s d h1 h2=>?_⟩,nr _ _ a.tab (fun z=>nomatch z),a.ne,a.nd,a.gd,a.len,a.pd⟩,nr _ _ b' (fun z=>nomatch z),c⟩
 obtain⟨q,is,c1,c2,c3,c4⟩:=r3 j s d h1 h2
 exact⟨q,is,c1,c2,nr _ _ c3 (fun z=>nomatch z),c4⟩
theorem Table.row {st:aB}{p:Nat}{names:List (List Nat)}{aI R:List Sy}(T:Table st p names aI R):∃ ld fs,st p=some (.ins (W "Table") fs)/\bY fs (W "row_of")=some (.ref ld)/\st ld=some (.tab (R.map toD) (zI R.length))/\∀ s∈R,aK s<=8/\mB (R.map toD) (zI R.length) (toD s)=some (.int (R.idxOf s:Nat)):=by
 obtain⟨lp,lr,ld,lm,js,a,b,c⟩:=T.h
 refine⟨ld,_,a.ins,oK,a.tab,fun s hs=>⟨(a.gd s hs).dp,?_⟩⟩
 have dU:=List.idxOf_lt_length_iff.mpr hs
 exact a.look (by rw[List.getElem?_eq_getElem dU];simp)
def tJ (p l1 l2 l3:Nat):List (List Nat×D):=[(W "table", .ref p),(W "promise_rows", .ref l1),(W "must_rows", .ref l2),(W "priced_rows", .ref l3)]
structure iN (st:aB)(r p l1 l2 l3:Nat)(b:Bk)(R:List Sy):Prop where
 ins:st r=some (.ins (W "Rules") (tJ p l1 l2 l3))
 tab:Table st p b.names (bV b.says []) R
 pr:st l1=some (.lst (b.ps.map fun s=>.int (R.idxOf s:Nat)))
 mu:st l2=some (.lst (b.ms.map fun s=>.int (R.idxOf s:Nat)))
 wi:st l3=some (.lst (b.ws.map fun w=>.tup [.int w.1,.int (R.idxOf w.2:Nat)]))
 all:∀ s∈b.says,s∈R
theorem iN.keep {st aA:aB}{r p l1 l2 l3:Nat}{b:Bk}{R:List Sy}(T:iN st r p l1 l2 l3 b R)(h:Ext st aA):iN aA r p l1 l2 l3 b R:=⟨h _ _ T.ins,T.tab.keep h,h _ _ T.pr,h _ _ T.mu,h _ _ T.wi,T.all⟩
section
variable {G:Prog}{k i ie iw ipo iz irr iti io r:Nat}{st:aB}{Q:VK}{E:XK}{b:Bk}
theorem qZ (B:b.Ok):∀ s∈b.says,over b.names s/\aK s<=8:=by
 intro s hs
 simp only[Bk.says,List.mem_append,List.mem_map]at hs
 rcases hs with(hs|hs)|⟨w,hw,rfl⟩
 ·exact B.p2 s hs
 ·exact B.m2 s hs
 ·exact⟨(B.w3 w hw).2.2.1,(B.w3 w hw).2.2.2⟩
theorem UD (h:G.fns i=some (yW iti io))(ht:G.fns iti=some (oR iz ie irr))(hz:G.fns iz=some (lG iw))(he:G.fns ie=some (sD ie iw ipo))(hw:G.fns iw=some iL)(hpo:G.fns ipo=some pI)(hrr:G.fns irr=some CN)(hio:G.fns io=some uS)
  (B:b.Ok)(hs:eJ b.says<=5000)(kF:(bV b.says []).length<=5000)(hr:st r=some (.ins (W "Rules") []))(hQ:∀ aA p l1 l2 l3 R,bD [r] st aA->iN aA r p l1 l2 l3 b R->Q .non aA):aM G (k+13) i [.ref r,b.d] st Q E:=by
 have hL:aZ=16777216:=rfl
 have f2:=B.f2
 have g2:=B.g2
 have p1:=B.p1
 have m1:=B.m1
 have w2:=B.w2
 have e2:bY (tJ 0 0 0 0) (W "table")=some (.ref 0):=by simp only[tJ,bY];rw[if_pos True.intro]
 rw[aT h]
 simp only[yW,start]
 refine⟨rfl,?_⟩
 have hd:b.d=.tup [.tup (b.fs.map .str),.tup (b.gs.map .str),.tup (b.ps.map toD),.tup (b.ms.map toD),.tup (b.ws.map fun w=>.tup [.int w.1,toD w.2])]:=rfl
 rw[hd]
 walk_at"st"
 refine⟨by simp only[List.length_map];omega,?_⟩
 refine GK (k:=k+11) hio (by omega) (by omega) (by omega) fun l aC x1 l1=>?_
 intro p hp
 have l1':aC l=some (.lst (b.says.map toD)):=by rw[l1];simp [Bk.says]
 have lp:l≠p:=fun z=>by rw[z,hp]at l1;cases l1
 have rp:r≠p:=fun z=>by rw[<-z,x1 _ _ hr]at hp;cases hp
 have en:(b.fs.map D.str++b.gs.map D.str)=b.names.map .str:=by simp [Bk.names]
 rw[en]
 refine L7 (k:=k) ht hz he hw hpo hrr aP (by rw[aJ lp];exact l1') (qZ B) hs kF fun aH R k2 T2 qM=>⟨rfl,?_⟩
 have kk2:Ext aC aH:=fun a o e=>k2 a o (by intro z;simp only[List.mem_singleton]at z;rw[z,hp]at e;cases e) (AK hp e)
 have r2:aH r=some (.ins (W "Rules") []):=kk2 _ _ (x1 _ _ hr)
 walk_at"ex"
 rw[mZ r2 (by simp),hU rfl]
 generalize hst3:put aH r _=aV
 have T2':=T2
 have ne3:∀ a o,a≠r->aH a=some o->aV a=some o:=fun a o na e=>by rw[<-hst3,aJ na];exact e
 have T3:Table aV p b.names (bV b.says []) R:=by rw[<-hst3];exact T2.set r2
 have r3:aV r=some (.ins (W "Rules") ([]++[(W "table", .ref p)])):=by rw[<-hst3,aP]
 have kk3:bD [r] st aV:=x1.keep.trans (kk2.keep.trans (by rw[<-hst3];exact bD.put (by simp)))
 have look:∀{cJ:aB}{fs:List (List Nat×D)}{s:Sy}{Q':VK},Table cJ p b.names (bV b.says []) R->cJ r=some (.ins (W "Rules") fs)->bY fs (W "table")=some (.ref p)->s∈R->Q' (.int (R.idxOf s:Nat)) cJ ->
   qF (W "Rules") (W "table") (.ref r) cJ fun x aC=>qF (W "Table") (W "row_of") x aC fun y aH=>rV (toD s) y aH Q':=by
  intro cJ fs s Q' T4 r4 hf hsR hq
  obtain⟨ld,fs',a1,a2,a3,a4⟩:=T4.row
  rw[cW r4 hf,cW a1 a2,EC a3 (pH (a4 s hsR).1) (a4 s hsR).2]
  exact hq
 walk_at"st"
 refine gH toD (fun s=>.int (R.idxOf s:Nat)) b.ps [] aV (fun aY y a ha=>by cases ha) (fun t ht aY K y1 hK=>?_) (by simp only[List.length_nil];omega) fun cJ y4=>?_
 ·exact look (T3.keep y1) (y1 _ _ r3) (by simp only[List.nil_append,bY];rw[if_pos True.intro]) (qM t (by simp [Bk.says,ht])) (hK aY .refl)
 rw[List.nil_append]
 refine bJ (by simp only[List.length_map];omega) fun l1 cR y5 hl1 l15=>?_
 walk_at"ex"
 have y35:=y4.trans y5
 rw[mZ (y35 _ _ r3) (by simp),hU (by simp only[List.nil_append,bY];rw[if_neg (by decide +kernel)])]
 generalize hst6:put cR r _=fL
 have T6:Table fL p b.names (bV b.says []) R:=by rw[<-hst6];exact(T3.keep y35).set (y35 _ _ r3)
 have r6:fL r=some (.ins (W "Rules") ([]++[(W "table", .ref p)]++[(W "promise_rows", .ref l1)])):=by rw[<-hst6,aP]
 have n6:∀ a o,a≠r->cR a=some o->fL a=some o:=fun a o na e=>by rw[<-hst6,aJ na];exact e
 have l1r:l1≠r:=fun z=>by rw[z,y4 _ _ r3]at hl1;cases hl1
 have l16:=n6 _ _ l1r l15
 have kk6:bD [r] st fL:=kk3.trans (y35.keep.trans (by rw[<-hst6];exact bD.put (by simp)))
 walk_at"st"
 refine gH toD (fun s=>.int (R.idxOf s:Nat)) b.ms [] fL (fun aY y a ha=>by cases ha) (fun t ht aY K y1 hK=>?_) (by simp only[List.length_nil];omega) fun pX y7=>?_
 ·exact look (T6.keep y1) (y1 _ _ r6) (by simp only[List.nil_append,List.cons_append,bY];rw[if_pos True.intro]) (qM t (by simp [Bk.says,ht])) (hK aY .refl)
 rw[List.nil_append]
 refine bJ (by simp only[List.length_map];omega) fun l2 gE y8 hl2 l28=>?_
 walk_at"ex"
 have y68:=y7.trans y8
 rw[mZ (y68 _ _ r6) (by simp),hU (by simp only[List.nil_append,List.cons_append,bY];rw[if_neg (by decide +kernel),if_neg (by decide +kernel)])]
 generalize hst9:put gE r _=kD
 have T9:Table kD p b.names (bV b.says []) R:=by rw[<-hst9];exact(T6.keep y68).set (y68 _ _ r6)
 have r9:kD r=some (.ins (W "Rules") ([]++[(W "table", .ref p)]++[(W "promise_rows", .ref l1)]++[(W "must_rows", .ref l2)])):=by rw[<-hst9,aP]
 have n9:∀ a o,a≠r->gE a=some o->kD a=some o:=fun a o na e=>by rw[<-hst9,aJ na];exact e
 have l2r:l2≠r:=fun z=>by rw[z,y7 _ _ r6]at hl2;cases hl2
 have l29:=n9 _ _ l2r l28
 have l19:=n9 _ _ l1r (y68 _ _ l16)
 have kk9:bD [r] st kD:=kk6.trans (y68.keep.trans (by rw[<-hst9];exact bD.put (by simp)))
 walk_at"st"
 refine gH (fun w:Int×Sy=>D.tup [.int w.1,toD w.2]) (fun w=>.tup [.int w.1,.int (R.idxOf w.2:Nat)]) b.ws [] kD (fun aY y a ha=>by cases ha) (fun t ht aY K y1 hK=>?_) (by simp only[List.length_nil];omega) fun xQ y10=>?_
 ·refine look (s:=t.2) (T9.keep y1) (y1 _ _ r9) (by simp only[List.nil_append,List.cons_append,bY];rw[if_pos True.intro]) (qM t.2 (by simp only[Bk.says,List.mem_append,List.mem_map];exact .inr ⟨t,ht,rfl⟩)) ?_
  exact hK aY .refl
 rw[List.nil_append]
 refine bJ (by simp only[List.length_map];omega) fun l3 FK y11 hl3 l311=>?_
 walk_at"ex"
 have y911:=y10.trans y11
 rw[mZ (y911 _ _ r9) (by simp),hU (by simp only[List.nil_append,List.cons_append,bY];rw[if_neg (by decide +kernel),if_neg (by decide +kernel),if_neg (by decide +kernel)])]
 simp only[aF]
 generalize hst12:put FK r _=O4
 have n12:∀ a o,a≠r->FK a=some o->O4 a=some o:=fun a o na e=>by rw[<-hst12,aJ na];exact e
 have l3r:l3≠r:=fun z=>by rw[z,y10 _ _ r9]at hl3;cases hl3
 refine hQ O4 p l1 l2 l3 R (kk9.trans (y911.keep.trans (by rw[<-hst12];exact bD.put (by simp)))) ⟨by rw[<-hst12,aP];rfl,by rw[<-hst12];exact(T9.keep y911).set (y911 _ _ r9),n12 _ _ l1r (y911 _ _ l19),n12 _ _ l2r (y911 _ _ l29),n12 _ _ l3r l311,qM⟩
end
end L3
end
section
namespace L3
open PySem
def aN (bs:List Bool):D:=.tup (bs.map .bl)
def O0 (G:Prog)(ibk kb:Nat)(b:Bk):Prop:=∀(k:Nat)(st:aB)(Q:VK)(E:XK),(∀ aA,Ext st aA->Q (.bl true) aA)->aM G (k+kb) ibk [b.d] st Q E
section
variable {G:Prog}{k i ibk kb ich icp ist ie iw ipo iz irr iti io iri ima kQ iph inh:Nat}{st:aB}{Q:VK}{E:XK}{b:Bk}
theorem OK (h:G.fns ich=some (rM ibk))(hb:O0 G ibk kb b)(hQ:∀ aA,Ext st aA->Q b.d aA):aM G (k+kb+1) ich [b.d] st Q E:=by
 rw[aT h]
 simp only[rM,start]
 refine⟨rfl,?_⟩
 walk_at"st"
 refine hb k _ _ _ fun aC x1=>?_
 walk_at"ex"
 simp only[aF]
 walk_at"st"
 exact hQ aC x1
end
end L3
end
section
namespace L3
open PySem
local macro_rules|`(tactic| walk_at"wd")=>`(tactic| (first|rw[if_pos (by decide +kernel)]|rw[if_neg (by decide +kernel)]))
def nX (ih:Nat):Fn:=⟨4,8,[.asg (.nm 4) (.ix (.v 1) (.c (.int 0))),.iff (.cmp .eq (.v 4) (.c (.str (W "lamp")))) [.ret (.ix (.ix (.v 2) (.v 3)) (.bW .index (.v 0) [(.ix (.v 1) (.c (.int 1)))]))] [],.iff (.or_ (.cmp .eq (.v 4) (.c (.str (W "yes")))) (.cmp .eq (.v 4) (.c (.str (W "no"))))) [.ret (.cmp .eq (.v 4) (.c (.str (W "yes"))))] [],.iff (.cmp .eq (.v 4) (.c (.str (W "before")))) [.ret (.and_ (.cmp .gt (.v 3) (.c (.int 0))) (.call ih [(.v 0),(.ix (.v 1) (.c (.int 1))),(.v 2),(.bin .sub (.v 3) (.c (.int 1)))]))] [],.iff (.cmp .eq (.v 4) (.c (.str (W "once")))) [.ret (.cmp .ne (.comp 1 [0,1,2] [0] true (some .range) [(.bin .add (.v 3) (.c (.int 1)))] [(.call ih [(.v 1),(.ix (.v 2) (.c (.int 1))),(.v 3),(.v 0)])] (.v 0)) (.lst []))] [],.iff (.cmp .eq (.v 4) (.c (.str (W "sofar")))) [.ret (.cmp .eq (.comp 1 [0,1,2] [0] true (some .range) [(.bin .add (.v 3) (.c (.int 1)))] [(.not_ (.call ih [(.v 1),(.ix (.v 2) (.c (.int 1))),(.v 3),(.v 0)]))] (.v 0)) (.lst []))] [],.iff (.cmp .eq (.v 4) (.c (.str (W "since")))) [.gQ (.nm 5) (some .range) [(.v 3),(.neg (.c (.int 1))),(.neg (.c (.int 1)))] [.iff (.call ih [(.v 0),(.ix (.v 1) (.c (.int 2))),(.v 2),(.v 5)]) [.ret (.c (.bl true))] [],.iff (.not_ (.call ih [(.v 0),(.ix (.v 1) (.c (.int 1))),(.v 2),(.v 5)])) [.ret (.c (.bl false))] []],.ret (.c (.bl false))] [],.asg (.nm 6) (.call ih [(.v 0),(.ix (.v 1) (.c (.int 1))),(.v 2),(.v 3)]),.iff (.cmp .eq (.v 4) (.c (.str (W "not")))) [.ret (.not_ (.v 6))] [],.asg (.nm 7) (.call ih [(.v 0),(.ix (.v 1) (.c (.int 2))),(.v 2),(.v 3)]),.iff (.cmp .eq (.v 4) (.c (.str (W "and")))) [.ret (.and_ (.v 6) (.v 7))] [],.iff (.cmp .eq (.v 4) (.c (.str (W "or")))) [.ret (.or_ (.v 6) (.v 7))] [],.iff (.cmp .eq (.v 4) (.c (.str (W "then")))) [.ret (.or_ (.v 7) (.not_ (.v 6)))] [],.ret (.cmp .eq (.v 6) (.v 7))]⟩
theorem jN {α:Type}{g:aB->Prop}{turn:D->aB->(Option D->aB->Prop)->Prop}{R:List D->aB->Prop}(t:α->D)(f:α->Option D):∀(xs:List α)(acc:List D)(st:aB),
  (∀ aA,Ext st aA->g aA)->(∀ x∈xs,∀ aA (K:Option D->aB->Prop),Ext st aA->(∀ aY,Ext aA aY->K (f x) aY)->turn (t x) aA K) ->
  acc.length+xs.length<=aZ->(∀ aA,Ext st aA->R (acc++xs.filterMap f) aA)->jS g turn (xs.map t) acc st R
 |[],acc,st,hg,_,_,hR=>⟨hg st .refl,by simpa using hR st .refl⟩
 |x::xs,acc,st,hg,ht,hl,hR=>by
  simp only[List.length_cons]at hl
  refine⟨hg st .refl,by omega,ht x (by simp) st _ .refl fun aY h''=>?_⟩
  cases hf:f x with
  |none =>
   exact jN t f xs acc aY (fun aA h=>hg aA (h''.trans h)) (fun y hy aA K h=>ht y (by simp [hy]) aA K (h''.trans h)) (by omega) fun aA h=>by simpa [hf]using hR aA (h''.trans h)
  |some d =>
   exact jN t f xs (acc++[d]) aY (fun aA h=>hg aA (h''.trans h)) (fun y hy aA K h=>ht y (by simp [hy]) aA K (h''.trans h)) (by simp only[List.length_append,List.length_cons,List.length_nil];omega) fun aA h=>by simpa [hf]using hR aA (h''.trans h)
theorem DL:∀ is:List Int,bN (is.map .int)=true
 |[]=>rfl
 |i::is=>by simp only[List.map_cons,bN,bI,DL is,Bool.and_self]
theorem G5:∀ is:List Int,cK (is.map .int)=0
 |[]=>rfl
 |i::is=>by simp only[List.map_cons,cK,cL,G5 is];rfl
theorem iV {st:aB}{p:Nat}{is:List Int}(h:st p=some (.lst (is.map .int))):plainS st (.ref p):=by
 refine⟨?_,Nat.zero_le _⟩
 simp only[fI,h,KC,DL,G5];rfl
theorem eq_nil {st:aB}{p q:Nat}{xs:List D}(h:st p=some (.lst xs))(h':st q=some (.lst [])):bT st (.ref p) (.ref q)=xs.isEmpty:=by
 simp only[bT,h,h',C6]
 cases xs<;>rfl
theorem IX (f:Nat->Bool)(n:Nat):((List.range n).filterMap fun k=>if f k=true then some (D.int (k:Nat))else none)=(((List.range n).filter f).map fun(k:Nat)=>(k:Int)).map .int:=by
 generalize List.range n=l
 induction l with
 |nil=>rfl
 |cons a l ih =>
 by_cases h:f a=true
 ·simp only[List.filterMap_cons,h,if_true,List.filter_cons,List.map_cons,ih]
 ·simp only[List.filterMap_cons,h,List.filter_cons,ih];simp [h]
theorem GV (f:Nat->Bool)(l:List Nat):((((l.filter f).map fun(k:Nat)=>(k:Int)).map D.int).isEmpty) = !l.any f:=by
 induction l with
 |nil=>rfl
 |cons a l ih =>
 by_cases h:f a=true
 ·simp [h]
 ·simp only[List.filter_cons,h,List.any_cons];simp [h]at ih ⊢;exact ih
theorem lD (n:Nat):lQ 0 n=(List.range n).map fun k=>D.int (k:Nat):=by
 unfold lQ;congr 1;funext k;simp
section
variable {G:Prog}{ih l:Nat}{names:List (List Nat)}{bA:List (List Bool)}
theorem xC (h:G.fns ih=some (nX ih))(hp:∀ bs∈bA,bs.length=names.length)(dC:bA.length<=1000):∀(n:Nat){s:Sy}{k t:Nat}{st:aB}{Q:VK}{E:XK},aK s<=n->over names s->t<bA.length->st l=some (.lst (bA.map aN)) ->
  (∀ aA,Ext st aA->Q (.bl (hv names bA s t)) aA)->aM G (k+n) ih [.tup (names.map .str),toD s,.ref l,.int t] st Q E:=by
 have hL:aZ=16777216:=rfl
 intro n
 induction n with
 |zero=>intro s k t st Q E hn;cases s<;>simp [aK]at hn
 |succ n ih' =>
  intro s k t st Q E hn ho ht hl hQ
  rw[show k+(n+1)=(k+n)+1 from rfl,aT h]
  simp only[nX,start]
  refine⟨rfl,?_⟩
  cases s with
  |yes =>
   simp only[toD]
   walk_at"st"
   walk_at"st"; walk_at"wd"; rw[aF]
   walk_at"st"; walk_at"wd"
   have e:(W "yes" == W "yes")=true:=by decide +kernel
   simp only[e,if_true]
   walk_at"st"
   rw[e]
   exact hQ st .refl
  |no =>
   simp only[toD]
   walk_at"st"
   walk_at"st"; walk_at"wd"; rw[aF]
   walk_at"st"; walk_at"wd"
   have e:(W "no" == W "no")=true:=by decide +kernel
   simp only[e,if_true]
   walk_at"st"
   have e:(W "no" == W "yes")=false:=by decide +kernel
   rw[e]
   exact hQ st .refl
  |cE m =>
   simp only[toD]
   walk_at"st"
   walk_at"st"; walk_at"wd"
   walk_at"st"
   have hx:=List.getElem?_eq_getElem ht
   rw[dZ hl,dY (by simpa using ht),List.getElem?_map,hx,Option.map_some,bB]
   walk_at"ex"
   rw[pS,vR,rK,vR]
   refine⟨True.intro,xN,kI st names,?_⟩
   rw[zE ho,bB]
   have hlen:=hp _ (List.mem_of_getElem? hx)
   have dU:names.idxOf m<(bA[t]).length:=by rw[hlen];exact List.idxOf_lt_length_iff.mpr ho
   simp only[aN]
   rw[kS,dY (by simpa using dU),List.getElem?_map,List.getElem?_eq_getElem dU,Option.map_some,bB]
   have:=hQ st .refl
   simp only[hv,HQ,hx,Option.getD_some]at this
   rw[List.getElem?_eq_getElem dU]at this
   exact this
  |one w a =>
   simp only[aK]at hn
   have ho':over names a:=ho
   cases w with
   |not =>
    simp only[toD,c1]
    walk_at"st"
    walk_at"st"; walk_at"wd"; rw[aF]
    walk_at"st"; walk_at"wd"; walk_at"wd"; rw[aF]
    iterate 4 (walk_at"st"; walk_at"wd"; rw[aF])
    walk_at"st"
    refine ih' (s:=a) (by omega) ho' ht hl fun aC x1=>?_
    walk_at"st"; walk_at"wd"
    walk_at"st"
    exact hQ aC x1
   |before =>
    simp only[toD,c1]
    walk_at"st"
    walk_at"st"; walk_at"wd"; rw[aF]
    walk_at"st"; walk_at"wd"; walk_at"wd"; rw[aF]
    walk_at"st"; walk_at"wd"
    walk_at"st"
    by_cases h0:t=0
    ·subst h0
     rw[if_neg (by simp)]
     exact hQ st .refl
    ·rw[if_pos (by simp;omega),show(t:Int)-1=((t-1:Nat):Int)by omega]
     refine ih' (s:=a) (by omega) ho' (by omega) hl fun aC x1=>?_
     have:=hQ aC x1
     simp only[hv]at this
     rw[decide_eq_true (by omega),Bool.true_and]at this
     exact this
   |once =>
    simp only[toD,c1]
    walk_at"st"
    walk_at"st"; walk_at"wd"; rw[aF]
    walk_at"st"; walk_at"wd"; walk_at"wd"; rw[aF]
    walk_at"st"; walk_at"wd"; rw[aF]
    walk_at"st"; walk_at"wd"
    walk_at"st"
    refine⟨by unfold dX;omega,?_⟩
    rw[show((t:Int)+1).toNat=t+1 by omega,lD]
    refine jN (fun k:Nat=>D.int (k:Nat)) (fun k=>if hv names bA a k=true then some (D.int (k:Nat))else none) (List.range (t+1)) [] st (fun aA y a ha=>by cases ha) (fun j hj aA K y1 hK=>?_) (by simp;omega) fun aC y1=>?_
    ·refine ih' (s:=a) (by omega) ho' (by have:=List.mem_range.mp hj;omega) (y1 _ _ hl) fun aH x2=>?_
     have:=hK aH x2
     walk_at"ex"
     cases hb:hv names bA a j with
     |true=>simpa [hb]using this
     |false=>simpa [hb]using this
    rw[List.nil_append,IX]
    refine bJ (by simp only[List.length_map];have:=List.length_filter_le (hv names bA a) (List.range (t+1));simp at this;omega) fun p aH x2 hp' gU=>?_
    walk_at"ex"
    refine bJ (by simp) fun q aV x3 hq hq3=>?_
    walk_at"ex"
    refine⟨iV (x3 _ _ gU),iV (is:=[]) hq3,?_⟩
    rw[eq_nil (x3 _ _ gU) hq3,GV,Bool.not_not]
    exact hQ aV ((y1.trans x2).trans x3)
   |sofar =>
    simp only[toD,c1]
    walk_at"st"
    walk_at"st"; walk_at"wd"; rw[aF]
    walk_at"st"; walk_at"wd"; walk_at"wd"; rw[aF]
    iterate 2 (walk_at"st"; walk_at"wd"; rw[aF])
    walk_at"st"; walk_at"wd"
    walk_at"st"
    refine⟨by unfold dX;omega,?_⟩
    rw[show((t:Int)+1).toNat=t+1 by omega,lD]
    refine jN (fun k:Nat=>D.int (k:Nat)) (fun k=>if(!hv names bA a k)=true then some (D.int (k:Nat))else none) (List.range (t+1)) [] st (fun aA y a ha=>by cases ha) (fun j hj aA K y1 hK=>?_) (by simp;omega) fun aC y1=>?_
    ·refine ih' (s:=a) (by omega) ho' (by have:=List.mem_range.mp hj;omega) (y1 _ _ hl) fun aH x2=>?_
     have:=hK aH x2
     walk_at"ex"
     cases hb:hv names bA a j with
     |true=>simpa [hb]using this
     |false=>simpa [hb]using this
    rw[List.nil_append,IX (fun k=>!hv names bA a k)]
    refine bJ (by simp only[List.length_map];have:=List.length_filter_le (fun k=>!hv names bA a k) (List.range (t+1));simp at this ⊢;omega) fun p aH x2 hp' gU=>?_
    walk_at"ex"
    refine bJ (by simp) fun q aV x3 hq hq3=>?_
    walk_at"ex"
    refine⟨iV (x3 _ _ gU),iV (is:=[]) hq3,?_⟩
    rw[eq_nil (x3 _ _ gU) hq3,GV]
    have:=hQ aV ((y1.trans x2).trans x3)
    simp only[hv]at this
    have e:(!(List.range (t+1)).any fun k=>!hv names bA a k)=(List.range (t+1)).all (hv names bA a):=by
     rw[List.not_any_eq_all_not];simp
    rw[e]
    exact this
  |two w a b =>
   simp only[aK]at hn
   have ho1:over names a:=ho.1
   have ho2:over names b:=ho.2
   cases w with
   |since =>
    simp only[toD,c2]
    walk_at"st"
    walk_at"st"; walk_at"wd"; rw[aF]
    walk_at"st"; walk_at"wd"; walk_at"wd"; rw[aF]
    iterate 3 (walk_at"st"; walk_at"wd"; rw[aF])
    walk_at"st"; walk_at"wd"
    walk_at"st"
    rw[CZ]
    refine⟨rfl,by unfold dX;omega,by unfold dX;omega,?_⟩
    rw[show((t:Int) - -1).toNat=t+1 by omega]
    have er:oJ (t:Int) (t+1)=(List.range (t+1)).map fun k=>D.int ((t:Int)-(k:Nat)):=rfl
    rw[er]
    have hsf:∀ u,jX (hv names bA a) (hv names bA b) u=(hv names bA b u||(hv names bA a u&&(decide (0<u)&&jX (hv names bA a) (hv names bA b) (u-1)))):=fun u=>by
     cases u with
     |zero=>simp [jX]
     |succ u=>simp [jX]
    refine fY (fun k:Nat=>D.int ((t:Int)-(k:Nat))) (I:=fun rest σ aA=>∃ m o5,m<=t+1/\rest=(List.range (t+1)).drop m/\σ=[some (.tup (names.map .str)),some (.tup [.str (W "since"),toD a,toD b]),some (.ref l),some (.int (t:Nat)),some (.str (W "since")),o5,none,none]/\Ext st aA/\hv names bA (Sy.two .since a b) t=(decide (m<=t)&&jX (hv names bA a) (hv names bA b) (t-m))) (fun rest σ aA _ x hx=>?_) (fun x rest σ aA M ⟨m,o5,e0,e1,e2,x4,e5⟩ hM=>?_) (fun σ aA ⟨m,o5,e0,e1,e2,x4,e5⟩=>?_) _ _ _ ⟨0,none,Nat.zero_le _,rfl,rfl,.refl,by simp [hv]⟩
    ·cases hx
    ·subst e2
     have hm:m<(List.range (t+1)).length:=by
      by_cases z:m<(List.range (t+1)).length
      ·exact z
      ·rw[List.drop_eq_nil_of_le (by omega)]at e1;cases e1
     rw[List.drop_eq_getElem_cons hm]at e1
     injection e1 with e3 e4
     simp only[List.getElem_range]at e3
     subst e3
     simp only[List.length_range]at hm
     have eu:(t:Int)-(x:Nat)=((t-x:Nat):Int):=by omega
     rw[eu]
     rw[decide_eq_true (by omega),Bool.true_and,hsf]at e5
     walk_at"st"
     refine ih' (s:=b) (by omega) ho2 (by omega) (x4 _ _ hl) fun aC x1=>?_
     walk_at"ex"
     cases hb:hv names bA b (t-x)with
     |true =>
      simp only[if_true]
      walk_at"st"
      rw[hb,Bool.true_or]at e5
      have:=hQ aC (x4.trans x1)
      rw[e5]at this
      exact this
     |false =>
      simp only[Bool.false_eq_true,if_false,aF]
      walk_at"st"
      refine ih' (s:=a) (by omega) ho1 (by omega) (x1 _ _ (x4 _ _ hl)) fun aH x2=>?_
      walk_at"ex"
      cases ha:hv names bA a (t-x)with
      |false =>
       simp only[Bool.not_false,if_true]
       walk_at"st"
       rw[hb,ha]at e5
       have:=hQ aH ((x4.trans x1).trans x2)
       rw[e5]at this
       exact this
      |true =>
       simp only[Bool.not_true,Bool.false_eq_true,if_false,aF]
       rw[hb,ha,Bool.false_or,Bool.true_and]at e5
       refine hM _ aH ⟨x+1,_,by omega,e4,rfl,(x4.trans x1).trans x2,?_⟩
       rw[e5]
       have e7:t-x-1=t-(x+1):=by omega
       rw[e7]
       congr 1
       rw[decide_eq_decide]
       omega
    ·subst e2
     have hm:t+1<=m:=by
      by_cases z:m<(List.range (t+1)).length
      ·rw[List.drop_eq_getElem_cons z]at e1;cases e1
      ·simpa using z
     rw[decide_eq_false (by omega),Bool.false_and]at e5
     walk_at"st"
     have:=hQ aA x4
     rw[e5]at this
     exact this
   |and =>
    simp only[toD,c2]
    walk_at"st"
    walk_at"st"; walk_at"wd"; rw[aF]
    walk_at"st"; walk_at"wd"; walk_at"wd"; rw[aF]
    iterate 4 (walk_at"st"; walk_at"wd"; rw[aF])
    walk_at"st"
    refine ih' (s:=a) (by omega) ho1 ht hl fun aC x1=>?_
    walk_at"st"; walk_at"wd"; rw[aF]
    walk_at"st"
    refine ih' (s:=b) (by omega) ho2 ht (x1 _ _ hl) fun aH x2=>?_
    walk_at"st"; walk_at"wd"
    walk_at"st"
    have:=hQ aH (x1.trans x2)
    simp only[hv]at this
    cases ha:hv names bA a t with
    |false=>simpa [ha]using this
    |true=>simpa [ha]using this
   |or =>
    simp only[toD,c2]
    walk_at"st"
    walk_at"st"; walk_at"wd"; rw[aF]
    walk_at"st"; walk_at"wd"; walk_at"wd"; rw[aF]
    iterate 4 (walk_at"st"; walk_at"wd"; rw[aF])
    walk_at"st"
    refine ih' (s:=a) (by omega) ho1 ht hl fun aC x1=>?_
    walk_at"st"; walk_at"wd"; rw[aF]
    walk_at"st"
    refine ih' (s:=b) (by omega) ho2 ht (x1 _ _ hl) fun aH x2=>?_
    walk_at"st"; walk_at"wd"; rw[aF]
    walk_at"st"; walk_at"wd"
    walk_at"st"
    have:=hQ aH (x1.trans x2)
    simp only[hv]at this
    cases ha:hv names bA a t with
    |false=>simpa [ha]using this
    |true=>simpa [ha]using this
   |bE =>
    simp only[toD,c2]
    walk_at"st"
    walk_at"st"; walk_at"wd"; rw[aF]
    walk_at"st"; walk_at"wd"; walk_at"wd"; rw[aF]
    iterate 4 (walk_at"st"; walk_at"wd"; rw[aF])
    walk_at"st"
    refine ih' (s:=a) (by omega) ho1 ht hl fun aC x1=>?_
    walk_at"st"; walk_at"wd"; rw[aF]
    walk_at"st"
    refine ih' (s:=b) (by omega) ho2 ht (x1 _ _ hl) fun aH x2=>?_
    iterate 2 (walk_at"st"; walk_at"wd"; rw[aF])
    walk_at"st"; walk_at"wd"
    walk_at"st"
    have:=hQ aH (x1.trans x2)
    simp only[hv]at this
    cases hb:hv names bA b t with
    |false=>simpa [hb]using this
    |true=>simpa [hb]using this
   |same =>
    simp only[toD,c2]
    walk_at"st"
    walk_at"st"; walk_at"wd"; rw[aF]
    walk_at"st"; walk_at"wd"; walk_at"wd"; rw[aF]
    iterate 4 (walk_at"st"; walk_at"wd"; rw[aF])
    walk_at"st"
    refine ih' (s:=a) (by omega) ho1 ht hl fun aC x1=>?_
    walk_at"st"; walk_at"wd"; rw[aF]
    walk_at"st"
    refine ih' (s:=b) (by omega) ho2 ht (x1 _ _ hl) fun aH x2=>?_
    iterate 3 (walk_at"st"; walk_at"wd"; rw[aF])
    walk_at"st"
    exact hQ aH (x1.trans x2)
end
end L3
end
section
namespace L3
open PySem
def mU (ip:Nat):Fn:=⟨1,3,[.asg (.nm 1) (.lst []),.gQ (.nm 2) none [(.bin .add (.bin .add (.ix (.v 0) (.c (.int 2))) (.ix (.v 0) (.c (.int 3)))) (.bi .tuple [(.comp 1 [] [0] true none [(.ix (.v 0) (.c (.int 4)))] [] (.ix (.v 0) (.c (.int 1))))]))] [.ex (.call ip [(.v 2),(.v 1)])],.ret (.v 1)]⟩
def uM (ibp ih:Nat):Fn:=⟨2,5,[.asg (.nm 2) (.bin .add (.ix (.v 0) (.c (.int 0))) (.ix (.v 0) (.c (.int 1)))),.asg (.nm 3) (.lst []),.gQ (.nm 4) none [(.call ibp [(.v 0)])] [.iff (.cmp .eq (.v 1) (.lst [])) [.ex (.bW .append (.v 3) [(.cmp .eq (.ix (.v 4) (.c (.int 0))) (.c (.str (W "sofar"))))])] [.iff (.cmp .eq (.ix (.v 4) (.c (.int 0))) (.c (.str (W "before")))) [.ex (.bW .append (.v 3) [(.call ih [(.v 2),(.ix (.v 4) (.c (.int 1))),(.v 1),(.bin .sub (.bi .len [(.v 1)]) (.c (.int 1)))])])] [.ex (.bW .append (.v 3) [(.call ih [(.v 2),(.v 4),(.v 1),(.bin .sub (.bi .len [(.v 1)]) (.c (.int 1)))])])]]],.ret (.bi .tuple [(.v 3)])]⟩
theorem oP (bs:List Bool):bI (aN bs)=true:=by
 simp only[aN,bI]
 induction bs with
 |nil=>rfl
 |cons a l ih=>simp only[List.map_cons,bN,bI,ih,Bool.and_self]
theorem vJ (bs:List Bool):cL (aN bs)<=1:=by
 simp only[aN,cL]
 have:cK (bs.map D.bl)=0:=by
  induction bs with
  |nil=>rfl
  |cons a l ih=>simp only[List.map_cons,cK,cL,ih];rfl
 omega
theorem wY (bA:List (List Bool)):bN (bA.map aN)=true/\cK (bA.map aN)<=1:=by
 induction bA with
 |nil=>exact⟨rfl,by simp [cK]⟩
 |cons a l ih =>
 have:=vJ a
 simp only[List.map_cons,bN,oP,ih.1,Bool.and_self,cK,true_and]
 omega
theorem NQ {st:aB}{p:Nat}{bA:List (List Bool)}(h:st p=some (.lst (bA.map aN))):plainS st (.ref p):=by
 refine⟨?_,Nat.zero_le _⟩
 have q:=wY bA
 simp only[fI,h,KC,q.1,Bool.true_and,decide_eq_true_eq]
 have:(1:Nat)<=mL:=by decide
 omega
section
variable {G:Prog}{k i ip ibp ih:Nat}{st:aB}{Q:VK}{E:XK}{b:Bk}
theorem J7 (h:G.fns ibp=some (mU ip))(hp:G.fns ip=some (kH ip))(B:b.Ok)(hs:eJ b.says<=5000)(hQ:∀ p aA,st p=none->Ext st aA->aA p=some (.lst ((bV b.says []).map toD))->Q (.ref p) aA):aM G (k+9) ibp [b.d] st Q E:=by
 have hL:aZ=16777216:=rfl
 have p1:=B.p1
 have m1:=B.m1
 have w2:=B.w2
 rw[aT h]
 simp only[mU,start]
 refine⟨rfl,?_⟩
 have hd:b.d=.tup [.tup (b.fs.map .str),.tup (b.gs.map .str),.tup (b.ps.map toD),.tup (b.ms.map toD),.tup (b.ws.map fun w=>.tup [.int w.1,toD w.2])]:=rfl
 rw[hd]
 walk_at"st"
 refine bJ (by simp) fun p aC x1 hp' hp1=>?_
 walk_at"st"
 refine⟨by simp only[List.length_map];omega,?_⟩
 refine gH (fun w:Int×Sy=>D.tup [.int w.1,toD w.2]) (fun w=>toD w.2) b.ws [] aC (fun aA x a ha=>by cases ha) (fun x hx aA K y1 hK=>hK aA .refl) (by simp only[List.length_nil];omega) fun aH x2=>?_
 rw[List.nil_append]
 refine bJ (by simp only[List.length_map];omega) fun u aV x3 hu hu3=>?_
 walk_at"ex"
 rw[aE hu3]
 refine⟨by simp only[List.length_map];omega,?_⟩
 have e:((b.ps.map toD++b.ms.map toD)++b.ws.map fun w=>toD w.2)=b.says.map toD:=by simp [Bk.says,List.map_map,Function.comp]
 show _/\_
 refine⟨by simp only[List.length_map,List.length_append];omega,?_⟩
 rw[e]
 have p3:aV p=some (.lst []):=x3 _ _ (x2 _ _ hp1)
 have hs60:∀ x∈b.says,aK x<=60:=fun x hx=>by have:=(qZ B x hx).2;omega
 refine fY toD (I:=fun rest σ aA=>∃ dn o2,b.says=dn++rest/\σ=[some (.tup [.tup (b.fs.map .str),.tup (b.gs.map .str),.tup (b.ps.map toD),.tup (b.ms.map toD),.tup (b.ws.map fun w=>.tup [.int w.1,toD w.2])]),some (.ref p),o2]/\bD [p] aV aA/\aA p=some (.lst ((bV dn []).map toD))/\(∀ x∈bV dn [],aK x<=60)/\(bV dn []).length<=eJ dn) (fun rest σ aA _ x hx=>?_) (fun x rest σ aA M ⟨dn,o2,e1,e2,x4,e5,e6,e7⟩ hM=>?_) (fun σ aA ⟨dn,o2,e1,e2,x4,e5,e6,e7⟩=>?_) _ _ _ ⟨[],none,rfl,rfl,.refl,p3,by simp [bV],by simp [bV]⟩
 ·cases hx
 ·subst e2
  have hx:x∈b.says:=by rw[e1];simp
  have jE:eJ dn+sz x<=eJ b.says:=by rw[e1,iU,iA];omega
  have hd8:=(qZ B x hx).2
  walk_at"st"
  refine QG (k:=k) hp x 8 (by omega) (by omega) e6 (by omega) e5 fun cR k5 e8=>?_
  simp only[aF]
  have ea:bV (dn++[x]) []=aI x (bV dn []):=by rw[BJ];rfl
  refine hM _ cR ⟨dn++[x],_,by simp [e1],rfl,x4.trans k5,by rw[ea];exact e8,by rw[ea];exact rB x e6 (by omega),?_⟩
  rw[ea,iU]
  have:=vO x (bV dn [])
  simp only[iA];simp only[eJ,List.map_nil,List.sum_nil]at *;omega
 ·subst e2
  rw[List.append_nil]at e1
  walk_at"st"
  refine hQ p aA hp' (fun a o e=>x4 a o (fun z=>?_) (x3 _ _ (x2 _ _ (x1 _ _ e)))) (by rw[e1];exact e5)
  simp only[List.mem_singleton]at z
  rw[z,hp']at e;cases e
theorem D5 (h:G.fns i=some (uM ibp ih))(hbp:G.fns ibp=some (mU ip))(hp:G.fns ip=some (kH ip))(hh:G.fns ih=some (nX ih))(B:b.Ok)(hs:eJ b.says<=5000)(kF:(bV b.says []).length<=5000){l:Nat}{bA:List (List Bool)}(hl:st l=some (.lst (bA.map aN)))(dC:∀ bs∈bA,bs.length=b.names.length)(hpn:bA.length<=1000)
  (hov:∀ s∈bV b.says [],over b.names s/\aK s<=8)(hQ:∀ aA,Ext st aA->Q (.tup ((bV b.says []).map fun s=>.bl (fW b.names bA bA.length s))) aA):aM G (k+10) i [b.d,.ref l] st Q E:=by
 have hL:aZ=16777216:=rfl
 have f2:=B.f2
 have g2:=B.g2
 rw[aT h]
 simp only[uM,start]
 refine⟨rfl,?_⟩
 have hd:b.d=.tup [.tup (b.fs.map .str),.tup (b.gs.map .str),.tup (b.ps.map toD),.tup (b.ms.map toD),.tup (b.ws.map fun w=>.tup [.int w.1,toD w.2])]:=rfl
 have en:(b.fs.map D.str++b.gs.map D.str)=b.names.map .str:=by simp [Bk.names]
 rw[hd]
 walk_at"st"
 refine⟨by simp only[List.length_map];omega,?_⟩
 rw[en]
 walk_at"st"
 refine bJ (by simp) fun q aC x1 hq hq1=>?_
 walk_at"st"
 rw[<-hd]
 refine J7 (k:=k) hbp hp B hs fun lp aH LM x2 lp2=>?_
 walk_at"ex"
 rw[aE lp2]
 have hl2:=x2 _ _ (x1 _ _ hl)
 have q2:=x2 _ _ hq1
 have qlp:q≠lp:=fun z=>by rw[<-z,hq1]at LM;cases LM
 have ql:q≠l:=fun z=>by rw[z,hl]at hq;cases hq
 have hq0:∀ a o,st a=some o->a≠q:=fun a o e z=>by rw[z,hq]at e;cases e
 refine fY toD (I:=fun rest σ aA=>∃ dn o4,bV b.says []=dn++rest/\σ=[some b.d,some (.ref l),some (.tup (b.names.map .str)),some (.ref q),o4]/\bD [q] aH aA/\aA q=some (.lst (dn.map fun s=>.bl (fW b.names bA bA.length s)))) (fun rest σ aA ⟨dn,o4,e1,e2,x4,e5⟩=>?_) (fun x rest σ aA M ⟨dn,o4,e1,e2,x4,e5⟩ hM=>?_) (fun σ aA ⟨dn,o4,e1,e2,x4,e5⟩=>?_) _ _ _ ⟨[],none,rfl,rfl,.refl,q2⟩
 ·intro a ha
  simp only[List.mem_singleton]at ha
  subst ha
  rw[lp2,x4 _ _ (by simpa using qlp.symm) lp2]
 ·subst e2
  have hx:x∈bV b.says []:=by rw[e1];simp
  have hlen:dn.length<=5000:=by rw[e1]at kF;simp at kF;omega
  have hl4:aA l=some (.lst (bA.map aN)):=x4 _ _ (by simpa using ql.symm) hl2
  have fin:∀(cR:aB)(σ':St)(v:Bool),(∃ o4,σ'=[some b.d,some (.ref l),some (.tup (b.names.map .str)),some (.ref q),o4])->Ext aA cR->v=fW b.names bA bA.length x->(dn.map fun s=>D.bl (fW b.names bA bA.length s)).length<aZ/\M σ' (put cR q (.lst ((dn.map fun s=>.bl (fW b.names bA bA.length s))++[.bl v]))):=fun cR σ' v ⟨o4,eσ⟩ x5 hv'=>by
   refine⟨by simp only[List.length_map];omega,hM σ' _ ⟨dn++[x],o4,by simp [e1],eσ,fun a o na e=>by rw[aJ (by simpa using na)];exact x5 _ _ (x4 a o na e),?_⟩⟩
   rw[aP,hv'];simp
  walk_at"st"
  refine bJ (by simp) fun u cR x5 hu hu5=>?_
  walk_at"ex"
  refine⟨NQ (x5 _ _ hl4),iV (is:=[]) hu5,?_⟩
  rw[eq_nil (x5 _ _ hl4) hu5]
  have q5:=x5 _ _ e5
  cases hpe:bA with
  |nil =>
   simp only[List.map_nil,List.isEmpty_nil,if_true]
   walk_at"st"
   rw[aE q5]
   refine⟨True.intro,?_⟩
   obtain⟨r,er⟩:=kX x
   rw[er]
   walk_at"ex"
   rw[KY,aE q5]
   simp only[aF]
   exact fin cR _ _ ⟨_,rfl⟩ x5 (by rw[hpe];simp [fW])
  |cons p0 pr =>
   have hpl1:0<bA.length:=by rw[hpe];simp
   have hm:fW b.names bA bA.length x=hv b.names bA (lR x) (bA.length-1):=by unfold fW;rw[if_neg (by omega)]
   have elen:((bA.map aN).length:Int)-1=((bA.length-1:Nat):Int):=by simp;omega
   rw[<-hpe]
   have hne:(bA.map aN).isEmpty=false:=by rw[hpe];rfl
   rw[hne]
   simp only[Bool.false_eq_true,if_false]
   obtain⟨r,er⟩:=kX x
   have hpx:=zG b.says [] (fun x hx=>by cases hx) x hx
   have hox:=hov x hx
   rcases FN x hpx with⟨w1,a,rfl⟩|⟨w1,w2⟩
   ·simp only[toD,c1]
    walk_at"st"
    rw[if_pos (by decide +kernel)]
    walk_at"st"
    rw[aE q5]
    refine⟨True.intro,?_⟩
    rw[cM (x5 _ _ hl4),elen]
    refine xC (k:=k+1) hh dC hpn 8 (s:=a) (by have:=hox.2;simp only[aK]at this;omega) hox.1 (by omega) (x5 _ _ hl4) fun fL x6=>?_
    rw[aE (x6 _ _ q5)]
    simp only[aF]
    exact fin fL _ _ ⟨_,rfl⟩ (x5.trans x6) (by rw[hm];rfl)
   ·rw[er]
    walk_at"st"
    rw[if_neg (by rw[w1];exact Bool.false_ne_true)]
    walk_at"st"
    rw[aE q5]
    refine⟨True.intro,?_⟩
    rw[cM (x5 _ _ hl4),elen,<-er]
    refine xC (k:=k+1) hh dC hpn 8 (s:=x) hox.2 hox.1 (by omega) (x5 _ _ hl4) fun fL x6=>?_
    rw[aE (x6 _ _ q5)]
    simp only[aF]
    exact fin fL _ _ ⟨_,rfl⟩ (x5.trans x6) (by rw[hm,w2])
 ·subst e2
  rw[List.append_nil]at e1
  walk_at"st"
  rw[aE e5]
  rw[<-e1]
  refine⟨by simp only[List.length_map];omega,hQ aA fun a o e=>x4 a o (by simpa using hq0 a o e) (x2 _ _ (x1 _ _ e))⟩
end
end L3
end
section
namespace L3
open PySem
def DW (is eD:Nat):Fn:=⟨5,7,[.asg (.nm 5) (.call is [(.v 0),(.v 1),(.v 2),(.c (.int 1)),(.lst [(.c (.int 0))])]),.iff (.and_ (.cmp .gt (.ix (.v 4) (.c (.int 0))) (.c (.int 0))) (.cmp .eq (.call eD [(.v 0),(.v 1),(.c (.int 2))]) (.c (.int 1)))) [.asg (.ix (.v 4) (.c (.int 0))) (.bin .sub (.ix (.v 4) (.c (.int 0))) (.c (.int 1))),.asg (.nm 6) (.call is [(.v 0),(.v 1),(.v 3),(.c (.int 1)),(.lst [(.c (.int 0))])]),.ret (.tup [(.ix (.lst [(.c (.str (W "then"))),(.c (.str (W "or"))),(.c (.str (W "same")))]) (.call eD [(.v 0),(.v 1),(.c (.int 3))])),(.tup [(.c (.str (W "before"))),(.v 6)]),(.v 5)])] [],.ret (.v 5)]⟩
def HM (inm eD is ipr:Nat):Fn:=⟨4,14,[.asg (.nm 4) (.lst [(.v 1)]),.asg (.tp [5,6]) (.call inm [(.v 0),(.v 4)]),.asg (.nm 7) (.bin .add (.v 5) (.v 6)),.asg (.nm 8) (.lst [(.call eD [(.v 0),(.v 4),(.bin .add (.v 2) (.c (.int 1)))])]),.asg (.nm 9) (.lst []),.gQ (.nm 10) (some .range) [(.bin .add (.c (.int 1)) (.call eD [(.v 0),(.v 4),(.c (.int 3))]))] [.asg (.nm 11) (.bin .add (.c (.int 1)) (.call eD [(.v 0),(.v 4),(.ix (.lst [(.c (.int 3)),(.c (.int 9)),(.c (.int 99))]) (.call eD [(.v 0),(.v 4),(.c (.int 3))]))])),.ex (.bW .append (.v 9) [(.tup [(.v 11),(.call is [(.v 0),(.v 4),(.v 7),(.c (.int 2)),(.v 8)])])])],.asg (.nm 12) (.comp 1 [0,4,7,8] [0] true (some .range) [(.call eD [(.v 0),(.v 4),(.bin .add (.v 3) (.c (.int 1)))])] [] (.call is [(.v 1),(.v 2),(.v 3),(.c (.int 2)),(.v 4)])),.asg (.nm 13) (.comp 1 [0,4,5,7,8] [0] true (some .range) [(.call eD [(.v 0),(.v 4),(.c (.int 2))])] [] (.call ipr [(.v 1),(.v 2),(.v 3),(.v 4),(.v 5)])),.ret (.tup [(.v 5),(.v 6),(.bi .tuple [(.v 13)]),(.bi .tuple [(.v 12)]),(.bi .tuple [(.v 9)])])]⟩
theorem CB {α:Type}{g:aB->Prop}{turn:D->aB->(Option D->aB->Prop)->Prop}{R:List D->aB->Prop}(t:α->D)(I:List α->List D->aB->Prop)(hg:∀ r acc st,I r acc st->g st/\acc.length<aZ)
 (ht:∀ x r acc st (K:Option D->aB->Prop),I (x::r) acc st->(∀ d aA,I r (acc++[d]) aA->K (some d) aA)->turn (t x) st K)(hR:∀ acc st,I [] acc st->R acc st):∀(xs:List α)(acc:List D)(st:aB),I xs acc st->jS g turn (xs.map t) acc st R
 |[],acc,st,h=>⟨(hg _ _ _ h).1,hR _ _ h⟩
 |x::xs,acc,st,h=>⟨(hg _ _ _ h).1,(hg _ _ _ h).2,ht x xs acc st _ h fun d aA h'=>CB t I hg ht hR xs (acc++[d]) aA h'⟩
end L3
end
section
namespace L3
open PySem
theorem pG {f g:List (List Nat)}(h:∀ n∈f,n∈g):∀ s:Sy,over f s->over g s
 |.yes,_=>trivial
 |.no,_=>trivial
 |.cE _,q=>h _ q
 |.one w s,q=>pG h s q
 |.two w s t,q=>⟨pG h s q.1,pG h t q.2⟩
theorem pK {fs gs:List (List Nat)}(h:∀ n∈fs,n∉gs):∀ s:Sy,over fs s->gF gs s=false
 |.yes,_=>rfl
 |.no,_=>rfl
 |.cE n,q=>by
  simp only[gF,List.any_eq_false]
  intro x hx e
  have:=h n q
  rw[<-eq_of_beq e]at this
  exact this hx
 |.one w s,q=>by cases w<;>first|rfl|exact pK h s q
 |.two w s t,q=>by simp only[gF,pK h s q.1,pK h t q.2,Bool.or_self]
section
variable {G:Prog}{k ic im eD is ipr:Nat}{st:aB}{Q:VK}{E:XK}{ns:List Int}
theorem X7 (h:G.fns ipr=some (DW is eD))(hs:G.fns is=some (rC eD is))(hn:G.fns eD=some (wI im))(hm:G.fns im=some (pJ ic))(hc:G.fns ic=some qV){fs gs:List (List Nat)}(hf:0<fs.length)(hdis:∀ n∈fs,n∉gs){a b:Nat}(eB:a≠b){i l:Int}
  (ha:st a=some (.lst [.int i]))(hb:st b=some (.lst [.int l]))(hi:0<=i)(hl:0<=l)
  (hQ:∀ s aA i',over (fs++gs) s->gF gs s=false->aK s<=4->(cnt s:Int)<=l->bD [a,b] st aA->0<=i'->aA a=some (.lst [.int i'])->aA b=some (.lst [.int (l-cnt s)])->Q (toD s) aA):
  aM G (k+6) ipr [.bP (ns.map .int),.ref a,.tup (fs.map .str),.tup ((fs++gs).map .str),.ref b] st Q E:=by
 rw[aT h]
 simp only[DW,start]
 refine⟨rfl,?_⟩
 have hfm:∀ n∈fs,n∈fs++gs:=fun n hn=>by simp [hn]
 walk_at"st"
 refine bJ (by decide) fun z aC x1 hz hz1=>?_
 have za:a≠z:=fun e=>by rw[<-e,ha]at hz;cases hz
 have zb:b≠z:=fun e=>by rw[<-e,hb]at hz;cases hz
 have zz:∀ c o,st c=some o->c≠z:=fun c o e q=>by rw[q,hz]at e;cases e
 refine tG (k:=k) hs hn hm hc hf za 1 (x1 _ _ ha) hz1 hi (by omega) fun s aH i2 o1 d1 c1' k2 hi2 a2 z2=>?_
 have cs:cnt s=0:=by omega
 have b2:aH b=some (.lst [.int l]):=k2 b _ (by simp [eB.symm,zb]) (x1 _ _ hb)
 have kk2:bD [a,b] st aH:=fun c o nc e=>k2 c o (by simp only[List.mem_cons,List.not_mem_nil,or_false,not_or]at nc ⊢;exact⟨nc.1,zz c o e⟩) (x1 _ _ e)
 have base:∀ aV i3,bD [a,b] aH aV->0<=i3->aV a=some (.lst [.int i3])->aV b=some (.lst [.int l])->Q (toD s) aV:=fun aV i3 k3 h3 a3 b3 =>
  hQ s aV i3 (pG hfm s o1) (pK hdis s o1) (by omega) (by omega) (kk2.trans k3) h3 a3 (by rw[cs];simpa using b3)
 walk_at"st"
 rw[dZ b2,E5,bB]
 walk_at"ex"
 by_cases hl0:0<l
 ·rw[if_pos hl0]
  refine fQ (k:=k+2) hn hm hc a2 hi2 (by omega) fun aV k3 a3=>?_
  have b3:aV b=some (.lst [.int l]):=k3 b _ (by simpa using eB.symm) b2
  walk_at"ex"
  generalize hv:lB ns (i2+1) 2=v
  cases hv1:(v==1)with
  |true =>
   simp only[if_true]
   walk_at"st"
   rw[dZ b3,E5,bB]
   walk_at"ex"
   rw[aE b3,VQ,bB]
   generalize hst4:put aV b _=cJ
   have b4:cJ b=some (.lst [.int (l-1)]):=by rw[<-hst4,aP];rfl
   have a4:cJ a=some (.lst [.int (i2+1)]):=by rw[<-hst4,aJ eB];exact a3
   have k4:bD [a,b] aV cJ:=by rw[<-hst4];exact bD.put (by simp)
   walk_at"st"
   refine bJ (by decide) fun y cR x5 hy hy5=>?_
   have ya:a≠y:=fun e=>by rw[<-e,a4]at hy;cases hy
   have yb:b≠y:=fun e=>by rw[<-e,b4]at hy;cases hy
   have yy:∀ c o,cJ c=some o->c≠y:=fun c o e q=>by rw[q,hy]at e;cases e
   refine tG (k:=k) hs hn hm hc (by simp;omega) ya 1 (x5 _ _ a4) hy5 (by omega) (by omega) fun s2 fL i6 o6 d6 c6 k6 hi6 a6 y6=>?_
   have cs2:cnt s2=0:=by omega
   have b6:fL b=some (.lst [.int (l-1)]):=k6 b _ (by simp [eB.symm,yb]) (x5 _ _ b4)
   have kk6:bD [a,b] cJ fL:=fun c o nc e=>k6 c o (by simp only[List.mem_cons,List.not_mem_nil,or_false,not_or]at nc ⊢;exact⟨nc.1,yy c o e⟩) (x5 _ _ e)
   walk_at"st"
   refine bJ (by decide) fun u pX x7 hu hu7=>?_
   walk_at"ex"
   refine fQ (k:=k+2) hn hm hc (x7 _ _ a6) hi6 (by omega) fun gE k8 a8=>?_
   have u8:gE u=some (.lst [.str (W "then"),.str (W "or"),.str (W "same")]):=k8 u _ (by
    intro z'
    simp only[List.mem_singleton]at z'
    rw[z',a6]at hu;cases hu) hu7
   have w0:=gW (ns:=ns) (k:=i6+1) (many:=3) (by omega)
   have w1:=gY (ns:=ns) (k:=i6+1) (many:=3) (by omega)
   generalize lB ns (i6+1) 3=w at w0 w1
   have b8:gE b=some (.lst [.int (l-1)]):=k8 b _ (by simpa using eB.symm) (x7 _ _ b6)
   have kk8:bD [a,b] st gE:=((((kk2.trans (k3.mono (by simp))).trans k4).trans kk6).trans x7.keep).trans (k8.mono (by simp))
   have fin:∀ W2',p2 W2'=false->aK (Sy.two W2' (.one .before s2) s)<=4->Q (toD (Sy.two W2' (.one .before s2) s)) gE:=fun W2' gU hdp=>by
    have hcn:cnt (Sy.two W2' (.one .before s2) s)=1:=by simp [cnt,gU,p1,cs,cs2]
    refine hQ _ gE (i6+1) ⟨o6,pG hfm s o1⟩ ?_ hdp (by rw[hcn];omega) kk8 (by omega) a8 (by rw[hcn];exact b8)
    simp only[gF,pK hdis s o1,Bool.or_self]
   walk_at"ex"
   have hdp:∀ W2',aK (Sy.two W2' (.one .before s2) s)<=4:=fun W2'=>by simp only[aK];omega
   have hw:w=0∨w=1∨w=2:=by omega
   rcases hw with rfl|rfl|rfl
   ·rw[dZ u8,E5,bB];exact fin .bE rfl (hdp _)
   ·rw[dZ u8,SM,bB];exact fin .or rfl (hdp _)
   ·rw[dZ u8,S7,bB];exact fin .same rfl (hdp _)
  |false =>
   simp only[Bool.false_eq_true,if_false,aF]
   walk_at"st"
   exact base aV (i2+1) (k3.mono (by simp)) (by omega) a3 b3
 ·rw[if_neg hl0]
  (try rw[if_neg hl0])
  (try simp only[decide_eq_false hl0,Bool.false_eq_true,if_false])
  rw[aF]
  walk_at"st"
  exact base aH i2 .refl hi2 a2 b2
end
end L3
end
section
namespace L3
open PySem
theorem S4 {fs gs:List (List Nat)}(h:vD fs gs=true):1<=fs.length/\fs.length<=2/\1<=gs.length/\gs.length<=2/\(fs++gs).Nodup/\∀ n∈fs++gs,n∈qU:=by
 simp only[vD,Bool.and_eq_true,decide_eq_true_eq,List.all_eq_true]at h
 obtain⟨⟨⟨⟨⟨a,b⟩,c⟩,d⟩,e⟩,f⟩:=h
 exact⟨a,b,c,d,e,fun n hn=>by simpa using f n hn⟩
theorem NW:∀ n∈qU,fJ n=true:=by decide +kernel
def dS (l:List Sy):Nat:=(l.map cnt).sum
theorem iX (a b:List Sy):dS (a++b)=dS a+dS b:=by simp [dS]
theorem xF (s:Sy):dS [s]=cnt s:=by simp [dS]
theorem K6 (f:List Sy)(s:Sy):(cZ f s).length<=f.length+(if bM s=true then 1 else 0):=by
 unfold cZ
 cases h:bM s with
 |true=>simp only[Bool.true_and,if_true];split<;>simp
 |false=>simp
theorem AV:∀(s:Sy)(f:List Sy),(aI s f).length<=f.length+cnt s
 |.yes,f=>by simp [aI]
 |.no,f=>by simp [aI]
 |.cE _,f=>by simp [aI]
 |.one w s,f=>by
  have h1:=AV s (cZ f (.one w s))
  have h2:=K6 f (.one w s)
  simp only[bM]at h2
  simp only[aI,cnt]
  cases h:p1 w<;>simp [h]at h2 ⊢<;>omega
 |.two w s t,f=>by
  have h1:=AV s (cZ f (.two w s t))
  have h2:=K6 f (.two w s t)
  have h3:=AV t (aI s (cZ f (.two w s t)))
  simp only[bM]at h2
  simp only[aI,cnt]
  cases h:p2 w<;>simp [h]at h2 ⊢<;>omega
theorem IF:∀(l f:List Sy),(bV l f).length<=f.length+dS l
 |[],f=>by simp [bV,dS]
 |s::l,f=>by
  have h1:=IF l (aI s f)
  have h2:=AV s f
  have:dS (s::l)=cnt s+dS l:=by simp [dS]
  simp only[bV];omega
structure Kq (b:Bk)(pieces kR:Int):Prop where
 ok:b.Ok
 d4:∀ s∈b.says,aK s<=4
 ms:(b.ms.length:Int)<=kR
 cn:(dS b.says:Int)<=pieces
section
variable {G:Prog}{k i inm ic im eD is ipr:Nat}{st:aB}{Q:VK}{E:XK}{ns:List Int}
theorem W0 (h:G.fns i=some (HM inm eD is ipr))(iH:G.fns inm=some (CV eD))(hp:G.fns ipr=some (DW is eD))(hs:G.fns is=some (rC eD is))(hn:G.fns eD=some (wI im))(hm:G.fns im=some (pJ ic))(hc:G.fns ic=some qV){at_ pieces kR:Int}(ha:0<=at_)(hpi:0<=pieces)(hmu:0<=kR)(hmu3:kR<=3)
  (hQ:∀ b aA,Kq b pieces kR->Ext st aA->Q b.d aA):aM G (k+7) i [.bP (ns.map .int),.int at_,.int pieces,.int kR] st Q E:=by
 have hL:aZ=16777216:=rfl
 rw[aT h]
 simp only[HM,start]
 refine⟨rfl,?_⟩
 walk_at"st"
 refine bJ (by show 1<=aZ;decide) fun m aC x1 hm0 m1=>?_
 walk_at"st"
 refine SU (k:=k+2) iH hn hm hc m1 ha fun fs gs aH i2 cG k2 hi2 m2=>?_
 obtain⟨f1,f2,g1,g2,nd,n8⟩:=S4 cG
 walk_at"ex"
 walk_at"st"
 refine⟨by simp only[List.length_map];omega,?_⟩
 have en:(fs.map D.str++gs.map D.str)=(fs++gs).map .str:=by simp
 rw[en]
 walk_at"st"
 refine fQ (k:=k+3) hn hm hc m2 hi2 (by omega) fun aV k3 m3=>?_
 have L0:=gW (ns:=ns) (k:=i2+1) (many:=pieces+1) (by omega)
 have L1:=gY (ns:=ns) (k:=i2+1) (many:=pieces+1) (by omega)
 generalize lB ns (i2+1) (pieces+1)=lv at L0 L1
 refine bJ (by show 1<=aZ;decide) fun lf cJ x4 hlf lf4=>?_
 have m4:=x4 _ _ m3
 have mlf:m≠lf:=fun z=>by rw[<-z,m3]at hlf;cases hlf
 have old3:∀ a o,st a=some o->aV a=some o:=fun a o e=>by
  have hma:a≠m:=fun z=>by rw[z,hm0]at e;cases e
  exact k3 a o (by simpa using hma) (k2 a o (by simpa using hma) (x1 _ _ e))
 have old4:∀ a o,st a=some o->cJ a=some o/\a≠m/\a≠lf:=fun a o e=>⟨x4 _ _ (old3 a o e),fun z=>(by rw[z,hm0]at e;cases e),fun z=>(by rw[<-z,old3 a o e]at hlf;cases hlf)⟩
 walk_at"ex"
 walk_at"st"
 refine bJ (by simp) fun wl cR x5 hwl wl5=>?_
 have m5:=x5 _ _ m4
 have lf5:=x5 _ _ lf4
 have mwl:m≠wl:=fun z=>by rw[<-z,m4]at hwl;cases hwl
 have lfwl:lf≠wl:=fun z=>by rw[<-z,lf4]at hwl;cases hwl
 have old5:∀ a o,st a=some o->cR a=some o/\a≠m/\a≠lf/\a≠wl:=fun a o e=>by
  obtain⟨q1,q2,q3⟩:=old4 a o e
  exact⟨x5 _ _ q1,q2,q3,fun z=>by rw[<-z,q1]at hwl;cases hwl⟩
 walk_at"ex"
 walk_at"st"
 refine fQ (k:=k+3) hn hm hc m5 (by omega) (by omega) fun fL k6 m6=>?_
 have V0:=gW (ns:=ns) (k:=i2+1+1) (many:=3) (by omega)
 have V1:=gY (ns:=ns) (k:=i2+1+1) (many:=3) (by omega)
 generalize lB ns (i2+1+1) 3=v at V0 V1
 have lf6:=k6 lf _ (by simpa using mlf.symm) lf5
 have wl6:=k6 wl _ (by simpa using mwl.symm) wl5
 walk_at"ex"
 refine⟨by unfold dX;omega,?_⟩
 rw[lD]
 have hname:∀ n∈fs++gs,fJ n=true:=fun n hn'=>NW n (n8 n hn')
 have fpos:0<(fs++gs).length:=by simp;omega
 have hdis:∀ n∈fs,n∉gs:=fun n h1 h2=>by
  rw[List.nodup_append]at nd
  exact nd.2.2 n h1 n h2 rfl
 let σ0:Option D->Option D->Option D->Option D->St:=fun kE lO VT Ot=>[some (.bP (ns.map .int)),some (.int at_),some (.int pieces),some (.int kR),some (.ref m),some (.tup (fs.map .str)),some (.tup (gs.map .str)),some (.tup ((fs++gs).map .str)),some (.ref lf),some (.ref wl),kE,lO,VT,Ot]
 refine fY (fun j:Nat=>D.int (j:Nat)) (I:=fun rest σ aA=>∃ j kE lO i' ws,rest=(List.range (1+v).toNat).drop j/\σ=σ0 kE lO none none/\bD [m,lf,wl] fL aA/\0<=i'/\aA m=some (.lst [.int i'])/\aA lf=some (.lst [.int (lv-dS (ws.map (·.2)))])/\(dS (ws.map (·.2)):Int)<=lv/\aA wl=some (.lst (ws.map fun w:Int×Sy=>.tup [.int w.1,toD w.2]))/\ws.length=j/\j<=(1+v).toNat/\(∀ w∈ws,1<=w.1/\w.1<=99/\over (fs++gs) w.2/\aK w.2<=3)) (fun rest σ aA _ a ha=>?_) (fun x rest σ aA M ⟨j,kE,lO,i',ws,e1,e2,q1,q2,q3,q4,q5,q6,q7,q7',q8⟩ hM=>?_) (fun σ aA ⟨j,kE,lO,i',ws,e1,e2,q1,q2,q3,q4,q5,q6,q7,q7',q8⟩=>?_) _ _ _ ⟨0,none,none,i2+1+1,[],rfl,rfl,.refl,by omega,m6,by simpa [dS]using lf6,by simp [dS];omega,wl6,rfl,Nat.zero_le _,by simp⟩
 ·cases ha
 ·subst e2
  have hj:j<(List.range (1+v).toNat).length:=by
   by_cases z:j<(List.range (1+v).toNat).length
   ·exact z
   ·rw[List.drop_eq_nil_of_le (by omega)]at e1;cases e1
  rw[List.drop_eq_getElem_cons hj]at e1
  injection e1 with e3 e4
  simp only[List.length_range]at hj
  simp only[σ0]
  walk_at"st"
  refine bJ (by decide) fun u pX x7 hu hu7=>?_
  walk_at"ex"
  refine fQ (k:=k+3) hn hm hc (x7 _ _ q3) q2 (by omega) fun gE k8 m8=>?_
  have um:u≠m:=fun z=>by rw[z,q3]at hu;cases hu
  have u8:=k8 u _ (by simpa using um) hu7
  have w0:=gW (ns:=ns) (k:=i'+1) (many:=3) (by omega)
  have w1:=gY (ns:=ns) (k:=i'+1) (many:=3) (by omega)
  generalize lB ns (i'+1) 3=w at w0 w1
  have hpr:∃ c:Int,0<c/\c<=99/\gC [D.int 3,D.int 9,D.int 99] w=some (.int c):=by
   have hw:w=0∨w=1∨w=2:=by omega
   rcases hw with rfl|rfl|rfl
   ·exact⟨3,by decide,by decide,E5⟩
   ·exact⟨9,by decide,by decide,SM⟩
   ·exact⟨99,by decide,by decide,S7⟩
  obtain⟨c,c0,c99,hc'⟩:=hpr
  rw[dZ u8,hc',bB]
  refine fQ (k:=k+3) hn hm hc m8 (by omega) c0 fun kD k9 m9=>?_
  have y0:=gW (ns:=ns) (k:=i'+1+1) (many:=c) (by omega)
  have y1:=gY (ns:=ns) (k:=i'+1+1) (many:=c) (by omega)
  generalize lB ns (i'+1+1) c=y at y0 y1
  walk_at"ex"
  have kk9:bD [m,lf,wl] aA kD:=(x7.keep.trans (k8.mono (by simp))).trans (k9.mono (by simp))
  have lf9:kD lf=some (.lst [.int (lv-dS (ws.map (·.2)))]):=k9 lf _ (by simpa using mlf.symm) (k8 lf _ (by simpa using mlf.symm) (x7 _ _ q4))
  have wl9:kD wl=some (.lst (ws.map fun w:Int×Sy=>.tup [.int w.1,toD w.2])):=k9 wl _ (by simpa using mwl.symm) (k8 wl _ (by simpa using mwl.symm) (x7 _ _ q6))
  walk_at"st"
  rw[aE wl9]
  refine⟨True.intro,?_⟩
  refine tG (k:=k) hs hn hm hc fpos mlf 2 m9 lf9 (by omega) (by omega) fun s xQ i10 o10' d10 c10 k10 hi10 m10 lf10=>?_
  have wl10:=k10 wl _ (by simp [mwl.symm,lfwl.symm]) wl9
  walk_at"ex"
  rw[aE wl10]
  refine⟨by simp only[List.length_map];omega,?_⟩
  simp only[aF]
  have ec:dS ((ws++[(1+y,s)]).map (·.2))=dS (ws.map (·.2))+cnt s:=by rw[List.map_append,iX];simp [dS]
  refine hM _ _ ⟨j+1,_,_,i10,ws++[(1+y,s)],e4,rfl,?_,hi10,?_,?_,?_,?_,by simp [q7],by omega,fun w' hw'=>?_⟩
  ·intro a o na e
   simp only[List.mem_cons,List.not_mem_nil,or_false,not_or]at na
   rw[aJ na.2.2]
   exact k10 a o (by simp [na]) (kk9 a o (by simp [na]) (q1 a o (by simp [na]) e))
  ·rw[aJ mwl];exact m10
  ·rw[aJ lfwl,lf10,ec];simp;omega
  ·rw[ec];simp;omega
  ·rw[aP];simp
  ·rcases List.mem_append.mp hw' with hw'|hw'
   ·exact q8 w' hw'
   ·simp only[List.mem_singleton]at hw';subst hw'
    exact⟨by show 1<=1+y;omega,by show 1+y<=99;omega,o10',d10⟩
 ·-- kR
  subst e2
  have hj:(1+v).toNat<=j:=by
   by_cases z:j<(List.range (1+v).toNat).length
   ·rw[List.drop_eq_getElem_cons z]at e1;cases e1
   ·simpa using z
  have hws:ws.length<=3:=by omega
  simp only[σ0]
  walk_at"st"
  refine fQ (k:=k+3) hn hm hc q3 q2 (by omega) fun pX k7 m7=>?_
  have V2:=gW (ns:=ns) (k:=i'+1) (many:=kR+1) (by omega)
  have V3:=gY (ns:=ns) (k:=i'+1) (many:=kR+1) (by omega)
  generalize lB ns (i'+1) (kR+1)=v2 at V2 V3
  walk_at"ex"
  refine⟨by unfold dX;omega,?_⟩
  rw[lD]
  have lf7:=k7 lf _ (by simpa using mlf.symm) q4
  have wl7:=k7 wl _ (by simpa using mwl.symm) q6
  refine CB (fun j:Nat=>D.int (j:Nat)) (I:=fun rest acc aA=>∃ i3 ms,acc=ms.map toD/\bD [m,lf] pX aA/\0<=i3/\aA m=some (.lst [.int i3])/\aA lf=some (.lst [.int (lv-dS (ws.map (·.2))-dS ms)])/\(dS (ws.map (·.2)):Int)+dS ms<=lv/\ms.length+rest.length=v2.toNat/\(∀ s∈ms,over (fs++gs) s/\aK s<=3)) (fun rest acc aA ⟨i3,ms,z1,z2,z3,z4,z5,z6,z7,z8⟩=>⟨fun a ha=>(by cases ha),by rw[z1,List.length_map];omega⟩) (fun x rest acc aA K ⟨i3,ms,z1,z2,z3,z4,z5,z6,z7,z8⟩ hK=>?_) (fun acc aA ⟨i3,ms,z1,z2,z3,z4,z5,z6,z7,z8⟩=>?_) _ _ _ ⟨i'+1,[],rfl,.refl,by omega,m7,by simpa [dS]using lf7,by rw[show dS []=0 from rfl];omega,by simp,by simp⟩
  ·-- a must
   refine tG (k:=k) hs hn hm hc fpos mlf 2 z4 z5 (by omega) (by omega) fun s gE i8 o8 d8 c8 k8 hi8 m8 lf8=>?_
   refine hK _ gE ⟨i8,ms++[s],by simp [z1],z2.trans k8,hi8,m8,?_,?_,by simp only[List.length_append,List.length_cons,List.length_nil]at z7 ⊢;omega,fun s' eS=>?_⟩
   ·rw[lf8,iX,xF];simp;omega
   ·rw[iX,xF];simp;omega
   ·rcases List.mem_append.mp eS with eS|eS
    ·exact z8 s' eS
    ·simp only[List.mem_singleton]at eS;subst eS;exact⟨o8,d8⟩
  subst z1
  simp only[List.length_nil,Nat.add_zero]at z7
  refine bJ (by simp only[List.length_map];omega) fun ml gE x8 hml ml8=>?_
  walk_at"ex"
  have wl8:=x8 _ _ (z2 wl _ (by simp [mwl.symm,lfwl.symm]) wl7)
  walk_at"st"
  refine fQ (k:=k+3) hn hm hc (x8 _ _ z4) z3 (by omega) fun kD k9 m9=>?_
  have V4:=gW (ns:=ns) (k:=i3+1) (many:=2) (by omega)
  have V5:=gY (ns:=ns) (k:=i3+1) (many:=2) (by omega)
  generalize lB ns (i3+1) 2=v3 at V4 V5
  walk_at"ex"
  refine⟨by unfold dX;omega,?_⟩
  rw[lD]
  have mml:m≠ml:=fun z=>by rw[<-z,z4]at hml;cases hml
  have lfml:lf≠ml:=fun z=>by rw[<-z,z5]at hml;cases hml
  have lf9:=k9 lf _ (by simpa using mlf.symm) (x8 _ _ z5)
  have wl9:=k9 wl _ (by simpa using mwl.symm) wl8
  have ml9:=k9 ml _ (by simpa using mml.symm) ml8
  refine CB (fun j:Nat=>D.int (j:Nat)) (I:=fun rest acc aA=>∃ i4 ps,acc=ps.map toD/\bD [m,lf] kD aA/\0<=i4/\aA m=some (.lst [.int i4])/\aA lf=some (.lst [.int (lv-dS (ws.map (·.2))-dS ms-dS ps)])/\(dS (ws.map (·.2)):Int)+dS ms+dS ps<=lv/\ps.length+rest.length=v3.toNat/\(∀ s∈ps,over (fs++gs) s/\aK s<=4/\gF gs s=false)) (fun rest acc aA ⟨i3,ms,z1,z2,z3,z4,z5,z6,z7,z8⟩=>⟨fun a ha=>(by cases ha),by rw[z1,List.length_map];omega⟩) (fun x rest acc aA K ⟨i4,ps,y1,y2,y3,y4,y5,y6,y7,y8⟩ hK=>?_) (fun acc aA ⟨i4,ps,y1,y2,y3,y4,y5,y6,y7,y8⟩=>?_) _ _ _ ⟨i3+1,[],rfl,.refl,by omega,m9,by simpa [dS]using lf9,by rw[show dS []=0 from rfl];omega,by simp,by simp⟩
  ·-- a promise
   refine X7 (k:=k) hp hs hn hm hc (by omega) hdis mlf y4 y5 (by omega) (by omega) fun s xQ i10 kE b10 d10 c10 k10 hi10 m10 lf10=>?_
   refine hK _ xQ ⟨i10,ps++[s],by simp [y1],y2.trans k10,hi10,m10,?_,?_,by simp only[List.length_append,List.length_cons,List.length_nil]at y7 ⊢;omega,fun s' eS=>?_⟩
   ·rw[lf10,iX,xF];simp;omega
   ·rw[iX,xF];simp;omega
   ·rcases List.mem_append.mp eS with eS|eS
    ·exact y8 s' eS
    ·simp only[List.mem_singleton]at eS;subst eS;exact⟨kE,d10,b10⟩
  subst y1
  simp only[List.length_nil,Nat.add_zero]at y7
  refine bJ (by simp only[List.length_map];omega) fun pl xQ x10 dC pl10=>?_
  walk_at"ex"
  have wl10:=x10 _ _ (y2 wl _ (by simp [mwl.symm,lfwl.symm]) wl9)
  have ml10:=x10 _ _ (y2 ml _ (by simp [mml.symm,lfml.symm]) ml9)
  walk_at"st"
  rw[aE pl10]
  refine⟨by simp only[List.length_map];omega,?_⟩
  rw[aE ml10]
  refine⟨by simp only[List.length_map];omega,?_⟩
  rw[aE wl10]
  refine⟨by simp only[List.length_map];omega,?_⟩
  refine hQ ⟨fs,gs,ps,ms,ws⟩ xQ ⟨⟨f1,f2,g1,g2,nd,hname,by show ps.length<=3;omega,fun s eS=>⟨(y8 s eS).1,by have:=(y8 s eS).2.1;omega⟩,fun s eS=>(y8 s eS).2.2,by show ms.length<=3;omega,fun s eS=>⟨(z8 s eS).1,by have:=(z8 s eS).2;omega⟩,by show 1<=ws.length;omega,by show ws.length<=5;omega,fun w hw=>⟨(q8 w hw).1,(q8 w hw).2.1,(q8 w hw).2.2.1,by have:=(q8 w hw).2.2.2;omega⟩⟩,fun s eS=>?_,by show(ms.length:Int)<=kR;omega,?_⟩ fun a o e=>?_
  ·simp only[Bk.says,List.mem_append,List.mem_map]at eS
   rcases eS with(eS|eS)|⟨w,hw,rfl⟩
   ·exact(y8 s eS).2.1
   ·have:=(z8 s eS).2;omega
   ·have:=(q8 w hw).2.2.2;omega
  ·show((dS (ps++ms++ws.map (·.2)):Nat):Int)<=pieces
   rw[iX,iX];simp;omega
  ·obtain⟨s1,s2,s3,s4⟩:=old5 a o e
   have t6:=k6 a o (by simpa using s2) s1
   have t7:=k7 a o (by simpa using s2) (q1 a o (by simp [s2,s3,s4]) t6)
   have t9:=k9 a o (by simpa using s2) (x8 _ _ (z2 a o (by simp [s2,s3]) t7))
   exact x10 _ _ (y2 a o (by simp [s2,s3]) t9)
end
end L3
end
section
namespace L3
open PySem
theorem R4 {n:Nat}:∀(l:List Sy),(∀ s∈l,aK s<=4)->eJ l<=l.length*15
 |[],_=>by simp [eJ]
 |s::l,h=>by
  have h1:=HR s
  have h2:=h s (by simp)
  have h3:=R4 (n:=n) l fun x hx=>h x (by simp [hx])
  have h4:2 ^ aK s<=2 ^ 4:=Nat.pow_le_pow_right (by decide) h2
  rw[iA]
  simp only[List.length_cons]
  omega
theorem GN {names:List (List Nat)}{f:List Sy}{s:Sy}(hf:∀ x∈f,over names x)(hs:over names s):∀ x∈cZ f s,over names x:=by
 unfold cZ;split
 ·intro x hx
  rcases List.mem_append.mp hx with hx|hx
  ·exact hf x hx
  ·simp only[List.mem_singleton]at hx;subst hx;exact hs
 ·exact hf
theorem wL {names:List (List Nat)}:∀(s:Sy){f:List Sy},(∀ x∈f,over names x)->over names s->∀ x∈aI s f,over names x
 |.yes,_,hf,_=>hf
 |.no,_,hf,_=>hf
 |.cE _,_,hf,_=>hf
 |.one w s,_,hf,hs=>wL s (GN hf hs) hs
 |.two w s t,_,hf,hs=>wL t (wL s (GN hf hs) hs.1) hs.2
theorem GH {names:List (List Nat)}:∀(l:List Sy){f:List Sy},(∀ x∈f,over names x)->(∀ s∈l,over names s)->∀ x∈bV l f,over names x
 |[],_,hf,_=>hf
 |s::l,_,hf,hl=>GH l (wL s hf (hl s (by simp))) fun x hx=>hl x (by simp [hx])
section
variable {G:Prog}{k il ibo ipl imb ilm inm ic im eD is ipr ibk ich icp ist ie iw ipo iz irr iti io iri ima kQ iph inh ibp ip ih:Nat}{st:aB}{E:XK}{ns:List Int}
theorem RJ {b:Bk}{pieces kR:Int}(DR:Kq b pieces kR)(hp:pieces<=4):eJ b.says<=200/\(∀ x∈b.says,aK x<=60)/\(bV b.says []).length<=4/\∀ s∈bV b.says [],over b.names s/\aK s<=8:=by
 have p1:=DR.ok.p1
 have m1:=DR.ok.m1
 have w2:=DR.ok.w2
 have hl:b.says.length<=11:=by simp [Bk.says];omega
 refine⟨?_,fun x hx=>by have:=DR.d4 x hx;omega,?_,fun s hs=>⟨GH b.says (by simp) (fun s hs=>(qZ DR.ok s hs).1) s hs,xP b.says (n:=8) (by simp) (fun x hx=>by have:=DR.d4 x hx;omega) s hs⟩⟩
 ·have:=R4 (n:=0) b.says DR.d4;omega
 ·have:=IF b.says []
  have h2:=DR.cn
  simp at this;omega
end
end L3
end
section
namespace L3
open PySem
def xK:Fn:=⟨1,5,[.asg (.nm 1) (.lst [(.tup [])]),.gQ (.nm 2) (some .range) [(.bi .len [(.v 0)])] [.asg (.nm 3) (.lst []),.gQ (.nm 4) none [(.v 1)] [.ex (.bW .append (.v 3) [(.bin .add (.v 4) (.tup [(.c (.bl false))]))]),.ex (.bW .append (.v 3) [(.bin .add (.v 4) (.tup [(.c (.bl true))]))])],.asg (.nm 1) (.v 3)],.ret (.v 1)]⟩
def C3:Fn:=⟨2,2,[.ret (.bi .all [(.comp 1 [1] [0] true none [(.fld (W "Rules") (W "promise_rows") (.v 0))] [] (.ix (.v 1) (.v 0)))])]⟩
def DS:Fn:=⟨2,2,[.ret (.bi .all [(.comp 1 [1] [0] true none [(.fld (W "Rules") (W "must_rows") (.v 0))] [] (.ix (.v 1) (.v 0)))])]⟩
def A5:Fn:=⟨2,2,[.ret (.bi .sum [(.comp 2 [1] [0,1] false none [(.fld (W "Rules") (W "priced_rows") (.v 0))] [(.not_ (.ix (.v 2) (.v 1)))] (.v 0))])]⟩
def D4:Fn:=⟨2,2,[.asg (.fl (W "Numbering") (W "met") (.v 0)) (.lst [(.v 1)])]⟩
def AQ:Fn:=⟨2,2,[.iff (.cmp .fE (.v 1) (.fld (W "Numbering") (W "met") (.v 0))) [.ex (.bW .append (.fld (W "Numbering") (W "met") (.v 0)) [(.v 1)])] [],.ret (.bW .index (.fld (W "Numbering") (W "met") (.v 0)) [(.v 1)])]⟩
def cI:Nat->List (List Bool)
 |0=>[[]]
 |n+1=>(cI n).flatMap fun r=>[r++[false],r++[true]]
def vm (names:List (List Nat))(aI:List Sy)(m set:List Bool):Sy->Bool
 |.yes=>true
 |.no=>false
 |.cE n=>(set[names.idxOf n]?).getD false
 |.one w s=>if p1 w=true then fS (.one w s) ((m[aI.idxOf (.one w s)]?).getD false) [vm names aI m set s]else qJ (.one w s) [vm names aI m set s]
 |.two w s t=>if p2 w=true then fS (.two w s t) ((m[aI.idxOf (.two w s t)]?).getD false) [vm names aI m set s,vm names aI m set t]else qJ (.two w s t) [vm names aI m set s,vm names aI m set t]
theorem M5 {names:List (List Nat)}{aI:List Sy}{m set:List Bool}{s:Sy}(h:bM s=true):vm names aI m set s=fS s ((m[aI.idxOf s]?).getD false) ((subs s).map (vm names aI m set)):=by
 cases s with
 |one w a=>simp only[bM]at h;simp only[vm,h,if_true,subs,List.map_cons,List.map_nil]
 |two w a b=>simp only[bM]at h;simp only[vm,h,if_true,subs,List.map_cons,List.map_nil]
 |_=>cases h
theorem QK {names:List (List Nat)}{aI:List Sy}{m set:List Bool}{s:Sy}(h:bM s=false)(hl:fK s=false):vm names aI m set s=qJ s ((subs s).map (vm names aI m set)):=by
 cases s with
 |one w a=>simp only[bM]at h;simp only[vm,h,Bool.false_eq_true,if_false,subs,List.map_cons,List.map_nil]
 |two w a b=>simp only[bM]at h;simp only[vm,h,Bool.false_eq_true,if_false,subs,List.map_cons,List.map_nil]
 |cE n=>cases hl
 |_=>rfl
theorem jP:∀(n:Nat)(r:List Bool),r∈cI n->r.length=n
 |0,r,h=>by simp [cI]at h;subst h;rfl
 |n+1,r,h=>by
  simp only[cI,List.mem_flatMap,List.mem_cons,List.not_mem_nil,or_false]at h
  obtain⟨q,hq,h|h⟩:=h<;>(subst h;simp [jP n q hq])
theorem K4:∀(n:Nat)(r:List Bool),r.length=n->r∈cI n
 |0,r,h=>by simp at h;subst h;simp [cI]
 |n+1,r,h=>by
  simp only[cI,List.mem_flatMap,List.mem_cons,List.not_mem_nil,or_false]
  have hr:r≠[]:=by intro z;rw[z]at h;cases h
  refine⟨r.dropLast,K4 n _ (by simp [h]),?_⟩
  have:=List.dropLast_concat_getLast hr
  cases hb:r.getLast hr with
  |false=>rw[hb]at this;exact .inl this.symm
  |true=>rw[hb]at this;exact .inr this.symm
theorem gR:∀ n:Nat,(cI n).length=2 ^ n
 |0=>rfl
 |n+1=>by
  have h:=gR n
  simp only[cI]
  have:∀ l:List (List Bool),(l.flatMap fun r=>[r++[false],r++[true]]).length=2*l.length:=fun l=>by
   induction l with
   |nil=>rfl
   |cons a l ih=>simp only[List.flatMap_cons,List.length_append,ih,List.length_cons,List.length_nil];omega
  rw[this,h,Nat.pow_succ];omega
theorem G8:∀ n:Nat,∃ r,cI n=List.replicate n false::r
 |0=>⟨[],rfl⟩
 |n+1=>by
  obtain⟨r,e⟩:=G8 n
  refine⟨(List.replicate n false++[true])::r.flatMap (fun r=>[r++[false],r++[true]]),?_⟩
  simp only[cI,e,List.flatMap_cons,List.cons_append,List.nil_append]
  rw[List.replicate_succ']
theorem Q6 {α:Type}[DecidableEq α]:∀(l u:List α),l.Nodup->(∀ x∈l,x∈u)->l.length<=u.length
 |[],u,_,_=>Nat.zero_le _
 |x::l,u,nd,h=>by
  have hx:=h x (by simp)
  have nd':=List.nodup_cons.mp nd
  have ih:=Q6 l (u.erase x) nd'.2 fun y hy=>by
   have hne:y≠x:=fun e=>nd'.1 (e▸hy)
   exact(List.mem_erase_of_ne hne).mpr (h y (by simp [hy]))
  rw[List.length_erase_of_mem hx]at ih
  have:0<u.length:=List.length_pos_of_mem hx
  simp only[List.length_cons];omega
section
variable {G:Prog}{k i:Nat}{st:aB}{Q:VK}{E:XK}
theorem EV (h:G.fns i=some xK){ds:List D}(hd:ds.length<=4)(hQ:∀ p aA,st p=none->Ext st aA->aA p=some (.lst ((cI ds.length).map aN))->Q (.ref p) aA):aM G (k+1) i [.tup ds] st Q E:=by
 have hL:aZ=16777216:=rfl
 rw[aT h]
 simp only[xK,start]
 refine⟨rfl,?_⟩
 walk_at"st"
 refine bJ (by show 1<=aZ;decide) fun p aC x1 hp hp1=>?_
 walk_at"st"
 refine⟨by unfold dX;omega,?_⟩
 rw[show((ds.length:Int)).toNat=ds.length by omega,lD]
 have p1:aC p=some (.lst ((cI 0).map aN)):=hp1
 refine fY (fun j:Nat=>D.int (j:Nat)) (I:=fun rest σ aA=>∃ t q o2 o3 o4,t<=ds.length/\rest=(List.range ds.length).drop t/\σ=[some (.tup ds),some (.ref q),o2,o3,o4]/\st q=none/\Ext st aA/\aA q=some (.lst ((cI t).map aN))) (fun rest σ aA _ a ha=>?_) (fun x rest σ aA M ⟨t,q,o2,o3,o4,e0,e1,e2,hq,x3,e5⟩ hM=>?_) (fun σ aA ⟨t,q,o2,o3,o4,e0,e1,e2,hq,x3,e5⟩=>?_) _ _ _ ⟨0,p,none,none,none,Nat.zero_le _,rfl,rfl,hp,x1,p1⟩
 ·cases ha
 ·subst e2
  have ht:t<(List.range ds.length).length:=by
   by_cases z:t<(List.range ds.length).length
   ·exact z
   ·rw[List.drop_eq_nil_of_le (by omega)]at e1;cases e1
  rw[List.drop_eq_getElem_cons ht]at e1
  injection e1 with e3 e4
  simp only[List.length_range]at ht
  have jE:(cI t).length<=16:=by
   rw[gR]
   exact Nat.pow_le_pow_right (n:=2) (by decide) (by omega:t<=4)
  walk_at"st"
  refine bJ (by simp) fun u cJ x4 hu hu4=>?_
  have qu:q≠u:=fun z=>by rw[<-z,e5]at hu;cases hu
  walk_at"st"
  rw[aE (x4 _ _ e5)]
  refine fY aN (I:=fun xR σ cR=>∃ dn o4,cI t=dn++xR/\σ=[some (.tup ds),some (.ref q),some (.int (x:Nat)),some (.ref u),o4]/\bD [u] cJ cR/\cR u=some (.lst ((dn.flatMap fun r=>[r++[false],r++[true]]).map aN))) (fun xR σ cR ⟨dn,o4,f1,f2,f3,f4⟩=>?_) (fun y xR σ cR M2 ⟨dn,o4,f1,f2,f3,f4⟩ hM2=>?_) (fun σ cR ⟨dn,o4,f1,f2,f3,f4⟩=>?_) _ _ _ ⟨[],o4,rfl,rfl,.refl,hu4⟩
  ·intro a ha
   simp only[List.mem_singleton]at ha
   subst ha
   rw[x4 _ _ e5,f3 _ _ (by simpa using qu) (x4 _ _ e5)]
  ·subst f2
   have hl:(dn.flatMap fun r=>[r++[false],r++[true]]).length<=40:=by
    have:∀ l:List (List Bool),(l.flatMap fun r=>[r++[false],r++[true]]).length=2*l.length:=fun l=>by
     induction l with
     |nil=>rfl
     |cons a l ih=>simp only[List.flatMap_cons,List.length_append,ih,List.length_cons,List.length_nil];omega
    rw[this]
    have:dn.length<=(cI t).length:=by rw[f1];simp
    omega
   have hyl:y.length=t:=jP t y (by rw[f1];simp)
   simp only[aN]
   walk_at"st"
   rw[aE f4]
   refine⟨True.intro,by simp only[List.length_map];omega,?_⟩
   rw[aE f4]
   refine⟨by simp only[List.length_map];omega,?_⟩
   walk_at"st"
   rw[aE aP]
   refine⟨True.intro,by simp only[List.length_map];omega,?_⟩
   rw[aE aP]
   refine⟨by simp only[List.length_map,List.length_append,List.length_cons,List.length_nil];omega,?_⟩
   simp only[aF]
   rw[X0]
   refine hM2 _ _ ⟨dn++[y],_,by simp [f1],rfl,fun a o na e=>by rw[aJ (by simpa using na)];exact f3 a o na e,?_⟩
   rw[aP]
   simp [aN,List.flatMap_append]
  ·subst f2
   rw[List.append_nil]at f1
   walk_at"st"
   simp only[aF]
   refine hM _ cR ⟨t+1,u,_,_,_,by omega,e4,rfl,?_,fun a o e=>f3 a o (fun z=>?_) (x4 _ _ (x3 _ _ e)),?_⟩
   ·cases hz:st u with
    |none=>rfl
    |some o=>rw[x3 _ _ hz]at hu;cases hu
   ·simp only[List.mem_singleton]at z
    rw[z]at e
    rw[x3 _ _ e]at hu;cases hu
   ·rw[f4,<-f1];rfl
 ·subst e2
  have ht:ds.length<=t:=by
   by_cases z:t<(List.range ds.length).length
   ·rw[List.drop_eq_getElem_cons z]at e1;cases e1
   ·simpa using z
  have et:t=ds.length:=by omega
  subst et
  walk_at"st"
  exact hQ q aA hq x3 e5
end
end L3
end
section
namespace L3
open PySem
def eZ (ss:List Sy)(V:Sy->Bool):Bool:=ss.all V
def pA (ws:List (Int×Sy))(V:Sy->Bool):Int:=((ws.filter fun w=>!V w.2).map (·.1)).sum
def RS (l:Nat):List (List Nat×D):=[(W "met", .ref l)]
structure mC (st:aB)(n l:Nat)(met:List (List Bool)):Prop where
 ins:st n=some (.ins (W "Numbering") (RS l))
 met:st l=some (.lst (met.map aN))
theorem sV {p l1 l2 l3:Nat}:bY (tJ p l1 l2 l3) (W "table")=some (.ref p):=by simp only[tJ,bY];rw[if_pos True.intro]
theorem Em {p l1 l2 l3:Nat}:bY (tJ p l1 l2 l3) (W "promise_rows")=some (.ref l1):=by simp only[tJ,bY];rw[if_neg (by decide +kernel),if_pos True.intro]
theorem ZY {p l1 l2 l3:Nat}:bY (tJ p l1 l2 l3) (W "must_rows")=some (.ref l2):=by simp only[tJ,bY];rw[if_neg (by decide +kernel),if_neg (by decide +kernel),if_pos True.intro]
theorem Z8 {p l1 l2 l3:Nat}:bY (tJ p l1 l2 l3) (W "priced_rows")=some (.ref l3):=by simp only[tJ,bY];rw[if_neg (by decide +kernel),if_neg (by decide +kernel),if_neg (by decide +kernel),if_pos True.intro]
theorem IS {p l1 l2 l3:Nat}{f:List Nat}(h1:W "table" ≠ f)(h2:W "promise_rows" ≠ f)(h3:W "must_rows" ≠ f)(h4:W "priced_rows" ≠ f):bY (tJ p l1 l2 l3) f=none:=by
 simp only[tJ,bY];rw[if_neg h1,if_neg h2,if_neg h3,if_neg h4]
theorem uV {l:Nat}:bY (RS l) (W "met")=some (.ref l):=by simp only[RS,bY];rw[if_pos True.intro]
theorem Bq {l:Nat}{f:List Nat}(h1:W "met" ≠ f):bY (RS l) f=none:=by simp only[RS,bY];rw[if_neg h1]
theorem L9 {st:aB}(a b:List Bool):bT st (aN a) (aN b)=decide (a=b):=by
 rw[OQ _ _ (oP a)]
 simp only[aN,bU]
 induction a generalizing b with
 |nil=>cases b<;>simp [fP]
 |cons x a ih =>
 cases b with
 |nil=>simp [fP]
 |cons y b =>
  simp only[List.map_cons,fP,bU,ih,List.cons.injEq]
  by_cases h1:x=y<;>by_cases h2:a=b<;>simp [h1,h2]
theorem tI {st:aB}(a:List Bool):plainS st (aN a):=⟨xJ _ (oP a),Nat.le_trans (vJ a) (by decide)⟩
theorem oX {st:aB}(l:List (List Bool)):dW st (l.map aN):=⟨pV _ (wY l).1,Nat.le_trans (wY l).2 (by decide)⟩
theorem MN {st:aB}(m:List Bool)(met:List (List Bool)):((met.map aN).any fun d=>bT st d (aN m))=met.contains m:=by
 induction met with
 |nil=>rfl
 |cons x met ih =>
 simp only[List.map_cons,List.any_cons,L9,ih,List.contains_cons]
 congr 1
 by_cases h:x=m
 ·subst h;simp
 ·rw[decide_eq_false h];exact(beq_eq_false_iff_ne.mpr fun z=>h z.symm).symm
theorem AE {st:aB}{m:List Bool}:∀{met:List (List Bool)},m∈met->findD st (aN m) (met.map aN)=some (met.idxOf m)
 |[],h=>by cases h
 |x::r,h=>by
  simp only[List.map_cons,findD,L9]
  by_cases e:x=m
  ·subst e;simp [List.idxOf_cons]
  ·rw[if_neg (by simpa using e),AE (by simpa [Ne.symm e]using h)]
   rw[List.idxOf_cons,beq_eq_false_iff_ne.mpr e];rfl
def gA (met:List (List Bool))(m:List Bool):List (List Bool):=if met.contains m then met else met++[m]
theorem KU (met:List (List Bool))(m:List Bool):m∈gA met m:=by
 unfold gA;split
 ·rename_i h;simpa using h
 ·simp
section
variable {G:Prog}{k i:Nat}{st:aB}{Q:VK}{E:XK}{b:Bk}{r p l1 l2 l3:Nat}{R:List Sy}{V:Sy->Bool}{q:Nat}
theorem O5 (hR:∀ s∈R,True){s:Sy}(hs:s∈R)(hq:st q=some (.lst (R.map fun s=>.bl (V s)))){Q':VK}:oG (.ref q) (.int (R.idxOf s:Nat)) st Q'=Q' (.bl (V s)) st:=by
 have dU:=List.idxOf_lt_length_iff.mpr hs
 rw[dZ hq,dY (by simpa using dU),List.getElem?_map,List.getElem?_eq_getElem dU]
 simp [dA]
theorem G4 {f:List Nat}{l:Nat}{ss:List Sy}(h:G.fns i=some ⟨2,2,[.ret (.bi .all [(.comp 1 [1] [0] true none [(.fld (W "Rules") f (.v 0))] [] (.ix (.v 1) (.v 0)))])]⟩)(T:iN st r p l1 l2 l3 b R)(hf:bY (tJ p l1 l2 l3) f=some (.ref l))(hl:st l=some (.lst (ss.map fun s=>.int (R.idxOf s:Nat))))(hss:∀ s∈ss,s∈R)(hn:ss.length<=1000)(hq:st q=some (.lst (R.map fun s=>.bl (V s))))
  (hQ:∀ aA,Ext st aA->Q (.bl (eZ ss V)) aA):aM G (k+1) i [.ref r,.ref q] st Q E:=by
 have hL:aZ=16777216:=rfl
 rw[aT h]
 simp only[start]
 refine⟨rfl,?_⟩
 walk_at"st"
 rw[cW T.ins hf,mM,aE hl]
 refine gH (fun s:Sy=>D.int (R.idxOf s:Nat)) (fun s=>.bl (V s)) ss [] st (fun aY y a ha=>?_) (fun s hs aY K y1 hK=>?_) (by simp only[List.length_nil];omega) fun aH y2=>?_
 ·simp only[List.mem_singleton]at ha
  subst ha
  rw[hl,y _ _ hl]
 ·show oG _ _ aY _
  rw[O5 (fun _ _=>trivial) (hss s hs) (y1 _ _ hq)]
  exact hK aY .refl
 rw[List.nil_append]
 refine bJ (by simp only[List.length_map];omega) fun pp aV y3 hpp qN=>?_
 walk_at"ex"
 rw[aE qN,xO,bB,List.all_map]
 exact hQ aV (y2.trans y3)
theorem VZ (h:G.fns i=some C3)(T:iN st r p l1 l2 l3 b R)(B:b.Ok)(hq:st q=some (.lst (R.map fun s=>.bl (V s))))(hQ:∀ aA,Ext st aA->Q (.bl (eZ b.ps V)) aA):aM G (k+1) i [.ref r,.ref q] st Q E :=
 G4 h T Em T.pr (fun s hs=>T.all s (by simp [Bk.says,hs])) (by have:=B.p1;omega) hq hQ
theorem YN (h:G.fns i=some DS)(T:iN st r p l1 l2 l3 b R)(B:b.Ok)(hq:st q=some (.lst (R.map fun s=>.bl (V s))))(hQ:∀ aA,Ext st aA->Q (.bl (eZ b.ms V)) aA):aM G (k+1) i [.ref r,.ref q] st Q E :=
 G4 h T ZY T.mu (fun s hs=>T.all s (by simp [Bk.says,hs])) (by have:=B.m1;omega) hq hQ
theorem IV (V:Sy->Bool)(ws:List (Int×Sy)):intsOf (ws.filterMap fun w=>if(!V w.2)=true then some (D.int w.1)else none)=some ((ws.filter fun w=>!V w.2).map (·.1)):=by
 induction ws with
 |nil=>rfl
 |cons w ws ih =>
 cases hv:V w.2 with
 |true=>simp [List.filterMap_cons,List.filter_cons,hv]at ih ⊢;exact ih
 |false =>
  simp only[List.filterMap_cons,List.filter_cons,hv,Bool.not_false,if_true,intsOf,List.map_cons]
  rw[ih];rfl
theorem YW (h:G.fns i=some A5)(T:iN st r p l1 l2 l3 b R)(B:b.Ok)(hq:st q=some (.lst (R.map fun s=>.bl (V s))))(hQ:∀ aA,Ext st aA->Q (.int (pA b.ws V)) aA):aM G (k+1) i [.ref r,.ref q] st Q E:=by
 have hL:aZ=16777216:=rfl
 have w2:=B.w2
 rw[aT h]
 simp only[A5,start]
 refine⟨rfl,?_⟩
 walk_at"st"
 rw[cW T.ins Z8,mM,aE T.wi]
 refine jN (fun w:Int×Sy=>D.tup [.int w.1,.int (R.idxOf w.2:Nat)]) (fun w=>if(!V w.2)=true then some (D.int w.1)else none) b.ws [] st (fun aY y a ha=>?_) (fun w hw aY K y1 hK=>?_) (by simp only[List.length_nil];omega) fun aH y2=>?_
 ·simp only[List.mem_singleton]at ha
  subst ha
  rw[T.wi,y _ _ T.wi]
 ·have hs:w.2∈R:=T.all w.2 (by simp only[Bk.says,List.mem_append,List.mem_map];exact .inr ⟨w,hw,rfl⟩)
  walk_at"ex"
  rw[O5 (fun _ _=>trivial) hs (y1 _ _ hq)]
  walk_at"ex"
  have:=hK aY .refl
  cases hv:V w.2 with
  |true=>simpa [hv]using this
  |false=>simpa [hv]using this
 rw[List.nil_append]
 refine bJ (by have:=List.length_filterMap_le (fun w:Int×Sy=>if(!V w.2)=true then some (D.int w.1)else none) b.ws;omega) fun pp aV y3 hpp qN=>?_
 walk_at"ex"
 rw[aE qN,IV,bB]
 exact hQ aV (y2.trans y3)
theorem XC (h:G.fns i=some D4){n:Nat}{m:List Bool}(hn:st n=some (.ins (W "Numbering") []))(hQ:∀ aA l,st l=none->bD [n] st aA->mC aA n l [m]->Q .non aA):aM G (k+1) i [.ref n,aN m] st Q E:=by
 rw[aT h]
 simp only[D4,start]
 refine⟨rfl,?_⟩
 walk_at"st"
 refine bJ (by show 1<=aZ;decide) fun l aC x1 hl hl1=>?_
 walk_at"ex"
 rw[mZ (x1 _ _ hn) (by simp),hU rfl]
 simp only[aF]
 have nl:l≠n:=fun z=>by rw[z,hn]at hl;cases hl
 exact hQ _ l hl (x1.keep.trans (bD.put (by simp))) ⟨by rw[aP];rfl,by rw[aJ nl];exact hl1⟩
theorem X2 (h:G.fns i=some AQ){n l:Nat}{m:List Bool}{met:List (List Bool)}(N:mC st n l met)(hlen:met.length<=1000)(hQ:∀ aA,bD [l] st aA->mC aA n l (gA met m)->Q (.int ((gA met m).idxOf m:Nat)) aA):aM G (k+1) i [.ref n,aN m] st Q E:=by
 have hL:aZ=16777216:=rfl
 have nl:n≠l:=fun z=>by have:=N.ins;rw[z,N.met]at this;cases this
 rw[aT h]
 simp only[AQ,start]
 refine⟨rfl,?_⟩
 have fin:∀ aC,bD [l] st aC->mC aC n l (gA met m)->cN (aM G k) G.sub [.ret (.bW .index (.fld (W "Numbering") (W "met") (.v 0)) [(.v 1)])] ⟨fun _ aA=>Q .non aA,Q,fun _ _=>False,fun _ _=>False,fun c _ aA=>E c aA⟩ [some (.ref n),some (aN m)] aC:=fun aC k1 N1=>by
  walk_at"st"
  rw[cW N1.ins uV]
  walk_at"ex"
  rw[pS,oN,aE N1.met,rK,oN,aE N1.met]
  refine⟨True.intro,tI m,oX _,?_⟩
  rw[AE (KU met m),bB]
  exact hQ aC k1 N1
 walk_at"st"
 rw[cW N.ins uV,oW,cM N.met,MN]
 refine⟨tI m,oX _,?_⟩
 cases hc:met.contains m with
 |true =>
  simp only[Bool.not_true,Bool.false_eq_true,if_false,aF]
  have e:gA met m=met:=by unfold gA;rw[hc];rfl
  exact fin st .refl (by rw[e];exact N)
 |false =>
  simp only[Bool.not_false,if_true]
  walk_at"st"
  rw[cW N.ins uV,xD,aE N.met]
  refine⟨True.intro,?_⟩
  walk_at"ex"
  rw[aE N.met]
  refine⟨by simp only[List.length_map];omega,?_⟩
  simp only[aF]
  have e:gA met m=met++[m]:=by unfold gA;rw[hc];rfl
  refine fin _ (bD.put (by simp)) ⟨by rw[aJ nl];exact N.ins,by rw[aP,e];simp⟩
end
end L3
end
section
namespace L3
open PySem
def DG (jV ifk kQ:Nat):Fn:=⟨3,4,[.asg (.nm 3) (.ix (.call jV [(.ix (.v 0) (.c (.int 1)))]) (.c (.int 0))),.ret (.comp 1 [1,2,3] [0] true none [(.call jV [(.ix (.v 0) (.c (.int 0)))])] [(.mcl (W "Rules") (W "foe_keeps") ifk (.v 1) [(.mcl (W "Table") (W "held_at") kQ (.fld (W "Rules") (W "table") (.v 1)) [(.v 2),(.bin .add (.v 0) (.v 3))])])] (.v 0))]⟩
def JC (jV kQ imk ino ima ilo:Nat):Fn:=⟨5,9,[.asg (.nm 5) (.lst []),.gQ (.nm 6) none [(.call jV [(.ix (.v 0) (.c (.int 1)))])] [.asg (.nm 7) (.mcl (W "Table") (W "held_at") kQ (.fld (W "Rules") (W "table") (.v 1)) [(.v 3),(.bin .add (.v 4) (.v 6))]),.iff (.mcl (W "Rules") (W "friend_keeps") imk (.v 1) [(.v 7)]) [.asg (.nm 8) (.mcl (W "Numbering") (W "number_of") ino (.v 2) [(.mcl (W "Table") (W "memory_after") ima (.fld (W "Rules") (W "table") (.v 1)) [(.v 7)])]),.ex (.bW .append (.v 5) [(.tup [(.v 6),(.mcl (W "Rules") (W "loss_at") ilo (.v 1) [(.v 7)]),(.v 8)])])] []],.ret (.bi .tuple [(.v 5)])]⟩
def Bk.aI (b:Bk):List Sy:=bV b.says []
def Bk.vm (b:Bk)(m set:List Bool):Sy->Bool:=L3.vm b.names b.aI m set
def Bk.pP (b:Bk)(m set:List Bool):List Bool:=b.aI.map fun s=>b.vm m set (lR s)
abbrev lM:=List Bool×Int×Nat
def qA (a:lM):D:=.tup [aN a.1,.int a.2.1,.int (a.2.2:Nat)]
def dG (b:Bk)(m aU:List Bool)(x:List lM×List (List Bool))(fr:List Bool):List lM×List (List Bool) :=
 if eZ b.ms (b.vm m (aU++fr))=true then(x.1++[(fr,pA b.ws (b.vm m (aU++fr)),(gA x.2 (b.pP m (aU++fr))).idxOf (b.pP m (aU++fr)))],gA x.2 (b.pP m (aU++fr)))else x
def jM (b:Bk)(m aU:List Bool)(met:List (List Bool)):List lM×List (List Bool):=(cI b.gs.length).foldl (dG b m aU) ([],met)
def oY (b:Bk)(m:List Bool):List (List Bool):=(cI b.fs.length).filter fun aU=>eZ b.ps (b.vm m (aU++List.replicate b.gs.length false))
structure iR (n:Nat)(met:List (List Bool)):Prop where
 nd:met.Nodup
 len:∀ m∈met,m.length=n
theorem iR.P9 {n:Nat}{met:List (List Bool)}(h:iR n met)(hn:n<=4):met.length<=16:=by
 have h1:=Q6 met (cI n) h.nd fun m hm=>K4 n m (h.len m hm)
 rw[gR]at h1
 have:2 ^ n<=2 ^ 4:=Nat.pow_le_pow_right (by decide) hn
 omega
theorem iR.add {n:Nat}{met:List (List Bool)}(h:iR n met){m:List Bool}(hm:m.length=n):iR n (gA met m):=by
 unfold gA
 cases hc:met.contains m with
 |true=>exact h
 |false =>
 have hn:m∉met:=by simpa using hc
 refine⟨?_,fun x hx=>?_⟩
 ·show(met++[m]).Nodup
  rw[List.nodup_append]
  exact⟨h.nd,by simp,fun a ha c hc'=>by simp only[List.mem_singleton]at hc';subst hc';exact fun z=>hn (z▸ha)⟩
 ·rcases List.mem_append.mp (show x∈met++[m]from hx)with hx|hx
  ·exact h.len x hx
  ·simp only[List.mem_singleton]at hx;subst hx;exact hm
theorem M1 (b:Bk)(m set:List Bool):(b.pP m set).length=b.aI.length:=by simp [Bk.pP]
theorem LO {b:Bk}{m aU fr:List Bool}{x:List lM×List (List Bool)}(h:iR b.aI.length x.2):iR b.aI.length (dG b m aU x fr).2:=by
 unfold dG;split
 ·exact h.add (M1 b m _)
 ·exact h
theorem uG {b:Bk}{m aU:List Bool}:∀(l:List (List Bool)){x:List lM×List (List Bool)},iR b.aI.length x.2->iR b.aI.length (l.foldl (dG b m aU) x).2
 |[],_,h=>h
 |fr::l,_,h=>uG l (LO h)
section
variable {G:Prog}{k i jV ifk kQ imk ino ima ilo iph inh:Nat}{st:aB}{Q:VK}{E:XK}{b:Bk}{r p l1 l2 l3:Nat}{R:List Sy}
theorem KJ (hha:G.fns kQ=some (tN iph inh))(hn:G.fns inh=some wA)(hpa:G.fns iph=some qT)(T:iN st r p l1 l2 l3 b R){m set:List Bool}(hm:m.length=b.aI.length)(hs:set.length=b.names.length)
  (hQ:∀ aA q,st q=none->Ext st aA->aA q=some (.lst (R.map fun s=>.bl (b.vm m set s)))->Q (.ref q) aA):aM G (k+2) kQ [.ref p,aN m,aN set] st Q E:=by
 obtain⟨lp,lr,ld,lm,js,T1,hlm,hjl,hjs,hpast⟩:=T.tab.h
 refine WR hha hn hpa T1 (mem:=m) (set:=set) (b.vm m set) (fun n hn'=>?_) (fun s eS hps=>⟨(m[b.aI.idxOf s]?).getD false,?_,M5 hps⟩) (fun s h1 h2=>QK h1 h2) hQ
 ·have dU:b.names.idxOf n<set.length:=by rw[hs];exact List.idxOf_lt_length_iff.mpr hn'
  simp only[Bk.vm,vm]
  rw[List.getElem?_eq_getElem dU];rfl
 ·have dU:b.aI.idxOf s<m.length:=by rw[hm];exact List.idxOf_lt_length_iff.mpr eS
  show m[b.aI.idxOf s]? = _
  rw[List.getElem?_eq_getElem dU];rfl
theorem VV (hma:G.fns ima=some CP)(T:iN st r p l1 l2 l3 b R)(kF:b.aI.length<=4){m set:List Bool}{q:Nat}(hq:st q=some (.lst (R.map fun s=>.bl (b.vm m set s))))(hQ:∀ aA,Ext st aA->Q (aN (b.pP m set)) aA):aM G (k+1) ima [.ref p,.ref q] st Q E:=by
 obtain⟨lp,lr,ld,lm,js,T1,hlm,hjl,hjs,hpast⟩:=T.tab.h
 refine Di (aI:=b.aI) hma T1.ins (lm:=lm) (by rw[lK (by decide +kernel) (by decide +kernel) (by decide +kernel) (by decide +kernel)];simp only[P4,bY];rw[if_neg (by decide +kernel),if_pos True.intro]) hlm hq hjl (by omega) hjs fun aA x=>?_
 have e:(b.aI.map fun s=>D.bl (b.vm m set (lR s)))=(b.pP m set).map .bl:=by simp [Bk.pP]
 rw[e]
 exact hQ aA x
theorem LB {T:List Nat}{lp lr ld lm:Nat}{names:List (List Nat)}{aI:List Sy}(h1:W "names" ≠ T)(h2:W "pieces" ≠ T)(h3:W "rows" ≠ T)(h4:W "row_of" ≠ T)(h5:W "first_memory" ≠ T)(h6:W "remembered_rows" ≠ T):bY (pM names lp lr ld++P4 aI lm) T=none:=by
 rw[lK h1 h2 h3 h4];simp only[P4,bY];rw[if_neg h5,if_neg h6]
theorem V7 (h:G.fns i=some (DG jV ifk kQ))(hse:G.fns jV=some xK)(hfk:G.fns ifk=some C3)(hha:G.fns kQ=some (tN iph inh))(hn:G.fns inh=some wA)(hpa:G.fns iph=some qT)(T:iN st r p l1 l2 l3 b R)(B:b.Ok){m:List Bool}(hm:m.length=b.aI.length)
  (hQ:∀ q aA,st q=none->Ext st aA->aA q=some (.lst ((oY b m).map aN))->Q (.ref q) aA):aM G (k+3) i [b.d,.ref r,aN m] st Q E:=by
 have hL:aZ=16777216:=rfl
 have f2:=B.f2
 have g2:=B.g2
 have iH:b.names.length=b.fs.length+b.gs.length:=by simp [Bk.names]
 rw[aT h]
 simp only[DG,start,Bk.d]
 refine⟨rfl,?_⟩
 walk_at"st"
 refine EV (k:=k+1) hse (by simp only[List.length_map];omega) fun u aC hu x1 hu1=>?_
 rw[List.length_map]at hu1
 obtain⟨rr,er⟩:=G8 b.gs.length
 walk_at"ex"
 rw[dZ hu1,er,List.map_cons,E5,bB]
 walk_at"ex"
 walk_at"st"
 refine EV (k:=k+1) hse (by simp only[List.length_map];omega) fun u2 aH hu2 x2 hu22=>?_
 rw[List.length_map]at hu22
 walk_at"ex"
 rw[aE hu22]
 have T2:=T.keep (x1.trans x2)
 have jE:(cI b.fs.length).length<=16:=by rw[gR];exact Nat.pow_le_pow_right (n:=2) (by decide) (by omega:b.fs.length<=4)
 obtain⟨lp,lr,ld,lm,js,T2',_⟩:=T2.tab.h
 refine jN aN (fun aU=>if eZ b.ps (b.vm m (aU++List.replicate b.gs.length false))=true then some (aN aU)else none) (cI b.fs.length) [] aH (fun aY y a ha=>?_) (fun aU hf aY K y1 hK=>?_) (by simp only[List.length_nil];omega) fun aV y3=>?_
 ·simp only[List.mem_singleton]at ha
  subst ha
  rw[hu22,y _ _ hu22]
 ·have T3:=T2.keep y1
  have hfl:=jP _ _ hf
  walk_at"ex"
  rw[kU T3.ins (IS (by decide +kernel) (by decide +kernel) (by decide +kernel) (by decide +kernel))]
  refine⟨True.intro,?_⟩
  rw[cW T3.ins sV]
  rw[kU (T2'.keep y1).ins (LB (by decide +kernel) (by decide +kernel) (by decide +kernel) (by decide +kernel) (by decide +kernel) (by decide +kernel))]
  refine⟨True.intro,?_⟩
  have ea:iB .add (aN aU) (aN (List.replicate b.gs.length false))=fun st Q=>(aU.map D.bl).length+((List.replicate b.gs.length false).map D.bl).length<=aZ/\Q (aN (aU++List.replicate b.gs.length false)) st:=by
   funext st Q
   simp only[aN,FD,List.map_append]
  rw[ea]
  refine⟨by simp only[List.length_map,List.length_replicate];omega,?_⟩
  refine KJ hha hn hpa T3 hm (by simp [hfl,iH]) fun cJ q _ y4 hq=>?_
  refine VZ (k:=k+1) hfk (T3.keep y4) B hq fun cR y5=>?_
  walk_at"ex"
  have:=hK cR (y4.trans y5)
  cases hv:eZ b.ps (b.vm m (aU++List.replicate b.gs.length false))with
  |true=>simpa [hv]using this
  |false=>simpa [hv]using this
 rw[List.nil_append]
 have ef:((cI b.fs.length).filterMap fun aU=>if eZ b.ps (b.vm m (aU++List.replicate b.gs.length false))=true then some (aN aU)else none)=(oY b m).map aN:=by
  unfold oY
  generalize cI b.fs.length=l
  induction l with
  |nil=>rfl
  |cons a l ih =>
   by_cases hv:eZ b.ps (b.vm m (a++List.replicate b.gs.length false))=true
   ·simp only[List.filterMap_cons,List.filter_cons,hv,if_true,List.map_cons,ih]
   ·simp only[List.filterMap_cons,List.filter_cons,hv,ih];simp [hv]
 rw[ef]
 refine bJ (by simp only[List.length_map];have:=List.length_filter_le (fun aU=>eZ b.ps (b.vm m (aU++List.replicate b.gs.length false))) (cI b.fs.length);unfold oY;omega) fun q cJ y4 hq hq4=>?_
 refine hQ q cJ ?_ (((x1.trans x2).trans y3).trans y4) hq4
 cases hz:st q with
 |none=>rfl
 |some o=>rw[((x1.trans x2).trans y3) _ _ hz]at hq;cases hq
end
end L3
end
section
namespace L3
open PySem
def HS (ich iri ini ifs ian:Nat):Fn:=⟨1,7,[.ex (.call ich [(.v 0)]),.asg (.nm 1) (.mk (W "Rules") iri [(.v 0)]),.asg (.nm 2) (.mk (W "Numbering") ini [(.fld (W "Table") (W "first_memory") (.fld (W "Rules") (W "table") (.v 1)))]),.asg (.nm 3) (.lst []),.whl (.cmp .lt (.bi .len [(.v 3)]) (.bi .len [(.fld (W "Numbering") (W "met") (.v 2))])) [.asg (.nm 4) (.ix (.fld (W "Numbering") (W "met") (.v 2)) (.bi .len [(.v 3)])),.asg (.nm 5) (.lst []),.gQ (.nm 6) none [(.call ifs [(.v 0),(.v 1),(.v 4)])] [.ex (.bW .append (.v 5) [(.tup [(.v 6),(.call ian [(.v 0),(.v 1),(.v 2),(.v 4),(.v 6)])])])],.ex (.bW .append (.v 3) [(.tup [(.v 4),(.bi .tuple [(.v 5)])])])],.ret (.v 3)]⟩
theorem mC.keep {st aA:aB}{n l:Nat}{met:List (List Bool)}(N:mC st n l met)(h:Ext st aA):mC aA n l met:=⟨h _ _ N.ins,h _ _ N.met⟩
theorem B8 {B5 st aA:aB}{as:List Nat}(x:Ext B5 st)(k:bD as st aA)(h:∀ a∈as,B5 a=none):Ext B5 aA:=fun a o e=>k a o (fun z=>by rw[h a z]at e;cases e) (x a o e)
theorem iZ {st aA:aB}{a:Nat}(x:Ext st aA)(h:aA a=none):st a=none:=by
 cases hz:st a with
 |none=>rfl
 |some o=>rw[x _ _ hz]at h;cases h
theorem CG {st:aB}{Q:VK}(a c:List Bool):iB .add (aN a) (aN c) st Q=((a.length+c.length<=aZ)/\Q (aN (a++c)) st):=by
 simp only[aN,FD,List.map_append,List.length_map]
section
variable {G:Prog}{k i jV ifk kQ imk ino ima ilo iph inh:Nat}{st B5:aB}{Q:VK}{E:XK}{b:Bk}{r p l1 l2 l3 n l:Nat}{R:List Sy}
theorem Au (h:G.fns i=some (JC jV kQ imk ino ima ilo))(hse:G.fns jV=some xK)(hha:G.fns kQ=some (tN iph inh))(hn:G.fns inh=some wA)(hpa:G.fns iph=some qT)(hmk:G.fns imk=some DS)(hno:G.fns ino=some AQ)(hma:G.fns ima=some CP)(hlo:G.fns ilo=some A5)
    (T0:iN B5 r p l1 l2 l3 b R)(x0:Ext B5 st)(hl0:B5 l=none)(B:b.Ok)(kF:b.aI.length<=4){m aU:List Bool}{met:List (List Bool)}(N:mC st n l met)(hM:iR b.aI.length met)(hm:m.length=b.aI.length)(hf:aU.length=b.fs.length)
    (hQ:∀ aA,bD [l] st aA->mC aA n l (jM b m aU met).2->Q (.tup ((jM b m aU met).1.map qA)) aA):aM G (k+3) i [b.d,.ref r,.ref n,aN m,aN aU] st Q E:=by
  have hL:aZ=16777216:=rfl
  have f2:=B.f2
  have g2:=B.g2
  have iH:b.names.length=b.fs.length+b.gs.length:=by simp [Bk.names]
  have hd:b.d=.tup [.tup (b.fs.map .str),.tup (b.gs.map .str),.tup (b.ps.map toD),.tup (b.ms.map toD),.tup (b.ws.map fun w=>.tup [.int w.1,toD w.2])]:=rfl
  rw[aT h]
  simp only[JC,start]
  refine⟨rfl,?_⟩
  walk_at"st"
  refine bJ (by simp) fun u aC x1 hu hu1=>?_
  rw[hd]
  walk_at"st"
  refine EV (k:=k+1) hse (by simp only[List.length_map];omega) fun s aH hs x2 hs2=>?_
  rw[List.length_map]at hs2
  walk_at"ex"
  rw[aE hs2,<-hd]
  have jE:(cI b.gs.length).length<=16:=by rw[gR];exact Nat.pow_le_pow_right (n:=2) (by decide) (by omega:b.gs.length<=4)
  have ul:u≠l:=fun z=>by rw[z,N.met]at hu;cases hu
  have un:u≠n:=fun z=>by rw[z,N.ins]at hu;cases hu
  have sl:s≠l:=fun z=>by rw[z,x1 _ _ N.met]at hs;cases hs
  have su:s≠u:=fun z=>by rw[z,hu1]at hs;cases hs
  have nl:n≠l:=fun z=>by have:=N.ins;rw[z,N.met]at this;cases this
  have N2:=N.keep (x1.trans x2)
  have u0:B5 u=none:=iZ x0 hu
  refine fY aN (I:=fun rest σ aA=>∃ dn o6 o7 o8,cI b.gs.length=dn++rest/\σ=[some b.d,some (.ref r),some (.ref n),some (aN m),some (aN aU),some (.ref u),o6,o7,o8]/\bD [l,u] aH aA/\mC aA n l (dn.foldl (dG b m aU) ([],met)).2/\aA u=some (.lst ((dn.foldl (dG b m aU) ([],met)).1.map qA))/\(dn.foldl (dG b m aU) ([],met)).1.length<=dn.length) (fun rest σ aA ⟨dn,o6,o7,o8,e1,e2,k1,N',e5,e6⟩=>?_) (fun fr rest σ aA M ⟨dn,o6,o7,o8,e1,e2,k1,N',e5,e6⟩ hM'=>?_) (fun σ aA ⟨dn,o6,o7,o8,e1,e2,k1,N',e5,e6⟩=>?_) _ _ _ ⟨[],none,none,none,rfl,rfl,.refl,N2,x2 _ _ hu1,by simp⟩
  · intro a ha
    simp only[List.mem_singleton]at ha
    subst ha
    rw[hs2,k1 _ _ (by simp [sl,su]) hs2]
  · subst e2
    have hfr:fr.length=b.gs.length:=jP _ _ (by rw[e1];simp)
    have hdn : dn.length ≤ 16 := by have:dn.length≤(cI b.gs.length).length:=by rw[e1];simp
                                    omega
    have hMx:=uG (b:=b) (m:=m) (aU:=aU) dn (x:=([],met)) hM
    have xx:Ext B5 aA:=B8 (x0.trans (x1.trans x2)) k1 (fun a ha=>by
      simp only[List.mem_cons,List.not_mem_nil,or_false]at ha
      rcases ha with ha|ha
      ·rw[ha];exact hl0
      ·rw[ha];exact u0)
    have T':=T0.keep xx
    obtain⟨lp,lr,ld,lm,js,TT,_⟩:=T'.tab.h
    generalize hX:dn.foldl (dG b m aU) ([],met)=X at N' e5 e6 hMx
    have hXs:(dn++[fr]).foldl (dG b m aU) ([],met)=dG b m aU X fr:=by rw[List.foldl_append,hX];rfl
    walk_at"st"
    rw[cW T'.ins sV,kU TT.ins (LB (by decide +kernel) (by decide +kernel) (by decide +kernel) (by decide +kernel) (by decide +kernel) (by decide +kernel))]
    refine⟨True.intro,?_⟩
    rw[CG]
    refine⟨by omega,?_⟩
    refine KJ hha hn hpa T' hm (by simp [hf,hfr,iH]) fun aV q hq0 y3 hq=>?_
    walk_at"ex"
    have T3:=T'.keep y3
    walk_at"st"
    rw[kU T3.ins (IS (by decide +kernel) (by decide +kernel) (by decide +kernel) (by decide +kernel))]
    refine⟨True.intro,?_⟩
    refine YN (k:=k+1) hmk T3 B hq fun cJ y4=>?_
    walk_at"ex"
    have T4:=T3.keep y4
    have y34:=y3.trans y4
    cases hv:eZ b.ms (b.vm m (aU++fr))with
    |false =>
      simp only[Bool.false_eq_true,if_false,aF]
      have eX:dG b m aU X fr=X:=by unfold dG;rw[hv];rfl
      refine hM' _ cJ ⟨dn++[fr],_,_,_,by simp [e1],rfl,k1.trans y34.keep,by rw[hXs,eX];exact N'.keep y34,by rw[hXs,eX];exact y34 _ _ e5,by rw[hXs,eX];simp;omega⟩
    |true =>
      simp only[if_true]
      have eX:dG b m aU X fr=(X.1++[(fr,pA b.ws (b.vm m (aU++fr)),(gA X.2 (b.pP m (aU++fr))).idxOf (b.pP m (aU++fr)))],gA X.2 (b.pP m (aU++fr))):=by unfold dG;rw[hv];rfl
      have N4:=N'.keep y34
      walk_at"st"
      rw[kU N4.ins (Bq (by decide +kernel))]
      refine⟨True.intro,?_⟩
      rw[cW T4.ins sV,kU (TT.keep y34).ins (LB (by decide +kernel) (by decide +kernel) (by decide +kernel) (by decide +kernel) (by decide +kernel) (by decide +kernel))]
      refine⟨True.intro,?_⟩
      refine VV (k:=k+1) hma T4 kF (y4 _ _ hq) fun cR y5=>?_
      have N5:=N4.keep y5
      have hX2:=hMx.P9 kF
      refine X2 (k:=k+1) hno N5 (by omega) fun fL k6 N6=>?_
      walk_at"ex"
      have x6:Ext B5 fL:=B8 (xx.trans (y34.trans y5)) k6 (fun a ha=>by simp only[List.mem_singleton]at ha;rw[ha];exact hl0)
      have T6:=T0.keep x6
      have u6:fL u=some (.lst (X.1.map qA)):=k6 u _ (by simpa using ul) (y5 _ _ (y34 _ _ e5))
      have ql:q≠l:=fun z=>by rw[z,N'.met]at hq0;cases hq0
      have q6:fL q=some (.lst (R.map fun s=>.bl (b.vm m (aU++fr) s))):=k6 q _ (by simpa using ql) (y5 _ _ (y4 _ _ hq))
      walk_at"st"
      rw[aE u6]
      refine⟨True.intro,?_⟩
      rw[kU T6.ins (IS (by decide +kernel) (by decide +kernel) (by decide +kernel) (by decide +kernel))]
      refine⟨True.intro,?_⟩
      refine YW (k:=k+1) hlo T6 B q6 fun pX y7=>?_
      walk_at"ex"
      rw[aE (y7 _ _ u6)]
      refine⟨by simp only[List.length_map];omega,?_⟩
      simp only[aF]
      refine hM' _ _ ⟨dn++[fr],_,_,_,by simp [e1],rfl,?_,?_,?_,?_⟩
      · intro a o na e
        simp only[List.mem_cons,List.not_mem_nil,or_false,not_or]at na
        rw[aJ na.2]
        exact y7 _ _ (k6 a o (by simpa using na.1) (y5 _ _ (y34 _ _ (k1 a o (by simp [na]) e))))
      · rw[hXs,eX]
        exact⟨by rw[aJ (Ne.symm un)];exact y7 _ _ N6.ins,by rw[aJ (Ne.symm ul)];exact y7 _ _ N6.met⟩
      ·rw[aP,hXs,eX];simp [qA]
      ·rw[hXs,eX];simp;omega
  · subst e2
    rw[List.append_nil]at e1
    have eA:jM b m aU met=dn.foldl (dG b m aU) ([],met):=by unfold jM;rw[e1]
    walk_at"st"
    rw[aE e5]
    have hdn:dn.length<=16:=by rw[<-e1];exact jE
    refine⟨by simp only[List.length_map];omega,?_⟩
    rw[<-eA]
    refine hQ aA (fun a o na e=>?_) (by rw[eA];exact N')
    have au:a≠u:=fun z=>by rw[z,hu]at e;cases e
    exact k1 a o (by simp only[List.mem_cons,List.not_mem_nil,or_false,not_or];exact⟨by simpa using na,au⟩) (x2 _ _ (x1 _ _ e))
abbrev Node:=List Bool×List (List Bool×List lM)
def nE (x:List Bool×List lM):D:=.tup [aN x.1,.tup (x.2.map qA)]
def gI (x:Node):D:=.tup [aN x.1,.tup (x.2.map nE)]
def dF (b:Bk)(m:List Bool)(x:List (List Bool×List lM)×List (List Bool))(aU:List Bool):List (List Bool×List lM)×List (List Bool) :=
 (x.1++[(aU,(jM b m aU x.2).1)],(jM b m aU x.2).2)
def kA (b:Bk)(m:List Bool)(met:List (List Bool)):List (List Bool×List lM)×List (List Bool):=(oY b m).foldl (dF b m) ([],met)
abbrev GS:=List (List Bool)×List Node
def wD (b:Bk)(x:GS):GS:=if x.2.length<x.1.length then((kA b ((x.1[x.2.length]?).getD []) x.1).2,x.2++[((x.1[x.2.length]?).getD [],(kA b ((x.1[x.2.length]?).getD []) x.1).1)])else x
def aX (b:Bk):Nat->GS
 |0=>([b.aI.map eQ],[])
 |j+1=>wD b (aX b j)
def qW (b:Bk):List Node:=(aX b 17).2
theorem QX (met:List (List Bool))(m:List Bool):met.length<=(gA met m).length:=by unfold gA;split<;>simp
theorem LA {b:Bk}{m aU:List Bool}:∀(l:List (List Bool))(x:List lM×List (List Bool)),x.2.length<=(l.foldl (dG b m aU) x).2.length
 |[],_=>Nat.le_refl _
 |fr::l,x=>by
  refine Nat.le_trans ?_ (LA l (dG b m aU x fr))
  unfold dG;split
  ·exact QX _ _
  ·exact Nat.le_refl _
theorem J2 {b:Bk}{m:List Bool}:∀(l:List (List Bool))(x:List (List Bool×List lM)×List (List Bool)),x.2.length<=(l.foldl (dF b m) x).2.length
 |[],_=>Nat.le_refl _
 |fr::l,x=>Nat.le_trans (LA _ ([],x.2)) (J2 l (dF b m x fr))
theorem NS {b:Bk}{m:List Bool}(met:List (List Bool)):met.length<=(kA b m met).2.length:=J2 _ ([],met)
theorem Q0 {b:Bk}{m aU:List Bool}(h:aU∈oY b m):aU.length=b.fs.length:=jP _ _ (List.mem_filter.mp h).1
theorem tV {b:Bk}{m:List Bool}:∀(l:List (List Bool)){x:List (List Bool×List lM)×List (List Bool)},iR b.aI.length x.2->iR b.aI.length (l.foldl (dF b m) x).2
 |[],_,h=>h
 |aU::l,_,h=>tV l (by simp only[dF];exact uG _ h)
theorem sZ (b:Bk):∀ j,iR b.aI.length (aX b j).1
 |0=>⟨by simp [aX],by simp [aX]⟩
 |j+1=>by
  have h:=sZ b j
  simp only[aX,wD]
  split
  ·exact tV _ h
  ·exact h
theorem tW (b:Bk)(kF:b.aI.length<=4):∀ j,(aX b j).2.length<=(aX b j).1.length
 |0=>by simp [aX]
 |j+1=>by
  have h:=tW b kF j
  simp only[aX,wD]
  split
  ·rename_i hl
   have:(aX b j).1.length<=(kA b (((aX b j).1[(aX b j).2.length]?).getD []) (aX b j).1).2.length:=NS _
   simp only[List.length_append,List.length_cons,List.length_nil];omega
  ·exact h
end
end L3
end
section
namespace L3
open PySem
theorem wM (b:Bk){j:Nat}(h:¬(aX b j).2.length<(aX b j).1.length):∀ n,aX b (j+n)=aX b j
 |0=>rfl
 |n+1=>by
  show wD b (aX b (j+n))=_
  rw[wM b h n]
  unfold wD
  rw[if_neg h]
section
variable {G:Prog}{k i ich icp iri ini ifs ian ibk iti io iz ie irr iw ipo jV ifk kQ imk ino ima ilo iph inh:Nat}{st:aB}{Q:VK}{E:XK}{b:Bk}
theorem W4 (h:G.fns i=some (HS ich iri ini ifs ian))(hch:G.fns ich=some (rM ibk))(hb:O0 G ibk 13 b)(hri:G.fns iri=some (yW iti io))(ht:G.fns iti=some (oR iz ie irr))(hz:G.fns iz=some (lG iw))(he:G.fns ie=some (sD ie iw ipo))(hw:G.fns iw=some iL)(hpo:G.fns ipo=some pI)(hrr:G.fns irr=some CN)(hio:G.fns io=some uS)
  (hni:G.fns ini=some D4)(hfs:G.fns ifs=some (DG jV ifk kQ))(han:G.fns ian=some (JC jV kQ imk ino ima ilo))(hse:G.fns jV=some xK)(hfk:G.fns ifk=some C3)(hha:G.fns kQ=some (tN iph inh))(hn:G.fns inh=some wA)(hpa:G.fns iph=some qT)(hmk:G.fns imk=some DS)(hno:G.fns ino=some AQ)(hma:G.fns ima=some CP)(hlo:G.fns ilo=some A5)
  (B:b.Ok)(hs:eJ b.says<=5000)(kF:b.aI.length<=4)(hQ:∀ p aA,st p=none->Ext st aA->aA p=some (.lst ((qW b).map gI))->Q (.ref p) aA):aM G (k+15) i [b.d] st Q E:=by
 have hL:aZ=16777216:=rfl
 have f2:=B.f2
 rw[aT h]
 simp only[HS,start]
 refine⟨rfl,?_⟩
 walk_at"st"
 refine OK (k:=k) hch hb fun aC x1=>?_
 walk_at"st"
 intro r hr
 refine UD (k:=k+1) hri ht hz he hw hpo hrr hio B hs (by show b.aI.length<=5000;omega) aP fun aH p l1 l2 l3 R k2 T2=>⟨rfl,?_⟩
 have x2:Ext aC aH:=fun a o e=>k2 a o (by intro z;simp only[List.mem_singleton]at z;rw[z,hr]at e;cases e) (AK hr e)
 walk_at"ex"
 walk_at"st"
 rw[cW T2.ins sV]
 obtain⟨lp,lr,ld,lm,js,TT,_⟩:=T2.tab.h
 rw[cW TT.ins (x:=.tup (b.aI.map fun s=>.bl (eQ s))) (by rw[lK (by decide +kernel) (by decide +kernel) (by decide +kernel) (by decide +kernel)];simp only[P4,bY];rw[if_pos True.intro];rfl)]
 intro n hn0
 have ei:D.tup (b.aI.map fun s=>.bl (eQ s))=aN (b.aI.map eQ):=by simp [aN]
 rw[ei]
 refine XC (k:=k+13) hni aP fun aV l hl3 k3 N3=>⟨rfl,?_⟩
 have x3:Ext aH aV:=fun a o e=>k3 a o (by intro z;simp only[List.mem_singleton]at z;rw[z,hn0]at e;cases e) (AK hn0 e)
 have hl2:aH l=none:=by
  have hnl:l≠n:=fun z=>by rw[z,aP]at hl3;cases hl3
  rwa [aJ hnl]at hl3
 walk_at"ex"
 walk_at"st"
 refine bJ (by simp) fun nd cJ x4 hnd nd4=>?_
 walk_at"ex"
 have x24:=x3.trans x4
 have ndl:nd≠l:=fun z=>by rw[z,N3.met]at hnd;cases hnd
 have ndn:nd≠n:=fun z=>by rw[z,N3.ins]at hnd;cases hnd
 have nd2:aH nd=none:=iZ x3 hnd
 rw[cU]
 refine xM (pQ G (Nat.le_refl _)) (I:=fun mm σ aA=>∃ j o4 o5 o6,mm+(aX b j).2.length=17/\j<=17/\(aX b j).2.length=j/\σ=[some b.d,some (.ref r),some (.ref n),some (.ref nd),o4,o5,o6]/\Ext aH aA/\mC aA n l (aX b j).1/\aA nd=some (.lst ((aX b j).2.map gI))) ?_ (m:=17) ⟨0,none,none,none,rfl,by omega,rfl,rfl,x24,N3.keep x4,nd4⟩
 rintro mm σ aA ⟨j,o4,o5,o6,e0,e0',ej,e2,x5,N5,nd5⟩
 subst e2
 have FL:=sZ b j
 have sS:=FL.P9 kF
 have hlen:=tW b kF j
 walk_at"ex"
 rw[cM nd5,cW N5.ins uV,ET,cM N5.met]
 walk_at"ex"
 by_cases dU:(aX b j).2.length<(aX b j).1.length
 ·have hc:(((aX b j).2.map gI).length:Int)<((aX b j).1.map aN).length:=by simp only[List.length_map];omega
  rw[if_pos (by simpa using hc)]
  have hjm:j<(aX b j).1.length:=by omega
  generalize hm:(aX b j).1[j]=m
  have hmg:(aX b j).1[j]? = some m:=by rw[List.getElem?_eq_getElem hjm,hm]
  have hml:m.length=b.aI.length:=FL.len m (List.mem_of_getElem? hmg)
  walk_at"st"
  rw[cW N5.ins uV,cM nd5,dZ N5.met,List.length_map,ej,dY (by simpa using hjm),List.getElem?_map,hmg,Option.map_some,bB]
  walk_at"ex"
  walk_at"st"
  refine bJ (by simp) fun mv fL x6 hmv mv6=>?_
  walk_at"ex"
  have T6:=T2.keep (x5.trans x6)
  walk_at"st"
  refine V7 (k:=k+11) hfs hse hfk hha hn hpa T6 B hml fun fl pX hfl x7 hfl7=>?_
  walk_at"ex"
  rw[aE hfl7]
  have N7:=N5.keep (x6.trans x7)
  have nd7:=x7 _ _ (x6 _ _ nd5)
  have mv7:=x7 _ _ mv6
  have mvl:mv≠l:=fun z=>by rw[z,N5.met]at hmv;cases hmv
  have mvn:mv≠n:=fun z=>by rw[z,N5.ins]at hmv;cases hmv
  have mvnd:mv≠nd:=fun z=>by rw[z,nd5]at hmv;cases hmv
  have flmv:fl≠mv:=fun z=>by rw[z,mv6]at hfl;cases hfl
  have fll:fl≠l:=fun z=>by rw[z,x6 _ _ N5.met]at hfl;cases hfl
  have mv2:aH mv=none:=iZ x5 hmv
  have hfsz:(oY b m).length<=16:=by
   have h1:=List.length_filter_le (fun aU=>eZ b.ps (b.vm m (aU++List.replicate b.gs.length false))) (cI b.fs.length)
   have h2:(cI b.fs.length).length<=16:=by rw[gR];exact Nat.pow_le_pow_right (n:=2) (by decide) (by omega:b.fs.length<=4)
   unfold oY;omega
  refine fY aN (I:=fun rest σ gE=>∃ dn o6,oY b m=dn++rest/\σ=[some b.d,some (.ref r),some (.ref n),some (.ref nd),some (aN m),some (.ref mv),o6]/\bD [l,mv] pX gE/\mC gE n l (dn.foldl (dF b m) ([],(aX b j).1)).2/\gE mv=some (.lst ((dn.foldl (dF b m) ([],(aX b j).1)).1.map nE))/\(dn.foldl (dF b m) ([],(aX b j).1)).1.length=dn.length) (fun rest σ gE ⟨dn,o6,g1,g2,g3,g4,g5,g6⟩=>?_) (fun aU rest σ gE M ⟨dn,o6,g1,g2,g3,g4,g5,g6⟩ hM'=>?_) (fun σ gE ⟨dn,o6,g1,g2,g3,g4,g5,g6⟩=>?_) _ _ _ ⟨[],o6,rfl,rfl,.refl,N7,mv7,rfl⟩
  ·intro a ha
   simp only[List.mem_singleton]at ha
   subst ha
   rw[hfl7,g3 _ _ (by simp [fll,flmv]) hfl7]
  ·subst g2
   have hfo:aU.length=b.fs.length:=Q0 (m:=m) (by rw[g1];simp)
   have hdn:dn.length<=16:=by rw[g1]at hfsz;simp at hfsz;omega
   have x8:Ext aH gE:=B8 (x5.trans (x6.trans x7)) g3 (fun a ha=>by
    simp only[List.mem_cons,List.not_mem_nil,or_false]at ha
    rcases ha with ha|ha
    ·rw[ha];exact hl2
    ·rw[ha];exact mv2)
   have hMx:=tV (b:=b) (m:=m) dn (x:=([],(aX b j).1)) FL
   generalize hX:dn.foldl (dF b m) ([],(aX b j).1)=X at g4 g5 g6 hMx
   have hXs:(dn++[aU]).foldl (dF b m) ([],(aX b j).1)=dF b m X aU:=by rw[List.foldl_append,hX];rfl
   walk_at"st"
   rw[aE g5]
   refine⟨True.intro,?_⟩
   refine Au (k:=k+11) han hse hha hn hpa hmk hno hma hlo T2 x8 hl2 B kF g4 hMx hml hfo fun kD k9 N9=>?_
   have mv9:=k9 mv _ (by simpa using mvl) g5
   walk_at"ex"
   rw[aE mv9]
   refine⟨by simp only[List.length_map];omega,?_⟩
   simp only[aF]
   refine hM' _ _ ⟨dn++[aU],_,by simp [g1],rfl,?_,?_,?_,?_⟩
   ·intro a o na e
    simp only[List.mem_cons,List.not_mem_nil,or_false,not_or]at na
    rw[aJ na.2]
    exact k9 a o (by simpa using na.1) (g3 a o (by simp [na]) e)
   ·rw[hXs]
    exact⟨by rw[aJ (Ne.symm mvn)];exact N9.ins,by rw[aJ (Ne.symm mvl)];exact N9.met⟩
   ·rw[aP,hXs];simp [dF,nE]
   ·rw[hXs];simp [dF,g6]
  ·subst g2
   rw[List.append_nil]at g1
   have eM:kA b m (aX b j).1=dn.foldl (dF b m) ([],(aX b j).1):=by unfold kA;rw[g1]
   have hdn:dn.length<=16:=by rw[<-g1];exact hfsz
   have eG:aX b (j+1)=((kA b m (aX b j).1).2,(aX b j).2++[(m,(kA b m (aX b j).1).1)]):=by
    simp only[aX,wD]
    rw[if_pos dU,ej,hmg];rfl
   have nd8:gE nd=some (.lst ((aX b j).2.map gI)):=g3 nd _ (by simp [ndl,Ne.symm mvnd]) nd7
   walk_at"st"
   rw[aE nd8]
   refine⟨True.intro,?_⟩
   rw[aE g5]
   refine⟨by simp only[List.length_map];omega,?_⟩
   rw[aE nd8]
   refine⟨by simp only[List.length_map];omega,?_⟩
   simp only[aF]
   refine⟨mm-1,by omega,j+1,_,_,_,by rw[eG];simp;omega,by omega,by rw[eG];simp [ej],rfl,?_,?_,?_⟩
   ·intro a o e
    have and':a≠nd:=fun z=>by rw[z,nd2]at e;cases e
    have al:a≠l:=fun z=>by rw[z,hl2]at e;cases e
    have am:a≠mv:=fun z=>by rw[z,mv2]at e;cases e
    rw[aJ and']
    exact g3 a o (by simp [al,am]) (x7 _ _ (x6 _ _ (x5 _ _ e)))
   ·rw[eG,eM]
    exact⟨by rw[aJ (Ne.symm ndn)];exact g4.ins,by rw[aJ (Ne.symm ndl)];exact g4.met⟩
   ·rw[aP,eG,eM];simp [gI]
 ·have hc:¬(((aX b j).2.map gI).length:Int)<((aX b j).1.map aN).length:=by simp only[List.length_map];omega
  rw[if_neg (by simpa using hc)]
  walk_at"st"
  have hfin:qW b=(aX b j).2:=by
   unfold qW
   have:=wM b dU (17-j)
   rw[show j+(17-j)=17 by omega]at this
   rw[this]
  refine hQ nd aA ?_ ((x1.trans x2).trans x5) (by rw[hfin];exact nd5)
  exact iZ (x1.trans x2) nd2
end
end L3
end
section
namespace L3
open PySem
def AM (ih:Nat):Fn:=⟨3,3,[.ret (.cmp .eq (.comp 1 [0,2] [0] true none [(.v 1)] [(.not_ (.call ih [(.v 1),(.v 0),(.v 2),(.bin .sub (.bi .len [(.v 2)]) (.c (.int 1)))]))] (.v 0)) (.lst []))]⟩
def uQ (ih:Nat):Fn:=⟨2,3,[.asg (.nm 2) (.bin .add (.ix (.v 0) (.c (.int 0))) (.ix (.v 0) (.c (.int 1)))),.ret (.bi .sum [(.comp 1 [2,1] [0] true none [(.ix (.v 0) (.c (.int 4)))] [(.not_ (.call ih [(.v 1),(.ix (.v 0) (.c (.int 1))),(.v 2),(.bin .sub (.bi .len [(.v 2)]) (.c (.int 1)))]))] (.ix (.v 0) (.c (.int 0))))])]⟩
def vL:Fn:=⟨1,5,[.asg (.nm 1) (.lst [(.tup [])]),.gQ (.nm 2) (some .range) [(.v 0)] [.asg (.nm 3) (.lst []),.gQ (.nm 4) none [(.v 1)] [.ex (.bW .extend (.v 3) [(.lst [(.bin .add (.v 4) (.tup [(.c (.bl false))])),(.bin .add (.v 4) (.tup [(.c (.bl true))]))])])],.asg (.nm 1) (.v 3)],.ret (.v 1)]⟩
def C4 (ise ik ilo:Nat):Fn:=⟨3,7,[.asg (.nm 3) (.bin .add (.ix (.v 0) (.c (.int 0))) (.ix (.v 0) (.c (.int 1)))),.asg (.nm 4) (.lst []),.gQ (.nm 5) none [(.call ise [(.bi .len [(.ix (.v 0) (.c (.int 1)))])])] [.asg (.nm 6) (.bin .add (.v 1) (.lst [(.bin .add (.v 2) (.v 5))])),.iff (.call ik [(.v 3),(.ix (.v 0) (.c (.int 3))),(.v 6)]) [.ex (.bW .append (.v 4) [(.tup [(.v 5),(.call ilo [(.v 0),(.v 6)]),(.v 6)])])] []],.ret (.v 4)]⟩
section
variable {names:List (List Nat)}{pl:List (List Bool)}{x:List Bool}
theorem GI {f g f' g':Nat->Bool}:∀ t,(∀ k,k<=t->f k=f' k/\g k=g' k)->jX f g t=jX f' g' t
 |0,h=>(h 0 (Nat.le_refl _)).2
 |t+1,h=>by
  simp only[jX]
  rw[(h (t+1) (Nat.le_refl _)).1,(h (t+1) (Nat.le_refl _)).2,GI t fun k hk=>h k (by omega)]
theorem Y2 {f g:Nat->Bool}(n:Nat)(h:∀ k,k<n->f k=g k):(List.range n).any f=(List.range n).any g:=by
 induction n with
 |zero=>rfl
 |succ n ih=>rw[E9,E9,ih fun k hk=>h k (by omega),h n (by omega)]
theorem WG {f g:Nat->Bool}(n:Nat)(h:∀ k,k<n->f k=g k):(List.range n).all f=(List.range n).all g:=by
 induction n with
 |zero=>rfl
 |succ n ih=>rw[FJ,FJ,ih fun k hk=>h k (by omega),h n (by omega)]
theorem hZ:∀(s:Sy)(t:Nat),t<pl.length->hv names (pl++[x]) s t=hv names pl s t
 |.yes,_,_=>rfl
 |.no,_,_=>rfl
 |.cE n,t,h=>by simp only[hv,HQ];rw[List.getElem?_append_left h]
 |.one .not s,t,h=>by simp only[hv];rw[hZ s t h]
 |.one .before s,t,h=>by simp only[hv];rw[hZ s (t-1) (by omega)]
 |.one .once s,t,h=>by simp only[hv];exact Y2 _ fun k hk=>hZ s k (by omega)
 |.one .sofar s,t,h=>by simp only[hv];exact WG _ fun k hk=>hZ s k (by omega)
 |.two .and s u,t,h=>by simp only[hv];rw[hZ s t h,hZ u t h]
 |.two .or s u,t,h=>by simp only[hv];rw[hZ s t h,hZ u t h]
 |.two .bE s u,t,h=>by simp only[hv];rw[hZ s t h,hZ u t h]
 |.two .same s u,t,h=>by simp only[hv];rw[hZ s t h,hZ u t h]
 |.two .since s u,t,h=>by simp only[hv];exact GI t fun k hk=>⟨hZ s k (by omega),hZ u k (by omega)⟩
theorem X5 (s:Sy):fW names (pl++[x]) pl.length s=fW names pl pl.length s:=by
 unfold fW
 split
 ·rfl
 ·exact hZ _ _ (by omega)
theorem Ht {aI:List Sy}{m:List Bool}(hm:m=aI.map (fW names pl pl.length)):∀ s:Sy,lA aI s->vm names aI m x s=hv names (pl++[x]) s pl.length:=by
 have step:∀ s:Sy,(bM s=true->s∈aI)->(∀ t∈subs s,vm names aI m x t=hv names (pl++[x]) t pl.length)->vm names aI m x s=hv names (pl++[x]) s pl.length:=fun s hp hs=>by
  have hsub:(subs s).map (vm names aI m x)=(subs s).map fun u=>hv names (pl++[x]) u pl.length:=List.map_congr_left hs
  cases h:bM s with
  |true =>
   rw[M5 h,YI h,hsub,X5]
   have dU:=List.idxOf_lt_length_iff.mpr (hp h)
   have:(m[aI.idxOf s]?).getD false=fW names pl pl.length s:=by
    rw[hm,List.getElem?_map,List.getElem?_eq_getElem dU];simp
   rw[this]
  |false =>
   cases hl:fK s with
   |false=>rw[QK h hl,Cy h hl,hsub]
   |true =>
    cases s with
    |cE n=>simp [vm,hv,HQ]
    |_=>cases hl
 intro s
 induction s with
 |yes=>intro _;rfl
 |no=>intro _;rfl
 |cE n=>intro _;exact step _ (fun z=>by cases z) (fun t ht=>by cases ht)
 |one w a ih=>intro h;exact step _ h.1 fun t ht=>by simp only[subs,List.mem_singleton]at ht;subst ht;exact ih h.2
 |two w a b kQ ihb =>
  intro h
  refine step _ h.1 fun t ht=>?_
  simp only[subs,List.mem_cons,List.not_mem_nil,or_false]at ht
  rcases ht with rfl|rfl
  ·exact kQ h.2.1
  ·exact ihb h.2.2
end
theorem KI {P f:List Sy}{s:Sy}(hf:∀ x∈f,lA P x)(hs:lA P s):∀ x∈cZ f s,lA P x:=by
 unfold cZ;split
 ·intro x hx
  rcases List.mem_append.mp hx with hx|hx
  ·exact hf x hx
  ·simp only[List.mem_singleton]at hx;subst hx;exact hs
 ·exact hf
theorem AR {P:List Sy}:∀(s:Sy){f:List Sy},(∀ x∈f,lA P x)->lA P s->∀ x∈aI s f,lA P x
 |.yes,_,hf,_=>hf
 |.no,_,hf,_=>hf
 |.cE _,_,hf,_=>hf
 |.one w s,_,hf,hs=>AR s (KI hf hs) hs.2
 |.two w s t,_,hf,hs=>AR t (AR s (KI hf hs) hs.2.1) hs.2.2
theorem HX {P:List Sy}:∀(l:List Sy){f:List Sy},(∀ x∈f,lA P x)->(∀ s∈l,lA P s)->∀ x∈bV l f,lA P x
 |[],_,hf,_=>hf
 |s::l,_,hf,hl=>HX l (AR s hf (hl s (by simp))) fun x hx=>hl x (by simp [hx])
theorem WH {P:List Sy}{s:Sy}(h:lA P s):lA P (lR s):=by
 cases s with
 |one w a =>
  cases w with
  |before=>exact h.2
  |_=>exact h
 |_=>exact h
def Bk.mem (b:Bk)(pl:List (List Bool)):List Bool:=b.aI.map (fW b.names pl pl.length)
theorem CJ (b:Bk):∀ s∈b.says,lA b.aI s:=fun s hs=>EO b.says [] s hs
theorem YB (b:Bk):∀ s∈b.aI,lA b.aI s:=HX b.says (by simp) (CJ b)
theorem IZ (b:Bk)(pl:List (List Bool))(x:List Bool){s:Sy}(h:lA b.aI s):b.vm (b.mem pl) x s=hv b.names (pl++[x]) s pl.length:=Ht rfl s h
theorem FC (b:Bk)(pl:List (List Bool))(x:List Bool):b.pP (b.mem pl) x=b.mem (pl++[x]):=by
 unfold Bk.pP Bk.mem
 refine List.map_congr_left fun s hs=>?_
 have h:=IZ b pl x (WH (YB b s hs))
 show b.vm (b.mem pl) x (lR s)=_
 rw[h]
 simp [fW]
section
variable {G:Prog}{k i ih ise ik ilo:Nat}{st:aB}{Q:VK}{E:XK}{b:Bk}{l:Nat}{pl:List (List Bool)}
theorem MX (h:G.fns i=some (AM ih))(hh:G.fns ih=some (nX ih)){ss:List Sy}{names:List (List Nat)}(hss:∀ s∈ss,over names s/\aK s<=8)(hn:ss.length<=1000)(hl:st l=some (.lst (pl.map aN)))(hp:∀ bs∈pl,bs.length=names.length)(hpn:pl.length<=1000)(hp0:0<pl.length)
  (hQ:∀ aA,Ext st aA->Q (.bl (ss.all fun s=>hv names pl s (pl.length-1))) aA):aM G (k+9) i [.tup (names.map .str),.tup (ss.map toD),.ref l] st Q E:=by
 have hL:aZ=16777216:=rfl
 rw[aT h]
 simp only[AM,start]
 refine⟨rfl,?_⟩
 have elen:((pl.map aN).length:Int)-1=((pl.length-1:Nat):Int):=by simp;omega
 walk_at"st"
 refine jN toD (fun s=>if(!hv names pl s (pl.length-1))=true then some (toD s)else none) ss [] st (fun aY y a ha=>by cases ha) (fun s hs aY K y1 hK=>?_) (by simp only[List.length_nil];omega) fun aH y2=>?_
 ·rw[cM (y1 _ _ hl),elen]
  refine xC (k:=k) hh hp hpn 8 (s:=s) (hss s hs).2 (hss s hs).1 (by omega) (y1 _ _ hl) fun aV y3=>?_
  walk_at"ex"
  have:=hK aV y3
  cases hv':hv names pl s (pl.length-1)with
  |true=>simpa [hv']using this
  |false=>simpa [hv']using this
 rw[List.nil_append]
 have ef:(ss.filterMap fun s=>if(!hv names pl s (pl.length-1))=true then some (toD s)else none)=(ss.filter fun s=>!hv names pl s (pl.length-1)).map toD:=by
  clear hss hn hQ
  induction ss with
  |nil=>rfl
  |cons a l ih =>
   cases hv':hv names pl a (pl.length-1)with
   |true=>rw[List.filterMap_cons_none (by simp [hv']),List.filter_cons_of_neg (by simp [hv']),ih]
   |false=>rw[List.filterMap_cons_some (b:=toD a) (by simp [hv']),List.filter_cons_of_pos (by simp [hv']),List.map_cons,ih]
 rw[ef]
 have hfl:=List.length_filter_le (fun s=>!hv names pl s (pl.length-1)) ss
 refine bJ (by simp only[List.length_map];omega) fun u aV y3 hu hu3=>?_
 walk_at"ex"
 refine bJ (by simp) fun v cJ y4 hv4 hv4'=>?_
 walk_at"ex"
 have dC:plainS cJ (.ref u):=by
  refine⟨?_,Nat.zero_le _⟩
  simp only[fI,y4 _ _ hu3,KC,HE,Bool.true_and,decide_eq_true_eq]
  refine Nat.le_trans (KQ (n:=8) _ fun s hs=>(hss s (List.mem_filter.mp hs).1).2) (by decide)
 refine⟨dC,iV (is:=[]) hv4',?_⟩
 rw[eq_nil (y4 _ _ hu3) hv4']
 have e:(((ss.filter fun s=>!hv names pl s (pl.length-1)).map toD).isEmpty)=ss.all fun s=>hv names pl s (pl.length-1):=by
  clear hss hn hQ ef dC hu3 hfl
  induction ss with
  |nil=>rfl
  |cons a l ih =>
   cases hv':hv names pl a (pl.length-1)with
   |true=>simp [List.filter_cons,hv']at ih ⊢;exact ih
   |false=>simp [List.filter_cons,hv']
 rw[e]
 exact hQ cJ ((y2.trans y3).trans y4)
theorem TH (h:G.fns i=some (uQ ih))(hh:G.fns ih=some (nX ih))(B:b.Ok)(hl:st l=some (.lst (pl.map aN)))(hp:∀ bs∈pl,bs.length=b.names.length)(hpn:pl.length<=1000)(hp0:0<pl.length)
  (hQ:∀ aA,Ext st aA->Q (.int (pA b.ws fun s=>hv b.names pl s (pl.length-1))) aA):aM G (k+9) i [b.d,.ref l] st Q E:=by
 have hL:aZ=16777216:=rfl
 have f2:=B.f2
 have g2:=B.g2
 have w2:=B.w2
 rw[aT h]
 simp only[uQ,start,Bk.d]
 refine⟨rfl,?_⟩
 have elen:((pl.map aN).length:Int)-1=((pl.length-1:Nat):Int):=by simp;omega
 have en:(b.fs.map D.str++b.gs.map D.str)=b.names.map .str:=by simp [Bk.names]
 walk_at"st"
 refine⟨by simp only[List.length_map];omega,?_⟩
 rw[en]
 walk_at"st"
 refine jN (fun w:Int×Sy=>D.tup [.int w.1,toD w.2]) (fun w=>if(!hv b.names pl w.2 (pl.length-1))=true then some (D.int w.1)else none) b.ws [] st (fun aY y a ha=>by cases ha) (fun w hw aY K y1 hK=>?_) (by simp only[List.length_nil];omega) fun aH y2=>?_
 ·walk_at"ex"
  rw[cM (y1 _ _ hl),elen]
  refine xC (k:=k) hh hp hpn 8 (s:=w.2) (B.w3 w hw).2.2.2 (B.w3 w hw).2.2.1 (by omega) (y1 _ _ hl) fun aV y3=>?_
  walk_at"ex"
  have:=hK aV y3
  cases hv':hv b.names pl w.2 (pl.length-1)with
  |true=>simpa [hv']using this
  |false=>simpa [hv']using this
 rw[List.nil_append]
 refine bJ (by have:=List.length_filterMap_le (fun w:Int×Sy=>if(!hv b.names pl w.2 (pl.length-1))=true then some (D.int w.1)else none) b.ws;omega) fun pp aV y3 hpp qN=>?_
 walk_at"ex"
 rw[aE qN,IV (fun s=>hv b.names pl s (pl.length-1)),bB]
 exact hQ aV (y2.trans y3)
end
end L3
end
section
namespace L3
open PySem
section
variable {G:Prog}{k i ih ise ik ilo:Nat}{st:aB}{Q:VK}{E:XK}{b:Bk}{l:Nat}{pl:List (List Bool)}
theorem J6 (h:G.fns i=some vL){n:Nat}(hd:n<=4)(hQ:∀ p aA,st p=none->Ext st aA->aA p=some (.lst ((cI n).map aN))->Q (.ref p) aA):aM G (k+1) i [.int (n:Nat)] st Q E:=by
 have hL:aZ=16777216:=rfl
 rw[aT h]
 simp only[vL,start]
 refine⟨rfl,?_⟩
 walk_at"st"
 refine bJ (by show 1<=aZ;decide) fun p aC x1 hp hp1=>?_
 walk_at"st"
 refine⟨by unfold dX;omega,?_⟩
 rw[show((n:Int)).toNat=n by omega,lD]
 have p1:aC p=some (.lst ((cI 0).map aN)):=hp1
 refine fY (fun j:Nat=>D.int (j:Nat)) (I:=fun rest σ aA=>∃ t q o2 o3 o4,t<=n/\rest=(List.range n).drop t/\σ=[some (.int (n:Nat)),some (.ref q),o2,o3,o4]/\st q=none/\Ext st aA/\aA q=some (.lst ((cI t).map aN))) (fun rest σ aA _ a ha=>?_) (fun x rest σ aA M ⟨t,q,o2,o3,o4,e0,e1,e2,hq,x3,e5⟩ hM=>?_) (fun σ aA ⟨t,q,o2,o3,o4,e0,e1,e2,hq,x3,e5⟩=>?_) _ _ _ ⟨0,p,none,none,none,Nat.zero_le _,rfl,rfl,hp,x1,p1⟩
 ·cases ha
 ·subst e2
  have ht:t<(List.range n).length:=by
   by_cases z:t<(List.range n).length
   ·exact z
   ·rw[List.drop_eq_nil_of_le (by omega)]at e1;cases e1
  rw[List.drop_eq_getElem_cons ht]at e1
  injection e1 with e3 e4
  simp only[List.length_range]at ht
  have jE:(cI t).length<=16:=by
   rw[gR]
   exact Nat.pow_le_pow_right (n:=2) (by decide) (by omega:t<=4)
  walk_at"st"
  refine bJ (by simp) fun u cJ x4 hu hu4=>?_
  have qu:q≠u:=fun z=>by rw[<-z,e5]at hu;cases hu
  walk_at"st"
  rw[aE (x4 _ _ e5)]
  refine fY aN (I:=fun xR σ cR=>∃ dn o4,cI t=dn++xR/\σ=[some (.int (n:Nat)),some (.ref q),some (.int (x:Nat)),some (.ref u),o4]/\bD [u] cJ cR/\cR u=some (.lst ((dn.flatMap fun r=>[r++[false],r++[true]]).map aN))) (fun xR σ cR ⟨dn,o4,f1,f2,f3,f4⟩=>?_) (fun y xR σ cR M2 ⟨dn,o4,f1,f2,f3,f4⟩ hM2=>?_) (fun σ cR ⟨dn,o4,f1,f2,f3,f4⟩=>?_) _ _ _ ⟨[],o4,rfl,rfl,.refl,hu4⟩
  ·intro a ha
   simp only[List.mem_singleton]at ha
   subst ha
   rw[x4 _ _ e5,f3 _ _ (by simpa using qu) (x4 _ _ e5)]
  ·subst f2
   have hl:(dn.flatMap fun r=>[r++[false],r++[true]]).length<=40:=by
    have:∀ l:List (List Bool),(l.flatMap fun r=>[r++[false],r++[true]]).length=2*l.length:=fun l=>by
     induction l with
     |nil=>rfl
     |cons a l ih=>simp only[List.flatMap_cons,List.length_append,ih,List.length_cons,List.length_nil];omega
    rw[this]
    have:dn.length<=(cI t).length:=by rw[f1];simp
    omega
   have hyl:y.length=t:=jP t y (by rw[f1];simp)
   simp only[aN]
   walk_at"st"
   rw[aE f4]
   refine⟨True.intro,by simp only[List.length_map];omega,by simp only[List.length_map];omega,?_⟩
   refine bJ (by show 2<=aZ;decide) fun w fL x6 hw hw6=>?_
   have wu:w≠u:=fun z=>by rw[z,f4]at hw;cases hw
   rw[aE (x6 _ _ f4),M9,aE hw6]
   refine⟨by simp only[List.length_map,List.length_cons,List.length_nil];omega,?_⟩
   simp only[aF]
   refine hM2 _ _ ⟨dn++[y],_,by simp [f1],rfl,fun a o na e=>by rw[aJ (by simpa using na)];exact x6 _ _ (f3 a o na e),?_⟩
   rw[aP]
   simp [aN,List.flatMap_append]
  ·subst f2
   rw[List.append_nil]at f1
   walk_at"st"
   simp only[aF]
   refine hM _ cR ⟨t+1,u,_,_,_,by omega,e4,rfl,?_,fun a o e=>f3 a o (fun z=>?_) (x4 _ _ (x3 _ _ e)),?_⟩
   ·cases hz:st u with
    |none=>rfl
    |some o=>rw[x3 _ _ hz]at hu;cases hu
   ·simp only[List.mem_singleton]at z
    rw[z]at e
    rw[x3 _ _ e]at hu;cases hu
   ·rw[f4,<-f1];rfl
 ·subst e2
  have ht:n<=t:=by
   by_cases z:t<(List.range n).length
   ·rw[List.drop_eq_getElem_cons z]at e1;cases e1
   ·simpa using z
  have et:t=n:=by omega
  subst et
  walk_at"st"
  exact hQ q aA hq x3 e5
def AH (b:Bk)(m aU fr:List Bool):Bool:=eZ b.ms (b.vm m (aU++fr))
theorem RV (b:Bk){ss:List Sy}(hss:∀ s∈ss,s∈b.says)(pl:List (List Bool))(x:List Bool):(ss.all fun s=>hv b.names (pl++[x]) s ((pl++[x]).length-1))=eZ ss (b.vm (b.mem pl) x):=by
 unfold eZ
 have e:(pl++[x]).length-1=pl.length:=by simp
 rw[e]
 induction ss with
 |nil=>rfl
 |cons a l ih =>
 simp only[List.all_cons]
 rw[ih fun s hs=>hss s (by simp [hs]),IZ b pl x (CJ b a (hss a (by simp)))]
theorem WX (b:Bk)(pl:List (List Bool))(x:List Bool):pA b.ws (fun s=>hv b.names (pl++[x]) s ((pl++[x]).length-1))=pA b.ws (b.vm (b.mem pl) x):=by
 unfold pA
 have e:(pl++[x]).length-1=pl.length:=by simp
 rw[e]
 congr 2
 refine List.filter_congr fun w hw=>?_
 rw[IZ b pl x (CJ b w.2 (by simp only[Bk.says,List.mem_append,List.mem_map];exact .inr ⟨w,hw,rfl⟩))]
def wC (b:Bk)(m aU:List Bool)(x:List Bool×Nat):D:=.tup [aN x.1,.int (pA b.ws (b.vm m (aU++x.1))),.ref x.2]
theorem Y3 (h:G.fns i=some (C4 ise ik ilo))(hse:G.fns ise=some vL)(hk:G.fns ik=some (AM ih))(hlo:G.fns ilo=some (uQ ih))(hh:G.fns ih=some (nX ih))(B:b.Ok)(hdp:∀ x∈b.says,aK x<=8)(hl:st l=some (.lst (pl.map aN)))(hp:∀ bs∈pl,bs.length=b.names.length)(hpn:pl.length<=900){aU:List Bool}(hf:aU.length=b.fs.length)
    (hQ:∀ q aA (xs:List (List Bool×Nat)),st q=none->Ext st aA->xs.map (·.1)=(cI b.gs.length).filter (AH b (b.mem pl) aU)->(∀ x∈xs,st x.2=none/\x.2≠q/\aA x.2=some (.lst ((pl++[aU++x.1]).map aN)))->aA q=some (.lst (xs.map (wC b (b.mem pl) aU)))->Q (.ref q) aA):aM G (k+10) i [b.d,.ref l,aN aU] st Q E:=by
  have hL:aZ=16777216:=rfl
  have f2:=B.f2
  have g2:=B.g2
  have iH:b.names.length=b.fs.length+b.gs.length:=by simp [Bk.names]
  have hd:b.d=.tup [.tup (b.fs.map .str),.tup (b.gs.map .str),.tup (b.ps.map toD),.tup (b.ms.map toD),.tup (b.ws.map fun w=>.tup [.int w.1,toD w.2])]:=rfl
  have en:(b.fs.map D.str++b.gs.map D.str)=b.names.map .str:=by simp [Bk.names]
  rw[aT h]
  simp only[C4,start]
  refine⟨rfl,?_⟩
  rw[hd]
  walk_at"st"
  refine⟨by simp only[List.length_map];omega,?_⟩
  rw[en]
  walk_at"st"
  refine bJ (by simp) fun q aC x1 hq hq1=>?_
  walk_at"st"
  rw[List.length_map]
  refine J6 (k:=k+8) hse (by omega) fun s aH hs x2 hs2=>?_
  walk_at"ex"
  rw[aE hs2,<-hd]
  have jE:(cI b.gs.length).length<=16:=by rw[gR];exact Nat.pow_le_pow_right (n:=2) (by decide) (by omega:b.gs.length<=4)
  have sq:s≠q:=fun z=>by rw[z,hq1]at hs;cases hs
  have lq:l≠q:=fun z=>by rw[z]at hl;rw[hl]at hq;cases hq
  refine fY aN (I:=fun rest σ aA=>∃ dn o5 o6 xs,cI b.gs.length=dn++rest/\σ=[some b.d,some (.ref l),some (aN aU),some (.tup (b.names.map .str)),some (.ref q),o5,o6]/\bD [q] aH aA/\xs.map (·.1)=dn.filter (AH b (b.mem pl) aU)/\(∀ x∈xs,st x.2=none/\x.2≠q/\aA x.2=some (.lst ((pl++[aU++x.1]).map aN)))/\aA q=some (.lst (xs.map (wC b (b.mem pl) aU)))) (fun rest σ aA ⟨dn,o5,o6,xs,e1,e2,k1,e3,e4,e5⟩=>?_) (fun fr rest σ aA M ⟨dn,o5,o6,xs,e1,e2,k1,e3,e4,e5⟩ hM'=>?_) (fun σ aA ⟨dn,o5,o6,xs,e1,e2,k1,e3,e4,e5⟩=>?_) _ _ _ ⟨[],none,none,[],rfl,rfl,.refl,rfl,by simp,x2 _ _ hq1⟩
  · intro a ha
    simp only[List.mem_singleton]at ha
    subst ha
    rw[hs2,k1 _ _ (by simp [sq]) hs2]
  · subst e2
    have hfr:fr.length=b.gs.length:=jP _ _ (by rw[e1];simp)
    have hdn : dn.length ≤ 16 := by have:dn.length≤(cI b.gs.length).length:=by rw[e1];simp
                                    omega
    have hxl:xs.length<=16:=by
      have:=congrArg List.length e3
      rw[List.length_map]at this
      have h2:=List.length_filter_le (AH b (b.mem pl) aU) dn
      omega
    have hl':aA l=some (.lst (pl.map aN)):=k1 l _ (by simpa using lq) (x2 _ _ (x1 _ _ hl))
    walk_at"st"
    rw[CG]
    refine⟨by omega,?_⟩
    refine bJ (by show 1<=aZ;decide) fun w aV x3 hw hw3=>?_
    walk_at"ex"
    rw[aE (x3 _ _ hl'),aE hw3]
    have el:pl.map aN++[aN (aU++fr)]=(pl++[aU++fr]).map aN:=by simp
    rw[el]
    refine bJ (by simp only[List.length_map,List.length_append,List.length_cons,List.length_nil];omega) fun lo cJ x4 hlo4 hlo4'=>?_
    have hlo':aA lo=none:=iZ x3 hlo4
    have loq:lo≠q:=fun z=>by rw[z,e5]at hlo';cases hlo'
    have fF:st lo=none:=by
      cases hz:st lo with
      |none=>rfl
      |some o=>rw[k1 lo o (by simpa using loq) (x2 _ _ (x1 _ _ hz))]at hlo';cases hlo'
    have hp4:∀ bs∈pl++[aU++fr],bs.length=b.names.length:=fun bs hbs=>by
      rcases List.mem_append.mp hbs with hbs|hbs
      ·exact hp bs hbs
      ·simp only[List.mem_singleton]at hbs;subst hbs;simp [hf,hfr,iH]
    walk_at"ex"
    walk_at"st"
    rw[hd]
    walk_at"ex"
    refine MX (k:=k) hk hh (names:=b.names) (ss:=b.ms) (fun s hs=>⟨(qZ B s (by simp [Bk.says,hs])).1,hdp s (by simp [Bk.says,hs])⟩) (by have:=B.m1;omega) hlo4' hp4 (by simp;omega) (by simp) fun cR x5=>?_
    rw[RV b (fun s hs=>by simp [Bk.says,hs]),<-hd]
    walk_at"ex"
    have y35:=x3.trans (x4.trans x5)
    cases hv:AH b (b.mem pl) aU fr with
    |false =>
      have hv':eZ b.ms (b.vm (b.mem pl) (aU++fr))=false:=hv
      rw[hv']
      simp only[Bool.false_eq_true,if_false,aF]
      refine hM' _ cR ⟨dn++[fr],_,_,xs,by simp [e1],rfl,k1.trans y35.keep,by rw[List.filter_append,List.filter_cons_of_neg (by simp [hv]),List.filter_nil,List.append_nil,e3],fun x hx=>⟨(e4 x hx).1,(e4 x hx).2.1,y35 _ _ (e4 x hx).2.2⟩,y35 _ _ e5⟩
    |true =>
      have hv':eZ b.ms (b.vm (b.mem pl) (aU++fr))=true:=hv
      rw[hv']
      simp only[if_true]
      walk_at"st"
      rw[aE (y35 _ _ e5)]
      refine⟨True.intro,?_⟩
      refine TH (k:=k) hlo hh B (x5 _ _ hlo4') hp4 (by simp;omega) (by simp) fun fL x6=>?_
      rw[WX]
      walk_at"ex"
      have y36:=y35.trans x6
      rw[aE (y36 _ _ e5)]
      refine⟨by simp only[List.length_map];omega,?_⟩
      simp only[aF]
      refine hM' _ _ ⟨dn++[fr],_,_,xs++[(fr,lo)],by simp [e1],rfl,?_,?_,?_,?_⟩
      · intro a o na e
        rw[aJ (by simpa using na)]
        exact y36 _ _ (k1 a o na e)
      ·rw[List.filter_append,List.filter_cons_of_pos (by simp [hv]),List.filter_nil,List.map_append,e3];rfl
      · intro x hx
        rcases List.mem_append.mp hx with hx|hx
        ·exact⟨(e4 x hx).1,(e4 x hx).2.1,by rw[aJ (e4 x hx).2.1];exact y36 _ _ (e4 x hx).2.2⟩
        · simp only[List.mem_singleton]at hx
          subst hx
          exact⟨fF,loq,by rw[aJ loq];exact x6 _ _ (x5 _ _ hlo4')⟩
      ·rw[aP];simp [wC]
  · subst e2
    rw[List.append_nil]at e1
    walk_at"st"
    refine hQ q aA xs hq (fun a o e=>?_) (by rw[e3,e1]) e4 e5
    have aq:a≠q:=fun z=>by rw[z,hq]at e;cases e
    exact k1 a o (by simpa using aq) (x2 _ _ (x1 _ _ e))
end
end L3
end
section
namespace L3
open PySem
def D0 (ilm ise ik ia:Nat):Fn:=⟨1,12,[.asg (.nm 1) (.lst [(.lst [])]),.asg (.nm 2) (.lst [(.call ilm [(.v 0),(.lst [])])]),.asg (.nm 3) (.lst []),.whl (.cmp .lt (.bi .len [(.v 3)]) (.bi .len [(.v 1)])) [.asg (.nm 4) (.ix (.v 1) (.bi .len [(.v 3)])),.asg (.nm 5) (.lst []),.gQ (.nm 6) none [(.call ise [(.bi .len [(.ix (.v 0) (.c (.int 0)))])])] [.iff (.call ik [(.bin .add (.ix (.v 0) (.c (.int 0))) (.ix (.v 0) (.c (.int 1)))),(.ix (.v 0) (.c (.int 2))),(.bin .add (.v 4) (.lst [(.bin .add (.v 6) (.bin .mul (.tup [(.c (.bl false))]) (.bi .len [(.ix (.v 0) (.c (.int 1)))])))]))]) [.asg (.nm 7) (.lst []),.gQ (.tp [8,9,10]) none [(.call ia [(.v 0),(.v 4),(.v 6)])] [.asg (.nm 11) (.call ilm [(.v 0),(.v 10)]),.iff (.cmp .fE (.v 11) (.v 2)) [.ex (.bW .append (.v 2) [(.v 11)]),.ex (.bW .append (.v 1) [(.v 10)])] [],.ex (.bW .append (.v 7) [(.tup [(.v 8),(.v 9),(.bW .index (.v 2) [(.v 11)])])])],.ex (.bW .append (.v 5) [(.tup [(.v 6),(.bi .tuple [(.v 7)])])])] []],.ex (.bW .append (.v 3) [(.tup [(.ix (.v 2) (.bi .len [(.v 3)])),(.bi .tuple [(.v 5)])])])],.ret (.v 3)]⟩
def kG (b:Bk)(m aU:List Bool)(x:List lM×List (List Bool))(fr:List Bool):List lM×List (List Bool) :=
 (x.1++[(fr,pA b.ws (b.vm m (aU++fr)),(gA x.2 (b.pP m (aU++fr))).idxOf (b.pP m (aU++fr)))],gA x.2 (b.pP m (aU++fr)))
theorem WC (b:Bk)(m aU:List Bool)(met:List (List Bool)):jM b m aU met=((cI b.gs.length).filter (AH b m aU)).foldl (kG b m aU) ([],met):=by
 rw[List.foldl_filter];rfl
theorem MU {b:Bk}{m aU:List Bool}:∀(l:List (List Bool)){x:List lM×List (List Bool)},iR b.aI.length x.2->iR b.aI.length (l.foldl (kG b m aU) x).2
 |[],_,h=>h
 |fr::l,_,h=>MU l (h.add (M1 b m _))
theorem E7 {b:Bk}{m aU:List Bool}:∀(l:List (List Bool)){x:List lM×List (List Bool)},(l.foldl (kG b m aU) x).1.length=x.1.length+l.length
 |[],_=>rfl
 |fr::l,x=>by rw[List.foldl_cons,E7 l];simp [kG];omega
theorem S8 (met:List (List Bool))(m:List Bool):met <+: gA met m:=by
 unfold gA;split
 ·exact List.prefix_refl _
 ·exact List.prefix_append _ _
theorem M6 {b:Bk}{m aU:List Bool}:∀(l:List (List Bool))(x:List lM×List (List Bool)),x.2 <+: (l.foldl (dG b m aU) x).2
 |[],_=>List.prefix_refl _
 |fr::l,x=>by
  refine List.IsPrefix.trans ?_ (M6 l (dG b m aU x fr))
  unfold dG;split
  ·exact S8 _ _
  ·exact List.prefix_refl _
theorem MK {b:Bk}{m:List Bool}:∀(l:List (List Bool))(x:List (List Bool×List lM)×List (List Bool)),x.2 <+: (l.foldl (dF b m) x).2
 |[],_=>List.prefix_refl _
 |fr::l,x=>List.IsPrefix.trans (M6 _ ([],x.2)) (MK l (dF b m x fr))
theorem PU {b:Bk}{m:List Bool}(met:List (List Bool)):met <+: (kA b m met).2:=MK _ ([],met)
abbrev GG:=List (Nat×List (List Bool))
structure fA (st:aB)(b:Bk)(as:List Nat)(n:Nat)(cD:GG):Prop where
 all:∀ x∈cD,x.1∉as/\st x.1=some (.lst (x.2.map aN))/\(∀ bs∈x.2,bs.length=b.names.length)/\x.2.length<=n
theorem fA.keep {st aA:aB}{b:Bk}{as:List Nat}{n:Nat}{cD:GG}(P:fA st b as n cD)(k:bD as st aA):fA aA b as n cD :=
 ⟨fun x hx=>⟨(P.all x hx).1,k _ _ (P.all x hx).1 (P.all x hx).2.1,(P.all x hx).2.2⟩⟩
theorem fA.new {st:aB}{b:Bk}{as:List Nat}{n a:Nat}{cD:GG}(P:fA st b as n cD)(ha:st a=none):fA st b (a::as) n cD :=
 ⟨fun x hx=>⟨fun z=>by
 rcases List.mem_cons.mp z with z|z
 ·have:=(P.all x hx).2.1;rw[z,ha]at this;cases this
 ·exact(P.all x hx).1 z,(P.all x hx).2⟩⟩
theorem fA.less {st:aB}{b:Bk}{as:List Nat}{n a:Nat}{cD:GG}(P:fA st b (a::as) n cD):fA st b as n cD :=
 ⟨fun x hx=>⟨fun z=>(P.all x hx).1 (by simp [z]),(P.all x hx).2⟩⟩
theorem fA.up {st:aB}{b:Bk}{as:List Nat}{n n':Nat}{cD:GG}(P:fA st b as n cD)(h:n<=n'):fA st b as n' cD :=
 ⟨fun x hx=>⟨(P.all x hx).1,(P.all x hx).2.1,(P.all x hx).2.2.1,Nat.le_trans (P.all x hx).2.2.2 h⟩⟩
theorem fA.add {st:aB}{b:Bk}{as:List Nat}{n:Nat}{cD:GG}(P:fA st b as n cD){x:Nat×List (List Bool)}(hx:x.1∉as/\st x.1=some (.lst (x.2.map aN))/\(∀ bs∈x.2,bs.length=b.names.length)/\x.2.length<=n):fA st b as n (cD++[x]) :=
 ⟨fun y hy=>by
 rcases List.mem_append.mp hy with hy|hy
 ·exact P.all y hy
 ·simp only[List.mem_singleton]at hy;subst hy;exact hx⟩
def Bk.fR (b:Bk)(cD:GG):List (List Bool):=cD.map fun x=>b.mem x.2
def refs (cD:GG):List D:=cD.map fun x=>.ref x.1
theorem mem_set (b:Bk)(pl:List (List Bool)):D.tup ((bV b.says []).map fun s=>.bl (fW b.names pl pl.length s))=aN (b.mem pl):=by
 simp [aN,Bk.mem,Bk.aI]
theorem Y0 (b:Bk):b.mem []=b.aI.map eQ:=by
 unfold Bk.mem
 refine List.map_congr_left fun s _=>?_
 simp [fW]
theorem OB (n:Nat):(List.replicate n [D.bl false]).flatten=(List.replicate n false).map D.bl:=by
 induction n with
 |zero=>rfl
 |succ n ih=>simp [List.replicate_succ,ih]
section
variable {G:Prog}{k i ih ise ik ilo ilm ia ibp ip:Nat}{st:aB}{Q:VK}{E:XK}{b:Bk}
theorem SF (h:G.fns i=some (D0 ilm ise ik ia))(hlm:G.fns ilm=some (uM ibp ih))(hbp:G.fns ibp=some (mU ip))(hpp:G.fns ip=some (kH ip))(hh:G.fns ih=some (nX ih))(hse:G.fns ise=some vL)(hk:G.fns ik=some (AM ih))(hia:G.fns ia=some (C4 ise ik ilo))(hlo:G.fns ilo=some (uQ ih))(B:b.Ok)(hs:eJ b.says<=5000)(kF:b.aI.length<=4)(hdp:∀ x∈b.says,aK x<=8)(hov:∀ s∈bV b.says [],over b.names s/\aK s<=8)
  (hQ:∀ p aA,st p=none->Ext st aA->aA p=some (.lst ((qW b).map gI))->Q (.ref p) aA):aM G (k+11) i [b.d] st Q E:=by
 have hL:aZ=16777216:=rfl
 have f2:=B.f2
 have g2:=B.g2
 have g1:=B.g1
 have iH:b.names.length=b.fs.length+b.gs.length:=by simp [Bk.names]
 have hd:b.d=.tup [.tup (b.fs.map .str),.tup (b.gs.map .str),.tup (b.ps.map toD),.tup (b.ms.map toD),.tup (b.ws.map fun w=>.tup [.int w.1,toD w.2])]:=rfl
 have en:(b.fs.map D.str++b.gs.map D.str)=b.names.map .str:=by simp [Bk.names]
 rw[aT h]
 simp only[D0,start]
 refine⟨rfl,?_⟩
 walk_at"st"
 refine bJ (by simp) fun p0 aC x1 hp0 hp01=>?_
 walk_at"ex"
 refine bJ (by show 1<=aZ;decide) fun a1 aH x2 ha1 ha12=>?_
 walk_at"st"
 refine bJ (by simp) fun e0 aV x3 he0 he03=>?_
 refine D5 (k:=k) hlm hbp hpp hh B hs (by show b.aI.length<=5000;omega) (bA:=[]) he03 (by simp) (by simp) hov fun cJ x4=>?_
 rw[mem_set]
 walk_at"ex"
 refine bJ (by show 1<=aZ;decide) fun a2 cR x5 ha2 ha25=>?_
 walk_at"st"
 refine bJ (by simp) fun a3 fL x6 ha3 ha36=>?_
 walk_at"ex"
 have a12:a1≠a2:=fun z=>by rw[<-z,x4 _ _ (x3 _ _ ha12)]at ha2;cases ha2
 have a13:a1≠a3:=fun z=>by rw[<-z,x5 _ _ (x4 _ _ (x3 _ _ ha12))]at ha3;cases ha3
 have a23:a2≠a3:=fun z=>by rw[<-z,ha25]at ha3;cases ha3
 have n1:st a1=none:=iZ x1 ha1
 have x14:=x1.trans (x2.trans (x3.trans x4))
 have n2:st a2=none:=iZ x14 ha2
 have n3:st a3=none:=iZ (x14.trans x5) ha3
 have PL0:fA fL b [a1,a2,a3] 0 [(p0,[])]:=by
  refine(fA.keep ?_ x6.keep:fA fL b [a1,a2,a3] 0 [(p0,[])])
  have q0:fA aC b [] 0 [(p0,[])]:=⟨fun x hx=>by simp only[List.mem_singleton]at hx;subst hx;exact⟨by simp,hp01,by simp,Nat.le_refl _⟩⟩
  have q3:=((((q0.new ha1).keep (x2.trans (x3.trans x4)).keep).new ha2).keep x5.keep).new ha3
  exact⟨fun x hx=>⟨fun z=>(q3.all x hx).1 (by simp only[List.mem_cons,List.not_mem_nil,or_false]at z ⊢;rcases z with z|z|z<;>simp [z]),(q3.all x hx).2⟩⟩
 rw[cU]
 refine xM (pQ G (Nat.le_refl _)) (I:=fun mm σ aA=>∃ j cD o4 o5 o6 o7 o8 o9 kE lO,mm+(aX b j).2.length=17/\j<=17/\(aX b j).2.length=j/\(aX b j).1=b.fR cD/\σ=[some b.d,some (.ref a1),some (.ref a2),some (.ref a3),o4,o5,o6,o7,o8,o9,kE,lO]/\Ext st aA/\fA aA b [a1,a2,a3] j cD/\aA a1=some (.lst (refs cD))/\aA a2=some (.lst ((b.fR cD).map aN))/\aA a3=some (.lst ((aX b j).2.map gI))) ?_ (m:=17) ⟨0,[(p0,[])],none,none,none,none,none,none,none,none,rfl,by omega,rfl,by simp [aX,Bk.fR,Y0],rfl,x14.trans (x5.trans x6),PL0,x6 _ _ (x5 _ _ (x4 _ _ (x3 _ _ ha12))),x6 _ _ ha25,ha36⟩
 rintro mm σ aA ⟨j,cD,o4,o5,o6,o7,o8,o9,kE,lO,e0,e0',ej,em,e2,xs,PL,s1,s2,s3⟩
 subst e2
 have FL:=sZ b j
 have sS:=FL.P9 kF
 have hlen:=tW b kF j
 have dC:cD.length=(aX b j).1.length:=by rw[em];simp [Bk.fR]
 walk_at"ex"
 rw[cM s3]
 walk_at"ex"
 rw[cM s1]
 walk_at"ex"
 by_cases dU:(aX b j).2.length<(aX b j).1.length
 ·have hc:(((aX b j).2.map gI).length:Int)<(refs cD).length:=by simp only[List.length_map,refs];omega
  rw[if_pos (by simpa using hc)]
  have hjm:j<cD.length:=by omega
  generalize hx:cD[j]=lp
  obtain⟨l,pl⟩:=lp
  have hxg:cD[j]? = some (l,pl):=by rw[List.getElem?_eq_getElem hjm,hx]
  have Kw:(l,pl)∈cD:=List.mem_of_getElem? hxg
  have hmg:(aX b j).1[j]? = some (b.mem pl):=by rw[em];simp [Bk.fR,List.getElem?_map,hxg]
  have LM:=(PL.all _ Kw).2
  have Ou:pl.length<=j:=LM.2.2
  walk_at"st"
  rw[cM s3]
  walk_at"ex"
  rw[dZ s1,List.length_map,ej,dY (by simp only[refs,List.length_map];exact hjm),refs,List.getElem?_map,hxg,Option.map_some,bB]
  walk_at"ex"
  walk_at"st"
  refine bJ (by simp) fun a5 pX x7 h5 h57=>?_
  walk_at"ex"
  rw[hd]
  walk_at"st"
  rw[List.length_map]
  refine J6 (k:=k+9) hse (by omega) fun s gE hs8 x8 hs88=>?_
  walk_at"ex"
  rw[aE hs88,<-hd]
  have y8:=x7.trans x8
  have m1:a1≠a5:=fun z=>by rw[<-z,s1]at h5;cases h5
  have m2:a2≠a5:=fun z=>by rw[<-z,s2]at h5;cases h5
  have m3:a3≠a5:=fun z=>by rw[<-z,s3]at h5;cases h5
  have t1:a1≠s:=fun z=>by rw[<-z,x7 _ _ s1]at hs8;cases hs8
  have t2:a2≠s:=fun z=>by rw[<-z,x7 _ _ s2]at hs8;cases hs8
  have t5:a5≠s:=fun z=>by rw[<-z,h57]at hs8;cases hs8
  have n5:st a5=none:=iZ xs h5
  have jE:(cI b.fs.length).length<=16:=by rw[gR];exact Nat.pow_le_pow_right (n:=2) (by decide) (by omega:b.fs.length<=4)
  refine fY aN (I:=fun rest σ kD=>∃ dn cD o6 o7 o8 o9 kE lO X,cI b.fs.length=dn++rest/\X=(dn.filter fun aU=>eZ b.ps (b.vm (b.mem pl) (aU++List.replicate b.gs.length false))).foldl (dF b (b.mem pl)) ([],(aX b j).1)/\X.1.length<=dn.length/\X.2=b.fR cD/\σ=[some b.d,some (.ref a1),some (.ref a2),some (.ref a3),some (.ref l),some (.ref a5),o6,o7,o8,o9,kE,lO]/\Ext st kD/\(l,pl)∈cD/\fA kD b [a5,a1,a2,a3] (j+1) cD/\kD a1=some (.lst (refs cD))/\kD a2=some (.lst ((b.fR cD).map aN))/\kD a3=some (.lst ((aX b j).2.map gI))/\kD a5=some (.lst (X.1.map nE))/\kD s=some (.lst ((cI b.fs.length).map aN))) (fun rest σ kD ⟨dn,cD,o6,o7,o8,o9,kE,lO,X,g1,gX,gl,gm,g2,gx,gp,gP,r1,r2,r3,r5,rs⟩=>?_) (fun aU rest σ kD M ⟨dn,cD,o6,o7,o8,o9,kE,lO,X,g1,gX,gl,gm,g2,gx,gp,gP,r1,r2,r3,r5,rs⟩ hM'=>?_) (fun σ kD ⟨dn,cD,o6,o7,o8,o9,kE,lO,X,g1,gX,gl,gm,g2,gx,gp,gP,r1,r2,r3,r5,rs⟩=>?_) _ _ _ ⟨[],cD,_,_,_,_,_,_,([],(aX b j).1),rfl,rfl,by simp,em,rfl,xs.trans y8,Kw,((PL.new h5).keep y8.keep).up (by omega),y8 _ _ s1,y8 _ _ s2,y8 _ _ s3,x8 _ _ h57,hs88⟩
  ·intro a ha
   simp only[List.mem_singleton]at ha
   subst ha
   rw[hs88,rs]
  ·subst g2
   have hfo:aU.length=b.fs.length:=jP _ _ (by rw[g1];simp)
   have hdn:dn.length<=16:=by rw[g1]at jE;simp at jE;omega
   have hMx:iR b.aI.length X.2:=by rw[gX];exact tV (b:=b) (m:=b.mem pl) _ (x:=([],(aX b j).1)) FL
   have hl9:=(gP.all _ gp).2.1
   walk_at"st"
   rw[hd]
   walk_at"ex"
   refine⟨by simp only[List.length_map];omega,?_⟩
   rw[en]
   walk_at"ex"
   rw[List.length_map]
   refine⟨by simp;omega,?_⟩
   rw[show((b.gs.length:Int)).toNat=b.gs.length by omega,OB]
   rw[show D.tup ((List.replicate b.gs.length false).map D.bl)=aN (List.replicate b.gs.length false)from rfl,CG]
   refine⟨by simp;omega,?_⟩
   refine bJ (by show 1<=aZ;decide) fun w xQ x10 hw hw10=>?_
   walk_at"ex"
   rw[aE (x10 _ _ hl9),aE hw10]
   have el:pl.map aN++[aN (aU++List.replicate b.gs.length false)]=(pl++[aU++List.replicate b.gs.length false]).map aN:=by simp
   rw[el]
   refine bJ (by simp only[List.length_map,List.length_append,List.length_cons,List.length_nil];omega) fun lo FK x11 hlo11 hlo11'=>?_
   have hp4:∀ bs∈pl++[aU++List.replicate b.gs.length false],bs.length=b.names.length:=fun bs hbs=>by
    rcases List.mem_append.mp hbs with hbs|hbs
    ·exact LM.2.1 bs hbs
    ·simp only[List.mem_singleton]at hbs;subst hbs;simp [hfo,iH]
   refine MX (k:=k+1) hk hh (names:=b.names) (ss:=b.ps) (fun s hs=>⟨(qZ B s (by simp [Bk.says,hs])).1,hdp s (by simp [Bk.says,hs])⟩) (by have:=B.p1;omega) hlo11' hp4 (by simp;omega) (by simp) fun O4 x12=>?_
   rw[RV b (fun s hs=>by simp [Bk.says,hs]),<-hd]
   walk_at"ex"
   have y12:=x10.trans (x11.trans x12)
   have gx12:=gx.trans y12
   have gP12:=gP.keep y12.keep
   have r1':=y12 _ _ r1
   have r2':=y12 _ _ r2
   have r3':=y12 _ _ r3
   have r5':=y12 _ _ r5
   have rs':=y12 _ _ rs
   cases hv:eZ b.ps (b.vm (b.mem pl) (aU++List.replicate b.gs.length false))with
   |false =>
    simp only[Bool.false_eq_true,if_false,aF]
    refine hM' _ O4 ⟨dn++[aU],cD,_,_,_,_,_,_,X,by simp [g1],by rw[List.filter_append,List.filter_cons_of_neg (by simp [hv]),List.filter_nil,List.append_nil,gX],by simp;omega,gm,rfl,gx12,gp,gP12,r1',r2',r3',r5',rs'⟩
   |true =>
    simp only[if_true]
    walk_at"st"
    refine bJ (by simp) fun a7 Ov x13 h7 h713=>?_
    walk_at"st"
    refine Y3 (k:=k) (l:=l) (pl:=pl) hia hse hk hlo hh B hdp (x13 _ _ (gP12.all _ gp).2.1) LM.2.1 (by omega) hfo fun q Ow ys hq x14' hys hya hq14=>?_
    walk_at"ex"
    rw[aE hq14]
    have y14:=x13.trans x14'
    have b1:a1≠a7:=fun z=>by rw[<-z,r1']at h7;cases h7
    have b2:a2≠a7:=fun z=>by rw[<-z,r2']at h7;cases h7
    have b3:a3≠a7:=fun z=>by rw[<-z,r3']at h7;cases h7
    have b5:a5≠a7:=fun z=>by rw[<-z,r5']at h7;cases h7
    have bs:s≠a7:=fun z=>by rw[<-z,rs']at h7;cases h7
    have c1:q≠a1:=fun z=>by rw[z,x13 _ _ r1']at hq;cases hq
    have c2:q≠a2:=fun z=>by rw[z,x13 _ _ r2']at hq;cases hq
    have c7:q≠a7:=fun z=>by rw[z,h713]at hq;cases hq
    have n7:st a7=none:=iZ gx12 h7
    have hyl:ys.length<=16:=by
     have h1:=congrArg List.length hys
     rw[List.length_map]at h1
     have h2:=List.length_filter_le (AH b (b.mem pl) aU) (cI b.gs.length)
     have h3:(cI b.gs.length).length<=16:=by rw[gR];exact Nat.pow_le_pow_right (n:=2) (by decide) (by omega:b.gs.length<=4)
     omega
    have hya':∀ x∈ys,x.2∉[a7,a5,a1,a2,a3]:=fun x hx z=>by
     have:=(hya x hx).1
     simp only[List.mem_cons,List.not_mem_nil,or_false]at z
     rcases z with z|z|z|z|z
     ·rw[z,h713]at this;cases this
     ·rw[z,x13 _ _ r5']at this;cases this
     ·rw[z,x13 _ _ r1']at this;cases this
     ·rw[z,x13 _ _ r2']at this;cases this
     ·rw[z,x13 _ _ r3']at this;cases this
    have eA:jM b (b.mem pl) aU X.2=(ys.map (·.1)).foldl (kG b (b.mem pl) aU) ([],X.2):=by rw[WC,hys]
    refine fY (wC b (b.mem pl) aU) (I:=fun rest σ oV=>∃ dm cD o8 o9 kE lO Y,ys=dm++rest/\Y=(dm.map (·.1)).foldl (kG b (b.mem pl) aU) ([],X.2)/\Y.2=b.fR cD/\σ=[some b.d,some (.ref a1),some (.ref a2),some (.ref a3),some (.ref l),some (.ref a5),some (aN aU),some (.ref a7),o8,o9,kE,lO]/\Ext st oV/\(l,pl)∈cD/\fA oV b [a7,a5,a1,a2,a3] (j+1) cD/\(∀ x∈ys,oV x.2=some (.lst ((pl++[aU++x.1]).map aN)))/\oV a1=some (.lst (refs cD))/\oV a2=some (.lst ((b.fR cD).map aN))/\oV a3=some (.lst ((aX b j).2.map gI))/\oV a5=some (.lst (X.1.map nE))/\oV s=some (.lst ((cI b.fs.length).map aN))/\oV a7=some (.lst (Y.1.map qA))/\oV q=some (.lst (ys.map (wC b (b.mem pl) aU)))) (fun rest σ oV ⟨dm,cD,o8,o9,kE,lO,Y,k1,kY,km,k2,kx,kp,kP,ky,v1,v2,v3,v5,vs,v7,vq⟩=>?_) (fun fr rest σ oV M2 ⟨dm,cD,o8,o9,kE,lO,Y,k1,kY,km,k2,kx,kp,kP,ky,v1,v2,v3,v5,vs,v7,vq⟩ hM2=>?_) (fun σ oV ⟨dm,cD,o8,o9,kE,lO,Y,k1,kY,km,k2,kx,kp,kP,ky,v1,v2,v3,v5,vs,v7,vq⟩=>?_) _ _ _ ⟨[],cD,_,_,_,_,([],X.2),rfl,rfl,gm,rfl,gx12.trans y14,gp,(gP12.new h7).keep y14.keep,fun x hx=>(hya x hx).2.2,y14 _ _ r1',y14 _ _ r2',y14 _ _ r3',y14 _ _ r5',y14 _ _ rs',x14' _ _ h713,hq14⟩
    ·intro a ha
     simp only[List.mem_singleton]at ha
     subst ha
     rw[hq14,vq]
    ·subst k2
     have hfm:fr∈ys:=by rw[k1];simp
     have hfr:fr.1.length=b.gs.length:=by
      have:fr.1∈ys.map (·.1):=List.mem_map.mpr ⟨fr,hfm,rfl⟩
      rw[hys]at this
      exact jP _ _ (List.mem_filter.mp this).1
     have hlong:=ky fr hfm
     have hp5:∀ bs∈pl++[aU++fr.1],bs.length=b.names.length:=fun bs hbs=>by
      rcases List.mem_append.mp hbs with hbs|hbs
      ·exact LM.2.1 bs hbs
      ·simp only[List.mem_singleton]at hbs;subst hbs;simp [hfo,hfr,iH]
     have hMy:iR b.aI.length Y.2:=by rw[kY];exact MU _ hMx
     have hYf:=hMy.P9 kF
     have hdm:dm.length<=16:=by rw[k1]at hyl;simp at hyl;omega
     have hY1:Y.1.length<=16:=by rw[kY,E7];simp;omega
     have hYs:((dm++[fr]).map (·.1)).foldl (kG b (b.mem pl) aU) ([],X.2)=kG b (b.mem pl) aU Y fr.1:=by rw[List.map_append,List.foldl_append,<-kY];rfl
     have hps:cD.length<=16:=by rw[km]at hYf;simpa [Bk.fR]using hYf
     simp only[wC]
     walk_at"ex"
     walk_at"st"
     refine D5 (k:=k) hlm hbp hpp hh B hs (by show b.aI.length<=5000;omega) hlong hp5 (by simp;omega) hov fun LN x16=>?_
     rw[mem_set,<-FC]
     walk_at"ex"
     walk_at"st"
     have u1:=x16 _ _ v1
     have u2:=x16 _ _ v2
     have u3:=x16 _ _ v3
     have u5:=x16 _ _ v5
     have us:=x16 _ _ vs
     have u7:=x16 _ _ v7
     have uq:=x16 _ _ vq
     have uP:=kP.keep x16.keep
     have ux:=kx.trans x16
     have uy:∀ x∈ys,LN x.2=some (.lst ((pl++[aU++x.1]).map aN)):=fun x hx=>x16 _ _ (ky x hx)
     generalize hmm:b.pP (b.mem pl) (aU++fr.1)=mm'
     have fin:∀ BK qO pls',b.fR pls'=gA (b.fR cD) mm'->Ext st qO->(l,pl)∈pls'->fA qO b [a7,a5,a1,a2,a3] (j+1) pls'->(∀ x∈ys,qO x.2=some (.lst ((pl++[aU++x.1]).map aN)))->qO a1=some (.lst (refs pls'))->qO a2=some (.lst ((b.fR pls').map aN))->qO a3=some (.lst ((aX b j).2.map gI))->qO a5=some (.lst (X.1.map nE))->qO s=some (.lst ((cI b.fs.length).map aN))->qO a7=some (.lst (Y.1.map qA))->qO q=some (.lst (ys.map (wC b (b.mem pl) aU)))->cN (aM G (k+10)) G.sub [.ex (.bW .append (.v 7) [(.tup [(.v 8),(.v 9),(.bW .index (.v 2) [(.v 11)])])])] ⟨M2,Q,BK,M2,fun c _ aA=>E c aA⟩ [some b.d,some (.ref a1),some (.ref a2),some (.ref a3),some (.ref l),some (.ref a5),some (aN aU),some (.ref a7),some (aN fr.1),some (.int (pA b.ws (b.vm (b.mem pl) (aU++fr.1)))),some (.ref fr.2),some (aN mm')] qO:=fun BK qO pls' w0 w1 w2 w3 w4 z1 z2 z3 z5 zs z7 zq=>by
      walk_at"st"
      rw[aE z7]
      refine⟨True.intro,?_⟩
      rw[pS,oN,aE z2,rK,oN,aE z2]
      refine⟨True.intro,tI mm',oX _,?_⟩
      rw[w0,AE (KU _ mm'),bB]
      walk_at"ex"
      rw[aE z7]
      refine⟨by simp only[List.length_map];omega,?_⟩
      simp only[aF]
      refine hM2 _ _ ⟨dm++[fr],pls',_,_,_,_,kG b (b.mem pl) aU Y fr.1,by simp [k1],hYs.symm,?_,rfl,?_,w2,w3.keep (bD.put (by simp)),?_,?_,?_,?_,?_,?_,?_,?_⟩
      ·rw[w0,<-km,<-hmm];rfl
      ·intro a o e
       rw[aJ (fun z=>by rw[z,n7]at e;cases e)];exact w1 _ _ e
      ·intro x hx
       rw[aJ (fun z=>hya' x hx (by simp [z]))];exact w4 x hx
      ·rw[aJ b1];exact z1
      ·rw[aJ b2];exact z2
      ·rw[aJ b3];exact z3
      ·rw[aJ b5];exact z5
      ·rw[aJ bs];exact zs
      ·rw[aP];simp [kG,qA,hmm,km,w0]
      ·rw[aJ c7];exact zq
     rw[oW,cM u2,MN]
     refine⟨tI mm',oX _,?_⟩
     cases hc':(b.fR cD).contains mm' with
     |true =>
      simp only[Bool.not_true,Bool.false_eq_true,if_false,aF]
      have e:gA (b.fR cD) mm'=b.fR cD:=by unfold gA;rw[hc'];rfl
      exact fin _ LN cD e.symm ux kp uP uy u1 u2 u3 u5 us u7 uq
     |false =>
      simp only[Bool.not_false,if_true]
      have e:gA (b.fR cD) mm'=b.fR cD++[mm']:=by unfold gA;rw[hc'];rfl
      walk_at"st"
      rw[aE u2]
      refine⟨True.intro,?_⟩
      rw[aE u2]
      refine⟨by simp only[List.length_map,Bk.fR];omega,?_⟩
      walk_at"st"
      have u1':(put LN a2 (.lst ((b.fR cD).map aN++[aN mm']))) a1=some (.lst (refs cD)):=by rw[aJ a12];exact u1
      rw[aE u1']
      refine⟨True.intro,?_⟩
      rw[aE u1']
      refine⟨by simp only[List.length_map,refs];omega,?_⟩
      simp only[aF]
      have kk:bD [a7,a5,a1,a2,a3] LN (put (put LN a2 (.lst ((b.fR cD).map aN++[aN mm']))) a1 (.lst (refs cD++[.ref fr.2]))):=(bD.put (by simp)).trans (bD.put (by simp))
      refine fin _ _ (cD++[(fr.2,pl++[aU++fr.1])]) ?_ ?_ (by simp [kp]) ?_ ?_ ?_ ?_ ?_ ?_ ?_ ?_ ?_
      ·rw[e];simp [Bk.fR,<-hmm,FC]
      ·intro a o ea
       rw[aJ (fun z=>by rw[z,n1]at ea;cases ea),aJ (fun z=>by rw[z,n2]at ea;cases ea)];exact ux _ _ ea
      ·exact(uP.keep kk).add ⟨hya' fr hfm,kk _ _ (hya' fr hfm) (uy fr hfm),hp5,by simp;omega⟩
      ·intro x hx
       exact kk _ _ (hya' x hx) (uy x hx)
      ·rw[aP];simp [refs]
      ·rw[aJ (Ne.symm a12),aP];simp [Bk.fR,<-hmm,FC]
      ·rw[aJ (Ne.symm a13),aJ (Ne.symm a23)];exact u3
      ·rw[aJ (Ne.symm m1),aJ (Ne.symm m2)];exact u5
      ·rw[aJ (Ne.symm t1),aJ (Ne.symm t2)];exact us
      ·rw[aJ (Ne.symm b1),aJ (Ne.symm b2)];exact u7
      ·rw[aJ c1,aJ c2];exact uq
    ·subst k2
     rw[List.append_nil]at k1
     have eY:jM b (b.mem pl) aU X.2=Y:=by rw[eA,kY,k1]
     have hY1:Y.1.length<=16:=by rw[kY,E7];simp;rw[<-k1];exact hyl
     walk_at"st"
     rw[aE v5]
     refine⟨True.intro,?_⟩
     rw[aE v7]
     refine⟨by simp only[List.length_map];omega,?_⟩
     rw[aE v5]
     refine⟨by simp only[List.length_map];omega,?_⟩
     simp only[aF]
     refine hM' _ _ ⟨dn++[aU],cD,_,_,_,_,_,_,dF b (b.mem pl) X aU,by simp [g1],?_,by simp [dF];omega,?_,rfl,?_,kp,kP.less.keep (bD.put (by simp)),?_,?_,?_,?_,?_⟩
     ·rw[List.filter_append,List.filter_cons_of_pos (by simp [hv]),List.filter_nil,List.foldl_append,<-gX];rfl
     ·simp only[dF];rw[eY];exact km
     ·intro a o e
      rw[aJ (fun z=>by rw[z,n5]at e;cases e)];exact kx _ _ e
     ·rw[aJ m1];exact v1
     ·rw[aJ m2];exact v2
     ·rw[aJ m3];exact v3
     ·rw[aP];simp [dF,nE,eY]
     ·rw[aJ (Ne.symm t5)];exact vs
  ·subst g2
   rw[List.append_nil]at g1
   have eM:kA b (b.mem pl) (aX b j).1=X:=by unfold kA oY;rw[g1,gX]
   have hdn:dn.length<=16:=by rw[<-g1];exact jE
   have eG:aX b (j+1)=(X.2,(aX b j).2++[(b.mem pl,X.1)]):=by
    simp only[aX,wD]
    rw[if_pos dU,ej,hmg]
    show((kA b (b.mem pl) (aX b j).1).2,_)=_
    rw[<-eM];rfl
   walk_at"st"
   rw[aE r3]
   refine⟨True.intro,?_⟩
   have hg:(aX b j).1=b.fR cD->True:=fun _=>trivial
   have hpre:(b.fR cD)[j]? = some (b.mem pl):=by
    have h1:=PU (b:=b) (m:=b.mem pl) (aX b j).1
    rw[eM,gm]at h1
    obtain⟨t,ht⟩:=h1
    rw[<-ht,List.getElem?_append_left (by omega),hmg]
   have hjl:j<(b.fR cD).length:=by
    by_cases z:j<(b.fR cD).length
    ·exact z
    ·rw[List.getElem?_eq_none (by omega)]at hpre;cases hpre
   rw[cM r3]
   walk_at"ex"
   rw[dZ r2,List.length_map,ej,dY (by simpa using hjl),List.getElem?_map,hpre,Option.map_some,bB]
   walk_at"ex"
   rw[aE r5]
   refine⟨by simp only[List.length_map];omega,?_⟩
   rw[aE r3]
   refine⟨by simp only[List.length_map];omega,?_⟩
   simp only[aF]
   refine⟨mm-1,by omega,j+1,cD,_,_,_,_,_,_,_,_,by rw[eG];simp;omega,by omega,by rw[eG];simp [ej],by rw[eG];exact gm,rfl,?_,gP.less.keep (bD.put (by simp)),?_,?_,?_⟩
   ·intro a o e
    rw[aJ (fun z=>by rw[z,n3]at e;cases e)];exact gx _ _ e
   ·rw[aJ a13];exact r1
   ·rw[aJ a23];exact r2
   ·rw[aP,eG];simp [gI]
 ·have hc:¬(((aX b j).2.map gI).length:Int)<(refs cD).length:=by simp only[List.length_map,refs];omega
  rw[if_neg (by simpa using hc)]
  walk_at"st"
  have hfin:qW b=(aX b j).2:=by
   unfold qW
   have:=wM b dU (17-j)
   rw[show j+(17-j)=17 by omega]at this
   rw[this]
  exact hQ a3 aA n3 xs (by rw[hfin];exact s3)
end
end L3
end
section
namespace L3
open PySem
def J8 (ibo iga ilg:Nat):Fn:=⟨1,3,[.asg (.nm 1) (.call ibo [(.v 0),(.c (.int 0)),(.c (.int 3)),(.c (.int 2))]),.asg (.nm 2) (.call iga [(.v 1)]),.iff (.or_ (.not_ (.isi (.v 2) [.list])) (.cmp .ne (.comp 1 [] [0] true none [(.v 2)] [(.not_ (.isi (.v 0) [.tuple]))] (.v 0)) (.lst []))) [.ret (.c (.bl false))] [],.ret (.cmp .eq (.v 2) (.call ilg [(.v 1)]))]⟩
theorem sX {α:Type}(f:α->D){n:Nat}(h:∀ x,bI (f x)=true/\cL (f x)<=n):∀ l:List α,bN (l.map f)=true/\cK (l.map f)<=n
 |[]=>⟨rfl,Nat.zero_le _⟩
 |a::l=>by
  have h1:=h a
  have h2:=sX f h l
  simp only[List.map_cons,bN,h1.1,h2.1,Bool.and_self,cK,true_and]
  omega
theorem S5 (a:lM):bI (qA a)=true/\cL (qA a)<=2:=by
 have h:=vJ a.1
 simp only[qA,bI,bN,oP,Bool.and_self,cL,cK,true_and];omega
theorem P0 (x:List Bool×List lM):bI (nE x)=true/\cL (nE x)<=4:=by
 have h:=vJ x.1
 have h2:=sX qA S5 x.2
 simp only[nE,bI,bN,oP,h2.1,Bool.and_self,cL,cK,true_and];omega
theorem P1 (x:Node):bI (gI x)=true/\cL (gI x)<=6:=by
 have h:=vJ x.1
 have h2:=sX nE P0 x.2
 simp only[gI,bI,bN,oP,h2.1,Bool.and_self,cL,cK,true_and];omega
theorem LR (b:Bk)(kF:b.aI.length<=4)(j:Nat):(aX b j).2.length<=16:=by
 have h1:=(sZ b j).P9 kF
 have h2:=tW b kF j
 omega
section
variable {G:Prog}{k il ibo iga ilg inm ic im eD is ipr ibk ich iti iri ie iw ipo iz irr io ini ifs ian jV ifk kQ imk ino ima ilo iph inh ih ise ik ilo8 ilm ia ibp ip:Nat}{st:aB}{E:XK}{ns:List Int}
theorem Hs (h:G.fns il=some (J8 ibo iga ilg))(hbo:G.fns ibo=some (HM inm eD is ipr))(iH:G.fns inm=some (CV eD))(hpr:G.fns ipr=some (DW is eD))(hs:G.fns is=some (rC eD is))(hn:G.fns eD=some (wI im))(hm:G.fns im=some (pJ ic))(hc:G.fns ic=some qV)
  (hga:G.fns iga=some (HS ich iri ini ifs ian))(hch:G.fns ich=some (rM ibk))(hb:∀ b:Bk,b.Ok->eJ b.says<aZ->(∀ x∈b.says,aK x<=60)->(bV b.says []).length<=4->O0 G ibk 13 b)(hri:G.fns iri=some (yW iti io))(ht:G.fns iti=some (oR iz ie irr))(hz:G.fns iz=some (lG iw))(he:G.fns ie=some (sD ie iw ipo))(hw:G.fns iw=some iL)(hpo:G.fns ipo=some pI)(hrr:G.fns irr=some CN)(hio:G.fns io=some uS)
  (hni:G.fns ini=some D4)(hfs:G.fns ifs=some (DG jV ifk kQ))(han:G.fns ian=some (JC jV kQ imk ino ima ilo))(hset:G.fns jV=some xK)(hfk:G.fns ifk=some C3)(hha:G.fns kQ=some (tN iph inh))(hnh:G.fns inh=some wA)(hph:G.fns iph=some qT)(hmk:G.fns imk=some DS)(hno:G.fns ino=some AQ)(hma:G.fns ima=some CP)(hlo:G.fns ilo=some A5)
  (hlg:G.fns ilg=some (D0 ilm ise ik ia))(hlm:G.fns ilm=some (uM ibp ih))(hbp:G.fns ibp=some (mU ip))(hpp:G.fns ip=some (kH ip))(hh:G.fns ih=some (nX ih))(hse:G.fns ise=some vL)(hk:G.fns ik=some (AM ih))(hia:G.fns ia=some (C4 ise ik ilo8))(hlo8:G.fns ilo8=some (uQ ih)):aM G (k+16) il [.bP (ns.map .int)] st (fun d _=>d=.bl true) E:=by
 have hL:aZ=16777216:=rfl
 rw[aT h]
 simp only[J8,start]
 refine⟨rfl,?_⟩
 walk_at"st"
 refine W0 (k:=k+8) hbo iH hpr hs hn hm hc (by decide) (by decide) (by decide) (by decide) fun b aC DR x1=>?_
 obtain⟨F1,F2,F3,F4⟩:=RJ DR (by decide)
 have hB:=hb b DR.ok (by omega) F2 F3
 walk_at"ex"
 walk_at"st"
 refine W4 (k:=k) hga hch hB hri ht hz he hw hpo hrr hio hni hfs han hset hfk hha hnh hph hmk hno hma hlo DR.ok (by omega) F3 fun p aH hp x2 gU=>?_
 have hgs:(qW b).length<=16:=by unfold qW;exact LR b F3 17
 generalize hgm:qW b=gm at gU hgs
 walk_at"ex"
 walk_at"st"
 rw[cM gU,aE gU]
 refine jN gI (fun _=>none) (gm) [] aH (fun aY y a ha=>?_) (fun v hv' aY K y1 hK=>hK aY .refl) (by simp only[List.length_nil];omega) fun aV x3=>?_
 ·simp only[List.mem_singleton]at ha
  subst ha
  rw[gU,y _ _ gU]
 rw[List.nil_append,show(gm).filterMap (fun _=>(none:Option L3.D))=[]by simp]
 refine bJ (by simp) fun u cJ x4 hu hu4=>?_
 refine bJ (by simp) fun u2 cR x5 hu2 hu5=>?_
 refine⟨iV (is:=[]) (x5 _ _ hu4),iV (is:=[]) hu5,?_⟩
 rw[eq_nil (x5 _ _ hu4) hu5]
 simp only[List.isEmpty_nil,Bool.not_true,Bool.false_eq_true,if_false,aF]
 walk_at"st"
 have hp5:=x5 _ _ (x4 _ _ (x3 _ _ gU))
 refine SF (k:=k+4) hlg hlm hbp hpp hh hse hk hia hlo8 DR.ok (by omega) F3 (fun x hx=>by have:=DR.d4 x hx;omega) F4 fun q fL hq x6 hq6=>?_
 rw[hgm]at hq6
 have hp6:=x6 _ _ hp5
 have hpn:=sX gI P1 (gm)
 have dC:∀ r,fL r=some (.lst ((gm).map gI))->plainS fL (.ref r):=fun r hr=>by
  refine⟨?_,Nat.zero_le _⟩
  simp only[fI,hr,KC,hpn.1,Bool.true_and,decide_eq_true_eq]
  exact Nat.le_trans hpn.2 (by decide)
 walk_at"ex"
 refine⟨dC _ hp6,dC _ hq6,?_⟩
 simp only[bT,hp6,hq6,C6]
 rw[B9 _ hpn.1]
end
end L3
end
end
namespace L3
open PySem PySem.Spec PyProof.Rows L2
def g_LETTERS:D:=(.str (W "abcdefghijklmnopqrstuvwxyz"))
def g_LONGEST_NAME:D:=(.int 8)
def g_NO_NAMES:D:=(.tup [(.str (W "yes")),(.str (W "no")),(.str (W "not")),(.str (W "and")),(.str (W "or")),(.str (W "then")),(.str (W "same")),(.str (W "before")),(.str (W "once")),(.str (W "sofar")),(.str (W "since")),(.str (W "foe")),(.str (W "friend")),(.str (W "promise")),(.str (W "must")),(.str (W "wish"))])
def g_DEEPEST:D:=(.int 8)
def g_SAYINGS_WITHIN:D:=(.dB [(.str (W "yes")),(.str (W "no")),(.str (W "not")),(.str (W "before")),(.str (W "once")),(.str (W "sofar")),(.str (W "and")),(.str (W "or")),(.str (W "then")),(.str (W "same")),(.str (W "since"))] [(.int 0),(.int 0),(.int 1),(.int 1),(.int 1),(.int 1),(.int 2),(.int 2),(.int 2),(.int 2),(.int 2)])
def g_PAST_WORDS:D:=(.tup [(.str (W "before")),(.str (W "once")),(.str (W "sofar")),(.str (W "since"))])
def g_MOST_LAMPS:D:=(.int 2)
def g_MOST_PROMISES:D:=(.int 3)
def g_MOST_MUSTS:D:=(.int 3)
def g_MOST_WISHES:D:=(.int 5)
def g_HIGHEST_PRICE:D:=(.int 99)
def g_MOST_PIECES:D:=(.int 4)
abbrev zH:Nat:=0
abbrev uI:Nat:=1
abbrev lH:Nat:=2
abbrev iF:Nat:=3
abbrev pB:Nat:=4
abbrev mH:Nat:=5
abbrev BN:Nat:=6
abbrev pZ:Nat:=7
abbrev qD:Nat:=8
abbrev uK:Nat:=9
abbrev DM:Nat:=10
abbrev GX:Nat:=11
abbrev zP:Nat:=12
abbrev nV:Nat:=13
abbrev yZ:Nat:=14
abbrev G0:Nat:=15
abbrev BR:Nat:=16
abbrev zW:Nat:=17
abbrev sA:Nat:=18
abbrev qB:Nat:=19
abbrev rH:Nat:=20
abbrev lS:Nat:=21
abbrev nA:Nat:=22
abbrev nC:Nat:=23
abbrev rD:Nat:=24
abbrev qS:Nat:=25
abbrev nF:Nat:=26
abbrev tY:Nat:=27
abbrev qH:Nat:=28
abbrev nT:Nat:=29
abbrev mP:Nat:=30
abbrev uX:Nat:=31
abbrev zZ:Nat:=32
abbrev P5:Nat:=33
abbrev vK:Nat:=34
abbrev yU:Nat:=35
abbrev fT:Nat:=36
abbrev zM:Nat:=37
abbrev gK:Nat:=38
abbrev vP:Nat:=39
abbrev BQ:Nat:=40
abbrev qE:Nat:=41
abbrev pR:Nat:=42
abbrev kT:Nat:=43
abbrev yH:Nat:=44
abbrev uF:Nat:=45
abbrev BB:Nat:=46
abbrev nM:Nat:=47
abbrev vQ:Nat:=48
abbrev BC:Nat:=49
abbrev U7:Nat:=50
def FZ:Fn:=⟨1,1,[.iff (.or_ (.not_ (.isi (.v 0) [.str])) (.cmp .in_ (.v 0) (.c g_NO_NAMES))) [.ret (.c (.bl false))] [],.ret (.and_ (.chain .le .le (.c (.int 1)) (.bi .len [(.v 0)]) (.c g_LONGEST_NAME)) (.bi .all [(.comp 1 [] [0] true none [(.v 0)] [] (.cmp .in_ (.v 0) (.c g_LETTERS)))]))]⟩
def BD:Fn:=⟨2,2,[.ret (.call lH [(.v 0),(.v 1),(.c g_DEEPEST)])]⟩
def pE:Fn:=⟨3,3,[.iff (.or_ (.cmp .lt (.v 2) (.c (.int 1))) (.or_ (.not_ (.isi (.v 1) [.tuple])) (.or_ (.cmp .lt (.bi .len [(.v 1)]) (.c (.int 1))) (.not_ (.isi (.ix (.v 1) (.c (.int 0))) [.str]))))) [.ret (.c (.bl false))] [],.iff (.cmp .eq (.ix (.v 1) (.c (.int 0))) (.c (.str (W "lamp")))) [.ret (.and_ (.cmp .eq (.bi .len [(.v 1)]) (.c (.int 2))) (.and_ (.call zH [(.ix (.v 1) (.c (.int 1)))]) (.cmp .in_ (.ix (.v 1) (.c (.int 1))) (.v 0))))] [],.iff (.or_ (.cmp .fE (.ix (.v 1) (.c (.int 0))) (.c g_SAYINGS_WITHIN)) (.cmp .ne (.bi .len [(.v 1)]) (.bin .add (.c (.int 1)) (.ix (.c g_SAYINGS_WITHIN) (.ix (.v 1) (.c (.int 0))))))) [.ret (.c (.bl false))] [],.ret (.bi .all [(.comp 1 [0,2] [0] true none [(.sl (.v 1) [(.c (.int 1))] [])] [] (.call lH [(.v 1),(.v 0),(.bin .sub (.v 2) (.c (.int 1)))]))])]⟩
def rE:Fn:=⟨1,1,[.iff (.cmp .eq (.ix (.v 0) (.c (.int 0))) (.c (.str (W "lamp")))) [.ret (.tup [])] [],.ret (.sl (.v 0) [(.c (.int 1))] [])]⟩
def BX:Fn:=⟨1,4,[.asg (.nm 1) (.lst []),.asg (.nm 2) (.bit .list .rev [(.v 0)]),.whl (.v 2) [.asg (.nm 3) (.bW .pop (.v 2) []),.iff (.and_ (.cmp .in_ (.ix (.v 3) (.c (.int 0))) (.c g_PAST_WORDS)) (.cmp .fE (.v 3) (.v 1))) [.ex (.bW .append (.v 1) [(.v 3)])] [],.ex (.bW .extend (.v 2) [(.bit .list .rev [(.call iF [(.v 3)])])])],.ret (.v 1)]⟩
def IM:Fn:=⟨3,3,[.ret (.and_ (.isi (.v 0) [.tuple]) (.chain .le .le (.v 1) (.bi .len [(.v 0)]) (.v 2)))]⟩
def BV:Fn:=⟨2,3,[.iff (.or_ (.not_ (.call mH [(.v 0),(.c (.int 1)),(.c g_MOST_LAMPS)])) (.not_ (.call mH [(.v 1),(.c (.int 1)),(.c g_MOST_LAMPS)]))) [.ret (.c (.bl false))] [],.asg (.nm 2) (.bin .add (.v 0) (.v 1)),.ret (.and_ (.bi .all [(.comp 1 [] [0] true none [(.v 2)] [] (.call zH [(.v 0)]))]) (.cmp .eq (.bi .sU [(.v 2)]) (.bi .len [(.v 2)])))]⟩
def yB:Fn:=⟨3,3,[.ret (.and_ (.call mH [(.v 1),(.c (.int 0)),(.v 2)]) (.bi .all [(.comp 1 [0] [0] true none [(.v 1)] [] (.call uI [(.v 1),(.v 0)]))]))]⟩
def xV:Fn:=⟨2,2,[.iff (.cmp .eq (.ix (.v 1) (.c (.int 0))) (.c (.str (W "before")))) [.ret (.c (.bl false))] [],.iff (.cmp .eq (.ix (.v 1) (.c (.int 0))) (.c (.str (W "lamp")))) [.ret (.cmp .in_ (.ix (.v 1) (.c (.int 1))) (.v 0))] [],.ret (.bi .any [(.comp 1 [0] [0] true none [(.call iF [(.v 1)])] [] (.call qD [(.v 1),(.v 0)]))])]⟩
def uY:Fn:=⟨3,3,[.ret (.and_ (.call pZ [(.v 0),(.v 2),(.c g_MOST_PROMISES)]) (.not_ (.bi .any [(.comp 1 [1] [0] true none [(.v 2)] [] (.call qD [(.v 1),(.v 0)]))])))]⟩
def C8:Fn:=⟨1,1,[.ret (.and_ (.isi (.v 0) [.int]) (.and_ (.not_ (.isi (.v 0) [.bool])) (.chain .le .le (.c (.int 1)) (.v 0) (.c g_HIGHEST_PRICE))))]⟩
def FW:Fn:=⟨2,2,[.ret (.and_ (.call mH [(.v 1),(.c (.int 2)),(.c (.int 2))]) (.and_ (.call DM [(.ix (.v 1) (.c (.int 0)))]) (.call uI [(.v 0),(.ix (.v 1) (.c (.int 1)))])))]⟩
def zJ:Fn:=⟨2,2,[.ret (.and_ (.call mH [(.v 1),(.c (.int 1)),(.c g_MOST_WISHES)]) (.bi .all [(.comp 1 [0] [0] true none [(.v 1)] [] (.call GX [(.v 1),(.v 0)]))]))]⟩
def zO:Fn:=⟨3,3,[.ret (.bin .add (.bin .add (.bi .list [(.v 0)]) (.bi .list [(.v 1)])) (.comp 1 [] [0] true none [(.v 2)] [] (.ix (.v 0) (.c (.int 1)))))]⟩
def HA:Fn:=⟨1,6,[.iff (.or_ (.not_ (.call mH [(.v 0),(.c (.int 5)),(.c (.int 5))])) (.not_ (.call BN [(.ix (.v 0) (.c (.int 0))),(.ix (.v 0) (.c (.int 1)))]))) [.ret (.c (.bl false))] [],.asg (.nm 1) (.ix (.v 0) (.c (.int 1))),.asg (.nm 2) (.bin .add (.ix (.v 0) (.c (.int 0))) (.v 1)),.asg (.nm 3) (.ix (.v 0) (.c (.int 2))),.asg (.nm 4) (.ix (.v 0) (.c (.int 3))),.asg (.nm 5) (.ix (.v 0) (.c (.int 4))),.iff (.or_ (.not_ (.call uK [(.v 2),(.v 1),(.v 3)])) (.not_ (.call pZ [(.v 2),(.v 4),(.c g_MOST_MUSTS)]))) [.ret (.c (.bl false))] [],.ret (.and_ (.call zP [(.v 2),(.v 5)]) (.cmp .le (.bi .len [(.call pB [(.call nV [(.v 3),(.v 4),(.v 5)])])]) (.c g_MOST_PIECES)))]⟩
def FX:Fn:=rM yZ
def BM:Fn:=wA
def zV:Fn:=qT
def rO:Fn:=oR pB qB lS
def xU:Fn:=sD qB iF rH
def rW:Fn:=pI
def lU:Fn:=CN
def tT:Fn:=tN zW BR
def nK:Fn:=CP
def rG:Fn:=yW sA nV
def qR:Fn:=C3
def nI:Fn:=DS
def tS:Fn:=A5
def xW:Fn:=xK
def nW:Fn:=D4
def mQ:Fn:=AQ
def uT:Fn:=DG qH qS nA
def yV:Fn:=JC qH nA nF mP nC tY
def RG:Fn:=HS G0 rD nT uX zZ
def vF:Fn:=⟨2,2,[.iff (.cmp .lt (.v 1) (.bi .len [(.v 0)])) [.ret (.ix (.v 0) (.v 1))] [],.iff (.cmp .eq (.v 0) (.lst [])) [.ret (.c (.int 0))] [],.ret (.bin .add (.bin .mul (.ix (.v 0) (.bin .mod (.v 1) (.bi .len [(.v 0)]))) (.c (.int 31))) (.v 1))]⟩
def yR:Fn:=⟨3,4,[.asg (.nm 3) (.bin .mod (.bin .mul (.bin .add (.bin .add (.call vK [(.v 0),(.v 1)]) (.bin .mul (.c (.int 7919)) (.v 1))) (.c (.int 1))) (.c (.int 48271))) (.c (.int 2147483647))),.ret (.bin .mod (.bin .mod (.bin .add (.bin .add (.bin .mul (.v 3) (.v 3)) (.bin .mul (.c (.int 7)) (.v 3))) (.v 1)) (.c (.int 2147483629))) (.v 2))]⟩
def BG:Fn:=⟨3,3,[.asg (.ix (.v 1) (.c (.int 0))) (.bin .add (.ix (.v 1) (.c (.int 0))) (.c (.int 1))),.ret (.call yU [(.v 0),(.ix (.v 1) (.c (.int 0))),(.v 2)])]⟩
def yS:Fn:=⟨2,7,[.asg (.nm 2) (.lst [(.c (.str (W "a"))),(.c (.str (W "b"))),(.c (.str (W "x"))),(.c (.str (W "y"))),(.c (.str (W "lamp"))),(.c (.str (W "far"))),(.c (.str (W "yesno"))),(.c (.str (W "abcdefgh")))]),.asg (.nm 3) (.call fT [(.v 0),(.v 1),(.c (.int 8))]),.asg (.nm 4) (.bin .add (.sl (.v 2) [(.v 3)] []) (.sl (.v 2) [] [(.v 3)])),.asg (.nm 5) (.bin .add (.c (.int 1)) (.call fT [(.v 0),(.v 1),(.c (.int 2))])),.asg (.nm 6) (.bin .add (.c (.int 1)) (.call fT [(.v 0),(.v 1),(.c (.int 2))])),.ret (.tup [(.bi .tuple [(.sl (.v 4) [] [(.v 5)])]),(.bi .tuple [(.sl (.v 4) [(.v 5)] [(.bin .add (.v 5) (.v 6))])])])]⟩
def xZ:Fn:=⟨5,7,[.asg (.nm 5) (.call fT [(.v 0),(.v 1),(.c (.int 13))]),.iff (.or_ (.cmp .eq (.v 3) (.c (.int 0))) (.cmp .lt (.v 5) (.c (.int 3)))) [.ret (.tup [(.c (.str (W "lamp"))),(.ix (.v 2) (.call fT [(.v 0),(.v 1),(.bi .len [(.v 2)])]))])] [],.iff (.cmp .eq (.v 5) (.c (.int 3))) [.ret (.tup [(.ix (.lst [(.c (.str (W "yes"))),(.c (.str (W "no")))]) (.call fT [(.v 0),(.v 1),(.c (.int 2))]))])] [],.iff (.and_ (.cmp .gt (.v 5) (.c (.int 8))) (.cmp .gt (.ix (.v 4) (.c (.int 0))) (.c (.int 0)))) [.asg (.ix (.v 4) (.c (.int 0))) (.bin .sub (.ix (.v 4) (.c (.int 0))) (.c (.int 1))),.asg (.nm 6) (.call gK [(.v 0),(.v 1),(.v 2),(.bin .sub (.v 3) (.c (.int 1))),(.v 4)]),.iff (.cmp .eq (.v 5) (.c (.int 12))) [.ret (.tup [(.c (.str (W "since"))),(.v 6),(.call gK [(.v 0),(.v 1),(.v 2),(.bin .sub (.v 3) (.c (.int 1))),(.v 4)])])] [],.ret (.tup [(.ix (.lst [(.c (.str (W "before"))),(.c (.str (W "once"))),(.c (.str (W "sofar")))]) (.bin .sub (.v 5) (.c (.int 9)))),(.v 6)])] [],.asg (.nm 6) (.call gK [(.v 0),(.v 1),(.v 2),(.bin .sub (.v 3) (.c (.int 1))),(.v 4)]),.iff (.or_ (.cmp .eq (.v 5) (.c (.int 4))) (.cmp .gt (.v 5) (.c (.int 8)))) [.ret (.tup [(.c (.str (W "not"))),(.v 6)])] [],.ret (.tup [(.ix (.lst [(.c (.str (W "and"))),(.c (.str (W "or"))),(.c (.str (W "then"))),(.c (.str (W "same")))]) (.bin .sub (.v 5) (.c (.int 5)))),(.v 6),(.call gK [(.v 0),(.v 1),(.v 2),(.bin .sub (.v 3) (.c (.int 1))),(.v 4)])])]⟩
def vN:Fn:=DW gK fT
def BP:Fn:=HM zM fT gK vP
def yF:Fn:=⟨2,3,[.iff (.and_ (.cmp .in_ (.ix (.v 0) (.c (.int 0))) (.tup [(.c (.str (W "before"))),(.c (.str (W "once"))),(.c (.str (W "sofar"))),(.c (.str (W "since")))])) (.cmp .fE (.v 0) (.v 1))) [.ex (.bW .append (.v 1) [(.v 0)])] [],.iff (.cmp .ne (.ix (.v 0) (.c (.int 0))) (.c (.str (W "lamp")))) [.gQ (.nm 2) none [(.sl (.v 0) [(.c (.int 1))] [])] [.ex (.call qE [(.v 2),(.v 1)])]] [],.ret (.v 1)]⟩
def pU:Fn:=mU qE
def yN:Fn:=nX kT
def xX:Fn:=uM pR kT
def B4:Fn:=AM kT
def BW:Fn:=uQ kT
def tD:Fn:=vL
def uW:Fn:=C4 nM uF BB
def BH:Fn:=D0 yH nM uF vQ
def VA:Fn:=J8 BQ P5 BC
def Mm:Nat->Option Fn
 |0=>some FZ
 |1=>some BD
 |2=>some pE
 |3=>some rE
 |4=>some BX
 |5=>some IM
 |6=>some BV
 |7=>some yB
 |8=>some xV
 |9=>some uY
 |10=>some C8
 |11=>some FW
 |12=>some zJ
 |13=>some zO
 |14=>some HA
 |15=>some FX
 |16=>some BM
 |17=>some zV
 |18=>some rO
 |19=>some xU
 |20=>some rW
 |21=>some lU
 |22=>some tT
 |23=>some nK
 |24=>some rG
 |25=>some qR
 |26=>some nI
 |27=>some tS
 |28=>some xW
 |29=>some nW
 |30=>some mQ
 |31=>some uT
 |32=>some yV
 |33=>some RG
 |34=>some vF
 |35=>some yR
 |36=>some BG
 |37=>some yS
 |38=>some xZ
 |39=>some vN
 |40=>some BP
 |41=>some yF
 |42=>some pU
 |43=>some yN
 |44=>some xX
 |45=>some B4
 |46=>some BW
 |47=>some tD
 |48=>some uW
 |49=>some BH
 |50=>some VA
 |_=>none
def Lh:Nat->Nat->Bool
 |0,0=>true
 |1,1=>true
 |1,0=>true
 |2,2=>true
 |2,1=>true
 |2,0=>true
 |_,_=>false
def G:Prog:=⟨Mm,Lh⟩
abbrev bd (n:Nat):Stmt:=PySem.Challenge.pw_leastloss_k08_whole_game.main.body.getD n (.Pass ⟨0,0,0,0⟩)
def dO:Nat->Stmt
 |0=>bd 10
 |1=>bd 11
 |2=>bd 12
 |3=>bd 13
 |4=>bd 14
 |5=>bd 22
 |6=>bd 23
 |7=>bd 24
 |8=>bd 25
 |9=>bd 26
 |10=>bd 27
 |11=>bd 28
 |12=>bd 29
 |13=>bd 30
 |14=>bd 31
 |15=>bd 32
 |16=>bd 34
 |17=>bd 35
 |18=>kB (bd 36) 0
 |19=>kB (bd 36) 1
 |20=>kB (bd 36) 2
 |21=>kB (bd 36) 3
 |22=>kB (bd 36) 4
 |23=>kB (bd 36) 5
 |24=>kB (bd 37) 0
 |25=>kB (bd 37) 1
 |26=>kB (bd 37) 2
 |27=>kB (bd 37) 3
 |28=>bd 39
 |29=>kB (bd 40) 0
 |30=>kB (bd 40) 1
 |31=>bd 41
 |32=>bd 42
 |33=>bd 43
 |34=>bd 45
 |35=>bd 46
 |36=>bd 47
 |37=>bd 48
 |38=>bd 49
 |39=>bd 50
 |40=>bd 51
 |41=>bd 52
 |42=>bd 53
 |43=>bd 54
 |44=>bd 55
 |45=>bd 56
 |46=>bd 57
 |47=>bd 58
 |48=>bd 59
 |49=>bd 60
 |50=>bd 61
 |_=>.Pass ⟨0,0,0,0⟩
def vA:Nat->Str
 |0 =>"is_name"
 |1 =>"is_saying"
 |2 =>"is_saying_within"
 |3 =>"sayings_within"
 |4 =>"pieces_in"
 |5 =>"is_row"
 |6 =>"are_lamps"
 |7 =>"are_sayings"
 |8 =>"stands_bare"
 |9 =>"are_promises"
 |10 =>"is_price"
 |11 =>"is_wish"
 |12 =>"are_wishes"
 |13 =>"sayings_of"
 |14 =>"is_book"
 |15 =>"checked"
 |16 =>"now_holds"
 |17 =>"past_holds"
 |18 =>"__init__"
 |19 =>"enter"
 |20 =>"place_of"
 |21 =>"remembered_row"
 |22 =>"held_at"
 |23 =>"memory_after"
 |24 =>"__init__"
 |25 =>"foe_keeps"
 |26 =>"friend_keeps"
 |27 =>"loss_at"
 |28 =>"settings_of"
 |29 =>"__init__"
 |30 =>"number_of"
 |31 =>"foe_settings"
 |32 =>"answers_to"
 |33 =>"game"
 |34 =>"_law_cell_at"
 |35 =>"_law_mixed"
 |36 =>"_law_next"
 |37 =>"_law_names"
 |38 =>"_law_saying"
 |39 =>"_law_promise"
 |40 =>"_law_book"
 |41 =>"_law_pieces"
 |42 =>"_law_book_pieces"
 |43 =>"_law_holds"
 |44 =>"_law_memory"
 |45 =>"_law_kept"
 |46 =>"_law_loss"
 |47 =>"_law_settings"
 |48 =>"_law_answers"
 |49 =>"_law_game"
 |50 =>"law"
 |_ =>""
def oH:Nat->Str
 |0 =>"is_name"
 |1 =>"is_saying"
 |2 =>"is_saying_within"
 |3 =>"sayings_within"
 |4 =>"pieces_in"
 |5 =>"is_row"
 |6 =>"are_lamps"
 |7 =>"are_sayings"
 |8 =>"stands_bare"
 |9 =>"are_promises"
 |10 =>"is_price"
 |11 =>"is_wish"
 |12 =>"are_wishes"
 |13 =>"sayings_of"
 |14 =>"is_book"
 |15 =>"checked"
 |16 =>"now_holds"
 |17 =>"past_holds"
 |18 =>"Table.__init__"
 |19 =>"Table.enter"
 |20 =>"Table.place_of"
 |21 =>"Table.remembered_row"
 |22 =>"Table.held_at"
 |23 =>"Table.memory_after"
 |24 =>"Rules.__init__"
 |25 =>"Rules.foe_keeps"
 |26 =>"Rules.friend_keeps"
 |27 =>"Rules.loss_at"
 |28 =>"settings_of"
 |29 =>"Numbering.__init__"
 |30 =>"Numbering.number_of"
 |31 =>"foe_settings"
 |32 =>"answers_to"
 |33 =>"game"
 |34 =>"_law_cell_at"
 |35 =>"_law_mixed"
 |36 =>"_law_next"
 |37 =>"_law_names"
 |38 =>"_law_saying"
 |39 =>"_law_promise"
 |40 =>"_law_book"
 |41 =>"_law_pieces"
 |42 =>"_law_book_pieces"
 |43 =>"_law_holds"
 |44 =>"_law_memory"
 |45 =>"_law_kept"
 |46 =>"_law_loss"
 |47 =>"_law_settings"
 |48 =>"_law_answers"
 |49 =>"_law_game"
 |50 =>"law"
 |_ =>""
def uA:Nat->At
 |0=>.top
 |1=>.top
 |2=>.top
 |3=>.top
 |4=>.top
 |5=>.top
 |6=>.top
 |7=>.top
 |8=>.top
 |9=>.top
 |10=>.top
 |11=>.top
 |12=>.top
 |13=>.top
 |14=>.top
 |15=>.top
 |16=>.top
 |17=>.top
 |18=>(.init (W "Table"))
 |19=>(.bW (W "Table"))
 |20=>(.bW (W "Table"))
 |21=>(.bW (W "Table"))
 |22=>(.bW (W "Table"))
 |23=>(.bW (W "Table"))
 |24=>(.init (W "Rules"))
 |25=>(.bW (W "Rules"))
 |26=>(.bW (W "Rules"))
 |27=>(.bW (W "Rules"))
 |28=>.top
 |29=>(.init (W "Numbering"))
 |30=>(.bW (W "Numbering"))
 |31=>.top
 |32=>.top
 |33=>.top
 |34=>.top
 |35=>.top
 |36=>.top
 |37=>.top
 |38=>.top
 |39=>.top
 |40=>.top
 |41=>.top
 |42=>.top
 |43=>.top
 |44=>.top
 |45=>.top
 |46=>.top
 |47=>.top
 |48=>.top
 |49=>.top
 |50=>.top
 |_=>.top
def oF:Nat->List Str
 |0=>["thing"]
 |1=>["names","thing"]
 |2=>["names","thing","deepest"]
 |3=>["saying"]
 |4=>["sayings"]
 |5=>["thing","fewest","most"]
 |6=>["foe","friend"]
 |7=>["names","things","most"]
 |8=>["names","saying"]
 |9=>["names","friend","things"]
 |10=>["thing"]
 |11=>["names","thing"]
 |12=>["names","things"]
 |13=>["promises","musts","wishes"]
 |14=>["thing"]
 |15=>["book"]
 |16=>["word","parts"]
 |17=>["word","remembered","parts"]
 |18=>["self","names","sayings"]
 |19=>["self","saying"]
 |20=>["self","saying"]
 |21=>["self","piece"]
 |22=>["self","memory","setting"]
 |23=>["self","held"]
 |24=>["self","book"]
 |25=>["self","held"]
 |26=>["self","held"]
 |27=>["self","held"]
 |28=>["lamps"]
 |29=>["self","first"]
 |30=>["self","memory"]
 |31=>["book","rules","memory"]
 |32=>["book","rules","numbering","memory","foe"]
 |33=>["book"]
 |34=>["_law_script","_law_k"]
 |35=>["_law_script","_law_k","_law_many"]
 |36=>["_law_script","_law_m","_law_many"]
 |37=>["_law_script","_law_m"]
 |38=>["_law_script","_law_m","_law_names_here","_law_deep","_law_left"]
 |39=>["_law_script","_law_m","_law_foe","_law_names_here","_law_left"]
 |40=>["_law_script","_law_at","_law_pieces_here","_law_musts"]
 |41=>["_law_saying_here","_law_found"]
 |42=>["_law_book_here"]
 |43=>["_law_names_here","_law_saying_here","_law_play","_law_turn"]
 |44=>["_law_book_here","_law_play"]
 |45=>["_law_names_here","_law_sayings","_law_play"]
 |46=>["_law_book_here","_law_play"]
 |47=>["_law_many"]
 |48=>["_law_book_here","_law_play","_law_foe"]
 |49=>["_law_book_here"]
 |50=>["_law_script"]
 |_=>[]
structure Zt (K:PySem.W.Frag)(mg:Str->Option Value):Prop where
 b_isinstance:mg "isinstance" = none
 b_str:mg "str" = none
 b_len:mg "len" = none
 b_all:mg "all" = none
 b_tuple:mg "tuple" = none
 b_list:mg "list" = none
 b_reversed:mg "reversed" = none
 b_set:mg "set" = none
 b_any:mg "any" = none
 b_int:mg "int" = none
 b_bool:mg "bool" = none
 b_sum:mg "sum" = none
 b_range:mg "range" = none
 g_NO_NAMES:GC K mg "NO_NAMES" g_NO_NAMES
 g_LONGEST_NAME:GC K mg "LONGEST_NAME" g_LONGEST_NAME
 g_LETTERS:GC K mg "LETTERS" g_LETTERS
 g_DEEPEST:GC K mg "DEEPEST" g_DEEPEST
 g_SAYINGS_WITHIN:GC K mg "SAYINGS_WITHIN" g_SAYINGS_WITHIN
 g_PAST_WORDS:GC K mg "PAST_WORDS" g_PAST_WORDS
 g_MOST_LAMPS:GC K mg "MOST_LAMPS" g_MOST_LAMPS
 g_MOST_PROMISES:GC K mg "MOST_PROMISES" g_MOST_PROMISES
 g_HIGHEST_PRICE:GC K mg "HIGHEST_PRICE" g_HIGHEST_PRICE
 g_MOST_WISHES:GC K mg "MOST_WISHES" g_MOST_WISHES
 g_MOST_MUSTS:GC K mg "MOST_MUSTS" g_MOST_MUSTS
 g_MOST_PIECES:GC K mg "MOST_PIECES" g_MOST_PIECES
 c_Table:sY K (W "Table")
 c_Rules:sY K (W "Rules")
 c_Numbering:sY K (W "Numbering")
 a_Table_names:qP K (W "Table") (W "names")
 a_Table_pieces:qP K (W "Table") (W "pieces")
 a_Table_rows:qP K (W "Table") (W "rows")
 a_Table_row_of:qP K (W "Table") (W "row_of")
 a_Table_first_memory:qP K (W "Table") (W "first_memory")
 a_Table_remembered_rows:qP K (W "Table") (W "remembered_rows")
 a_Rules_table:qP K (W "Rules") (W "table")
 a_Rules_promise_rows:qP K (W "Rules") (W "promise_rows")
 a_Rules_must_rows:qP K (W "Rules") (W "must_rows")
 a_Rules_priced_rows:qP K (W "Rules") (W "priced_rows")
 a_Numbering_met:qP K (W "Numbering") (W "met")
section
variable {P:Program}{w:World}{K:PySem.W.Frag}{mg:Str->Option Value}{base:Heap}
theorem WU {k:Nat}(T:CC K mg 51 vA oH oF dO uA)(IH:∀ i,i<51->dR P w K mg base hJ (2*k) (T.a i) (T.fd i) (oF i) (fV K (aM G k) i)){X:Cx}(e1:X.prog=P)(e2:X.w=w)(e3:X.K=K)(e4:X.mg=mg)(e5:X.base=base)(hr:dM (2*k+1) X.A)(i:Nat)(h:Nat.blt i 51=true)(ha:uA i=.top):vB X (aM G k) (vA i) i:=by
 subst e1 e2 e3 e4 e5
 have h:i<51:=Nat.ble_eq.mp h
 have q:=T.mg i h
 rw[ha]at q
 exact⟨2*k,T.a i,T.fd i,oF i,IH i h,hr.mono (by omega),q,(T.fn i h).kp,T.bi i h⟩
theorem XQ {k:Nat}(T:CC K mg 51 vA oH oF dO uA)(IH:∀ i,i<51->dR P w K mg base hJ (2*k) (T.a i) (T.fd i) (oF i) (fV K (aM G k) i)){X:Cx}(e1:X.prog=P)(e2:X.w=w)(e3:X.K=K)(e4:X.mg=mg)(e5:X.base=base)(hr:dM (2*k+1) X.A)(i:Nat)(c:List Nat)(h:Nat.blt i 51=true)(ha:uA i=.bW c):vH X (aM G k) c (vA i) i:=by
 subst e1 e2 e3 e4 e5
 have h:i<51:=Nat.ble_eq.mp h
 have q:=T.mg i h
 rw[ha]at q
 obtain⟨C0,q1,q2,q3⟩:=q
 exact⟨2*k,T.a i,T.fd i,oF i,C0,IH i h,hr.mono (by omega),T.bi i h,q1,q2,q3⟩
theorem YR {k:Nat}(T:CC K mg 51 vA oH oF dO uA)(IH:∀ i,i<51->dR P w K mg base hJ (2*k) (T.a i) (T.fd i) (oF i) (fV K (aM G k) i)){X:Cx}(e1:X.prog=P)(e2:X.w=w)(e3:X.K=K)(e4:X.mg=mg)(e5:X.base=base)(hr:dM (2*k+1) X.A)(i:Nat)(c:List Nat)(h:Nat.blt i 51=true)(ha:uA i=.init c){n:Str}(hn:n=⟨c.toArray⟩:=by kernel_rfl):vI X (aM G k) c n i:=by
 subst e1 e2 e3 e4 e5
 have h:i<51:=Nat.ble_eq.mp h
 have q:=T.mg i h
 rw[ha]at q
 obtain⟨C0,q1,q2,q3⟩:=q
 exact⟨2*k,T.a i,T.fd i,oF i,C0,IH i h,hr,T.bi i h,q1,by rw[hn];exact q2,q3⟩
abbrev TT (K:PySem.W.Frag)(mg:Str->Option Value):=CC K mg 51 vA oH oF dO uA
abbrev IT (P:Program)(w:World)(base:Heap)(T:TT K mg)(k:Nat):Prop:=∀ i,i<51->dR P w K mg base hJ (2*k) (T.a i) (T.fd i) (oF i) (fV K (aM G k) i)
abbrev OT (P:Program)(w:World)(base:Heap)(T:TT K mg)(k i:Nat):Prop:=dR P w K mg base hJ (2*k+1+1) (T.a i) (T.fd i) (oF i) (fV K (aM G (k+1)) i)
theorem dE (i:Nat){k:Nat}{fn:Fn}{N:List Str}(T:TT K mg)(IH:IT P w base T k)(hi:Nat.blt i 51=true)(S:vG N (oF i) (aR (dO i)))(hG:G.fns i=some fn)(hp:fn.np=(oF i).length)(hl:fn.nl=N.length)
 (hb:∀(bL:Value)(A:Around)(outer:List Env)(s:Shared)(H:Hp)(E:L2.XK)(hr:dM (2*k+1) (A.deeper (envOfC (oH i) (aR (dO i)) s.heap.objs.size (T.a i) bL)))(m:bX (aM G k) (aM G k))(u:(A.deeper (envOfC (oH i) (aR (dO i)) s.heap.objs.size (T.a i) bL)).units+180<PySem.cLine)
 (c:∀ j,Nat.blt j 51=true->uA j=.top->vB (nU hJ P w K mg base N (oH i) (aR (dO i)) (T.a i) bL A outer s H E).qQ (aM G k) (vA j) j)(cm:∀ j c,Nat.blt j 51=true->uA j=.bW c->vH (nU hJ P w K mg base N (oH i) (aR (dO i)) (T.a i) bL A outer s H E).qQ (aM G k) c (vA j) j)(ck:∀ j c,Nat.blt j 51=true->uA j=.init c->∀{n:Str}(hn:n=⟨c.toArray⟩:=by kernel_rfl),vI (nU hJ P w K mg base N (oH i) (aR (dO i)) (T.a i) bL A outer s H E).qQ (aM G k) c n j)(nd:N.Nodup),
 BE (nU hJ P w K mg base N (oH i) (aR (dO i)) (T.a i) bL A outer s H E).qQ (aM G k) G.sub (jH (dO i)) fn.body):OT P w base T k i :=
 Fb (fn:=fn) (T.fn i (Nat.ble_eq.mp hi)) S hG hp hl fun bL A outer s H E hr=>hb bL A outer s H E hr (pQ G (Nat.le_refl k)) (Iq hr) (WU (X:=(nU hJ P w K mg base N (oH i) (aR (dO i)) (T.a i) bL A outer s H E).qQ) T IH rfl rfl rfl rfl rfl hr) (XQ (X:=(nU hJ P w K mg base N (oH i) (aR (dO i)) (T.a i) bL A outer s H E).qQ) T IH rfl rfl rfl rfl rfl hr) (@YR P w K mg base k T IH (nU hJ P w K mg base N (oH i) (aR (dO i)) (T.a i) bL A outer s H E).qQ rfl rfl rfl rfl rfl hr) S.nd
theorem Na {k:Nat}(T:TT K mg)(Z:Zt K mg)(IH:IT P w base T k):OT P w base T k 0 :=
 dE 0 (fn:=FZ) (N:=["thing"]) T IH rfl ⟨rfl,rfl,rfl,by decide +kernel,rfl,by decide +kernel,by decide +kernel⟩ rfl rfl rfl fun bL A outer s H E hr m u c cm ck nd=>by
 exact(cc (cV m (tE (xS m (pW (tp (GJ (t:=.str) O9 Z.b_isinstance Z.b_str (jv 0)))) (tP (cT (o:=.in_) u (jv 0) (jg Z.g_NO_NAMES))))) (cc (bR m jb)
 c0) c0)
 (cc (bR m (oE (De (o:=.le) (o':=.le) u ji (dI cA cX Z.b_len (ja (jv 0) an)) (jg Z.g_LONGEST_NAME)) (lZ (dI (lC hr.hd) sN Z.b_all (ja (kN m (own:=["sign"]) (cn:=[]) (bH:=[]) (one:=true) (jC (on:=(aR (dO 0)).names) (N:=["thing"]) (by decide +kernel)) (iv (jv 0)) (fun _ _ _ _=>(b1 (gn (show(["sign"]:List Str).Nodup by decide +kernel)))) (fun _ _ _ _=>qn) (fun _ _ _ _=>(pD (o:=.in_) u (jv 0) (jg Z.g_LETTERS)))) an)))))
 c0))
theorem Ll {k:Nat}(T:TT K mg)(Z:Zt K mg)(IH:IT P w base T k):OT P w base T k 1 :=
 dE 1 (fn:=BD) (N:=["names","thing"]) T IH rfl ⟨rfl,rfl,rfl,by decide +kernel,rfl,by decide +kernel,by decide +kernel⟩ rfl rfl rfl fun bL A outer s H E hr m u c cm ck nd=>by
 exact(cc (bR m (bQ (c 2 rfl rfl) (ja (jv 0) (ja (jv 1) (ja (jg Z.g_DEEPEST) an)))))
 c0)
abbrev N2:List Str:=["names","thing","deepest"]
theorem Lg {k:Nat}(T:TT K mg)(Z:Zt K mg)(IH:IT P w base T k):OT P w base T k 2 :=
 dE 2 (fn:=pE) (N:=N2) T IH rfl ⟨rfl,rfl,rfl,by decide +kernel,rfl,by decide +kernel,by decide +kernel⟩ rfl rfl rfl fun bL A outer s H E hr m u c cm ck nd=>by
 exact(cc (cV m (tE (xS m (cT (o:=.lt) u (bF 2) ji) (xS m (pW (tp (GJ (t:=.tuple) eE Z.b_isinstance Z.b_tuple (jv 1)))) (xS m (cT (o:=.lt) u (dI cA cX Z.b_len (ja (jv 1) an)) ji) (tP (pW (tp (GJ (t:=.str) O9 Z.b_isinstance Z.b_str (bC (jv 1) ji))))))))) (cc (bR m jb)
 c0) c0)
 (cc (cV m (cT (o:=.eq) u (bC (jv 1) ji) js) (cc (bR m (oE (pD (o:=.eq) u (dI cA cX Z.b_len (ja (jv 1) an)) ji) (oE (bQ (c 0 rfl rfl) (ja (bC (jv 1) ji) an)) (lZ (pD (o:=.in_) u (bC (jv 1) ji) (bF 0))))))
 c0) c0)
 (cc (cV m (tE (xS m (cT (o:=.fE) u (bC (jv 1) ji) (jg Z.g_SAYINGS_WITHIN)) (tP (cT (o:=.ne) u (dI cA cX Z.b_len (ja (jv 1) an)) (cO (op:=.add) ji (bC (jg Z.g_SAYINGS_WITHIN) (bC (jv 1) ji))))))) (cc (bR m jb)
 c0) c0)
 (cc (bR m (dI (lC hr.hd) sN Z.b_all (ja (kN m (own:=["part"]) (cn:=["names","deepest"]) (bH:=[0,2]) (one:=true) (jC (on:=(aR (dO 2)).names) (N:=N2) (by decide +kernel)) (iv (IG (jv 1) (os ji) on)) (fun _ _ _ _=>(b1 (gn (show(["part","names","deepest"]:List Str).Nodup by decide +kernel)))) (fun _ _ _ _=>qn) (fun _ _ _ _=>(bQ ((c 2 rfl rfl).pO) (ja (bF 1) (ja (jv 0) (ja (cO (op:=.sub) (bF 2) ji) an)))))) an)))
 c0))))
theorem Mg {k:Nat}(T:TT K mg)(Z:Zt K mg)(IH:IT P w base T k):OT P w base T k 3 :=
 dE 3 (fn:=rE) (N:=["saying"]) T IH rfl ⟨rfl,rfl,rfl,by decide +kernel,rfl,by decide +kernel,by decide +kernel⟩ rfl rfl rfl fun bL A outer s H E hr m u c cm ck nd=>by
 exact(cc (cV m (cT (o:=.eq) u (bC (jv 0) ji) js) (cc (bR m (jt m an))
 c0) c0)
 (cc (bR m (IG (jv 0) (os ji) on))
 c0))
theorem Nl {k:Nat}(T:TT K mg)(Z:Zt K mg)(IH:IT P w base T k):OT P w base T k 4 :=
 dE 4 (fn:=BX) (N:=["sayings","pieces","ahead","saying"]) T IH rfl ⟨rfl,rfl,rfl,by decide +kernel,rfl,by decide +kernel,by decide +kernel⟩ rfl rfl rfl fun bL A outer s H E hr m u c cm ck nd=>by
 exact(cc (sn (i:=1) m nd (jl an))
 (cc (sn (i:=2) m nd (Kl Z.b_list Z.b_reversed (ja (jv 0) an)))
 (cc (sw m (tp (jv 2)) (cc (sn (i:=3) m nd (Nv (jv 2) ))
 (cc (cV m (tE (VF m (cT (o:=.in_) u (bC (jv 3) ji) (jg Z.g_PAST_WORDS)) (tP (cT (o:=.fE) u (jv 3) (jv 1))))) (cc (sx m (lN (jv 1) (ja (jv 3) an)))
 c0) c0)
 (cc (sx m (Kj (jv 2) (ja (Kl Z.b_list Z.b_reversed (ja (bQ (c 3 rfl rfl) (ja (jv 3) an)) an)) an)))
 c0))))
 (cc (bR m (jv 1))
 c0))))
theorem Nc {k:Nat}(T:TT K mg)(Z:Zt K mg)(IH:IT P w base T k):OT P w base T k 5 :=
 dE 5 (fn:=IM) (N:=["thing","fewest","most"]) T IH rfl ⟨rfl,rfl,rfl,by decide +kernel,rfl,by decide +kernel,by decide +kernel⟩ rfl rfl rfl fun bL A outer s H E hr m u c cm ck nd=>by
 exact(cc (bR m (oE (GJ (t:=.tuple) eE Z.b_isinstance Z.b_tuple (jv 0)) (lZ (De (o:=.le) (o':=.le) u (jv 1) (dI cA cX Z.b_len (ja (jv 0) an)) (jv 2)))))
 c0)
abbrev N6:List Str:=["foe","friend","names"]
theorem Mc {k:Nat}(T:TT K mg)(Z:Zt K mg)(IH:IT P w base T k):OT P w base T k 6 :=
 dE 6 (fn:=BV) (N:=N6) T IH rfl ⟨rfl,rfl,rfl,by decide +kernel,rfl,by decide +kernel,by decide +kernel⟩ rfl rfl rfl fun bL A outer s H E hr m u c cm ck nd=>by
 exact(cc (cV m (tE (xS m (pW (tp (bQ (c 5 rfl rfl) (ja (jv 0) (ja ji (ja (jg Z.g_MOST_LAMPS) an)))))) (tP (pW (tp (bQ (c 5 rfl rfl) (ja (jv 1) (ja ji (ja (jg Z.g_MOST_LAMPS) an))))))))) (cc (bR m jb)
 c0) c0)
 (cc (sn (i:=2) m nd (cO (op:=.add) (jv 0) (jv 1)))
 (cc (bR m (oE (dI (lC hr.hd) sN Z.b_all (ja (kN m (own:=["name"]) (cn:=[]) (bH:=[]) (one:=true) (jC (on:=(aR (dO 6)).names) (N:=N6) (by decide +kernel)) (iv (jv 2)) (fun _ _ _ _=>(b1 (gn (show(["name"]:List Str).Nodup by decide +kernel)))) (fun _ _ _ _=>qn) (fun _ _ _ _=>(bQ ((c 0 rfl rfl).pO) (ja (jv 0) an)))) an)) (lZ (pD (o:=.eq) u (Oe Z.b_len Z.b_set (ja (jv 2) an)) (dI cA cX Z.b_len (ja (jv 2) an))))))
 c0)))
abbrev N7:List Str:=["names","things","most"]
theorem Mo {k:Nat}(T:TT K mg)(Z:Zt K mg)(IH:IT P w base T k):OT P w base T k 7 :=
 dE 7 (fn:=yB) (N:=N7) T IH rfl ⟨rfl,rfl,rfl,by decide +kernel,rfl,by decide +kernel,by decide +kernel⟩ rfl rfl rfl fun bL A outer s H E hr m u c cm ck nd=>by
 exact(cc (bR m (oE (bQ (c 5 rfl rfl) (ja (jv 1) (ja ji (ja (jv 2) an)))) (lZ (dI (lC hr.hd) sN Z.b_all (ja (kN m (own:=["thing"]) (cn:=["names"]) (bH:=[0]) (one:=true) (jC (on:=(aR (dO 7)).names) (N:=N7) (by decide +kernel)) (iv (jv 1)) (fun _ _ _ _=>(b1 (gn (show(["thing","names"]:List Str).Nodup by decide +kernel)))) (fun _ _ _ _=>qn) (fun _ _ _ _=>(bQ ((c 1 rfl rfl).pO) (ja (bF 1) (ja (jv 0) an))))) an)))))
 c0)
theorem Lj {k:Nat}(T:TT K mg)(Z:Zt K mg)(IH:IT P w base T k):OT P w base T k 8 :=
 dE 8 (fn:=xV) (N:=["names","saying"]) T IH rfl ⟨rfl,rfl,rfl,by decide +kernel,rfl,by decide +kernel,by decide +kernel⟩ rfl rfl rfl fun bL A outer s H E hr m u c cm ck nd=>by
 exact(cc (cV m (cT (o:=.eq) u (bC (jv 1) ji) js) (cc (bR m jb)
 c0) c0)
 (cc (cV m (cT (o:=.eq) u (bC (jv 1) ji) js) (cc (bR m (pD (o:=.in_) u (bC (jv 1) ji) (bF 0)))
 c0) c0)
 (cc (bR m (dI (HF hr.hd) Q8 Z.b_any (ja (kN m (own:=["part"]) (cn:=["names"]) (bH:=[0]) (one:=true) (jC (on:=(aR (dO 8)).names) (N:=["names","saying"]) (by decide +kernel)) (iv (bQ (c 3 rfl rfl) (ja (jv 1) an))) (fun _ _ _ _=>(b1 (gn (show(["part","names"]:List Str).Nodup by decide +kernel)))) (fun _ _ _ _=>qn) (fun _ _ _ _=>(bQ ((c 8 rfl rfl).pO) (ja (bF 1) (ja (jv 0) an))))) an)))
 c0)))
abbrev N9:List Str:=["names","friend","things"]
theorem Ml {k:Nat}(T:TT K mg)(Z:Zt K mg)(IH:IT P w base T k):OT P w base T k 9 :=
 dE 9 (fn:=uY) (N:=N9) T IH rfl ⟨rfl,rfl,rfl,by decide +kernel,rfl,by decide +kernel,by decide +kernel⟩ rfl rfl rfl fun bL A outer s H E hr m u c cm ck nd=>by
 exact(cc (bR m (oE (bQ (c 7 rfl rfl) (ja (jv 0) (ja (jv 2) (ja (jg Z.g_MOST_PROMISES) an)))) (lZ (MD (dI (HF hr.hd) Q8 Z.b_any (ja (kN m (own:=["thing"]) (cn:=["friend"]) (bH:=[1]) (one:=true) (jC (on:=(aR (dO 9)).names) (N:=N9) (by decide +kernel)) (iv (jv 2)) (fun _ _ _ _=>(b1 (gn (show(["thing","friend"]:List Str).Nodup by decide +kernel)))) (fun _ _ _ _=>qn) (fun _ _ _ _=>(bQ ((c 8 rfl rfl).pO) (ja (bF 1) (ja (jv 0) an))))) an))))))
 c0)
theorem Ji {k:Nat}(T:TT K mg)(Z:Zt K mg)(IH:IT P w base T k):OT P w base T k 10 :=
 dE 10 (fn:=C8) (N:=["thing"]) T IH rfl ⟨rfl,rfl,rfl,by decide +kernel,rfl,by decide +kernel,by decide +kernel⟩ rfl rfl rfl fun bL A outer s H E hr m u c cm ck nd=>by
 exact(cc (bR m (oE (GJ (t:=.int) ZF Z.b_isinstance Z.b_int (jv 0)) (oE (MD (GJ (t:=.bool) XX Z.b_isinstance Z.b_bool (jv 0))) (lZ (De (o:=.le) (o':=.le) u ji (jv 0) (jg Z.g_HIGHEST_PRICE))))))
 c0)
theorem Jn {k:Nat}(T:TT K mg)(Z:Zt K mg)(IH:IT P w base T k):OT P w base T k 11 :=
 dE 11 (fn:=FW) (N:=["names","thing"]) T IH rfl ⟨rfl,rfl,rfl,by decide +kernel,rfl,by decide +kernel,by decide +kernel⟩ rfl rfl rfl fun bL A outer s H E hr m u c cm ck nd=>by
 exact(cc (bR m (oE (bQ (c 5 rfl rfl) (ja (jv 1) (ja ji (ja ji an)))) (oE (bQ (c 10 rfl rfl) (ja (bC (jv 1) ji) an)) (lZ (bQ (c 1 rfl rfl) (ja (jv 0) (ja (bC (jv 1) ji) an)))))))
 c0)
theorem Gh {k:Nat}(T:TT K mg)(Z:Zt K mg)(IH:IT P w base T k):OT P w base T k 12 :=
 dE 12 (fn:=zJ) (N:=["names","things"]) T IH rfl ⟨rfl,rfl,rfl,by decide +kernel,rfl,by decide +kernel,by decide +kernel⟩ rfl rfl rfl fun bL A outer s H E hr m u c cm ck nd=>by
 exact(cc (bR m (oE (bQ (c 5 rfl rfl) (ja (jv 1) (ja ji (ja (jg Z.g_MOST_WISHES) an)))) (lZ (dI (lC hr.hd) sN Z.b_all (ja (kN m (own:=["thing"]) (cn:=["names"]) (bH:=[0]) (one:=true) (jC (on:=(aR (dO 12)).names) (N:=["names","things"]) (by decide +kernel)) (iv (jv 1)) (fun _ _ _ _=>(b1 (gn (show(["thing","names"]:List Str).Nodup by decide +kernel)))) (fun _ _ _ _=>qn) (fun _ _ _ _=>(bQ ((c 11 rfl rfl).pO) (ja (bF 1) (ja (jv 0) an))))) an)))))
 c0)
abbrev Ki:List Str:=["promises","musts","wishes"]
theorem Hr {k:Nat}(T:TT K mg)(Z:Zt K mg)(IH:IT P w base T k):OT P w base T k 13 :=
 dE 13 (fn:=zO) (N:=Ki) T IH rfl ⟨rfl,rfl,rfl,by decide +kernel,rfl,by decide +kernel,by decide +kernel⟩ rfl rfl rfl fun bL A outer s H E hr m u c cm ck nd=>by
 exact(cc (bR m (cO (op:=.add) (cO (op:=.add) (mI CW AG Z.b_list (ja (jv 0) an)) (mI CW AG Z.b_list (ja (jv 1) an))) (kN m (own:=["wish"]) (cn:=[]) (bH:=[]) (one:=true) (jC (on:=(aR (dO 13)).names) (N:=Ki) (by decide +kernel)) (iv (jv 2)) (fun _ _ _ _=>(b1 (gn (show(["wish"]:List Str).Nodup by decide +kernel)))) (fun _ _ _ _=>qn) (fun _ _ _ _=>(bC (jv 0) ji)))))
 c0)
theorem Jz {k:Nat}(T:TT K mg)(Z:Zt K mg)(IH:IT P w base T k):OT P w base T k 14 :=
 dE 14 (fn:=HA) (N:=["thing","friend","names","promises","musts","wishes"]) T IH rfl ⟨rfl,rfl,rfl,by decide +kernel,rfl,by decide +kernel,by decide +kernel⟩ rfl rfl rfl fun bL A outer s H E hr m u c cm ck nd=>by
 exact(cc (cV m (tE (xS m (pW (tp (bQ (c 5 rfl rfl) (ja (jv 0) (ja ji (ja ji an)))))) (tP (pW (tp (bQ (c 6 rfl rfl) (ja (bC (jv 0) ji) (ja (bC (jv 0) ji) an)))))))) (cc (bR m jb)
 c0) c0)
 (cc (sn (i:=1) m nd (bC (jv 0) ji))
 (cc (sn (i:=2) m nd (cO (op:=.add) (bC (jv 0) ji) (jv 1)))
 (cc (sn (i:=3) m nd (bC (jv 0) ji))
 (cc (sn (i:=4) m nd (bC (jv 0) ji))
 (cc (sn (i:=5) m nd (bC (jv 0) ji))
 (cc (cV m (tE (xS m (pW (tp (bQ (c 9 rfl rfl) (ja (jv 2) (ja (jv 1) (ja (jv 3) an)))))) (tP (pW (tp (bQ (c 7 rfl rfl) (ja (jv 2) (ja (jv 4) (ja (jg Z.g_MOST_MUSTS) an))))))))) (cc (bR m jb)
 c0) c0)
 (cc (bR m (oE (bQ (c 12 rfl rfl) (ja (jv 2) (ja (jv 5) an))) (lZ (pD (o:=.le) u (dI cA cX Z.b_len (ja (bQ (c 4 rfl rfl) (ja (bQ (c 13 rfl rfl) (ja (jv 3) (ja (jv 4) (ja (jv 5) an)))) an)) an)) (jg Z.g_MOST_PIECES)))))
 c0))))))))
theorem Hf {k:Nat}(T:TT K mg)(Z:Zt K mg)(IH:IT P w base T k):OT P w base T k 15 :=
 dE 15 (fn:=FX) (N:=["book"]) T IH rfl ⟨rfl,rfl,rfl,by decide +kernel,rfl,by decide +kernel,by decide +kernel⟩ rfl rfl rfl fun bL A outer s H E hr m u c cm ck nd=>by
 exact(cc (cV m (pW (tp (bQ (c 14 rfl rfl) (ja (jv 0) an)))) (cc (Nx m)
 c0) c0)
 (cc (bR m (jv 0))
 c0))
theorem Gb {k:Nat}(T:TT K mg)(Z:Zt K mg)(IH:IT P w base T k):OT P w base T k 16 :=
 dE 16 (fn:=BM) (N:=["word","parts"]) T IH rfl ⟨rfl,rfl,rfl,by decide +kernel,rfl,by decide +kernel,by decide +kernel⟩ rfl rfl rfl fun bL A outer s H E hr m u c cm ck nd=>by
 exact(cc (cV m (cT (o:=.eq) u (jv 0) js) (cc (bR m (MD (bC (jv 1) ji)))
 c0) c0)
 (cc (cV m (cT (o:=.eq) u (jv 0) js) (cc (bR m (oE (bC (jv 1) ji) (lZ (bC (jv 1) ji))))
 c0) c0)
 (cc (cV m (cT (o:=.eq) u (jv 0) js) (cc (bR m (MH (bC (jv 1) ji) (lZ (bC (jv 1) ji))))
 c0) c0)
 (cc (cV m (cT (o:=.eq) u (jv 0) js) (cc (bR m (MH (bC (jv 1) ji) (lZ (MD (bC (jv 1) ji)))))
 c0) c0)
 (cc (cV m (cT (o:=.eq) u (jv 0) js) (cc (bR m (pD (o:=.eq) u (bC (jv 1) ji) (bC (jv 1) ji)))
 c0) c0)
 (cc (bR m (pD (o:=.eq) u (jv 0) js))
 c0))))))
theorem Im {k:Nat}(T:TT K mg)(Z:Zt K mg)(IH:IT P w base T k):OT P w base T k 17 :=
 dE 17 (fn:=zV) (N:=["word","remembered","parts"]) T IH rfl ⟨rfl,rfl,rfl,by decide +kernel,rfl,by decide +kernel,by decide +kernel⟩ rfl rfl rfl fun bL A outer s H E hr m u c cm ck nd=>by
 exact(cc (cV m (cT (o:=.eq) u (jv 0) js) (cc (bR m (jv 1))
 c0) c0)
 (cc (cV m (cT (o:=.eq) u (jv 0) js) (cc (bR m (MH (jv 1) (lZ (bC (jv 2) ji))))
 c0) c0)
 (cc (cV m (cT (o:=.eq) u (jv 0) js) (cc (bR m (oE (jv 1) (lZ (bC (jv 2) ji))))
 c0) c0)
 (cc (bR m (MH (bC (jv 2) ji) (lZ (oE (jv 1) (lZ (bC (jv 2) ji))))))
 c0))))
abbrev Ao:List Str:=["self","names","sayings","saying"]
theorem Jr {k:Nat}(T:TT K mg)(Z:Zt K mg)(IH:IT P w base T k):OT P w base T k 18 :=
 dE 18 (fn:=rO) (N:=Ao) T IH rfl ⟨rfl,rfl,rfl,by decide +kernel,rfl,by decide +kernel,by decide +kernel⟩ rfl rfl rfl fun bL A outer s H E hr m u c cm ck nd=>by
 exact(cc (zY m (W "Table") Z.c_Table Z.a_Table_names (bF 0) (jv 1))
 (cc (zY m (W "Table") Z.c_Table Z.a_Table_pieces (bF 0) (bQ (c 4 rfl rfl) (ja (jv 2) an)))
 (cc (zY m (W "Table") Z.c_Table Z.a_Table_rows (bF 0) (jl an))
 (cc (zY m (W "Table") Z.c_Table Z.a_Table_row_of (bF 0) Ob)
 (cc (sM (i:=3) m nd (iv (jv 2)) (cc (sx m (yY (mm:=W "enter") (cm 19 (W "Table") rfl rfl) (bF 0) (ja (jv 3) an)))
 c0))
 (cc (zY m (W "Table") Z.c_Table Z.a_Table_first_memory (bF 0) (mI dH eE Z.b_tuple (ja (kN m (own:=["piece"]) (cn:=[]) (bH:=[]) (one:=true) (jC (on:=(aR (dO 18)).names) (N:=Ao) (by decide +kernel)) (iv (gS (W "Table") Z.c_Table Z.a_Table_pieces (bF 0))) (fun _ _ _ _=>(b1 (gn (show(["piece"]:List Str).Nodup by decide +kernel)))) (fun _ _ _ _=>qn) (fun _ _ _ _=>(pD (o:=.eq) u (bC (jv 0) ji) js))) an)))
 (cc (zY m (W "Table") Z.c_Table Z.a_Table_remembered_rows (bF 0) (kN m (own:=["piece"]) (cn:=["self"]) (bH:=[0]) (one:=true) (jC (on:=(aR (dO 18)).names) (N:=Ao) (by decide +kernel)) (iv (gS (W "Table") Z.c_Table Z.a_Table_pieces (bF 0))) (fun _ _ _ _=>(b1 (gn (show(["piece", "self"]:List Str).Nodup by decide +kernel)))) (fun _ _ _ _=>qn) (fun _ _ _ _=>(yY (mm:=W "remembered_row") ((cm 21 (W "Table") rfl rfl).pO) (bF 1) (ja (jv 0) an)))))
 c0)))))))
abbrev Kr:List Str:=["self","saying","part","parts"]
theorem Ge {k:Nat}(T:TT K mg)(Z:Zt K mg)(IH:IT P w base T k):OT P w base T k 19 :=
 dE 19 (fn:=xU) (N:=Kr) T IH rfl ⟨rfl,rfl,rfl,by decide +kernel,rfl,by decide +kernel,by decide +kernel⟩ rfl rfl rfl fun bL A outer s H E hr m u c cm ck nd=>by
 exact(cc (cV m (Of u (jv 1) (gS (W "Table") Z.c_Table Z.a_Table_row_of (bF 0))) (cc Oi
 c0) c0)
 (cc (sM (i:=2) m nd (iv (bQ (c 3 rfl rfl) (ja (jv 1) an))) (cc (sx m (yY (mm:=W "enter") (cm 19 (W "Table") rfl rfl) (bF 0) (ja (jv 2) an)))
 c0))
 (cc (VP (i:=3) m nd (own:=["part"]) (cn:=["self"]) (bH:=[0]) (one:=true) (jC (on:=(aR (dO 19)).names) (N:=Kr) (by decide +kernel)) (iv (bQ (c 3 rfl rfl) (ja (jv 1) an))) (fun _ _ _ _=>(b1 (gn (show(["part","self"]:List Str).Nodup by decide +kernel)))) (fun _ _ _ _=>qn) (fun _ _ _ _=>(MW u (gS (W "Table") Z.c_Table Z.a_Table_row_of (bF 1)) (jv 0))))
 (cc (Ny m u (gS (W "Table") Z.c_Table Z.a_Table_row_of (bF 0)) (jv 1) (dI cA cX Z.b_len (ja (gS (W "Table") Z.c_Table Z.a_Table_rows (bF 0)) an)))
 (cc (sx m (lN (gS (W "Table") Z.c_Table Z.a_Table_rows (bF 0)) (ja (jt m (ja (bC (jv 1) ji) (ja (yY (mm:=W "place_of") (cm 20 (W "Table") rfl rfl) (bF 0) (ja (jv 1) an)) (ja (jv 3) an)))) an)))
 c0)))))
theorem Gq {k:Nat}(T:TT K mg)(Z:Zt K mg)(IH:IT P w base T k):OT P w base T k 20 :=
 dE 20 (fn:=rW) (N:=["self","saying"]) T IH rfl ⟨rfl,rfl,rfl,by decide +kernel,rfl,by decide +kernel,by decide +kernel⟩ rfl rfl rfl fun bL A outer s H E hr m u c cm ck nd=>by
 exact(cc (cV m (cT (o:=.eq) u (bC (jv 1) ji) js) (cc (bR m (IU m u (gS (W "Table") Z.c_Table Z.a_Table_names (jv 0)) (ja (bC (jv 1) ji) an)))
 c0) c0)
 (cc (cV m (cT (o:=.in_) u (bC (jv 1) ji) (jg Z.g_PAST_WORDS)) (cc (bR m (IU m u (gS (W "Table") Z.c_Table Z.a_Table_pieces (jv 0)) (ja (jv 1) an)))
 c0) c0)
 (cc (bR m jn)
 c0)))
theorem Ka {k:Nat}(T:TT K mg)(Z:Zt K mg)(IH:IT P w base T k):OT P w base T k 21 :=
 dE 21 (fn:=lU) (N:=["self","piece"]) T IH rfl ⟨rfl,rfl,rfl,by decide +kernel,rfl,by decide +kernel,by decide +kernel⟩ rfl rfl rfl fun bL A outer s H E hr m u c cm ck nd=>by
 exact(cc (cV m (cT (o:=.eq) u (bC (jv 1) ji) js) (cc (bR m (MW u (gS (W "Table") Z.c_Table Z.a_Table_row_of (jv 0)) (bC (jv 1) ji)))
 c0) c0)
 (cc (bR m (MW u (gS (W "Table") Z.c_Table Z.a_Table_row_of (jv 0)) (jv 1)))
 c0))
abbrev Kf:List Str:=["self","memory","setting","held","word","place","part_rows","parts"]
theorem Jx {k:Nat}(T:TT K mg)(Z:Zt K mg)(IH:IT P w base T k):OT P w base T k 22 :=
 dE 22 (fn:=tT) (N:=Kf) T IH rfl ⟨rfl,rfl,rfl,by decide +kernel,rfl,by decide +kernel,by decide +kernel⟩ rfl rfl rfl fun bL A outer s H E hr m u c cm ck nd=>by
 exact(cc (MA (i:=3) m nd (jl an))
 (cc (sf m (iv (gS (W "Table") Z.c_Table Z.a_Table_rows (jv 0))) (gt (gc (gn (i:=4) nd) (gc (gn (i:=5) nd) (gc (gn (i:=6) nd) nn)))) (cc (VP (i:=7) m nd (own:=["row"]) (cn:=["held"]) (bH:=[3]) (one:=true) (jC (on:=(aR (dO 22)).names) (N:=Kf) (by decide +kernel)) (iv (jv 6)) (fun _ _ _ _=>(b1 (gn (show(["row","held"]:List Str).Nodup by decide +kernel)))) (fun _ _ _ _=>qn) (fun _ _ _ _=>(bC (bF 1) (jv 0))))
 (cc (cV m (cT (o:=.eq) u (jv 4) js) (cc (sx m (lN (bF 3) (ja (bC (jv 2) (jv 5)) an)))
 c0) (cc (cV m (cT (o:=.in_) u (jv 4) (jg Z.g_PAST_WORDS)) (cc (sx m (lN (bF 3) (ja (bQ (c 17 rfl rfl) (ja (jv 4) (ja (bC (jv 1) (jv 5)) (ja (jv 7) an)))) an)))
 c0) (cc (sx m (lN (bF 3) (ja (bQ (c 16 rfl rfl) (ja (jv 4) (ja (jv 7) an))) an)))
 c0))
 c0))
 c0)))
 (cc (bR m (bF 3))
 c0)))
theorem Fl {k:Nat}(T:TT K mg)(Z:Zt K mg)(IH:IT P w base T k):OT P w base T k 23 :=
 dE 23 (fn:=nK) (N:=["self","held"]) T IH rfl ⟨rfl,rfl,rfl,by decide +kernel,rfl,by decide +kernel,by decide +kernel⟩ rfl rfl rfl fun bL A outer s H E hr m u c cm ck nd=>by
 exact(cc (bR m (mI dH eE Z.b_tuple (ja (kN m (own:=["row"]) (cn:=["held"]) (bH:=[1]) (one:=true) (jC (on:=(aR (dO 23)).names) (N:=["self", "held"]) (by decide +kernel)) (iv (gS (W "Table") Z.c_Table Z.a_Table_remembered_rows (jv 0))) (fun _ _ _ _=>(b1 (gn (show(["row","held"]:List Str).Nodup by decide +kernel)))) (fun _ _ _ _=>qn) (fun _ _ _ _=>(bC (bF 1) (jv 0)))) an)))
 c0)
theorem Fj {k:Nat}(T:TT K mg)(Z:Zt K mg)(IH:IT P w base T k):OT P w base T k 24 :=
 dE 24 (fn:=rG) (N:=["self","book"]) T IH rfl ⟨rfl,rfl,rfl,by decide +kernel,rfl,by decide +kernel,by decide +kernel⟩ rfl rfl rfl fun bL A outer s H E hr m u c cm ck nd=>by
 exact(cc (zY m (W "Rules") Z.c_Rules Z.a_Rules_table (bF 0) (ZR (ck 18 (W "Table") rfl rfl) (ja (cO (op:=.add) (bC (jv 1) ji) (bC (jv 1) ji)) (ja (bQ (c 13 rfl rfl) (ja (bC (jv 1) ji) (ja (bC (jv 1) ji) (ja (bC (jv 1) ji) an)))) an))))
 (cc (zY m (W "Rules") Z.c_Rules Z.a_Rules_promise_rows (bF 0) (kN m (own:=["saying"]) (cn:=["self"]) (bH:=[0]) (one:=true) (jC (on:=(aR (dO 24)).names) (N:=["self", "book"]) (by decide +kernel)) (iv (bC (jv 1) ji)) (fun _ _ _ _=>(b1 (gn (show(["saying", "self"]:List Str).Nodup by decide +kernel)))) (fun _ _ _ _=>qn) (fun _ _ _ _=>(MW u (gS (W "Table") Z.c_Table Z.a_Table_row_of (gS (W "Rules") Z.c_Rules Z.a_Rules_table (bF 1))) (jv 0)))))
 (cc (zY m (W "Rules") Z.c_Rules Z.a_Rules_must_rows (bF 0) (kN m (own:=["saying"]) (cn:=["self"]) (bH:=[0]) (one:=true) (jC (on:=(aR (dO 24)).names) (N:=["self", "book"]) (by decide +kernel)) (iv (bC (jv 1) ji)) (fun _ _ _ _=>(b1 (gn (show(["saying", "self"]:List Str).Nodup by decide +kernel)))) (fun _ _ _ _=>qn) (fun _ _ _ _=>(MW u (gS (W "Table") Z.c_Table Z.a_Table_row_of (gS (W "Rules") Z.c_Rules Z.a_Rules_table (bF 1))) (jv 0)))))
 (cc (zY m (W "Rules") Z.c_Rules Z.a_Rules_priced_rows (bF 0) (kN m (own:=["wish"]) (cn:=["self"]) (bH:=[0]) (one:=true) (jC (on:=(aR (dO 24)).names) (N:=["self", "book"]) (by decide +kernel)) (iv (bC (jv 1) ji)) (fun _ _ _ _=>(b1 (gn (show(["wish", "self"]:List Str).Nodup by decide +kernel)))) (fun _ _ _ _=>qn) (fun _ _ _ _=>(jt m (ja (bC (jv 0) ji) (ja (MW u (gS (W "Table") Z.c_Table Z.a_Table_row_of (gS (W "Rules") Z.c_Rules Z.a_Rules_table (bF 1))) (bC (jv 0) ji)) an))))))
 c0))))
theorem Kb {k:Nat}(T:TT K mg)(Z:Zt K mg)(IH:IT P w base T k):OT P w base T k 25 :=
 dE 25 (fn:=qR) (N:=["self","held"]) T IH rfl ⟨rfl,rfl,rfl,by decide +kernel,rfl,by decide +kernel,by decide +kernel⟩ rfl rfl rfl fun bL A outer s H E hr m u c cm ck nd=>by
 exact(cc (bR m (dI (lC hr.hd) sN Z.b_all (ja (kN m (own:=["row"]) (cn:=["held"]) (bH:=[1]) (one:=true) (jC (on:=(aR (dO 25)).names) (N:=["self", "held"]) (by decide +kernel)) (iv (gS (W "Rules") Z.c_Rules Z.a_Rules_promise_rows (jv 0))) (fun _ _ _ _=>(b1 (gn (show(["row","held"]:List Str).Nodup by decide +kernel)))) (fun _ _ _ _=>qn) (fun _ _ _ _=>(bC (bF 1) (jv 0)))) an)))
 c0)
theorem Fu {k:Nat}(T:TT K mg)(Z:Zt K mg)(IH:IT P w base T k):OT P w base T k 26 :=
 dE 26 (fn:=nI) (N:=["self","held"]) T IH rfl ⟨rfl,rfl,rfl,by decide +kernel,rfl,by decide +kernel,by decide +kernel⟩ rfl rfl rfl fun bL A outer s H E hr m u c cm ck nd=>by
 exact(cc (bR m (dI (lC hr.hd) sN Z.b_all (ja (kN m (own:=["row"]) (cn:=["held"]) (bH:=[1]) (one:=true) (jC (on:=(aR (dO 26)).names) (N:=["self", "held"]) (by decide +kernel)) (iv (gS (W "Rules") Z.c_Rules Z.a_Rules_must_rows (jv 0))) (fun _ _ _ _=>(b1 (gn (show(["row","held"]:List Str).Nodup by decide +kernel)))) (fun _ _ _ _=>qn) (fun _ _ _ _=>(bC (bF 1) (jv 0)))) an)))
 c0)
theorem Jd {k:Nat}(T:TT K mg)(Z:Zt K mg)(IH:IT P w base T k):OT P w base T k 27 :=
 dE 27 (fn:=tS) (N:=["self","held"]) T IH rfl ⟨rfl,rfl,rfl,by decide +kernel,rfl,by decide +kernel,by decide +kernel⟩ rfl rfl rfl fun bL A outer s H E hr m u c cm ck nd=>by
 exact(cc (bR m (dI (FT hr.hd) O6 Z.b_sum (ja (kN m (own:=["price", "row"]) (cn:=["held"]) (bH:=[1]) (one:=false) (jC (on:=(aR (dO 27)).names) (N:=["self", "held"]) (by decide +kernel)) (iv (gS (W "Rules") Z.c_Rules Z.a_Rules_priced_rows (jv 0))) (fun _ _ _ _=>(bt (gc (gn (i:=0) (show(["price","row","held"]:List Str).Nodup by decide +kernel)) (gc (gn (i:=1) (show(["price","row","held"]:List Str).Nodup by decide +kernel)) nn)))) (fun _ _ _ _=>(qc (pW (tp (bC (bF 2) (jv 1)))) qn)) (fun _ _ _ _=>(jv 0))) an)))
 c0)
theorem Jo {k:Nat}(T:TT K mg)(Z:Zt K mg)(IH:IT P w base T k):OT P w base T k 28 :=
 dE 28 (fn:=xW) (N:=["lamps","settings","place","longer","setting"]) T IH rfl ⟨rfl,rfl,rfl,by decide +kernel,rfl,by decide +kernel,by decide +kernel⟩ rfl rfl rfl fun bL A outer s H E hr m u c cm ck nd=>by
 exact(cc (sn (i:=1) m nd (jl (ja (jt m an) an)))
 (cc (sM (i:=2) m nd (IJ m Z.b_range (ja (dI cA cX Z.b_len (ja (jv 0) an)) an)) (cc (sn (i:=3) m nd (jl an))
 (cc (sM (i:=4) m nd (iv (jv 1)) (cc (sx m (lN (jv 3) (ja (cO (op:=.add) (jv 4) (jt m (ja jb an))) an)))
 (cc (sx m (lN (jv 3) (ja (cO (op:=.add) (jv 4) (jt m (ja jb an))) an)))
 c0)))
 (cc (sn (i:=1) m nd (jv 3))
 c0))))
 (cc (bR m (jv 1))
 c0)))
theorem Iu {k:Nat}(T:TT K mg)(Z:Zt K mg)(IH:IT P w base T k):OT P w base T k 29 :=
 dE 29 (fn:=nW) (N:=["self","first"]) T IH rfl ⟨rfl,rfl,rfl,by decide +kernel,rfl,by decide +kernel,by decide +kernel⟩ rfl rfl rfl fun bL A outer s H E hr m u c cm ck nd=>by
 exact(cc (zY m (W "Numbering") Z.c_Numbering Z.a_Numbering_met (jv 0) (jl (ja (jv 1) an)))
 c0)
theorem Ke {k:Nat}(T:TT K mg)(Z:Zt K mg)(IH:IT P w base T k):OT P w base T k 30 :=
 dE 30 (fn:=mQ) (N:=["self","memory"]) T IH rfl ⟨rfl,rfl,rfl,by decide +kernel,rfl,by decide +kernel,by decide +kernel⟩ rfl rfl rfl fun bL A outer s H E hr m u c cm ck nd=>by
 exact(cc (cV m (cT (o:=.fE) u (jv 1) (gS (W "Numbering") Z.c_Numbering Z.a_Numbering_met (jv 0))) (cc (sx m (lN (gS (W "Numbering") Z.c_Numbering Z.a_Numbering_met (jv 0)) (ja (jv 1) an)))
 c0) c0)
 (cc (bR m (IU m u (gS (W "Numbering") Z.c_Numbering Z.a_Numbering_met (jv 0)) (ja (jv 1) an)))
 c0))
abbrev Kg:List Str:=["book","rules","memory","friend"]
theorem Hv {k:Nat}(T:TT K mg)(Z:Zt K mg)(IH:IT P w base T k):OT P w base T k 31 :=
 dE 31 (fn:=uT) (N:=Kg) T IH rfl ⟨rfl,rfl,rfl,by decide +kernel,rfl,by decide +kernel,by decide +kernel⟩ rfl rfl rfl fun bL A outer s H E hr m u c cm ck nd=>by
 exact(cc (MA (i:=3) m nd (bC (bQ (c 28 rfl rfl) (ja (bC (jv 0) ji) an)) ji))
 (cc (bR m (kN m (own:=["foe"]) (cn:=["rules","memory","friend"]) (bH:=[1,2,3]) (one:=true) (jC (on:=(aR (dO 31)).names) (N:=Kg) (by decide +kernel)) (iv (bQ (c 28 rfl rfl) (ja (bC (jv 0) ji) an))) (fun _ _ _ _=>(b1 (gn (show(["foe","rules","memory","friend"]:List Str).Nodup by decide +kernel)))) (fun _ _ _ _=>(qc (tp (yY (mm:=W "foe_keeps") ((cm 25 (W "Rules") rfl rfl).pO) (bF 1) (ja (yY (mm:=W "held_at") ((cm 22 (W "Table") rfl rfl).pO) (gS (W "Rules") Z.c_Rules Z.a_Rules_table (bF 1)) (ja (bF 2) (ja (cO (op:=.add) (jv 0) (bF 3)) an))) an))) qn)) (fun _ _ _ _=>(jv 0))))
 c0))
theorem Hl {k:Nat}(T:TT K mg)(Z:Zt K mg)(IH:IT P w base T k):OT P w base T k 32 :=
 dE 32 (fn:=yV) (N:=["book","rules","numbering","memory","foe","answers","friend","held","node"]) T IH rfl ⟨rfl,rfl,rfl,by decide +kernel,rfl,by decide +kernel,by decide +kernel⟩ rfl rfl rfl fun bL A outer s H E hr m u c cm ck nd=>by
 exact(cc (sn (i:=5) m nd (jl an))
 (cc (sM (i:=6) m nd (iv (bQ (c 28 rfl rfl) (ja (bC (jv 0) ji) an))) (cc (sn (i:=7) m nd (yY (mm:=W "held_at") (cm 22 (W "Table") rfl rfl) (gS (W "Rules") Z.c_Rules Z.a_Rules_table (jv 1)) (ja (jv 3) (ja (cO (op:=.add) (jv 4) (jv 6)) an))))
 (cc (cV m (tp (yY (mm:=W "friend_keeps") (cm 26 (W "Rules") rfl rfl) (jv 1) (ja (jv 7) an))) (cc (sn (i:=8) m nd (yY (mm:=W "number_of") (cm 30 (W "Numbering") rfl rfl) (jv 2) (ja (yY (mm:=W "memory_after") (cm 23 (W "Table") rfl rfl) (gS (W "Rules") Z.c_Rules Z.a_Rules_table (jv 1)) (ja (jv 7) an)) an)))
 (cc (sx m (lN (jv 5) (ja (jt m (ja (jv 6) (ja (yY (mm:=W "loss_at") (cm 27 (W "Rules") rfl rfl) (jv 1) (ja (jv 7) an)) (ja (jv 8) an)))) an)))
 c0)) c0)
 c0)))
 (cc (bR m (mI dH eE Z.b_tuple (ja (jv 5) an)))
 c0)))
theorem Ie {k:Nat}(T:TT K mg)(Z:Zt K mg)(IH:IT P w base T k):OT P w base T k 33 :=
 dE 33 (fn:=RG) (N:=["book","rules","numbering","nodes","memory","moves","foe"]) T IH rfl ⟨rfl,rfl,rfl,by decide +kernel,rfl,by decide +kernel,by decide +kernel⟩ rfl rfl rfl fun bL A outer s H E hr m u c cm ck nd=>by
 exact(cc (sx m (bQ (c 15 rfl rfl) (ja (jv 0) an)))
 (cc (sn (i:=1) m nd (ZR (ck 24 (W "Rules") rfl rfl) (ja (jv 0) an)))
 (cc (sn (i:=2) m nd (ZR (ck 29 (W "Numbering") rfl rfl) (ja (gS (W "Table") Z.c_Table Z.a_Table_first_memory (gS (W "Rules") Z.c_Rules Z.a_Rules_table (jv 1))) an)))
 (cc (sn (i:=3) m nd (jl an))
 (cc (sw m (cT (o:=.lt) u (dI cA cX Z.b_len (ja (jv 3) an)) (dI cA cX Z.b_len (ja (gS (W "Numbering") Z.c_Numbering Z.a_Numbering_met (jv 2)) an))) (cc (sn (i:=4) m nd (bC (gS (W "Numbering") Z.c_Numbering Z.a_Numbering_met (jv 2)) (dI cA cX Z.b_len (ja (jv 3) an))))
 (cc (sn (i:=5) m nd (jl an))
 (cc (sM (i:=6) m nd (iv (bQ (c 31 rfl rfl) (ja (jv 0) (ja (jv 1) (ja (jv 4) an))))) (cc (sx m (lN (jv 5) (ja (jt m (ja (jv 6) (ja (bQ (c 32 rfl rfl) (ja (jv 0) (ja (jv 1) (ja (jv 2) (ja (jv 4) (ja (jv 6) an)))))) an))) an)))
 c0))
 (cc (sx m (lN (jv 3) (ja (jt m (ja (jv 4) (ja (mI dH eE Z.b_tuple (ja (jv 5) an)) an))) an)))
 c0)))))
 (cc (bR m (jv 3))
 c0))))))
theorem Gc {k:Nat}(T:TT K mg)(Z:Zt K mg)(IH:IT P w base T k):OT P w base T k 34 :=
 dE 34 (fn:=vF) (N:=["_law_script","_law_k"]) T IH rfl ⟨rfl,rfl,rfl,by decide +kernel,rfl,by decide +kernel,by decide +kernel⟩ rfl rfl rfl fun bL A outer s H E hr m u c cm ck nd=>by
 exact(cc (cV m (cT (o:=.lt) u (jv 1) (dI cA cX Z.b_len (ja (jv 0) an))) (cc (bR m (bC (jv 0) (jv 1)))
 c0) c0)
 (cc (cV m (cT (o:=.eq) u (jv 0) (jl an)) (cc (bR m ji)
 c0) c0)
 (cc (bR m (cO (op:=.add) (cO (op:=.mul) (bC (jv 0) (cO (op:=.mod) (jv 1) (dI cA cX Z.b_len (ja (jv 0) an)))) ji) (jv 1)))
 c0)))
theorem Ip {k:Nat}(T:TT K mg)(Z:Zt K mg)(IH:IT P w base T k):OT P w base T k 35 :=
 dE 35 (fn:=yR) (N:=["_law_script","_law_k","_law_many","_law_drawn"]) T IH rfl ⟨rfl,rfl,rfl,by decide +kernel,rfl,by decide +kernel,by decide +kernel⟩ rfl rfl rfl fun bL A outer s H E hr m u c cm ck nd=>by
 exact(cc (sn (i:=3) m nd (cO (op:=.mod) (cO (op:=.mul) (cO (op:=.add) (cO (op:=.add) (bQ (c 34 rfl rfl) (ja (jv 0) (ja (jv 1) an))) (cO (op:=.mul) ji (jv 1))) ji) ji) ji))
 (cc (bR m (cO (op:=.mod) (cO (op:=.mod) (cO (op:=.add) (cO (op:=.add) (cO (op:=.mul) (jv 3) (jv 3)) (cO (op:=.mul) ji (jv 3))) (jv 1)) ji) (jv 2)))
 c0))
theorem Js {k:Nat}(T:TT K mg)(Z:Zt K mg)(IH:IT P w base T k):OT P w base T k 36 :=
 dE 36 (fn:=BG) (N:=["_law_script","_law_m","_law_many"]) T IH rfl ⟨rfl,rfl,rfl,by decide +kernel,rfl,by decide +kernel,by decide +kernel⟩ rfl rfl rfl fun bL A outer s H E hr m u c cm ck nd=>by
 exact(cc (sg m (cO (op:=.add) (bC (jv 1) ji) ji) (gi (jv 1) ji))
 (cc (bR m (bQ (c 35 rfl rfl) (ja (jv 0) (ja (bC (jv 1) ji) (ja (jv 2) an)))))
 c0))
theorem Jv {k:Nat}(T:TT K mg)(Z:Zt K mg)(IH:IT P w base T k):OT P w base T k 37 :=
 dE 37 (fn:=yS) (N:=["_law_script","_law_m","_law_some","_law_turn","_law_row","_law_foe","_law_friend"]) T IH rfl ⟨rfl,rfl,rfl,by decide +kernel,rfl,by decide +kernel,by decide +kernel⟩ rfl rfl rfl fun bL A outer s H E hr m u c cm ck nd=>by
 exact(cc (sn (i:=2) m nd (jl (ja js (ja js (ja js (ja js (ja js (ja js (ja js (ja js an))))))))))
 (cc (sn (i:=3) m nd (bQ (c 36 rfl rfl) (ja (jv 0) (ja (jv 1) (ja ji an)))))
 (cc (sn (i:=4) m nd (cO (op:=.add) (IG (jv 2) (os (jv 3)) on) (IG (jv 2) on (os (jv 3)))))
 (cc (sn (i:=5) m nd (cO (op:=.add) ji (bQ (c 36 rfl rfl) (ja (jv 0) (ja (jv 1) (ja ji an))))))
 (cc (sn (i:=6) m nd (cO (op:=.add) ji (bQ (c 36 rfl rfl) (ja (jv 0) (ja (jv 1) (ja ji an))))))
 (cc (bR m (jt m (ja (mI dH eE Z.b_tuple (ja (IG (jv 4) on (os (jv 5))) an)) (ja (mI dH eE Z.b_tuple (ja (IG (jv 4) (os (jv 5)) (os (cO (op:=.add) (jv 5) (jv 6)))) an)) an))))
 c0))))))
theorem Gf {k:Nat}(T:TT K mg)(Z:Zt K mg)(IH:IT P w base T k):OT P w base T k 38 :=
 dE 38 (fn:=xZ) (N:=["_law_script","_law_m","_law_names_here","_law_deep","_law_left","_law_way","_law_one"]) T IH rfl ⟨rfl,rfl,rfl,by decide +kernel,rfl,by decide +kernel,by decide +kernel⟩ rfl rfl rfl fun bL A outer s H E hr m u c cm ck nd=>by
 exact(cc (sn (i:=5) m nd (bQ (c 36 rfl rfl) (ja (jv 0) (ja (jv 1) (ja ji an)))))
 (cc (cV m (tE (xS m (cT (o:=.eq) u (jv 3) ji) (tP (cT (o:=.lt) u (jv 5) ji)))) (cc (bR m (jt m (ja js (ja (bC (jv 2) (bQ (c 36 rfl rfl) (ja (jv 0) (ja (jv 1) (ja (dI cA cX Z.b_len (ja (jv 2) an)) an))))) an))))
 c0) c0)
 (cc (cV m (cT (o:=.eq) u (jv 5) ji) (cc (bR m (jt m (ja (bC (jl (ja js (ja js an))) (bQ (c 36 rfl rfl) (ja (jv 0) (ja (jv 1) (ja ji an))))) an)))
 c0) c0)
 (cc (cV m (tE (VF m (cT (o:=.gt) u (jv 5) ji) (tP (cT (o:=.gt) u (bC (jv 4) ji) ji)))) (cc (sg m (cO (op:=.sub) (bC (jv 4) ji) ji) (gi (jv 4) ji))
 (cc (sn (i:=6) m nd (bQ (c 38 rfl rfl) (ja (jv 0) (ja (jv 1) (ja (jv 2) (ja (cO (op:=.sub) (jv 3) ji) (ja (jv 4) an)))))))
 (cc (cV m (cT (o:=.eq) u (jv 5) ji) (cc (bR m (jt m (ja js (ja (jv 6) (ja (bQ (c 38 rfl rfl) (ja (jv 0) (ja (jv 1) (ja (jv 2) (ja (cO (op:=.sub) (jv 3) ji) (ja (jv 4) an)))))) an)))))
 c0) c0)
 (cc (bR m (jt m (ja (bC (jl (ja js (ja js (ja js an)))) (cO (op:=.sub) (jv 5) ji)) (ja (jv 6) an))))
 c0)))) c0)
 (cc (sn (i:=6) m nd (bQ (c 38 rfl rfl) (ja (jv 0) (ja (jv 1) (ja (jv 2) (ja (cO (op:=.sub) (jv 3) ji) (ja (jv 4) an)))))))
 (cc (cV m (tE (xS m (cT (o:=.eq) u (jv 5) ji) (tP (cT (o:=.gt) u (jv 5) ji)))) (cc (bR m (jt m (ja js (ja (jv 6) an))))
 c0) c0)
 (cc (bR m (jt m (ja (bC (jl (ja js (ja js (ja js (ja js an))))) (cO (op:=.sub) (jv 5) ji)) (ja (jv 6) (ja (bQ (c 38 rfl rfl) (ja (jv 0) (ja (jv 1) (ja (jv 2) (ja (cO (op:=.sub) (jv 3) ji) (ja (jv 4) an)))))) an)))))
 c0)))))))
theorem Ii {k:Nat}(T:TT K mg)(Z:Zt K mg)(IH:IT P w base T k):OT P w base T k 39 :=
 dE 39 (fn:=vN) (N:=["_law_script","_law_m","_law_foe","_law_names_here","_law_left","_law_one","_law_other"]) T IH rfl ⟨rfl,rfl,rfl,by decide +kernel,rfl,by decide +kernel,by decide +kernel⟩ rfl rfl rfl fun bL A outer s H E hr m u c cm ck nd=>by
 exact(cc (sn (i:=5) m nd (bQ (c 38 rfl rfl) (ja (jv 0) (ja (jv 1) (ja (jv 2) (ja ji (ja (jl (ja ji an)) an)))))))
 (cc (cV m (tE (VF m (cT (o:=.gt) u (bC (jv 4) ji) ji) (tP (cT (o:=.eq) u (bQ (c 36 rfl rfl) (ja (jv 0) (ja (jv 1) (ja ji an)))) ji)))) (cc (sg m (cO (op:=.sub) (bC (jv 4) ji) ji) (gi (jv 4) ji))
 (cc (sn (i:=6) m nd (bQ (c 38 rfl rfl) (ja (jv 0) (ja (jv 1) (ja (jv 3) (ja ji (ja (jl (ja ji an)) an)))))))
 (cc (bR m (jt m (ja (bC (jl (ja js (ja js (ja js an)))) (bQ (c 36 rfl rfl) (ja (jv 0) (ja (jv 1) (ja ji an))))) (ja (jt m (ja js (ja (jv 6) an))) (ja (jv 5) an)))))
 c0))) c0)
 (cc (bR m (jv 5))
 c0)))
abbrev ZC:List Str:=["_law_script","_law_at","_law_pieces_here","_law_musts","_law_m","_law_foe","_law_friend","_law_names_here","_law_left","_law_wishes","_law_k","_law_price","_law_some","_law_known"]
theorem Gv {k:Nat}(T:TT K mg)(Z:Zt K mg)(IH:IT P w base T k):OT P w base T k 40 :=
 dE 40 (fn:=BP) (N:=ZC) T IH rfl ⟨rfl,rfl,rfl,by decide +kernel,rfl,by decide +kernel,by decide +kernel⟩ rfl rfl rfl fun bL A outer s H E hr m u c cm ck nd=>by
 exact(cc (MA (i:=4) m nd (jl (ja (jv 1) an)))
 (cc (sg m (bQ (c 37 rfl rfl) (ja (bF 0) (ja (bF 4) an))) (gt (gc (Oj (i:=5) nd) (gc (gn (i:=6) nd) nn))))
 (cc (MA (i:=7) m nd (cO (op:=.add) (bF 5) (jv 6)))
 (cc (MA (i:=8) m nd (jl (ja (bQ (c 36 rfl rfl) (ja (bF 0) (ja (bF 4) (ja (cO (op:=.add) (jv 2) ji) an)))) an)))
 (cc (sn (i:=9) m nd (jl an))
 (cc (sM (i:=10) m nd (IJ m Z.b_range (ja (cO (op:=.add) ji (bQ (c 36 rfl rfl) (ja (bF 0) (ja (bF 4) (ja ji an))))) an)) (cc (sn (i:=11) m nd (cO (op:=.add) ji (bQ (c 36 rfl rfl) (ja (bF 0) (ja (bF 4) (ja (bC (jl (ja ji (ja ji (ja ji an)))) (bQ (c 36 rfl rfl) (ja (bF 0) (ja (bF 4) (ja ji an))))) an))))))
 (cc (sx m (lN (jv 9) (ja (jt m (ja (jv 11) (ja (bQ (c 38 rfl rfl) (ja (bF 0) (ja (bF 4) (ja (bF 7) (ja ji (ja (bF 8) an)))))) an))) an)))
 c0)))
 (cc (VP (i:=12) m nd (own:=["_law_k"]) (cn:=["_law_script","_law_m","_law_names_here","_law_left"]) (bH:=[0,4,7,8]) (one:=true) (jC (on:=(aR (dO 40)).names) (N:=ZC) (by decide +kernel)) (IJ m Z.b_range (ja (bQ (c 36 rfl rfl) (ja (bF 0) (ja (bF 4) (ja (cO (op:=.add) (jv 3) ji) an)))) an)) (fun _ _ _ _=>(b1 (gn (show(["_law_k","_law_script","_law_m","_law_names_here","_law_left"]:List Str).Nodup by decide +kernel)))) (fun _ _ _ _=>qn) (fun _ _ _ _=>(bQ ((c 38 rfl rfl).pO) (ja (bF 1) (ja (bF 2) (ja (bF 3) (ja ji (ja (bF 4) an))))))))
 (cc (VP (i:=13) m nd (own:=["_law_k"]) (cn:=["_law_script","_law_m","_law_foe","_law_names_here","_law_left"]) (bH:=[0,4,5,7,8]) (one:=true) (jC (on:=(aR (dO 40)).names) (N:=ZC) (by decide +kernel)) (IJ m Z.b_range (ja (bQ (c 36 rfl rfl) (ja (bF 0) (ja (bF 4) (ja ji an)))) an)) (fun _ _ _ _=>(b1 (gn (show(["_law_k","_law_script","_law_m","_law_foe","_law_names_here","_law_left"]:List Str).Nodup by decide +kernel)))) (fun _ _ _ _=>qn) (fun _ _ _ _=>(bQ ((c 39 rfl rfl).pO) (ja (bF 1) (ja (bF 2) (ja (bF 3) (ja (bF 4) (ja (bF 5) an))))))))
 (cc (bR m (jt m (ja (bF 5) (ja (jv 6) (ja (mI dH eE Z.b_tuple (ja (jv 13) an)) (ja (mI dH eE Z.b_tuple (ja (jv 12) an)) (ja (mI dH eE Z.b_tuple (ja (jv 9) an)) an)))))))
 c0)))))))))
theorem Iv {k:Nat}(T:TT K mg)(Z:Zt K mg)(IH:IT P w base T k):OT P w base T k 41 :=
 dE 41 (fn:=yF) (N:=["_law_saying_here","_law_found","_law_part"]) T IH rfl ⟨rfl,rfl,rfl,by decide +kernel,rfl,by decide +kernel,by decide +kernel⟩ rfl rfl rfl fun bL A outer s H E hr m u c cm ck nd=>by
 exact(cc (cV m (tE (VF m (cT (o:=.in_) u (bC (jv 0) ji) (jt m (ja js (ja js (ja js (ja js an)))))) (tP (cT (o:=.fE) u (jv 0) (jv 1))))) (cc (sx m (lN (jv 1) (ja (jv 0) an)))
 c0) c0)
 (cc (cV m (cT (o:=.ne) u (bC (jv 0) ji) js) (cc (sM (i:=2) m nd (iv (IG (jv 0) (os ji) on)) (cc (sx m (bQ (c 41 rfl rfl) (ja (jv 2) (ja (jv 1) an))))
 c0))
 c0) c0)
 (cc (bR m (jv 1))
 c0)))
abbrev Ku:List Str:=["_law_book_here","_law_found","_law_saying_here"]
theorem Fv {k:Nat}(T:TT K mg)(Z:Zt K mg)(IH:IT P w base T k):OT P w base T k 42 :=
 dE 42 (fn:=pU) (N:=Ku) T IH rfl ⟨rfl,rfl,rfl,by decide +kernel,rfl,by decide +kernel,by decide +kernel⟩ rfl rfl rfl fun bL A outer s H E hr m u c cm ck nd=>by
 exact(cc (sn (i:=1) m nd (jl an))
 (cc (sM (i:=2) m nd (iv (cO (op:=.add) (cO (op:=.add) (bC (jv 0) ji) (bC (jv 0) ji)) (mI dH eE Z.b_tuple (ja (kN m (own:=["_law_wish"]) (cn:=[]) (bH:=[]) (one:=true) (jC (on:=(aR (dO 42)).names) (N:=Ku) (by decide +kernel)) (iv (bC (jv 0) ji)) (fun _ _ _ _=>(b1 (gn (show(["_law_wish"]:List Str).Nodup by decide +kernel)))) (fun _ _ _ _=>qn) (fun _ _ _ _=>(bC (jv 0) ji))) an)))) (cc (sx m (bQ (c 41 rfl rfl) (ja (jv 2) (ja (jv 1) an))))
 c0))
 (cc (bR m (jv 1))
 c0)))
abbrev Bt:List Str:=["_law_names_here","_law_saying_here","_law_play","_law_turn","_law_head","_law_k","_law_one","_law_other"]
theorem Kd {k:Nat}(T:TT K mg)(Z:Zt K mg)(IH:IT P w base T k):OT P w base T k 43 :=
 dE 43 (fn:=yN) (N:=Bt) T IH rfl ⟨rfl,rfl,rfl,by decide +kernel,rfl,by decide +kernel,by decide +kernel⟩ rfl rfl rfl fun bL A outer s H E hr m u c cm ck nd=>by
 exact(cc (sn (i:=4) m nd (bC (bF 1) ji))
 (cc (cV m (cT (o:=.eq) u (jv 4) js) (cc (bR m (bC (bC (bF 2) (jv 3)) (IU m u (bF 0) (ja (bC (bF 1) ji) an))))
 c0) c0)
 (cc (cV m (tE (xS m (cT (o:=.eq) u (jv 4) js) (tP (cT (o:=.eq) u (jv 4) js)))) (cc (bR m (pD (o:=.eq) u (jv 4) js))
 c0) c0)
 (cc (cV m (cT (o:=.eq) u (jv 4) js) (cc (bR m (oE (pD (o:=.gt) u (jv 3) ji) (lZ (bQ (c 43 rfl rfl) (ja (bF 0) (ja (bC (bF 1) ji) (ja (bF 2) (ja (cO (op:=.sub) (jv 3) ji) an))))))))
 c0) c0)
 (cc (cV m (cT (o:=.eq) u (jv 4) js) (cc (bR m (pD (o:=.ne) u (kN m (own:=["_law_k"]) (cn:=["_law_names_here","_law_saying_here","_law_play"]) (bH:=[0,1,2]) (one:=true) (jC (on:=(aR (dO 43)).names) (N:=Bt) (by decide +kernel)) (IJ m Z.b_range (ja (cO (op:=.add) (jv 3) ji) an)) (fun _ _ _ _=>(b1 (gn (show(["_law_k","_law_names_here","_law_saying_here","_law_play"]:List Str).Nodup by decide +kernel)))) (fun _ _ _ _=>(qc (tp (bQ ((c 43 rfl rfl).pO) (ja (bF 1) (ja (bC (bF 2) ji) (ja (bF 3) (ja (jv 0) an)))))) qn)) (fun _ _ _ _=>(jv 0))) (jl an)))
 c0) c0)
 (cc (cV m (cT (o:=.eq) u (jv 4) js) (cc (bR m (pD (o:=.eq) u (kN m (own:=["_law_k"]) (cn:=["_law_names_here","_law_saying_here","_law_play"]) (bH:=[0,1,2]) (one:=true) (jC (on:=(aR (dO 43)).names) (N:=Bt) (by decide +kernel)) (IJ m Z.b_range (ja (cO (op:=.add) (jv 3) ji) an)) (fun _ _ _ _=>(b1 (gn (show(["_law_k","_law_names_here","_law_saying_here","_law_play"]:List Str).Nodup by decide +kernel)))) (fun _ _ _ _=>(qc (pW (tp (bQ ((c 43 rfl rfl).pO) (ja (bF 1) (ja (bC (bF 2) ji) (ja (bF 3) (ja (jv 0) an))))))) qn)) (fun _ _ _ _=>(jv 0))) (jl an)))
 c0) c0)
 (cc (cV m (cT (o:=.eq) u (jv 4) js) (cc (sM (i:=5) m nd (Og m Z.b_range (ja (jv 3) (ja (Kp ji) (ja (Kp ji) an)))) (cc (cV m (tp (bQ (c 43 rfl rfl) (ja (bF 0) (ja (bC (bF 1) ji) (ja (bF 2) (ja (jv 5) an)))))) (cc (bR m jb)
 c0) c0)
 (cc (cV m (pW (tp (bQ (c 43 rfl rfl) (ja (bF 0) (ja (bC (bF 1) ji) (ja (bF 2) (ja (jv 5) an))))))) (cc (bR m jb)
 c0) c0)
 c0)))
 (cc (bR m jb)
 c0)) c0)
 (cc (sn (i:=6) m nd (bQ (c 43 rfl rfl) (ja (bF 0) (ja (bC (bF 1) ji) (ja (bF 2) (ja (jv 3) an))))))
 (cc (cV m (cT (o:=.eq) u (jv 4) js) (cc (bR m (MD (jv 6)))
 c0) c0)
 (cc (sn (i:=7) m nd (bQ (c 43 rfl rfl) (ja (bF 0) (ja (bC (bF 1) ji) (ja (bF 2) (ja (jv 3) an))))))
 (cc (cV m (cT (o:=.eq) u (jv 4) js) (cc (bR m (oE (jv 6) (lZ (jv 7))))
 c0) c0)
 (cc (cV m (cT (o:=.eq) u (jv 4) js) (cc (bR m (MH (jv 6) (lZ (jv 7))))
 c0) c0)
 (cc (cV m (cT (o:=.eq) u (jv 4) js) (cc (bR m (MH (jv 7) (lZ (MD (jv 6)))))
 c0) c0)
 (cc (bR m (pD (o:=.eq) u (jv 6) (jv 7)))
 c0))))))))))))))
theorem Gg {k:Nat}(T:TT K mg)(Z:Zt K mg)(IH:IT P w base T k):OT P w base T k 44 :=
 dE 44 (fn:=xX) (N:=["_law_book_here","_law_play","_law_names_here","_law_found","_law_piece"]) T IH rfl ⟨rfl,rfl,rfl,by decide +kernel,rfl,by decide +kernel,by decide +kernel⟩ rfl rfl rfl fun bL A outer s H E hr m u c cm ck nd=>by
 exact(cc (sn (i:=2) m nd (cO (op:=.add) (bC (jv 0) ji) (bC (jv 0) ji)))
 (cc (sn (i:=3) m nd (jl an))
 (cc (sM (i:=4) m nd (iv (bQ (c 42 rfl rfl) (ja (jv 0) an))) (cc (cV m (cT (o:=.eq) u (jv 1) (jl an)) (cc (sx m (lN (jv 3) (ja (pD (o:=.eq) u (bC (jv 4) ji) js) an)))
 c0) (cc (cV m (cT (o:=.eq) u (bC (jv 4) ji) js) (cc (sx m (lN (jv 3) (ja (bQ (c 43 rfl rfl) (ja (jv 2) (ja (bC (jv 4) ji) (ja (jv 1) (ja (cO (op:=.sub) (dI cA cX Z.b_len (ja (jv 1) an)) ji) an))))) an)))
 c0) (cc (sx m (lN (jv 3) (ja (bQ (c 43 rfl rfl) (ja (jv 2) (ja (jv 4) (ja (jv 1) (ja (cO (op:=.sub) (dI cA cX Z.b_len (ja (jv 1) an)) ji) an))))) an)))
 c0))
 c0))
 c0))
 (cc (bR m (mI dH eE Z.b_tuple (ja (jv 3) an)))
 c0))))
abbrev Km:List Str:=["_law_names_here","_law_sayings","_law_play"]
theorem Hz {k:Nat}(T:TT K mg)(Z:Zt K mg)(IH:IT P w base T k):OT P w base T k 45 :=
 dE 45 (fn:=B4) (N:=Km) T IH rfl ⟨rfl,rfl,rfl,by decide +kernel,rfl,by decide +kernel,by decide +kernel⟩ rfl rfl rfl fun bL A outer s H E hr m u c cm ck nd=>by
 exact(cc (bR m (pD (o:=.eq) u (kN m (own:=["_law_saying_here"]) (cn:=["_law_names_here","_law_play"]) (bH:=[0,2]) (one:=true) (jC (on:=(aR (dO 45)).names) (N:=Km) (by decide +kernel)) (iv (jv 1)) (fun _ _ _ _=>(b1 (gn (show(["_law_saying_here","_law_names_here","_law_play"]:List Str).Nodup by decide +kernel)))) (fun _ _ _ _=>(qc (pW (tp (bQ ((c 43 rfl rfl).pO) (ja (bF 1) (ja (jv 0) (ja (bF 2) (ja (cO (op:=.sub) (dI cA cX Z.b_len (ja (bF 2) an)) ji) an))))))) qn)) (fun _ _ _ _=>(jv 0))) (jl an)))
 c0)
abbrev Kn:List Str:=["_law_book_here","_law_play","_law_names_here"]
theorem Gm {k:Nat}(T:TT K mg)(Z:Zt K mg)(IH:IT P w base T k):OT P w base T k 46 :=
 dE 46 (fn:=BW) (N:=Kn) T IH rfl ⟨rfl,rfl,rfl,by decide +kernel,rfl,by decide +kernel,by decide +kernel⟩ rfl rfl rfl fun bL A outer s H E hr m u c cm ck nd=>by
 exact(cc (MA (i:=2) m nd (cO (op:=.add) (bC (jv 0) ji) (bC (jv 0) ji)))
 (cc (bR m (dI (FT hr.hd) O6 Z.b_sum (ja (kN m (own:=["_law_wish"]) (cn:=["_law_names_here","_law_play"]) (bH:=[2,1]) (one:=true) (jC (on:=(aR (dO 46)).names) (N:=Kn) (by decide +kernel)) (iv (bC (jv 0) ji)) (fun _ _ _ _=>(b1 (gn (show(["_law_wish","_law_names_here","_law_play"]:List Str).Nodup by decide +kernel)))) (fun _ _ _ _=>(qc (pW (tp (bQ ((c 43 rfl rfl).pO) (ja (bF 1) (ja (bC (jv 0) ji) (ja (bF 2) (ja (cO (op:=.sub) (dI cA cX Z.b_len (ja (bF 2) an)) ji) an))))))) qn)) (fun _ _ _ _=>(bC (jv 0) ji))) an)))
 c0))
theorem Jt {k:Nat}(T:TT K mg)(Z:Zt K mg)(IH:IT P w base T k):OT P w base T k 47 :=
 dE 47 (fn:=tD) (N:=["_law_many","_law_rows","_law_turn","_law_more","_law_row"]) T IH rfl ⟨rfl,rfl,rfl,by decide +kernel,rfl,by decide +kernel,by decide +kernel⟩ rfl rfl rfl fun bL A outer s H E hr m u c cm ck nd=>by
 exact(cc (sn (i:=1) m nd (jl (ja (jt m an) an)))
 (cc (sM (i:=2) m nd (IJ m Z.b_range (ja (jv 0) an)) (cc (sn (i:=3) m nd (jl an))
 (cc (sM (i:=4) m nd (iv (jv 1)) (cc (sx m (Kj (jv 3) (ja (jl (ja (cO (op:=.add) (jv 4) (jt m (ja jb an))) (ja (cO (op:=.add) (jv 4) (jt m (ja jb an))) an))) an)))
 c0))
 (cc (sn (i:=1) m nd (jv 3))
 c0))))
 (cc (bR m (jv 1))
 c0)))
theorem Fg {k:Nat}(T:TT K mg)(Z:Zt K mg)(IH:IT P w base T k):OT P w base T k 48 :=
 dE 48 (fn:=uW) (N:=["_law_book_here","_law_play","_law_foe","_law_names_here","_law_found","_law_friend","_law_longer"]) T IH rfl ⟨rfl,rfl,rfl,by decide +kernel,rfl,by decide +kernel,by decide +kernel⟩ rfl rfl rfl fun bL A outer s H E hr m u c cm ck nd=>by
 exact(cc (sn (i:=3) m nd (cO (op:=.add) (bC (jv 0) ji) (bC (jv 0) ji)))
 (cc (sn (i:=4) m nd (jl an))
 (cc (sM (i:=5) m nd (iv (bQ (c 47 rfl rfl) (ja (dI cA cX Z.b_len (ja (bC (jv 0) ji) an)) an))) (cc (sn (i:=6) m nd (cO (op:=.add) (jv 1) (jl (ja (cO (op:=.add) (jv 2) (jv 5)) an))))
 (cc (cV m (tp (bQ (c 45 rfl rfl) (ja (jv 3) (ja (bC (jv 0) ji) (ja (jv 6) an))))) (cc (sx m (lN (jv 4) (ja (jt m (ja (jv 5) (ja (bQ (c 46 rfl rfl) (ja (jv 0) (ja (jv 6) an))) (ja (jv 6) an)))) an)))
 c0) c0)
 c0)))
 (cc (bR m (jv 4))
 c0))))
theorem Ij {k:Nat}(T:TT K mg)(Z:Zt K mg)(IH:IT P w base T k):OT P w base T k 49 :=
 dE 49 (fn:=BH) (N:=["_law_book_here","_law_plays","_law_met","_law_nodes","_law_play","_law_moves","_law_foe","_law_answers_here","_law_friend","_law_loss_here","_law_longer","_law_memory_here"]) T IH rfl ⟨rfl,rfl,rfl,by decide +kernel,rfl,by decide +kernel,by decide +kernel⟩ rfl rfl rfl fun bL A outer s H E hr m u c cm ck nd=>by
 exact(cc (sn (i:=1) m nd (jl (ja (jl an) an)))
 (cc (sn (i:=2) m nd (jl (ja (bQ (c 44 rfl rfl) (ja (jv 0) (ja (jl an) an))) an)))
 (cc (sn (i:=3) m nd (jl an))
 (cc (sw m (cT (o:=.lt) u (dI cA cX Z.b_len (ja (jv 3) an)) (dI cA cX Z.b_len (ja (jv 1) an))) (cc (sn (i:=4) m nd (bC (jv 1) (dI cA cX Z.b_len (ja (jv 3) an))))
 (cc (sn (i:=5) m nd (jl an))
 (cc (sM (i:=6) m nd (iv (bQ (c 47 rfl rfl) (ja (dI cA cX Z.b_len (ja (bC (jv 0) ji) an)) an))) (cc (cV m (tp (bQ (c 45 rfl rfl) (ja (cO (op:=.add) (bC (jv 0) ji) (bC (jv 0) ji)) (ja (bC (jv 0) ji) (ja (cO (op:=.add) (jv 4) (jl (ja (cO (op:=.add) (jv 6) (cO (op:=.mul) (jt m (ja jb an)) (dI cA cX Z.b_len (ja (bC (jv 0) ji) an)))) an))) an))))) (cc (sn (i:=7) m nd (jl an))
 (cc (sf m (iv (bQ (c 48 rfl rfl) (ja (jv 0) (ja (jv 4) (ja (jv 6) an))))) (gt (gc (gn (i:=8) nd) (gc (gn (i:=9) nd) (gc (gn (i:=10) nd) nn)))) (cc (sn (i:=11) m nd (bQ (c 44 rfl rfl) (ja (jv 0) (ja (jv 10) an))))
 (cc (cV m (cT (o:=.fE) u (jv 11) (jv 2)) (cc (sx m (lN (jv 2) (ja (jv 11) an)))
 (cc (sx m (lN (jv 1) (ja (jv 10) an)))
 c0)) c0)
 (cc (sx m (lN (jv 7) (ja (jt m (ja (jv 8) (ja (jv 9) (ja (IU m u (jv 2) (ja (jv 11) an)) an)))) an)))
 c0))))
 (cc (sx m (lN (jv 5) (ja (jt m (ja (jv 6) (ja (mI dH eE Z.b_tuple (ja (jv 7) an)) an))) an)))
 c0))) c0)
 c0))
 (cc (sx m (lN (jv 3) (ja (jt m (ja (bC (jv 2) (dI cA cX Z.b_len (ja (jv 3) an))) (ja (mI dH eE Z.b_tuple (ja (jv 5) an)) an))) an)))
 c0)))))
 (cc (bR m (jv 3))
 c0)))))
abbrev Kh:List Str:=["_law_script","_law_book_here","_law_answer"]
theorem Gz {k:Nat}(T:TT K mg)(Z:Zt K mg)(IH:IT P w base T k):OT P w base T k 50 :=
 dE 50 (fn:=VA) (N:=Kh) T IH rfl ⟨rfl,rfl,rfl,by decide +kernel,rfl,by decide +kernel,by decide +kernel⟩ rfl rfl rfl fun bL A outer s H E hr m u c cm ck nd=>by
 exact(cc (sn (i:=1) m nd (bQ (c 40 rfl rfl) (ja (jv 0) (ja ji (ja ji (ja ji an))))))
 (cc (sn (i:=2) m nd (bQ (c 33 rfl rfl) (ja (jv 1) an)))
 (cc (cV m (tE (xS m (pW (tp (GJ (t:=.list) AG Z.b_isinstance Z.b_list (jv 2)))) (tP (cT (o:=.ne) u (kN m (own:=["_law_node"]) (cn:=[]) (bH:=[]) (one:=true) (jC (on:=(aR (dO 50)).names) (N:=Kh) (by decide +kernel)) (iv (jv 2)) (fun _ _ _ _=>(b1 (gn (show(["_law_node"]:List Str).Nodup by decide +kernel)))) (fun _ _ _ _=>(qc (pW (tp (GJ (t:=.tuple) eE Z.b_isinstance Z.b_tuple (jv 0)))) qn)) (fun _ _ _ _=>(jv 0))) (jl an))))) (cc (bR m jb)
 c0) c0)
 (cc (bR m (pD (o:=.eq) u (jv 2) (bQ (c 49 rfl rfl) (ja (jv 1) an))))
 c0))))
theorem Nw {k:Nat}(T:CC K mg 51 vA oH oF dO uA)(Z:Zt K mg)(IH:∀ i,i<51->dR P w K mg base hJ (2*k) (T.a i) (T.fd i) (oF i) (fV K (aM G k) i)):∀ i,i<51->dR P w K mg base hJ (2*k+1+1) (T.a i) (T.fd i) (oF i) (fV K (aM G (k+1)) i)
 |0,_=>Na T Z IH
 |1,_=>Ll T Z IH
 |2,_=>Lg T Z IH
 |3,_=>Mg T Z IH
 |4,_=>Nl T Z IH
 |5,_=>Nc T Z IH
 |6,_=>Mc T Z IH
 |7,_=>Mo T Z IH
 |8,_=>Lj T Z IH
 |9,_=>Ml T Z IH
 |10,_=>Ji T Z IH
 |11,_=>Jn T Z IH
 |12,_=>Gh T Z IH
 |13,_=>Hr T Z IH
 |14,_=>Jz T Z IH
 |15,_=>Hf T Z IH
 |16,_=>Gb T Z IH
 |17,_=>Im T Z IH
 |18,_=>Jr T Z IH
 |19,_=>Ge T Z IH
 |20,_=>Gq T Z IH
 |21,_=>Ka T Z IH
 |22,_=>Jx T Z IH
 |23,_=>Fl T Z IH
 |24,_=>Fj T Z IH
 |25,_=>Kb T Z IH
 |26,_=>Fu T Z IH
 |27,_=>Jd T Z IH
 |28,_=>Jo T Z IH
 |29,_=>Iu T Z IH
 |30,_=>Ke T Z IH
 |31,_=>Hv T Z IH
 |32,_=>Hl T Z IH
 |33,_=>Ie T Z IH
 |34,_=>Gc T Z IH
 |35,_=>Ip T Z IH
 |36,_=>Js T Z IH
 |37,_=>Jv T Z IH
 |38,_=>Gf T Z IH
 |39,_=>Ii T Z IH
 |40,_=>Gv T Z IH
 |41,_=>Iv T Z IH
 |42,_=>Fv T Z IH
 |43,_=>Kd T Z IH
 |44,_=>Gg T Z IH
 |45,_=>Hz T Z IH
 |46,_=>Gm T Z IH
 |47,_=>Jt T Z IH
 |48,_=>Fg T Z IH
 |49,_=>Ij T Z IH
 |50,_=>Gz T Z IH
 |n+51,h=>absurd h (by omega)
end
theorem UW:∀ ns:List Int,ns.length<=63->aM G 40 U7 [.bP (ns.map .int)] (fun _=>none) (fun d _=>d=.bl true) fun _ _=>False:=fun ns _ =>
 Hs (k:=24) (G:=G) (il:=U7) (ibo:=BQ) (iga:=P5) (ilg:=BC) (inm:=zM) (ic:=vK) (im:=yU) (eD:=fT) (is:=gK) (ipr:=vP) (ibk:=yZ) (ich:=G0) (iti:=sA) (iri:=rD) (ie:=qB) (iw:=iF) (ipo:=rH) (iz:=pB) (irr:=lS) (io:=nV) (ini:=nT) (ifs:=uX) (ian:=zZ) (jV:=qH) (ifk:=qS) (kQ:=nA) (imk:=nF) (ino:=mP) (ima:=nC) (ilo:=tY) (iph:=zW) (inh:=BR) (ih:=kT) (ise:=nM) (ik:=uF) (ilo8:=BB) (ilm:=yH) (ia:=vQ) (ibp:=pR) (ip:=qE)
 rfl rfl rfl rfl rfl rfl rfl rfl rfl rfl
 (fun b B hs hd hc k st Q E hQ=>OW (G:=G) (ir:=mH) (iI:=zH) (fG:=lH) (iy:=uI) (ia:=pZ) (iap:=uK) (io:=nV) (il:=BN) (iaw:=zP) (ipi:=pB) (ip:=DM) (iw:=GX) (ibk:=yZ) (ih:=iF) (ib:=qD) rfl rfl rfl rfl rfl rfl rfl rfl rfl rfl rfl rfl rfl rfl rfl B hs hd hc hQ)
 rfl rfl rfl rfl rfl rfl rfl rfl rfl rfl rfl rfl rfl rfl rfl rfl rfl rfl rfl rfl rfl rfl rfl rfl rfl rfl rfl rfl rfl
theorem Kv:∀ i,i<51->ES (vA i) (oH i) (oF i) (dO i)
 |0,_=>fun _ _ _ _ _ _ us hl=>match us,hl with|[_],_=>rfl
 |1,_=>fun _ _ _ _ _ _ us hl=>match us,hl with|[_,_],_=>rfl
 |2,_=>fun _ _ _ _ _ _ us hl=>match us,hl with|[_,_,_],_=>rfl
 |3,_=>fun _ _ _ _ _ _ us hl=>match us,hl with|[_],_=>rfl
 |4,_=>fun _ _ _ _ _ _ us hl=>match us,hl with|[_],_=>rfl
 |5,_=>fun _ _ _ _ _ _ us hl=>match us,hl with|[_,_,_],_=>rfl
 |6,_=>fun _ _ _ _ _ _ us hl=>match us,hl with|[_,_],_=>rfl
 |7,_=>fun _ _ _ _ _ _ us hl=>match us,hl with|[_,_,_],_=>rfl
 |8,_=>fun _ _ _ _ _ _ us hl=>match us,hl with|[_,_],_=>rfl
 |9,_=>fun _ _ _ _ _ _ us hl=>match us,hl with|[_,_,_],_=>rfl
 |10,_=>fun _ _ _ _ _ _ us hl=>match us,hl with|[_],_=>rfl
 |11,_=>fun _ _ _ _ _ _ us hl=>match us,hl with|[_,_],_=>rfl
 |12,_=>fun _ _ _ _ _ _ us hl=>match us,hl with|[_,_],_=>rfl
 |13,_=>fun _ _ _ _ _ _ us hl=>match us,hl with|[_,_,_],_=>rfl
 |14,_=>fun _ _ _ _ _ _ us hl=>match us,hl with|[_],_=>rfl
 |15,_=>fun _ _ _ _ _ _ us hl=>match us,hl with|[_],_=>rfl
 |16,_=>fun _ _ _ _ _ _ us hl=>match us,hl with|[_,_],_=>rfl
 |17,_=>fun _ _ _ _ _ _ us hl=>match us,hl with|[_,_,_],_=>rfl
 |18,_=>fun _ _ _ _ _ _ us hl=>match us,hl with|[_,_,_],_=>rfl
 |19,_=>fun _ _ _ _ _ _ us hl=>match us,hl with|[_,_],_=>rfl
 |20,_=>fun _ _ _ _ _ _ us hl=>match us,hl with|[_,_],_=>rfl
 |21,_=>fun _ _ _ _ _ _ us hl=>match us,hl with|[_,_],_=>rfl
 |22,_=>fun _ _ _ _ _ _ us hl=>match us,hl with|[_,_,_],_=>rfl
 |23,_=>fun _ _ _ _ _ _ us hl=>match us,hl with|[_,_],_=>rfl
 |24,_=>fun _ _ _ _ _ _ us hl=>match us,hl with|[_,_],_=>rfl
 |25,_=>fun _ _ _ _ _ _ us hl=>match us,hl with|[_,_],_=>rfl
 |26,_=>fun _ _ _ _ _ _ us hl=>match us,hl with|[_,_],_=>rfl
 |27,_=>fun _ _ _ _ _ _ us hl=>match us,hl with|[_,_],_=>rfl
 |28,_=>fun _ _ _ _ _ _ us hl=>match us,hl with|[_],_=>rfl
 |29,_=>fun _ _ _ _ _ _ us hl=>match us,hl with|[_,_],_=>rfl
 |30,_=>fun _ _ _ _ _ _ us hl=>match us,hl with|[_,_],_=>rfl
 |31,_=>fun _ _ _ _ _ _ us hl=>match us,hl with|[_,_,_],_=>rfl
 |32,_=>fun _ _ _ _ _ _ us hl=>match us,hl with|[_,_,_,_,_],_=>rfl
 |33,_=>fun _ _ _ _ _ _ us hl=>match us,hl with|[_],_=>rfl
 |34,_=>fun _ _ _ _ _ _ us hl=>match us,hl with|[_,_],_=>rfl
 |35,_=>fun _ _ _ _ _ _ us hl=>match us,hl with|[_,_,_],_=>rfl
 |36,_=>fun _ _ _ _ _ _ us hl=>match us,hl with|[_,_,_],_=>rfl
 |37,_=>fun _ _ _ _ _ _ us hl=>match us,hl with|[_,_],_=>rfl
 |38,_=>fun _ _ _ _ _ _ us hl=>match us,hl with|[_,_,_,_,_],_=>rfl
 |39,_=>fun _ _ _ _ _ _ us hl=>match us,hl with|[_,_,_,_,_],_=>rfl
 |40,_=>fun _ _ _ _ _ _ us hl=>match us,hl with|[_,_,_,_],_=>rfl
 |41,_=>fun _ _ _ _ _ _ us hl=>match us,hl with|[_,_],_=>rfl
 |42,_=>fun _ _ _ _ _ _ us hl=>match us,hl with|[_],_=>rfl
 |43,_=>fun _ _ _ _ _ _ us hl=>match us,hl with|[_,_,_,_],_=>rfl
 |44,_=>fun _ _ _ _ _ _ us hl=>match us,hl with|[_,_],_=>rfl
 |45,_=>fun _ _ _ _ _ _ us hl=>match us,hl with|[_,_,_],_=>rfl
 |46,_=>fun _ _ _ _ _ _ us hl=>match us,hl with|[_,_],_=>rfl
 |47,_=>fun _ _ _ _ _ _ us hl=>match us,hl with|[_],_=>rfl
 |48,_=>fun _ _ _ _ _ _ us hl=>match us,hl with|[_,_,_],_=>rfl
 |49,_=>fun _ _ _ _ _ _ us hl=>match us,hl with|[_],_=>rfl
 |50,_=>fun _ _ _ _ _ _ us hl=>match us,hl with|[_],_=>rfl
 |n+51,h=>absurd h (by omega)
abbrev FF (K:PySem.W.Frag)(mg:Str->Option Value)(i:Nat):=xB K mg (vA i) (oH i) (dO i) (uA i)
theorem Nz {K:PySem.W.Frag}{mg:Str->Option Value}(F0:FF K mg 0)(F1:FF K mg 1)(F2:FF K mg 2)(F3:FF K mg 3)(F4:FF K mg 4)(F5:FF K mg 5)(F6:FF K mg 6)(F7:FF K mg 7)(F8:FF K mg 8)(F9:FF K mg 9)(F10:FF K mg 10)(F11:FF K mg 11)(F12:FF K mg 12)(F13:FF K mg 13)(F14:FF K mg 14)(F15:FF K mg 15)(F16:FF K mg 16)(F17:FF K mg 17)(F18:FF K mg 18)(F19:FF K mg 19)(F20:FF K mg 20)(F21:FF K mg 21)(F22:FF K mg 22)(F23:FF K mg 23)(F24:FF K mg 24)(F25:FF K mg 25)(F26:FF K mg 26)(F27:FF K mg 27)(F28:FF K mg 28)(F29:FF K mg 29)(F30:FF K mg 30)(F31:FF K mg 31)(F32:FF K mg 32)(F33:FF K mg 33)(F34:FF K mg 34)(F35:FF K mg 35)(F36:FF K mg 36)(F37:FF K mg 37)(F38:FF K mg 38)(F39:FF K mg 39)(F40:FF K mg 40)(F41:FF K mg 41)(F42:FF K mg 42)(F43:FF K mg 43)(F44:FF K mg 44)(F45:FF K mg 45)(F46:FF K mg 46)(F47:FF K mg 47)(F48:FF K mg 48)(F49:FF K mg 49)(F50:FF K mg 50):∀ i,i<51->xB K mg (vA i) (oH i) (dO i) (uA i)
 |0,_=>F0
 |1,_=>F1
 |2,_=>F2
 |3,_=>F3
 |4,_=>F4
 |5,_=>F5
 |6,_=>F6
 |7,_=>F7
 |8,_=>F8
 |9,_=>F9
 |10,_=>F10
 |11,_=>F11
 |12,_=>F12
 |13,_=>F13
 |14,_=>F14
 |15,_=>F15
 |16,_=>F16
 |17,_=>F17
 |18,_=>F18
 |19,_=>F19
 |20,_=>F20
 |21,_=>F21
 |22,_=>F22
 |23,_=>F23
 |24,_=>F24
 |25,_=>F25
 |26,_=>F26
 |27,_=>F27
 |28,_=>F28
 |29,_=>F29
 |30,_=>F30
 |31,_=>F31
 |32,_=>F32
 |33,_=>F33
 |34,_=>F34
 |35,_=>F35
 |36,_=>F36
 |37,_=>F37
 |38,_=>F38
 |39,_=>F39
 |40,_=>F40
 |41,_=>F41
 |42,_=>F42
 |43,_=>F43
 |44,_=>F44
 |45,_=>F45
 |46,_=>F46
 |47,_=>F47
 |48,_=>F48
 |49,_=>F49
 |50,_=>F50
 |n+51,h=>absurd h (by omega)
theorem all_mk {P:Program}{w:World}{K:PySem.W.Frag}{mg:Str->Option Value}{fa:Addr}(hfa:mg "law" = some (.ref fa))(Z:Zt K mg)(F:∀ i,i<51->xB K mg (vA i) (oH i) (dO i) (uA i)):
 ∃ fd:FuncData,(∀(s:Shared)(u:Value),BindsTo s fd ⟨[u],[]⟩ [("_law_script", u)])/\∀ base:Heap,K.In base->base.Ns mainGlobals mg->dR P w K mg base hJ (2*40) fa fd ["_law_script"] (fV K (aM G 40) 50):=by
 obtain⟨_,d,_⟩:=F 0 (by decide)
 obtain⟨T⟩:=NF 51 Kv F d
 have e:=hfa.symm.trans (show mg "law" = some (.ref (T.a 50))from T.mg 50 (by decide))
 cases e
 exact⟨T.fd 50,NO (T.fn 50 (by decide)) (Kv 50 (by decide)),fun base _ _=>ME T (fun k IH=>Nw T Z IH) 40 50 (by decide)⟩
end L3
open PySem PySem.W PyProof.Rows
local macro_rules|`(tactic| walk_at"ft")=>`(tactic| (refine' L3.Gd (by assumption) (by assumption) ?a ?l ?c ?k;(case a=>k_is);(case l=>k_is);(case c=>k_is);(case k=>k_is)))
local macro_rules|`(tactic| walk_at"fi")=>`(tactic| (refine' L3.Ho (by assumption) (by assumption) ?cl ?mk ?kp ?a ?fn ?l ?cc ?k;(case cl=>k_is);(case mk=>k_is);(case kp=>k_is);(case a=>k_is);(case fn=>k_is);(case l=>k_is);(case cc=>k_is);(case k=>k_is)))
local macro_rules|`(tactic| walk_at"fm")=>`(tactic| (refine' L3.Hn (by assumption) (by assumption) ?cl ?pg ?hd ?po ?sa ?a ?fn ?l ?cc ?k;(case cl=>k_is);(case pg=>k_is);(case hd=>k_is);(case po=>k_is);(case sa=>k_is);(case a=>k_is);(case fn=>k_is);(case l=>k_is);(case cc=>k_is);(case k=>k_is)))
local macro_rules|`(tactic| walk_at"fc")=>`(tactic| (refine' L3.Dr ?cl ?pg ?hd ?po ?sa;(case cl=>k_is);(case pg=>k_is);(case hd=>k_is);(case po=>k_is);(case sa=>k_is)))
local macro_rules|`(tactic| walk_at"fa")=>`(tactic| (refine' L3.Bb ?cl ?na;(case cl=>k_is);(case na=>k_is)))
local macro_rules|`(tactic| walk_at"fn")=>`(tactic| (refine' PySem.W.mg_none_of (by assumption) (by assumption) ?x;(case x=>k_is)))
local macro_rules|`(tactic| walk_at"fg")=>`(tactic| (refine' L3.Dt (by assumption) (by assumption) ?a;(case a=>k_is)))
set_option maxRecDepth 100000 in
set_option maxHeartbeats 0 in
theorem PySem.Challenge.cw_leastloss_k08_whole_game_holds : PySem.Challenge.rw_leastloss_k08_whole_game.Holds := by
 w_on;o_law;k_head;(case hw=>w_witness2)
 k_fill
 refine L3.Dv (l:=PySem.Challenge.rw_leastloss_k08_whole_game) (x :="_law_script") (r:=2*40) (k:=40) (f:=50) (G:=L3.G) ⟨rfl,by decide,by decide⟩ L3.UW rfl rfl (fun w h Y=>PySem.W.kIn_of Y) ?F
 case F =>
 intro w mg fa h KX G hmg
 refine L3.all_mk hmg ?Z (L3.Nz ?F0 ?F1 ?F2 ?F3 ?F4 ?F5 ?F6 ?F7 ?F8 ?F9 ?F10 ?F11 ?F12 ?F13 ?F14 ?F15 ?F16 ?F17 ?F18 ?F19 ?F20 ?F21 ?F22 ?F23 ?F24 ?F25 ?F26 ?F27 ?F28 ?F29 ?F30 ?F31 ?F32 ?F33 ?F34 ?F35 ?F36 ?F37 ?F38 ?F39 ?F40 ?F41 ?F42 ?F43 ?F44 ?F45 ?F46 ?F47 ?F48 ?F49 ?F50)
 case Z =>
  refine⟨?b_isinstance,?b_str,?b_len,?b_all,?b_tuple,?b_list,?b_reversed,?b_set,?b_any,?b_int,?b_bool,?b_sum,?b_range,?g_NO_NAMES,?g_LONGEST_NAME,?g_LETTERS,?g_DEEPEST,?g_SAYINGS_WITHIN,?g_PAST_WORDS,?g_MOST_LAMPS,?g_MOST_PROMISES,?g_HIGHEST_PRICE,?g_MOST_WISHES,?g_MOST_MUSTS,?g_MOST_PIECES,?c_Table,?c_Rules,?c_Numbering,?a_Table_names,?a_Table_pieces,?a_Table_rows,?a_Table_row_of,?a_Table_first_memory,?a_Table_remembered_rows,?a_Rules_table,?a_Rules_promise_rows,?a_Rules_must_rows,?a_Rules_priced_rows,?a_Numbering_met⟩
  case b_isinstance=>walk_at"fn"
  case b_str=>walk_at"fn"
  case b_len=>walk_at"fn"
  case b_all=>walk_at"fn"
  case b_tuple=>walk_at"fn"
  case b_list=>walk_at"fn"
  case b_reversed=>walk_at"fn"
  case b_set=>walk_at"fn"
  case b_any=>walk_at"fn"
  case b_int=>walk_at"fn"
  case b_bool=>walk_at"fn"
  case b_sum=>walk_at"fn"
  case b_range=>walk_at"fn"
  case g_NO_NAMES=>refine' L3.RZ KX G ?NO_NAMESa ?NO_NAMESl ?NO_NAMESf ?NO_NAMESz;(case NO_NAMESa=>k_is);(case NO_NAMESl=>k_is);(case NO_NAMESf=>kernel_rfl);(case NO_NAMESz=>kernel_rfl)
  case g_LONGEST_NAME=>walk_at"fg"
  case g_LETTERS=>refine' L3.Cc KX G ?LETTERSa ?LETTERSe;(case LETTERSa=>k_is);(case LETTERSe=>rfl)
  case g_DEEPEST=>walk_at"fg"
  case g_SAYINGS_WITHIN=>refine' L3.Bw KX G ?SAYINGS_WITHINa ?SAYINGS_WITHINl ?SAYINGS_WITHINf;(case SAYINGS_WITHINa=>k_is);(case SAYINGS_WITHINl=>k_is);(case SAYINGS_WITHINf=>kernel_rfl)
  case g_PAST_WORDS=>refine' L3.RZ KX G ?PAST_WORDSa ?PAST_WORDSl ?PAST_WORDSf ?PAST_WORDSz;(case PAST_WORDSa=>k_is);(case PAST_WORDSl=>k_is);(case PAST_WORDSf=>kernel_rfl);(case PAST_WORDSz=>kernel_rfl)
  case g_MOST_LAMPS=>walk_at"fg"
  case g_MOST_PROMISES=>walk_at"fg"
  case g_HIGHEST_PRICE=>walk_at"fg"
  case g_MOST_WISHES=>walk_at"fg"
  case g_MOST_MUSTS=>walk_at"fg"
  case g_MOST_PIECES=>walk_at"fg"
  case c_Table=>walk_at"fc"
  case c_Rules=>walk_at"fc"
  case c_Numbering=>walk_at"fc"
  case a_Table_names=>walk_at"fa"
  case a_Table_pieces=>walk_at"fa"
  case a_Table_rows=>walk_at"fa"
  case a_Table_row_of=>walk_at"fa"
  case a_Table_first_memory=>walk_at"fa"
  case a_Table_remembered_rows=>walk_at"fa"
  case a_Rules_table=>walk_at"fa"
  case a_Rules_promise_rows=>walk_at"fa"
  case a_Rules_must_rows=>walk_at"fa"
  case a_Rules_priced_rows=>walk_at"fa"
  case a_Numbering_met=>walk_at"fa"
 case F0=>walk_at"ft"
 case F1=>walk_at"ft"
 case F2=>walk_at"ft"
 case F3=>walk_at"ft"
 case F4=>walk_at"ft"
 case F5=>walk_at"ft"
 case F6=>walk_at"ft"
 case F7=>walk_at"ft"
 case F8=>walk_at"ft"
 case F9=>walk_at"ft"
 case F10=>walk_at"ft"
 case F11=>walk_at"ft"
 case F12=>walk_at"ft"
 case F13=>walk_at"ft"
 case F14=>walk_at"ft"
 case F15=>walk_at"ft"
 case F16=>walk_at"ft"
 case F17=>walk_at"ft"
 case F18=>walk_at"fi"
 case F19=>walk_at"fm"
 case F20=>walk_at"fm"
 case F21=>walk_at"fm"
 case F22=>walk_at"fm"
 case F23=>walk_at"fm"
 case F24=>walk_at"fi"
 case F25=>walk_at"fm"
 case F26=>walk_at"fm"
 case F27=>walk_at"fm"
 case F28=>walk_at"ft"
 case F29=>walk_at"fi"
 case F30=>walk_at"fm"
 case F31=>walk_at"ft"
 case F32=>walk_at"ft"
 case F33=>walk_at"ft"
 case F34=>walk_at"ft"
 case F35=>walk_at"ft"
 case F36=>walk_at"ft"
 case F37=>walk_at"ft"
 case F38=>walk_at"ft"
 case F39=>walk_at"ft"
 case F40=>walk_at"ft"
 case F41=>walk_at"ft"
 case F42=>walk_at"ft"
 case F43=>walk_at"ft"
 case F44=>walk_at"ft"
 case F45=>walk_at"ft"
 case F46=>walk_at"ft"
 case F47=>walk_at"ft"
 case F48=>walk_at"ft"
 case F49=>walk_at"ft"
 case F50=>walk_at"ft"
