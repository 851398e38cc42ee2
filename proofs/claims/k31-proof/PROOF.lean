import PyProof.Rows.All
import Wide.All
import OpenK.AllK
import Wide.FinOn
import Lean
import PyProof.EqAt
import PyProof.EqKinds
import PyProof.TupleCall
import PySem.Challenge.RW_leastloss_k31_saying_texts
set_option Elab.async false
set_option tactic.hygienic false
set_option genSizeOf false
set_option bootstrap.genMatcherCode false
set_option compiler.extract_closed false
set_option linter.all false
set_option maxRecDepth 100000
set_option maxHeartbeats 4000000
section
namespace L2
open PySem PySem.Spec PyProof.Rows
noncomputable abbrev Key := Sum Int Str
noncomputable def keyIs : Key → Value → Bool
  | .inl k, v => Value.isInt k v
  | .inr x, v => Value.isStrOf x v
noncomputable def keyH (w : World) : Key → Int
  | .inl k => hashInt k
  | .inr x => hashStr w x
theorem keyIs_shape : ∀ {k : Key} {v : Value}, keyIs k v = true → (∃ i t, k = Sum.inl i ∧ v = Value.int i t) ∨ (∃ x t, k = Sum.inr x ∧ v = Value.str x t)
  | .inl i, v, h => by
    obtain ⟨t, e⟩ := Value.isInt_shape (k := i) (v := v) h
    exact .inl ⟨i, t, rfl, e⟩
  | .inr x, v, h => by
    obtain ⟨t, e⟩ := Value.isStrOf_shape (x := x) (v := v) h
    exact .inr ⟨x, t, rfl, e⟩
theorem key_ll (a b : Int) : decide ((Sum.inl a : Key) = Sum.inl b) = (a == b) := by
  by_cases e : a = b
  · subst e; simp
  · have h : ¬ (Sum.inl a : Key) = Sum.inl b := fun q => e (Sum.inl.inj q)
    rw [decide_eq_false h]
    exact (beq_eq_false_iff_ne.mpr e).symm
theorem key_rr (a b : Str) : decide ((Sum.inr a : Key) = Sum.inr b) = decide (a = b) := by
  by_cases e : a = b
  · subst e; simp
  · have h : ¬ (Sum.inr a : Key) = Sum.inr b := fun q => e (Sum.inr.inj q)
    rw [decide_eq_false h, decide_eq_false e]
theorem key_lr (a : Int) (b : Str) : decide ((Sum.inl a : Key) = Sum.inr b) = false := decide_eq_false (fun q => nomatch q)
theorem key_rl (a : Str) (b : Int) : decide ((Sum.inr a : Key) = Sum.inl b) = false := decide_eq_false (fun q => nomatch q)
noncomputable def mixKind (prog : Program) (w : World) : PySem.KeyKind prog w Key where
  is := keyIs
  hash := keyH w
  inj := fun v a b ha hb => by
    rcases keyIs_shape ha with ⟨i, t, rfl, rfl⟩ | ⟨x, t, rfl, rfl⟩
    · rcases keyIs_shape hb with ⟨j, u, rfl, e⟩ | ⟨y, u, rfl, e⟩
      · injection e with e1 _; rw [e1]
      · exact nomatch e
    · rcases keyIs_shape hb with ⟨j, u, rfl, e⟩ | ⟨y, u, rfl, e⟩
      · exact nomatch e
      · injection e with e1 _; rw [e1]
  byValue := fun k v h => by
    rcases keyIs_shape h with ⟨i, t, rfl, rfl⟩ | ⟨x, t, rfl, rfl⟩ <;> rfl
  pyHash := fun hv h => by
    rcases keyIs_shape hv with ⟨i, t, rfl, rfl⟩ | ⟨x, t, rfl, rfl⟩
    · exact wpAny_pyHash_int h
    · exact wpAny_pyHash_str h
  eqBool := fun hu hv h => by
    rcases keyIs_shape hu with ⟨i, t, rfl, rfl⟩ | ⟨x, t, rfl, rfl⟩
    · rcases keyIs_shape hv with ⟨j, u, rfl, rfl⟩ | ⟨y, u, rfl, rfl⟩
      · rw [key_ll] at h; exact wpAny_eqBool_int h
      · rw [key_lr] at h; exact SeqAt.EqAt.int_str i t y u _ _ _ _ h
    · rcases keyIs_shape hv with ⟨j, u, rfl, rfl⟩ | ⟨y, u, rfl, rfl⟩
      · rw [key_rl] at h; exact SeqAt.EqAt.str_int x t j u _ _ _ _ h
      · rw [key_rr] at h; exact wpAny_eqBool_str h
  «strs» := fun k x t v h => by
    rcases keyIs_shape h with ⟨i, u, rfl, e⟩ | ⟨y, u, rfl, e⟩
    · exact nomatch e
    · injection e with e1 _
      subst e1
      cases v <;> rfl
end L2
namespace L2
open PySem PySem.Spec PyProof.Rows
inductive V where
  | non | bl (b : Bool) | int (i : Int) | str (x : Str) | byt (b : Array UInt8) | flt (b : UInt64) | ref (a : Addr) | ty (n : String)
  deriving DecidableEq
noncomputable def RelV : V → Value → Prop
  | .non, u => u = Value.none
  | .bl b, u => u = Value.bool b
  | .int i, u => ∃ t, u = Value.int i t
  | .str x, u => ∃ t, u = Value.str x t
  | .byt b, u => ∃ t, u = Value.bytes b t
  | .flt b, u => ∃ t, u = Value.float b t
  | .ref a, u => u = Value.ref a
  | .ty n, u => u = Value.type n
noncomputable abbrev Vals : List V → List Value → Prop := Paired RelV
theorem Vals.length {xs : List V} {us : List Value} (r : Vals xs us) : xs.length = us.length := Paired.length r
theorem Vals.get : ∀ {xs : List V} {us : List Value} {i : Nat} {x : V}, Vals xs us → xs[i]? = some x → ∃ u, us[i]? = some u ∧ RelV x u
  | _, _, _, _, .nil, e => by simp at e
  | _, _, 0, _, .cons r _, e => by simp at e; subst e; exact ⟨_, rfl, r⟩
  | _, _, i + 1, x, .cons _ t, e => by
    obtain ⟨u, h1, h2⟩ := Vals.get (i := i) (x := x) t (by simpa using e)
    exact ⟨u, by simpa using h1, h2⟩
theorem Vals.set {x : V} {u : Value} (r : RelV x u) : ∀ {xs : List V} {us : List Value} (i : Nat), Vals xs us → Vals (xs.set i x) (us.set i u)
  | _, _, _, .nil => .nil
  | _, _, 0, .cons _ t => .cons r t
  | _, _, i + 1, .cons q t => .cons q (Vals.set r i t)
theorem Vals.append : ∀ {xs ys : List V} {us ws : List Value}, Vals xs us → Vals ys ws → Vals (xs ++ ys) (us ++ ws)
  | _, _, _, _, .nil, s => s
  | _, _, _, _, .cons r t, s => .cons r (Vals.append t s)
theorem Vals.take : ∀ {xs : List V} {us : List Value} (n : Nat), Vals xs us → Vals (xs.take n) (us.take n)
  | _, _, 0, _ => .nil
  | _, _, _ + 1, .nil => .nil
  | _, _, n + 1, .cons r t => .cons r (Vals.take n t)
theorem Vals.drop : ∀ {xs : List V} {us : List Value} (n : Nat), Vals xs us → Vals (xs.drop n) (us.drop n)
  | _, _, 0, r => r
  | _, _, _ + 1, .nil => .nil
  | _, _, n + 1, .cons _ t => Vals.drop n t
noncomputable def RelO : Option V → Option Value → Prop
  | some v, some u => RelV v u
  | none, none => True
  | _, _ => False
noncomputable def KV {κ : Type} : List (κ × V) → List (κ × Value) → Prop := Paired fun (p : κ × V) (q : κ × Value) => p.1 = q.1 ∧ RelV p.2 q.2
noncomputable def kV : Key → V
  | .inl i => .int i
  | .inr x => .str x
inductive HO where
  /-- a list -/
  | lst (xs : List V)
  /-- a tuple (never changes) -/
  | tup (xs : List V)
  /-- a dict whose keys are ints and texts; one whose keys are tuples of ints and texts (the empty one is both) -/
  | dK (kvs : List (Key × V)) | dT (kvs : List (List Key × V))
  /-- a set of ints: its members, its size -/
  | set (S : Int → Bool) (n : Nat)
  /-- an instance of the class at C, its dict at dx, its attributes -/
  | ins (C dx : Addr) (fs : List (Str × V))
  /-- the dict of the instance at x -/
  | own (x : Addr)
  /-- the dict of an exception -/
  | xd (fs : List (Str × V))
  /-- a bound method, f of x -/
  | met (f x : Addr)
  /-- a range object lo, lo + 1, .. below hi -/
  | rng (lo hi : Int)
  /-- a thing that is known to the object (the script; a dict while a loop walks it): read, never written while it is so -/
  | frz (o : Obj) (u : HO)
  /-- a code object's table -/
  | tbl (ps : Array Value)
  /-- any other thing, by what is true of its one object (a def of one's own: SetO a S n := HO.ext fun h => ..) -/
  | ext (φ : Program → World → Heap → Prop)
noncomputable abbrev Hp := Addr → Option HO
noncomputable def upd (H : Hp) (a : Addr) (o : HO) : Hp := fun b => if b = a then some o else H b
theorem upd_same {H : Hp} {a : Addr} {o : HO} : upd H a o a = some o := by unfold upd; rw [if_pos rfl]
theorem upd_ne {H : Hp} {a b : Addr} {o : HO} (h : b ≠ a) : upd H a o b = H b := by unfold upd; rw [if_neg h]
theorem ne_of {H : Hp} {a b : Addr} {o u : HO} (h : H a = some o) (h' : H b = some u) (d : o ≠ u) : a ≠ b := by
  intro e; subst e; rw [h] at h'; exact d (Option.some.inj h')
theorem ne_of_none {H : Hp} {a b : Addr} {o : HO} (h : H a = some o) (h' : H b = none) : a ≠ b := by
  intro e; subst e; rw [h] at h'; cases h'
noncomputable def TupO (h : Heap) (a : Addr) (its : Array Value) : Prop := ∃ o, h.get? a = some o ∧ o.cls = .type "tuple" ∧ (∃ n, o.data = .seq its n) ∧ o.dict = none
theorem TupO.tup {h : Heap} {a : Addr} {its : Array Value} : TupO h a its → IsTup h a its := fun ⟨o, e, c, d, _⟩ => ⟨o, e, c, d⟩
theorem TupO.lt {h : Heap} {a : Addr} {its : Array Value} (x : TupO h a its) : a < h.objs.size := x.tup.lt
theorem TupO.new (h : Heap) (items : Array Value) : TupO (h.push { cls := .type "tuple", data := .seq items }) h.objs.size items := ⟨_, Heap.get?_push_size _ rfl, rfl, ⟨_, rfl⟩, rfl⟩
section
variable (P : Program) (w : World)
noncomputable def ObjOk (H : Hp) (h : Heap) (a : Addr) : HO → Prop
  | .lst xs => xs.length ≤ sizeLine ∧ ∃ (its : List Value) (n : Nat), Vals xs its ∧ h.get? a = some { cls := .type "list", data := .seq its.toArray n }
  | .tup xs => xs.length ≤ sizeLine ∧ ∃ its : List Value, Vals xs its ∧ TupO h a its.toArray
  | .dK kvs => kvs.length ≤ sizeLine ∧ (a == sysModules) = false ∧ ∃ vs, KV kvs vs ∧ h.DictOf (mixKind P w) a vs
  | .dT kvs => kvs.length ≤ sizeLine ∧ (a == sysModules) = false ∧ ∃ xs : List (List Key × Addr × Value),
      Paired (fun (p : List Key × V) (q : List Key × Addr × Value) => p.1 = q.1 ∧ H q.2.1 = some (.tup (p.1.map kV)) ∧ RelV p.2 q.2.2) kvs xs ∧
      ∃ o es ep, h.get? a = some o ∧ o.ExactDict ∧ o.data = .dict es ep ∧ es.toList = xs.map (entryOfKey (tupleKind (mixKind P w))) ∧ (xs.map (·.1)).Nodup
  | .set S n => h.SetOf (intKind P w) a S n
  | .ins C dx fs => H dx = some (.own a) ∧ fs.length ≤ 1000 ∧ dx ≠ a ∧ h.get? a = some (PySem.W.instObj C dx) ∧
      ∃ mA, h.Ns1 dx mA ∧ (∀ f, RelO (fs.lookup f) (mA f)) ∧ PySem.Within mA (fs.map (·.1))
  | .own _ => ∃ o, h.get? a = some o
  | .xd fs => ∃ mA, h.Ns1 a mA ∧ ∀ f, RelO (fs.lookup f) (mA f)
  | .rng lo hi => ∃ t u v, h.get? a = some { cls := .type "range", data := .fields #[.int lo t, .int hi u, .int 1 v] }
  | .frz o u => h.get? a = some o ∧ ObjOk H h a u
  | .tbl ps => h.get? a = some { cls := .none, data := .fields ps }
  | .met f x => h.get? a = some (PySem.W.methodObj (.ref f) (.ref x))
  | .ext φ => φ P w h ∧ (∃ o, h.get? a = some o) ∧ ∀ h1 h2 : Heap, φ P w h1 → (∀ o, h1.get? a = some o → h2.get? a = some o) → φ P w h2
noncomputable def HOk (H : Hp) (h : Heap) : Prop := ∀ a o, H a = some o → ObjOk P w H h a o
end
section
variable {P : Program} {w : World} {H H' : Hp} {h h' : Heap} {a : Addr} {o : HO}
theorem ObjOk.lt (x : ObjOk P w H h a o) : a < h.objs.size := by
  cases o with
  | lst xs => obtain ⟨_, _, _, _, e⟩ := x; exact Heap.lt_size e
  | tup xs => obtain ⟨_, _, _, p⟩ := x; exact p.lt
  | dK kvs => obtain ⟨_, _, _, _, o, _, _, e, _⟩ := x; exact Heap.lt_size e
  | dT kvs => obtain ⟨_, _, _, _, o, _, _, e, _⟩ := x; exact Heap.lt_size e
  | set S n => obtain ⟨o, _, _, _, e, _⟩ := x; exact Heap.lt_size e
  | ins C dx fs => obtain ⟨_, _, _, e, _⟩ := x; exact Heap.lt_size e
  | own y => obtain ⟨_, e⟩ := x; exact Heap.lt_size e
  | xd fs => obtain ⟨_, ⟨_, _, _, e, _⟩, _⟩ := x; exact Heap.lt_size e
  | rng lo hi => obtain ⟨_, _, _, e⟩ := x; exact Heap.lt_size e
  | frz ob u => obtain ⟨e, _⟩ := x; exact Heap.lt_size e
  | tbl ps => exact Heap.lt_size (show h.get? a = some _ from x)
  | met f y => exact Heap.lt_size (show h.get? a = some _ from x)
  | ext φ => obtain ⟨_, ⟨_, e⟩, _⟩ := x; exact Heap.lt_size e
theorem Paired.mapP {α β : Type} {F G : α → β → Prop} : ∀ {l₁ : List α} {l₂ : List β}, Paired F l₁ l₂ → (∀ a b, F a b → G a b) → Paired G l₁ l₂
  | _, _, .nil, _ => .nil
  | _, _, .cons r t, f => .cons (f _ _ r) (Paired.mapP t f)
theorem ObjOk.stay (x : ObjOk P w H h a o) (k : ∀ b u, (b = a ∨ H b = some (.own a)) → h.get? b = some u → h'.get? b = some u)
    (ho : ∀ b, H b = some (.own a) → H' b = some (.own a)) (ht : ∀ b xs, H b = some (.tup xs) → H' b = some (.tup xs)) : ObjOk P w H' h' a o := by
  induction o with
  | lst xs => obtain ⟨z, its, n, r, e⟩ := x; exact ⟨z, its, n, r, k _ _ (.inl rfl) e⟩
  | tup xs => obtain ⟨z, its, r, ob, e, c⟩ := x; exact ⟨z, its, r, ob, k _ _ (.inl rfl) e, c⟩
  | dK kvs => obtain ⟨z, y, vs, r, ob, es, ep, e, c⟩ := x; exact ⟨z, y, vs, r, ob, es, ep, k _ _ (.inl rfl) e, c⟩
  | dT kvs =>
    obtain ⟨z, y, xs, r, ob, es, ep, e, c⟩ := x
    exact ⟨z, y, xs, Paired.mapP r fun p q z => ⟨z.1, ht _ _ z.2.1, z.2.2⟩, ob, es, ep, k _ _ (.inl rfl) e, c⟩
  | set S n => obtain ⟨ob, es, ep, t, e, c⟩ := x; exact ⟨ob, es, ep, t, k _ _ (.inl rfl) e, c⟩
  | ins C dx fs =>
    obtain ⟨d, z, ne, e, mA, ⟨od, es, ep, e2, c⟩, r⟩ := x
    exact ⟨ho _ d, z, ne, k _ _ (.inl rfl) e, mA, ⟨od, es, ep, k _ _ (.inr d) e2, c⟩, r⟩
  | own y => obtain ⟨ob, e⟩ := x; exact ⟨ob, k _ _ (.inl rfl) e⟩
  | xd fs => obtain ⟨mA, ⟨od, es, ep, e, c⟩, r⟩ := x; exact ⟨mA, ⟨od, es, ep, k _ _ (.inl rfl) e, c⟩, r⟩
  | rng lo hi => obtain ⟨t, u, v, e⟩ := x; exact ⟨t, u, v, k _ _ (.inl rfl) e⟩
  | frz ob u ih => obtain ⟨e, q⟩ := x; exact ⟨k _ _ (.inl rfl) e, ih q⟩
  | tbl ps =>
    have e : h.get? a = some { cls := .none, data := .fields ps } := x
    show h'.get? a = some { cls := .none, data := .fields ps }
    exact k a _ (.inl rfl) e
  | met f y =>
    have e : h.get? a = some (PySem.W.methodObj (.ref f) (.ref y)) := x
    show h'.get? a = some (PySem.W.methodObj (.ref f) (.ref y))
    exact k a _ (.inl rfl) e
  | ext φ => obtain ⟨p, ⟨o, e⟩, st⟩ := x; exact ⟨st _ _ p fun o q => k _ _ (.inl rfl) q, ⟨o, k _ _ (.inl rfl) e⟩, st⟩
theorem HOk.lt (x : HOk P w H h) (e : H a = some o) : a < h.objs.size := (x a o e).lt
theorem HOk.fresh (x : HOk P w H h) (e : h.objs.size ≤ a) : H a = none := by
  cases q : H a with
  | none => rfl
  | some u => exact absurd (Nat.lt_of_lt_of_le (x.lt q) e) (Nat.lt_irrefl _)
theorem HOk.kept (x : HOk P w H h) (k : ∀ b u, h.get? b = some u → h'.get? b = some u) : HOk P w H h' := fun a o e =>
  (x a o e).stay (fun b u _ q => k b u q) (fun _ q => q) fun _ _ q => q
theorem HOk.laid (x : HOk P w H h) (k : ∀ b u, h.get? b = some u → h'.get? b = some u) (hp : h.objs.size ≤ a) (new : ObjOk P w (upd H a o) h' a o) : HOk P w (upd H a o) h' := fun b u e => by
  have hn := x.fresh hp
  by_cases hb : b = a
  · subst hb; rw [upd_same] at e; cases e; exact new
  · rw [upd_ne hb] at e
    exact (x b u e).stay (fun c v _ q => k c v q) (fun c q => by rw [upd_ne (ne_of_none q hn)]; exact q) fun c xs q => by rw [upd_ne (ne_of_none q hn)]; exact q
end
noncomputable def Rd (H : Hp) (a : Addr) (u : HO) : Prop := H a = some u ∨ ∃ o, H a = some (.frz o u)
theorem Rd.ok {P : Program} {w : World} {H : Hp} {h : Heap} {a : Addr} {u : HO} (r : Rd H a u) (x : HOk P w H h) : ObjOk P w H h a u := by
  rcases r with r | ⟨o, r⟩
  · exact x a u r
  · obtain ⟨_, q⟩ := x a _ r
    exact q
noncomputable def Mut : Option HO → Prop
  | some (.lst _) => True
  | some (.dK _) => True
  | some (.dT _) => True
  | some (.set _ _) => True
  | some (.ins _ _ _) => True
  | some (.ext _) => True
  | _ => False
section
variable {P : Program} {w : World} {H : Hp} {h h' : Heap} {x e : Addr} {o' : HO}
theorem HOk.write (ok : HOk P w H h) (mu : Mut (H x)) (he : e = x ∨ H e = some (.own x)) (k : ∀ b u, b ≠ e → h.get? b = some u → h'.get? b = some u) (heo : ∃ u, h'.get? e = some u)
    (new : ObjOk P w (upd H x o') h' x o') : HOk P w (upd H x o') h' := fun b u q => by
  have nown : ∀ c y, H c = some (.own y) → c ≠ x := fun c y r z => by subst z; rw [r] at mu; exact mu
  have ntup : ∀ c xs, H c = some (.tup xs) → c ≠ x := fun c xs r z => by subst z; rw [r] at mu; exact mu
  by_cases hb : b = x
  · subst hb; rw [upd_same] at q; cases q; exact new
  · rw [upd_ne hb] at q
    by_cases hbe : b = e
    · have q' : H b = some (.own x) := by
        rcases he with z | z
        · exact absurd (hbe.trans z) hb
        · rw [hbe]; exact z
      rw [q] at q'; cases q'
      obtain ⟨v, hv⟩ := heo
      exact ⟨v, by rw [hbe]; exact hv⟩
    · refine (ok b u q).stay (fun c v hc r => k c v ?_ r) (fun c r => by rw [upd_ne (nown c b r)]; exact r) fun c xs r => by rw [upd_ne (ntup c xs r)]; exact r
      rcases hc with rfl | hc
      · exact hbe
      · rintro rfl
        rcases he with z | z
        · exact nown c b hc z
        · rw [hc] at z; cases z; exact hb rfl
end
structure Un (fs ex : List Addr) (H H' : Hp) (h h' : Heap) : Prop where
  keep : ∀ b o, h.get? b = some o → H b = none → b ∉ fs → b ∉ ex → h'.get? b = some o
  slot : ∀ b o, h.get? b = some o → H b = none → b ∈ fs → b ∉ ex → ∃ sl, h'.get? b = some { o with slots := sl }
  free : ∀ b o, h.get? b = some o → H b = none → b ∉ ex → H' b = none
  there : ∀ b o, h.get? b = some o → b ∉ ex → ∃ o', h'.get? b = some o'
  tups : ∀ b xs, H b = some (.tup xs) → H' b = some (.tup xs)
  frzs : ∀ b o u, H b = some (.frz o u) → H' b = some (.frz o u)
  tbls : ∀ b ps, H b = some (.tbl ps) → ∃ more, H' b = some (.tbl (ps ++ more))
section
variable {fs fs' ex ex' : List Addr} {H H1 H2 : Hp} {h h1 h2 h' : Heap} {a x e : Addr} {o : HO}
theorem Un.any (u : Un fs ex H H1 h h1) {b : Addr} {ob : Obj} (q : h.get? b = some ob) (n : H b = none) (hx : b ∉ ex) : ∃ sl, h1.get? b = some { ob with slots := sl } := by
  by_cases hb : b ∈ fs
  · exact u.slot b ob q n hb hx
  · exact ⟨ob.slots, u.keep b ob q n hb hx⟩
theorem Un.kept (k : ∀ b u, h.get? b = some u → h'.get? b = some u) : Un fs ex H H h h' :=
  ⟨fun b ob q _ _ _ => k b ob q, fun b ob q _ _ _ => ⟨ob.slots, k b ob q⟩, fun _ _ _ n _ => n, fun b ob q _ => ⟨ob, k b ob q⟩, fun _ _ q => q, fun _ _ _ q => q, fun _ ps q => ⟨#[], by rw [q]; simp⟩⟩
theorem Un.refl : Un fs ex H H h h := Un.kept fun _ _ q => q
theorem Un.laid (k : ∀ b u, h.get? b = some u → h'.get? b = some u) (hp : h.objs.size ≤ a) (hn : H a = none) : Un fs ex H (upd H a o) h h' where
  keep := fun b u q _ _ _ => k b u q
  slot := fun b u q _ _ _ => ⟨u.slots, k b u q⟩
  free := fun b u q n _ => by rw [upd_ne (Nat.ne_of_lt (Nat.lt_of_lt_of_le (Heap.lt_size q) hp))]; exact n
  there := fun b u q _ => ⟨u, k b u q⟩
  tups := fun b xs q => by rw [upd_ne (ne_of_none q hn)]; exact q
  frzs := fun b u xs q => by rw [upd_ne (ne_of_none q hn)]; exact q
  tbls := fun b ps q => ⟨#[], by rw [upd_ne (ne_of_none q hn), q]; simp⟩
theorem Un.write (mu : Mut (H x)) (he : e = x ∨ H e = some (.own x)) (k : ∀ b u, b ≠ e → h.get? b = some u → h'.get? b = some u) (heo : ∃ u, h'.get? e = some u) : Un fs ex H (upd H x o) h h' := by
  have hx : ∀ b, H b = none → b ≠ x := fun b n z => by subst z; rw [n] at mu; exact mu
  have hb : ∀ b, H b = none → b ≠ e := fun b n z => by
    subst z
    rcases he with r | r
    · exact hx b n r
    · rw [n] at r; cases r
  have hm : ∀ b u, H b = some u → ¬ Mut (some u) → b ≠ x := fun b u q nm z => by subst z; rw [q] at mu; exact nm mu
  refine ⟨fun b u q n _ _ => k b u (hb b n) q, fun b u q n _ _ => ⟨u.slots, k b u (hb b n) q⟩, fun b u q n _ => by rw [upd_ne (hx b n)]; exact n, fun b u q _ => ?_,
    fun b xs q => by rw [upd_ne (hm b _ q fun z => z)]; exact q, fun b u xs q => by rw [upd_ne (hm b _ q fun z => z)]; exact q, fun b ps q => ⟨#[], by rw [upd_ne (hm b _ q fun z => z), q]; simp⟩⟩
  by_cases hbe : b = e
  · subst hbe; exact heo
  · exact ⟨u, k b u hbe q⟩
end
noncomputable def trk (h : Heap) (H : Hp) : List Addr := (List.range h.objs.size).filter fun a => (H a).isSome
noncomputable def hidT (h : Heap) (H : Hp) : Heap := PySem.W.hideAll h (trk h H)
theorem hidT_size (h : Heap) (H : Hp) : (hidT h H).objs.size = h.objs.size := PySem.W.hideAll_size _ _
theorem hidT_get {h : Heap} {H : Hp} {b : Addr} {o : Obj} (e : h.get? b = some o) (n : H b = none) : (hidT h H).get? b = some o :=
  PySem.W.hideAll_get _ e fun hm => by
    have q : (H b).isSome = true := (List.mem_filter.mp hm).2
    rw [n] at q; simp at q
theorem of_hidT {h : Heap} {H : Hp} {b : Addr} {o : Obj} (e : (hidT h H).get? b = some o) : h.get? b = some o ∧ H b = none := by
  have e' : h.get? b = some o := PySem.W.of_hideAll (trk h H) e
  refine ⟨e', ?_⟩
  cases q : H b with
  | none => rfl
  | some x =>
    have hm : b ∈ trk h H := List.mem_filter.mpr ⟨List.mem_range.mpr (Heap.lt_size e'), by simp [q]⟩
    have z : (hidT h H).get? b = none := PySem.W.hideAll_none (trk h H) hm
    rw [z] at e; cases e
noncomputable def allNews (g h : Heap) (L : Addr) : List (Addr × Obj) := (List.range h.objs.size).filterMap fun a => if a = L ∨ (g.get? a).isSome = true then none else (h.get? a).map fun o => (a, o)
noncomputable def rest (g h : Heap) (L d : Addr) : List (Addr × Obj) := (allNews g h L).filter fun p => decide (p.1 ≠ d)
end L2
namespace L2
open PySem PySem.Spec PyProof.Rows
structure Mod (K : PySem.W.Frag) (mg : Str → Option Value) (base : Heap) : Prop where
  kin : K.In base
  glob : base.Ns mainGlobals mg
  blt : ∃ mb, base.Ns builtinsNs mb ∧ ∀ x : Str, x ≠ "__name__" → mb x = bootBuiltins x
  nolimit : base.NoLimit
structure Cx where
  prog : Program
  w : World
  K : PySem.W.Frag
  mg : Str → Option Value
  base : Heap
  A : Around
  N : List Str
  s₀ : Shared
  H₀ : Hp
  env : Env
  outer : List Env
  stack : List Env
  ex : List Addr
  fn : Str → Bool
  calm : Bool
  pn : List (Addr × Obj)
  xe : Value → Shared → Prop
noncomputable def frs (l : List Env) : List Addr := l.filterMap (·.frame)
noncomputable abbrev Cx.fs (X : Cx) : List Addr := frs X.outer
noncomputable def Vis (sc : Scope) (x : Str) : Prop := sc.names.lookup x = some .local ∨ sc.names.lookup x = some .cell ∨ sc.names.lookup x = some .free
noncomputable def Loc (sc : Scope) (x : Str) : Prop := sc.names.lookup x = some .local ∨ sc.names.lookup x = some .cell
noncomputable def Look (env : Env) (h : Heap) (m : Str → Option Value) (x : Str) (u : Value) : Prop :=
  (env.kindOf x = some .local ∧ m x = some u) ∨ ((env.kindOf x = some .cell ∨ env.kindOf x = some .free) ∧ ∃ c, env.cells.lookup x = some c ∧ h.IsCell c (some u))
structure Cx.Ok (X : Cx) : Prop where
  mod : Mod X.K X.mg X.base
  kind : X.env.scope.kind = .function
  glob : X.env.globals = mainGlobals
  blt : X.env.builtins = builtinsNs
  above : X.s₀.heap.objs.size ≤ X.env.locals
  inj : ∀ x y c, X.env.cells.lookup x = some c → X.env.cells.lookup y = some c → x = y
  has : ∀ x, (X.env.kindOf x = some .cell ∨ X.env.kindOf x = some .free) → ∃ c, X.env.cells.lookup x = some c
  cab : ∀ x c, X.fn x = true → X.env.cells.lookup x = some c → X.s₀.heap.objs.size ≤ c
  hd : X.calm = true → X.A.handled = none
  frames : X.A.frames = some X.stack
  stk : X.stack = X.outer ∨ (X.stack = X.env :: X.outer ∧ X.env.frame = some X.env.locals)
  exf : ∀ b ∈ X.ex, b ≠ X.env.locals ∧ ∀ x c, X.env.cells.lookup x = some c → c ≠ b
  bs : ∀ b o, X.base.get? b = some o → X.s₀.heap.get? b = some o ∧ X.H₀ b = none
  bsz : X.base.objs.size ≤ X.s₀.heap.objs.size
  noex : ∀ b o, X.base.get? b = some o → b ∉ X.ex
  exfs : ∀ b ∈ X.ex, b ∉ X.fs
  funs : X.s₀.heap.FunFrames X.base X.outer
  frf : ∀ b ∈ X.fs, X.H₀ b = none
structure Inv (X : Cx) (pins : List (Addr × Obj)) (σ : List (Option V)) (H : Hp) (s : Shared) : Prop where
  ok : X.Ok
  os : s.os = X.s₀.os
  bare : AllBare s.gens
  base : Un X.fs X.ex X.H₀ H X.s₀.heap s.heap
  loc : ∃ m, s.heap.Ns X.env.locals m ∧ ∀ (i : Nat) (x : Str) (v : V), X.N[i]? = some x → σ[i]? = some (some v) → Vis X.env.scope x → ∃ u, RelV v u ∧ Look X.env s.heap m x u
  cell : ∀ x c, X.env.cells.lookup x = some c → ∃ v, s.heap.IsCell c v
  free : H X.env.locals = none
  freeC : ∀ x c, X.env.cells.lookup x = some c → H c = none
  pin : ∀ p ∈ X.pn ++ pins, s.heap.get? p.1 = some p.2 ∧ H p.1 = none ∧ p.1 ≠ X.env.locals ∧ p.1 ∉ X.fs ∧ ∀ v, p.2.data ≠ .cell v
  hok : HOk X.prog X.w H s.heap
  len : σ.length = X.N.length
section
variable {X : Cx} {pins : List (Addr × Obj)} {σ : List (Option V)} {H H' : Hp} {s : Shared} {h' : Heap}
theorem Cx.Ok.nofr (ok : X.Ok) {b : Addr} {o : Obj} (e : X.base.get? b = some o) : b ∉ X.fs := fun hb => by
  have := (ok.funs.mem hb).1
  rw [e] at this; cases this
theorem Inv.bs (I : Inv X pins σ H s) : ∀ b o, X.base.get? b = some o → s.heap.get? b = some o ∧ H b = none := fun b o e =>
  ⟨I.base.keep b o (I.ok.bs b o e).1 (I.ok.bs b o e).2 (I.ok.nofr e) (I.ok.noex b o e), I.base.free b o (I.ok.bs b o e).1 (I.ok.bs b o e).2 (I.ok.noex b o e)⟩
theorem Inv.bk (I : Inv X pins σ H s) : ∀ b o, X.base.get? b = some o → s.heap.get? b = some o := fun b o e => (I.bs b o e).1
theorem Inv.mod (I : Inv X pins σ H s) : Mod X.K X.mg X.base := I.ok.mod
theorem Inv.kIn (I : Inv X pins σ H s) : X.K.In s.heap := I.ok.mod.kin.keeps I.bk
theorem Inv.fr (I : Inv X pins σ H s) : ∃ m, Fr X.base X.env.locals s.heap m :=
  let ⟨m, hn, _⟩ := I.loc
  ⟨m, hn, I.bk, Nat.le_trans I.ok.bsz I.ok.above⟩
theorem Inv.lt (I : Inv X pins σ H s) : X.env.locals < s.heap.objs.size := let ⟨_, hn, _⟩ := I.loc; hn.lt
theorem Inv.sz (I : Inv X pins σ H s) : X.s₀.heap.objs.size ≤ s.heap.objs.size := Nat.le_trans I.ok.above (Nat.le_of_lt I.lt)
theorem Inv.nofs (I : Inv X pins σ H s) {a : Addr} (h : s.heap.objs.size ≤ a) : a ∉ X.fs := fun hb => by
  obtain ⟨_, o, ho, _⟩ := I.ok.funs.mem hb
  exact absurd (Nat.lt_of_lt_of_le (Heap.lt_size ho) (Nat.le_trans I.sz h)) (Nat.lt_irrefl _)
theorem Inv.cne (I : Inv X pins σ H s) : ∀ x c, X.env.cells.lookup x = some c → c ≠ X.env.locals := fun x c e z => by
  obtain ⟨v, o, ho, hd⟩ := I.cell x c e
  obtain ⟨m, ⟨o', es, ep, ho', hd', _⟩, _⟩ := I.loc
  rw [z, ho'] at ho; cases ho; rw [hd'] at hd; cases hd
theorem Inv.funs (I : Inv X pins σ H s) : s.heap.FunFrames X.base X.outer := by
  have all : ∀ (l : List Env), (∀ b ∈ frs l, b ∈ X.fs) → X.s₀.heap.FunFrames X.base l → s.heap.FunFrames X.base l := by
    intro l
    induction l with
    | nil => intro _ _; trivial
    | cons env r ih =>
      intro hs hl
      obtain ⟨hk, ⟨L, o, hf, hn, ho, hd⟩, hr⟩ := hl
      have hL : L ∈ X.fs := hs L (by unfold frs; rw [List.filterMap_cons, hf]; exact List.mem_cons_self)
      obtain ⟨sl, e⟩ := I.base.slot L o ho (I.ok.frf L hL) hL fun z => I.ok.exfs L z hL
      exact ⟨hk, ⟨L, _, hf, hn, e, hd⟩, ih (fun b hb => hs b (by unfold frs; rw [List.filterMap_cons, hf]; exact List.mem_cons_of_mem _ hb)) hr⟩
  exact all X.outer (fun _ hb => hb) I.ok.funs
theorem Inv.stack (I : Inv X pins σ H s) : s.heap.FunFrames X.base X.stack := by
  rcases I.ok.stk with e | ⟨e, hf⟩
  · rw [e]; exact I.funs
  · rw [e]
    obtain ⟨m, hn, _⟩ := I.loc
    refine .cons (by rw [I.ok.kind]; decide) hf hn ?_ I.funs
    exact Heap.get?_none_of_le (Nat.le_trans I.ok.bsz I.ok.above)
theorem Inv.stkSub (I : Inv X pins σ H s) : ∀ b ∈ frs X.stack, b ∈ X.env.locals :: X.fs := fun b hb => by
  rcases I.ok.stk with e | ⟨e, hf⟩
  · rw [e] at hb; exact List.mem_cons_of_mem _ hb
  · rw [e] at hb
    unfold frs at hb
    rw [List.filterMap_cons, hf] at hb
    exact hb
theorem Inv.stkFree (I : Inv X pins σ H s) : ∀ b ∈ frs X.stack, H b = none := fun b hb => by
  rcases List.mem_cons.mp (I.stkSub b hb) with e | hb
  · rw [e]; exact I.free
  · obtain ⟨_, o, ho, _⟩ := I.ok.funs.mem hb
    exact I.base.free b o ho (I.ok.frf b hb) fun z => I.ok.exfs b z hb
theorem Inv.step {g' : Array GenState} {t' : Nat} {d' : Drawn} {ch : List Addr} (I : Inv X pins σ H s)
    (hch : ∀ b ∈ ch, (b ∈ X.ex ∨ X.s₀.heap.objs.size ≤ b) ∧ b ≠ X.env.locals ∧ (∀ x c, X.env.cells.lookup x = some c → c ≠ b) ∧ ∀ p ∈ X.pn ++ pins, p.1 ≠ b)
    (keep : ∀ b o, b ≠ X.env.locals → b ∉ X.fs → b ∉ ch → s.heap.get? b = some o → H b = none → h'.get? b = some o)
    (slot : ∀ b o, b ≠ X.env.locals → b ∈ X.fs → b ∉ ch → s.heap.get? b = some o → H b = none → ∃ sl, h'.get? b = some { o with slots := sl }) (free : ∀ b o, b ∉ ch → s.heap.get? b = some o → H b = none → H' b = none)
    (there : ∀ b o, b ∉ ch → s.heap.get? b = some o → ∃ o', h'.get? b = some o')
    (tups : ∀ b xs, H b = some (.tup xs) → H' b = some (.tup xs)) (frzs : ∀ b o u, H b = some (.frz o u) → H' b = some (.frz o u)) (tbls : ∀ b ps, H b = some (.tbl ps) → ∃ more, H' b = some (.tbl (ps ++ more)))
    (ns : ∀ m, s.heap.Ns X.env.locals m → h'.Ns X.env.locals m) (hok : HOk X.prog X.w H' h') (hg : AllBare g') :
    Inv X pins σ H' { s with heap := h', gens := g', drawn := d', toks := t' } := by
  have neL : ∀ b o, X.s₀.heap.get? b = some o → b ≠ X.env.locals := fun b o e => Nat.ne_of_lt (Nat.lt_of_lt_of_le (Heap.lt_size e) I.ok.above)
  have neC : ∀ b o, X.s₀.heap.get? b = some o → b ∉ X.ex → b ∉ ch := fun b o e hx hb => by
    rcases (hch b hb).1 with z | z
    · exact hx z
    · exact absurd (Nat.lt_of_lt_of_le (Heap.lt_size e) z) (Nat.lt_irrefl _)
  have cellK : ∀ x c, X.env.cells.lookup x = some c → ∀ v, s.heap.IsCell c v → h'.IsCell c v := fun x c e v ⟨o, ho, hd⟩ => by
    have nch : c ∉ ch := fun z => (hch c z).2.2.1 x c e rfl
    by_cases hc : c ∈ X.fs
    · obtain ⟨sl, q⟩ := slot c o (I.cne x c e) hc nch ho (I.freeC x c e)
      exact ⟨_, q, hd⟩
    · exact ⟨o, keep c o (I.cne x c e) hc nch ho (I.freeC x c e), hd⟩
  refine ⟨I.ok, I.os, hg, ⟨fun b o e n hb hx => ?_, fun b o e n hb hx => ?_, fun b o e n hx => ?_, fun b o e hx => ?_, fun b xs e => tups b xs (I.base.tups b xs e), fun b o xs e => frzs b o xs (I.base.frzs b o xs e), fun b ps e => ?_⟩, ?_, fun x c e => ?_, ?_, fun x c e => ?_, fun p hp => ?_, hok, I.len⟩
  · exact keep b o (neL b o e) hb (neC b o e hx) (I.base.keep b o e n hb hx) (I.base.free b o e n hx)
  · obtain ⟨sl, e1⟩ := I.base.slot b o e n hb hx
    obtain ⟨sl', e2⟩ := slot b _ (neL b o e) hb (neC b o e hx) e1 (I.base.free b o e n hx)
    exact ⟨sl', e2⟩
  · obtain ⟨o', e1⟩ := I.base.there b o e hx
    exact free b o' (neC b o e hx) e1 (I.base.free b o e n hx)
  · obtain ⟨o', e1⟩ := I.base.there b o e hx
    exact there b o' (neC b o e hx) e1
  · obtain ⟨m1, e1⟩ := I.base.tbls b ps e
    obtain ⟨m2, e2⟩ := tbls b _ e1
    exact ⟨m1 ++ m2, by rw [e2, Array.append_assoc]⟩
  · obtain ⟨m, hn, hl⟩ := I.loc
    refine ⟨m, ns m hn, fun i x v e1 e2 e3 => ?_⟩
    obtain ⟨u, r, l⟩ := hl i x v e1 e2 e3
    refine ⟨u, r, ?_⟩
    rcases l with l | ⟨k, c, e, z⟩
    · exact .inl l
    · exact .inr ⟨k, c, e, cellK x c e _ z⟩
  · obtain ⟨v, z⟩ := I.cell x c e
    exact ⟨v, cellK x c e v z⟩
  · obtain ⟨m, ⟨o, _, _, ho, _⟩, _⟩ := I.loc
    exact free _ o (fun z => (hch _ z).2.1 rfl) ho I.free
  · obtain ⟨v, o, ho, hd⟩ := I.cell x c e
    exact free c o (fun z => (hch c z).2.2.1 x c e rfl) ho (I.freeC x c e)
  · obtain ⟨e, n, ne, nf, d⟩ := I.pin p hp
    have nch : p.1 ∉ ch := fun z => (hch p.1 z).2.2.2 p hp rfl
    exact ⟨keep p.1 p.2 ne nf nch e n, free p.1 p.2 nch e n, ne, nf, d⟩
theorem Inv.un {t' : Nat} (I : Inv X pins σ H s) (u : Un X.fs [] H H' s.heap h') (hok : HOk X.prog X.w H' h') : Inv X pins σ H' { s with heap := h', toks := t' } := by
  obtain ⟨m, ⟨o, es, ep, ho, r⟩, _⟩ := id I.loc
  obtain ⟨sl, hL⟩ := u.any ho I.free (by simp)
  exact I.step (g' := s.gens) (d' := s.drawn) (ch := []) (fun _ z => nomatch z) (fun b o _ hb _ e n => u.keep b o e n hb (by simp)) (fun b o _ hb _ e n => u.slot b o e n hb (by simp)) (fun b o _ e n => u.free b o e n (by simp)) (fun b o _ e => u.there b o e (by simp)) u.tups u.frzs u.tbls (fun m' hm => by
    obtain ⟨o', es', ep', ho', r'⟩ := hm
    rw [ho] at ho'; cases ho'
    exact ⟨_, es', ep', hL, r'⟩) hok I.bare
theorem Inv.call {g' : Array GenState} {t' : Nat} {d' : Drawn} {ch : List Addr} (I : Inv X pins σ H s) (u : Un (frs X.stack) ch H H' s.heap h') (hok : HOk X.prog X.w H' h') (hg : AllBare g')
    (hch : ∀ b ∈ ch, (b ∈ X.ex ∨ X.s₀.heap.objs.size ≤ b) ∧ b ≠ X.env.locals ∧ (∀ x c, X.env.cells.lookup x = some c → c ≠ b) ∧ ∀ p ∈ X.pn ++ pins, p.1 ≠ b) :
    Inv X pins σ H' { s with heap := h', gens := g', drawn := d', toks := t' } := by
  obtain ⟨m, ⟨o, es, ep, ho, r⟩, _⟩ := id I.loc
  obtain ⟨sl, hL⟩ := u.any ho I.free fun z => (hch _ z).2.1 rfl
  exact I.step (ch := ch) hch (fun b o hL hb hc e n => u.keep b o e n (fun z => (List.mem_cons.mp (I.stkSub b z)).elim hL hb) hc) (fun b o _ _ hc e n => u.any e n hc) (fun b o hc e n => u.free b o e n hc) (fun b o hc e => u.there b o e hc) u.tups u.frzs u.tbls (fun m' hm => by
    obtain ⟨o', es', ep', ho', r'⟩ := hm
    rw [ho] at ho'; cases ho'
    exact ⟨_, es', ep', hL, r'⟩) hok hg
theorem Inv.turned {t' : Nat} {it : Addr} (I : Inv X pins σ H s) (k : ∀ b o, b ≠ it → s.heap.get? b = some o → h'.get? b = some o) (hn : H it = none) (hL : it ≠ X.env.locals)
    (h1 : it ∈ X.ex ∨ X.s₀.heap.objs.size ≤ it) (h2 : ∀ x c, X.env.cells.lookup x = some c → c ≠ it) (h3 : ∀ p ∈ X.pn ++ pins, p.1 ≠ it) : Inv X pins σ H { s with heap := h', toks := t' } := by
  have nit : ∀ b u, H b = some u → b ≠ it := fun b u e z => by rw [z, hn] at e; cases e
  refine I.step (g' := s.gens) (d' := s.drawn) (ch := [it]) (fun b hb => ?_) (fun b o _ _ hc e _ => k b o (fun z => hc (by simp [z])) e) (fun b o _ _ hc e _ => ⟨o.slots, k b o (fun z => hc (by simp [z])) e⟩) (fun _ _ _ _ n => n)
    (fun b o hc e => ⟨o, k b o (fun z => hc (by simp [z])) e⟩) (fun _ _ e => e) (fun _ _ _ e => e) (fun b ps e => ⟨#[], by rw [e]; simp⟩) (fun m hm => ?_) (fun b u e => ?_) I.bare
  · have e : b = it := by simpa using hb
    subst e
    exact ⟨h1, hL, h2, h3⟩
  · obtain ⟨o, es, ep, ho, r⟩ := hm
    exact ⟨o, es, ep, k _ o (Ne.symm hL) ho, r⟩
  · refine (I.hok b u e).stay (fun c v hc q => k c v ?_ q) (fun _ q => q) fun _ _ q => q
    rcases hc with z | z
    · rw [z]; exact nit b u e
    · exact nit c _ z
theorem Inv.tok (I : Inv X pins σ H s) (t : Nat) : Inv X pins σ H { s with toks := t } := I.un (h' := s.heap) (t' := t) Un.refl I.hok
theorem Inv.kept {t' : Nat} (I : Inv X pins σ H s) (k : ∀ b u, s.heap.get? b = some u → h'.get? b = some u) : Inv X pins σ H { s with heap := h', toks := t' } := I.un (Un.kept k) (I.hok.kept k)
theorem Inv.laid {a : Addr} {o : HO} {t' : Nat} (I : Inv X pins σ H s) (k : ∀ b u, s.heap.get? b = some u → h'.get? b = some u) (hp : s.heap.objs.size ≤ a) (new : ObjOk X.prog X.w (upd H a o) h' a o) :
    Inv X pins σ (upd H a o) { s with heap := h', toks := t' } := I.un (Un.laid k hp (I.hok.fresh hp)) (I.hok.laid k hp new)
theorem Inv.write {x e : Addr} {o : HO} {t' : Nat} (I : Inv X pins σ H s) (mu : Mut (H x)) (he : e = x ∨ H e = some (.own x)) (k : ∀ b u, b ≠ e → s.heap.get? b = some u → h'.get? b = some u) (heo : ∃ u, h'.get? e = some u)
    (new : ObjOk X.prog X.w (upd H x o) h' x o) : Inv X pins σ (upd H x o) { s with heap := h', toks := t' } := I.un (Un.write mu he k heo) (I.hok.write mu he k heo new)
theorem Inv.weak {σ' : List (Option V)} (I : Inv X pins σ H s) (hl : σ'.length = σ.length) (w : ∀ (i : Nat) v, σ'[i]? = some (some v) → σ[i]? = some (some v)) : Inv X pins σ' H s :=
  ⟨I.ok, I.os, I.bare, I.base, let ⟨m, hn, hl'⟩ := I.loc; ⟨m, hn, fun i x v e1 e2 e3 => hl' i x v e1 (w i v e2) e3⟩, I.cell, I.free, I.freeC, I.pin, I.hok, hl.trans I.len⟩
theorem Inv.pins_of {pins' : List (Addr × Obj)} (I : Inv X pins σ H s) (h : ∀ p ∈ pins', s.heap.get? p.1 = some p.2 ∧ H p.1 = none ∧ p.1 ≠ X.env.locals ∧ p.1 ∉ X.fs ∧ ∀ v, p.2.data ≠ .cell v) : Inv X pins' σ H s :=
  ⟨I.ok, I.os, I.bare, I.base, I.loc, I.cell, I.free, I.freeC, fun p hp => (List.mem_append.mp hp).elim (fun z => I.pin p (List.mem_append_left _ z)) (h p), I.hok, I.len⟩
theorem nodup_ix {N : List Str} (hN : N.Nodup) {i j : Nat} {x : Str} (a : N[i]? = some x) (b : N[j]? = some x) : i = j := by
  obtain ⟨h1, e1⟩ := List.getElem?_eq_some_iff.mp a
  obtain ⟨h2, e2⟩ := List.getElem?_eq_some_iff.mp b
  exact (List.getElem_inj hN).mp (e1.trans e2.symm)
theorem store_ok2 {M : Model} {A : Around} {E : Value → Shared → Prop} {i : Nat} {x : Str} {v : V} {u : Value} {Q : Unit → Shared → Prop} (I : Inv X pins σ H s) (hN : X.N.Nodup) (hi : X.N[i]? = some x) (hx : Loc X.env.scope x) (r : RelV v u)
    (h : ∀ s', Inv X pins (σ.set i (some v)) H s' → (∃ a, Heap.SameBut a s.heap s'.heap ∧ (a = X.env.locals ∨ X.env.cells.lookup x = some a)) → Q () s') (hf : X.fn x = true ∨ X.env.scope.names.lookup x = some .local := by first | exact .inl rfl | exact .inr rfl | assumption) : wpAny M A (storeName X.env x u) Q E s := by
  obtain ⟨m, hn, hl⟩ := id I.loc
  have hcls : (X.env.scope.kind == .class || (X.env.scope.kind == .module && X.env.locals != X.env.globals)) = false := by rw [I.ok.kind]; rfl
  have hiσ : i < σ.length := by rw [I.len]; exact (List.getElem?_eq_some_iff.mp hi).1
  have cne := I.cne
  have tracked : ∀ {a : Addr} {h' : Heap}, (∃ o, s.heap.get? a = some o ∧ H a = none) → Heap.SameBut a s.heap h' → HOk X.prog X.w H h' := fun {a h'} ha hs b ob e => by
    obtain ⟨_, _, hfree⟩ := ha
    refine (I.hok b ob e).stay (fun c w' hc q => (hs.2 c ?_).trans q) (fun _ q => q) fun _ _ q => q
    rintro rfl
    rcases hc with rfl | hc
    · rw [hfree] at e; cases e
    · rw [hfree] at hc; cases hc
  rcases hx with hk | hk
  · refine wpAny_storeName_local hk hn (fun h' hn' hs => ?_) hcls
    obtain ⟨oL, _, _, hoL, _⟩ := id hn
    refine h _ ⟨I.ok, I.os, I.bare, ⟨fun b o e n hb hx => ?_, fun b o e n hb hx => ?_, I.base.free, fun b o e hx => ?_, I.base.tups, I.base.frzs, I.base.tbls⟩, ⟨_, hn', fun j y v' e1 e2 e3 => ?_⟩, fun y c e => ?_, I.free, I.freeC, fun p hp => ?_, tracked ⟨oL, hoL, I.free⟩ hs, by simpa using I.len⟩ ⟨_, hs, .inl rfl⟩
    · exact (hs.2 b (Nat.ne_of_lt (Nat.lt_of_lt_of_le (Heap.lt_size e) I.ok.above))).trans (I.base.keep b o e n hb hx)
    · obtain ⟨sl, e1⟩ := I.base.slot b o e n hb hx
      exact ⟨sl, (hs.2 b (Nat.ne_of_lt (Nat.lt_of_lt_of_le (Heap.lt_size e) I.ok.above))).trans e1⟩
    · obtain ⟨o', e1⟩ := I.base.there b o e hx
      exact ⟨o', (hs.2 b (Nat.ne_of_lt (Nat.lt_of_lt_of_le (Heap.lt_size e) I.ok.above))).trans e1⟩
    · by_cases hj : j = i
      · subst hj
        rw [hi] at e1; cases e1
        rw [List.getElem?_set_self hiσ] at e2
        cases e2
        exact ⟨u, r, .inl ⟨hk, by simp⟩⟩
      · rw [List.getElem?_set_ne (Ne.symm hj)] at e2
        obtain ⟨u', r', q⟩ := hl j y v' e1 e2 e3
        refine ⟨u', r', ?_⟩
        rcases q with ⟨k, e⟩ | ⟨k, c, e, z⟩
        · refine .inl ⟨k, ?_⟩
          have : y ≠ x := fun e => hj (nodup_ix hN e1 (e ▸ hi))
          simp [this, e]
        · exact .inr ⟨k, c, e, z.sameBut hs (cne y c e)⟩
    · obtain ⟨w', z⟩ := I.cell y c e
      exact ⟨w', z.sameBut hs (cne y c e)⟩
    · obtain ⟨e, n, ne, nf, d⟩ := I.pin p hp
      exact ⟨(hs.2 p.1 ne).trans e, n, ne, nf, d⟩
  · have hfn : X.fn x = true := by
      rcases hf with z | z
      · exact z
      · rw [z] at hk; cases hk
    obtain ⟨c, hc⟩ := I.ok.has x (.inl hk)
    obtain ⟨w', z⟩ := I.cell x c hc
    refine wpAny_storeName_cell I.ok.kind hk hc z (fun h' hc' hs => ?_)
    obtain ⟨oc, hoc, hocd⟩ := id z
    refine h { s with heap := h' } ⟨I.ok, I.os, I.bare, ⟨fun b o e n hb hx => ?_, fun b o e n hb hx => ?_, I.base.free, fun b o e hx => ?_, I.base.tups, I.base.frzs, I.base.tbls⟩, ⟨m, hn.sameBut hs (Ne.symm (cne x c hc)), fun j y v' e1 e2 e3 => ?_⟩, fun y c' e => ?_, I.free, I.freeC, fun p hp => ?_, tracked ⟨oc, hoc, I.freeC x c hc⟩ hs, by simpa using I.len⟩ ⟨c, hs, .inr hc⟩
    · exact (hs.2 b (Nat.ne_of_lt (Nat.lt_of_lt_of_le (Heap.lt_size e) (I.ok.cab x c hfn hc)))).trans (I.base.keep b o e n hb hx)
    · obtain ⟨sl, e1⟩ := I.base.slot b o e n hb hx
      exact ⟨sl, (hs.2 b (Nat.ne_of_lt (Nat.lt_of_lt_of_le (Heap.lt_size e) (I.ok.cab x c hfn hc)))).trans e1⟩
    · obtain ⟨o', e1⟩ := I.base.there b o e hx
      exact ⟨o', (hs.2 b (Nat.ne_of_lt (Nat.lt_of_lt_of_le (Heap.lt_size e) (I.ok.cab x c hfn hc)))).trans e1⟩
    · by_cases hj : j = i
      · subst hj
        rw [hi] at e1; cases e1
        rw [List.getElem?_set_self hiσ] at e2
        cases e2
        exact ⟨u, r, .inr ⟨.inl hk, c, hc, hc'⟩⟩
      · rw [List.getElem?_set_ne (Ne.symm hj)] at e2
        obtain ⟨u', r', q⟩ := hl j y v' e1 e2 e3
        refine ⟨u', r', ?_⟩
        rcases q with q | ⟨k, c', e, z'⟩
        · exact .inl q
        · refine .inr ⟨k, c', e, z'.sameBut hs ?_⟩
          rintro rfl
          exact hj (nodup_ix hN e1 (I.ok.inj _ _ _ e hc ▸ hi))
    · by_cases hcc : c' = c
      · subst hcc; exact ⟨_, hc'⟩
      · obtain ⟨w2, z2⟩ := I.cell y c' e
        exact ⟨w2, z2.sameBut hs hcc⟩
    · obtain ⟨e, n, ne, nf, d⟩ := I.pin p hp
      refine ⟨(hs.2 p.1 ?_).trans e, n, ne, nf, d⟩
      intro q
      rw [q, hoc] at e
      have q' : oc = p.2 := Option.some.inj e
      exact d w' (by rw [← q']; exact hocd)
theorem store_ok {M : Model} {A : Around} {E : Value → Shared → Prop} {i : Nat} {x : Str} {v : V} {u : Value} {Q : Unit → Shared → Prop} (I : Inv X pins σ H s) (hN : X.N.Nodup) (hi : X.N[i]? = some x) (hx : Loc X.env.scope x) (r : RelV v u)
    (h : ∀ s', Inv X pins (σ.set i (some v)) H s' → Q () s') (hf : X.fn x = true ∨ X.env.scope.names.lookup x = some .local := by first | exact .inl rfl | exact .inr rfl | assumption) : wpAny M A (storeName X.env x u) Q E s :=
  store_ok2 I hN hi hx r (fun s' I' _ => h s' I') hf
theorem Inv.call' {s' : Shared} {ch : List Addr} (I : Inv X pins σ H s) (ho : s'.os = s.os) (u : Un (frs X.stack) ch H H' s.heap s'.heap) (hok : HOk X.prog X.w H' s'.heap) (hg : AllBare s'.gens)
    (hch : ∀ b ∈ ch, (b ∈ X.ex ∨ X.s₀.heap.objs.size ≤ b) ∧ b ≠ X.env.locals ∧ (∀ x c, X.env.cells.lookup x = some c → c ≠ b) ∧ ∀ p ∈ X.pn ++ pins, p.1 ≠ b) : Inv X pins σ H' s' := by
  obtain ⟨h', g', d', t', o'⟩ := s'
  have e : o' = s.os := ho
  subst e
  exact I.call (g' := g') (t' := t') (d' := d') u hok hg hch
end
noncomputable abbrev XK := Value → Option Addr → Hp → Prop
noncomputable abbrev St := List (Option V)
noncomputable abbrev VK := V → Hp → Prop
noncomputable abbrev TE := St → Hp → VK → Prop
noncomputable abbrev TT := St → Hp → (Bool → Hp → Prop) → Prop
noncomputable abbrev TA := St → Hp → (List V → Hp → Prop) → Prop
structure Ends where
  nx : St → Hp → Prop
  rt : VK
  bk : St → Hp → Prop := fun _ _ => False
  ct : St → Hp → Prop := fun _ _ => False
noncomputable abbrev TS := Ends → St → Hp → Prop
inductive EP (X : Cx) (pins : List (Addr × Obj)) (σ : St) (Q : VK) (u : Value) (s' : Shared) : Prop
  | mk (v : V) (H' : Hp) (i : Inv X pins σ H' s') (r : RelV v u) (q : Q v H')
inductive TP (X : Cx) (pins : List (Addr × Obj)) (σ : St) (Q : Bool → Hp → Prop) (b : Bool) (s' : Shared) : Prop
  | mk (H' : Hp) (i : Inv X pins σ H' s') (q : Q b H')
inductive AP (X : Cx) (pins : List (Addr × Obj)) (σ : St) (Q : List V → Hp → Prop) (us : List Value) (s' : Shared) : Prop
  | mk (vs : List V) (H' : Hp) (i : Inv X pins σ H' s') (r : Vals vs us) (q : Q vs H')
noncomputable def SP (X : Cx) (pins : List (Addr × Obj)) (D : Ends) (f : Flow) (s' : Shared) : Prop :=
  match f with
  | .next => ∃ σ' H', Inv X pins σ' H' s' ∧ D.nx σ' H'
  | .brk => ∃ σ' H', Inv X pins σ' H' s' ∧ D.bk σ' H'
  | .cont => ∃ σ' H', Inv X pins σ' H' s' ∧ D.ct σ' H'
  | .ret u => ∃ v σ' H', Inv X pins σ' H' s' ∧ RelV v u ∧ D.rt v H'
noncomputable def PE (X : Cx) (e : Expr) (t : TE) : Prop :=
  ∀ (pins : List (Addr × Obj)) (s : Shared) (σ : St) (H : Hp) (Q : VK), Inv X pins σ H s → t σ H Q → wpAny (model X.prog X.w) X.A (eval e X.env) (EP X pins σ Q) X.xe s
noncomputable def PT (X : Cx) (e : Expr) (t : TT) : Prop :=
  ∀ (pins : List (Addr × Obj)) (s : Shared) (σ : St) (H : Hp) (Q : Bool → Hp → Prop), Inv X pins σ H s → t σ H Q → wpAny (model X.prog X.w) X.A (isTrue e X.env (eval e X.env)) (TP X pins σ Q) X.xe s
noncomputable def PW (X : Cx) (e : Expr) (t : TT) : Prop :=
  ∀ (whole : Sem Value) (pins : List (Addr × Obj)) (s : Shared) (σ : St) (H : Hp) (Q : Bool → Hp → Prop), Inv X pins σ H s → t σ H Q → wpAny (model X.prog X.w) X.A (isTrue e X.env whole) (TP X pins σ Q) X.xe s
theorem PW.pt {X : Cx} {e : Expr} {t : TT} (h : PW X e t) : PT X e t := h _
noncomputable def PA (X : Cx) (es : List Expr) (t : TA) : Prop :=
  ∀ (pos : Pos) (pins : List (Addr × Obj)) (s : Shared) (σ : St) (H : Hp) (Q : List V → Hp → Prop), Inv X pins σ H s → t σ H Q → wpAny (model X.prog X.w) X.A (spliced (backTo pos (starEach es X.env))) (AP X pins σ Q) X.xe s
noncomputable def PS (X : Cx) (st : Stmt) (t : TS) : Prop :=
  ∀ (pins : List (Addr × Obj)) (s : Shared) (σ : St) (H : Hp) (D : Ends), Inv X pins σ H s → t D σ H → wpAny (model X.prog X.w) X.A (exec st X.env) (SP X pins D) X.xe s
noncomputable def PSs (X : Cx) (st : List Stmt) (t : TS) : Prop :=
  ∀ (pins : List (Addr × Obj)) (s : Shared) (σ : St) (H : Hp) (D : Ends), Inv X pins σ H s → t D σ H → wpAny (model X.prog X.w) X.A (execs st X.env) (SP X pins D) X.xe s
theorem thn {α : Type} {t : Sem α} {Q Q' : α → Shared → Prop} {M : Model} {A : Around} {E : Value → Shared → Prop} {s : Shared} (h : wpAny M A t Q E s) (hQ : ∀ a s, Q a s → Q' a s) : wpAny M A t Q' E s := wpAny_mono h hQ fun _ _ x => x
end L2
namespace L2
open PySem PySem.Spec PyProof.Rows
section
variable {X : Cx}
theorem bin {a b : Expr} {ta tb : TE} (ha : PE X a ta) (hb : PE X b tb) {pins : List (Addr × Obj)} {s : Shared} {σ : St} {H : Hp} {R : V → V → Hp → Prop} (I : Inv X pins σ H s) (h : ta σ H fun x H1 => tb σ H1 fun y H2 => R x y H2)
    {α : Type} {Q : α → Shared → Prop} {f : Value → Value → Sem α}
    (hf : ∀ v u s2 x y H2, Inv X pins σ H2 s2 → RelV x v → RelV y u → R x y H2 → wpAny (model X.prog X.w) X.A (f v u) Q X.xe s2) :
    wpAny (model X.prog X.w) X.A (eval a X.env) (fun v s₁ => wpAny (model X.prog X.w) X.A (eval b X.env) (fun u s₂ => wpAny (model X.prog X.w) X.A (f v u) Q X.xe s₂) X.xe s₁) X.xe s := by
  refine thn (ha pins s σ H _ I h) fun v s1 ⟨x, H1, I1, r1, q1⟩ => ?_
  refine thn (hb pins s1 σ H1 _ I1 q1) fun u s2 ⟨y, H2, I2, r2, q2⟩ => ?_
  exact hf v u s2 x y H2 I2 r1 r2 q2
noncomputable def tVar (i : Nat) : TE := fun σ H Q => ∃ v, σ[i]? = some (some v) ∧ Q v H
noncomputable def tC (v : V) : TE := fun _ H Q => Q v H
theorem pe_var {i : Nat} {x : Str} {pos : Pos} (hN : X.N[i]? = some x) (hv : Vis X.env.scope x) (hd : (x == ("__debug__" : Str)) = false := by decide) (hcd : (x == ("__classdict__" : Str)) = false := by decide) : PE X (.Name x pos) (tVar i) := by
  intro pins s σ H Q I h
  obtain ⟨v, e, h⟩ := h
  obtain ⟨m, hn, hl⟩ := I.loc
  obtain ⟨u, r, l⟩ := hl i x v hN e hv
  have fin : EP X pins σ Q u s := ⟨v, H, I, r, h⟩
  rcases l with ⟨hk, hm⟩ | ⟨hk, c, hc, hcell⟩
  · exact wpAny_Name (wpAny_loadName_local I.ok.kind hk hn hm fin) hd
  · rcases hk with hk | hk
    · exact wpAny_Name (wpAny_loadName_cell I.ok.kind hk hc hcell fin) hd
    · exact wpAny_Name (wpAny_loadName_free I.ok.kind hk hc hcell fin hcd) hd
theorem pe_int {i j pos} : PE X (.Constant (.int i) j pos) (tC (.int i)) := fun _ _ _ H _ I h => wpAny_Constant_int ⟨.int i, H, I.tok _, ⟨_, rfl⟩, h⟩
theorem pe_bl {b j pos} : PE X (.Constant (.bool b) j pos) (tC (.bl b)) := fun _ _ _ H _ I h => Constant_bool ⟨.bl b, H, I, rfl, h⟩
theorem pe_non {j pos} : PE X (.Constant .none j pos) (tC .non) := fun _ _ _ H _ I h => Constant_none ⟨.non, H, I, rfl, h⟩
theorem pe_str {x j pos} : PE X (.Constant (.str x) j pos) (tC (.str x)) := fun _ _ _ H _ I h => Calls.Constant_str ⟨.str x, H, I.tok _, ⟨_, rfl⟩, h⟩
noncomputable def Gl (X : Cx) (x : Str) : Prop := X.env.kindOf x = some .globalImplicit
theorem ld_glob {E : Value → Shared → Prop} {pins : List (Addr × Obj)} {s : Shared} {σ : St} {H : Hp} {x : Str} {u : Value} {pos : Pos} {Q : Value → Shared → Prop} (I : Inv X pins σ H s) (hg : Gl X x) (hm : X.mg x = some u) (h : Q u s)
    (hd : (x == ("__debug__" : Str)) = false := by decide) : wpAny (model X.prog X.w) X.A (eval (.Name x pos) X.env) Q E s :=
  Calls.Name_function_global I.ok.kind hg (Calls.loadGlobal_global (by rw [I.ok.glob]; exact I.mod.glob.keeps I.bk) hm h) hd
theorem ld_blt {E : Value → Shared → Prop} {pins : List (Addr × Obj)} {s : Shared} {σ : St} {H : Hp} {x : Str} {u : Value} {pos : Pos} {Q : Value → Shared → Prop} (I : Inv X pins σ H s) (hg : Gl X x) (hm : X.mg x = none) (hv : bootBuiltins x = some u) (h : Q u s)
    (hn : x ≠ "__name__" := by decide) (hd : (x == ("__debug__" : Str)) = false := by decide) : wpAny (model X.prog X.w) X.A (eval (.Name x pos) X.env) Q E s := by
  obtain ⟨mb, h1, h2⟩ := I.mod.blt
  exact Calls.Name_function_global I.ok.kind hg (Calls.loadGlobal_builtin (by rw [I.ok.glob]; exact I.mod.glob.keeps I.bk) hm (by rw [I.ok.blt]; exact h1.keeps I.bk) ((h2 x hn).trans hv) h) hd
theorem pe_glob {x : Str} {v : V} {u : Value} {pos : Pos} (hg : Gl X x) (hm : X.mg x = some u) (r : RelV v u) (hd : (x == ("__debug__" : Str)) = false := by decide) : PE X (.Name x pos) (tC v) :=
  fun _ _ _ H _ I h => ld_glob I hg hm ⟨v, H, I, r, h⟩ hd
theorem pe_bltn {x : Str} {v : V} {u : Value} {pos : Pos} (hg : Gl X x) (hm : X.mg x = none) (hv : bootBuiltins x = some u) (r : RelV v u) (hn : x ≠ "__name__" := by decide) (hd : (x == ("__debug__" : Str)) = false := by decide) : PE X (.Name x pos) (tC v) :=
  fun _ _ _ H _ I h => ld_blt I hg hm hv ⟨v, H, I, r, h⟩ hn hd
variable {a b : Expr} {ta tb : TE} {pos : Pos}
noncomputable def PC (X : Cx) (op : CmpOp) (a b : Expr) (t : TE) : Prop :=
  ∀ (pins : List (Addr × Obj)) (s : Shared) (σ : St) (H : Hp) (Q : VK), Inv X pins σ H s → t σ H Q →
    wpAny (model X.prog X.w) X.A (eval a X.env) (fun v s₁ => wpAny (model X.prog X.w) X.A (eval b X.env) (fun u s₂ => wpAny (model X.prog X.w) X.A (compareOp op v u) (EP X pins σ Q) X.xe s₂) X.xe s₁) X.xe s
theorem nobehind (b : Expr) {op : CmpOp} (h : op ≠ .In) (h2 : op ≠ .NotIn) : behindInMarks op b = false := by
  have e1 : (op == CmpOp.In) = false := by cases op <;> first | rfl | exact absurd rfl h
  have e2 : (op == CmpOp.NotIn) = false := by cases op <;> first | rfl | exact absurd rfl h2
  cases b <;> simp [behindInMarks, e1, e2]
theorem RelV.none_iff {x : V} {v : Value} (r : RelV x v) : (v == Value.none) = decide (x = .non) := by
  cases x with
  | non => cases r; rfl
  | bl _ => cases r; rfl
  | int _ => obtain ⟨t, rfl⟩ := r; rfl
  | str _ => obtain ⟨t, rfl⟩ := r; rfl
  | byt _ => obtain ⟨t, rfl⟩ := r; rfl
  | flt _ => obtain ⟨t, rfl⟩ := r; rfl
  | ref _ => cases r; rfl
  | ty _ => cases r; rfl
noncomputable def tB (t : TE) : TT := fun σ H Q => t σ H fun x H1 => ∃ c, x = .bl c ∧ Q c H1
theorem pt_cmp {op : CmpOp} {t : TE} (h : PC X op a b t) (h1 : behindInMarks op b = false := by first | exact nobehind _ (by decide) (by decide) | rfl) : PT X (.Compare a [op] [b] pos) (tB t) := by
  intro pins s σ H Q I hw
  refine wpAny_isTrue_Compare1 (thn (h pins s σ H _ I hw) fun v s1 h1 => thn h1 fun u s2 h2 => thn h2 fun c s3 ⟨x, H1, I1, r1, q1⟩ => ?_) h1
  obtain ⟨d, rfl, q⟩ := q1
  cases r1
  exact wpAny_truthy_bool ⟨H1, I1, q⟩
theorem pt_val {e : Expr} {t : TE} (h : PE X e t) (he : ∀ whole, isTrue e X.env whole = (do let v ← whole; standAt e.pos; holding [v] (truthy v)) := by intro _; rfl) : PT X e (tB t) := by
  intro pins s σ H Q I hw
  refine isTrue_plain (thn (h pins s σ H _ I hw) fun v s1 ⟨x, H1, I1, r1, q1⟩ => ?_) (he _)
  obtain ⟨d, rfl, q⟩ := q1
  cases r1
  exact wpAny_truthy_bool ⟨H1, I1, q⟩
variable {tA tB' : TT} {rest : List Expr}
noncomputable def tAnd (t u : TT) : TT := fun σ H Q => t σ H fun c H1 => if c = true then u σ H1 Q else Q false H1
noncomputable def tOr (t u : TT) : TT := fun σ H Q => t σ H fun c H1 => if c = true then Q true H1 else u σ H1 Q
noncomputable def tNot (t : TT) : TT := fun σ H Q => t σ H fun c H1 => Q (!c) H1
theorem pw_and1 (ha : PT X a tA) : PW X (.BoolOp .And [a] pos) tA := by
  intro wh pins s σ H Q I h
  refine isTrue_and (thn (ha pins s σ H Q I h) fun c s1 e => ?_)
  cases c with
  | true => exact isTrue_and_nil e
  | false => exact e
theorem pw_or1 (ha : PT X a tA) : PW X (.BoolOp .Or [a] pos) tA := by
  intro wh pins s σ H Q I h
  refine isTrue_or (thn (ha pins s σ H Q I h) fun c s1 e => ?_)
  cases c with
  | false => exact isTrue_or_nil e
  | true => exact e
theorem pw_and (ha : PT X a tA) (hb : PW X (.BoolOp .And (b :: rest) pos) tB') : PW X (.BoolOp .And (a :: b :: rest) pos) (tAnd tA tB') := by
  intro wh pins s σ H Q I h
  refine isTrue_and (thn (ha pins s σ H _ I h) fun c s1 ⟨H1, I1, q1⟩ => ?_)
  cases c with
  | true => exact hb wh pins s1 σ H1 Q I1 q1
  | false => exact ⟨H1, I1, q1⟩
theorem pw_or (ha : PT X a tA) (hb : PW X (.BoolOp .Or (b :: rest) pos) tB') : PW X (.BoolOp .Or (a :: b :: rest) pos) (tOr tA tB') := by
  intro wh pins s σ H Q I h
  refine isTrue_or (thn (ha pins s σ H _ I h) fun c s1 ⟨H1, I1, q1⟩ => ?_)
  cases c with
  | true => exact ⟨H1, I1, q1⟩
  | false => exact hb wh pins s1 σ H1 Q I1 q1
theorem pt_not (ha : PT X a tA) : PT X (.UnaryOp .Not a pos) (tNot tA) := by
  intro pins s σ H Q I h
  exact isTrue_not (thn (ha pins s σ H (fun c H1 => Q (!c) H1) I h) fun c s1 ⟨H1, I1, q⟩ => ⟨H1, I1, q⟩)
theorem pe_one {op} {t : TE} (h : PE X a t) : PE X (.BoolOp op [a] pos) t := fun pins s σ H Q I hw => BoolOp_one (h pins s σ H Q I hw)
end
end L2
namespace L2
open PySem PySem.Spec PyProof.Rows
noncomputable def SqL (K : PySem.W.Frag) (H : Hp) (a : Addr) (xs : List V) : Prop :=
  Rd H a (.lst xs) ∨
    ∃ (o : Obj) (its : Array Value) (n : Nat), K.lookup a = some o ∧ o.cls = .type "list" ∧ o.dict = none ∧ o.data = .seq its n ∧ its.size ≤ sizeLine ∧ Vals xs its.toList
noncomputable def SqT (K : PySem.W.Frag) (H : Hp) (a : Addr) (xs : List V) : Prop :=
  Rd H a (.tup xs) ∨
    ∃ (o : Obj) (its : Array Value) (n : Nat), K.lookup a = some o ∧ o.cls = .type "tuple" ∧ o.dict = none ∧ o.data = .seq its n ∧ its.size ≤ sizeLine ∧ Vals xs its.toList
noncomputable def absV : Value → Option V
  | .none => some .non
  | .bool b => some (.bl b)
  | .int i _ => some (.int i)
  | .str x _ => some (.str x)
  | .bytes b _ => some (.byt b)
  | .float b _ => some (.flt b)
  | .ref a => some (.ref a)
  | .type n => some (.ty n)
  | _ => none
theorem RelV.abs {x : V} {u : Value} (r : RelV x u) : absV u = some x := by
  cases x with
  | non => cases r; rfl
  | bl _ => cases r; rfl
  | int _ => obtain ⟨t, rfl⟩ := r; rfl
  | str _ => obtain ⟨t, rfl⟩ := r; rfl
  | byt _ => obtain ⟨t, rfl⟩ := r; rfl
  | flt _ => obtain ⟨t, rfl⟩ := r; rfl
  | ref _ => cases r; rfl
  | ty _ => cases r; rfl
theorem RelV.inj {x y : V} {u : Value} (r : RelV x u) (q : RelV y u) : x = y := Option.some.inj (r.abs.symm.trans q.abs)
theorem Vals.inj : ∀ {xs ys : List V} {us : List Value}, Vals xs us → Vals ys us → xs = ys
  | _, _, _, .nil, .nil => rfl
  | _, _, _, .cons r t, .cons r' t' => by rw [r.inj r', Vals.inj t t']
section
variable {X : Cx} {pins : List (Addr × Obj)} {σ : St} {H : Hp} {s : Shared} {a : Addr} {xs ys : List V}
theorem SqL.of {K : PySem.W.Frag} (h : H a = some (.lst xs)) : SqL K H a xs := .inl (.inl h)
theorem SqT.of {K : PySem.W.Frag} (h : H a = some (.tup xs)) : SqT K H a xs := .inl (.inl h)
theorem Inv.list (I : Inv X pins σ H s) (h : SqL X.K H a xs) : ∃ its : List Value, Vals xs its ∧ PlainL s.heap a its.toArray ∧ xs.length ≤ sizeLine := by
  rcases h with h | ⟨o, its, n, hk, hc, hd, hs, hz, r⟩
  · obtain ⟨z, its, n, r, e⟩ := h.ok I.hok
    exact ⟨its, r, ⟨_, n, e, rfl, rfl, rfl⟩, z⟩
  · refine ⟨its.toList, r, ⟨o, n, I.kIn a o hk, hc, hd, by simpa using hs⟩, ?_⟩
    have e := r.length
    simp only [Array.length_toList] at e
    omega
theorem Inv.tuple (I : Inv X pins σ H s) (h : SqT X.K H a xs) : ∃ its : List Value, Vals xs its ∧ IsTup s.heap a its.toArray ∧ xs.length ≤ sizeLine := by
  rcases h with h | ⟨o, its, n, hk, hc, _, hs, hz, r⟩
  · obtain ⟨z, its, r, p⟩ := h.ok I.hok
    exact ⟨its, r, p.tup, z⟩
  · refine ⟨its.toList, r, ⟨o, I.kIn a o hk, hc, n, by simpa using hs⟩, ?_⟩
    have e := r.length
    simp only [Array.length_toList] at e
    omega
theorem Inv.list_inj (I : Inv X pins σ H s) (h : SqL X.K H a xs) (h' : SqL X.K H a ys) : xs = ys := by
  obtain ⟨its, r, ⟨o, n, e, _, _, d⟩, _⟩ := I.list h
  obtain ⟨its', r', ⟨o', n', e', _, _, d'⟩, _⟩ := I.list h'
  rw [e] at e'; cases e'
  rw [d] at d'
  injection d' with d1 _
  have : its = its' := by simpa using congrArg Array.toList d1
  subst this
  exact r.inj r'
theorem Inv.tuple_inj (I : Inv X pins σ H s) (h : SqT X.K H a xs) (h' : SqT X.K H a ys) : xs = ys := by
  obtain ⟨its, r, ⟨o, e, _, n, d⟩, _⟩ := I.tuple h
  obtain ⟨its', r', ⟨o', e', _, n', d'⟩, _⟩ := I.tuple h'
  rw [e] at e'; cases e'
  rw [d] at d'
  injection d' with d1 _
  have : its = its' := by simpa using congrArg Array.toList d1
  subst this
  exact r.inj r'
end
noncomputable abbrev Cx.wish (X : Cx) (E : Value → Shared → Prop) : Cx := { X with xe := E }
noncomputable abbrev Cx.nox (X : Cx) : Cx := X.wish fun _ _ => False
theorem Cx.Ok.wish {X : Cx} (ok : X.Ok) (E : Value → Shared → Prop) : (X.wish E).Ok :=
  ⟨ok.mod, ok.kind, ok.glob, ok.blt, ok.above, ok.inj, ok.has, ok.cab, ok.hd, ok.frames, ok.stk, ok.exf, ok.bs, ok.bsz, ok.noex, ok.exfs, ok.funs, ok.frf⟩
theorem Cx.Ok.unwish {X : Cx} {E : Value → Shared → Prop} (ok : (X.wish E).Ok) : X.Ok :=
  ⟨ok.mod, ok.kind, ok.glob, ok.blt, ok.above, ok.inj, ok.has, ok.cab, ok.hd, ok.frames, ok.stk, ok.exf, ok.bs, ok.bsz, ok.noex, ok.exfs, ok.funs, ok.frf⟩
section
variable {X : Cx} {pins : List (Addr × Obj)} {σ : St} {H : Hp} {s : Shared} {E : Value → Shared → Prop}
theorem Inv.wish (I : Inv X pins σ H s) (E : Value → Shared → Prop) : Inv (X.wish E) pins σ H s := ⟨I.ok.wish E, I.os, I.bare, I.base, I.loc, I.cell, I.free, I.freeC, I.pin, I.hok, I.len⟩
theorem Inv.unwish (I : Inv (X.wish E) pins σ H s) : Inv X pins σ H s := ⟨I.ok.unwish, I.os, I.bare, I.base, I.loc, I.cell, I.free, I.freeC, I.pin, I.hok, I.len⟩
theorem SP.unwish {D : Ends} {f : Flow} {s' : Shared} (h : SP (X.wish E) pins D f s') : SP X pins D f s' := by
  cases f with
  | next => obtain ⟨σ', H', I, q⟩ := h; exact ⟨σ', H', I.unwish, q⟩
  | brk => obtain ⟨σ', H', I, q⟩ := h; exact ⟨σ', H', I.unwish, q⟩
  | cont => obtain ⟨σ', H', I, q⟩ := h; exact ⟨σ', H', I.unwish, q⟩
  | ret u => obtain ⟨v, σ', H', I, r, q⟩ := h; exact ⟨v, σ', H', I.unwish, r, q⟩
theorem PSs.nox {st : List Stmt} {t : TS} (h : PSs X.nox st t) : PSs X st t := fun pins s σ H D I hw =>
  wpAny_mono (h pins s σ H D (I.wish _) hw) (fun _ _ q => q.unwish) fun _ _ z => False.elim z
end
section
variable {X : Cx} {st : Stmt} {rest : List Stmt} {t u : TS} {e : Expr} {te : TE} {pos : Pos}
noncomputable def tNext : TS := fun D σ H => D.nx σ H
noncomputable def tSeq (t u : TS) : TS := fun D σ H => t { D with nx := u D } σ H
theorem pss_nil : PSs X [] tNext := fun _ _ σ H _ I h => wpAny_execs_nil ⟨σ, H, I, h⟩
theorem pss_cons (h1 : PS X st t) (h2 : PSs X rest u) : PSs X (st :: rest) (tSeq t u) := by
  intro pins s σ H D I h
  refine wpAny_execs_cons (thn (h1 pins s σ H { D with nx := u D } I h) fun f s1 q => ?_)
  cases f with
  | next =>
    obtain ⟨σ', H', I', q⟩ := q
    exact h2 pins s1 σ' H' D I' q
  | ret v => exact q
  | brk => exact q
  | cont => exact q
theorem pss_one (h1 : PS X st t) : PSs X [st] t := by
  intro pins s σ H D I h
  refine wpAny_execs_cons (thn (h1 pins s σ H D I h) fun f s1 q => ?_)
  cases f with
  | next => exact wpAny_execs_nil q
  | ret v => exact q
  | brk => exact q
  | cont => exact q
theorem Inv.quiet {pins : List (Addr × Obj)} {σ : St} {H : Hp} {s : Shared} (I : Inv X pins σ H s) : interactive X.env = false := by simp [interactive, I.ok.kind]
noncomputable def tDrop (te : TE) : TS := fun D σ H => te σ H fun _ H1 => D.nx σ H1
theorem ps_expr (he : PE X e te) (hs : swapsWith e none pos.line X.env = pure false := by rfl) : PS X (.Expr e pos) (tDrop te) := by
  intro pins s σ H D I h
  exact wpAny_Expr_any (thn (he pins s σ H _ I h) fun v s1 ⟨x, H1, I1, r1, q1⟩ => ⟨σ, H1, I1, q1⟩) I.quiet hs
noncomputable def tRet (te : TE) : TS := fun D σ H => te σ H D.rt
theorem ps_ret (he : PE X e te) : PS X (.Return (some e) pos) (tRet te) := by
  intro pins s σ H D I h
  exact wpAny_Return_some (thn (he pins s σ H _ I h) fun v s1 ⟨x, H1, I1, r1, q1⟩ => ⟨x, σ, H1, I1, r1, q1⟩)
noncomputable def tIfS (c : TT) (t u : TS) : TS := fun D σ H => c σ H fun b H1 => if b = true then t D σ H1 else u D σ H1
theorem ps_if {c : Expr} {a b : List Stmt} {tc : TT} (hc : PT X c tc) (ha : PSs X a t) (hb : PSs X b u) : PS X (.If c a b pos) (tIfS tc t u) := by
  intro pins s σ H D I h
  refine wpAny_If (thn (hc pins s σ H _ I h) fun d s1 ⟨H1, I1, q1⟩ => ?_)
  cases d with
  | true => exact ha pins s1 σ H1 D I1 q1
  | false => exact hb pins s1 σ H1 D I1 q1
noncomputable def tNever : TS := fun _ _ _ => False
theorem ps_never : PS X st tNever := fun _ _ _ _ _ _ h => h.elim
end
noncomputable abbrev TG := V → St → Hp → (St → Hp → Prop) → Prop
noncomputable abbrev TGs := List V → St → Hp → (St → Hp → Prop) → Prop
noncomputable def PG (X : Cx) (target : Expr) (t : TG) : Prop :=
  ∀ (pins : List (Addr × Obj)) (s : Shared) (σ : St) (H : Hp) (v : V) (u : Value) (Q : St → Hp → Prop), Inv X pins σ H s → RelV v u → t v σ H Q →
    wpAny (model X.prog X.w) X.A (assign target X.env u) (fun _ s' => ∃ σ' H', Inv X pins σ' H' s' ∧ Q σ' H') X.xe s
noncomputable def PGs (X : Cx) (ts : List Expr) (t : TGs) : Prop :=
  ∀ (pins : List (Addr × Obj)) (s : Shared) (σ : St) (H : Hp) (vs : List V) (us : List Value) (Q : St → Hp → Prop), Inv X pins σ H s → Vals vs us → t vs σ H Q →
    wpAny (model X.prog X.w) X.A (assignInOrder ((assignEach ts X.env).map (·.2)) us) (fun _ s' => ∃ σ' H', Inv X pins σ' H' s' ∧ Q σ' H') X.xe s
noncomputable abbrev TSet := V → V → V → Hp → (Hp → Prop) → Prop
noncomputable def PSet (X : Cx) (t : TSet) : Prop :=
  ∀ (pins : List (Addr × Obj)) (s : Shared) (σ : St) (H : Hp) (o i v : V) (ov iv u : Value) (Q : Hp → Prop), Inv X pins σ H s → RelV o ov → RelV i iv → RelV v u → t o i v H Q →
    wpAny (model X.prog X.w) X.A (setItem ov iv u) (fun _ s' => ∃ H', Inv X pins σ H' s' ∧ Q H') X.xe s
section
variable {X : Cx} {pos : Pos}
noncomputable def gName (i : Nat) : TG := fun v σ H Q => Q (σ.set i (some v)) H
theorem pg_name {i : Nat} {x : Str} (hN : X.N.Nodup) (hi : X.N[i]? = some x) (hx : Loc X.env.scope x) (hf : X.fn x = true ∨ X.env.scope.names.lookup x = some .local := by first | exact .inl rfl | exact .inr rfl | assumption) : PG X (.Name x pos) (gName i) := by
  intro pins s σ H v u Q I r h
  exact wpAny_assign_Name (store_ok I hN hi hx r (fun s' I' => ⟨_, H, I', h⟩) hf)
noncomputable def gNil : TGs := fun vs σ H Q => vs = [] ∧ Q σ H
noncomputable def gCons (t : TG) (u : TGs) : TGs := fun vs σ H Q => ∃ v r, vs = v :: r ∧ t v σ H fun σ' H' => u r σ' H' Q
theorem pgs_nil : PGs X [] gNil := by
  intro pins s σ H vs us Q I r h
  obtain ⟨e, h⟩ := h
  subst e
  cases r
  exact assignInOrder_nil ⟨σ, H, I, h⟩
theorem pgs_cons {e : Expr} {es : List Expr} {t : TG} {u : TGs} (h1 : PG X e t) (h2 : PGs X es u)
    (hs : (assignEach (e :: es) X.env).map (·.2) = assign e X.env :: (assignEach es X.env).map (·.2) := by rfl) : PGs X (e :: es) (gCons t u) := by
  intro pins s σ H vs us Q I r h
  obtain ⟨v, vr, e1, h⟩ := h
  subst e1
  cases r with
  | cons r rr =>
    rw [hs]
    refine assignInOrder_cons (thn (h1 pins s σ H _ _ _ I r h) fun _ s1 ⟨σ1, H1, I1, q1⟩ => ?_)
    exact h2 pins s1 σ1 H1 _ _ Q I1 rr q1
noncomputable def gTup (K : PySem.W.Frag) (n : Nat) (t : TGs) : TG := fun v σ H Q => ∃ a xs, v = .ref a ∧ SqT K H a xs ∧ xs.length = n ∧ t xs σ H Q
theorem pg_tup {es : List Expr} {k : Nat} {t : TGs} {n : Nat} (hc : X.calm = true) (h : PGs X es t)
    (hn : (assignEach es X.env).length = n := by rfl) (hst : (assignEach es X.env).findIdx? (·.1) = none := by rfl) : PG X (.Tuple es k pos) (gTup X.K n t) := by
  intro pins s σ H v u Q I r hw
  obtain ⟨a, xs, e1, hq, hl, hw⟩ := hw
  subst e1
  cases r
  obtain ⟨its, rv, ht, hz⟩ := I.tuple hq
  refine assign_Tuple_tuple (I.ok.hd hc) ht (by simp [hn, ← hl, rv.length]) hst fun h' hx => ?_
  have I1 : Inv X pins σ H { s with heap := h' } := I.kept (t' := s.toks) fun b o e => hx b o (Nat.ne_of_lt (Heap.lt_size e)) e
  exact h pins _ σ H xs _ Q I1 (by simpa using rv) hw
noncomputable def gSub (to ti : TE) (t : TSet) : TG := fun v σ H Q => to σ H fun o H1 => ti σ H1 fun i H2 => t o i v H2 fun H3 => Q σ H3
theorem pg_sub {o i : Expr} {to ti : TE} {t : TSet} (ho : PE X o to) (hi : PE X i ti) (hs : PSet X t)
    (ha : ∀ v, assign (.Subscript o i pos) X.env v = (do
      let ov ← holding [v] (eval o X.env)
      let iv ← holding [v, ov] (eval i X.env)
      standAt pos
      holding [v, ov, iv] (setItem ov iv v)
      release [v, ov, iv] []) := by intro _; rfl) : PG X (.Subscript o i pos) (gSub to ti t) := by
  intro pins s σ H v u Q I r h
  rw [ha]
  refine wpAny_bind (wpAny_holding (thn (ho pins s σ H _ I h) fun ov s1 ⟨x, H1, I1, r1, q1⟩ => ?_))
  refine wpAny_bind (wpAny_holding (thn (hi pins s1 σ H1 _ I1 q1) fun iv s2 ⟨y, H2, I2, r2, q2⟩ => ?_))
  refine wpAny_bind (wpAny_standAt (wpAny_bind (wpAny_holding (thn (hs pins s2 σ H2 x y v ov iv u _ I2 r1 r2 r q2) fun _ s3 ⟨H3, I3, q3⟩ => ?_))))
  exact wpAny_release ⟨σ, H3, I3, q3⟩
noncomputable def tAsg (te : TE) (g : TG) : TS := fun D σ H => te σ H fun x H1 => g x σ H1 D.nx
theorem ps_asg {tg e : Expr} {te : TE} {g : TG} (he : PE X e te) (hg : PG X tg g) (hs : swapsWithSole [tg] e pos.line X.env = pure false := by rfl) (hw : swappedStores [tg] e X.env = pure none := by rfl)
    (h1 : (assignEach [tg] X.env).map (·.2) = [assign tg X.env] := by rfl) : PS X (.Assign [tg] e pos) (tAsg te g) := by
  intro pins s σ H D I h
  refine wpAny_Assign_stores (thn (he pins s σ H _ I h) fun v s1 ⟨x, H1, I1, r1, q1⟩ => ?_) hs hw
  rw [h1]
  exact thn (hg pins s1 σ H1 x v _ I1 r1 q1) fun _ s2 q => q
end
section
variable {X : Cx} {pos : Pos}
noncomputable def tWhile (c : TT) (tb : TS) : TS := fun D σ H => ∃ W : Nat → St → Hp → Prop, (∃ m, W m σ H) ∧ ∀ m σ H, W m σ H →
  c σ H fun b H1 => if b = true then ∃ N : St → Hp → Prop, (∀ σ' H', N σ' H' → ∃ m', m' < m ∧ W m' σ' H') ∧ tb { D with nx := N, ct := N, bk := D.nx } σ H1 else D.nx σ H1
theorem ps_while {c : Expr} {body : List Stmt} {tc : TT} {tb : TS} (hp : PassesOwn (model X.prog X.w) X.A X.env X.xe) (hc : PT X c tc) (hb : PSs X body tb) : PS X (.While c body [] pos) (tWhile tc tb) := by
  intro pins s σ H D I h
  obtain ⟨W, ⟨m0, w0⟩, turn⟩ := h
  refine wpAny_While (codeAny_whileLoop (fun n s' => ∃ σ' H', Inv X pins σ' H' s' ∧ W n σ' H') ?_ m0 ⟨σ, H, I, w0⟩)
  rintro n s1 ⟨σ1, H1, I1, w1⟩
  refine wpAny_passesOwn hp (thn (hc pins s1 σ1 H1 _ I1 (turn n σ1 H1 w1)) fun b s2 ⟨H2, I2, q2⟩ => ?_)
  cases b with
  | true =>
    obtain ⟨N, hN, q2⟩ := q2
    rw [if_pos rfl]
    refine wpAny_passesOwn hp (thn (hb pins s2 σ1 H2 _ I2 q2) fun f s3 q3 => ?_)
    cases f with
    | next =>
      obtain ⟨σ3, H3, I3, n3⟩ := q3
      obtain ⟨m', hm, w3⟩ := hN σ3 H3 n3
      exact ⟨m', hm, σ3, H3, I3, w3⟩
    | cont =>
      obtain ⟨σ3, H3, I3, n3⟩ := q3
      obtain ⟨m', hm, w3⟩ := hN σ3 H3 n3
      exact ⟨m', hm, σ3, H3, I3, w3⟩
    | brk => exact q3
    | ret v => exact q3
  | false =>
    rw [if_neg Bool.false_ne_true]
    exact wpAny_execs_nil ⟨σ1, H2, I2, q2⟩
end
structure It where
  go : Nat → Hp → Prop
  yld : Nat → Hp → V → Hp → Prop
  stop : Nat → Hp → Prop
noncomputable def FpOk (X : Cx) (pins : List (Addr × Obj)) (H : Hp) (b : Addr) : Prop :=
  H b = none ∧ b ≠ X.env.locals ∧ b ∉ X.fs ∧ (b ∈ X.ex ∨ X.s₀.heap.objs.size ≤ b) ∧ (∀ x c, X.env.cells.lookup x = some c → c ≠ b) ∧ ∀ p ∈ X.pn ++ pins, p.1 ≠ b
theorem Inv.fpOk {X : Cx} {pins : List (Addr × Obj)} {σ : St} {H H' : Hp} {s : Shared} {b : Addr} (I : Inv X pins σ H s) (hb : s.heap.objs.size ≤ b) (hn : H' b = none) : FpOk X pins H' b := by
  refine ⟨hn, Nat.ne_of_gt (Nat.lt_of_lt_of_le I.lt hb), I.nofs hb, .inr (Nat.le_trans I.sz hb), fun x c e z => ?_, fun p hp z => ?_⟩
  · obtain ⟨v, q⟩ := I.cell x c e
    exact absurd (Nat.lt_of_lt_of_le q.lt (by rw [z]; exact hb)) (Nat.lt_irrefl _)
  · exact absurd (Nat.lt_of_lt_of_le (Heap.lt_size (I.pin p hp).1) (by rw [z]; exact hb)) (Nat.lt_irrefl _)
structure Turn (P : Program) (w : World) (K : PySem.W.Frag) (tg : Expr) (J : It) (fp : List Addr) (it : Addr) (tn : Nat → Heap → Prop) : Prop where
  mem : it ∈ fp
  obj : ∀ i h, tn i h → ∀ b ∈ fp, ∃ o, h.get? b = some o ∧ ∀ v, o.data ≠ .cell v
  keep : ∀ i h h', tn i h → (∀ b ∈ fp, ∀ o, h.get? b = some o → h'.get? b = some o) → tn i h'
  item : ∀ (X : Cx), X.prog = P → X.w = w → X.K = K → X.calm = true → ∀ (i : Nat) (pins : List (Addr × Obj)) (s : Shared) (σ : St) (H : Hp) (E : Value → Shared → Prop), Inv X pins σ H s → (∀ b ∈ fp, FpOk X pins H b) → tn i s.heap → J.go i H →
    wpAny (model P w) X.A (pyNext (.ref it)) (fun r s1 => ∃ u, r = some u ∧
      wpAny (model P w) X.A (letOwnedTupleGo tg (.ref it) u) (fun _ s2 => ∃ x H', Inv X pins σ H' s2 ∧ RelV x u ∧ J.yld i H x H' ∧ tn (i + 1) s2.heap ∧ ∀ b ∈ fp, H' b = none) E s1) E s
  done : ∀ (X : Cx), X.prog = P → X.w = w → X.K = K → X.calm = true → ∀ (i : Nat) (pins : List (Addr × Obj)) (s : Shared) (σ : St) (H : Hp) (E : Value → Shared → Prop), Inv X pins σ H s → (∀ b ∈ fp, FpOk X pins H b) → tn i s.heap → J.stop i H →
    wpAny (model P w) X.A (pyNext (.ref it)) (fun r s1 => r = none ∧ Inv X pins σ H s1) E s
  self : ∀ (A : Around) (i : Nat) (s : Shared) (Q : Value → Shared → Prop) (E : Value → Shared → Prop), tn i s.heap → Q (.ref it) s → wpAny (model P w) A (pyIter (.ref it)) Q E s
noncomputable abbrev TI := St → Hp → (It → Hp → Prop) → Prop
noncomputable def PIE (X : Cx) (pins : List (Addr × Obj)) (σ : St) (tg : Expr) (R : It → Hp → Prop) (itv : Value) (s2 : Shared) : Prop :=
  ∃ (it : Addr) (fp : List Addr) (tn : Nat → Heap → Prop) (J : It) (H' : Hp), itv = .ref it ∧ Inv X pins σ H' s2 ∧ Turn X.prog X.w X.K tg J fp it tn ∧ tn 0 s2.heap ∧ (∀ b ∈ fp, FpOk X pins H' b) ∧ R J H'
noncomputable def PI (X : Cx) (tg iter : Expr) (wi : TI) : Prop :=
  ∀ (pins : List (Addr × Obj)) (s : Shared) (σ : St) (H : Hp) (R : It → Hp → Prop), Inv X pins σ H s → wi σ H R →
    wpAny (model X.prog X.w) X.A (eval iter X.env) (fun v s1 => wpAny (model X.prog X.w) X.A (pyIter v) (PIE X pins σ tg R) X.xe s1) X.xe s
theorem go_of {M : Model} {A : Around} {E : Value → Shared → Prop} {s : Shared} {tg : Expr} {it : Addr} {u : Value} {o : Obj} {n : String} {vs : Array Value} {Q : Unit → Shared → Prop} (ho : s.heap.get? it = some o) (hc : o.cls = .type n) (hd : o.data = .fields vs)
    (hn : ["enumerate", "zip", "dict_itemiterator", "dict_reverseitemiterator", "odict_iterator", "itertools.zip_longest", "itertools.pairwise"].contains n = false) (hQ : Q () s) : wpAny M A (letOwnedTupleGo tg (.ref it) u) Q E s := by
  unfold letOwnedTupleGo
  cases tg <;> first
    | exact wpAny_pure hQ
    | (cases u <;> first
        | exact wpAny_pure hQ
        | (refine wpAny_bind (wpAny_load ho ?_)
           rw [hc, hd]
           show wpAny M A (if (["enumerate", "zip", "dict_itemiterator", "dict_reverseitemiterator", "odict_iterator", "itertools.zip_longest", "itertools.pairwise"].contains n && vs[0]? == some (rawInt _)) = true then _ else _) Q E s
           rw [if_neg (by intro h; rw [hn, Bool.false_and] at h; cases h)]
           exact wpAny_pure hQ))
noncomputable def Itl (K : PySem.W.Frag) (a : Addr) : It :=
  ⟨fun i H => ∃ xs x, SqL K H a xs ∧ xs[i]? = some x, fun i H x H' => H' = H ∧ ∀ xs, SqL K H a xs → xs[i]? = some x, fun i H => ∃ xs, SqL K H a xs ∧ xs.length ≤ i⟩
noncomputable def Itt (K : PySem.W.Frag) (a : Addr) : It :=
  ⟨fun i H => ∃ xs x, SqT K H a xs ∧ xs[i]? = some x, fun i H x H' => H' = H ∧ ∀ xs, SqT K H a xs → xs[i]? = some x, fun i H => ∃ xs, SqT K H a xs ∧ xs.length ≤ i⟩
theorem turn_list {P : Program} {w : World} {K : PySem.W.Frag} {tg : Expr} (a it : Addr) : Turn P w K tg (Itl K a) [it] it (fun i h => h.IsListIter it a i) where
  mem := by simp
  obj := fun i h st b hb => by
    have e : b = it := by simpa using hb
    subst e
    obtain ⟨o, e, c, d⟩ := st
    exact ⟨o, e, fun v z => by rw [d] at z; cases z⟩
  keep := fun i h h' st k => st.at fun o e => k it (by simp) o e
  item := by
    intro X hP hw hK hc i pins s σ H E I hf st hg
    subst hP hw hK
    obtain ⟨xs, x, hq, hx⟩ := hg
    obtain ⟨its, rv, p, hz⟩ := I.list hq
    obtain ⟨u, hu, ru⟩ := rv.get hx
    obtain ⟨f0, f1, f2, f3, f4, f5⟩ := hf it (by simp)
    refine wpAny_pyNext_list_item st p.isList (x := u) (by simpa using hu) fun h' st' sb => ?_
    have I1 : Inv X pins σ H { s with heap := h' } := I.turned (t' := s.toks) (fun b o hb e => (sb.2 b hb).trans e) f0 f1 f3 f4 f5
    obtain ⟨o, e, c, d⟩ := id st'
    exact ⟨u, rfl, go_of (s := { s with heap := h' }) e c d (by decide) ⟨x, H, I1, ru, ⟨rfl, fun ys hy => by rw [I.list_inj hy hq]; exact hx⟩, st', fun b hb => (hf b hb).1⟩⟩
  done := by
    intro X hP hw hK hc i pins s σ H E I hf st hg
    subst hP hw hK
    obtain ⟨xs, hq, hx⟩ := hg
    obtain ⟨its, rv, p, hz⟩ := I.list hq
    obtain ⟨f0, f1, f2, f3, f4, f5⟩ := hf it (by simp)
    have hl := rv.length
    exact wpAny_pyNext_list_end (I.ok.hd hc) st p.isList (by simp; omega) fun h' eb => ⟨rfl, I.turned (t' := s.toks) (fun b o hb e => eb b o hb e) f0 f1 f3 f4 f5⟩
  self := fun _ _ _ _ _ st h => wpAny_pyIter_listiter st h
theorem turn_tuple {P : Program} {w : World} {K : PySem.W.Frag} {tg : Expr} (a it : Addr) : Turn P w K tg (Itt K a) [it] it (fun i h => h.IsTupleIter it a i) where
  mem := by simp
  obj := fun i h st b hb => by
    have e : b = it := by simpa using hb
    subst e
    obtain ⟨o, e, c, d⟩ := st
    exact ⟨o, e, fun v z => by rw [d] at z; cases z⟩
  keep := fun i h h' st k => st.at fun o e => k it (by simp) o e
  item := by
    intro X hP hw hK hc i pins s σ H E I hf st hg
    subst hP hw hK
    obtain ⟨xs, x, hq, hx⟩ := hg
    obtain ⟨its, rv, p, hz⟩ := I.tuple hq
    obtain ⟨u, hu, ru⟩ := rv.get hx
    obtain ⟨f0, f1, f2, f3, f4, f5⟩ := hf it (by simp)
    refine wpAny_pyNext_tuple_item st (show s.heap.IsTuple a its.toArray from p) (x := u) (by simpa using hu) fun h' st' sb => ?_
    have I1 : Inv X pins σ H { s with heap := h' } := I.turned (t' := s.toks) (fun b o hb e => (sb.2 b hb).trans e) f0 f1 f3 f4 f5
    obtain ⟨o, e, c, d⟩ := id st'
    exact ⟨u, rfl, go_of (s := { s with heap := h' }) e c d (by decide) ⟨x, H, I1, ru, ⟨rfl, fun ys hy => by rw [I.tuple_inj hy hq]; exact hx⟩, st', fun b hb => (hf b hb).1⟩⟩
  done := by
    intro X hP hw hK hc i pins s σ H E I hf st hg
    subst hP hw hK
    obtain ⟨xs, hq, hx⟩ := hg
    obtain ⟨its, rv, p, hz⟩ := I.tuple hq
    obtain ⟨f0, f1, f2, f3, f4, f5⟩ := hf it (by simp)
    have hl := rv.length
    exact wpAny_pyNext_tuple_end (I.ok.hd hc) st (show s.heap.IsTuple a its.toArray from p) (by simp; omega) fun h' eb => ⟨rfl, I.turned (t' := s.toks) (fun b o hb e => eb b o hb e) f0 f1 f3 f4 f5⟩
  self := fun _ _ _ _ _ st h => wpAny_pyIter_tupleiter st h
end L2
namespace L2
open PySem PySem.Spec PyProof.Rows
section
variable {X : Cx} {tg : Expr}
noncomputable def pinsAt (fp : List Addr) (h : Heap) : List (Addr × Obj) := fp.filterMap fun b => (h.get? b).map fun o => (b, o)
theorem mem_pinsAt {fp : List Addr} {h : Heap} {b : Addr} {o : Obj} (hb : b ∈ fp) (e : h.get? b = some o) : (b, o) ∈ pinsAt fp h := List.mem_filterMap.mpr ⟨b, hb, by rw [e]; rfl⟩
theorem of_pinsAt {fp : List Addr} {h : Heap} {p : Addr × Obj} (hp : p ∈ pinsAt fp h) : p.1 ∈ fp ∧ h.get? p.1 = some p.2 := by
  obtain ⟨b, hb, e⟩ := List.mem_filterMap.mp hp
  cases q : h.get? b with
  | none => rw [q] at e; cases e
  | some o =>
    rw [q] at e
    have e' : (b, o) = p := Option.some.inj e
    subst e'
    exact ⟨hb, q⟩
theorem Inv.pinned {pins : List (Addr × Obj)} {σ : St} {H : Hp} {s : Shared} {fp : List Addr} (I : Inv X pins σ H s) (hf : ∀ b ∈ fp, FpOk X pins H b) (ho : ∀ b ∈ fp, ∃ o, s.heap.get? b = some o ∧ ∀ v, o.data ≠ .cell v) : Inv X (pins ++ pinsAt fp s.heap) σ H s :=
  I.pins_of fun p hp => (List.mem_append.mp hp).elim (fun z => I.pin p (List.mem_append_right _ z)) fun z => by
    obtain ⟨hb, e⟩ := of_pinsAt z
    obtain ⟨f0, f1, f2, _⟩ := hf p.1 hb
    obtain ⟨o, e', d⟩ := ho p.1 hb
    rw [e] at e'; cases e'
    exact ⟨e, f0, f1, f2, d⟩
theorem Inv.unpinned {pins pl : List (Addr × Obj)} {σ : St} {H : Hp} {s : Shared} (I : Inv X (pins ++ pl) σ H s) : Inv X pins σ H s := I.pins_of fun p hp => I.pin p (List.mem_append_right _ (List.mem_append_left _ hp))
end
end L2
namespace L2
open PySem PySem.Spec PyProof.Rows
noncomputable abbrev R2 := V → V → Hp → VK → Prop
noncomputable def OpR (X : Cx) (f : Value → Value → Sem Value) (r : R2) : Prop :=
  ∀ (pins : List (Addr × Obj)) (s : Shared) (σ : St) (H : Hp) (x y : V) (v u : Value) (Q : VK), Inv X pins σ H s → RelV x v → RelV y u → r x y H Q →
    wpAny (model X.prog X.w) X.A (f v u) (EP X pins σ Q) X.xe s
noncomputable def CallR (X : Cx) (f : Value) (r : List V → Hp → VK → Prop) : Prop :=
  ∀ (pins : List (Addr × Obj)) (s : Shared) (σ : St) (H : Hp) (xs : List V) (us : List Value) (Q : VK), Inv X pins σ H s → Vals xs us → r xs H Q →
    wpAny (model X.prog X.w) X.A (call f us) (EP X pins σ Q) X.xe s
noncomputable def TruR (X : Cx) (r : V → Hp → (Bool → Hp → Prop) → Prop) : Prop :=
  ∀ (pins : List (Addr × Obj)) (s : Shared) (σ : St) (H : Hp) (x : V) (v : Value) (Q : Bool → Hp → Prop), Inv X pins σ H s → RelV x v → r x H Q →
    wpAny (model X.prog X.w) X.A (truthy v) (TP X pins σ Q) X.xe s
noncomputable def tOp (r : R2) (ta tb : TE) : TE := fun σ H Q => ta σ H fun x H1 => tb σ H1 fun y H2 => r x y H2 Q
noncomputable def rI (C : Int → Int → Prop) (g : Int → Int → V) : R2 := fun x y H Q => ∃ i j, x = .int i ∧ y = .int j ∧ C i j ∧ Q (g i j) H
noncomputable def rI0 (g : Int → Int → V) : R2 := fun x y H Q => ∃ i j, x = .int i ∧ y = .int j ∧ Q (g i j) H
section
variable {X : Cx} {a b c : Expr} {ta tb tc : TE} {pos : Pos}
theorem binT (ha : PE X a ta) (hb : PE X b tb) {pins : List (Addr × Obj)} {s : Shared} {σ : St} {H : Hp} {R : V → V → Hp → Prop} (I : Inv X pins σ H s)
    (h : ta σ H fun x H1 => tb σ H1 fun y H2 => R x y H2) {Q : Value → Shared → Prop} {f : Value → Value → Sem Value}
    (hf : ∀ v u s2 x y H2, Inv X pins σ H2 s2 → RelV x v → RelV y u → R x y H2 → wpAny (model X.prog X.w) X.A (f v u) Q X.xe s2) :
    wpAny (model X.prog X.w) X.A (eval a X.env) (fun v s₁ => wpAny (model X.prog X.w) X.A (eval b X.env) (fun u s₂ => wpAny (model X.prog X.w) X.A (f v u) Q X.xe s₂) X.xe s₁) X.xe s := by
  refine thn (ha pins s σ H _ I h) fun v s1 ⟨x, H1, I1, r1, q1⟩ => ?_
  refine thn (hb pins s1 σ H1 _ I1 q1) fun u s2 ⟨y, H2, I2, r2, q2⟩ => ?_
  exact hf v u s2 x y H2 I2 r1 r2 q2
theorem pe_op {op : Operator} {r : R2} (ho : OpR X (binaryOp op) r) (ha : PE X a ta) (hb : PE X b tb) : PE X (.BinOp a op b pos) (tOp r ta tb) := by
  intro pins s σ H Q I h
  exact wpAny_BinOp (binT ha hb I h fun v u s2 x y H2 I2 rx ry q => ho pins s2 σ H2 x y v u Q I2 rx ry q)
theorem opI {f : Value → Value → Sem Value} {C : Int → Int → Prop} {g : Int → Int → Int}
    (rule : ∀ (i j : Int) (t u : Tok) (s : Shared) (Q : Value → Shared → Prop) (E : Value → Shared → Prop), C i j → Q (.int (g i j) s.toks) { s with toks := s.toks + 1 } → wpAny (model X.prog X.w) X.A (f (.int i t) (.int j u)) Q E s) :
    OpR X f (rI C fun i j => .int (g i j)) := by
  intro pins s σ H x y v u Q I rx ry h
  obtain ⟨i, j, rfl, rfl, hc, q⟩ := h
  obtain ⟨t, rfl⟩ := rx
  obtain ⟨t', rfl⟩ := ry
  exact rule i j t t' s _ _ hc ⟨.int (g i j), H, I.tok _, ⟨_, rfl⟩, q⟩
theorem opI0 {f : Value → Value → Sem Value} {g : Int → Int → Int}
    (rule : ∀ (i j : Int) (t u : Tok) (s : Shared) (Q : Value → Shared → Prop) (E : Value → Shared → Prop), Q (.int (g i j) s.toks) { s with toks := s.toks + 1 } → wpAny (model X.prog X.w) X.A (f (.int i t) (.int j u)) Q E s) :
    OpR X f (rI0 fun i j => .int (g i j)) := by
  intro pins s σ H x y v u Q I rx ry h
  obtain ⟨i, j, rfl, rfl, q⟩ := h
  obtain ⟨t, rfl⟩ := rx
  obtain ⟨t', rfl⟩ := ry
  exact rule i j t t' s _ _ ⟨.int (g i j), H, I.tok _, ⟨_, rfl⟩, q⟩
noncomputable def CDiv (i j : Int) : Prop := 0 < j ∧ j < 1073741824
noncomputable def CPow (i j : Int) : Prop := 0 ≤ j ∧ j ≤ 1000000 ∧ i.natAbs < 2 ^ 64
noncomputable def CMul (i j : Int) : Prop := (-(2 ^ 64) < i ∧ i < 2 ^ 64) ∨ (-(2 ^ 64) < j ∧ j < 2 ^ 64)
theorem CMul.ok {i j : Int} (h : CMul i j) : IntMulOk i j := by
  rcases h with ⟨h1, h2⟩ | ⟨h1, h2⟩
  · exact .of_left (intBits_le_64 h1 h2)
  · exact .of_right (intBits_le_64 h1 h2)
theorem op_add : OpR X (binaryOp .Add) (rI0 fun i j => .int (i + j)) := opI0 fun _ _ _ _ _ _ _ q => add_int q
theorem op_sub : OpR X (binaryOp .Sub) (rI0 fun i j => .int (i - j)) := opI0 fun _ _ _ _ _ _ _ q => sub_int q
theorem op_mul : OpR X (binaryOp .Mult) (rI CMul fun i j => .int (i * j)) := opI fun _ _ _ _ _ _ _ hc q => mul_int q hc.ok
theorem op_fdiv : OpR X (binaryOp .FloorDiv) (rI CDiv fun i j => .int (i / j)) := opI fun i j _ _ _ _ _ hc q => by
  have h1 : (0 : Int) < j := hc.1
  have h2 : j < 1073741824 := hc.2
  exact floordiv_int (by omega) (by rw [Int.fdiv_eq_ediv_of_nonneg i (by omega)]; exact q) (.inl (PyProof.noPylong_small (by omega)))
theorem op_mod : OpR X (binaryOp .Mod) (rI (fun _ j => 0 < j) fun i j => .int (i % j)) := opI fun i j _ _ _ _ _ hc q => by
  have h1 : (0 : Int) < j := hc
  exact mod_int' (by omega) (by rw [Int.fmod_eq_emod_of_nonneg i (by omega)]; exact q)
theorem op_pow : OpR X (binaryOp .Pow) (rI CPow fun i j => .int (i ^ j.toNat)) := opI fun _ _ _ _ _ _ _ hc q => pow_int_small hc.1 hc.2.1 hc.2.2 q
end
section
variable {X : Cx} {a b c : Expr} {ta tb tc : TE} {pos : Pos}
theorem fin_bl {pins : List (Addr × Obj)} {σ : St} {H : Hp} {s : Shared} {Q : VK} {k k' : Bool} (I : Inv X pins σ H s) (q : Q (.bl k) H) (e : k = k') : EP X pins σ Q (.bool k') s := by
  subst e
  exact ⟨.bl k, H, I, rfl, q⟩
theorem op_in_str : OpR X (compareOp .In) (fun x y H Q => ∃ i j, x = .str i ∧ y = .str j ∧ Q (.bl (!(Builtin.Str.occurrences j i 0 j.length 1).isEmpty)) H) := by
  intro pins s σ H x y v u Q I rx ry h
  obtain ⟨i, j, rfl, rfl, q⟩ := h
  obtain ⟨t, rfl⟩ := rx
  obtain ⟨t', rfl⟩ := ry
  exact in_str (fin_bl I q rfl)
theorem OpR.or {f : Value → Value → Sem Value} {r r' : R2} (h : OpR X f r) (h' : OpR X f r') : OpR X f (fun x y H Q => r x y H Q ∨ r' x y H Q) := by
  intro pins s σ H x y v u Q I rx ry q
  rcases q with q | q
  · exact h pins s σ H x y v u Q I rx ry q
  · exact h' pins s σ H x y v u Q I rx ry q
noncomputable def TruV (K : PySem.W.Frag) (x : V) (H : Hp) (k : Bool) : Prop :=
  match x with
  | .non => k = false
  | .bl b => k = b
  | .int i => k = (i != 0)
  | .str y => y.length ≤ sizeLine ∧ k = ((y.length : Int) != 0)
  | .byt y => y.size ≤ sizeLine ∧ k = ((y.size : Int) != 0)
  | .ref p => (∃ xs, SqL K H p xs ∧ k = !xs.isEmpty) ∨ (∃ xs, SqT K H p xs ∧ k = !xs.isEmpty) ∨ ∃ kvs, H p = some (.dK kvs) ∧ k = !kvs.isEmpty
  | _ => False
theorem isEmpty_kv {κ : Type} {kvs : List (κ × V)} {vs : List (κ × Value)} (r : KV kvs vs) : (!vs.isEmpty) = !kvs.isEmpty := by
  cases r <;> rfl
theorem isEmpty_of {xs : List V} {its : List Value} (r : Vals xs its) : (!its.toArray.isEmpty) = !xs.isEmpty := by
  cases r <;> simp
theorem line63 : (sizeLine : Nat) < 2 ^ 63 := by rw [sizeLine_eq]; decide
theorem tru_ok : TruR X (fun x H Q => ∃ k, TruV X.K x H k ∧ Q k H) := by
  intro pins s σ H x v Q I rx h
  obtain ⟨k, e, q⟩ := h
  have hl := line63
  have hs : sizeLine = 16777216 := sizeLine_eq
  cases x with
  | non =>
    cases rx
    have e' : k = false := e
    subst e'
    exact truthy_none ⟨H, I, q⟩
  | bl b =>
    cases rx
    have e' : k = b := e
    subst e'
    exact wpAny_truthy_bool ⟨H, I, q⟩
  | int i =>
    obtain ⟨t, rfl⟩ := rx
    have e' : k = (i != 0) := e
    subst e'
    exact PySem.P.truthy_int ⟨H, I, q⟩
  | str y =>
    obtain ⟨t, rfl⟩ := rx
    obtain ⟨hy, e'⟩ : y.length ≤ sizeLine ∧ k = ((y.length : Int) != 0) := e
    subst e'
    exact PySem.P.truthy_str (by omega) ⟨H, I.tok _, q⟩
  | byt y =>
    obtain ⟨t, rfl⟩ := rx
    obtain ⟨hy, e'⟩ : y.size ≤ sizeLine ∧ k = ((y.size : Int) != 0) := e
    subst e'
    exact PySem.W.truthy_bytes (by omega) ⟨H, I.tok _, q⟩
  | ref p =>
    cases rx
    have e' : (∃ xs, SqL X.K H p xs ∧ k = !xs.isEmpty) ∨ (∃ xs, SqT X.K H p xs ∧ k = !xs.isEmpty) ∨ ∃ kvs, H p = some (.dK kvs) ∧ k = !kvs.isEmpty := e
    rcases e' with ⟨xs, hx, e'⟩ | ⟨xs, hx, e'⟩ | ⟨kvs, hx, e'⟩
    · subst e'
      obtain ⟨its, r, pl, hz⟩ := I.list hx
      have hlen := r.length
      exact wpAny_truthy_list pl.isList (by simp only [List.size_toArray]; omega) ⟨H, I.tok _, by rw [isEmpty_of r]; exact q⟩
    · subst e'
      obtain ⟨its, r, pl, hz⟩ := I.tuple hx
      have hlen := r.length
      exact truthy_tuple pl (by simp only [List.size_toArray]; omega) ⟨H, I.tok _, by rw [isEmpty_of r]; exact q⟩
    · subst e'
      obtain ⟨hz, hS, vs, r, m⟩ : kvs.length ≤ sizeLine ∧ (p == sysModules) = false ∧ ∃ vs, KV kvs vs ∧ s.heap.DictOf (mixKind X.prog X.w) p vs := I.hok p _ hx
      have hlen : kvs.length = vs.length := Paired.length r
      exact wpAny_truthy_dict hS m (by omega) ⟨H, I.tok _, by rw [isEmpty_kv r]; exact q⟩
  | _ => exact (show False from e).elim
theorem pt_truth (ha : PE X a ta) (he : ∀ whole, isTrue a X.env whole = (do let v ← whole; standAt a.pos; holding [v] (truthy v))) :
    PT X a (fun σ H Q => ta σ H fun x H' => ∃ k, TruV X.K x H' k ∧ Q k H') := by
  intro pins s σ H Q I h
  exact isTrue_plain (thn (ha pins s σ H _ I h) fun v s1 ⟨x, H1, I1, r1, q1⟩ => tru_ok pins s1 σ H1 x v Q I1 r1 q1) (he _)
theorem op_add_str : OpR X (binaryOp .Add) (fun x y H Q => ∃ i j, x = .str i ∧ y = .str j ∧ i.length + j.length ≤ sizeLine ∧ Q (.str (i ++ j)) H) := by
  intro pins s σ H x y v u Q I rx ry h
  obtain ⟨i, j, rfl, rfl, hz, q⟩ := h
  obtain ⟨t, rfl⟩ := rx
  obtain ⟨t', rfl⟩ := ry
  exact add_str (fun t' tk => ⟨.str (i ++ j), H, I.tok _, ⟨_, rfl⟩, q⟩) hz
theorem vals1 {x : V} {us : List Value} (r : Vals [x] us) : ∃ u, us = [u] ∧ RelV x u := by
  cases r with
  | cons r1 r2 => cases r2; exact ⟨_, rfl, r1⟩
theorem vals2 {x y : V} {us : List Value} (r : Vals [x, y] us) : ∃ u w', us = [u, w'] ∧ RelV x u ∧ RelV y w' := by
  cases r with
  | cons r1 r2 =>
    cases r2 with
    | cons r3 r4 => cases r4; exact ⟨_, _, rfl, r1, r3⟩
theorem call_max2 (hc : X.calm = true) : CallR X (.builtin "max") (fun xs H Q => ∃ i j, xs = [.int i, .int j] ∧ Q (.int (if j > i then j else i)) H) := by
  intro pins s σ H xs us Q I r h
  obtain ⟨i, j, rfl, q⟩ := h
  obtain ⟨u, w', rfl, ⟨t, rfl⟩, ⟨t', rfl⟩⟩ := vals2 r
  refine max_two_ints (I.ok.hd hc) fun h' tk k => ⟨_, H, I.kept k, ?_, q⟩
  by_cases hj : j > i
  · rw [if_pos hj, if_pos hj]; exact ⟨_, rfl⟩
  · rw [if_neg hj, if_neg hj]; exact ⟨_, rfl⟩
noncomputable def LenV (K : PySem.W.Frag) (x : V) (H : Hp) (n : Nat) : Prop :=
  match x with
  | .str y => y.length ≤ sizeLine ∧ n = y.length
  | .byt y => y.size ≤ sizeLine ∧ n = y.size
  | .ref p => (∃ xs, SqL K H p xs ∧ n = xs.length) ∨ ∃ xs, SqT K H p xs ∧ n = xs.length
  | _ => False
theorem call_len : CallR X (.builtin "len") (fun xs H Q => ∃ x n, xs = [x] ∧ LenV X.K x H n ∧ Q (.int n) H) := by
  intro pins s σ H xs us Q I r h
  obtain ⟨x, n, rfl, e, q⟩ := h
  obtain ⟨u, rfl, rx⟩ := vals1 r
  have hl := line63
  have hs : sizeLine = 16777216 := sizeLine_eq
  cases x with
  | str y =>
    obtain ⟨t, rfl⟩ := rx
    obtain ⟨hy, e'⟩ : y.length ≤ sizeLine ∧ n = y.length := e
    subst e'
    exact len_str (by omega) ⟨.int _, H, I.tok _, ⟨_, rfl⟩, q⟩
  | byt y =>
    obtain ⟨t, rfl⟩ := rx
    obtain ⟨hy, e'⟩ : y.size ≤ sizeLine ∧ n = y.size := e
    subst e'
    exact PySem.W.len_bytes (by omega) ⟨.int _, H, I.tok _, ⟨_, rfl⟩, q⟩
  | ref p =>
    cases rx
    have e' : (∃ xs, SqL X.K H p xs ∧ n = xs.length) ∨ ∃ xs, SqT X.K H p xs ∧ n = xs.length := e
    rcases e' with ⟨xs, hx, e'⟩ | ⟨xs, hx, e'⟩
    · subst e'
      obtain ⟨its, r', pl, hz⟩ := I.list hx
      have hlen := r'.length
      exact Calls.call_len_list pl.isList (by simp only [List.size_toArray]; omega) ⟨.int xs.length, H, I.tok _, ⟨_, by simp only [List.size_toArray]; rw [hlen]⟩, q⟩
    · subst e'
      obtain ⟨its, r', pl, hz⟩ := I.tuple hx
      have hlen := r'.length
      exact len_tuple pl (by simp only [List.size_toArray]; omega) ⟨.int xs.length, H, I.tok _, ⟨_, by simp only [List.size_toArray]; rw [hlen]⟩, q⟩
  | _ => exact (show False from e).elim
end
end L2
namespace L2
open PySem PySem.Spec PyProof.Rows
structure ObjM (h : Heap) (x dx C : Addr) (mA : Str → Option Value) : Prop where
  obj : h.get? x = some (PySem.W.instObj C dx)
  ns : h.Ns1 dx mA
  ne : dx ≠ x
set_option tactic.hygienic true in
theorem lookIn_ns {h : Heap} {dx : Addr} {mA : Str → Option Value} (n : h.Ns1 dx mA) : ∃ od, h.get? dx = some od ∧ ∀ name, PySem.W.lookIn name od = some (mA name) := by
  obtain ⟨o, es, ep, ho, hd, hk, _, hm⟩ := n
  refine ⟨o, ho, fun name => ?_⟩
  have e := hm name
  unfold nsFind findBy at e
  rw [← Array.find?_toList] at e
  unfold PySem.W.lookIn
  rw [hd]
  dsimp only
  split
  · rename_i y q
    rw [q] at e
    exact congrArg some e
  · rename_i q
    rw [q] at e
    have a : es.toList.any (·.refKey) = false := by
      rw [List.any_eq_false]
      intro y hy
      obtain ⟨z, t, hkey⟩ := hk y (Array.mem_toList_iff.mp hy)
      simp [DictEntry.refKey, hkey]
    have a' : ¬ es.toList.any (·.refKey) = true := by rw [a]; exact Bool.false_ne_true
    rw [if_neg a']
    exact congrArg some e
theorem ObjM.look {h : Heap} {x dx C : Addr} {mA : Str → Option Value} (I : ObjM h x dx C mA) : ∃ od, PySem.W.InstAt h x (PySem.W.instObj C dx) C (some od) ∧ ∀ name, PySem.W.lookIn name od = some (mA name) :=
  let ⟨od, ho, hl⟩ := lookIn_ns I.ns
  ⟨od, ⟨I.obj, rfl, rfl, ho⟩, hl⟩
section
variable {prog : Program} {w : World} {A : Around} {E : Value → Shared → Prop} {s : Shared} {K : PySem.W.Frag} {x dx C f : Addr} {mA : Str → Option Value} {name : Str} {v : Value}
theorem get_map {expr : Bool} {Q : Value → Shared → Prop} (X : K.In s.heap) (I : ObjM s.heap x dx C mA) (hg : PySem.W.plainGet K C name = true) (hh : PySem.W.hasDictIn K C = true)
    (ha : PySem.W.findIn K (.ref C) name = some none) (hv : mA name = some v) (hv' : PySem.W.handedIn v = true) (h : Q v { s with toks := s.toks + 1 }) :
    wpAny (model prog w) A (getAttr (.ref x) name expr) Q E s := by
  obtain ⟨od, J, hl⟩ := I.look
  exact PySem.W.get_value X J (PySem.W.plainGet_of hg).1 (PySem.W.findObj_own hh ha rfl (by rw [hl, hv])) hv' h
theorem get_meth {pl : Sem Bool} {Q : Value × List Value → Shared → Prop} (X : K.In s.heap) (I : ObjM s.heap x dx C mA) (hg : PySem.W.plainGet K C name = true)
    (hf : PySem.W.findIn K (.ref C) name = some (some (.ref f))) (ht : PySem.W.isFn K (.ref f) = true) (hv : mA name = none) (h : Q (.ref f, [.ref x]) s) :
    wpAny (model prog w) A (getMethod (.ref x) name pl) Q E s := by
  obtain ⟨od, J, hl⟩ := I.look
  exact PySem.W.method_fn X J (PySem.W.plainGet_of hg).1 (PySem.W.plainGet_of hg).2 hf (beq_iff_eq.mp ht) (by show (PySem.W.lookIn name od).map (·.isSome) = some false; rw [hl, hv]; rfl) h
theorem set_map {ns : List Str} {Q : Unit → Shared → Prop} (X : K.In s.heap) (I : ObjM s.heap x dx C mA)
    (hs : PySem.W.findIn K (.ref C) "__setattr__" = some (some (.builtin "object.__setattr__"))) (hp : PySem.W.plainOver K C = true) (ht : PySem.W.takerIn K C name = some none) (hh : PySem.W.hasDictIn K C = true)
    (hw : PySem.Within mA ns) (hsz : ns.length ≤ sizeLine)
    (h : ∀ h', ObjM h' x dx C (fun y => if y = name then some v else mA y) → Heap.SameBut dx s.heap h' → Q () { s with heap := h', toks := s.toks + 2 }) :
    wpAny (model prog w) A (setAttr (.ref x) name v) Q E s := by
  obtain ⟨od, J, hl⟩ := I.look
  refine PySem.W.set_plain X J hs (PySem.W.osa_open (s := { s with toks := s.toks + 1 }) (r := none) X J hp ht fun b => ?_)
  obtain ⟨cd, hc, hd'⟩ := PySem.W.any_some hh
  have hx : s.heap.get? x = some ⟨.ref C, some dx, .plain, #[]⟩ := I.obj
  refine wpAny_bind (wpAny_pure (wpAny_bind (wpAny_bind (wpAny_loadPart hx (wpAny_bind (PySem.W.Looks.here (s := { s with toks := s.toks + 1 }) (PySem.W.looks_clsIn X hc) ?_))))))
  rw [hd']
  refine wpAny_pure (a := some dx) (wpAny_bind (wpAny_pure (wpAny_bind ?_)))
  refine wpAny_nsSet1 (s := { s with toks := s.toks + 1 }) I.ns fun h' hn2 hs2 => ?_
  obtain ⟨oD, esD, epD, hoD, hdD, hcD⟩ := hn2.count (PySem.Within.cons name v hw)
  refine wpAny_bind (wpAny_lookBehind hoD (by rw [hdD]; exact pastItsLine_dict (Nat.le_trans hcD (by rw [List.length_cons]; omega))) ?_)
  exact wpAny_pure (h _ ⟨(hs2.2 _ (Ne.symm I.ne)).trans I.obj, hn2, I.ne⟩ hs2)
theorem make_map {R : Result → Shared → Prop} {vs : List Value} {kw : List (Str × Value)} (X : K.In s.heap) (hm : PySem.W.makesIn K C = true)
    (hi : PySem.W.findIn K (.ref C) "__init__" = some (some (.ref f))) (hf : PySem.W.typeIn K (.ref f) = some (.type "function"))
    (h : codeAny (model prog w) (A.under (.builtin "type.__call__" ⟨.ref C :: vs, kw⟩)) (.call (.ref f) ⟨.ref (s.heap.objs.size + 1) :: vs, kw⟩) (PySem.W.InitBack (s.heap.objs.size + 1) R)
      { s with heap := (s.heap.push PySem.W.emptyDict).push (PySem.W.instObj C s.heap.objs.size) }) :
    codeAny (model prog w) A (.call (.ref C) ⟨vs, kw⟩) R s := by
  obtain ⟨hh, g, d, t, os⟩ := s
  exact PySem.W.make_core (PySem.W.makes_of X hm) (PySem.W.looks_findIn X hi) (fun self => PySem.W.bind_fn X self hf) (.inl rfl) h
end
noncomputable def putF (f : Str) (v : V) : List (Str × V) → List (Str × V)
  | [] => [(f, v)]
  | (g, x) :: r => if g = f then (g, v) :: r else (g, x) :: putF f v r
theorem lookup_putF (f g : Str) (v : V) : ∀ fs : List (Str × V), (putF f v fs).lookup g = if g = f then some v else fs.lookup g
  | [] => by
    show List.lookup g [(f, v)] = _
    by_cases h : g = f
    · have hb : (g == f) = true := beq_iff_eq.mpr h
      simp only [List.lookup, hb, if_pos h]
    · have hb : (g == f) = false := beq_eq_false_iff_ne.mpr h
      simp only [List.lookup, hb, if_neg h]
  | (k, x) :: r => by
    have ih := lookup_putF f g v r
    rw [show putF f v ((k, x) :: r) = (if k = f then (k, v) :: r else (k, x) :: putF f v r) from rfl]
    by_cases hk : k = f
    · rw [if_pos hk]
      by_cases h : g = k
      · have hb : (g == k) = true := beq_iff_eq.mpr h
        simp only [List.lookup, hb, if_pos (h.trans hk)]
      · have hb : (g == k) = false := beq_eq_false_iff_ne.mpr h
        simp only [List.lookup, hb, if_neg (fun e : g = f => h (e.trans hk.symm))]
    · rw [if_neg hk]
      by_cases h : g = k
      · have hb : (g == k) = true := beq_iff_eq.mpr h
        simp only [List.lookup, hb, if_neg (fun e : g = f => hk (h.symm.trans e))]
      · have hb : (g == k) = false := beq_eq_false_iff_ne.mpr h
        simp only [List.lookup, hb]
        exact ih
theorem keys_putF (f : Str) (v : V) : ∀ fs : List (Str × V), f ∈ (putF f v fs).map (·.1) ∧ ∀ g, g ∈ fs.map (·.1) → g ∈ (putF f v fs).map (·.1)
  | [] => ⟨by simp [putF], fun g h => by simp at h⟩
  | (k, x) :: r => by
    obtain ⟨i1, i2⟩ := keys_putF f v r
    rw [show putF f v ((k, x) :: r) = (if k = f then (k, v) :: r else (k, x) :: putF f v r) from rfl]
    by_cases hk : k = f
    · rw [if_pos hk]
      subst hk
      exact ⟨by simp, fun g h => by simpa using h⟩
    · rw [if_neg hk]
      refine ⟨?_, fun g h => ?_⟩
      · rw [List.map_cons]
        exact List.mem_cons_of_mem _ i1
      · rw [List.map_cons] at h ⊢
        rcases List.mem_cons.mp h with e | e
        · exact List.mem_cons.mpr (.inl e)
        · exact List.mem_cons_of_mem _ (i2 g e)
theorem length_putF (f : Str) (v : V) : ∀ fs : List (Str × V), (putF f v fs).length ≤ fs.length + 1
  | [] => by simp [putF]
  | (k, x) :: r => by
    have ih := length_putF f v r
    rw [show putF f v ((k, x) :: r) = (if k = f then (k, v) :: r else (k, x) :: putF f v r) from rfl]
    by_cases hk : k = f
    · rw [if_pos hk, List.length_cons, List.length_cons]; omega
    · rw [if_neg hk, List.length_cons, List.length_cons]; omega
theorem RelO.some_of {v : V} {o : Option Value} (r : RelO (some v) o) : ∃ u, o = some u ∧ RelV v u := by
  cases o with
  | none => exact (show False from r).elim
  | some u => exact ⟨u, rfl, r⟩
theorem RelO.none_of {o : Option Value} (r : RelO none o) : o = none := by
  cases o with
  | none => rfl
  | some u => exact (show False from r).elim
theorem handed_of {v : V} {u : Value} (r : RelV v u) : PySem.W.handedIn u = true := by
  cases v with
  | non => cases (show u = Value.none from r); rfl
  | bl b => cases (show u = Value.bool b from r); rfl
  | int i => obtain ⟨t, e⟩ := (show ∃ t, u = Value.int i t from r); cases e; rfl
  | str x => obtain ⟨t, e⟩ := (show ∃ t, u = Value.str x t from r); cases e; rfl
  | byt b => obtain ⟨t, e⟩ := (show ∃ t, u = Value.bytes b t from r); cases e; rfl
  | flt b => obtain ⟨t, e⟩ := (show ∃ t, u = Value.float b t from r); cases e; rfl
  | ref a => cases (show u = Value.ref a from r); rfl
  | ty n => cases (show u = Value.type n from r); rfl
section
variable {P : Program} {w : World} {H H' : Hp} {h h' : Heap} {a C dx : Addr} {fs fs' : List (Str × V)}
theorem ins_get (hok : HOk P w H h) (e : H a = some (.ins C dx fs)) : ∃ mA, ObjM h a dx C mA ∧ (∀ f, RelO (fs.lookup f) (mA f)) ∧ PySem.Within mA (fs.map (·.1)) ∧ fs.length ≤ 1000 ∧ H dx = some (.own a) := by
  obtain ⟨d, z, ne, ob, mA, n, r, q⟩ := (show ObjOk P w H h a (.ins C dx fs) from hok a _ e)
  exact ⟨mA, ⟨ob, n, ne⟩, r, q, z, d⟩
end
structure Cls (K : PySem.W.Frag) (C : Addr) : Prop where
  pg : PySem.W.plainGet K C Str.empty = true
  hd : PySem.W.hasDictIn K C = true
  po : PySem.W.plainOver K C = true
  sa : PySem.W.findIn K (.ref C) "__setattr__" = some (some (.builtin "object.__setattr__"))
theorem Cls.get {K : PySem.W.Frag} {C : Addr} (c : Cls K C) (f : Str) : PySem.W.plainGet K C f = true := c.pg
noncomputable def NoAttr (K : PySem.W.Frag) (C : Addr) (f : Str) : Prop := PySem.W.findIn K (.ref C) f = some none
theorem NoAttr.taker {K : PySem.W.Frag} {C : Addr} {f : Str} (n : NoAttr K C f) : PySem.W.takerIn K C f = some none := by
  unfold PySem.W.takerIn
  rw [show PySem.W.findIn K (.ref C) f = some none from n]
  rfl
structure Meth (K : PySem.W.Frag) (C : Addr) (m : Str) (f : Addr) : Prop where
  at_ : PySem.W.findIn K (.ref C) m = some (some (.ref f))
  fn : PySem.W.isFn K (.ref f) = true
  kp : PySem.W.keepIn K (.ref f) = true
section
variable {X : Cx} {pins : List (Addr × Obj)} {σ : St} {H : Hp} {s : Shared} {a C dx : Addr} {fs : List (Str × V)} {f : Str} {v : V} {A : Around} {E : Value → Shared → Prop}
theorem getattr_ok {b : Bool} {Q : Value → Shared → Prop} (I : Inv X pins σ H s) (e : H a = some (.ins C dx fs)) (c : Cls X.K C) (n : NoAttr X.K C f) (l : fs.lookup f = some v)
    (h : ∀ u s', Inv X pins σ H s' → RelV v u → Q u s') : wpAny (model X.prog X.w) A (getAttr (.ref a) f b) Q E s := by
  obtain ⟨mA, O, r, _, _, _⟩ := ins_get I.hok e
  obtain ⟨u, hu, ru⟩ := RelO.some_of (v := v) (o := mA f) (by rw [← l]; exact r f)
  exact get_map I.kIn O (c.get f) c.hd n hu (handed_of ru) (h u _ (I.tok _) ru)
theorem getmeth_ok {m : Str} {g : Addr} {pl : Sem Bool} {Q : Value × List Value → Shared → Prop} (I : Inv X pins σ H s) (e : H a = some (.ins C dx fs)) (c : Cls X.K C) (k : Meth X.K C m g) (l : fs.lookup m = none)
    (h : Q (.ref g, [.ref a]) s) : wpAny (model X.prog X.w) A (getMethod (.ref a) m pl) Q E s := by
  obtain ⟨mA, O, r, _, _, _⟩ := ins_get I.hok e
  have hn : mA m = none := RelO.none_of (by rw [← l]; exact r m)
  exact get_meth I.kIn O (c.get m) k.at_ k.fn hn h
theorem setattr_ok {y : V} {u : Value} {Q : Unit → Shared → Prop} (I : Inv X pins σ H s) (e : H a = some (.ins C dx fs)) (c : Cls X.K C) (n : NoAttr X.K C f) (hl : fs.length < 1000) (ry : RelV y u)
    (h : ∀ s', Inv X pins σ (upd H a (.ins C dx (putF f y fs))) s' → Q () s') : wpAny (model X.prog X.w) A (setAttr (.ref a) f u) Q E s := by
  obtain ⟨mA, O, r, wi, _, ho⟩ := ins_get I.hok e
  have hz : (fs.map (·.1)).length ≤ sizeLine := by rw [List.length_map, sizeLine_eq]; omega
  refine set_map I.kIn O c.sa c.po n.taker c.hd wi hz fun h' O' sb => h _ ?_
  have hd : ∃ o, h'.get? dx = some o := let ⟨o, _, _, e', _⟩ := O'.ns; ⟨o, e'⟩
  refine I.write (x := a) (e := dx) (by rw [e]; exact True.intro) (.inr ho) (fun b q hb z => (sb.2 b hb).trans z) hd ?_
  refine ⟨by rw [upd_ne O.ne]; exact ho, ?_, O.ne, O'.obj, _, O'.ns, fun g => ?_, fun g hg => ?_⟩
  · have := length_putF f y fs; omega
  · show RelO ((putF f y fs).lookup g) (if g = f then some u else mA g)
    rw [lookup_putF]
    by_cases q : g = f
    · rw [if_pos q, if_pos q]; exact ry
    · rw [if_neg q, if_neg q]; exact r g
  · by_cases q : g = f
    · rw [q]; exact (keys_putF f y fs).1
    · refine (keys_putF f y fs).2 g (wi g fun z => hg ?_)
      show (if g = f then some u else mA g) = none
      rw [if_neg q]; exact z
theorem Inv.made (I : Inv X pins σ H s) : Inv X pins σ (upd (upd H s.heap.objs.size (.own (s.heap.objs.size + 1))) (s.heap.objs.size + 1) (.ins C s.heap.objs.size []))
    { s with heap := (s.heap.push PySem.W.emptyDict).push (PySem.W.instObj C s.heap.objs.size) } := by
  have e1 : (s.heap.push PySem.W.emptyDict).get? s.heap.objs.size = some PySem.W.emptyDict := Heap.get?_push_size s.heap rfl
  have e2 : ((s.heap.push PySem.W.emptyDict).push (PySem.W.instObj C s.heap.objs.size)).get? (s.heap.objs.size + 1) = some (PySem.W.instObj C s.heap.objs.size) := by
    have := Heap.get?_push_size (s.heap.push PySem.W.emptyDict) (o := PySem.W.instObj C s.heap.objs.size) rfl
    rwa [Heap.size_push] at this
  have e3 : (s.heap.push PySem.W.emptyDict).Ns s.heap.objs.size (fun _ => none) := ⟨PySem.W.emptyDict, #[], _, e1, rfl, (fun e he => absurd he (by simp)), fun _ => rfl⟩
  have I1 := I.laid (a := s.heap.objs.size) (o := .own (s.heap.objs.size + 1)) (h' := s.heap.push PySem.W.emptyDict) (t' := s.toks) (fun b u q => Heap.get?_push_of_some _ q) (Nat.le_refl _) ⟨_, e1⟩
  refine I1.laid (a := s.heap.objs.size + 1) (o := .ins C s.heap.objs.size []) (t' := s.toks) (fun b u q => Heap.get?_push_of_some _ q) (Nat.le_of_eq (Heap.size_push _ _)) ?_
  have ne : s.heap.objs.size ≠ s.heap.objs.size + 1 := Nat.ne_of_lt (Nat.lt_succ_self _)
  refine ⟨by rw [upd_ne ne, upd_same], Nat.zero_le _, ne, e2, fun _ => none, (Heap.Ns1.of_empty e3).at fun o q => Heap.get?_push_of_some _ q, fun _ => True.intro, fun y hy => absurd rfl hy⟩
theorem attr_of {prog : Program} {w : World} {env : Env} {e : Expr} {f : Str} {pos : Pos} {s : Shared} {Q : Value → Shared → Prop} (hb : attributeBase e f env (eval e env) = eval e env)
    (h : wpAny (model prog w) A (eval e env) (fun o s₁ => wpAny (model prog w) A (getAttr o f true) Q E s₁) E s) : wpAny (model prog w) A (eval (.Attribute e f pos) env) Q E s :=
  Attribute_any_ h (by rw [arm_eval_Attribute, hb])
end
noncomputable def tFld (K : PySem.W.Frag) (ta : TE) (f : Str) : TE := fun σ H Q => ta σ H fun x H1 => ∃ a C dx fs v, x = .ref a ∧ H1 a = some (.ins C dx fs) ∧ Cls K C ∧ NoAttr K C f ∧ fs.lookup f = some v ∧ Q v H1
noncomputable def sFld (K : PySem.W.Frag) (ta tv : TE) (f : Str) : TS := fun D σ H => tv σ H fun y H1 => ta σ H1 fun x H2 => ∃ a C dx fs, x = .ref a ∧ H2 a = some (.ins C dx fs) ∧ Cls K C ∧ NoAttr K C f ∧ fs.length < 1000 ∧
  D.nx σ (upd H2 a (.ins C dx (putF f y fs)))
section
variable {X : Cx} {o e value : Expr} {f : Str} {pos pos' tpos : Pos} {ta tv : TE}
theorem pe_fld (he : PE X e ta) (hb : attributeBase e f X.env (eval e X.env) = eval e X.env) : PE X (.Attribute e f pos) (tFld X.K ta f) := by
  intro pins s σ H Q I h
  refine attr_of hb (thn (he pins s σ H _ I h) fun u s1 ⟨x, H1, I1, rx, a, C, dx, fs, v, ex, ea, c, n, l, q⟩ => ?_)
  subst ex
  obtain rfl : u = Value.ref a := rx
  exact getattr_ok I1 ea c n l fun u' s2 I2 ru => ⟨v, H1, I2, ru, q⟩
theorem ps_fld (ha : PE X o ta) (hv : PE X value tv) (hs : swapsWith value (some (.Attribute o f pos')) pos.line X.env = pure false) : PS X (.Assign [.Attribute o f pos'] value pos) (sFld X.K ta tv f) := by
  intro pins s σ H D I h
  refine plainObj_wpAny_Assign_Attribute (thn (hv pins s σ H _ I h) fun u s1 ⟨y, H1, I1, ry, q⟩ => thn (ha pins s1 σ H1 _ I1 q) fun ov s2 ⟨x, H2, I2, rx, a, C, dx, fs, ex, ea, c, n, l, q2⟩ => ?_) hs
  subst ex
  obtain rfl : ov = Value.ref a := rx
  exact setattr_ok I2 ea c n l ry fun s3 I3 => ⟨σ, _, I3, q2⟩
theorem methcall_of {pl : Sem Bool} {m : Str} {apos : Pos} {args : List Expr} {pins : List (Addr × Obj)} {s : Shared} {σ : St} {H : Hp} {Q : Value → Shared → Prop} {te : TE} (he : PE X e te) (I : Inv X pins σ H s)
    (h : te σ H fun x H1 => ∃ a C dx fs g, x = .ref a ∧ H1 a = some (.ins C dx fs) ∧ Cls X.K C ∧ Meth X.K C m g ∧ fs.lookup m = none ∧
      ∀ s1, Inv X pins σ H1 s1 → wpAny (model X.prog X.w) X.A (callWith pos (.ref g) [.ref a] (backTo pos (starEach args X.env)) (backToKw pos (keywordEach [] X.env))) Q X.xe s1)
    (ht : eval (.Call (.Attribute e m apos) args [] pos) X.env = (do
      let ov ← eval e X.env
      standAt apos.atName
      let (f, first) ← holding [ov] (getMethod ov m pl)
      callWith pos f first (backTo pos (starEach args X.env)) (backToKw pos (keywordEach [] X.env)))) :
    wpAny (model X.prog X.w) X.A (eval (.Call (.Attribute e m apos) args [] pos) X.env) Q X.xe s := by
  refine PySem.W.methodCall_KW (pl := pl) (thn (he pins s σ H _ I h) fun u s1 ⟨x, H1, I1, rx, a, C, dx, fs, g, ex, ea, c, k, l, q⟩ => ?_) ht
  subst ex
  obtain rfl : u = Value.ref a := rx
  exact getmeth_ok I1 ea c k l (q s1 I1)
end
section
variable {X : Cx} {pins : List (Addr × Obj)} {σ : St} {H : Hp} {s : Shared} {A : Around} {E : Value → Shared → Prop} {Q : Value → Shared → Prop} {c : Value} {b : Bool}
end
end L2
namespace L2
open PySem PySem.Spec PyProof.Rows
structure Room (k : Nat) (A : Around) : Prop where
  hd : A.handled = none
  dp : A.depth + 3 * k + 5 < recursionLimit
  un : A.units + 16 * k + 200 < cLine
theorem Room.mono {j k : Nat} {A : Around} (r : Room k A) (h : j ≤ k) : Room j A := ⟨r.hd, by have := r.dp; omega, by have := r.un; omega⟩
theorem Room.deeper {k : Nat} {A : Around} (r : Room (k + 1) A) (env : Env) : Room k (A.deeper env) :=
  ⟨r.hd, by have := r.dp; show A.depth + 1 + 3 * k + 5 < _; omega, by have := r.un; show A.units + 3 + 16 * k + 200 < _; omega⟩
theorem make_depth {A : Around} {C : Addr} {us : List Value} {kw : List (Str × Value)} : (A.under (.builtin "type.__call__" ⟨.ref C :: us, kw⟩)).depth = A.depth + 1 := by
  first | rfl | simp [Around.under, Code.weight, Code.isCreation, Code.isGuard, Code.isCaller, Code.frames, Code.isFrame, guardIds]
theorem make_units {A : Around} {C : Addr} {us : List Value} {kw : List (Str × Value)} : (A.under (.builtin "type.__call__" ⟨.ref C :: us, kw⟩)).units = A.units + 1 := by
  first | rfl | simp [Around.under, Code.cUnits, Code.frames, Code.isFrame]
theorem Room.make {k : Nat} {A : Around} (r : Room (k + 1) A) (C : Addr) (us : List Value) (kw : List (Str × Value)) : Room k (A.under (.builtin "type.__call__" ⟨.ref C :: us, kw⟩)) :=
  ⟨r.hd, by have := r.dp; rw [make_depth]; omega, by have := r.un; rw [make_units]; omega⟩
theorem Room.depth {k : Nat} {A : Around} (r : Room k A) : A.depth < recursionLimit := by have := r.dp; omega
noncomputable def tNil : TA := fun _ H Q => Q [] H
noncomputable def tCons (ta : TE) (tr : TA) : TA := fun σ H Q => ta σ H fun x H1 => tr σ H1 fun xs H2 => Q (x :: xs) H2
section
variable {X : Cx} {e : Expr} {es : List Expr} {te : TE} {t : TA} {pos : Pos}
theorem pa_nil : PA X [] tNil := fun _ _ _ _ H Q I h => Calls.spliced_nil ⟨[], H, I, .nil, h⟩
theorem pa_cons (ha : PE X e te) (hr : PA X es t) (hs : starEach (e :: es) X.env = (false, eval e X.env) :: starEach es X.env := by rfl) : PA X (e :: es) (tCons te t) := by
  intro pos pins s σ H Q I h
  rw [hs]
  show wpAny _ _ (spliced ((false, eval e X.env) :: backTo pos (starEach es X.env))) _ _ s
  refine Calls.spliced_cons (thn (ha pins s σ H _ I h) fun u s1 ⟨x, H1, I1, r1, q1⟩ => ?_)
  exact thn (hr pos pins s1 σ H1 _ I1 q1) fun us s2 ⟨xs, H2, I2, r2, q2⟩ => ⟨x :: xs, H2, I2, .cons r1 r2, q2⟩
noncomputable def tTup (t : TA) : TE := fun σ H Q => t σ H fun xs H1 => xs.length ≤ sizeLine ∧ ∀ p, H1 p = none → Q (.ref p) (upd H1 p (.tup xs))
noncomputable def tLst (t : TA) : TE := fun σ H Q => t σ H fun xs H1 => xs.length ≤ sizeLine ∧ ∀ p, H1 p = none → Q (.ref p) (upd H1 p (.lst xs))
theorem pe_tup {x1} (h : PA X es t) : PE X (.Tuple es x1 pos) (tTup t) := by
  intro pins s σ H Q I hq
  refine wpAny_Tuple_spliced (thn (h pos pins s σ H _ I hq) fun us s1 ⟨xs, H1, I1, r, z, q⟩ => ⟨by rw [← r.length]; exact z, ?_⟩)
  have hf : H1 s1.heap.objs.size = none := I1.hok.fresh (Nat.le_refl _)
  refine ⟨.ref s1.heap.objs.size, upd H1 s1.heap.objs.size (.tup xs), I1.laid (t' := s1.toks) (fun b u e => Heap.get?_push_of_some _ e) (Nat.le_refl _) ?_, rfl, q _ hf⟩
  exact ⟨z, us, r, TupO.new _ _⟩
theorem pe_lst (h : PA X es t) : PE X (.List es pos) (tLst t) := by
  intro pins s σ H Q I hq
  refine wpAny_List_spliced (thn (h pos pins s σ H _ I hq) fun us s1 ⟨xs, H1, I1, r, z, q⟩ => ⟨by rw [← r.length]; exact z, ?_⟩)
  have hf : H1 s1.heap.objs.size = none := I1.hok.fresh (Nat.le_refl _)
  refine ⟨.ref s1.heap.objs.size, upd H1 s1.heap.objs.size (.lst xs), I1.laid (t' := s1.toks) (fun b u e => Heap.get?_push_of_some _ e) (Nat.le_refl _) ?_, rfl, q _ hf⟩
  exact ⟨z, us, 0, r, Heap.get?_push_size _ rfl⟩
end
noncomputable abbrev Sp := List V → Hp → VK → XK → Prop
noncomputable abbrev CXT := List Env → Hp → Shared → XK → Value → Shared → Prop
structure Env0 (P : Program) (w : World) (K : PySem.W.Frag) (mg : Str → Option Value) (base : Heap) (A : Around) (outer : List Env) (s : Shared) (H : Hp) : Prop where
  frames : A.frames = some outer
  mod : Mod K mg base
  bs : ∀ b o, base.get? b = some o → s.heap.get? b = some o ∧ H b = none
  bsz : base.objs.size ≤ s.heap.objs.size
  funs : s.heap.FunFrames base outer
  frf : ∀ b ∈ frs outer, H b = none
  hok : HOk P w H s.heap
  bare : AllBare s.gens
inductive CE (outer : List Env) (P : Program) (w : World) (H : Hp) (s : Shared) (Q : VK) (u : Value) (s' : Shared) : Prop
  | mk (v : V) (H' : Hp) (a : s'.os = s.os) (b : AllBare s'.gens) (c : Un (frs outer) [] H H' s.heap s'.heap) (d : HOk P w H' s'.heap) (r : RelV v u) (q : Q v H')
noncomputable def CR (CX : CXT) (outer : List Env) (P : Program) (w : World) (H : Hp) (s : Shared) (Q : VK) (E : XK) (r : Result) (s' : Shared) : Prop :=
  match r with
  | .ok (.ret u) => CE outer P w H s Q u s'
  | .ok _ => False
  | .error e => CX outer H s E e s'
structure FnOk (P : Program) (w : World) (K : PySem.W.Frag) (mg : Str → Option Value) (base : Heap) (CX : CXT) (k : Nat) (f : Addr) (fd : FuncData) (ps : List Str) (sp : Sp) : Prop where
  len : ∀ vs H Q E, sp vs H Q E → vs.length = ps.length
  run : ∀ (A : Around) (outer : List Env) (s : Shared) (H : Hp) (args : Args) (us : List Value) (vs : List V) (Q : VK) (E : XK), Room k A → Env0 P w K mg base A outer s H → BindsTo s fd args (ps.zip us) → Vals vs us → sp vs H Q E →
    codeAny (model P w) A (.call (.ref f) args) (CR CX outer P w H s Q E) s
theorem Env0.make {P : Program} {w : World} {K : PySem.W.Frag} {mg : Str → Option Value} {base : Heap} {A : Around} {outer : List Env} {s : Shared} {H : Hp} (e : Env0 P w K mg base A outer s H) (C : Addr) (us : List Value) (kw : List (Str × Value)) :
    Env0 P w K mg base (A.under (.builtin "type.__call__" ⟨.ref C :: us, kw⟩)) outer s H := ⟨by first | exact e.frames | (simpa [Around.under, Code.envs, Code.isFrame, pushEnvs] using e.frames), e.mod, e.bs, e.bsz, e.funs, e.frf, e.hok, e.bare⟩
section
variable {X : Cx} {pins : List (Addr × Obj)} {σ : St} {H : Hp} {s s' : Shared}
theorem Inv.env0 (I : Inv X pins σ H s) : Env0 X.prog X.w X.K X.mg X.base X.A X.stack s H :=
  ⟨I.ok.frames, I.ok.mod, I.bs, Nat.le_trans I.ok.bsz I.sz, I.stack, I.stkFree, I.hok, I.bare⟩
theorem Inv.after {Q : VK} {u : Value} (I : Inv X pins σ H s) (h : CE X.stack X.prog X.w H s Q u s') : EP X pins σ Q u s' := by
  obtain ⟨v, H', os, bare, un, hok, r, q⟩ := h
  obtain ⟨hh, g, d, t, os'⟩ := s'
  obtain rfl : os' = s.os := os
  exact ⟨v, H', I.call (h' := hh) (g' := g) (d' := d) (t' := t) (ch := []) un hok bare (fun b z => absurd z (by simp)), r, q⟩
end
noncomputable def tCall (sp : Sp) (dvs : List V) (E : XK) (t : TA) : TE := fun σ H Q => t σ H fun vs H1 => sp (vs ++ dvs) H1 Q E
noncomputable def tMeth (C : Addr) (m : Str) (sp : Sp) (dvs : List V) (E : XK) (ta : TE) (t : TA) : TE := fun σ H Q => ta σ H fun x H1 => ∃ a dx fs, x = .ref a ∧ H1 a = some (.ins C dx fs) ∧ fs.lookup m = none ∧
  t σ H1 fun vs H2 => sp (x :: (vs ++ dvs)) H2 Q E
noncomputable def tMake (C : Addr) (sp : Sp) (dvs : List V) (E : XK) (t : TA) : TE := fun σ H Q => t σ H fun vs H1 => ∀ x dx, H1 x = none → H1 dx = none → dx ≠ x →
  sp (.ref x :: (vs ++ dvs)) (upd (upd H1 dx (.own x)) x (.ins C dx [])) (fun v H2 => v = .non ∧ Q (.ref x) H2) E
noncomputable def Binds (K : PySem.W.Frag) (fd : FuncData) (ps : List Str) (ds : List Value) : Prop :=
  ∀ (s : Shared) (us : List Value), K.In s.heap → (us ++ ds).length = ps.length → BindsTo s fd ⟨us, []⟩ (ps.zip (us ++ ds))
theorem Binds.all {K : PySem.W.Frag} {fd : FuncData} {ps : List Str} (h : ∀ us : List Value, us.length = ps.length → bindArgs fd ⟨us, []⟩ = pure (ps.zip us)) : Binds K fd ps [] := fun s us _ hl => by
  rw [List.append_nil] at hl ⊢
  exact .of_eq (h us hl)
noncomputable def Passes (CX : CXT) (X : Cx) (E : XK) : Prop := ∀ (pins : List (Addr × Obj)) (σ : St) (H : Hp) (s : Shared) (e : Value) (s' : Shared), Inv X pins σ H s → CX X.stack H s E e s' → X.xe e s'
section
variable {X : Cx} {CX : CXT} {k : Nat} {f C : Addr} {fd : FuncData} {ps : List Str} {sp : Sp} {dvs : List V} {ds : List Value} {E : XK} {x m : Str} {p pos apos : Pos} {e o : Expr} {es : List Expr} {ta : TE} {t : TA}
theorem run_fn {pins : List (Addr × Obj)} {σ : St} {H : Hp} {s : Shared} {Q : VK} {us : List Value} {vs : List V} (F : FnOk X.prog X.w X.K X.mg X.base CX k f fd ps sp) (hr : Room k X.A) (hb : Binds X.K fd ps ds) (hd : Vals dvs ds) (hx : Passes CX X E)
    (I : Inv X pins σ H s) (r : Vals vs us) (h : sp (vs ++ dvs) H Q E) : wpAny (model X.prog X.w) X.A (call (.ref f) us) (EP X pins σ Q) X.xe s := by
  have r2 : Vals (vs ++ dvs) (us ++ ds) := r.append hd
  have hl : (us ++ ds).length = ps.length := by rw [← r2.length]; exact F.len _ _ _ _ h
  refine wpAny_call (codeAny_mono (F.run X.A X.stack s H ⟨us, []⟩ (us ++ ds) (vs ++ dvs) Q E hr I.env0 (hb s us I.kIn hl) r2 h) fun r s' hq => ?_)
  cases r with
  | error e => exact hx pins σ H s e s' I hq
  | ok fl =>
    cases fl with
    | ret u => exact I.after hq
    | next => exact False.elim hq
    | brk => exact False.elim hq
    | cont => exact False.elim hq
theorem pe_call (F : FnOk X.prog X.w X.K X.mg X.base CX k f fd ps sp) (hr : Room k X.A) (hg : Gl X x) (hm : X.mg x = some (.ref f)) (hk : PySem.W.keepIn X.K (.ref f) = true) (hb : Binds X.K fd ps ds) (hd : Vals dvs ds) (hx : Passes CX X E)
    (ha : PA X (e :: es) t) (hdb : (x == ("__debug__" : Str)) = false := by decide) (he : starEach (e :: es) X.env = (false, eval e X.env) :: starEach es X.env := by rfl) (hpl : (backTo pos (starEach es X.env)).any (·.1) = false := by rfl) :
    PE X (.Call (.Name x p) (e :: es) [] pos) (tCall sp dvs E t) := by
  intro pins s σ H Q I h
  refine wpAny_Call_Name_kw (ld_glob I hg hm ?_ hdb)
  refine PySem.W.callWith_K (h₀ := X.base) I.ok.mod.kin hk (thn (ha pos pins s σ H _ I h) fun us s1 ⟨vs, H1, I1, r, q⟩ => ⟨I1.kIn, ?_⟩) he hpl
  exact run_fn F hr hb hd hx I1 r q
theorem pe_meth {pl : Sem Bool} (he : PE X o ta) (c : Cls X.K C) (hm : Meth X.K C m f) (F : FnOk X.prog X.w X.K X.mg X.base CX k f fd ps sp) (hr : Room k X.A) (hb : Binds X.K fd ps ds) (hd : Vals dvs ds) (hx : Passes CX X E) (ha : PA X (e :: es) t)
    (hst : starEach (e :: es) X.env = (false, eval e X.env) :: starEach es X.env := by rfl) (hpl : (backTo pos (starEach es X.env)).any (·.1) = false := by rfl)
    (ht : eval (.Call (.Attribute o m apos) (e :: es) [] pos) X.env = (do
      let ov ← eval o X.env
      standAt apos.atName
      let (f, first) ← holding [ov] (getMethod ov m pl)
      callWith pos f first (backTo pos (starEach (e :: es) X.env)) (backToKw pos (keywordEach [] X.env))) := by rfl) :
    PE X (.Call (.Attribute o m apos) (e :: es) [] pos) (tMeth C m sp dvs E ta t) := by
  intro pins s σ H Q I h
  refine PySem.W.methodCall_KW (pl := pl) (thn (he pins s σ H _ I h) fun u s1 ⟨x, H1, I1, rx, a, dx, fs, ex, ea, l, q⟩ => ?_) ht
  subst ex
  obtain rfl : u = Value.ref a := rx
  refine getmeth_ok I1 ea c hm l ?_
  refine PySem.W.callWith_K (first := [.ref a]) (h₀ := X.base) I.ok.mod.kin hm.kp (thn (ha pos pins s1 σ H1 _ I1 q) fun us s2 ⟨vs, H2, I2, r, q2⟩ => ⟨I2.kIn, ?_⟩) hst hpl
  exact run_fn (us := .ref a :: us) (vs := .ref a :: vs) F hr hb hd hx I2 (.cons rfl r) q2
theorem pe_meth0 {pl : Sem Bool} (he : PE X o ta) (c : Cls X.K C) (hm : Meth X.K C m f) (F : FnOk X.prog X.w X.K X.mg X.base CX k f fd ps sp) (hr : Room k X.A) (hb : Binds X.K fd ps ds) (hd : Vals dvs ds) (hx : Passes CX X E)
    (ht : eval (.Call (.Attribute o m apos) [] [] pos) X.env = (do
      let ov ← eval o X.env
      standAt apos.atName
      let (f, first) ← holding [ov] (getMethod ov m pl)
      callWith pos f first (backTo pos (starEach [] X.env)) (backToKw pos (keywordEach [] X.env))) := by rfl) :
    PE X (.Call (.Attribute o m apos) [] [] pos) (tMeth C m sp dvs E ta tNil) := by
  intro pins s σ H Q I h
  refine PySem.W.methodCall_KW (pl := pl) (thn (he pins s σ H _ I h) fun u s1 ⟨x, H1, I1, rx, a, dx, fs, ex, ea, l, q⟩ => ?_) ht
  subst ex
  obtain rfl : u = Value.ref a := rx
  refine getmeth_ok I1 ea c hm l ?_
  exact PySem.W.callWith_K0 (first := [.ref a]) I1.kIn hm.kp (run_fn (us := [.ref a]) (vs := [.ref a]) F hr hb hd hx I1 (.cons rfl .nil) q)
structure Mk (K : PySem.W.Frag) (C f : Addr) : Prop where
  makes : PySem.W.makesIn K C = true
  init : PySem.W.findIn K (.ref C) "__init__" = some (some (.ref f))
  fn : PySem.W.isFn K (.ref f) = true
  kp : PySem.W.keepIn K (.ref C) = true
theorem run_make {pins : List (Addr × Obj)} {σ : St} {H : Hp} {s : Shared} {Q : VK} {us : List Value} {vs : List V} (M : Mk X.K C f) (F : FnOk X.prog X.w X.K X.mg X.base CX k f fd ps sp) (hr : Room (k + 1) X.A) (hb : Binds X.K fd ps ds) (hd : Vals dvs ds)
    (hx : Passes CX X E) (I : Inv X pins σ H s) (r : Vals vs us)
    (h : ∀ x dx, H x = none → H dx = none → dx ≠ x → sp (.ref x :: (vs ++ dvs)) (upd (upd H dx (.own x)) x (.ins C dx [])) (fun v H2 => v = .non ∧ Q (.ref x) H2) E) :
    wpAny (model X.prog X.w) X.A (call (.ref C) us) (EP X pins σ Q) X.xe s := by
  have hq := h (s.heap.objs.size + 1) s.heap.objs.size (I.hok.fresh (Nat.le_succ _)) (I.hok.fresh (Nat.le_refl _)) (Nat.ne_of_lt (Nat.lt_succ_self _))
  have I2 := Inv.made (C := C) I
  have r2 : Vals (V.ref (s.heap.objs.size + 1) :: (vs ++ dvs)) (Value.ref (s.heap.objs.size + 1) :: (us ++ ds)) := .cons rfl (r.append hd)
  have hl : (Value.ref (s.heap.objs.size + 1) :: us ++ ds).length = ps.length := by
    have e := r2.length
    rw [F.len _ _ _ _ hq] at e
    exact e.symm
  refine wpAny_call (make_map (f := f) I.kIn M.makes M.init (beq_iff_eq.mp M.fn) (codeAny_mono (F.run _ X.stack _ _ ⟨Value.ref (s.heap.objs.size + 1) :: us, []⟩ (Value.ref (s.heap.objs.size + 1) :: (us ++ ds)) _ _ E (hr.make C us [])
    (I2.env0.make C us []) (hb _ (Value.ref (s.heap.objs.size + 1) :: us) I2.kIn hl) r2 hq) fun r s' hq' => ?_))
  cases r with
  | error e => exact hx pins σ _ _ e s' I2 hq'
  | ok fl =>
    cases fl with
    | ret u =>
      obtain ⟨v, H', I3, rv, ev, q3⟩ := I2.after hq'
      subst ev
      exact ⟨rv, ⟨V.ref (s.heap.objs.size + 1), H', I3, rfl, q3⟩⟩
    | next => exact False.elim hq'
    | brk => exact False.elim hq'
    | cont => exact False.elim hq'
theorem pe_make (M : Mk X.K C f) (F : FnOk X.prog X.w X.K X.mg X.base CX k f fd ps sp) (hr : Room (k + 1) X.A) (hg : Gl X x) (hm : X.mg x = some (.ref C)) (hb : Binds X.K fd ps ds) (hd : Vals dvs ds) (hx : Passes CX X E)
    (ha : PA X (e :: es) t) (hdb : (x == ("__debug__" : Str)) = false := by decide) (he : starEach (e :: es) X.env = (false, eval e X.env) :: starEach es X.env := by rfl) (hpl : (backTo pos (starEach es X.env)).any (·.1) = false := by rfl) :
    PE X (.Call (.Name x p) (e :: es) [] pos) (tMake C sp dvs E t) := by
  intro pins s σ H Q I h
  refine wpAny_Call_Name_kw (ld_glob I hg hm ?_ hdb)
  refine PySem.W.callWith_K (h₀ := X.base) I.ok.mod.kin M.kp (thn (ha pos pins s σ H _ I h) fun us s1 ⟨vs, H1, I1, r, q⟩ => ⟨I1.kIn, ?_⟩) he hpl
  exact run_make M F hr hb hd hx I1 r q
end
section
variable {X : Cx} {CX : CXT} {k : Nat} {f C : Addr} {fd : FuncData} {ps ks : List Str} {sp : Sp} {E : XK} {x m : Str} {p pos apos kpos : Pos} {e o : Expr} {es : List Expr} {kws : List Keyword} {te ta : TE} {t tk : TA} {nm : Option Str}
variable {g : List Value → List Value → List Value} {gV : List V → List V → List V}
end
structure FnScope (N P : List Str) (sc : Scope) : Prop where
  kind : sc.kind = .function
  co : sc.isCoroutine = false
  gen : sc.isGenerator = false
  nd : N.Nodup
  pre : N.take P.length = P
  par : ∀ x ∈ P, sc.names.lookup x = some .local ∨ sc.names.lookup x = some .cell
  nofree : ∀ y ∈ sc.names, y.2 ≠ .free
theorem bindL_out {kindOf : Str → Option NameKind} {x : Str} : ∀ {binds : List (Str × Value)} {m : Str → Option Value}, (∀ v, (x, v) ∉ binds) → bindL kindOf binds m x = m x
  | [], _, _ => rfl
  | (n, v) :: r, m, h => by
    unfold bindL
    rw [bindL_out fun w hw => h w (List.mem_cons_of_mem _ hw)]
    split
    · have : x ≠ n := by rintro rfl; exact h v List.mem_cons_self
      simp [this]
    · rfl
theorem bindC_out {kindOf : Str → Option NameKind} {x : Str} : ∀ {binds : List (Str × Value)} {m : Str → Option Value}, (∀ v, (x, v) ∉ binds) → bindC kindOf binds m x = m x
  | [], _, _ => rfl
  | (n, v) :: r, m, h => by
    unfold bindC
    rw [bindC_out fun w hw => h w (List.mem_cons_of_mem _ hw)]
    split
    · rfl
    · have : x ≠ n := by rintro rfl; exact h v List.mem_cons_self
      simp [this]
theorem bindL_get {kindOf : Str → Option NameKind} {x : Str} {v : Value} : ∀ {P : List Str} {vs : List Value} {i : Nat} {m : Str → Option Value}, P.Nodup → P[i]? = some x → vs[i]? = some v → kindOf x = some .local →
    bindL kindOf (P.zip vs) m x = some v
  | [], _, _, _, _, h, _, _ => by simp at h
  | _ :: _, [], _, _, _, _, h, _ => by simp at h
  | p :: P, w :: vs, 0, m, nd, h1, h2, hk => by
    simp at h1 h2; subst h1; subst h2
    show bindL kindOf ((p, w) :: P.zip vs) m p = _
    unfold bindL
    rw [bindL_out fun v hv => (List.nodup_cons.mp nd).1 (List.of_mem_zip hv).1, if_pos hk]
    simp
  | p :: P, w :: vs, i + 1, m, nd, h1, h2, hk => by
    show bindL kindOf ((p, w) :: P.zip vs) m x = _
    unfold bindL
    exact bindL_get (i := i) (List.nodup_cons.mp nd).2 (by simpa using h1) (by simpa using h2) hk
theorem bindC_get {kindOf : Str → Option NameKind} {x : Str} {v : Value} : ∀ {P : List Str} {vs : List Value} {i : Nat} {m : Str → Option Value}, P.Nodup → P[i]? = some x → vs[i]? = some v → kindOf x ≠ some .local →
    bindC kindOf (P.zip vs) m x = some v
  | [], _, _, _, _, h, _, _ => by simp at h
  | _ :: _, [], _, _, _, _, h, _ => by simp at h
  | p :: P, w :: vs, 0, m, nd, h1, h2, hk => by
    simp at h1 h2; subst h1; subst h2
    show bindC kindOf ((p, w) :: P.zip vs) m p = _
    unfold bindC
    rw [bindC_out fun v hv => (List.nodup_cons.mp nd).1 (List.of_mem_zip hv).1, if_neg hk]
    simp
  | p :: P, w :: vs, i + 1, m, nd, h1, h2, hk => by
    show bindC kindOf ((p, w) :: P.zip vs) m x = _
    unfold bindC
    exact bindC_get (i := i) (List.nodup_cons.mp nd).2 (by simpa using h1) (by simpa using h2) hk
noncomputable def start (N : List Str) (vs : List V) : St := vs.map some ++ List.replicate (N.length - vs.length) none
noncomputable def cxOf (CX : CXT) (P : Program) (w : World) (K : PySem.W.Frag) (mg : Str → Option Value) (base : Heap) (N : List Str) (qual : Str) (scope : Scope) (f : Addr) (cd : Value) (A : Around) (outer : List Env) (s : Shared) (H : Hp) (E : XK) : Cx where
  prog := P
  w := w
  K := K
  mg := mg
  base := base
  A := A.deeper (envOfC qual scope s.heap.objs.size f cd)
  N := N
  s₀ := s
  H₀ := H
  env := envOfC qual scope s.heap.objs.size f cd
  outer := outer
  stack := envOfC qual scope s.heap.objs.size f cd :: outer
  ex := []
  calm := true
  fn := fun _ => true
  pn := []
  xe := fun e s' => wpAny (model P w) (A.deeper (envOfC qual scope s.heap.objs.size f cd)) (leaving (envOfC qual scope s.heap.objs.size f cd) e) (fun _ s'' => CX outer H s E e s'') (fun e' s'' => CX outer H s E e' s'') s'
theorem cell_has {sc : Scope} {n : Nat} {x : Str} (h : sc.names.lookup x = some .cell) : ∃ c, (cellsFrom n sc.names []).lookup x = some c := by
  have q := PySem.W.cellsFrom_some sc.names n [] (.inl h)
  exact Option.isSome_iff_exists.mp q
theorem inv_start {CX : CXT} {P : Program} {w : World} {K : PySem.W.Frag} {mg : Str → Option Value} {base : Heap} {N ps : List Str} {qual : Str} {scope : Scope} {f : Addr} {cd : Value} {A : Around} {outer : List Env} {s s1 : Shared} {H : Hp} {E : XK} {us : List Value} {vs : List V}
    (S : FnScope N ps scope) (hd : A.handled = none) (e0 : Env0 P w K mg base A outer s H) (hl : vs.length = ps.length) (r : Vals vs us)
    (x : InCallC s s.heap.objs.size (bindL (envOfC qual scope s.heap.objs.size f cd).kindOf (ps.zip us) fun _ => none) (cellsFrom (s.heap.objs.size + 1) scope.names []) (bindC (envOfC qual scope s.heap.objs.size f cd).kindOf (ps.zip us) fun _ => none) s1) :
    Inv (cxOf CX P w K mg base N qual scope f cd A outer s H E) [] (start N vs) H s1 := by
  have hpl : ps.length ≤ N.length := by have := congrArg List.length S.pre; rw [List.length_take] at this; omega
  obtain ⟨h1, tk, rfl, hk⟩ := x.done
  have noA : ∀ b : Addr, b ∉ (cxOf CX P w K mg base N qual scope f cd A outer s H E).ex := fun b z => absurd (show b ∈ ([] : List Addr) from z) (by simp)
  refine ⟨⟨e0.mod, S.kind, rfl, rfl, Nat.le_refl _, fun y z c h1 h2 => ?_, fun y hy => ?_, fun y c _ h => ?_, fun _ => hd, Around.frames_deeper e0.frames, .inr ⟨rfl, rfl⟩, fun b z => absurd z (noA b), e0.bs, e0.bsz, fun b _ _ => noA b, fun b z => absurd z (noA b), e0.funs, e0.frf⟩,
    rfl, e0.bare, Un.kept hk, ⟨_, x.toInCall.ns, fun i y v h1 h2 h3 => ?_⟩, fun y c h => ⟨_, x.cell y c h⟩, e0.hok.fresh (Nat.le_refl _), fun y c h => ?_, fun p hp => absurd (show p ∈ ([] : List (Addr × Obj)) from hp) (by simp), e0.hok.kept hk, ?_⟩
  · exact name_of_addr x.apart (PySem.mem_of_lookup h1) (PySem.mem_of_lookup h2)
  · have hy : scope.names.lookup y = some .cell ∨ scope.names.lookup y = some .free := hy
    rcases hy with hy | hy
    · exact cell_has hy
    · exact absurd rfl (S.nofree _ (PySem.mem_of_lookup hy))
  · exact Nat.le_of_lt (x.above y c (PySem.mem_of_lookup h))
  · have hi : i < vs.length := by
      unfold start at h2
      by_cases hi : i < vs.length
      · exact hi
      · rw [List.getElem?_append_right (by simpa using hi)] at h2
        rw [List.getElem?_replicate] at h2
        split at h2 <;> cases h2
    have ha : vs[i]? = some v := by
      unfold start at h2
      rw [List.getElem?_append_left (by simpa using hi), List.getElem?_map] at h2
      cases e : vs[i]? with
      | none => rw [e] at h2; cases h2
      | some a => rw [e] at h2; cases h2; rfl
    obtain ⟨u, hu, rv⟩ := r.get ha
    have hp : ps[i]? = some y := by
      rw [← S.pre, List.getElem?_take_of_lt (by omega)]; exact h1
    have ndP : ps.Nodup := by rw [← S.pre]; exact S.nd.sublist (List.take_sublist _ _)
    refine ⟨u, rv, ?_⟩
    rcases S.par y (List.mem_of_getElem? hp) with k | k
    · exact .inl ⟨k, bindL_get ndP hp hu k⟩
    · obtain ⟨c, e⟩ := cell_has (n := s.heap.objs.size + 1) k
      refine .inr ⟨.inl k, c, e, ?_⟩
      have q := x.cell y c e
      rw [bindC_get ndP hp hu (by show scope.names.lookup y ≠ _; rw [k]; decide)] at q
      exact q
  · exact e0.hok.fresh (Nat.le_of_lt (x.above y c (PySem.mem_of_lookup h)))
  · unfold start
    show _ = N.length
    rw [List.length_append, List.length_map, List.length_replicate]
    omega
theorem fn_of {CX : CXT} {P : Program} {w : World} {K : PySem.W.Frag} {mg : Str → Option Value} {base : Heap} {k : Nat} {f : Addr} {name qual : Str} {params : Arguments} {body : List Stmt} {scope : Scope} {dV kV doc pm cdv ct oc : Value} {an od : Option Addr}
    {osl : Array (Option Value)} {N ps : List Str} {sp : Sp} (lk : K.lookup f = some ⟨oc, od, .func (PySem.W.fnOf name qual params body scope dV kV doc pm an cdv ct), osl⟩) (hcd : PySem.W.codeIn K cdv qual = true) (S : FnScope N ps scope)
    (len : ∀ vs H Q E, sp vs H Q E → vs.length = ps.length)
    (hbody : ∀ (A : Around) (outer : List Env) (s : Shared) (H : Hp) (vs : List V) (Q : VK) (E : XK), Room k (A.deeper (envOfC qual scope s.heap.objs.size f cdv)) → sp vs H Q E →
      ∃ t, PSs (cxOf CX P w K mg base N qual scope f cdv A outer s H E) body t ∧ t { nx := fun _ H' => Q .non H', rt := Q } (start N vs) H) :
    FnOk P w K mg base CX (k + 1) f (PySem.W.fnOf name qual params body scope dV kV doc pm an cdv ct) ps sp := by
  refine ⟨len, fun A outer s H args us vs Q E hr e0 hb r hsp => ?_⟩
  have hl := len _ _ _ _ hsp
  have KX : K.In s.heap := e0.mod.kin.keeps fun b o e => (e0.bs b o e).1
  have lim : s.heap.NoLimit := e0.mod.nolimit.keeps fun b o e => (e0.bs b o e).1
  have hkind : ∀ y ∈ ps.zip us, scope.names.lookup y.1 = some .local ∨ (scope.names.lookup y.1 = some .cell ∧ ((cellsFrom (s.heap.objs.size + 1) scope.names []).lookup y.1).isSome = true) := fun ⟨n, v⟩ hy => by
    rcases S.par n (List.of_mem_zip hy).1 with q | q
    · exact .inl q
    · exact .inr ⟨q, PySem.W.cellsFrom_some _ _ _ (.inl q)⟩
  refine codeAny_call_function hr.depth (KX _ _ lk) rfl S.co S.gen rfl (PySem.W.codeRec_of KX hcd) (hb _ _ _ _ ?_)
  refine wpAny_newFunctionEnv_cells S.kind hkind fun env he s1 x => ?_
  subst he
  refine ⟨lim.keeps x.toInCall.keep, codeAny_func ?_⟩
  obtain ⟨t, ht, hq⟩ := hbody A outer s H vs Q E (hr.deeper _) hsp
  have I : Inv (cxOf CX P w K mg base N qual scope f cdv A outer s H E) [] (start N vs) H s1 := inv_start S hr.hd e0 hl r x
  refine wpAny_mono (ht [] s1 (start N vs) H _ I hq) (fun fl s' hs => ?_) fun e s' hs => hs
  have fin : ∀ {σ' : St} {H' : Hp} {v : V} {u : Value}, Inv (cxOf CX P w K mg base N qual scope f cdv A outer s H E) [] σ' H' s' → RelV v u → Q v H' → CE outer P w H s Q u s' :=
    fun {σ' H' v u} J rv q => ⟨v, H', J.os, J.bare, J.base, J.hok, rv, q⟩
  cases fl with
  | ret u =>
    obtain ⟨v, σ', H', J, rv, q⟩ := hs
    exact fin J rv q
  | next =>
    obtain ⟨σ', H', J, q⟩ := hs
    exact fin (v := V.non) (u := Value.none) J rfl q
  | brk =>
    obtain ⟨_, _, _, q⟩ := hs
    exact False.elim q
  | cont =>
    obtain ⟨_, _, _, q⟩ := hs
    exact False.elim q
end L2
namespace L2
open PySem PySem.Spec PyProof.Rows
section
variable {X : Cx} {x : Str} {p pos : Pos} {e : Expr} {es : List Expr} {t : TA} {id T : String} {r : List V → Hp → VK → Prop}
noncomputable def tCB (r : List V → Hp → VK → Prop) (t : TA) : TE := fun σ H Q => t σ H fun vs H1 => r vs H1 Q
theorem pe_callB (hc : CallR X (.builtin id) r) (hg : Gl X x) (hm : X.mg x = none) (hv : bootBuiltins x = some (.builtin id)) (ha : PA X (e :: es) t) (hn : x ≠ "__name__" := by decide) (hdb : (x == ("__debug__" : Str)) = false := by decide)
    (he : starEach (e :: es) X.env = (false, eval e X.env) :: starEach es X.env := by rfl) (hpl : (backTo pos (starEach es X.env)).any (·.1) = false := by rfl) : PE X (.Call (.Name x p) (e :: es) [] pos) (tCB r t) := by
  intro pins s σ H Q I h
  refine wpAny_Call_Name_kw (ld_blt I hg hm hv ?_ hn hdb)
  exact PyProof.Rows.callWith_builtin1 (thn (ha pos pins s σ H _ I h) fun us s1 ⟨vs, H1, I1, r1, q1⟩ => hc pins s1 σ H1 vs us Q I1 r1 q1) he hpl
theorem pe_callTy (hc : CallR X (.type T) r) (hg : Gl X x) (hm : X.mg x = none) (hv : bootBuiltins x = some (.type T)) (ha : PA X (e :: es) t) (hn : x ≠ "__name__" := by decide) (hdb : (x == ("__debug__" : Str)) = false := by decide)
    (he : starEach (e :: es) X.env = (false, eval e X.env) :: starEach es X.env := by rfl) (hpl : (backTo pos (starEach es X.env)).any (·.1) = false := by rfl) : PE X (.Call (.Name x p) (e :: es) [] pos) (tCB r t) := by
  intro pins s σ H Q I h
  refine wpAny_Call_Name_kw (ld_blt I hg hm hv ?_ hn hdb)
  exact PyProof.Rows.callWith_type1 (thn (ha pos pins s σ H _ I h) fun us s1 ⟨vs, H1, I1, r1, q1⟩ => hc pins s1 σ H1 vs us Q I1 r1 q1) he hpl
end
end L2
namespace HT
open PySem PyProof.Rows
section
open PySem.SeqAt
open PySem.AutoSeq1 (wpAny_loadPart')
open PySem.MeetsSeq PySem.MeetsSeq2 PySem.MeetsSeq3
end
section
variable {prog : Program} {w : World} {A : Around} {E : Value → Shared → Prop} {s : Shared}
theorem cat_tup {t b : Addr} {vs ws : List Value} {Q : Value → Shared → Prop} (ht : IsTup s.heap t vs.toArray) (hb : IsTup s.heap b ws.toArray) (hv : vs ≠ [])
    (h1 : ws = [] → Q (.ref t) s) (h2 : ws ≠ [] → Q (.ref s.heap.objs.size) { s with heap := s.heap.push { cls := .type "tuple", data := .seq (vs ++ ws).toArray } })
    (hsz : vs.length + ws.length ≤ sizeLine) : wpAny (model prog w) A (binaryOp .Add (.ref t) (.ref b)) Q E s := by
  obtain ⟨⟨cls, dd, data, sl⟩, ho, hc, n, hd⟩ := id ht
  obtain ⟨⟨cls2, dd2, data2, sl2⟩, ho2, hc2, n2, hd2⟩ := id hb
  simp only at hc hd hc2 hd2
  subst hc hd hc2 hd2
  have e : vs.toArray ++ ws.toArray = (vs ++ ws).toArray := by simp
  by_cases hw : ws = []
  · exact concat_meets ⟨_, ho, rfl⟩ ⟨_, ho2, rfl⟩ noFill_tuple_add seq_tuple_add PySem.F.slot_tuple_add PySem.F.entry_tuple_add (PySem.F.args_tuple_add_2 _ _)
      (tuple_addW1 t b vs.toArray ws.toArray n n2 dd dd2 sl sl2 (by simpa using hv) (by simp [hw])) ⟨ho, ho2, h1 hw⟩
  · refine concat_meets ⟨_, ho, rfl⟩ ⟨_, ho2, rfl⟩ noFill_tuple_add seq_tuple_add PySem.F.slot_tuple_add PySem.F.entry_tuple_add (PySem.F.args_tuple_add_2 _ _)
      (tuple_addW2 t b vs.toArray ws.toArray n n2 dd dd2 sl sl2 (by simpa using hv) (by simpa using hw) (by rw [List.size_toArray, List.size_toArray]; exact hsz)) ⟨ho, ho2, ?_⟩
    rw [e]
    exact h2 hw
noncomputable def sIx (n d : Nat) : Option Int → Nat
  | none => d
  | some v => if v < 0 then (v + (n : Int)).toNat else min v.toNat n
theorem sIx_le (n d : Nat) (hd : d ≤ n) (o : Option Int) : sIx n d o ≤ n := by
  cases o with
  | none => exact hd
  | some v =>
    show (if v < 0 then (v + (n : Int)).toNat else min v.toNat n) ≤ n
    by_cases hv : v < 0
    · rw [if_pos hv]; omega
    · rw [if_neg hv]; exact Nat.min_le_right _ _
theorem clip_eq (v : Int) (n d : Nat) : (if v < 0 then max (v + (n : Int)) 0 else min v (n : Int)) = ((sIx n d (some v) : Nat) : Int) := by
  show (if v < 0 then max (v + (n : Int)) 0 else min v (n : Int)) = (((if v < 0 then (v + (n : Int)).toNat else min v.toNat n) : Nat) : Int)
  by_cases hv : v < 0
  · simp only [if_pos hv]; omega
  · simp only [if_neg hv]; omega
theorem adjust_gen (lo hi : Option Int) (n : Nat) : Builtin.Slice.sliceAdjust lo hi 1 (n : Int) = (((sIx n 0 lo : Nat) : Int), ((sIx n n hi : Nat) : Int)) := by
  have h1 : ¬ ((1 : Int) < 0) := by omega
  unfold Builtin.Slice.sliceAdjust
  simp only [h1, if_false]
  refine Prod.ext ?_ ?_
  · cases lo with
    | none => rfl
    | some v => exact clip_eq v n 0
  · cases hi with
    | none => rfl
    | some v => exact clip_eq v n n
theorem places_gen (i j : Nat) : Builtin.Slice.slicePlaces (i : Int) (j : Int) 1 = j - i := by
  unfold Builtin.Slice.slicePlaces
  have h1 : (1 : Int) > 0 := by omega
  simp only [h1, if_true, Int.ediv_one]
  split <;> omega
theorem slicePart_ {v : Value} {o : Option Int} {Q : Option Int → Shared → Prop} (p : IsPart v o) (h : Q o s) : wpAny (model prog w) A (Builtin.Slice.slicePartIndex v) Q E s := by
  cases p with
  | none => exact slicePart_none h
  | int i t => exact slicePart_int h
theorem sliceApplied_gen {sl : Addr} {vl vu : Value} {lo hi : Option Int} {n : Nat} {Q : Int × Int × Nat → Shared → Prop} (hs : s.heap.IsSliceOf sl vl vu .none) (pl : IsPart vl lo) (pu : IsPart vu hi)
    (h : Q (((sIx n 0 lo : Nat) : Int), 1, sIx n n hi - sIx n 0 lo) s) : wpAny (model prog w) A (Builtin.Slice.sliceApplied (.ref sl) (pure (n : Int))) Q E s := by
  obtain ⟨os, hos, hcs, hds⟩ := id hs
  unfold Builtin.Slice.sliceApplied Builtin.Slice.sliceFields
  refine wpAny_bind (wpAny_bind (wpAny_field hos hds (x := vl) rfl (wpAny_bind (wpAny_field hos hds (x := vu) rfl (wpAny_bind (wpAny_field hos hds (x := .none) rfl (wpAny_pure ?_)))))))
  refine wpAny_bind (slicePart_none ?_)
  show wpAny _ _ (if ((1 : Int) == 0) = true then _ else _) _ _ s
  rw [if_neg (by decide)]
  refine wpAny_bind (slicePart_ pl (wpAny_bind (slicePart_ pu (wpAny_bind (wpAny_pure ?_)))))
  show wpAny _ _ (match Builtin.Slice.sliceAdjust lo hi 1 (n : Int) with | (lo, hi) => pure (lo, (1 : Int), Builtin.Slice.slicePlaces lo hi 1)) _ _ s
  rw [adjust_gen lo hi n]
  show wpAny _ _ (pure (((sIx n 0 lo : Nat) : Int), (1 : Int), Builtin.Slice.slicePlaces ((sIx n 0 lo : Nat) : Int) ((sIx n n hi : Nat) : Int) 1)) _ _ s
  rw [places_gen]
  exact wpAny_pure h
theorem pick_gen (xs : Array Value) (i k : Nat) : ((List.range k).filterMap fun (m : Nat) => xs[((i : Int) + (m : Int) * 1).toNat]?).toArray = ((xs.toList.drop i).take k).toArray := by
  have e : (fun (m : Nat) => xs[((i : Int) + (m : Int) * 1).toNat]?) = fun m => xs[i + m]? := by
    funext m
    have : ((i : Int) + (m : Int) * 1).toNat = i + m := by omega
    rw [this]
  rw [e]
  have := pick_run xs i k
  rw [List.filterMap_map] at this
  have e2 : ((fun x => xs[x]?) ∘ fun x => i + x) = fun m => xs[i + m]? := rfl
  rw [e2] at this
  rw [this]
theorem getItem_tuple_cut {t sl : Addr} {items : Array Value} {vl vu : Value} {lo hi : Option Int} {Q : Value → Shared → Prop} (ht : IsTup s.heap t items) (hs : s.heap.IsSliceOf sl vl vu .none) (pl : IsPart vl lo) (pu : IsPart vu hi)
    (hw : ¬ (sIx items.size 0 lo = 0 ∧ sIx items.size items.size hi = items.size))
    (h : Q (.ref s.heap.objs.size) { s with heap := s.heap.push { cls := .type "tuple", data := .seq ((items.toList.drop (sIx items.size 0 lo)).take (sIx items.size items.size hi - sIx items.size 0 lo)).toArray } })
    (hsz : items.size ≤ sizeLine) : wpAny (model prog w) A (getItem (.ref t) (.ref sl)) Q E s := by
  have htake : sizeOk (.seq ((items.toList.drop (sIx items.size 0 lo)).take (sIx items.size items.size hi - sIx items.size 0 lo)).toArray) := by
    show ((items.toList.drop (sIx items.size 0 lo)).take (sIx items.size items.size hi - sIx items.size 0 lo)).toArray.size ≤ sizeLine
    rw [List.size_toArray, List.length_take, List.length_drop, Array.length_toList]
    omega
  have hj : sIx items.size items.size hi ≤ items.size := sIx_le _ _ (Nat.le_refl _) hi
  obtain ⟨os, hos, hcs, hds⟩ := id hs
  have hTs : s.TypeIs (.ref sl) "slice" := ⟨os, hos, hcs⟩
  unfold getItem
  try with_reducible refine wpAny_holding ?_
  first | refine wpAny_bind (wpAny_pure ?_) | skip
  refine wpAny_bind (wpAny_sequenceKey ht.typeIs (by decide) ?_)
  refine wpAny_bind (wpAny_callSpecial?_slot (name := Str.ofString "__getitem__") ht.typeIs PyProof.Rows.slot_tuple_getitem
    (wpAny_call_entry PyProof.Rows.slot_tuple_getitem ht.typeIs entry_tuple_getitem ?_ (args_tuple_getitem _ _)))
  show wpAny _ _ (Builtin.Tuple.tupleItemsOf (.ref t) >>= _) _ _ s
  refine wpAny_bind (tupleItemsOf_ ht ?_)
  refine wpAny_bind (wpAny_typeOf hTs ?_)
  rw [if_pos (by decide)]
  refine wpAny_bind (sliceApplied_gen hs pl pu ?_)
  have hno : ¬ ((((sIx items.size 0 lo : Nat) : Int) == 0 && (1 : Int) == 1 && (sIx items.size items.size hi - sIx items.size 0 lo) == items.size) = true) := by
    intro q
    rw [Bool.and_eq_true, Bool.and_eq_true] at q
    have q1 : ((sIx items.size 0 lo : Nat) : Int) = 0 := eq_of_beq q.1.1
    have q2 : sIx items.size items.size hi - sIx items.size 0 lo = items.size := eq_of_beq q.2
    exact hw ⟨by omega, by omega⟩
  show wpAny _ _ (if (((sIx items.size 0 lo : Nat) : Int) == 0 && (1 : Int) == 1 && (sIx items.size items.size hi - sIx items.size 0 lo) == items.size) = true then _ else _) _ _ s
  rw [if_neg hno, pick_gen]
  first
    | exact wpAny_bind (m := Builtin.Tuple.tupleExact _) (wpAny_newObj_type (wpAny_pure ⟨_, rfl, wpAny_pure h⟩) htake)
    | exact wpAny_bind (m := Builtin.Tuple.tupleExact _) (wpAny_newObj_type (wpAny_bind (wpAny_pure (wpAny_pure ⟨_, rfl, wpAny_pure h⟩))) htake)
    | exact wpAny_bind (wpAny_bind (m := Builtin.Tuple.tupleExact _) (wpAny_newObj_type (wpAny_pure (wpAny_pure ⟨_, rfl, wpAny_pure h⟩)) htake))
    | exact wpAny_bind (wpAny_bind (m := Builtin.Tuple.tupleExact _) (wpAny_newObj_type (wpAny_pure ⟨_, rfl, wpAny_pure h⟩) htake))
end
end HT
namespace L2
open PySem PySem.Spec PyProof.Rows
noncomputable abbrev TO := St → Hp → (Option Int → Hp → Prop) → Prop
noncomputable def PO (X : Cx) (e : Option Expr) (t : TO) : Prop :=
  ∀ (pins : List (Addr × Obj)) (s : Shared) (σ : St) (H : Hp) (Q : Option Int → Hp → Prop), Inv X pins σ H s → t σ H Q →
    wpAny (model X.prog X.w) X.A (evalPart e X.env) (fun u s' => ∃ o H', Inv X pins σ H' s' ∧ IsPart u o ∧ Q o H') X.xe s
noncomputable def tNoPart : TO := fun _ H Q => Q none H
noncomputable def tPart (t : TE) : TO := fun σ H Q => t σ H fun x H1 => ∃ i, x = .int i ∧ Q (some i) H1
section
variable {X : Cx} {e : Expr} {te : TE} {lo hi : Option Expr} {tl th : TO} {pos p2 : Pos}
theorem po_none : PO X none tNoPart := by
  intro pins s σ H Q I h
  rw [evalPart_none]
  exact wpAny_pure ⟨none, H, I, .none, h⟩
theorem po_some (h : PE X e te) : PO X (some e) (tPart te) := by
  intro pins s σ H Q I hw
  rw [evalPart_some]
  refine thn (h pins s σ H _ I hw) fun u s1 ⟨x, H1, I1, r1, q1⟩ => ?_
  obtain ⟨i, rfl, q⟩ := q1
  obtain ⟨t, rfl⟩ := r1
  exact ⟨some i, H1, I1, .int i t, q⟩
noncomputable def SlR (X : Cx) (r : V → Option Int → Option Int → Hp → VK → Prop) : Prop :=
  ∀ (pins : List (Addr × Obj)) (s : Shared) (σ : St) (H : Hp) (x : V) (v vl vu : Value) (lo hi : Option Int) (sl : Addr) (Q : VK), Inv X pins σ H s → RelV x v → s.heap.IsSliceOf sl vl vu .none → IsPart vl lo → IsPart vu hi → r x lo hi H Q →
    ∃ T id, typeLookup (.type T) "__getitem__" = pure (some (.builtin id)) ∧ s.TypeIs v T ∧ wpAny (model X.prog X.w) X.A (getItem v (.ref sl)) (EP X pins σ Q) X.xe s
theorem SlR.or {r r' : V → Option Int → Option Int → Hp → VK → Prop} (h : SlR X r) (h' : SlR X r') : SlR X (fun x lo hi H Q => r x lo hi H Q ∨ r' x lo hi H Q) := by
  intro pins s σ H x v vl vu lo hi sl Q I rx hs pl pu q
  rcases q with q | q
  · exact h pins s σ H x v vl vu lo hi sl Q I rx hs pl pu q
  · exact h' pins s σ H x v vl vu lo hi sl Q I rx hs pl pu q
noncomputable def tSl (r : V → Option Int → Option Int → Hp → VK → Prop) (te : TE) (tl th : TO) : TE := fun σ H Q => te σ H fun x H1 => tl σ H1 fun l H2 => th σ H2 fun u H3 => r x l u H3 Q
theorem pe_slice {r : V → Option Int → Option Int → Hp → VK → Prop} (hr : SlR X r) (he : PE X e te) (hl : PO X lo tl) (hu : PO X hi th) : PE X (.Subscript e (.Slice lo hi none p2) pos) (tSl r te tl th) := by
  intro pins s σ H Q I h
  refine Subscript_ (thn (he pins s σ H _ I h) fun v s1 ⟨x, H1, I1, r1, q1⟩ => ?_)
  refine wpAny_Slice (thn (hl pins s1 σ H1 _ I1 q1) fun vl s2 ⟨l, H2, I2, pl, q2⟩ => thn (hu pins s2 σ H2 _ I2 q2) fun vu s3 ⟨u, H3, I3, pu, q3⟩ => ?_)
  rw [evalPart_none]
  refine wpAny_pure ?_
  have I4 : Inv X pins σ H3 { s3 with heap := s3.heap.push { cls := .type "slice", data := .fields #[vl, vu, .none] } } := I3.kept (t' := s3.toks) fun b ob q => Heap.get?_push_of_some _ q
  obtain ⟨T, id, hT, ht, hg⟩ := hr pins { s3 with heap := s3.heap.push { cls := .type "slice", data := .fields #[vl, vu, .none] } } σ H3 x v vl vu l u s3.heap.objs.size Q I4 r1 (Heap.IsSliceOf.new ..) pl pu q3
  show wpAny (model X.prog X.w) X.A (subscriptTail e (.Slice lo hi none p2) v (.ref s3.heap.objs.size)) (EP X pins σ Q) X.xe { s3 with heap := s3.heap.push { cls := .type "slice", data := .fields #[vl, vu, .none] } }
  exact tail_any (ops := [.ref s3.heap.objs.size, v]) ht hT hg (by with_unfolding_all rfl)
noncomputable def cutV (xs : List V) (lo hi : Option Int) : List V := (xs.drop (HT.sIx xs.length 0 lo)).take (HT.sIx xs.length xs.length hi - HT.sIx xs.length 0 lo)
theorem cutV_length (xs : List V) (lo hi : Option Int) : (cutV xs lo hi).length ≤ xs.length := by
  unfold cutV
  rw [List.length_take, List.length_drop]
  omega
noncomputable def rSlT (K : PySem.W.Frag) : V → Option Int → Option Int → Hp → VK → Prop := fun x lo hi H Q => ∃ a xs, x = .ref a ∧ SqT K H a xs ∧
  ¬ (HT.sIx xs.length 0 lo = 0 ∧ HT.sIx xs.length xs.length hi = xs.length) ∧ ∀ p, H p = none → Q (.ref p) (upd H p (.tup (cutV xs lo hi)))
theorem sl_tup : SlR X (rSlT X.K) := by
  intro pins s σ H x v vl vu lo hi sl Q I rx hs pl pu h
  obtain ⟨a, xs, rfl, hx, hw, q⟩ := h
  cases rx
  obtain ⟨its, r, ht, hz⟩ := I.tuple hx
  have hlen : its.toArray.size = xs.length := by rw [List.size_toArray]; exact r.length.symm
  refine ⟨"tuple", _, PyProof.Rows.slot_tuple_getitem.lookup, ht.typeIs, ?_⟩
  refine HT.getItem_tuple_cut ht hs pl pu (by rw [hlen]; exact hw) ?_ (by rw [hlen]; exact hz)
  rw [hlen]
  refine ⟨.ref s.heap.objs.size, _, I.laid (t' := s.toks) (o := .tup (cutV xs lo hi)) (fun b ob q => Heap.get?_push_of_some _ q) (Nat.le_refl _) ?_, rfl, q _ (I.hok.fresh (Nat.le_refl _))⟩
  exact ⟨Nat.le_trans (cutV_length xs lo hi) hz, _, (r.drop (HT.sIx xs.length 0 lo)).take (HT.sIx xs.length xs.length hi - HT.sIx xs.length 0 lo), TupO.new _ _⟩
noncomputable def rCatT (K : PySem.W.Frag) : R2 := fun x y H Q => ∃ a b xs ys, x = .ref a ∧ y = .ref b ∧ SqT K H a xs ∧ SqT K H b ys ∧ xs ≠ [] ∧ xs.length + ys.length ≤ sizeLine ∧
  (ys = [] → Q (.ref a) H) ∧ (ys ≠ [] → ∀ p, H p = none → Q (.ref p) (upd H p (.tup (xs ++ ys))))
theorem Vals.nil_iff {xs : List V} {us : List Value} (r : Vals xs us) : us = [] ↔ xs = [] := by
  cases r with
  | nil => simp
  | cons _ _ => simp
theorem op_catT : OpR X (binaryOp .Add) (rCatT X.K) := by
  intro pins s σ H x y v u Q I rx ry h
  obtain ⟨a, b, xs, ys, rfl, rfl, ha, hb, hx, hz, q1, q2⟩ := h
  cases rx
  cases ry
  obtain ⟨its, r1, p1, _⟩ := I.tuple ha
  obtain ⟨its2, r2, p2, _⟩ := I.tuple hb
  refine HT.cat_tup p1 p2 (fun z => hx (r1.nil_iff.mp z)) (fun z => ⟨.ref a, H, I, rfl, q1 (r2.nil_iff.mp z)⟩) (fun z => ?_) (by rw [← r1.length, ← r2.length]; exact hz)
  refine ⟨.ref s.heap.objs.size, _, I.laid (t' := s.toks) (o := .tup (xs ++ ys)) (fun b ob q => Heap.get?_push_of_some _ q) (Nat.le_refl _) ?_, rfl, q2 (fun w => z (r2.nil_iff.mpr w)) _ (I.hok.fresh (Nat.le_refl _))⟩
  exact ⟨by rw [List.length_append]; exact hz, _, r1.append r2, TupO.new _ _⟩
end
end L2
namespace L2
open PySem PySem.Spec PyProof.Rows
noncomputable def ixN (n : Nat) (i : Int) : Option Nat := if 0 ≤ i then (if i < n then some i.toNat else none) else if -(n : Int) ≤ i then some (i + n).toNat else none
noncomputable def atI {α : Type} (xs : List α) (i : Int) : Option α := (ixN xs.length i).bind fun j => xs[j]?
theorem ixN_seq {n : Nat} {i : Int} {j : Nat} (h : ixN n i = some j) : seqIndex? i n = some j ∧ j < n ∧ -(n : Int) ≤ i ∧ i < n := by
  unfold ixN at h
  by_cases h0 : 0 ≤ i
  · rw [if_pos h0] at h
    by_cases h1 : i < n
    · rw [if_pos h1] at h
      have e : i.toNat = j := Option.some.inj h
      exact ⟨by rw [seqIndex_of h0 h1, e], by omega, by omega, h1⟩
    · rw [if_neg h1] at h; cases h
  · rw [if_neg h0] at h
    by_cases h1 : -(n : Int) ≤ i
    · rw [if_pos h1] at h
      have e : (i + n).toNat = j := Option.some.inj h
      exact ⟨by rw [seqIndex_neg (by omega) h1, e], by omega, h1, by omega⟩
    · rw [if_neg h1] at h; cases h
theorem atI_get {α : Type} {xs : List α} {i : Int} {v : α} (h : atI xs i = some v) : ∃ j, seqIndex? i xs.length = some j ∧ xs[j]? = some v ∧ j < xs.length ∧ -(xs.length : Int) ≤ i ∧ i < xs.length := by
  unfold atI at h
  cases e : ixN xs.length i with
  | none => rw [e] at h; cases h
  | some j =>
    rw [e] at h
    obtain ⟨h1, h2, h3, h4⟩ := ixN_seq e
    exact ⟨j, h1, h, h2, h3, h4⟩
theorem atI_nat {α : Type} {xs : List α} {j : Nat} {v : α} (h : xs[j]? = some v) : atI xs (j : Int) = some v := by
  have hj : j < xs.length := (List.getElem?_eq_some_iff.mp h).1
  have e : ixN xs.length (j : Int) = some j := by
    unfold ixN
    rw [if_pos (by omega), if_pos (by omega)]; simp
  unfold atI; rw [e]; exact h
noncomputable def PlainIx (b : Expr) : Prop := ∀ o i, subscripted b false o i = operate [o, i] (getItem o i)
noncomputable def IxR (X : Cx) (r : R2) : Prop :=
  ∀ (value slice : Expr) (pins : List (Addr × Obj)) (s : Shared) (σ : St) (H : Hp) (x y : V) (v u : Value) (Q : VK), Inv X pins σ H s → RelV x v → RelV y u → r x y H Q →
    subscripted slice false v u = operate [v, u] (getItem v u) → wpAny (model X.prog X.w) X.A (subscriptTail value slice v u) (EP X pins σ Q) X.xe s
noncomputable def MtR (X : Cx) (id : String) (r : V → List V → Hp → VK → Prop) : Prop :=
  ∀ (pins : List (Addr × Obj)) (s : Shared) (σ : St) (H : Hp) (x : V) (xs : List V) (v : Value) (us : List Value) (Q : VK), Inv X pins σ H s → RelV x v → Vals xs us → r x xs H Q →
    wpAny (model X.prog X.w) X.A (call (.builtin id) (v :: us)) (EP X pins σ Q) X.xe s
section
variable {X : Cx} {a b : Expr} {ta tb : TE} {pos : Pos}
theorem IxR.or {r r' : R2} (h : IxR X r) (h' : IxR X r') : IxR X (fun x y H Q => r x y H Q ∨ r' x y H Q) := by
  intro value slice pins s σ H x y v u Q I rx ry q hs
  rcases q with q | q
  · exact h value slice pins s σ H x y v u Q I rx ry q hs
  · exact h' value slice pins s σ H x y v u Q I rx ry q hs
theorem pe_ix {r : R2} (hr : IxR X r) (ha : PE X a ta) (hb : PE X b tb) (hs : PlainIx b) : PE X (.Subscript a b pos) (tOp r ta tb) := by
  intro pins s σ H Q I h
  exact Subscript_ (binT ha hb I h fun v u s2 x y H2 I2 rx ry q => hr a b pins s2 σ H2 x y v u Q I2 rx ry q (hs _ _))
noncomputable def rIxL (K : PySem.W.Frag) : R2 := fun x y H Q => ∃ p xs i v, x = .ref p ∧ y = .int i ∧ SqL K H p xs ∧ atI xs i = some v ∧ Q v H
noncomputable def rIxT (K : PySem.W.Frag) : R2 := fun x y H Q => ∃ p xs i v, x = .ref p ∧ y = .int i ∧ SqT K H p xs ∧ atI xs i = some v ∧ Q v H
noncomputable def rIxS : R2 := fun x y H Q => ∃ z i c, x = .str z ∧ y = .int i ∧ z.length ≤ sizeLine ∧ atI z.cps.toList i = some c ∧ Q (.str ⟨#[c]⟩) H
theorem ix_list : IxR X (rIxL X.K) := by
  intro value slice pins s σ H x y v u Q I rx ry h hs
  obtain ⟨p, xs, i, z, rfl, rfl, hq, he, q⟩ := h
  cases rx
  obtain ⟨t, rfl⟩ := ry
  obtain ⟨its, r, pl, hz⟩ := I.list hq
  obtain ⟨j, h1, h2, h3, h4, h5⟩ := atI_get he
  obtain ⟨w, ew, rw'⟩ := r.get h2
  have hl := r.length
  have hn := line63
  have fin : EP X pins σ Q w s := ⟨z, H, I, rw', q⟩
  by_cases h0 : 0 ≤ i
  · have hj : i.toNat = j := by
      rw [seqIndex_of h0 h5] at h1
      exact Option.some.inj h1
    exact item_listR pl.isList h0 (by omega) (by rw [hj]; simpa using ew) fin hs
  · have hj : (i + (its.toArray.size : Int)).toNat = j := by
      rw [seqIndex_neg (by omega) h4] at h1
      rw [List.size_toArray, ← hl]
      exact Option.some.inj h1
    exact subscriptTail_builtinR (x := w) pl.isList.typeIs slot_list_getitem.lookup
      (wpAny_getItem_list_neg (Q := fun r s' => r = w ∧ EP X pins σ Q r s') pl.isList (by omega) (by rw [List.size_toArray] <;> omega) (by omega) (by rw [hj]; simpa using ew) ⟨rfl, fin⟩) hs
theorem ix_tup : IxR X (rIxT X.K) := by
  intro value slice pins s σ H x y v u Q I rx ry h hs
  obtain ⟨p, xs, i, z, rfl, rfl, hq, he, q⟩ := h
  cases rx
  obtain ⟨t, rfl⟩ := ry
  obtain ⟨its, r, pl, hz⟩ := I.tuple hq
  obtain ⟨j, h1, h2, h3, h4, h5⟩ := atI_get he
  obtain ⟨w, ew, rw'⟩ := r.get h2
  have hl := r.length
  have hn := line63
  have fin : EP X pins σ Q w s := ⟨z, H, I, rw', q⟩
  exact subscriptTail_builtinR (x := w) pl.typeIs slot_tuple_getitem.lookup
    (getItem_tuple (j := j) (Q := fun r s' => r = w ∧ EP X pins σ Q r s') pl (by omega) (by omega) (by rw [List.size_toArray, ← hl]; exact h1) (by simpa using ew) ⟨rfl, fin⟩) hs
theorem ix_str : IxR X rIxS := by
  intro value slice pins s σ H x y v u Q I rx ry h hs
  obtain ⟨z, i, c, rfl, rfl, hz, he, q⟩ := h
  obtain ⟨t, rfl⟩ := rx
  obtain ⟨t', rfl⟩ := ry
  obtain ⟨j, h1, h2, h3, h4, h5⟩ := atI_get he
  have hl : z.cps.toList.length = z.length := by simp [Str.length]
  rw [hl] at h1 h4 h5
  have hn := line63
  exact tail_any (typeIs_str s z t) slot_str_getitem.lookup (getItem_str (c := c) (by
    have e1 : decide (i < -(2 ^ 63 : Int)) = false := decide_eq_false (by omega)
    have e2 : decide (i ≥ 2 ^ 63) = false := decide_eq_false (by omega)
    rw [e1, e2, Bool.or_false]) (by rw [h1]; simpa using h2) ⟨.str ⟨#[c]⟩, H, I.tok _, ⟨_, rfl⟩, q⟩) hs
noncomputable def rIx (K : PySem.W.Frag) : R2 := fun x y H Q => rIxL K x y H Q ∨ rIxT K x y H Q ∨ rIxS x y H Q
theorem ix_seq : IxR X (rIx X.K) := ix_list.or (ix_tup.or ix_str)
theorem mapSeq_set (its : List Value) (n j : Nat) (u : Value) : Obj.mapSeq (·.setIfInBounds j u) { cls := .type "list", data := .seq its.toArray n } = { cls := .type "list", data := .seq (its.set j u).toArray n } := by
  simp [Obj.mapSeq]
theorem Inv.lst {pins : List (Addr × Obj)} {σ : St} {H : Hp} {s : Shared} {p : Addr} {xs : List V} (I : Inv X pins σ H s) (h : H p = some (.lst xs)) :
    ∃ (its : List Value) (n : Nat), Vals xs its ∧ s.heap.get? p = some { cls := .type "list", data := .seq its.toArray n } ∧ xs.length ≤ sizeLine := by
  obtain ⟨z, its, n, r, e⟩ := I.hok p _ h
  exact ⟨its, n, r, e, z⟩
theorem Inv.lstUpd {pins : List (Addr × Obj)} {σ : St} {H : Hp} {s : Shared} {p : Addr} {xs ys : List V} {its its' : List Value} {n n' : Nat} {f : Obj → Obj} (I : Inv X pins σ H s) (h : H p = some (.lst xs))
    (ho : s.heap.get? p = some { cls := .type "list", data := .seq its.toArray n }) (hf : f { cls := .type "list", data := .seq its.toArray n } = { cls := .type "list", data := .seq its'.toArray n' }) (r : Vals ys its') (hz : ys.length ≤ sizeLine) (t : Nat) :
    Inv X pins σ (upd H p (.lst ys)) { s with heap := s.heap.update p f, toks := t } := by
  have e : (s.heap.update p f).get? p = some { cls := .type "list", data := .seq its'.toArray n' } := by
    rw [Heap.get?_update_self f ho (by rw [hf] <;> rfl), hf]
  refine I.write (x := p) (e := p) (by rw [h]; trivial) (.inl rfl) (fun b u hb q => (Heap.get?_update_other _ _ (Ne.symm hb)).trans q) ⟨_, e⟩ ?_
  exact ⟨hz, its', n', r, e⟩
noncomputable def rSetL : V → V → V → Hp → (Hp → Prop) → Prop := fun o i v H Q => ∃ p xs k j, o = .ref p ∧ i = .int k ∧ H p = some (.lst xs) ∧ ixN xs.length k = some j ∧ Q (upd H p (.lst (xs.set j v)))
theorem set_list : PSet X rSetL := by
  intro pins s σ H o i v ov iv u Q I ro ri rv h
  obtain ⟨p, xs, k, j, rfl, rfl, hp, hj, q⟩ := h
  cases ro
  obtain ⟨t, rfl⟩ := ri
  obtain ⟨its, n, r, ho, hz⟩ := I.lst hp
  obtain ⟨h1, h2, h3, h4⟩ := ixN_seq hj
  have hl := r.length
  have hn := line63
  have I' : Inv X pins σ (upd H p (.lst (xs.set j v))) { s with heap := s.heap.update p (Obj.mapSeq (·.setIfInBounds j u)) } :=
    I.lstUpd hp ho (mapSeq_set its n j u) (r.set rv j) (by rw [List.length_set]; exact hz) s.toks
  by_cases h0 : 0 ≤ k
  · have hk : k.toNat = j := by
      rw [seqIndex_of h0 h4] at h1
      exact Option.some.inj h1
    exact PySem.W.ki_setAt ho h0 (by omega) (by rw [List.size_toArray, ← hl]; exact h4) (by rw [hk]; exact ⟨_, I', q⟩)
  · have hk : (k + (its.toArray.size : Int)).toNat = j := by
      rw [seqIndex_neg (by omega) h3] at h1
      rw [List.size_toArray, ← hl]
      exact Option.some.inj h1
    exact PySem.W.ki_setBack ho (by omega) (by rw [List.size_toArray, ← hl]; exact h3) (by omega) (by rw [hk]; exact ⟨_, I', q⟩)
theorem slice_bounds (lo hi : Option Int) (n : Nat) : (sliceBounds lo hi none n).1 = ((HT.sIx n 0 lo : Nat) : Int) ∧ (sliceBounds lo hi none n).2.1 = ((HT.sIx n n hi : Nat) : Int) ∧ (sliceBounds lo hi none n).2.2 = 1 := by
  refine ⟨?_, ?_, rfl⟩
  · cases lo with
    | none => simp [sliceBounds, HT.sIx]
    | some i =>
      simp only [sliceBounds, HT.sIx, Option.getD_none, show (1 : Int) > 0 by decide, if_true]
      by_cases h : i < 0
      · simp only [h, if_true] <;> omega
      · simp only [h, if_false] <;> omega
  · cases hi with
    | none => simp [sliceBounds, HT.sIx]
    | some i =>
      simp only [sliceBounds, HT.sIx, Option.getD_none, show (1 : Int) > 0 by decide, if_true]
      by_cases h : i < 0
      · simp only [h, if_true] <;> omega
      · simp only [h, if_false] <;> omega
theorem slicePick_cut (its : List Value) (lo hi : Option Int) : slicePick its.toArray lo hi none = ((its.drop (HT.sIx its.length 0 lo)).take (HT.sIx its.length its.length hi - HT.sIx its.length 0 lo)).toArray := by
  obtain ⟨h1, h2, h3⟩ := slice_bounds lo hi its.toArray.size
  unfold slicePick
  rw [h1, h2, h3]
  simp only [sliceRange_one, pick_run, List.size_toArray] <;> rfl
noncomputable def rSlL (K : PySem.W.Frag) : V → Option Int → Option Int → Hp → VK → Prop := fun x lo hi H Q => ∃ a xs, x = .ref a ∧ SqL K H a xs ∧ ∀ p, H p = none → Q (.ref p) (upd H p (.lst (cutV xs lo hi)))
theorem sl_list : SlR X (rSlL X.K) := by
  intro pins s σ H x v vl vu lo hi sl Q I rx hs pl pu h
  obtain ⟨a, xs, rfl, hx, q⟩ := h
  cases rx
  obtain ⟨its, r, ht, hz⟩ := I.list hx
  have hlen := r.length
  refine ⟨"list", _, slot_list_getitem.lookup, ht.isList.typeIs, ?_⟩
  refine wpAny_getItem_list_slice ht.isList hs pl pu .none (by simp) ?_ (by rw [List.size_toArray] <;> omega)
  rw [slicePick_cut, ← hlen]
  refine ⟨.ref s.heap.objs.size, _, I.laid (t' := s.toks) (o := .lst (cutV xs lo hi)) (fun b ob q => Heap.get?_push_of_some _ q) (Nat.le_refl _) ?_, rfl, q _ (I.hok.fresh (Nat.le_refl _))⟩
  exact ⟨Nat.le_trans (cutV_length xs lo hi) hz, _, 0, (r.drop (HT.sIx xs.length 0 lo)).take (HT.sIx xs.length xs.length hi - HT.sIx xs.length 0 lo), Heap.get?_push_size _ rfl⟩
theorem op_notIn_str : OpR X (compareOp .NotIn) (fun x y H Q => ∃ i j, x = .str i ∧ y = .str j ∧ Q (.bl (!(!(Builtin.Str.occurrences j i 0 j.length 1).isEmpty))) H) := by
  intro pins s σ H x y v u Q I rx ry h
  obtain ⟨i, j, rfl, rfl, q⟩ := h
  obtain ⟨t, rfl⟩ := rx
  obtain ⟨t', rfl⟩ := ry
  exact notIn_str ⟨.bl _, H, I, rfl, q⟩
theorem call_tuple_of : CallR X (.type "tuple") (fun xs H Q => ∃ p ys, xs = [.ref p] ∧ ((SqL X.K H p ys ∧ ∀ l, H l = none → Q (.ref l) (upd H l (.tup ys))) ∨ (SqT X.K H p ys ∧ Q (.ref p) H))) := by
  intro pins s σ H xs us Q I r h
  obtain ⟨p, ys, rfl, h⟩ := h
  obtain ⟨u, rfl, rx⟩ := vals1 r
  cases rx
  rcases h with ⟨hq, q⟩ | ⟨hq, q⟩
  · obtain ⟨its, r', pl, hz⟩ := I.list hq
    have hlen := r'.length
    refine call_tuple_list pl.isList (fun h' kp => ?_) (by simp only [List.size_toArray] <;> omega)
    have I1 : Inv X pins σ H { s with heap := h' } := I.kept (t' := s.toks) kp
    have I2 : Inv X pins σ (upd H h'.objs.size (.tup ys)) { s with heap := h'.push { cls := .type "tuple", data := .seq its.toArray } } :=
      I1.laid (t' := s.toks) (fun b o e => Heap.get?_push_of_some _ e) (Nat.le_refl _) (show ObjOk X.prog X.w _ _ _ (.tup ys) from ⟨hz, its, r', TupO.new _ _⟩)
    exact ⟨.ref h'.objs.size, _, I2, rfl, q _ (I1.hok.fresh (Nat.le_refl _))⟩
  · obtain ⟨its, r', pl, hz⟩ := I.tuple hq
    exact call_tuple_same pl ⟨.ref p, H, I, rfl, q⟩
noncomputable def tyV (K : PySem.W.Frag) (T : String) (x : V) (H : Hp) : Prop := match x with
  | .str _ => T = "str"
  | .int _ => T = "int"
  | .ref p => (T = "list" ∧ ∃ xs, SqL K H p xs) ∨ (T = "tuple" ∧ ∃ o, K.lookup p = some o ∧ o.cls = .type "tuple" ∧ o.dict = none) ∨
      (T = "dict" ∧ ((∃ kvs, H p = some (.dK kvs)) ∨ ∃ kvs, H p = some (.dT kvs))) ∨ (T = "set" ∧ ∃ S n, H p = some (.set S n))
  | _ => False
theorem tyV_is {pins : List (Addr × Obj)} {σ : St} {H : Hp} {s : Shared} {T : String} {x : V} {v : Value} (I : Inv X pins σ H s) (r : RelV x v) (ty : tyV X.K T x H) :
    s.TypeIs v T ∧ ∀ a, v = .ref a → ∃ ob, s.heap.get? a = some ob ∧ ob.dict = none := by
  cases x with
  | str z =>
    obtain ⟨t, rfl⟩ := r
    cases (show T = "str" from ty)
    exact ⟨typeIs_str s z t, fun _ e => nomatch e⟩
  | int i =>
    obtain ⟨t, rfl⟩ := r
    cases (show T = "int" from ty)
    exact ⟨typeIs_int s i t, fun _ e => nomatch e⟩
  | ref p =>
    cases r
    rcases ty with ⟨rfl, xs, hq⟩ | ⟨rfl, o, hk, hc, hd⟩ | ⟨rfl, hk⟩ | ⟨rfl, S, n, hk⟩
    · obtain ⟨its, _, pl, _⟩ := I.list hq
      refine ⟨pl.isList.typeIs, fun a e => ?_⟩
      cases e
      obtain ⟨o, n, e, c, hd, _⟩ := pl
      exact ⟨o, e, hd⟩
    · refine ⟨⟨o, I.kIn p o hk, hc⟩, fun a e => ?_⟩
      cases e
      exact ⟨o, I.kIn _ o hk, hd⟩
    · have z : ∃ o, s.heap.get? p = some o ∧ o.ExactDict := by
        rcases hk with ⟨kvs, hk⟩ | ⟨kvs, hk⟩
        · obtain ⟨_, _, _, _, o, _, _, e, ex, _⟩ := I.hok p _ hk
          exact ⟨o, e, ex⟩
        · obtain ⟨_, _, _, _, o, _, _, e, ex, _⟩ := I.hok p _ hk
          exact ⟨o, e, ex⟩
      obtain ⟨o, e, ex⟩ := z
      refine ⟨⟨o, e, ex.1⟩, fun a e2 => ?_⟩
      cases e2
      exact ⟨o, e, ex.2.1⟩
    · obtain ⟨o, _, _, _, e, ex, _⟩ := I.hok p _ hk
      refine ⟨⟨o, e, ex.1⟩, fun a e2 => ?_⟩
      cases e2
      exact ⟨o, e, ex.2.1⟩
  | _ => exact False.elim ty
noncomputable def tBM0 (K : PySem.W.Frag) (T : String) (r : V → List V → Hp → VK → Prop) (to : TE) : TE := fun σ H Q => to σ H fun x H1 => tyV K T x H1 ∧ r x [] H1 Q
noncomputable def tBM (K : PySem.W.Frag) (T : String) (r : V → List V → Hp → VK → Prop) (to : TE) (t : TA) : TE := fun σ H Q => to σ H fun x H1 => tyV K T x H1 ∧ t σ H1 fun xs H2 => r x xs H2 Q
variable {o e : Expr} {es : List Expr} {to : TE} {t : TA} {name : Str} {apos cpos : Pos} {T id : String} {r : V → List V → Hp → VK → Prop}
theorem pe_bm0 (pa : PlainAttrs T) (slot : Slot T name id) (hty : typeOf (.builtin id) = pure (.type "method_descriptor")) (hm : MtR X id r) (ho : PE X o to)
    (hbase : attributeBase o name X.env (eval o X.env) = eval o X.env := by rfl) (hline : (apos.endLine == cpos.line) = true := by rfl) : PE X (.Call (.Attribute o name apos) [] [] cpos) (tBM0 X.K T r to) := by
  intro pins s σ H Q I h
  refine wpAny_Call_method0_late hbase hline (thn (ho pins s σ H _ I h) fun v s1 ⟨x, H1, I1, r1, ty, q1⟩ => ?_)
  obtain ⟨h1, h2⟩ := tyV_is I1 r1 ty
  exact ⟨T, id, pa, slot, hty, h1, h2, Calls.callWith_builtin rfl (PySem.evalArgs_none (hm pins s1 σ H1 x [] v [] Q I1 r1 .nil q1))⟩
theorem pe_bm (pa : PlainAttrs T) (slot : Slot T name id) (hty : typeOf (.builtin id) = pure (.type "method_descriptor")) (hm : MtR X id r) (ho : PE X o to) (ha : PA X (e :: es) t)
    (hbase : attributeBase o name X.env (eval o X.env) = eval o X.env := by rfl)
    (hfew : ((backTo cpos (starEach (e :: es) X.env)).all (fun x => !x.1) && (backToKw cpos (keywordEach [] X.env)).all (fun x => x.1.isSome)
      && decide ((e :: es).length + ([] : List Keyword).length + (if ([] : List Keyword).isEmpty then 0 else 1) < 30)) = true := by rfl)
    (hline : (apos.endLine == cpos.line) = true := by rfl) (hs : starEach (e :: es) X.env = (false, eval e X.env) :: starEach es X.env := by rfl) (hplain : (backTo cpos (starEach es X.env)).any (·.1) = false := by rfl) :
    PE X (.Call (.Attribute o name apos) (e :: es) [] cpos) (tBM X.K T r to t) := by
  intro pins s σ H Q I h
  refine wpAny_Call_method_late hbase hfew hline rfl (thn (ho pins s σ H _ I h) fun v s1 ⟨x, H1, I1, r1, ty, q1⟩ => ?_)
  obtain ⟨h1, h2⟩ := tyV_is I1 r1 ty
  refine ⟨T, id, pa, slot, hty, h1, h2, ?_⟩
  have hA := ha cpos pins s1 σ H1 _ I1 q1
  rw [hs] at hA ⊢
  refine Calls.callWith_builtin (by show (false || (backTo cpos (starEach es X.env)).any (·.1)) = false; rw [hplain] <;> rfl) (Calls.evalArgs_plain ?_)
  exact thn hA fun us s2 ⟨vs, H2, I2, r2, q2⟩ => hm pins s2 σ H2 x vs v us Q I2 r1 r2 q2
end
end L2
namespace L2
open PySem PySem.Spec PyProof.Rows
noncomputable def MtM (X : Cx) (id : String) (r : V → List V → Hp → VK → Prop) : Prop :=
  ∀ (pins : List (Addr × Obj)) (s : Shared) (σ : St) (H : Hp) (x : V) (xs : List V) (v : Value) (us : List Value) (Q : VK), Inv X pins σ H s → RelV x v → Vals xs us → r x xs H Q →
    wpAny (model X.prog X.w) X.A (call (.builtin id) (v :: us)) (EP X pins σ Q) X.xe s
theorem Vals.one : ∀ {x : V} {us : List Value}, Vals [x] us → ∃ u, us = [u] ∧ RelV x u
  | _, _, .cons r .nil => ⟨_, rfl, r⟩
theorem Vals.zero : ∀ {us : List Value}, Vals [] us → us = []
  | _, .nil => rfl
theorem Vals.dropLast {xs : List V} {us : List Value} (h : Vals xs us) : Vals xs.dropLast us.dropLast := by
  induction h with
  | nil => exact .nil
  | cons r t ih =>
    cases t with
    | nil => exact .nil
    | cons q t' => exact .cons r ih
theorem Vals.rep {xs : List V} {us : List Value} (h : Vals xs us) : ∀ k : Nat, Vals (List.replicate k xs).flatten (List.replicate k us).flatten
  | 0 => .nil
  | k + 1 => by
    rw [List.replicate_succ, List.replicate_succ, List.flatten_cons, List.flatten_cons]
    exact Vals.append h (Vals.rep h k)
theorem erase_last {α : Type} (l : List α) : l.eraseIdx (l.length - 1) = l.dropLast := by
  induction l with
  | nil => rfl
  | cons a r ih =>
    cases r with
    | nil => rfl
    | cons b r =>
      have e : (a :: b :: r).length - 1 = ((b :: r).length - 1) + 1 := by
        have h1 : (a :: b :: r).length = r.length + 2 := rfl
        have h2 : (b :: r).length = r.length + 1 := rfl
        omega
      rw [e, List.eraseIdx_cons_succ, ih]
      all_goals rfl
theorem foldl_rep (its : List Value) : ∀ (k : Nat) (acc : List Value),
    List.foldl (fun x1 x2 => x1 ++ x2) acc.toArray (List.replicate k its.toArray) = (acc ++ (List.replicate k its).flatten).toArray
  | 0, acc => by simp
  | k + 1, acc => by
    have e : acc.toArray ++ its.toArray = (acc ++ its).toArray := by simp
    have e2 : (acc ++ its) ++ (List.replicate k its).flatten = acc ++ (List.replicate (k + 1) its).flatten := by
      rw [List.replicate_succ, List.flatten_cons, List.append_assoc]
    rw [← e2, ← foldl_rep its k (acc ++ its), ← e, List.replicate_succ, List.foldl_cons]
section
variable {X : Cx} {pins : List (Addr × Obj)} {σ : St} {H : Hp} {s : Shared} {l b : Addr} {xs ys zs : List V}
theorem Inv.lset {its its' : List Value} {n : Nat} {f : Array Value → Array Value} {t' : Nat} (I : Inv X pins σ H s) (hH : H l = some (.lst xs))
    (e : s.heap.get? l = some { cls := .type "list", data := .seq its.toArray n }) (hf : f its.toArray = its'.toArray) (hv : Vals ys its') (hz : ys.length ≤ sizeLine) :
    Inv X pins σ (upd H l (.lst ys)) { s with heap := s.heap.update l (Obj.mapSeq f), toks := t' } := by
  have q := PySem.IsL.update e f
  rw [hf] at q
  refine I.write (x := l) (e := l) (by rw [hH]; exact trivial) (.inl rfl) (fun b' u hb hu => (Heap.get?_update_other s.heap (Obj.mapSeq f) (Ne.symm hb)).trans hu) ⟨_, q⟩ ?_
  exact ⟨hz, its', _, hv, q⟩
theorem Inv.lnew {its : List Value} {t' : Nat} (I : Inv X pins σ H s) (hv : Vals ys its) (hz : ys.length ≤ sizeLine) :
    Inv X pins σ (upd H s.heap.objs.size (.lst ys)) { s with heap := s.heap.push { cls := .type "list", data := .seq its.toArray }, toks := t' } :=
  I.laid (fun _ _ q => Heap.get?_push_of_some _ q) (Nat.le_refl _) ⟨hz, its, 0, hv, Heap.get?_push_size _ rfl⟩
theorem Inv.fresh (I : Inv X pins σ H s) : H s.heap.objs.size = none := I.hok.fresh (Nat.le_refl _)
theorem Inv.lstM (I : Inv X pins σ H s) (hH : H l = some (.lst xs)) : xs.length ≤ sizeLine ∧ ∃ (its : List Value) (n : Nat), Vals xs its ∧ xs.length = its.length ∧ s.heap.get? l = some { cls := .type "list", data := .seq its.toArray n } := by
  obtain ⟨z, its, n, r, e⟩ := I.hok l _ hH
  exact ⟨z, its, n, r, r.length, e⟩
theorem notLongL {n : Nat} (h : n ≤ sizeLine) : Builtin.List.listTooLong n = false := by
  unfold Builtin.List.listTooLong
  exact decide_eq_false (by omega)
end
section
variable {X : Cx}
noncomputable def rAppend : V → List V → Hp → VK → Prop := fun x vs H Q => ∃ l xs y, x = .ref l ∧ vs = [y] ∧ H l = some (.lst xs) ∧ xs.length < sizeLine ∧ Q .non (upd H l (.lst (xs ++ [y])))
theorem mt_append : MtM X "list.append" rAppend := by
  intro pins s σ H x vs v us Q I rx rv h
  obtain ⟨l, xs, y, rfl, rfl, hH, hz, q⟩ := h
  cases rx
  obtain ⟨u, rfl, ru⟩ := rv.one
  obtain ⟨z, its, n, r, hl, e⟩ := I.lstM hH
  refine call_meets F.slot_list_append ⟨_, e, rfl⟩ F.entry_list_append (F.args_list_append_2 _ _) (PySem.list_append l its.toArray n u (by rw [List.size_toArray]; omega)) ⟨e, ?_⟩
  refine ⟨.non, _, I.lset (its' := its ++ [u]) hH e (by simp) (r.append (.cons ru .nil)) ?_, rfl, q⟩
  rw [List.length_append, List.length_singleton]
  omega
noncomputable def rExtend : V → List V → Hp → VK → Prop := fun x vs H Q => ∃ l b xs zs, x = .ref l ∧ vs = [.ref b] ∧ H l = some (.lst xs) ∧ H b = some (.lst zs) ∧ xs.length + zs.length ≤ sizeLine ∧ Q .non (upd H l (.lst (xs ++ zs)))
theorem mt_extend : MtM X "list.extend" rExtend := by
  intro pins s σ H x vs v us Q I rx rv h
  obtain ⟨l, b, xs, zs, rfl, rfl, hH, hB, hz, q⟩ := h
  cases rx
  obtain ⟨u, rfl, ru⟩ := rv.one
  cases ru
  obtain ⟨z, its, n, r, hl, e⟩ := I.lstM hH
  obtain ⟨z2, its2, n2, r2, hl2, e2⟩ := I.lstM hB
  have hsz : its.toArray.size + its2.toArray.size ≤ sizeLine := by rw [List.size_toArray, List.size_toArray]; omega
  have hlong : ¬ (!its.toArray.isEmpty && Builtin.List.listTooLong (its.toArray.size + its2.toArray.size)) = true := by
    rw [notLongL hsz, Bool.and_false]
    exact Bool.false_ne_true
  refine call_meets F.slot_list_extend ⟨_, e, rfl⟩ F.entry_list_extend (F.args_list_extend_2 _ _)
    (AutoSeq1.list_extend_list_list_0 l its.toArray n b its2.toArray n2 hlong (by rw [List.size_toArray]; omega) (by omega)) ⟨e, e2, ?_⟩
  refine ⟨.non, _, I.lset (its' := its ++ its2) hH e (by simp) (r.append r2) ?_, rfl, q⟩
  rw [List.length_append]
  omega
noncomputable def rPop : V → List V → Hp → VK → Prop := fun x vs H Q => ∃ l xs y, x = .ref l ∧ vs = [] ∧ H l = some (.lst xs) ∧ xs[xs.length - 1]? = some y ∧ Q y (upd H l (.lst xs.dropLast))
theorem mt_pop : MtM X "list.pop" rPop := by
  intro pins s σ H x vs v us Q I rx rv h
  obtain ⟨l, xs, y, rfl, rfl, hH, hy, q⟩ := h
  cases rx
  have hus := rv.zero
  subst hus
  obtain ⟨z, its, n, r, hl, e⟩ := I.lstM hH
  obtain ⟨u, hu, ru⟩ := r.get hy
  have hy' : its.toArray[its.toArray.size - 1]? = some u := by
    show its.toArray[its.length - 1]? = some u
    rw [← Array.getElem?_toList, ← hl]
    exact hu
  refine call_meets F.slot_list_pop ⟨_, e, rfl⟩ F.entry_list_pop (F.args_list_pop_1 _) (MeetsSeq.list_pop_last l its.toArray n u hy' (by rw [List.size_toArray]; omega)) ⟨e, ?_⟩
  refine ⟨y, _, I.lset (its' := its.dropLast) hH e ?_ r.dropLast ?_, ru, q⟩
  · show its.toArray.eraseIdxIfInBounds (its.toArray.size - 1) = its.dropLast.toArray
    rw [List.size_toArray, List.eraseIdxIfInBounds_toArray, erase_last]
  · rw [List.length_dropLast]
    omega
noncomputable def rCat : R2 := fun x y H Q => ∃ l b xs zs, x = .ref l ∧ y = .ref b ∧ H l = some (.lst xs) ∧ H b = some (.lst zs) ∧ xs.length + zs.length ≤ sizeLine ∧ ∀ p, H p = none → Q (.ref p) (upd H p (.lst (xs ++ zs)))
theorem op_cat : OpR X (binaryOp .Add) rCat := by
  intro pins s σ H x y v u Q I rx ry h
  obtain ⟨l, b, xs, zs, rfl, rfl, hH, hB, hz, q⟩ := h
  cases rx
  cases ry
  obtain ⟨z, its, n, r, hl, e⟩ := I.lstM hH
  obtain ⟨z2, its2, n2, r2, hl2, e2⟩ := I.lstM hB
  refine PySem.P.add_list e e2 ?_ (by rw [List.size_toArray, List.size_toArray]; omega)
  have ea : its.toArray ++ its2.toArray = (its ++ its2).toArray := by simp
  rw [ea]
  exact ⟨.ref _, _, I.lnew (t' := s.toks) (r.append r2) (by rw [List.length_append]; omega), rfl, q _ I.fresh⟩
noncomputable def rRep : R2 := fun x y H Q => ∃ l k xs, x = .ref l ∧ y = .int k ∧ H l = some (.lst xs) ∧ -(2 ^ 63) ≤ k ∧ k < 2 ^ 63 ∧ xs.length * k.toNat ≤ sizeLine ∧
  ∀ p, H p = none → Q (.ref p) (upd H p (.lst (List.replicate k.toNat xs).flatten))
theorem len_rep {α : Type} (xs : List α) (k : Nat) : (List.replicate k xs).flatten.length = k * xs.length := by
  induction k with
  | zero => simp
  | succ k ih => rw [List.replicate_succ, List.flatten_cons, List.length_append, ih, Nat.succ_mul, Nat.add_comm]
theorem op_rep : OpR X (binaryOp .Mult) rRep := by
  intro pins s σ H x y v u Q I rx ry h
  obtain ⟨l, k, xs, rfl, rfl, hH, h1, h2, hz, q⟩ := h
  cases rx
  obtain ⟨t, rfl⟩ := ry
  obtain ⟨z, its, n, r, hl, e⟩ := I.lstM hH
  have hlen : its.toArray.size * k.toNat ≤ sizeLine := by rw [List.size_toArray, ← hl]; exact hz
  have hcap : ¬ its.toArray.size * k.toNat > (2 ^ 63 - 1) / 8 := by
    have : (sizeLine : Nat) ≤ (2 ^ 63 - 1) / 8 := by decide
    omega
  have hfit : ¬ (!Builtin.List.listFitsIndex k) = true := by
    rw [fitsIndex_both h1 h2]
    exact Bool.false_ne_true
  have hlong : ¬ Builtin.List.listTooLong (its.toArray.size * k.toNat) = true := by
    rw [notLongL hlen]
    exact Bool.false_ne_true
  have hnew : List.foldl (fun x1 x2 => x1 ++ x2) #[] (List.replicate (if its.toArray.isEmpty = true then 0 else k.toNat) its.toArray) = (List.replicate k.toNat its).flatten.toArray := by
    have f0 : ∀ m : Nat, List.foldl (fun x1 x2 => x1 ++ x2) #[] (List.replicate m its.toArray) = (List.replicate m its).flatten.toArray := fun m => by
      have := foldl_rep its m []
      rw [List.nil_append] at this
      exact this
    rw [f0]
    cases its with
    | nil => simp
    | cons a r' => rw [if_neg (by simp)]
  refine wpAny_binaryOp_repeat_ref (T := "list") (U := "int") (by decide) ⟨_, e, rfl⟩ (fun s' => typeIs_int s' k t) noFill_list_mul F.fills_int_mul F.slot_int_rmul repeat_list F.slot_int_index.lookup
    (call_meets F.slot_int_rmul (typeIs_int s k t) F.entry_int_rmul (F.args_int_rmul_2 _ _) (int___rmul___int_list k t l its.toArray n)
      ⟨e, rfl, ⟨_, e, rfl⟩, call_meets F.slot_list_mul ⟨_, e, rfl⟩ F.entry_list_mul (F.args_list_mul_2 _ _) (AutoListH.list___mul___list_int_3 l its.toArray n k t hfit hcap hlong) ⟨e, ?_⟩⟩)
  rw [hnew]
  exact ⟨.ref _, _, I.lnew (t' := s.toks) (r.rep k.toNat) (by rw [len_rep, Nat.mul_comm]; exact hz), rfl, q _ I.fresh⟩
end
section
variable {prog : Program} {w : World} {A : Around} {E : Value → Shared → Prop} {s : Shared}
end
section
variable {X : Cx}
end
end L2
namespace Att
open PySem PySem.W PySem.Calls PyProof.Rows
theorem ints_of_wellAll {P : Params} {h : Heap} : ∀ (ns : List Int) (vs : List Value), WellAll P h vs (ns.map WData.int) → IntsAre vs ns := by
  intro ns
  induction ns with
  | nil =>
    intro vs w
    rw [List.map_nil] at w
    cases w
    exact .nil
  | cons n ns ih =>
    intro vs w
    rw [List.map_cons] at w
    cases w with
    | cons a b =>
      cases a
      exact .cons _ _ (ih _ b)
theorem script_of {l : OpenLaw} {n : Nat} (hn : l.most = some n) {P : Params} {h : Heap} {args : List WData} {vals : List Value}
    (hpre : l.row.toRowW.claim.pre args = true) (hwl : WellAll P h vals args) :
    ∃ a vs ns, vals = [Value.ref a] ∧ args = [WData.list (ns.map WData.int)] ∧ h.get? a = some { cls := .type "list", data := .seq vs.toArray } ∧ IntsAre vs ns ∧ ns.length ≤ n := by
  have hsh : WShape.hasAll [] args [.list .int] = true := (pre_splitW hpre).1
  have hc : l.pre.holds [] { args := args } = true := (pre_splitW hpre).2
  obtain ⟨d, r, rfl, h1, h2⟩ := hasAllW_cons hsh
  obtain rfl := hasAllW_nil h2
  obtain ⟨xs, rfl, h3⟩ := hasW_list h1
  obtain ⟨ns, rfl⟩ := items_int h3
  have hlen : ns.length ≤ n := by
    unfold OpenLaw.pre at hc
    have h4 : (WTm.not (.lt (.lit (.int (n : Int))) (.len (.arg 0)))).holds [] { args := [.list (ns.map .int)] } = true := by
      have h4 := (holds_andW hc).1
      rw [hn] at h4
      exact h4
    have h5 := condW_of h4 (w_not (w_lt w_lit (w_len_list (w_arg rfl))))
    rw [List.length_map] at h5
    refine Nat.le_of_not_lt fun q => ?_
    have q' : (n : Int) < ((ns.length : Nat) : Int) := by omega
    first
      | (rw [decide_eq_true q'] at h5; exact absurd h5 (by decide))
      | (simp at h5; omega)
  cases hwl with
  | cons w1 w2 =>
    cases w2
    cases w1 with
    | list ho hall => exact ⟨_, _, ns, rfl, rfl, ho, ints_of_wellAll ns _ hall, hlen⟩
theorem post_true (l : OpenLaw) (args : List WData) : l.row.toRowW.claim.post args (.bool true) args = true :=
  postW_of (r := l.row.toRowW) (X := (true == true))
    (show WShape.has [] (.bool true) .bool = true by first | rfl | decide | simp [WShape.has, WShape.arms, WShape.armsAll])
    (show (WTm.eq .res (.lit (.bool true))).value [] { args := args, res := some (.bool true), after := args } = some (.bool (true == true)) from w_eq_bool (w_res rfl) w_lit) rfl
theorem attach_call {l : OpenLaw} {n : Nat} {q : Program} {loose : List Str} {XP : (Str → Option Value) → Heap → Prop} {YP : World → Heap → Prop} {d : DefRec}
    (hn : l.most = some n) (hdf : d.params.defaults = [])
    (call : ∀ (w : World) (s₀ s₁ : Shared) (mg mb : Str → Option Value) (fa : Addr) (o : Obj) (pm cd doc : Value) (a : Addr) (vs : List Value) (ns : List Int),
      Ground q loose [] XP w s₀ mg mb s₁.heap → YP w s₁.heap →
      s₁.heap.get? fa = some o → o.data = .func (docDef d.name d.params d.body d.scope pm cd doc) → s₁.heap.CodeRec cd d.name → mg d.name = some (.ref fa) →
      s₁.heap.get? a = some { cls := .type "list", data := .seq vs.toArray } → IntsAre vs ns → ns.length ≤ n → s₁.gens = #[] →
      codeAny (model l.prog w) callerA (.call (.ref fa) ⟨[.ref a], []⟩) (fun r s' => r = .ok (.ret (.bool true)) ∧ OldK s₁.heap s'.heap ∧ s'.os = s₁.os ∧ AllBare s'.gens) s₁) :
    WalkO q loose XP YP l.row.toRowW d [] (fun f vs => PySem.call f vs) := by
  intro w s₀ s₁ mg mb G Y fa o pm cd doc dV kV ho hd hcd hD hmg hg args vals as hpre hlay hrd hwl hlo
  obtain rfl : dV = .none := Dflts.none hD hdf
  obtain rfl : kV = .none := Dflts.noKw hD
  obtain ⟨a, vs, ns, rfl, rfl, hobj, hints, hlen⟩ := script_of hn hpre hwl
  refine enter_call (codeAny_mono (call w s₀ s₁ mg mb fa o pm cd doc a vs ns G Y ho (fd_plain hd) hcd hmg hobj hints hlen hg) fun r s' hq => ?_)
  obtain ⟨rfl, h2, h3, h4⟩ := hq
  exact ⟨.inl ⟨.bool true, .bool true, [], rfl, fun _ => rfl, .bool true, post_true l _, fun _ => ⟨List.Pairwise.nil, fun _ hm => (nomatch hm)⟩⟩, h2, h3, h4⟩
section
variable {prog : Program} {w : World} {A : Around} {E : Value → Shared → Prop} {s : Shared} {K : Frag}
end
end Att
namespace L2
open PySem PySem.Spec PyProof.Rows
theorem vals_ints : ∀ {vs : List Value} {ns : List Int}, IntsAre vs ns → Vals (ns.map V.int) vs
  | _, _, .nil => .nil
  | _, _, .cons n t h => .cons ⟨t, rfl⟩ (vals_ints h)
noncomputable def Only (H : Hp) : Prop := ∀ b, H b = none ∨ ∃ o xs, H b = some (.frz o (.lst xs))
theorem law_call {P : Program} {w : World} {K : PySem.W.Frag} {mg mb : Str → Option Value} {CX : CXT} {k : Nat} {fa a : Addr} {fd : FuncData} {x : Str} {sp : Sp} {s₁ : Shared} {vs : List Value} {ns : List Int}
    (KX : K.In s₁.heap) (hns : s₁.heap.Ns mainGlobals mg) (hb : s₁.heap.Ns builtinsNs mb) (hbb : ∀ x : Str, x ≠ "__name__" → mb x = bootBuiltins x) (hlim : s₁.heap.NoLimit) (hg : s₁.gens = #[])
    (ha : s₁.heap.get? a = some { cls := .type "list", data := .seq vs.toArray }) (hi : IntsAre vs ns) (hl : ns.length ≤ sizeLine) (hr : Room k callerA)
    (F : ∀ base : Heap, K.In base → base.Ns mainGlobals mg → FnOk P w K mg base CX k fa fd [x] sp) (hbind : ∀ (s : Shared) (u : Value), BindsTo s fd ⟨[u], []⟩ [(x, u)])
    (hsp : ∀ H : Hp, Only H → SqL K H a (ns.map V.int) → sp [.ref a] H (fun v _ => v = .bl true) fun _ _ _ => False)
    (hCX : ∀ H e s', CX [] H s₁ (fun _ _ _ => False) e s' → False) :
    codeAny (model P w) callerA (.call (.ref fa) ⟨[.ref a], []⟩) (fun r s' => r = .ok (.ret (.bool true)) ∧ OldK s₁.heap s'.heap ∧ s'.os = s₁.os ∧ AllBare s'.gens) s₁ := by
  have rv := vals_ints hi
  have lenV := hi.length
  have core : ∀ H : Hp, Only H → SqL K H a (ns.map V.int) → HOk P w H s₁.heap → (∀ b, H b ≠ none → b = a) → (H a ≠ none → K.lookup a = none) →
      codeAny (model P w) callerA (.call (.ref fa) ⟨[.ref a], []⟩) (fun r s' => r = .ok (.ret (.bool true)) ∧ OldK s₁.heap s'.heap ∧ s'.os = s₁.os ∧ AllBare s'.gens) s₁ := by
    intro H hO hS hok hA hK
    have base_of : ∀ {b : Addr} {o : Obj}, s₁.heap.get? b = some o → H b = none → (hidT s₁.heap H).get? b = some o := fun e n => hidT_get e n
    have noA : ∀ {b : Addr} {o : Obj} {es : Array DictEntry} {ep : Nat}, s₁.heap.get? b = some o → o.data = .dict es ep → H b = none := fun {b o es ep} e d => by
      cases q : H b with
      | none => rfl
      | some u =>
        have e' : b = a := hA b (by rw [q]; simp)
        subst e'
        rw [ha] at e; cases e
        have d' : Data.seq vs.toArray _ = Data.dict es ep := d
        cases d'
    have nsK : ∀ {b : Addr} {m : Str → Option Value}, s₁.heap.Ns b m → (hidT s₁.heap H).Ns b m := fun {b m} ⟨o, es, ep, e, d, r⟩ => ⟨o, es, ep, base_of e (noA e d), d, r⟩
    have hKb : K.In (hidT s₁.heap H) := fun b o e => base_of (KX b o e) (by
      cases q : H b with
      | none => rfl
      | some u =>
        have e' : b = a := hA b (by rw [q]; simp)
        subst e'
        rw [hK (by rw [q]; simp)] at e; cases e)
    have hM : Mod K mg (hidT s₁.heap H) := ⟨hKb, nsK hns, ⟨mb, nsK hb, hbb⟩, let ⟨mc, h1, h2⟩ := hlim; ⟨mc, nsK h1, h2⟩⟩
    have e0 : Env0 P w K mg (hidT s₁.heap H) callerA [] s₁ H := ⟨rfl, hM, fun b o e => of_hidT e, Nat.le_of_eq (hidT_size _ _), trivial, fun b hb => absurd (show b ∈ ([] : List Addr) from hb) (by simp), hok, .of_eq hg⟩
    refine codeAny_mono ((F _ hKb (nsK hns)).run callerA [] s₁ H ⟨[.ref a], []⟩ [.ref a] [.ref a] _ _ hr e0 (hbind s₁ (.ref a)) (.cons rfl .nil) (hsp H hO hS)) fun r s' h => ?_
    cases r with
    | error e => exact (hCX H e s' h).elim
    | ok fl =>
      cases fl with
      | next => exact False.elim h
      | brk => exact False.elim h
      | cont => exact False.elim h
      | ret u =>
        obtain ⟨v, H', os, bare, un, hok', r', q⟩ := h
        have q' : v = .bl true := q
        subst q'
        obtain rfl : u = Value.bool true := r'
        refine ⟨rfl, OldK.of_keep fun b o e => ?_, os, bare⟩
        cases q : H b with
        | none => exact un.keep b o e q (by intro z; exact absurd (show b ∈ ([] : List Addr) from z) (by simp)) (by simp)
        | some u =>
          rcases hO b with z | ⟨ob, xs, z⟩
          · rw [q] at z; cases z
          · have z2 := un.frzs b ob _ z
            obtain ⟨e1, _⟩ := hok b _ z
            obtain ⟨e2, _⟩ := hok' b _ z2
            rw [e] at e1; cases e1
            exact e2
  cases hk : K.lookup a with
  | some o =>
    have e := KX a o hk
    rw [ha] at e
    cases e
    refine core (fun _ => none) (fun _ => .inl rfl) (.inr ⟨_, vs.toArray, _, hk, rfl, rfl, rfl, by rw [List.size_toArray, lenV]; exact hl, by simpa using rv⟩) (fun b u z => by have z' : (none : Option HO) = some u := z; cases z') (fun b z => absurd rfl z) fun z => absurd rfl z
  | none =>
    refine core (fun b => if b = a then some (.frz { cls := .type "list", data := .seq vs.toArray } (.lst (ns.map V.int))) else none) (fun b => ?_) (.inl (.inr ⟨{ cls := .type "list", data := .seq vs.toArray }, if_pos rfl⟩)) (fun b u z => ?_) (fun b z => ?_) fun _ => hk
    · by_cases hb : b = a
      · exact .inr ⟨_, _, if_pos hb⟩
      · exact .inl (if_neg hb)
    · by_cases hb : b = a
      · have z' := (if_pos hb).symm.trans z
        cases z'
        subst hb
        exact ⟨ha, by rw [List.length_map]; exact hl, vs, _, rv, ha⟩
      · have z' := (if_neg hb).symm.trans z
        cases z'
    · by_cases hb : b = a
      · exact hb
      · exact absurd (if_neg hb) z
end L2
namespace L2
open PySem PySem.Spec PyProof.Rows
theorem walk_of {l : PySem.W.OpenLaw} {n k : Nat} {q : Program} {loose : List Str} {XP : (Str → Option Value) → Heap → Prop} {YP : World → Heap → Prop} {d : DefRec} {K : Params → PySem.W.Frag} {CX : World → CXT} {sp : World → Sp} {x : Str}
    (hn : l.most = some n) (hn2 : n ≤ sizeLine) (hdf : d.params.defaults = []) (hr : Room k callerA)
    (hY : ∀ (w : World) (h : Heap), YP w h → (K w.params).In h)
    (F : ∀ (w : World) (mg : Str → Option Value) (fa : Addr) (h : Heap), (K w.params).In h → h.Ns mainGlobals mg → mg d.name = some (.ref fa) →
      ∃ fd : FuncData, (∀ (s : Shared) (u : Value), BindsTo s fd ⟨[u], []⟩ [(x, u)]) ∧
        ∀ base : Heap, (K w.params).In base → base.Ns mainGlobals mg → FnOk l.prog w (K w.params) mg base (CX w) k fa fd [x] (sp w))
    (hsp : ∀ (w : World) (H : Hp) (a : Addr) (ns : List Int), ns.length ≤ n → Only H → SqL (K w.params) H a (ns.map V.int) → sp w [.ref a] H (fun v _ => v = .bl true) fun _ _ _ => False)
    (hCX : ∀ (w : World) (H : Hp) (s : Shared) (e : Value) (s' : Shared), CX w [] H s (fun _ _ _ => False) e s' → False) :
    PySem.W.WalkO q loose XP YP l.row.toRowW d [] (fun f vs => PySem.call f vs) := by
  refine Att.attach_call hn hdf fun w s₀ s₁ mg mb fa o pm cd doc a vs ns G Y ho hd hcd hmg hobj hints hlen hg => ?_
  have KX := hY w _ Y
  obtain ⟨fd, hb, hF⟩ := F w mg fa _ KX G.T.g hmg
  exact law_call KX G.T.g G.T.b G.T.builtins G.T.nolimit hg hobj hints (Nat.le_trans hlen hn2) hr hF hb (fun H hO hS => hsp w H a ns hlen hO hS) fun H e s' => hCX w H s₁ e s'
end L2
namespace L2
open PySem PySem.Spec PyProof.Rows
noncomputable def defArgs (s : Stmt) : Arguments := match s with
  | .FunctionDef _ a _ _ _ _ _ _ _ _ => a
  | _ => { posonlyargs := [], args := [], vararg := none, kwonlyargs := [], kw_defaults := [], kwarg := none, defaults := [] }
noncomputable def defBody (s : Stmt) : List Stmt := match s with
  | .FunctionDef _ _ b _ _ _ _ _ _ _ => b
  | _ => []
noncomputable def defScope (s : Stmt) : Scope := match s with
  | .FunctionDef _ _ _ _ _ _ sc _ _ _ => sc
  | _ => { kind := .function, names := [], isGenerator := false, isCoroutine := false }
noncomputable abbrev CX0 : CXT := fun _ _ _ _ _ _ => False
noncomputable abbrev E0 : XK := fun _ _ _ => False
theorem pass0 {X : Cx} : Passes CX0 X E0 := fun _ _ _ _ _ _ _ h => h.elim
structure Fun (K : PySem.W.Frag) (x qual : Str) (st : Stmt) (f : Addr) (fd : FuncData) : Prop where
  ex : ∃ (oc : Value) (od : Option Addr) (kV doc pm : Value) (an : Option Addr) (cdv ct : Value) (osl : Array (Option Value)),
    fd = PySem.W.fnOf x qual (defArgs st) (defBody st) (defScope st) .none kV doc pm an cdv ct ∧ K.lookup f = some ⟨oc, od, .func fd, osl⟩ ∧ PySem.W.codeIn K cdv qual = true
  kp : PySem.W.keepIn K (.ref f) = true
section
variable {P : Program} {w : World} {K : PySem.W.Frag} {mg : Str → Option Value} {base : Heap}
theorem Fun.ok {x qual : Str} {st : Stmt} {f : Addr} {fd : FuncData} {N ps : List Str} {k : Nat} {sp : Sp} (F : Fun K x qual st f fd) (S : FnScope N ps (defScope st)) (len : ∀ vs H Q E, sp vs H Q E → vs.length = ps.length)
    (hbody : ∀ (cdv : Value) (A : Around) (outer : List Env) (s : Shared) (H : Hp) (vs : List V) (Q : VK) (E : XK), Room k (A.deeper (envOfC qual (defScope st) s.heap.objs.size f cdv)) → sp vs H Q E →
      ∃ t, PSs (cxOf CX0 P w K mg base N qual (defScope st) f cdv A outer s H E).nox (defBody st) t ∧ t { nx := fun _ H' => Q .non H', rt := Q } (start N vs) H) : FnOk P w K mg base CX0 (k + 1) f fd ps sp := by
  obtain ⟨oc, od, kV, doc, pm, an, cdv, ct, osl, rfl, lk, hcd⟩ := F.ex
  refine fn_of lk hcd S len fun A outer s H vs Q E hr hsp => ?_
  obtain ⟨t, h, q⟩ := hbody cdv A outer s H vs Q E hr hsp
  exact ⟨t, h.nox, q⟩
theorem Fun.binds {x qual : Str} {st : Stmt} {f : Addr} {fd : FuncData} {ps : List Str} (F : Fun K x qual st f fd)
    (h : ∀ (kV doc pm : Value) (an : Option Addr) (cdv ct : Value) (us : List Value), us.length = ps.length → bindArgs (PySem.W.fnOf x qual (defArgs st) (defBody st) (defScope st) .none kV doc pm an cdv ct) ⟨us, []⟩ = pure (ps.zip us)) : Binds K fd ps [] := by
  obtain ⟨oc, od, kV, doc, pm, an, cdv, ct, osl, rfl, lk, hcd⟩ := F.ex
  exact .all (h kV doc pm an cdv ct)
theorem fun_mk {x qual : Str} {st : Stmt} {f : Addr} {oc : Value} {od an : Option Addr} {osl : Array (Option Value)} {kV doc pm cdv ct : Value} (l : K.lookup f = some ⟨oc, od, .func (PySem.W.fnOf x qual (defArgs st) (defBody st) (defScope st) .none kV doc pm an cdv ct), osl⟩)
    (c : PySem.W.codeIn K cdv qual = true) (k : PySem.W.keepIn K (.ref f) = true) : Fun K x qual st f (PySem.W.fnOf x qual (defArgs st) (defBody st) (defScope st) .none kV doc pm an cdv ct) := ⟨⟨oc, od, kV, doc, pm, an, cdv, ct, osl, rfl, l, c⟩, k⟩
end
theorem small1000 {n : Nat} (h : n ≤ 1000) : n < sizeLine := Nat.lt_of_le_of_lt h (by decide)
section
variable {X : Cx}
theorem pv (i : Nat) {x : Str} {pos : Pos} (hN : X.N[i]? = some x := by rfl) (hv : Vis X.env.scope x := by first | exact Or.inl rfl | exact Or.inr (Or.inl rfl) | exact Or.inr (Or.inr rfl)) (hd : (x == ("__debug__" : Str)) = false := by decide)
    (hcd : (x == ("__classdict__" : Str)) = false := by decide) : PE X (.Name x pos) (tVar i) := pe_var hN hv hd hcd
end
end L2
end
section
namespace L3
inductive D where
  | non | bl (b : Bool) | int (i : Int) | str (x : List Nat) | tup (ds : List D) | ref (a : Nat) | mdic (ks vs : List D) | mlst (ds : List D) | exc (c : Nat)
inductive MO where
  | lst (ds : List D)
  | dic (ks vs : List D)
  /-- an instance of the class of this name: its attributes -/
  | ins (c : List Nat) (fs : List (List Nat × D))
  /-- a dict that is filled: its keys are tuples of texts and of such tuples -/
  | tab (ks vs : List D)
noncomputable abbrev Store := Nat → Option MO
noncomputable def put (st : Store) (a : Nat) (o : MO) : Store := fun b => if b = a then some o else st b
inductive BOp where
  | add | sub | mul | fdiv | mod | pow
inductive COp where
  | eq | ne | lt | le | gt | ge | is_ | isnot | in_ | notin
inductive Ty where
  | int | str | bool | list | tuple | dict | err (c : Nat)
inductive BI where
  | len | all | any | max | min | sum | abs | list | tuple | int | str | bool | lenset | sorted
inductive MT where
  | append | extend | pop | index | count | join | split | get | insert | remove | startswith
inductive IK where
  | range | zip | enum | rev | items | keys | values
inductive Ex where
  | c (d : D) | v (i : Nat)
  | tup (es : List Ex) | lst (es : List Ex)
  | bin (op : BOp) (a b : Ex) | neg (a : Ex)
  | cmp (op : COp) (a b : Ex) | chain (op op' : COp) (a b c : Ex)
  | and_ (a b : Ex) | or_ (a b : Ex) | not_ (a : Ex) | ite (c a b : Ex)
  | call (f : Nat) (es : List Ex) | callx (f : Nat) (es : List Ex) | mclx (c m : List Nat) (f : Nat) (o : Ex) (es : List Ex) | bi (f : BI) (es : List Ex) | isi (a : Ex) (ts : List Ty)
  | meth (m : MT) (o : Ex) (es : List Ex)
  | ix (a b : Ex) | sl (a : Ex) (lo hi : List Ex)
  /-- f(g(..)), g what is walked on the spot -/
  | bit (f : BI) (k : IK) (es : List Ex)
  | comp (n : Nat) (caps : List Nat) (tg : List Nat) (one : Bool) (k : Option IK) (its : List Ex) (ifs : List Ex) (elt : Ex)
  | dic (ks vs : List Ex)
  /-- o.f of an instance of the class c; C(..), f its __init__; o.m(..), f the def -/
  | fld (c f : List Nat) (o : Ex) | mk (c : List Nat) (f : Nat) (es : List Ex) | mcl (c m : List Nat) (f : Nat) (o : Ex) (es : List Ex)
  /-- {}; k in d; d[k] -/
  | dnew | d1 (k v : Ex) | din (neg : Bool) (k d : Ex) | dix (d k : Ex)
inductive Tg where
  | nm (i : Nat) | tp (is : List Nat) | ix (o i : Ex) | fl (c f : List Nat) (o : Ex) | dk (o i : Ex)
inductive Sx where
  | ex (e : Ex) | asg (t : Tg) (e : Ex) | aug (i : Nat) (op : BOp) (e : Ex)
  | iff (c : Ex) (a b : List Sx) | whl (c : Ex) (b : List Sx) | forr (t : Tg) (k : Option IK) (its : List Ex) (b : List Sx)
  | ret (e : Ex) | brk | cnt | pass | rais (c : Nat) (es : List Ex)
  | tryy (b : List Sx) (c : Nat) (n : Option Nat) (h : List Sx)
structure Fn where
  np : Nat
  nl : Nat
  body : List Sx
structure Prog where
  fns : Nat → Option Fn
  /-- class c is class c' or stands under it -/
  sub : Nat → Nat → Bool
noncomputable abbrev St := List (Option D)
noncomputable abbrev VK := D → Store → Prop
noncomputable abbrev XK := Nat → Store → Prop
noncomputable abbrev CallT := Nat → List D → Store → VK → XK → Prop
noncomputable abbrev LINE : Nat := 16777216
noncomputable abbrev DEEP : Nat := 80
def W (x : String) : List Nat := x.toList.map Char.toNat
noncomputable def Ext (st st' : Store) : Prop := ∀ a o, st a = some o → st' a = some o
noncomputable def getV (σ : St) (i : Nat) (Q : D → Prop) : Prop := match σ[i]? with
  | some (some d) => Q d
  | _ => False
mutual
noncomputable def eqD : D → D → Bool
  | .non, .non => true
  | .bl a, .bl b => a == b
  | .bl a, .int b => (if a then 1 else 0) == b
  | .int a, .bl b => a == (if b then 1 else 0)
  | .int a, .int b => a == b
  | .str a, .str b => a == b
  | .tup as, .tup bs => eqDs as bs
  | _, _ => false
noncomputable def eqDs : List D → List D → Bool
  | [], [] => true
  | a :: as, b :: bs => eqD a b && eqDs as bs
  | _, _ => false
end
mutual
noncomputable def pureD : D → Bool
  | .non => true
  | .bl _ => true
  | .int _ => true
  | .str _ => true
  | .tup ds => pureDs ds
  | _ => false
noncomputable def pureDs : List D → Bool
  | [] => true
  | d :: ds => pureD d && pureDs ds
end
mutual
noncomputable def depD : D → Nat
  | .tup ds => depDs ds + 1
  | _ => 0
noncomputable def depDs : List D → Nat
  | [] => 0
  | d :: ds => max (depD d) (depDs ds)
end
noncomputable def plain (d : D) : Prop := pureD d = true ∧ depD d ≤ DEEP
noncomputable def plains (ds : List D) : Prop := pureDs ds = true ∧ depDs ds ≤ DEEP
noncomputable def okL : Option MO → Bool
  | some (.lst ds) => pureDs ds && decide (depDs ds ≤ DEEP)
  | _ => false
mutual
noncomputable def pureS (st : Store) : D → Bool
  | .non => true
  | .bl _ => true
  | .int _ => true
  | .str _ => true
  | .tup ds => pureSs st ds
  | .ref a => okL (st a)
  | .mlst ds => pureDs ds && decide (depDs ds ≤ DEEP)
  | _ => false
noncomputable def pureSs (st : Store) : List D → Bool
  | [] => true
  | d :: ds => pureS st d && pureSs st ds
end
noncomputable def eqO : Option MO → Option MO → Bool
  | some (.lst xs), some (.lst ys) => eqDs xs ys
  | _, _ => false
mutual
noncomputable def eqS (st : Store) : D → D → Bool
  | .non, .non => true
  | .bl a, .bl b => a == b
  | .bl a, .int b => (if a then 1 else 0) == b
  | .int a, .bl b => a == (if b then 1 else 0)
  | .int a, .int b => a == b
  | .str a, .str b => a == b
  | .tup as, .tup bs => eqSs st as bs
  | .ref a, .ref b => eqO (st a) (st b)
  | .mlst xs, .ref b => eqO (some (.lst xs)) (st b)
  | .ref a, .mlst ys => eqO (st a) (some (.lst ys))
  | .mlst xs, .mlst ys => eqDs xs ys
  | _, _ => false
noncomputable def eqSs (st : Store) : List D → List D → Bool
  | [], [] => true
  | a :: as, b :: bs => eqS st a b && eqSs st as bs
  | _, _ => false
end
noncomputable def plainS (st : Store) (d : D) : Prop := pureS st d = true ∧ depD d ≤ DEEP
noncomputable def plainSs (st : Store) (ds : List D) : Prop := pureSs st ds = true ∧ depDs ds ≤ DEEP
noncomputable def eqW (x y : D) (st : Store) (P : Bool → Prop) : Prop := plainS st x ∧ plainS st y ∧ P (eqS st x y)
noncomputable def occurs (x : List Nat) : List Nat → Bool
  | [] => x.isEmpty
  | c :: r => x.isPrefixOf (c :: r) || occurs x r
noncomputable def lstAt (st : Store) (a : Nat) (K : List D → Prop) : Prop := match st a with
  | some (.lst ds) => K ds
  | _ => False
noncomputable def optK {α : Type} (o : Option α) (K : α → Prop) : Prop := match o with
  | some x => K x
  | none => False
noncomputable def seqAt (st : Store) (a : Nat) (K : List D → Prop) (M : List D → List D → Prop) : Prop := match st a with
  | some (.lst ds) => K ds
  | some (.dic ks vs) => M ks vs
  | _ => False
noncomputable def inW : D → D → Store → (Bool → Prop) → Prop
  | x, .tup ds, st, P => plainS st x ∧ plainSs st ds ∧ P (ds.any fun d => eqS st d x)
  | x, .ref a, st, P => seqAt st a (fun ds => plainS st x ∧ plainSs st ds ∧ P (ds.any fun d => eqS st d x)) fun ks _ => plain x ∧ plains ks ∧ P (ks.any fun d => eqD d x)
  | .str w, .mdic ks _, _, P => P (ks.any fun d => eqD d (.str w))
  | x, .mlst ds, st, P => plainS st x ∧ plainSs st ds ∧ P (ds.any fun d => eqS st d x)
  | .str w, .str z, _, P => P (occurs w z)
  | _, _, _, _ => False
noncomputable def ordW (f : Int → Int → Bool) : D → D → (Bool → Prop) → Prop
  | .int i, .int j, P => P (f i j)
  | _, _, _ => False
noncomputable def isNon : D → Bool
  | .non => true
  | _ => false
noncomputable def isBl (b : Bool) : D → Bool
  | .bl c => c == b
  | _ => false
noncomputable def isW : D → D → (Bool → Prop) → Prop
  | x, .non, P => P (isNon x)
  | x, .bl b, P => P (isBl b x)
  | _, _, _ => False
noncomputable def cmpW : COp → D → D → Store → (Bool → Prop) → Prop
  | .eq, x, y, st, P => eqW x y st P
  | .ne, x, y, st, P => eqW x y st fun b => P (!b)
  | .lt, x, y, _, P => ordW (fun i j => decide (i < j)) x y P
  | .le, x, y, _, P => ordW (fun i j => decide (i ≤ j)) x y P
  | .gt, x, y, _, P => ordW (fun i j => decide (j < i)) x y P
  | .ge, x, y, _, P => ordW (fun i j => decide (j ≤ i)) x y P
  | .is_, x, y, _, P => isW x y P
  | .isnot, x, y, _, P => isW x y fun b => P (!b)
  | .in_, x, y, st, P => inW x y st P
  | .notin, x, y, st, P => inW x y st fun b => P (!b)
noncomputable def smallI (i : Int) : Prop := -18446744073709551616 < i ∧ i < 18446744073709551616
noncomputable def newL (ds : List D) (st : Store) (Q : VK) : Prop := ds.length ≤ LINE ∧ ∀ p, st p = none → Q (.ref p) (put st p (.lst ds))
noncomputable def binW : BOp → D → D → Store → VK → Prop
  | .add, .int i, .int j, st, Q => Q (.int (i + j)) st
  | .add, .str a, .str b, st, Q => a.length + b.length ≤ LINE ∧ Q (.str (a ++ b)) st
  | .add, .tup a, .tup b, st, Q => a.length + b.length ≤ LINE ∧ Q (.tup (a ++ b)) st
  | .add, .ref a, .ref b, st, Q => lstAt st a fun xs => lstAt st b fun ys => newL (xs ++ ys) st Q
  | .sub, .int i, .int j, st, Q => Q (.int (i - j)) st
  | .mul, .int i, .int j, st, Q => (smallI i ∨ smallI j) ∧ Q (.int (i * j)) st
  | .mul, .ref a, .int k, st, Q => lstAt st a fun xs => xs.length * k.toNat ≤ LINE ∧ (-9223372036854775808 ≤ k ∧ k < 9223372036854775808) ∧ newL (List.replicate k.toNat xs).flatten st Q
  | .mul, .tup xs, .int k, st, Q => (0 < xs.length ∧ xs.length ≤ 1000 ∧ 1 ≤ k ∧ k < 1000) ∧ Q (.tup (List.replicate k.toNat xs).flatten) st
  | .mul, .str xs, .int k, st, Q => (xs.length ≤ 1000 ∧ 0 ≤ k ∧ k < 1000) ∧ Q (.str (List.replicate k.toNat xs).flatten) st
  | .fdiv, .int i, .int j, st, Q => (0 < j ∧ j < 1073741824) ∧ Q (.int (i / j)) st
  | .mod, .int i, .int j, st, Q => 0 < j ∧ Q (.int (i % j)) st
  | .pow, .int i, .int j, st, Q => (0 ≤ j ∧ j ≤ 1000000 ∧ i.natAbs < 18446744073709551616) ∧ Q (.int (i ^ j.toNat)) st
  | _, _, _, _, _ => False
noncomputable def negW : D → Store → VK → Prop
  | .int i, st, Q => Q (.int (-i)) st
  | _, _, _ => False
noncomputable def fldG : List (List Nat × D) → List Nat → Option D
  | [], _ => none
  | (g, d) :: r, f => if g = f then some d else fldG r f
noncomputable def fldP (f : List Nat) (d : D) : List (List Nat × D) → List (List Nat × D)
  | [] => [(f, d)]
  | (g, x) :: r => if g = f then (g, d) :: r else (g, x) :: fldP f d r
noncomputable def insAt (st : Store) (a : Nat) (K : List Nat → List (List Nat × D) → Prop) : Prop := match st a with
  | some (.ins c fs) => K c fs
  | _ => False
noncomputable def tabAt (st : Store) (a : Nat) (K : List D → List D → Prop) : Prop := match st a with
  | some (.tab ks vs) => K ks vs
  | _ => False
noncomputable def fldW (c f : List Nat) : D → Store → VK → Prop
  | .ref a, st, Q => insAt st a fun c' fs => c' = c ∧ optK (fldG fs f) fun d => Q d st
  | _, _, _ => False
noncomputable def sfW (c f : List Nat) (v : D) : D → Store → (Store → Prop) → Prop
  | .ref a, st, Q => insAt st a fun c' fs => c' = c ∧ fs.length < 900 ∧ Q (put st a (.ins c (fldP f v fs)))
  | _, _, _ => False
mutual
noncomputable def txtD : D → Bool
  | .str _ => true
  | .bl _ => true
  | .tup ds => txtDs ds
  | _ => false
noncomputable def txtDs : List D → Bool
  | [] => true
  | d :: ds => txtD d && txtDs ds
end
noncomputable def keyed : D → Prop
  | .tup ds => txtDs ds = true ∧ depDs ds ≤ 7
  | _ => False
noncomputable def lookK : List D → List D → D → Option D
  | k :: ks, v :: vs, x => if eqD k x then some v else lookK ks vs x
  | _, _, _ => none
noncomputable def dinW (x : D) : D → Store → (Bool → Prop) → Prop
  | .ref a, st, P => tabAt st a fun ks _ => keyed x ∧ P (ks.any fun k => eqD k x)
  | _, _, _ => False
noncomputable def dixW (x : D) : D → Store → VK → Prop
  | .ref a, st, Q => tabAt st a fun ks vs => keyed x ∧ optK (lookK ks vs x) fun d => Q d st
  | _, _, _ => False
noncomputable def sdW (x v : D) : D → Store → (Store → Prop) → Prop
  | .ref a, st, Q => tabAt st a fun ks vs => keyed x ∧ (ks.any fun k => eqD k x) = false ∧ ks.length < 10000 ∧ Q (put st a (.tab (ks ++ [x]) (vs ++ [v])))
  | _, _, _ => False
noncomputable def metW (c m : List Nat) : D → Store → Prop
  | .ref a, st => insAt st a fun c' fs => c' = c ∧ fldG fs m = none
  | _, _ => False
noncomputable def truW : D → Store → (Bool → Prop) → Prop
  | .non, _, P => P false
  | .bl b, _, P => P b
  | .int i, _, P => P (i != 0)
  | .str x, _, P => x.length ≤ LINE ∧ P (!x.isEmpty)
  | .tup ds, _, P => P (!ds.isEmpty)
  | .ref a, st, P => seqAt st a (fun ds => P (!ds.isEmpty)) fun ks _ => P (!ks.isEmpty)
  | .mlst ds, _, P => P (!ds.isEmpty)
  | _, _, _ => False
noncomputable def isOne (sub : Nat → Nat → Bool) : D → Store → Ty → (Bool → Prop) → Prop
  | .non, _, _, P => P false
  | .bl _, _, .bool, P => P true
  | .bl _, _, .int, P => P true
  | .bl _, _, _, P => P false
  | .int _, _, .int, P => P true
  | .int _, _, _, P => P false
  | .str _, _, .str, P => P true
  | .str _, _, _, P => P false
  | .tup _, _, .tuple, P => P true
  | .tup _, _, _, P => P false
  | .ref a, st, .list, P => seqAt st a (fun _ => P true) fun _ _ => P false
  | .ref a, st, .dict, P => seqAt st a (fun _ => P false) fun _ _ => P true
  | .ref a, st, _, P => seqAt st a (fun _ => P false) fun _ _ => P false
  | .mlst _, _, .list, P => P true
  | .mlst _, _, _, P => P false
  | .exc c, _, .err c', P => P (sub c c')
  | _, _, _, _ => False
noncomputable def isiW (sub : Nat → Nat → Bool) (d : D) (st : Store) : List Ty → (Bool → Prop) → Prop
  | [], _ => False
  | [t], P => isOne sub d st t P
  | t :: u :: ts, P => isOne sub d st t fun b => if b = true then P true else isiW sub d st (u :: ts) P
noncomputable def ixN (n : Nat) (i : Int) : Option Nat := if 0 ≤ i then (if i < n then some i.toNat else none) else if -(n : Int) ≤ i then some (i + n).toNat else none
noncomputable def atI {α : Type} (xs : List α) (i : Int) : Option α := (ixN xs.length i).bind fun j => xs[j]?
noncomputable def lookD : List D → List D → D → Option D
  | k :: ks, v :: vs, x => if eqD k x then some v else lookD ks vs x
  | _, _, _ => none
noncomputable def ixW : D → D → Store → VK → Prop
  | .tup ds, .int i, st, Q => optK (atI ds i) fun d => Q d st
  | .mlst ds, .int i, st, Q => optK (atI ds i) fun d => Q d st
  | .str z, .int i, st, Q => z.length ≤ LINE ∧ optK (atI z i) fun c => Q (.str [c]) st
  | .mdic ks vs, .str w, st, Q => optK (lookD ks vs (.str w)) fun d => Q d st
  | .ref a, y, st, Q => seqAt st a (fun ds => match y with
      | .int i => optK (atI ds i) fun d => Q d st
      | _ => False) fun ks vs => plain y ∧ plains ks ∧ optK (lookD ks vs y) fun d => Q d st
  | _, _, _, _ => False
noncomputable def sIx (n d : Nat) : Option Int → Nat
  | none => d
  | some v => if v < 0 then (v + (n : Int)).toNat else min v.toNat n
noncomputable def cut {α : Type} (xs : List α) (lo hi : Option Int) : List α := (xs.drop (sIx xs.length 0 lo)).take (sIx xs.length xs.length hi - sIx xs.length 0 lo)
noncomputable def partW : List D → (Option Int → Prop) → Prop
  | [], P => P none
  | [.int i], P => P (some i)
  | _, _ => False
noncomputable def slW : D → Option Int → Option Int → Store → VK → Prop
  | .tup ds, lo, hi, st, Q => Q (.tup (cut ds lo hi)) st
  | .str z, lo, hi, st, Q => z.length ≤ LINE ∧ Q (.str (cut z lo hi)) st
  | .ref a, lo, hi, st, Q => lstAt st a fun ds => ∀ p, st p = none → Q (.ref p) (put st p (.lst (cut ds lo hi)))
  | _, _, _, _, _ => False
noncomputable def seqW : D → Store → (List Nat → List D → Prop) → Prop
  | .tup ds, _, K => K [] ds
  | .ref a, st, K => lstAt st a fun ds => K [a] ds
  | .mlst ds, _, K => K [] ds
  | _, _, _ => False
noncomputable def iterW : D → Store → (List Nat → List D → Prop) → Prop
  | .tup ds, _, K => K [] ds
  | .str x, _, K => x.length ≤ LINE ∧ K [] (x.map fun c => .str [c])
  | .ref a, st, K => lstAt st a fun ds => K [a] ds
  | .mlst ds, _, K => K [] ds
  | _, _, _ => False
noncomputable def zip2 : List D → List D → List D
  | x :: xs, y :: ys => .tup [x, y] :: zip2 xs ys
  | _, _ => []
noncomputable def enumD : Nat → List D → List D
  | _, [] => []
  | i, x :: xs => .tup [.int i, x] :: enumD (i + 1) xs
noncomputable def rangeD (lo : Int) (n : Nat) : List D := (List.range n).map fun k => .int (lo + (k : Nat))
noncomputable def rangeDn (hi : Int) (n : Nat) : List D := (List.range n).map fun k => .int (hi - (k : Nat))
noncomputable def small62 (i : Int) : Prop := -4611686018427387904 ≤ i ∧ i < 4611686018427387904
noncomputable def itrW : Option IK → List D → Store → (List Nat → List D → Prop) → Prop
  | none, [x], st, P => iterW x st P
  | some .range, [.int j], _, P => small62 j ∧ P [] (rangeD 0 j.toNat)
  | some .range, [.int i, .int j], _, P => small62 i ∧ small62 j ∧ P [] (rangeD i (j - i).toNat)
  | some .range, [.int i, .int j, .int c], _, P => c = -1 ∧ small62 i ∧ small62 j ∧ P [] (rangeDn i (i - j).toNat)
  | some .zip, [.ref a, .ref b], st, P => lstAt st a fun xs => lstAt st b fun ys => P [a, b] (zip2 xs ys)
  | some .enum, [.ref a], st, P => lstAt st a fun xs => P [a] (enumD 0 xs)
  | some .rev, [x], st, P => seqW x st fun as xs => P as xs.reverse
  | _, _, _, _ => False
noncomputable def boolsOf : List D → Option (List Bool)
  | [] => some []
  | .bl b :: r => (boolsOf r).map (b :: ·)
  | _ => none
noncomputable def intsOf : List D → Option (List Int)
  | [] => some []
  | .int i :: r => (intsOf r).map (i :: ·)
  | _ => none
noncomputable def lenW : D → Store → (Nat → Prop) → Prop
  | .tup ds, _, P => P ds.length
  | .str x, _, P => x.length ≤ LINE ∧ P x.length
  | .ref a, st, P => seqAt st a (fun ds => P ds.length) fun ks _ => P ks.length
  | .mlst ds, _, P => P ds.length
  | _, _, _ => False
noncomputable def maxI : Int → List Int → Int
  | m, [] => m
  | m, i :: r => maxI (if i > m then i else m) r
noncomputable def minI : Int → List Int → Int
  | m, [] => m
  | m, i :: r => minI (if i < m then i else m) r
noncomputable def itemsW : BI → List D → Store → VK → Prop
  | .all, xs, st, Q => optK (boolsOf xs) fun bs => Q (.bl (bs.all id)) st
  | .any, xs, st, Q => optK (boolsOf xs) fun bs => Q (.bl (bs.any id)) st
  | .max, xs, st, Q => optK (intsOf xs) fun is => match is with
    | i :: r => Q (.int (maxI i r)) st
    | [] => False
  | .min, xs, st, Q => optK (intsOf xs) fun is => match is with
    | i :: r => Q (.int (minI i r)) st
    | [] => False
  | .sum, xs, st, Q => optK (intsOf xs) fun is => Q (.int is.sum) st
  | .list, xs, st, Q => newL xs st Q
  | .tuple, xs, st, Q => xs.length ≤ LINE ∧ Q (.tup xs) st
  | _, _, _, _ => False
noncomputable def strsOf : List D → Option (List (List Nat))
  | [] => some []
  | .str w :: r => (strsOf r).map (w :: ·)
  | _ => none
noncomputable def ndS : List (List Nat) → List (List Nat) → Nat
  | _, [] => 0
  | seen, w :: r => (if seen.any (· == w) then 0 else 1) + ndS (seen ++ [w]) r
noncomputable def biW : BI → List D → Store → VK → Prop
  | .len, [d], st, Q => lenW d st fun n => Q (.int (n : Nat)) st
  | .lenset, [.tup ds], st, Q => optK (strsOf ds) fun ws => ws.length < 4000 ∧ Q (.int (ndS [] ws : Nat)) st
  | .max, [.int i, .int j], st, Q => Q (.int (if j > i then j else i)) st
  | .min, [.int i, .int j], st, Q => Q (.int (if j < i then j else i)) st
  | .abs, [.int i], st, Q => Q (.int (if i < 0 then -i else i)) st
  | .int, [.int i], st, Q => Q (.int i) st
  | .int, [.bl b], st, Q => Q (.int (if b then 1 else 0)) st
  | .bool, [.int i], st, Q => Q (.bl (i != 0)) st
  | .bool, [.bl b], st, Q => Q (.bl b) st
  | f, [d], st, Q => seqW d st fun _ xs => itemsW f xs st Q
  | _, _, _, _ => False
noncomputable def ownW : D → Store → (List D → Prop) → Prop
  | .tup ds, _, K => K ds
  | .ref a, st, K => lstAt st a K
  | _, _, _ => False
noncomputable def findD (st : Store) (d : D) : List D → Option Nat
  | [] => none
  | e :: r => if eqS st e d = true then some 0 else (findD st d r).map (· + 1)
noncomputable def joinS (s : List Nat) : List (List Nat) → List Nat
  | [] => []
  | [w] => w
  | w :: v :: r => w ++ s ++ joinS s (v :: r)
noncomputable def methW : MT → D → List D → Store → VK → Prop
  | .append, .ref a, [d], st, Q => lstAt st a fun xs => xs.length < LINE ∧ Q .non (put st a (.lst (xs ++ [d])))
  | .extend, .ref a, [d], st, Q => lstAt st a fun xs => ownW d st fun ys => xs.length + ys.length ≤ LINE ∧ Q .non (put st a (.lst (xs ++ ys)))
  | .pop, .ref a, [], st, Q => lstAt st a fun xs => optK (xs[xs.length - 1]?) fun d => Q d (put st a (.lst xs.dropLast))
  | .join, .str s, [d], st, Q => ownW d st fun ds => optK (strsOf ds) fun ws => (ws.map List.length).sum + ws.length * s.length ≤ LINE ∧ Q (.str (joinS s ws)) st
  | .startswith, .str z, [.str w, .int i], st, Q => (z.length ≤ LINE ∧ 0 ≤ i ∧ i ≤ z.length) ∧ Q (.bl (w.isPrefixOf (z.drop i.toNat))) st
  | .get, .mdic ks vs, [.str w], st, Q => Q ((lookD ks vs (.str w)).getD .non) st
  | .index, x, [d], st, Q => seqW x st fun _ ds => plainS st d ∧ plainSs st ds ∧ optK (findD st d ds) fun i => Q (.int (i : Nat)) st
  | _, _, _, _, _ => False
noncomputable def rcvW : MT → D → Store → Prop
  | .append, .ref a, st => lstAt st a fun _ => True
  | .extend, .ref a, st => lstAt st a fun _ => True
  | .pop, .ref a, st => lstAt st a fun _ => True
  | .index, x, st => seqW x st fun _ _ => True
  | .join, .str _, _ => True
  | .startswith, .str _, _ => True
  | .get, .mdic _ _, _ => True
  | _, _, _ => False
noncomputable def bindT : Bool → List Nat → D → St → (St → Prop) → Prop
  | true, [i], x, σ, P => P (σ.set i (some x))
  | false, is, .tup ds, σ, P => ds.length = is.length ∧ P ((is.zip ds).foldl (fun σ p => σ.set p.1 (some p.2)) σ)
  | _, _, _, _, _ => False
noncomputable def compW (g : Store → Prop) (turn : D → Store → (Option D → Store → Prop) → Prop) : List D → List D → Store → (List D → Store → Prop) → Prop
  | [], acc, st, R => g st ∧ R acc st
  | x :: xs, acc, st, R => g st ∧ acc.length < LINE ∧ turn x st fun o st' => compW g turn xs (match o with | none => acc | some d => acc ++ [d]) st' R
noncomputable def same (as : List Nat) (st st' : Store) : Prop := ∀ a ∈ as, st' a = st a
mutual
noncomputable def wpE (C : CallT) (sub : Nat → Nat → Bool) (E : XK) : Ex → St → Store → VK → Prop
  | .c d, _, st, Q => Q d st
  | .v i, σ, st, Q => getV σ i fun d => Q d st
  | .tup es, σ, st, Q => wpEs C sub E es σ st fun ds st' => Q (.tup ds) st'
  | .lst es, σ, st, Q => wpEs C sub E es σ st fun ds st' => newL ds st' Q
  | .bin op a b, σ, st, Q => wpE C sub E a σ st fun x st1 => wpE C sub E b σ st1 fun y st2 => binW op x y st2 Q
  | .neg a, σ, st, Q => wpE C sub E a σ st fun x st1 => negW x st1 Q
  | .cmp op a b, σ, st, Q => wpE C sub E a σ st fun x st1 => wpE C sub E b σ st1 fun y st2 => cmpW op x y st2 fun k => Q (.bl k) st2
  | .chain op op' a b c, σ, st, Q => wpE C sub E a σ st fun x st1 => wpE C sub E b σ st1 fun y st2 => cmpW op x y st2 fun k =>
      if k = true then wpE C sub E c σ st2 fun z st3 => cmpW op' y z st3 fun k => Q (.bl k) st3 else Q (.bl false) st2
  | .and_ a b, σ, st, Q => wpE C sub E a σ st fun x st1 => truW x st1 fun k => if k = true then wpE C sub E b σ st1 Q else Q x st1
  | .or_ a b, σ, st, Q => wpE C sub E a σ st fun x st1 => truW x st1 fun k => if k = true then Q x st1 else wpE C sub E b σ st1 Q
  | .not_ a, σ, st, Q => wpE C sub E a σ st fun x st1 => truW x st1 fun k => Q (.bl (!k)) st1
  | .ite c a b, σ, st, Q => wpE C sub E c σ st fun x st1 => truW x st1 fun k => if k = true then wpE C sub E a σ st1 Q else wpE C sub E b σ st1 Q
  | .call f es, σ, st, Q => wpEs C sub E es σ st fun ds st' => C f ds st' Q (fun _ _ => False)
  | .callx f es, σ, st, Q => wpEs C sub E es σ st fun ds st' => C f ds st' Q E
  | .bi f es, σ, st, Q => wpEs C sub E es σ st fun ds st' => biW f ds st' Q
  | .isi a ts, σ, st, Q => wpE C sub E a σ st fun x st1 => isiW sub x st1 ts fun k => Q (.bl k) st1
  | .meth m o es, σ, st, Q => wpE C sub E o σ st fun x st1 => rcvW m x st1 ∧ wpEs C sub E es σ st1 fun ds st2 => methW m x ds st2 Q
  | .ix a b, σ, st, Q => wpE C sub E a σ st fun x st1 => wpE C sub E b σ st1 fun y st2 => ixW x y st2 Q
  | .sl a lo hi, σ, st, Q => wpE C sub E a σ st fun x st1 => wpEs C sub E lo σ st1 fun ls st2 => partW ls fun l => wpEs C sub E hi σ st2 fun hs st3 => partW hs fun h => slW x l h st3 Q
  | .bit f k es, σ, st, Q => wpEs C sub E es σ st fun ds st1 => itrW (some k) ds st1 fun _ xs => itemsW f xs st1 Q
  | .comp n caps tg one k its ifs elt, σ, st, Q => wpEs C sub E its σ st fun ds st1 => itrW k ds st1 fun as xs =>
      compW (same as st1) (fun x st2 K => bindT one tg x (List.replicate n none ++ caps.map fun i => (σ[i]?).getD none) fun σ' =>
        wpTs C sub E ifs σ' st2 fun b st3 => if b = true then wpE C sub E elt σ' st3 fun d st4 => K (some d) st4 else K none st3) xs [] st1 fun ds st5 => newL ds st5 Q
  | .dic _ _, _, _, _ => False
  | .fld c f o, σ, st, Q => wpE C sub E o σ st fun x st1 => fldW c f x st1 Q
  | .mk c f es, σ, st, Q => wpEs C sub E es σ st fun ds st1 => ∀ p, st1 p = none → C f (.ref p :: ds) (put st1 p (.ins c [])) (fun d st2 => d = .non ∧ Q (.ref p) st2) (fun _ _ => False)
  | .mcl c m f o es, σ, st, Q => wpE C sub E o σ st fun x st1 => metW c m x st1 ∧ wpEs C sub E es σ st1 fun ds st2 => C f (x :: ds) st2 Q (fun _ _ => False)
  | .mclx c m f o es, σ, st, Q => wpE C sub E o σ st fun x st1 => metW c m x st1 ∧ wpEs C sub E es σ st1 fun ds st2 => C f (x :: ds) st2 Q E
  | .dnew, σ, st, Q => ∀ p, st p = none → Q (.ref p) (put st p (.tab [] []))
  | .d1 k v, σ, st, Q => ∀ p, st p = none → wpE C sub E k σ (put st p (.tab [] [])) fun x st1 => wpE C sub E v σ st1 fun y st2 => sdW x y (.ref p) st2 fun st3 => Q (.ref p) st3
  | .din neg k d, σ, st, Q => wpE C sub E k σ st fun x st1 => wpE C sub E d σ st1 fun y st2 => dinW x y st2 fun b => Q (.bl (if neg = true then !b else b)) st2
  | .dix d k, σ, st, Q => wpE C sub E d σ st fun y st1 => wpE C sub E k σ st1 fun x st2 => dixW x y st2 Q
noncomputable def wpEs (C : CallT) (sub : Nat → Nat → Bool) (E : XK) : List Ex → St → Store → (List D → Store → Prop) → Prop
  | [], _, st, Q => Q [] st
  | e :: es, σ, st, Q => wpE C sub E e σ st fun d st' => wpEs C sub E es σ st' fun ds st'' => Q (d :: ds) st''
/-- all tests, one after another -/
noncomputable def wpTs (C : CallT) (sub : Nat → Nat → Bool) (E : XK) : List Ex → St → Store → (Bool → Store → Prop) → Prop
  | [], _, st, Q => Q true st
  | e :: es, σ, st, Q => wpE C sub E e σ st fun d st' => truW d st' fun k => if k = true then wpTs C sub E es σ st' Q else Q false st'
end
structure Post where
  nx : St → Store → Prop
  rt : D → Store → Prop
  bk : St → Store → Prop
  ct : St → Store → Prop
  ex : Nat → St → Store → Prop
noncomputable def notRef : D → Prop
  | .ref _ => False
  | _ => True
noncomputable def setW : D → D → D → Store → (Store → Prop) → Prop
  | .ref a, .int k, v, st, Q => lstAt st a fun xs => optK (ixN xs.length k) fun j => Q (put st a (.lst (xs.set j v)))
  | _, _, _, _, _ => False
noncomputable def tgW (C : CallT) (sub : Nat → Nat → Bool) (E : XK) : Tg → D → St → Store → (St → Store → Prop) → Prop
  | .nm i, d, σ, st, Q => Q (σ.set i (some d)) st
  | .tp is, d, σ, st, Q => bindT false is d σ fun σ' => Q σ' st
  | .ix o i, d, σ, st, Q => wpE C sub E o σ st fun x st1 => wpE C sub E i σ st1 fun y st2 => setW x y d st2 fun st3 => Q σ st3
  | .fl c f o, d, σ, st, Q => wpE C sub E o σ st fun x st1 => sfW c f d x st1 fun st2 => Q σ st2
  | .dk o i, d, σ, st, Q => wpE C sub E o σ st fun x st1 => wpE C sub E i σ st1 fun y st2 => sdW y d x st2 fun st3 => Q σ st3
noncomputable def forW (g : Store → Prop) (turn : D → (St → Store → Prop) → St → Store → Prop) (N : St → Store → Prop) : List D → St → Store → Prop
  | [], σ, st => g st ∧ N σ st
  | x :: xs, σ, st => g st ∧ turn x (forW g turn N xs) σ st
noncomputable def whileN (turn : (St → Store → Prop) → St → Store → Prop) : Nat → St → Store → Prop
  | 0, _, _ => False
  | n + 1, σ, st => turn (whileN turn n) σ st
noncomputable def setO (n : Option Nat) (o : Option D) (σ : St) : St := match n with
  | some i => σ.set i o
  | none => σ
noncomputable def tryP (sub : Nat → Nat → Bool) (c : Nat) (n : Option Nat) (P : Post) (h : Post → St → Store → Prop) : Post :=
  ⟨P.nx, P.rt, P.bk, P.ct, fun c' σ' st' => if sub c' c = true then
    h ⟨fun σ2 st2 => P.nx (setO n none σ2) st2, P.rt, fun _ _ => False, fun _ _ => False, fun _ _ _ => False⟩ (setO n (some (.exc c')) σ') st' else P.ex c' σ' st'⟩
noncomputable def noCall : CallT := fun _ _ _ _ _ => False
mutual
noncomputable def wpS (C : CallT) (sub : Nat → Nat → Bool) : Sx → Post → St → Store → Prop
  | .ex e, P, σ, st => wpE C sub (fun c st' => P.ex c σ st') e σ st fun _ st' => P.nx σ st'
  | .asg t e, P, σ, st => wpE C sub (fun c st' => P.ex c σ st') e σ st fun d st' => tgW C sub (fun c st' => P.ex c σ st') t d σ st' P.nx
  | .aug i op e, P, σ, st => getV σ i fun x => wpE C sub (fun c st' => P.ex c σ st') e σ st fun y st' => notRef x ∧ binW op x y st' fun d st'' => P.nx (σ.set i (some d)) st''
  | .iff c a b, P, σ, st => wpE C sub (fun c st' => P.ex c σ st') c σ st fun d st' => truW d st' fun k => if k = true then wpSs C sub a P σ st' else wpSs C sub b P σ st'
  | .whl c b, P, σ, st => ∃ n, whileN (fun next σ st => wpE C sub (fun c st' => P.ex c σ st') c σ st fun d st' => truW d st' fun k =>
      if k = true then wpSs C sub b { P with nx := next, ct := next, bk := P.nx } σ st' else P.nx σ st') n σ st
  | .forr t k its b, P, σ, st => wpEs C sub (fun c st' => P.ex c σ st') its σ st fun ds st1 => itrW k ds st1 fun as xs => forW (same as st1) (fun x next σ st => tgW C sub (fun c st' => P.ex c σ st') t x σ st fun σ' st' => wpSs C sub b { P with nx := next, ct := next, bk := P.nx } σ' st') P.nx xs σ st1
  | .ret e, P, σ, st => wpE C sub (fun c st' => P.ex c σ st') e σ st P.rt
  | .brk, P, σ, st => P.bk σ st
  | .cnt, P, σ, st => P.ct σ st
  | .pass, P, σ, st => P.nx σ st
  | .rais c es, P, σ, st => wpEs C sub (fun c st' => P.ex c σ st') es σ st fun _ st' => P.ex c σ st'
  | .tryy b c n h, P, σ, st => wpSs C sub b (tryP sub c n P fun P' σ' st' => wpSs noCall sub h P' σ' st') σ st
noncomputable def wpSs (C : CallT) (sub : Nat → Nat → Bool) : List Sx → Post → St → Store → Prop
  | [], P, σ, st => P.nx σ st
  | s :: ss, P, σ, st => wpS C sub s { P with nx := wpSs C sub ss P } σ st
end
noncomputable def start (np nl : Nat) (ds : List D) : St := ds.map some ++ List.replicate (nl - np) none
noncomputable def wpFn (G : Prog) : Nat → CallT
  | 0 => fun _ _ _ _ _ => False
  | k + 1 => fun f ds st Q E => match G.fns f with
    | none => False
    | some fn => ds.length = fn.np ∧ wpSs (wpFn G k) G.sub fn.body ⟨fun _ st' => Q .non st', Q, fun _ _ => False, fun _ _ => False, fun c _ st' => E c st'⟩ (start fn.np fn.nl ds) st
end L3
end
section
namespace L3
theorem getV_mono {σ : St} {i : Nat} {Q Q' : D → Prop} (h : ∀ d, Q d → Q' d) : getV σ i Q → getV σ i Q' := by
  unfold getV; split
  · exact h _
  · exact id
theorem seqAt_mono {st : Store} {a : Nat} {K K' : List D → Prop} {M M' : List D → List D → Prop} (h : ∀ ds, K ds → K' ds) (h' : ∀ ks vs, M ks vs → M' ks vs) : seqAt st a K M → seqAt st a K' M' := by
  unfold seqAt; split
  · exact h _
  · exact h' _ _
  · exact id
theorem lstAt_mono {st : Store} {a : Nat} {K K' : List D → Prop} (h : ∀ ds, K ds → K' ds) : lstAt st a K → lstAt st a K' := by
  unfold lstAt; split
  · exact h _
  · exact id
theorem optK_mono {α : Type} {o : Option α} {K K' : α → Prop} (h : ∀ x, K x → K' x) : optK o K → optK o K' := by
  unfold optK; split
  · exact h _
  · exact id
theorem truW_mono {d : D} {st : Store} {P P' : Bool → Prop} (h : ∀ b, P b → P' b) : truW d st P → truW d st P' := by
  unfold truW; split
  all_goals first | exact h _ | exact id | exact (fun x => ⟨x.1, h _ x.2⟩) | exact seqAt_mono (fun _ => h _) fun _ _ => h _
theorem newL_mono {ds : List D} {st : Store} {Q Q' : VK} (h : ∀ d st, Q d st → Q' d st) : newL ds st Q → newL ds st Q' := fun x => ⟨x.1, fun p hp => h _ _ (x.2 p hp)⟩
theorem binW_mono {op : BOp} {x y : D} {st : Store} {Q Q' : VK} (h : ∀ d st, Q d st → Q' d st) : binW op x y st Q → binW op x y st Q' := by
  unfold binW
  split
  all_goals first | exact h _ _ | exact id | exact (fun z => ⟨z.1, h _ _ z.2⟩) | exact lstAt_mono (fun _ => lstAt_mono fun _ => newL_mono h) | exact lstAt_mono (fun _ z => ⟨z.1, z.2.1, newL_mono h z.2.2⟩)
theorem negW_mono {x : D} {st : Store} {Q Q' : VK} (h : ∀ d st, Q d st → Q' d st) : negW x st Q → negW x st Q' := by
  unfold negW; split
  · exact h _ _
  · exact id
theorem eqW_mono {x y : D} {st : Store} {P P' : Bool → Prop} (h : ∀ b, P b → P' b) : eqW x y st P → eqW x y st P' := fun z => ⟨z.1, z.2.1, h _ z.2.2⟩
theorem inW_mono {x y : D} {st : Store} {P P' : Bool → Prop} (h : ∀ b, P b → P' b) : inW x y st P → inW x y st P' := by
  unfold inW
  split
  all_goals first | exact (fun z => ⟨z.1, z.2.1, h _ z.2.2⟩) | exact h _ | exact id | exact seqAt_mono (fun _ z => ⟨z.1, z.2.1, h _ z.2.2⟩) fun _ _ z => ⟨z.1, z.2.1, h _ z.2.2⟩
theorem ordW_mono {f : Int → Int → Bool} {x y : D} {P P' : Bool → Prop} (h : ∀ b, P b → P' b) : ordW f x y P → ordW f x y P' := by
  unfold ordW; split
  · exact h _
  · exact id
theorem isW_mono {x y : D} {P P' : Bool → Prop} (h : ∀ b, P b → P' b) : isW x y P → isW x y P' := by
  unfold isW
  split
  all_goals first | exact h _ | exact id
theorem cmpW_mono {op : COp} {x y : D} {st : Store} {P P' : Bool → Prop} (h : ∀ b, P b → P' b) : cmpW op x y st P → cmpW op x y st P' := by
  cases op
  · exact eqW_mono h
  · exact eqW_mono fun b => h (!b)
  · exact ordW_mono h
  · exact ordW_mono h
  · exact ordW_mono h
  · exact ordW_mono h
  · exact isW_mono h
  · exact isW_mono fun b => h (!b)
  · exact inW_mono h
  · exact inW_mono fun b => h (!b)
theorem isOne_mono {sub : Nat → Nat → Bool} {x : D} {st : Store} {t : Ty} {P P' : Bool → Prop} (h : ∀ b, P b → P' b) : isOne sub x st t P → isOne sub x st t P' := by
  unfold isOne
  split
  all_goals first | exact h _ | exact id | exact seqAt_mono (fun _ => h _) fun _ _ => h _
theorem isiW_mono {sub : Nat → Nat → Bool} {x : D} {st : Store} {P P' : Bool → Prop} (h : ∀ b, P b → P' b) : ∀ {ts : List Ty}, isiW sub x st ts P → isiW sub x st ts P'
  | [] => id
  | [t] => isOne_mono h
  | t :: u :: ts => by
    unfold isiW
    refine isOne_mono fun b => ?_
    split
    · exact h _
    · exact isiW_mono h
theorem ixW_mono {x y : D} {st : Store} {Q Q' : VK} (h : ∀ d st, Q d st → Q' d st) : ixW x y st Q → ixW x y st Q' := by
  unfold ixW
  split
  all_goals first | exact id | exact optK_mono (fun _ => h _ _) | exact (fun z => ⟨z.1, optK_mono (fun _ => h _ _) z.2⟩) | exact (fun z => ⟨z.1, z.2.1, optK_mono (fun _ => h _ _) z.2.2⟩) | skip
  refine seqAt_mono (fun _ => ?_) (fun _ _ z => ⟨z.1, z.2.1, optK_mono (fun _ => h _ _) z.2.2⟩)
  split
  · exact optK_mono fun _ => h _ _
  · exact id
theorem partW_mono {ds : List D} {P P' : Option Int → Prop} (h : ∀ o, P o → P' o) : partW ds P → partW ds P' := by
  unfold partW; split
  all_goals first | exact h _ | exact id
theorem slW_mono {x : D} {lo hi : Option Int} {st : Store} {Q Q' : VK} (h : ∀ d st, Q d st → Q' d st) : slW x lo hi st Q → slW x lo hi st Q' := by
  unfold slW
  split
  · exact h _ _
  · exact fun z => ⟨z.1, h _ _ z.2⟩
  · exact lstAt_mono fun _ z p hp => h _ _ (z p hp)
  · exact id
theorem iterW_mono {d : D} {st : Store} {K K' : List Nat → List D → Prop} (h : ∀ as xs, K as xs → K' as xs) : iterW d st K → iterW d st K' := by
  unfold iterW
  split
  all_goals first | exact h _ _ | exact id | exact (fun z => ⟨z.1, h _ _ z.2⟩) | exact lstAt_mono (fun _ => h _ _)
theorem seqW_mono {d : D} {st : Store} {K K' : List Nat → List D → Prop} (h : ∀ as xs, K as xs → K' as xs) : seqW d st K → seqW d st K' := by
  unfold seqW
  split
  all_goals first | exact h _ _ | exact id | exact lstAt_mono (fun _ => h _ _)
theorem itrW_mono {k : Option IK} {ds : List D} {st : Store} {P P' : List Nat → List D → Prop} (h : ∀ as xs, P as xs → P' as xs) : itrW k ds st P → itrW k ds st P' := by
  unfold itrW
  split
  · exact iterW_mono h
  · exact fun z => ⟨z.1, h _ _ z.2⟩
  · exact fun z => ⟨z.1, z.2.1, h _ _ z.2.2⟩
  · exact fun z => ⟨z.1, z.2.1, z.2.2.1, h _ _ z.2.2.2⟩
  · exact lstAt_mono fun _ => lstAt_mono fun _ => h _ _
  · exact lstAt_mono fun _ => h _ _
  · exact seqW_mono fun _ _ => h _ _
  · exact id
theorem lenW_mono {d : D} {st : Store} {P P' : Nat → Prop} (h : ∀ n, P n → P' n) : lenW d st P → lenW d st P' := by
  unfold lenW
  split
  all_goals first | exact h _ | exact id | exact (fun z => ⟨z.1, h _ z.2⟩) | exact seqAt_mono (fun _ => h _) fun _ _ => h _
theorem itemsW_mono {f : BI} {xs : List D} {st : Store} {Q Q' : VK} (h : ∀ d st, Q d st → Q' d st) : itemsW f xs st Q → itemsW f xs st Q' := by
  unfold itemsW
  split
  all_goals first | exact id | exact newL_mono h | exact (fun z => ⟨z.1, h _ _ z.2⟩) | exact optK_mono (fun _ => h _ _) | skip
  all_goals refine optK_mono fun is => ?_
  all_goals cases is
  all_goals first | exact id | exact h _ _
theorem biW_mono {f : BI} {ds : List D} {st : Store} {Q Q' : VK} (h : ∀ d st, Q d st → Q' d st) : biW f ds st Q → biW f ds st Q' := by
  unfold biW
  split
  all_goals first | exact id | exact h _ _ | exact lenW_mono (fun _ => h _ _) | exact seqW_mono (fun _ _ => itemsW_mono h) | exact optK_mono (fun _ z => ⟨z.1, h _ _ z.2⟩)
theorem ownW_mono {d : D} {st : Store} {K K' : List D → Prop} (h : ∀ xs, K xs → K' xs) : ownW d st K → ownW d st K' := by
  unfold ownW
  split
  all_goals first | exact h _ | exact id | exact lstAt_mono h
theorem methW_mono {m : MT} {o : D} {ds : List D} {st : Store} {Q Q' : VK} (h : ∀ d st, Q d st → Q' d st) : methW m o ds st Q → methW m o ds st Q' := by
  unfold methW
  split
  · exact lstAt_mono fun _ z => ⟨z.1, h _ _ z.2⟩
  · exact lstAt_mono fun _ => ownW_mono fun _ z => ⟨z.1, h _ _ z.2⟩
  · exact lstAt_mono fun _ => optK_mono fun _ => h _ _
  · exact ownW_mono fun _ => optK_mono fun _ z => ⟨z.1, h _ _ z.2⟩
  · exact fun z => ⟨z.1, h _ _ z.2⟩
  · exact h _ _
  · exact seqW_mono fun _ _ z => ⟨z.1, z.2.1, optK_mono (fun _ => h _ _) z.2.2⟩
  · exact id
theorem bindT_mono {one : Bool} {tg : List Nat} {x : D} {σ : St} {P P' : St → Prop} (h : ∀ σ, P σ → P' σ) : bindT one tg x σ P → bindT one tg x σ P' := by
  unfold bindT
  split
  · exact h _
  · exact fun z => ⟨z.1, h _ z.2⟩
  · exact id
theorem compW_mono {g : Store → Prop} {turn turn' : D → Store → (Option D → Store → Prop) → Prop} {R R' : List D → Store → Prop}
    (ht : ∀ x st K K', (∀ o st, K o st → K' o st) → turn x st K → turn' x st K') (h : ∀ ds st, R ds st → R' ds st) : ∀ {xs acc : List D} {st : Store}, compW g turn xs acc st R → compW g turn' xs acc st R'
  | [], _, _, z => ⟨z.1, h _ _ z.2⟩
  | _ :: _, _, _, z => ⟨z.1, z.2.1, ht _ _ _ _ (fun _ _ y => compW_mono ht h y) z.2.2⟩
theorem insAt_mono {st : Store} {a : Nat} {K K' : List Nat → List (List Nat × D) → Prop} (h : ∀ c fs, K c fs → K' c fs) : insAt st a K → insAt st a K' := by
  unfold insAt; split
  · exact h _ _
  · exact id
theorem tabAt_mono {st : Store} {a : Nat} {K K' : List D → List D → Prop} (h : ∀ c fs, K c fs → K' c fs) : tabAt st a K → tabAt st a K' := by
  unfold tabAt; split
  · exact h _ _
  · exact id
theorem fldW_mono {c f : List Nat} {x : D} {st : Store} {Q Q' : VK} (h : ∀ d st, Q d st → Q' d st) : fldW c f x st Q → fldW c f x st Q' := by
  unfold fldW; split
  · exact insAt_mono fun _ _ z => ⟨z.1, optK_mono (fun _ => h _ _) z.2⟩
  · exact id
theorem sfW_mono {c f : List Nat} {v x : D} {st : Store} {Q Q' : Store → Prop} (h : ∀ st, Q st → Q' st) : sfW c f v x st Q → sfW c f v x st Q' := by
  unfold sfW; split
  · exact insAt_mono fun _ _ z => ⟨z.1, z.2.1, h _ z.2.2⟩
  · exact id
theorem dinW_mono {x y : D} {st : Store} {P P' : Bool → Prop} (h : ∀ b, P b → P' b) : dinW x y st P → dinW x y st P' := by
  unfold dinW; split
  · exact tabAt_mono fun _ _ z => ⟨z.1, h _ z.2⟩
  · exact id
theorem dixW_mono {x y : D} {st : Store} {Q Q' : VK} (h : ∀ d st, Q d st → Q' d st) : dixW x y st Q → dixW x y st Q' := by
  unfold dixW; split
  · exact tabAt_mono fun _ _ z => ⟨z.1, optK_mono (fun _ => h _ _) z.2⟩
  · exact id
theorem sdW_mono {x v y : D} {st : Store} {Q Q' : Store → Prop} (h : ∀ st, Q st → Q' st) : sdW x v y st Q → sdW x v y st Q' := by
  unfold sdW; split
  · exact tabAt_mono fun _ _ z => ⟨z.1, z.2.1, z.2.2.1, h _ z.2.2.2⟩
  · exact id
noncomputable def CMono (C C' : CallT) : Prop := ∀ f ds st Q Q' E E', (∀ d st, Q d st → Q' d st) → (∀ c st, E c st → E' c st) → C f ds st Q E → C' f ds st Q' E'
mutual
theorem wpE_mono {C C' : CallT} {sub} {E E' : XK} (hC : CMono C C') (hE : ∀ c st, E c st → E' c st) : ∀ (e : Ex) {σ : St} {st : Store} {Q Q' : VK}, (∀ d st, Q d st → Q' d st) → wpE C sub E e σ st Q → wpE C' sub E' e σ st Q'
  | .c d, σ, st, Q, Q', h => by exact h _ _
  | .v i, σ, st, Q, Q', h => by exact getV_mono fun d => h _ _
  | .tup es, σ, st, Q, Q', h => by exact wpEs_mono hC hE es fun _ _ => h _ _
  | .lst es, σ, st, Q, Q', h => by exact wpEs_mono hC hE es fun _ _ => newL_mono h
  | .bin op a b, σ, st, Q, Q', h => by exact wpE_mono hC hE a fun _ _ => wpE_mono hC hE b fun _ _ => binW_mono h
  | .neg a, σ, st, Q, Q', h => by
    exact wpE_mono hC hE a fun _ _ => negW_mono h
  | .cmp op a b, σ, st, Q, Q', h => by exact wpE_mono hC hE a fun _ _ => wpE_mono hC hE b fun _ _ => cmpW_mono fun _ => h _ _
  | .chain op op' a b c, σ, st, Q, Q', h => by
    refine wpE_mono hC hE a fun _ _ => wpE_mono hC hE b fun _ _ => cmpW_mono fun k => ?_
    split
    · exact wpE_mono hC hE c fun _ _ => cmpW_mono fun _ => h _ _
    · exact h _ _
  | .and_ a b, σ, st, Q, Q', h => by
    refine wpE_mono hC hE a fun _ _ => truW_mono fun k => ?_
    split
    · exact wpE_mono hC hE b h
    · exact h _ _
  | .or_ a b, σ, st, Q, Q', h => by
    refine wpE_mono hC hE a fun _ _ => truW_mono fun k => ?_
    split
    · exact h _ _
    · exact wpE_mono hC hE b h
  | .not_ a, σ, st, Q, Q', h => by exact wpE_mono hC hE a fun _ _ => truW_mono fun k => h _ _
  | .ite c a b, σ, st, Q, Q', h => by
    refine wpE_mono hC hE c fun _ _ => truW_mono fun k => ?_
    split
    · exact wpE_mono hC hE a h
    · exact wpE_mono hC hE b h
  | .call f es, σ, st, Q, Q', h => by exact wpEs_mono hC hE es fun _ _ => hC _ _ _ _ _ _ _ h (fun _ _ z => z)
  | .callx f es, σ, st, Q, Q', h => by exact wpEs_mono hC hE es fun _ _ => hC _ _ _ _ _ _ _ h hE
  | .bi f es, σ, st, Q, Q', h => by exact wpEs_mono hC hE es fun _ _ => biW_mono h
  | .isi a ts, σ, st, Q, Q', h => by exact wpE_mono hC hE a fun _ _ => isiW_mono fun _ => h _ _
  | .meth m o es, σ, st, Q, Q', h => by exact wpE_mono hC hE o fun _ _ z => ⟨z.1, wpEs_mono hC hE es (fun _ _ => methW_mono h) z.2⟩
  | .ix a b, σ, st, Q, Q', h => by exact wpE_mono hC hE a fun _ _ => wpE_mono hC hE b fun _ _ => ixW_mono h
  | .sl a lo hi, σ, st, Q, Q', h => by exact wpE_mono hC hE a fun _ _ => wpEs_mono hC hE lo fun _ _ => partW_mono fun _ => wpEs_mono hC hE hi fun _ _ => partW_mono fun _ => slW_mono h
  | .bit f k es, σ, st, Q, Q', h => by exact wpEs_mono hC hE es fun _ _ => itrW_mono fun _ _ => itemsW_mono h
  | .comp n caps tg one k its ifs elt, σ, st, Q, Q', h => by
    refine wpEs_mono hC hE its fun d st1 => itrW_mono fun as xs => ?_
    intro z
    refine compW_mono (fun x st K K' hK => ?_) (fun _ _ => newL_mono h) z
    refine bindT_mono fun σ' => wpTs_mono hC hE ifs fun b st => ?_
    split
    · exact wpE_mono hC hE elt fun _ _ => hK _ _
    · exact hK _ _
  | .dic _ _, σ, st, Q, Q', h => by exact id
  | .fld c f o, σ, st, Q, Q', h => by exact wpE_mono hC hE o fun _ _ => fldW_mono h
  | .mk c f es, σ, st, Q, Q', h => by exact wpEs_mono hC hE es fun _ _ z p hp => hC _ _ _ _ _ _ _ (fun _ _ y => ⟨y.1, h _ _ y.2⟩) (fun _ _ z => z) (z p hp)
  | .mcl c m f o es, σ, st, Q, Q', h => by exact wpE_mono hC hE o fun _ _ z => ⟨z.1, wpEs_mono hC hE es (fun _ _ => hC _ _ _ _ _ _ _ h (fun _ _ z => z)) z.2⟩
  | .mclx c m f o es, σ, st, Q, Q', h => by exact wpE_mono hC hE o fun _ _ z => ⟨z.1, wpEs_mono hC hE es (fun _ _ => hC _ _ _ _ _ _ _ h hE) z.2⟩
  | .dnew, σ, st, Q, Q', h => by exact fun z p hp => h _ _ (z p hp)
  | .d1 k v, σ, st, Q, Q', h => by exact fun z p hp => wpE_mono hC hE k (fun _ _ => wpE_mono hC hE v fun _ _ => sdW_mono fun _ => h _ _) (z p hp)
  | .din neg k d, σ, st, Q, Q', h => by exact wpE_mono hC hE k fun _ _ => wpE_mono hC hE d fun _ _ => dinW_mono fun _ => h _ _
  | .dix d k, σ, st, Q, Q', h => by exact wpE_mono hC hE d fun _ _ => wpE_mono hC hE k fun _ _ => dixW_mono h
theorem wpEs_mono {C C' : CallT} {sub} {E E' : XK} (hC : CMono C C') (hE : ∀ c st, E c st → E' c st) : ∀ (es : List Ex) {σ : St} {st : Store} {Q Q' : List D → Store → Prop}, (∀ d st, Q d st → Q' d st) → wpEs C sub E es σ st Q → wpEs C' sub E' es σ st Q'
  | [], σ, st, Q, Q', h => by exact h _ _
  | e :: es, σ, st, Q, Q', h => by exact wpE_mono hC hE e fun _ _ => wpEs_mono hC hE es fun _ _ => h _ _
theorem wpTs_mono {C C' : CallT} {sub} {E E' : XK} (hC : CMono C C') (hE : ∀ c st, E c st → E' c st) : ∀ (es : List Ex) {σ : St} {st : Store} {Q Q' : Bool → Store → Prop}, (∀ d st, Q d st → Q' d st) → wpTs C sub E es σ st Q → wpTs C' sub E' es σ st Q'
  | [], σ, st, Q, Q', h => by exact h _ _
  | e :: es, σ, st, Q, Q', h => by
    refine wpE_mono hC hE e fun _ _ => truW_mono fun k => ?_
    split
    · exact wpTs_mono hC hE es h
    · exact h _ _
end
structure Post.Le (P P' : Post) : Prop where
  nx : ∀ σ st, P.nx σ st → P'.nx σ st
  rt : ∀ d st, P.rt d st → P'.rt d st
  bk : ∀ σ st, P.bk σ st → P'.bk σ st
  ct : ∀ σ st, P.ct σ st → P'.ct σ st
  ex : ∀ c σ st, P.ex c σ st → P'.ex c σ st
theorem setW_mono {o i v : D} {st : Store} {Q Q' : Store → Prop} (h : ∀ st, Q st → Q' st) : setW o i v st Q → setW o i v st Q' := by
  unfold setW
  split
  · exact lstAt_mono fun _ => optK_mono fun _ => h _
  · exact id
theorem tgW_mono {C C' : CallT} {sub} {E E' : XK} (hC : CMono C C') (hE : ∀ c st, E c st → E' c st) {d : D} {Q Q' : St → Store → Prop} (h : ∀ σ st, Q σ st → Q' σ st) : ∀ (t : Tg) {σ : St} {st : Store}, tgW C sub E t d σ st Q → tgW C' sub E' t d σ st Q'
  | .nm i, _, _ => by exact h _ _
  | .tp is, _, _ => by exact bindT_mono fun _ => h _ _
  | .ix o i, _, _ => by exact wpE_mono hC hE o fun _ _ => wpE_mono hC hE i fun _ _ => setW_mono fun _ => h _ _
  | .fl c f o, _, _ => by exact wpE_mono hC hE o fun _ _ => sfW_mono fun _ => h _ _
  | .dk o i, _, _ => by exact wpE_mono hC hE o fun _ _ => wpE_mono hC hE i fun _ _ => sdW_mono fun _ => h _ _
theorem forW_mono {g : Store → Prop} {turn turn' : D → (St → Store → Prop) → St → Store → Prop} {N N' : St → Store → Prop}
    (ht : ∀ x M M' σ st, (∀ σ st, M σ st → M' σ st) → turn x M σ st → turn' x M' σ st) (h : ∀ σ st, N σ st → N' σ st) : ∀ {xs : List D} {σ : St} {st : Store}, forW g turn N xs σ st → forW g turn' N' xs σ st
  | [], _, _, z => ⟨z.1, h _ _ z.2⟩
  | _ :: _, _, _, z => ⟨z.1, ht _ _ _ _ _ (fun _ _ => forW_mono ht h) z.2⟩
theorem whileN_mono {turn turn' : (St → Store → Prop) → St → Store → Prop} (ht : ∀ M M' σ st, (∀ σ st, M σ st → M' σ st) → turn M σ st → turn' M' σ st) : ∀ {n : Nat} {σ : St} {st : Store}, whileN turn n σ st → whileN turn' n σ st
  | 0, _, _, z => z
  | n + 1, _, _, z => ht _ _ _ _ (fun _ _ => whileN_mono ht) z
theorem noCall_mono : CMono noCall noCall := fun _ _ _ _ _ _ _ _ _ x => x
mutual
theorem wpS_mono {C C' : CallT} {sub} (hC : CMono C C') : ∀ (s : Sx) {P P' : Post} {σ : St} {st : Store}, P.Le P' → wpS C sub s P σ st → wpS C' sub s P' σ st
  | .ex e, P, P', σ, st, h => by exact wpE_mono hC (fun _ _ => h.ex _ _ _) e fun _ _ => h.nx _ _
  | .asg t e, P, P', σ, st, h => by exact wpE_mono hC (fun _ _ => h.ex _ _ _) e fun _ _ => tgW_mono hC (fun _ _ => h.ex _ _ _) h.nx t
  | .aug i op e, P, P', σ, st, h => by
    exact getV_mono fun x => wpE_mono hC (fun _ _ => h.ex _ _ _) e fun _ _ z => ⟨z.1, binW_mono (fun _ _ => h.nx _ _) z.2⟩
  | .iff c a b, P, P', σ, st, h => by
    refine wpE_mono hC (fun _ _ => h.ex _ _ _) c fun _ _ => truW_mono fun k => ?_
    split
    · exact wpSs_mono hC a h
    · exact wpSs_mono hC b h
  | .whl c b, P, P', σ, st, h => by
    rintro ⟨n, z⟩
    refine ⟨n, whileN_mono (fun M M' σ st hM => wpE_mono hC (fun _ _ => h.ex _ _ _) c fun _ _ => truW_mono fun k => ?_) z⟩
    split
    · exact wpSs_mono hC b ⟨hM, h.rt, h.nx, hM, h.ex⟩
    · exact h.nx _ _
  | .forr t k its b, P, P', σ, st, h => by
    refine wpEs_mono hC (fun _ _ => h.ex _ _ _) its fun _ _ => itrW_mono fun as xs => ?_
    exact forW_mono (fun x M M' σ st hM => tgW_mono hC (fun _ _ => h.ex _ _ _) (fun _ _ => wpSs_mono hC b (P := { P with nx := M, ct := M, bk := P.nx }) (P' := { P' with nx := M', ct := M', bk := P'.nx }) ⟨hM, h.rt, h.nx, hM, h.ex⟩) t) h.nx
  | .ret e, P, P', σ, st, h => by exact wpE_mono hC (fun _ _ => h.ex _ _ _) e h.rt
  | .brk, P, P', σ, st, h => by exact h.bk _ _
  | .cnt, P, P', σ, st, h => by exact h.ct _ _
  | .pass, P, P', σ, st, h => by exact h.nx _ _
  | .rais c es, P, P', σ, st, h => by exact wpEs_mono hC (fun _ _ => h.ex _ _ _) es fun _ _ => h.ex _ _ _
  | .tryy b c n hh, P, P', σ, st, h => by
    refine wpSs_mono hC b ⟨h.nx, h.rt, h.bk, h.ct, fun c' σ st => ?_⟩
    show (if sub c' c = true then _ else _) → (if sub c' c = true then _ else _)
    split
    · exact wpSs_mono noCall_mono hh ⟨fun _ _ => h.nx _ _, h.rt, fun _ _ => id, fun _ _ => id, fun _ _ _ => id⟩
    · exact h.ex _ _ _
theorem wpSs_mono {C C' : CallT} {sub} (hC : CMono C C') : ∀ (ss : List Sx) {P P' : Post} {σ : St} {st : Store}, P.Le P' → wpSs C sub ss P σ st → wpSs C' sub ss P' σ st
  | [], P, P', σ, st, h => by exact h.nx _ _
  | s :: ss, P, P', σ, st, h => by exact wpS_mono hC s ⟨fun _ _ => wpSs_mono hC ss h, h.rt, h.bk, h.ct, h.ex⟩
end
theorem wpFn_mono (G : Prog) : ∀ {j k : Nat}, j ≤ k → CMono (wpFn G j) (wpFn G k)
  | 0, k, _ => fun _ _ _ _ _ _ _ _ _ x => x.elim
  | j + 1, 0, h => by omega
  | j + 1, k + 1, h => fun f ds st Q Q' E E' hQ hE => by
    simp only [wpFn]
    split
    · exact id
    · have hj : j ≤ k := by omega
      exact fun z => ⟨z.1, wpSs_mono (wpFn_mono G hj) _ (P := ⟨fun _ st' => Q .non st', Q, fun _ _ => False, fun _ _ => False, fun c _ st' => E c st'⟩) (P' := ⟨fun _ st' => Q' .non st', Q', fun _ _ => False, fun _ _ => False, fun c _ st' => E' c st'⟩) ⟨fun _ _ => hQ _ _, hQ, fun _ _ => id, fun _ _ => id, fun _ _ _ => hE _ _⟩ z.2⟩
end L3
end
section
namespace L3
section
variable {C : CallT} {sub : Nat → Nat → Bool} {E : XK} {σ : St} {st : Store} {Q : VK} {P : Bool → Prop} {e a b c : Ex} {es : List Ex} {x y : D} {i j : Int} {u v : List Nat} {ds xs ys ks vs : List D} {p q : Nat} {K : List D → Prop} {M : List D → List D → Prop}
theorem wpSs_nil {R : Post} : wpSs C sub [] R σ st = R.nx σ st := rfl
theorem wpSs_cons {R : Post} {s : Sx} {ss : List Sx} : wpSs C sub (s :: ss) R σ st = wpS C sub s { R with nx := wpSs C sub ss R } σ st := rfl
theorem wpSs_c {R : Post} {s : Sx} {ss : List Sx} (h : wpS C sub s { R with nx := wpSs C sub ss R } σ st) : wpSs C sub (s :: ss) R σ st := h
theorem seqAt_lst (h : st p = some (.lst ds)) : seqAt st p K M = K ds := by unfold seqAt; rw [h]
theorem lstAt_lst (h : st p = some (.lst ds)) : lstAt st p K = K ds := by unfold lstAt; rw [h]
theorem optK_some {α : Type} {x : α} {K : α → Prop} : optK (some x) K = K x := rfl
theorem optK_none {α : Type} {K : α → Prop} : optK none K = False := rfl
theorem getV_0 {d : D} {r : St} {R : D → Prop} : getV (some d :: r) 0 R = R d := rfl
theorem getV_s {o : Option D} {r : St} {n : Nat} {R : D → Prop} : getV (o :: r) (n + 1) R = getV r n R := rfl
theorem put_same {o : MO} : put st p o p = some o := by unfold put; rw [if_pos rfl]
theorem put_ne {o : MO} (h : q ≠ p) : put st p o q = st q := by unfold put; rw [if_neg h]
theorem put_old {o u : MO} (h : st p = none) (h' : st q = some u) : put st p o q = some u := by
  rw [put_ne]; exact h'
  intro e; rw [e, h] at h'; cases h'
theorem tru_non : truW .non st P = P false := rfl
theorem tru_bl {k : Bool} : truW (.bl k) st P = P k := rfl
theorem tru_int : truW (.int i) st P = P (i != 0) := rfl
theorem tru_tup : truW (.tup ds) st P = P (!ds.isEmpty) := rfl
theorem tru_ref : truW (.ref p) st P = seqAt st p (fun ds => P (!ds.isEmpty)) fun ks _ => P (!ks.isEmpty) := rfl
theorem tru_mlst : truW (.mlst ds) st P = P (!ds.isEmpty) := rfl
theorem cmp_eq : cmpW .eq x y st P = (plainS st x ∧ plainS st y ∧ P (eqS st x y)) := rfl
theorem cmp_ne : cmpW .ne x y st P = (plainS st x ∧ plainS st y ∧ P (!eqS st x y)) := rfl
theorem cmp_lt : cmpW .lt (.int i) (.int j) st P = P (decide (i < j)) := rfl
theorem cmp_le : cmpW .le (.int i) (.int j) st P = P (decide (i ≤ j)) := rfl
theorem cmp_gt : cmpW .gt (.int i) (.int j) st P = P (decide (j < i)) := rfl
theorem cmp_ge : cmpW .ge (.int i) (.int j) st P = P (decide (j ≤ i)) := rfl
theorem cmp_isN : cmpW .is_ x .non st P = P (isNon x) := rfl
theorem cmp_isB {k : Bool} : cmpW .is_ x (.bl k) st P = P (isBl k x) := rfl
theorem cmp_notN : cmpW .isnot x .non st P = P (!isNon x) := rfl
theorem cmp_notB {k : Bool} : cmpW .isnot x (.bl k) st P = P (!isBl k x) := rfl
theorem cmp_in_tup : cmpW .in_ x (.tup ds) st P = (plainS st x ∧ plainSs st ds ∧ P (ds.any fun d => eqS st d x)) := rfl
theorem cmp_in_mdic {w : List Nat} : cmpW .in_ (.str w) (.mdic ks vs) st P = P (ks.any fun d => eqD d (.str w)) := rfl
theorem cmp_in_str : cmpW .in_ (.str u) (.str v) st P = P (occurs u v) := rfl
theorem cmp_nin_tup : cmpW .notin x (.tup ds) st P = (plainS st x ∧ plainSs st ds ∧ P (!ds.any fun d => eqS st d x)) := rfl
theorem cmp_nin_mdic {w : List Nat} : cmpW .notin (.str w) (.mdic ks vs) st P = P (!ks.any fun d => eqD d (.str w)) := rfl
theorem cmp_nin_str : cmpW .notin (.str u) (.str v) st P = P (!occurs u v) := rfl
theorem add_int : binW .add (.int i) (.int j) st Q = Q (.int (i + j)) st := rfl
theorem add_str : binW .add (.str u) (.str v) st Q = (u.length + v.length ≤ LINE ∧ Q (.str (u ++ v)) st) := rfl
theorem add_tup : binW .add (.tup xs) (.tup ys) st Q = (xs.length + ys.length ≤ LINE ∧ Q (.tup (xs ++ ys)) st) := rfl
theorem add_ref : binW .add (.ref p) (.ref q) st Q = lstAt st p fun xs => lstAt st q fun ys => newL (xs ++ ys) st Q := rfl
theorem sub_int : binW .sub (.int i) (.int j) st Q = Q (.int (i - j)) st := rfl
theorem mul_int : binW .mul (.int i) (.int j) st Q = ((smallI i ∨ smallI j) ∧ Q (.int (i * j)) st) := rfl
theorem mul_str {z : List Nat} : binW .mul (.str z) (.int i) st Q = ((z.length ≤ 1000 ∧ 0 ≤ i ∧ i < 1000) ∧ Q (.str (List.replicate i.toNat z).flatten) st) := rfl
theorem mul_tup : binW .mul (.tup xs) (.int i) st Q = ((0 < xs.length ∧ xs.length ≤ 1000 ∧ 1 ≤ i ∧ i < 1000) ∧ Q (.tup (List.replicate i.toNat xs).flatten) st) := rfl
theorem fdiv_int : binW .fdiv (.int i) (.int j) st Q = ((0 < j ∧ j < 1073741824) ∧ Q (.int (i / j)) st) := rfl
theorem mod_int : binW .mod (.int i) (.int j) st Q = (0 < j ∧ Q (.int (i % j)) st) := rfl
theorem pow_int : binW .pow (.int i) (.int j) st Q = ((0 ≤ j ∧ j ≤ 1000000 ∧ i.natAbs < 18446744073709551616) ∧ Q (.int (i ^ j.toNat)) st) := rfl
theorem neg_int : negW (.int i) st Q = Q (.int (-i)) st := rfl
theorem isi_one {t : Ty} : isiW sub x st [t] P = isOne sub x st t P := rfl
theorem isi_two {t t' : Ty} {ts : List Ty} : isiW sub x st (t :: t' :: ts) P = isOne sub x st t fun b => if b = true then P true else isiW sub x st (t' :: ts) P := rfl
theorem ix_tup : ixW (.tup ds) (.int i) st Q = optK (atI ds i) fun d => Q d st := rfl
theorem ix_mlst : ixW (.mlst ds) (.int i) st Q = optK (atI ds i) fun d => Q d st := rfl
theorem ix_str : ixW (.str u) (.int i) st Q = (u.length ≤ LINE ∧ optK (atI u i) fun c => Q (.str [c]) st) := rfl
theorem ix_mdic {w : List Nat} : ixW (.mdic ks vs) (.str w) st Q = optK (lookD ks vs (.str w)) fun d => Q d st := rfl
theorem ix_lst (h : st p = some (.lst ds)) : ixW (.ref p) (.int i) st Q = optK (atI ds i) fun d => Q d st := by
  show seqAt st p _ _ = _
  rw [seqAt_lst h]
theorem atI_nat {α : Type} {xs : List α} {n : Nat} (h : n < xs.length) : atI xs (n : Int) = xs[n]? := by
  unfold atI ixN
  rw [if_pos (by omega), if_pos (by omega)]
  simp
theorem at_0 {α : Type} {x : α} {r : List α} : atI (x :: r) 0 = some x := atI_nat (n := 0) (by simp)
theorem at_1 {α : Type} {x y : α} {r : List α} : atI (x :: y :: r) 1 = some y := atI_nat (n := 1) (by simp)
theorem at_2 {α : Type} {x y z : α} {r : List α} : atI (x :: y :: z :: r) 2 = some z := atI_nat (n := 2) (by simp)
theorem at_3 {α : Type} {x y z w : α} {r : List α} : atI (x :: y :: z :: w :: r) 3 = some w := atI_nat (n := 3) (by simp)
theorem at_4 {α : Type} {x y z w t : α} {r : List α} : atI (x :: y :: z :: w :: t :: r) 4 = some t := atI_nat (n := 4) (by simp)
theorem part_0 {R : Option Int → Prop} : partW [] R = R none := rfl
theorem part_1 {R : Option Int → Prop} : partW [.int i] R = R (some i) := rfl
theorem sl_tup {lo hi : Option Int} : slW (.tup ds) lo hi st Q = Q (.tup (cut ds lo hi)) st := rfl
theorem sl_str {z : List Nat} {lo hi : Option Int} : slW (.str z) lo hi st Q = (z.length ≤ LINE ∧ Q (.str (cut z lo hi)) st) := rfl
theorem sl_ref {lo hi : Option Int} : slW (.ref p) lo hi st Q = lstAt st p fun ds => ∀ p, st p = none → Q (.ref p) (put st p (.lst (cut ds lo hi))) := rfl
theorem cut_1 {α : Type} {d : α} {ds : List α} : cut (d :: ds) (some 1) none = ds := by simp [cut, sIx]
theorem cut_len {α : Type} {xs : List α} {lo hi : Option Int} : (cut xs lo hi).length ≤ xs.length := by simp only [cut, List.length_take, List.length_drop]; omega
theorem itr_val {R : List Nat → List D → Prop} : itrW none [x] st R = iterW x st R := rfl
theorem iter_tup {R : List Nat → List D → Prop} : iterW (.tup ds) st R = R [] ds := rfl
theorem iter_str {R : List Nat → List D → Prop} : iterW (.str u) st R = (u.length ≤ LINE ∧ R [] (u.map fun c => .str [c])) := rfl
theorem iter_ref {R : List Nat → List D → Prop} : iterW (.ref p) st R = lstAt st p fun ds => R [p] ds := rfl
theorem iter_mlst {R : List Nat → List D → Prop} : iterW (.mlst ds) st R = R [] ds := rfl
theorem seq_tup {R : List Nat → List D → Prop} : seqW (.tup ds) st R = R [] ds := rfl
theorem seq_ref {R : List Nat → List D → Prop} : seqW (.ref p) st R = lstAt st p fun ds => R [p] ds := rfl
theorem seq_mlst {R : List Nat → List D → Prop} : seqW (.mlst ds) st R = R [] ds := rfl
theorem itr_range1 {R : List Nat → List D → Prop} : itrW (some .range) [.int j] st R = (small62 j ∧ R [] (rangeD 0 j.toNat)) := rfl
theorem itr_range2 {R : List Nat → List D → Prop} : itrW (some .range) [.int i, .int j] st R = (small62 i ∧ small62 j ∧ R [] (rangeD i (j - i).toNat)) := rfl
theorem itr_rev {R : List Nat → List D → Prop} : itrW (some .rev) [x] st R = seqW x st fun as xs => R as xs.reverse := rfl
theorem bi_len : biW .len [x] st Q = lenW x st fun n => Q (.int (n : Nat)) st := rfl
theorem len_tup {R : Nat → Prop} : lenW (.tup ds) st R = R ds.length := rfl
theorem len_mlst {R : Nat → Prop} : lenW (.mlst ds) st R = R ds.length := rfl
theorem len_str {R : Nat → Prop} : lenW (.str u) st R = (u.length ≤ LINE ∧ R u.length) := rfl
theorem len_ref {R : Nat → Prop} : lenW (.ref p) st R = seqAt st p (fun ds => R ds.length) fun ks _ => R ks.length := rfl
theorem bi_all : biW .all [x] st Q = seqW x st fun _ xs => itemsW .all xs st Q := rfl
theorem bi_any : biW .any [x] st Q = seqW x st fun _ xs => itemsW .any xs st Q := rfl
theorem bi_max : biW .max [x] st Q = seqW x st fun _ xs => itemsW .max xs st Q := by cases x <;> rfl
theorem bi_min : biW .min [x] st Q = seqW x st fun _ xs => itemsW .min xs st Q := by cases x <;> rfl
theorem bi_sum : biW .sum [x] st Q = seqW x st fun _ xs => itemsW .sum xs st Q := by cases x <;> rfl
theorem bi_list : biW .list [x] st Q = seqW x st fun _ xs => itemsW .list xs st Q := rfl
theorem bi_tuple : biW .tuple [x] st Q = seqW x st fun _ xs => itemsW .tuple xs st Q := rfl
theorem bi_lenset {ds : List D} : biW .lenset [.tup ds] st Q = optK (strsOf ds) fun ws => ws.length < 4000 ∧ Q (.int (ndS [] ws : Nat)) st := rfl
theorem bi_max2 : biW .max [.int i, .int j] st Q = Q (.int (if j > i then j else i)) st := rfl
theorem bi_int : biW .int [.int i] st Q = Q (.int i) st := rfl
theorem bi_intb {k : Bool} : biW .int [.bl k] st Q = Q (.int (if k then 1 else 0)) st := rfl
theorem it_all : itemsW .all xs st Q = optK (boolsOf xs) fun bs => Q (.bl (bs.all id)) st := rfl
theorem it_any : itemsW .any xs st Q = optK (boolsOf xs) fun bs => Q (.bl (bs.any id)) st := rfl
theorem it_sum : itemsW .sum xs st Q = optK (intsOf xs) fun is => Q (.int is.sum) st := rfl
theorem it_list : itemsW .list xs st Q = newL xs st Q := rfl
theorem it_tuple : itemsW .tuple xs st Q = (xs.length ≤ LINE ∧ Q (.tup xs) st) := rfl
theorem own_tup : ownW (.tup ds) st K = K ds := rfl
theorem own_ref : ownW (.ref p) st K = lstAt st p K := rfl
theorem rcv_append : rcvW .append (.ref p) st = lstAt st p fun _ => True := rfl
theorem rcv_extend : rcvW .extend (.ref p) st = lstAt st p fun _ => True := rfl
theorem rcv_pop : rcvW .pop (.ref p) st = lstAt st p fun _ => True := rfl
theorem rcv_join {z : List Nat} : rcvW .join (.str z) st = True := rfl
theorem rcv_startswith {z : List Nat} : rcvW .startswith (.str z) st = True := rfl
theorem rcv_get {ks vs : List D} : rcvW .get (.mdic ks vs) st = True := rfl
theorem mt_join {s : List Nat} {d : D} : methW .join (.str s) [d] st Q = ownW d st fun ds => optK (strsOf ds) fun ws => (ws.map List.length).sum + ws.length * s.length ≤ LINE ∧ Q (.str (joinS s ws)) st := rfl
theorem mt_startswith {z w : List Nat} {i : Int} : methW .startswith (.str z) [.str w, .int i] st Q = ((z.length ≤ LINE ∧ 0 ≤ i ∧ i ≤ z.length) ∧ Q (.bl (w.isPrefixOf (z.drop i.toNat))) st) := rfl
theorem mt_get {ks vs : List D} {w : List Nat} : methW .get (.mdic ks vs) [.str w] st Q = Q ((lookD ks vs (.str w)).getD .non) st := rfl
theorem mt_append : methW .append (.ref p) [x] st Q = lstAt st p fun xs => xs.length < LINE ∧ Q .non (put st p (.lst (xs ++ [x]))) := rfl
theorem mt_extend : methW .extend (.ref p) [x] st Q = lstAt st p fun xs => ownW x st fun ys => xs.length + ys.length ≤ LINE ∧ Q .non (put st p (.lst (xs ++ ys))) := rfl
theorem mt_pop : methW .pop (.ref p) [] st Q = lstAt st p fun xs => optK (xs[xs.length - 1]?) fun d => Q d (put st p (.lst xs.dropLast)) := rfl
theorem set_ref {R : Store → Prop} : setW (.ref p) (.int i) x st R = lstAt st p fun xs => optK (ixN xs.length i) fun j => R (put st p (.lst (xs.set j x))) := rfl
theorem bind_1 {n : Nat} {R : St → Prop} : bindT true [n] x σ R = R (σ.set n (some x)) := rfl
theorem bind_t {is : List Nat} {R : St → Prop} : bindT false is (.tup ds) σ R = (ds.length = is.length ∧ R ((is.zip ds).foldl (fun σ p => σ.set p.1 (some p.2)) σ)) := by cases is <;> rfl
end
theorem Ext.refl {st : Store} : Ext st st := fun _ _ h => h
theorem Ext.trans {a b c : Store} (h : Ext a b) (h' : Ext b c) : Ext a c := fun x o e => h' x o (h x o e)
theorem Ext.new {st : Store} {p : Nat} {o : MO} (h : st p = none) : Ext st (put st p o) := fun a u e => put_old h e
end L3
end
section
namespace L3
theorem comp_map {g : Store → Prop} {turn : D → Store → (Option D → Store → Prop) → Prop} {R : List D → Store → Prop} (f : D → D) : ∀ (xs acc : List D) (st : Store),
    (∀ st', Ext st st' → g st') → (∀ x ∈ xs, ∀ st' (K : Option D → Store → Prop), Ext st st' → (∀ st'', Ext st' st'' → K (some (f x)) st'') → turn x st' K) →
    acc.length + xs.length ≤ LINE → (∀ st', Ext st st' → R (acc ++ xs.map f) st') → compW g turn xs acc st R
  | [], acc, st, hg, _, _, hR => ⟨hg st .refl, by simpa using hR st .refl⟩
  | x :: xs, acc, st, hg, ht, hl, hR => by
    refine ⟨hg st .refl, by simp at hl; omega, ht x (by simp) st _ .refl fun st'' h'' => ?_⟩
    refine comp_map f xs (acc ++ [f x]) st'' (fun st' h => hg st' (h''.trans h)) (fun y hy st' K h => ht y (by simp [hy]) st' K (h''.trans h)) (by simp at hl ⊢; omega) fun st' h => ?_
    simpa using hR st' (h''.trans h)
theorem boolsOf_map {α : Type} (f : α → Bool) : ∀ xs : List α, boolsOf (xs.map fun x => .bl (f x)) = some (xs.map f)
  | [] => rfl
  | x :: xs => by simp [boolsOf, boolsOf_map f xs]
theorem intsOf_map {α : Type} (f : α → Int) : ∀ xs : List α, intsOf (xs.map fun x => .int (f x)) = some (xs.map f)
  | [] => rfl
  | x :: xs => by simp [intsOf, intsOf_map f xs]
mutual
theorem pureS_of {st : Store} : ∀ d : D, pureD d = true → pureS st d = true
  | .non, _ => rfl
  | .bl _, _ => rfl
  | .int _, _ => rfl
  | .str _, _ => rfl
  | .tup ds, h => by simp only [pureD] at h; simp only [pureS]; exact pureSs_of ds h
  | .ref _, h => by simp [pureD] at h
  | .mdic _ _, h => by simp [pureD] at h
  | .mlst _, h => by simp [pureD] at h
  | .exc _, h => by simp [pureD] at h
theorem pureSs_of {st : Store} : ∀ ds : List D, pureDs ds = true → pureSs st ds = true
  | [], _ => rfl
  | d :: ds, h => by
    simp only [pureDs, Bool.and_eq_true] at h
    simp only [pureSs, Bool.and_eq_true]
    exact ⟨pureS_of d h.1, pureSs_of ds h.2⟩
end
theorem plain.s {d : D} (h : plain d) {st : Store} : plainS st d := ⟨pureS_of d h.1, h.2⟩
theorem plain_str {x : List Nat} : plain (.str x) := ⟨rfl, Nat.zero_le _⟩
theorem plain_int {i : Int} : plain (.int i) := ⟨rfl, Nat.zero_le _⟩
theorem plain_bl {b : Bool} : plain (.bl b) := ⟨rfl, Nat.zero_le _⟩
theorem plain_non : plain .non := ⟨rfl, Nat.zero_le _⟩
theorem plainS_str {x : List Nat} {st : Store} : plainS st (.str x) := plain_str.s
theorem plainS_int {i : Int} {st : Store} : plainS st (.int i) := plain_int.s
theorem plainS_bl {b : Bool} {st : Store} : plainS st (.bl b) := plain_bl.s
theorem plainS_non {st : Store} : plainS st .non := plain_non.s
theorem eqS_str {st : Store} {x y : List Nat} : eqS st (.str x) (.str y) = (x == y) := by simp only [eqS]
theorem eqS_int {st : Store} {x y : Int} : eqS st (.int x) (.int y) = (x == y) := by simp only [eqS]
theorem eqS_bl {st : Store} {x y : Bool} : eqS st (.bl x) (.bl y) = (x == y) := by simp only [eqS]
theorem eqD_str {x y : List Nat} : eqD (.str x) (.str y) = (x == y) := by simp only [eqD]
theorem any_strs {st : Store} (x : List Nat) : ∀ xs : List (List Nat), ((xs.map D.str).any fun d => eqS st d (.str x)) = xs.contains x
  | [] => rfl
  | y :: xs => by
    simp only [List.map_cons, List.any_cons, eqS_str, any_strs x xs, List.contains_cons]
    congr 1
    exact Bool.beq_comm
end L3
end
section
namespace L3
open PySem PySem.Spec PyProof.Rows L2
mutual
noncomputable def hashD (w : World) : D → Int
  | .str x => hashStr w ⟨x.toArray⟩
  | .bl b => reduceHash (if b = true then 1 else 0)
  | .tup ds => reduceHash (Builtin.Tuple.tupleHashOf (hashDs w ds))
  | _ => 0
noncomputable def hashDs (w : World) : List D → List Int
  | [] => []
  | d :: ds => hashD w d :: hashDs w ds
end
noncomputable def entD (w : World) (x : D × Addr × Value) : DictEntry := ⟨hashD w x.1, .ref x.2.1, x.2.2⟩
noncomputable def TabIs (a : Addr) (xs : List (D × Addr × Value)) (w : World) (h : Heap) : Prop := ∃ o es ep, h.get? a = some o ∧ o.ExactDict ∧ o.data = .dict es ep ∧ es.toList = xs.map (entD w)
noncomputable def TabO (a : Addr) (xs : List (D × Addr × Value)) : HO := .ext fun _ w h => TabIs a xs w h
noncomputable def clsAt (K : PySem.W.Frag) (c : List Nat) (C : Addr) : Prop := PySem.W.nsIn K mainGlobals ⟨c.toArray⟩ = some (some (.ref C))
theorem clsAt.inj {K : PySem.W.Frag} {c : List Nat} {C C' : Addr} (h : clsAt K c C) (h' : clsAt K c C') : C = C' := by
  have := h.symm.trans h'
  injection this with e; injection e with e; injection e
end L3
end
section
namespace L3
open PySem PySem.Spec PyProof.Rows L2
noncomputable def FrzL (K : PySem.W.Frag) (H : Hp) (a : Addr) (vs : List V) : Prop :=
  (∃ o, H a = some (.frz o (.lst vs))) ∨ ∃ (o : Obj) (its : Array Value) (n : Nat), K.lookup a = some o ∧ o.cls = .type "list" ∧ o.dict = none ∧ o.data = .seq its n ∧ its.size ≤ sizeLine ∧ Vals vs its.toList
theorem FrzL.sq {K : PySem.W.Frag} {H : Hp} {a : Addr} {vs : List V} : FrzL K H a vs → SqL K H a vs
  | .inl ⟨o, h⟩ => .inl (.inr ⟨o, h⟩)
  | .inr h => .inr h
noncomputable def flatD : PyData → D
  | .bool b => .bl b
  | .int i => .int i
  | .str x => .str x.cps.toList
  | _ => .non
noncomputable def simpleD : PyData → Bool
  | .none => true
  | .bool _ => true
  | .int _ => true
  | .str _ => true
  | _ => false
noncomputable def MTab (K : PySem.W.Frag) (a : Addr) (ks vs : List D) : Prop := ∃ T : List (Str × PyData), KTD.tabLook KTD.flatLooks (fun b => K.lookup b) a T = true ∧ (T.all fun p => simpleD p.2) = true ∧ ks = T.map (fun p => .str p.1.cps.toList) ∧ vs = T.map (fun p => flatD p.2)
mutual
inductive Rep (K : PySem.W.Frag) (H : Hp) : D → V → Prop where
  | non : Rep K H .non .non
  | bl (b : Bool) : Rep K H (.bl b) (.bl b)
  | int (i : Int) : Rep K H (.int i) (.int i)
  | str (x : List Nat) : Rep K H (.str x) (.str ⟨x.toArray⟩)
  | tup {ds : List D} {a : Addr} {vs : List V} (h : SqT K H a vs) (r : Reps K H ds vs) : Rep K H (.tup ds) (.ref a)
  | ref (a : Addr) : Rep K H (.ref a) (.ref a)
  | mlst {ds : List D} {a : Addr} {vs : List V} (h : FrzL K H a vs) (r : Reps K H ds vs) : Rep K H (.mlst ds) (.ref a)
  | mdic {ks vs : List D} {a : Addr} (h : MTab K a ks vs) : Rep K H (.mdic ks vs) (.ref a)
inductive Reps (K : PySem.W.Frag) (H : Hp) : List D → List V → Prop where
  | nil : Reps K H [] []
  | cons {d : D} {v : V} {ds : List D} {vs : List V} (h : Rep K H d v) (r : Reps K H ds vs) : Reps K H (d :: ds) (v :: vs)
end
noncomputable def FldsR (K : PySem.W.Frag) (H : Hp) (fs : List (List Nat × D)) (ws : List (Str × V)) : Prop := ws.map (·.1) = fs.map (fun p => (⟨p.1.toArray⟩ : Str)) ∧ Reps K H (fs.map (·.2)) (ws.map (·.2))
noncomputable def bears : HO → Bool
  | .lst _ => true
  | .ins _ _ _ => true
  | .ext _ => true
  | _ => false
noncomputable def ObjR (K : PySem.W.Frag) (H : Hp) (a : Addr) : MO → Prop
  | .lst ds => ∃ vs, H a = some (.lst vs) ∧ Reps K H ds vs
  | .dic _ _ => False
  | .ins c fs => ∃ C dx ws, clsAt K c C ∧ H a = some (.ins C dx ws) ∧ FldsR K H fs ws
  | .tab ks vs => ∃ (xs : List (D × Addr × Value)) (ws : List V), H a = some (TabO a xs) ∧ (a == sysModules) = false ∧ xs.map (·.1) = ks ∧ (xs.map (·.1)).Nodup ∧ Reps K H ks (xs.map fun x => .ref x.2.1) ∧ (∀ x ∈ xs, keyed x.1) ∧ Vals ws (xs.map (·.2.2)) ∧ Reps K H vs ws
noncomputable def StOk (K : PySem.W.Frag) (st : Store) (H : Hp) : Prop := ∀ a o, st a = some o → ObjR K H a o
noncomputable def Step (H : Hp) (st : Store) (H' : Hp) (st' : Store) : Prop := ∀ a o, H a = some o → st a = none → H' a = some o ∧ st' a = none
theorem Step.refl {H : Hp} {st : Store} : Step H st H st := fun _ _ h n => ⟨h, n⟩
theorem Step.trans {H H1 H2 : Hp} {st st1 st2 : Store} (a : Step H st H1 st1) (b : Step H1 st1 H2 st2) : Step H st H2 st2 := fun x o h n => let ⟨h1, n1⟩ := a x o h n; b x o h1 n1
section
variable {K : PySem.W.Frag} {H H' H1 : Hp} {st st' st1 : Store} {a p : Addr} {d : D} {v : V} {ds : List D} {vs : List V}
theorem ObjR.bears {m : MO} (h : ObjR K H a m) : ∃ o, H a = some o ∧ L3.bears o = true := by
  cases m with
  | lst ds => obtain ⟨vs, q, _⟩ := h; exact ⟨_, q, rfl⟩
  | dic _ _ => exact h.elim
  | ins c fs => obtain ⟨_, _, _, _, q, _⟩ := h; exact ⟨_, q, rfl⟩
  | tab ks vs => obtain ⟨_, _, q, _⟩ := h; exact ⟨_, q, rfl⟩
theorem StOk.noneOf (ok : StOk K st H) {o : HO} (h : H a = some o) (n : L3.bears o = false) : st a = none := by
  cases e : st a with
  | none => rfl
  | some u =>
    obtain ⟨o', e1, e2⟩ := (ok a u e).bears
    rw [h] at e1; cases e1
    rw [n] at e2; cases e2
theorem StOk.fresh (ok : StOk K st H) (h : H a = none) : st a = none := by
  cases e : st a with
  | none => rfl
  | some u =>
    obtain ⟨o', e1, e2⟩ := (ok a u e).bears
    rw [h] at e1; cases e1
theorem sqT_step (ok : StOk K st H) (s : Step H st H' st') (h : SqT K H a vs) : SqT K H' a vs := by
  rcases h with (h | ⟨o, h⟩) | h
  · exact .inl (.inl (s a _ h (ok.noneOf h rfl)).1)
  · exact .inl (.inr ⟨o, (s a _ h (ok.noneOf h rfl)).1⟩)
  · exact .inr h
theorem frzL_step (ok : StOk K st H) (s : Step H st H' st') (h : FrzL K H a vs) : FrzL K H' a vs := by
  rcases h with ⟨o, h⟩ | h
  · exact .inl ⟨o, (s a _ h (ok.noneOf h rfl)).1⟩
  · exact .inr h
mutual
theorem Rep.step (ok : StOk K st H) (s : Step H st H' st') : ∀ {d : D} {v : V}, Rep K H d v → Rep K H' d v
  | _, _, .non => .non
  | _, _, .bl b => .bl b
  | _, _, .int i => .int i
  | _, _, .str x => .str x
  | _, _, .tup h r => .tup (sqT_step ok s h) (Reps.step ok s r)
  | _, _, .ref a => .ref a
  | _, _, .mlst h r => .mlst (frzL_step ok s h) (Reps.step ok s r)
  | _, _, .mdic h => .mdic h
theorem Reps.step (ok : StOk K st H) (s : Step H st H' st') : ∀ {ds : List D} {vs : List V}, Reps K H ds vs → Reps K H' ds vs
  | _, _, .nil => .nil
  | _, _, .cons h r => .cons (Rep.step ok s h) (Reps.step ok s r)
end
theorem ObjR.step (ok : StOk K st H) (s : Step H st H' st') {m : MO} (h : ObjR K H a m) (e : H' a = H a) : ObjR K H' a m := by
  cases m with
  | lst ds => obtain ⟨vs, q, r⟩ := h; exact ⟨vs, e.trans q, r.step ok s⟩
  | dic _ _ => exact h
  | ins c fs => obtain ⟨C, dx, ws, q, q2, q3, r⟩ := h; exact ⟨C, dx, ws, q, e.trans q2, q3, r.step ok s⟩
  | tab ks vs => obtain ⟨xs, ws, q, q0, q1, q2, q3, q4, q5, r⟩ := h; exact ⟨xs, ws, e.trans q, q0, q1, q2, q3.step ok s, q4, q5, r.step ok s⟩
theorem Reps.length : ∀ {ds : List D} {vs : List V}, Reps K H ds vs → ds.length = vs.length
  | _, _, .nil => rfl
  | _, _, .cons _ r => by simp [Reps.length r]
theorem Reps.get : ∀ {ds : List D} {vs : List V} {i : Nat} {d : D}, Reps K H ds vs → ds[i]? = some d → ∃ v, vs[i]? = some v ∧ Rep K H d v
  | _, _, _, _, .nil, e => by simp at e
  | _, _, 0, _, .cons h _, e => by simp at e; subst e; exact ⟨_, rfl, h⟩
  | _, _, i + 1, d, .cons _ r, e => by
    obtain ⟨v, e1, e2⟩ := Reps.get (i := i) (d := d) r (by simpa using e)
    exact ⟨v, by simpa using e1, e2⟩
theorem Reps.append : ∀ {ds es : List D} {vs us : List V}, Reps K H ds vs → Reps K H es us → Reps K H (ds ++ es) (vs ++ us)
  | _, _, _, _, .nil, s => s
  | _, _, _, _, .cons h r, s => .cons h (Reps.append r s)
theorem Reps.take : ∀ {ds : List D} {vs : List V} (n : Nat), Reps K H ds vs → Reps K H (ds.take n) (vs.take n)
  | _, _, 0, _ => by simp; exact .nil
  | _, _, _ + 1, .nil => by simp; exact .nil
  | _, _, n + 1, .cons h r => by simp only [List.take_succ_cons]; exact .cons h (Reps.take n r)
theorem Reps.drop : ∀ {ds : List D} {vs : List V} (n : Nat), Reps K H ds vs → Reps K H (ds.drop n) (vs.drop n)
  | _, _, 0, r => by simpa using r
  | _, _, _ + 1, .nil => by simp; exact .nil
  | _, _, n + 1, .cons _ r => by simp only [List.drop_succ_cons]; exact Reps.drop n r
theorem Reps.set (h : Rep K H d v) : ∀ {ds : List D} {vs : List V} (i : Nat), Reps K H ds vs → Reps K H (ds.set i d) (vs.set i v)
  | _, _, _, .nil => by simp; exact .nil
  | _, _, 0, .cons _ r => by simp only [List.set_cons_zero]; exact .cons h r
  | _, _, i + 1, .cons q r => by simp only [List.set_cons_succ]; exact .cons q (Reps.set h i r)
theorem Reps.dropLast {ds : List D} {vs : List V} (r : Reps K H ds vs) : Reps K H ds.dropLast vs.dropLast := by
  rw [List.dropLast_eq_take, List.dropLast_eq_take, r.length]
  exact r.take _
inductive QD (K : PySem.W.Frag) (H : Hp) (st : Store) (R : VK) (v : V) (H' : Hp) : Prop where
  | mk (d : D) (st' : Store) (s : Step H st H' st') (ok : StOk K st' H') (r : Rep K H' d v) (q : R d st') : QD K H st R v H'
inductive QDs (K : PySem.W.Frag) (H : Hp) (st : Store) (R : List D → Store → Prop) (vs : List V) (H' : Hp) : Prop where
  | mk (ds : List D) (st' : Store) (s : Step H st H' st') (ok : StOk K st' H') (r : Reps K H' ds vs) (q : R ds st') : QDs K H st R vs H'
inductive QX (K : PySem.W.Frag) (H : Hp) (st : Store) (R : Store → Prop) (H' : Hp) : Prop where
  | mk (st' : Store) (s : Step H st H' st') (ok : StOk K st' H') (q : R st') : QX K H st R H'
theorem QD.here {R : VK} (ok : StOk K st H) (r : Rep K H d v) (h : R d st) : QD K H st R v H := ⟨d, st, .refl, ok, r, h⟩
theorem QD.after {R : VK} (s : Step H st H1 st1) (h : QD K H1 st1 R v H') : QD K H st R v H' := let ⟨d, st', s', ok, r, q⟩ := h; ⟨d, st', s.trans s', ok, r, q⟩
theorem step_new {o : HO} (hp : H p = none) : Step H st (upd H p o) st := fun a u h n => by
  have e : a ≠ p := fun e => by rw [e, hp] at h; cases h
  exact ⟨by rw [upd_ne e]; exact h, n⟩
theorem step_newL {o : HO} {m : MO} (hp : H p = none) : Step H st (upd H p o) (put st p m) := fun a u h n => by
  have e : a ≠ p := fun e => by rw [e, hp] at h; cases h
  exact ⟨by rw [upd_ne e]; exact h, by rw [put_ne e]; exact n⟩
theorem StOk.new {o : HO} (ok : StOk K st H) (hp : H p = none) : StOk K st (upd H p o) := fun a u e => by
  have ne : a ≠ p := fun z => by obtain ⟨o', q, _⟩ := (ok a u e).bears; rw [z, hp] at q; cases q
  exact (ok a u e).step ok (step_new (st := st) hp) (upd_ne ne)
theorem StOk.newO {o : HO} {m : MO} (ok : StOk K st H) (hp : H p = none) (r : ObjR K (upd H p o) p m) : StOk K (put st p m) (upd H p o) := fun a u e => by
  have s : Step H st (upd H p o) (put st p m) := step_newL hp
  by_cases ha : a = p
  · subst ha
    rw [put_same] at e; cases e
    exact r
  · rw [put_ne ha] at e
    exact (ok a u e).step ok s (upd_ne ha)
theorem StOk.newL (ok : StOk K st H) (hp : H p = none) (r : Reps K H ds vs) : StOk K (put st p (.lst ds)) (upd H p (.lst vs)) := fun a u e => by
  have s : Step H st (upd H p (.lst vs)) (put st p (.lst ds)) := step_newL hp
  by_cases ha : a = p
  · subst ha
    rw [put_same] at e; cases e
    exact ⟨vs, upd_same, r.step ok s⟩
  · rw [put_ne ha] at e
    exact (ok a u e).step ok s (upd_ne ha)
theorem QD.newT {R : VK} (ok : StOk K st H) (r : Reps K H ds vs) (hp : H p = none) (h : R (.tup ds) st) : QD K H st R (.ref p) (upd H p (.tup vs)) :=
  ⟨.tup ds, st, step_new hp, ok.new hp, .tup (SqT.of upd_same) (r.step ok (step_new (st := st) hp)), h⟩
theorem QD.newL {R : VK} (ok : StOk K st H) (r : Reps K H ds vs) (hp : H p = none) (h : ∀ p, st p = none → R (.ref p) (put st p (.lst ds))) : QD K H st R (.ref p) (upd H p (.lst vs)) :=
  ⟨.ref p, put st p (.lst ds), step_newL hp, ok.newL hp r, .ref p, h p (ok.fresh hp)⟩
theorem StOk.lst (ok : StOk K st H) (h : st a = some (.lst ds)) : ∃ vs, H a = some (.lst vs) ∧ Reps K H ds vs := ok a _ h
theorem step_set {o : HO} {m m' : MO} (h : st a = some m) : Step H st (upd H a o) (put st a m') := fun b u hb n => by
  have e : b ≠ a := fun e => by rw [e, h] at n; cases n
  exact ⟨by rw [upd_ne e]; exact hb, by rw [put_ne e]; exact n⟩
theorem StOk.set (ok : StOk K st H) {m : MO} (h : st a = some m) (r : Reps K H ds vs) : StOk K (put st a (.lst ds)) (upd H a (.lst vs)) := fun b u e => by
  have s : Step H st (upd H a (.lst vs)) (put st a (.lst ds)) := step_set h
  by_cases ha : b = a
  · subst ha
    rw [put_same] at e; cases e
    exact ⟨vs, upd_same, r.step ok s⟩
  · rw [put_ne ha] at e
    exact (ok b u e).step ok s (upd_ne ha)
theorem StOk.setO {o : HO} {m m' : MO} (ok : StOk K st H) (h : st a = some m) (r : ObjR K (upd H a o) a m') : StOk K (put st a m') (upd H a o) := fun b u e => by
  have s : Step H st (upd H a o) (put st a m') := step_set h
  by_cases ha : b = a
  · subst ha
    rw [put_same] at e; cases e
    exact r
  · rw [put_ne ha] at e
    exact (ok b u e).step ok s (upd_ne ha)
theorem QD.set {R : VK} (ok : StOk K st H) {m : MO} (h : st a = some m) (r : Reps K H ds vs) (rd : Rep K H d v) (q : R d (put st a (.lst ds))) : QD K H st R v (upd H a (.lst vs)) :=
  ⟨d, put st a (.lst ds), step_set h, ok.set h r, rd.step ok (step_set (m' := .lst ds) h), q⟩
end
noncomputable def SRel (K : PySem.W.Frag) (H : Hp) (σd : St) (σ : L2.St) : Prop := σd.length = σ.length ∧ ∀ (i : Nat) (d : D), σd[i]? = some (some d) → ∃ v, σ[i]? = some (some v) ∧ Rep K H d v
theorem SRel.step {K : PySem.W.Frag} {H H' : Hp} {st st' : Store} {σd : St} {σ : L2.St} (r : SRel K H σd σ) (ok : StOk K st H) (s : Step H st H' st') : SRel K H' σd σ :=
  ⟨r.1, fun i d e => let ⟨v, e1, e2⟩ := r.2 i d e; ⟨v, e1, e2.step ok s⟩⟩
theorem SRel.set {K : PySem.W.Frag} {H : Hp} {σd : St} {σ : L2.St} {d : D} {v : V} (r : SRel K H σd σ) (i : Nat) (h : Rep K H d v) : SRel K H (σd.set i (some d)) (σ.set i (some v)) := by
  refine ⟨by simpa using r.1, fun j e hj => ?_⟩
  by_cases q : j = i
  · subst q
    by_cases hl : j < σd.length
    · rw [List.getElem?_set_self hl] at hj
      cases hj
      exact ⟨v, by rw [List.getElem?_set_self (by rw [← r.1]; exact hl)], h⟩
    · rw [List.getElem?_eq_none (by simp; omega)] at hj; cases hj
  · rw [List.getElem?_set_ne (Ne.symm q)] at hj
    obtain ⟨u, e1, e2⟩ := r.2 j e hj
    exact ⟨u, by rw [List.getElem?_set_ne (Ne.symm q)]; exact e1, e2⟩
noncomputable abbrev TEd := St → Store → VK → Prop
inductive tOf (K : PySem.W.Frag) (te : TEd) (σ : L2.St) (H : Hp) (Q : L2.VK) : Prop where
  | mk (σd : St) (st : Store) (R : VK) (r : SRel K H σd σ) (ok : StOk K st H) (q : te σd st R) (hq : ∀ v H', QD K H st R v H' → Q v H') : tOf K te σ H Q
inductive taOf (K : PySem.W.Frag) (te : St → Store → (List D → Store → Prop) → Prop) (σ : L2.St) (H : Hp) (Q : List V → Hp → Prop) : Prop where
  | mk (σd : St) (st : Store) (R : List D → Store → Prop) (r : SRel K H σd σ) (ok : StOk K st H) (q : te σd st R) (hq : ∀ vs H', QDs K H st R vs H' → Q vs H') : taOf K te σ H Q
inductive ttOf (K : PySem.W.Frag) (te : TEd) (σ : L2.St) (H : Hp) (Q : Bool → Hp → Prop) : Prop where
  | mk (σd : St) (st : Store) (R : Bool → Store → Prop) (r : SRel K H σd σ) (ok : StOk K st H) (q : te σd st (fun d st' => truW d st' fun b => R b st')) (hq : ∀ (b : Bool) H', QX K H st (R b) H' → Q b H') : ttOf K te σ H Q
theorem _root_.L2.PE.imp {X : Cx} {e : Expr} {t t' : L2.TE} (i : ∀ σ H Q, t' σ H Q → t σ H Q) (h : PE X e t) : PE X e t' := fun pins s σ H Q I q => h pins s σ H Q I (i σ H Q q)
theorem _root_.L2.PT.imp {X : Cx} {e : Expr} {t t' : L2.TT} (i : ∀ σ H Q, t' σ H Q → t σ H Q) (h : PT X e t) : PT X e t' := fun pins s σ H Q I q => h pins s σ H Q I (i σ H Q q)
theorem _root_.L2.PW.imp {X : Cx} {e : Expr} {t t' : L2.TT} (i : ∀ σ H Q, t' σ H Q → t σ H Q) (h : PW X e t) : PW X e t' := fun wh pins s σ H Q I q => h wh pins s σ H Q I (i σ H Q q)
theorem _root_.L2.PA.imp {X : Cx} {es : List Expr} {t t' : L2.TA} (i : ∀ σ H Q, t' σ H Q → t σ H Q) (h : PA X es t) : PA X es t' := fun pos pins s σ H Q I q => h pos pins s σ H Q I (i σ H Q q)
theorem _root_.L2.PS.imp {X : Cx} {e : Stmt} {t t' : L2.TS} (i : ∀ D σ H, t' D σ H → t D σ H) (h : PS X e t) : PS X e t' := fun pins s σ H D I q => h pins s σ H D I (i D σ H q)
theorem _root_.L2.PSs.imp {X : Cx} {e : List Stmt} {t t' : L2.TS} (i : ∀ D σ H, t' D σ H → t D σ H) (h : PSs X e t) : PSs X e t' := fun pins s σ H D I q => h pins s σ H D I (i D σ H q)
end L3
end
section
namespace L3
open PySem PySem.Spec PyProof.Rows L2
theorem line_eq : sizeLine = LINE := sizeLine_eq
section
variable {X : Cx} {C : CallT} {sub : Nat → Nat → Bool} {E : XK} {a b c e : Expr} {x y z : Ex} {pos : Pos}
theorem j_const {d : D} {v : V} (h : PE X e (tC v)) (r : ∀ H, Rep X.K H d v) : PE X e (tOf X.K (wpE C sub E (.c d))) :=
  h.imp fun σ H Q ⟨σd, st, R, _, ok, q, hq⟩ => by
    exact hq v H (.here ok (r H) q)
set_option tactic.hygienic true in
theorem j_var {i : Nat} (h : PE X e (tVar i)) : PE X e (tOf X.K (wpE C sub E (.v i))) :=
  h.imp fun σ H Q ⟨σd, st, R, r, ok, q, hq⟩ => by
    have q : getV σd i (fun d => R d st) := q
    unfold getV at q
    split at q
    · rename_i d ed
      obtain ⟨v, e1, e2⟩ := r.2 i d ed
      exact ⟨v, e1, hq v H (.here ok e2 q)⟩
    · exact q.elim
theorem j_nil : PA X [] (taOf X.K (wpEs C sub E [])) :=
  pa_nil.imp fun σ H Q ⟨σd, st, R, r, ok, q, hq⟩ => by
    exact hq [] H ⟨[], st, .refl, ok, .nil, q⟩
theorem j_cons {es : List Expr} {xs : List Ex} (h : PE X e (tOf X.K (wpE C sub E x))) (hs : PA X es (taOf X.K (wpEs C sub E xs)))
    (hst : starEach (e :: es) X.env = (false, eval e X.env) :: starEach es X.env) : PA X (e :: es) (taOf X.K (wpEs C sub E (x :: xs))) :=
  (pa_cons h hs hst).imp fun σ H Q ⟨σd, st, R, r, ok, q, hq⟩ => by
    refine ⟨σd, st, _, r, ok, q, fun v H1 ⟨d, st1, s1, ok1, r1, q1⟩ => ?_⟩
    refine ⟨σd, st1, _, r.step ok s1, ok1, q1, fun vs H2 ⟨ds, st2, s2, ok2, r2, q2⟩ => ?_⟩
    exact hq _ _ ⟨d :: ds, st2, s1.trans s2, ok2, .cons (r1.step ok1 s2) r2, q2⟩
theorem wpEs_len : ∀ (xs : List Ex) {σ : St} {st : Store} {R : List D → Store → Prop}, CMono C C → wpEs C sub E xs σ st R → wpEs C sub E xs σ st (fun ds st' => ds.length = xs.length ∧ R ds st')
  | [], σ, st, R, _, h => by exact ⟨rfl, h⟩
  | x :: xs, σ, st, R, hC, h => by
    refine wpE_mono hC (fun _ _ z => z) x (fun d st' h' => ?_) h
    exact wpEs_mono hC (fun _ _ z => z) xs (fun ds st'' z => ⟨by simp [z.1], z.2⟩) (wpEs_len xs hC h')
theorem j_tup {es : List Expr} {xs : List Ex} {k : Nat} (hC : CMono C C) (hs : PA X es (taOf X.K (wpEs C sub E xs))) (hl : xs.length ≤ LINE) : PE X (.Tuple es k pos) (tOf X.K (wpE C sub E (.tup xs))) :=
  (pe_tup hs).imp fun σ H Q ⟨σd, st, R, r, ok, q, hq⟩ => by
    refine ⟨σd, st, _, r, ok, wpEs_len xs hC q, fun vs H1 ⟨ds, st1, s1, ok1, r1, l1, q1⟩ => ⟨?_, fun p hp => ?_⟩⟩
    · rw [line_eq, ← r1.length, l1]; exact hl
    · exact hq _ _ (.after s1 (.newT ok1 r1 hp q1))
theorem j_lst {es : List Expr} {xs : List Ex} (hs : PA X es (taOf X.K (wpEs C sub E xs))) : PE X (.List es pos) (tOf X.K (wpE C sub E (.lst xs))) :=
  (pe_lst hs).imp fun σ H Q ⟨σd, st, R, r, ok, q, hq⟩ => by
    refine ⟨σd, st, _, r, ok, q, fun vs H1 ⟨ds, st1, s1, ok1, r1, q1⟩ => ⟨?_, fun p hp => ?_⟩⟩
    · rw [line_eq, ← r1.length]; exact q1.1
    · exact hq _ _ (.after s1 (.newL ok1 r1 hp q1.2))
theorem two {r : R2} {te tf : TEd} {σ : L2.St} {H : Hp} {Q : L2.VK} {σd : St} {st : Store} {W : D → D → Store → Prop} {R : VK}
    (sr : SRel X.K H σd σ) (ok : StOk X.K st H) (q : te σd st fun d st1 => tf σd st1 fun d' st2 => W d d' st2) (hq : ∀ v H', QD X.K H st R v H' → Q v H')
    (op : ∀ d d' v v' H2 st2, StOk X.K st2 H2 → Rep X.K H2 d v → Rep X.K H2 d' v' → W d d' st2 → r v v' H2 (QD X.K H2 st2 R))
    (mono : ∀ v v' H (Q Q' : L2.VK), (∀ v H, Q v H → Q' v H) → r v v' H Q → r v v' H Q') : tOp r (tOf X.K te) (tOf X.K tf) σ H Q := by
  refine ⟨σd, st, _, sr, ok, q, fun v H1 ⟨d, st1, s1, ok1, r1, q1⟩ => ?_⟩
  refine ⟨σd, st1, _, sr.step ok s1, ok1, q1, fun v' H2 ⟨d', st2, s2, ok2, r2, q2⟩ => ?_⟩
  refine mono _ _ _ _ _ (fun u H' z => hq u H' (.after (s1.trans s2) z)) (op d d' v v' H2 st2 ok2 (r1.step ok1 s2) r2 q2)
theorem rI0_mono {g : Int → Int → V} (v v' : V) (H : Hp) (Q Q' : L2.VK) (h : ∀ v H, Q v H → Q' v H) (z : rI0 g v v' H Q) : rI0 g v v' H Q' := let ⟨i, j, e, e', q⟩ := z; ⟨i, j, e, e', h _ _ q⟩
theorem rI_mono {P : Int → Int → Prop} {g : Int → Int → V} (v v' : V) (H : Hp) (Q Q' : L2.VK) (h : ∀ v H, Q v H → Q' v H) (z : rI P g v v' H Q) : rI P g v v' H Q' := let ⟨i, j, e, e', p, q⟩ := z; ⟨i, j, e, e', p, h _ _ q⟩
end
end L3
end
section
namespace L3
open PySem PySem.Spec PyProof.Rows L2
theorem noFill_tuple_mul : fillsNumberSlot (.type "tuple") "mul" = pure false := by kernel_rfl
theorem repeat_tuple : seqRepeat? (.type "tuple") = pure (some (.builtin "tuple.__mul__")) := by kernel_rfl
theorem int_rmul_tuple (a : Int) (t : Tok) (l : Addr) (items : Array Value) (n : Nat) (dd : Option Addr) (sl : Array (Option Value)) :
    Meets (Builtin.«int.__rmul__» ⟨[.int a t, .ref l], []⟩) (fun _ R s => s.heap.get? l = some { cls := .type "tuple", dict := dd, data := .seq items n, slots := sl } ∧ R (.ok (.ret Value.notImplemented)) s) :=
  .of_wp fun prog w A R s h => by obtain ⟨hp, g, d, tk, os⟩ := s; obtain ⟨hl, h⟩ := h; wp_walk; exact ⟨_, rfl, h⟩
section
variable {prog : Program} {w : World} {A : Around} {E : Value → Shared → Prop} {s : Shared}
theorem tuple_mul_wp {l : Addr} {items : Array Value} {n : Nat} {dd : Option Addr} {sl : Array (Option Value)} {k : Int} {t : Tok} {Q : PySem.Fin → Shared → Prop} (hl : s.heap.get? l = some { cls := .type "tuple", dict := dd, data := .seq items n, slots := sl })
    (h1 : 1 ≤ k) (h2 : k < 1000) (hm : 0 < items.size) (hm2 : items.size ≤ 1000) (hone : k = 1 → Q (.done (.ret (.ref l))) s)
    (h : Q (.done (.ret (.ref s.heap.objs.size))) { s with heap := s.heap.push { cls := .type "tuple", data := .seq ((List.replicate k.toNat items).foldl (· ++ ·) #[]) } }) :
    wpAny (model prog w) A (Builtin.«tuple.__mul__» ⟨[.ref l, .int k t], []⟩) Q E s := by
  have hT : s.TypeIs (.ref l) "tuple" := ⟨_, hl, rfl⟩
  unfold Builtin.«tuple.__mul__»
  wp_walk
  rw [if_neg (by simp; omega)]
  show wpAny _ _ (Builtin.Tuple.tupleItemsOf (.ref l) >>= _) _ _ s
  refine wpAny_bind (wpAny_tupleItemsOf hl rfl ?_)
  have hne : items.isEmpty = false := by
    rw [Array.isEmpty_eq_false_iff]; intro z; rw [z] at hm; simp at hm
  have jp : wpAny (model prog w) A (if (decide (k ≤ 0) || items.isEmpty) = true then do
              let __do_lift ← Builtin.Tuple.tupleExact #[]
              ret __do_lift
            else
              have __do_jp := fun (__r : Unit) =>
                have __do_jp := fun (__r : Unit) => do
                  let __do_lift ←
                    Builtin.Tuple.tupleExact (List.foldl (fun x1 x2 => x1 ++ x2) #[] (List.replicate k.toNat items))
                  ret __do_lift;
                if Builtin.Tuple.tupleTooMany (↑items.size * k) = true then do
                  let __r ← unsupported "tuple.__mul__:memory"
                  __do_jp __r
                else __do_jp ();
              if ↑items.size * k > (2 ^ 63 - 1) / 8 then do
                rule "tuple.repeat.no-memory"
                let __do_lift ← newExc (Value.type "MemoryError") []
                let __r ← raiseNew __do_lift
                __do_jp __r
              else __do_jp ()) Q E s := by
    rw [if_neg (by rw [hne]; simp; omega)]
    have hmul : (items.size : Int) * k ≤ 1000 * 1000 := Int.mul_le_mul (by omega) (by omega) (by omega) (by decide)
    have hmul0 : 0 ≤ (items.size : Int) * k := Int.mul_nonneg (by omega) (by omega)
    dsimp only
    rw [if_neg (by omega), if_neg (by simp [Builtin.Tuple.tupleTooMany, sizeLine_eq]; omega)]
    wp_walk
    have hsz : ¬ (List.foldl (fun x1 x2 => x1 ++ x2) #[] (List.replicate k.toNat items)).size > sizeLine := by
      have e1 := foldl_rep items.toList k.toNat []
      rw [List.nil_append] at e1
      have e2 : List.foldl (fun x1 x2 => x1 ++ x2) #[] (List.replicate k.toNat items) = (List.replicate k.toNat items.toList).flatten.toArray := by simpa using e1
      rw [e2, List.size_toArray, List.length_flatten, List.map_replicate, List.sum_replicate_nat, Array.length_toList, sizeLine_eq]
      have : k.toNat * items.size ≤ 1000 * 1000 := Nat.mul_le_mul (by omega) hm2
      omega
    rw [if_neg hsz]
    wp_walk
    exact h
  show wpAny _ _ (if (items.isEmpty || k == 1) = true then _ else _) _ _ s
  by_cases hk : k = 1
  · subst hk
    rw [if_pos (by simp)]
    wp_walk
    exact hone rfl
  · rw [if_neg (by rw [hne]; simpa using hk)]
    exact jp
end
noncomputable def rRepT (K : PySem.W.Frag) : R2 := fun x y H Q => ∃ (a : Addr) (k : Int) (xs : List V), x = .ref a ∧ y = .int k ∧ SqT K H a xs ∧ 0 < xs.length ∧ xs.length ≤ 1000 ∧ 1 ≤ k ∧ k < 1000 ∧ (k = 1 → Q (.ref a) H) ∧ ∀ p, H p = none → Q (.ref p) (upd H p (.tup (List.replicate k.toNat xs).flatten))
theorem op_repT {X : Cx} : OpR X (binaryOp .Mult) (rRepT X.K) := by
  intro pins s σ H x y v u Q I rx ry h
  obtain ⟨a, k, xs, rfl, rfl, hH, h0, h00, h1, h2, hone, q⟩ := h
  cases rx
  obtain ⟨t, rfl⟩ := ry
  obtain ⟨its, r, ⟨⟨cls, dd, data, sl⟩, ho, hc, n, hd⟩, z⟩ := I.tuple hH
  simp only at hc hd
  subst hc hd
  have hl : xs.length = its.length := r.length
  have hnew : List.foldl (fun x1 x2 => x1 ++ x2) #[] (List.replicate k.toNat its.toArray) = (List.replicate k.toNat its).flatten.toArray := by
    have := foldl_rep its k.toNat []
    rw [List.nil_append] at this
    exact this
  refine wpAny_binaryOp_repeat_ref (T := "tuple") (U := "int") (by decide) ⟨_, ho, rfl⟩ (fun s' => typeIs_int s' k t) noFill_tuple_mul PySem.F.fills_int_mul PySem.F.slot_int_rmul repeat_tuple PySem.F.slot_int_index.lookup
    (call_meets PySem.F.slot_int_rmul (typeIs_int s k t) PySem.F.entry_int_rmul (PySem.F.args_int_rmul_2 _ _) (int_rmul_tuple k t a its.toArray n dd sl)
      ⟨ho, rfl, ⟨_, ho, rfl⟩, wpAny_call_entry PySem.F.slot_tuple_mul ⟨_, ho, rfl⟩ PySem.F.entry_tuple_mul (tuple_mul_wp ho h1 h2 (by simpa [← hl] using h0) (by simpa [← hl] using h00) (fun e => ?_) ?_) (PySem.F.args_tuple_mul_2 _ _)⟩)
  · exact ⟨_, rfl, .ref a, H, I, rfl, hone e⟩
  · refine ⟨_, rfl, .ref s.heap.objs.size, _, I.laid (a := s.heap.objs.size) (o := .tup (List.replicate k.toNat xs).flatten) (t' := s.toks) (fun b u e => Heap.get?_push_of_some _ e) (Nat.le_refl _) ?_, rfl, q _ (I.hok.fresh (Nat.le_refl _))⟩
    refine ⟨by rw [len_rep, sizeLine_eq]; have : k.toNat * xs.length ≤ 1000 * 1000 := Nat.mul_le_mul (by omega) h00; omega, _, r.rep k.toNat, ?_⟩
    rw [hnew]
    exact TupO.new s.heap _
end L3
end
section
namespace L3
open PySem PySem.Spec PyProof.Rows L2
section
variable {X : Cx}
theorem cat_nil {prog : Program} {w : World} {A : Around} {E : Value → Shared → Prop} {s : Shared} {t b : Addr} {ws : List Value} {Q : Value → Shared → Prop} (ht : IsTup s.heap t #[]) (hb : IsTup s.heap b ws.toArray)
    (h : Q (.ref b) s) : wpAny (model prog w) A (binaryOp .Add (.ref t) (.ref b)) Q E s := by
  obtain ⟨⟨cls, dd, data, sl⟩, ho, hc, n, hd⟩ := id ht
  obtain ⟨⟨cls2, dd2, data2, sl2⟩, ho2, hc2, n2, hd2⟩ := id hb
  simp only at hc hd hc2 hd2
  subst hc hd hc2 hd2
  exact concat_meets ⟨_, ho, rfl⟩ ⟨_, ho2, rfl⟩ noFill_tuple_add seq_tuple_add PySem.F.slot_tuple_add PySem.F.entry_tuple_add (PySem.F.args_tuple_add_2 _ _)
    (tuple_addW0 t b #[] ws.toArray n n2 dd dd2 sl sl2 (by simp)) ⟨ho, ho2, h⟩
noncomputable def rNilT (K : PySem.W.Frag) : R2 := fun x y H Q => ∃ a b ys, x = .ref a ∧ y = .ref b ∧ SqT K H a [] ∧ SqT K H b ys ∧ Q (.ref b) H
theorem op_nilT : OpR X (binaryOp .Add) (rNilT X.K) := by
  intro pins s σ H x y v u Q I rx ry h
  obtain ⟨a, b, ys, rfl, rfl, ha, hb, q⟩ := h
  cases rx
  cases ry
  obtain ⟨its, r1, p1, _⟩ := I.tuple ha
  obtain ⟨its2, r2, p2, _⟩ := I.tuple hb
  have e : its = [] := r1.nil_iff.mpr rfl
  subst e
  exact cat_nil p1 p2 ⟨.ref b, H, I, rfl, q⟩
noncomputable def rStr2 : R2 := fun x y H Q => ∃ i j, x = .str i ∧ y = .str j ∧ i.length + j.length ≤ sizeLine ∧ Q (.str (i ++ j)) H
noncomputable abbrev rAddA (K : PySem.W.Frag) : R2 := fun x y H Q => rI0 (fun i j => .int (i + j)) x y H Q ∨ rStr2 x y H Q ∨ rCatT K x y H Q ∨ rNilT K x y H Q ∨ rCat x y H Q
theorem op_addA : OpR X (binaryOp .Add) (rAddA X.K) := OpR.or op_add (OpR.or op_add_str (OpR.or op_catT (OpR.or op_nilT op_cat)))
theorem foldl_cat (x : Array Nat) : ∀ (n : Nat) (acc : Array Nat), ((List.replicate n x).foldl (· ++ ·) acc).toList = acc.toList ++ (List.replicate n x.toList).flatten
  | 0, acc => by simp
  | n + 1, acc => by rw [List.replicate_succ, List.foldl_cons, foldl_cat x n (acc ++ x), List.replicate_succ, List.flatten_cons, Array.toList_append, List.append_assoc]
theorem mul_txt (x : List Nat) {n : Int} (h0 : 0 ≤ n) : Txt.mul ⟨x.toArray⟩ n = ⟨((List.replicate n.toNat x).flatten).toArray⟩ := by
  unfold Txt.mul
  by_cases h1 : n < 1
  · have e : n.toNat = 0 := by omega
    rw [if_pos h1, e]; rfl
  rw [if_neg h1]
  by_cases h2 : n = 1
  · subst h2
    rw [if_pos (by simp)]
    congr 1
    simp
  by_cases h3 : x = []
  · subst h3
    rw [if_pos (by simp [Str.length])]
    congr 1
    simp
  · rw [if_neg (by
      simp only [Bool.or_eq_true, beq_iff_eq, not_or]
      refine ⟨h2, ?_⟩
      cases x with
      | nil => exact absurd rfl h3
      | cons a r => simp [Str.length])]
    congr 1
    apply Array.ext'
    rw [foldl_cat]
    simp
noncomputable def rRepS : R2 := fun x y H Q => ∃ z k, x = .str z ∧ y = .int k ∧ z.length ≤ 1000 ∧ 0 ≤ k ∧ k < 1000 ∧ Q (.str (Txt.mul z k)) H
theorem op_repS : OpR X (binaryOp .Mult) rRepS := by
  intro pins s σ H x y v u Q I rx ry h
  obtain ⟨z, k, rfl, rfl, hl, h0, h1, q⟩ := h
  obtain ⟨t, rfl⟩ := rx
  obtain ⟨t', rfl⟩ := ry
  refine SB.mul ⟨?_, fun a b => ?_, fun a b => ?_⟩ fun t' tk => ⟨.str (Txt.mul z k), H, I.tok _, ⟨_, rfl⟩, q⟩
  · simp only [Bool.or_eq_false_iff, decide_eq_false_iff_not]
    omega
  · intro hh
    have e : (z.length : Int) * k ≤ 1000 * 1000 := Int.mul_le_mul (by omega) (by omega) (by omega) (by omega)
    have := Int.le_ediv_of_mul_le (show 0 < k by omega) (Int.le_trans e (by decide : (1000 * 1000 : Int) ≤ 2 ^ 63 - 1))
    omega
  · unfold Builtin.Str.tooLong sizeLine
    have : z.length * k.toNat ≤ 1000 * 1000 := Nat.mul_le_mul hl (by omega)
    simp only [decide_eq_false_iff_not]
    omega
noncomputable abbrev rMulA (K : PySem.W.Frag) : R2 := fun x y H Q => rI CMul (fun i j => .int (i * j)) x y H Q ∨ rRep x y H Q ∨ rRepT K x y H Q ∨ rRepS x y H Q
theorem op_mulA : OpR X (binaryOp .Mult) (rMulA X.K) := OpR.or op_mul (OpR.or op_rep (OpR.or op_repT op_repS))
noncomputable def bop : BOp → Operator
  | .add => .Add | .sub => .Sub | .mul => .Mult | .fdiv => .FloorDiv | .mod => .Mod | .pow => .Pow
noncomputable def rBin (K : PySem.W.Frag) : BOp → R2
  | .add => rAddA K
  | .sub => rI0 fun i j => .int (i - j)
  | .mul => rMulA K
  | .fdiv => rI CDiv fun i j => .int (i / j)
  | .mod => rI (fun _ j => 0 < j) fun i j => .int (i % j)
  | .pow => rI CPow fun i j => .int (i ^ j.toNat)
theorem op_bin : ∀ op : BOp, OpR X (binaryOp (bop op)) (rBin X.K op)
  | .add => op_addA
  | .sub => op_sub
  | .mul => op_mulA
  | .fdiv => op_fdiv
  | .mod => op_mod
  | .pow => op_pow
theorem rBin_mono {K : PySem.W.Frag} : ∀ (op : BOp) (v v' : V) (H : Hp) (Q Q' : L2.VK), (∀ v H, Q v H → Q' v H) → rBin K op v v' H Q → rBin K op v v' H Q'
  | .add, v, v', H, Q, Q', h, z => by
    rcases z with z | ⟨i, j, e, e', l, q⟩ | ⟨a, b, xs, ys, e, e', s, s', n, l, q, q'⟩ | ⟨a, b, ys, e, e', s, s', q⟩ | ⟨l, b, xs, zs, e, e', s, s', n, q⟩
    · exact .inl (rI0_mono _ _ _ _ _ h z)
    · exact .inr (.inl ⟨i, j, e, e', l, h _ _ q⟩)
    · exact .inr (.inr (.inl ⟨a, b, xs, ys, e, e', s, s', n, l, fun z => h _ _ (q z), fun z p hp => h _ _ (q' z p hp)⟩))
    · exact .inr (.inr (.inr (.inl ⟨a, b, ys, e, e', s, s', h _ _ q⟩)))
    · exact .inr (.inr (.inr (.inr ⟨l, b, xs, zs, e, e', s, s', n, fun p hp => h _ _ (q p hp)⟩)))
  | .sub, v, v', H, Q, Q', h, z => rI0_mono _ _ _ _ _ h z
  | .mul, v, v', H, Q, Q', h, z => by
    rcases z with z | ⟨l, k, xs, e, e', s, b1, b2, b3, q⟩ | ⟨l, k, xs, e, e', s, b1, b2, b3, b4, q0, q⟩ | ⟨z, k, e, e', b1, b2, b3, q⟩
    · exact .inl (rI_mono _ _ _ _ _ h z)
    · exact .inr (.inl ⟨l, k, xs, e, e', s, b1, b2, b3, fun p hp => h _ _ (q p hp)⟩)
    · exact .inr (.inr (.inl ⟨l, k, xs, e, e', s, b1, b2, b3, b4, fun z => h _ _ (q0 z), fun p hp => h _ _ (q p hp)⟩))
    · exact .inr (.inr (.inr ⟨z, k, e, e', b1, b2, b3, h _ _ q⟩))
  | .fdiv, v, v', H, Q, Q', h, z => rI_mono _ _ _ _ _ h z
  | .mod, v, v', H, Q, Q', h, z => rI_mono _ _ _ _ _ h z
  | .pow, v, v', H, Q, Q', h, z => rI_mono _ _ _ _ _ h z
end
section
variable {K : PySem.W.Frag} {H : Hp} {st : Store} {R : VK}
theorem Rep.int_inv {i : Int} {v : V} (r : Rep K H (.int i) v) : v = .int i := by cases r; rfl
theorem Rep.str_inv {x : List Nat} {v : V} (r : Rep K H (.str x) v) : v = .str ⟨x.toArray⟩ := by cases r; rfl
theorem Rep.bl_inv {b : Bool} {v : V} (r : Rep K H (.bl b) v) : v = .bl b := by cases r; rfl
theorem Rep.non_inv {v : V} (r : Rep K H .non v) : v = .non := by cases r; rfl
theorem Rep.ref_inv {a : Addr} {v : V} (r : Rep K H (.ref a) v) : v = .ref a := by cases r; rfl
theorem Rep.tup_inv {ds : List D} {v : V} (r : Rep K H (.tup ds) v) : ∃ a vs, v = .ref a ∧ SqT K H a vs ∧ Reps K H ds vs := by cases r with | tup h r => exact ⟨_, _, rfl, h, r⟩
theorem Rep.mdic_inv {ks vs : List D} {v : V} (r : Rep K H (.mdic ks vs) v) : ∃ a, v = .ref a ∧ MTab K a ks vs := by cases r with | mdic h => exact ⟨_, rfl, h⟩
theorem Rep.mlst_inv {ds : List D} {v : V} (r : Rep K H (.mlst ds) v) : ∃ a vs, v = .ref a ∧ FrzL K H a vs ∧ Reps K H ds vs := by cases r with | mlst h r => exact ⟨_, _, rfl, h, r⟩
set_option tactic.hygienic true in
theorem lstAt_inv {a : Nat} {P : List D → Prop} (h : lstAt st a P) : ∃ ds, st a = some (.lst ds) ∧ P ds := by
  unfold lstAt at h
  split at h
  · rename_i ds e; exact ⟨ds, e, h⟩
  · exact h.elim
set_option tactic.hygienic true in
theorem seqAt_inv {a : Nat} {P : List D → Prop} {M : List D → List D → Prop} (ok : StOk K st H) (h : seqAt st a P M) : ∃ ds, st a = some (.lst ds) ∧ P ds := by
  unfold seqAt at h
  split at h
  · rename_i ds e; exact ⟨ds, e, h⟩
  · rename_i e; exact (ok _ _ e).elim
  · exact h.elim
theorem optK_inv {α : Type} {o : Option α} {P : α → Prop} (h : optK o P) : ∃ x, o = some x ∧ P x := by
  unfold optK at h
  split at h
  · exact ⟨_, rfl, h⟩
  · exact h.elim
theorem str_app (x y : List Nat) : (⟨x.toArray⟩ : Str) ++ ⟨y.toArray⟩ = ⟨(x ++ y).toArray⟩ := by
  show Str.mk _ = Str.mk _
  simp
theorem Reps.nil_inv {vs : List V} (r : Reps K H [] vs) : vs = [] := by cases r; rfl
theorem Reps.flat {ds : List D} {vs : List V} (r : Reps K H ds vs) : ∀ k : Nat, Reps K H (List.replicate k ds).flatten (List.replicate k vs).flatten
  | 0 => .nil
  | k + 1 => by simp only [List.replicate_succ, List.flatten_cons]; exact r.append (Reps.flat r k)
set_option tactic.hygienic true in
theorem bin_sound {op : BOp} {d d' : D} {v v' : V} (ok : StOk K st H) (r : Rep K H d v) (r' : Rep K H d' v') (h : binW op d d' st R) : rBin K op v v' H (QD K H st R) := by
  unfold binW at h
  split at h
  · cases r.int_inv; cases r'.int_inv
    exact .inl ⟨_, _, rfl, rfl, .here ok (.int _) h⟩
  · rename_i a b
    cases r.str_inv; cases r'.str_inv
    refine .inr (.inl ⟨_, _, rfl, rfl, ?_, ?_⟩)
    · rw [line_eq]; simpa [Str.length] using h.1
    · rw [str_app]; exact .here ok (.str _) h.2
  · rename_i ds es
    obtain ⟨a, vs, rfl, s1, q1⟩ := r.tup_inv
    obtain ⟨b, us, rfl, s2, q2⟩ := r'.tup_inv
    cases ds with
    | nil =>
      cases q1.nil_inv
      exact .inr (.inr (.inr (.inl ⟨a, b, us, rfl, rfl, s1, s2, .here ok r' (by simpa using h.2)⟩)))
    | cons d ds =>
      refine .inr (.inr (.inl ⟨a, b, vs, us, rfl, rfl, s1, s2, ?_, ?_, fun e => ?_, fun _ p hp => .newT ok (q1.append q2) hp h.2⟩))
      · intro e; subst e; cases q1
      · rw [line_eq, ← q1.length, ← q2.length]; exact h.1
      · subst e
        cases q2
        exact .here ok r (by simpa using h.2)
  · rename_i a b
    cases r.ref_inv; cases r'.ref_inv
    obtain ⟨xs, e1, h⟩ := lstAt_inv h
    obtain ⟨ys, e2, h⟩ := lstAt_inv h
    obtain ⟨vs, g1, q1⟩ := ok.lst e1
    obtain ⟨us, g2, q2⟩ := ok.lst e2
    refine .inr (.inr (.inr (.inr ⟨a, b, vs, us, rfl, rfl, g1, g2, ?_, fun p hp => .newL ok (q1.append q2) hp h.2⟩)))
    rw [line_eq, ← q1.length, ← q2.length]; simpa using h.1
  · cases r.int_inv; cases r'.int_inv
    exact ⟨_, _, rfl, rfl, .here ok (.int _) h⟩
  · cases r.int_inv; cases r'.int_inv
    exact .inl ⟨_, _, rfl, rfl, h.1.imp (fun z => z) (fun z => z), .here ok (.int _) h.2⟩
  · rename_i a k
    cases r.ref_inv; cases r'.int_inv
    obtain ⟨xs, e1, h1, h2, h⟩ := lstAt_inv h
    obtain ⟨vs, g1, q1⟩ := ok.lst e1
    refine .inr (.inl ⟨a, k, vs, rfl, rfl, g1, by omega, by omega, ?_, fun p hp => .newL ok (q1.flat _) hp h.2⟩)
    rw [line_eq, ← q1.length]; exact h1
  · rename_i xs k
    obtain ⟨a, vs, rfl, f, g⟩ := r.tup_inv
    cases r'.int_inv
    obtain ⟨⟨c1, c2, c3, c4⟩, h⟩ := h
    refine .inr (.inr (.inl ⟨a, k, vs, rfl, rfl, f, by rw [← g.length]; exact c1, by rw [← g.length]; exact c2, c3, c4, fun e => ?_, fun p hp => .newT ok (g.flat _) hp h⟩))
    subst e
    have e1 : (List.replicate (1 : Int).toNat xs).flatten = xs := by simp
    rw [e1] at h
    exact .here ok r h
  · rename_i xs k
    cases r.str_inv; cases r'.int_inv
    obtain ⟨⟨c1, c2, c3⟩, h⟩ := h
    refine .inr (.inr (.inr ⟨_, k, rfl, rfl, by simpa [Str.length] using c1, c2, c3, ?_⟩))
    rw [mul_txt xs c2]
    exact .here ok (.str _) h
  · cases r.int_inv; cases r'.int_inv
    exact ⟨_, _, rfl, rfl, h.1, .here ok (.int _) h.2⟩
  · cases r.int_inv; cases r'.int_inv
    exact ⟨_, _, rfl, rfl, h.1, .here ok (.int _) h.2⟩
  · cases r.int_inv; cases r'.int_inv
    exact ⟨_, _, rfl, rfl, h.1, .here ok (.int _) h.2⟩
  · exact h.elim
end
section
variable {X : Cx} {C : CallT} {sub : Nat → Nat → Bool} {E : XK} {a b c e : Expr} {x y z : Ex} {pos : Pos}
theorem j_bin {op : BOp} (ha : PE X a (tOf X.K (wpE C sub E x))) (hb : PE X b (tOf X.K (wpE C sub E y))) : PE X (.BinOp a (bop op) b pos) (tOf X.K (wpE C sub E (.bin op x y))) :=
  (pe_op (op_bin op) ha hb).imp fun σ H Q ⟨σd, st, R, r, ok, q, hq⟩ => by
    exact two (W := fun d d' st2 => binW op d d' st2 R) r ok q hq (fun d d' v v' H2 st2 ok2 r1 r2 h => bin_sound ok2 r1 r2 h) (rBin_mono op)
noncomputable def truO (d : D) (st : Store) : Option Bool := match d with
  | .non => some false
  | .bl b => some b
  | .int i => some (i != 0)
  | .str x => if x.length ≤ LINE then some (!x.isEmpty) else none
  | .tup ds => some (!ds.isEmpty)
  | .ref a => match st a with
    | some (.lst ds) => some (!ds.isEmpty)
    | some (.dic ks _) => some (!ks.isEmpty)
    | some _ => none
    | none => none
  | .mlst ds => some (!ds.isEmpty)
  | _ => none
set_option tactic.hygienic true in
theorem truW_iff {d : D} {st : Store} {P : Bool → Prop} : truW d st P ↔ ∃ k, truO d st = some k ∧ P k := by
  cases d with
  | str x =>
    show (x.length ≤ LINE ∧ P (!x.isEmpty)) ↔ ∃ k, (if x.length ≤ LINE then some (!x.isEmpty) else none) = some k ∧ P k
    split
    · rename_i h; exact ⟨fun z => ⟨_, rfl, z.2⟩, fun ⟨k, e, q⟩ => ⟨h, by cases e; exact q⟩⟩
    · rename_i h; exact ⟨fun z => (h z.1).elim, fun ⟨k, e, q⟩ => by cases e⟩
  | ref a =>
    show seqAt st a _ _ ↔ ∃ k, (match st a with | some (.lst ds) => some (!ds.isEmpty) | some (.dic ks _) => some (!ks.isEmpty) | some _ => none | none => none) = some k ∧ P k
    unfold seqAt
    cases st a with
    | none => exact ⟨fun z => z.elim, fun ⟨k, e, q⟩ => by cases e⟩
    | some o => cases o with
      | lst ds => exact ⟨fun z => ⟨_, rfl, z⟩, fun ⟨k, e, q⟩ => by cases e; exact q⟩
      | dic ks vs => exact ⟨fun z => ⟨_, rfl, z⟩, fun ⟨k, e, q⟩ => by cases e; exact q⟩
      | ins _ _ => exact ⟨fun z => z.elim, fun ⟨k, e, q⟩ => by cases e⟩
      | tab _ _ => exact ⟨fun z => z.elim, fun ⟨k, e, q⟩ => by cases e⟩
  | mdic _ _ => exact ⟨fun z => z.elim, fun ⟨k, e, q⟩ => by cases e⟩
  | exc _ => exact ⟨fun z => z.elim, fun ⟨k, e, q⟩ => by cases e⟩
  | _ => exact ⟨fun z => ⟨_, rfl, z⟩, fun ⟨k, e, q⟩ => by cases e; exact q⟩
theorem isEmpty_len {α : Type} (x : List α) : (!x.isEmpty) = (((x.length : Nat) : Int) != 0) := by
  cases x with
  | nil => rfl
  | cons a r =>
    simp only [List.isEmpty_cons, Bool.not_false, List.length_cons]
    symm
    rw [bne_iff_ne]; omega
set_option tactic.hygienic true in
theorem tru_sound {K : PySem.W.Frag} {H : Hp} {st : Store} {d : D} {v : V} {P : Bool → Prop} (ok : StOk K st H) (r : Rep K H d v) (h : truW d st P) : ∃ k, TruV K v H k ∧ P k := by
  unfold truW at h
  split at h
  · cases r.non_inv; exact ⟨_, rfl, h⟩
  · cases r.bl_inv; exact ⟨_, rfl, h⟩
  · cases r.int_inv; exact ⟨_, rfl, h⟩
  · rename_i x P
    cases r.str_inv
    refine ⟨_, ⟨by rw [line_eq]; simpa [Str.length] using h.1, ?_⟩, h.2⟩
    rw [isEmpty_len]; simp [Str.length]
  · obtain ⟨a, vs, rfl, s1, q1⟩ := r.tup_inv
    refine ⟨_, .inr (.inl ⟨vs, s1, ?_⟩), h⟩
    rw [isEmpty_len, isEmpty_len, q1.length]
  · cases r.ref_inv
    obtain ⟨ds, e, h⟩ := seqAt_inv ok h
    obtain ⟨vs, g, q⟩ := ok.lst e
    refine ⟨_, .inl ⟨vs, SqL.of g, ?_⟩, h⟩
    rw [isEmpty_len, isEmpty_len, q.length]
  · obtain ⟨a, vs, rfl, s1, q1⟩ := r.mlst_inv
    refine ⟨_, .inl ⟨vs, s1.sq, ?_⟩, h⟩
    rw [isEmpty_len, isEmpty_len, q1.length]
  · exact h.elim
theorem jt_plain (h : PE X e (tOf X.K (wpE C sub E x))) (he : ∀ whole, isTrue e X.env whole = (do let v ← whole; standAt e.pos; holding [v] (truthy v))) : PT X e (ttOf X.K (wpE C sub E x)) :=
  (pt_truth h he).imp fun σ H Q ⟨σd, st, R, r, ok, q, hq⟩ => by
    refine ⟨σd, st, _, r, ok, q, fun v H1 ⟨d, st1, s1, ok1, r1, q1⟩ => ?_⟩
    obtain ⟨k, t, z⟩ := tru_sound ok1 r1 q1
    exact ⟨k, t, hq _ _ ⟨st1, s1, ok1, z⟩⟩
theorem jt_not (h : PT X e (ttOf X.K (wpE C sub E x))) : PT X (.UnaryOp .Not e pos) (ttOf X.K (wpE C sub E (.not_ x))) :=
  (pt_not h).imp fun σ H Q ⟨σd, st, R, r, ok, q, hq⟩ => by
    exact ⟨σd, st, fun b st' => R (!b) st', r, ok, q, fun b H1 z => hq _ _ z⟩
theorem jw_one {op : BoolOp} (h : PT X e (ttOf X.K (wpE C sub E x))) : PW X (.BoolOp op [e] pos) (ttOf X.K (wpE C sub E x)) := by
  cases op
  · exact pw_and1 h
  · exact pw_or1 h
theorem jw_and {rest : List Expr} (hC : CMono C C) (ha : PT X a (ttOf X.K (wpE C sub E x))) (hb : PW X (.BoolOp .And (b :: rest) pos) (ttOf X.K (wpE C sub E y))) : PW X (.BoolOp .And (a :: b :: rest) pos) (ttOf X.K (wpE C sub E (.and_ x y))) :=
  (pw_and ha hb).imp fun σ H Q ⟨σd, st, R, r, ok, q, hq⟩ => by
    refine ⟨σd, st, fun k st1 => if k = true then wpE C sub E y σd st1 (fun d st' => truW d st' fun b => R b st') else R false st1, r, ok, wpE_mono hC (fun _ _ z => z) x (fun d st1 z => ?_) q, fun k H1 ⟨st1, s1, ok1, z⟩ => ?_⟩
    · rw [truW_iff] at z ⊢
      obtain ⟨k, t, z⟩ := z
      refine ⟨k, t, ?_⟩
      cases k with
      | true => exact z
      | false =>
        have z' : truW d st1 fun b => R b st1 := z
        rw [truW_iff] at z'
        obtain ⟨k', t', z'⟩ := z'
        rw [t] at t'; cases t'
        exact z'
    · cases k with
      | true => exact ⟨σd, st1, R, r.step ok s1, ok1, z, fun k H2 ⟨st2, s2, ok2, w⟩ => hq _ _ ⟨st2, s1.trans s2, ok2, w⟩⟩
      | false => exact hq _ _ ⟨st1, s1, ok1, z⟩
theorem jw_or {rest : List Expr} (hC : CMono C C) (ha : PT X a (ttOf X.K (wpE C sub E x))) (hb : PW X (.BoolOp .Or (b :: rest) pos) (ttOf X.K (wpE C sub E y))) : PW X (.BoolOp .Or (a :: b :: rest) pos) (ttOf X.K (wpE C sub E (.or_ x y))) :=
  (pw_or ha hb).imp fun σ H Q ⟨σd, st, R, r, ok, q, hq⟩ => by
    refine ⟨σd, st, fun k st1 => if k = true then R true st1 else wpE C sub E y σd st1 (fun d st' => truW d st' fun b => R b st'), r, ok, wpE_mono hC (fun _ _ z => z) x (fun d st1 z => ?_) q, fun k H1 ⟨st1, s1, ok1, z⟩ => ?_⟩
    · rw [truW_iff] at z ⊢
      obtain ⟨k, t, z⟩ := z
      refine ⟨k, t, ?_⟩
      cases k with
      | false => exact z
      | true =>
        have z' : truW d st1 fun b => R b st1 := z
        rw [truW_iff] at z'
        obtain ⟨k', t', z'⟩ := z'
        rw [t] at t'; cases t'
        exact z'
    · cases k with
      | false => exact ⟨σd, st1, R, r.step ok s1, ok1, z, fun k H2 ⟨st2, s2, ok2, w⟩ => hq _ _ ⟨st2, s1.trans s2, ok2, w⟩⟩
      | true => exact hq _ _ ⟨st1, s1, ok1, z⟩
theorem j_and {rest : List Expr} (ha : PE X a (tOf X.K (wpE C sub E x))) (hb : PE X (.BoolOp .And (b :: rest) pos) (tOf X.K (wpE C sub E y))) : PE X (.BoolOp .And (a :: b :: rest) pos) (tOf X.K (wpE C sub E (.and_ x y))) := by
  intro pins s σ H Q I ⟨σd, st, R, r, ok, q, hq⟩
  refine BoolOp_and (thn (ha pins s σ H _ I ⟨σd, st, _, r, ok, q, fun v H' z => z⟩) fun u s1 ⟨v, H1, I1, rv, d, st1, st1s, ok1, r1, q1⟩ => ?_)
  obtain ⟨k, t, z⟩ := tru_sound ok1 r1 q1
  refine thn (tru_ok pins s1 σ H1 v u (fun b H' => b = k ∧ H' = H1) I1 rv ⟨k, t, rfl, rfl⟩) fun b s2 ⟨H2, I2, e, e'⟩ => ?_
  subst e e'
  cases b with
  | true => exact hb pins s2 σ H2 Q I2 ⟨σd, st1, R, r.step ok st1s, ok1, z, fun v H' w => hq _ _ (.after st1s w)⟩
  | false => exact ⟨v, H2, I2, rv, hq _ _ (.after st1s (.here ok1 r1 z))⟩
theorem j_one {op : BoolOp} (h : PE X e (tOf X.K (wpE C sub E x))) : PE X (.BoolOp op [e] pos) (tOf X.K (wpE C sub E x)) := pe_one h
end
end L3
end
section
namespace L3
open PySem PySem.Spec PyProof.Rows L2 PySem.SeqAt
mutual
theorem eqD_refl : ∀ d : D, pureD d = true → eqD d d = true
  | .non, _ => rfl
  | .bl b, _ => by simp [eqD]
  | .int i, _ => by simp [eqD]
  | .str x, _ => by simp [eqD]
  | .tup ds, h => by simp only [pureD] at h; simp only [eqD]; exact eqDs_refl ds h
  | .ref _, h => by simp [pureD] at h
  | .mdic _ _, h => by simp [pureD] at h
  | .mlst _, h => by simp [pureD] at h
  | .exc _, h => by simp [pureD] at h
theorem eqDs_refl : ∀ ds : List D, pureDs ds = true → eqDs ds ds = true
  | [], _ => rfl
  | d :: ds, h => by
    simp only [pureDs, Bool.and_eq_true] at h
    simp only [eqDs, Bool.and_eq_true]
    exact ⟨eqD_refl d h.1, eqDs_refl ds h.2⟩
end
theorem pureDs_mem : ∀ {ds : List D} {d : D}, pureDs ds = true → d ∈ ds → pureD d = true
  | e :: ds, d, h, m => by
    simp only [pureDs, Bool.and_eq_true] at h
    rcases List.mem_cons.mp m with rfl | m
    · exact h.1
    · exact pureDs_mem h.2 m
theorem depDs_mem : ∀ {ds : List D} {d : D}, d ∈ ds → depD d ≤ depDs ds
  | e :: ds, d, m => by
    simp only [depDs]
    rcases List.mem_cons.mp m with rfl | m
    · omega
    · have := depDs_mem m; omega
theorem eqDs_all : ∀ {ds es : List D} (e : Nat → Bool), (∀ j d d', ds[j]? = some d → es[j]? = some d' → e j = eqD d d') → ((List.range (min ds.length es.length)).all e && ds.length == es.length) = eqDs ds es
  | [], [], e, h => by simp [eqDs]
  | [], _ :: _, e, h => by simp [eqDs]
  | _ :: _, [], e, h => by simp [eqDs]
  | d :: ds, d' :: es, e, h => by
    have ih := eqDs_all (fun j => e (j + 1)) fun j x x' e1 e2 => h (j + 1) x x' (by simpa using e1) (by simpa using e2)
    have h0 := h 0 d d' rfl rfl
    simp only [eqDs, List.length_cons, Nat.add_min_add_right, List.range_succ_eq_map, List.all_cons, List.all_map, Function.comp_def]
    rw [← ih, h0]
    have hl : (ds.length + 1 == es.length + 1) = (ds.length == es.length) := by simp
    rw [hl, Bool.and_assoc]
theorem eqDs_all' {ds es : List D} (e : Nat → Bool) (hl : ds.length = es.length) (h : ∀ j d d', ds[j]? = some d → es[j]? = some d' → e j = eqD d d') : (List.range ds.length).all e = eqDs ds es := by
  rw [← eqDs_all e h, ← hl]; simp
theorem eqDs_len : ∀ {ds es : List D}, ds.length ≠ es.length → eqDs ds es = false
  | [], [], h => (h rfl).elim
  | [], _ :: _, h => rfl
  | _ :: _, [], h => rfl
  | d :: ds, d' :: es, h => by simp only [eqDs, eqDs_len (ds := ds) (es := es) (by simpa using h), Bool.and_false]
section
variable {X : Cx} {pins : List (Addr × Obj)} {σ : L2.St} {H : Hp} {s : Shared} {st : Store}
theorem Vals.at {vs : List V} {its : List Value} (r : Vals vs its) {j : Nat} (h : j < its.toArray.size) : ∃ v, vs[j]? = some v ∧ RelV v its.toArray[j] := by
  have hl := r.length
  have hj : j < vs.length := by simp at h; omega
  obtain ⟨u, e1, e2⟩ := Vals.get r (List.getElem?_eq_getElem hj)
  refine ⟨vs[j], List.getElem?_eq_getElem hj, ?_⟩
  rw [List.getElem?_eq_some_iff] at e1
  obtain ⟨h1, e1⟩ := e1
  simp only [List.getElem_toArray, e1]
  exact e2
theorem Reps.get' {K : PySem.W.Frag} : ∀ {ds : List D} {vs : List V} {i : Nat} {v : V}, Reps K H ds vs → vs[i]? = some v → ∃ d, ds[i]? = some d ∧ Rep K H d v
  | _, _, _, _, .nil, e => by simp at e
  | _, _, 0, _, .cons h _, e => by simp at e; subst e; exact ⟨_, rfl, h⟩
  | _, _, i + 1, v, .cons _ r, e => by
    obtain ⟨d, e1, e2⟩ := Reps.get' (i := i) (v := v) r (by simpa using e)
    exact ⟨d, by simpa using e1, e2⟩
set_option tactic.hygienic true in
theorem rep_inj (I : Inv X pins σ H s) : ∀ (n : Nat) {d d' : D} {v : V}, depD d ≤ n → pureD d = true → pureD d' = true → Rep X.K H d v → Rep X.K H d' v → d = d' := by
  intro n
  induction n with
  | zero =>
    intro d d' v hn p p' r r'
    cases r <;> cases r' <;> first | rfl | (simp [pureD] at p; done) | (simp [pureD] at p'; done) | (simp [depD] at hn; done)
  | succ n ih =>
    intro d d' v hn p p' r r'
    cases r <;> cases r' <;> first | rfl | (simp [pureD] at p; done) | (simp [pureD] at p'; done) | skip
    rename_i ds a vs h r es us r' h'
    cases I.tuple_inj h h'
    have go : ∀ (ds es : List D) (vs : List V), depDs ds ≤ n → pureDs ds = true → pureDs es = true → Reps X.K H ds vs → Reps X.K H es vs → ds = es := by
      intro ds
      induction ds with
      | nil => intro es vs _ _ _ r r'; cases r; cases r'; rfl
      | cons d ds ihs =>
        intro es vs hd pp pp' r r'
        cases r with
        | cons r1 r2 => cases r' with
          | cons r1' r2' =>
            simp only [depDs] at hd
            simp only [pureDs, Bool.and_eq_true] at pp pp'
            rw [ih (by omega) pp.1 pp'.1 r1 r1', ihs _ _ (by omega) pp.2 pp'.2 r2 r2']
    rw [go ds es vs (by simp only [depD] at hn; omega) (by simpa [pureD] using p) (by simpa [pureD] using p') r r']
noncomputable def Eq3 (A : Around) (s : Shared) (u u' : Value) (b : Bool) : Prop := RcAt A s u u' b ∧ EqAt A s u u' b ∧ RcNeAt A s u u' (!b)
noncomputable def scalD : D → Bool
  | .non => true
  | .bl _ => true
  | .int _ => true
  | .str _ => true
  | _ => false
theorem strBeq (x y : List Nat) : ((⟨x.toArray⟩ : Str) == ⟨y.toArray⟩) = (x == y) := by
  rw [← str_beq]
theorem eq3_scal {K : PySem.W.Frag} {H : Hp} {A : Around} {s : Shared} {d d' : D} {v v' : V} {u u' : Value} (p : scalD d = true) (p' : scalD d' = true) (r : Rep K H d v) (rv : RelV v u) (r' : Rep K H d' v') (rv' : RelV v' u') : Eq3 A s u u' (eqD d d') := by
  cases d with
  | non => cases d' with
    | non =>
      cases r.non_inv; cases rv
      cases r'.non_inv; cases rv'
      exact ⟨RcAt.none_none, EqAt.same _, RcNeAt.none_none⟩
    | bl b' =>
      cases r.non_inv; cases rv
      cases r'.bl_inv; cases rv'
      simp only [eqD]
      exact ⟨RcAt.none_bool _, EqAt.none_bool _, RcNeAt.none_bool _⟩
    | int i' =>
      cases r.non_inv; cases rv
      cases r'.int_inv; obtain ⟨_, rfl⟩ := rv'
      simp only [eqD]
      exact ⟨RcAt.none_int _ _, EqAt.none_int _ _, RcNeAt.none_int _ _⟩
    | str x' =>
      cases r.non_inv; cases rv
      cases r'.str_inv; obtain ⟨_, rfl⟩ := rv'
      simp only [eqD]
      exact ⟨RcAt.none_str _ _, EqAt.none_str _ _, RcNeAt.none_str _ _⟩
    | _ => cases p'
  | bl b => cases d' with
    | non =>
      cases r.bl_inv; cases rv
      cases r'.non_inv; cases rv'
      simp only [eqD]
      exact ⟨RcAt.bool_none _, EqAt.bool_none _, RcNeAt.bool_none _⟩
    | bl b' =>
      cases r.bl_inv; cases rv
      cases r'.bl_inv; cases rv'
      simp only [eqD]
      exact ⟨RcAt.bool_bool _ _, EqAt.bool_bool _ _, RcNeAt.bool_bool _ _⟩
    | int i' =>
      cases r.bl_inv; cases rv
      cases r'.int_inv; obtain ⟨_, rfl⟩ := rv'
      simp only [eqD]
      exact ⟨RcAt.bool_int _ _ _, EqAt.bool_int _ _ _, RcNeAt.bool_int _ _ _⟩
    | str x' =>
      cases r.bl_inv; cases rv
      cases r'.str_inv; obtain ⟨_, rfl⟩ := rv'
      simp only [eqD]
      exact ⟨RcAt.bool_str _ _ _, EqAt.bool_str _ _ _, RcNeAt.bool_str _ _ _⟩
    | _ => cases p'
  | int i => cases d' with
    | non =>
      cases r.int_inv; obtain ⟨_, rfl⟩ := rv
      cases r'.non_inv; cases rv'
      simp only [eqD]
      exact ⟨RcAt.int_none _ _, EqAt.int_none _ _, RcNeAt.int_none _ _⟩
    | bl b' =>
      cases r.int_inv; obtain ⟨_, rfl⟩ := rv
      cases r'.bl_inv; cases rv'
      simp only [eqD]
      exact ⟨RcAt.int_bool _ _ _, EqAt.int_bool _ _ _, RcNeAt.int_bool _ _ _⟩
    | int i' =>
      cases r.int_inv; obtain ⟨_, rfl⟩ := rv
      cases r'.int_inv; obtain ⟨_, rfl⟩ := rv'
      simp only [eqD]
      exact ⟨RcAt.int_int _ _ _ _, EqAt.int_int _ _ _ _, RcNeAt.int_int _ _ _ _⟩
    | str x' =>
      cases r.int_inv; obtain ⟨_, rfl⟩ := rv
      cases r'.str_inv; obtain ⟨_, rfl⟩ := rv'
      simp only [eqD]
      exact ⟨RcAt.int_str _ _ _ _, EqAt.int_str _ _ _ _, RcNeAt.int_str _ _ _ _⟩
    | _ => cases p'
  | str x => cases d' with
    | non =>
      cases r.str_inv; obtain ⟨_, rfl⟩ := rv
      cases r'.non_inv; cases rv'
      simp only [eqD]
      exact ⟨RcAt.str_none _ _, EqAt.str_none _ _, RcNeAt.str_none _ _⟩
    | bl b' =>
      cases r.str_inv; obtain ⟨_, rfl⟩ := rv
      cases r'.bl_inv; cases rv'
      simp only [eqD]
      exact ⟨RcAt.str_bool _ _ _, EqAt.str_bool _ _ _, RcNeAt.str_bool _ _ _⟩
    | int i' =>
      cases r.str_inv; obtain ⟨_, rfl⟩ := rv
      cases r'.int_inv; obtain ⟨_, rfl⟩ := rv'
      simp only [eqD]
      exact ⟨RcAt.str_int _ _ _ _, EqAt.str_int _ _ _ _, RcNeAt.str_int _ _ _ _⟩
    | str x' =>
      cases r.str_inv; obtain ⟨_, rfl⟩ := rv
      cases r'.str_inv; obtain ⟨_, rfl⟩ := rv'
      have e : eqD (.str x) (.str x') = ((⟨x.toArray⟩ : Str) == ⟨x'.toArray⟩) := by rw [strBeq]; simp only [eqD]
      rw [e]
      exact ⟨RcAt.str_str _ _ _ _, EqAt.str_str _ _ _ _, RcNeAt.str_str _ _ _ _⟩
    | _ => cases p'
  | _ => cases p
theorem eq3_tuple_scal {K : PySem.W.Frag} {H : Hp} {A : Around} {s : Shared} {l : Addr} {its : Array Value} {d' : D} {v' : V} {u' : Value} (hl : s.heap.IsTuple l its) (hu : A.units < cLine) (p' : scalD d' = true) (r' : Rep K H d' v') (rv' : RelV v' u') : Eq3 A s (.ref l) u' false ∧ Eq3 A s u' (.ref l) false := by
  cases d' with
  | non =>
    cases r'.non_inv; cases rv'
    exact ⟨⟨RcAt.tuple_none hl hu, EqAt.tuple_none hl hu, RcNeAt.tuple_none hl hu⟩, ⟨RcAt.none_tuple hl hu, EqAt.none_tuple hl hu, RcNeAt.none_tuple hl hu⟩⟩
  | bl b =>
    cases r'.bl_inv; cases rv'
    exact ⟨⟨RcAt.tuple_bool _ hl hu, EqAt.tuple_bool _ hl hu, RcNeAt.tuple_bool _ hl hu⟩, ⟨RcAt.bool_tuple _ hl hu, EqAt.bool_tuple _ hl hu, RcNeAt.bool_tuple _ hl hu⟩⟩
  | int i =>
    cases r'.int_inv; obtain ⟨_, rfl⟩ := rv'
    exact ⟨⟨RcAt.tuple_int _ _ hl hu, EqAt.tuple_int _ _ hl hu, RcNeAt.tuple_int _ _ hl hu⟩, ⟨RcAt.int_tuple _ _ hl hu, EqAt.int_tuple _ _ hl hu, RcNeAt.int_tuple _ _ hl hu⟩⟩
  | str x =>
    cases r'.str_inv; obtain ⟨_, rfl⟩ := rv'
    exact ⟨⟨RcAt.tuple_str _ _ hl hu, EqAt.tuple_str _ _ hl hu, RcNeAt.tuple_str _ _ hl hu⟩, ⟨RcAt.str_tuple _ _ hl hu, EqAt.str_tuple _ _ hl hu, RcNeAt.str_tuple _ _ hl hu⟩⟩
  | _ => cases p'
theorem eq3_list_scal {K : PySem.W.Frag} {H : Hp} {A : Around} {s : Shared} {l : Addr} {its : Array Value} {d' : D} {v' : V} {u' : Value} (hl : s.heap.IsList l its) (hu : A.units < cLine) (p' : scalD d' = true) (r' : Rep K H d' v') (rv' : RelV v' u') : Eq3 A s (.ref l) u' false ∧ Eq3 A s u' (.ref l) false := by
  cases d' with
  | non =>
    cases r'.non_inv; cases rv'
    exact ⟨⟨RcAt.list_none hl hu, EqAt.list_none hl hu, RcNeAt.list_none hl hu⟩, ⟨RcAt.none_list hl hu, EqAt.none_list hl hu, RcNeAt.none_list hl hu⟩⟩
  | bl b =>
    cases r'.bl_inv; cases rv'
    exact ⟨⟨RcAt.list_bool _ hl hu, EqAt.list_bool _ hl hu, RcNeAt.list_bool _ hl hu⟩, ⟨RcAt.bool_list _ hl hu, EqAt.bool_list _ hl hu, RcNeAt.bool_list _ hl hu⟩⟩
  | int i =>
    cases r'.int_inv; obtain ⟨_, rfl⟩ := rv'
    exact ⟨⟨RcAt.list_int _ _ hl hu, EqAt.list_int _ _ hl hu, RcNeAt.list_int _ _ hl hu⟩, ⟨RcAt.int_list _ _ hl hu, EqAt.int_list _ _ hl hu, RcNeAt.int_list _ _ hl hu⟩⟩
  | str x =>
    cases r'.str_inv; obtain ⟨_, rfl⟩ := rv'
    exact ⟨⟨RcAt.list_str _ _ hl hu, EqAt.list_str _ _ hl hu, RcNeAt.list_str _ _ hl hu⟩, ⟨RcAt.str_list _ _ hl hu, EqAt.str_list _ _ hl hu, RcNeAt.str_list _ _ hl hu⟩⟩
  | _ => cases p'
theorem eq3_tups (I : Inv X pins σ H s) {A : Around} {a b : Addr} {vs us : List V} {b0 : Bool} (e : Nat → Bool) (ha : SqT X.K H a vs) (hb : SqT X.K H b us) (hu : A.units < cLine) (hs : a = b → b0 = true)
    (he : ∀ j v v' u u', vs[j]? = some v → us[j]? = some v' → RelV v u → RelV v' u' → EqAt A.in1 s u u' (e j)) (hb0 : ((List.range (min vs.length us.length)).all e && vs.length == us.length) = b0) : Eq3 A s (.ref a) (.ref b) b0 := by
  obtain ⟨its, r1, p1, _⟩ := I.tuple ha
  obtain ⟨jts, r2, p2, _⟩ := I.tuple hb
  have l1 : its.toArray.size = vs.length := by rw [List.size_toArray]; exact r1.length.symm
  have l2 : jts.toArray.size = us.length := by rw [List.size_toArray]; exact r2.length.symm
  have hi : ∀ j (h1 : j < its.toArray.size) (h2 : j < jts.toArray.size), EqAt A.in1 s its.toArray[j] jts.toArray[j] (e j) := fun j h1 h2 => by
    obtain ⟨v, e1, q1⟩ := Vals.at r1 h1
    obtain ⟨v', e2, q2⟩ := Vals.at r2 h2
    exact he j v v' _ _ e1 e2 q1 q2
  have rc : RcAt A s (.ref a) (.ref b) b0 := by
    have := RcAt.tuples (e := e) p1 p2 hu hi
    rw [l1, l2, hb0] at this
    exact this
  have rn : RcNeAt A s (.ref a) (.ref b) (!b0) := by
    have := RcNeAt.tuples (e := e) p1 p2 hu hi
    rw [l1, l2, hb0] at this
    exact this
  refine ⟨rc, ?_, rn⟩
  by_cases q : a = b
  · rw [hs q, q]; exact EqAt.same _
  · exact EqAt.of_refs q rc
theorem eq3_lsts (I : Inv X pins σ H s) {A : Around} {a b : Addr} {vs us : List V} {b0 : Bool} (e : Nat → Bool) (ha : SqL X.K H a vs) (hb : SqL X.K H b us) (hu : A.units < cLine) (hs : a = b → b0 = true)
    (he : ∀ j v v' u u', vs[j]? = some v → us[j]? = some v' → RelV v u → RelV v' u' → EqAt A.in1 s u u' (e j)) (hn : vs.length ≠ us.length → b0 = false) (hb0 : vs.length = us.length → (List.range vs.length).all e = b0) : Eq3 A s (.ref a) (.ref b) b0 := by
  obtain ⟨its, r1, p1, _⟩ := I.list ha
  obtain ⟨jts, r2, p2, _⟩ := I.list hb
  have l1 : its.toArray.size = vs.length := by rw [List.size_toArray]; exact r1.length.symm
  have l2 : jts.toArray.size = us.length := by rw [List.size_toArray]; exact r2.length.symm
  have hi : ∀ j (h1 : j < its.toArray.size) (h2 : j < jts.toArray.size), EqAt A.in1 s its.toArray[j] jts.toArray[j] (e j) := fun j h1 h2 => by
    obtain ⟨v, e1, q1⟩ := Vals.at r1 h1
    obtain ⟨v', e2, q2⟩ := Vals.at r2 h2
    exact he j v v' _ _ e1 e2 q1 q2
  have both : RcAt A s (.ref a) (.ref b) b0 ∧ RcNeAt A s (.ref a) (.ref b) (!b0) := by
    by_cases hl : vs.length = us.length
    · have := RcAt.lists (e := e) p1.isList p2.isList (by rw [l1, l2, hl]) hu hi
      have rn := RcNeAt.lists (e := e) p1.isList p2.isList (by rw [l1, l2, hl]) hu hi
      rw [l1, hb0 hl] at this rn
      exact ⟨this, rn⟩
    · rw [hn hl]
      have hz : (its.toArray.size != jts.toArray.size) = true := by rw [l1, l2, bne_iff_ne]; exact hl
      exact ⟨RcAt.lists_lengths p1.isList p2.isList hz hu, RcNeAt.lists_lengths p1.isList p2.isList hz hu⟩
  refine ⟨both.1, ?_, both.2⟩
  by_cases q : a = b
  · rw [hs q, q]; exact EqAt.same _
  · exact EqAt.of_refs q both.1
theorem scal_or {d : D} (p : pureD d = true) : scalD d = true ∨ ∃ ds, d = .tup ds := by
  cases d <;> first | exact .inl rfl | exact .inr ⟨_, rfl⟩ | cases p
theorem eqP (I : Inv X pins σ H s) : ∀ (n : Nat) {d d' : D} {A : Around} {v v' : V} {u u' : Value}, depD d ≤ n → pureD d = true → pureD d' = true → Rep X.K H d v → RelV v u → Rep X.K H d' v' → RelV v' u' → A.units + n + 2 < cLine →
    Eq3 A s u u' (eqD d d') := by
  intro n
  induction n with
  | zero =>
    intro d d' A v v' u u' hn p p' r rv r' rv' hu
    have hu0 : A.units < cLine := by omega
    rcases scal_or p with q | ⟨ds, rfl⟩
    · rcases scal_or p' with q' | ⟨ds', rfl⟩
      · exact eq3_scal q q' r rv r' rv'
      · obtain ⟨b, us, rfl, h2, q2⟩ := r'.tup_inv
        cases rv'
        obtain ⟨its, r1, p1, _⟩ := I.tuple h2
        have := (eq3_tuple_scal p1 hu0 q r rv).2
        have e : eqD d (.tup ds') = false := by cases d <;> first | rfl | cases q
        rw [e]; exact this
    · simp only [depD] at hn; omega
  | succ n ih =>
    intro d d' A v v' u u' hn p p' r rv r' rv' hu
    have hu0 : A.units < cLine := by omega
    rcases scal_or p with q | ⟨ds, rfl⟩
    · rcases scal_or p' with q' | ⟨ds', rfl⟩
      · exact eq3_scal q q' r rv r' rv'
      · obtain ⟨b, us, rfl, h2, q2⟩ := r'.tup_inv
        cases rv'
        obtain ⟨its, r1, p1, _⟩ := I.tuple h2
        have := (eq3_tuple_scal p1 hu0 q r rv).2
        have e : eqD d (.tup ds') = false := by cases d <;> first | rfl | cases q
        rw [e]; exact this
    · obtain ⟨a, vs, rfl, h1, q1⟩ := r.tup_inv
      cases rv
      rcases scal_or p' with q' | ⟨ds', rfl⟩
      · obtain ⟨its, r1, p1, _⟩ := I.tuple h1
        have := (eq3_tuple_scal p1 hu0 q' r' rv').1
        have e : eqD (.tup ds) d' = false := by cases d' <;> first | rfl | cases q'
        rw [e]; exact this
      · obtain ⟨b, us, rfl, h2, q2⟩ := r'.tup_inv
        cases rv'
        have pd : pureDs ds = true := by simpa [pureD] using p
        have pd' : pureDs ds' = true := by simpa [pureD] using p'
        have e0 : eqD (.tup ds) (.tup ds') = eqDs ds ds' := by simp only [eqD]
        rw [e0]
        refine eq3_tups I (fun j => match ds[j]?, ds'[j]? with | some x, some y => eqD x y | _, _ => true) h1 h2 hu0 (fun e => ?_) (fun j v v' u u' e1 e2 rv rv' => ?_) ?_
        · subst e
          have := rep_inj I (depD (.tup ds)) (Nat.le_refl _) p p' r r'
          cases this
          exact eqDs_refl ds pd
        · obtain ⟨x, f1, g1⟩ := Reps.get' q1 e1
          obtain ⟨y, f2, g2⟩ := Reps.get' q2 e2
          simp only [f1, f2]
          have hx := depDs_mem (List.mem_of_getElem? f1)
          simp only [depD] at hn
          exact (ih (by omega) (pureDs_mem pd (List.mem_of_getElem? f1)) (pureDs_mem pd' (List.mem_of_getElem? f2)) g1 rv g2 rv' (by simp only [Around.in1_units]; omega)).2.1
        · rw [← q1.length, ← q2.length]
          exact eqDs_all _ fun j x y e1 e2 => by simp only [e1, e2]
end
end L3
end
section
namespace L3
open PySem PySem.Spec PyProof.Rows L2 PySem.SeqAt
noncomputable def lsD (st : Store) : D → Option (List D)
  | .ref a => match st a with
    | some (.lst xs) => some xs
    | _ => none
  | .mlst xs => some xs
  | _ => none
theorem kinds {st : Store} {d : D} (p : pureS st d = true) : scalD d = true ∨ (∃ ds, d = .tup ds ∧ pureSs st ds = true) ∨ ∃ xs, lsD st d = some xs ∧ pureDs xs = true ∧ depDs xs ≤ DEEP := by
  cases d with
  | tup ds => exact .inr (.inl ⟨ds, rfl, by simpa [pureS] using p⟩)
  | ref a =>
    simp only [pureS] at p
    cases q : st a with
    | none => rw [q] at p; cases p
    | some o => cases o with
      | lst xs =>
        rw [q] at p
        simp only [okL, Bool.and_eq_true, decide_eq_true_eq] at p
        exact .inr (.inr ⟨xs, by simp [lsD, q], p⟩)
      | dic _ _ => rw [q] at p; cases p
      | ins _ _ => rw [q] at p; cases p
      | tab _ _ => rw [q] at p; cases p
  | mlst xs =>
    simp only [pureS, Bool.and_eq_true, decide_eq_true_eq] at p
    exact .inr (.inr ⟨xs, rfl, p⟩)
  | mdic _ _ => cases p
  | exc _ => cases p
  | _ => exact .inl rfl
set_option tactic.hygienic true in
theorem eqS_ll {st : Store} {d d' : D} {xs ys : List D} (h : lsD st d = some xs) (h' : lsD st d' = some ys) : eqS st d d' = eqDs xs ys := by
  cases d with
  | ref a =>
    simp only [lsD] at h
    split at h
    · rename_i zs e
      cases h
      cases d' with
      | ref b =>
        simp only [lsD] at h'
        split at h'
        · rename_i ws e'
          cases h'
          simp only [eqS, e, e', eqO]
        · cases h'
      | mlst ws => cases h'; simp only [eqS, e, eqO]
      | _ => cases h'
    · cases h
  | mlst zs =>
    cases h
    cases d' with
    | ref b =>
      simp only [lsD] at h'
      split at h'
      · rename_i ws e'
        cases h'
        simp only [eqS, e', eqO]
      · cases h'
    | mlst ws => cases h'; simp only [eqS]
    | _ => cases h'
  | _ => cases h
theorem eqS_ls {st : Store} {d d' : D} {xs : List D} (h : lsD st d = some xs) (p : scalD d' = true) : eqS st d d' = false ∧ eqS st d' d = false := by
  cases d <;> first | (cases h; done) | skip
  all_goals (cases d' <;> first | (cases p; done) | exact ⟨rfl, rfl⟩ | (simp [eqS]; done))
theorem eqS_lt {st : Store} {d : D} {ds xs : List D} (h : lsD st d = some xs) : eqS st d (.tup ds) = false ∧ eqS st (.tup ds) d = false := by
  cases d <;> first | (cases h; done) | exact ⟨rfl, rfl⟩ | (simp [eqS]; done)
theorem eqS_ss {st : Store} {d d' : D} (p : scalD d = true) (p' : scalD d' = true) : eqS st d d' = eqD d d' := by
  cases d <;> first | (cases p; done) | skip
  all_goals (cases d' <;> first | (cases p'; done) | rfl | (simp [eqS, eqD]; done))
theorem eqS_st {st : Store} {d : D} {ds : List D} (p : scalD d = true) : eqS st d (.tup ds) = false ∧ eqS st (.tup ds) d = false := by
  cases d <;> first | (cases p; done) | exact ⟨rfl, rfl⟩ | (simp [eqS]; done)
theorem pureSs_mem {st : Store} : ∀ {ds : List D} {d : D}, pureSs st ds = true → d ∈ ds → pureS st d = true
  | e :: ds, d, h, m => by
    simp only [pureSs, Bool.and_eq_true] at h
    rcases List.mem_cons.mp m with rfl | m
    · exact h.1
    · exact pureSs_mem h.2 m
theorem eqSs_all {st : Store} : ∀ {ds es : List D} (e : Nat → Bool), (∀ j d d', ds[j]? = some d → es[j]? = some d' → e j = eqS st d d') → ((List.range (min ds.length es.length)).all e && ds.length == es.length) = eqSs st ds es
  | [], [], e, h => by simp [eqSs]
  | [], _ :: _, e, h => by simp [eqSs]
  | _ :: _, [], e, h => by simp [eqSs]
  | d :: ds, d' :: es, e, h => by
    have ih := eqSs_all (fun j => e (j + 1)) fun j x x' e1 e2 => h (j + 1) x x' (by simpa using e1) (by simpa using e2)
    have h0 := h 0 d d' rfl rfl
    simp only [eqSs, List.length_cons, Nat.add_min_add_right, List.range_succ_eq_map, List.all_cons, List.all_map, Function.comp_def]
    rw [← ih, h0]
    have hl : (ds.length + 1 == es.length + 1) = (ds.length == es.length) := by simp
    rw [hl, Bool.and_assoc]
section
variable {X : Cx} {pins : List (Addr × Obj)} {σ : L2.St} {H : Hp} {s : Shared} {st : Store}
set_option tactic.hygienic true in
theorem ls_rep {K : PySem.W.Frag} {d : D} {v : V} {xs : List D} (ok : StOk K st H) (h : lsD st d = some xs) (r : Rep K H d v) : ∃ a vs, v = .ref a ∧ SqL K H a vs ∧ Reps K H xs vs := by
  cases r with
  | ref a =>
    simp only [lsD] at h
    split at h
    · rename_i zs e
      cases h
      obtain ⟨vs, g, q⟩ := ok.lst e
      exact ⟨a, vs, rfl, SqL.of g, q⟩
    · cases h
  | mlst f q => cases h; exact ⟨_, _, rfl, f.sq, q⟩
  | _ => cases h
theorem reps_inj (I : Inv X pins σ H s) : ∀ {ds es : List D} {vs : List V}, pureDs ds = true → pureDs es = true → Reps X.K H ds vs → Reps X.K H es vs → ds = es
  | _, _, _, _, _, .nil, .nil => rfl
  | _, _, _, p, p', .cons h r, .cons h' r' => by
    simp only [pureDs, Bool.and_eq_true] at p p'
    rw [rep_inj I _ (Nat.le_refl _) p.1 p'.1 h h', reps_inj I p.2 p'.2 r r']
theorem noTL (I : Inv X pins σ H s) {a : Addr} {vs us : List V} (h : SqL X.K H a vs) (h' : SqT X.K H a us) : False := by
  obtain ⟨its, _, p1, _⟩ := I.list h
  obtain ⟨jts, _, p2, _⟩ := I.tuple h'
  exact ne_of_list_tuple p1.isList p2 rfl
theorem rep_eqS (I : Inv X pins σ H s) (ok : StOk X.K st H) : ∀ (n : Nat) {d d' : D} {v : V}, depD d ≤ n → pureS st d = true → pureS st d' = true → Rep X.K H d v → Rep X.K H d' v → eqS st d d' = true := by
  intro n
  induction n with
  | zero =>
    intro d d' v hn p p' r r'
    rcases kinds p with q | ⟨ds, rfl, q⟩ | ⟨xs, q, q1, q2⟩
    · rcases kinds p' with q' | ⟨ds', rfl, q'⟩ | ⟨ys, q', q1', q2'⟩
      · rw [eqS_ss q q']
        have pd : pureD d = true := by cases d <;> first | rfl | cases q
        have pd' : pureD d' = true := by cases d' <;> first | rfl | cases q'
        rw [rep_inj I _ (Nat.le_refl _) pd pd' r r']
        exact eqD_refl d' pd'
      · obtain ⟨a, vs, rfl, _⟩ := r'.tup_inv
        cases r <;> cases q
      · obtain ⟨a, vs, rfl, _⟩ := ls_rep ok q' r'
        cases r <;> cases q
    · simp only [depD] at hn; omega
    · obtain ⟨a, vs, rfl, f1, g1⟩ := ls_rep ok q r
      rcases kinds p' with q' | ⟨ds', rfl, q'⟩ | ⟨ys, q', q1', q2'⟩
      · cases r' <;> cases q'
      · obtain ⟨b, us, e, f2, g2⟩ := r'.tup_inv
        cases e
        exact (noTL I f1 f2).elim
      · obtain ⟨b, us, e, f2, g2⟩ := ls_rep ok q' r'
        cases e
        cases I.list_inj f1 f2
        rw [eqS_ll q q', reps_inj I q1 q1' g1 g2]
        exact eqDs_refl _ q1'
  | succ n ih =>
    intro d d' v hn p p' r r'
    rcases kinds p with q | ⟨ds, rfl, q⟩ | ⟨xs, q, q1, q2⟩
    · rcases kinds p' with q' | ⟨ds', rfl, q'⟩ | ⟨ys, q', q1', q2'⟩
      · rw [eqS_ss q q']
        have pd : pureD d = true := by cases d <;> first | rfl | cases q
        have pd' : pureD d' = true := by cases d' <;> first | rfl | cases q'
        rw [rep_inj I _ (Nat.le_refl _) pd pd' r r']
        exact eqD_refl d' pd'
      · obtain ⟨a, vs, rfl, _⟩ := r'.tup_inv
        cases r <;> cases q
      · obtain ⟨a, vs, rfl, _⟩ := ls_rep ok q' r'
        cases r <;> cases q
    · obtain ⟨a, vs, rfl, f1, g1⟩ := r.tup_inv
      rcases kinds p' with q' | ⟨ds', rfl, q'⟩ | ⟨ys, q', q1', q2'⟩
      · cases r' <;> cases q'
      · obtain ⟨b, us, e, f2, g2⟩ := r'.tup_inv
        cases e
        cases I.tuple_inj f1 f2
        simp only [depD] at hn
        have go : ∀ (ds es : List D) (vs : List V), depDs ds ≤ n → pureSs st ds = true → pureSs st es = true → Reps X.K H ds vs → Reps X.K H es vs → eqSs st ds es = true := by
          intro ds
          induction ds with
          | nil => intro es vs _ _ _ r r'; cases r; cases r'; rfl
          | cons d ds ihs =>
            intro es vs hd pp pp' r r'
            cases r with
            | cons r1 r2 => cases r' with
              | cons r1' r2' =>
                simp only [depDs] at hd
                simp only [pureSs, Bool.and_eq_true] at pp pp'
                simp only [eqSs, Bool.and_eq_true]
                exact ⟨ih (by omega) pp.1 pp'.1 r1 r1', ihs _ _ (by omega) pp.2 pp'.2 r2 r2'⟩
        simp only [eqS]
        exact go ds ds' vs (by omega) q q' g1 g2
      · obtain ⟨b, us, e, f2, g2⟩ := ls_rep ok q' r'
        cases e
        exact (noTL I f2 f1).elim
    · obtain ⟨a, vs, rfl, f1, g1⟩ := ls_rep ok q r
      rcases kinds p' with q' | ⟨ds', rfl, q'⟩ | ⟨ys, q', q1', q2'⟩
      · cases r' <;> cases q'
      · obtain ⟨b, us, e, f2, g2⟩ := r'.tup_inv
        cases e
        exact (noTL I f1 f2).elim
      · obtain ⟨b, us, e, f2, g2⟩ := ls_rep ok q' r'
        cases e
        cases I.list_inj f1 f2
        rw [eqS_ll q q', reps_inj I q1 q1' g1 g2]
        exact eqDs_refl _ q1'
theorem eq3_list_tuple {A : Around} {l b : Addr} {its jts : Array Value} (hl : s.heap.IsList l its) (hb : s.heap.IsTuple b jts) (hu : A.units < cLine) : Eq3 A s (.ref l) (.ref b) false ∧ Eq3 A s (.ref b) (.ref l) false :=
  ⟨⟨RcAt.list_tuple hl hb hu, EqAt.list_tuple hl hb hu, RcNeAt.list_tuple hl hb hu⟩, ⟨RcAt.tuple_list hb hl hu, EqAt.tuple_list hb hl hu, RcNeAt.tuple_list hb hl hu⟩⟩
theorem eq3_ll (I : Inv X pins σ H s) {A : Around} {a b : Addr} {vs us : List V} {xs ys : List D} (f1 : SqL X.K H a vs) (g1 : Reps X.K H xs vs) (f2 : SqL X.K H b us) (g2 : Reps X.K H ys us) (p1 : pureDs xs = true) (d1 : depDs xs ≤ DEEP) (p2 : pureDs ys = true)
    (hu : A.units + 85 < cLine) : Eq3 A s (.ref a) (.ref b) (eqDs xs ys) := by
  refine eq3_lsts I (fun j => match xs[j]?, ys[j]? with | some x, some y => eqD x y | _, _ => true) f1 f2 (by omega) (fun e => ?_) (fun j v v' u u' e1 e2 rv rv' => ?_) (fun h => ?_) (fun h => ?_)
  · subst e
    cases I.list_inj f1 f2
    rw [reps_inj I p1 p2 g1 g2]
    exact eqDs_refl _ p2
  · obtain ⟨x, h1, k1⟩ := Reps.get' g1 e1
    obtain ⟨y, h2, k2⟩ := Reps.get' g2 e2
    simp only [h1, h2]
    have hx := depDs_mem (List.mem_of_getElem? h1)
    have hD : DEEP = 80 := rfl
    exact (eqP I DEEP (by omega) (pureDs_mem p1 (List.mem_of_getElem? h1)) (pureDs_mem p2 (List.mem_of_getElem? h2)) k1 rv k2 rv' (by simp only [Around.in1_units]; omega)).2.1
  · exact eqDs_len (by rw [g1.length, g2.length]; exact h)
  · rw [← g1.length]
    exact eqDs_all' _ (by rw [g1.length, g2.length]; exact h) fun j x y e1 e2 => by simp only [e1, e2]
theorem eqSd (I : Inv X pins σ H s) (ok : StOk X.K st H) : ∀ (n : Nat) {d d' : D} {A : Around} {v v' : V} {u u' : Value}, depD d ≤ n → pureS st d = true → pureS st d' = true → Rep X.K H d v → RelV v u → Rep X.K H d' v' → RelV v' u' → A.units + n + 85 < cLine →
    Eq3 A s u u' (eqS st d d') := by
  intro n
  induction n with
  | zero =>
    intro d d' A v v' u u' hn p p' r rv r' rv' hu
    have hu0 : A.units < cLine := by omega
    rcases kinds p with q | ⟨ds, rfl, q⟩ | ⟨xs, q, q1, q2⟩
    · rcases kinds p' with q' | ⟨ds', rfl, q'⟩ | ⟨ys, q', q1', q2'⟩
      · rw [eqS_ss q q']; exact eq3_scal q q' r rv r' rv'
      · obtain ⟨b, us, rfl, h2, g2⟩ := r'.tup_inv
        cases rv'
        obtain ⟨its, r1, p1, _⟩ := I.tuple h2
        rw [(eqS_st q).1]
        exact (eq3_tuple_scal p1 hu0 q r rv).2
      · obtain ⟨b, us, rfl, h2, g2⟩ := ls_rep ok q' r'
        cases rv'
        obtain ⟨its, r1, p1, _⟩ := I.list h2
        rw [(eqS_ls q' q).2]
        exact (eq3_list_scal p1.isList hu0 q r rv).2
    · simp only [depD] at hn; omega
    · obtain ⟨a, vs, rfl, f1, g1⟩ := ls_rep ok q r
      cases rv
      obtain ⟨its, r1, p1, _⟩ := I.list f1
      rcases kinds p' with q' | ⟨ds', rfl, q'⟩ | ⟨ys, q', q1', q2'⟩
      · rw [(eqS_ls q q').1]
        exact (eq3_list_scal p1.isList hu0 q' r' rv').1
      · obtain ⟨b, us, rfl, h2, g2⟩ := r'.tup_inv
        cases rv'
        obtain ⟨jts, r2, p2, _⟩ := I.tuple h2
        rw [(eqS_lt q).1]
        exact (eq3_list_tuple p1.isList p2 hu0).1
      · obtain ⟨b, us, rfl, h2, g2⟩ := ls_rep ok q' r'
        cases rv'
        rw [eqS_ll q q']
        exact eq3_ll I f1 g1 h2 g2 q1 q2 q1' (by omega)
  | succ n ih =>
    intro d d' A v v' u u' hn p p' r rv r' rv' hu
    have hu0 : A.units < cLine := by omega
    rcases kinds p with q | ⟨ds, rfl, q⟩ | ⟨xs, q, q1, q2⟩
    · rcases kinds p' with q' | ⟨ds', rfl, q'⟩ | ⟨ys, q', q1', q2'⟩
      · rw [eqS_ss q q']; exact eq3_scal q q' r rv r' rv'
      · obtain ⟨b, us, rfl, h2, g2⟩ := r'.tup_inv
        cases rv'
        obtain ⟨its, r1, p1, _⟩ := I.tuple h2
        rw [(eqS_st q).1]
        exact (eq3_tuple_scal p1 hu0 q r rv).2
      · obtain ⟨b, us, rfl, h2, g2⟩ := ls_rep ok q' r'
        cases rv'
        obtain ⟨its, r1, p1, _⟩ := I.list h2
        rw [(eqS_ls q' q).2]
        exact (eq3_list_scal p1.isList hu0 q r rv).2
    · obtain ⟨a, vs, rfl, f1, g1⟩ := r.tup_inv
      cases rv
      obtain ⟨its, r1, p1, _⟩ := I.tuple f1
      rcases kinds p' with q' | ⟨ds', rfl, q'⟩ | ⟨ys, q', q1', q2'⟩
      · rw [(eqS_st q').2]
        exact (eq3_tuple_scal p1 hu0 q' r' rv').1
      · obtain ⟨b, us, rfl, h2, g2⟩ := r'.tup_inv
        cases rv'
        have e0 : eqS st (.tup ds) (.tup ds') = eqSs st ds ds' := by simp only [eqS]
        refine eq3_tups I (fun j => match ds[j]?, ds'[j]? with | some x, some y => eqS st x y | _, _ => true) f1 h2 hu0 (fun e => ?_) (fun j v v' u u' e1 e2 rv rv' => ?_) ?_
        · subst e
          exact rep_eqS I ok _ (Nat.le_refl _) p p' r r'
        · obtain ⟨x, k1, l1⟩ := Reps.get' g1 e1
          obtain ⟨y, k2, l2⟩ := Reps.get' g2 e2
          simp only [k1, k2]
          have hx := depDs_mem (List.mem_of_getElem? k1)
          simp only [depD] at hn
          exact (ih (by omega) (pureSs_mem q (List.mem_of_getElem? k1)) (pureSs_mem q' (List.mem_of_getElem? k2)) l1 rv l2 rv' (by simp only [Around.in1_units]; omega)).2.1
        · rw [← g1.length, ← g2.length, e0]
          exact eqSs_all _ fun j x y e1 e2 => by simp only [e1, e2]
      · obtain ⟨b, us, rfl, h2, g2⟩ := ls_rep ok q' r'
        cases rv'
        obtain ⟨jts, r2, p2, _⟩ := I.list h2
        rw [(eqS_lt q').2]
        exact (eq3_list_tuple p2.isList p1 hu0).2
    · obtain ⟨a, vs, rfl, f1, g1⟩ := ls_rep ok q r
      cases rv
      obtain ⟨its, r1, p1, _⟩ := I.list f1
      rcases kinds p' with q' | ⟨ds', rfl, q'⟩ | ⟨ys, q', q1', q2'⟩
      · rw [(eqS_ls q q').1]
        exact (eq3_list_scal p1.isList hu0 q' r' rv').1
      · obtain ⟨b, us, rfl, h2, g2⟩ := r'.tup_inv
        cases rv'
        obtain ⟨jts, r2, p2, _⟩ := I.tuple h2
        rw [(eqS_lt q).1]
        exact (eq3_list_tuple p1.isList p2 hu0).1
      · obtain ⟨b, us, rfl, h2, g2⟩ := ls_rep ok q' r'
        cases rv'
        rw [eqS_ll q q']
        exact eq3_ll I f1 g1 h2 g2 q1 q2 q1' (by omega)
end
end L3
end
section
namespace L3
open PySem PySem.Spec PyProof.Rows L2 PySem.SeqAt
mutual
inductive KIs (h : Heap) : D → Value → Prop where
  | str (x : List Nat) (t : Tok) : KIs h (.str x) (.str ⟨x.toArray⟩ t)
  | bl (b : Bool) : KIs h (.bl b) (.bool b)
  | tup {ds : List D} {a : Addr} {o : Obj} {its : Array Value} {n : Nat} (e : h.get? a = some o) (c : o.cls = .type "tuple") (d : o.data = .seq its n) (r : KIss h ds its.toList) : KIs h (.tup ds) (.ref a)
inductive KIss (h : Heap) : List D → List Value → Prop where
  | nil : KIss h [] []
  | cons {d : D} {ds : List D} {v : Value} {vs : List Value} (r : KIs h d v) (rs : KIss h ds vs) : KIss h (d :: ds) (v :: vs)
end
section
variable {h h' : Heap}
end
noncomputable instance decD : DecidableEq D := fun a b => Classical.propDecidable (a = b)
end L3
end
section
namespace L3
open PySem PySem.Spec PyProof.Rows L2 PySem.SeqAt
noncomputable def CmpR (X : Cx) (op : CmpOp) (W : D → D → Store → (Bool → Prop) → Prop) : Prop :=
  ∀ (pins : List (Addr × Obj)) (s : Shared) (σ : L2.St) (H : Hp) (st : Store) (d d' : D) (v v' : V) (u u' : Value) (P : Bool → Prop), Inv X pins σ H s → StOk X.K st H → Rep X.K H d v → RelV v u → Rep X.K H d' v' → RelV v' u' → W d d' st P →
    wpAny (model X.prog X.w) X.A (compareOp op u u') (fun r s' => ∃ k, r = .bool k ∧ P k ∧ Inv X pins σ H s') X.xe s
theorem occurs_iff (w : List Nat) : ∀ z : List Nat, occurs w z = true ↔ ∃ i, i + w.length ≤ z.length ∧ (z.drop i).take w.length = w
  | [] => by
    unfold occurs
    constructor
    · intro h; rw [List.isEmpty_iff] at h; subst h; exact ⟨0, by simp, by simp⟩
    · rintro ⟨i, h, _⟩; rw [List.isEmpty_iff]; exact List.length_eq_zero_iff.mp (by simp only [List.length_nil] at h; omega)
  | c :: r => by
    unfold occurs
    rw [Bool.or_eq_true, occurs_iff w r, List.isPrefixOf_iff_prefix]
    constructor
    · rintro (h | ⟨i, h1, h2⟩)
      · exact ⟨0, by have := h.length_le; omega, by rw [List.drop_zero]; exact (List.prefix_iff_eq_take.mp h).symm⟩
      · exact ⟨i + 1, by simp; omega, by simpa using h2⟩
    · rintro ⟨i, h1, h2⟩
      cases i with
      | zero => exact .inl (by rw [List.drop_zero] at h2; rw [List.prefix_iff_eq_take]; exact h2.symm)
      | succ i => exact .inr ⟨i, by simp at h1; omega, by simpa using h2⟩
theorem occ_found (w z : List Nat) : (!(Builtin.Str.occurrences ⟨z.toArray⟩ ⟨w.toArray⟩ 0 (⟨z.toArray⟩ : Str).length 1).isEmpty) = occurs w z := by
  rw [Bool.eq_iff_iff, PySem.StrLaws.found_iff, occurs_iff]
  refine ⟨fun ⟨i, h1, h2⟩ => ⟨i, by simpa [Str.length] using h1, ?_⟩, fun ⟨i, h1, h2⟩ => ⟨i, by simpa [Str.length] using h1, ?_⟩⟩
  · unfold Builtin.Str.subAt at h2
    have := eq_of_beq h2
    simp only [Str.length, List.size_toArray] at this
    have e := congrArg Array.toList this
    simp only [Array.toList_extract, List.extract_eq_take_drop, Nat.add_sub_cancel_left] at e
    exact e
  · unfold Builtin.Str.subAt
    rw [beq_iff_eq]
    simp only [Str.length, List.size_toArray]
    apply Array.toList_inj.mp
    simp only [Array.toList_extract, List.extract_eq_take_drop, Nat.add_sub_cancel_left]
    exact h2
section
variable {X : Cx} {C : CallT} {sub : Nat → Nat → Bool} {E : XK} {a b c e : Expr} {x y z : Ex} {pos : Pos}
theorem c_eq (hu : X.A.units + 180 < cLine) : CmpR X .Eq (cmpW .eq) := by
  intro pins s σ H st d d' v v' u u' P I ok r rv r' rv' ⟨p, p', q⟩
  have hD : DEEP = 80 := rfl
  exact (eqSd I ok 80 (by have := p.2; omega) p.1 p'.1 r rv r' rv' (by omega)).1 _ _ _ _ ⟨_, rfl, q, I⟩
theorem c_ne (hu : X.A.units + 180 < cLine) : CmpR X .NotEq (cmpW .ne) := by
  intro pins s σ H st d d' v v' u u' P I ok r rv r' rv' ⟨p, p', q⟩
  have hD : DEEP = 80 := rfl
  exact (eqSd I ok 80 (by have := p.2; omega) p.1 p'.1 r rv r' rv' (by omega)).2.2 _ _ _ _ ⟨_, rfl, q, I⟩
theorem c_ord {op : CmpOp} {o : COp} {f : Int → Int → Bool} (hW : ∀ d d' st P, cmpW o d d' st P = ordW f d d' P)
    (rule : ∀ (i j : Int) (t u : Tok) (Q : Value → Shared → Prop) (s : Shared), Q (.bool (f i j)) s → wpAny (model X.prog X.w) X.A (compareOp op (.int i t) (.int j u)) Q X.xe s) : CmpR X op (cmpW o) := by
  intro pins s σ H st d d' v v' u u' P I ok r rv r' rv' q
  rw [hW] at q
  unfold ordW at q
  split at q
  · cases r.int_inv; cases r'.int_inv
    obtain ⟨t, rfl⟩ := rv
    obtain ⟨t', rfl⟩ := rv'
    exact rule _ _ _ _ _ _ ⟨_, rfl, q, I⟩
  · exact q.elim
theorem c_lt : CmpR X .Lt (cmpW .lt) := c_ord (fun _ _ _ _ => rfl) fun _ _ _ _ _ _ h => lt_int h
theorem c_le : CmpR X .LtE (cmpW .le) := c_ord (fun _ _ _ _ => rfl) fun _ _ _ _ _ _ h => le_int h
theorem c_gt : CmpR X .Gt (cmpW .gt) := c_ord (fun _ _ _ _ => rfl) fun _ _ _ _ _ _ h => gt_int h
theorem c_ge : CmpR X .GtE (cmpW .ge) := c_ord (fun _ _ _ _ => rfl) fun _ _ _ _ _ _ h => ge_int h
theorem no_frz {pins : List (Addr × Obj)} {s : Shared} {σ : L2.St} {H : Hp} {a : Addr} {vs us : List V} (I : Inv X pins σ H s) (h : H a = some (.lst vs)) (f : FrzL X.K H a us) : False := by
  rcases f with ⟨o, e⟩ | ⟨o, _, _, e, _⟩
  · rw [h] at e; cases e
  · have := (I.bs a o (I.ok.mod.kin a o e)).2
    rw [h] at this; cases this
set_option tactic.hygienic true in
theorem rep_injS {pins : List (Addr × Obj)} {s : Shared} {σ : L2.St} {H : Hp} {st : Store} (I : Inv X pins σ H s) (ok : StOk X.K st H) : ∀ (n : Nat) {d d' : D} {v : V}, depD d ≤ n → pureS st d = true → pureS st d' = true → Rep X.K H d v → Rep X.K H d' v → d = d' := by
  have lists : ∀ {d d' : D} {v : V} {xs ys : List D}, lsD st d = some xs → lsD st d' = some ys → pureDs xs = true → pureDs ys = true → Rep X.K H d v → Rep X.K H d' v → d = d' := by
    intro d d' v xs ys q q' p p' r r'
    cases r with
    | ref a => cases r' with
      | ref _ => rfl
      | mlst f g =>
        simp only [lsD] at q
        split at q
        · rename_i e
          obtain ⟨vs, h, _⟩ := ok.lst e
          exact (no_frz I h f).elim
        · cases q
      | _ => cases q'
    | mlst f g => cases r' with
      | ref _ =>
        simp only [lsD] at q'
        split at q'
        · rename_i e
          obtain ⟨vs, h, _⟩ := ok.lst e
          exact (no_frz I h f).elim
        · cases q'
      | mlst f' g' =>
        cases q; cases q'
        cases I.list_inj f.sq f'.sq
        rw [reps_inj I p p' g g']
      | _ => cases q'
    | _ => cases q
  intro n
  induction n with
  | zero =>
    intro d d' v hn p p' r r'
    rcases kinds p with q | ⟨ds, rfl, q⟩ | ⟨xs, q, q1, q2⟩
    · cases r <;> cases r' <;> first | rfl | (cases q; done) | skip
    · simp only [depD] at hn; omega
    · obtain ⟨a, vs, rfl, f1, g1⟩ := ls_rep ok q r
      rcases kinds p' with q' | ⟨ds', rfl, q'⟩ | ⟨ys, q', q1', q2'⟩
      · cases r' <;> cases q'
      · obtain ⟨b, us, e, f2, g2⟩ := r'.tup_inv
        cases e
        exact (noTL I f1 f2).elim
      · exact lists q q' q1 q1' r r'
  | succ n ih =>
    intro d d' v hn p p' r r'
    rcases kinds p with q | ⟨ds, rfl, q⟩ | ⟨xs, q, q1, q2⟩
    · cases r <;> cases r' <;> first | rfl | (cases q; done) | skip
    · obtain ⟨a, vs, rfl, f1, g1⟩ := r.tup_inv
      rcases kinds p' with q' | ⟨ds', rfl, q'⟩ | ⟨ys, q', q1', q2'⟩
      · cases r' <;> cases q'
      · obtain ⟨b, us, e, f2, g2⟩ := r'.tup_inv
        cases e
        cases I.tuple_inj f1 f2
        simp only [depD] at hn
        have go : ∀ (ds es : List D) (vs : List V), depDs ds ≤ n → pureSs st ds = true → pureSs st es = true → Reps X.K H ds vs → Reps X.K H es vs → ds = es := by
          intro ds
          induction ds with
          | nil => intro es vs _ _ _ r r'; cases r; cases r'; rfl
          | cons d ds ihs =>
            intro es vs hd pp pp' r r'
            cases r with
            | cons r1 r2 => cases r' with
              | cons r1' r2' =>
                simp only [depDs] at hd
                simp only [pureSs, Bool.and_eq_true] at pp pp'
                rw [ih (by omega) pp.1 pp'.1 r1 r1', ihs _ _ (by omega) pp.2 pp'.2 r2 r2']
        rw [go ds ds' vs (by omega) q q' g1 g2]
      · obtain ⟨b, us, e, f2, g2⟩ := ls_rep ok q' r'
        cases e
        exact (noTL I f2 f1).elim
    · obtain ⟨a, vs, rfl, f1, g1⟩ := ls_rep ok q r
      rcases kinds p' with q' | ⟨ds', rfl, q'⟩ | ⟨ys, q', q1', q2'⟩
      · cases r' <;> cases q'
      · obtain ⟨b, us, e, f2, g2⟩ := r'.tup_inv
        cases e
        exact (noTL I f1 f2).elim
      · exact lists q q' q1 q1' r r'
theorem any_items {pins : List (Addr × Obj)} {s : Shared} {σ : L2.St} {H : Hp} {st : Store} (I : Inv X pins σ H s) (ok : StOk X.K st H) {ds : List D} {vs : List V} {its : List Value} {d : D} {v : V} {u : Value} {A : Around}
    (g : Reps X.K H ds vs) (r : Vals vs its) (p : plainSs st ds) (pd : plainS st d) (rd : Rep X.K H d v) (rv : RelV v u) (hu : A.units + 178 < cLine) :
    ∃ e : Value → Bool, (∀ y, y ∈ its.toArray → EqAt A.in1 s y u (e y)) ∧ its.toArray.any e = ds.any fun d' => eqS st d' d := by
  classical
  have hD : DEEP = 80 := rfl
  have item : ∀ (d' : D) (v' : V) (y : Value), d' ∈ ds → Rep X.K H d' v' → RelV v' y → EqAt A.in1 s y u (eqS st d' d) := fun d' v' y m r' rv' => by
    have h1 := depDs_mem m
    have h2 := p.2
    exact (eqSd I ok 80 (by omega) (pureSs_mem p.1 m) pd.1 r' rv' rd rv (by simp only [Around.in1_units]; omega)).2.1
  let e : Value → Bool := fun y => decide (∃ d' v', d' ∈ ds ∧ Rep X.K H d' v' ∧ RelV v' y ∧ eqS st d' d = true)
  have he : ∀ (d' : D) (v' : V) (y : Value), d' ∈ ds → Rep X.K H d' v' → RelV v' y → e y = eqS st d' d := fun d' v' y m r' rv' => by
    show decide _ = _
    cases q : eqS st d' d with
    | true => exact decide_eq_true ⟨d', v', m, r', rv', q⟩
    | false =>
      refine decide_eq_false fun ⟨d2, v2, m2, r2, rv2, q2⟩ => ?_
      cases RelV.inj rv' rv2
      have := rep_injS I ok _ (Nat.le_refl _) (pureSs_mem p.1 m) (pureSs_mem p.1 m2) r' r2
      subst this
      rw [q] at q2; cases q2
  refine ⟨e, fun y hy => ?_, ?_⟩
  · obtain ⟨j, hj, rfl⟩ := Array.mem_iff_getElem.mp hy
    obtain ⟨v', e1, e2⟩ := Vals.at r hj
    obtain ⟨d', e3, e4⟩ := Reps.get' g e1
    rw [he d' v' _ (List.mem_of_getElem? e3) e4 e2]
    exact item d' v' _ (List.mem_of_getElem? e3) e4 e2
  · have go : ∀ (es : List D) (vs : List V) (its : List Value), (∀ d ∈ es, d ∈ ds) → Reps X.K H es vs → Vals vs its → its.any e = es.any fun d' => eqS st d' d := by
      intro es
      induction es with
      | nil => intro vs its _ g r; cases g; cases r; rfl
      | cons d1 es ih =>
        intro vs its hm g r
        cases g with
        | cons g1 g2 => cases r with
          | cons r1 r2 =>
            simp only [List.any_cons]
            rw [he d1 _ _ (hm d1 (by simp)) g1 r1, ih _ _ (fun d m => hm d (by simp [m])) g2 r2]
    rw [List.any_toArray]
    exact go ds vs its (fun _ m => m) g r
theorem cps_eq (k x : Str) : (decide (k = x)) = (x.cps.toList == k.cps.toList) := by
  by_cases h : k = x
  · subst h; simp
  · rw [decide_eq_false h]
    symm
    refine beq_eq_false_iff_ne.mpr fun e => h ?_
    obtain ⟨⟨k⟩⟩ := k
    obtain ⟨⟨x⟩⟩ := x
    have e : x = k := e
    subst e; rfl
theorem mt_here {pins : List (Addr × Obj)} {s : Shared} {σ : L2.St} {H : Hp} {a : Addr} {T : List (Str × PyData)} (I : Inv X pins σ H s) (h : KTD.tabLook KTD.flatLooks (fun b => X.K.lookup b) a T = true) : KTD.Here s.heap s.heap a (T.map fun p => (p.1, KTD.Dat.flat p.2)) :=
  ⟨(KTD.tab_of_look (fun d v => KTD.flat_of_looks) (fun a o e => I.kIn a o e) h).text, fun _ _ e => e⟩
theorem mt_keys (k : List Nat) : ∀ (T : List (Str × PyData)), KTD.inKeys (⟨k.toArray⟩ : Str) (T.map fun p => (p.1, KTD.Dat.flat p.2)) = (T.map fun p => D.str p.1.cps.toList).any fun d => eqD d (.str k)
  | [] => rfl
  | (x, d) :: T => by
    show (decide ((⟨k.toArray⟩ : Str) = x) || KTD.inKeys _ _) = ((x.cps.toList == k) || _)
    rw [mt_keys k T, cps_eq]
theorem c_in (hu : X.A.units + 180 < cLine) : CmpR X .In (cmpW .in_) ∧ CmpR X .NotIn (cmpW .notin) := by
  have main : ∀ (neg : Bool) (pins : List (Addr × Obj)) (s : Shared) (σ : L2.St) (H : Hp) (st : Store) (d d' : D) (v v' : V) (u u' : Value) (P : Bool → Prop), Inv X pins σ H s → StOk X.K st H → Rep X.K H d v → RelV v u → Rep X.K H d' v' → RelV v' u' →
      inW d d' st (fun b => P (if neg then !b else b)) → wpAny (model X.prog X.w) X.A (compareOp (if neg then .NotIn else .In) u u') (fun r s' => ∃ k, r = .bool k ∧ P k ∧ Inv X pins σ H s') X.xe s := by
    intro neg pins s σ H st d d' v v' u u' P I ok r rv r' rv' q
    have lst : ∀ (a : Addr) (vs : List V) (ds : List D), SqL X.K H a vs → Reps X.K H ds vs → plainS st d → plainSs st ds → P (if neg then !(ds.any fun d' => eqS st d' d) else ds.any fun d' => eqS st d' d) →
        wpAny (model X.prog X.w) X.A (compareOp (if neg then .NotIn else .In) u (.ref a)) (fun r s' => ∃ k, r = .bool k ∧ P k ∧ Inv X pins σ H s') X.xe s := by
      intro a vs ds f g pd ps q
      obtain ⟨its, r1, p1, _⟩ := I.list f
      obtain ⟨e, he, ha⟩ := any_items I ok g r1 ps pd r rv (A := X.A) (by omega)
      rw [← ha] at q
      cases neg with
      | true => exact notIn_listAt e p1.isList he ⟨_, rfl, q, I⟩
      | false => exact in_listAt e p1.isList he ⟨_, rfl, q, I⟩
    unfold inW at q
    split at q
    · obtain ⟨a, vs, rfl, f, g⟩ := r'.tup_inv
      cases rv'
      obtain ⟨its, r1, p1, _⟩ := I.tuple f
      obtain ⟨pd, ps, q⟩ := q
      obtain ⟨e, he, ha⟩ := any_items I ok g r1 ps pd r rv (A := X.A) (by omega)
      rw [← ha] at q
      cases neg with
      | true => exact notIn_tupleAt e p1 he ⟨_, rfl, q, I⟩
      | false => exact in_tupleAt e p1 he ⟨_, rfl, q, I⟩
    · cases r'.ref_inv
      cases rv'
      obtain ⟨ds, e1, pd, ps, q⟩ := seqAt_inv ok q
      obtain ⟨vs, g1, g2⟩ := ok.lst e1
      exact lst _ vs ds (SqL.of g1) g2 pd ps q
    · obtain ⟨a, rfl, T, h1, _, h2, _⟩ := r'.mdic_inv
      cases rv'
      cases r.str_inv
      obtain ⟨t, rfl⟩ := rv
      rw [h2, ← mt_keys] at q
      cases neg with
      | true => exact KTD.notin_text (mt_here I h1) ⟨_, rfl, q, I.tok _⟩
      | false => exact KTD.in_text (mt_here I h1) ⟨_, rfl, q, I.tok _⟩
    · obtain ⟨a, vs, rfl, f, g⟩ := r'.mlst_inv
      cases rv'
      exact lst a vs _ f.sq g q.1 q.2.1 q.2.2
    · cases r.str_inv; cases r'.str_inv
      cases neg with
      | true =>
        refine thn (op_notIn_str (X := X) pins s σ H _ _ _ _ (fun v H' => H' = H ∧ ∃ k, v = .bl k ∧ P k) I rv rv' ⟨_, _, rfl, rfl, rfl, _, rfl, ?_⟩) fun r s1 ⟨v, H', I1, r1, e, k, e', q'⟩ => ?_
        · rw [occ_found]; exact q
        · subst e e'; cases r1; exact ⟨k, rfl, q', I1⟩
      | false =>
        refine thn (op_in_str (X := X) pins s σ H _ _ _ _ (fun v H' => H' = H ∧ ∃ k, v = .bl k ∧ P k) I rv rv' ⟨_, _, rfl, rfl, rfl, _, rfl, ?_⟩) fun r s1 ⟨v, H', I1, r1, e, k, e', q'⟩ => ?_
        · rw [occ_found]; exact q
        · subst e e'; cases r1; exact ⟨k, rfl, q', I1⟩
    · exact q.elim
  exact ⟨fun pins s σ H st d d' v v' u u' P I ok r rv r' rv' q => main false pins s σ H st d d' v v' u u' P I ok r rv r' rv' q, fun pins s σ H st d d' v v' u u' P I ok r rv r' rv' q => main true pins s σ H st d d' v v' u u' P I ok r rv r' rv' q⟩
theorem isNon_iff {K : PySem.W.Frag} {H : Hp} {d : D} {v : V} {u : Value} (r : Rep K H d v) (rv : RelV v u) : (u == Value.none) = isNon d := by
  rw [rv.none_iff]
  cases r <;> rfl
set_option tactic.hygienic true in
theorem c_is : CmpR X .Is (cmpW .is_) ∧ CmpR X .IsNot (cmpW .isnot) := by
  constructor
  · intro pins s σ H st d d' v v' u u' P I ok r rv r' rv' q
    have q : isW d d' P := q
    unfold isW at q
    split at q
    · cases r'.non_inv; cases rv'
      exact is_none_gen ⟨_, rfl, by rw [isNon_iff r rv]; exact q, I⟩
    · rename_i b
      cases r'.bl_inv; cases rv'
      cases r with
      | bl c => cases rv; exact is_bool ⟨_, rfl, q, I⟩
      | non => cases rv; exact wpAny_is_other rfl (by intro z; cases z) ⟨_, rfl, q, I⟩
      | int i => obtain ⟨t, rfl⟩ := rv; exact wpAny_is_other rfl (by intro z; cases z) ⟨_, rfl, q, I⟩
      | str z => obtain ⟨t, rfl⟩ := rv; exact wpAny_is_other rfl (by intro z; cases z) ⟨_, rfl, q, I⟩
      | tup _ _ => cases rv; exact wpAny_is_other rfl (by intro z; cases z) ⟨_, rfl, q, I⟩
      | ref _ => cases rv; exact wpAny_is_other rfl (by intro z; cases z) ⟨_, rfl, q, I⟩
      | mlst _ _ => cases rv; exact wpAny_is_other rfl (by intro z; cases z) ⟨_, rfl, q, I⟩
      | mdic _ => cases rv; exact wpAny_is_other rfl (by intro z; cases z) ⟨_, rfl, q, I⟩
    · exact q.elim
  · intro pins s σ H st d d' v v' u u' P I ok r rv r' rv' q
    have q : isW d d' (fun b => P (!b)) := q
    unfold isW at q
    split at q
    · cases r'.non_inv; cases rv'
      exact isnot_none_gen ⟨_, rfl, by rw [isNon_iff r rv]; exact q, I⟩
    · rename_i b
      cases r'.bl_inv; cases rv'
      cases r with
      | bl c => cases rv; exact isnot_bool ⟨_, rfl, q, I⟩
      | non => cases rv; exact wpAny_isNot_other rfl (by intro z; cases z) ⟨_, rfl, q, I⟩
      | int i => obtain ⟨t, rfl⟩ := rv; exact wpAny_isNot_other rfl (by intro z; cases z) ⟨_, rfl, q, I⟩
      | str z => obtain ⟨t, rfl⟩ := rv; exact wpAny_isNot_other rfl (by intro z; cases z) ⟨_, rfl, q, I⟩
      | tup _ _ => cases rv; exact wpAny_isNot_other rfl (by intro z; cases z) ⟨_, rfl, q, I⟩
      | ref _ => cases rv; exact wpAny_isNot_other rfl (by intro z; cases z) ⟨_, rfl, q, I⟩
      | mlst _ _ => cases rv; exact wpAny_isNot_other rfl (by intro z; cases z) ⟨_, rfl, q, I⟩
      | mdic _ => cases rv; exact wpAny_isNot_other rfl (by intro z; cases z) ⟨_, rfl, q, I⟩
    · exact q.elim
noncomputable def cop : COp → CmpOp
  | .eq => .Eq | .ne => .NotEq | .lt => .Lt | .le => .LtE | .gt => .Gt | .ge => .GtE | .is_ => .Is | .isnot => .IsNot | .in_ => .In | .notin => .NotIn
theorem c_all (hu : X.A.units + 180 < cLine) : ∀ o : COp, CmpR X (cop o) (cmpW o)
  | .eq => c_eq hu
  | .ne => c_ne hu
  | .lt => c_lt
  | .le => c_le
  | .gt => c_gt
  | .ge => c_ge
  | .is_ => c_is.1
  | .isnot => c_is.2
  | .in_ => (c_in hu).1
  | .notin => (c_in hu).2
theorem j_cmp {o : COp} (hu : X.A.units + 180 < cLine) (ha : PE X a (tOf X.K (wpE C sub E x))) (hb : PE X b (tOf X.K (wpE C sub E y))) (hm : behindInMarks (cop o) b = false) : PE X (.Compare a [cop o] [b] pos) (tOf X.K (wpE C sub E (.cmp o x y))) := by
  intro pins s σ H Q I ⟨σd, st, R, r, ok, q, hq⟩
  refine wpAny_Compare1 (thn (ha pins s σ H _ I ⟨σd, st, _, r, ok, q, fun v H' z => z⟩) fun u s1 ⟨v, H1, I1, rv, d, st1, s1s, ok1, r1, q1⟩ =>
    thn (hb pins s1 σ H1 _ I1 ⟨σd, st1, _, r.step ok s1s, ok1, q1, fun v H' z => z⟩) fun u' s2 ⟨v', H2, I2, rv', d', st2, s2s, ok2, r2, q2⟩ =>
    thn (c_all hu o pins s2 σ H2 st2 d d' v v' u u' _ I2 ok2 (r1.step ok1 s2s) rv r2 rv' q2) fun w s3 ⟨k, e, q3, I3⟩ => ?_) hm
  subst e
  exact ⟨.bl k, H2, I3, rfl, hq _ _ (.after (s1s.trans s2s) (.here ok2 (.bl k) q3))⟩
theorem jt_cmp {o : COp} (hu : X.A.units + 180 < cLine) (ha : PE X a (tOf X.K (wpE C sub E x))) (hb : PE X b (tOf X.K (wpE C sub E y))) (hm : behindInMarks (cop o) b = false) : PT X (.Compare a [cop o] [b] pos) (ttOf X.K (wpE C sub E (.cmp o x y))) := by
  intro pins s σ H Q I ⟨σd, st, R, r, ok, q, hq⟩
  refine wpAny_isTrue_Compare1 (thn (ha pins s σ H _ I ⟨σd, st, _, r, ok, q, fun v H' z => z⟩) fun u s1 ⟨v, H1, I1, rv, d, st1, s1s, ok1, r1, q1⟩ =>
    thn (hb pins s1 σ H1 _ I1 ⟨σd, st1, _, r.step ok s1s, ok1, q1, fun v H' z => z⟩) fun u' s2 ⟨v', H2, I2, rv', d', st2, s2s, ok2, r2, q2⟩ =>
    thn (c_all hu o pins s2 σ H2 st2 d d' v v' u u' _ I2 ok2 (r1.step ok1 s2s) rv r2 rv' q2) fun w s3 ⟨k, e, q3, I3⟩ => ?_) hm
  subst e
  exact wpAny_truthy_bool ⟨H2, I3, hq _ _ ⟨st2, s1s.trans s2s, ok2, q3⟩⟩
theorem j_chain {o o' : COp} (hu : X.A.units + 180 < cLine) (ha : PE X a (tOf X.K (wpE C sub E x))) (hb : PE X b (tOf X.K (wpE C sub E y))) (hc : PE X c (tOf X.K (wpE C sub E z))) (hm : lastMarks [cop o, cop o'] [b, c] = false) :
    PE X (.Compare a [cop o, cop o'] [b, c] pos) (tOf X.K (wpE C sub E (.chain o o' x y z))) := by
  intro pins s σ H Q I ⟨σd, st, R, r, ok, q, hq⟩
  refine Compare_chain (thn (ha pins s σ H _ I ⟨σd, st, _, r, ok, q, fun v H' z => z⟩) fun u s1 ⟨v, H1, I1, rv, d, st1, s1s, ok1, r1, q1⟩ =>
    chain_link (thn (hb pins s1 σ H1 _ I1 ⟨σd, st1, _, r.step ok s1s, ok1, q1, fun v H' z => z⟩) fun u' s2 ⟨v', H2, I2, rv', d', st2, s2s, ok2, r2, q2⟩ =>
    thn (c_all hu o pins s2 σ H2 st2 d d' v v' u u' _ I2 ok2 (r1.step ok1 s2s) rv r2 rv' q2) fun w s3 ⟨k, e, q3, I3⟩ => ?_)) hm
  subst e
  refine wpAny_truthy_bool ?_
  cases k with
  | false => exact ite_ff ⟨.bl false, H2, I3, rfl, hq _ _ (.after (s1s.trans s2s) (.here ok2 (.bl _) q3))⟩
  | true =>
    refine ite_tt (chain_last (thn (hc pins s3 σ H2 _ I3 ⟨σd, st2, _, (r.step ok s1s).step ok1 s2s, ok2, q3, fun v H' z => z⟩) fun u3 s4 ⟨v3, H4, I4, rv3, d3, st4, s4s, ok4, r4, q4⟩ =>
      thn (c_all hu o' pins s4 σ H4 st4 d' d3 v' v3 u' u3 _ I4 ok4 (r2.step ok2 s4s) rv' r4 rv3 q4) fun w s5 ⟨k, e, q5, I5⟩ => ?_))
    subst e
    exact ⟨.bl k, H4, I5, rfl, hq _ _ (.after ((s1s.trans s2s).trans s4s) (.here ok4 (.bl k) q5))⟩
end
end L3
end
section
namespace L3
open PySem PySem.Spec PyProof.Rows PyProof.V L2
section
variable {X : Cx} {C : CallT} {sub : Nat → Nat → Bool} {E : XK} {a b c e : Expr} {x y z : Ex} {pos : Pos}
theorem ixN_eq (n : Nat) (i : Int) : L2.ixN n i = ixN n i := rfl
theorem atI_rep {K : PySem.W.Frag} {H : Hp} {ds : List D} {vs : List V} {i : Int} {d : D} (r : Reps K H ds vs) (h : atI ds i = some d) : ∃ v, L2.atI vs i = some v ∧ Rep K H d v := by
  unfold atI at h
  unfold L2.atI
  rw [ixN_eq, ← r.length]
  cases e : ixN ds.length i with
  | none => rw [e] at h; cases h
  | some j =>
    rw [e] at h
    obtain ⟨v, e1, e2⟩ := r.get (i := j) h
    exact ⟨v, e1, e2⟩
noncomputable def rIxM (K : PySem.W.Frag) : R2 := fun x y H Q => ∃ (p : Addr) (T : List (Str × PyData)) (k : Str) (d : PyData), x = .ref p ∧ y = .str k ∧ KTD.tabLook KTD.flatLooks (fun b => K.lookup b) p T = true ∧ KTD.datumAt k T = some d ∧ simpleD d = true ∧ ∀ v u, RelV v u → Flat u d → Q v H
noncomputable def rIx3 (K : PySem.W.Frag) : R2 := fun x y H Q => rIx K x y H Q ∨ rIxM K x y H Q
theorem datum_flat {k : Str} {d : PyData} : ∀ {T : List (Str × PyData)}, KTD.datumAt k T = some d → KTD.datumAt k (T.map fun p => (p.1, KTD.Dat.flat p.2)) = some (.flat d)
  | [], h => by cases h
  | (x, e) :: T, h => by
    show (if decide (k = x) = true then some (KTD.Dat.flat e) else _) = _
    have h : (if decide (k = x) = true then some e else KTD.datumAt k T) = some d := h
    by_cases c : decide (k = x) = true
    · rw [if_pos c] at h ⊢; cases h; rfl
    · rw [if_neg c] at h ⊢; exact datum_flat h
theorem ix_mt {X : Cx} : IxR X (rIxM X.K) := by
  intro value slice pins s σ H x y v u Q I rx ry h hs
  obtain ⟨p, T, k, d, rfl, rfl, hT, hd, hsd, q⟩ := h
  cases rx
  obtain ⟨t, rfl⟩ := ry
  have hh := mt_here I hT
  refine subscriptTail_builtin_flat hh.typeIs slot_dict_getitem.lookup ?_ hs
  unfold getItem
  try with_reducible refine wpAny_holding ?_
  refine wpAny_bind (wpAny_sequenceKey hh.typeIs (by decide) ?_)
  refine wpAny_bind (wpAny_callSpecial?_slot (name := Str.ofString "__getitem__") hh.typeIs slot_dict_getitem
    (wpAny_call_entry slot_dict_getitem hh.typeIs entry_dict_getitem ?_ (args_dict_getitem _ _)))
  show wpAny _ _ (dictGet p (.str k t) >>= _) _ _ s
  refine wpAny_bind (KTD.dictGet_text hh (fun d' v ha hv => ?_) fun hn => ?_)
  · rw [datum_flat hd] at ha
    cases ha
    have hv : Flat v d := hv
    refine wpAny_pure ⟨v, rfl, wpAny_pure ⟨Flat.notRef hv, ?_⟩⟩
    obtain ⟨w, rw'⟩ : ∃ w, RelV w v := by
      cases d with
      | none => cases Flat.none_inv hv; exact ⟨.non, rfl⟩
      | bool b => cases Flat.bool_inv hv; exact ⟨.bl b, rfl⟩
      | int i => obtain ⟨t, rfl⟩ := Flat.int_inv hv; exact ⟨.int i, ⟨t, rfl⟩⟩
      | str x => obtain ⟨t, rfl⟩ := Flat.str_inv hv; exact ⟨.str x, ⟨t, rfl⟩⟩
      | _ => cases hsd
    exact ⟨w, H, I.tok _, rw', q w v rw' hv⟩
  · rw [datum_flat hd] at hn; cases hn
theorem ix_all {X : Cx} : IxR X (rIx3 X.K) := ix_seq.or ix_mt
theorem rIx3_mono {K : PySem.W.Frag} (v v' : V) (H : Hp) (Q Q' : L2.VK) (h : ∀ v H, Q v H → Q' v H) (z : rIx3 K v v' H Q) : rIx3 K v v' H Q' := by
  rcases z with z | ⟨p, T, k, d, e, e', e1, e2, e3, q⟩
  · refine .inl ?_
    rcases z with ⟨p, xs, i, v, e, e', s, t, q⟩ | ⟨p, xs, i, v, e, e', s, t, q⟩ | ⟨z, i, c, e, e', s, t, q⟩
    · exact .inl ⟨p, xs, i, v, e, e', s, t, h _ _ q⟩
    · exact .inr (.inl ⟨p, xs, i, v, e, e', s, t, h _ _ q⟩)
    · exact .inr (.inr ⟨z, i, c, e, e', s, t, h _ _ q⟩)
  · exact .inr ⟨p, T, k, d, e, e', e1, e2, e3, fun v u r f => h _ _ (q v u r f)⟩
theorem lookD_mt {k : List Nat} {d : D} : ∀ {T : List (Str × PyData)}, (T.all fun p => simpleD p.2) = true → lookD (T.map fun p => .str p.1.cps.toList) (T.map fun p => flatD p.2) (.str k) = some d → ∃ e, KTD.datumAt (⟨k.toArray⟩ : Str) T = some e ∧ simpleD e = true ∧ d = flatD e
  | [], _, h => by cases h
  | (x, e) :: T, a, h => by
    simp only [List.all_cons, Bool.and_eq_true] at a
    have h : (if (x.cps.toList == k) = true then some (flatD e) else lookD (T.map fun p => .str p.1.cps.toList) (T.map fun p => flatD p.2) (.str k)) = some d := h
    show ∃ e', (if decide ((⟨k.toArray⟩ : Str) = x) = true then some e else KTD.datumAt _ T) = some e' ∧ _
    rw [cps_eq]
    by_cases c : (x.cps.toList == k) = true
    · rw [if_pos c] at h; cases h
      exact ⟨e, if_pos c, a.1, rfl⟩
    · rw [if_neg c] at h
      obtain ⟨e', h1, h2⟩ := lookD_mt a.2 h
      exact ⟨e', (if_neg c).trans h1, h2⟩
theorem flat_rep {K : PySem.W.Frag} {H : Hp} {e : PyData} {v : V} {u : Value} (s : simpleD e = true) (r : RelV v u) (f : Flat u e) : Rep K H (flatD e) v := by
  cases e with
  | none => cases Flat.none_inv f; cases RelV.inj r (show RelV .non .none from rfl); exact .non
  | bool b => cases Flat.bool_inv f; cases RelV.inj r (show RelV (.bl b) (.bool b) from rfl); exact .bl b
  | int i => obtain ⟨t, rfl⟩ := Flat.int_inv f; cases RelV.inj r (show RelV (.int i) (.int i t) from ⟨t, rfl⟩); exact .int i
  | str x => obtain ⟨t, rfl⟩ := Flat.str_inv f; cases RelV.inj r (show RelV (.str x) (.str x t) from ⟨t, rfl⟩); exact .str x.cps.toList
  | _ => cases s
theorem ix_sound {K : PySem.W.Frag} {H : Hp} {st : Store} {R : VK} {d d' : D} {v v' : V} (ok : StOk K st H) (r : Rep K H d v) (r' : Rep K H d' v') (h : ixW d d' st R) : rIx3 K v v' H (QD K H st R) := by
  unfold ixW at h
  split at h
  · obtain ⟨a, vs, rfl, f, g⟩ := r.tup_inv
    cases r'.int_inv
    obtain ⟨d, e, q⟩ := optK_inv h
    obtain ⟨v, e1, e2⟩ := atI_rep g e
    exact .inl (.inr (.inl ⟨a, vs, _, v, rfl, rfl, f, e1, .here ok e2 q⟩))
  · obtain ⟨a, vs, rfl, f, g⟩ := r.mlst_inv
    cases r'.int_inv
    obtain ⟨d, e, q⟩ := optK_inv h
    obtain ⟨v, e1, e2⟩ := atI_rep g e
    exact .inl (.inl ⟨a, vs, _, v, rfl, rfl, f.sq, e1, .here ok e2 q⟩)
  · cases r.str_inv
    cases r'.int_inv
    obtain ⟨l, h⟩ := h
    obtain ⟨c, e, q⟩ := optK_inv h
    exact .inl (.inr (.inr ⟨_, _, c, rfl, rfl, by rw [line_eq]; simpa [Str.length] using l, e, .here ok (.str [c]) q⟩))
  · obtain ⟨a, rfl, T, h1, h2, h3, h4⟩ := r.mdic_inv
    cases r'.str_inv
    obtain ⟨d, e, q⟩ := optK_inv h
    rw [h3, h4] at e
    obtain ⟨e', e1, e2, rfl⟩ := lookD_mt h2 e
    exact .inr ⟨a, T, _, e', rfl, rfl, h1, e1, e2, fun v u r f => .here ok (flat_rep e2 r f) q⟩
  · cases r.ref_inv
    obtain ⟨ds, e, q⟩ := seqAt_inv ok h
    obtain ⟨vs, g1, g2⟩ := ok.lst e
    split at q
    · cases r'.int_inv
      obtain ⟨d, e, q⟩ := optK_inv q
      obtain ⟨v, e1, e2⟩ := atI_rep g2 e
      exact .inl (.inl ⟨_, vs, _, v, rfl, rfl, SqL.of g1, e1, .here ok e2 q⟩)
    · exact q.elim
  · exact h.elim
theorem j_ix (ha : PE X a (tOf X.K (wpE C sub E x))) (hb : PE X b (tOf X.K (wpE C sub E y))) (hp : PlainIx b) : PE X (.Subscript a b pos) (tOf X.K (wpE C sub E (.ix x y))) :=
  (pe_ix ix_all ha hb hp).imp fun σ H Q ⟨σd, st, R, r, ok, q, hq⟩ => by
    exact two (W := fun d d' st2 => ixW d d' st2 R) r ok q hq (fun d d' v v' H2 st2 ok2 r1 r2 h => ix_sound ok2 r1 r2 h) rIx3_mono
theorem getItem_tuple_whole {prog : Program} {w : World} {A : Around} {E : Value → Shared → Prop} {s : Shared} {t sl : Addr} {items : Array Value} {vl vu : Value} {lo hi : Option Int} {Q : Value → Shared → Prop} (ht : IsTup s.heap t items) (hs : s.heap.IsSliceOf sl vl vu .none) (pl : IsPart vl lo) (pu : IsPart vu hi)
    (hw : HT.sIx items.size 0 lo = 0 ∧ HT.sIx items.size items.size hi = items.size) (h : Q (.ref t) s) : wpAny (model prog w) A (getItem (.ref t) (.ref sl)) Q E s := by
  obtain ⟨os, hos, hcs, hds⟩ := id hs
  have hTs : s.TypeIs (.ref sl) "slice" := ⟨os, hos, hcs⟩
  unfold getItem
  try with_reducible refine wpAny_holding ?_
  first | refine wpAny_bind (wpAny_pure ?_) | skip
  refine wpAny_bind (wpAny_sequenceKey ht.typeIs (by decide) ?_)
  refine wpAny_bind (wpAny_callSpecial?_slot (name := Str.ofString "__getitem__") ht.typeIs PyProof.Rows.slot_tuple_getitem
    (wpAny_call_entry PyProof.Rows.slot_tuple_getitem ht.typeIs entry_tuple_getitem ?_ (args_tuple_getitem _ _)))
  show wpAny _ _ (Builtin.Tuple.tupleItemsOf (.ref t) >>= _) _ _ s
  refine wpAny_bind (tupleItemsOf_ ht ?_)
  refine wpAny_bind (wpAny_typeOf hTs ?_)
  rw [if_pos (by decide)]
  refine wpAny_bind (HT.sliceApplied_gen hs pl pu ?_)
  have hyes : (((HT.sIx items.size 0 lo : Nat) : Int) == 0 && (1 : Int) == 1 && (HT.sIx items.size items.size hi - HT.sIx items.size 0 lo) == items.size) = true := by
    rw [hw.1, hw.2]; simp
  show wpAny _ _ (if (((HT.sIx items.size 0 lo : Nat) : Int) == 0 && (1 : Int) == 1 && (HT.sIx items.size items.size hi - HT.sIx items.size 0 lo) == items.size) = true then _ else _) _ _ s
  rw [if_pos hyes]
  have hex : ∀ {Q : Bool → Shared → Prop}, Q true s → wpAny (model prog w) A.in1 (Builtin.Tuple.tupleIsExact (.ref t)) Q E s := fun h => by
    unfold Builtin.Tuple.tupleIsExact
    exact wpAny_bind (wpAny_typeOf ht.typeIs (wpAny_pure h))
  refine wpAny_bind (hex ?_)
  rw [if_pos rfl]
  exact wpAny_bind (wpAny_rule (wpAny_pure ⟨_, rfl, wpAny_pure h⟩))
theorem sIx_eq (n d : Nat) (o : Option Int) : HT.sIx n d o = sIx n d o := rfl
theorem Reps.cut {K : PySem.W.Frag} {H : Hp} {ds : List D} {vs : List V} (r : Reps K H ds vs) (lo hi : Option Int) : Reps K H (cut ds lo hi) (cut vs lo hi) := by
  unfold L3.cut
  rw [r.length]
  exact (r.drop _).take _
noncomputable def rSlW (K : PySem.W.Frag) : V → Option Int → Option Int → Hp → L2.VK → Prop := fun x lo hi H Q => ∃ a xs, x = .ref a ∧ SqT K H a xs ∧ (HT.sIx xs.length 0 lo = 0 ∧ HT.sIx xs.length xs.length hi = xs.length) ∧ Q (.ref a) H
theorem sl_tupW : SlR X (rSlW X.K) := by
  intro pins s σ H x v vl vu lo hi sl Q I rx hs pl pu h
  obtain ⟨a, xs, rfl, hx, hw, q⟩ := h
  cases rx
  obtain ⟨its, r, ht, hz⟩ := I.tuple hx
  have hlen : its.toArray.size = xs.length := by rw [List.size_toArray]; exact r.length.symm
  refine ⟨"tuple", _, PyProof.Rows.slot_tuple_getitem.lookup, ht.typeIs, ?_⟩
  exact getItem_tuple_whole ht hs pl pu (by rw [hlen]; exact hw) ⟨.ref a, H, I, rfl, q⟩
theorem range_eq (a b : Nat) : sliceRange (a : Int) (b : Int) 1 = (List.range (b - a)).map (fun k => a + k) := by
  unfold sliceRange
  simp only [show ((1 : Int) > 0) = True from by simp, if_true]
  by_cases h : (a : Int) < b
  · rw [if_pos h, show (((b : Int) - a + 1 - 1) / 1).toNat = b - a from by rw [Int.ediv_one]; omega]
    refine List.map_congr_left fun k _ => ?_
    omega
  · rw [if_neg h, show b - a = 0 from by omega]
    rfl
theorem clip_eq (v : Int) (n d : Nat) : max 0 (min (if v < 0 then v + (n : Int) else v) (n : Int)) = ((L3.sIx n d (some v) : Nat) : Int) := by
  unfold L3.sIx; dsimp only; split <;> omega
theorem idx_eq (lo hi : Option Int) (n : Nat) : Builtin.Str.strSliceIndices lo hi 1 n = (List.range (L3.sIx n n hi - L3.sIx n 0 lo)).map (fun k => L3.sIx n 0 lo + k) := by
  cases lo with
  | none =>
    cases hi with
    | none =>
      simp only [Builtin.Str.strSliceIndices, show ((1 : Int) > 0) = True from by simp, if_true]
      exact range_eq 0 n
    | some u =>
      simp only [Builtin.Str.strSliceIndices, show ((1 : Int) > 0) = True from by simp, if_true]
      rw [clip_eq u n n]
      exact range_eq 0 _
  | some v =>
    cases hi with
    | none =>
      simp only [Builtin.Str.strSliceIndices, show ((1 : Int) > 0) = True from by simp, if_true]
      rw [clip_eq v n 0]
      exact range_eq _ n
    | some u =>
      simp only [Builtin.Str.strSliceIndices, show ((1 : Int) > 0) = True from by simp, if_true]
      rw [clip_eq v n 0, clip_eq u n n]
      exact range_eq _ _
theorem sIx_le (n : Nat) (o : Option Int) : L3.sIx n n o ≤ n := by
  unfold L3.sIx
  split
  · exact Nat.le_refl _
  · split <;> omega
theorem slice_cut (x : Str) (lo hi : Option Int) : Txt.slice x lo hi = ⟨(L3.cut x.cps.toList lo hi).toArray⟩ := by
  have hn : x.cps.toList.length = x.length := by simp [Str.length]
  have hb := sIx_le x.length hi
  unfold Txt.slice
  rw [idx_eq]
  unfold L3.cut
  rw [hn]
  generalize L3.sIx x.length 0 lo = a
  generalize L3.sIx x.length x.length hi = b at hb
  by_cases h : b - a = x.length
  · rw [if_pos (by simp [h])]
    by_cases z : x.length = 0
    · have : x.cps = #[] := by simpa [Str.length] using z
      apply Str.ext'
      show x.cps = _
      rw [h, z, this]; simp
    · have ha : a = 0 := by omega
      subst ha
      apply Str.ext'
      show x.cps = _
      rw [h, List.drop_zero, ← hn, List.take_length]
  · rw [if_neg (by simp [h])]
    congr 1
    by_cases q : a ≤ b
    · have := StrLaws.picks x.cps.toList (b - a) a (by rw [hn]; omega)
      have e : ((List.range (b - a)).map (fun k => a + k)).filterMap (fun i => x.cps[i]?) = ((List.range (b - a)).map (fun k => a + k)).filterMap (fun i => x.cps.toList[i]?) := by simp
      rw [e]
      rw [this]
    · rw [show b - a = 0 from by omega]; rfl
noncomputable def rSlS : V → Option Int → Option Int → Hp → L2.VK → Prop := fun x lo hi H Q => ∃ z : Str, x = .str z ∧ z.length ≤ sizeLine ∧ Q (.str ⟨(L3.cut z.cps.toList lo hi).toArray⟩) H
theorem part_of {v : Value} {o : Option Int} (h : IsPart v o) : ∃ p : Option (Int × Tok), v = partValue p ∧ p.map (·.1) = o := by
  cases h with
  | none => exact ⟨none, rfl, rfl⟩
  | int i t => exact ⟨some (i, t), rfl, rfl⟩
theorem slc_str : SlR X rSlS := by
  intro pins s σ H x v vl vu lo hi sl Q I rx hs pl pu h
  obtain ⟨z, rfl, hz, q⟩ := h
  obtain ⟨t, rfl⟩ := rx
  obtain ⟨p1, rfl, rfl⟩ := part_of pl
  obtain ⟨p2, rfl, rfl⟩ := part_of pu
  obtain ⟨o, e1, e2, e3⟩ := hs
  refine ⟨"str", _, F.slot_str_getitem.lookup, typeIs_str _ _ _, wpAny_getItem_str_slice (l := p1) (u := p2) (st := none) ⟨o, e1, e2, e3⟩ rfl (post_val_or_str ?_)⟩
  show (Txt.slice z _ _).length ≤ sizeLine ∧ ∀ t' k, EP X pins σ Q (.str (Txt.slice z _ _) t') { s with toks := k }
  refine ⟨Nat.le_trans (Txt.slice_le z _ _) hz, fun t' k => ?_⟩
  rw [slice_cut]
  exact ⟨.str _, H, I.tok _, ⟨_, rfl⟩, q⟩
noncomputable abbrev rSlA (K : PySem.W.Frag) : V → Option Int → Option Int → Hp → L2.VK → Prop := fun x lo hi H Q => rSlT K x lo hi H Q ∨ rSlW K x lo hi H Q ∨ rSlS x lo hi H Q ∨ rSlL K x lo hi H Q
theorem sl_all : SlR X (rSlA X.K) := SlR.or L2.sl_tup (SlR.or sl_tupW (SlR.or slc_str sl_list))
set_option tactic.hygienic true in
theorem sl_sound {K : PySem.W.Frag} {H : Hp} {st : Store} {R : VK} {Q : L2.VK} {d : D} {v : V} {lo hi : Option Int} (ok : StOk K st H) (r : Rep K H d v) (h : slW d lo hi st R) (hq : ∀ v H', QD K H st R v H' → Q v H') : rSlA K v lo hi H Q := by
  unfold slW at h
  split at h
  · rename_i ds0
    obtain ⟨a, vs, rfl, f, g⟩ := r.tup_inv
    by_cases hw : HT.sIx vs.length 0 lo = 0 ∧ HT.sIx vs.length vs.length hi = vs.length
    · refine .inr (.inl ⟨a, vs, rfl, f, hw, hq _ _ (.here ok r ?_)⟩)
      have e : L3.cut ds0 lo hi = ds0 := by
        unfold L3.cut
        rw [g.length, ← sIx_eq, ← sIx_eq, hw.1, hw.2, List.drop_zero, Nat.sub_zero, ← g.length, List.take_length]
      rw [e] at h
      exact h
    · exact .inl ⟨a, vs, rfl, f, hw, fun p hp => hq _ _ (.newT ok (g.cut lo hi) hp h)⟩
  · cases r.str_inv
    exact .inr (.inr (.inl ⟨_, rfl, by rw [line_eq]; simpa [Str.length] using h.1, hq _ _ (.here ok (.str _) (by simpa using h.2))⟩))
  · cases r.ref_inv
    obtain ⟨ds, e, h⟩ := lstAt_inv h
    obtain ⟨vs, g1, g2⟩ := ok.lst e
    exact .inr (.inr (.inr ⟨_, vs, rfl, SqL.of g1, fun p hp => hq _ _ (.newL ok (g2.cut lo hi) hp h)⟩))
  · exact h.elim
inductive toOf (K : PySem.W.Frag) (te : St → Store → (List D → Store → Prop) → Prop) (σ : L2.St) (H : Hp) (Q : Option Int → Hp → Prop) : Prop where
  | mk (σd : St) (st : Store) (R : Option Int → Store → Prop) (r : SRel K H σd σ) (ok : StOk K st H) (q : te σd st (fun ds st' => partW ds fun o => R o st')) (hq : ∀ (o : Option Int) H', QX K H st (R o) H' → Q o H') : toOf K te σ H Q
theorem _root_.L2.PO.imp {X : Cx} {e : Option Expr} {t t' : TO} (i : ∀ σ H Q, t' σ H Q → t σ H Q) (h : PO X e t) : PO X e t' := fun pins s σ H Q I q => h pins s σ H Q I (i σ H Q q)
theorem jo_none : PO X none (toOf X.K (wpEs C sub E [])) :=
  po_none.imp fun σ H Q ⟨σd, st, R, r, ok, q, hq⟩ => by
    exact hq _ _ ⟨st, .refl, ok, q⟩
theorem jo_some (h : PE X e (tOf X.K (wpE C sub E x))) : PO X (some e) (toOf X.K (wpEs C sub E [x])) :=
  (po_some h).imp fun σ H Q ⟨σd, st, R, r, ok, q, hq⟩ => by
    refine ⟨σd, st, _, r, ok, q, fun v H1 ⟨d, st1, s1, ok1, r1, q1⟩ => ?_⟩
    cases d with
    | int i => cases r1.int_inv; exact ⟨i, rfl, hq _ _ ⟨st1, s1, ok1, q1⟩⟩
    | _ => exact q1.elim
theorem j_sl {lo hi : Option Expr} {xl xh : List Ex} {p2 : Pos} (ha : PE X a (tOf X.K (wpE C sub E x))) (hl : PO X lo (toOf X.K (wpEs C sub E xl))) (hh : PO X hi (toOf X.K (wpEs C sub E xh))) :
    PE X (.Subscript a (.Slice lo hi none p2) pos) (tOf X.K (wpE C sub E (.sl x xl xh))) :=
  (pe_slice sl_all ha hl hh).imp fun σ H Q ⟨σd, st, R, r, ok, q, hq⟩ => by
    refine ⟨σd, st, _, r, ok, q, fun v H1 ⟨d, st1, s1, ok1, r1, q1⟩ => ?_⟩
    refine ⟨σd, st1, _, r.step ok s1, ok1, q1, fun lo H2 ⟨st2, s2, ok2, q2⟩ => ?_⟩
    refine ⟨σd, st2, _, (r.step ok s1).step ok1 s2, ok2, q2, fun hi H3 ⟨st3, s3, ok3, q3⟩ => ?_⟩
    exact sl_sound ok3 ((r1.step ok1 s2).step ok2 s3) q3 fun v H' z => hq _ _ (.after ((s1.trans s2).trans s3) z)
noncomputable def BiR (X : Cx) (f : Value) (W : List D → Store → VK → Prop) : Prop :=
  ∀ (pins : List (Addr × Obj)) (s : Shared) (σ : L2.St) (H : Hp) (st : Store) (ds : List D) (vs : List V) (us : List Value) (R : VK), Inv X pins σ H s → StOk X.K st H → Reps X.K H ds vs → Vals vs us → W ds st R →
    wpAny (model X.prog X.w) X.A (call f us) (EP X pins σ (QD X.K H st R)) X.xe s
inductive rOf (K : PySem.W.Frag) (W : List D → Store → VK → Prop) (vs : List V) (H : Hp) (Q : L2.VK) : Prop where
  | mk (ds : List D) (st : Store) (R : VK) (r : Reps K H ds vs) (ok : StOk K st H) (q : W ds st R) (hq : ∀ v H', QD K H st R v H' → Q v H') : rOf K W vs H Q
theorem BiR.call {f : Value} {W : List D → Store → VK → Prop} (h : BiR X f W) : CallR X f (rOf X.K W) := fun pins s σ H vs us Q I rv ⟨ds, st, R, r, ok, q, hq⟩ =>
  thn (h pins s σ H st ds vs us R I ok r rv q) fun u s' ⟨v, H', I', r', z⟩ => ⟨v, H', I', r', hq _ _ z⟩
theorem args_imp {K : PySem.W.Frag} {W : List D → Store → VK → Prop} {xs : List Ex} {σ : L2.St} {H : Hp} {Q : L2.VK} (h : tOf K (fun σ st R => wpEs C sub E xs σ st fun ds st' => W ds st' R) σ H Q) : tCB (rOf K W) (taOf K (wpEs C sub E xs)) σ H Q := by
  obtain ⟨σd, st, R, r, ok, q, hq⟩ := h
  refine ⟨σd, st, _, r, ok, q, fun vs H1 ⟨ds, st1, s1, ok1, r1, q1⟩ => ?_⟩
  exact ⟨ds, st1, R, r1, ok1, q1, fun v H' z => hq _ _ (.after s1 z)⟩
theorem j_fun {W : List D → Store → VK → Prop} {n : Str} {id : String} {p : Pos} {es : List Expr} {xs : List Ex} (hW : BiR X (.builtin id) W) (hg : Gl X n) (hm : X.mg n = none) (hv : bootBuiltins n = some (.builtin id)) (ha : PA X (e :: es) (taOf X.K (wpEs C sub E xs)))
    (hn : n ≠ "__name__") (hdb : (n == ("__debug__" : Str)) = false) (he : starEach (e :: es) X.env = (false, eval e X.env) :: starEach es X.env) (hpl : (backTo pos (starEach es X.env)).any (·.1) = false) :
    PE X (.Call (.Name n p) (e :: es) [] pos) (tOf X.K fun σ st R => wpEs C sub E xs σ st fun ds st' => W ds st' R) :=
  (pe_callB hW.call hg hm hv ha hn hdb he hpl).imp fun σ H Q h => args_imp h
theorem j_type {W : List D → Store → VK → Prop} {n : Str} {T : String} {p : Pos} {es : List Expr} {xs : List Ex} (hW : BiR X (.type T) W) (hg : Gl X n) (hm : X.mg n = none) (hv : bootBuiltins n = some (.type T)) (ha : PA X (e :: es) (taOf X.K (wpEs C sub E xs)))
    (hn : n ≠ "__name__") (hdb : (n == ("__debug__" : Str)) = false) (he : starEach (e :: es) X.env = (false, eval e X.env) :: starEach es X.env) (hpl : (backTo pos (starEach es X.env)).any (·.1) = false) :
    PE X (.Call (.Name n p) (e :: es) [] pos) (tOf X.K fun σ st R => wpEs C sub E xs σ st fun ds st' => W ds st' R) :=
  (pe_callTy hW.call hg hm hv ha hn hdb he hpl).imp fun σ H Q h => args_imp h
theorem Reps.one {K : PySem.W.Frag} {H : Hp} {d : D} {vs : List V} (r : Reps K H [d] vs) : ∃ v, vs = [v] ∧ Rep K H d v := by
  cases r with | cons h r => cases r; exact ⟨_, rfl, h⟩
theorem len_sound {K : PySem.W.Frag} {H : Hp} {st : Store} {d : D} {v : V} {P : Nat → Prop} (ok : StOk K st H) (r : Rep K H d v) (h : lenW d st P) : ∃ n, LenV K v H n ∧ P n := by
  unfold lenW at h
  split at h
  · obtain ⟨a, vs, rfl, f, g⟩ := r.tup_inv
    exact ⟨_, .inr ⟨vs, f, g.length⟩, h⟩
  · cases r.str_inv
    exact ⟨_, ⟨by rw [line_eq]; simpa [Str.length] using h.1, by simp [Str.length]⟩, h.2⟩
  · cases r.ref_inv
    obtain ⟨ds, e, h⟩ := seqAt_inv ok h
    obtain ⟨vs, g1, g2⟩ := ok.lst e
    exact ⟨_, .inl ⟨vs, SqL.of g1, g2.length⟩, h⟩
  · obtain ⟨a, vs, rfl, f, g⟩ := r.mlst_inv
    exact ⟨_, .inl ⟨vs, f.sq, g.length⟩, h⟩
  · exact h.elim
theorem bi_len_ok : BiR X (.builtin "len") (biW .len) := by
  intro pins s σ H st ds vs us R I ok r rv q
  match ds, q with
  | [d], q =>
    have q : lenW d st fun n => R (.int (n : Nat)) st := q
    obtain ⟨v, rfl, rd⟩ := r.one
    obtain ⟨n, l, q⟩ := len_sound ok rd q
    exact call_len pins s σ H _ us _ I rv ⟨v, n, rfl, l, .here ok (.int _) q⟩
  | [], q => exact (show False from q).elim
  | _ :: _ :: _, q => exact (show False from q).elim
end
end L3
end
section
namespace L3
open PySem PySem.Spec PyProof.Rows L2
section
variable {X : Cx} {pins : List (Addr × Obj)} {σ : L2.St} {H : Hp} {s : Shared}
noncomputable def SeqAny (K : PySem.W.Frag) (H : Hp) (a : Addr) (vs : List V) : Prop := SqL K H a vs ∨ SqT K H a vs
theorem iter_seq {A : Around} {E : Value → Shared → Prop} {a : Addr} {vs : List V} {Q : Value → Shared → Prop} (hh : A.handled = none) (I : Inv X pins σ H s) (h : SeqAny X.K H a vs)
    (hQ : ∀ (its : List Value) (I0 : Addr) (fp wr : List Addr) (St : Nat → Heap → Prop) (s₂ : Shared), Vals vs its → Walks X.prog X.w A I0 fp wr its.length (fun i v => its[i]? = some v) St → St 0 s₂.heap → (∀ b ∈ fp, b < s₂.heap.objs.size) →
      (∀ h' tk, (∀ b o, b ∉ wr → s₂.heap.get? b = some o → h'.get? b = some o) → Inv X pins σ H { s₂ with heap := h', toks := tk }) → Q (.ref I0) s₂) : wpAny (model X.prog X.w) A (pyIter (.ref a)) Q E s := by
  rcases h with h | h
  · obtain ⟨its, r, p, hz⟩ := I.list h
    have hl := p.isList
    have hlt : a < s.heap.objs.size := by obtain ⟨_, e, _⟩ := hl; exact Heap.lt_size e
    have W := Walks.list (prog := X.prog) (w := X.w) (A := A) hh s.heap.objs.size a (Nat.ne_of_lt hlt) its.toArray
    have e1 : its.toArray.size = its.length := by simp
    have e2 : (fun (i : Nat) (v : Value) => its.toArray[i]? = some v) = fun i v => its[i]? = some v := by funext i v; simp
    rw [e1, e2] at W
    refine wpAny_pyIter_list hl (hQ its s.heap.objs.size _ _ _ _ r W ⟨⟨_, Heap.get?_push_size _ rfl, rfl, rfl⟩, hl.push _⟩ (fun b hb => ?_) fun h' tk hk => ?_)
    · show b < (s.heap.push _).objs.size
      rw [Heap.size_push]
      rcases List.mem_cons.mp hb with rfl | hb
      · exact Nat.lt_succ_self _
      · rcases List.mem_cons.mp hb with rfl | hb
        · exact Nat.lt_succ_of_lt hlt
        · cases hb
    · exact I.kept (t' := tk) (old_kept hk)
  · obtain ⟨its, r, p, hz⟩ := I.tuple h
    have hl : s.heap.IsTuple a its.toArray := p
    have hlt : a < s.heap.objs.size := by obtain ⟨_, e, _⟩ := hl; exact Heap.lt_size e
    have W := Walks.tuple (prog := X.prog) (w := X.w) (A := A) hh s.heap.objs.size a (Nat.ne_of_lt hlt) its.toArray
    have e1 : its.toArray.size = its.length := by simp
    have e2 : (fun (i : Nat) (v : Value) => its.toArray[i]? = some v) = fun i v => its[i]? = some v := by funext i v; simp
    rw [e1, e2] at W
    refine wpAny_pyIter_tuple hl (hQ its s.heap.objs.size _ _ _ _ r W ⟨⟨_, Heap.get?_push_size _ rfl, rfl, rfl⟩, hl.push _⟩ (fun b hb => ?_) fun h' tk hk => ?_)
    · show b < (s.heap.push _).objs.size
      rw [Heap.size_push]
      rcases List.mem_cons.mp hb with rfl | hb
      · exact Nat.lt_succ_self _
      · rcases List.mem_cons.mp hb with rfl | hb
        · exact Nat.lt_succ_of_lt hlt
        · cases hb
    · refine I.kept (t' := tk) fun b o e => hk b o (fun hm => ?_) (Heap.get?_push_of_some _ e)
      rcases List.mem_cons.mp hm with e1 | hm
      · exact absurd (e1 ▸ Heap.lt_size e) (Nat.lt_irrefl _)
      · cases hm
theorem seq_sound {K : PySem.W.Frag} {st : Store} {d : D} {v : V} {P : List Nat → List D → Prop} (ok : StOk K st H) (r : Rep K H d v) (h : seqW d st P) : ∃ a vs as ds, v = .ref a ∧ SeqAny K H a vs ∧ Reps K H ds vs ∧ P as ds := by
  unfold seqW at h
  split at h
  · obtain ⟨a, vs, rfl, f, g⟩ := r.tup_inv
    exact ⟨a, vs, _, _, rfl, .inr f, g, h⟩
  · cases r.ref_inv
    obtain ⟨ds, e, h⟩ := lstAt_inv h
    obtain ⟨vs, g1, g2⟩ := ok.lst e
    exact ⟨_, vs, _, ds, rfl, .inl (SqL.of g1), g2, h⟩
  · obtain ⟨a, vs, rfl, f, g⟩ := r.mlst_inv
    exact ⟨a, vs, _, _, rfl, .inl f.sq, g, h⟩
  · exact h.elim
theorem bools_at {K : PySem.W.Frag} : ∀ {ds : List D} {vs : List V} {its : List Value} {bs : List Bool}, boolsOf ds = some bs → Reps K H ds vs → Vals vs its → its = bs.map Value.bool
  | _, _, _, _, h, .nil, .nil => by cases h; rfl
  | d :: ds, _, _, bs, h, .cons r1 r2, .cons v1 v2 => by
    cases d with
    | bl b =>
      simp only [boolsOf, Option.map_eq_some_iff] at h
      obtain ⟨bs', e, rfl⟩ := h
      cases r1.bl_inv
      cases v1
      rw [bools_at e r2 v2]; rfl
    | _ => simp [boolsOf] at h
theorem all_range (bs : List Bool) : (List.range bs.length).all (fun i => (bs[i]?).getD true) = bs.all id := by
  induction bs with
  | nil => rfl
  | cons b bs ih =>
    simp only [List.length_cons, List.range_succ_eq_map, List.all_cons, List.all_map, Function.comp_def, List.getElem?_cons_zero, List.getElem?_cons_succ, Option.getD_some, id]
    rw [← ih]
theorem truth_bools {prog : Program} {w : World} {A : Around} (bs : List Bool) : TruthOf prog w A (fun i v => (bs.map Value.bool)[i]? = some v) (fun i => (bs[i]?).getD true) := fun i v s Q E hP hQ => by
  have hP : (bs.map Value.bool)[i]? = some v := hP
  rw [List.getElem?_map, Option.map_eq_some_iff] at hP
  obtain ⟨b, e, rfl⟩ := hP
  simp only [e, Option.getD_some] at hQ
  exact wpAny_truthy_bool hQ
theorem bi_all_ok (hh : X.A.handled = none) : BiR X (.builtin "all") (biW .all) := by
  intro pins s σ H st ds vs us R I ok r rv q
  match ds, q with
  | [d], q =>
    have q : biW .all [d] st R := q
    rw [bi_all] at q
    obtain ⟨v, rfl, rd⟩ := r.one
    obtain ⟨u, rfl, ru⟩ := vals1 rv
    obtain ⟨a, ws, as, xs, rfl, sa, g, q⟩ := seq_sound ok rd q
    cases ru
    obtain ⟨bs, e, q⟩ := optK_inv q
    refine call_all_walk (iter_seq (A := X.A.in1) hh I sa fun its I0 fp wr St s₂ rr W h0 hfp hk => ?_)
    cases bools_at e g rr
    refine ⟨I0, fp, wr, _, _, St, _, rfl, W, h0, truth_bools bs, fun h' tk hk' => ⟨.bl _, H, hk h' tk hk', rfl, ?_⟩⟩
    rw [List.length_map, all_range]
    exact .here ok (.bl _) q
  | [], q => exact (show False from q).elim
  | _ :: _ :: _, q => exact (show False from q).elim
theorem bi_tuple_ok : BiR X (.type "tuple") (biW .tuple) := by
  intro pins s σ H st ds vs us R I ok r rv q
  match ds, q with
  | [d], q =>
    have q : biW .tuple [d] st R := q
    rw [bi_tuple] at q
    obtain ⟨v, rfl, rd⟩ := r.one
    obtain ⟨a, ws, as, xs, rfl, sa, g, q⟩ := seq_sound ok rd q
    rcases sa with sa | sa
    · exact call_tuple_of pins s σ H _ us _ I rv ⟨a, ws, rfl, .inl ⟨sa, fun l hl => .newT ok g hl q.2⟩⟩
    · exact call_tuple_of pins s σ H _ us _ I rv ⟨a, ws, rfl, .inr ⟨sa, .here ok (.tup sa g) q.2⟩⟩
  | [], q => exact (show False from q).elim
  | _ :: _ :: _, q => exact (show False from q).elim
theorem ints_at {K : PySem.W.Frag} : ∀ {ds : List D} {vs : List V} {its : List Value} {is : List Int}, intsOf ds = some is → Reps K H ds vs → Vals vs its → IntsAre its is
  | _, _, _, _, h, .nil, .nil => by cases h; exact .nil
  | d :: ds, _, _, bs, h, .cons r1 r2, .cons v1 v2 => by
    cases d with
    | int i =>
      simp only [intsOf, Option.map_eq_some_iff] at h
      obtain ⟨bs', e, rfl⟩ := h
      cases r1.int_inv
      obtain ⟨t, rfl⟩ := v1
      exact .cons _ _ (ints_at e r2 v2)
    | _ => simp [intsOf] at h
noncomputable def valI (is : List Int) (i : Nat) : Int := (is[i]?).getD 0
theorem intsAt : ∀ {its : List Value} {is : List Int}, IntsAre its is → ∀ (i : Nat) (v : Value), its[i]? = some v → ∃ t, v = .int (valI is i) t
  | _, _, .nil, i, v, e => by simp at e
  | _, _, .cons n t r, 0, v, e => by simp at e; exact ⟨t, e.symm⟩
  | _, _, .cons n t r, i + 1, v, e => by
    obtain ⟨t', e'⟩ := intsAt r i v (by simpa using e)
    exact ⟨t', by simpa [valI] using e'⟩
theorem intsLen : ∀ {its : List Value} {is : List Int}, IntsAre its is → its.length = is.length
  | _, _, .nil => rfl
  | _, _, .cons _ _ r => by simp [intsLen r]
theorem maxI_snoc : ∀ (r : List Int) (m x : Int), maxI m (r ++ [x]) = if x > maxI m r then x else maxI m r
  | [], m, x => rfl
  | y :: r, m, x => by simp only [List.cons_append, maxI]; exact maxI_snoc r _ x
theorem take_snoc {r : List Int} {k : Nat} (h : k < r.length) : r.take (k + 1) = r.take k ++ [r[k]] := by rw [List.take_succ_eq_append_getElem h]
theorem argBest_max (i : Int) (r : List Int) : ∀ k, k ≤ r.length → valI (i :: r) (argBest (fun a b => decide (valI (i :: r) a > valI (i :: r) b)) k) = maxI i (r.take k)
  | 0, _ => rfl
  | k + 1, h => by
    have ih := argBest_max i r k (by omega)
    rw [take_snoc (by omega), maxI_snoc, ← ih]
    have e : valI (i :: r) (k + 1) = r[k] := by simp [valI, List.getElem?_eq_getElem (show k < r.length by omega)]
    rw [← e]
    simp only [argBest, decide_eq_true_eq]
    split <;> rfl
theorem bi_max_ok (hh : X.A.handled = none) (hc : X.calm = true) : BiR X (.builtin "max") (biW .max) := by
  intro pins s σ H st ds vs us R I ok r rv q
  match ds, q with
  | [d], q =>
    have q : biW .max [d] st R := q
    rw [bi_max] at q
    obtain ⟨v, rfl, rd⟩ := r.one
    obtain ⟨u, rfl, ru⟩ := vals1 rv
    obtain ⟨a, ws, as, xs, rfl, sa, g, q⟩ := seq_sound ok rd q
    cases ru
    obtain ⟨is, e, q⟩ := optK_inv q
    refine call_max_walk (iter_seq (A := X.A.in1) hh I sa fun its I0 fp wr St s₂ rr W h0 hfp hk => ?_)
    have ia := ints_at e g rr
    cases is with
    | nil => exact q.elim
    | cons i r =>
      have hl := intsLen ia
      refine ⟨I0, fp, wr, _, _, St, _, rfl, W, h0, hfp, by rw [hl]; simp, CmpOf.ints_gt (valI (i :: r)) (fun j v e => intsAt ia j v e), fun v h' tk hP hk' => ?_⟩
      obtain ⟨t, rfl⟩ := intsAt ia _ _ hP
      refine ⟨.int _, H, hk h' tk hk', ⟨t, rfl⟩, ?_⟩
      have e2 : its.length - 1 = r.length := by rw [hl]; simp
      rw [e2, argBest_max i r r.length (Nat.le_refl _), List.take_length]
      exact .here ok (.int _) q
  | [], q => exact (show False from q).elim
  | [a, b], q =>
    have q : biW .max [a, b] st R := q
    cases a <;> cases b <;> first | exact (show False from q).elim | skip
    cases r with | cons r1 r2 => cases r2 with | cons r2 r3 =>
      cases r3
      cases r1.int_inv; cases r2.int_inv
      exact call_max2 hc pins s σ H _ us _ I rv ⟨_, _, rfl, .here ok (.int _) q⟩
  | a :: b :: c :: r, q => exact (show False by cases a <;> cases b <;> exact q).elim
theorem tyL {K : PySem.W.Frag} {a : Addr} {vs : List V} (h : H a = some (.lst vs)) : tyV K "list" (.ref a) H := .inl ⟨rfl, vs, SqL.of h⟩
theorem list_extend_tuple (l : Addr) (items : Array Value) (n : Nat) (b : Addr) (items2 : Array Value) (n2 : Nat) (dd : Option Addr) (sl : Array (Option Value)) (hs0 : ¬(!items.isEmpty && Builtin.List.listTooLong (items.size + items2.size)) = true) (hs1 : items.size ≤ sizeLine) (hs2 : items.size + items2.size ≤ sizeLine + 1) :
    Meets (Builtin.«list.extend» ⟨[.ref l, .ref b], []⟩) (fun _ R s => s.heap.get? l = some { cls := .type "list", dict := none, data := .seq items n, slots := #[] } ∧ s.heap.get? b = some { cls := .type "tuple", dict := dd, data := .seq items2 n2, slots := sl } ∧ R (.ok (.ret Value.none)) { s with heap := s.heap.update l (Obj.mapSeq fun x => x ++ items2), toks := s.toks }) :=
  .of_wp fun prog w A R s h => by
    obtain ⟨hp, g, d, tk, os⟩ := s; obtain ⟨hl, hb, h⟩ := h; have f1 := AutoSeq1.idx_int; have f2 := AutoSeq1.sub_tuple_tuple; have f3 := AutoSeq1.sub_list_list; have f4 := AutoSeq1.sub_tuple_list; have f5 := AutoSeq1.sub_list_tuple;
    have hz' : (items ++ items2).size ≤ sizeLine + 1 := by rw [Array.size_append]; exact hs2
    wp_walk using (wpAny_updateSeq hl rfl (hz := hs1) (_hz' := hz')), AutoSeq1.wpAny_loadPart' hl, AutoSeq1.wpAny_loadPart' hb; exact ⟨_, rfl, h⟩
noncomputable def rExtendT (K : PySem.W.Frag) : V → List V → Hp → L2.VK → Prop := fun x vs H Q => ∃ l b xs zs, x = .ref l ∧ vs = [.ref b] ∧ H l = some (.lst xs) ∧ SqT K H b zs ∧ xs.length + zs.length ≤ sizeLine ∧ Q .non (upd H l (.lst (xs ++ zs)))
theorem mt_extendT : MtR X "list.extend" (rExtendT X.K) := by
  intro pins s σ H x vs v us Q I rx rv h
  obtain ⟨l, b, xs, zs, rfl, rfl, hH, hB, hz, q⟩ := h
  cases rx
  obtain ⟨u, rfl, ru⟩ := rv.one
  cases ru
  obtain ⟨z, its, n, r, hl, e⟩ := I.lstM hH
  obtain ⟨its2, r2, p2, _⟩ := I.tuple hB
  have hl2 := r2.length
  obtain ⟨⟨cls, dd, data, sl⟩, ho, hc, n2, hd⟩ := id p2
  simp only at hc hd
  subst hc hd
  have hsz : its.toArray.size + its2.toArray.size ≤ sizeLine := by rw [List.size_toArray, List.size_toArray]; omega
  have hlong : ¬ (!its.toArray.isEmpty && Builtin.List.listTooLong (its.toArray.size + its2.toArray.size)) = true := by
    rw [notLongL hsz, Bool.and_false]
    exact Bool.false_ne_true
  refine call_meets F.slot_list_extend ⟨_, e, rfl⟩ F.entry_list_extend (F.args_list_extend_2 _ _)
    (list_extend_tuple l its.toArray n b its2.toArray n2 dd sl hlong (by rw [List.size_toArray]; omega) (by omega)) ⟨e, ho, ?_⟩
  refine ⟨.non, _, I.lset (its' := its ++ its2) hH e (by simp) (r.append r2) ?_, rfl, q⟩
  rw [List.length_append]
  omega
noncomputable def MeR (X : Cx) (T id : String) (W : D → List D → Store → VK → Prop) : Prop :=
  ∀ (pins : List (Addr × Obj)) (s : Shared) (σ : L2.St) (H : Hp) (st : Store) (d : D) (ds : List D) (v : V) (vs : List V) (u : Value) (us : List Value) (R : VK), Inv X pins σ H s → StOk X.K st H → Rep X.K H d v → RelV v u → Reps X.K H ds vs → Vals vs us → W d ds st R →
    wpAny (model X.prog X.w) X.A (call (.builtin id) (u :: us)) (EP X pins σ (QD X.K H st R)) X.xe s
inductive rmOf (K : PySem.W.Frag) (W : D → List D → Store → VK → Prop) (v : V) (vs : List V) (H : Hp) (Q : L2.VK) : Prop where
  | mk (d : D) (ds : List D) (st : Store) (R : VK) (r : Rep K H d v) (rs : Reps K H ds vs) (ok : StOk K st H) (q : W d ds st R) (hq : ∀ v H', QD K H st R v H' → Q v H') : rmOf K W v vs H Q
theorem MeR.mt {T id : String} {W : D → List D → Store → VK → Prop} (h : MeR X T id W) : MtR X id (rmOf X.K W) := fun pins s σ H v vs u us Q I rv rvs ⟨d, ds, st, R, r, rs, ok, q, hq⟩ =>
  thn (h pins s σ H st d ds v vs u us R I ok r rv rs rvs q) fun u s' ⟨v, H', I', r', z⟩ => ⟨v, H', I', r', hq _ _ z⟩
theorem me_append : MeR X "list" "list.append" (methW .append) := by
  intro pins s σ H st d ds v vs u us R I ok r rv rs rvs q
  cases d <;> first | exact (show False from q).elim | skip
  match ds, q with
  | [d], q =>
    cases r.ref_inv
    obtain ⟨w, rfl, rd⟩ := rs.one
    obtain ⟨xs, e, q⟩ := lstAt_inv (st := st) q
    obtain ⟨ys, g1, g2⟩ := ok.lst e
    exact L2.mt_append pins s σ H _ _ u us _ I rv rvs ⟨_, ys, w, rfl, rfl, g1, by rw [line_eq, ← g2.length]; exact q.1, .set ok e (g2.append (.cons rd .nil)) .non q.2⟩
  | [], q => exact (show False from q).elim
  | _ :: _ :: _, q => exact (show False from q).elim
theorem me_extend : MeR X "list" "list.extend" (methW .extend) := by
  intro pins s σ H st d ds v vs u us R I ok r rv rs rvs q
  cases d <;> first | exact (show False from q).elim | skip
  match ds, q with
  | [d], q =>
    cases r.ref_inv
    obtain ⟨w, rfl, rd⟩ := rs.one
    obtain ⟨xs, e, q⟩ := lstAt_inv (st := st) q
    obtain ⟨ys, g1, g2⟩ := ok.lst e
    have q : ownW d st fun zs => xs.length + zs.length ≤ LINE ∧ R .non (put st _ (.lst (xs ++ zs))) := q
    cases d <;> first | exact (show False from q).elim | skip
    · obtain ⟨b, ws, rfl, f, g⟩ := rd.tup_inv
      exact mt_extendT pins s σ H _ _ u us _ I rv rvs ⟨_, b, ys, ws, rfl, rfl, g1, f, by rw [line_eq, ← g2.length, ← g.length]; exact q.1, .set ok e (g2.append g) .non q.2⟩
    · cases rd.ref_inv
      obtain ⟨zs, e2, q⟩ := lstAt_inv (st := st) q
      obtain ⟨ws, k1, k2⟩ := ok.lst e2
      exact L2.mt_extend pins s σ H _ _ u us _ I rv rvs ⟨_, _, ys, ws, rfl, rfl, g1, k1, by rw [line_eq, ← g2.length, ← k2.length]; exact q.1, .set ok e (g2.append k2) .non q.2⟩
  | [], q => exact (show False from q).elim
  | _ :: _ :: _, q => exact (show False from q).elim
theorem me_pop : MeR X "list" "list.pop" (methW .pop) := by
  intro pins s σ H st d ds v vs u us R I ok r rv rs rvs q
  cases d <;> first | exact (show False from q).elim | skip
  match ds, q with
  | [], q =>
    cases r.ref_inv
    cases rs
    obtain ⟨xs, e, q⟩ := lstAt_inv (st := st) q
    obtain ⟨ys, g1, g2⟩ := ok.lst e
    obtain ⟨d, e2, q⟩ := optK_inv q
    obtain ⟨w, k1, k2⟩ := g2.get e2
    exact L2.mt_pop pins s σ H _ _ u us _ I rv rvs ⟨_, ys, w, rfl, rfl, g1, by rw [← g2.length]; exact k1, .set ok e g2.dropLast k2 q⟩
  | _ :: _, q => exact (show False from q).elim
theorem rcv_ty {K : PySem.W.Frag} {m : MT} {st : Store} {d : D} {v : V} (hm : m = .append ∨ m = .extend ∨ m = .pop) (ok : StOk K st H) (r : Rep K H d v) (h : rcvW m d st) : tyV K "list" v H := by
  have h' : ∃ a ds, d = .ref a ∧ st a = some (.lst ds) := by
    rcases hm with rfl | rfl | rfl <;> (cases d <;> first | exact (show False from h).elim | (obtain ⟨ds, e, _⟩ := lstAt_inv (st := st) h; exact ⟨_, ds, rfl, e⟩))
  obtain ⟨a, ds, rfl, e⟩ := h'
  cases r.ref_inv
  obtain ⟨vs, g, _⟩ := ok.lst e
  exact tyL g
end
section
variable {X : Cx} {C : CallT} {sub : Nat → Nat → Bool} {E : XK} {a b c e o : Expr} {x y z : Ex} {pos apos cpos : Pos}
theorem j_meth {m : MT} {name : Str} {id : String} {es : List Expr} {xs : List Ex} (hmi : m = .append ∨ m = .extend ∨ m = .pop) (slot : Slot "list" name id) (hty : typeOf (.builtin id) = pure (.type "method_descriptor")) (hm : MeR X "list" id (methW m)) (ho : PE X o (tOf X.K (wpE C sub E x))) (ha : PA X (e :: es) (taOf X.K (wpEs C sub E xs)))
    (hbase : attributeBase o name X.env (eval o X.env) = eval o X.env)
    (hfew : ((backTo cpos (starEach (e :: es) X.env)).all (fun x => !x.1) && (backToKw cpos (keywordEach [] X.env)).all (fun x => x.1.isSome) && decide ((e :: es).length + ([] : List Keyword).length + (if ([] : List Keyword).isEmpty then 0 else 1) < 30)) = true) (hline : (apos.endLine == cpos.line) = true)
    (hs : starEach (e :: es) X.env = (false, eval e X.env) :: starEach es X.env) (hplain : (backTo cpos (starEach es X.env)).any (·.1) = false) :
    PE X (.Call (.Attribute o name apos) (e :: es) [] cpos) (tOf X.K (wpE C sub E (.meth m x xs))) :=
  (pe_bm PySem.F.plainAttrs_list slot hty hm.mt ho ha hbase hfew hline hs hplain).imp fun σ H Q ⟨σd, st, R, r, ok, q, hq⟩ => by
    refine ⟨σd, st, _, r, ok, q, fun v H1 ⟨d, st1, s1, ok1, r1, q1⟩ => ⟨rcv_ty hmi ok1 r1 q1.1, ?_⟩⟩
    refine ⟨σd, st1, _, r.step ok s1, ok1, q1.2, fun vs H2 ⟨ds, st2, s2, ok2, r2, q2⟩ => ?_⟩
    exact ⟨d, ds, st2, R, r1.step ok1 s2, r2, ok2, q2, fun v H' z => hq _ _ (.after (s1.trans s2) z)⟩
theorem j_meth0 {m : MT} {name : Str} {id : String} (hmi : m = .append ∨ m = .extend ∨ m = .pop) (slot : Slot "list" name id) (hty : typeOf (.builtin id) = pure (.type "method_descriptor")) (hm : MeR X "list" id (methW m)) (ho : PE X o (tOf X.K (wpE C sub E x)))
    (hbase : attributeBase o name X.env (eval o X.env) = eval o X.env) (hline : (apos.endLine == cpos.line) = true) :
    PE X (.Call (.Attribute o name apos) [] [] cpos) (tOf X.K (wpE C sub E (.meth m x []))) :=
  (pe_bm0 PySem.F.plainAttrs_list slot hty hm.mt ho hbase hline).imp fun σ H Q ⟨σd, st, R, r, ok, q, hq⟩ => by
    refine ⟨σd, st, _, r, ok, q, fun v H1 ⟨d, st1, s1, ok1, r1, q1⟩ => ⟨rcv_ty hmi ok1 r1 q1.1, ?_⟩⟩
    exact ⟨d, [], st1, R, r1, .nil, ok1, q1.2, fun v H' z => hq _ _ (.after s1 z)⟩
inductive spOf (K : PySem.W.Frag) (C : CallT) (f : Nat) (vs : List V) (H : Hp) (Q : L2.VK) (E : L2.XK) : Prop where
  | mk (ds : List D) (st : Store) (R : VK) (r : Reps K H ds vs) (ok : StOk K st H) (q : C f ds st R (fun _ _ => False)) (hq : ∀ v H', QD K H st R v H' → Q v H') : spOf K C f vs H Q E
theorem j_call {CX : CXT} {k : Nat} {f : Addr} {fid : Nat} {fd : FuncData} {ps : List Str} {n : Str} {p : Pos} {es : List Expr} {xs : List Ex} (F : FnOk X.prog X.w X.K X.mg X.base CX k f fd ps (spOf X.K C fid)) (hr : Room k X.A) (hg : Gl X n) (hm : X.mg n = some (.ref f))
    (hk : PySem.W.keepIn X.K (.ref f) = true) (hb : Binds X.K fd ps []) (hx : Passes CX X E0) (ha : PA X (e :: es) (taOf X.K (wpEs C sub E xs)))
    (hdb : (n == ("__debug__" : Str)) = false) (he : starEach (e :: es) X.env = (false, eval e X.env) :: starEach es X.env) (hpl : (backTo pos (starEach es X.env)).any (·.1) = false) :
    PE X (.Call (.Name n p) (e :: es) [] pos) (tOf X.K (wpE C sub E (.call fid xs))) :=
  (pe_call F hr hg hm hk hb .nil hx ha hdb he hpl).imp fun σ H Q ⟨σd, st, R, r, ok, q, hq⟩ => by
    refine ⟨σd, st, _, r, ok, q, fun vs H1 ⟨ds, st1, s1, ok1, r1, q1⟩ => ?_⟩
    show spOf X.K C fid (vs ++ []) H1 Q E0
    rw [List.append_nil]
    exact ⟨ds, st1, R, r1, ok1, q1, fun v H' z => hq _ _ (.after s1 z)⟩
end
end L3
end
section
namespace L3
open PySem PySem.Spec PyProof.Rows L2
noncomputable abbrev EF : XK := fun _ _ => False
structure EndsOk (K : PySem.W.Frag) (EX : XK) (H : Hp) (st : Store) (P : Post) (D : Ends) : Prop where
  nx : ∀ σ' H' σd' st', SRel K H' σd' σ' → Step H st H' st' → StOk K st' H' → P.nx σd' st' → D.nx σ' H'
  rt : ∀ v H', QD K H st P.rt v H' → D.rt v H'
  bk : ∀ σ' H' σd' st', SRel K H' σd' σ' → Step H st H' st' → StOk K st' H' → P.bk σd' st' → D.bk σ' H'
  ct : ∀ σ' H' σd' st', SRel K H' σd' σ' → Step H st H' st' → StOk K st' H' → P.ct σd' st' → D.ct σ' H'
  ex : ∀ c σd st, P.ex c σd st → EX c st
theorem EndsOk.after {K : PySem.W.Frag} {EX : XK} {H H1 : Hp} {st st1 : Store} {P : Post} {D : Ends} (h : EndsOk K EX H st P D) (s : Step H st H1 st1) : EndsOk K EX H1 st1 P D :=
  ⟨fun σ' H' σd' st' r t ok q => h.nx σ' H' σd' st' r (s.trans t) ok q, fun v H' z => h.rt v H' (.after s z), fun σ' H' σd' st' r t ok q => h.bk σ' H' σd' st' r (s.trans t) ok q, fun σ' H' σd' st' r t ok q => h.ct σ' H' σd' st' r (s.trans t) ok q, h.ex⟩
inductive tsOf (K : PySem.W.Frag) (EX : XK) (ts : Post → St → Store → Prop) (D : Ends) (σ : L2.St) (H : Hp) : Prop where
  | mk (σd : St) (st : Store) (P : Post) (r : SRel K H σd σ) (ok : StOk K st H) (q : ts P σd st) (h : EndsOk K EX H st P D) : tsOf K EX ts D σ H
section
variable {X : Cx} {C : CallT} {sub : Nat → Nat → Bool} {EX : XK} {a b c e : Expr} {x y z : Ex} {pos : Pos} {s : Stmt} {ss : List Stmt} {xs : List Sx} {sx : Sx}
theorem s_nil : PSs X [] (tsOf X.K EX (wpSs C sub [])) :=
  pss_nil.imp fun D σ H ⟨σd, st, P, r, ok, q, h⟩ => by
    exact h.nx _ _ _ _ r .refl ok q
theorem s_cons (h1 : PS X s (tsOf X.K EX (wpS C sub sx))) (h2 : PSs X ss (tsOf X.K EX (wpSs C sub xs))) : PSs X (s :: ss) (tsOf X.K EX (wpSs C sub (sx :: xs))) :=
  (pss_cons h1 h2).imp fun D σ H ⟨σd, st, P, r, ok, q, h⟩ => by
    exact ⟨σd, st, _, r, ok, q, ⟨fun σ' H' σd' st' r' s' ok' q' => ⟨σd', st', P, r', ok', q', h.after s'⟩, h.rt, h.bk, h.ct, h.ex⟩⟩
theorem toEF {P : Post} {σd : St} {st : Store} {x : Ex} {Q : VK} (hC : CMono C C) (he : ∀ c σd st, P.ex c σd st → EX c st) (q : wpE C sub (fun c st' => P.ex c σd st') x σd st Q) : wpE C sub EX x σd st Q :=
  wpE_mono hC (fun c st z => he _ _ _ z) x (fun _ _ z => z) q
theorem s_ret (hC : CMono C C) (h : PE X e (tOf X.K (wpE C sub EX x))) : PS X (.Return (some e) pos) (tsOf X.K EX (wpS C sub (.ret x))) :=
  (ps_ret h).imp fun D σ H ⟨σd, st, P, r, ok, q, h⟩ => by
    exact ⟨σd, st, _, r, ok, toEF hC h.ex q, h.rt⟩
theorem s_ex (hC : CMono C C) (h : PE X e (tOf X.K (wpE C sub EX x))) (hs : swapsWith e none pos.line X.env = pure false) : PS X (.Expr e pos) (tsOf X.K EX (wpS C sub (.ex x))) :=
  (ps_expr h hs).imp fun D σ H ⟨σd, st, P, r, ok, q, h⟩ => by
    exact ⟨σd, st, _, r, ok, toEF hC h.ex q, fun v H' ⟨d, st', s', ok', _, q'⟩ => h.nx _ _ _ _ (r.step ok s') s' ok' q'⟩
theorem s_if {as bs : List Stmt} {ax bx : List Sx} (hC : CMono C C) (hc : PT X c (ttOf X.K (wpE C sub EX x))) (ha : PSs X as (tsOf X.K EX (wpSs C sub ax))) (hb : PSs X bs (tsOf X.K EX (wpSs C sub bx))) : PS X (.If c as bs pos) (tsOf X.K EX (wpS C sub (.iff x ax bx))) :=
  (ps_if hc ha hb).imp fun D σ H ⟨σd, st, P, r, ok, q, h⟩ => by
    refine ⟨σd, st, fun k st' => if k = true then wpSs C sub ax P σd st' else wpSs C sub bx P σd st', r, ok, toEF hC h.ex q, fun k H' ⟨st', s', ok', q'⟩ => ?_⟩
    cases k with
    | true => exact ⟨σd, st', P, r.step ok s', ok', q', h.after s'⟩
    | false => exact ⟨σd, st', P, r.step ok s', ok', q', h.after s'⟩
inductive gOf (K : PySem.W.Frag) (g : D → St → Store → (St → Store → Prop) → Prop) (v : V) (σ : L2.St) (H : Hp) (Q : L2.St → Hp → Prop) : Prop where
  | mk (d : D) (σd : St) (st : Store) (M : St → Store → Prop) (r : Rep K H d v) (sr : SRel K H σd σ) (ok : StOk K st H) (q : g d σd st M) (hq : ∀ σ' H' σd' st', SRel K H' σd' σ' → Step H st H' st' → StOk K st' H' → M σd' st' → Q σ' H') : gOf K g v σ H Q
theorem _root_.L2.PG.imp {X : Cx} {e : Expr} {t t' : TG} (i : ∀ v σ H Q, t' v σ H Q → t v σ H Q) (h : PG X e t) : PG X e t' := fun pins s σ H v u Q I r q => h pins s σ H v u Q I r (i v σ H Q q)
theorem g_nm {E : XK} {i : Nat} (h : PG X e (gName i)) : PG X e (gOf X.K (tgW C sub E (.nm i))) :=
  h.imp fun v σ H Q ⟨d, σd, st, M, rd, r, ok, q, hq⟩ => by
    exact hq _ _ _ _ (r.set i rd) .refl ok q
theorem s_asg {tg : Expr} {t : Tg} (hC : CMono C C) (he : PE X e (tOf X.K (wpE C sub EX x))) (hg : PG X tg (gOf X.K (tgW C sub EX t)))
    (hs : swapsWithSole [tg] e pos.line X.env = pure false) (hw : swappedStores [tg] e X.env = pure none) (h1 : (assignEach [tg] X.env).map (·.2) = [assign tg X.env]) : PS X (.Assign [tg] e pos) (tsOf X.K EX (wpS C sub (.asg t x))) :=
  (ps_asg he hg hs hw h1).imp fun D σ H ⟨σd, st, P, r, ok, q, h⟩ => by
    refine ⟨σd, st, _, r, ok, toEF hC h.ex q, fun v H' ⟨d, st', s', ok', rd, q'⟩ => ?_⟩
    refine ⟨d, σd, st', P.nx, rd, r.step ok s', ok', tgW_mono hC (fun c st z => h.ex _ _ _ z) (fun _ _ z => z) t q', fun σ2 H2 σd2 st2 r2 s2 ok2 q2 => ?_⟩
    exact h.nx _ _ _ _ r2 (s'.trans s2) ok2 q2
theorem s_while {bs : List Stmt} {bx : List Sx} (hC : CMono C C) (hp : PassesOwn (model X.prog X.w) X.A X.env X.xe) (hc : PT X c (ttOf X.K (wpE C sub EX x))) (hb : PSs X bs (tsOf X.K EX (wpSs C sub bx))) : PS X (.While c bs [] pos) (tsOf X.K EX (wpS C sub (.whl x bx))) :=
  (ps_while hp hc hb).imp fun D σ H ⟨σd, st, P, r, ok, q, h⟩ => by
    obtain ⟨n, q⟩ := q
    refine ⟨fun m σ' H' => ∃ σd' st', SRel X.K H' σd' σ' ∧ Step H st H' st' ∧ StOk X.K st' H' ∧ whileN _ m σd' st', ⟨n, σd, st, r, .refl, ok, q⟩, fun m σ1 H1 ⟨σd1, st1, r1, s1, ok1, q1⟩ => ?_⟩
    cases m with
    | zero => exact q1.elim
    | succ m =>
      simp only [whileN] at q1
      refine ⟨σd1, st1, fun k st' => if k = true then wpSs C sub bx _ σd1 st' else P.nx σd1 st', r1, ok1, toEF hC h.ex q1, fun k H2 ⟨st2, s2, ok2, q2⟩ => ?_⟩
      cases k with
      | false => exact h.nx _ _ _ _ (r1.step ok1 s2) (s1.trans s2) ok2 q2
      | true =>
        refine ⟨fun σ' H' => ∃ σd' st', SRel X.K H' σd' σ' ∧ Step H st H' st' ∧ StOk X.K st' H' ∧ whileN _ m σd' st', fun σ' H' z => ⟨m, Nat.lt_succ_self _, z⟩, ?_⟩
        refine ⟨σd1, st2, _, r1.step ok1 s2, ok2, q2, ⟨fun σ' H' σd' st' r' s' ok' q' => ⟨σd', st', r', (s1.trans s2).trans s', ok', q'⟩, fun v H' z => h.rt _ _ (.after (s1.trans s2) z), fun σ' H' σd' st' r' s' ok' q' => h.nx _ _ _ _ r' ((s1.trans s2).trans s') ok' q',
          fun σ' H' σd' st' r' s' ok' q' => ⟨σd', st', r', (s1.trans s2).trans s', ok', q'⟩, h.ex⟩⟩
end
end L3
end
section
namespace L3
open PySem PySem.Spec PyProof.Rows L2
noncomputable def Its (x : Str) : It := ⟨fun i _ => i < x.cps.size, fun i H v H' => H' = H ∧ ∃ c, x.cps[i]? = some c ∧ v = .str ⟨#[c]⟩, fun i _ => x.cps.size ≤ i⟩
theorem turn_str {P : Program} {w : World} {K : PySem.W.Frag} {tg : Expr} (it : Addr) (x : Str) (t : Tok) (ty : String) (hty : ["enumerate", "zip", "dict_itemiterator", "dict_reverseitemiterator", "odict_iterator", "itertools.zip_longest", "itertools.pairwise"].contains ty = false)
    (W : ∀ A : Around, A.handled = none → Walks P w A it [it] [it] x.cps.size (SignAt x) (fun i h => h.IsStrIter it ty x t i))
    (hd : ∀ (A : Around) (i : Nat) (s : Shared) (Q : Option Value → Shared → Prop) (E : Value → Shared → Prop), A.handled = none → s.heap.IsStrIter it ty x t i → x.cps.size ≤ i → (∀ h', (∀ b o, b ≠ it → s.heap.get? b = some o → h'.get? b = some o) → Q none { s with heap := h' }) → wpAny (model P w) A (pyNext (.ref it)) Q E s)
    (hself : ∀ (A : Around) (i : Nat) (s : Shared) (Q : Value → Shared → Prop) (E : Value → Shared → Prop), s.heap.IsStrIter it ty x t i → Q (.ref it) s → wpAny (model P w) A (pyIter (.ref it)) Q E s) : Turn P w K tg (Its x) [it] it (fun i h => h.IsStrIter it ty x t i) where
  mem := by simp
  obj := fun i h st b hb => by
    have e : b = it := by simpa using hb
    subst e
    obtain ⟨o, e, c, d⟩ := st
    exact ⟨o, e, fun v z => by rw [d] at z; cases z⟩
  keep := fun i h h' st k => let ⟨o, e, r⟩ := st; ⟨o, k it (by simp) o e, r⟩
  item := by
    intro X hP hw hK hc i pins s σ H E I hf st hg
    subst hP hw hK
    obtain ⟨f0, f1, f2, f3, f4, f5⟩ := hf it (by simp)
    refine (W X.A (I.ok.hd hc)).item i s _ _ hg st fun v h' tk hv st' kk => ?_
    obtain ⟨c, u, hc', rfl⟩ := hv
    have I1 : Inv X pins σ H { s with heap := h', toks := tk } := I.turned (fun b o hb e => kk b o (by simpa using hb) e) f0 f1 f3 f4 f5
    obtain ⟨o, e, c1, d⟩ := id st'
    exact ⟨_, rfl, go_of (s := { s with heap := h', toks := tk }) e c1 d hty ⟨.str ⟨#[c]⟩, H, I1, ⟨u, rfl⟩, ⟨rfl, c, hc', rfl⟩, st', fun b hb => (hf b hb).1⟩⟩
  done := by
    intro X hP hw hK hc i pins s σ H E I hf st hg
    subst hP hw hK
    obtain ⟨f0, f1, f2, f3, f4, f5⟩ := hf it (by simp)
    exact hd X.A i s _ _ (I.ok.hd hc) st hg fun h' eb => ⟨rfl, I.turned (t' := s.toks) (fun b o hb e => eb b o hb e) f0 f1 f3 f4 f5⟩
  self := fun A i s Q E st h => hself A i s Q E st h
structure JOk (K : PySem.W.Frag) (J : It) (as : List Nat) (xs : List D) (H1 : Hp) (st1 : Store) : Prop where
  go : ∀ i H st d, Step H1 st1 H st → StOk K st H → same as st1 st → xs[i]? = some d → J.go i H
  yld : ∀ i H st d x H', Step H1 st1 H st → StOk K st H → same as st1 st → xs[i]? = some d → J.yld i H x H' → Step H st H' st ∧ StOk K st H' ∧ Rep K H' d x
  stop : ∀ i H st, Step H1 st1 H st → StOk K st H → same as st1 st → xs.length ≤ i → J.stop i H
inductive QJ (K : PySem.W.Frag) (H : Hp) (st : Store) (M : List Nat → List D → Store → Prop) (J : It) (H1 : Hp) : Prop where
  | mk (as : List Nat) (xs : List D) (st1 : Store) (s : Step H st H1 st1) (ok : StOk K st1 H1) (j : JOk K J as xs H1 st1) (q : M as xs st1) : QJ K H st M J H1
inductive tiOf (K : PySem.W.Frag) (te : St → Store → (List Nat → List D → Store → Prop) → Prop) (σ : L2.St) (H : Hp) (R : It → Hp → Prop) : Prop where
  | mk (σd : St) (st : Store) (M : List Nat → List D → Store → Prop) (r : SRel K H σd σ) (ok : StOk K st H) (q : te σd st M) (hq : ∀ J H1, QJ K H st M J H1 → R J H1) : tiOf K te σ H R
section
variable {K : PySem.W.Frag} {H1 : Hp} {st1 : Store} {a : Addr} {xs : List D} {vs : List V}
theorem jok_tup (ok1 : StOk K st1 H1) (f : SqT K H1 a vs) (g : Reps K H1 xs vs) : JOk K (Itt K a) [] xs H1 st1 where
  go := fun i H st d s ok _ e => let ⟨v, e1, _⟩ := g.get e; ⟨vs, v, sqT_step ok1 s f, e1⟩
  yld := fun i H st d x H' s ok _ e ⟨e', h⟩ => by
    subst e'
    obtain ⟨v, e1, e2⟩ := g.get e
    have := h vs (sqT_step ok1 s f)
    rw [e1] at this; cases this
    exact ⟨.refl, ok, e2.step ok1 s⟩
  stop := fun i H st s ok _ l => ⟨vs, sqT_step ok1 s f, by rw [← g.length]; exact l⟩
theorem jok_mlst (ok1 : StOk K st1 H1) (f : FrzL K H1 a vs) (g : Reps K H1 xs vs) : JOk K (Itl K a) [] xs H1 st1 where
  go := fun i H st d s ok _ e => let ⟨v, e1, _⟩ := g.get e; ⟨vs, v, (frzL_step ok1 s f).sq, e1⟩
  yld := fun i H st d x H' s ok _ e ⟨e', h⟩ => by
    subst e'
    obtain ⟨v, e1, e2⟩ := g.get e
    have := h vs (frzL_step ok1 s f).sq
    rw [e1] at this; cases this
    exact ⟨.refl, ok, e2.step ok1 s⟩
  stop := fun i H st s ok _ l => ⟨vs, (frzL_step ok1 s f).sq, by rw [← g.length]; exact l⟩
theorem jok_lst (ok1 : StOk K st1 H1) (e0 : st1 a = some (.lst xs)) : JOk K (Itl K a) [a] xs H1 st1 where
  go := fun i H st d s ok sm e => by
    have e' : st a = some (.lst xs) := (sm a (by simp)).trans e0
    obtain ⟨us, g1, g2⟩ := ok.lst e'
    obtain ⟨v, e1, _⟩ := g2.get e
    exact ⟨us, v, SqL.of g1, e1⟩
  yld := fun i H st d x H' s ok sm e ⟨e', h⟩ => by
    subst e'
    have e' : st a = some (.lst xs) := (sm a (by simp)).trans e0
    obtain ⟨us, g1, g2⟩ := ok.lst e'
    obtain ⟨v, e1, e2⟩ := g2.get e
    have := h us (SqL.of g1)
    rw [e1] at this; cases this
    exact ⟨.refl, ok, e2⟩
  stop := fun i H st s ok sm l => by
    have e' : st a = some (.lst xs) := (sm a (by simp)).trans e0
    obtain ⟨us, g1, g2⟩ := ok.lst e'
    exact ⟨us, SqL.of g1, by rw [← g2.length]; exact l⟩
theorem jok_str (x : List Nat) : JOk K (Its ⟨x.toArray⟩) [] (x.map fun c => .str [c]) H1 st1 where
  go := fun i H st d s ok _ e => by
    have := (List.getElem?_eq_some_iff.mp e).1
    show i < (⟨x.toArray⟩ : Str).cps.size
    simpa using this
  yld := fun i H st d v H' s ok _ e ⟨e', c, ec, ev⟩ => by
    subst e' ev
    simp only [List.getElem?_map, Option.map_eq_some_iff] at e
    obtain ⟨c', e1, rfl⟩ := e
    have : c = c' := by
      have ec : x.toArray[i]? = some c := ec
      simp at ec
      rw [ec] at e1; exact Option.some.inj e1
    subst this
    exact ⟨.refl, ok, .str [c]⟩
  stop := fun i H st s ok _ l => by
    show (⟨x.toArray⟩ : Str).cps.size ≤ i
    simpa using l
end
section
variable {X : Cx} {C : CallT} {sub : Nat → Nat → Bool} {EX : XK} {a b c e tg : Expr} {x y z : Ex} {pos : Pos}
theorem pi_val {E : XK} (h : PE X e (tOf X.K (wpE C sub E x))) : PI X tg e (tiOf X.K fun σ st M => wpEs C sub E [x] σ st fun ds st1 => itrW none ds st1 fun as xs => M as xs st1) := by
  intro pins s σ H R I ⟨σd, st, M, r, ok, q, hq⟩
  refine thn (h pins s σ H _ I ⟨σd, st, _, r, ok, q, fun v H' z => z⟩) fun u s1 ⟨v, H1, I1, rv, d, st1, s1s, ok1, r1, q1⟩ => ?_
  have fresh : ∀ {b : Addr}, b ∈ [s1.heap.objs.size] → FpOk X pins H1 b := fun {b} hb => by
    have e : b = s1.heap.objs.size := by simpa using hb
    subst e
    exact I1.fpOk (Nat.le_refl _) (I1.hok.fresh (Nat.le_refl _))
  have tup : ∀ (a : Addr) (vs : List V) (as : List Nat) (xs : List D), v = .ref a → SqT X.K H1 a vs → JOk X.K (Itt X.K a) as xs H1 st1 → M as xs st1 → wpAny (model X.prog X.w) X.A (pyIter u) (PIE X pins σ tg R) X.xe s1 := by
    intro a vs as xs e f j q
    subst e
    cases rv
    obtain ⟨its, rr, p, hz⟩ := I1.tuple f
    exact wpAny_pyIter_tuple (show s1.heap.IsTuple a its.toArray from p) ⟨s1.heap.objs.size, [s1.heap.objs.size], _, _, H1, rfl, I1.kept (t' := s1.toks) fun b o e => Heap.get?_push_of_some _ e, turn_tuple a _, ⟨_, Heap.get?_push_size _ rfl, rfl, rfl⟩, fun b hb => fresh hb, hq _ _ ⟨as, xs, st1, s1s, ok1, j, q⟩⟩
  have lst : ∀ (a : Addr) (vs : List V) (as : List Nat) (xs : List D), v = .ref a → SqL X.K H1 a vs → JOk X.K (Itl X.K a) as xs H1 st1 → M as xs st1 → wpAny (model X.prog X.w) X.A (pyIter u) (PIE X pins σ tg R) X.xe s1 := by
    intro a vs as xs e f j q
    subst e
    cases rv
    obtain ⟨its, rr, p, hz⟩ := I1.list f
    exact wpAny_pyIter_list p.isList ⟨s1.heap.objs.size, [s1.heap.objs.size], _, _, H1, rfl, I1.kept (t' := s1.toks) fun b o e => Heap.get?_push_of_some _ e, turn_list a _, ⟨_, Heap.get?_push_size _ rfl, rfl, rfl⟩, fun b hb => fresh hb, hq _ _ ⟨as, xs, st1, s1s, ok1, j, q⟩⟩
  have q1 : iterW d st1 fun as xs => M as xs st1 := q1
  cases d with
  | tup ds =>
    obtain ⟨a, vs, e, f, g⟩ := r1.tup_inv
    exact tup a vs _ _ e f (jok_tup ok1 f g) q1
  | str z =>
    have q1 : z.length ≤ LINE ∧ M [] (z.map fun c => .str [c]) st1 := q1
    cases r1.str_inv
    obtain ⟨t, rfl⟩ := rv
    cases ha : (⟨z.toArray⟩ : Str).cps.all (· < 128)
    · exact wpAny_pyIter_wide ha ⟨s1.heap.objs.size, [s1.heap.objs.size], _, Its ⟨z.toArray⟩, H1, rfl, I1.kept (t' := s1.toks) fun b o e => Heap.get?_push_of_some _ e,
        turn_str s1.heap.objs.size ⟨z.toArray⟩ t "str_iterator" (by decide) (fun A hA => Walks.strWide hA _ _ t) (fun A i s Q E hA hi hn hQ => wpAny_pyNext_wide_end hA hi (by simpa using hn) fun h' he => hQ h' he) (fun A i s Q E hi hQ => wpAny_pyIter_striter_wide hi hQ),
        ⟨_, Heap.get?_push_size _ rfl, rfl, rfl⟩, fun b hb => fresh hb, hq _ _ ⟨_, _, st1, s1s, ok1, jok_str z, q1.2⟩⟩
    · exact wpAny_pyIter_ascii ha ⟨s1.heap.objs.size, [s1.heap.objs.size], _, Its ⟨z.toArray⟩, H1, rfl, I1.kept (t' := s1.toks) fun b o e => Heap.get?_push_of_some _ e,
        turn_str s1.heap.objs.size ⟨z.toArray⟩ t "str_ascii_iterator" (by decide) (fun A hA => Walks.strAscii hA _ _ t) (fun A i s Q E hA hi hn hQ => wpAny_pyNext_ascii_end hA hi (by simpa using hn) fun h' he => hQ h' he) (fun A i s Q E hi hQ => wpAny_pyIter_striter_ascii hi hQ),
        ⟨_, Heap.get?_push_size _ rfl, rfl, rfl⟩, fun b hb => fresh hb, hq _ _ ⟨_, _, st1, s1s, ok1, jok_str z, q1.2⟩⟩
  | ref a =>
    cases r1.ref_inv
    obtain ⟨ds, e, q1⟩ := lstAt_inv (st := st1) q1
    obtain ⟨vs, g1, g2⟩ := ok1.lst e
    exact lst _ vs _ _ rfl (SqL.of g1) (jok_lst ok1 e) q1
  | mlst ds =>
    obtain ⟨a, vs, e, f, g⟩ := r1.mlst_inv
    exact lst a vs _ _ e f.sq (jok_mlst ok1 f g) q1
  | _ => exact (show False from q1).elim
end
end L3
end
section
namespace L3
open PySem PySem.Spec PyProof.Rows L2
section
variable {X : Cx} {C : CallT} {sub : Nat → Nat → Bool} {a b c e o i tg : Expr} {x y z : Ex} {pos : Pos}
noncomputable def setsV (is : List Nat) (vs : List V) (σ : L2.St) : L2.St := (is.zip vs).foldl (fun σ p => σ.set p.1 (some p.2)) σ
noncomputable def gNames (is : List Nat) : TGs := fun vs σ H Q => vs.length = is.length ∧ Q (setsV is vs σ) H
theorem gs_nil : PGs X [] (gNames []) := fun pins s σ H vs us Q I r h => by
  have : vs = [] := List.length_eq_zero_iff.mp h.1
  subst this
  exact pgs_nil pins s σ H [] us Q I r ⟨rfl, h.2⟩
theorem gs_cons {es : List Expr} {i : Nat} {is : List Nat} (h1 : PG X e (gName i)) (h2 : PGs X es (gNames is)) (hs : (assignEach (e :: es) X.env).map (·.2) = assign e X.env :: (assignEach es X.env).map (·.2)) : PGs X (e :: es) (gNames (i :: is)) := fun pins s σ H vs us Q I r h => by
  obtain ⟨hl, h⟩ := h
  cases vs with
  | nil => simp at hl
  | cons v vs => exact pgs_cons h1 h2 hs pins s σ H (v :: vs) us Q I r ⟨v, vs, rfl, by simpa using hl, h⟩
theorem SRel.sets {K : PySem.W.Frag} {H : Hp} : ∀ (is : List Nat) {ds : List D} {vs : List V} {σd : St} {σ : L2.St}, SRel K H σd σ → Reps K H ds vs → SRel K H ((is.zip ds).foldl (fun σ p => σ.set p.1 (some p.2)) σd) (setsV is vs σ)
  | [], _, _, _, _, r, _ => by simpa [setsV] using r
  | _ :: _, _, _, _, _, r, .nil => by simpa [setsV] using r
  | i :: is, _, _, _, _, r, .cons h t => by
    have := SRel.sets is (r.set i h) t
    simpa [setsV] using this
theorem g_tp {E : XK} {es : List Expr} {k : Nat} {is : List Nat} (hc : X.calm = true) (h : PGs X es (gNames is)) (hn : (assignEach es X.env).length = is.length) (hst : (assignEach es X.env).findIdx? (·.1) = none) :
    PG X (.Tuple es k pos) (gOf X.K (tgW C sub E (.tp is))) :=
  (pg_tup hc h hn hst).imp fun v σ H Q ⟨d, σd, st, M, rd, r, ok, q, hq⟩ => by
    cases d with
    | tup ds0 =>
      have q : ds0.length = is.length ∧ M _ st := q
      obtain ⟨a, vs, rfl, f, g⟩ := rd.tup_inv
      exact ⟨a, vs, rfl, f, by rw [← g.length]; exact q.1, by rw [← g.length]; exact q.1, hq _ _ _ _ (r.sets is g) .refl ok q.2⟩
    | _ => exact (show False by cases is <;> exact q).elim
theorem g_ix {E : XK} (ho : PE X o (tOf X.K (wpE C sub E x))) (hi : PE X i (tOf X.K (wpE C sub E y)))
    (ha : ∀ v, assign (.Subscript o i pos) X.env v = (do
      let ov ← holding [v] (eval o X.env)
      let iv ← holding [v, ov] (eval i X.env)
      standAt pos
      holding [v, ov, iv] (setItem ov iv v)
      release [v, ov, iv] [])) : PG X (.Subscript o i pos) (gOf X.K (tgW C sub E (.ix x y))) :=
  (pg_sub ho hi set_list ha).imp fun v σ H Q ⟨d, σd, st, M, rd, r, ok, q, hq⟩ => by
    refine ⟨σd, st, _, r, ok, q, fun v1 H1 ⟨d1, st1, s1, ok1, r1, q1⟩ => ?_⟩
    refine ⟨σd, st1, _, r.step ok s1, ok1, q1, fun v2 H2 ⟨d2, st2, s2, ok2, r2, q2⟩ => ?_⟩
    have r1' := r1.step ok1 s2
    have rd' := (rd.step ok s1).step ok1 s2
    have q2 : setW d1 d2 d st2 fun st3 => M σd st3 := q2
    cases d1 <;> first | exact (show False from q2).elim | skip
    cases d2 <;> first | exact (show False from q2).elim | skip
    cases r1'.ref_inv
    cases r2.int_inv
    rw [set_ref] at q2
    obtain ⟨xs, e, q2⟩ := lstAt_inv q2
    obtain ⟨j, ej, q2⟩ := optK_inv q2
    obtain ⟨vs, g1, g2⟩ := ok2.lst e
    refine ⟨_, vs, _, j, rfl, rfl, g1, by rw [← g2.length]; exact ej, ?_⟩
    have s3 := step_set (H := H2) (st := st2) (o := .lst (vs.set j v)) (m' := .lst (xs.set j d)) e
    exact hq _ _ _ _ (((r.step ok s1).step ok1 s2).step ok2 s3) ((s1.trans s2).trans s3) (ok2.set e (g2.set rd' j)) q2
end
end L3
end
section
namespace L3
open PySem PySem.Spec PyProof.Rows L2
noncomputable def clOf (cells : List (Str × Addr)) : List (Str × NameKind) → List (Str × Addr) → List (Str × Addr)
  | [], cs => cs
  | (n, k) :: r, cs => clOf cells r (if k == .free then (n, (cells.lookup n).getD 0) :: cs else cs)
theorem closure_eq {env : Env} : ∀ (names : List (Str × NameKind)) (cs : List (Str × Addr)), (∀ p ∈ names, p.2 = .free → ∃ c, env.cells.lookup p.1 = some c) →
    (forIn names cs fun (p : Str × NameKind) (cs : List (Str × Addr)) => (if p.2 == .free then do let c ← cellOf env p.1; pure (ForInStep.yield ((p.1, c) :: cs)) else pure (ForInStep.yield cs) : Sem (ForInStep (List (Str × Addr))))) = pure (clOf env.cells names cs)
  | [], cs, _ => by simp [clOf]
  | (n, k) :: r, cs, h => by
    have ih := fun cs => closure_eq r cs fun p hp => h p (List.mem_cons_of_mem _ hp)
    simp only [List.forIn_cons, clOf]
    cases e : (k == NameKind.free) with
    | true =>
      obtain ⟨c, hc⟩ := h (n, k) (List.mem_cons_self ..) (by simpa using e)
      have hc : env.cells.lookup n = some c := hc
      simp only [if_true, cellOf, hc, Option.getD_some, pure_bind]
      exact ih _
    | false =>
      simp only [Bool.false_eq_true, if_false, pure_bind]
      exact ih _
theorem closureFor_eq {env : Env} {scope : Scope} (h : ∀ p ∈ scope.names, p.2 = .free → ∃ c, env.cells.lookup p.1 = some c) : closureFor scope env = pure (clOf env.cells scope.names []) := by
  rw [← closure_eq scope.names [] h]
  unfold closureFor
  simp only [bind_pure]
set_option tactic.hygienic true in
theorem clOf_sub {cells : List (Str × Addr)} : ∀ (names : List (Str × NameKind)) (cs : List (Str × Addr)) {x : Str} {c : Addr}, (∀ p ∈ names, p.2 = .free → ∃ c, cells.lookup p.1 = some c) → (∀ x c, cs.lookup x = some c → cells.lookup x = some c) → (clOf cells names cs).lookup x = some c → cells.lookup x = some c
  | [], cs, x, c, _, h, e => h x c e
  | (n, k) :: r, cs, x, c, hn, h, e => by
    simp only [clOf] at e
    refine clOf_sub r _ (fun p hp => hn p (List.mem_cons_of_mem _ hp)) (fun y d ed => ?_) e
    split at ed
    · rename_i hk
      obtain ⟨c', hc'⟩ := hn (n, k) (List.mem_cons_self ..) (by simpa using hk)
      have hc' : cells.lookup n = some c' := hc'
      rw [List.lookup_cons] at ed
      split at ed
      · rename_i q
        have q : y = n := by simpa using q
        subst q
        rw [hc'] at ed ⊢
        simpa using ed
      · exact h y d ed
    · exact h y d ed
theorem clOf_keep {cells : List (Str × Addr)} : ∀ (names : List (Str × NameKind)) (cs : List (Str × Addr)) {x : Str}, (∃ c, cs.lookup x = some c) → ∃ c, (clOf cells names cs).lookup x = some c
  | [], cs, x, h => h
  | (n, k) :: r, cs, x, h => by
    simp only [clOf]
    refine clOf_keep r _ ?_
    split
    · rw [List.lookup_cons]
      split
      · exact ⟨_, rfl⟩
      · exact h
    · exact h
set_option tactic.hygienic true in
theorem clOf_has {cells : List (Str × Addr)} : ∀ (names : List (Str × NameKind)) (cs : List (Str × Addr)) {x : Str}, names.lookup x = some .free → ∃ c, (clOf cells names cs).lookup x = some c
  | [], cs, x, h => by simp at h
  | (n, k) :: r, cs, x, h => by
    simp only [clOf]
    rw [List.lookup_cons] at h
    split at h
    · rename_i q
      cases h
      refine clOf_keep r _ ?_
      simp only [beq_self_eq_true, if_true]
      rw [List.lookup_cons, q]
      exact ⟨_, rfl⟩
    · exact clOf_has r _ h
theorem relabel_kind {env : Env} : ∀ {names : List (Str × NameKind)} {x : Str} {k : NameKind}, (names.map fun (n, k) => if (k == NameKind.free && env.scope.kind == .function && env.kindOf n == some .cell) then (n, NameKind.cell) else (n, k)).lookup x = some k → ∃ k', names.lookup x = some k' ∧ (k' = k ∨ (k' = .free ∧ k = .cell))
  | [], x, k, h => by simp at h
  | (n, k0) :: r, x, k, h => by
    simp only [List.map_cons] at h
    cases q : (x == n) with
    | true =>
      refine ⟨k0, by simp only [List.lookup_cons, q], ?_⟩
      by_cases hc : (k0 == NameKind.free && env.scope.kind == .function && env.kindOf n == some .cell) = true
      · simp only [hc, if_true, List.lookup_cons, q] at h
        cases h
        simp only [Bool.and_eq_true] at hc
        exact .inr ⟨by simpa using hc.1.1, rfl⟩
      · simp only [hc, if_false, List.lookup_cons, q, Bool.false_eq_true] at h
        cases h
        exact .inl rfl
    | false =>
      simp only [List.lookup_cons, q]
      refine relabel_kind (env := env) (names := r) ?_
      by_cases hc : (k0 == NameKind.free && env.scope.kind == .function && env.kindOf n == some .cell) = true
      · simp only [hc, if_true, List.lookup_cons, q] at h
        exact h
      · simp only [hc, if_false, List.lookup_cons, q, Bool.false_eq_true] at h
        exact h
set_option tactic.hygienic true in
theorem relabel_free {env : Env} : ∀ {names : List (Str × NameKind)} {x : Str}, names.lookup x = some .free → (names.map fun (n, k) => if (k == NameKind.free && env.scope.kind == .function && env.kindOf n == some .cell) then (n, NameKind.cell) else (n, k)).lookup x = some .cell ∨ (names.map fun (n, k) => if (k == NameKind.free && env.scope.kind == .function && env.kindOf n == some .cell) then (n, NameKind.cell) else (n, k)).lookup x = some .free
  | [], x, h => by simp at h
  | (n, k0) :: r, x, h => by
    simp only [List.map_cons]
    rw [List.lookup_cons] at h
    split at h
    · rename_i q; cases h
      split
      · exact .inl (by rw [List.lookup_cons, q])
      · exact .inr (by rw [List.lookup_cons, q])
    · rename_i q
      split
      · rw [List.lookup_cons, q]; exact relabel_free h
      · rw [List.lookup_cons, q]; exact relabel_free h
structure CompSc (X : Cx) (scope : Scope) (cn : List Str) (caps : List Nat) : Prop where
  kind : scope.kind = .function
  nocell : ∀ y ∈ scope.names, y.2 ≠ .cell
  names : ∀ y ∈ scope.names, y.2 = .local → scope.names.lookup y.1 = some .local
  free : ∀ y ∈ scope.names, y.2 = .free → X.env.kindOf y.1 = some .cell ∨ X.env.kindOf y.1 = some .free
  len : cn.length = caps.length
  cap : ∀ (j : Nat) (y : Str), cn[j]? = some y → scope.names.lookup y = some .free ∧ ∃ i, caps[j]? = some i ∧ X.N[i]? = some y ∧ (X.env.kindOf y = some .cell ∨ X.env.kindOf y = some .free)
noncomputable def cxC (X : Cx) (scope : Scope) (own cn : List Str) (fp : List Addr) (s : Shared) (H : Hp) (Ca : Addr) : Cx :=
  { X with N := own ++ cn, s₀ := s, H₀ := H, env := compEnvC scope (clOf X.env.cells scope.names []) Ca X.env, outer := X.stack, ex := fp, fn := fun _ => false, calm := true, pn := [], xe := fun _ _ => False }
noncomputable def capV (caps : List Nat) (σ : L2.St) : L2.St := caps.map fun i => (σ[i]?).getD none
section
variable {X : Cx} {scope : Scope} {own cn : List Str} {caps : List Nat} {fp : List Addr} {pins : List (Addr × Obj)} {σ : L2.St} {H : Hp} {s : Shared}
theorem CompSc.cells (S : CompSc X scope cn caps) (ok : X.Ok) : ∀ p ∈ scope.names, p.2 = .free → ∃ c, X.env.cells.lookup p.1 = some c := fun p hp e => ok.has p.1 (S.free p hp e)
theorem block_ok (S : CompSc X scope cn caps) (hc : X.calm = true) (I : Inv X pins σ H s) (hf : ∀ b ∈ fp, FpOk X pins H b) (hlt : ∀ b ∈ fp, b < s.heap.objs.size) {Ca : Addr} (hC : s.heap.objs.size ≤ Ca) : (cxC X scope own cn fp s H Ca).Ok where
  mod := I.ok.mod
  kind := S.kind
  glob := I.ok.glob
  blt := I.ok.blt
  above := hC
  inj := fun x y c h1 h2 => I.ok.inj x y c (clOf_sub _ [] (S.cells I.ok) (fun _ _ h => by simp at h) h1) (clOf_sub _ [] (S.cells I.ok) (fun _ _ h => by simp at h) h2)
  has := fun x h => by
    refine clOf_has _ [] ?_
    rcases h with h | h
    · obtain ⟨k, e, r⟩ := relabel_kind (env := X.env) (show List.lookup x (List.map _ scope.names) = _ from h)
      rcases r with rfl | ⟨rfl, _⟩
      · exact absurd rfl (S.nocell _ (PySem.mem_of_lookup e))
      · exact e
    · obtain ⟨k, e, r⟩ := relabel_kind (env := X.env) (show List.lookup x (List.map _ scope.names) = _ from h)
      rcases r with rfl | ⟨rfl, r⟩
      · exact e
      · cases r
  cab := fun x c h _ => by cases h
  hd := fun _ => I.ok.hd hc
  frames := I.ok.frames
  stk := .inl rfl
  exf := fun b hb => ⟨fun e => absurd (hlt b hb) (by rw [e]; exact Nat.not_lt.mpr hC), fun x c h => (hf b hb).2.2.2.2.1 x c (clOf_sub _ [] (S.cells I.ok) (fun _ _ h => by simp at h) h)⟩
  bs := I.bs
  bsz := Nat.le_trans I.ok.bsz I.sz
  noex := fun b o e hb => by
    rcases (hf b hb).2.2.2.1 with z | z
    · exact I.ok.noex b o e z
    · exact absurd (Nat.lt_of_lt_of_le (Heap.lt_size e) (Nat.le_trans I.ok.bsz z)) (Nat.lt_irrefl _)
  exfs := fun b hb z => by
    rcases List.mem_cons.mp (I.stkSub b z) with e | e
    · exact (hf b hb).2.1 e
    · exact (hf b hb).2.2.1 e
  funs := I.stack
  frf := I.stkFree
theorem block_start (S : CompSc X scope cn caps) (hc : X.calm = true) (I : Inv X pins σ H s) (hf : ∀ b ∈ fp, FpOk X pins H b) (hlt : ∀ b ∈ fp, b < s.heap.objs.size) {Ca : Addr} (hC : s.heap.objs.size ≤ Ca) {h1 : Heap} {tk : Nat}
    {m : Str → Option Value} (hn : h1.Ns Ca m) (hk : ∀ b o, s.heap.get? b = some o → h1.get? b = some o) :
    Inv (cxC X scope own cn fp s H Ca) [] (List.replicate own.length none ++ capV caps σ) H { s with heap := h1, toks := tk } where
  ok := block_ok S hc I hf hlt hC
  os := rfl
  bare := I.bare
  base := Un.kept hk
  loc := ⟨m, hn, fun i y v h1' h2 h3 => by
    have hi : own.length ≤ i := by
      refine Nat.le_of_not_lt fun hi => ?_
      rw [List.getElem?_append_left (by simpa using hi), List.getElem?_replicate] at h2
      split at h2 <;> cases h2
    rw [List.getElem?_append_right (by simpa using hi)] at h2
    have h1' : (own ++ cn)[i]? = some y := h1'
    rw [List.getElem?_append_right hi] at h1'
    simp only [List.length_replicate, capV, List.getElem?_map, Option.map_eq_some_iff] at h2
    obtain ⟨k, e1, e2⟩ := h2
    obtain ⟨hfr, i', e3, e4, e5⟩ := S.cap _ y h1'
    rw [e1] at e3; cases e3
    cases e6 : σ[k]? with
    | none => rw [e6] at e2; cases e2
    | some u =>
      rw [e6] at e2
      have e2 : u = some v := e2
      subst e2
      obtain ⟨m0, hn0, hl0⟩ := I.loc
      obtain ⟨w, rw', lk⟩ := hl0 k y v e4 e6 (e5.elim (fun z => .inr (.inl z)) fun z => .inr (.inr z))
      refine ⟨w, rw', ?_⟩
      rcases lk with ⟨z, _⟩ | ⟨_, c, ec, ⟨oc, hoc, hdc⟩⟩
      · rcases e5 with e5 | e5
        · rw [e5] at z; cases z
        · rw [e5] at z; cases z
      · obtain ⟨c', ec'⟩ := clOf_has (cells := X.env.cells) scope.names [] hfr
        have := clOf_sub _ [] (S.cells I.ok) (fun _ _ h => by simp at h) ec'
        rw [ec] at this; cases this
        exact .inr ⟨relabel_free (env := X.env) hfr, c, ec', ⟨oc, hk _ _ hoc, hdc⟩⟩⟩
  cell := fun x c h => by
    obtain ⟨v, o, ho, hd⟩ := I.cell x c (clOf_sub _ [] (S.cells I.ok) (fun _ _ h => by simp at h) h)
    exact ⟨v, o, hk _ _ ho, hd⟩
  free := I.hok.fresh hC
  freeC := fun x c h => I.freeC x c (clOf_sub _ [] (S.cells I.ok) (fun _ _ h => by simp at h) h)
  pin := fun p hp => absurd (show p ∈ ([] : List (Addr × Obj)) from hp) (by simp)
  hok := I.hok.kept hk
  len := by
    show (List.replicate own.length none ++ capV caps σ).length = (own ++ cn).length
    simp [capV, S.len]
end
end L3
end
section
namespace L3
open PySem PySem.Spec PyProof.Rows L2
noncomputable def testsOf (ifs : List Expr) (env : Env) : Sem Bool := forIn ifs true fun c r => if r = true then do let ok ← isTrue c env (eval c env); pure (ForInStep.yield ok) else pure (ForInStep.yield r)
noncomputable def PTs (X : Cx) (ifs : List Expr) (t : L2.TT) : Prop :=
  ∀ (pins : List (Addr × Obj)) (s : Shared) (σ : L2.St) (H : Hp) (Q : Bool → Hp → Prop), Inv X pins σ H s → t σ H Q → wpAny (model X.prog X.w) X.A (testsOf ifs X.env) (TP X pins σ Q) X.xe s
inductive tqOf (K : PySem.W.Frag) (te : St → Store → (Bool → Store → Prop) → Prop) (σ : L2.St) (H : Hp) (Q : Bool → Hp → Prop) : Prop where
  | mk (σd : St) (st : Store) (R : Bool → Store → Prop) (r : SRel K H σd σ) (ok : StOk K st H) (q : te σd st R) (hq : ∀ (b : Bool) H', QX K H st (R b) H' → Q b H') : tqOf K te σ H Q
section
variable {X : Cx} {C : CallT} {sub : Nat → Nat → Bool} {E : XK} {a b c e o i tg : Expr} {x y z : Ex} {pos : Pos}
theorem ts_nil : PTs X [] (tqOf X.K (wpTs C sub E [])) := fun pins s σ H Q I ⟨σd, st, R, r, ok, q, hq⟩ => by
  unfold testsOf
  simp only [List.forIn_nil]
  exact wpAny_pure ⟨H, I, hq true H ⟨st, .refl, ok, q⟩⟩
end
theorem compLoop_any {prog : Program} {w : World} {A : Around} {s : Shared} {R : Result → Shared → Prop} {elt target iter : Expr} {ifs : List Expr} {scope : Scope} {pos : Pos} {it acc : Value} {env : Env} (I : Nat → Shared → Prop)
    (turn : ∀ n s, I n s → wpAny (model prog w) A (pyNext it) (fun r s₁ => match r with
      | none => R (.ok .next) s₁
      | some v => wpAny (model prog w) A (letOwnedTupleGo target it v) (fun _ s₁' => wpAny (model prog w) A (assign target env v) (fun _ s₂ =>
          wpAny (model prog w) A (testsOf ifs env) (fun ok s₃ =>
            if ok = true then wpAny (model prog w) A (eval elt env) (fun x s₄ =>
              wpAny (model prog w) A (call (.builtin "list.append") [acc, x]) (fun _ s₅ => ∃ m, m < n ∧ I m s₅) (fun _ _ => False) s₄) (fun _ _ => False) s₃
            else ∃ m, m < n ∧ I m s₃) (fun _ _ => False) s₂) (fun _ _ => False) s₁') (fun _ _ => False) s₁) (fun _ _ => False) s)
    (n : Nat) (h : I n s) :
    codeAny (model prog w) A (.compLoop (.ListComp elt [⟨target, iter, ifs, 0⟩] scope pos) 0 it acc env) R s := by
  refine codeAny_loop rfl I (fun n s hI => ?_) n h
  show wpAny _ A ((compTurn (.ListComp elt [⟨target, iter, ifs, 0⟩] scope pos) 0 it acc env).onRaise (fun x => do noteFrame x env; theTreesLotGoes x)) _ _ s
  refine wpAny_noted ?_
  rw [compTurn_list]
  refine wpAny_bind (wpAny_standAt (wpAny_bind (wpAny_mono (turn n s hI) (fun r s₁ h₁ => ?_) fun _ _ h' => h'.elim)))
  cases r with
  | none => exact wpAny_pure h₁
  | some v =>
    refine wpAny_bind (wpAny_mono h₁ (fun _ s₁' h₁' => ?_) fun _ _ h' => h'.elim)
    refine wpAny_bind (wpAny_mono h₁' (fun _ s₂ h₂ => wpAny_bind (wpAny_mono h₂ (fun ok s₃ h₃ => ?_) fun _ _ h' => h'.elim)) fun _ _ h' => h'.elim)
    cases ok with
    | false => exact wpAny_pure ⟨rfl, h₃⟩
    | true =>
      exact wpAny_bind (wpAny_bind (wpAny_mono h₃ (fun x s₄ h₄ => wpAny_bind (wpAny_mono h₄ (fun _ s₅ h₅ => wpAny_pure (wpAny_pure ⟨rfl, h₅⟩)) fun _ _ h' => h'.elim)) fun _ _ h' => h'.elim))
noncomputable def gBl (K : PySem.W.Frag) : Bool → Nat → TG
  | true, _ => gName 0
  | false, n => gTup K n (gNames (List.range n))
theorem setsV_keep : ∀ (is : List Nat) (vs : List V) (σ : L2.St) (n i : Nat), (∀ j ∈ is, j < n) → n ≤ i → (setsV is vs σ)[i]? = σ[i]?
  | [], _, _, _, _, _, _ => by simp [setsV]
  | _ :: _, [], _, _, _, _, _ => by simp [setsV]
  | j :: is, v :: vs, σ, n, i, h, hi => by
    have := setsV_keep is vs (σ.set j (some v)) n i (fun k hk => h k (List.mem_cons_of_mem _ hk)) hi
    simp only [setsV, List.zip_cons_cons, List.foldl_cons] at this ⊢
    rw [this]
    have := h j (List.mem_cons_self ..)
    rw [List.getElem?_set_ne (by omega)]
theorem setsV_len : ∀ (is : List Nat) (vs : List V) (σ : L2.St), (setsV is vs σ).length = σ.length
  | [], _, _ => by simp [setsV]
  | _ :: _, [], _ => by simp [setsV]
  | j :: is, v :: vs, σ => by
    have := setsV_len is vs (σ.set j (some v))
    simp only [setsV, List.zip_cons_cons, List.foldl_cons, List.length_set] at this ⊢
    exact this
theorem bind_sound {K : PySem.W.Frag} {H : Hp} {one : Bool} {n : Nat} {d : D} {v : V} {σd : St} {σ : L2.St} {P : St → Prop} {Q : L2.St → Hp → Prop} (hn : one = true → n = 1) (h : bindT one (List.range n) d σd P) (r : SRel K H σd σ) (rd : Rep K H d v)
    (hQ : ∀ σ2 σd2, SRel K H σd2 σ2 → P σd2 → (∀ i, n ≤ i → σ2[i]? = σ[i]?) → σ2.length = σ.length → Q σ2 H) : gBl K one n v σ H Q := by
  cases one with
  | true =>
    cases hn rfl
    have h : P (σd.set 0 (some d)) := h
    refine hQ _ _ (r.set 0 rd) h (fun i hi => ?_) (by simp)
    rw [List.getElem?_set_ne (by omega)]
  | false =>
    cases d with
    | tup ds =>
      rw [bind_t] at h
      obtain ⟨a, vs, rfl, f, g⟩ := rd.tup_inv
      have hl : vs.length = n := by rw [← g.length, h.1]; simp
      refine ⟨a, vs, rfl, f, hl, by simp [hl], hQ _ _ (r.sets _ g) h.2 (fun i hi => setsV_keep _ _ _ n i (fun j hj => by simpa using hj) hi) (setsV_len _ _ _)⟩
    | _ => exact (show False by cases n <;> exact h).elim
section
variable {K : PySem.W.Frag} {H : Hp} {st : Store} {Da : Addr} {ys zs : List V}
theorem sqT_alt (hD : H Da = some (.lst ys)) {a : Addr} {vs : List V} (h : SqT K H a vs) : SqT K (upd H Da (.lst zs)) a vs := by
  rcases h with (h | ⟨o, h⟩) | h
  · exact .inl (.inl (by rw [upd_ne (ne_of h hD (by simp))]; exact h))
  · exact .inl (.inr ⟨o, by rw [upd_ne (ne_of h hD (by simp))]; exact h⟩)
  · exact .inr h
theorem frzL_alt (hD : H Da = some (.lst ys)) {a : Addr} {vs : List V} (h : FrzL K H a vs) : FrzL K (upd H Da (.lst zs)) a vs := by
  rcases h with ⟨o, h⟩ | h
  · exact .inl ⟨o, by rw [upd_ne (ne_of h hD (by simp))]; exact h⟩
  · exact .inr h
mutual
theorem Rep.alt (hD : H Da = some (.lst ys)) : ∀ {d : D} {v : V}, Rep K H d v → Rep K (upd H Da (.lst zs)) d v
  | _, _, .non => .non
  | _, _, .bl b => .bl b
  | _, _, .int i => .int i
  | _, _, .str x => .str x
  | _, _, .tup h r => .tup (sqT_alt hD h) (Reps.alt hD r)
  | _, _, .ref a => .ref a
  | _, _, .mlst h r => .mlst (frzL_alt hD h) (Reps.alt hD r)
  | _, _, .mdic h => .mdic h
theorem Reps.alt (hD : H Da = some (.lst ys)) : ∀ {ds : List D} {vs : List V}, Reps K H ds vs → Reps K (upd H Da (.lst zs)) ds vs
  | _, _, .nil => .nil
  | _, _, .cons h r => .cons (Rep.alt hD h) (Reps.alt hD r)
end
theorem StOk.alt (ok : StOk K st H) (hD : H Da = some (.lst ys)) (hn : st Da = none) : StOk K st (upd H Da (.lst zs)) := fun a o e => by
  have ne : a ≠ Da := fun z => by rw [z, hn] at e; cases e
  have := ok a o e
  cases o with
  | lst ds =>
    obtain ⟨vs, q, r⟩ := this
    exact ⟨vs, by rw [upd_ne ne]; exact q, r.alt hD⟩
  | dic _ _ => exact this.elim
  | ins c fs =>
    obtain ⟨C, dx, ws, q, q2, q3, r⟩ := this
    exact ⟨C, dx, ws, q, by rw [upd_ne ne]; exact q2, q3, r.alt hD⟩
  | tab ks vs =>
    obtain ⟨xs, ws, q, q0, q1, q2, q3, q4, q5, r⟩ := this
    exact ⟨xs, ws, by rw [upd_ne ne]; exact q, q0, q1, q2, q3.alt hD, q4, q5, r.alt hD⟩
theorem StOk.take (ok : StOk K st H) (hD : H Da = some (.lst ys)) {ds : List D} (r : Reps K H ds ys) : StOk K (put st Da (.lst ds)) H := fun a o e => by
  by_cases ha : a = Da
  · subst ha
    rw [put_same] at e; cases e
    exact ⟨ys, hD, r⟩
  · rw [put_ne ha] at e
    exact ok a o e
end
theorem caps_rel {K : PySem.W.Frag} {H : Hp} {σd : St} {σ : L2.St} (r : SRel K H σd σ) (n : Nat) (caps : List Nat) : SRel K H (List.replicate n none ++ caps.map fun i => (σd[i]?).getD none) (List.replicate n none ++ capV caps σ) := by
  refine ⟨by simp [capV], fun i d e => ?_⟩
  by_cases hi : i < n
  · rw [List.getElem?_append_left (by simpa using hi), List.getElem?_replicate] at e
    split at e <;> cases e
  · rw [List.getElem?_append_right (by simpa using hi)] at e ⊢
    simp only [List.length_replicate, List.getElem?_map, Option.map_eq_some_iff] at e ⊢
    obtain ⟨k, e1, e2⟩ := e
    cases q : σd[k]? with
    | none => rw [q] at e2; cases e2
    | some u =>
      rw [q] at e2
      have e2 : u = some d := e2
      subst e2
      obtain ⟨v, h1, h2⟩ := r.2 k d q
      refine ⟨v, ?_, h2⟩
      simp only [capV, List.getElem?_map, Option.map_eq_some_iff]
      exact ⟨k, e1, by rw [h1]; rfl⟩
end L3
end
section
namespace L3
open PySem PySem.Spec PyProof.Rows L2
theorem hok_but {P : Program} {w : World} {H : Hp} {h h' : Heap} {Ca : Addr} (ok : HOk P w H h) (hn : H Ca = none) (hs : Heap.SameBut Ca h h') : HOk P w H h' := fun b u e => by
  refine (ok b u e).stay (fun c v hc q => hs.extBut c v ?_ q) (fun _ q => q) fun _ _ q => q
  rcases hc with z | z
  · rw [z]; exact fun y => by rw [y, hn] at e; cases e
  · exact fun y => by rw [y, hn] at z; cases z
section
variable {X : Cx} {C : CallT} {sub : Nat → Nat → Bool} {elt iter tg : Expr} {ifs : List Expr} {xe : Ex} {xifs its : List Ex} {pos : Pos} {scope : Scope} {own cn : List Str} {caps : List Nat} {one : Bool} {k : Option IK}
theorem comp_core (hC : CMono C C) (S : CompSc X scope cn caps) (hc : X.calm = true) (hone : one = true → own.length = 1)
    (hg : ∀ fp s H Ca, PG (cxC X scope own cn fp s H Ca) tg (gBl X.K one own.length))
    (hts : ∀ fp s H Ca, PTs (cxC X scope own cn fp s H Ca) ifs (tqOf X.K (wpTs C sub EF xifs)))
    (he : ∀ fp s H Ca, PE (cxC X scope own cn fp s H Ca) elt (tOf X.K (wpE C sub EF xe)))
    {use : Option (Value → Sem Unit)} {Qf : Value → Shared → Prop}
    {pins : List (Addr × Obj)} {s₂ : Shared} {σ : L2.St} {σd : St} {H1 : Hp} {st1 : Store} {J : It} {fp : List Addr} {it : Addr} {tn : Nat → Heap → Prop} {as : List Nat} {xs : List D} {R : List D → Store → Prop}
    (I2 : Inv X pins σ H1 s₂) (T : Turn X.prog X.w X.K tg J fp it tn) (t0 : tn 0 s₂.heap) (f2 : ∀ b ∈ fp, FpOk X pins H1 b) (r : SRel X.K H1 σd σ) (ok1 : StOk X.K st1 H1) (j : JOk X.K J as xs H1 st1)
    (q : compW (same as st1) (fun x st2 K => bindT one (List.range own.length) x (List.replicate own.length none ++ caps.map fun i => (σd[i]?).getD none) fun σ' =>
        wpTs C sub EF xifs σ' st2 fun b st3 => if b = true then wpE C sub EF xe σ' st3 fun d st4 => K (some d) st4 else K none st3) xs [] st1 R)
    (fin : ∀ (Da Ca : Addr) (H' : Hp) (st' : Store) (ds : List D) (m : Str → Option Value) (s' : Shared), s'.heap.Ns Ca m → (∀ h', Heap.SameBut Ca s'.heap h' → Inv X pins σ H' { s' with heap := h' }) → Inv X pins σ H' s' → Ca ≠ X.env.locals → (∀ x c, X.env.cells.lookup x = some c → c ≠ Ca) → Ca ∉ X.fs → X.s₀.heap.objs.size ≤ Ca → (∀ p ∈ X.pn ++ pins, p.1 ≠ Ca) → H' Ca = none → Step H1 st1 H' st' → StOk X.K (put st' Da (.lst ds)) H' → H1 Da = none → st' Da = none → R ds st' →
      compPost (model X.prog X.w) X.A X.xe use Qf (.ref Da) Ca (.ok .next) s') :
    wpAny (model X.prog X.w) X.A (newList []) (fun acc s₃ =>
      wpAny (model X.prog X.w) X.A (newFunctionEnv scope X.env.globals (clOf X.env.cells scope.names []) [] X.env.qual none .none (some X.env)) (fun cenv s₄ =>
        codeAny (model X.prog X.w) X.A (.compStart (.ListComp elt [⟨tg, iter, ifs, 0⟩] scope pos) 0 (.ref it) acc { cenv with scope := relabel scope X.env }) (compPost (model X.prog X.w) X.A X.xe use Qf acc cenv.locals) s₄) X.xe s₃) X.xe s₂ := by
  have hD1 : H1 s₂.heap.objs.size = none := I2.fresh
  obtain ⟨tf, htf0⟩ : ∃ tf : D → Store → (Option D → Store → Prop) → Prop, tf = fun x st2 K => bindT one (List.range own.length) x (List.replicate own.length none ++ caps.map fun i => (σd[i]?).getD none) fun σ' =>
        wpTs C sub EF xifs σ' st2 fun b st3 => if b = true then wpE C sub EF xe σ' st3 fun d st4 => K (some d) st4 else K none st3 := ⟨_, rfl⟩
  have htf : ∀ x st2 (K : Option D → Store → Prop), tf x st2 K → bindT one (List.range own.length) x (List.replicate own.length none ++ caps.map fun i => (σd[i]?).getD none) fun σ' =>
        wpTs C sub EF xifs σ' st2 fun b st3 => if b = true then wpE C sub EF xe σ' st3 fun d st4 => K (some d) st4 else K none st3 := fun x st2 K h => by rw [htf0] at h; exact h
  rw [← htf0] at q
  refine wpAny_newObj_type ?_
  have I3 := I2.lnew (its := []) (ys := []) (t' := s₂.toks) .nil (Nat.zero_le _)
  generalize hS3 : ({ s₂ with heap := s₂.heap.push { cls := .type "list", dict := none, data := .seq ([] : List Value).toArray } } : Shared) = s₃
  have I3 : Inv X pins σ (upd H1 s₂.heap.objs.size (.lst [])) s₃ := by rw [← hS3]; exact I3
  have lt3 : s₂.heap.objs.size < s₃.heap.objs.size := by rw [← hS3]; show _ < (s₂.heap.push _).objs.size; rw [Heap.size_push]; exact Nat.lt_succ_self _
  have old3 : ∀ b o, s₂.heap.get? b = some o → s₃.heap.get? b = some o := fun b o e => by rw [← hS3]; exact Heap.get?_push_of_some _ e
  generalize hDa : s₂.heap.objs.size = Da at *
  have hlt2 : ∀ b ∈ fp, b < Da := fun b hb => by
    obtain ⟨o, e, _⟩ := T.obj _ _ t0 b hb
    rw [← hDa]; exact Heap.lt_size e
  have f3 : ∀ b ∈ fp, FpOk X pins (upd H1 Da (.lst [])) b := fun b hb => ⟨by rw [upd_ne (Nat.ne_of_lt (hlt2 b hb))]; exact (f2 b hb).1, (f2 b hb).2⟩
  have hlt3 : ∀ b ∈ fp, b < s₃.heap.objs.size := fun b hb => Nat.lt_trans (hlt2 b hb) lt3
  refine wpAny_newFunctionEnv S.nocell (by intro y hy; simp at hy) (fun h₁ hns hsb => ?_) S.kind
  have keep1 : ∀ b o, s₃.heap.get? b = some o → h₁.get? b = some o := fun b o e => hsb.extBut b o (Nat.ne_of_lt (Heap.lt_size e)) (Heap.get?_push_of_some _ e)
  have t1 : tn 0 h₁ := T.keep _ _ _ t0 fun b hb o e => keep1 b o (old3 b o e)
  have B0 := block_start (own := own) S hc I3 f3 hlt3 (Nat.le_refl _) (tk := s₃.toks + ([] : List (Str × Value)).length) hns keep1
  generalize hXc : cxC X scope own cn fp s₃ (upd H1 Da (.lst [])) s₃.heap.objs.size = Xc at B0
  have hgc : PG Xc tg (gBl X.K one own.length) := by rw [← hXc]; exact hg _ _ _ _
  have htc : PTs Xc ifs (tqOf X.K (wpTs C sub EF xifs)) := by rw [← hXc]; exact hts _ _ _ _
  have hec : PE Xc elt (tOf X.K (wpE C sub EF xe)) := by rw [← hXc]; exact he _ _ _ _
  have eP : Xc.prog = X.prog := by rw [← hXc]; rfl
  have eW : Xc.w = X.w := by rw [← hXc]; rfl
  have eK : Xc.K = X.K := by rw [← hXc]; rfl
  have eA : Xc.A = X.A := by rw [← hXc]; rfl
  have eX : Xc.xe = fun _ _ => False := by rw [← hXc]; rfl
  have eN : Xc.env = compEnvC scope (clOf X.env.cells scope.names []) s₃.heap.objs.size X.env := by rw [← hXc]; rfl
  have eL : Xc.env.locals = s₃.heap.objs.size := by rw [eN]; rfl
  have eC : Xc.calm = true := by rw [← hXc]; rfl
  have fC : ∀ {H' : Hp}, (∀ b ∈ fp, H' b = none) → ∀ b ∈ fp, FpOk Xc [] H' b := fun {H'} hn b hb => by
    have ok := B0.ok
    refine ⟨hn b hb, by rw [eL]; exact Nat.ne_of_lt (hlt3 b hb), ok.exfs b (by rw [← hXc]; exact hb), .inl (by rw [← hXc]; exact hb), fun x c e => (ok.exf b (by rw [← hXc]; exact hb)).2 x c e, fun p hp => ?_⟩
    have : p ∈ ([] : List (Addr × Obj)) := by rw [← hXc] at hp; exact hp
    cases this
  have capsRel : ∀ {H' : Hp} {st' : Store}, Step H1 st1 H' st' → SRel X.K H' (List.replicate own.length none ++ caps.map fun i => (σd[i]?).getD none) (List.replicate own.length none ++ capV caps σ) := fun s' => (caps_rel r _ _).step ok1 s'
  have loop : ∀ s4 : Shared, s4 = { s₃ with heap := h₁, toks := s₃.toks + ([] : List (Str × Value)).length } → codeAny (model X.prog X.w) X.A (.compLoop (.ListComp elt [⟨tg, iter, ifs, 0⟩] scope pos) 0 (.ref it) (.ref Da) Xc.env) (compPost (model X.prog X.w) X.A X.xe use Qf (.ref Da) s₃.heap.objs.size) s4 := by
    rintro s4 rfl
    refine compLoop_any (fun n s' => ∃ i H' st' ds ys, n + i = xs.length ∧ Inv Xc [] (List.replicate own.length none ++ capV caps σ) H' s' ∧ tn i s'.heap ∧ (∀ b ∈ fp, H' b = none) ∧ Step H1 st1 H' st' ∧ StOk X.K st' H' ∧ H' Da = some (.lst ys) ∧ st' Da = none ∧ Reps X.K H' ds ys ∧
      compW (same as st1) tf (xs.drop i) ds st' R) ?_ xs.length
      ⟨0, _, st1, [], [], rfl, B0, t1, fun b hb => (f3 b hb).1, step_new hD1, ok1.new hD1, upd_same, ok1.fresh hD1, .nil, by simpa using q⟩
    rintro n s' ⟨i, H', st', ds, ys, hni, I', ti, fr', s1s, ok', hD', hst', rs, q'⟩
    by_cases hi : i < xs.length
    · -- a turn
      have ed : xs.drop i = xs[i] :: xs.drop (i + 1) := List.drop_eq_getElem_cons hi
      rw [ed] at q'
      obtain ⟨g1, gl, q'⟩ := q'
      have hx : xs[i]? = some xs[i] := List.getElem?_eq_getElem hi
      have hpn := T.item Xc eP eW eK eC i [] s' _ H' (fun _ _ => False) I' (fC fr') ti (j.go i H' st' xs[i] s1s ok' g1 hx)
      rw [eA] at hpn
      refine thn hpn fun rr s5 ⟨u, hu, h5⟩ => ?_
      subst hu
      refine thn h5 fun _ s6 ⟨v, H6, I6, rv, y6, t6, fr6⟩ => ?_
      obtain ⟨s6s, ok6, rd⟩ := j.yld i H' st' xs[i] v H6 s1s ok' g1 hx y6
      have D6 := s6s Da _ hD' hst'
      have I6' := I6.pinned (fC fr6) (T.obj _ _ t6)
      have hasg := hgc _ s6 _ H6 v u (fun σ2 H2 => ∃ σd2, H2 = H6 ∧ SRel X.K H6 σd2 σ2 ∧ (∀ i, own.length ≤ i → σ2[i]? = (List.replicate own.length none ++ capV caps σ)[i]?) ∧ σ2.length = (List.replicate own.length none ++ capV caps σ).length ∧
        wpTs C sub EF xifs σd2 st' fun b st3 => if b = true then wpE C sub EF xe σd2 st3 fun d st4 => compW (same as st1) tf (xs.drop (i + 1)) (ds ++ [d]) st4 R else compW (same as st1) tf (xs.drop (i + 1)) ds st3 R) I6' rv
        (bind_sound hone (htf _ _ _ q') ((capsRel s1s).step ok' s6s) rd fun σ2 σd2 r2 p2 k2 l2 => ⟨σd2, rfl, r2, k2, l2, p2⟩)
      rw [eP, eW, eA, eX] at hasg
      refine thn hasg fun _ s7 ⟨σ2, H7, I7, σd2, e7, r7, k7, l7, q7⟩ => ?_
      subst e7
      have hte := htc _ s7 σ2 H7 _ I7 ⟨σd2, st', _, r7, ok6, q7, fun b H' z => z⟩
      rw [eP, eW, eA, eX] at hte
      have again : ∀ {H8 : Hp} {s8 : Shared} {st8 : Store} {ds8 : List D} {ys8 : List V}, Inv Xc ([] ++ pinsAt fp s6.heap) σ2 H8 s8 → Step H1 st1 H8 st8 → StOk X.K st8 H8 → H8 Da = some (.lst ys8) → st8 Da = none → Reps X.K H8 ds8 ys8 → compW (same as st1) tf (xs.drop (i + 1)) ds8 st8 R →
          ∃ m, m < n ∧ ∃ i H' st' ds ys, m + i = xs.length ∧ Inv Xc [] (List.replicate own.length none ++ capV caps σ) H' s8 ∧ tn i s8.heap ∧ (∀ b ∈ fp, H' b = none) ∧ Step H1 st1 H' st' ∧ StOk X.K st' H' ∧ H' Da = some (.lst ys) ∧ st' Da = none ∧ Reps X.K H' ds ys ∧ compW (same as st1) tf (xs.drop i) ds st' R := fun {H8 s8 st8 ds8 ys8} I8 s8s ok8 hD8 hs8 rs8 q8 => by
        have pinned : ∀ b ∈ fp, ∀ o, s6.heap.get? b = some o → s8.heap.get? b = some o ∧ H8 b = none := fun b hb o e => by
          have := I8.pin (b, o) (List.mem_append_right _ (List.mem_append_right _ (mem_pinsAt hb e)))
          exact ⟨this.1, this.2.1⟩
        refine ⟨n - 1, by omega, i + 1, H8, st8, ds8, ys8, by omega, ?_, T.keep _ _ _ t6 fun b hb o e => (pinned b hb o e).1, fun b hb => ?_, s8s, ok8, hD8, hs8, rs8, q8⟩
        · refine I8.unpinned.weak (by rw [l7]) fun i0 v0 e0 => ?_
          by_cases hi0 : i0 < own.length
          · rw [List.getElem?_append_left (by simpa using hi0), List.getElem?_replicate] at e0
            split at e0 <;> cases e0
          · rw [k7 i0 (by omega)]; exact e0
        · obtain ⟨o, e, _⟩ := T.obj _ _ t6 b hb
          exact (pinned b hb o e).2
      have s17 := s1s.trans s6s
      have rs7 := rs.step ok' s6s
      refine thn hte fun b s8 ⟨H8, I8, st8, s8s, ok8, q8⟩ => ?_
      have D8 := s8s Da _ D6.1 D6.2
      have rs8 := rs7.step ok6 s8s
      cases b with
      | false => exact again I8 (s17.trans s8s) ok8 D8.1 D8.2 rs8 q8
      | true =>
        have hel := hec _ s8 σ2 H8 _ I8 ⟨σd2, st8, _, r7.step ok6 s8s, ok8, q8, fun v H' z => z⟩
        rw [eP, eW, eA, eX] at hel
        refine thn hel fun u9 s9 ⟨v9, H9, I9, rv9, d9, st9, s9s, ok9, rd9, q9⟩ => ?_
        have D9 := s9s Da _ D8.1 D8.2
        have rs9 := rs8.step ok8 s9s
        have hap := L2.mt_append _ s9 σ2 H9 (.ref Da) [v9] (.ref Da) [u9] (fun _ H' => H' = upd H9 Da (.lst (ys ++ [v9]))) I9 rfl (.cons rv9 .nil) ⟨Da, ys, v9, rfl, rfl, D9.1, by rw [line_eq, ← rs9.length]; exact gl, rfl⟩
        rw [eP, eW, eA, eX] at hap
        refine thn hap fun _ s10 ⟨_, H10, I10, _, e10⟩ => ?_
        subst e10
        refine again I10 (fun a o e0 n0 => ?_) (ok9.alt D9.1 D9.2) upd_same D9.2 ((rs9.append (.cons rd9 .nil)).alt D9.1) q9
        have := ((s17.trans s8s).trans s9s) a o e0 n0
        exact ⟨by rw [upd_ne (ne_of_none e0 hD1)]; exact this.1, this.2⟩
    · -- the end
      have ed : xs.drop i = [] := List.drop_eq_nil_of_le (by omega)
      rw [ed] at q'
      have hpn := T.done Xc eP eW eK eC i [] s' _ H' (fun _ _ => False) I' (fC fr') ti (j.stop i H' st' s1s ok' q'.1 (by omega))
      rw [eA] at hpn
      refine thn hpn fun rr s5 ⟨hr, I5⟩ => ?_
      subst hr
      have un5 : Un (frs X.stack) fp (upd H1 Da (.lst [])) H' s₃.heap s5.heap := by have := I5.base; rw [← hXc] at this; exact this
      have os5 : s5.os = s₃.os := by have := I5.os; rw [← hXc] at this; exact this
      have fC5 : H' s₃.heap.objs.size = none := by have := I5.free; rw [eL] at this; exact this
      have hch : ∀ b ∈ fp, (b ∈ X.ex ∨ X.s₀.heap.objs.size ≤ b) ∧ b ≠ X.env.locals ∧ (∀ x c, X.env.cells.lookup x = some c → c ≠ b) ∧ ∀ p ∈ X.pn ++ pins, p.1 ≠ b := fun b hb => ⟨(f2 b hb).2.2.2.1, (f2 b hb).2.1, (f2 b hb).2.2.2.2.1, (f2 b hb).2.2.2.2.2⟩
      have hok5 : HOk X.prog X.w H' s5.heap := by have := I5.hok; rw [eP, eW] at this; exact this
      have Iall : ∀ h', (∀ b o, b ≠ s₃.heap.objs.size → s5.heap.get? b = some o → h'.get? b = some o) → HOk X.prog X.w H' h' → Inv X pins σ H' { s5 with heap := h' } := fun h' kk hok => by
        have ne : ∀ b o, s₃.heap.get? b = some o → b ≠ s₃.heap.objs.size := fun b o e => Nat.ne_of_lt (Heap.lt_size e)
        refine I3.call' (s' := { s5 with heap := h' }) (ch := fp) os5 ⟨fun b o e n hb hx => kk b o (ne b o e) (un5.keep b o e n hb hx), fun b o e n hb hx => ?_, un5.free, fun b o e hx => ?_, un5.tups, un5.frzs, un5.tbls⟩ hok I5.bare hch
        · obtain ⟨sl, e'⟩ := un5.slot b o e n hb hx
          exact ⟨sl, kk b _ (ne b o e) e'⟩
        · obtain ⟨o', e'⟩ := un5.there b o e hx
          exact ⟨o', kk b o' (ne b o e) e'⟩
      obtain ⟨m5, ns5, _⟩ := I5.loc
      rw [eL] at ns5
      refine fin Da s₃.heap.objs.size H' st' ds m5 s5 ns5 (fun h' hs => Iall h' (fun b o hb e => hs.extBut b o hb e) (hok_but hok5 fC5 hs)) (Iall s5.heap (fun b o _ e => e) hok5) (Nat.ne_of_gt I3.lt) (fun x c e => ?_) (I3.nofs (Nat.le_refl _)) I3.sz (fun p hp => Nat.ne_of_lt (Heap.lt_size (I3.pin p hp).1)) fC5 s1s (ok'.take hD' rs) hD1 hst' q'.2
      obtain ⟨v, o, ho, _⟩ := I3.cell x c e
      exact Nat.ne_of_lt (Heap.lt_size ho)
  have hl := loop _ rfl
  rw [eN] at hl
  exact codeAny_compStart_list hl (T.self X.A 0 _ _ _ t1 hl)
theorem step_put {H H1 H' : Hp} {st st1 st' : Store} {Da : Addr} {o : MO} (s1 : Step H st H1 st1) (s2 : Step H1 st1 H' st') (hD : H1 Da = none) : Step H st H' (put st' Da o) := fun a u e n => by
  have e1 := s1 a u e n
  have e2 := s2 a u e1.1 e1.2
  exact ⟨e2.1, by rw [put_ne (ne_of_none e1.1 hD)]; exact e2.2⟩
theorem j_comp (hC : CMono C C) (S : CompSc X scope cn caps) (hc : X.calm = true) (hone : one = true → own.length = 1)
    (hi : PI X tg iter (tiOf X.K fun σ st M => wpEs C sub EF its σ st fun ds st1 => itrW k ds st1 fun as xs => M as xs st1))
    (hg : ∀ fp s H Ca, PG (cxC X scope own cn fp s H Ca) tg (gBl X.K one own.length))
    (hts : ∀ fp s H Ca, PTs (cxC X scope own cn fp s H Ca) ifs (tqOf X.K (wpTs C sub EF xifs)))
    (he : ∀ fp s H Ca, PE (cxC X scope own cn fp s H Ca) elt (tOf X.K (wpE C sub EF xe)))
    (hs : ∀ x, foldedSetIterable iter X.env x = pure x) :
    PE X (.ListComp elt [⟨tg, iter, ifs, 0⟩] scope pos) (tOf X.K (wpE C sub EF (.comp own.length caps (List.range own.length) one k its xifs xe))) := by
  intro pins s σ H Q I ⟨σd, st, R, r, ok, q, hq⟩
  rw [eval_ListComp]
  refine wpAny_comprehension_free (use := none) rfl hs (closureFor_eq (S.cells I.ok)) S.kind S.names ?_
  refine thn (hi pins s σ H _ I ⟨σd, st, _, r, ok, q, fun J H1 z => z⟩) fun v s1 h1 => thn h1 fun itv s2 h2 => ?_
  obtain ⟨it, fp, tn, J, H1, rfl, I2, T, t0, f2, as, xs, st1, s1s, ok1, j, q1⟩ := h2
  refine comp_core (use := none) hC S hc hone hg hts he I2 T t0 f2 (r.step ok s1s) ok1 j q1 ?_
  intro Da Ca H' st' ds m s' hns hall hI _ _ _ _ _ _ s2s okp hD1 hst' hR
  exact ⟨m, hns, fun h' hh => ⟨.ref Da, H', hall h' hh, rfl, hq _ _ ⟨.ref Da, _, step_put s1s s2s hD1, okp, .ref Da, hR.2 Da hst'⟩⟩⟩
end
end L3
end
section
namespace L3
open PySem PySem.Spec PyProof.Rows L2
theorem start_rel {K : PySem.W.Frag} {H : Hp} {ds : List D} {vs : List V} (r : Reps K H ds vs) {N : List Str} {np : Nat} (h : ds.length = np) : SRel K H (start np N.length ds) (L2.start N vs) := by
  refine ⟨by simp [start, L2.start, r.length, ← h], fun i d e => ?_⟩
  unfold start at e
  by_cases hi : i < ds.length
  · rw [List.getElem?_append_left (by simpa using hi), List.getElem?_map, Option.map_eq_some_iff] at e
    obtain ⟨d', e1, e2⟩ := e
    cases e2
    obtain ⟨v, e3, e4⟩ := r.get e1
    refine ⟨v, ?_, e4⟩
    unfold L2.start
    rw [List.getElem?_append_left (by rw [List.length_map, ← r.length]; exact hi), List.getElem?_map, e3]; rfl
  · rw [List.getElem?_append_right (by simpa using hi), List.getElem?_replicate] at e
    split at e <;> cases e
theorem fn_zero {P : Program} {w : World} {K : PySem.W.Frag} {mg : Str → Option Value} {base : Heap} {G : Prog} {f : Nat} {a : Addr} {fd : FuncData} {ps : List Str} : FnOk P w K mg base CX0 0 a fd ps (spOf K (wpFn G 0) f) := by
  have no : ∀ vs H Q E, ¬ spOf K (wpFn G 0) f vs H Q E := fun vs H Q E ⟨_, _, _, _, _, h, _⟩ => h
  exact ⟨fun vs H Q E h => absurd h (no vs H Q E), fun A outer s H args us vs Q E _ _ _ _ h => absurd h (no vs H Q E)⟩
end L3
end
section
namespace L3
open PySem PySem.Spec PyProof.Rows L2
theorem bt_len : bootBuiltins "len" = some (.builtin "len") := by decide +kernel
theorem bt_all : bootBuiltins "all" = some (.builtin "all") := by decide +kernel
theorem bt_max : bootBuiltins "max" = some (.builtin "max") := by decide +kernel
theorem bt_isinstance : bootBuiltins "isinstance" = some (.builtin "isinstance") := by decide +kernel
theorem bt_str : bootBuiltins "str" = some (.type "str") := by decide +kernel
theorem bt_tuple : bootBuiltins "tuple" = some (.type "tuple") := by decide +kernel
noncomputable def tyN : Ty → String
  | .int => "int"
  | .str => "str"
  | .bool => "bool"
  | .list => "list"
  | .tuple => "tuple"
  | .dict => "dict"
  | .err _ => "?"
noncomputable def noErr : Ty → Bool
  | .err _ => false
  | _ => true
section
variable {X : Cx} {pins : List (Addr × Obj)} {σ : L2.St} {H : Hp} {s : Shared} {st : Store} {sub : Nat → Nat → Bool}
noncomputable abbrev IsR (X : Cx) (s : Shared) (u : Value) (t : Ty) (b : Bool) : Prop := ∀ (A : Around) (Q : Value → Shared → Prop) (E : Value → Shared → Prop), (∀ tk, Q (.bool b) { s with toks := tk }) → wpAny (model X.prog X.w) A (call (.builtin "isinstance") [u, .type (tyN t)]) Q E s
theorem isi_lst {a : Addr} (I : Inv X pins σ H s) (h : ∃ o, s.heap.get? a = some o ∧ o.cls = .type "list") {t : Ty} {b : Bool} (e : PySem.W.kitOne X.K (.type "list") (.type (tyN t)) = some b) : IsR X s (.ref a) t b := fun A Q E hQ =>
  PySem.W.kia_one PySem.W.kitx_list I.kIn h e (fun z => nomatch z) hQ
theorem isi_tup {a : Addr} (I : Inv X pins σ H s) (h : ∃ o, s.heap.get? a = some o ∧ o.cls = .type "tuple") {t : Ty} {b : Bool} (e : PySem.W.kitOne X.K (.type "tuple") (.type (tyN t)) = some b) : IsR X s (.ref a) t b := fun A Q E hQ =>
  PySem.W.kia_one PySem.W.kitx_tuple I.kIn h e (fun z => nomatch z) hQ
theorem isi_sound {d : D} {v : V} {u : Value} {t : Ty} {P : Bool → Prop} (I : Inv X pins σ H s) (ok : StOk X.K st H) (r : Rep X.K H d v) (rv : RelV v u) (ht : noErr t = true) (h : isOne sub d st t P) : ∃ b, P b ∧ IsR X s u t b := by
  cases d with
  | non =>
    cases r.non_inv; cases rv
    refine ⟨false, by cases t <;> exact h, fun A Q E hQ => PySem.W.kia_one PySem.W.kitx_none I.kIn True.intro ?_ (fun z => nomatch z) hQ⟩
    cases t <;> first | rfl | cases ht
  | bl k =>
    cases r.bl_inv; cases rv
    cases t with
    | bool => exact ⟨true, h, fun A Q E hQ => PySem.W.kia_one PySem.W.kitx_bool I.kIn True.intro rfl (fun z => nomatch z) hQ⟩
    | int => exact ⟨true, h, fun A Q E hQ => PySem.W.kia_one PySem.W.kitx_bool I.kIn True.intro rfl (fun z => nomatch z) hQ⟩
    | err _ => cases ht
    | _ => exact ⟨false, h, fun A Q E hQ => PySem.W.kia_one PySem.W.kitx_bool I.kIn True.intro rfl (fun z => nomatch z) hQ⟩
  | int k =>
    cases r.int_inv; obtain ⟨tk, rfl⟩ := rv
    cases t with
    | int => exact ⟨true, h, fun A Q E hQ => PySem.W.kia_one PySem.W.kitx_int I.kIn True.intro rfl (fun z => nomatch z) hQ⟩
    | err _ => cases ht
    | _ => exact ⟨false, h, fun A Q E hQ => PySem.W.kia_one PySem.W.kitx_int I.kIn True.intro rfl (fun z => nomatch z) hQ⟩
  | str k =>
    cases r.str_inv; obtain ⟨tk, rfl⟩ := rv
    cases t with
    | str => exact ⟨true, h, fun A Q E hQ => PySem.W.kia_one PySem.W.kitx_str I.kIn True.intro rfl (fun z => nomatch z) hQ⟩
    | err _ => cases ht
    | _ => exact ⟨false, h, fun A Q E hQ => PySem.W.kia_one PySem.W.kitx_str I.kIn True.intro rfl (fun z => nomatch z) hQ⟩
  | tup ds =>
    obtain ⟨a, vs, rfl, f, g⟩ := r.tup_inv
    cases rv
    obtain ⟨its, _, ⟨o, h1, h2, _⟩, _⟩ := I.tuple f
    cases t with
    | tuple => exact ⟨true, h, isi_tup I ⟨o, h1, h2⟩ rfl⟩
    | err _ => cases ht
    | _ => exact ⟨false, h, isi_tup I ⟨o, h1, h2⟩ rfl⟩
  | ref a =>
    cases r.ref_inv
    cases rv
    have key : ∃ ds, st a = some (.lst ds) := by
      cases e : st a with
      | none => exfalso; cases t <;> first | (simp only [isOne, seqAt, e] at h) | cases ht
      | some o =>
        cases o with
        | lst ds => exact ⟨ds, rfl⟩
        | dic _ _ => exact (ok a _ e).elim
        | ins _ _ => exfalso; cases t <;> first | (simp only [isOne, seqAt, e] at h) | cases ht
        | tab _ _ => exfalso; cases t <;> first | (simp only [isOne, seqAt, e] at h) | cases ht
    obtain ⟨ds, e⟩ := key
    obtain ⟨vs, g1, _⟩ := ok.lst e
    obtain ⟨_, its, n, _, _, e1⟩ := I.lstM g1
    have ho : ∃ o, s.heap.get? a = some o ∧ o.cls = .type "list" := ⟨_, e1, rfl⟩
    cases t with
    | list => simp only [isOne] at h; rw [seqAt_lst e] at h; exact ⟨true, h, isi_lst I ho rfl⟩
    | err _ => cases ht
    | _ => simp only [isOne] at h; rw [seqAt_lst e] at h; exact ⟨false, h, isi_lst I ho rfl⟩
  | mlst ds =>
    obtain ⟨a, vs, rfl, f, g⟩ := r.mlst_inv
    cases rv
    obtain ⟨its, _, p, _⟩ := I.list f.sq
    obtain ⟨o, h1, h2, _⟩ := p.isList
    cases t with
    | list => exact ⟨true, h, isi_lst I ⟨o, h1, h2⟩ rfl⟩
    | err _ => cases ht
    | _ => exact ⟨false, h, isi_lst I ⟨o, h1, h2⟩ rfl⟩
  | mdic _ _ => cases t <;> exact (show False from h).elim
  | exc c => cases r
end
section
variable {X : Cx} {C : CallT} {sub : Nat → Nat → Bool} {E : XK} {a : Expr} {x : Ex} {p p2 pos : Pos}
noncomputable def rIsi (K : PySem.W.Frag) (sub : Nat → Nat → Bool) (t : Ty) : List V → Hp → L2.VK → Prop := fun vs H Q => ∃ d v st R, vs = [v, .ty (tyN t)] ∧ Rep K H d v ∧ StOk K st H ∧ isOne sub d st t (fun b => R (.bl b) st) ∧ ∀ v H', QD K H st R v H' → Q v H'
theorem call_isi {t : Ty} (ht : noErr t = true) : CallR X (.builtin "isinstance") (rIsi X.K sub t) := by
  intro pins s σ H vs us Q I rv h
  obtain ⟨d, v, st, R, rfl, r, ok, h, hq⟩ := h
  cases rv with | cons r1 r2 => cases r2 with | cons r2 r3 =>
    cases r3
    cases r2
    obtain ⟨b, hb, hi⟩ := isi_sound I ok r r1 ht h
    exact hi X.A _ _ fun tk => ⟨.bl b, H, I.tok tk, rfl, hq _ _ (.here ok (.bl b) hb)⟩
theorem j_isi {t : Ty} {n : Str} (ht : noErr t = true) (hg : Gl X "isinstance") (hm : X.mg "isinstance" = none) (hg2 : Gl X n) (hm2 : X.mg n = none) (hv2 : bootBuiltins n = some (.type (tyN t))) (ha : PE X a (tOf X.K (wpE C sub E x)))
    (hn2 : n ≠ "__name__") (hd2 : (n == ("__debug__" : Str)) = false) (he : starEach [a, .Name n p2] X.env = (false, eval a X.env) :: starEach [.Name n p2] X.env) (he2 : starEach [.Name n p2] X.env = [(false, eval (.Name n p2) X.env)]) (hpl : (backTo pos (starEach [.Name n p2] X.env)).any (·.1) = false) :
    PE X (.Call (.Name "isinstance" p) [a, .Name n p2] [] pos) (tOf X.K (wpE C sub E (.isi x [t]))) :=
  (pe_callB (call_isi (sub := sub) ht) hg hm bt_isinstance (pa_cons ha (pa_cons (pe_bltn hg2 hm2 hv2 (v := .ty (tyN t)) rfl hn2 hd2) pa_nil he2) he) (by decide) (by decide) he hpl).imp fun σ H Q ⟨σd, st, R, r, ok, q, hq⟩ => by
    refine ⟨σd, st, _, r, ok, q, fun v H1 ⟨d, st1, s1, ok1, r1, q1⟩ => ?_⟩
    exact ⟨d, v, st1, R, rfl, r1, ok1, q1, fun v H' z => hq _ _ (.after s1 z)⟩
theorem j_str {t : String} {j : Nat} (h : Str.ofString t = ⟨(W t).toArray⟩) : PE X (.Constant (.str (Str.ofString t)) j pos) (tOf X.K (wpE C sub E (.c (.str (W t))))) :=
  j_const pe_str fun H => by rw [h]; exact .str _
end
end L3
end
section
namespace L3
open PySem PySem.Spec PyProof.Rows L2
structure JE (X : Cx) (C : CallT) (sub : Nat → Nat → Bool) (E : XK) (e : Expr) (x : Ex) : Prop where
  h : PE X e (tOf X.K (wpE C sub E x))
structure JT (X : Cx) (C : CallT) (sub : Nat → Nat → Bool) (E : XK) (e : Expr) (x : Ex) : Prop where
  h : PT X e (ttOf X.K (wpE C sub E x))
structure JW (X : Cx) (C : CallT) (sub : Nat → Nat → Bool) (E : XK) (e : Expr) (x : Ex) : Prop where
  h : PW X e (ttOf X.K (wpE C sub E x))
structure JA (X : Cx) (C : CallT) (sub : Nat → Nat → Bool) (E : XK) (es : List Expr) (xs : List Ex) : Prop where
  h : PA X es (taOf X.K (wpEs C sub E xs))
structure JO (X : Cx) (C : CallT) (sub : Nat → Nat → Bool) (E : XK) (e : Option Expr) (xs : List Ex) : Prop where
  h : PO X e (toOf X.K (wpEs C sub E xs))
structure JI (X : Cx) (C : CallT) (sub : Nat → Nat → Bool) (E : XK) (tg e : Expr) (k : Option IK) (xs : List Ex) : Prop where
  h : PI X tg e (tiOf X.K fun σ st M => wpEs C sub E xs σ st fun ds st1 => itrW k ds st1 fun as ys => M as ys st1)
structure JG (X : Cx) (C : CallT) (sub : Nat → Nat → Bool) (E : XK) (tg : Expr) (t : Tg) : Prop where
  h : PG X tg (gOf X.K (tgW C sub E t))
structure JN (X : Cx) (tg : Expr) (i : Nat) : Prop where
  h : PG X tg (gName i)
structure JNs (X : Cx) (es : List Expr) (is : List Nat) : Prop where
  h : PGs X es (gNames is)
structure JB (X : Cx) (tg : Expr) (one : Bool) (n : Nat) : Prop where
  h : PG X tg (gBl X.K one n)
structure JQ (X : Cx) (C : CallT) (sub : Nat → Nat → Bool) (E : XK) (es : List Expr) (xs : List Ex) : Prop where
  h : PTs X es (tqOf X.K (wpTs C sub E xs))
structure JS (X : Cx) (C : CallT) (sub : Nat → Nat → Bool) (EX : XK) (s : Stmt) (x : Sx) : Prop where
  h : PS X s (tsOf X.K EX (wpS C sub x))
structure JSs (X : Cx) (C : CallT) (sub : Nat → Nat → Bool) (EX : XK) (ss : List Stmt) (xs : List Sx) : Prop where
  h : PSs X ss (tsOf X.K EX (wpSs C sub xs))
structure CallOk (X : Cx) (C : CallT) (n : Str) (fid : Nat) : Prop where
  h : ∃ k f fd ps, FnOk X.prog X.w X.K X.mg X.base CX0 k f fd ps (spOf X.K C fid) ∧ Room k X.A ∧ X.mg n = some (.ref f) ∧ PySem.W.keepIn X.K (.ref f) = true ∧ Binds X.K fd ps []
noncomputable def GC (K : PySem.W.Frag) (mg : Str → Option Value) (n : Str) (d : D) : Prop := ∃ u v, mg n = some u ∧ RelV v u ∧ ∀ H, Rep K H d v
section
variable {X : Cx} {C : CallT} {sub : Nat → Nat → Bool} {E EX : XK} {a b c e o tg : Expr} {es : List Expr} {x y z : Ex} {xs : List Ex} {p p2 pos apos : Pos} {k : Nat} {n : Str} {s : Stmt} {ss : List Stmt} {sxs : List Sx}
theorem jv (i : Nat) (hN : X.N[i]? = some n := by kernel_rfl) (hv : X.env.scope.names.lookup n = some .local := by kernel_rfl) (hd : (n == ("__debug__" : Str)) = false := by kernel_rfl)
    (hcd : (n == ("__classdict__" : Str)) = false := by kernel_rfl) : JE X C sub E (.Name n pos) (.v i) := ⟨j_var (pv i hN (.inl hv) hd hcd)⟩
theorem jvc (i : Nat) (hN : X.N[i]? = some n := by kernel_rfl) (hv : X.env.scope.names.lookup n = some .cell := by kernel_rfl) (hd : (n == ("__debug__" : Str)) = false := by kernel_rfl)
    (hcd : (n == ("__classdict__" : Str)) = false := by kernel_rfl) : JE X C sub E (.Name n pos) (.v i) := ⟨j_var (pv i hN (.inr (.inl hv)) hd hcd)⟩
theorem ji {i : Int} : JE X C sub E (.Constant (.int i) k pos) (.c (.int i)) := ⟨j_const pe_int fun _ => .int _⟩
theorem jb {i : Bool} : JE X C sub E (.Constant (.bool i) k pos) (.c (.bl i)) := ⟨j_const pe_bl fun _ => .bl _⟩
theorem jn : JE X C sub E (.Constant .none k pos) (.c .non) := ⟨j_const pe_non fun _ => .non⟩
theorem js {t : String} (h : Str.ofString t = ⟨(W t).toArray⟩ := by kernel_rfl) : JE X C sub E (.Constant (.str (Str.ofString t)) k pos) (.c (.str (W t))) := ⟨j_str h⟩
theorem jg {d : D} (h : GC X.K X.mg n d) (hg : X.env.kindOf n = some .globalImplicit := by kernel_rfl) (hd : (n == ("__debug__" : Str)) = false := by kernel_rfl) : JE X C sub E (.Name n pos) (.c d) := ⟨let ⟨u, v, h1, h2, h3⟩ := h; j_const (pe_glob hg h1 h2 hd) h3⟩
theorem ja (h : JE X C sub E e x) (hs : JA X C sub E es xs) (hst : starEach (e :: es) X.env = (false, eval e X.env) :: starEach es X.env := by kernel_rfl) : JA X C sub E (e :: es) (x :: xs) := ⟨j_cons h.h hs.h hst⟩
theorem jt (m : CMono C C) (hs : JA X C sub E es xs) (hl : xs.length ≤ LINE := by decide) : JE X C sub E (.Tuple es k pos) (.tup xs) := ⟨j_tup m hs.h hl⟩
theorem jcm {o : COp} (u : X.A.units + 180 < cLine) (ha : JE X C sub E a x) (hb : JE X C sub E b y) (hm : behindInMarks (cop o) b = false := by kernel_rfl) : JE X C sub E (.Compare a [cop o] [b] pos) (.cmp o x y) := ⟨j_cmp u ha.h hb.h hm⟩
theorem tcm {o : COp} (u : X.A.units + 180 < cLine) (ha : JE X C sub E a x) (hb : JE X C sub E b y) (hm : behindInMarks (cop o) b = false := by kernel_rfl) : JT X C sub E (.Compare a [cop o] [b] pos) (.cmp o x y) := ⟨jt_cmp u ha.h hb.h hm⟩
theorem jch {o o' : COp} (u : X.A.units + 180 < cLine) (ha : JE X C sub E a x) (hb : JE X C sub E b y) (hc : JE X C sub E c z) (hm : lastMarks [cop o, cop o'] [b, c] = false := by kernel_rfl) : JE X C sub E (.Compare a [cop o, cop o'] [b, c] pos) (.chain o o' x y z) := ⟨j_chain u ha.h hb.h hc.h hm⟩
theorem tp (h : JE X C sub E e x) (he : ∀ whole, isTrue e X.env whole = (do let v ← whole; standAt e.pos; holding [v] (truthy v)) := by intro _; rfl) : JT X C sub E e x := ⟨jt_plain h.h he⟩
theorem jix (ha : JE X C sub E a x) (hb : JE X C sub E b y) (hp : PlainIx b := by intro _ _; rfl) : JE X C sub E (.Subscript a b pos) (.ix x y) := ⟨j_ix ha.h hb.h hp⟩
theorem jcl {fid : Nat} (h : CallOk X C n fid) (ha : JA X C sub E (e :: es) xs) (hg : X.env.kindOf n = some .globalImplicit := by kernel_rfl) (hdb : (n == ("__debug__" : Str)) = false := by kernel_rfl) (he : starEach (e :: es) X.env = (false, eval e X.env) :: starEach es X.env := by kernel_rfl) (hpl : (backTo pos (starEach es X.env)).any (·.1) = false := by kernel_rfl) :
    JE X C sub E (.Call (.Name n p) (e :: es) [] pos) (.call fid xs) := ⟨let ⟨k, f, fd, ps, h1, h2, h3, h4, h5⟩ := h.h; j_call h1 h2 hg h3 h4 h5 pass0 ha.h hdb he hpl⟩
theorem jfun {f : BI} {id : String} (hW : BiR X (.builtin id) (biW f)) (hv : bootBuiltins n = some (.builtin id)) (hm : X.mg n = none) (ha : JA X C sub E (e :: es) xs) (hg : X.env.kindOf n = some .globalImplicit := by kernel_rfl)
    (hn : n ≠ "__name__" := by decide) (hdb : (n == ("__debug__" : Str)) = false := by kernel_rfl) (he : starEach (e :: es) X.env = (false, eval e X.env) :: starEach es X.env := by kernel_rfl) (hpl : (backTo pos (starEach es X.env)).any (·.1) = false := by kernel_rfl) :
    JE X C sub E (.Call (.Name n p) (e :: es) [] pos) (.bi f xs) := ⟨(j_fun hW hg hm hv ha.h hn hdb he hpl).imp fun σ H Q ⟨σd, st, R, r, ok, q, hq⟩ => ⟨σd, st, R, r, ok, q, hq⟩⟩
theorem jtyp {f : BI} {id : String} (hW : BiR X (.type id) (biW f)) (hv : bootBuiltins n = some (.type id)) (hm : X.mg n = none) (ha : JA X C sub E (e :: es) xs) (hg : X.env.kindOf n = some .globalImplicit := by kernel_rfl)
    (hn : n ≠ "__name__" := by decide) (hdb : (n == ("__debug__" : Str)) = false := by kernel_rfl) (he : starEach (e :: es) X.env = (false, eval e X.env) :: starEach es X.env := by kernel_rfl) (hpl : (backTo pos (starEach es X.env)).any (·.1) = false := by kernel_rfl) :
    JE X C sub E (.Call (.Name n p) (e :: es) [] pos) (.bi f xs) := ⟨(j_type hW hg hm hv ha.h hn hdb he hpl).imp fun σ H Q ⟨σd, st, R, r, ok, q, hq⟩ => ⟨σd, st, R, r, ok, q, hq⟩⟩
theorem jis {t : Ty} (hv : bootBuiltins n = some (.type (tyN t))) (hm : X.mg "isinstance" = none) (hm2 : X.mg n = none) (ha : JE X C sub E a x) (ht : noErr t = true := by kernel_rfl) (hg : X.env.kindOf "isinstance" = some .globalImplicit := by kernel_rfl) (hg2 : X.env.kindOf n = some .globalImplicit := by kernel_rfl)
    (hn2 : n ≠ "__name__" := by decide) (hd2 : (n == ("__debug__" : Str)) = false := by kernel_rfl) (he : starEach [a, .Name n p2] X.env = (false, eval a X.env) :: starEach [.Name n p2] X.env := by kernel_rfl) (he2 : starEach [.Name n p2] X.env = [(false, eval (.Name n p2) X.env)] := by kernel_rfl) (hpl : (backTo pos (starEach [.Name n p2] X.env)).any (·.1) = false := by kernel_rfl) :
    JE X C sub E (.Call (.Name "isinstance" p) [a, .Name n p2] [] pos) (.isi x [t]) := ⟨j_isi ht hg hm hg2 hm2 hv ha.h hn2 hd2 he he2 hpl⟩
theorem jap (ho : JE X C sub E o x) (ha : JA X C sub E (e :: es) xs) (hbase : attributeBase o "append" X.env (eval o X.env) = eval o X.env := by kernel_rfl)
    (hfew : ((backTo pos (starEach (e :: es) X.env)).all (fun x => !x.1) && (backToKw pos (keywordEach [] X.env)).all (fun x => x.1.isSome) && decide ((e :: es).length + ([] : List Keyword).length + (if ([] : List Keyword).isEmpty then 0 else 1) < 30)) = true := by kernel_rfl) (hline : (apos.endLine == pos.line) = true := by kernel_rfl)
    (hs : starEach (e :: es) X.env = (false, eval e X.env) :: starEach es X.env := by kernel_rfl) (hplain : (backTo pos (starEach es X.env)).any (·.1) = false := by kernel_rfl) :
    JE X C sub E (.Call (.Attribute o "append" apos) (e :: es) [] pos) (.meth .append x xs) := ⟨j_meth (by simp) PySem.F.slot_list_append PySem.F.type_list_append me_append ho.h ha.h hbase hfew hline hs hplain⟩
theorem jxt (ho : JE X C sub E o x) (ha : JA X C sub E (e :: es) xs) (hbase : attributeBase o "extend" X.env (eval o X.env) = eval o X.env := by kernel_rfl)
    (hfew : ((backTo pos (starEach (e :: es) X.env)).all (fun x => !x.1) && (backToKw pos (keywordEach [] X.env)).all (fun x => x.1.isSome) && decide ((e :: es).length + ([] : List Keyword).length + (if ([] : List Keyword).isEmpty then 0 else 1) < 30)) = true := by kernel_rfl) (hline : (apos.endLine == pos.line) = true := by kernel_rfl)
    (hs : starEach (e :: es) X.env = (false, eval e X.env) :: starEach es X.env := by kernel_rfl) (hplain : (backTo pos (starEach es X.env)).any (·.1) = false := by kernel_rfl) :
    JE X C sub E (.Call (.Attribute o "extend" apos) (e :: es) [] pos) (.meth .extend x xs) := ⟨j_meth (by simp) PySem.F.slot_list_extend PySem.F.type_list_extend me_extend ho.h ha.h hbase hfew hline hs hplain⟩
theorem jpo (ho : JE X C sub E o x) (hbase : attributeBase o "pop" X.env (eval o X.env) = eval o X.env := by kernel_rfl) (hline : (apos.endLine == pos.line) = true := by kernel_rfl) :
    JE X C sub E (.Call (.Attribute o "pop" apos) [] [] pos) (.meth .pop x []) := ⟨j_meth0 (by simp) PySem.F.slot_list_pop PySem.F.type_list_pop me_pop ho.h hbase hline⟩
theorem sx (m : CMono C C) (h : JE X C sub EX e x) (hs : swapsWith e none pos.line X.env = pure false := by kernel_rfl) : JS X C sub EX (.Expr e pos) (.ex x) := ⟨s_ex m h.h hs⟩
theorem sn {i : Nat} (m : CMono C C) (nd : X.N.Nodup) (he : JE X C sub EX e x) (hi : X.N[i]? = some n := by kernel_rfl) (hx : X.env.scope.names.lookup n = some .local := by kernel_rfl)
    (hs : swapsWithSole [.Name n p] e pos.line X.env = pure false := by kernel_rfl) (hw : swappedStores [.Name n p] e X.env = pure none := by kernel_rfl) (h1 : (assignEach [.Name n p] X.env).map (·.2) = [assign (.Name n p) X.env] := by kernel_rfl) : JS X C sub EX (.Assign [.Name n p] e pos) (.asg (.nm i) x) := ⟨s_asg m he.h (g_nm (pg_name nd hi (.inl hx) (.inr hx))) hs hw h1⟩
theorem gn {i : Nat} (nd : X.N.Nodup) (hi : X.N[i]? = some n := by kernel_rfl) (hx : X.env.scope.names.lookup n = some .local := by kernel_rfl) : JN X (.Name n p) i := ⟨pg_name nd hi (.inl hx) (.inr hx)⟩
theorem gc {i : Nat} {is : List Nat} (h1 : JN X e i) (h2 : JNs X es is) (hs : (assignEach (e :: es) X.env).map (·.2) = assign e X.env :: (assignEach es X.env).map (·.2) := by kernel_rfl) : JNs X (e :: es) (i :: is) := ⟨gs_cons h1.h h2.h hs⟩
theorem gt {is : List Nat} (h : JNs X es is) (hc : X.calm = true := by kernel_rfl) (hn : (assignEach es X.env).length = is.length := by kernel_rfl) (hst : (assignEach es X.env).findIdx? (·.1) = none := by kernel_rfl) : JG X C sub E (.Tuple es k pos) (.tp is) := ⟨g_tp hc h.h hn hst⟩
theorem gi (ho : JE X C sub E o x) (hi : JE X C sub E a y)
    (ha : ∀ v, assign (.Subscript o a pos) X.env v = (do
      let ov ← holding [v] (eval o X.env)
      let iv ← holding [v, ov] (eval a X.env)
      standAt pos
      holding [v, ov, iv] (setItem ov iv v)
      release [v, ov, iv] []) := by intro _; rfl) : JG X C sub E (.Subscript o a pos) (.ix x y) := ⟨g_ix ho.h hi.h ha⟩
theorem sg {t : Tg} (m : CMono C C) (he : JE X C sub EX e x) (hg : JG X C sub EX tg t)
    (hs : swapsWithSole [tg] e pos.line X.env = pure false := by kernel_rfl) (hw : swappedStores [tg] e X.env = pure none := by kernel_rfl) (h1 : (assignEach [tg] X.env).map (·.2) = [assign tg X.env] := by kernel_rfl) : JS X C sub EX (.Assign [tg] e pos) (.asg t x) := ⟨s_asg m he.h hg.h hs hw h1⟩
theorem sw (m : CMono C C) (hc : JT X C sub EX c x) (hb : JSs X C sub EX ss sxs) (hp : PassesOwn (model X.prog X.w) X.A X.env X.xe := by exact PassesOwn.never) : JS X C sub EX (.While c ss [] pos) (.whl x sxs) := ⟨s_while m hp hc.h hb.h⟩
end
section
variable {X : Cx} {C : CallT} {sub : Nat → Nat → Bool} {E EX : XK} {a b c e o tg : Expr} {es rest : List Expr} {x y z : Ex} {xs : List Ex} {p p2 pos apos : Pos} {k : Nat} {n : Str} {s : Stmt} {ss as bs : List Stmt} {sx1 : Sx} {sxs ax bx : List Sx}
theorem an : JA X C sub E [] [] := ⟨j_nil⟩
theorem jl (hs : JA X C sub E es xs) : JE X C sub E (.List es pos) (.lst xs) := ⟨j_lst hs.h⟩
theorem jbi {op : BOp} (ha : JE X C sub E a x) (hb : JE X C sub E b y) : JE X C sub E (.BinOp a (bop op) b pos) (.bin op x y) := ⟨j_bin ha.h hb.h⟩
theorem jon {op : BoolOp} (ha : JE X C sub E a x) : JE X C sub E (.BoolOp op [a] pos) x := ⟨j_one ha.h⟩
theorem jan (ha : JE X C sub E a x) (hb : JE X C sub E (.BoolOp .And (b :: rest) pos) y) : JE X C sub E (.BoolOp .And (a :: b :: rest) pos) (.and_ x y) := ⟨j_and ha.h hb.h⟩
theorem on : JO X C sub E none [] := ⟨jo_none⟩
theorem os (h : JE X C sub E e x) : JO X C sub E (some e) [x] := ⟨jo_some h.h⟩
theorem jsl {lo hi : Option Expr} {xl xh : List Ex} (ha : JE X C sub E a x) (hl : JO X C sub E lo xl) (hh : JO X C sub E hi xh) : JE X C sub E (.Subscript a (.Slice lo hi none p2) pos) (.sl x xl xh) := ⟨j_sl ha.h hl.h hh.h⟩
theorem tno (h : JT X C sub E e x) : JT X C sub E (.UnaryOp .Not e pos) (.not_ x) := ⟨jt_not h.h⟩
theorem wpt (h : JW X C sub E e x) : JT X C sub E e x := ⟨h.h.pt⟩
theorem won {op : BoolOp} (h : JT X C sub E e x) : JW X C sub E (.BoolOp op [e] pos) x := ⟨jw_one h.h⟩
theorem wan (m : CMono C C) (ha : JT X C sub E a x) (hb : JW X C sub E (.BoolOp .And (b :: rest) pos) y) : JW X C sub E (.BoolOp .And (a :: b :: rest) pos) (.and_ x y) := ⟨jw_and m ha.h hb.h⟩
theorem wor (m : CMono C C) (ha : JT X C sub E a x) (hb : JW X C sub E (.BoolOp .Or (b :: rest) pos) y) : JW X C sub E (.BoolOp .Or (a :: b :: rest) pos) (.or_ x y) := ⟨jw_or m ha.h hb.h⟩
theorem iv (h : JE X C sub E e x) : JI X C sub E tg e none [x] := ⟨pi_val h.h⟩
theorem qn : JQ X C sub E [] [] := ⟨ts_nil⟩
theorem nn : JNs X [] [] := ⟨gs_nil⟩
theorem b1 (h : JN X tg 0) : JB X tg true 1 := ⟨h.h⟩
theorem c0 : JSs X C sub EX [] [] := ⟨s_nil⟩
theorem cc (h1 : JS X C sub EX s sx1) (h2 : JSs X C sub EX ss sxs) : JSs X C sub EX (s :: ss) (sx1 :: sxs) := ⟨s_cons h1.h h2.h⟩
theorem sif (m : CMono C C) (hc : JT X C sub EX c x) (ha : JSs X C sub EX as ax) (hb : JSs X C sub EX bs bx) : JS X C sub EX (.If c as bs pos) (.iff x ax bx) := ⟨s_if m hc.h ha.h hb.h⟩
theorem sre (m : CMono C C) (h : JE X C sub EX e x) : JS X C sub EX (.Return (some e) pos) (.ret x) := ⟨s_ret m h.h⟩
end
section
variable {X : Cx} {C : CallT} {sub : Nat → Nat → Bool} {elt iter tg : Expr} {ifs : List Expr} {xe : Ex} {xifs its : List Ex} {pos : Pos} {scope : Scope} {own cn : List Str} {caps : List Nat} {one : Bool} {k : Option IK}
theorem jco (m : CMono C C) (S : CompSc X scope cn caps) (hi : JI X C sub EF tg iter k its)
    (hg : ∀ fp s H Ca, JB (cxC X scope own cn fp s H Ca) tg one own.length)
    (hts : ∀ fp s H Ca, JQ (cxC X scope own cn fp s H Ca) C sub EF ifs xifs)
    (he : ∀ fp s H Ca, JE (cxC X scope own cn fp s H Ca) C sub EF elt xe) (hc : X.calm = true := by kernel_rfl) (hone : one = true → own.length = 1 := by decide)
    (hs : ∀ x, foldedSetIterable iter X.env x = pure x := by intro _; rfl) :
    JE X C sub EF (.ListComp elt [⟨tg, iter, ifs, 0⟩] scope pos) (.comp own.length caps (List.range own.length) one k its xifs xe) :=
  ⟨j_comp m S hc hone hi.h (fun a b c d => (hg a b c d).h) (fun a b c d => (hts a b c d).h) (fun a b c d => (he a b c d).h) hs⟩
end
noncomputable def isCF (k : Option NameKind) : Bool := k == some .cell || k == some .free
noncomputable def compB (names on : List (Str × NameKind)) (N cn : List Str) (caps : List Nat) : Bool :=
  names.all (fun y => !(y.2 == .cell) && (!(y.2 == .local) || names.lookup y.1 == some .local) && (!(y.2 == .free) || isCF (on.lookup y.1))) && (cn.length == caps.length) &&
    (cn.zip caps).all (fun p => names.lookup p.1 == some .free && N[p.2]? == some p.1 && isCF (on.lookup p.1))
theorem isCF_of {k : Option NameKind} (h : isCF k = true) : k = some .cell ∨ k = some .free := by
  unfold isCF at h
  rw [Bool.or_eq_true] at h
  rcases h with h | h
  · exact .inl (by simpa using h)
  · exact .inr (by simpa using h)
theorem csc {X : Cx} {scope : Scope} {cn : List Str} {caps : List Nat} {on : List (Str × NameKind)} {N : List Str} (h : compB scope.names on N cn caps = true) (hE : X.env.scope.names = on := by kernel_rfl) (hN : X.N = N := by kernel_rfl) (hk : scope.kind = .function := by kernel_rfl) : CompSc X scope cn caps := by
  unfold compB at h
  rw [Bool.and_eq_true, Bool.and_eq_true] at h
  obtain ⟨⟨h1, h2⟩, h3⟩ := h
  have h1 := List.all_eq_true.mp h1
  have hl : cn.length = caps.length := by simpa using h2
  refine ⟨hk, fun y hy => ?_, fun y hy e => ?_, fun y hy e => ?_, hl, fun j y e => ?_⟩
  · have := h1 y hy
    simp only [Bool.and_eq_true] at this
    intro z; rw [z] at this; simp at this
  · have := h1 y hy
    simp only [Bool.and_eq_true, Bool.or_eq_true] at this
    rcases this.1.2 with q | q
    · rw [e] at q; simp at q
    · simpa using q
  · have := h1 y hy
    simp only [Bool.and_eq_true, Bool.or_eq_true] at this
    rcases this.2 with q | q
    · rw [e] at q; simp at q
    · show X.env.scope.names.lookup y.1 = _ ∨ X.env.scope.names.lookup y.1 = _
      rw [hE]; exact isCF_of q
  · obtain ⟨hj, ej⟩ := List.getElem?_eq_some_iff.mp e
    have hj' : j < caps.length := by omega
    have hm : (y, caps[j]) ∈ cn.zip caps := by
      rw [← ej]
      exact List.mem_iff_getElem.mpr ⟨j, by simp; omega, by simp⟩
    have := List.all_eq_true.mp h3 _ hm
    simp only [Bool.and_eq_true] at this
    refine ⟨by simpa using this.1.1, caps[j], List.getElem?_eq_getElem hj', by rw [hN]; simpa using this.1.2, ?_⟩
    show X.env.scope.names.lookup y = _ ∨ X.env.scope.names.lookup y = _
    rw [hE]; exact isCF_of this.2
end L3
namespace L3
theorem un180 {k : Nat} {A : PySem.Around} (hr : L2.Room k A) : A.units + 180 < PySem.cLine := by have := hr.un; omega
end L3
end
section
namespace PySem
open Sem (wp)
section
variable {prog : Program} {w : World} {A : Around} {s : Shared} {R : Result → Shared → Prop} {I : Addr} {fp wr : List Addr} {n : Nat} {P : Nat → Value → Prop} {St : Nat → Heap → Prop}
end
section
variable {prog : Program} {w : World} {A : Around} {E : Value → Shared → Prop} {s : Shared} {I : Addr} {fp wr : List Addr} {n : Nat} {P : Nat → Value → Prop} {St : Nat → Heap → Prop}
end
end PySem
end
section
namespace PySem
namespace F
end F
section
variable {prog : Program} {w : World}
end
end PySem
end
section
namespace PySem
open PyProof.Rows
namespace F
end F
end PySem
end
section
namespace PySem
open PyProof.Rows
section
variable {prog : Program} {w : World} {A : Around} {E : Value → Shared → Prop} {s : Shared}
end
end PySem
end
section
namespace PySem
open PyProof.Rows
section
variable {prog : Program} {w : World} {A : Around} {E : Value → Shared → Prop} {s : Shared}
end
section
variable {prog : Program} {w : World} {A : Around} {E : Value → Shared → Prop} {s : Shared}
end
end PySem
end
section
namespace L3
open PySem PySem.Spec PyProof.Rows L2
section
variable {X : Cx} {C : CallT} {sub : Nat → Nat → Bool} {E : XK} {a b c e o tg : Expr} {es : List Expr} {x y z : Ex} {xs : List Ex} {p p2 pos pos2 : Pos} {kk : IK}
end
end L3
end
section
namespace L3
open PySem PySem.Spec PyProof.Rows L2
theorem gc_int {K : PySem.W.Frag} {h : Heap} {mg : Str → Option Value} (X : K.In h) (G : h.Ns mainGlobals mg) {n : Str} {i : Int} {t : Tok} (a : PySem.W.nsIn K mainGlobals n = some (some (.int i t))) : GC K mg n (.int i) := ⟨_, .int i, PySem.W.mg_of X G a, ⟨t, rfl⟩, fun _ => .int i⟩
theorem gc_str {K : PySem.W.Frag} {h : Heap} {mg : Str → Option Value} (X : K.In h) (G : h.Ns mainGlobals mg) {n : Str} {x : Str} {w : List Nat} {t : Tok} (a : PySem.W.nsIn K mainGlobals n = some (some (.str x t))) (e : x = ⟨w.toArray⟩) : GC K mg n (.str w) := ⟨_, .str x, PySem.W.mg_of X G a, ⟨t, rfl⟩, fun _ => by rw [e]; exact .str w⟩
noncomputable def flat1 : D → Value → Bool
  | .non, .none => true
  | .bl b, .bool c => b == c
  | .int i, .int j _ => i == j
  | .str w, .str x _ => w == x.cps.toList
  | _, _ => false
noncomputable def flats : List D → List Value → Bool
  | [], [] => true
  | d :: ds, u :: us => flat1 d u && flats ds us
  | _, _ => false
noncomputable def vOf : D → V
  | .bl b => .bl b
  | .int i => .int i
  | .str w => .str ⟨w.toArray⟩
  | _ => .non
set_option tactic.hygienic true in
theorem flat1_ok {K : PySem.W.Frag} {H : Hp} {d : D} {u : Value} (h : flat1 d u = true) : L2.RelV (vOf d) u ∧ Rep K H d (vOf d) := by
  unfold flat1 at h
  split at h
  · exact ⟨rfl, .non⟩
  · exact ⟨by rw [eq_of_beq h]; rfl, .bl _⟩
  · exact ⟨⟨_, by rw [eq_of_beq h]⟩, .int _⟩
  · rename_i w x t
    exact ⟨⟨t, by rw [eq_of_beq h]⟩, .str w⟩
  · cases h
theorem flats_ok {K : PySem.W.Frag} {H : Hp} : ∀ {ds : List D} {us : List Value}, flats ds us = true → Vals (ds.map vOf) us ∧ Reps K H ds (ds.map vOf)
  | [], [], _ => ⟨.nil, .nil⟩
  | d :: ds, u :: us, h => by
    simp only [flats, Bool.and_eq_true] at h
    have r := flat1_ok (K := K) (H := H) h.1
    have s := flats_ok (K := K) (H := H) h.2
    exact ⟨.cons r.1 s.1, .cons r.2 s.2⟩
  | [], _ :: _, h => by cases h
  | _ :: _, [], h => by cases h
theorem gc_tup {K : PySem.W.Frag} {h : Heap} {mg : Str → Option Value} (X : K.In h) (G : h.Ns mainGlobals mg) {n : Str} {ds : List D} {p : Addr} {its : Array Value} {k : Nat} {sl : Array (Option Value)} (a : PySem.W.nsIn K mainGlobals n = some (some (.ref p)))
    (l : K.lookup p = some ⟨.type "tuple", none, .seq its k, sl⟩) (f : flats ds its.toList = true) (z : Nat.ble its.size 1000 = true) : GC K mg n (.tup ds) := by
  refine ⟨_, .ref p, PySem.W.mg_of X G a, rfl, fun H => ?_⟩
  have s := flats_ok (K := K) (H := H) f
  exact .tup (.inr ⟨_, its, k, l, rfl, rfl, rfl, Nat.le_of_lt (small1000 (Nat.le_of_ble_eq_true z)), s.1⟩) s.2
end L3
end
section
namespace L3
open PySem PySem.Spec PyProof.Rows L2
section
variable {X : Cx} {tg : Expr}
variable {C : CallT} {sub : Nat → Nat → Bool} {E : XK} {a b c : Expr} {x y z : Ex} {p pos : Pos}
end
end L3
end
section
namespace L3
open PySem PySem.Spec PyProof.Rows L2
noncomputable def toP : D → PyData
  | .bl b => .bool b
  | .int i => .int i
  | .str w => .str ⟨w.toArray⟩
  | _ => .none
noncomputable def okV : D → Bool
  | .non => true
  | .bl _ => true
  | .int _ => true
  | .str _ => true
  | _ => false
noncomputable def tabT : List D → List D → List (Str × PyData)
  | .str w :: ks, v :: vs => (⟨w.toArray⟩, toP v) :: tabT ks vs
  | _, _ => []
noncomputable def okT : List D → List D → Bool
  | [], [] => true
  | .str _ :: ks, v :: vs => okV v && okT ks vs
  | _, _ => false
theorem okV_ok {v : D} (h : okV v = true) : flatD (toP v) = v ∧ simpleD (toP v) = true := by
  cases v <;> first | exact ⟨rfl, rfl⟩ | cases h
theorem okT_ok : ∀ {ks vs : List D}, okT ks vs = true → ((tabT ks vs).all fun p => simpleD p.2) = true ∧ ks = (tabT ks vs).map (fun p => .str p.1.cps.toList) ∧ vs = (tabT ks vs).map (fun p => flatD p.2)
  | [], [], _ => ⟨rfl, rfl, rfl⟩
  | .str w :: ks, v :: vs, h => by
    simp only [okT, Bool.and_eq_true] at h
    obtain ⟨a, b, c⟩ := okT_ok h.2
    obtain ⟨d, e⟩ := okV_ok h.1
    refine ⟨?_, ?_, ?_⟩
    · simp only [tabT, List.all_cons, e, a, Bool.and_self]
    · simp only [tabT, List.map_cons]; rw [← b]
    · simp only [tabT, List.map_cons, d]; rw [← c]
  | [], _ :: _, h => by cases h
  | .str _ :: _, [], h => by cases h
  | .non :: _, _, h => by cases h
  | .bl _ :: _, _, h => by cases h
  | .int _ :: _, _, h => by cases h
  | .tup _ :: _, _, h => by cases h
  | .ref _ :: _, _, h => by cases h
  | .mdic _ _ :: _, _, h => by cases h
  | .mlst _ :: _, _, h => by cases h
  | .exc _ :: _, _, h => by cases h
theorem gc_dic {K : PySem.W.Frag} {h : Heap} {mg : Str → Option Value} (X : K.In h) (G : h.Ns mainGlobals mg) {n : Str} {ks vs : List D} {p : Addr} {es : Array DictEntry} {ep : Nat} (a : PySem.W.nsIn K mainGlobals n = some (some (.ref p)))
    (l : K.lookup p = some ⟨.type "dict", none, .dict es ep, #[]⟩) (f : (KTD.rowsLook KTD.flatLooks es.toList (tabT ks vs) && okT ks vs && !(p == sysModules)) = true) : GC K mg n (.mdic ks vs) := by
  simp only [Bool.and_eq_true] at f
  obtain ⟨⟨f1, f2⟩, f3⟩ := f
  obtain ⟨a1, a2, a3⟩ := okT_ok f2
  refine ⟨_, .ref p, PySem.W.mg_of X G a, rfl, fun H => .mdic ⟨tabT ks vs, ?_, a1, a2, a3⟩⟩
  simp only [KTD.tabLook, l, f1, f3]
  rfl
end L3
end
section
namespace L3
open PySem PySem.Spec PyProof.Rows L2 PySem.SeqAt
end L3
end
section
namespace L3
open PySem PySem.Spec PyProof.Rows L2 PySem.SeqAt
section
variable {X : Cx}
end
section
variable {X : Cx} {C : CallT} {sub : Nat → Nat → Bool} {E : XK} {e o : Expr} {x y : Ex} {pos apos cpos : Pos}
end
end L3
end
section
namespace L3
open PySem PySem.Spec PyProof.Rows L2 PySem.SeqAt
section
variable {prog : Program} {w : World} {A : Around} {R : Result → Shared → Prop} {I : Addr} {fp wr : List Addr} {G : Array GenState → Array GenState → Prop} {n : Nat} {P : Nat → Value → Prop} {St : Nat → Shared → Prop}
end
section
variable {prog : Program} {w : World} {A : Around} {E : Value → Shared → Prop} {s : Shared}
end
end L3
end
section
namespace L3
open PySem PySem.Spec PyProof.Rows L2 PySem.SeqAt
theorem str_beq (a b : List Nat) : ((⟨a.toArray⟩ : Str) == ⟨b.toArray⟩) = (a == b) := by
  by_cases h : a = b
  · subst h; simp
  · rw [beq_eq_false_iff_ne.mpr h]
    refine beq_eq_false_iff_ne.mpr fun e => h ?_
    have e1 : a.toArray = b.toArray := congrArg Str.cps e
    simpa using e1
section
variable {X : Cx} {C : CallT} {sub : Nat → Nat → Bool} {E : XK} {a : Expr} {x : Ex} {p p2 pos pos2 : Pos}
end
end L3
end
section
namespace L3
open PySem PySem.Spec PyProof.Rows L2
theorem CallOk.inC {X : Cx} {C : CallT} {n : Str} {i : Nat} {scope : Scope} {own cn : List Str} {fp : List Addr} {s : Shared} {H : Hp} {Ca : Addr} (h : CallOk X C n i) : CallOk (cxC X scope own cn fp s H Ca) C n i := let ⟨a, b⟩ := h; ⟨a, b⟩
end L3
end
section
namespace L3
open PySem PySem.Spec PyProof.Rows L2
section
variable {K : PySem.W.Frag} {H : Hp}
theorem str_inj {a b : List Nat} (h : (⟨a.toArray⟩ : Str) = ⟨b.toArray⟩) : a = b := by
  have : a.toArray = b.toArray := congrArg Str.cps h
  simpa using this
theorem FldsR.get {f : List Nat} {d : D} : ∀ {fs : List (List Nat × D)} {ws : List (Str × V)}, FldsR K H fs ws → fldG fs f = some d → ∃ v, ws.lookup (⟨f.toArray⟩ : Str) = some v ∧ Rep K H d v
  | [], _, _, h => by cases h
  | (g, e) :: fs, [], r, _ => by cases r.1
  | (g, e) :: fs, (g', v) :: ws, r, h => by
    obtain ⟨r1, r2⟩ := r
    simp only [List.map_cons, List.cons.injEq] at r1
    cases r2 with
    | cons rd rs =>
      simp only [fldG] at h
      by_cases q : g = f
      · rw [if_pos q] at h; cases h
        refine ⟨v, ?_, rd⟩
        simp [List.lookup, r1.1, q]
      · rw [if_neg q] at h
        obtain ⟨v', e1, e2⟩ := FldsR.get (fs := fs) (ws := ws) ⟨r1.2, rs⟩ h
        refine ⟨v', ?_, e2⟩
        have : ((⟨f.toArray⟩ : Str) == g') = false := beq_eq_false_iff_ne.mpr fun z => q (str_inj (by rw [z]; exact r1.1.symm))
        simp only [List.lookup, this]
        exact e1
theorem FldsR.no {f : List Nat} : ∀ {fs : List (List Nat × D)} {ws : List (Str × V)}, FldsR K H fs ws → fldG fs f = none → ws.lookup (⟨f.toArray⟩ : Str) = none
  | [], [], _, _ => rfl
  | [], _ :: _, r, _ => by cases r.1
  | (g, e) :: fs, [], r, _ => by cases r.1
  | (g, e) :: fs, (g', v) :: ws, r, h => by
    obtain ⟨r1, r2⟩ := r
    simp only [List.map_cons, List.cons.injEq] at r1
    cases r2 with
    | cons rd rs =>
      simp only [fldG] at h
      by_cases q : g = f
      · rw [if_pos q] at h; cases h
      · rw [if_neg q] at h
        have : ((⟨f.toArray⟩ : Str) == g') = false := beq_eq_false_iff_ne.mpr fun z => q (str_inj (by rw [z]; exact r1.1.symm))
        simp only [List.lookup, this]
        exact FldsR.no (fs := fs) (ws := ws) ⟨r1.2, rs⟩ h
theorem FldsR.put {f : List Nat} {d : D} {v : V} (rd : Rep K H d v) : ∀ {fs : List (List Nat × D)} {ws : List (Str × V)}, FldsR K H fs ws → FldsR K H (fldP f d fs) (putF ⟨f.toArray⟩ v ws)
  | [], [], _ => ⟨rfl, .cons rd .nil⟩
  | [], _ :: _, r => by cases r.1
  | (g, e) :: fs, [], r => by cases r.1
  | (g, e) :: fs, (g', v') :: ws, r => by
    obtain ⟨r1, r2⟩ := r
    simp only [List.map_cons, List.cons.injEq] at r1
    cases r2 with
    | cons rd' rs =>
      by_cases q : g = f
      · have q' : g' = (⟨f.toArray⟩ : Str) := by rw [r1.1, q]
        simp only [fldP, putF, if_pos q, if_pos q']
        exact ⟨by simp [r1.1, r1.2], .cons rd rs⟩
      · have q' : ¬ g' = (⟨f.toArray⟩ : Str) := fun z => q (str_inj (r1.1.symm.trans z))
        simp only [fldP, putF, if_neg q, if_neg q']
        have ih := FldsR.put (f := f) rd (fs := fs) (ws := ws) ⟨r1.2, rs⟩
        exact ⟨by simp [r1.1, ih.1], .cons rd' ih.2⟩
theorem FldsR.length {fs : List (List Nat × D)} {ws : List (Str × V)} (r : FldsR K H fs ws) : ws.length = fs.length := by
  have := congrArg List.length r.1
  simpa using this
end
theorem insAt_inv {st : Store} {a : Nat} {P : List Nat → List (List Nat × D) → Prop} (h : insAt st a P) : ∃ c fs, st a = some (.ins c fs) ∧ P c fs := by
  unfold insAt at h
  split at h
  · exact ⟨_, _, by assumption, h⟩
  · exact h.elim
theorem fldW_inv {c f : List Nat} {x : D} {st : Store} {Q : VK} (h : fldW c f x st Q) : ∃ a fs d, x = .ref a ∧ st a = some (.ins c fs) ∧ fldG fs f = some d ∧ Q d st := by
  unfold fldW at h
  split at h
  · obtain ⟨c', fs, e, rfl, q⟩ := insAt_inv h
    obtain ⟨d, e1, q⟩ := optK_inv q
    exact ⟨_, fs, d, rfl, e, e1, q⟩
  · exact h.elim
theorem sfW_inv {c f : List Nat} {v x : D} {st : Store} {Q : Store → Prop} (h : sfW c f v x st Q) : ∃ a fs, x = .ref a ∧ st a = some (.ins c fs) ∧ fs.length < 900 ∧ Q (put st a (.ins c (fldP f v fs))) := by
  unfold sfW at h
  split at h
  · obtain ⟨c', fs, e, rfl, l, q⟩ := insAt_inv h
    exact ⟨_, fs, rfl, e, l, q⟩
  · exact h.elim
theorem metW_inv {c m : List Nat} {x : D} {st : Store} (h : metW c m x st) : ∃ a fs, x = .ref a ∧ st a = some (.ins c fs) ∧ fldG fs m = none := by
  unfold metW at h
  split at h
  · obtain ⟨c', fs, e, rfl, q⟩ := insAt_inv h
    exact ⟨_, fs, rfl, e, q⟩
  · exact h.elim
structure ClsOk (K : PySem.W.Frag) (c : List Nat) : Prop where
  h : ∃ C, clsAt K c C ∧ Cls K C
structure NoA (K : PySem.W.Frag) (c f : List Nat) : Prop where
  h : ∀ C, clsAt K c C → NoAttr K C ⟨f.toArray⟩
structure MethOk (X : Cx) (C : CallT) (c : List Nat) (n : Str) (fid : Nat) : Prop where
  h : ∃ k f fd ps C0, FnOk X.prog X.w X.K X.mg X.base CX0 k f fd ps (spOf X.K C fid) ∧ Room k X.A ∧ Binds X.K fd ps [] ∧ clsAt X.K c C0 ∧ Cls X.K C0 ∧ Meth X.K C0 n f
structure MakeOk (X : Cx) (C : CallT) (c : List Nat) (n : Str) (fid : Nat) : Prop where
  h : ∃ k f fd ps C0, FnOk X.prog X.w X.K X.mg X.base CX0 k f fd ps (spOf X.K C fid) ∧ Room (k + 1) X.A ∧ Binds X.K fd ps [] ∧ clsAt X.K c C0 ∧ X.mg n = some (.ref C0) ∧ Mk X.K C0 f
section
variable {X : Cx} {C : CallT} {sub : Nat → Nat → Bool} {E EX : XK} {a b e o value : Expr} {es : List Expr} {x y : Ex} {xs : List Ex} {p pos apos pos' : Pos} {n : Str} {c f : List Nat} {fid : Nat}
theorem j_fld (hn : n = ⟨f.toArray⟩) (hc : ClsOk X.K c) (hna : NoA X.K c f) (ho : PE X o (tOf X.K (wpE C sub E x))) (hb : attributeBase o n X.env (eval o X.env) = eval o X.env) : PE X (.Attribute o n pos) (tOf X.K (wpE C sub E (.fld c f x))) :=
  (pe_fld ho hb).imp fun σ H Q ⟨σd, st, R, r, ok, q, hq⟩ => by
    refine ⟨σd, st, _, r, ok, q, fun v H1 ⟨d, st1, s1, ok1, r1, q1⟩ => ?_⟩
    obtain ⟨a, fs, d', rfl, e, ed, q1⟩ := fldW_inv q1
    cases r1.ref_inv
    obtain ⟨C0, dx, ws, h1, h2, h3⟩ := ok1 a _ e
    obtain ⟨v, l, rv⟩ := FldsR.get h3 ed
    obtain ⟨C', c1, c2⟩ := hc.h
    have eC := c1.inj h1
    subst eC
    exact ⟨a, C', dx, ws, v, rfl, h2, c2, by rw [hn]; exact hna.h C' c1, by rw [hn]; exact l, hq _ _ (.after s1 (.here ok1 rv q1))⟩
theorem s_fld (hC : CMono C C) (hn : n = ⟨f.toArray⟩) (hc : ClsOk X.K c) (hna : NoA X.K c f) (ho : PE X o (tOf X.K (wpE C sub EX y))) (hv : PE X value (tOf X.K (wpE C sub EX x))) (hs : swapsWith value (some (.Attribute o n pos')) pos.line X.env = pure false) :
    PS X (.Assign [.Attribute o n pos'] value pos) (tsOf X.K EX (wpS C sub (.asg (.fl c f y) x))) :=
  (ps_fld ho hv hs).imp fun D σ H ⟨σd, st, P, r, ok, q, h⟩ => by
    refine ⟨σd, st, _, r, ok, toEF hC h.ex q, fun v H1 ⟨d, st1, s1, ok1, rd, q1⟩ => ?_⟩
    refine ⟨σd, st1, _, r.step ok s1, ok1, toEF hC h.ex q1, fun u H2 ⟨d2, st2, s2, ok2, r2, q2⟩ => ?_⟩
    obtain ⟨a, fs, rfl, e, l, q2⟩ := sfW_inv q2
    cases r2.ref_inv
    obtain ⟨C0, dx, ws, h1, h2, h3⟩ := ok2 a _ e
    obtain ⟨C', c1, c2⟩ := hc.h
    have eC := c1.inj h1
    subst eC
    have s3 : Step H2 st2 (upd H2 a (.ins C' dx (putF n v ws))) (put st2 a (.ins c (fldP f d fs))) := step_set e
    have rd2 := (rd.step ok1 s2).step ok2 s3
    have h3' : FldsR X.K (upd H2 a (.ins C' dx (putF n v ws))) fs ws := ⟨h3.1, h3.2.step ok2 s3⟩
    refine ⟨a, C', dx, ws, rfl, h2, c2, by rw [hn]; exact hna.h C' c1, by rw [h3.length]; omega, h.nx _ _ _ _ (((r.step ok s1).step ok1 s2).step ok2 s3) ((s1.trans s2).trans s3) (ok2.setO e ?_) q2⟩
    exact ⟨C', dx, _, c1, upd_same, by rw [hn] at *; exact FldsR.put rd2 h3'⟩
theorem j_mcl {k : Nat} {fa : Addr} {fd : FuncData} {ps : List Str} {C0 : Addr} {pl : Sem Bool} {m : List Nat} (hn : n = ⟨m.toArray⟩) (hcl : clsAt X.K c C0) (hC0 : Cls X.K C0) (hm : Meth X.K C0 n fa) (F : FnOk X.prog X.w X.K X.mg X.base CX0 k fa fd ps (spOf X.K C fid)) (hr : Room k X.A) (hb : Binds X.K fd ps [])
    (ho : PE X o (tOf X.K (wpE C sub E x))) (ha : PA X (e :: es) (taOf X.K (wpEs C sub E xs)))
    (hst : starEach (e :: es) X.env = (false, eval e X.env) :: starEach es X.env) (hpl : (backTo pos (starEach es X.env)).any (·.1) = false)
    (ht : eval (.Call (.Attribute o n apos) (e :: es) [] pos) X.env = (do
      let ov ← eval o X.env
      standAt apos.atName
      let (f, first) ← holding [ov] (getMethod ov n pl)
      callWith pos f first (backTo pos (starEach (e :: es) X.env)) (backToKw pos (keywordEach [] X.env)))) :
    PE X (.Call (.Attribute o n apos) (e :: es) [] pos) (tOf X.K (wpE C sub E (.mcl c m fid x xs))) :=
  (pe_meth (pl := pl) ho hC0 hm F hr hb .nil pass0 ha hst hpl ht).imp fun σ H Q ⟨σd, st, R, r, ok, q, hq⟩ => by
    refine ⟨σd, st, _, r, ok, q, fun v H1 ⟨d, st1, s1, ok1, r1, q1, q2⟩ => ?_⟩
    obtain ⟨a, fs, rfl, e0, l⟩ := metW_inv q1
    cases r1.ref_inv
    obtain ⟨C1, dx, ws, h1, h2, h3⟩ := ok1 a _ e0
    cases hcl.inj h1
    refine ⟨a, dx, ws, rfl, h2, by rw [hn]; exact FldsR.no h3 l, ?_⟩
    refine ⟨σd, st1, _, r.step ok s1, ok1, q2, fun vs H2 ⟨ds, st2, s2, ok2, r2, q3⟩ => ?_⟩
    show spOf X.K C fid (.ref a :: (vs ++ [])) H2 Q E0
    rw [List.append_nil]
    exact ⟨.ref a :: ds, st2, R, .cons (.ref a) r2, ok2, q3, fun v H' z => hq _ _ (.after (s1.trans s2) z)⟩
theorem j_mk {k : Nat} {fa : Addr} {fd : FuncData} {ps : List Str} {C0 : Addr} (hcl : clsAt X.K c C0) (hM : Mk X.K C0 fa) (F : FnOk X.prog X.w X.K X.mg X.base CX0 k fa fd ps (spOf X.K C fid)) (hr : Room (k + 1) X.A) (hg : Gl X n) (hmg : X.mg n = some (.ref C0)) (hb : Binds X.K fd ps [])
    (ha : PA X (e :: es) (taOf X.K (wpEs C sub E xs))) (hdb : (n == ("__debug__" : Str)) = false) (he : starEach (e :: es) X.env = (false, eval e X.env) :: starEach es X.env) (hpl : (backTo pos (starEach es X.env)).any (·.1) = false) :
    PE X (.Call (.Name n p) (e :: es) [] pos) (tOf X.K (wpE C sub E (.mk c fid xs))) :=
  (pe_make hM F hr hg hmg hb .nil pass0 ha hdb he hpl).imp fun σ H Q ⟨σd, st, R, r, ok, q, hq⟩ => by
    refine ⟨σd, st, _, r, ok, q, fun vs H1 ⟨ds, st1, s1, ok1, r1, q1⟩ => ?_⟩
    intro x dx hx hdx hne
    show spOf X.K C fid (.ref x :: (vs ++ [])) _ _ E0
    rw [List.append_nil]
    have ok2 : StOk X.K st1 (upd H1 dx (.own x)) := ok1.new hdx
    have s2 : Step H1 st1 (upd H1 dx (.own x)) st1 := step_new hdx
    have hx2 : upd H1 dx (.own x) x = none := by rw [upd_ne (Ne.symm hne)]; exact hx
    have s3 : Step (upd H1 dx (.own x)) st1 (upd (upd H1 dx (.own x)) x (.ins C0 dx [])) (put st1 x (.ins c [])) := step_newL hx2
    have ok3 : StOk X.K (put st1 x (.ins c [])) (upd (upd H1 dx (.own x)) x (.ins C0 dx [])) := ok2.newO hx2 ⟨C0, dx, [], hcl, upd_same, rfl, .nil⟩
    refine ⟨.ref x :: ds, put st1 x (.ins c []), _, .cons (.ref x) ((r1.step ok1 s2).step ok2 s3), ok3, q1 x (ok1.fresh hx), fun v H' ⟨d, st', s', ok', rd, ed, q'⟩ => ?_⟩
    subst ed
    exact ⟨rd.non_inv, hq _ _ (.after ((s1.trans s2).trans (s3.trans s')) (.here ok' (.ref x) q'))⟩
theorem jfl (c : List Nat) (hc : ClsOk X.K c) (hna : NoA X.K c f) (ho : JE X C sub E o x) (hn : n = ⟨f.toArray⟩ := by kernel_rfl) (hb : attributeBase o n X.env (eval o X.env) = eval o X.env := by kernel_rfl) : JE X C sub E (.Attribute o n pos) (.fld c f x) := ⟨j_fld hn hc hna ho.h hb⟩
theorem sfl (m : CMono C C) (c : List Nat) (hc : ClsOk X.K c) (hna : NoA X.K c f) (ho : JE X C sub EX o y) (hv : JE X C sub EX value x) (hn : n = ⟨f.toArray⟩ := by kernel_rfl) (hs : swapsWith value (some (.Attribute o n pos')) pos.line X.env = pure false := by kernel_rfl) :
    JS X C sub EX (.Assign [.Attribute o n pos'] value pos) (.asg (.fl c f y) x) := ⟨s_fld m hn hc hna ho.h hv.h hs⟩
theorem jmc {pl : Sem Bool} {mm : List Nat} (h : MethOk X C c n fid) (ho : JE X C sub E o x) (ha : JA X C sub E (e :: es) xs) (hn : n = ⟨mm.toArray⟩ := by kernel_rfl)
    (hst : starEach (e :: es) X.env = (false, eval e X.env) :: starEach es X.env := by kernel_rfl) (hpl : (backTo pos (starEach es X.env)).any (·.1) = false := by kernel_rfl)
    (ht : eval (.Call (.Attribute o n apos) (e :: es) [] pos) X.env = (do
      let ov ← eval o X.env
      standAt apos.atName
      let (f, first) ← holding [ov] (getMethod ov n pl)
      callWith pos f first (backTo pos (starEach (e :: es) X.env)) (backToKw pos (keywordEach [] X.env))) := by rfl) :
    JE X C sub E (.Call (.Attribute o n apos) (e :: es) [] pos) (.mcl c mm fid x xs) := ⟨let ⟨k, f, fd, ps, C0, h1, h2, h3, h4, h5, h6⟩ := h.h; j_mcl hn h4 h5 h6 h1 h2 h3 ho.h ha.h hst hpl ht⟩
theorem jmk (h : MakeOk X C c n fid) (ha : JA X C sub E (e :: es) xs) (hg : X.env.kindOf n = some .globalImplicit := by kernel_rfl) (hdb : (n == ("__debug__" : Str)) = false := by kernel_rfl) (he : starEach (e :: es) X.env = (false, eval e X.env) :: starEach es X.env := by kernel_rfl) (hpl : (backTo pos (starEach es X.env)).any (·.1) = false := by kernel_rfl) :
    JE X C sub E (.Call (.Name n p) (e :: es) [] pos) (.mk c fid xs) := ⟨let ⟨k, f, fd, ps, C0, h1, h2, h3, h4, h5, h6⟩ := h.h; j_mk h4 h6 h1 h2 hg h5 h3 ha.h hdb he hpl⟩
end
end L3
end
section
namespace L3
open PySem PySem.Spec PyProof.Rows L2
section
variable {X : Cx} {pins : List (Addr × Obj)} {σ : L2.St} {H : Hp} {s : Shared} {st : Store}
end
section
variable {X : Cx} {C : CallT} {sub : Nat → Nat → Bool} {E EX : XK} {a b e o i value : Expr} {x y z : Ex} {p pos apos pos' : Pos}
end
end L3
end
section
namespace L3
open PySem PySem.Spec PyProof.Rows L2
theorem fn_ok2 {P : Program} {w : World} {K : PySem.W.Frag} {mg : Str → Option Value} {base : Heap} {G : Prog} {r k f : Nat} {fn : Fn} {x qual : Str} {st : Stmt} {a : Addr} {fd : FuncData} {N ps : List Str} (F : Fun K x qual st a fd) (S : FnScope N ps (defScope st))
    (hG : G.fns f = some fn) (hp : fn.np = ps.length) (hl : fn.nl = N.length)
    (hb : ∀ (cdv : Value) (A : Around) (outer : List Env) (s : Shared) (H : Hp) (E : L2.XK), Room r (A.deeper (envOfC qual (defScope st) s.heap.objs.size a cdv)) →
      JSs (cxOf CX0 P w K mg base N qual (defScope st) a cdv A outer s H E).nox (wpFn G k) G.sub EF (defBody st) fn.body) :
    FnOk P w K mg base CX0 (r + 1) a fd ps (spOf K (wpFn G (k + 1)) f) := by
  refine F.ok S (fun vs H Q E h => ?_) (fun cdv A outer s H vs Q E hr h => ?_)
  · obtain ⟨ds, st', R, r, _, h, _⟩ := h
    simp only [wpFn, hG] at h
    rw [← r.length, h.1, hp]
  · obtain ⟨ds, st', R, r, ok, h, hq⟩ := h
    simp only [wpFn, hG] at h
    refine ⟨_, (hb cdv A outer s H E hr).h, ?_⟩
    refine ⟨start fn.np fn.nl ds, st', _, ?_, ok, h.2, ⟨fun σ' H' σd' st'' sr s' ok' q => ?_, fun v H' z => hq v H' z, fun _ _ _ _ _ _ _ q => q, fun _ _ _ _ _ _ _ q => q, fun _ _ _ q => q⟩⟩
    · rw [hl]; exact start_rel r h.1
    · exact hq _ _ ⟨.non, st'', s', ok', .non, q⟩
noncomputable def clsRow (s : Stmt) (j : Nat) : Stmt := match s with
  | .ClassDef _ _ _ body .. => body.getD j (.Pass ⟨0, 0, 0, 0⟩)
  | _ => .Pass ⟨0, 0, 0, 0⟩
inductive At where
  | top
  | meth (c : List Nat)
  | init (c : List Nat)
noncomputable def AtOk (K : PySem.W.Frag) (mg : Str → Option Value) (n : Str) (a : Addr) : At → Prop
  | .top => mg n = some (.ref a)
  | .meth c => ∃ C0, clsAt K c C0 ∧ Cls K C0 ∧ Meth K C0 n a
  | .init c => ∃ C0, clsAt K c C0 ∧ mg ⟨c.toArray⟩ = some (.ref C0) ∧ Mk K C0 a
structure Top2 (K : PySem.W.Frag) (mg : Str → Option Value) (nf : Nat) (nm qn : Nat → Str) (ps : Nat → List Str) (st : Nat → Stmt) (at_ : Nat → At) where
  a : Nat → Addr
  fd : Nat → FuncData
  fn : ∀ i, i < nf → Fun K (nm i) (qn i) (st i) (a i) (fd i)
  bi : ∀ i, i < nf → Binds K (fd i) (ps i) []
  mg : ∀ i, i < nf → AtOk K mg (nm i) (a i) (at_ i)
noncomputable def BindEq2 (n q : Str) (ps : List Str) (st : Stmt) : Prop := ∀ (kV doc pm : Value) (an : Option Addr) (cdv ct : Value) (us : List Value), us.length = ps.length → bindArgs (PySem.W.fnOf n q (defArgs st) (defBody st) (defScope st) .none kV doc pm an cdv ct) ⟨us, []⟩ = pure (ps.zip us)
noncomputable def FTop2 (K : PySem.W.Frag) (mg : Str → Option Value) (n q : Str) (st : Stmt) (at_ : At) : Prop := ∃ a fd, Fun K n q st a fd ∧ AtOk K mg n a at_
theorem ftop2 {K : PySem.W.Frag} {h : Heap} {mg : Str → Option Value} (X : K.In h) (G : h.Ns mainGlobals mg) {n : Str} {st : Stmt} {f : Addr} {oc : Value} {od an : Option Addr} {sl : Array (Option Value)} {kV dc pm cd ct : Value}
    (a : PySem.W.nsIn K mainGlobals n = some (some (.ref f))) (l : K.lookup f = some ⟨oc, od, .func (PySem.W.fnOf n n (defArgs st) (defBody st) (defScope st) .none kV dc pm an cd ct), sl⟩) (c : PySem.W.codeIn K cd n = true) (k : PySem.W.keepIn K (.ref f) = true) : FTop2 K mg n n st .top :=
  ⟨f, _, fun_mk l c k, PySem.W.mg_of X G a⟩
theorem fmeth {K : PySem.W.Frag} {h : Heap} {mg : Str → Option Value} (X : K.In h) (G : h.Ns mainGlobals mg) {n q : Str} {c : List Nat} {C : Addr} {st : Stmt} {f : Addr} {oc : Value} {od an : Option Addr} {sl : Array (Option Value)} {kV dc pm cd ct : Value}
    (cl : PySem.W.nsIn K mainGlobals ⟨c.toArray⟩ = some (some (.ref C))) (pg : PySem.W.plainGet K C Str.empty = true) (hd : PySem.W.hasDictIn K C = true) (po : PySem.W.plainOver K C = true) (sa : PySem.W.findIn K (.ref C) "__setattr__" = some (some (.builtin "object.__setattr__")))
    (a : PySem.W.findIn K (.ref C) n = some (some (.ref f))) (fn : PySem.W.isFn K (.ref f) = true)
    (l : K.lookup f = some ⟨oc, od, .func (PySem.W.fnOf n q (defArgs st) (defBody st) (defScope st) .none kV dc pm an cd ct), sl⟩) (cc : PySem.W.codeIn K cd q = true) (k : PySem.W.keepIn K (.ref f) = true) : FTop2 K mg n q st (.meth c) :=
  ⟨f, _, fun_mk l cc k, C, cl, ⟨pg, hd, po, sa⟩, ⟨a, fn, k⟩⟩
theorem finit {K : PySem.W.Frag} {h : Heap} {mg : Str → Option Value} (X : K.In h) (G : h.Ns mainGlobals mg) {q : Str} {c : List Nat} {C : Addr} {st : Stmt} {f : Addr} {oc : Value} {od an : Option Addr} {sl : Array (Option Value)} {kV dc pm cd ct : Value}
    (cl : PySem.W.nsIn K mainGlobals ⟨c.toArray⟩ = some (some (.ref C))) (mk : PySem.W.makesIn K C = true) (kp : PySem.W.keepIn K (.ref C) = true)
    (a : PySem.W.findIn K (.ref C) "__init__" = some (some (.ref f))) (fn : PySem.W.isFn K (.ref f) = true)
    (l : K.lookup f = some ⟨oc, od, .func (PySem.W.fnOf "__init__" q (defArgs st) (defBody st) (defScope st) .none kV dc pm an cd ct), sl⟩) (cc : PySem.W.codeIn K cd q = true) (k : PySem.W.keepIn K (.ref f) = true) : FTop2 K mg "__init__" q st (.init c) :=
  ⟨f, _, fun_mk l cc k, C, cl, PySem.W.mg_of X G cl, ⟨mk, a, fn, kp⟩⟩
theorem cls_ok {K : PySem.W.Frag} {c : List Nat} {C : Addr} (cl : PySem.W.nsIn K mainGlobals ⟨c.toArray⟩ = some (some (.ref C))) (pg : PySem.W.plainGet K C Str.empty = true) (hd : PySem.W.hasDictIn K C = true) (po : PySem.W.plainOver K C = true) (sa : PySem.W.findIn K (.ref C) "__setattr__" = some (some (.builtin "object.__setattr__"))) : ClsOk K c := ⟨C, cl, pg, hd, po, sa⟩
theorem noa_ok {K : PySem.W.Frag} {c f : List Nat} {C : Addr} (cl : PySem.W.nsIn K mainGlobals ⟨c.toArray⟩ = some (some (.ref C))) (na : PySem.W.findIn K (.ref C) ⟨f.toArray⟩ = some none) : NoA K c f := ⟨fun C' h => by cases clsAt.inj h cl; exact na⟩
theorem top_of2 {K : PySem.W.Frag} {mg : Str → Option Value} {nm qn : Nat → Str} {ps : Nat → List Str} {st : Nat → Stmt} {at_ : Nat → At} : ∀ (nf : Nat), (∀ i, i < nf → BindEq2 (nm i) (qn i) (ps i) (st i)) → (∀ i, i < nf → FTop2 K mg (nm i) (qn i) (st i) (at_ i)) → FuncData → Nonempty (Top2 K mg nf nm qn ps st at_)
  | 0, _, _, d => ⟨⟨fun _ => 0, fun _ => d, fun i h => absurd h (by omega), fun i h => absurd h (by omega), fun i h => absurd h (by omega)⟩⟩
  | nf + 1, B, H, d => by
    obtain ⟨T⟩ := top_of2 nf (fun i h => B i (by omega)) (fun i h => H i (by omega)) d
    obtain ⟨a, fd, hF, hm⟩ := H nf (by omega)
    refine ⟨⟨fun i => if i = nf then a else T.a i, fun i => if i = nf then fd else T.fd i, fun i h => ?_, fun i h => ?_, fun i h => ?_⟩⟩
    · by_cases e : i = nf
      · subst e; simpa using hF
      · simpa only [if_neg e] using T.fn i (by omega)
    · by_cases e : i = nf
      · subst e; simpa using hF.binds (B i (by omega))
      · simpa only [if_neg e] using T.bi i (by omega)
    · by_cases e : i = nf
      · subst e; simpa using hm
      · simpa only [if_neg e] using T.mg i (by omega)
theorem binds_one2 {K : PySem.W.Frag} {n q x : Str} {st : Stmt} {a : Addr} {fd : FuncData} (F : Fun K n q st a fd) (h : BindEq2 n q [x] st) (s : Shared) (u : Value) : BindsTo s fd ⟨[u], []⟩ [(x, u)] := by
  obtain ⟨oc, od, kV, doc, pm, an, cdv, ct, osl, rfl, lk, hcd⟩ := F.ex
  exact .of_eq (h kV doc pm an cdv ct [u] rfl)
end L3
end
section
namespace L3
open PySem PySem.Spec PyProof.Rows L2
section
variable {K : PySem.W.Frag} {H1 : Hp} {st1 : Store} {a b : Addr} {xs ys : List D}
end
section
variable {X : Cx} {C : CallT} {sub : Nat → Nat → Bool} {a b : Expr} {x y : Ex} {p pos : Pos} {elts : List Expr} {x1 : Nat} {tp : Pos}
end
end L3
end
section
namespace L3
open PySem PySem.Spec PyProof.Rows L2
section
variable {K : PySem.W.Frag} {H1 : Hp} {st1 : Store} {a b : Addr} {xs ys : List D}
end
section
variable {X : Cx} {C : CallT} {sub : Nat → Nat → Bool} {a b : Expr} {x y : Ex} {p pos : Pos} {elts : List Expr} {x1 : Nat} {tp : Pos}
end
end L3
end
section
namespace L3
open PySem PySem.Spec PyProof.Rows L2
section
variable {X : Cx} {C : CallT} {sub : Nat → Nat → Bool} {E : XK} {a b : Expr} {x y : Ex} {p pos tp : Pos} {elts : List Expr} {x1 : Nat}
end
end L3
end
section
namespace L3
open PySem PySem.Spec PyProof.Rows L2
section
variable {X : Cx} {C : CallT} {sub : Nat → Nat → Bool} {E : XK} {k v : Expr} {x y : Ex} {pos : Pos}
end
end L3
end
section
namespace L3
section
variable {C : CallT} {sub : Nat → Nat → Bool} {E : XK} {σ : St} {st : Store} {Q : VK} {QQ : List D → Store → Prop} {QB : Bool → Store → Prop} {P : Post} {e a b c : Ex} {es : List Ex} {i : Nat} {d : D} {M : St → Store → Prop}
theorem e_c : wpE C sub E (.c d) σ st Q = Q d st := rfl
theorem e_v : wpE C sub E (.v i) σ st Q = getV σ i fun d => Q d st := rfl
theorem e_tup : wpE C sub E (.tup es) σ st Q = wpEs C sub E es σ st fun ds st' => Q (.tup ds) st' := rfl
theorem e_lst : wpE C sub E (.lst es) σ st Q = wpEs C sub E es σ st fun ds st' => newL ds st' Q := rfl
theorem e_bin {op : BOp} : wpE C sub E (.bin op a b) σ st Q = wpE C sub E a σ st fun x st1 => wpE C sub E b σ st1 fun y st2 => binW op x y st2 Q := rfl
theorem e_neg : wpE C sub E (.neg a) σ st Q = wpE C sub E a σ st fun x st1 => negW x st1 Q := rfl
theorem e_cmp {op : COp} : wpE C sub E (.cmp op a b) σ st Q = wpE C sub E a σ st fun x st1 => wpE C sub E b σ st1 fun y st2 => cmpW op x y st2 fun k => Q (.bl k) st2 := rfl
theorem e_chain {op op' : COp} : wpE C sub E (.chain op op' a b c) σ st Q = wpE C sub E a σ st fun x st1 => wpE C sub E b σ st1 fun y st2 => cmpW op x y st2 fun k =>
      if k = true then wpE C sub E c σ st2 fun z st3 => cmpW op' y z st3 fun k => Q (.bl k) st3 else Q (.bl false) st2 := rfl
theorem e_and : wpE C sub E (.and_ a b) σ st Q = wpE C sub E a σ st fun x st1 => truW x st1 fun k => if k = true then wpE C sub E b σ st1 Q else Q x st1 := rfl
theorem e_or : wpE C sub E (.or_ a b) σ st Q = wpE C sub E a σ st fun x st1 => truW x st1 fun k => if k = true then Q x st1 else wpE C sub E b σ st1 Q := rfl
theorem e_not : wpE C sub E (.not_ a) σ st Q = wpE C sub E a σ st fun x st1 => truW x st1 fun k => Q (.bl (!k)) st1 := rfl
theorem e_ite : wpE C sub E (.ite c a b) σ st Q = wpE C sub E c σ st fun x st1 => truW x st1 fun k => if k = true then wpE C sub E a σ st1 Q else wpE C sub E b σ st1 Q := rfl
theorem e_call {f : Nat} : wpE C sub E (.call f es) σ st Q = wpEs C sub E es σ st fun ds st' => C f ds st' Q (fun _ _ => False) := rfl
theorem e_callx {f : Nat} : wpE C sub E (.callx f es) σ st Q = wpEs C sub E es σ st fun ds st' => C f ds st' Q E := rfl
theorem e_bi {f : BI} : wpE C sub E (.bi f es) σ st Q = wpEs C sub E es σ st fun ds st' => biW f ds st' Q := rfl
theorem e_isi {ts : List Ty} : wpE C sub E (.isi a ts) σ st Q = wpE C sub E a σ st fun x st1 => isiW sub x st1 ts fun k => Q (.bl k) st1 := rfl
theorem e_meth {m : MT} : wpE C sub E (.meth m a es) σ st Q = wpE C sub E a σ st fun x st1 => rcvW m x st1 ∧ wpEs C sub E es σ st1 fun ds st2 => methW m x ds st2 Q := rfl
theorem e_ix : wpE C sub E (.ix a b) σ st Q = wpE C sub E a σ st fun x st1 => wpE C sub E b σ st1 fun y st2 => ixW x y st2 Q := rfl
theorem e_sl {lo hi : List Ex} : wpE C sub E (.sl a lo hi) σ st Q = wpE C sub E a σ st fun x st1 => wpEs C sub E lo σ st1 fun ls st2 => partW ls fun l => wpEs C sub E hi σ st2 fun hs st3 => partW hs fun h => slW x l h st3 Q := rfl
theorem e_bit {f : BI} {k : IK} : wpE C sub E (.bit f k es) σ st Q = wpEs C sub E es σ st fun ds st1 => itrW (some k) ds st1 fun _ xs => itemsW f xs st1 Q := rfl
theorem e_comp {n : Nat} {caps tg : List Nat} {one : Bool} {k : Option IK} {its ifs : List Ex} : wpE C sub E (.comp n caps tg one k its ifs e) σ st Q = wpEs C sub E its σ st fun ds st1 => itrW k ds st1 fun as xs =>
      compW (same as st1) (fun x st2 K => bindT one tg x (List.replicate n none ++ caps.map fun i => (σ[i]?).getD none) fun σ' =>
        wpTs C sub E ifs σ' st2 fun b st3 => if b = true then wpE C sub E e σ' st3 fun d st4 => K (some d) st4 else K none st3) xs [] st1 fun ds st5 => newL ds st5 Q := rfl
theorem es_nil : wpEs C sub E [] σ st QQ = QQ [] st := rfl
theorem es_cons : wpEs C sub E (e :: es) σ st QQ = wpE C sub E e σ st fun d st' => wpEs C sub E es σ st' fun ds st'' => QQ (d :: ds) st'' := rfl
theorem t_nil : wpTs C sub E [] σ st QB = QB true st := rfl
theorem t_cons : wpTs C sub E (e :: es) σ st QB = wpE C sub E e σ st fun d st' => truW d st' fun k => if k = true then wpTs C sub E es σ st' QB else QB false st' := rfl
theorem s_raisW {c : Nat} : wpS C sub (.rais c es) P σ st = wpEs C sub (fun c st' => P.ex c σ st') es σ st fun _ st' => P.ex c σ st' := rfl
theorem s_exW : wpS C sub (.ex e) P σ st = wpE C sub (fun c st' => P.ex c σ st') e σ st fun _ st' => P.nx σ st' := rfl
theorem s_asgW {t : Tg} : wpS C sub (.asg t e) P σ st = wpE C sub (fun c st' => P.ex c σ st') e σ st fun d st' => tgW C sub (fun c st' => P.ex c σ st') t d σ st' P.nx := rfl
theorem s_augW {op : BOp} : wpS C sub (.aug i op e) P σ st = getV σ i fun x => wpE C sub (fun c st' => P.ex c σ st') e σ st fun y st' => notRef x ∧ binW op x y st' fun d st'' => P.nx (σ.set i (some d)) st'' := rfl
theorem s_iffW {x y : List Sx} : wpS C sub (.iff e x y) P σ st = wpE C sub (fun c st' => P.ex c σ st') e σ st fun d st' => truW d st' fun k => if k = true then wpSs C sub x P σ st' else wpSs C sub y P σ st' := rfl
theorem s_forW {t : Tg} {k : Option IK} {b : List Sx} : wpS C sub (.forr t k es b) P σ st = wpEs C sub (fun c st' => P.ex c σ st') es σ st fun ds st1 => itrW k ds st1 fun as xs => forW (same as st1) (fun x next σ st => tgW C sub (fun c st' => P.ex c σ st') t x σ st fun σ' st' => wpSs C sub b { P with nx := next, ct := next, bk := P.nx } σ' st') P.nx xs σ st1 := rfl
theorem s_retW : wpS C sub (.ret e) P σ st = wpE C sub (fun c st' => P.ex c σ st') e σ st P.rt := rfl
theorem s_brkW : wpS C sub .brk P σ st = P.bk σ st := rfl
theorem s_cntW : wpS C sub .cnt P σ st = P.ct σ st := rfl
theorem s_passW : wpS C sub .pass P σ st = P.nx σ st := rfl
theorem tg_nm : tgW C sub E (.nm i) d σ st M = M (σ.set i (some d)) st := rfl
theorem tg_tp {is : List Nat} : tgW C sub E (.tp is) d σ st M = bindT false is d σ fun σ' => M σ' st := rfl
theorem tg_ix : tgW C sub E (.ix a b) d σ st M = wpE C sub E a σ st fun x st1 => wpE C sub E b σ st1 fun y st2 => setW x y d st2 fun st3 => M σ st3 := rfl
theorem tg_fl {c f : List Nat} : tgW C sub E (.fl c f a) d σ st M = wpE C sub E a σ st fun x st1 => sfW c f d x st1 fun st2 => M σ st2 := rfl
theorem tg_dk : tgW C sub E (.dk a b) d σ st M = wpE C sub E a σ st fun x st1 => wpE C sub E b σ st1 fun y st2 => sdW y d x st2 fun st3 => M σ st3 := rfl
theorem e_fld {c f : List Nat} : wpE C sub E (.fld c f a) σ st Q = wpE C sub E a σ st fun x st1 => fldW c f x st1 Q := rfl
theorem e_mk {c : List Nat} {f : Nat} : wpE C sub E (.mk c f es) σ st Q = wpEs C sub E es σ st fun ds st1 => ∀ p, st1 p = none → C f (.ref p :: ds) (put st1 p (.ins c [])) (fun d st2 => d = .non ∧ Q (.ref p) st2) (fun _ _ => False) := rfl
theorem e_mcl {c m : List Nat} {f : Nat} : wpE C sub E (.mcl c m f a es) σ st Q = wpE C sub E a σ st fun x st1 => metW c m x st1 ∧ wpEs C sub E es σ st1 fun ds st2 => C f (x :: ds) st2 Q (fun _ _ => False) := rfl
theorem e_mclx {c m : List Nat} {f : Nat} : wpE C sub E (.mclx c m f a es) σ st Q = wpE C sub E a σ st fun x st1 => metW c m x st1 ∧ wpEs C sub E es σ st1 fun ds st2 => C f (x :: ds) st2 Q E := rfl
theorem e_dnew : wpE C sub E .dnew σ st Q = ∀ p, st p = none → Q (.ref p) (put st p (.tab [] [])) := rfl
theorem e_din {neg : Bool} : wpE C sub E (.din neg a b) σ st Q = wpE C sub E a σ st fun x st1 => wpE C sub E b σ st1 fun y st2 => dinW x y st2 fun k => Q (.bl (if neg = true then !k else k)) st2 := rfl
theorem e_dix : wpE C sub E (.dix a b) σ st Q = wpE C sub E a σ st fun y st1 => wpE C sub E b σ st1 fun x st2 => dixW x y st2 Q := rfl
theorem fld_at {c f : List Nat} {p : Nat} {fs : List (List Nat × D)} (h : st p = some (.ins c fs)) {x : D} (hx : fldG fs f = some x) : fldW c f (.ref p) st Q = Q x st := by
  simp only [fldW, insAt, h, hx, optK, true_and]
theorem sf_at {c f : List Nat} {p : Nat} {fs : List (List Nat × D)} {R : Store → Prop} (h : st p = some (.ins c fs)) (hl : fs.length < 900) : sfW c f d (.ref p) st R = R (put st p (.ins c (fldP f d fs))) := by
  simp only [sfW, insAt, h, hl, true_and]
theorem met_at {c m : List Nat} {p : Nat} {fs : List (List Nat × D)} (h : st p = some (.ins c fs)) (hm : fldG fs m = none) : metW c m (.ref p) st = True := by
  simp only [metW, insAt, h, hm, and_self]
end
section
variable {d : D} {r : St} {R : D → Prop} {o0 o1 o2 o3 o4 o5 o6 o7 o8 o9 o10 o11 o12 : Option D}
theorem gv_0 : getV (some d :: r) 0 R = R d := rfl
theorem gv_1 : getV (o0 :: some d :: r) 1 R = R d := rfl
theorem gv_2 : getV (o0 :: o1 :: some d :: r) 2 R = R d := rfl
theorem gv_3 : getV (o0 :: o1 :: o2 :: some d :: r) 3 R = R d := rfl
theorem gv_4 : getV (o0 :: o1 :: o2 :: o3 :: some d :: r) 4 R = R d := rfl
theorem gv_5 : getV (o0 :: o1 :: o2 :: o3 :: o4 :: some d :: r) 5 R = R d := rfl
theorem gv_6 : getV (o0 :: o1 :: o2 :: o3 :: o4 :: o5 :: some d :: r) 6 R = R d := rfl
theorem gv_7 : getV (o0 :: o1 :: o2 :: o3 :: o4 :: o5 :: o6 :: some d :: r) 7 R = R d := rfl
theorem gv_8 : getV (o0 :: o1 :: o2 :: o3 :: o4 :: o5 :: o6 :: o7 :: some d :: r) 8 R = R d := rfl
theorem gv_9 : getV (o0 :: o1 :: o2 :: o3 :: o4 :: o5 :: o6 :: o7 :: o8 :: some d :: r) 9 R = R d := rfl
theorem gv_10 : getV (o0 :: o1 :: o2 :: o3 :: o4 :: o5 :: o6 :: o7 :: o8 :: o9 :: some d :: r) 10 R = R d := rfl
theorem gv_11 : getV (o0 :: o1 :: o2 :: o3 :: o4 :: o5 :: o6 :: o7 :: o8 :: o9 :: o10 :: some d :: r) 11 R = R d := rfl
theorem gv_12 : getV (o0 :: o1 :: o2 :: o3 :: o4 :: o5 :: o6 :: o7 :: o8 :: o9 :: o10 :: o11 :: some d :: r) 12 R = R d := rfl
theorem gv_13 : getV (o0 :: o1 :: o2 :: o3 :: o4 :: o5 :: o6 :: o7 :: o8 :: o9 :: o10 :: o11 :: o12 :: some d :: r) 13 R = R d := rfl
end
end L3
end
section
namespace L3
open PySem PySem.Spec PyProof.Rows L2
noncomputable def Fly (h : Heap) (e T : Addr) (c fl : Value) : Prop :=
  ∃ oe vs oT ts, h.get? e = some oe ∧ oe.cls = c ∧ oe.dict = none ∧ oe.data = .fields vs ∧ vs[1]? = some (.ref T) ∧ T ≠ e ∧ h.get? T = some oT ∧ oT.data = .fields ts ∧ ts[3]? = some fl
structure But (fs ex : List Addr) (h h' : Heap) : Prop where
  keep : ∀ b o, h.get? b = some o → b ∉ fs → b ∉ ex → h'.get? b = some o
  slot : ∀ b o, h.get? b = some o → b ∉ ex → ∃ sl, h'.get? b = some { o with slots := sl }
section
variable {fs ex ex' : List Addr} {h h1 h2 : Heap}
theorem But.trans (a : But fs ex h h1) (b : But fs ex' h1 h2) : But fs (ex ++ ex') h h2 where
  keep := fun c o q n m => b.keep c o (a.keep c o q n fun z => m (List.mem_append_left _ z)) n fun z => m (List.mem_append_right _ z)
  slot := fun c o q m => by
    obtain ⟨s1, e1⟩ := a.slot c o q fun z => m (List.mem_append_left _ z)
    obtain ⟨s2, e2⟩ := b.slot c _ e1 fun z => m (List.mem_append_right _ z)
    exact ⟨s2, e2⟩
theorem But.more (a : But [] ex h h1) : But fs ex h h1 := ⟨fun c o q _ m => a.keep c o q (by simp) m, a.slot⟩
theorem But.old (a : But fs ex h h1) (k : ∀ b o, h2.get? b = some o → h.get? b = some o) (n : ∀ b ∈ ex, b ∈ ex' ∨ h2.get? b = none) : But fs ex' h2 h1 where
  keep := fun c o q m m' => a.keep c o (k c o q) m fun z => by
    rcases n c z with z | z
    · exact m' z
    · rw [z] at q; cases q
  slot := fun c o q m' => a.slot c o (k c o q) fun z => by
    rcases n c z with z | z
    · exact m' z
    · rw [z] at q; cases q
theorem But.funs {base : Heap} {l : List Env} (a : But fs ex h h1) (n : ∀ b ∈ ex, ∀ o, h.get? b = some o → ∃ vs, o.data = .fields vs) (f : h.FunFrames base l) : h1.FunFrames base l :=
  f.of_keeps fun b o q d => by
    obtain ⟨sl, e⟩ := a.slot b o q fun z => let ⟨vs, w⟩ := n b z o q; d vs w
    exact ⟨_, e, rfl⟩
theorem But.ok {P : Program} {w : World} {H : Hp} (a : But fs ex h h1) (x : HOk P w H h) (hf : ∀ b ∈ fs, H b = none) (hx : ∀ b ∈ ex, H b = none) : HOk P w H h1 := fun b o q =>
  (x b o q).stay (fun c u hc e => a.keep c u e
    (fun z => by
      have := hf c z
      rcases hc with rfl | hc
      · rw [this] at q; cases q
      · rw [this] at hc; cases hc)
    (fun z => by
      have := hx c z
      rcases hc with rfl | hc
      · rw [this] at q; cases q
      · rw [this] at hc; cases hc)) (fun _ z => z) fun _ _ z => z
end
theorem dict_map (o : Obj) (f : Array Value → Array Value) : (o.mapFields f).dict = o.dict := by unfold Obj.mapFields; split <;> rfl
section
variable {M : Model} {A : Around} {E : Value → Shared → Prop} {s : Shared} {base : Heap} {env : Env} {outer : List Env} {L e T : Addr} {c fl : Value} {Q : Unit → Shared → Prop}
theorem tb_new {oe : Obj} {vs : Array Value} {head : Value} {nx : Bool} (hfr : A.frames = some (env :: outer)) (hl : s.heap.FunFrames base (env :: outer)) (hf : env.frame = some L) (he : s.heap.get? e = some oe) (hn : oe.dict = none) (hd : oe.data = .fields vs) (hz : 1 < vs.size)
    (k : ∀ h' T, But (frs (env :: outer)) [e] s.heap h' → s.heap.get? T = none → Fly h' e T oe.cls (rawInt L) → Q () { s with heap := h' }) :
    wpAny M A (do let f ← frameOf env; let pl ← entryPlaceOf L nx; let t ← EntryCells.newEntry head f .none (rawInt L) .none pl; setField (.ref e) 1 t) Q E s := by
  have ne : e ∉ frs (env :: outer) := fun m => by
    obtain ⟨_, o, ho, hn⟩ := hl.mem m
    rw [he] at ho; cases ho
    exact hn vs hd
  refine wpAny_bind (wpAny_frameOf_fun hfr hl hf fun h1 z => wpAny_bind (wpAny_entryPlaceOf fun pl hp => ?_))
  unfold EntryCells.newEntry newFields
  refine wpAny_bind (wpAny_newObj_type ?_ (hp.sizeOk5 _ _ _ _ _))
  have e1 : h1.get? e = some oe := (z.2.1 e ne).trans he
  have te : h1.objs.size ≠ e := Nat.ne_of_gt (Heap.lt_size e1)
  refine wpAny_setField (Heap.get?_push_of_some _ e1) hd hz (k _ h1.objs.size ⟨fun b o q n m => ?_, fun b o q m => ?_⟩ ?_ ?_)
  · rw [Heap.get?_update_other _ _ (fun w => m (by simp [w]))]
    exact Heap.get?_push_of_some _ ((z.2.1 b n).trans q)
  · obtain ⟨sl, w⟩ := z.2.2 b o q
    refine ⟨sl, ?_⟩
    rw [Heap.get?_update_other _ _ (fun w => m (by simp [w]))]
    exact Heap.get?_push_of_some _ w
  · exact Heap.get?_none_of_le (by rw [z.1]; exact Nat.le_refl _)
  · refine ⟨_, _, _, _, Heap.get?_update_self _ (Heap.get?_push_of_some _ e1) (Obj.isFreed_of_fields (Obj.data_mapFields hd _)), Obj.cls_mapFields _ _, (dict_map _ _).trans hn, Obj.data_mapFields hd _, by simp [hz], te, (Heap.get?_update_other _ _ (Ne.symm te)).trans (Heap.get?_push_size h1 rfl), rfl, ?_⟩
    first
      | (simp; done)
      | (rcases hp with rfl | ⟨_, _, _, _, _, _, _, rfl⟩ <;> simp)
theorem note_new {oe : Obj} {vs : Array Value} (hfr : A.frames = some (env :: outer)) (hl : s.heap.FunFrames base (env :: outer)) (hf : env.frame = some L) (he : s.heap.get? e = some oe) (hn : oe.dict = none) (hd : oe.data = .fields vs) (h1 : vs[1]? = some .none)
    (k : ∀ h' T, But (frs (env :: outer)) [e] s.heap h' → s.heap.get? T = none → Fly h' e T oe.cls (rawInt L) → Q () { s with heap := h' }) : wpAny M A (noteFrame (.ref e) env) Q E s := by
  unfold noteFrame
  simp only [hf]
  refine wpAny_bind (wpAny_field he hd h1 ?_)
  rw [if_neg (by decide)]
  exact tb_new hfr hl hf he hn hd (Array.getElem?_eq_some_iff.mp h1).1 k
theorem note_on (hfr : A.frames = some (env :: outer)) (hl : s.heap.FunFrames base (env :: outer)) (hf : env.frame = some L) (f : Fly s.heap e T c .none)
    (k : ∀ h' T', But (frs (env :: outer)) [e, T] s.heap h' → s.heap.get? T' = none → Fly h' e T' c (rawInt L) → (∃ o ts, h'.get? T = some o ∧ o.data = .fields ts) → Q () { s with heap := h' }) : wpAny M A (noteFrame (.ref e) env) Q E s := by
  obtain ⟨oe, vs, oT, ts, he, rfl, hn, hd, h1, hTe, hT, hdT, h3⟩ := f
  unfold noteFrame
  simp only [hf]
  refine wpAny_bind (wpAny_field he hd h1 ?_)
  rw [if_pos (by simp)]
  refine wpAny_bind (wpAny_field hT hdT h3 ?_)
  rw [if_neg (by simp [rawInt])]
  refine wpAny_bind (wpAny_setField hT hdT (Array.getElem?_eq_some_iff.mp h3).1 ?_)
  have oth : ∀ b, b ≠ T → (s.heap.update T (Obj.mapFields (·.setIfInBounds 3 Value.none))).get? b = s.heap.get? b := fun b n => Heap.get?_update_other _ _ (Ne.symm n)
  have B : But (frs (env :: outer)) [T] s.heap (s.heap.update T (Obj.mapFields (·.setIfInBounds 3 Value.none))) := ⟨fun b o q _ m => (oth b (by simpa using m)).trans q, fun b o q m => ⟨o.slots, (oth b (by simpa using m)).trans q⟩⟩
  refine tb_new hfr (B.funs (fun b m o q => ?_) hl) hf ((oth e (Ne.symm hTe)).trans he) hn hd (Array.getElem?_eq_some_iff.mp h1).1 fun h' T' b' n' f' => k h' T' ((B.trans b').old (ex' := [e, T]) (fun _ _ q => q) fun b m => .inl ?_) ?_ f' ?_
  · simp only [List.mem_singleton] at m
    subst m
    rw [hT] at q; cases q
    exact ⟨ts, hdT⟩
  · simp only [List.mem_append, List.mem_singleton, List.mem_cons, List.not_mem_nil, or_false] at m ⊢
    exact m.symm
  · cases q : s.heap.get? T' with
    | none => rfl
    | some o =>
      obtain ⟨sl, w⟩ : ∃ o, (s.heap.update T (Obj.mapFields (·.setIfInBounds 3 Value.none))).get? T' = some o := by
        by_cases z : T' = T
        · subst z
          exact ⟨_, Heap.get?_update_self _ hT (Obj.isFreed_of_fields (Obj.data_mapFields hdT _))⟩
        · exact ⟨o, (oth T' z).trans q⟩
      have n' : (s.heap.update T (Obj.mapFields (·.setIfInBounds 3 Value.none))).get? T' = none := n'
      rw [w] at n'; cases n'
  · obtain ⟨sl, w⟩ := b'.slot T _ (Heap.get?_update_self _ hT (Obj.isFreed_of_fields (Obj.data_mapFields hdT _))) (by simpa using hTe)
    exact ⟨_, _, w, Obj.data_mapFields hdT _⟩
theorem flight (f : Fly s.heap e T c fl) (k : ∀ h', But [] [T] s.heap h' → Fly h' e T c .none → Q () { s with heap := h' }) : wpAny M A (setFlight (.ref e) none) Q E s := by
  obtain ⟨oe, vs, oT, ts, he, hc, hn, hd, h1, hTe, hT, hdT, h3⟩ := f
  have z3 : 3 < ts.size := (Array.getElem?_eq_some_iff.mp h3).1
  unfold setFlight
  refine wpAny_bind (wpAny_field he hd h1 ?_)
  rw [if_pos (by simp)]
  refine wpAny_setField hT hdT z3 (k _ ⟨fun b o q _ m => ?_, fun b o q m => ⟨o.slots, ?_⟩⟩ ⟨oe, vs, _, _, ?_, hc, hn, hd, h1, hTe, Heap.get?_update_self _ hT (Obj.isFreed_of_fields (Obj.data_mapFields hdT _)), Obj.data_mapFields hdT _, by simp [z3]⟩)
  · exact (Heap.get?_update_other _ _ (fun w => m (by simp [w]))).trans q
  · exact (Heap.get?_update_other _ _ (fun w => m (by simp [w]))).trans q
  · exact (Heap.get?_update_other _ _ hTe).trans he
end
end L3
end
section
namespace L3
open PySem PySem.Spec PyProof.Rows L2
structure ExC (K : PySem.W.Frag) (C : Addr) : Prop where
  ga : PySem.W.findIn K (.ref C) "__getattribute__" = some (some (.builtin "BaseException.__getattribute__"))
  gt : PySem.W.findIn K (.ref C) "__getattr__" = some none
  cl : PySem.W.findIn K (.ref C) "__class__" = some (some (.builtin "object.__class__"))
  ob : PySem.W.mroIn K C (.type "object") = some true
  be : PySem.W.mroIn K C (.type "BaseException") = some true
section
variable {prog : Program} {w : World} {A : Around} {E : Value → Shared → Prop} {K : PySem.W.Frag} {h : Heap} {g : Array GenState} {d : Drawn} {t : Nat} {os : OsState} {a C : Addr} {o : Obj}
theorem xc_entry {tk : Tok} {Q : Fin → Shared → Prop} (X : K.In h) (Z : ExC K C) (I : PySem.W.InstAt h a o C none) (q : Q (.done (.ret (.ref C))) ⟨h, g, d, t, os⟩) :
    wpAny (model prog w) A (Builtin.«object.__getattribute__» ⟨[.ref a, .str "__class__" tk], []⟩) Q E ⟨h, g, d, t, os⟩ := by
  have hx := I.at_
  have hc := I.cls
  have l1 := PySem.W.looks_findIn (M := model prog w) X Z.cl
  have f5 := F.typeOf_object_class
  have f6 := F.slot_gs_get.lookup
  have f7 := F.slot_gs_set.lookup
  repeat (any_goals (first | assumption | (with_reducible refine wpAny_loadPart_at hx ?_; rw [hc]) | with_reducible refine l1.at ?_ | wp_step))
  refine PySem.W.class_get (K := K) (s := ⟨h, g, d, t, os⟩) X I Z.ob ?_
  repeat (any_goals (first | assumption | wp_step))
theorem xc_check {v : Value} {Q : Unit → Shared → Prop} (X : K.In h) (Z : ExC K C) (I : PySem.W.InstAt h a o C none) (q : Q () ⟨h, g, d, t, os⟩) : wpAny (model prog w) A (checkBuiltinCall "BaseException.__getattribute__" ⟨[.ref a, v], []⟩) Q E ⟨h, g, d, t, os⟩ := by
  have hx := I.at_
  have hc := I.cls
  have l1 := PySem.W.looks_mroIn (M := model prog w) X Z.be
  have k1 : builtinKind "BaseException.__getattribute__" = some .slot := by decide +kernel
  have k2 : splitId "BaseException.__getattribute__" = some ("BaseException", "__getattribute__") := by decide +kernel
  have k3 := F.args_bexc_ga (.ref a) v
  simp only [checkBuiltinCall, k1, k2]
  refine wpAny_bind ?_
  unfold isInstance
  repeat (first | (with_reducible refine wpAny_loadPart_at hx ?_; rw [hc]) | with_reducible refine l1.at ?_ | wp_step)
  exact q
theorem xc_by {tk : Tok} {Q : Value → Shared → Prop} (X : K.In h) (Z : ExC K C) (I : PySem.W.InstAt h a o C none) (q : Q (.ref C) ⟨h, g, d, t, os⟩) : wpAny (model prog w) A (getAttrBy (.ref a) (.str "__class__" tk) false) Q E ⟨h, g, d, t, os⟩ := by
  have hx := I.at_
  have hc := I.cls
  have f3 := F.attr_ValueError.ga.bind (.ref a)
  have y1 : (Value.builtin "BaseException.__getattribute__" == Value.builtin "object.__getattribute__") = false := by decide +kernel
  have y2 : (onTheHeap (Value.ref C) && Value.builtin "BaseException.__getattribute__" == Value.builtin "object.__getattribute__") = false := by rw [y1]; rfl
  have l1 := PySem.W.looks_findIn (M := model prog w) X Z.ga
  have l2 := PySem.W.looks_findIn (M := model prog w) X Z.gt
  repeat (any_goals (first | assumption | (with_reducible refine wpAny_loadPart_at hx ?_; rw [hc]) | with_reducible refine l1.at ?_ | with_reducible refine l2.at ?_ | wp_step))
  refine codeAny_call_builtin F.attr_ValueError.ga.plain F.entry_bexc_ga (xc_check X Z I (xc_entry X Z I ?_))
  repeat (any_goals (first | assumption | wp_step))
theorem xc_attr {Q : Option Value → Shared → Prop} (X : K.In h) (Z : ExC K C) (I : PySem.W.InstAt h a o C none) (q : Q (some (.ref C)) ⟨h, g, d, t + 1, os⟩) : wpAny (model prog w) A (getAttr? (.ref a) "__class__") Q E ⟨h, g, d, t, os⟩ := by
  unfold getAttr? getAttrBy?
  repeat (any_goals (first | assumption | with_reducible apply xc_by X Z I | wp_step))
theorem xc_nested {c : Value} {b : Bool} {dep : Int} {tk : Tok} {Q : Fin → Shared → Prop} (X : K.In h) (Z : ExC K C) (I : PySem.W.InstAt h a o C none) (ty : PySem.W.Looks (model prog w) h (typeOf c) (.type "type")) (it : PySem.W.Looks (model prog w) h (isType c) true)
    (ic : PySem.W.Looks (model prog w) h (isType (.ref C)) true) (ne : (Value.ref C == c) = false) (su : PySem.W.Looks (model prog w) h (isSubtype (.ref C) c) b) (q : ∀ tk, Q (.done (.ret (.bool b))) ⟨h, g, d, tk, os⟩) :
    wpAny (model prog w) A (Builtin.«isinstance.nested» ⟨[.ref a, c, .int dep tk], []⟩) Q E ⟨h, g, d, t, os⟩ := by
  have l0 := I.type (M := model prog w)
  have li : PySem.W.Looks (model prog w) h (isInstance (.ref a) c) b := l0.andThen su
  unfold Builtin.«isinstance.nested»
  refine wpAny_bind (l0.at ?_)
  rw [if_neg (fun z => by rw [ne] at z; cases z)]
  refine wpAny_bind (ty.at ?_)
  rw [if_pos (by decide)]
  k_delta "plainIsInstance"
  refine wpAny_bind (wpAny_bind (it.at ?_))
  simp only [Bool.not_true, Bool.false_eq_true, if_false]
  refine wpAny_bind (li.at ?_)
  cases b with
  | true =>
    simp only [if_true]
    first
      | exact wpAny_pure (q _)
      | exact wpAny_pure (wpAny_pure (q _))
      | exact wpAny_bind (wpAny_pure (wpAny_pure (q _)))
  | false =>
    simp only [Bool.false_eq_true, if_false]
    refine wpAny_bind (xc_attr X Z I ?_)
    refine wpAny_bind (ic.at ?_)
    simp only [Bool.not_true, Bool.false_eq_true, if_false]
    refine wpAny_bind (wpAny_rule (su.at ?_))
    first
      | exact wpAny_pure (q _)
      | exact wpAny_pure (wpAny_pure (q _))
      | exact wpAny_bind (wpAny_pure (wpAny_pure (q _)))
theorem xc_isi {c : Value} {b : Bool} {Q : Value → Shared → Prop} {s : Shared} (X : K.In s.heap) (Z : ExC K C) (I : PySem.W.InstAt s.heap a o C none) (ty : ∀ M, PySem.W.Looks M s.heap (typeOf c) (.type "type")) (it : ∀ M, PySem.W.Looks M s.heap (isType c) true)
    (ic : ∀ M, PySem.W.Looks M s.heap (isType (.ref C)) true) (ne : (Value.ref C == c) = false) (su : ∀ M, PySem.W.Looks M s.heap (isSubtype (.ref C) c) b) (q : ∀ tk, Q (.bool b) { s with toks := tk }) :
    wpAny (model prog w) A (call (.builtin "isinstance") [.ref a, c]) Q E s :=
  call_isinstance (S := fun _ R s' => s' = s ∧ ∀ tk, R (.ok (.ret (.bool b))) { s with toks := tk })
    (fun _ _ _ _ s' hs => by
      obtain ⟨rfl, hs⟩ := hs
      obtain ⟨h, g, d, t, os⟩ := s'
      exact isinstance_outer (xc_nested (b := b) X Z I (ty _) (it _) (ic _) ne (su _) hs) (fun z => nomatch z)) ⟨rfl, q⟩
end
end L3
end
section
namespace L3
open PySem PySem.Spec PyProof.Rows L2
section
variable {prog : Program} {w : World} {A : Around} {E : Value → Shared → Prop} {s : Shared} {env : Env} {nm q : Str} {C N : Addr} {bs bm : List Value} {hdct : Bool} {sn : List Str} {sub : List Value} {ab : Bool} {col : Option Bool} {dd : Option Addr} {k0 k1 k2 k3 k5 : Option Value} {newId : String}
theorem catch_as {e : Addr} {t : Expr} {n : Str} {b0 : Stmt} {suite : List Stmt} {pos : Pos} {rest : List ExceptHandler} {Q : Flow → Shared → Prop} (hb : bm.contains (.type "BaseException") = true)
    (h : wpAny (model prog w) (A.mark (some (.ref e))) (eval t env) (fun c s1 => c = .ref C ∧ s1.heap.get? C = some (excClassObj nm q C N bs bm hdct sn sub ab col dd k0 k1 k2 k3 k5 newId) ∧ (∃ oe, s1.heap.get? e = some oe ∧ oe.cls = .ref C) ∧
      wpAny (model prog w) (A.mark (some (.ref e))) (setFlight (.ref e) none) (fun _ s2 => wpAny (model prog w) (A.mark (some (.ref e))) (storeName env n (.ref e)) (fun _ s3 =>
        wpAny (model prog w) (A.mark (some (.ref e))) (execs (b0 :: suite) env) (fun f s4 => wpAny (model prog w) A (do bindName env n .none; unbindBehindTheSuite env n pos) (fun _ s5 => Q f s5) E s4) (fun _ _ => False) s3) (fun _ _ => False) s2) (fun _ _ => False) s1) (fun _ _ => False) s) :
    wpAny (model prog w) A (handleBy (.ref e) env (.ExceptHandler (some t) (some n) (b0 :: suite) pos :: rest)) Q E s := by
  refine wpAny_handleBy_cons (codeAny_handlers_test (wpAny_mono h (fun c s1 h1 => ?_) fun _ _ z => z.elim)) (by intro z; cases z)
  obtain ⟨rfl, hC, ⟨oe, he, hc⟩, hk⟩ := h1
  obtain ⟨hh, g, d, tk, os⟩ := s1
  exact wpAny_excMatches_sub_self hC he hc hb (codeAny_handlers_suite_as (wpAny_mono hk (fun _ s2 h2 => wpAny_mono h2 (fun _ s3 h3 => wpAny_mono h3 (fun _ _ z => z) fun _ _ z => z.elim) fun _ _ z => z.elim) fun _ _ z => z.elim))
end
end L3
end
section
namespace L3
open PySem PySem.Spec PyProof.Rows L2
noncomputable def XcO (a : Addr) (c : Value) : HO := .ext fun _ _ h => ∃ o vs, h.get? a = some o ∧ o.cls = c ∧ o.dict = none ∧ o.data = .fields vs
noncomputable def FdO (a : Addr) : HO := .ext fun _ _ h => ∃ o vs, h.get? a = some o ∧ o.data = .fields vs
section
variable {P : Program} {w : World} {H H0 H1 : Hp} {h h0 h1 h2 : Heap} {a T : Addr} {o : HO} {c : Value} {fs ex : List Addr}
theorem _root_.L2.ObjOk.here (x : ObjOk P w H h a o) : ∃ u, h.get? a = some u := by
  cases o with
  | lst xs => obtain ⟨_, _, _, _, e⟩ := x; exact ⟨_, e⟩
  | tup xs => obtain ⟨_, _, _, _, e, _⟩ := x; exact ⟨_, e⟩
  | dK kvs => obtain ⟨_, _, _, _, o, _, _, e, _⟩ := x; exact ⟨_, e⟩
  | dT kvs => obtain ⟨_, _, _, _, o, _, _, e, _⟩ := x; exact ⟨_, e⟩
  | set S n => obtain ⟨o, _, _, _, e, _⟩ := x; exact ⟨_, e⟩
  | ins C dx fs => obtain ⟨_, _, _, e, _⟩ := x; exact ⟨_, e⟩
  | own y => exact x
  | xd fs => obtain ⟨_, ⟨_, _, _, e, _⟩, _⟩ := x; exact ⟨_, e⟩
  | rng lo hi => obtain ⟨_, _, _, e⟩ := x; exact ⟨_, e⟩
  | frz ob u => exact ⟨_, x.1⟩
  | tbl ps => exact ⟨_, x⟩
  | met f y => exact ⟨_, x⟩
  | ext φ => exact x.2.1
theorem _root_.L2.HOk.nothing (x : HOk P w H h) (n : h.get? a = none) : H a = none := by
  cases q : H a with
  | none => rfl
  | some u =>
    obtain ⟨v, e⟩ := (x a u q).here
    rw [n] at e; cases e
theorem _root_.L2.HOk.trk (x : HOk P w H h) (n : H a = none) (new : ObjOk P w (upd H a o) h a o) : HOk P w (upd H a o) h := fun b u e => by
  by_cases hb : b = a
  · subst hb; rw [upd_same] at e; cases e; exact new
  · rw [upd_ne hb] at e
    exact (x b u e).stay (fun _ _ _ q => q) (fun c q => by rw [upd_ne (ne_of_none q n)]; exact q) fun c xs q => by rw [upd_ne (ne_of_none q n)]; exact q
theorem xc_ok {oe : Obj} {vs : Array Value} (e : h.get? a = some oe) (e1 : oe.cls = c) (e2 : oe.dict = none) (e3 : oe.data = .fields vs) : ObjOk P w H h a (XcO a c) :=
  ⟨⟨oe, vs, e, e1, e2, e3⟩, ⟨oe, e⟩, fun h1 h2 ⟨o, vs, q, r⟩ k => ⟨o, vs, k o q, r⟩⟩
theorem fd_ok {oe : Obj} {vs : Array Value} (e : h.get? a = some oe) (e3 : oe.data = .fields vs) : ObjOk P w H h a (FdO a) :=
  ⟨⟨oe, vs, e, e3⟩, ⟨oe, e⟩, fun h1 h2 ⟨o, vs, q, r⟩ k => ⟨o, vs, k o q, r⟩⟩
theorem upd_ne' {b : Addr} {u o1 o2 : HO} (n1 : H1 a = none) (n2 : H1 T = none) (e : H1 b = some u) : upd (upd H1 a o1) T o2 b = H1 b := by rw [upd_ne (ne_of_none e n2), upd_ne (ne_of_none e n1)]
theorem un_two (u : Un fs [] H0 H1 h0 h1) (n1 : H1 a = none) (n2 : H1 T = none) (g1 : h0.get? a = none) (g2 : h0.get? T = none) {o1 o2 : HO} : Un fs [] H0 (upd (upd H1 a o1) T o2) h0 h1 where
  keep := u.keep
  slot := u.slot
  free := fun b o q n hx => by
    have e1 : b ≠ a := fun z => by rw [z, g1] at q; cases q
    have e2 : b ≠ T := fun z => by rw [z, g2] at q; cases q
    rw [upd_ne e2, upd_ne e1]; exact u.free b o q n hx
  there := u.there
  tups := fun b xs q => by have := u.tups b xs q; rw [upd_ne' n1 n2 this]; exact this
  frzs := fun b o v q => by have := u.frzs b o v q; rw [upd_ne' n1 n2 this]; exact this
  tbls := fun b ps q => by obtain ⟨m, e⟩ := u.tbls b ps q; exact ⟨m, by rw [upd_ne' n1 n2 e]; exact e⟩
theorem un_one (u : Un fs [] H0 H1 h0 h1) (n1 : H1 a = none) (g1 : h0.get? a = none) {o1 : HO} : Un fs [] H0 (upd H1 a o1) h0 h1 where
  keep := u.keep
  slot := u.slot
  free := fun b o q n hx => by
    have e1 : b ≠ a := fun z => by rw [z, g1] at q; cases q
    rw [upd_ne e1]; exact u.free b o q n hx
  there := u.there
  tups := fun b xs q => by have := u.tups b xs q; rw [upd_ne (ne_of_none this n1)]; exact this
  frzs := fun b o v q => by have := u.frzs b o v q; rw [upd_ne (ne_of_none this n1)]; exact this
  tbls := fun b ps q => by obtain ⟨m, e⟩ := u.tbls b ps q; exact ⟨m, by rw [upd_ne (ne_of_none e n1)]; exact e⟩
theorem un_leave {gs : List Addr} {L : Addr} (u : Un fs [] H0 H1 h0 h1) (b : But gs [] h1 h2) (hg : ∀ c ∈ gs, c = L ∨ c ∈ fs) (hL : h0.objs.size ≤ L) : Un fs [] H0 H1 h0 h2 where
  keep := fun c o q n hc hx => b.keep c o (u.keep c o q n hc hx) (fun z => by
    rcases hg c z with z | z
    · rw [z] at q; exact absurd (Heap.lt_size q) (Nat.not_lt.mpr hL)
    · exact hc z) (by simp)
  slot := fun c o q n hc hx => by
    obtain ⟨s1, e1⟩ := u.slot c o q n hc hx
    obtain ⟨s2, e2⟩ := b.slot c _ e1 (by simp)
    exact ⟨s2, e2⟩
  free := u.free
  there := fun c o q hx => by
    obtain ⟨o', e1⟩ := u.there c o q hx
    obtain ⟨s2, e2⟩ := b.slot c _ e1 (by simp)
    exact ⟨_, e2⟩
  tups := u.tups
  frzs := u.frzs
  tbls := u.tbls
end
noncomputable def CXE (P : Program) (w : World) (C : Addr) : CXT := fun outer H s E e s' => ∃ a T H', e = .ref a ∧ s'.os = s.os ∧ AllBare s'.gens ∧ Un (frs outer) [] H H' s.heap s'.heap ∧ HOk P w H' s'.heap ∧
  H' a = some (XcO a (.ref C)) ∧ H' T = some (FdO T) ∧ Fly s'.heap a T (.ref C) .none ∧ E (.ref C) (some a) H'
abbrev bmV : List Value := [.type "ValueError", .type "Exception", .type "BaseException", .type "object"]
structure ExA (K : PySem.W.Frag) (x : Str) (C : Addr) : Prop where
  ns : PySem.W.nsIn K mainGlobals x = some (some (.ref C))
  ex : PySem.W.excIn K C bmV "ValueError.__new__" = true
  xc : ExC K C
set_option tactic.hygienic true in
theorem ExA.own {K : PySem.W.Frag} {x : Str} {C : Addr} {h : Heap} {mg : Str → Option Value} (Z : ExA K x C) (X : K.In h) (G : h.Ns mainGlobals mg) : OwnCls x C bmV "ValueError.__new__" mg h := by
  have z := Z.ex
  refine ⟨PySem.W.mg_of X G Z.ns, ?_⟩
  unfold PySem.W.excIn at z
  split at z
  · rename_i dd cd sl look
    split at z
    · rename_i C' bm k0 k1 k2 k3 n k5 em es
      simp only [Bool.and_eq_true, beq_iff_eq, Bool.not_eq_true'] at z
      obtain ⟨⟨⟨⟨⟨rfl, rfl⟩, nodel⟩, tl⟩, okn⟩, ini⟩ := z
      obtain ⟨nm, bs, mro, ns, qn, hd, sn, sub, ab, col, del⟩ := cd
      dsimp only at em nodel okn ini
      subst em nodel
      have esl : sl = #[k0, k1, k2, k3, some (.builtin "ValueError.__new__"), k5] := by
        obtain ⟨l⟩ := sl
        simp only at es
        rw [es]
      subst esl
      exact ⟨bm, ns, nm, qn, bs, hd, sn, sub, ab, col, dd, k0, k1, k2, k3, k5, _, X _ _ look, .of_isNs (PySem.W.isNs_of_in X okn), PySem.W.nsMap_none_of_in X okn ini, PySem.W.tail_of_in X tl⟩
    · cases z
  · cases z
section
variable {P : Program} {w : World} {K : PySem.W.Frag} {mg : Str → Option Value} {base : Heap} {N : List Str} {qual : Str} {scope : Scope} {f C : Addr} {cd : Value} {A : Around} {outer : List Env} {s : Shared} {H : Hp} {E : L2.XK} {x : Str}
theorem ps_raise {np ap cp pos : Pos} {tx : Str} {j : Nat} (Z : ExA K x C) (hg : scope.names.lookup x = some .globalImplicit) (hd : (x == ("__debug__" : Str)) = false) :
    PS (cxOf (CXE P w C) P w K mg base N qual scope f cd A outer s H E) (.Raise (some (.Call (.Name x np) [.Constant (.str tx) j ap] [] cp)) none pos)
      (fun D σ H' => ∀ a T, H' a = none → H' T = none → a ≠ T → E (.ref C) (some a) (upd (upd H' a (XcO a (.ref C))) T (FdO T))) := by
  intro pins s1 σ H1 D I hE
  obtain ⟨hm, bm, Nn, nm, q, bs, hdct, sn, sub, ab, col, dd, k0, k1, k2, k3, k5, mN, hC, hN, hni, T⟩ := Z.own I.mod.kin I.mod.glob
  refine wpAny_Raise_call_subU (C := C) (nm := nm) (q := q) (N := Nn) (bs := bs) (hdct := hdct) (sn := sn) (sub := sub) (ab := ab) (col := col) (dd := dd) (k0 := k0) (k1 := k1) (k2 := k2) (k3 := k3) (k5 := k5) F.excBase_ValueError (by decide) F.excBase_ValueError (T.hasType (by decide)) (I.ok.hd rfl) rfl hni ?_
  refine ld_glob I hg hm ⟨rfl, ?_⟩ hd
  have h2 := (pa_cons (pe_str (x := tx) (j := j) (pos := ap)) pa_nil) cp pins s1 σ H1 (fun vs H' => vs.length = 1 ∧ H' = H1) I ⟨rfl, rfl⟩
  refine Calls.evalArgs_plain (thn h2 fun us s2 ⟨vs, H2, I2, r, hl, e2⟩ => ?_)
  subst e2
  refine ⟨rfl, ?_, I2.bk _ _ hC, hN.keeps I2.bk, T.keeps I2.bk, fun h' e hm => ?_⟩
  · have := r.length
    show us.length ≤ sizeLine
    rw [← this, hl]; decide
  obtain ⟨t, et, ht, htt⟩ := hm.there
  have hfr : (A.deeper (envOfC qual scope s.heap.objs.size f cd)).frames = some (envOfC qual scope s.heap.objs.size f cd :: outer) := I2.ok.frames
  have fun2 := I2.stack
  have funs' : h'.FunFrames base (envOfC qual scope s.heap.objs.size f cd :: outer) := fun2.of_keeps fun b o q _ => ⟨o, hm.keeps b o q, rfl⟩
  show wpAny (model P w) _ (leaving _ (.ref e)) _ _ _
  unfold leaving
  refine wpAny_bind (note_new (base := base) hfr funs' rfl et rfl rfl rfl fun h3 T b1 n1 f1 => flight f1 fun h4 b2 f2 => ?_)
  have n1 : h'.get? T = none := n1
  have b1 : But (frs (envOfC qual scope s.heap.objs.size f cd :: outer)) [e] h' h3 := b1
  have b2 : But [] [T] h3 h4 := b2
  have n2 : s2.heap.get? T = none := by
    cases z : s2.heap.get? T with
    | none => rfl
    | some u => rw [hm.keeps T u z] at n1; cases n1
  have B : But (frs (envOfC qual scope s.heap.objs.size f cd :: outer)) [] s2.heap h4 := (b1.trans b2.more).old hm.keeps fun b z => .inr (by
    simp only [List.mem_append, List.mem_singleton] at z
    rcases z with rfl | rfl
    · exact hm.new
    · exact n2)
  have hH1 : H2 e = none := I2.hok.nothing hm.new
  have hH2 : H2 T = none := I2.hok.nothing n2
  have hgs : ∀ c ∈ frs (envOfC qual scope s.heap.objs.size f cd :: outer), c = s.heap.objs.size ∨ c ∈ frs outer := fun c z => by
    unfold frs at z ⊢
    rw [List.filterMap_cons, show (envOfC qual scope s.heap.objs.size f cd).frame = some s.heap.objs.size from rfl] at z
    exact List.mem_cons.mp z
  have old : ∀ b, s2.heap.get? b = none → s.heap.get? b = none := fun b z => by
    cases q : s.heap.get? b with
    | none => rfl
    | some u =>
      obtain ⟨v, e⟩ := I2.base.there b u q (by show b ∉ ([] : List Addr); simp)
      rw [z] at e; cases e
  have u0 : Un (frs outer) [] H H2 s.heap s2.heap := I2.base
  have U := un_leave u0 B hgs (Nat.le_refl _)
  have K4 : HOk P w H2 h4 := B.ok I2.hok I2.stkFree (by simp)
  obtain ⟨oe, vs, oT, ts, he, hc, hn, hdd, h1, hTe, hT, hdT, h3'⟩ := f2
  have ne : e ≠ T := Ne.symm hTe
  refine ⟨e, T, upd (upd H2 e (XcO e (.ref C))) T (FdO T), rfl, I2.os, I2.bare, un_two U hH1 hH2 (old e hm.new) (old T n2), ?_, ?_, upd_same, ⟨oe, vs, oT, ts, he, hc, hn, hdd, h1, hTe, hT, hdT, h3'⟩, hE e T hH1 hH2 ne⟩
  · exact (K4.trk hH1 (xc_ok he hc hn hdd)).trk (by rw [upd_ne hTe]; exact hH2) (fd_ok hT hdT)
  · rw [upd_ne ne]; exact upd_same
end
end L3
end
section
namespace L3
open PySem PySem.Spec PyProof.Rows L2
structure IsQ (K : PySem.W.Frag) (C : Addr) (u : Value) (b : Bool) : Prop where
  ty : ∀ (M : Model) (h : Heap), K.In h → PySem.W.Looks M h (typeOf u) (.type "type")
  it : ∀ (M : Model) (h : Heap), K.In h → PySem.W.Looks M h (isType u) true
  su : ∀ (M : Model) (h : Heap), K.In h → PySem.W.Looks M h (isSubtype (.ref C) u) b
  ne : (Value.ref C == u) = false
set_option tactic.hygienic true in
theorem cls_it {K : PySem.W.Frag} {C : Addr} (e : (PySem.W.clsIn K C).isSome = true) {M : Model} {h : Heap} (X : K.In h) : PySem.W.Looks M h (isType (.ref C)) true := by
  unfold PySem.W.clsIn at e
  split at e
  · rename_i ho
    intro A Q E s k q
    unfold isType loadHead
    exact wpAny_bind (wpAny_loadPart (k _ _ (X _ _ ho)) (wpAny_pure q))
  · cases e
theorem isq_ref {K : PySem.W.Frag} {C C' : Addr} {b : Bool} (n : (PySem.W.clsIn K C').isSome = true) (t : PySem.W.typeIn K (.ref C') = some (.type "type")) (s : PySem.W.mroIn K C (.ref C') = some b) (ne : Nat.beq C C' = false) : IsQ K C (.ref C') b :=
  ⟨fun _ _ X => PySem.W.looks_typeIn X t, fun _ _ X => cls_it n X, fun _ _ X => PySem.W.looks_mroIn X s, Bool.eq_false_iff.mpr fun q => by
    rw [Value.ref.inj (beq_iff_eq.mp q)] at ne
    rw [Nat.beq_refl] at ne; cases ne⟩
theorem isq_val {K : PySem.W.Frag} {C : Addr} {b : Bool} (s : PySem.W.mroIn K C (.type "ValueError") = some b) : IsQ K C (.type "ValueError") b :=
  ⟨fun _ _ _ => PySem.W.Looks.of_pure (by kernel_rfl), fun _ _ _ => PySem.W.Looks.of_pure rfl, fun _ _ X => PySem.W.looks_mroIn X s, rfl⟩
section
variable {X : Cx} {C : Addr} {u : Value} {v : V} {b : Bool}
theorem call_xc (Z : ExC X.K C) (zc : (PySem.W.clsIn X.K C).isSome = true) (q : IsQ X.K C u b) (r : RelV v u) (ru : ∀ u', RelV v u' → u' = u) :
    CallR X (.builtin "isinstance") (fun vs H Q => ∃ a, vs = [.ref a, v] ∧ H a = some (XcO a (.ref C)) ∧ Q (.bl b) H) := by
  intro pins s σ H xs us Q I rv h
  obtain ⟨a, rfl, hH, hQ⟩ := h
  cases rv with
  | cons r1 rv =>
  cases rv with
  | cons r2 rv =>
  cases rv
  cases r1
  cases ru _ r2
  obtain ⟨⟨o, vs, e, e1, e2, e3⟩, _, _⟩ := I.hok a _ hH
  have inst : PySem.W.InstAt s.heap a o C none := ⟨e, e1, by unfold PySem.W.notCls; rw [e3], by rw [e2]; trivial⟩
  exact xc_isi I.kIn Z inst (fun M => q.ty M _ I.kIn) (fun M => q.it M _ I.kIn) (fun M => cls_it zc I.kIn) q.ne (fun M => q.su M _ I.kIn) fun tk => ⟨.bl b, H, I.tok tk, rfl, hQ⟩
end
section
variable {P : Program} {w : World} {H : Hp} {h h' : Heap} {fs ex : List Addr}
theorem un_but (B : But fs ex h h') (hx : ∀ b ∈ ex, H b ≠ none) (ht : ∀ b ∈ ex, ∃ o, h'.get? b = some o) : Un fs [] H H h h' where
  keep := fun b o q n hb _ => B.keep b o q hb fun z => hx b z n
  slot := fun b o q n _ _ => B.slot b o q fun z => hx b z n
  free := fun _ _ _ n _ => n
  there := fun b o q _ => by
    by_cases z : b ∈ ex
    · exact ht b z
    · obtain ⟨sl, e⟩ := B.slot b o q z; exact ⟨_, e⟩
  tups := fun _ _ q => q
  frzs := fun _ _ _ q => q
  tbls := fun _ ps q => ⟨#[], by rw [q]; simp⟩
theorem ok_but (x : HOk P w H h) (B : But fs ex h h') (hf : ∀ b ∈ fs, H b = none) (hx : ∀ b ∈ ex, ∃ φ, H b = some (.ext φ)) (hn : ∀ b ∈ ex, ∀ u, H b = some u → ObjOk P w H h' b u) : HOk P w H h' := fun b u e => by
  by_cases z : b ∈ ex
  · exact hn b z u e
  · refine (x b u e).stay (fun c v hc q => B.keep c v q (fun y => ?_) fun y => ?_) (fun _ q => q) fun _ _ q => q
    · have := hf c y
      rcases hc with rfl | hc
      · rw [this] at e; cases e
      · rw [this] at hc; cases hc
    · rcases hc with rfl | hc
      · exact z y
      · obtain ⟨φ, w⟩ := hx c y
        rw [hc] at w; cases w
end
noncomputable abbrev mk (X : Cx) (a : Addr) : Cx := { X with A := X.A.mark (some (.ref a)), calm := false, xe := fun _ _ => False }
theorem inv_mk {X : Cx} {pins : List (Addr × Obj)} {σ : L2.St} {H : Hp} {s : Shared} {a : Addr} (I : Inv X pins σ H s) : Inv (mk X a) pins σ H s :=
  ⟨⟨I.ok.mod, I.ok.kind, I.ok.glob, I.ok.blt, I.ok.above, I.ok.inj, I.ok.has, I.ok.cab, fun z => (nomatch z), I.ok.frames, I.ok.stk, I.ok.exf, I.ok.bs, I.ok.bsz, I.ok.noex, I.ok.exfs, I.ok.funs, I.ok.frf⟩, I.os, I.bare, I.base, I.loc, I.cell, I.free, I.freeC, I.pin, I.hok, I.len⟩
theorem inv_frame {X : Cx} {pins : List (Addr × Obj)} {σ : L2.St} {H : Hp} {s : Shared} {a : Addr} {h' : Heap} {m : Str → Option Value} {t : Nat} (ok : X.Ok) (I : Inv (mk X a) pins σ H s) (hn : h'.Ns X.env.locals m) (hs : Heap.SameBut X.env.locals s.heap h') :
    Inv X pins (List.replicate X.N.length none) H { s with heap := h', toks := t } := by
  have far : ∀ {b : Addr} {o : Obj}, X.s₀.heap.get? b = some o → b ≠ X.env.locals := fun e => Nat.ne_of_lt (Nat.lt_of_lt_of_le (Heap.lt_size e) ok.above)
  refine ⟨ok, I.os, I.bare, ⟨fun b o e n hb hx => (hs.2 b (far e)).trans (I.base.keep b o e n hb hx), fun b o e n hb hx => ?_, I.base.free, fun b o e hx => ?_, I.base.tups, I.base.frzs, I.base.tbls⟩, ⟨m, hn, fun i x v _ e _ => ?_⟩, fun y c e => ?_, I.free, I.freeC, fun p hp => ?_, fun b u e => ?_, by simp⟩
  · obtain ⟨sl, q⟩ := I.base.slot b o e n hb hx
    exact ⟨sl, (hs.2 b (far e)).trans q⟩
  · obtain ⟨o', q⟩ := I.base.there b o e hx
    exact ⟨o', (hs.2 b (far e)).trans q⟩
  · rw [List.getElem?_replicate] at e
    split at e <;> cases e
  · obtain ⟨v, z⟩ := I.cell y c e
    exact ⟨v, z.sameBut hs (I.cne y c e)⟩
  · obtain ⟨e, n, ne, nf, d⟩ := I.pin p hp
    exact ⟨(hs.2 p.1 ne).trans e, n, ne, nf, d⟩
  · have fr : H X.env.locals = none := I.free
    refine (I.hok b u e).stay (fun c v hc q => (hs.2 c fun z => ?_).trans q) (fun _ q => q) fun _ _ q => q
    rcases hc with rfl | hc
    · rw [z, fr] at e; cases e
    · rw [z, fr] at hc; cases hc
section
variable {X : Cx} {k i : Nat} {f C : Addr} {fd : FuncData} {ps : List Str} {sp : Sp} {n x ne : Str} {p cp xp np hp pos : Pos} {e0 : Expr} {es : List Expr} {t : TA} {b0 : Stmt} {suite : List Stmt} {tS : Addr → TS}
end
end L3
end
section
namespace L3
open PySem PySem.Spec PyProof.Rows L2
section
variable {X : Cx} {pins : List (Addr × Obj)} {σ : L2.St} {H : Hp} {s : Shared}
set_option tactic.hygienic true in
theorem strs_are {K : PySem.W.Frag} : ∀ {ds : List D} {ws : List (List Nat)} {vs : List V} {us : List Value}, strsOf ds = some ws → Reps K H ds vs → Vals vs us → StrsAre us (ws.map fun w => ⟨w.toArray⟩)
  | [], ws, vs, us, h, r, v => by
    cases h; cases r; cases v; exact .nil
  | d :: ds, ws, vs, us, h, r, v => by
    cases d <;> first | (simp only [strsOf] at h; cases h; done) | skip
    rename_i x
    simp only [strsOf, Option.map_eq_some_iff] at h
    obtain ⟨ws', h', rfl⟩ := h
    cases r with
    | cons r1 r2 =>
      cases r1.str_inv
      cases v with
      | cons v1 v2 =>
        obtain ⟨t, rfl⟩ := v1
        exact .cons _ t (strs_are h' r2 v2)
theorem join_txt (s : List Nat) : ∀ ws : List (List Nat), Str.join ⟨s.toArray⟩ (ws.map fun w => ⟨w.toArray⟩) = ⟨(joinS s ws).toArray⟩
  | [] => rfl
  | [w] => rfl
  | w :: v :: r => by
    have ih := join_txt s (v :: r)
    rw [List.map_cons] at ih
    rw [List.map_cons, List.map_cons]
    show (⟨w.toArray⟩ : Str) ++ ⟨s.toArray⟩ ++ Str.join ⟨s.toArray⟩ (⟨v.toArray⟩ :: r.map fun w => ⟨w.toArray⟩) = _
    rw [ih, str_app, str_app]
    rfl
theorem sum_len : ∀ ws : List (List Nat), ((ws.map fun w => (⟨w.toArray⟩ : Str)).map (·.length)).sum = (ws.map List.length).sum
  | [] => rfl
  | w :: r => by
    have := sum_len r
    simp only [List.map_cons, List.sum_cons, this]
    simp [Str.length]
set_option tactic.hygienic true in
theorem me_join : MeR X "str" "str.join" (methW .join) := by
  intro pins s σ H st d ds v vs u us R I ok r rv rs rvs q
  cases d <;> first | exact (show False from q).elim | skip
  rename_i sep
  match ds, q with
  | [d], q =>
    cases r.str_inv
    obtain ⟨t, rfl⟩ := rv
    obtain ⟨w, rfl, rd⟩ := rs.one
    have q : ownW d st fun ds => optK (strsOf ds) fun ws => (ws.map List.length).sum + ws.length * sep.length ≤ LINE ∧ R (.str (joinS sep ws)) st := q
    cases d <;> first | exact (show False from q).elim | skip
    · obtain ⟨b, ys, rfl, f, g⟩ := rd.tup_inv
      obtain ⟨uu, rfl, ru⟩ := rvs.one
      cases ru
      obtain ⟨ws, e, q1, q2⟩ := optK_inv (show optK _ _ from q)
      obtain ⟨its, r1, p1, _⟩ := I.tuple f
      refine join_tuple p1 (strs_are e g (by simpa using r1)) ?_ fun t' k => ?_
      · rw [sum_len, List.length_map]; simpa [Str.length] using q1
      · rw [show Txt.join (⟨sep.toArray⟩ : Str) _ = Str.join ⟨sep.toArray⟩ _ from StrLaws.glued_eq_join _ _, join_txt]
        exact ⟨.str _, H, I.tok _, ⟨_, rfl⟩, .here ok (.str _) q2⟩
    · cases rd.ref_inv
      obtain ⟨uu, rfl, ru⟩ := rvs.one
      cases ru
      obtain ⟨xs, e0, q⟩ := lstAt_inv (st := st) q
      obtain ⟨ws, e, q1, q2⟩ := optK_inv q
      obtain ⟨ys, g1, g2⟩ := ok.lst e0
      obtain ⟨z, its, n, r1, hl, eh⟩ := I.lstM g1
      refine join_list (items := its.toArray) ⟨_, eh, rfl, n, rfl⟩ (strs_are e g2 (by simpa using r1)) ?_ fun t' k => ?_
      · rw [sum_len, List.length_map]; simpa [Str.length] using q1
      · rw [show Txt.join (⟨sep.toArray⟩ : Str) _ = Str.join ⟨sep.toArray⟩ _ from StrLaws.glued_eq_join _ _, join_txt]
        exact ⟨.str _, H, I.tok _, ⟨_, rfl⟩, .here ok (.str _) q2⟩
  | [], q => exact (show False from q).elim
  | _ :: _ :: _, q => exact (show False from q).elim
theorem starts_eq (z w : List Nat) (i : Int) (h0 : 0 ≤ i) (h1 : i ≤ z.length) : Txt.startswith3 ⟨z.toArray⟩ ⟨w.toArray⟩ i = w.isPrefixOf (z.drop i.toNat) := by
  unfold Txt.startswith3 fromIndex
  rw [StrLaws.subAt_eq]
  have e : (max 0 (if i < 0 then i + ((⟨z.toArray⟩ : Str).length : Int) else i)).toNat = i.toNat := by rw [if_neg (by omega)]; omega
  rw [e]
  have l1 : (⟨z.toArray⟩ : Str).length = z.length := by simp [Str.length]
  have l2 : (⟨w.toArray⟩ : Str).length = w.length := by simp [Str.length]
  rw [l1, l2]
  show (decide (i.toNat + w.length ≤ z.length) && ((z.drop i.toNat).take w.length == w)) = _
  rw [Bool.eq_iff_iff]
  simp only [Bool.and_eq_true, decide_eq_true_eq, beq_iff_eq, List.isPrefixOf_iff_prefix]
  constructor
  · rintro ⟨_, h⟩
    exact ⟨(z.drop i.toNat).drop w.length, by have := List.take_append_drop w.length (z.drop i.toNat); rw [h] at this; exact this⟩
  · rintro ⟨t, h⟩
    refine ⟨?_, ?_⟩
    · have := congrArg List.length h
      rw [List.length_append, List.length_drop] at this
      omega
    · rw [← h, List.take_left]
set_option tactic.hygienic true in
theorem me_starts : MeR X "str" "str.startswith" (methW .startswith) := by
  intro pins s σ H st d ds v vs u us R I ok r rv rs rvs q
  cases d <;> first | exact (show False from q).elim | skip
  rename_i z
  match ds, q with
  | [.str w, .int i], q =>
    cases r.str_inv
    obtain ⟨t, rfl⟩ := rv
    cases rs with
    | cons ra rb =>
      cases rb with
      | cons rb rc =>
        cases rc
        cases ra.str_inv
        cases rb.int_inv
        cases rvs with
        | cons va vb =>
          cases vb with
          | cons vb vc =>
            cases vc
            obtain ⟨t1, rfl⟩ := va
            obtain ⟨t2, rfl⟩ := vb
            have q : (z.length ≤ LINE ∧ 0 ≤ i ∧ i ≤ z.length) ∧ R (.bl (w.isPrefixOf (z.drop i.toNat))) st := q
            refine SC.startswith3 ?_
            rw [starts_eq z w i q.1.2.1 q.1.2.2]
            exact ⟨.bl _, H, I, rfl, .here ok (.bl _) q.2⟩
end
section
variable {X : Cx} {C : CallT} {sub : Nat → Nat → Bool} {E : XK} {a b c e o : Expr} {x y z : Ex} {pos apos cpos : Pos}
theorem j_methS {m : MT} {name : Str} {id : String} {es : List Expr} {xs : List Ex} (hrc : ∀ d st, rcvW m d st → ∃ z, d = .str z) (slot : Slot "str" name id) (hty : typeOf (.builtin id) = pure (.type "method_descriptor")) (hm : MeR X "str" id (methW m)) (ho : PE X o (tOf X.K (wpE C sub E x))) (ha : PA X (e :: es) (taOf X.K (wpEs C sub E xs)))
    (hbase : attributeBase o name X.env (eval o X.env) = eval o X.env)
    (hfew : ((backTo cpos (starEach (e :: es) X.env)).all (fun x => !x.1) && (backToKw cpos (keywordEach [] X.env)).all (fun x => x.1.isSome) && decide ((e :: es).length + ([] : List Keyword).length + (if ([] : List Keyword).isEmpty then 0 else 1) < 30)) = true) (hline : (apos.endLine == cpos.line) = true)
    (hs : starEach (e :: es) X.env = (false, eval e X.env) :: starEach es X.env) (hplain : (backTo cpos (starEach es X.env)).any (·.1) = false) :
    PE X (.Call (.Attribute o name apos) (e :: es) [] cpos) (tOf X.K (wpE C sub E (.meth m x xs))) :=
  (pe_bm PySem.F.plainAttrs_str slot hty hm.mt ho ha hbase hfew hline hs hplain).imp fun σ H Q ⟨σd, st, R, r, ok, q, hq⟩ => by
    refine ⟨σd, st, _, r, ok, q, fun v H1 ⟨d, st1, s1, ok1, r1, q1⟩ => ⟨?_, ?_⟩⟩
    · obtain ⟨z, rfl⟩ := hrc _ _ q1.1
      cases r1.str_inv
      rfl
    refine ⟨σd, st1, _, r.step ok s1, ok1, q1.2, fun vs H2 ⟨ds, st2, s2, ok2, r2, q2⟩ => ?_⟩
    exact ⟨d, ds, st2, R, r1.step ok1 s2, r2, ok2, q2, fun v H' z => hq _ _ (.after (s1.trans s2) z)⟩
end
end L3
end
section
namespace L3
open PySem PySem.Spec PyProof.Rows PyProof.V L2
theorem look_both (w : List Nat) : ∀ T : List (Str × PyData), (T.all fun p => simpleD p.2) = true → (∃ e, KTD.datumAt (⟨w.toArray⟩ : Str) (T.map fun p => (p.1, KTD.Dat.flat p.2)) = some (.flat e) ∧ simpleD e = true ∧ lookD (T.map fun p => .str p.1.cps.toList) (T.map fun p => flatD p.2) (.str w) = some (flatD e)) ∨
    (KTD.datumAt (⟨w.toArray⟩ : Str) (T.map fun p => (p.1, KTD.Dat.flat p.2)) = none ∧ lookD (T.map fun p => .str p.1.cps.toList) (T.map fun p => flatD p.2) (.str w) = none)
  | [], _ => .inr ⟨rfl, rfl⟩
  | (x, e) :: T, a => by
    simp only [List.all_cons, Bool.and_eq_true] at a
    show (∃ e', (if decide ((⟨w.toArray⟩ : Str) = x) = true then some (KTD.Dat.flat e) else KTD.datumAt _ _) = some (.flat e') ∧ simpleD e' = true ∧ (if (x.cps.toList == w) = true then some (flatD e) else lookD (T.map fun p => .str p.1.cps.toList) (T.map fun p => flatD p.2) (.str w)) = some (flatD e')) ∨
      ((if decide ((⟨w.toArray⟩ : Str) = x) = true then some (KTD.Dat.flat e) else KTD.datumAt _ _) = none ∧ (if (x.cps.toList == w) = true then some (flatD e) else lookD (T.map fun p => .str p.1.cps.toList) (T.map fun p => flatD p.2) (.str w)) = none)
    rw [cps_eq]
    by_cases c : (x.cps.toList == w) = true
    · rw [if_pos c, if_pos c]
      exact .inl ⟨e, rfl, a.1, rfl⟩
    · rw [if_neg c, if_neg c]
      exact look_both w T a.2
section
variable {X : Cx} {C : CallT} {sub : Nat → Nat → Bool} {E : XK} {a b c e o : Expr} {es : List Expr} {x y z : Ex} {xs : List Ex} {pos apos cpos : Pos}
set_option tactic.hygienic true in
theorem j_get (ho : PE X o (tOf X.K (wpE C sub E x))) (ha : PA X (e :: es) (taOf X.K (wpEs C sub E xs)))
    (hbase : attributeBase o "get" X.env (eval o X.env) = eval o X.env)
    (hfew : ((backTo cpos (starEach (e :: es) X.env)).all (fun x => !x.1) && (backToKw cpos (keywordEach [] X.env)).all (fun x => x.1.isSome) && decide ((e :: es).length + ([] : List Keyword).length + (if ([] : List Keyword).isEmpty then 0 else 1) < 30)) = true) (hline : (apos.endLine == cpos.line) = true)
    (hs : starEach (e :: es) X.env = (false, eval e X.env) :: starEach es X.env) (hplain : (backTo cpos (starEach es X.env)).any (·.1) = false) :
    PE X (.Call (.Attribute o "get" apos) (e :: es) [] cpos) (tOf X.K (wpE C sub E (.meth .get x xs))) := by
  intro pins s σ H Q I ⟨σd, st, R, r, ok, q, hq⟩
  refine wpAny_Call_method_late hbase hfew hline rfl (thn (ho pins s σ H _ I ⟨σd, st, _, r, ok, q, fun v H' z => z⟩) fun v s1 ⟨xv, H1, I1, r1, d, st1, s1s, ok1, rd, q1, q2⟩ => ?_)
  cases d <;> first | exact (show False from q1).elim | skip
  rename_i ks vs
  obtain ⟨p, rfl, T, hT, hsd, rfl, rfl⟩ := rd.mdic_inv
  cases r1
  have hh := mt_here I1 hT
  refine ⟨"dict", "dict.get", PySem.F.plainAttrs_dict, PySem.F.slot_dict_get, PySem.F.type_dict_get, hh.typeIs, hh.noDict, ?_⟩
  have hA := ha cpos pins s1 σ H1 _ I1 ⟨σd, st1, _, r.step ok s1s, ok1, q2, fun vs H' z => z⟩
  rw [hs] at hA ⊢
  refine Calls.callWith_builtin (by show (false || (backTo cpos (starEach es X.env)).any (·.1)) = false; rw [hplain] <;> rfl) (Calls.evalArgs_plain ?_)
  refine thn hA fun us s2 ⟨ws, H2, I2, r2, ds, st2, s2s, ok2, rs2, q3⟩ => ?_
  match ds, q3 with
  | [.str w], q3 =>
    obtain ⟨wv, rfl, rw1⟩ := rs2.one
    obtain ⟨u, rfl, ru⟩ := r2.one
    cases rw1.str_inv
    obtain ⟨t, rfl⟩ := ru
    have h2 := mt_here I2 hT
    have q3 : R ((lookD _ _ (.str w)).getD .non) st2 := q3
    refine call_meetsIn PySem.F.slot_dict_get h2.typeIs PySem.F.entry_dict_get (PySem.F.args_dict_get_2 _ _) (KTD.meets_get1 (h₀ := s2.heap)) ⟨h2, fun d v hd hv => ?_, fun hn => ?_⟩
    · rcases look_both w T hsd with ⟨e', e1, e2, e3⟩ | ⟨e1, e3⟩
      · rw [e1] at hd; cases hd
        rw [e3] at q3
        have hv : Flat v e' := hv
        obtain ⟨wv, rw'⟩ : ∃ wv, RelV wv v := by
          cases e' with
          | none => cases Flat.none_inv hv; exact ⟨.non, rfl⟩
          | bool b => cases Flat.bool_inv hv; exact ⟨.bl b, rfl⟩
          | int i => obtain ⟨t, rfl⟩ := Flat.int_inv hv; exact ⟨.int i, ⟨t, rfl⟩⟩
          | str x => obtain ⟨t, rfl⟩ := Flat.str_inv hv; exact ⟨.str x, ⟨t, rfl⟩⟩
          | _ => cases e2
        exact ⟨wv, H2, I2.tok _, rw', hq _ _ (.after (s1s.trans s2s) (.here ok2 (flat_rep e2 rw' hv) q3))⟩
      · rw [e1] at hd; cases hd
    · rcases look_both w T hsd with ⟨e', e1, e2, e3⟩ | ⟨e1, e3⟩
      · rw [e1] at hn; cases hn
      · rw [e3] at q3
        exact ⟨.non, H2, I2.tok _, rfl, hq _ _ (.after (s1s.trans s2s) (.here ok2 .non q3))⟩
theorem jjn (ho : JE X C sub E o x) (ha : JA X C sub E (e :: es) xs) (hbase : attributeBase o "join" X.env (eval o X.env) = eval o X.env := by kernel_rfl)
    (hfew : ((backTo pos (starEach (e :: es) X.env)).all (fun x => !x.1) && (backToKw pos (keywordEach [] X.env)).all (fun x => x.1.isSome) && decide ((e :: es).length + ([] : List Keyword).length + (if ([] : List Keyword).isEmpty then 0 else 1) < 30)) = true := by kernel_rfl) (hline : (apos.endLine == pos.line) = true := by kernel_rfl)
    (hs : starEach (e :: es) X.env = (false, eval e X.env) :: starEach es X.env := by kernel_rfl) (hplain : (backTo pos (starEach es X.env)).any (·.1) = false := by kernel_rfl) :
    JE X C sub E (.Call (.Attribute o "join" apos) (e :: es) [] pos) (.meth .join x xs) :=
  ⟨j_methS (fun d st h => by cases d <;> first | exact (show False from h).elim | exact ⟨_, rfl⟩) PySem.F.slot_str_join PySem.F.type_str_join me_join ho.h ha.h hbase hfew hline hs hplain⟩
theorem jsw (ho : JE X C sub E o x) (ha : JA X C sub E (e :: es) xs) (hbase : attributeBase o "startswith" X.env (eval o X.env) = eval o X.env := by kernel_rfl)
    (hfew : ((backTo pos (starEach (e :: es) X.env)).all (fun x => !x.1) && (backToKw pos (keywordEach [] X.env)).all (fun x => x.1.isSome) && decide ((e :: es).length + ([] : List Keyword).length + (if ([] : List Keyword).isEmpty then 0 else 1) < 30)) = true := by kernel_rfl) (hline : (apos.endLine == pos.line) = true := by kernel_rfl)
    (hs : starEach (e :: es) X.env = (false, eval e X.env) :: starEach es X.env := by kernel_rfl) (hplain : (backTo pos (starEach es X.env)).any (·.1) = false := by kernel_rfl) :
    JE X C sub E (.Call (.Attribute o "startswith" apos) (e :: es) [] pos) (.meth .startswith x xs) :=
  ⟨j_methS (fun d st h => by cases d <;> first | exact (show False from h).elim | exact ⟨_, rfl⟩) PySem.F.slot_str_startswith PySem.F.type_str_startswith me_starts ho.h ha.h hbase hfew hline hs hplain⟩
theorem jdg (ho : JE X C sub E o x) (ha : JA X C sub E (e :: es) xs) (hbase : attributeBase o "get" X.env (eval o X.env) = eval o X.env := by kernel_rfl)
    (hfew : ((backTo pos (starEach (e :: es) X.env)).all (fun x => !x.1) && (backToKw pos (keywordEach [] X.env)).all (fun x => x.1.isSome) && decide ((e :: es).length + ([] : List Keyword).length + (if ([] : List Keyword).isEmpty then 0 else 1) < 30)) = true := by kernel_rfl) (hline : (apos.endLine == pos.line) = true := by kernel_rfl)
    (hs : starEach (e :: es) X.env = (false, eval e X.env) :: starEach es X.env := by kernel_rfl) (hplain : (backTo pos (starEach es X.env)).any (·.1) = false := by kernel_rfl) :
    JE X C sub E (.Call (.Attribute o "get" apos) (e :: es) [] pos) (.meth .get x xs) := ⟨j_get ho.h ha.h hbase hfew hline hs hplain⟩
end
end L3
end
section
namespace L3
open PySem PySem.Spec PyProof.Rows L2
noncomputable abbrev xN : Nat := 3
noncomputable def EE (K : PySem.W.Frag) (EX : XK) : L2.XK := fun _ _ H' => ∃ st', StOk K st' H' ∧ EX xN st'
inductive spX (K : PySem.W.Frag) (C : CallT) (f : Nat) (vs : List V) (H : Hp) (Q : L2.VK) (E : L2.XK) : Prop where
  | mk (ds : List D) (st : Store) (R : VK) (EX : XK) (r : Reps K H ds vs) (ok : StOk K st H) (q : C f ds st R EX) (hq : ∀ v H', QD K H st R v H' → Q v H') (hE : ∀ cl a H', EE K EX cl a H' → E cl a H') : spX K C f vs H Q E
theorem spOf.x {K : PySem.W.Frag} {C : CallT} {f : Nat} {vs : List V} {H : Hp} {Q : L2.VK} {E E' : L2.XK} (h : spOf K C f vs H Q E) : spX K C f vs H Q E' :=
  let ⟨ds, st, R, r, ok, q, hq⟩ := h; ⟨ds, st, R, _, r, ok, q, hq, fun _ _ _ z => let ⟨_, _, z⟩ := z; z.elim⟩
theorem FnOk.calm {P : Program} {w : World} {K : PySem.W.Frag} {mg : Str → Option Value} {base : Heap} {C : CallT} {k f : Nat} {a Cl : Addr} {fd : FuncData} {ps : List Str} (F : FnOk P w K mg base (CXE P w Cl) k a fd ps (spX K C f)) : FnOk P w K mg base CX0 k a fd ps (spOf K C f) :=
  ⟨fun vs H Q E q => F.len vs H Q E q.x, fun A outer s H args us vs Q E hr he hb hv hs => codeAny_mono (F.run A outer s H args us vs Q (fun _ _ _ => False) hr he hb hv hs.x) fun res s' h => by
    cases res with
    | ok fl => cases fl <;> exact h
    | error e => obtain ⟨_, _, _, _, _, _, _, _, _, _, _, z⟩ := h; exact z⟩
section
variable {P : Program} {w : World} {K : PySem.W.Frag} {mg : Str → Option Value} {base : Heap} {N : List Str} {qual : Str} {scope : Scope} {f Cl : Addr} {cd : Value} {A : Around} {outer : List Env} {s : Shared} {H : Hp} {E : L2.XK} {EX : XK}
theorem passX (hE : ∀ cl a H', EE K EX cl a H' → E cl a H') : Passes (CXE P w Cl) (cxOf (CXE P w Cl) P w K mg base N qual scope f cd A outer s H E) (EE K EX) := by
  intro pins σ H1 s1 e s' I hx
  obtain ⟨a, T, H', rfl, os, bare, un, hok, ha1, hT1, fly, st', ok', ex'⟩ := hx
  have I2 := I.call' (ch := []) os un hok bare (fun _ z => nomatch z)
  have hfr : (A.deeper (envOfC qual scope s.heap.objs.size f cd)).frames = some (envOfC qual scope s.heap.objs.size f cd :: outer) := I2.ok.frames
  have fun2 := I2.stack
  have sfr := I2.stkFree
  show wpAny (model P w) _ (leaving _ (.ref a)) _ _ _
  unfold leaving
  refine wpAny_bind (note_on (base := base) hfr fun2 rfl fly fun h2 T' b1 n1 f1 hT2 => flight f1 fun h3 b2 f2 => ?_)
  have b2 : But [] [T'] h2 h3 := b2
  have n1 : s'.heap.get? T' = none := n1
  have B : But (frs (envOfC qual scope s.heap.objs.size f cd :: outer)) [a, T] s'.heap h3 := (b1.trans b2.more).old (fun _ _ z => z) fun b z => by
    rcases List.mem_append.mp z with z | z
    · exact .inl z
    · exact .inr (by rw [List.mem_singleton.mp z]; exact n1)
  obtain ⟨oe, ws, oT, ts, xe, xc, xn, xd, x1, xTe, xT, xdT, x3⟩ := id f2
  have TT' : T ≠ T' := fun z => by
    rw [z] at hT1
    obtain ⟨u, e⟩ := (I2.hok T' _ hT1).here
    rw [n1] at e; cases e
  obtain ⟨o2, ts2, e2, d2⟩ := hT2
  have hT3 : h3.get? T = some o2 := b2.keep T o2 e2 (by simp) (by simpa using TT')
  have nT' : H' T' = none := I2.hok.nothing n1
  have aT' : a ≠ T' := fun z => by rw [z, nT'] at ha1; cases ha1
  have U : Un (frs (envOfC qual scope s.heap.objs.size f cd :: outer)) [] H' H' s'.heap h3 := un_but B (fun b z => by
    simp only [List.mem_cons, List.not_mem_nil, or_false] at z
    rcases z with rfl | rfl
    · rw [ha1]; intro y; cases y
    · rw [hT1]; intro y; cases y) fun b z => by
    simp only [List.mem_cons, List.not_mem_nil, or_false] at z
    rcases z with rfl | rfl
    · exact ⟨_, xe⟩
    · exact ⟨_, hT3⟩
  have K3 : HOk P w H' h3 := ok_but I2.hok B sfr (fun b z => by
    simp only [List.mem_cons, List.not_mem_nil, or_false] at z
    rcases z with rfl | rfl
    · exact ⟨_, ha1⟩
    · exact ⟨_, hT1⟩) fun b z u e => by
    simp only [List.mem_cons, List.not_mem_nil, or_false] at z
    rcases z with rfl | rfl
    · rw [ha1] at e; cases e; exact xc_ok xe xc xn xd
    · rw [hT1] at e; cases e; exact fd_ok hT3 d2
  have I3 := I2.call' (H' := upd H' T' (FdO T')) (s' := { s' with heap := h3 }) (ch := []) rfl (un_one U nT' n1) (K3.trk nT' (fd_ok xT xdT)) I2.bare (fun _ z => nomatch z)
  refine ⟨a, T', upd H' T' (FdO T'), rfl, I3.os, I3.bare, I3.base, I3.hok, ?_, upd_same, f2, hE _ _ _ ⟨st', ok'.new nT', ex'⟩⟩
  rw [upd_ne aT']; exact ha1
theorem s_raise {C : CallT} {sub : Nat → Nat → Bool} {x : Str} {np ap cp pos : Pos} {tx : Str} {j : Nat} {t : List Nat} (hE : ∀ cl a H', EE K EX cl a H' → E cl a H') (Z : ExA K x Cl) (hg : scope.names.lookup x = some .globalImplicit) (hd : (x == ("__debug__" : Str)) = false) :
    PS (cxOf (CXE P w Cl) P w K mg base N qual scope f cd A outer s H E) (.Raise (some (.Call (.Name x np) [.Constant (.str tx) j ap] [] cp)) none pos) (tsOf K EX (wpS C sub (.rais xN [.c (.str t)]))) :=
  (ps_raise Z hg hd).imp fun D σ H' ⟨σd, st, P, r, ok, q, h⟩ => by
    intro a T ha hT ne
    refine hE _ _ _ ⟨st, (ok.new ha).new ?_, h.ex _ _ _ q⟩
    rw [upd_ne (Ne.symm ne)]; exact hT
end
section
variable {X : Cx} {C : CallT} {sub : Nat → Nat → Bool} {E EX : XK} {a b e o value : Expr} {es : List Expr} {x y : Ex} {xs : List Ex} {p pos apos pos' : Pos} {n : Str} {c f : List Nat} {fid : Nat} {Cl : Addr}
theorem j_callx {k : Nat} {f : Addr} {fd : FuncData} {ps : List Str} (F : FnOk X.prog X.w X.K X.mg X.base (CXE X.prog X.w Cl) k f fd ps (spX X.K C fid)) (hr : Room k X.A) (hg : Gl X n) (hm : X.mg n = some (.ref f))
    (hk : PySem.W.keepIn X.K (.ref f) = true) (hb : Binds X.K fd ps []) (hx : Passes (CXE X.prog X.w Cl) X (EE X.K EX)) (ha : PA X (e :: es) (taOf X.K (wpEs C sub EX xs)))
    (hdb : (n == ("__debug__" : Str)) = false) (he : starEach (e :: es) X.env = (false, eval e X.env) :: starEach es X.env) (hpl : (backTo pos (starEach es X.env)).any (·.1) = false) :
    PE X (.Call (.Name n p) (e :: es) [] pos) (tOf X.K (wpE C sub EX (.callx fid xs))) :=
  (pe_call F hr hg hm hk hb .nil hx ha hdb he hpl).imp fun σ H Q ⟨σd, st, R, r, ok, q, hq⟩ => by
    refine ⟨σd, st, _, r, ok, q, fun vs H1 ⟨ds, st1, s1, ok1, r1, q1⟩ => ?_⟩
    show spX X.K C fid (vs ++ []) H1 Q (EE X.K EX)
    rw [List.append_nil]
    exact ⟨ds, st1, R, EX, r1, ok1, q1, fun v H' z => hq _ _ (.after s1 z), fun _ _ _ z => z⟩
theorem j_mclx {k : Nat} {fa : Addr} {fd : FuncData} {ps : List Str} {C0 : Addr} {pl : Sem Bool} {m : List Nat} (hn : n = ⟨m.toArray⟩) (hcl : clsAt X.K c C0) (hC0 : Cls X.K C0) (hm : Meth X.K C0 n fa) (F : FnOk X.prog X.w X.K X.mg X.base (CXE X.prog X.w Cl) k fa fd ps (spX X.K C fid)) (hr : Room k X.A) (hb : Binds X.K fd ps [])
    (hx : Passes (CXE X.prog X.w Cl) X (EE X.K EX)) (ho : PE X o (tOf X.K (wpE C sub EX x))) (ha : PA X (e :: es) (taOf X.K (wpEs C sub EX xs)))
    (hst : starEach (e :: es) X.env = (false, eval e X.env) :: starEach es X.env) (hpl : (backTo pos (starEach es X.env)).any (·.1) = false)
    (ht : eval (.Call (.Attribute o n apos) (e :: es) [] pos) X.env = (do
      let ov ← eval o X.env
      standAt apos.atName
      let (f, first) ← holding [ov] (getMethod ov n pl)
      callWith pos f first (backTo pos (starEach (e :: es) X.env)) (backToKw pos (keywordEach [] X.env)))) :
    PE X (.Call (.Attribute o n apos) (e :: es) [] pos) (tOf X.K (wpE C sub EX (.mclx c m fid x xs))) :=
  (pe_meth (pl := pl) ho hC0 hm F hr hb .nil hx ha hst hpl ht).imp fun σ H Q ⟨σd, st, R, r, ok, q, hq⟩ => by
    refine ⟨σd, st, _, r, ok, q, fun v H1 ⟨d, st1, s1, ok1, r1, q1, q2⟩ => ?_⟩
    obtain ⟨a, fs, rfl, e0, l⟩ := metW_inv q1
    cases r1.ref_inv
    obtain ⟨C1, dx, ws, h1, h2, h3⟩ := ok1 a _ e0
    cases hcl.inj h1
    refine ⟨a, dx, ws, rfl, h2, by rw [hn]; exact FldsR.no h3 l, ?_⟩
    refine ⟨σd, st1, _, r.step ok s1, ok1, q2, fun vs H2 ⟨ds, st2, s2, ok2, r2, q3⟩ => ?_⟩
    show spX X.K C fid (.ref a :: (vs ++ [])) H2 Q (EE X.K EX)
    rw [List.append_nil]
    exact ⟨.ref a :: ds, st2, R, EX, .cons (.ref a) r2, ok2, q3, fun v H' z => hq _ _ (.after (s1.trans s2) z), fun _ _ _ z => z⟩
theorem j_mcl0 {k : Nat} {fa : Addr} {fd : FuncData} {ps : List Str} {C0 : Addr} {pl : Sem Bool} {m : List Nat} (hn : n = ⟨m.toArray⟩) (hcl : clsAt X.K c C0) (hC0 : Cls X.K C0) (hm : Meth X.K C0 n fa) (F : FnOk X.prog X.w X.K X.mg X.base CX0 k fa fd ps (spOf X.K C fid)) (hr : Room k X.A) (hb : Binds X.K fd ps [])
    (ho : PE X o (tOf X.K (wpE C sub E x)))
    (ht : eval (.Call (.Attribute o n apos) [] [] pos) X.env = (do
      let ov ← eval o X.env
      standAt apos.atName
      let (f, first) ← holding [ov] (getMethod ov n pl)
      callWith pos f first (backTo pos (starEach [] X.env)) (backToKw pos (keywordEach [] X.env)))) :
    PE X (.Call (.Attribute o n apos) [] [] pos) (tOf X.K (wpE C sub E (.mcl c m fid x []))) :=
  (pe_meth0 (pl := pl) ho hC0 hm F hr hb .nil pass0 ht).imp fun σ H Q ⟨σd, st, R, r, ok, q, hq⟩ => by
    refine ⟨σd, st, _, r, ok, q, fun v H1 ⟨d, st1, s1, ok1, r1, q1, q2⟩ => ?_⟩
    obtain ⟨a, fs, rfl, e0, l⟩ := metW_inv q1
    cases r1.ref_inv
    obtain ⟨C1, dx, ws, h1, h2, h3⟩ := ok1 a _ e0
    cases hcl.inj h1
    refine ⟨a, dx, ws, rfl, h2, by rw [hn]; exact FldsR.no h3 l, ?_⟩
    show spOf X.K C fid (.ref a :: ([] ++ [])) H1 Q E0
    exact ⟨[.ref a], st1, R, .cons (.ref a) .nil, ok1, q2, fun v H' z => hq _ _ (.after s1 z)⟩
end
end L3
end
section
namespace L3
open PySem PySem.Spec PyProof.Rows L2
section
variable {K : PySem.W.Frag} {H H' : Hp}
theorem sqT_un {a : Addr} {vs : List V} (ht : ∀ b xs, H b = some (.tup xs) → H' b = some (.tup xs)) (hf : ∀ b o u, H b = some (.frz o u) → H' b = some (.frz o u)) (h : SqT K H a vs) : SqT K H' a vs := by
  rcases h with (h | ⟨o, h⟩) | h
  · exact .inl (.inl (ht _ _ h))
  · exact .inl (.inr ⟨o, hf _ _ _ h⟩)
  · exact .inr h
theorem frzL_un {a : Addr} {vs : List V} (hf : ∀ b o u, H b = some (.frz o u) → H' b = some (.frz o u)) (h : FrzL K H a vs) : FrzL K H' a vs := by
  rcases h with ⟨o, h⟩ | h
  · exact .inl ⟨o, hf _ _ _ h⟩
  · exact .inr h
mutual
theorem Rep.un (ht : ∀ b xs, H b = some (.tup xs) → H' b = some (.tup xs)) (hf : ∀ b o u, H b = some (.frz o u) → H' b = some (.frz o u)) : ∀ {d : D} {v : V}, Rep K H d v → Rep K H' d v
  | _, _, .non => .non
  | _, _, .bl b => .bl b
  | _, _, .int i => .int i
  | _, _, .str x => .str x
  | _, _, .tup h r => .tup (sqT_un ht hf h) (Reps.un ht hf r)
  | _, _, .ref a => .ref a
  | _, _, .mlst h r => .mlst (frzL_un hf h) (Reps.un ht hf r)
  | _, _, .mdic h => .mdic h
theorem Reps.un (ht : ∀ b xs, H b = some (.tup xs) → H' b = some (.tup xs)) (hf : ∀ b o u, H b = some (.frz o u) → H' b = some (.frz o u)) : ∀ {ds : List D} {vs : List V}, Reps K H ds vs → Reps K H' ds vs
  | _, _, .nil => .nil
  | _, _, .cons h r => .cons (Rep.un ht hf h) (Reps.un ht hf r)
end
theorem SRel.un {σd : St} {σ : L2.St} (ht : ∀ b xs, H b = some (.tup xs) → H' b = some (.tup xs)) (hf : ∀ b o u, H b = some (.frz o u) → H' b = some (.frz o u)) (r : SRel K H σd σ) : SRel K H' σd σ :=
  ⟨r.1, fun i d e => let ⟨v, e1, e2⟩ := r.2 i d e; ⟨v, e1, e2.un ht hf⟩⟩
theorem SRel.unset {σd : St} {σ : L2.St} (r : SRel K H σd σ) (i : Nat) : SRel K H (σd.set i none) (σ.set i none) := by
  refine ⟨by simpa using r.1, fun j e hj => ?_⟩
  by_cases q : j = i
  · subst q
    by_cases hl : j < σd.length
    · rw [List.getElem?_set_self hl] at hj; cases hj
    · rw [List.getElem?_eq_none (by simp; omega)] at hj; cases hj
  · rw [List.getElem?_set_ne (Ne.symm q)] at hj
    obtain ⟨u, e1, e2⟩ := r.2 j e hj
    exact ⟨u, by rw [List.getElem?_set_ne (Ne.symm q)]; exact e1, e2⟩
end
structure EndsOk0 (K : PySem.W.Frag) (EX : XK) (P : Post) (D : Ends) : Prop where
  nx : ∀ σ' H' σd' st', SRel K H' σd' σ' → StOk K st' H' → P.nx σd' st' → D.nx σ' H'
  rt : ∀ v H' d st', StOk K st' H' → Rep K H' d v → P.rt d st' → D.rt v H'
  bk : ∀ σ' H' σd' st', SRel K H' σd' σ' → StOk K st' H' → P.bk σd' st' → D.bk σ' H'
  ct : ∀ σ' H' σd' st', SRel K H' σd' σ' → StOk K st' H' → P.ct σd' st' → D.ct σ' H'
  ex : ∀ c σd st, P.ex c σd st → EX c st
theorem EndsOk0.s {K : PySem.W.Frag} {EX : XK} {P : Post} {D : Ends} {H : Hp} {st : Store} (h : EndsOk0 K EX P D) : EndsOk K EX H st P D :=
  ⟨fun σ' H' σd' st' r _ ok q => h.nx σ' H' σd' st' r ok q, fun v H' z => let ⟨d, st', _, ok, r, q⟩ := z; h.rt v H' d st' ok r q, fun σ' H' σd' st' r _ ok q => h.bk σ' H' σd' st' r ok q, fun σ' H' σd' st' r _ ok q => h.ct σ' H' σd' st' r ok q, h.ex⟩
inductive tsOf0 (K : PySem.W.Frag) (EX : XK) (ts : Post → St → Store → Prop) (D : Ends) (σ : L2.St) (H : Hp) : Prop where
  | mk (σd : St) (st : Store) (P : Post) (r : SRel K H σd σ) (ok : StOk K st H) (q : ts P σd st) (h : EndsOk0 K EX P D) : tsOf0 K EX ts D σ H
structure JS0 (X : Cx) (C : CallT) (sub : Nat → Nat → Bool) (EX : XK) (s : Stmt) (x : Sx) : Prop where
  h : PS X s (tsOf0 X.K EX (wpS C sub x))
structure JSs0 (X : Cx) (C : CallT) (sub : Nat → Nat → Bool) (EX : XK) (ss : List Stmt) (xs : List Sx) : Prop where
  h : PSs X ss (tsOf0 X.K EX (wpSs C sub xs))
section
variable {X : Cx} {C : CallT} {sub : Nat → Nat → Bool} {EX : XK} {s : Stmt} {ss : List Stmt} {x : Sx} {xs : List Sx}
theorem JS.z (h : JS X C sub EX s x) : JS0 X C sub EX s x := ⟨h.h.imp fun D σ H ⟨σd, st, P, r, ok, q, e⟩ => ⟨σd, st, P, r, ok, q, e.s⟩⟩
theorem z0 : JSs0 X C sub EX [] [] := ⟨s_nil.imp fun D σ H ⟨σd, st, P, r, ok, q, e⟩ => ⟨σd, st, P, r, ok, q, e.s⟩⟩
theorem zc (h1 : JS0 X C sub EX s x) (h2 : JSs0 X C sub EX ss xs) : JSs0 X C sub EX (s :: ss) (x :: xs) :=
  ⟨(pss_cons h1.h h2.h).imp fun D σ H ⟨σd, st, P, r, ok, q, h⟩ => by
    exact ⟨σd, st, _, r, ok, q, ⟨fun σ' H' σd' st' r' ok' q' => ⟨σd', st', P, r', ok', q', h⟩, h.rt, h.bk, h.ct, h.ex⟩⟩⟩
end
inductive sp0 (K : PySem.W.Frag) (C : CallT) (f : Nat) (vs : List V) (H : Hp) (Q : L2.VK) (E : L2.XK) : Prop where
  | mk (ds : List D) (st : Store) (R : VK) (r : Reps K H ds vs) (ok : StOk K st H) (q : C f ds st R EF) (hq : ∀ v H' d st', StOk K st' H' → Rep K H' d v → R d st' → Q v H') : sp0 K C f vs H Q E
theorem fn_ok0 {P : Program} {w : World} {K : PySem.W.Frag} {mg : Str → Option Value} {base : Heap} {G : Prog} {r k f : Nat} {fn : Fn} {x qual : Str} {st : Stmt} {a : Addr} {fd : FuncData} {N ps : List Str} (F : Fun K x qual st a fd) (S : FnScope N ps (defScope st))
    (hG : G.fns f = some fn) (hp : fn.np = ps.length) (hl : fn.nl = N.length)
    (hb : ∀ (cdv : Value) (A : Around) (outer : List Env) (s : Shared) (H : Hp) (E : L2.XK), Room r (A.deeper (envOfC qual (defScope st) s.heap.objs.size a cdv)) →
      JSs0 (cxOf CX0 P w K mg base N qual (defScope st) a cdv A outer s H E).nox (wpFn G k) G.sub EF (defBody st) fn.body) :
    FnOk P w K mg base CX0 (r + 1) a fd ps (sp0 K (wpFn G (k + 1)) f) := by
  refine F.ok S (fun vs H Q E h => ?_) (fun cdv A outer s H vs Q E hr h => ?_)
  · obtain ⟨ds, st', R, r, _, h, _⟩ := h
    simp only [wpFn, hG] at h
    rw [← r.length, h.1, hp]
  · obtain ⟨ds, st', R, r, ok, h, hq⟩ := h
    simp only [wpFn, hG] at h
    refine ⟨_, (hb cdv A outer s H E hr).h, ?_⟩
    refine ⟨start fn.np fn.nl ds, st', _, ?_, ok, h.2, ⟨fun σ' H' σd' st'' sr ok' q => ?_, fun v H' d st2 ok2 rd q => hq v H' d st2 ok2 rd q, fun _ _ _ _ _ _ q => q, fun _ _ _ _ _ _ q => q, fun _ _ _ q => q⟩⟩
    · rw [hl]; exact start_rel r h.1
    · exact hq _ _ .non st'' ok' .non q
theorem fn_okX {P : Program} {w : World} {K : PySem.W.Frag} {mg : Str → Option Value} {base : Heap} {G : Prog} {r k f : Nat} {fn : Fn} {x qual : Str} {st : Stmt} {a Cl : Addr} {fd : FuncData} {N ps : List Str} (F : Fun K x qual st a fd) (S : FnScope N ps (defScope st))
    (hG : G.fns f = some fn) (hp : fn.np = ps.length) (hl : fn.nl = N.length)
    (hb : ∀ (cdv : Value) (A : Around) (outer : List Env) (s : Shared) (H : Hp) (E : L2.XK) (EX : XK), Room r (A.deeper (envOfC qual (defScope st) s.heap.objs.size a cdv)) → (∀ cl a H', EE K EX cl a H' → E cl a H') →
      JSs (cxOf (CXE P w Cl) P w K mg base N qual (defScope st) a cdv A outer s H E) (wpFn G k) G.sub EX (defBody st) fn.body) :
    FnOk P w K mg base (CXE P w Cl) (r + 1) a fd ps (spX K (wpFn G (k + 1)) f) := by
  obtain ⟨oc, od, kV, doc, pm, an, cdv, ct, osl, rfl, lk, hcd⟩ := F.ex
  refine fn_of lk hcd S (fun vs H Q E h => ?_) fun A outer s H vs Q E hr h => ?_
  · obtain ⟨ds, st', R, EX, r, _, h, _⟩ := h
    simp only [wpFn, hG] at h
    rw [← r.length, h.1, hp]
  · obtain ⟨ds, st', R, EX, r, ok, h, hq, hE⟩ := h
    simp only [wpFn, hG] at h
    refine ⟨_, (hb cdv A outer s H E EX hr hE).h, ?_⟩
    refine ⟨start fn.np fn.nl ds, st', _, ?_, ok, h.2, ⟨fun σ' H' σd' st'' sr s' ok' q => ?_, fun v H' z => hq v H' z, fun _ _ _ _ _ _ _ q => q, fun _ _ _ _ _ _ _ q => q, fun _ _ _ q => q⟩⟩
    · rw [hl]; exact start_rel r h.1
    · exact hq _ _ ⟨.non, st'', s', ok', .non, q⟩
theorem fn_zeroX {P : Program} {w : World} {K : PySem.W.Frag} {mg : Str → Option Value} {base : Heap} {G : Prog} {f : Nat} {a Cl : Addr} {fd : FuncData} {ps : List Str} : FnOk P w K mg base (CXE P w Cl) 0 a fd ps (spX K (wpFn G 0) f) :=
  ⟨fun _ _ _ _ h => let ⟨_, _, _, _, _, _, q, _, _⟩ := h; q.elim, fun _ _ _ _ _ _ _ _ _ _ _ _ _ h => let ⟨_, _, _, _, _, _, q, _, _⟩ := h; q.elim⟩
structure CallX (X : Cx) (C : CallT) (EX : XK) (n : Str) (fid : Nat) : Prop where
  h : ∃ k f fd ps Cl, FnOk X.prog X.w X.K X.mg X.base (CXE X.prog X.w Cl) k f fd ps (spX X.K C fid) ∧ Room k X.A ∧ X.mg n = some (.ref f) ∧ PySem.W.keepIn X.K (.ref f) = true ∧ Binds X.K fd ps [] ∧ Passes (CXE X.prog X.w Cl) X (EE X.K EX)
structure MethX (X : Cx) (C : CallT) (EX : XK) (c : List Nat) (n : Str) (fid : Nat) : Prop where
  h : ∃ k f fd ps C0 Cl, FnOk X.prog X.w X.K X.mg X.base (CXE X.prog X.w Cl) k f fd ps (spX X.K C fid) ∧ Room k X.A ∧ Binds X.K fd ps [] ∧ clsAt X.K c C0 ∧ Cls X.K C0 ∧ Meth X.K C0 n f ∧ Passes (CXE X.prog X.w Cl) X (EE X.K EX)
section
variable {X : Cx} {C : CallT} {sub : Nat → Nat → Bool} {E EX : XK} {a b e o value : Expr} {es : List Expr} {x y : Ex} {xs : List Ex} {p pos apos pos' : Pos} {n : Str} {c f : List Nat} {fid : Nat}
theorem jclx (h : CallX X C EX n fid) (ha : JA X C sub EX (e :: es) xs) (hg : X.env.kindOf n = some .globalImplicit := by kernel_rfl) (hdb : (n == ("__debug__" : Str)) = false := by kernel_rfl) (he : starEach (e :: es) X.env = (false, eval e X.env) :: starEach es X.env := by kernel_rfl) (hpl : (backTo pos (starEach es X.env)).any (·.1) = false := by kernel_rfl) :
    JE X C sub EX (.Call (.Name n p) (e :: es) [] pos) (.callx fid xs) := ⟨let ⟨k, f, fd, ps, Cl, h1, h2, h3, h4, h5, h6⟩ := h.h; j_callx h1 h2 hg h3 h4 h5 h6 ha.h hdb he hpl⟩
theorem jmcx {pl : Sem Bool} {mm : List Nat} (h : MethX X C EX c n fid) (ho : JE X C sub EX o x) (ha : JA X C sub EX (e :: es) xs) (hn : n = ⟨mm.toArray⟩ := by kernel_rfl)
    (hst : starEach (e :: es) X.env = (false, eval e X.env) :: starEach es X.env := by kernel_rfl) (hpl : (backTo pos (starEach es X.env)).any (·.1) = false := by kernel_rfl)
    (ht : eval (.Call (.Attribute o n apos) (e :: es) [] pos) X.env = (do
      let ov ← eval o X.env
      standAt apos.atName
      let (f, first) ← holding [ov] (getMethod ov n pl)
      callWith pos f first (backTo pos (starEach (e :: es) X.env)) (backToKw pos (keywordEach [] X.env))) := by rfl) :
    JE X C sub EX (.Call (.Attribute o n apos) (e :: es) [] pos) (.mclx c mm fid x xs) := ⟨let ⟨k, f, fd, ps, C0, Cl, h1, h2, h3, h4, h5, h6, h7⟩ := h.h; j_mclx hn h4 h5 h6 h1 h2 h3 h7 ho.h ha.h hst hpl ht⟩
theorem jmc0 {pl : Sem Bool} {mm : List Nat} (h : MethOk X C c n fid) (ho : JE X C sub E o x) (hn : n = ⟨mm.toArray⟩ := by kernel_rfl)
    (ht : eval (.Call (.Attribute o n apos) [] [] pos) X.env = (do
      let ov ← eval o X.env
      standAt apos.atName
      let (f, first) ← holding [ov] (getMethod ov n pl)
      callWith pos f first (backTo pos (starEach [] X.env)) (backToKw pos (keywordEach [] X.env))) := by rfl) :
    JE X C sub E (.Call (.Attribute o n apos) [] [] pos) (.mcl c mm fid x []) := ⟨let ⟨k, f, fd, ps, C0, h1, h2, h3, h4, h5, h6⟩ := h.h; j_mcl0 hn h4 h5 h6 h1 h2 h3 ho.h ht⟩
end
section
variable {P : Program} {w : World} {K : PySem.W.Frag} {mg : Str → Option Value} {base : Heap} {N : List Str} {qual : Str} {scope : Scope} {f Cl : Addr} {cd : Value} {A : Around} {outer : List Env} {s : Shared} {H : Hp} {E : L2.XK} {EX : XK}
theorem sra {C : CallT} {sub : Nat → Nat → Bool} {x : Str} {np ap cp pos : Pos} {tx : Str} {j : Nat} {t : List Nat} (hE : ∀ cl a H', EE K EX cl a H' → E cl a H') (Z : ExA K x Cl) (hg : scope.names.lookup x = some .globalImplicit := by kernel_rfl) (hd : (x == ("__debug__" : Str)) = false := by kernel_rfl) :
    JS (cxOf (CXE P w Cl) P w K mg base N qual scope f cd A outer s H E) C sub EX (.Raise (some (.Call (.Name x np) [.Constant (.str tx) j ap] [] cp)) none pos) (.rais xN [.c (.str t)]) := ⟨s_raise hE Z hg hd⟩
end
end L3
end
section
namespace L3
open PySem PySem.Spec PyProof.Rows L2
theorem inv_frame2 {X : Cx} {pins : List (Addr × Obj)} {σ : L2.St} {H : Hp} {s : Shared} {a : Addr} {i : Nat} {ne : Str} {h' : Heap} {m : Str → Option Value} {v' : Option Value} {t : Nat} (ok : X.Ok) (I : Inv (mk X a) pins σ H s) (nd : X.N.Nodup) (hi : X.N[i]? = some ne) (hne : X.env.scope.names.lookup ne = some .local) (hn7 : s.heap.Ns X.env.locals m)
    (hl7 : ∀ (i : Nat) (x : Str) (v : V), X.N[i]? = some x → σ[i]? = some (some v) → Vis X.env.scope x → ∃ u, RelV v u ∧ Look X.env s.heap m x u) (hn : h'.Ns X.env.locals (fun x => if x = ne then v' else m x)) (hs : Heap.SameBut X.env.locals s.heap h') :
    Inv X pins (σ.set i none) H { s with heap := h', toks := t } := by
  have far : ∀ {b : Addr} {o : Obj}, X.s₀.heap.get? b = some o → b ≠ X.env.locals := fun e => Nat.ne_of_lt (Nat.lt_of_lt_of_le (Heap.lt_size e) ok.above)
  refine ⟨ok, I.os, I.bare, ⟨fun b o e n hb hx => (hs.2 b (far e)).trans (I.base.keep b o e n hb hx), fun b o e n hb hx => ?_, I.base.free, fun b o e hx => ?_, I.base.tups, I.base.frzs, I.base.tbls⟩, ⟨_, hn, fun j x v e1 e2 e3 => ?_⟩, fun y c e => ?_, I.free, I.freeC, fun p hp => ?_, fun b u e => ?_, by rw [List.length_set]; exact I.len⟩
  · obtain ⟨sl, q⟩ := I.base.slot b o e n hb hx
    exact ⟨sl, (hs.2 b (far e)).trans q⟩
  · obtain ⟨o', q⟩ := I.base.there b o e hx
    exact ⟨o', (hs.2 b (far e)).trans q⟩
  · have ji : j ≠ i := fun z => by
      subst z
      by_cases hl : j < σ.length
      · rw [List.getElem?_set_self hl] at e2; cases e2
      · rw [List.getElem?_eq_none (by simp; omega)] at e2; cases e2
    rw [List.getElem?_set_ne (Ne.symm ji)] at e2
    obtain ⟨u, ru, lk⟩ := hl7 j x v e1 e2 e3
    have xn : x ≠ ne := fun z => by
      subst z
      obtain ⟨l1, q1⟩ := List.getElem?_eq_some_iff.mp e1
      obtain ⟨l2, q2⟩ := List.getElem?_eq_some_iff.mp hi
      have pw := List.pairwise_iff_getElem.mp nd
      rcases Nat.lt_or_gt_of_ne ji with h | h
      · exact pw j i l1 l2 h (q1.trans q2.symm)
      · exact pw i j l2 l1 h (q2.trans q1.symm)
    refine ⟨u, ru, ?_⟩
    rcases lk with ⟨k1, k2⟩ | ⟨k1, c, k2, k3⟩
    · exact .inl ⟨k1, by dsimp only; rw [if_neg xn]; exact k2⟩
    · exact .inr ⟨k1, c, k2, k3.sameBut hs (I.cne x c k2)⟩
  · obtain ⟨v, z⟩ := I.cell y c e
    exact ⟨v, z.sameBut hs (I.cne y c e)⟩
  · obtain ⟨e, n, ne, nf, d⟩ := I.pin p hp
    exact ⟨(hs.2 p.1 ne).trans e, n, ne, nf, d⟩
  · have fr : H X.env.locals = none := I.free
    refine (I.hok b u e).stay (fun c v hc q => (hs.2 c fun z => ?_).trans q) (fun _ q => q) fun _ _ q => q
    rcases hc with rfl | hc
    · rw [z, fr] at e; cases e
    · rw [z, fr] at hc; cases hc
section
variable {X : Cx} {k i : Nat} {f C : Addr} {fd : FuncData} {ps : List Str} {sp : Sp} {n x ne : Str} {p cp xp np hp pos : Pos} {e0 : Expr} {es : List Expr} {t : TA} {b0 : Stmt} {suite : List Stmt} {tS : Addr → TS}
theorem ps_try2 {iy : Nat} {ny : Str} {py : Pos} (hxe : ∀ e s, ¬ X.xe e s) (hst : X.stack = X.env :: X.outer) (hfm : X.env.frame = some X.env.locals) (nd : X.N.Nodup) (Fc : FnOk X.prog X.w X.K X.mg X.base (CXE X.prog X.w C) k f fd ps sp) (hr : Room k X.A) (hg : Gl X n) (hm : X.mg n = some (.ref f))
    (hk : PySem.W.keepIn X.K (.ref f) = true) (hb : Binds X.K fd ps []) (ha : PA X (e0 :: es) t) (Z : ExA X.K x C) (hgx : Gl X x) (hi : X.N[i]? = some ne) (hne : X.env.scope.names.lookup ne = some .local) (hiy : X.N[iy]? = some ny) (hny : X.env.scope.names.lookup ny = some .local)
    (hs : ∀ a, PSs (mk X a) (b0 :: suite) (tS a)) (hdb : (n == ("__debug__" : Str)) = false) (hdx : (x == ("__debug__" : Str)) = false) (he : starEach (e0 :: es) X.env = (false, eval e0 X.env) :: starEach es X.env) (hpl : (backTo cp (starEach es X.env)).any (·.1) = false)
    (hsw : swapsWith (.Call (.Name n p) (e0 :: es) [] cp) (some (.Name ny py)) xp.line X.env = pure false) :
    PS X (.Try [.Assign [.Name ny py] (.Call (.Name n p) (e0 :: es) [] cp) xp] [.ExceptHandler (some (.Name x np)) (some ne) (b0 :: suite) hp] [] [] pos)
      (fun D σ H => t σ H fun vs H1 => sp vs H1 (fun v H' => D.nx (σ.set iy (some v)) H') (fun _ o H' => ∀ a, o = some a → H' a = some (XcO a (.ref C)) → (∀ b xs, H1 b = some (.tup xs) → H' b = some (.tup xs)) → (∀ b o u, H1 b = some (.frz o u) → H' b = some (.frz o u)) → ∀ T', H' T' = none →
        tS a { nx := fun σ2 H2 => D.nx (σ2.set i none) H2, rt := D.rt } (σ.set i (some (.ref a))) (upd H' T' (FdO T')))) := by
  intro pins s σ H D I h
  refine wpAny_Try_except (wpAny_execs_cons (wpAny_Assign_Name ?_ hsw))
  refine wpAny_Call_Name_kw (ld_glob I hg hm ?_ hdb)
  refine PySem.W.callWith_K (h₀ := X.base) I.ok.mod.kin hk (wpAny_mono (ha cp pins s σ H _ I h) (fun us s1 ⟨vs, H1, I1, r, q⟩ => ⟨I1.kIn, ?_⟩) fun e s z => absurd z (hxe e s)) he hpl
  have hl : us.length = ps.length := by rw [← r.length]; exact Fc.len _ _ _ _ q
  have hbi := hb s1 us I1.kIn (by rw [List.append_nil]; exact hl)
  rw [List.append_nil] at hbi
  refine wpAny_call (codeAny_mono (Fc.run X.A X.stack s1 H1 ⟨us, []⟩ us vs _ _ hr I1.env0 hbi r q) fun res s' hq => ?_)
  cases res with
  | ok fl =>
    cases fl with
    | ret u =>
      obtain ⟨v, H', I', r', q'⟩ := I1.after hq
      exact store_ok I' nd hiy (.inl hny) r' (fun s6 I6 => wpAny_execs_nil (wpAny_execs_nil ⟨_, H', I6, q'⟩)) (.inr hny)
    | next => exact False.elim hq
    | brk => exact False.elim hq
    | cont => exact False.elim hq
  | error ev =>
    obtain ⟨a, T, H', rfl, os, bare, un, hok, ha1, hT1, fly, hE⟩ := hq
    have I2 : Inv X pins σ H' s' := I1.call' (ch := []) os un hok bare (fun _ z => nomatch z)
    have hfr : X.A.frames = some (X.env :: X.outer) := by rw [← hst]; exact I.ok.frames
    have fun2 : s'.heap.FunFrames X.base (X.env :: X.outer) := by rw [← hst]; exact I2.stack
    have sfr : ∀ b ∈ frs (X.env :: X.outer), H' b = none := by rw [← hst]; exact I2.stkFree
    refine note_on (base := X.base) hfr fun2 hfm fly fun h2 T' b1 n1 f1 hT2 => flight f1 fun h3 b2 f2 => ?_
    have b2 : But [] [T'] h2 h3 := b2
    have B : But (frs (X.env :: X.outer)) [a, T] s'.heap h3 := (b1.trans b2.more).old (fun _ _ z => z) fun b z => by
      rcases List.mem_append.mp z with z | z
      · exact .inl z
      · exact .inr (by rw [List.mem_singleton.mp z]; exact n1)
    obtain ⟨oe, ws, oT, ts, xe, xc, xn, xd, x1, xTe, xT, xdT, x3⟩ := id f2
    have TT' : T ≠ T' := fun z => by
      rw [z] at hT1
      obtain ⟨u, e⟩ := (I2.hok T' _ hT1).here
      rw [n1] at e; cases e
    obtain ⟨o2, ts2, e2, d2⟩ := hT2
    have hT3 : h3.get? T = some o2 := b2.keep T o2 e2 (by simp) (by simpa using TT')
    have nT' : H' T' = none := I2.hok.nothing n1
    have U : Un (frs (X.env :: X.outer)) [] H' H' s'.heap h3 := un_but B (fun b z => by
      simp only [List.mem_cons, List.not_mem_nil, or_false] at z
      rcases z with rfl | rfl
      · rw [ha1]; intro y; cases y
      · rw [hT1]; intro y; cases y) fun b z => by
      simp only [List.mem_cons, List.not_mem_nil, or_false] at z
      rcases z with rfl | rfl
      · exact ⟨_, xe⟩
      · exact ⟨_, hT3⟩
    have K3 : HOk X.prog X.w H' h3 := ok_but I2.hok B sfr (fun b z => by
      simp only [List.mem_cons, List.not_mem_nil, or_false] at z
      rcases z with rfl | rfl
      · exact ⟨_, ha1⟩
      · exact ⟨_, hT1⟩) fun b z u e => by
      simp only [List.mem_cons, List.not_mem_nil, or_false] at z
      rcases z with rfl | rfl
      · rw [ha1] at e; cases e; exact xc_ok xe xc xn xd
      · rw [hT1] at e; cases e; exact fd_ok hT3 d2
    have I3 : Inv X pins σ (upd H' T' (FdO T')) { s' with heap := h3 } := I2.call' (s' := { s' with heap := h3 }) (ch := []) rfl (by rw [hst]; exact un_one U nT' n1) (K3.trk nT' (fd_ok xT xdT)) I2.bare (fun _ z => nomatch z)
    obtain ⟨hmx, bm, Nn, nm, q', bs, hdct, sn, sub, ab, col, dd, k0, k1, k2, k3, k5, mN, hC, hN, hni, Tl⟩ := Z.own I.mod.kin I.mod.glob
    refine catch_as (C := C) (nm := nm) (q := q') (N := Nn) (bs := bs) (hdct := hdct) (sn := sn) (sub := sub) (ab := ab) (col := col) (dd := dd) (k0 := k0) (k1 := k1) (k2 := k2) (k3 := k3) (k5 := k5) (newId := "ValueError.__new__") (Tl.hasType (by decide)) ?_
    have I4 : Inv (mk X a) pins σ (upd H' T' (FdO T')) { s' with heap := h3 } := inv_mk I3
    refine ld_glob (X := mk X a) I4 hgx hmx ⟨rfl, I4.bk _ _ hC, ⟨oe, xe, xc⟩, ?_⟩ hdx
    refine flight f2 fun h4 b3 f3 => ?_
    have b3 : But [] [T'] h3 h4 := b3
    obtain ⟨_, _, oT4, ts4, _, _, _, _, _, _, xT4, xdT4, _⟩ := id f3
    have tT' : upd H' T' (FdO T') T' = some (FdO T') := upd_same
    have I5 : Inv (mk X a) pins σ (upd H' T' (FdO T')) { s' with heap := h4 } := I4.call' (s' := { s' with heap := h4 }) (ch := []) rfl (un_but b3.more (fun b z => by rw [List.mem_singleton.mp z, tT']; intro y; cases y) fun b z => by rw [List.mem_singleton.mp z]; exact ⟨_, xT4⟩)
      (ok_but I4.hok (b3.more (fs := frs X.stack)) I4.stkFree (fun b z => by rw [List.mem_singleton.mp z]; exact ⟨_, tT'⟩) fun b z u e => by
        rw [List.mem_singleton.mp z] at e ⊢
        rw [tT'] at e; cases e
        exact fd_ok xT4 xdT4) I4.bare (fun _ z => nomatch z)
    refine store_ok (X := mk X a) (v := .ref a) I5 nd hi (.inl hne) rfl (fun s6 I6 => ?_) (.inr hne)
    refine thn (hs a pins s6 _ _ _ I6 (hE a rfl ha1 un.tups un.frzs T' nT')) fun fl s7 hf => ?_
    cases fl with
    | next =>
      obtain ⟨σ7, H7, I7, q7⟩ := hf
      obtain ⟨m, hn7, hl7⟩ := id I7.loc
      exact wpAny_nameGoes_keeps hne hn7 (by rw [I.ok.kind]; rfl) fun h8 v' hn8 hs8 => ⟨_, H7, inv_frame2 I.ok I7 nd hi hne hn7 hl7 hn8 hs8, q7⟩
    | brk => obtain ⟨_, _, _, z⟩ := hf; exact z.elim
    | cont => obtain ⟨_, _, _, z⟩ := hf; exact z.elim
    | ret u =>
      obtain ⟨v, σ7, H7, I7, r7, q7⟩ := hf
      obtain ⟨m, hn7, _⟩ := id I7.loc
      exact wpAny_nameGoes_keeps hne hn7 (by rw [I.ok.kind]; rfl) fun h8 v' hn8 hs8 => ⟨v, _, H7, inv_frame I.ok I7 hn8 hs8, r7, q7⟩
end
end L3
end
section
namespace L3
open PySem PySem.Spec PyProof.Rows L2
noncomputable def isR (i : Nat) (v : V) (Cl : Addr) (b : Bool) : TE := tCB (fun vs H Q => ∃ a, vs = [.ref a, v] ∧ H a = some (XcO a (.ref Cl)) ∧ Q (.bl b) H) (tCons (tVar i) (tCons (tC v) tNil))
section
variable {X : Cx} {i : Nat} {Cl : Addr} {v1 v2 v3 : V} {e1 e2 e3 : Expr} {p1 p2 p3 p5 : Pos} {r : Stmt}
theorem isR_go {b : Bool} {v : V} {σ : L2.St} {H : Hp} {Q : L2.VK} {a : Addr} (h1 : σ[i]? = some (some (.ref a))) (h2 : H a = some (XcO a (.ref Cl))) (q : Q (.bl b) H) : isR i v Cl b σ H Q := ⟨.ref a, h1, a, rfl, h2, q⟩
theorem suite3 {f1 f2 f3 : Expr} {a1 a2 a3 : List Expr} {q1 q2 q3 : Pos} (h1 : PE X (.Call f1 a1 [] q1) (isR i v1 Cl true)) (h2 : PE X (.Call f2 a2 [] q2) (isR i v2 Cl true)) (h3 : PE X (.Call f3 a3 [] q3) (isR i v3 Cl false)) :
    PSs X [.If (.BoolOp .Or [.UnaryOp .Not (.Call f1 a1 [] q1) p1, .UnaryOp .Not (.Call f2 a2 [] q2) p2, .Call f3 a3 [] q3] p3) [r] [] p5] (fun D σ H => ∃ a, σ[i]? = some (some (.ref a)) ∧ H a = some (XcO a (.ref Cl)) ∧ D.nx σ H) := by
  intro pins s σ H D I hq
  obtain ⟨a, q1, q2, q⟩ := hq
  refine pss_one (ps_if (pw_or (pt_not (pt_val h1)) (pw_or (pt_not (pt_val h2)) (pw_or1 (pt_val h3)))).pt (pss_one ps_never) pss_nil) pins s σ H D I ?_
  unfold tIfS tOr tNot tB
  dsimp only
  refine isR_go q1 q2 ⟨true, rfl, ?_⟩
  rw [if_neg (by decide)]
  refine isR_go q1 q2 ⟨true, rfl, ?_⟩
  rw [if_neg (by decide)]
  exact isR_go q1 q2 ⟨false, rfl, by rw [if_neg (by decide)]; exact q⟩
end
section
variable {X : Cx} {C : CallT} {sub : Nat → Nat → Bool} {k i iy fid : Nat} {f Cl : Addr} {fd : FuncData} {ps : List Str} {n x ne ny : Str} {p cp xp np hp pos py : Pos} {e0 : Expr} {es : List Expr} {xs : List Ex} {b0 : Stmt} {suite : List Stmt} {hx : List Sx}
theorem s_tryA (hxe : ∀ e s, ¬ X.xe e s) (hst : X.stack = X.env :: X.outer) (hfm : X.env.frame = some X.env.locals) (nd : X.N.Nodup) (Fc : FnOk X.prog X.w X.K X.mg X.base (CXE X.prog X.w Cl) k f fd ps (spX X.K C fid)) (hr : Room k X.A) (hg : Gl X n) (hm : X.mg n = some (.ref f))
    (hk : PySem.W.keepIn X.K (.ref f) = true) (hb : Binds X.K fd ps []) (ha : ∀ E, PA X (e0 :: es) (taOf X.K (wpEs C sub E xs))) (Z : ExA X.K x Cl) (hgx : Gl X x) (hi : X.N[i]? = some ne) (hne : X.env.scope.names.lookup ne = some .local) (hiy : X.N[iy]? = some ny) (hny : X.env.scope.names.lookup ny = some .local)
    (hs : ∀ a, PSs (mk X a) (b0 :: suite) (fun D σ H => ∃ a, σ[i]? = some (some (.ref a)) ∧ H a = some (XcO a (.ref Cl)) ∧ D.nx σ H)) (hsub : sub xN xN = true) (hh : ∀ (P : Post) (σ : St) (st : Store), i < σ.length → wpSs noCall sub hx P (σ.set i (some (.exc xN))) st → P.nx (σ.set i (some (.exc xN))) st)
    (hdb : (n == ("__debug__" : Str)) = false) (hdx : (x == ("__debug__" : Str)) = false) (he : starEach (e0 :: es) X.env = (false, eval e0 X.env) :: starEach es X.env) (hpl : (backTo cp (starEach es X.env)).any (·.1) = false)
    (hsw : swapsWith (.Call (.Name n p) (e0 :: es) [] cp) (some (.Name ny py)) xp.line X.env = pure false) :
    PS X (.Try [.Assign [.Name ny py] (.Call (.Name n p) (e0 :: es) [] cp) xp] [.ExceptHandler (some (.Name x np)) (some ne) (b0 :: suite) hp] [] [] pos) (tsOf0 X.K EF (wpS C sub (.tryy [.asg (.nm iy) (.callx fid xs)] xN (some i) hx))) := by
  intro pins s σ H D I hq
  obtain ⟨σd, st, P, r, ok, q, h⟩ := hq
  have il : i < σ.length := by rw [I.len]; exact (List.getElem?_eq_some_iff.mp hi).1
  refine ps_try2 (iy := iy) (t := taOf X.K (wpEs C sub (fun c st' => (tryP sub xN (some i) P fun P' σ' st' => wpSs noCall sub hx P' σ' st').ex c σd st') xs)) hxe hst hfm nd Fc hr hg hm hk hb (ha _) Z hgx hi hne hiy hny hs hdb hdx he hpl hsw pins s σ H D I ?_
  refine ⟨σd, st, _, r, ok, q, fun vs H1 ⟨ds, st1, s1, ok1, r1, q1⟩ => ?_⟩
  refine ⟨ds, st1, _, _, r1, ok1, q1, fun v H' ⟨d, st2, s2, ok2, rd, q2⟩ => ?_, fun cl oa H' ⟨st2, ok2, q2⟩ a ea hxa ht hf T' nT' => ?_⟩
  · exact h.nx _ _ _ _ (((r.step ok s1).step ok1 s2).set iy rd) ok2 q2
  · have aT' : a ≠ T' := fun z => by rw [z, nT'] at hxa; cases hxa
    refine ⟨a, by rw [List.getElem?_set_self il], by rw [upd_ne aT']; exact hxa, ?_⟩
    have q2 : if sub xN xN = true then wpSs noCall sub hx ⟨fun σ2 st2 => P.nx (setO (some i) none σ2) st2, P.rt, fun _ _ => False, fun _ _ => False, fun _ _ _ => False⟩ (setO (some i) (some (.exc xN)) σd) st2 else P.ex xN σd st2 := q2
    rw [if_pos hsub] at q2
    have q3 := hh _ σd st2 (by rw [r.1]; exact il) q2
    have q3 : P.nx ((σd.set i (some (.exc xN))).set i none) st2 := q3
    rw [List.set_set] at q3
    show D.nx ((σ.set i (some (.ref a))).set i none) _
    rw [List.set_set]
    exact h.nx _ _ _ _ ((((r.step ok s1).un ht hf).step ok2 (step_new nT')).unset i) (ok2.new nT') q3
end
theorem law_sp0 {K : PySem.W.Frag} {G : Prog} {k f : Nat} (h : ∀ ns : List Int, ns.length ≤ 63 → wpFn G k f [.mlst (ns.map .int)] (fun _ => none) (fun d _ => d = .bl true) fun _ _ => False) (H : Hp) (a : Addr) (ns : List Int) (hl : ns.length ≤ 63) (hO : Only H) (hS : SqL K H a (ns.map V.int)) :
    sp0 K (wpFn G k) f [.ref a] H (fun v _ => v = .bl true) fun _ _ _ => False := by
  have hF : FrzL K H a (ns.map V.int) := by
    rcases hS with (e | ⟨o, e⟩) | e
    · rcases hO a with z | ⟨o, xs, z⟩
      · rw [z] at e; cases e
      · rw [z] at e; cases e
    · exact .inl ⟨o, e⟩
    · exact .inr e
  have ri : ∀ ns : List Int, Reps K H (ns.map .int) (ns.map V.int) := fun ns => by
    induction ns with
    | nil => exact .nil
    | cons i r ih => exact .cons (.int i) ih
  refine ⟨[.mlst (ns.map .int)], fun _ => none, fun d _ => d = .bl true, .cons (.mlst hF (ri ns)) .nil, fun a o e => (by cases e), h ns hl, fun v H' d st' _ r q => ?_⟩
  subst q
  exact r.bl_inv
theorem walkL0 {l : PySem.W.OpenLaw} {q : Program} {loose : List Str} {XP : (Str → Option Value) → Heap → Prop} {YP : World → Heap → Prop} {d : DefRec} {K : Params → PySem.W.Frag} {G : Prog} {r k f : Nat} {x : Str} (hr : Room r callerA) (hlaw : ∀ ns : List Int, ns.length ≤ 63 → wpFn G k f [.mlst (ns.map .int)] (fun _ => none) (fun d _ => d = .bl true) fun _ _ => False) (hn : l.most = some 63) (hdf : d.params.defaults = [])
    (hY : ∀ (w : World) (h : Heap), YP w h → (K w.params).In h)
    (F : ∀ (w : World) (mg : Str → Option Value) (fa : Addr) (h : Heap), (K w.params).In h → h.Ns mainGlobals mg → mg d.name = some (.ref fa) →
      ∃ fd : FuncData, (∀ (s : Shared) (u : Value), BindsTo s fd ⟨[u], []⟩ [(x, u)]) ∧ ∀ base : Heap, (K w.params).In base → base.Ns mainGlobals mg → FnOk l.prog w (K w.params) mg base CX0 r fa fd [x] (sp0 (K w.params) (wpFn G k) f)) :
    PySem.W.WalkO q loose XP YP l.row.toRowW d [] (fun f vs => PySem.call f vs) :=
  L2.walk_of (n := 63) (k := r) (x := x) (CX := fun _ => CX0) (sp := fun w => sp0 (K w.params) (wpFn G k) f) hn (by decide) hdf hr hY F (fun _ H a ns hl hO hS => law_sp0 hlaw H a ns hl hO hS) fun _ _ _ _ _ z => z
end L3
end
section
open L3 PySem
local macro_rules | `(tactic| walk_at "wpe") => `(tactic| simp only [↓e_c, ↓e_v, ↓e_tup, ↓e_lst, ↓e_bin, ↓e_neg, ↓e_cmp, ↓e_chain, ↓e_and, ↓e_or, ↓e_not, ↓e_ite, ↓e_call, ↓e_callx, ↓e_mclx, ↓e_bi, ↓e_isi, ↓e_meth, ↓e_ix, ↓e_sl, ↓e_bit, ↓e_comp, ↓e_fld, ↓e_mk, ↓e_mcl, ↓e_dnew, ↓e_din, ↓e_dix, ↓tg_fl, ↓tg_dk, ↓es_nil, ↓es_cons, ↓t_nil, ↓t_cons, ↓s_exW, ↓s_asgW, ↓s_augW, ↓s_iffW, ↓s_forW, ↓s_retW, ↓s_brkW, ↓s_cntW, ↓s_passW, ↓tg_nm, ↓tg_tp, ↓tg_ix, ↓gv_0, ↓gv_1, ↓gv_2, ↓gv_3, ↓gv_4, ↓gv_5, ↓gv_6, ↓gv_7, ↓gv_8, ↓gv_9, ↓gv_10, ↓gv_11, ↓gv_12, ↓gv_13, ↓tru_bl, ↓tru_non, ↓tru_int, ↓tru_tup, ↓tru_mlst, ↓cmp_eq, ↓cmp_ne, ↓cmp_lt, ↓cmp_le, ↓cmp_gt, ↓cmp_ge, ↓cmp_isN, ↓cmp_isB, ↓cmp_notN, ↓cmp_notB, ↓cmp_in_tup, ↓cmp_in_mdic, ↓cmp_in_str, ↓cmp_nin_tup, ↓cmp_nin_mdic, ↓cmp_nin_str, ↓add_int, ↓add_str, ↓add_tup, ↓add_ref, ↓sub_int, ↓mul_int, ↓mul_tup, ↓fdiv_int, ↓mod_int, ↓pow_int, ↓neg_int, ↓isi_one, ↓isi_two, isOne, ↓ix_tup, ↓ix_mlst, ↓ix_str, ↓ix_mdic, at_0, at_1, at_2, at_3, at_4, ↓optK_some, ↓optK_none, ↓part_0, ↓part_1, ↓sl_tup, ↓sl_ref, cut_1, ↓itr_val, ↓iter_tup, ↓iter_str, ↓iter_mlst, ↓iter_ref, ↓seq_tup, ↓seq_ref, ↓seq_mlst, ↓itr_range1, ↓itr_range2, ↓itr_rev, ↓bi_len, ↓len_tup, ↓len_mlst, ↓len_str, ↓len_ref, ↓bi_all, ↓bi_any, ↓bi_max2, ↓bi_max, ↓bi_min, ↓bi_sum, ↓bi_list, ↓bi_tuple, ↓bi_int, ↓bi_intb, ↓bi_lenset, ↓it_all, ↓it_any, ↓it_list, ↓it_tuple, ↓it_sum, ↓own_tup, ↓own_ref, ↓rcv_append, ↓rcv_extend, ↓rcv_pop, ↓mt_append, ↓sl_str, ↓mul_str, ↓rcv_join, ↓rcv_startswith, ↓rcv_get, ↓mt_join, ↓mt_startswith, ↓mt_get, ↓s_raisW, ↓mt_extend, ↓mt_pop, ↓set_ref, ↓bind_1, ↓bind_t, List.map_cons, List.map_nil, List.cons_append, List.nil_append, List.replicate, List.append_nil, if_true, if_false, Bool.not_true, Bool.not_false, Bool.false_eq_true, reduceIte, List.set_cons_zero, List.set_cons_succ, true_and, and_true, plainS_str, plainS_int, plainS_bl, plainS_non, plain_str, plain_int, plain_bl, plain_non, eqS_str, eqS_int, eqS_bl, eqD_str, Option.getD_some, List.getElem?_cons_zero, List.getElem?_cons_succ, decide_eq_true_eq, Bool.and_eq_true, List.zip_cons_cons, List.zip_nil_left, List.zip_nil_right, List.foldl_cons, List.foldl_nil, List.length_cons, List.length_nil])
local macro_rules | `(tactic| walk_at "st") => `(tactic| ((try dsimp only); (first | refine wpSs_c ?_ | rw [wpSs_cons]); (try walk_at "wpe")))
local macro_rules | `(tactic| walk_at "ex") => `(tactic| ((try dsimp only); (try walk_at "wpe")))
section
namespace L3
open PySem
theorem wpFn_at {G : Prog} {f k : Nat} {fn : Fn} {ds : List D} {st : Store} {Q : VK} {E : XK} (h : G.fns f = some fn) : wpFn G (k + 1) f ds st Q E = (ds.length = fn.np ∧ wpSs (wpFn G k) G.sub fn.body ⟨fun _ st' => Q .non st', Q, fun _ _ => False, fun _ _ => False, fun c _ st' => E c st'⟩ (start fn.np fn.nl ds) st) := by
  simp only [wpFn, h]
noncomputable def Keep (as : List Nat) (st st' : Store) : Prop := ∀ a o, a ∉ as → st a = some o → st' a = some o
theorem Keep.refl {as : List Nat} {st : Store} : Keep as st st := fun _ _ _ h => h
theorem Keep.trans {as : List Nat} {a b c : Store} (h : Keep as a b) (h' : Keep as b c) : Keep as a c := fun x o n e => h' x o n (h x o n e)
theorem Keep.mono {as bs : List Nat} {st st' : Store} (h : Keep as st st') (s : ∀ a ∈ as, a ∈ bs) : Keep bs st st' := fun x o n e => h x o (fun z => n (s x z)) e
theorem Ext.keep {as : List Nat} {st st' : Store} (h : Ext st st') : Keep as st st' := fun x o _ e => h x o e
theorem Keep.put {as : List Nat} {st : Store} {a : Nat} {o : MO} (h : a ∈ as) : Keep as st (put st a o) := fun x u n e => by rw [put_ne (fun z => n (by rw [z]; exact h))]; exact e
noncomputable def cellV (ns : List Int) (k : Int) : Int := if k < ns.length then (ns[k.toNat]?).getD 0 else if ns = [] then 0 else (ns[(k % ns.length).toNat]?).getD 0 * 31 + k
noncomputable def mixV (ns : List Int) (k many : Int) : Int :=
  let d := (cellV ns k + 7919 * k + 1) * 48271 % 2147483647
  (d * d + 7 * d + k) % 2147483629 % many
theorem mixV_lo {ns : List Int} {k many : Int} (h : 0 < many) : 0 ≤ mixV ns k many := Int.emod_nonneg _ (by omega)
theorem mixV_hi {ns : List Int} {k many : Int} (h : 0 < many) : mixV ns k many < many := Int.emod_lt_of_pos _ h
noncomputable def hCell : Fn := ⟨2, 2, [.iff (.cmp .lt (.v 1) (.bi .len [(.v 0)])) [.ret (.ix (.v 0) (.v 1))] [], .iff (.cmp .eq (.v 0) (.lst [])) [.ret (.c (.int 0))] [],
  .ret (.bin .add (.bin .mul (.ix (.v 0) (.bin .mod (.v 1) (.bi .len [(.v 0)]))) (.c (.int 31))) (.v 1))]⟩
noncomputable def hMixed (ic : Nat) : Fn := ⟨3, 4, [.asg (.nm 3) (.bin .mod (.bin .mul (.bin .add (.bin .add (.call ic [(.v 0), (.v 1)]) (.bin .mul (.c (.int 7919)) (.v 1))) (.c (.int 1))) (.c (.int 48271))) (.c (.int 2147483647))),
  .ret (.bin .mod (.bin .mod (.bin .add (.bin .add (.bin .mul (.v 3) (.v 3)) (.bin .mul (.c (.int 7)) (.v 3))) (.v 1)) (.c (.int 2147483629))) (.v 2))]⟩
noncomputable def hNext (im : Nat) : Fn := ⟨3, 3, [.asg (.ix (.v 1) (.c (.int 0))) (.bin .add (.ix (.v 1) (.c (.int 0))) (.c (.int 1))), .ret (.call im [(.v 0), (.ix (.v 1) (.c (.int 0))), (.v 2)])]⟩
theorem plain_ints (ns : List Int) : pureDs (ns.map .int) = true ∧ depDs (ns.map .int) = 0 := by
  induction ns with
  | nil => exact ⟨rfl, rfl⟩
  | cons n r ih => exact ⟨by simp only [List.map_cons, pureDs, pureD, ih.1, Bool.and_self], by simp only [List.map_cons, depDs, depD, ih.2, Nat.max_self]⟩
theorem at_ints {ns : List Int} {k : Int} (h0 : 0 ≤ k) (h1 : k < ns.length) : atI (ns.map D.int) k = some (.int ((ns[k.toNat]?).getD 0)) := by
  obtain ⟨n, rfl⟩ : ∃ n : Nat, k = n := ⟨k.toNat, by omega⟩
  rw [atI_nat (by simp; omega)]
  simp only [List.getElem?_map, Int.toNat_natCast]
  rw [List.getElem?_eq_getElem (by omega)]
  rfl
section
variable {G : Prog} {k ic im inx : Nat} {st : Store} {Q : VK} {E : XK} {ns : List Int}
theorem cell_ok (hc : G.fns ic = some hCell) {i : Int} (hi : 0 ≤ i) (hQ : ∀ st', Ext st st' → Q (.int (cellV ns i)) st') : wpFn G (k + 1) ic [.mlst (ns.map .int), .int i] st Q E := by
  rw [wpFn_at hc]
  simp only [hCell, start]
  refine ⟨rfl, ?_⟩
  refine wpSs_c ?_
  walk_at "wpe"
  simp only [List.length_map]
  by_cases h : i < ns.length
  · simp only [h, decide_true, if_true]
    refine wpSs_c ?_
    walk_at "wpe"
    rw [at_ints hi h]
    walk_at "wpe"
    have := hQ st .refl
    simp only [cellV, h, if_true] at this
    exact this
  · simp only [h, decide_false, Bool.false_eq_true, if_false, wpSs_nil]
    refine wpSs_c ?_
    walk_at "wpe"
    refine ⟨Nat.zero_le _, fun p hp => ?_⟩
    have hx : Ext st (put st p (.lst [])) := Ext.new hp
    dsimp only
    have e1 : eqS (put st p (.lst [])) (.mlst (ns.map .int)) (.ref p) = ns.isEmpty := by
      simp only [eqS, put_same, eqO]
      cases ns with
      | nil => rfl
      | cons n r => rfl
    rw [e1]
    refine ⟨⟨?_, Nat.zero_le _⟩, ⟨?_, Nat.zero_le _⟩, ?_⟩
    · simp only [pureS, (plain_ints ns).1, (plain_ints ns).2, Bool.true_and]; rfl
    · simp only [pureS, put_same, okL]; rfl
    cases ns with
    | nil =>
      simp only [List.isEmpty_nil, if_true]
      refine wpSs_c ?_
      walk_at "wpe"
      have := hQ _ hx
      simp only [cellV, h, if_false, if_true] at this
      exact this
    | cons n r =>
      simp only [List.isEmpty_cons, Bool.false_eq_true, if_false, wpSs_nil]
      refine wpSs_c ?_
      have hl : (0 : Int) < ((n :: r).length : Int) := by simp only [List.length_cons]; omega
      simp only [s_retW, e_bin, e_ix, e_v, e_c, e_bi, es_cons, es_nil, getV_0, getV_s, bi_len, len_mlst, mod_int, ix_mlst, List.length_map, List.map_cons, List.cons_append, List.nil_append, List.map_nil]
      refine ⟨by simpa using hl, ?_⟩
      have hm0 : 0 ≤ i % ((n :: r).length : Int) := Int.emod_nonneg _ (by omega)
      have hm1 : i % ((n :: r).length : Int) < (n :: r).length := Int.emod_lt_of_pos _ hl
      have := at_ints (ns := n :: r) hm0 hm1
      simp only [List.map_cons, List.length_cons] at this
      simp only [List.length_cons, List.length_map]
      rw [this]
      walk_at "wpe"
      refine ⟨.inr ⟨by omega, by omega⟩, ?_⟩
      have := hQ _ hx
      simp only [cellV, h, if_false] at this
      simpa using this
theorem mixed_ok (hm : G.fns im = some (hMixed ic)) (hc : G.fns ic = some hCell) {i many : Int} (hi : 0 ≤ i) (hmany : 0 < many) (hQ : ∀ st', Ext st st' → Q (.int (mixV ns i many)) st') : wpFn G (k + 2) im [.mlst (ns.map .int), .int i, .int many] st Q E := by
  rw [wpFn_at hm]
  simp only [hMixed, start]
  refine ⟨rfl, ?_⟩
  refine wpSs_c ?_
  walk_at "wpe"
  refine cell_ok hc hi fun st' e => ?_
  walk_at "wpe"
  refine ⟨.inl ⟨by omega, by omega⟩, .inr ⟨by omega, by omega⟩, by omega, ?_⟩
  refine wpSs_c ?_
  walk_at "wpe"
  have d0 : 0 ≤ (cellV ns i + 7919 * i + 1) * 48271 % 2147483647 := Int.emod_nonneg _ (by omega)
  have d1 : (cellV ns i + 7919 * i + 1) * 48271 % 2147483647 < 2147483647 := Int.emod_lt_of_pos _ (by omega)
  refine ⟨.inl ⟨by omega, by omega⟩, .inl ⟨by omega, by omega⟩, by omega, hmany, ?_⟩
  exact hQ st' e
theorem next_ok (hn : G.fns inx = some (hNext im)) (hm : G.fns im = some (hMixed ic)) (hc : G.fns ic = some hCell) {a : Nat} {i many : Int} (ha : st a = some (.lst [.int i])) (hi : 0 ≤ i) (hmany : 0 < many)
    (hQ : ∀ st', Keep [a] st st' → st' a = some (.lst [.int (i + 1)]) → Q (.int (mixV ns (i + 1) many)) st') : wpFn G (k + 3) inx [.mlst (ns.map .int), .ref a, .int many] st Q E := by
  rw [wpFn_at hn]
  simp only [hNext, start]
  refine ⟨rfl, ?_⟩
  refine wpSs_c ?_
  walk_at "wpe"
  rw [ix_lst ha]
  walk_at "wpe"
  rw [lstAt_lst ha]
  have e0 : ixN [D.int i].length 0 = some 0 := rfl
  simp only [e0, optK_some, List.set_cons_zero]
  refine wpSs_c ?_
  walk_at "wpe"
  rw [ix_lst put_same]
  walk_at "wpe"
  refine mixed_ok hm hc (by omega) hmany fun st' e => ?_
  refine hQ st' (fun x o n h => e x o (by rw [put_ne (by simpa using n)]; exact h)) (e a _ put_same)
end
end L3
end
section
namespace L3
open PySem
inductive W1 where
  | not | before | once | sofar
  deriving DecidableEq
inductive W2 where
  | and | or | thn | same | since
  deriving DecidableEq
inductive Sy where
  | yes | no | lamp (n : List Nat) | one (w : W1) (s : Sy) | two (w : W2) (s t : Sy)
  deriving DecidableEq
noncomputable def c1 : W1 → List Nat
  | .not => W "not"
  | .before => W "before"
  | .once => W "once"
  | .sofar => W "sofar"
noncomputable def c2 : W2 → List Nat
  | .and => W "and"
  | .or => W "or"
  | .thn => W "then"
  | .same => W "same"
  | .since => W "since"
noncomputable def toD : Sy → D
  | .yes => .tup [.str (W "yes")]
  | .no => .tup [.str (W "no")]
  | .lamp n => .tup [.str (W "lamp"), .str n]
  | .one w s => .tup [.str (c1 w), toD s]
  | .two w s t => .tup [.str (c2 w), toD s, toD t]
noncomputable def dep : Sy → Nat
  | .one _ s => dep s + 1
  | .two _ s t => max (dep s) (dep t) + 1
  | _ => 1
noncomputable def p1 : W1 → Bool
  | .not => false
  | _ => true
noncomputable def p2 : W2 → Bool
  | .since => true
  | _ => false
noncomputable def cnt : Sy → Nat
  | .one w s => (if p1 w then 1 else 0) + cnt s
  | .two w s t => (if p2 w then 1 else 0) + (cnt s + cnt t)
  | _ => 0
noncomputable def over (names : List (List Nat)) : Sy → Prop
  | .lamp n => n ∈ names
  | .one _ s => over names s
  | .two _ s t => over names s ∧ over names t
  | _ => True
theorem toD_pure : ∀ s : Sy, pureD (toD s) = true
  | .yes => rfl
  | .no => rfl
  | .lamp n => rfl
  | .one w s => by simp only [toD, pureD, pureDs, toD_pure s, Bool.and_self]
  | .two w s t => by simp only [toD, pureD, pureDs, toD_pure s, toD_pure t, Bool.and_self]
theorem toD_dep : ∀ s : Sy, depD (toD s) = dep s
  | .yes => rfl
  | .no => rfl
  | .lamp n => rfl
  | .one w s => by simp only [toD, depD, depDs, toD_dep s, dep]; omega
  | .two w s t => by simp only [toD, depD, depDs, toD_dep s, toD_dep t, dep]; omega
noncomputable def hSaying (inx is : Nat) : Fn := ⟨5, 7, [.asg (.nm 5) (.call inx [(.v 0), (.v 1), (.c (.int 13))]), .iff (.or_ (.cmp .eq (.v 3) (.c (.int 0))) (.cmp .lt (.v 5) (.c (.int 3)))) [.ret (.tup [(.c (.str (W "lamp"))), (.ix (.v 2) (.call inx [(.v 0), (.v 1), (.bi .len [(.v 2)])]))])] [], .iff (.cmp .eq (.v 5) (.c (.int 3))) [.ret (.tup [(.ix (.lst [(.c (.str (W "yes"))), (.c (.str (W "no")))]) (.call inx [(.v 0), (.v 1), (.c (.int 2))]))])] [], .iff (.and_ (.cmp .gt (.v 5) (.c (.int 8))) (.cmp .gt (.ix (.v 4) (.c (.int 0))) (.c (.int 0)))) [.asg (.ix (.v 4) (.c (.int 0))) (.bin .sub (.ix (.v 4) (.c (.int 0))) (.c (.int 1))), .asg (.nm 6) (.call is [(.v 0), (.v 1), (.v 2), (.bin .sub (.v 3) (.c (.int 1))), (.v 4)]), .iff (.cmp .eq (.v 5) (.c (.int 12))) [.ret (.tup [(.c (.str (W "since"))), (.v 6), (.call is [(.v 0), (.v 1), (.v 2), (.bin .sub (.v 3) (.c (.int 1))), (.v 4)])])] [], .ret (.tup [(.ix (.lst [(.c (.str (W "before"))), (.c (.str (W "once"))), (.c (.str (W "sofar")))]) (.bin .sub (.v 5) (.c (.int 9)))), (.v 6)])] [], .asg (.nm 6) (.call is [(.v 0), (.v 1), (.v 2), (.bin .sub (.v 3) (.c (.int 1))), (.v 4)]), .iff (.or_ (.cmp .eq (.v 5) (.c (.int 4))) (.cmp .gt (.v 5) (.c (.int 8)))) [.ret (.tup [(.c (.str (W "not"))), (.v 6)])] [], .ret (.tup [(.ix (.lst [(.c (.str (W "and"))), (.c (.str (W "or"))), (.c (.str (W "then"))), (.c (.str (W "same")))]) (.bin .sub (.v 5) (.c (.int 5)))), (.v 6), (.call is [(.v 0), (.v 1), (.v 2), (.bin .sub (.v 3) (.c (.int 1))), (.v 4)])])]⟩
noncomputable def Drawn (a b : Nat) (i l : Int) (st st' : Store) (i' l' : Int) : Prop := Keep [a, b] st st' ∧ 0 ≤ i' ∧ st' a = some (.lst [.int i']) ∧ st' b = some (.lst [.int l'])
section
variable {G : Prog} {k ic im inx is : Nat} {st : Store} {Q : VK} {E : XK} {ns : List Int}
theorem at_strs {xs : List (List Nat)} {v : Int} (h0 : 0 ≤ v) (h1 : v < xs.length) : ∃ x ∈ xs, atI (xs.map D.str) v = some (.str x) := by
  obtain ⟨n, rfl⟩ : ∃ n : Nat, v = n := ⟨v.toNat, by omega⟩
  have h : n < xs.length := by omega
  refine ⟨xs[n], List.getElem_mem h, ?_⟩
  rw [atI_nat (by simpa using h)]
  simp only [List.getElem?_map]
  rw [List.getElem?_eq_getElem h]
  rfl
theorem ixN_0 {d : D} {r : List D} : ixN (d :: r).length 0 = some 0 := by
  unfold ixN
  rw [if_pos (by omega), if_pos (by simp only [List.length_cons]; omega)]
  rfl
theorem newE {ds : List D} {Q : VK} (hl : ds.length ≤ LINE) (h : ∀ p st', Ext st st' → st p = none → st' p = some (.lst ds) → Q (.ref p) st') : newL ds st Q := ⟨hl, fun p hp => h p _ (Ext.new hp) hp put_same⟩
theorem saying_ok (hs : G.fns is = some (hSaying inx is)) (hn : G.fns inx = some (hNext im)) (hm : G.fns im = some (hMixed ic)) (hc : G.fns ic = some hCell) {names : List (List Nat)} (hnm : 0 < names.length) {a b : Nat} (hab : a ≠ b) :
    ∀ (n : Nat) {st : Store} {Q : VK} {E : XK} {i l : Int}, st a = some (.lst [.int i]) → st b = some (.lst [.int l]) → 0 ≤ i → 0 ≤ l →
      (∀ s st' i', over names s → dep s ≤ n + 1 → (cnt s : Int) ≤ l → Keep [a, b] st st' → 0 ≤ i' → st' a = some (.lst [.int i']) → st' b = some (.lst [.int (l - cnt s)]) → Q (toD s) st') →
      wpFn G (k + n + 4) is [.mlst (ns.map .int), .ref a, .tup (names.map .str), .int n, .ref b] st Q E := by
  intro n
  have lamp : ∀ {n : Nat} {st : Store} {Q : VK} {E : XK} {i l : Int} {K : Nat} {P : Post} {r : St}, st a = some (.lst [.int i]) → st b = some (.lst [.int l]) → 0 ≤ i → 0 ≤ l →
      (∀ s st' i', over names s → dep s ≤ n + 1 → (cnt s : Int) ≤ l → Keep [a, b] st st' → 0 ≤ i' → st' a = some (.lst [.int i']) → st' b = some (.lst [.int (l - cnt s)]) → P.rt (toD s) st') →
      wpSs (wpFn G (K + 3)) G.sub [.ret (.tup [(.c (.str (W "lamp"))), (.ix (.v 2) (.call inx [(.v 0), (.v 1), (.bi .len [(.v 2)])]))])] P (some (.mlst (ns.map .int)) :: some (.ref a) :: some (.tup (names.map .str)) :: r) st := by
    intro n st Q E i l K P r ha hb hi hl hQ
    walk_at "st"
    simp only [List.length_map]
    refine next_ok hn hm hc ha hi (by omega) fun st1 k1 a1 => ?_
    walk_at "ex"
    obtain ⟨x, hx, e⟩ := at_strs (xs := names) (mixV_lo (ns := ns) (k := i + 1) (many := names.length) (by omega)) (mixV_hi (by omega))
    rw [e]
    walk_at "ex"
    have b1 : st1 b = some (.lst [.int l]) := k1 b _ (by simpa using hab.symm) hb
    exact hQ (.lamp x) st1 (i + 1) hx (by simp [dep]) (by simp [cnt]; omega) (k1.mono (by simp)) (by omega) a1 (by simpa [cnt] using b1)
  induction n with
  | zero =>
    intro st Q E i l ha hb hi hl hQ
    rw [wpFn_at hs]
    simp only [hSaying, start]
    refine ⟨rfl, ?_⟩
    walk_at "st"
    refine next_ok hn hm hc ha hi (by omega) fun st1 k1 a1 => ?_
    walk_at "st"
    simp only [Int.natCast_zero, beq_self_eq_true, if_true]
    have b1 : st1 b = some (.lst [.int l]) := k1 b _ (by simpa using hab.symm) hb
    have kk : Keep [a, b] st st1 := k1.mono (by simp)
    exact lamp (n := 0) (Q := Q) (E := E) a1 b1 (by omega) hl fun s st' i' h1 h2 h3 h4 h5 h6 h7 => hQ s st' i' h1 h2 h3 (kk.trans h4) h5 h6 h7
  | succ n ih =>
    intro st Q E i l ha hb hi hl hQ
    rw [wpFn_at hs]
    simp only [hSaying, start]
    refine ⟨rfl, ?_⟩
    walk_at "st"
    refine next_ok hn hm hc ha hi (by omega) fun st1 k1 a1 => ?_
    have v0 := mixV_lo (ns := ns) (k := i + 1) (many := 13) (by omega)
    have v1 := mixV_hi (ns := ns) (k := i + 1) (many := 13) (by omega)
    generalize mixV ns (i + 1) 13 = v at v0 v1
    have b1 : st1 b = some (.lst [.int l]) := k1 b _ (by simpa using hab.symm) hb
    have kk : Keep [a, b] st st1 := k1.mono (by simp)
    have hn0 : (((n + 1 : Nat) : Int) == 0) = false := by rw [beq_eq_false_iff_ne]; omega
    have hn1 : ((n + 1 : Nat) : Int) - 1 = (n : Int) := by omega
    walk_at "st"
    simp only [hn0, Bool.false_eq_true, if_false]
    by_cases h3 : v < 3
    · simp only [h3, decide_true, if_true]
      exact lamp (n := n + 1) (Q := Q) (E := E) a1 b1 (by omega) hl fun s st' i' h1 h2 h3 h4 h5 h6 h7 => hQ s st' i' h1 h2 h3 (kk.trans h4) h5 h6 h7
    simp only [h3, decide_false, Bool.false_eq_true, if_false, wpSs_nil]
    walk_at "st"
    by_cases e3 : v = 3
    · subst e3
      simp only [beq_self_eq_true, if_true]
      walk_at "st"
      refine newE (by decide) fun p st2 x2 hp hp2 => ?_
      walk_at "ex"
      have pa : p ≠ a := fun z => by rw [z, a1] at hp; cases hp
      have pb : p ≠ b := fun z => by rw [z, b1] at hp; cases hp
      refine next_ok hn hm hc (x2 a _ a1) (by omega) (by omega) fun st3 k3 a3 => ?_
      walk_at "ex"
      have w0 := mixV_lo (ns := ns) (k := i + 1 + 1) (many := 2) (by omega)
      have w1 := mixV_hi (ns := ns) (k := i + 1 + 1) (many := 2) (by omega)
      generalize mixV ns (i + 1 + 1) 2 = w at w0 w1
      rw [ix_lst (k3 p _ (by simpa using pa) hp2)]
      have b3 : st3 b = some (.lst [.int l]) := k3 b _ (by simpa using hab.symm) (x2 b _ b1)
      have kk3 : Keep [a, b] st st3 := (kk.trans x2.keep).trans (k3.mono (by simp))
      obtain rfl | rfl : w = 0 ∨ w = 1 := by omega
      · walk_at "ex"
        exact hQ .yes st3 _ trivial (by simp [dep]) (by simp [cnt]; omega) kk3 (by omega) a3 (by simpa [cnt] using b3)
      · walk_at "ex"
        exact hQ .no st3 _ trivial (by simp [dep]) (by simp [cnt]; omega) kk3 (by omega) a3 (by simpa [cnt] using b3)
    have e3' : (v == 3) = false := by rw [beq_eq_false_iff_ne]; exact e3
    simp only [e3', Bool.false_eq_true, if_false, wpSs_nil]
    walk_at "st"
    have plain : ∀ {P : Post}, (∀ s st' i', over names s → dep s ≤ n + 1 + 1 → (cnt s : Int) ≤ l → Keep [a, b] st st' → 0 ≤ i' → st' a = some (.lst [.int i']) → st' b = some (.lst [.int (l - cnt s)]) → P.rt (toD s) st') →
        wpSs (wpFn G (k + n + 4)) G.sub [.asg (.nm 6) (.call is [(.v 0), (.v 1), (.v 2), (.bin .sub (.v 3) (.c (.int 1))), (.v 4)]), .iff (.or_ (.cmp .eq (.v 5) (.c (.int 4))) (.cmp .gt (.v 5) (.c (.int 8)))) [.ret (.tup [(.c (.str (W "not"))), (.v 6)])] [], .ret (.tup [(.ix (.lst [(.c (.str (W "and"))), (.c (.str (W "or"))), (.c (.str (W "then"))), (.c (.str (W "same")))]) (.bin .sub (.v 5) (.c (.int 5)))), (.v 6), (.call is [(.v 0), (.v 1), (.v 2), (.bin .sub (.v 3) (.c (.int 1))), (.v 4)])])] P [some (.mlst (ns.map .int)), some (.ref a), some (.tup (names.map .str)), some (.int ((n + 1 : Nat) : Int)), some (.ref b), some (.int v), none] st1 := by
      intro P hQ
      walk_at "st"
      rw [hn1]
      refine ih a1 b1 (by omega) hl fun s1 st2 i2 o1 d1 cc1 k2 hi2 a2 b2 => ?_
      walk_at "st"
      have hor : ((v == 4) || decide (8 < v)) = true ∨ (v = 5 ∨ v = 6 ∨ v = 7 ∨ v = 8) := by
        by_cases q : v = 4
        · left; simp [q]
        · by_cases q' : 8 < v
          · left; simp [q']
          · right; omega
      rcases hor with hor | hor
      · have go : wpSs (wpFn G (k + n + 4)) G.sub [.ret (.tup [.c (.str (W "not")), .v 6])] { P with nx := wpSs (wpFn G (k + n + 4)) G.sub [.ret (.tup [(.ix (.lst [(.c (.str (W "and"))), (.c (.str (W "or"))), (.c (.str (W "then"))), (.c (.str (W "same")))]) (.bin .sub (.v 5) (.c (.int 5)))), (.v 6), (.call is [(.v 0), (.v 1), (.v 2), (.bin .sub (.v 3) (.c (.int 1))), (.v 4)])])] P } [some (.mlst (ns.map .int)), some (.ref a), some (.tup (names.map .str)), some (.int ((n + 1 : Nat) : Int)), some (.ref b), some (.int v), some (toD s1)] st2 := by
          walk_at "st"
          exact hQ (.one .not s1) st2 i2 o1 (by simp only [dep]; omega) (by simp [cnt, p1]; omega) (kk.trans k2) hi2 a2 (by simpa [cnt, p1] using b2)
        by_cases q : v = 4
        · simp only [q, beq_self_eq_true, if_true]
          rw [q] at go; exact go
        · have q1 : (v == 4) = false := by rw [beq_eq_false_iff_ne]; exact q
          have q2 : 8 < v := by simpa [q1] using hor
          simp only [q1, q2, Bool.false_eq_true, if_false, if_true]
          exact go
      · have q1 : (v == 4) = false := by rw [beq_eq_false_iff_ne]; omega
        have q2 : ¬ 8 < v := by omega
        simp only [q1, q2, Bool.false_eq_true, if_false, wpSs_nil]
        walk_at "st"
        refine newE (by decide) fun p st3 x3 hp hp3 => ?_
        walk_at "ex"
        rw [ix_lst hp3]
        have pa : p ≠ a := fun z => by rw [z, a2] at hp; cases hp
        have pb : p ≠ b := fun z => by rw [z, b2] at hp; cases hp
        have step : ∀ w : W2, p2 w = false → ∀ {Q : VK}, (∀ s st' i', over names s → dep s ≤ n + 1 + 1 → (cnt s : Int) ≤ l → Keep [a, b] st st' → 0 ≤ i' → st' a = some (.lst [.int i']) → st' b = some (.lst [.int (l - cnt s)]) → Q (toD s) st') →
            wpFn G (k + n + 4) is [.mlst (ns.map .int), .ref a, .tup (names.map .str), .int (((n + 1 : Nat) : Int) - 1), .ref b] st3 (fun d st' => Q (.tup [.str (c2 w), toD s1, d]) st') fun _ _ => False := by
          intro w hw Q hQ
          rw [hn1]
          refine ih (x3 a _ a2) (x3 b _ b2) hi2 (by omega) fun s2 st4 i4 o2 d2 c2' k4 hi4 a4 b4 => ?_
          refine hQ (.two w s1 s2) st4 i4 ⟨o1, o2⟩ (by simp only [dep]; omega) (by simp only [cnt, hw]; simp; omega) ((kk.trans k2).trans (x3.keep.trans k4)) hi4 a4 ?_
          rw [b4]; simp only [cnt, hw]; simp; omega
        rcases hor with rfl | rfl | rfl | rfl
        · walk_at "ex"; exact step .and rfl hQ
        · walk_at "ex"; exact step .or rfl hQ
        · walk_at "ex"; exact step .thn rfl hQ
        · walk_at "ex"; exact step .same rfl hQ
    by_cases h8 : 8 < v
    · simp only [h8, if_true]
      rw [ix_lst b1]
      walk_at "ex"
      by_cases hl0 : 0 < l
      · simp only [hl0, if_true]
        walk_at "st"
        rw [ix_lst b1]
        walk_at "ex"
        rw [lstAt_lst b1]
        simp only [ixN_0, optK_some, List.set_cons_zero]
        have a2 : (put st1 b (.lst [.int (l - 1)])) a = some (.lst [.int (i + 1)]) := by rw [put_ne hab]; exact a1
        have kp : Keep [a, b] st (put st1 b (.lst [.int (l - 1)])) := kk.trans (Keep.put (by simp))
        walk_at "st"
        rw [hn1]
        refine ih a2 put_same (by omega) (by omega) fun s1 st2 i2 o1 d1 cc1 k2 hi2 a3 b3 => ?_
        walk_at "st"
        by_cases e12 : v = 12
        · simp only [e12, beq_self_eq_true, if_true]
          walk_at "st"
          rw [hn1]
          refine ih a3 b3 hi2 (by omega) fun s2 st4 i4 o2 d2 c2' k4 hi4 a4 b4 => ?_
          refine hQ (.two .since s1 s2) st4 i4 ⟨o1, o2⟩ (by simp only [dep]; omega) (by simp [cnt, p2]; omega) ((kp.trans k2).trans k4) hi4 a4 ?_
          rw [b4]; simp [cnt, p2]; omega
        · have e12' : (v == 12) = false := by rw [beq_eq_false_iff_ne]; exact e12
          simp only [e12', Bool.false_eq_true, if_false, wpSs_nil]
          walk_at "st"
          refine newE (by decide) fun p st3 x3 hp hp3 => ?_
          walk_at "ex"
          rw [ix_lst hp3]
          have fin : ∀ w : W1, p1 w = true → Q (.tup [.str (c1 w), toD s1]) st3 := fun w hw => by
            refine hQ (.one w s1) st3 i2 o1 (by simp only [dep]; omega) (by simp [cnt, hw]; omega) ((kp.trans k2).trans x3.keep) hi2 (x3 _ _ a3) ?_
            rw [x3 _ _ b3]; simp [cnt, hw]; omega
          obtain rfl | rfl | rfl : v = 9 ∨ v = 10 ∨ v = 11 := by omega
          · walk_at "ex"; exact fin .before rfl
          · walk_at "ex"; exact fin .once rfl
          · walk_at "ex"; exact fin .sofar rfl
      · simp only [hl0, if_false, wpSs_nil]
        exact plain hQ
    · simp only [h8, if_false, wpSs_nil]
      exact plain hQ
end
end L3
end
section
namespace L3
open PySem
noncomputable def some8 : List (List Nat) := [W "a", W "b", W "x", W "y", W "lamp", W "far", W "yesno", W "abcdefgh"]
noncomputable def okNames (fs gs : List (List Nat)) : Bool := decide (1 ≤ fs.length) && decide (fs.length ≤ 2) && decide (1 ≤ gs.length) && decide (gs.length ≤ 2) && decide ((fs ++ gs).Nodup) && (fs ++ gs).all fun n => some8.contains n
noncomputable def rowV (t : Int) : List (List Nat) := cut some8 (some t) none ++ cut some8 none (some t)
theorem names_chk : ∀ (t : Fin 8) (f g : Fin 2), okNames (cut (rowV (t.val : Nat)) none (some (1 + (f.val : Nat)))) (cut (rowV (t.val : Nat)) (some (1 + (f.val : Nat))) (some (1 + (f.val : Nat) + (1 + (g.val : Nat))))) = true := by decide +kernel
theorem names_ok1 {t f g : Int} (h0 : 0 ≤ t) (h1 : t < 8) (h2 : 0 ≤ f) (h3 : f < 2) (h4 : 0 ≤ g) (h5 : g < 2) : okNames (cut (rowV t) none (some (1 + f))) (cut (rowV t) (some (1 + f)) (some (1 + f + (1 + g)))) = true := by
  have := names_chk ⟨t.toNat, by omega⟩ ⟨f.toNat, by omega⟩ ⟨g.toNat, by omega⟩
  simp only [Int.toNat_of_nonneg h0, Int.toNat_of_nonneg h2, Int.toNat_of_nonneg h4] at this
  exact this
theorem cut_map {α β : Type} (f : α → β) (xs : List α) (lo hi : Option Int) : cut (xs.map f) lo hi = (cut xs lo hi).map f := by
  simp only [cut, List.length_map, List.map_take, List.map_drop]
noncomputable def hNames (inx : Nat) : Fn := ⟨2, 7, [.asg (.nm 2) (.lst [(.c (.str (W "a"))), (.c (.str (W "b"))), (.c (.str (W "x"))), (.c (.str (W "y"))), (.c (.str (W "lamp"))), (.c (.str (W "far"))), (.c (.str (W "yesno"))), (.c (.str (W "abcdefgh")))]), .asg (.nm 3) (.call inx [(.v 0), (.v 1), (.c (.int 8))]), .asg (.nm 4) (.bin .add (.sl (.v 2) [(.v 3)] []) (.sl (.v 2) [] [(.v 3)])), .asg (.nm 5) (.bin .add (.c (.int 1)) (.call inx [(.v 0), (.v 1), (.c (.int 2))])), .asg (.nm 6) (.bin .add (.c (.int 1)) (.call inx [(.v 0), (.v 1), (.c (.int 2))])), .ret (.tup [(.bi .tuple [(.sl (.v 4) [] [(.v 5)])]), (.bi .tuple [(.sl (.v 4) [(.v 5)] [(.bin .add (.v 5) (.v 6))])])])]⟩
section
variable {G : Prog} {k ic im inx is : Nat} {st : Store} {Q : VK} {E : XK} {ns : List Int}
theorem names_ok {inm : Nat} (hm' : G.fns inm = some (hNames inx)) (hn : G.fns inx = some (hNext im)) (hm : G.fns im = some (hMixed ic)) (hc : G.fns ic = some hCell) {a : Nat} {i : Int} (ha : st a = some (.lst [.int i])) (hi : 0 ≤ i)
    (hQ : ∀ fs gs st' i', okNames fs gs = true → Keep [a] st st' → 0 ≤ i' → st' a = some (.lst [.int i']) → Q (.tup [.tup (fs.map .str), .tup (gs.map .str)]) st') :
    wpFn G (k + 4) inm [.mlst (ns.map .int), .ref a] st Q E := by
  have hL : LINE = 16777216 := rfl
  rw [wpFn_at hm']
  simp only [hNames, start]
  refine ⟨rfl, ?_⟩
  walk_at "st"
  refine newE (by decide) fun p st1 x1 hp hp1 => ?_
  have pa : p ≠ a := fun z => by rw [z, ha] at hp; cases hp
  walk_at "st"
  refine next_ok hn hm hc (x1 a _ ha) hi (by omega) fun st2 k2 a2 => ?_
  have t0 := mixV_lo (ns := ns) (k := i + 1) (many := 8) (by omega)
  have t1 := mixV_hi (ns := ns) (k := i + 1) (many := 8) (by omega)
  generalize mixV ns (i + 1) 8 = t at t0 t1
  have p2 := k2 p _ (by simpa using pa) hp1
  walk_at "st"
  rw [lstAt_lst p2]
  intro q hq
  have x3 : Ext st2 (put st2 q (.lst (cut [.str (W "a"), .str (W "b"), .str (W "x"), .str (W "y"), .str (W "lamp"), .str (W "far"), .str (W "yesno"), .str (W "abcdefgh")] (some t) none))) := Ext.new hq
  walk_at "ex"
  rw [lstAt_lst (x3 p _ p2)]
  intro q' hq'
  have x4 := Ext.new (o := .lst (cut [.str (W "a"), .str (W "b"), .str (W "x"), .str (W "y"), .str (W "lamp"), .str (W "far"), .str (W "yesno"), .str (W "abcdefgh")] none (some t))) hq'
  walk_at "ex"
  rw [lstAt_lst (x4 q _ put_same), lstAt_lst put_same]
  have eL : ([.str (W "a"), .str (W "b"), .str (W "x"), .str (W "y"), .str (W "lamp"), .str (W "far"), .str (W "yesno"), .str (W "abcdefgh")] : List D) = some8.map .str := rfl
  have er : cut ([.str (W "a"), .str (W "b"), .str (W "x"), .str (W "y"), .str (W "lamp"), .str (W "far"), .str (W "yesno"), .str (W "abcdefgh")] : List D) (some t) none ++ cut [.str (W "a"), .str (W "b"), .str (W "x"), .str (W "y"), .str (W "lamp"), .str (W "far"), .str (W "yesno"), .str (W "abcdefgh")] none (some t) = (rowV t).map .str := by
    rw [eL, cut_map, cut_map, ← List.map_append]; rfl
  have lr : (rowV t).length ≤ 16 := by
    have l1 := cut_len (xs := some8) (lo := some t) (hi := none)
    have l2 := cut_len (xs := some8) (lo := none) (hi := some t)
    have l3 : some8.length = 8 := rfl
    simp only [rowV, List.length_append]; omega
  rw [er]
  refine newE (by simp only [List.length_map]; omega) fun r st5 x5 hr hr5 => ?_
  have k5 : Keep [a] st st5 := ((x1.keep.trans k2).trans x3.keep).trans (x4.keep.trans x5.keep)
  have a5 : st5 a = some (.lst [.int (i + 1)]) := x5 _ _ (x4 _ _ (x3 _ _ a2))
  have ra : r ≠ a := fun z => by rw [z, x4 _ _ (x3 _ _ a2)] at hr; cases hr
  walk_at "st"
  refine next_ok hn hm hc a5 (by omega) (by omega) fun st6 k6 a6 => ?_
  have f0 := mixV_lo (ns := ns) (k := i + 1 + 1) (many := 2) (by omega)
  have f1 := mixV_hi (ns := ns) (k := i + 1 + 1) (many := 2) (by omega)
  generalize mixV ns (i + 1 + 1) 2 = f at f0 f1
  walk_at "ex"
  walk_at "st"
  refine next_ok hn hm hc a6 (by omega) (by omega) fun st7 k7 a7 => ?_
  have g0 := mixV_lo (ns := ns) (k := i + 1 + 1 + 1) (many := 2) (by omega)
  have g1 := mixV_hi (ns := ns) (k := i + 1 + 1 + 1) (many := 2) (by omega)
  generalize mixV ns (i + 1 + 1 + 1) 2 = g at g0 g1
  have r7 : st7 r = some (.lst ((rowV t).map .str)) := k7 r _ (by simpa using ra) (k6 r _ (by simpa using ra) hr5)
  walk_at "ex"
  walk_at "st"
  rw [lstAt_lst r7]
  intro u hu
  walk_at "ex"
  rw [lstAt_lst put_same]
  have xu := Ext.new (o := .lst (cut ((rowV t).map D.str) none (some (1 + f)))) hu
  have c1 := cut_len (xs := (rowV t).map D.str) (lo := none) (hi := some (1 + f))
  have c2 := cut_len (xs := (rowV t).map D.str) (lo := some (1 + f)) (hi := some (1 + f + (1 + g)))
  simp only [List.length_map] at c1 c2
  refine ⟨by omega, ?_⟩
  rw [lstAt_lst (xu r _ r7)]
  intro u' hu'
  walk_at "ex"
  rw [lstAt_lst put_same]
  refine ⟨by omega, ?_⟩
  have xu' := Ext.new (o := .lst (cut ((rowV t).map D.str) (some (1 + f)) (some (1 + f + (1 + g))))) hu'
  rw [cut_map, cut_map] at *
  exact hQ _ _ _ (i + 1 + 1 + 1) (names_ok1 t0 t1 f0 f1 g0 g1) ((k5.trans (k6.trans k7)).trans (xu.keep.trans xu'.keep)) (by omega) (xu' _ _ (xu _ _ a7))
end
end L3
end
section
namespace L3
open PySem
theorem c1_inj (w w' : W1) : (c1 w == c1 w') = decide (w = w') := by cases w <;> cases w' <;> decide +kernel
theorem c2_inj (w w' : W2) : (c2 w == c2 w') = decide (w = w') := by cases w <;> cases w' <;> decide +kernel
theorem lamp_c1 (w : W1) : (W "lamp" == c1 w) = false ∧ (c1 w == W "lamp") = false := by cases w <;> decide +kernel
theorem eqS_tup {st : Store} {as bs : List D} : eqS st (.tup as) (.tup bs) = eqSs st as bs := by simp only [eqS]
theorem eqSs_cons {st : Store} {a b : D} {as bs : List D} : eqSs st (a :: as) (b :: bs) = (eqS st a b && eqSs st as bs) := by simp only [eqSs]
theorem eqSs_nil {st : Store} : eqSs st [] [] = true := rfl
theorem eqSs_nc {st : Store} {b : D} {bs : List D} : eqSs st [] (b :: bs) = false := rfl
theorem eqSs_cn {st : Store} {b : D} {bs : List D} : eqSs st (b :: bs) [] = false := rfl
theorem yes_no : (W "yes" == W "no") = false ∧ (W "no" == W "yes") = false := by decide +kernel
theorem eqS_toD {st : Store} : ∀ s t : Sy, eqS st (toD s) (toD t) = decide (s = t)
  | .yes, .yes => by simp only [toD, eqS_tup, eqSs_cons, eqS_str, eqSs_nil, beq_self_eq_true, Bool.and_self, decide_true]
  | .yes, .no => by simp only [toD, eqS_tup, eqSs_cons, eqS_str, yes_no.1, Bool.false_and]; rfl
  | .yes, .lamp _ => by simp only [toD, eqS_tup, eqSs_cons, eqSs_nc, Bool.and_false]; rfl
  | .yes, .one _ _ => by simp only [toD, eqS_tup, eqSs_cons, eqSs_nc, Bool.and_false]; rfl
  | .yes, .two _ _ _ => by simp only [toD, eqS_tup, eqSs_cons, eqSs_nc, Bool.and_false]; rfl
  | .no, .yes => by simp only [toD, eqS_tup, eqSs_cons, eqS_str, yes_no.2, Bool.false_and]; rfl
  | .no, .no => by simp only [toD, eqS_tup, eqSs_cons, eqS_str, eqSs_nil, beq_self_eq_true, Bool.and_self, decide_true]
  | .no, .lamp _ => by simp only [toD, eqS_tup, eqSs_cons, eqSs_nc, Bool.and_false]; rfl
  | .no, .one _ _ => by simp only [toD, eqS_tup, eqSs_cons, eqSs_nc, Bool.and_false]; rfl
  | .no, .two _ _ _ => by simp only [toD, eqS_tup, eqSs_cons, eqSs_nc, Bool.and_false]; rfl
  | .lamp _, .yes => by simp only [toD, eqS_tup, eqSs_cons, eqSs_cn, Bool.and_false]; rfl
  | .lamp _, .no => by simp only [toD, eqS_tup, eqSs_cons, eqSs_cn, Bool.and_false]; rfl
  | .lamp m, .lamp n => by
    simp only [toD, eqS_tup, eqSs_cons, eqSs_nil, eqS_str, beq_self_eq_true, Bool.and_true, Bool.true_and, Sy.lamp.injEq]
    rw [Bool.beq_eq_decide_eq]
  | .lamp m, .one w s => by simp only [toD, eqS_tup, eqSs_cons, eqS_str, (lamp_c1 w).1, Bool.false_and]; rfl
  | .lamp _, .two _ _ _ => by simp only [toD, eqS_tup, eqSs_cons, eqSs_nc, Bool.and_false]; rfl
  | .one _ _, .yes => by simp only [toD, eqS_tup, eqSs_cons, eqSs_cn, Bool.and_false]; rfl
  | .one _ _, .no => by simp only [toD, eqS_tup, eqSs_cons, eqSs_cn, Bool.and_false]; rfl
  | .one w s, .lamp m => by simp only [toD, eqS_tup, eqSs_cons, eqS_str, (lamp_c1 w).2, Bool.false_and]; rfl
  | .one w s, .one w' s' => by
    simp only [toD, eqS_tup, eqSs_cons, eqSs_nil, eqS_str, c1_inj, eqS_toD s s', Bool.and_true, Sy.one.injEq]
    by_cases h : w = w' <;> by_cases h' : s = s' <;> simp [h, h']
  | .one _ _, .two _ _ _ => by simp only [toD, eqS_tup, eqSs_cons, eqSs_nc, Bool.and_false]; rfl
  | .two _ _ _, .yes => by simp only [toD, eqS_tup, eqSs_cons, eqSs_cn, Bool.and_false]; rfl
  | .two _ _ _, .no => by simp only [toD, eqS_tup, eqSs_cons, eqSs_cn, Bool.and_false]; rfl
  | .two _ _ _, .lamp _ => by simp only [toD, eqS_tup, eqSs_cons, eqSs_cn, Bool.and_false]; rfl
  | .two _ _ _, .one _ _ => by simp only [toD, eqS_tup, eqSs_cons, eqSs_cn, Bool.and_false]; rfl
  | .two w s t, .two w' s' t' => by
    simp only [toD, eqS_tup, eqSs_cons, eqSs_nil, eqS_str, c2_inj, eqS_toD s s', eqS_toD t t', Bool.and_true, Sy.two.injEq]
    by_cases h : w = w' <;> by_cases h' : s = s' <;> by_cases h'' : t = t' <;> simp [h, h', h'']
noncomputable def wd : Sy → List Nat
  | .yes => W "yes"
  | .no => W "no"
  | .lamp _ => W "lamp"
  | .one w _ => c1 w
  | .two w _ _ => c2 w
noncomputable def subs : Sy → List Sy
  | .one _ s => [s]
  | .two _ s t => [s, t]
  | _ => []
noncomputable def isLamp : Sy → Bool
  | .lamp _ => true
  | _ => false
theorem toD_wd (s : Sy) : ∃ r, toD s = .tup (.str (wd s) :: r) := by cases s <;> exact ⟨_, rfl⟩
theorem toD_subs {s : Sy} (h : isLamp s = false) : toD s = .tup (.str (wd s) :: (subs s).map toD) := by cases s <;> first | rfl | cases h
end L3
end
section
namespace L3
open PySem
section
variable {G : Prog} {k ip iw : Nat} {st : Store} {Q : VK} {E : XK}
end
end L3
end
section
namespace L3
open PySem
theorem while_rule {C : CallT} {sub : Nat → Nat → Bool} (hC : CMono C C) {c : Ex} {b : List Sx} {P : Post} (I : Nat → St → Store → Prop)
    (step : ∀ m σ st, I m σ st → wpE C sub (fun c st' => P.ex c σ st') c σ st fun d st' => truW d st' fun k =>
      if k = true then wpSs C sub b { P with nx := fun σ st => ∃ m', m' < m ∧ I m' σ st, ct := fun σ st => ∃ m', m' < m ∧ I m' σ st, bk := P.nx } σ st' else P.nx σ st') {m : Nat} {σ : St} {st : Store} (h : I m σ st) : wpS C sub (.whl c b) P σ st := by
  refine ⟨m + 1, ?_⟩
  have key : ∀ (n m : Nat) (σ : St) (st : Store), m < n → I m σ st → whileN (fun next σ st => wpE C sub (fun c st' => P.ex c σ st') c σ st fun d st' => truW d st' fun k =>
      if k = true then wpSs C sub b { P with nx := next, ct := next, bk := P.nx } σ st' else P.nx σ st') n σ st := by
    intro n
    induction n with
    | zero => intro m σ st h; omega
    | succ n ih =>
      intro m σ st hm hI
      refine wpE_mono hC (fun _ _ z => z) c (fun d st' => truW_mono fun k => ?_) (step m σ st hI)
      split
      · exact wpSs_mono hC b ⟨fun σ st ⟨m', h1, h2⟩ => ih m' σ st (by omega) h2, fun _ _ z => z, fun _ _ z => z, fun σ st ⟨m', h1, h2⟩ => ih m' σ st (by omega) h2, fun _ _ _ z => z⟩
      · exact id
  exact key (m + 1) m σ st (by omega) h
section
variable {G : Prog} {k ip iw iz : Nat} {st : Store} {Q : VK} {E : XK}
end
end L3
end
section
namespace L3
open PySem
noncomputable def noNames : List (List Nat) := [W "yes", W "no", W "not", W "and", W "or", W "then", W "same", W "before", W "once", W "sofar", W "since", W "foe", W "friend", W "promise", W "must", W "wish"]
noncomputable def lettersW : List Nat := W "abcdefghijklmnopqrstuvwxyz"
noncomputable def hIsName (nn lt lg : D) : Fn := ⟨1, 1, [.iff (.or_ (.not_ (.isi (.v 0) [.str])) (.cmp .in_ (.v 0) (.c nn))) [.ret (.c (.bl false))] [], .ret (.and_ (.chain .le .le (.c (.int 1)) (.bi .len [(.v 0)]) (.c lg)) (.bi .all [(.comp 1 [] [0] true none [(.v 0)] [] (.cmp .in_ (.v 0) (.c lt)))]))]⟩
noncomputable def nameB (w : List Nat) : Bool := !(noNames.any (· == w)) && decide (1 ≤ w.length) && decide (w.length ≤ 8) && w.all fun c => occurs [c] lettersW
section
variable {G : Prog} {k i : Nat} {st : Store} {Q : VK} {E : XK}
theorem noD_any (st : Store) (w : List Nat) : ((noNames.map D.str).any fun d => eqS st d (.str w)) = noNames.any (· == w) := by
  rw [List.any_map]; rfl
theorem noD_plain (st : Store) : plainSs st (noNames.map D.str) := ⟨rfl, by decide⟩
noncomputable def letB : D → Bool
  | .str x => occurs x lettersW
  | _ => false
theorem bools_let : ∀ (w : List Nat), boolsOf ((w.map fun c => D.str [c]).map fun d => .bl (letB d)) = some (w.map fun c => occurs [c] lettersW)
  | [] => rfl
  | c :: r => by
    show (boolsOf ((r.map fun c => D.str [c]).map fun d => .bl (letB d))).map (_ :: ·) = _
    rw [bools_let r]; rfl
set_option tactic.hygienic true in
theorem is_name_ok (h : G.fns i = some (hIsName (.tup (noNames.map .str)) (.str lettersW) (.int 8))) {w : List Nat} (hw : w.length ≤ LINE) (hQ : ∀ st', Ext st st' → Q (.bl (nameB w)) st') : wpFn G (k + 1) i [.str w] st Q E := by
  have hL : LINE = 16777216 := rfl
  rw [wpFn_at h]
  simp only [hIsName, start]
  refine ⟨rfl, ?_⟩
  walk_at "st"
  refine ⟨noD_plain st, ?_⟩
  rw [noD_any]
  cases c1 : noNames.any (· == w) with
  | true =>
    simp only [if_true]
    walk_at "st"
    have e : nameB w = false := by simp [nameB, c1]
    rw [← e]; exact hQ _ (fun _ _ z => z)
  | false =>
    simp only [Bool.false_eq_true, if_false]
    rw [wpSs_nil]
    walk_at "st"
    refine ⟨hw, ?_⟩
    split
    · rename_i g1
      split
      · rename_i g2
        refine ⟨hw, ?_⟩
        refine comp_map (fun d => .bl (letB d)) _ [] st (fun st' x a ha => by cases ha) ?_ (by simp only [List.length_map, List.length_nil]; omega) fun st' x => ?_
        · intro x hx st' K x1 hK
          obtain ⟨c, hc, rfl⟩ := List.mem_map.mp hx
          exact hK st' .refl
        · rw [List.nil_append]
          refine newE (by simp only [List.length_map]; omega) fun p st2 x2 hp hp2 => ?_
          simp only [seqW]
          rw [lstAt_lst hp2, bools_let]
          have e : nameB w = (w.map fun c => occurs [c] lettersW).all id := by
            simp only [nameB, c1, List.all_map]
            have h1 : decide (1 ≤ w.length) = true := decide_eq_true (by omega)
            have h2 : decide (w.length ≤ 8) = true := decide_eq_true (by omega)
            rw [h1, h2]
            rfl
          show Q _ _
          rw [← e]
          exact hQ _ (x.trans x2)
      · rename_i g2
        have e : nameB w = decide ((w.length : Int) ≤ 8) := by
          have h2 : decide (w.length ≤ 8) = false := decide_eq_false (by omega)
          have h3 : decide ((w.length : Int) ≤ 8) = false := decide_eq_false g2
          simp only [nameB, h2, h3, Bool.and_false, Bool.false_and]
        rw [← e]; exact hQ _ .refl
    · rename_i g1
      have e : nameB w = false := by
        have h1 : decide (1 ≤ w.length) = false := decide_eq_false (by omega)
        simp only [nameB, h1, Bool.and_false, Bool.false_and]
      rw [← e]; exact hQ _ .refl
end
end L3
end
section
namespace L3
open PySem
noncomputable def hSayW (isn isw : Nat) (sw : D) : Fn := ⟨3, 3, [.iff (.or_ (.cmp .lt (.v 2) (.c (.int 1))) (.or_ (.not_ (.isi (.v 1) [.tuple])) (.or_ (.cmp .lt (.bi .len [(.v 1)]) (.c (.int 1))) (.not_ (.isi (.ix (.v 1) (.c (.int 0))) [.str]))))) [.ret (.c (.bl false))] [], .iff (.cmp .eq (.ix (.v 1) (.c (.int 0))) (.c (.str (W "lamp")))) [.ret (.and_ (.cmp .eq (.bi .len [(.v 1)]) (.c (.int 2))) (.and_ (.call isn [(.ix (.v 1) (.c (.int 1)))]) (.cmp .in_ (.ix (.v 1) (.c (.int 1))) (.v 0))))] [], .iff (.or_ (.cmp .notin (.ix (.v 1) (.c (.int 0))) (.c sw)) (.cmp .ne (.bi .len [(.v 1)]) (.bin .add (.c (.int 1)) (.ix (.c sw) (.ix (.v 1) (.c (.int 0))))))) [.ret (.c (.bl false))] [], .ret (.bi .all [(.comp 1 [0, 2] [0] true none [(.sl (.v 1) [(.c (.int 1))] [])] [] (.call isw [(.v 1), (.v 0), (.bin .sub (.v 2) (.c (.int 1)))]))])]⟩
section
variable {G : Prog} {k isn isw : Nat} {Q : VK} {E : XK}
noncomputable def swK : List D := [(.str (W "yes")), (.str (W "no")), (.str (W "not")), (.str (W "before")), (.str (W "once")), (.str (W "sofar")), (.str (W "and")), (.str (W "or")), (.str (W "then")), (.str (W "same")), (.str (W "since"))]
noncomputable def swV : List D := [(.int 0), (.int 0), (.int 1), (.int 1), (.int 1), (.int 1), (.int 2), (.int 2), (.int 2), (.int 2), (.int 2)]
theorem nameB_len {n : List Nat} (h : nameB n = true) : n.length ≤ 8 := by
  simp only [nameB, Bool.and_eq_true, decide_eq_true_eq] at h
  exact h.1.2
theorem names_plain (st : Store) : ∀ (names : List (List Nat)), plainSs st (names.map D.str)
  | [] => ⟨rfl, Nat.zero_le _⟩
  | n :: r => ⟨by simp only [List.map_cons, pureSs, pureS, Bool.true_and]; exact (names_plain st r).1, by simp only [List.map_cons, depDs, depD]; have := (names_plain st r).2; omega⟩
theorem names_any (st : Store) (names : List (List Nat)) (n : List Nat) (h : n ∈ names) : ((names.map D.str).any fun d => eqS st d (.str n)) = true := by
  rw [List.any_map]
  exact List.any_eq_true.mpr ⟨n, h, by show (n == n) = true; simp⟩
theorem sayW_lamp (h : G.fns isw = some (hSayW isn isw (.mdic swK swV))) (hn : G.fns isn = some (hIsName (.tup (noNames.map .str)) (.str lettersW) (.int 8))) {names : List (List Nat)} (hnm : ∀ n ∈ names, nameB n = true) {n : List Nat} (ho : n ∈ names) {st : Store} {d : Int} (hd : 1 ≤ d)
    (hQ : ∀ st', Ext st st' → Q (.bl true) st') : wpFn G (k + 1 + 1) isw [.tup (names.map .str), .tup [.str (W "lamp"), .str n], .int d] st Q E := by
  have hL : LINE = 16777216 := rfl
  rw [wpFn_at h]
  simp only [hSayW, start]
  refine ⟨rfl, ?_⟩
  walk_at "st"
  have n1 : ¬ d < 1 := by omega
  simp only [if_neg n1]
  walk_at "ex"
  have n2 : ¬ ((0 + 1 + 1 : Nat) : Int) < 1 := by decide
  simp only [if_neg n2]
  walk_at "ex"
  rw [wpSs_nil]
  walk_at "st"
  have n3 : (W "lamp" == W "lamp") = true := by simp
  simp only [n3, if_true]
  walk_at "st"
  rw [if_pos (by decide)]
  refine is_name_ok (w := n) hn (by have := nameB_len (hnm n ho); omega) fun st' x1 => ?_
  rw [hnm n ho]
  show plainSs st' (names.map .str) ∧ Q (.bl ((names.map D.str).any fun d => eqS st' d (.str n))) st'
  refine ⟨names_plain st' names, ?_⟩
  rw [names_any st' names n ho]
  exact hQ _ x1
end
end L3
end
section
namespace L3
open PySem
section
variable {G : Prog} {k ir isn il : Nat} {st : Store} {Q : VK} {E : XK}
theorem strsOf_map : ∀ (ws : List (List Nat)), strsOf (ws.map .str) = some ws
  | [] => rfl
  | w :: r => by
    show (strsOf (r.map .str)).map (w :: ·) = _
    rw [strsOf_map r]; rfl
end
end L3
end
section
namespace L3
open PySem
noncomputable def hIsSay (isw : Nat) (dp : D) : Fn := ⟨2, 2, [.ret (.call isw [(.v 0), (.v 1), (.c dp)])]⟩
section
variable {G : Prog} {k ir isn isw iy ip iw ia : Nat} {st : Store} {Q : VK} {E : XK} {names : List (List Nat)}
end
end L3
end
section
namespace L3
open PySem
section
variable {G : Prog} {k isn isw : Nat} {Q : VK} {E : XK}
theorem sayW_genB (h : G.fns isw = some (hSayW isn isw (.mdic swK swV))) {nm : D} {w : List Nat} {ps : List D} {st : Store} {d : Int} (f : D → Bool) (hd : 1 ≤ d) (hl : (w == W "lamp") = false) (hin : (swK.any fun x => eqD x (.str w)) = true) (har : lookD swK swV (.str w) = some (.int ps.length)) (hps : ps.length ≤ 2)
    (hp : ∀ x ∈ ps, ∀ (st' : Store) (Q' : VK) (E' : XK), Ext st st' → (∀ st'', Ext st' st'' → Q' (.bl (f x)) st'') → wpFn G k isw [nm, x, .int (d - 1)] st' Q' E') (hQ : ∀ st', Ext st st' → Q (.bl (ps.all f)) st') : wpFn G (k + 1) isw [nm, .tup (.str w :: ps), .int d] st Q E := by
  have hL : LINE = 16777216 := rfl
  rw [wpFn_at h]
  simp only [hSayW, start]
  refine ⟨rfl, ?_⟩
  walk_at "st"
  have n1 : ¬ d < 1 := by omega
  simp only [if_neg n1]
  have n2 : ¬ ((ps.length + 1 : Nat) : Int) < 1 := by omega
  simp only [List.length_cons, if_neg n2]
  walk_at "ex"
  rw [wpSs_nil]
  walk_at "st"
  simp only [hl, Bool.false_eq_true, if_false]
  rw [wpSs_nil]
  walk_at "st"
  rw [hin]
  simp only [Bool.not_true, Bool.false_eq_true, if_false]
  rw [har]
  show plainS st (.int (1 + (ps.length : Int))) ∧ _
  refine ⟨⟨rfl, Nat.zero_le _⟩, ?_⟩
  have n3 : ¬ (!eqS st (.int ((ps.length + 1 : Nat) : Int)) (.int (1 + (ps.length : Int)))) = true := by
    have e : (((ps.length + 1 : Nat) : Int) == 1 + (ps.length : Int)) = true := beq_iff_eq.mpr (by omega)
    simp only [eqS, e, Bool.not_true, Bool.false_eq_true, not_false_iff]
  rw [if_neg n3, wpSs_nil]
  walk_at "st"
  refine comp_map (fun x => .bl (f x)) ps [] st (fun st' x a ha => by cases ha) (fun x hx st' K x1 hK => hp x hx st' _ _ x1 fun st'' x2 => hK st'' x2) (by simp only [List.length_nil]; omega) fun st' x1 => ?_
  rw [List.nil_append]
  refine newE (by simp only [List.length_map]; omega) fun p st2 x2 hp' hp2 => ?_
  simp only [seqW]
  rw [lstAt_lst hp2, boolsOf_map]
  show Q (.bl ((ps.map f).all id)) _
  have e : (ps.map f).all id = ps.all f := by rw [List.all_map]; rfl
  rw [e]
  exact hQ _ (x1.trans x2)
theorem sayW_low (h : G.fns isw = some (hSayW isn isw (.mdic swK swV))) {nm x : D} {st : Store} {d : Int} (hd : d < 1) (hQ : Q (.bl false) st) : wpFn G (k + 1) isw [nm, x, .int d] st Q E := by
  rw [wpFn_at h]
  simp only [hSayW, start]
  refine ⟨rfl, ?_⟩
  walk_at "st"
  simp only [if_pos hd]
  walk_at "st"
  exact hQ
theorem sayW_nt (h : G.fns isw = some (hSayW isn isw (.mdic swK swV))) {nm x : D} {st : Store} {d : Int} (hx : ∀ P : Bool → Prop, P false → isOne G.sub x st .tuple P) (hQ : Q (.bl false) st) : wpFn G (k + 1) isw [nm, x, .int d] st Q E := by
  by_cases hd : d < 1
  · exact sayW_low h hd hQ
  rw [wpFn_at h]
  simp only [hSayW, start]
  refine ⟨rfl, ?_⟩
  walk_at "st"
  simp only [if_neg hd]
  refine hx _ ?_
  simp only [↓tru_bl, Bool.not_false, if_true]
  walk_at "st"
  exact hQ
theorem sayW_h (h : G.fns isw = some (hSayW isn isw (.mdic swK swV))) {nm y : D} {r : List D} {st : Store} {d : Int} (hx : ∀ P : Bool → Prop, P false → isOne G.sub y st .str P) (hQ : Q (.bl false) st) : wpFn G (k + 1) isw [nm, .tup (y :: r), .int d] st Q E := by
  by_cases hd : d < 1
  · exact sayW_low h hd hQ
  rw [wpFn_at h]
  simp only [hSayW, start]
  refine ⟨rfl, ?_⟩
  walk_at "st"
  simp only [if_neg hd]
  have n2 : ¬ ((r.length + 1 : Nat) : Int) < 1 := by omega
  simp only [List.length_cons, if_neg n2]
  refine hx _ ?_
  simp only [↓tru_bl, Bool.not_false, if_true]
  walk_at "st"
  exact hQ
theorem sayW_e (h : G.fns isw = some (hSayW isn isw (.mdic swK swV))) {nm : D} {st : Store} {d : Int} (hQ : Q (.bl false) st) : wpFn G (k + 1) isw [nm, .tup [], .int d] st Q E := by
  by_cases hd : d < 1
  · exact sayW_low h hd hQ
  rw [wpFn_at h]
  simp only [hSayW, start]
  refine ⟨rfl, ?_⟩
  walk_at "st"
  simp only [if_neg hd]
  rw [if_pos (by decide)]
  walk_at "st"
  exact hQ
theorem is_name_no {i : Nat} {nn lt lg x : D} (h : G.fns i = some (hIsName nn lt lg)) {st : Store} (hx : ∀ P : Bool → Prop, P false → isOne G.sub x st .str P) (hQ : Q (.bl false) st) : wpFn G (k + 1) i [x] st Q E := by
  rw [wpFn_at h]
  simp only [hIsName, start]
  refine ⟨rfl, ?_⟩
  walk_at "st"
  refine hx _ ?_
  simp only [↓tru_bl, Bool.not_false, if_true]
  walk_at "st"
  exact hQ
theorem sayW_ln (h : G.fns isw = some (hSayW isn isw (.mdic swK swV))) {nm : D} {r : List D} {st : Store} {d : Int} (hr : r.length ≠ 1) (hQ : Q (.bl false) st) : wpFn G (k + 1) isw [nm, .tup (.str (W "lamp") :: r), .int d] st Q E := by
  by_cases hd : d < 1
  · exact sayW_low h hd hQ
  rw [wpFn_at h]
  simp only [hSayW, start]
  refine ⟨rfl, ?_⟩
  walk_at "st"
  simp only [if_neg hd]
  have n2 : ¬ ((r.length + 1 : Nat) : Int) < 1 := by omega
  simp only [List.length_cons, if_neg n2]
  walk_at "ex"
  rw [wpSs_nil]
  walk_at "st"
  simp only [beq_self_eq_true, if_true]
  walk_at "st"
  have n3 : (((r.length + 1 : Nat) : Int) == 2) = false := by rw [beq_eq_false_iff_ne]; omega
  simp only [List.length_cons, n3, Bool.false_eq_true, if_false]
  exact hQ
theorem sayW_lx (h : G.fns isw = some (hSayW isn isw (.mdic swK swV))) {nm x : D} {st : Store} {d : Int}
    (hx : ∀ (Q' : VK) (E' : XK) (st0 : Store), Ext st st0 → (∀ b st', Ext st st' → (b = true → inW x nm st' fun b => Q (.bl b) st') → (b = false → Q (.bl false) st') → Q' (.bl b) st') → wpFn G (k + 1) isn [x] st0 Q' E') (hQ : Q (.bl false) st) : wpFn G (k + 1 + 1) isw [nm, .tup [.str (W "lamp"), x], .int d] st Q E := by
  by_cases hd : d < 1
  · exact sayW_low h hd hQ
  rw [wpFn_at h]
  simp only [hSayW, start]
  refine ⟨rfl, ?_⟩
  walk_at "st"
  simp only [if_neg hd]
  rw [if_neg (by decide)]
  walk_at "ex"
  rw [wpSs_nil]
  walk_at "st"
  simp only [beq_self_eq_true, if_true]
  walk_at "st"
  rw [if_pos (by decide)]
  refine hx _ _ st .refl fun b st' x1 h1 h2 => ?_
  simp only [↓tru_bl]
  cases b with
  | true => simp only [if_true]; exact h1 rfl
  | false => simp only [Bool.false_eq_true, if_false]; exact h2 rfl
theorem sayW_w (h : G.fns isw = some (hSayW isn isw (.mdic swK swV))) {nm : D} {w : List Nat} {r : List D} {st : Store} {d : Int} (hl : (w == W "lamp") = false) (hin : (swK.any fun x => eqD x (.str w)) = false) (hQ : Q (.bl false) st) : wpFn G (k + 1) isw [nm, .tup (.str w :: r), .int d] st Q E := by
  by_cases hd : d < 1
  · exact sayW_low h hd hQ
  rw [wpFn_at h]
  simp only [hSayW, start]
  refine ⟨rfl, ?_⟩
  walk_at "st"
  simp only [if_neg hd]
  have n2 : ¬ ((r.length + 1 : Nat) : Int) < 1 := by omega
  simp only [List.length_cons, if_neg n2]
  walk_at "ex"
  rw [wpSs_nil]
  walk_at "st"
  simp only [hl, Bool.false_eq_true, if_false]
  rw [wpSs_nil]
  walk_at "st"
  rw [hin]
  simp only [Bool.not_false, if_true]
  walk_at "st"
  exact hQ
theorem sayW_a (h : G.fns isw = some (hSayW isn isw (.mdic swK swV))) {nm : D} {w : List Nat} {r : List D} {st : Store} {d m : Int} (hl : (w == W "lamp") = false) (hin : (swK.any fun x => eqD x (.str w)) = true) (har : lookD swK swV (.str w) = some (.int m)) (hm : (r.length : Int) ≠ m) (hQ : Q (.bl false) st) : wpFn G (k + 1) isw [nm, .tup (.str w :: r), .int d] st Q E := by
  by_cases hd : d < 1
  · exact sayW_low h hd hQ
  rw [wpFn_at h]
  simp only [hSayW, start]
  refine ⟨rfl, ?_⟩
  walk_at "st"
  simp only [if_neg hd]
  have n2 : ¬ ((r.length + 1 : Nat) : Int) < 1 := by omega
  simp only [List.length_cons, if_neg n2]
  walk_at "ex"
  rw [wpSs_nil]
  walk_at "st"
  simp only [hl, Bool.false_eq_true, if_false]
  rw [wpSs_nil]
  walk_at "st"
  rw [hin]
  simp only [Bool.not_true, Bool.false_eq_true, if_false]
  rw [har]
  show plainS st (.int (1 + m)) ∧ _
  refine ⟨⟨rfl, Nat.zero_le _⟩, ?_⟩
  have n3 : (!eqS st (.int ((r.length + 1 : Nat) : Int)) (.int (1 + m))) = true := by
    have e : (((r.length + 1 : Nat) : Int) == 1 + m) = false := by rw [beq_eq_false_iff_ne]; omega
    simp only [eqS, e, Bool.not_false]
  rw [if_pos n3]
  walk_at "st"
  exact hQ
end
end L3
end
section
namespace L3
open PySem
noncomputable abbrev NameF (G : Prog) (isn : Nat) : Prop := G.fns isn = some (hIsName (.tup (noNames.map .str)) (.str lettersW) (.int 8))
noncomputable abbrev SayF (G : Prog) (isn isw : Nat) : Prop := G.fns isw = some (hSayW isn isw (.mdic swK swV))
section
variable {G : Prog} {isn isw : Nat}
theorem qb {Q : VK} {b b' : Bool} {st : Store} (q : Q (.bl b) st) (e : b = b') : Q (.bl b') st := e ▸ q
theorem dep_pos : ∀ s : Sy, 1 ≤ dep s
  | .yes => by simp [dep]
  | .no => by simp [dep]
  | .lamp _ => by simp [dep]
  | .one _ _ => by simp only [dep]; omega
  | .two _ _ _ => by simp only [dep]; omega
theorem sayW_bool (h : SayF G isn isw) (hn : NameF G isn) {names : List (List Nat)} (hnm : ∀ n ∈ names, nameB n = true) :
    ∀ (s : Sy) {k : Nat} {st : Store} {Q : VK} {E : XK} {d : Int}, over names s → (∀ st', Ext st st' → Q (.bl (decide ((dep s : Int) ≤ d))) st') → wpFn G (k + dep s + 1) isw [.tup (names.map .str), toD s, .int d] st Q E := by
  intro s
  have low : ∀ (s : Sy) {k : Nat} {st : Store} {Q : VK} {E : XK} {d : Int}, d < 1 → (∀ st', Ext st st' → Q (.bl (decide ((dep s : Int) ≤ d))) st') → wpFn G (k + 1) isw [.tup (names.map .str), toD s, .int d] st Q E := by
    intro s k st Q E d hd hQ
    have q := hQ st .refl
    have e : decide ((dep s : Int) ≤ d) = false := decide_eq_false (by have := dep_pos s; omega)
    rw [e] at q
    exact sayW_low h hd q
  induction s with
  | yes =>
    intro k st Q E d ho hQ
    by_cases hd : d < 1
    · exact low _ hd hQ
    refine sayW_genB h (fun _ => true) (by omega) (by decide) (by decide) rfl (by decide) (fun x hx => by cases hx) fun st' x => ?_
    have := hQ st' x
    rw [decide_eq_true (by simp only [dep]; omega)] at this
    exact this
  | no =>
    intro k st Q E d ho hQ
    by_cases hd : d < 1
    · exact low _ hd hQ
    refine sayW_genB h (fun _ => true) (by omega) (by decide) (by decide) rfl (by decide) (fun x hx => by cases hx) fun st' x => ?_
    have := hQ st' x
    rw [decide_eq_true (by simp only [dep]; omega)] at this
    exact this
  | lamp n =>
    intro k st Q E d ho hQ
    by_cases hd : d < 1
    · exact low _ hd hQ
    refine sayW_lamp h hn hnm ho (by omega) fun st' x => ?_
    have := hQ st' x
    rw [decide_eq_true (by simp only [dep]; omega)] at this
    exact this
  | one w s ih =>
    intro k st Q E d ho hQ
    by_cases hd : d < 1
    · exact low _ hd hQ
    have dd : dep (.one w s) = dep s + 1 := by simp only [dep]
    rw [dd]
    refine sayW_genB (ps := [toD s]) h (fun _ => decide ((dep s : Int) ≤ d - 1)) (by omega) (by cases w <;> decide) (by cases w <;> decide) (by cases w <;> rfl) (by simp) (fun x hx st' Q' E' x1 hQ' => ?_) fun st' x => ?_
    · simp only [List.mem_singleton] at hx
      subst hx
      exact ih (k := k) ho hQ'
    · have := hQ st' x
      refine qb this ?_
      rw [Bool.eq_iff_iff]
      simp only [List.all_cons, List.all_nil, Bool.and_true, decide_eq_true_eq]
      omega
  | two w s t ih1 ih2 =>
    intro k st Q E d ho hQ
    by_cases hd : d < 1
    · exact low _ hd hQ
    have dd : dep (.two w s t) = max (dep s) (dep t) + 1 := by simp only [dep]
    rw [dd]
    have l1 := Nat.le_max_left (dep s) (dep t)
    have l2 := Nat.le_max_right (dep s) (dep t)
    refine sayW_genB (ps := [toD s, toD t]) h (fun x => decide ((depD x : Int) ≤ d - 1)) (by omega) (by cases w <;> decide) (by cases w <;> decide) (by cases w <;> rfl) (by simp) (fun x hx st' Q' E' x1 hQ' => ?_) fun st' x => ?_
    · simp only [List.mem_cons, List.not_mem_nil, or_false] at hx
      rcases hx with rfl | rfl
      · have := ih1 (k := k + (max (dep s) (dep t) - dep s)) (st := st') (Q := Q') (E := E') (d := d - 1) ho.1 (by rw [toD_dep] at hQ'; exact hQ')
        have e : k + (max (dep s) (dep t) - dep s) + dep s + 1 = k + (max (dep s) (dep t) + 1) := by omega
        rw [e] at this; exact this
      · have := ih2 (k := k + (max (dep s) (dep t) - dep t)) (st := st') (Q := Q') (E := E') (d := d - 1) ho.2 (by rw [toD_dep] at hQ'; exact hQ')
        have e : k + (max (dep s) (dep t) - dep t) + dep t + 1 = k + (max (dep s) (dep t) + 1) := by omega
        rw [e] at this; exact this
    · have := hQ st' x
      refine qb this ?_
      rw [Bool.eq_iff_iff]
      simp only [List.all_cons, List.all_nil, Bool.and_true, toD_dep, Bool.and_eq_true, decide_eq_true_eq]
      omega
inductive NoS (names : List (List Nat)) (st : Store) : Nat → D → Prop where
  | non {n : Nat} : NoS names st n .non
  | str {n : Nat} {x : List Nat} : NoS names st n (.str x)
  | lst {n a : Nat} {ds : List D} (h : st a = some (.lst ds)) : NoS names st n (.ref a)
  | nil {n : Nat} : NoS names st n (.tup [])
  | bl {n : Nat} {b : Bool} {ds : List D} : NoS names st n (.tup (.bl b :: ds))
  | tt {n : Nat} {es ds : List D} : NoS names st n (.tup (.tup es :: ds))
  | ln {n : Nat} {ds : List D} (h : ds.length ≠ 1) : NoS names st n (.tup (.str (W "lamp") :: ds))
  | li {n : Nat} {i : Int} : NoS names st n (.tup [.str (W "lamp"), .int i])
  | ll {n a : Nat} {ds : List D} (h : st a = some (.lst ds)) : NoS names st n (.tup [.str (W "lamp"), .ref a])
  | ls {n : Nat} {w : List Nat} (hl : w.length ≤ LINE) (h : nameB w = false ∨ w ∉ names) : NoS names st n (.tup [.str (W "lamp"), .str w])
  | word {n : Nat} {w : List Nat} {ds : List D} (h : (w == W "lamp") = false) (h1 : (swK.any fun x => eqD x (.str w)) = false) : NoS names st n (.tup (.str w :: ds))
  | ar {n : Nat} {w : List Nat} {ds : List D} {m : Int} (h : (w == W "lamp") = false) (h1 : (swK.any fun x => eqD x (.str w)) = true) (h2 : lookD swK swV (.str w) = some (.int m)) (h3 : (ds.length : Int) ≠ m) : NoS names st n (.tup (.str w :: ds))
  | part {n : Nat} {w : List Nat} {as bs : List D} {x : D} (h : (w == W "lamp") = false) (h1 : (swK.any fun x => eqD x (.str w)) = true) (h2 : lookD swK swV (.str w) = some (.int (as ++ x :: bs).length)) (h3 : (as ++ x :: bs).length ≤ 2)
      (hx : NoS names st n x) (hr : ∀ y ∈ as ++ bs, ∃ s, y = toD s ∧ over names s ∧ dep s ≤ n) : NoS names st (n + 1) (.tup (.str w :: (as ++ x :: bs)))
theorem NoS.ext {names : List (List Nat)} {st st' : Store} (e : Ext st st') {n : Nat} {d : D} (h : NoS names st n d) : NoS names st' n d := by
  induction h with
  | non => exact .non
  | str => exact .str
  | lst h => exact .lst (e _ _ h)
  | nil => exact .nil
  | bl => exact .bl
  | tt => exact .tt
  | ln h => exact .ln h
  | li => exact .li
  | ll h => exact .ll (e _ _ h)
  | ls hl h => exact .ls hl h
  | word h h1 => exact .word h h1
  | ar h h1 h2 h3 => exact .ar h h1 h2 h3
  | part h h1 h2 h3 _ hr ih => exact .part h h1 h2 h3 ih hr
theorem any_no (st : Store) (names : List (List Nat)) (n : List Nat) (h : n ∉ names) : ((names.map D.str).any fun d => eqS st d (.str n)) = false := by
  rw [List.any_map, List.any_eq_false]
  intro m hm
  show ¬ (m == n) = true
  intro z
  rw [beq_iff_eq] at z
  exact h (z ▸ hm)
theorem sayW_up {k : Nat} {ds : List D} {st : Store} {Q : VK} {E : XK} {f : Nat} (h : wpFn G k f ds st Q E) : wpFn G (k + 1) f ds st Q E := wpFn_mono G (Nat.le_succ k) f ds st _ _ _ _ (fun _ _ z => z) (fun _ _ z => z) h
open Classical in
theorem sayW_no (h : SayF G isn isw) (hn : NameF G isn) {names : List (List Nat)} (hnm : ∀ n ∈ names, nameB n = true) : ∀ (n : Nat) {x : D} {k : Nat} {st : Store} {Q : VK} {E : XK} {d : Int}, NoS names st n x → (∀ st', Ext st st' → Q (.bl false) st') →
    wpFn G (k + n + 2) isw [.tup (names.map .str), x, .int d] st Q E := by
  intro n
  induction n with
  | zero =>
    intro x k st Q E d hx hQ
    have q := hQ st .refl
    cases hx with
    | non => exact sayW_nt h (fun P p => by simpa only [isOne] using p) q
    | str => exact sayW_nt h (fun P p => by simpa only [isOne] using p) q
    | lst e => exact sayW_nt h (fun P p => by simp only [isOne, seqAt, e]; exact p) q
    | nil => exact sayW_e h q
    | bl => exact sayW_h h (fun P p => by simpa only [isOne] using p) q
    | tt => exact sayW_h h (fun P p => by simpa only [isOne] using p) q
    | ln e => exact sayW_ln h e q
    | li => exact sayW_lx h (fun Q' E' st0 x0 k' => is_name_no hn (fun P p => by simpa only [isOne] using p) (k' false _ x0 (fun z => nomatch z) fun _ => hQ _ x0)) q
    | ll e => exact sayW_lx h (fun Q' E' st0 x0 k' => is_name_no hn (fun P p => by simp only [isOne, seqAt, x0 _ _ e]; exact p) (k' false _ x0 (fun z => nomatch z) fun _ => hQ _ x0)) q
    | @ls _ w hl e => exact sayW_lx h (fun Q' E' st0 x0 k' => is_name_ok hn hl fun st' x' => k' _ _ (x0.trans x') (fun z => by
        have e : w ∉ names := by
          rcases e with e | e
          · rw [e] at z; cases z
          · exact e
        show _ ∧ _ ∧ _
        refine ⟨plainS_str, names_plain st' names, ?_⟩
        rw [any_no st' names w e]
        exact hQ _ (x0.trans x')) fun _ => hQ _ (x0.trans x')) q
    | word e e1 => exact sayW_w h e e1 q
    | ar e e1 e2 e3 => exact sayW_a h e e1 e2 e3 q
  | succ n ih =>
    intro x k st Q E d hx hQ
    have q := hQ st .refl
    cases hx with
    | non => exact sayW_nt h (fun P p => by simpa only [isOne] using p) q
    | str => exact sayW_nt h (fun P p => by simpa only [isOne] using p) q
    | lst e => exact sayW_nt h (fun P p => by simp only [isOne, seqAt, e]; exact p) q
    | nil => exact sayW_e h q
    | bl => exact sayW_h h (fun P p => by simpa only [isOne] using p) q
    | tt => exact sayW_h h (fun P p => by simpa only [isOne] using p) q
    | ln e => exact sayW_ln h e q
    | li => exact sayW_up (ih .li hQ)
    | ll e => exact sayW_up (ih (.ll e) hQ)
    | ls hl e => exact sayW_up (ih (.ls hl e) hQ)
    | word e e1 => exact sayW_w h e e1 q
    | ar e e1 e2 e3 => exact sayW_a h e e1 e2 e3 q
    | @part _ w as bs x e e1 e2 e3 hx hr =>
      by_cases hd : d < 1
      · exact sayW_low h hd q
      refine sayW_genB (k := k + n + 2) h (fun y => if NoS names st n y then false else decide ((depD y : Int) ≤ d - 1)) (by omega) e e1 e2 e3 (fun y hy st' Q' E' x1 hQ' => ?_) fun st' x1 => ?_
      · by_cases z : NoS names st n y
        · simp only [if_pos z] at hQ'
          exact ih (z.ext x1) hQ'
        · simp only [if_neg z] at hQ'
          have hy' : y ∈ as ++ bs := by
            simp only [List.mem_append, List.mem_cons] at hy ⊢
            rcases hy with hy | rfl | hy
            · exact .inl hy
            · exact absurd hx z
            · exact .inr hy
          obtain ⟨s, rfl, ho, hdp⟩ := hr y hy'
          rw [toD_dep] at hQ'
          have := sayW_bool h hn hnm s (k := k + (n - dep s) + 1) (st := st') (Q := Q') (E := E') (d := d - 1) ho hQ'
          have e : k + (n - dep s) + 1 + dep s + 1 = k + n + 2 := by omega
          rw [e] at this; exact this
      · have ea : ((as ++ x :: bs).all fun y => if NoS names st n y then false else decide ((depD y : Int) ≤ d - 1)) = false := by
          rw [List.all_eq_false]
          exact ⟨x, by simp, by simp [hx]⟩
        rw [ea]
        exact hQ _ x1
end
end L3
end
section
namespace L3
open PySem
noncomputable def hDeep (i : Nat) : Fn := ⟨1, 1, [.iff (.cmp .in_ (.ix (.v 0) (.c (.int 0))) (.tup [(.c (.str (W "lamp"))), (.c (.str (W "yes"))), (.c (.str (W "no")))])) [.ret (.c (.int 1))] [], .ret (.bin .add (.c (.int 1)) (.bi .max [(.comp 1 [] [0] true none [(.sl (.v 0) [(.c (.int 1))] [])] [] (.call i [(.v 0)]))]))]⟩
section
variable {G : Prog} {k isn isw iy ic ir i iw : Nat} {st : Store} {Q : VK} {E : XK} {nm x : D}
theorem isAtom_wd (s : Sy) : (wd s == W "lamp" || (wd s == W "yes" || wd s == W "no")) = (subs s).isEmpty := by
  cases s with
  | one w s => cases w <;> (simp only [wd, subs, List.isEmpty_cons, List.isEmpty_nil]; decide +kernel)
  | two w s t => cases w <;> (simp only [wd, subs, List.isEmpty_cons, List.isEmpty_nil]; decide +kernel)
  | _ => (simp only [wd, subs, List.isEmpty_cons, List.isEmpty_nil]; decide +kernel)
theorem in3 (st : Store) (w : List Nat) : (List.any [D.str (W "lamp"), .str (W "yes"), .str (W "no")] fun d => eqS st d (.str w)) = (w == W "lamp" || (w == W "yes" || w == W "no")) := by
  simp only [List.any_cons, List.any_nil, eqS_str, Bool.or_false]
  rw [Bool.beq_comm (a := W "lamp"), Bool.beq_comm (a := W "yes"), Bool.beq_comm (a := W "no")]
theorem pl3 (st : Store) : plainSs st [D.str (W "lamp"), .str (W "yes"), .str (W "no")] := ⟨rfl, by decide⟩
theorem deep_ok (hd : G.fns i = some (hDeep i)) : ∀ (s : Sy) {k : Nat} {st : Store} {Q : VK} {E : XK}, (∀ st', Ext st st' → Q (.int (dep s)) st') → wpFn G (k + dep s) i [toD s] st Q E := by
  have hL : LINE = 16777216 := rfl
  have atom : ∀ (s : Sy) {k : Nat} {st : Store} {Q : VK} {E : XK}, (subs s) = [] → Q (.int 1) st → wpFn G (k + 1) i [toD s] st Q E := by
    intro s k st Q E hs hQ
    rw [wpFn_at hd]
    simp only [hDeep, start]
    refine ⟨rfl, ?_⟩
    obtain ⟨r, er⟩ := toD_wd s
    walk_at "st"
    rw [er]
    walk_at "ex"
    refine ⟨pl3 st, ?_⟩
    rw [in3, isAtom_wd, hs]
    simp only [List.isEmpty_nil, if_true]
    walk_at "st"
    exact hQ
  have more : ∀ (s : Sy) {k : Nat} {st : Store} {Q : VK} {E : XK}, subs s ≠ [] → (∀ t ∈ subs s, ∀ (st' : Store) (Q' : VK) (E' : XK), (∀ st'', Ext st' st'' → Q' (.int (dep t)) st'') → wpFn G k i [toD t] st' Q' E') → (∀ st', Ext st st' → Q (.int (dep s)) st') → wpFn G (k + 1) i [toD s] st Q E := by
    intro s k st Q E hs hp hQ
    rw [wpFn_at hd]
    simp only [hDeep, start]
    refine ⟨rfl, ?_⟩
    have hl : isLamp s = false := by cases s <;> first | rfl | exact absurd rfl hs
    walk_at "st"
    rw [toD_subs hl]
    walk_at "ex"
    refine ⟨pl3 st, ?_⟩
    rw [in3, isAtom_wd]
    have hne : (subs s).isEmpty = false := by cases h : subs s with
      | nil => exact absurd h hs
      | cons _ _ => rfl
    rw [hne]
    simp only [Bool.false_eq_true, if_false]
    rw [wpSs_nil]
    walk_at "st"
    have hlen : (subs s).length ≤ 2 := by cases s <;> simp [subs]
    refine comp_map (fun d => .int (depD d)) ((subs s).map toD) [] st (fun st' x a ha => by cases ha) (fun x hx st' K x1 hK => ?_) (by simp only [List.length_nil, List.length_map]; omega) fun st' x1 => ?_
    · obtain ⟨t, ht, rfl⟩ := List.mem_map.mp hx
      refine hp t ht st' _ _ fun st'' x2 => ?_
      have := hK st'' x2
      rw [toD_dep] at this
      exact this
    · rw [List.nil_append]
      refine newE (by simp only [List.length_map]; omega) fun p st2 x2 hp' hp2 => ?_
      simp only [seqW]
      rw [lstAt_lst hp2]
      simp only [itemsW]
      rw [intsOf_map]
      cases s with
      | one w t =>
        simp only [subs, List.map_cons, List.map_nil, optK_some, maxI, toD_dep]
        walk_at "ex"
        have := hQ _ (x1.trans x2)
        have e : (1 : Int) + (dep t : Int) = (dep (.one w t) : Int) := by simp only [dep]; omega
        rw [e]; exact this
      | two w t u =>
        simp only [subs, List.map_cons, List.map_nil, optK_some, maxI, toD_dep]
        walk_at "ex"
        have := hQ _ (x1.trans x2)
        have e : (1 : Int) + (if (dep u : Int) > (dep t : Int) then (dep u : Int) else (dep t : Int)) = (dep (.two w t u) : Int) := by simp only [dep]; split <;> omega
        rw [e]; exact this
      | yes => exact absurd rfl hs
      | no => exact absurd rfl hs
      | lamp n => exact absurd rfl hs
  intro s
  induction s with
  | yes => intro k st Q E hQ; exact atom .yes rfl (hQ st .refl)
  | no => intro k st Q E hQ; exact atom .no rfl (hQ st .refl)
  | lamp n => intro k st Q E hQ; exact atom (.lamp n) rfl (hQ st .refl)
  | one w s ih =>
    intro k st Q E hQ
    have e : k + dep (.one w s) = k + dep s + 1 := by simp only [dep]; omega
    rw [e]
    refine more (.one w s) (by simp [subs]) (fun t ht st' Q' E' hQ' => ?_) hQ
    simp only [subs, List.mem_singleton] at ht
    subst ht
    exact ih hQ'
  | two w s t ih1 ih2 =>
    intro k st Q E hQ
    have l1 := Nat.le_max_left (dep s) (dep t)
    have l2 := Nat.le_max_right (dep s) (dep t)
    have e : k + dep (.two w s t) = k + max (dep s) (dep t) + 1 := by simp only [dep]; omega
    rw [e]
    refine more (.two w s t) (by simp [subs]) (fun u hu st' Q' E' hQ' => ?_) hQ
    simp only [subs, List.mem_cons, List.not_mem_nil, or_false] at hu
    rcases hu with rfl | rfl
    · have := ih1 (k := k + (max (dep u) (dep t) - dep u)) (st := st') (Q := Q') (E := E') hQ'
      have e : k + (max (dep u) (dep t) - dep u) + dep u = k + max (dep u) (dep t) := by omega
      rw [e] at this; exact this
    · have := ih2 (k := k + (max (dep s) (dep u) - dep u)) (st := st') (Q := Q') (E := E') hQ'
      have e : k + (max (dep s) (dep u) - dep u) + dep u = k + max (dep s) (dep u) := by omega
      rw [e] at this; exact this
end
end L3
end
section
namespace L3
open PySem
section
variable {G : Prog} {k iw i : Nat} {E : XK}
end
end L3
end
section
namespace L3
open PySem
section
variable {G : Prog} {i : Nat} {names : List (List Nat)}
end
end L3
end
section
namespace L3
open PySem
section
variable {G : Prog} {i : Nat} {names : List (List Nat)}
end
end L3
end
section
namespace L3
open PySem
theorem wpFn_le {G : Prog} {j k : Nat} (h : j ≤ k) {f : Nat} {ds : List D} {st : Store} {Q : VK} {E : XK} (w : wpFn G j f ds st Q E) : wpFn G k f ds st Q E := wpFn_mono G h f ds st _ _ _ _ (fun _ _ z => z) (fun _ _ z => z) w
theorem okNames_in {fs gs : List (List Nat)} (h : okNames fs gs = true) : (0 < (fs ++ gs).length ∧ fs.length + gs.length ≤ 4) ∧ ∀ n ∈ fs ++ gs, n ∈ some8 := by
  simp only [okNames, Bool.and_eq_true, decide_eq_true_eq] at h
  refine ⟨⟨by simp only [List.length_append]; omega, by omega⟩, fun n hn => ?_⟩
  have := List.all_eq_true.mp h.2 n hn
  simpa using this
theorem some8_nm : ∀ n ∈ some8, nameB n = true := by decide +kernel
theorem plainS_toD {st : Store} {s : Sy} (h : dep s ≤ 60) : plainS st (toD s) := ⟨pureS_of _ (toD_pure s), by rw [toD_dep]; exact Nat.le_trans h (by decide)⟩
section
variable {G : Prog} {ic im inx is inm ick idp ide ir isp isn isw iy iw il : Nat}
end
end L3
end
section
namespace L3
open PySem
noncomputable def isL (c : Nat) : Bool := occurs [c] lettersW
noncomputable def wrd (s : List Nat) : List Nat := s.takeWhile isL
noncomputable def wrs (s : List Nat) : List Nat := s.dropWhile isL
inductive Py where
  | lamp (w : List Nat) | nul (w : List Nat) | one (w : List Nat) (t : Py) | two (w : List Nat) (a b : Py)
noncomputable def pD : Py → D
  | .lamp w => .tup [.str (W "lamp"), .str w]
  | .nul w => .tup [.str w]
  | .one w t => .tup [.str w, pD t]
  | .two w a b => .tup [.str w, pD a, pD b]
noncomputable def nulB (w : List Nat) : Bool := w == W "yes" || w == W "no"
noncomputable def oneB (w : List Nat) : Bool := w == W "not" || w == W "before" || w == W "once" || w == W "sofar"
noncomputable def twoB (w : List Nat) : Bool := w == W "and" || w == W "or" || w == W "then" || w == W "same" || w == W "since"
noncomputable def past (c : Nat) : List Nat → Option (List Nat)
  | x :: s => if x = c then some s else none
  | [] => none
noncomputable def pN : Nat → List Nat → Option (Py × List Nat)
  | 0, _ => none
  | d + 1, s => match past 40 s with
    | some s1 => (pN d s1).bind fun p => (past 32 p.2).bind fun s3 => (past 32 (wrs s3)).bind fun s5 => (pN d s5).bind fun q => (past 41 q.2).map fun s7 => (.two (wrd s3) p.1 q.1, s7)
    | none => if nulB (wrd s) = true then some (.nul (wrd s), wrs s) else if oneB (wrd s) = true then (past 32 (wrs s)).bind fun s2 => (pN d s2).map fun p => (.one (wrd s) p.1, p.2) else some (.lamp (wrd s), wrs s)
noncomputable def pL (names : List (List Nat)) : Nat → List Nat → Option (Py × List Nat)
  | 0, _ => none
  | f + 1, s => match past 40 s with
    | some s1 => (pL names f s1).bind fun p => (past 32 p.2).bind fun s3 => if twoB (wrd s3) = true then (past 32 (wrs s3)).bind fun s5 => (pL names f s5).bind fun q => (past 41 q.2).map fun s7 => (.two (wrd s3) p.1 q.1, s7) else none
    | none => if oneB (wrd s) = true ∧ (past 32 (wrs s)).isSome = true then (past 32 (wrs s)).bind fun s2 => (pL names f s2).map fun p => (.one (wrd s) p.1, p.2) else if nulB (wrd s) = true then some (.nul (wrd s), wrs s) else if wrd s ∈ names then some (.lamp (wrd s), wrs s) else none
noncomputable def deep : Py → Nat
  | .one _ t => deep t + 1
  | .two _ a b => max (deep a) (deep b) + 1
  | _ => 1
noncomputable def okP (names : List (List Nat)) : Py → Bool
  | .lamp w => decide (w ∈ names)
  | .nul _ => true
  | .one _ t => okP names t
  | .two w a b => twoB w && (okP names a && okP names b)
noncomputable def shp : Py → Prop
  | .lamp w => nulB w = false ∧ oneB w = false
  | .nul w => nulB w = true
  | .one w t => oneB w = true ∧ shp t
  | .two _ a b => shp a ∧ shp b
theorem deep_pos (x : Py) : 1 ≤ deep x := by cases x <;> simp only [deep] <;> omega
set_option tactic.hygienic true in
theorem pN_deep : ∀ (d : Nat) {s r : List Nat} {x : Py}, pN d s = some (x, r) → deep x ≤ d ∧ shp x
  | 0, _, _, _, h => by simp [pN] at h
  | d + 1, s, r, x, h => by
    unfold pN at h
    split at h
    · simp only [Option.bind_eq_some_iff, Option.map_eq_some_iff, Prod.mk.injEq] at h
      obtain ⟨⟨a, s2⟩, h1, s3, h2, s5, h3, ⟨b, s6⟩, h4, s7, h5, rfl, rfl⟩ := h
      have i1 := pN_deep d h1
      have i2 := pN_deep d h4
      refine ⟨?_, i1.2, i2.2⟩
      have j1 := i1.1
      have j2 := i2.1
      simp only [deep]; omega
    · split at h
      · rename_i h1
        cases h
        exact ⟨by simp only [deep]; omega, h1⟩
      · rename_i h1
        split at h
        · rename_i h2
          simp only [Option.bind_eq_some_iff, Option.map_eq_some_iff, Prod.mk.injEq] at h
          obtain ⟨s2, h3, ⟨a, s4⟩, h4, rfl, rfl⟩ := h
          have i1 := pN_deep d h4
          refine ⟨?_, h2, i1.2⟩
          have j1 := i1.1
          simp only [deep]; omega
        · rename_i h2
          cases h
          exact ⟨by simp only [deep]; omega, by simpa using h1, by simpa using h2⟩
set_option tactic.hygienic true in
theorem pL_of {names : List (List Nat)} : ∀ (d f : Nat) {s r : List Nat} {x : Py}, d ≤ f → pN d s = some (x, r) → okP names x = true → pL names f s = some (x, r)
  | 0, _, _, _, _, _, h, _ => by simp [pN] at h
  | d + 1, 0, _, _, _, l, _, _ => by omega
  | d + 1, f + 1, s, r, x, l, h, ok => by
    have l' : d ≤ f := by omega
    unfold pN at h
    unfold pL
    cases e : past 40 s with
    | some s1 =>
      simp only [e] at h
      simp only [Option.bind_eq_some_iff, Option.map_eq_some_iff, Prod.mk.injEq] at h
      obtain ⟨⟨a, s2⟩, h1, s3, h2, s5, h3, ⟨b, s6⟩, h4, s7, h5, rfl, rfl⟩ := h
      simp only [okP, Bool.and_eq_true] at ok
      dsimp only at h2 h3 h5
      simp only [e, pL_of d f l' h1 ok.2.1, Option.bind_some, h2, ok.1, if_true, h3, pL_of d f l' h4 ok.2.2, h5, Option.map_some]
    | none =>
      simp only [e] at h
      dsimp only
      split at h
      · rename_i h1
        cases h
        have n1 : oneB (wrd s) = false := by
          unfold nulB at h1
          simp only [Bool.or_eq_true, beq_iff_eq] at h1
          rcases h1 with h1 | h1 <;> rw [h1] <;> decide
        rw [if_neg (by rw [n1]; simp), if_pos h1]
      · rename_i h1
        split at h
        · rename_i h2
          simp only [Option.bind_eq_some_iff, Option.map_eq_some_iff, Prod.mk.injEq] at h
          obtain ⟨s2, h3, ⟨a, s4⟩, h4, rfl, rfl⟩ := h
          simp only [okP] at ok
          rw [if_pos ⟨h2, by rw [h3]; rfl⟩]
          simp only [h3, Option.bind_some, pL_of d f l' h4 ok, Option.map_some]
        · rename_i h2
          cases h
          simp only [okP, decide_eq_true_eq] at ok
          rw [if_neg (fun z => h2 z.1), if_neg h1, if_pos ok]
set_option tactic.hygienic true in
theorem pN_of {names : List (List Nat)} (hn : ∀ n ∈ names, nulB n = false ∧ oneB n = false) : ∀ (f d : Nat) {s r : List Nat} {x : Py}, pL names f s = some (x, r) → deep x ≤ d → pN d s = some (x, r) ∧ okP names x = true
  | 0, _, _, _, _, h, _ => by simp [pL] at h
  | f + 1, 0, s, r, x, h, l => by have := deep_pos x; omega
  | f + 1, d + 1, s, r, x, h, l => by
    unfold pL at h
    unfold pN
    cases e : past 40 s with
    | some s1 =>
      simp only [e] at h
      simp only [Option.bind_eq_some_iff] at h
      obtain ⟨⟨a, s2⟩, h1, s3, h2, h⟩ := h
      split at h
      · rename_i ht
        simp only [Option.bind_eq_some_iff, Option.map_eq_some_iff, Prod.mk.injEq] at h
        obtain ⟨s5, h3, ⟨b, s6⟩, h4, s7, h5, rfl, rfl⟩ := h
        simp only [deep] at l
        obtain ⟨i1, o1⟩ := pN_of hn f d h1 (by omega)
        obtain ⟨i2, o2⟩ := pN_of hn f d h4 (by omega)
        dsimp only at h2 h3 h5
        simp only [e, i1, Option.bind_some, h2, h3, i2, h5, Option.map_some, okP, ht, o1, o2, Bool.and_self, and_self]
      · cases h
    | none =>
      simp only [e] at h
      dsimp only
      split at h
      · rename_i h1
        simp only [Option.bind_eq_some_iff, Option.map_eq_some_iff, Prod.mk.injEq] at h
        obtain ⟨s2, h3, ⟨a, s4⟩, h4, rfl, rfl⟩ := h
        simp only [deep] at l
        obtain ⟨i1, o1⟩ := pN_of hn f d h4 (by omega)
        have n1 : ¬ nulB (wrd s) = true := by
          have h1 := h1.1
          unfold oneB at h1
          simp only [Bool.or_eq_true, beq_iff_eq] at h1
          rcases h1 with ((h1 | h1) | h1) | h1 <;> rw [h1] <;> decide
        rw [if_neg n1, if_pos h1.1]
        simp only [h3, Option.bind_some, i1, Option.map_some, okP, o1, and_self]
      · rename_i h1
        split at h
        · rename_i h2
          cases h
          rw [if_pos h2]
          exact ⟨rfl, rfl⟩
        · rename_i h2
          split at h
          · rename_i h3
            cases h
            have := hn _ h3
            rw [if_neg h2, if_neg (by rw [this.2]; simp)]
            exact ⟨rfl, by simpa [okP] using h3⟩
          · cases h
noncomputable def sgn : List Nat → Nat
  | [] => 0
  | c :: s => (if c = 40 ∨ c = 32 then 1 else 0) + sgn s
theorem sg_past {c : Nat} (hc : c = 40 ∨ c = 32) {s s' : List Nat} (h : past c s = some s') : sgn s' + 1 = sgn s := by
  cases s with
  | nil => simp [past] at h
  | cons x s =>
    simp only [past] at h
    by_cases e : x = c
    · rw [if_pos e] at h; cases h; subst e; simp only [sgn, if_pos hc]; omega
    · rw [if_neg e] at h; cases h
theorem sg_past' {c : Nat} {s s' : List Nat} (h : past c s = some s') : sgn s' ≤ sgn s := by
  cases s with
  | nil => simp [past] at h
  | cons x s =>
    simp only [past] at h
    by_cases e : x = c
    · rw [if_pos e] at h; cases h; simp only [sgn]; omega
    · rw [if_neg e] at h; cases h
theorem sg_wr (s : List Nat) : sgn (wrs s) ≤ sgn s := by
  induction s with
  | nil => simp [wrs]
  | cons x s ih =>
    unfold wrs at ih ⊢
    rw [List.dropWhile_cons]
    split
    · simp only [sgn]; omega
    · exact Nat.le_refl _
set_option tactic.hygienic true in
theorem pL_sg {names : List (List Nat)} : ∀ (f : Nat) {s r : List Nat} {x : Py}, pL names f s = some (x, r) → sgn r ≤ sgn s
  | 0, _, _, _, h => by simp [pL] at h
  | f + 1, s, r, x, h => by
    unfold pL at h
    split at h
    · rename_i s1 e
      simp only [Option.bind_eq_some_iff] at h
      obtain ⟨⟨a, s2⟩, h1, s3, h2, h⟩ := h
      split at h
      · simp only [Option.bind_eq_some_iff, Option.map_eq_some_iff, Prod.mk.injEq] at h
        obtain ⟨s5, h3, ⟨b, s6⟩, h4, s7, h5, rfl, rfl⟩ := h
        have j0 := sg_past' e
        have j1 := pL_sg f h1
        have j2 := sg_past' h2
        have j3 := sg_past' h3
        have j4 := pL_sg f h4
        have j5 := sg_past' h5
        have j6 := sg_wr s3
        dsimp only at j2 j5
        omega
      · cases h
    · split at h
      · simp only [Option.bind_eq_some_iff, Option.map_eq_some_iff, Prod.mk.injEq] at h
        obtain ⟨s2, h3, ⟨a, s4⟩, h4, rfl, rfl⟩ := h
        have j3 := sg_past' h3
        have j4 := pL_sg f h4
        have j6 := sg_wr s
        dsimp only
        omega
      · split at h
        · cases h; exact sg_wr s
        · split at h
          · cases h; exact sg_wr s
          · cases h
theorem sg_app (a b : List Nat) : sgn (a ++ b) = sgn a + sgn b := by
  induction a with
  | nil => simp [sgn]
  | cons x a ih => simp only [List.cons_append, sgn, ih]; omega
theorem sg_take (n : Nat) (s : List Nat) : sgn (s.take n) ≤ sgn s := by
  have : sgn (s.take n ++ s.drop n) = sgn s := by rw [List.take_append_drop]
  rw [sg_app] at this; omega
theorem sg_drop (n : Nat) (s : List Nat) : sgn (s.drop n) ≤ sgn s := by
  have : sgn (s.take n ++ s.drop n) = sgn s := by rw [List.take_append_drop]
  rw [sg_app] at this; omega
noncomputable def tx : Sy → List Nat
  | .yes => W "yes"
  | .no => W "no"
  | .lamp n => n
  | .one w s => c1 w ++ 32 :: tx s
  | .two w s t => 40 :: (tx s ++ 32 :: (c2 w ++ 32 :: (tx t ++ [41])))
noncomputable def py : Sy → Py
  | .yes => .nul (W "yes")
  | .no => .nul (W "no")
  | .lamp n => .lamp n
  | .one w s => .one (c1 w) (py s)
  | .two w s t => .two (c2 w) (py s) (py t)
theorem pD_py : ∀ s : Sy, pD (py s) = toD s
  | .yes => rfl
  | .no => rfl
  | .lamp n => rfl
  | .one w s => by simp only [py, pD, toD, pD_py s]
  | .two w s t => by simp only [py, pD, toD, pD_py s, pD_py t]
theorem okP_py {names : List (List Nat)} : ∀ {s : Sy}, over names s → okP names (py s) = true
  | .yes, _ => rfl
  | .no, _ => rfl
  | .lamp n, h => by simpa [py, okP, over] using h
  | .one w s, h => by simp only [py, okP]; exact okP_py (s := s) h
  | .two w s t, h => by simp only [py, okP, okP_py (s := s) h.1, okP_py (s := t) h.2, Bool.and_self, Bool.and_true]; cases w <;> decide
theorem past_same {c : Nat} {s : List Nat} : past c (c :: s) = some s := by simp [past]
theorem wrd_app {w r : List Nat} (hw : w.all isL = true) (hr : ∀ c s, r = c :: s → isL c = false) : wrd (w ++ r) = w ∧ wrs (w ++ r) = r := by
  induction w with
  | nil =>
    cases r with
    | nil => exact ⟨rfl, rfl⟩
    | cons c s =>
      have := hr c s rfl
      unfold wrd wrs
      rw [List.nil_append, List.takeWhile_cons, List.dropWhile_cons, this]
      exact ⟨rfl, rfl⟩
  | cons x w ih =>
    simp only [List.all_cons, Bool.and_eq_true] at hw
    obtain ⟨i1, i2⟩ := ih hw.2
    simp only [wrd, wrs] at i1 i2 ⊢
    rw [List.cons_append, List.takeWhile_cons, List.dropWhile_cons, hw.1]
    exact ⟨by simp [i1], by simpa using i2⟩
theorem name_w {n : List Nat} (h : nameB n = true) : n.all isL = true ∧ 1 ≤ n.length ∧ n.length ≤ 8 ∧ nulB n = false ∧ oneB n = false := by
  unfold nameB at h
  simp only [Bool.and_eq_true, decide_eq_true_eq, Bool.not_eq_true'] at h
  obtain ⟨⟨⟨h1, h2⟩, h3⟩, h4⟩ := h
  refine ⟨h4, h2, h3, ?_, ?_⟩
  · cases e : nulB n with
    | false => rfl
    | true =>
      unfold nulB at e
      simp only [Bool.or_eq_true, beq_iff_eq] at e
      rcases e with e | e <;> subst e <;> exact absurd h1 (by decide)
  · cases e : oneB n with
    | false => rfl
    | true =>
      unfold oneB at e
      simp only [Bool.or_eq_true, beq_iff_eq] at e
      rcases e with ((e | e) | e) | e <;> subst e <;> exact absurd h1 (by decide)
theorem past_w {c : Nat} {w r : List Nat} (hc : isL c = false) (hw : w.all isL = true) (hl : 1 ≤ w.length) : past c (w ++ r) = none := by
  cases w with
  | nil => simp at hl
  | cons x w =>
    simp only [List.all_cons, Bool.and_eq_true] at hw
    simp only [List.cons_append, past]
    rw [if_neg (fun z => by rw [z, hc] at hw; exact absurd hw.1 (by decide))]
theorem pN_tx {names : List (List Nat)} (hn : ∀ n ∈ names, nameB n = true) : ∀ (s : Sy) {d : Nat} {r : List Nat}, over names s → dep s ≤ d → (∀ c t, r = c :: t → isL c = false) → pN d (tx s ++ r) = some (py s, r)
  | s, 0, _, _, l, _ => by have := dep_pos s; omega
  | .yes, d + 1, r, _, _, hr => by
    obtain ⟨e1, e2⟩ := wrd_app (w := W "yes") (r := r) (by decide) hr
    unfold pN
    simp only [tx, past_w (c := 40) (w := W "yes") (r := r) (by decide) (by decide) (by decide), e1, e2, py]
    rw [if_pos (by decide)]
  | .no, d + 1, r, _, _, hr => by
    obtain ⟨e1, e2⟩ := wrd_app (w := W "no") (r := r) (by decide) hr
    unfold pN
    simp only [tx, past_w (c := 40) (w := W "no") (r := r) (by decide) (by decide) (by decide), e1, e2, py]
    rw [if_pos (by decide)]
  | .lamp n, d + 1, r, ho, _, hr => by
    obtain ⟨a1, a2, a3, a4, a5⟩ := name_w (hn n ho)
    obtain ⟨e1, e2⟩ := wrd_app (w := n) (r := r) a1 hr
    unfold pN
    simp only [tx, past_w (c := 40) (w := n) (r := r) (by decide) a1 a2, e1, e2, py]
    rw [if_neg (by rw [a4]; simp), if_neg (by rw [a5]; simp)]
  | .one w s, d + 1, r, ho, l, hr => by
    simp only [dep] at l
    have ih := pN_tx hn s (d := d) (r := r) ho (by omega) hr
    have e : tx (.one w s) ++ r = c1 w ++ 32 :: (tx s ++ r) := by simp only [tx, List.append_assoc, List.cons_append]
    obtain ⟨e1, e2⟩ := wrd_app (w := c1 w) (r := 32 :: (tx s ++ r)) (by cases w <;> decide) (fun c t z => by cases z; decide)
    unfold pN
    simp only [e, past_w (c := 40) (w := c1 w) (r := 32 :: (tx s ++ r)) (by decide) (by cases w <;> decide) (by cases w <;> decide), e1, e2, py, past_same, Option.bind_some, ih, Option.map_some]
    rw [if_neg (by cases w <;> decide), if_pos (by cases w <;> decide)]
  | .two w s t, d + 1, r, ho, l, hr => by
    simp only [dep] at l
    have ih1 := pN_tx hn s (d := d) (r := 32 :: (c2 w ++ 32 :: (tx t ++ 41 :: r))) ho.1 (by omega) (fun c t z => by cases z; decide)
    have ih2 := pN_tx hn t (d := d) (r := 41 :: r) ho.2 (by omega) (fun c t z => by cases z; decide)
    have e : tx (.two w s t) ++ r = 40 :: (tx s ++ 32 :: (c2 w ++ 32 :: (tx t ++ 41 :: r))) := by simp only [tx, List.append_assoc, List.cons_append, List.nil_append]
    obtain ⟨e1, e2⟩ := wrd_app (w := c2 w) (r := 32 :: (tx t ++ 41 :: r)) (by cases w <;> decide) (fun c t z => by cases z; decide)
    unfold pN
    simp only [e, past_same, ih1, Option.bind_some, e1, e2, ih2, Option.map_some, py]
noncomputable def txm : Nat → Nat
  | 0 => 0
  | n + 1 => 20 + 2 * txm n
theorem tx_len {names : List (List Nat)} (hn : ∀ n ∈ names, nameB n = true) : ∀ (s : Sy) {d : Nat}, over names s → dep s ≤ d → (tx s).length ≤ txm d
  | s, 0, _, l => by have := dep_pos s; omega
  | .yes, d + 1, _, _ => by simp only [tx, txm, show (W "yes").length = 3 from rfl]; omega
  | .no, d + 1, _, _ => by simp only [tx, txm, show (W "no").length = 2 from rfl]; omega
  | .lamp n, d + 1, ho, _ => by have := (name_w (hn n ho)).2.2.1; simp only [tx, txm]; omega
  | .one w s, d + 1, ho, l => by
    simp only [dep] at l
    have := tx_len hn s (d := d) ho (by omega)
    have c : (c1 w).length ≤ 6 := by cases w <;> decide
    simp only [tx, txm, List.length_append, List.length_cons]; omega
  | .two w s t, d + 1, ho, l => by
    simp only [dep] at l
    have := tx_len hn s (d := d) ho.1 (by omega)
    have := tx_len hn t (d := d) ho.2 (by omega)
    have c : (c2 w).length ≤ 6 := by cases w <;> decide
    simp only [tx, txm, List.length_append, List.length_cons, List.length_nil]; omega
noncomputable def sgm : Nat → Nat
  | 0 => 0
  | 1 => 0
  | n + 1 => 3 + 2 * sgm n
theorem sg_all {w : List Nat} (h : w.all isL = true) : sgn w = 0 := by
  induction w with
  | nil => rfl
  | cons x w ih =>
    simp only [List.all_cons, Bool.and_eq_true] at h
    simp only [sgn, ih h.2]
    rw [if_neg]
    rintro (z | z) <;> rw [z] at h <;> exact absurd h.1 (by decide)
theorem tx_sg {names : List (List Nat)} (hn : ∀ n ∈ names, nameB n = true) : ∀ (s : Sy) {d : Nat}, over names s → dep s ≤ d → sgn (tx s) ≤ sgm d
  | s, 0, _, l => by have := dep_pos s; omega
  | .yes, d + 1, _, _ => by rw [show sgn (tx .yes) = 0 from rfl]; exact Nat.zero_le _
  | .no, d + 1, _, _ => by rw [show sgn (tx .no) = 0 from rfl]; exact Nat.zero_le _
  | .lamp n, d + 1, ho, _ => by simp only [tx]; rw [sg_all (name_w (hn n ho)).1]; exact Nat.zero_le _
  | .one w s, 1, ho, l => by simp only [dep] at l; have := dep_pos s; omega
  | .two w s t, 1, ho, l => by simp only [dep] at l; have := dep_pos s; omega
  | .one w s, d + 2, ho, l => by
    simp only [dep] at l
    have := tx_sg hn s (d := d + 1) ho (by omega)
    have c : sgn (c1 w) = 0 := by cases w <;> rfl
    simp only [tx, sgm, sg_app, sgn, c]; simp; omega
  | .two w s t, d + 2, ho, l => by
    simp only [dep] at l
    have := tx_sg hn s (d := d + 1) ho.1 (by omega)
    have := tx_sg hn t (d := d + 1) ho.2 (by omega)
    have c : sgn (c2 w) = 0 := by cases w <;> rfl
    simp only [tx, sgm, sg_app, sgn, c]; simp; omega
end L3
end
section
namespace L3
open PySem
noncomputable abbrev rdF (T : List Nat) (i : Nat) : List (List Nat × D) := [(W "text", .str T), (W "at", .int (i : Nat))]
noncomputable def Rd (st : Store) (r : Nat) (T : List Nat) (i : Nat) : Prop := st r = some (.ins (W "Reader") (rdF T i))
noncomputable def hRInit : Fn := ⟨2, 2, [.asg (.fl (W "Reader") (W "text") (.v 0)) (.v 1), .asg (.fl (W "Reader") (W "at") (.v 0)) (.c (.int 0))]⟩
noncomputable def hGoes : Fn := ⟨2, 2, [.iff (.not_ (.meth .startswith (.fld (W "Reader") (W "text") (.v 0)) [(.v 1), (.fld (W "Reader") (W "at") (.v 0))])) [.ret (.c (.bl false))] [], .asg (.fl (W "Reader") (W "at") (.v 0)) (.bin .add (.fld (W "Reader") (W "at") (.v 0)) (.c (.int 1))), .ret (.c (.bl true))]⟩
noncomputable def hNeeds (ig : Nat) : Fn := ⟨2, 2, [.iff (.not_ (.mcl (W "Reader") (W "goes_past") ig (.v 0) [(.v 1)])) [.rais 3 [(.c (.str (W "another sign was asked for")))]] []]⟩
noncomputable def hWordH (lt : D) : Fn := ⟨1, 2, [.asg (.nm 1) (.fld (W "Reader") (W "at") (.v 0)), .whl (.and_ (.cmp .lt (.fld (W "Reader") (W "at") (.v 0)) (.bi .len [(.fld (W "Reader") (W "text") (.v 0))])) (.cmp .in_ (.ix (.fld (W "Reader") (W "text") (.v 0)) (.fld (W "Reader") (W "at") (.v 0))) (.c lt))) [.asg (.fl (W "Reader") (W "at") (.v 0)) (.bin .add (.fld (W "Reader") (W "at") (.v 0)) (.c (.int 1)))], .ret (.sl (.fld (W "Reader") (W "text") (.v 0)) [(.v 1)] [(.fld (W "Reader") (W "at") (.v 0))])]⟩
noncomputable def hJoined (ins ine iwo : Nat) : Fn := ⟨2, 5, [.asg (.nm 2) (.callx ins [(.v 0), (.v 1)]), .ex (.mclx (W "Reader") (W "needs") ine (.v 0) [(.c (.str (W " ")))]), .asg (.nm 3) (.mcl (W "Reader") (W "word_here") iwo (.v 0) []), .ex (.mclx (W "Reader") (W "needs") ine (.v 0) [(.c (.str (W " ")))]), .asg (.nm 4) (.callx ins [(.v 0), (.v 1)]), .ex (.mclx (W "Reader") (W "needs") ine (.v 0) [(.c (.str (W ")")))]), .ret (.tup [(.v 3), (.v 2), (.v 4)])]⟩
noncomputable def hNextS (ij ig iwo ine ins : Nat) (sw : D) : Fn := ⟨2, 3, [.iff (.cmp .lt (.v 1) (.c (.int 1))) [.rais 3 [(.c (.str (W "too deep")))]] [], .iff (.mcl (W "Reader") (W "goes_past") ig (.v 0) [(.c (.str (W "(")))]) [.ret (.callx ij [(.v 0), (.bin .sub (.v 1) (.c (.int 1)))])] [], .asg (.nm 2) (.mcl (W "Reader") (W "word_here") iwo (.v 0) []), .iff (.cmp .eq (.meth .get (.c sw) [(.v 2)]) (.c (.int 0))) [.ret (.tup [(.v 2)])] [], .iff (.cmp .eq (.meth .get (.c sw) [(.v 2)]) (.c (.int 1))) [.ex (.mclx (W "Reader") (W "needs") ine (.v 0) [(.c (.str (W " ")))]), .ret (.tup [(.v 2), (.callx ins [(.v 0), (.bin .sub (.v 1) (.c (.int 1)))])])] [], .ret (.tup [(.c (.str (W "lamp"))), (.v 2)])]⟩
noncomputable def hWhole (iri ins : Nat) (dp : D) : Fn := ⟨1, 3, [.asg (.nm 1) (.mk (W "Reader") iri [(.v 0)]), .asg (.nm 2) (.callx ins [(.v 1), (.c dp)]), .iff (.cmp .lt (.fld (W "Reader") (W "at") (.v 1)) (.bi .len [(.v 0)])) [.rais 3 [(.c (.str (W "more than a saying")))]] [], .ret (.v 2)]⟩
noncomputable def hChTx : Fn := ⟨1, 1, [.iff (.not_ (.isi (.v 0) [.str])) [.rais 3 [(.c (.str (W "no text")))]] [], .ret (.v 0)]⟩
noncomputable def hRead (iwh ict iy : Nat) : Fn := ⟨2, 3, [.asg (.nm 2) (.callx iwh [(.callx ict [(.v 1)])]), .iff (.not_ (.call iy [(.v 0), (.v 2)])) [.rais 3 [(.c (.str (W "no saying over these names")))]] [], .ret (.v 2)]⟩
theorem rdF_text {T : List Nat} {i : Nat} : fldG (rdF T i) (W "text") = some (.str T) := by simp only [fldG]; rw [if_pos trivial]
theorem rdF_at {T : List Nat} {i : Nat} : fldG (rdF T i) (W "at") = some (.int (i : Nat)) := by simp only [fldG]; rw [if_neg (by decide +kernel), if_pos trivial]
theorem rdF_put {T : List Nat} {i : Nat} {v : D} : fldP (W "at") v (rdF T i) = [(W "text", .str T), (W "at", v)] := by simp only [fldP]; rw [if_neg (by decide +kernel), if_pos trivial]
theorem rdF_goes {T : List Nat} {i : Nat} : fldG (rdF T i) (W "goes_past") = none := by simp only [fldG]; rw [if_neg (by decide +kernel), if_neg (by decide +kernel)]
theorem rdF_needs {T : List Nat} {i : Nat} : fldG (rdF T i) (W "needs") = none := by simp only [fldG]; rw [if_neg (by decide +kernel), if_neg (by decide +kernel)]
theorem rdF_word {T : List Nat} {i : Nat} : fldG (rdF T i) (W "word_here") = none := by simp only [fldG]; rw [if_neg (by decide +kernel), if_neg (by decide +kernel)]
theorem pre_past {c : Nat} {s : List Nat} : [c].isPrefixOf s = (past c s).isSome := by
  cases s with
  | nil => rfl
  | cons x s =>
    simp only [List.isPrefixOf, past, Bool.and_true]
    by_cases e : x = c
    · subst e; simp
    · rw [if_neg e]; simp [Ne.symm e]
theorem past_drop {c i : Nat} {T s : List Nat} (h : past c (T.drop i) = some s) : s = T.drop (i + 1) ∧ i < T.length := by
  cases e : T.drop i with
  | nil => rw [e] at h; simp [past] at h
  | cons x t =>
    rw [e] at h
    simp only [past] at h
    by_cases z : x = c
    · rw [if_pos z] at h; cases h
      refine ⟨?_, ?_⟩
      · have := congrArg (List.drop 1) e
        simpa [List.drop_drop, Nat.add_comm] using this.symm
      · by_cases l : i < T.length
        · exact l
        · rw [List.drop_eq_nil_of_le (by omega)] at e; cases e
    · rw [if_neg z] at h; cases h
theorem cut_nat {α : Type} {T : List α} {i j : Nat} (h1 : i ≤ j) (h2 : j ≤ T.length) : cut T (some (i : Int)) (some (j : Int)) = (T.drop i).take (j - i) := by
  unfold cut sIx
  simp only
  rw [if_neg (by omega), if_neg (by omega)]
  have e1 : min (i : Int).toNat T.length = i := by rw [Int.toNat_natCast]; omega
  have e2 : min (j : Int).toNat T.length = j := by rw [Int.toNat_natCast]; omega
  rw [e1, e2]
theorem get_w (w : List Nat) : (lookD swK swV (.str w)).getD .non = if nulB w = true then .int 0 else if oneB w = true then .int 1 else if twoB w = true then .int 2 else .non := by
  have c : ∀ a b : List Nat, (a == b) = (b == a) := fun a b => by rw [Bool.eq_iff_iff]; simp only [beq_iff_eq]; exact eq_comm
  simp only [swK, swV, lookD, eqD, nulB, oneB, twoB, c _ w]
  rcases Bool.eq_false_or_eq_true (w == W "yes") with h0 | h0
  · simp only [h0, Bool.true_or, Bool.false_or, Bool.or_true, Bool.or_false, Bool.false_eq_true, if_false, if_true, reduceIte, Option.getD_some, Option.getD_none]
  rcases Bool.eq_false_or_eq_true (w == W "no") with h1 | h1
  · simp only [h0, h1, Bool.true_or, Bool.false_or, Bool.or_true, Bool.or_false, Bool.false_eq_true, if_false, if_true, reduceIte, Option.getD_some, Option.getD_none]
  rcases Bool.eq_false_or_eq_true (w == W "not") with h2 | h2
  · simp only [h0, h1, h2, Bool.true_or, Bool.false_or, Bool.or_true, Bool.or_false, Bool.false_eq_true, if_false, if_true, reduceIte, Option.getD_some, Option.getD_none]
  rcases Bool.eq_false_or_eq_true (w == W "before") with h3 | h3
  · simp only [h0, h1, h2, h3, Bool.true_or, Bool.false_or, Bool.or_true, Bool.or_false, Bool.false_eq_true, if_false, if_true, reduceIte, Option.getD_some, Option.getD_none]
  rcases Bool.eq_false_or_eq_true (w == W "once") with h4 | h4
  · simp only [h0, h1, h2, h3, h4, Bool.true_or, Bool.false_or, Bool.or_true, Bool.or_false, Bool.false_eq_true, if_false, if_true, reduceIte, Option.getD_some, Option.getD_none]
  rcases Bool.eq_false_or_eq_true (w == W "sofar") with h5 | h5
  · simp only [h0, h1, h2, h3, h4, h5, Bool.true_or, Bool.false_or, Bool.or_true, Bool.or_false, Bool.false_eq_true, if_false, if_true, reduceIte, Option.getD_some, Option.getD_none]
  rcases Bool.eq_false_or_eq_true (w == W "and") with h6 | h6
  · simp only [h0, h1, h2, h3, h4, h5, h6, Bool.true_or, Bool.false_or, Bool.or_true, Bool.or_false, Bool.false_eq_true, if_false, if_true, reduceIte, Option.getD_some, Option.getD_none]
  rcases Bool.eq_false_or_eq_true (w == W "or") with h7 | h7
  · simp only [h0, h1, h2, h3, h4, h5, h6, h7, Bool.true_or, Bool.false_or, Bool.or_true, Bool.or_false, Bool.false_eq_true, if_false, if_true, reduceIte, Option.getD_some, Option.getD_none]
  rcases Bool.eq_false_or_eq_true (w == W "then") with h8 | h8
  · simp only [h0, h1, h2, h3, h4, h5, h6, h7, h8, Bool.true_or, Bool.false_or, Bool.or_true, Bool.or_false, Bool.false_eq_true, if_false, if_true, reduceIte, Option.getD_some, Option.getD_none]
  rcases Bool.eq_false_or_eq_true (w == W "same") with h9 | h9
  · simp only [h0, h1, h2, h3, h4, h5, h6, h7, h8, h9, Bool.true_or, Bool.false_or, Bool.or_true, Bool.or_false, Bool.false_eq_true, if_false, if_true, reduceIte, Option.getD_some, Option.getD_none]
  rcases Bool.eq_false_or_eq_true (w == W "since") with h10 | h10
  · simp only [h0, h1, h2, h3, h4, h5, h6, h7, h8, h9, h10, Bool.true_or, Bool.false_or, Bool.or_true, Bool.or_false, Bool.false_eq_true, if_false, if_true, reduceIte, Option.getD_some, Option.getD_none]
  simp only [h0, h1, h2, h3, h4, h5, h6, h7, h8, h9, h10, Bool.true_or, Bool.false_or, Bool.or_true, Bool.or_false, Bool.false_eq_true, if_false, if_true, reduceIte, Option.getD_some, Option.getD_none]
theorem nul_one {w : List Nat} (h : oneB w = true) : nulB w = false := by
  unfold oneB at h
  simp only [Bool.or_eq_true, beq_iff_eq] at h
  rcases h with ((h1 | h1) | h1) | h1 <;> rw [h1] <;> decide
theorem get_pl (st : Store) (w : List Nat) : plainS st ((lookD swK swV (.str w)).getD .non) := by
  rw [get_w]
  split
  · exact ⟨rfl, Nat.zero_le _⟩
  · split
    · exact ⟨rfl, Nat.zero_le _⟩
    · split
      · exact ⟨rfl, Nat.zero_le _⟩
      · exact ⟨rfl, Nat.zero_le _⟩
theorem get_0 (st : Store) (w : List Nat) : eqS st ((lookD swK swV (.str w)).getD .non) (.int 0) = nulB w := by
  rw [get_w]
  cases h : nulB w with
  | true => rfl
  | false =>
    simp only [Bool.false_eq_true, if_false]
    split
    · rfl
    · split <;> rfl
theorem get_1 (st : Store) (w : List Nat) : eqS st ((lookD swK swV (.str w)).getD .non) (.int 1) = oneB w := by
  rw [get_w]
  cases h : oneB w with
  | true => rw [nul_one h]; rfl
  | false =>
    simp only [Bool.false_eq_true, if_false]
    split
    · rfl
    · split <;> rfl
section
variable {G : Prog} {k ig ine iwo ij ins iri iwh ict iy : Nat} {st : Store} {Q : VK} {E : XK} {r : Nat} {T : List Nat}
theorem Rd.put {i j : Nat} : Rd (put st r (.ins (W "Reader") (rdF T j))) r T j := put_same
theorem goes_ok (h : G.fns ig = some hGoes) {i c : Nat} (hr : Rd st r T i) (hi : i ≤ T.length) (hT : T.length ≤ LINE) (h0 : past c (T.drop i) = none → Q (.bl false) st) (h1 : (past c (T.drop i)).isSome = true → Q (.bl true) (put st r (.ins (W "Reader") (rdF T (i + 1))))) : wpFn G (k + 1) ig [.ref r, .str [c]] st Q E := by
  rw [wpFn_at h]
  simp only [hGoes, start]
  refine ⟨rfl, ?_⟩
  walk_at "st"
  rw [fld_at hr rdF_text]
  walk_at "ex"
  rw [fld_at hr rdF_at]
  walk_at "ex"
  refine ⟨⟨hT, by omega, by omega⟩, ?_⟩
  rw [Int.toNat_natCast, pre_past]
  cases hp : past c (T.drop i) with
  | none =>
    simp only [Option.isSome_none, Bool.not_false, if_true]
    walk_at "st"
    exact h0 hp
  | some s =>
    simp only [Option.isSome_some, Bool.not_true, Bool.false_eq_true, if_false, wpSs_nil]
    walk_at "st"
    rw [fld_at hr rdF_at]
    walk_at "ex"
    rw [sf_at hr (by simp), rdF_put]
    walk_at "st"
    exact h1 (by rw [hp]; rfl)
theorem needs_ok (h : G.fns ine = some (hNeeds ig)) (hg : G.fns ig = some hGoes) {i c : Nat} (hr : Rd st r T i) (hi : i ≤ T.length) (hT : T.length ≤ LINE) (h0 : past c (T.drop i) = none → E 3 st) (h1 : (past c (T.drop i)).isSome = true → Q .non (put st r (.ins (W "Reader") (rdF T (i + 1))))) : wpFn G (k + 2) ine [.ref r, .str [c]] st Q E := by
  rw [wpFn_at h]
  simp only [hNeeds, start]
  refine ⟨rfl, ?_⟩
  walk_at "st"
  rw [met_at hr rdF_goes]
  refine ⟨True.intro, ?_⟩
  walk_at "ex"
  refine goes_ok hg hr hi hT (fun hp => ?_) fun hp => ?_
  · walk_at "ex"
    try simp only [Bool.not_false, if_true]
    walk_at "st"
    exact h0 hp
  · walk_at "ex"
    try simp only [Bool.not_true, Bool.false_eq_true, if_false]
    simp only [wpSs_nil]
    exact h1 hp
theorem word_ok (h : G.fns iwo = some (hWordH (.str lettersW))) {i : Nat} (hr : Rd st r T i) (hi : i ≤ T.length) (hT : T.length ≤ LINE) (hQ : ∀ st' j, Keep [r] st st' → Rd st' r T j → j ≤ T.length → T.drop j = wrs (T.drop i) → Q (.str (wrd (T.drop i))) st') : wpFn G (k + 1) iwo [.ref r] st Q E := by
  rw [wpFn_at h]
  simp only [hWordH, start]
  refine ⟨rfl, ?_⟩
  walk_at "st"
  rw [fld_at hr rdF_at]
  try dsimp only
  refine wpSs_c ?_
  refine while_rule (wpFn_mono G (Nat.le_refl _)) (fun m σ st' => ∃ j, σ = [some (.ref r), some (.int (i : Nat))] ∧ Rd st' r T j ∧ i ≤ j ∧ j ≤ T.length ∧ m = T.length - j ∧ Keep [r] st st' ∧ wrs (T.drop i) = wrs (T.drop j) ∧ wrd (T.drop i) = (T.drop i).take (j - i) ++ wrd (T.drop j)) ?_ (m := T.length - i) ⟨i, rfl, hr, Nat.le_refl _, hi, rfl, .refl, rfl, by simp⟩
  rintro m σ st3 ⟨j, rfl, r3, l1, l2, hm, k3, e1, e2⟩
  walk_at "ex"
  rw [fld_at r3 rdF_at, fld_at r3 rdF_text]
  walk_at "ex"
  refine ⟨hT, ?_⟩
  have done : (T.drop j = [] ∨ ∃ c t, T.drop j = c :: t ∧ isL c = false) → wpSs (wpFn G k) G.sub [.ret (.sl (.fld (W "Reader") (W "text") (.v 0)) [(.v 1)] [(.fld (W "Reader") (W "at") (.v 0))])] ⟨fun _ st' => Q .non st', Q, fun _ _ => False, fun _ _ => False, fun c _ st' => E c st'⟩ [some (.ref r), some (.int (i : Nat))] st3 := fun hz => by
    have z1 : wrd (T.drop j) = [] ∧ wrs (T.drop j) = T.drop j := by
      rcases hz with hz | ⟨c, t, hz, hl⟩
      · rw [hz]; exact ⟨rfl, rfl⟩
      · rw [hz]; unfold wrd wrs; rw [List.takeWhile_cons, List.dropWhile_cons, hl]; exact ⟨rfl, rfl⟩
    walk_at "st"
    rw [fld_at r3 rdF_text]
    walk_at "ex"
    rw [fld_at r3 rdF_at]
    walk_at "ex"
    refine ⟨hT, ?_⟩
    rw [cut_nat l1 l2]
    have e3 : (T.drop i).take (j - i) = wrd (T.drop i) := by rw [e2, z1.1, List.append_nil]
    rw [e3]
    exact hQ st3 j k3 r3 l2 (by rw [e1, z1.2])
  by_cases hl : j < T.length
  · have hl' : (j : Int) < (T.length : Int) := by omega
    simp only [hl', decide_true, if_true]
    rw [fld_at r3 rdF_text]
    walk_at "ex"
    rw [fld_at r3 rdF_at]
    walk_at "ex"
    rw [atI_nat (by omega), List.getElem?_eq_getElem hl]
    simp only [optK_some]
    walk_at "ex"
    refine ⟨hT, ?_⟩
    have ed : T.drop j = T[j] :: T.drop (j + 1) := List.drop_eq_getElem_cons hl
    cases hc : occurs [T[j]] lettersW with
    | false =>
      simp only [Bool.false_eq_true, if_false]
      exact done (.inr ⟨_, _, ed, hc⟩)
    | true =>
      have hc' : isL T[j] = true := hc
      simp only [if_true]
      walk_at "st"
      rw [fld_at r3 rdF_at]
      walk_at "ex"
      rw [sf_at r3 (by simp), rdF_put]
      rw [wpSs_nil]
      refine ⟨m - 1, by omega, j + 1, rfl, Rd.put (i := j), by omega, by omega, by omega, k3.trans (Keep.put (by simp)), ?_, ?_⟩
      · rw [e1, ed]; unfold wrs; rw [List.dropWhile_cons, hc']; rfl
      · rw [e2, ed]
        have : wrd (T[j] :: T.drop (j + 1)) = T[j] :: wrd (T.drop (j + 1)) := by unfold wrd; rw [List.takeWhile_cons, hc']; rfl
        rw [this]
        have e5 : (T.drop i).take (j + 1 - i) = (T.drop i).take (j - i) ++ [T[j]] := by
          rw [show j + 1 - i = (j - i) + 1 from by omega, List.take_add_one]
          rw [List.getElem?_drop, show i + (j - i) = j from by omega, List.getElem?_eq_getElem hl]
          rfl
        rw [e5, List.append_assoc, List.singleton_append]
  · have hl' : ¬ (j : Int) < (T.length : Int) := by omega
    simp only [hl', decide_false, Bool.false_eq_true, if_false]
    exact done (.inl (List.drop_eq_nil_of_le (by omega)))
end
end L3
end
section
namespace L3
open PySem
theorem wlp : W "(" = [40] := by decide
theorem wsp : W " " = [32] := by decide
theorem wrp : W ")" = [41] := by decide
section
variable {G : Prog} {k ig ine iwo ij ins iri iwh ict iy isn isw : Nat} {st : Store} {Q : VK} {E : XK} {r : Nat} {T : List Nat}
noncomputable abbrev RQ (r : Nat) (T : List Nat) (st : Store) (o : Option (Py × List Nat)) (Q : VK) (E : XK) : Prop :=
  (∀ x rest, o = some (x, rest) → ∀ st' j, Keep [r] st st' → Rd st' r T j → j ≤ T.length → T.drop j = rest → Q (pD x) st') ∧ (o = none → ∀ st', Keep [r] st st' → E 3 st')
structure RF (G : Prog) (ig ine iwo ij ins : Nat) : Prop where
  g : G.fns ig = some hGoes
  n : G.fns ine = some (hNeeds ig)
  w : G.fns iwo = some (hWordH (.str lettersW))
  j : G.fns ij = some (hJoined ins ine iwo)
  s : G.fns ins = some (hNextS ij ig iwo ine ins (.mdic swK swV))
theorem nextS_ok (F : RF G ig ine iwo ij ins) (hT : T.length ≤ LINE) : ∀ (d : Nat) {k : Nat} {st : Store} {Q : VK} {E : XK} {i : Nat}, Rd st r T i → i ≤ T.length → RQ r T st (pN d (T.drop i)) Q E → wpFn G (k + 2 * d + 4) ins [.ref r, .int (d : Nat)] st Q E := by
  intro d
  induction d with
  | zero =>
    intro k st Q E i hr hi hq
    rw [wpFn_at F.s]
    simp only [hNextS, start]
    refine ⟨rfl, ?_⟩
    walk_at "st"
    simp only [Int.natCast_zero, show ((0 : Int) < 1) = True from by simp, decide_true, if_true]
    walk_at "st"
    exact hq.2 rfl st .refl
  | succ d ih =>
    intro k st Q E i hr hi hq
    have hd : (((d + 1 : Nat) : Int) - 1) = (d : Int) := by omega
    have h1 : ¬ (((d + 1 : Nat) : Int) < 1) := by omega
    rw [show k + 2 * (d + 1) + 4 = k + 2 * d + 5 + 1 from by omega, wpFn_at F.s]
    simp only [hNextS, start]
    refine ⟨rfl, ?_⟩
    walk_at "st"
    simp only [h1, decide_false, Bool.false_eq_true, if_false, wpSs_nil]
    walk_at "st"
    rw [met_at hr rdF_goes]
    refine ⟨True.intro, ?_⟩
    walk_at "ex"
    rw [wlp]
    refine goes_ok (c := 40) (k := k + 2 * d + 4) F.g hr hi hT (fun hp => ?_) fun hp => ?_
    · walk_at "ex"
      try simp only [Bool.false_eq_true, if_false, wpSs_nil]
      walk_at "st"
      rw [met_at hr rdF_word]
      refine ⟨True.intro, ?_⟩
      walk_at "ex"
      refine word_ok (k := k + 2 * d + 4) F.w hr hi hT fun st1 j k1 r1 l1 e1 => ?_
      walk_at "st"
      refine ⟨get_pl _ _, ?_⟩
      rw [get_0]
      cases hz : nulB (wrd (T.drop i)) with
      | true =>
        simp only [if_true]
        walk_at "st"
        refine hq.1 (.nul (wrd (T.drop i))) (wrs (T.drop i)) ?_ st1 j k1 r1 l1 e1
        unfold pN
        simp only [hp]
        rw [if_pos hz]
      | false =>
        simp only [Bool.false_eq_true, if_false, wpSs_nil]
        walk_at "st"
        refine ⟨get_pl _ _, ?_⟩
        rw [get_1]
        cases ho : oneB (wrd (T.drop i)) with
        | true =>
          simp only [if_true]
          have e0 : pN (d + 1) (T.drop i) = (past 32 (wrs (T.drop i))).bind fun s2 => (pN d s2).map fun p => (.one (wrd (T.drop i)) p.1, p.2) := by
            conv => lhs; unfold pN
            simp only [hp]
            rw [if_neg (by rw [hz]; simp), if_pos ho]
          walk_at "st"
          rw [met_at r1 rdF_needs]
          refine ⟨True.intro, ?_⟩
          walk_at "ex"
          try rw [wsp]
          refine needs_ok (c := 32) (k := k + 2 * d + 3) F.n F.g r1 l1 hT (fun hs => ?_) fun hs => ?_
          · refine hq.2 ?_ _ k1
            rw [e0, ← e1, hs]; rfl
          · obtain ⟨s2, e2⟩ := Option.isSome_iff_exists.mp hs
            obtain ⟨e3, l3⟩ := past_drop e2
            walk_at "st"
            rw [hd]
            have k2 : Keep [r] st (put st1 r (.ins (W "Reader") (rdF T (j + 1)))) := k1.trans (Keep.put (by simp))
            rw [show k + 2 * d + 5 = k + 1 + 2 * d + 4 from by omega]
            refine ih (k := k + 1) (i := j + 1) (Rd.put (i := j)) (by omega) ⟨fun x rest hx st3 j3 k3 r3 l4 e4 => ?_, fun hx st3 k3 => ?_⟩
            · walk_at "ex"
              refine hq.1 (.one (wrd (T.drop i)) x) rest ?_ st3 j3 (k2.trans k3) r3 l4 e4
              rw [e0, ← e1, e2, Option.bind_some, e3, hx]; rfl
            · refine hq.2 ?_ _ (k2.trans k3)
              rw [e0, ← e1, e2, Option.bind_some, e3, hx]; rfl
        | false =>
          simp only [Bool.false_eq_true, if_false, wpSs_nil]
          walk_at "st"
          refine hq.1 (.lamp (wrd (T.drop i))) (wrs (T.drop i)) ?_ st1 j k1 r1 l1 e1
          unfold pN
          simp only [hp]
          rw [if_neg (by rw [hz]; simp), if_neg (by rw [ho]; simp)]
    · obtain ⟨s1, es1⟩ := Option.isSome_iff_exists.mp hp
      obtain ⟨ed1, l1⟩ := past_drop es1
      have e0 : pN (d + 1) (T.drop i) = (pN d s1).bind fun p => (past 32 p.2).bind fun s3 => (past 32 (wrs s3)).bind fun s5 => (pN d s5).bind fun q => (past 41 q.2).map fun s7 => (.two (wrd s3) p.1 q.1, s7) := by
        conv => lhs; unfold pN
        simp only [es1]
      walk_at "ex"
      try simp only [if_true]
      walk_at "st"
      rw [hd]
      have k1 : Keep [r] st (put st r (.ins (W "Reader") (rdF T (i + 1)))) := Keep.put (by simp)
      have r1 : Rd (put st r (.ins (W "Reader") (rdF T (i + 1)))) r T (i + 1) := Rd.put (i := i)
      generalize put st r (.ins (W "Reader") (rdF T (i + 1))) = st1 at k1 r1
      rw [show k + 2 * d + 5 = k + 2 * d + 4 + 1 from rfl, wpFn_at F.j]
      simp only [hJoined, start]
      refine ⟨rfl, ?_⟩
      walk_at "st"
      refine ih (k := k) (i := i + 1) r1 (by omega) ⟨fun x rest hx st2 j2 k2 r2 l2 e2 => ?_, fun hx st2 k2 => ?_⟩
      rotate_left
      · refine hq.2 ?_ _ (k1.trans k2)
        rw [e0, ed1, hx]; rfl
      walk_at "st"
      rw [met_at r2 rdF_needs]
      refine ⟨True.intro, ?_⟩
      walk_at "ex"
      try rw [wsp]
      refine needs_ok (c := 32) (k := k + 2 * d + 2) F.n F.g r2 l2 hT (fun hs => ?_) fun hs => ?_
      · refine hq.2 ?_ _ (k1.trans k2)
        rw [e0, ed1, hx, Option.bind_some, ← e2, hs]; rfl
      obtain ⟨s3, e3⟩ := Option.isSome_iff_exists.mp hs
      obtain ⟨ed3, l3⟩ := past_drop e3
      have k3 : Keep [r] st (put st2 r (.ins (W "Reader") (rdF T (j2 + 1)))) := (k1.trans k2).trans (Keep.put (by simp))
      have r3 : Rd (put st2 r (.ins (W "Reader") (rdF T (j2 + 1)))) r T (j2 + 1) := Rd.put (i := j2)
      generalize put st2 r (.ins (W "Reader") (rdF T (j2 + 1))) = st3 at k3 r3
      walk_at "st"
      rw [met_at r3 rdF_word]
      refine ⟨True.intro, ?_⟩
      walk_at "ex"
      refine word_ok (k := k + 2 * d + 3) F.w r3 (by omega) hT fun st4 j4 k4 r4 l4 e4 => ?_
      rw [← ed3] at e4 ⊢
      walk_at "st"
      rw [met_at r4 rdF_needs]
      refine ⟨True.intro, ?_⟩
      walk_at "ex"
      have e01 : pN (d + 1) (T.drop i) = (past 32 (wrs s3)).bind fun s5 => (pN d s5).bind fun q => (past 41 q.2).map fun s7 => (.two (wrd s3) x q.1, s7) := by
        rw [e0, ed1, hx, Option.bind_some, ← e2, e3, Option.bind_some]
      try rw [wsp]
      refine needs_ok (c := 32) (k := k + 2 * d + 2) F.n F.g r4 l4 hT (fun hs => ?_) fun hs => ?_
      · refine hq.2 ?_ _ (k3.trans k4)
        rw [e01, ← e4, hs]; rfl
      obtain ⟨s5, e5⟩ := Option.isSome_iff_exists.mp hs
      obtain ⟨ed5, l5⟩ := past_drop e5
      have k5 : Keep [r] st (put st4 r (.ins (W "Reader") (rdF T (j4 + 1)))) := (k3.trans k4).trans (Keep.put (by simp))
      have r5 : Rd (put st4 r (.ins (W "Reader") (rdF T (j4 + 1)))) r T (j4 + 1) := Rd.put (i := j4)
      generalize put st4 r (.ins (W "Reader") (rdF T (j4 + 1))) = st5 at k5 r5
      rw [← e4, e5, Option.bind_some, ed5] at e01
      walk_at "st"
      refine ih (k := k) (i := j4 + 1) r5 (by omega) ⟨fun y rest6 hy st6 j6 k6 r6 l6 e6 => ?_, fun hx st6 k6 => ?_⟩
      rotate_left
      · refine hq.2 ?_ _ (k5.trans k6)
        rw [e01, hx]; rfl
      walk_at "st"
      rw [met_at r6 rdF_needs]
      refine ⟨True.intro, ?_⟩
      walk_at "ex"
      rw [hy, Option.bind_some] at e01
      try rw [wrp]
      refine needs_ok (c := 41) (k := k + 2 * d + 2) F.n F.g r6 l6 hT (fun hs => ?_) fun hs => ?_
      · refine hq.2 ?_ _ (k5.trans k6)
        rw [e01, ← e6, hs]; rfl
      obtain ⟨s7, e7⟩ := Option.isSome_iff_exists.mp hs
      obtain ⟨ed7, l7⟩ := past_drop e7
      walk_at "st"
      refine hq.1 (.two (wrd s3) x y) s7 ?_ _ (j6 + 1) ((k5.trans k6).trans (Keep.put (by simp))) (Rd.put (i := j6)) (by omega) ed7.symm
      rw [e01, ← e6, e7]; rfl
noncomputable def pW (T : List Nat) : Option Py := (pN 8 T).bind fun p => if p.2 = [] then some p.1 else none
theorem whole_ok (h : G.fns iwh = some (hWhole iri ins (.int 8))) (hi : G.fns iri = some hRInit) (F : RF G ig ine iwo ij ins) (hT : T.length ≤ LINE) (hQ : ∀ x, pW T = some x → ∀ st', Ext st st' → Q (pD x) st') (hE : pW T = none → ∀ st', Ext st st' → E 3 st') : wpFn G (k + 21) iwh [.str T] st Q E := by
  rw [wpFn_at h]
  simp only [hWhole, start]
  refine ⟨rfl, ?_⟩
  walk_at "st"
  intro r hr
  rw [wpFn_at hi]
  simp only [hRInit, start]
  refine ⟨rfl, ?_⟩
  walk_at "st"
  rw [sf_at put_same (by simp [fldP])]
  walk_at "st"
  rw [sf_at put_same (by simp [fldP])]
  try simp only [wpSs_nil]
  have r1 : Rd (put (put (put st r (.ins (W "Reader") [])) r (.ins (W "Reader") (fldP (W "text") (.str T) []))) r (.ins (W "Reader") (fldP (W "at") (.int 0) (fldP (W "text") (.str T) [])))) r T 0 := by
    unfold Rd
    rw [put_same]
    simp only [fldP]
    rw [if_neg (by decide +kernel)]
    rfl
  have x1 : ∀ st', Keep [r] (put (put (put st r (.ins (W "Reader") [])) r (.ins (W "Reader") (fldP (W "text") (.str T) []))) r (.ins (W "Reader") (fldP (W "at") (.int 0) (fldP (W "text") (.str T) [])))) st' → Ext st st' := fun st' kk a o e => by
    have ne : a ≠ r := fun z => by rw [z, hr] at e; cases e
    exact kk a o (by simpa using ne) (by rw [put_ne ne, put_ne ne, put_ne ne]; exact e)
  generalize put (put (put st r (.ins (W "Reader") [])) r (.ins (W "Reader") (fldP (W "text") (.str T) []))) r (.ins (W "Reader") (fldP (W "at") (.int 0) (fldP (W "text") (.str T) []))) = st1 at r1 x1
  walk_at "st"
  refine nextS_ok F hT 8 (k := k) r1 (Nat.zero_le _) ⟨fun x rest hx st2 j k2 r2 l2 e2 => ?_, fun hx st2 k2 => ?_⟩
  rotate_left
  · refine hE ?_ _ (x1 _ k2)
    unfold pW
    rw [List.drop_zero] at hx
    rw [hx]; rfl
  rw [List.drop_zero] at hx
  walk_at "st"
  rw [fld_at r2 rdF_at]
  walk_at "ex"
  refine ⟨hT, ?_⟩
  by_cases hl : j < T.length
  · have hl' : (j : Int) < (T.length : Int) := by omega
    simp only [hl', decide_true, if_true]
    walk_at "st"
    refine hE ?_ _ (x1 _ k2)
    unfold pW
    rw [hx, Option.bind_some, if_neg]
    intro z
    dsimp only at z
    rw [← e2] at z
    have := congrArg List.length z
    rw [List.length_drop, List.length_nil] at this
    omega
  · have hl' : ¬ (j : Int) < (T.length : Int) := by omega
    simp only [hl', decide_false, Bool.false_eq_true, if_false, wpSs_nil]
    walk_at "st"
    refine hQ x ?_ _ (x1 _ k2)
    unfold pW
    rw [hx, Option.bind_some, if_pos]
    dsimp only
    rw [← e2]
    exact List.drop_eq_nil_of_le (by omega)
end
end L3
end
section
namespace L3
open PySem
theorem pD_inj : ∀ {x y : Py}, shp x → shp y → pD x = pD y → x = y
  | .lamp w, .lamp v, _, _, e => by simp only [pD, D.tup.injEq, List.cons.injEq, D.str.injEq] at e; rw [e.2.1]
  | .lamp w, .nul v, _, _, e => by simp [pD] at e
  | .lamp w, .one v t, _, h, e => by
    simp only [pD, D.tup.injEq, List.cons.injEq, D.str.injEq] at e
    have := h.1
    rw [← e.1] at this
    exact absurd this (by decide)
  | .lamp w, .two v a b, _, _, e => by simp [pD] at e
  | .nul w, .lamp v, _, _, e => by simp [pD] at e
  | .nul w, .nul v, _, _, e => by simp only [pD, D.tup.injEq, List.cons.injEq, D.str.injEq] at e; rw [e.1]
  | .nul w, .one v t, _, _, e => by simp [pD] at e
  | .nul w, .two v a b, _, _, e => by simp [pD] at e
  | .one w t, .lamp v, h, _, e => by
    simp only [pD, D.tup.injEq, List.cons.injEq, D.str.injEq] at e
    have := h.1
    rw [e.1] at this
    exact absurd this (by decide)
  | .one w t, .nul v, _, _, e => by simp [pD] at e
  | .one w t, .one v u, h, h', e => by
    simp only [pD, D.tup.injEq, List.cons.injEq, D.str.injEq] at e
    rw [e.1, pD_inj h.2 h'.2 e.2.1]
  | .one w t, .two v a b, _, _, e => by simp [pD] at e
  | .two w a b, .lamp v, _, _, e => by simp [pD] at e
  | .two w a b, .nul v, _, _, e => by simp [pD] at e
  | .two w a b, .one v u, _, _, e => by simp [pD] at e
  | .two w a b, .two v c d, h, h', e => by
    simp only [pD, D.tup.injEq, List.cons.injEq, D.str.injEq] at e
    rw [e.1, pD_inj h.1 h'.1 e.2.1, pD_inj h.2 h'.2 e.2.2.1]
noncomputable def wle (n : Nat) : Py → Prop
  | .lamp w => w.length ≤ n
  | .nul w => w.length ≤ n
  | .one w t => w.length ≤ n ∧ wle n t
  | .two w a b => w.length ≤ n ∧ wle n a ∧ wle n b
theorem past_len {c : Nat} {s s' : List Nat} (h : past c s = some s') : s'.length < s.length := by
  cases s with
  | nil => simp [past] at h
  | cons x s =>
    simp only [past] at h
    by_cases e : x = c
    · rw [if_pos e] at h; cases h; simp
    · rw [if_neg e] at h; cases h
theorem wrd_len (s : List Nat) : (wrd s).length ≤ s.length := by
  unfold wrd; exact (List.takeWhile_sublist _).length_le
theorem wrs_len (s : List Nat) : (wrs s).length ≤ s.length := by
  unfold wrs; exact (List.dropWhile_sublist _).length_le
theorem pN_wle : ∀ (d : Nat) {s r : List Nat} {x : Py} {n : Nat}, pN d s = some (x, r) → s.length ≤ n → wle n x ∧ r.length ≤ s.length
  | 0, _, _, _, _, h, _ => by simp [pN] at h
  | d + 1, s, r, x, n, h, l => by
    unfold pN at h
    cases e : past 40 s with
    | some s1 =>
      simp only [e] at h
      simp only [Option.bind_eq_some_iff, Option.map_eq_some_iff, Prod.mk.injEq] at h
      obtain ⟨⟨a, s2⟩, h1, s3, h2, s5, h3, ⟨b, s6⟩, h4, s7, h5, rfl, rfl⟩ := h
      have j0 := past_len e
      obtain ⟨w1, j1⟩ := pN_wle d (n := n) h1 (by omega)
      have j2 := past_len h2
      have j3 := past_len h3
      have j6 := wrs_len s3
      have j7 := wrd_len s3
      dsimp only at j2
      obtain ⟨w2, j4⟩ := pN_wle d (n := n) h4 (by omega)
      have j5 := past_len h5
      dsimp only at j5
      exact ⟨⟨by omega, w1, w2⟩, by omega⟩
    | none =>
      simp only [e] at h
      have j6 := wrs_len s
      have j7 := wrd_len s
      split at h
      · cases h; exact ⟨by simp only [wle]; omega, by omega⟩
      · split at h
        · simp only [Option.bind_eq_some_iff, Option.map_eq_some_iff, Prod.mk.injEq] at h
          obtain ⟨s2, h3, ⟨a, s4⟩, h4, rfl, rfl⟩ := h
          have j3 := past_len h3
          obtain ⟨w1, j1⟩ := pN_wle d (n := n) h4 (by omega)
          exact ⟨⟨by omega, w1⟩, by dsimp only; omega⟩
        · cases h; exact ⟨by simp only [wle]; omega, by omega⟩
open Classical in
noncomputable def okD (names : List (List Nat)) (d : D) : Bool := if h : ∃ x, shp x ∧ pD x = d then okP names h.choose else false
theorem okD_pD {names : List (List Nat)} {x : Py} (h : shp x) : okD names (pD x) = okP names x := by
  have e : ∃ y, shp y ∧ pD y = pD x := ⟨x, h, rfl⟩
  unfold okD
  rw [dif_pos e]
  rw [pD_inj e.choose_spec.1 h e.choose_spec.2]
theorem two_no {w : List Nat} (h : twoB w = false) : (w == W "lamp") = true ∨ (w == W "lamp") = false ∧ ((swK.any fun x => eqD x (.str w)) = false ∨ (swK.any fun x => eqD x (.str w)) = true ∧ ∃ m : Int, lookD swK swV (.str w) = some (.int m) ∧ (2 : Int) ≠ m) := by
  cases hl : (w == W "lamp") with
  | true => exact .inl rfl
  | false =>
    refine .inr ⟨rfl, ?_⟩
    cases hi : (swK.any fun x => eqD x (.str w)) with
    | false => exact .inl rfl
    | true =>
      refine .inr ⟨rfl, ?_⟩
      simp only [swK, List.any_cons, List.any_nil, eqD, Bool.or_false, Bool.or_eq_true, beq_iff_eq] at hi
      rcases hi with hi | hi | hi | hi | hi | hi | hi | hi | hi | hi | hi <;> subst hi
      · exact ⟨0, rfl, by decide⟩
      · exact ⟨0, rfl, by decide⟩
      · exact ⟨1, rfl, by decide⟩
      · exact ⟨1, rfl, by decide⟩
      · exact ⟨1, rfl, by decide⟩
      · exact ⟨1, rfl, by decide⟩
      all_goals exact absurd h (by decide)
section
variable {G : Prog} {isn isw iy ict iwh iri ig ine iwo ij ins ire : Nat} {names : List (List Nat)}
theorem sayW_py (h : SayF G isn isw) (hn : NameF G isn) (hnm : ∀ n ∈ names, nameB n = true) :
    ∀ (x : Py) {k : Nat} {st : Store} {Q : VK} {E : XK} {d : Int}, shp x → wle LINE x → (deep x : Int) ≤ d → (∀ st', Ext st st' → Q (.bl (okP names x)) st') → wpFn G (k + deep x + 1) isw [.tup (names.map .str), pD x, .int d] st Q E := by
  intro x
  induction x with
  | lamp w =>
    intro k st Q E d hs hw hd hQ
    simp only [deep] at hd
    simp only [okP] at hQ
    by_cases ho : w ∈ names
    · refine sayW_lamp h hn hnm ho (by omega) fun st' x => ?_
      have := hQ st' x
      rw [decide_eq_true ho] at this
      exact this
    · rw [decide_eq_false ho] at hQ
      exact sayW_no (k := k) h hn hnm 0 (.ls hw (.inr ho)) hQ
  | nul w =>
    intro k st Q E d hs hw hd hQ
    simp only [deep] at hd
    have hs : nulB w = true := hs
    unfold nulB at hs
    simp only [Bool.or_eq_true, beq_iff_eq] at hs
    rcases hs with rfl | rfl
    · exact sayW_genB h (fun _ => true) (by omega) (by decide) (by decide) rfl (by decide) (fun x hx => by cases hx) fun st' x => hQ st' x
    · exact sayW_genB h (fun _ => true) (by omega) (by decide) (by decide) rfl (by decide) (fun x hx => by cases hx) fun st' x => hQ st' x
  | one w t ih =>
    intro k st Q E d hs hw hd hQ
    simp only [deep] at hd ⊢
    have h1 : oneB w = true := hs.1
    have e1 : (w == W "lamp") = false := by
      unfold oneB at h1
      simp only [Bool.or_eq_true, beq_iff_eq] at h1
      rcases h1 with ((h1 | h1) | h1) | h1 <;> subst h1 <;> decide
    have e2 : (swK.any fun x => eqD x (.str w)) = true := by
      unfold oneB at h1
      simp only [Bool.or_eq_true, beq_iff_eq] at h1
      rcases h1 with ((h1 | h1) | h1) | h1 <;> subst h1 <;> decide
    have e3 : lookD swK swV (.str w) = some (.int 1) := by
      unfold oneB at h1
      simp only [Bool.or_eq_true, beq_iff_eq] at h1
      rcases h1 with ((h1 | h1) | h1) | h1 <;> subst h1 <;> rfl
    refine sayW_genB (ps := [pD t]) h (okD names) (by omega) e1 e2 e3 (by simp) (fun x hx st' Q' E' x1 hQ' => ?_) fun st' x => ?_
    · simp only [List.mem_singleton] at hx
      subst hx
      rw [okD_pD hs.2] at hQ'
      exact ih (k := k) hs.2 hw.2 (by omega) hQ'
    · have := hQ st' x
      simp only [List.all_cons, List.all_nil, Bool.and_true, okD_pD hs.2]
      exact this
  | two w a b ih1 ih2 =>
    intro k st Q E d hs hw hd hQ
    have l1 := Nat.le_max_left (deep a) (deep b)
    have l2 := Nat.le_max_right (deep a) (deep b)
    simp only [deep] at hd ⊢
    cases h2 : twoB w with
    | true =>
      have e1 : (w == W "lamp") = false := by
        unfold twoB at h2
        simp only [Bool.or_eq_true, beq_iff_eq] at h2
        rcases h2 with (((h1 | h1) | h1) | h1) | h1 <;> subst h1 <;> decide
      have e2 : (swK.any fun x => eqD x (.str w)) = true := by
        unfold twoB at h2
        simp only [Bool.or_eq_true, beq_iff_eq] at h2
        rcases h2 with (((h1 | h1) | h1) | h1) | h1 <;> subst h1 <;> decide
      have e3 : lookD swK swV (.str w) = some (.int 2) := by
        unfold twoB at h2
        simp only [Bool.or_eq_true, beq_iff_eq] at h2
        rcases h2 with (((h1 | h1) | h1) | h1) | h1 <;> subst h1 <;> rfl
      refine sayW_genB (ps := [pD a, pD b]) h (okD names) (by omega) e1 e2 e3 (by simp) (fun x hx st' Q' E' x1 hQ' => ?_) fun st' x => ?_
      · simp only [List.mem_cons, List.not_mem_nil, or_false] at hx
        rcases hx with rfl | rfl
        · rw [okD_pD hs.1] at hQ'
          have := ih1 (k := k + (max (deep a) (deep b) - deep a)) (E := E') hs.1 hw.2.1 (d := d - 1) (by omega) hQ'
          rw [show k + (max (deep a) (deep b) - deep a) + deep a + 1 = k + (max (deep a) (deep b) + 1) from by omega] at this; exact this
        · rw [okD_pD hs.2] at hQ'
          have := ih2 (k := k + (max (deep a) (deep b) - deep b)) (E := E') hs.2 hw.2.2 (d := d - 1) (by omega) hQ'
          rw [show k + (max (deep a) (deep b) - deep b) + deep b + 1 = k + (max (deep a) (deep b) + 1) from by omega] at this; exact this
      · have := hQ st' x
        simp only [okP, h2, Bool.true_and] at this
        simp only [List.all_cons, List.all_nil, Bool.and_true, okD_pD hs.1, okD_pD hs.2]
        exact this
    | false =>
      simp only [okP, h2, Bool.false_and] at hQ
      simp only [pD]
      have q := hQ st .refl
      rw [show k + (max (deep a) (deep b) + 1) + 1 = k + max (deep a) (deep b) + 0 + 2 from by omega]
      rcases two_no h2 with e | ⟨e, e' | ⟨e', m, e3, e4⟩⟩
      · rw [beq_iff_eq] at e
        subst e
        exact sayW_no h hn hnm 0 (.ln (by simp)) hQ
      · exact sayW_no h hn hnm 0 (.word e e') hQ
      · exact sayW_no h hn hnm 0 (.ar e e' e3 (by simpa using e4)) hQ
theorem is_say_py (hy : G.fns iy = some (hIsSay isw (.int 8))) (h : SayF G isn isw) (hn : NameF G isn) (hnm : ∀ n ∈ names, nameB n = true) {x : Py} {k : Nat} {st : Store} {Q : VK} {E : XK} (hs : shp x) (hw : wle LINE x) (hd : deep x ≤ 8) (hQ : ∀ st', Ext st st' → Q (.bl (okP names x)) st') : wpFn G (k + 10) iy [.tup (names.map .str), pD x] st Q E := by
  rw [wpFn_at hy]
  simp only [hIsSay, start]
  refine ⟨rfl, ?_⟩
  walk_at "st"
  have := sayW_py (k := k + (8 - deep x)) h hn hnm x (st := st) (Q := Q) (E := fun _ _ => False) (d := 8) hs hw (by omega) hQ
  rw [show k + (8 - deep x) + deep x + 1 = k + 9 from by omega] at this
  exact this
noncomputable def rdS (names : List (List Nat)) (T : List Nat) : Option Py := (pW T).bind fun x => if okP names x = true then some x else none
theorem pW_ok {T : List Nat} {x : Py} (h : pW T = some x) : shp x ∧ deep x ≤ 8 ∧ wle T.length x := by
  unfold pW at h
  simp only [Option.bind_eq_some_iff] at h
  obtain ⟨⟨y, r⟩, h1, h2⟩ := h
  split at h2
  · cases h2
    exact ⟨(pN_deep 8 h1).2, (pN_deep 8 h1).1, (pN_wle 8 h1 (Nat.le_refl _)).1⟩
  · cases h2
theorem wle_mono {m n : Nat} (l : m ≤ n) : ∀ {x : Py}, wle m x → wle n x
  | .lamp w, h => Nat.le_trans h l
  | .nul w, h => Nat.le_trans h l
  | .one w t, h => ⟨Nat.le_trans h.1 l, wle_mono l h.2⟩
  | .two w a b, h => ⟨Nat.le_trans h.1 l, wle_mono l h.2.1, wle_mono l h.2.2⟩
structure RS (G : Prog) (ire iwh ict iy isw isn iri ig ine iwo ij ins : Nat) : Prop where
  r : G.fns ire = some (hRead iwh ict iy)
  w : G.fns iwh = some (hWhole iri ins (.int 8))
  c : G.fns ict = some hChTx
  y : G.fns iy = some (hIsSay isw (.int 8))
  h : SayF G isn isw
  n : NameF G isn
  i : G.fns iri = some hRInit
  f : RF G ig ine iwo ij ins
theorem read_ok (F : RS G ire iwh ict iy isw isn iri ig ine iwo ij ins) (hnm : ∀ n ∈ names, nameB n = true) {T : List Nat} (hT : T.length ≤ LINE) {k : Nat} {st : Store} {Q : VK} {E : XK} (hQ : ∀ x, rdS names T = some x → ∀ st', Ext st st' → Q (pD x) st') (hE : rdS names T = none → ∀ st', Ext st st' → E 3 st') :
    wpFn G (k + 22) ire [.tup (names.map .str), .str T] st Q E := by
  rw [wpFn_at F.r]
  simp only [hRead, start]
  refine ⟨rfl, ?_⟩
  walk_at "st"
  rw [wpFn_at F.c]
  simp only [hChTx, start]
  refine ⟨rfl, ?_⟩
  walk_at "st"
  try simp only [Bool.not_true, Bool.false_eq_true, if_false, wpSs_nil]
  walk_at "st"
  refine whole_ok (k := k) F.w F.i F.f hT (fun x hx st1 x1 => ?_) fun hx st1 x1 => ?_
  rotate_left
  · refine hE ?_ _ x1
    unfold rdS; rw [hx]; rfl
  obtain ⟨p1, p2, p3⟩ := pW_ok hx
  walk_at "st"
  refine is_say_py (k := k + 11) F.y F.h F.n hnm p1 (wle_mono hT p3) p2 fun st2 x2 => ?_
  cases ho : okP names x with
  | true =>
    walk_at "ex"
    try simp only [Bool.not_true, Bool.false_eq_true, if_false, wpSs_nil]
    walk_at "st"
    refine hQ x ?_ _ (x1.trans x2)
    unfold rdS; rw [hx, Option.bind_some, if_pos ho]
  | false =>
    walk_at "ex"
    try simp only [Bool.not_false, if_true]
    walk_at "st"
    refine hE ?_ _ (x1.trans x2)
    unfold rdS; rw [hx, Option.bind_some, if_neg (by rw [ho]; simp)]
theorem read_no (F : RS G ire iwh ict iy isw isn iri ig ine iwo ij ins) {nm x : D} {k : Nat} {st : Store} {Q : VK} {E : XK} (hx : ∀ P : Bool → Prop, P false → isOne G.sub x st .str P) (hE : E 3 st) : wpFn G (k + 22) ire [nm, x] st Q E := by
  rw [wpFn_at F.r]
  simp only [hRead, start]
  refine ⟨rfl, ?_⟩
  walk_at "st"
  rw [wpFn_at F.c]
  simp only [hChTx, start]
  refine ⟨rfl, ?_⟩
  walk_at "st"
  refine hx _ ?_
  simp only [↓tru_bl, Bool.not_false, if_true]
  walk_at "st"
  exact hE
end
end L3
end
section
namespace L3
open PySem
noncomputable def hSayTx : Fn := ⟨1, 4, [.asg (.nm 1) (.lst []), .asg (.nm 2) (.lst [(.v 0)]), .whl (.v 2) [.asg (.nm 3) (.meth .pop (.v 2) []), .iff (.isi (.v 3) [.str]) [.ex (.meth .append (.v 1) [(.v 3)])] [.iff (.cmp .eq (.ix (.v 3) (.c (.int 0))) (.c (.str (W "lamp")))) [.ex (.meth .append (.v 1) [(.ix (.v 3) (.c (.int 1)))])] [.iff (.cmp .eq (.bi .len [(.v 3)]) (.c (.int 1))) [.ex (.meth .append (.v 1) [(.ix (.v 3) (.c (.int 0)))])] [.iff (.cmp .eq (.bi .len [(.v 3)]) (.c (.int 2))) [.ex (.meth .extend (.v 2) [(.lst [(.ix (.v 3) (.c (.int 1))), (.bin .add (.ix (.v 3) (.c (.int 0))) (.c (.str (W " "))))])])] [.ex (.meth .extend (.v 2) [(.lst [(.c (.str (W ")"))), (.ix (.v 3) (.c (.int 2))), (.bin .add (.bin .add (.c (.str (W " "))) (.ix (.v 3) (.c (.int 0)))) (.c (.str (W " ")))), (.ix (.v 3) (.c (.int 1))), (.c (.str (W "(")))])])]]]]], .ret (.meth .join (.c (.str (W ""))) [(.v 1)])]⟩
noncomputable def hLTx (it : Nat) : Fn := ⟨1, 1, [.iff (.cmp .eq (.ix (.v 0) (.c (.int 0))) (.c (.str (W "lamp")))) [.ret (.ix (.v 0) (.c (.int 1)))] [], .iff (.cmp .eq (.bi .len [(.v 0)]) (.c (.int 1))) [.ret (.ix (.v 0) (.c (.int 0)))] [], .iff (.cmp .eq (.bi .len [(.v 0)]) (.c (.int 2))) [.ret (.bin .add (.bin .add (.ix (.v 0) (.c (.int 0))) (.c (.str (W " ")))) (.call it [(.ix (.v 0) (.c (.int 1)))]))] [], .ret (.bin .add (.bin .add (.bin .add (.bin .add (.bin .add (.bin .add (.c (.str (W "("))) (.call it [(.ix (.v 0) (.c (.int 1)))])) (.c (.str (W " ")))) (.ix (.v 0) (.c (.int 0)))) (.c (.str (W " ")))) (.call it [(.ix (.v 0) (.c (.int 2)))])) (.c (.str (W ")"))))]⟩
inductive Am where
  | s (s : Sy) | t (w : List Nat)
noncomputable def amD : Am → D
  | .s s => toD s
  | .t w => .str w
noncomputable def amT : Am → List Nat
  | .s s => tx s
  | .t w => w
noncomputable def mz : Sy → Nat
  | .one _ s => 2 + mz s
  | .two _ s t => 4 + (mz s + mz t)
  | _ => 1
noncomputable def amZ : Am → Nat
  | .s s => mz s
  | .t _ => 1
noncomputable def amZs : List Am → Nat
  | [] => 0
  | a :: r => amZ a + amZs r
theorem amZ_pos (a : Am) : 1 ≤ amZ a := by
  cases a with
  | s s => cases s <;> simp only [amZ, mz] <;> omega
  | t w => exact Nat.le_refl _
theorem am_len (r : List Am) : r.length ≤ amZs r := by
  induction r with
  | nil => exact Nat.le_refl _
  | cons a r ih => have := amZ_pos a; simp only [amZs, List.length_cons]; omega
theorem join_nil : ∀ ws : List (List Nat), joinS [] ws = ws.flatten
  | [] => rfl
  | [w] => by simp [joinS]
  | w :: v :: r => by simp only [joinS, join_nil (v :: r), List.append_nil, List.flatten_cons]
section
variable {G : Prog} {k i it : Nat} {st : Store} {Q : VK} {E : XK}
theorem sayTx_ok (h : G.fns i = some hSayTx) {s : Sy} (hz : mz s ≤ 1000) (hd : dep s ≤ 60) (hl : (tx s).length ≤ LINE) (hw : ∀ w, (c2 w).length ≤ 10) (hQ : ∀ st', Ext st st' → Q (.str (tx s)) st') : wpFn G (k + 1) i [toD s] st Q E := by
  have hL : LINE = 16777216 := rfl
  rw [wpFn_at h]
  simp only [hSayTx, start]
  refine ⟨rfl, ?_⟩
  walk_at "st"
  refine newE (by decide) fun p st1 x1 hp hp1 => ?_
  walk_at "st"
  refine newE (by show 1 ≤ LINE; decide) fun q st2 x2 hq hq2 => ?_
  have hpq : p ≠ q := fun z => by rw [z] at hp1; rw [hq] at hp1; cases hp1
  have p2 := x2 p _ hp1
  try dsimp only
  refine wpSs_c ?_
  refine while_rule (wpFn_mono G (Nat.le_refl _)) (fun m σ st' => ∃ (stack : List Am) (f : List (List Nat)) (o : Option D), σ = [some (toD s), some (.ref p), some (.ref q), o] ∧ st' p = some (.lst (f.map .str)) ∧ st' q = some (.lst (stack.map amD).reverse) ∧ amZs stack = m ∧
    f.length + amZs stack ≤ 1000 ∧ f.flatten ++ (stack.map amT).flatten = tx s ∧ (∀ a ∈ stack, ∀ s', a = .s s' → dep s' ≤ 60) ∧ Ext st st') ?_ (m := mz s) ⟨[.s s], [], none, rfl, p2, hq2, by simp [amZs, amZ], by simpa [amZs, amZ] using hz, by simp [amT], fun a ha s' e => by simp only [List.mem_singleton] at ha; subst ha; cases e; exact hd, fun a o e => x2 a o (x1 a o e)⟩
  rintro m σ st3 ⟨stack, f, o, rfl, hp3, hq3, hm, hlen, htx, hdd, x3⟩
  walk_at "ex"
  rw [tru_ref, seqAt_lst hq3]
  cases stack with
  | nil =>
    simp only [List.map_nil, List.reverse_nil, List.isEmpty_nil, Bool.not_true, Bool.false_eq_true, if_false]
    walk_at "st"
    rw [lstAt_lst hp3, strsOf_map]
    simp only [optK_some]
    have ej : joinS (W "") f = tx s := by
      rw [show W "" = [] from rfl, join_nil]
      simpa using htx
    rw [ej]
    refine ⟨?_, hQ st3 x3⟩
    rw [show (W "").length = 0 from rfl, Nat.mul_zero, Nat.add_zero, ← List.length_flatten]
    have : f.flatten = tx s := by simpa using htx
    rw [this]; exact hl
  | cons a r =>
    have hne : (!((List.map amD (a :: r)).reverse).isEmpty) = true := by simp
    rw [hne]
    simp only [if_true]
    simp only [amZs] at hm hlen
    have hsp := amZ_pos a
    have hrl := am_len r
    walk_at "st"
    rw [lstAt_lst hq3]
    refine ⟨trivial, ?_⟩
    rw [lstAt_lst hq3]
    have elast : ((List.map amD (a :: r)).reverse)[((List.map amD (a :: r)).reverse).length - 1]? = some (amD a) := by
      simp only [List.map_cons, List.reverse_cons, List.length_append, List.length_cons, List.length_nil]
      rw [List.getElem?_append_right (by simp)]
      simp
    have edrop : ((List.map amD (a :: r)).reverse).dropLast = (r.map amD).reverse := by simp
    rw [elast, edrop, optK_some]
    try dsimp only
    have hp4 : (put st3 q (.lst (r.map amD).reverse)) p = some (.lst (f.map .str)) := by rw [put_ne hpq]; exact hp3
    have hq4 : (put st3 q (.lst (r.map amD).reverse)) q = some (.lst (r.map amD).reverse) := put_same
    have hx4 : Ext st (put st3 q (.lst (r.map amD).reverse)) := fun b u e => by
      have n : b ≠ q := fun z => by
        rw [z] at e
        have := x1 _ _ e
        rw [hq] at this; cases this
      rw [put_ne n]; exact x3 _ _ e
    generalize put st3 q (.lst (r.map amD).reverse) = st4 at hp4 hq4 hx4
    have app : ∀ (w : List Nat) (m' : Nat), m' < m → amT a = w → amZs r = m' → (∀ b u, put st4 p (.lst (f.map .str ++ [.str w])) b = some u → True) → (∃ m', m' < m ∧ ∃ (stack : List Am) (f' : List (List Nat)) (o : Option D), [some (toD s), some (.ref p), some (.ref q), some (amD a)] = [some (toD s), some (.ref p), some (.ref q), o] ∧ (put st4 p (.lst (f.map .str ++ [.str w]))) p = some (.lst (f'.map .str)) ∧ (put st4 p (.lst (f.map .str ++ [.str w]))) q = some (.lst (stack.map amD).reverse) ∧ amZs stack = m' ∧
        f'.length + amZs stack ≤ 1000 ∧ f'.flatten ++ (stack.map amT).flatten = tx s ∧ (∀ a ∈ stack, ∀ s', a = .s s' → dep s' ≤ 60) ∧ Ext st (put st4 p (.lst (f.map .str ++ [.str w])))) := fun w m' hm' hw' hz' _ => by
      refine ⟨m', hm', r, f ++ [w], some (amD a), rfl, by rw [put_same]; simp, by rw [put_ne hpq.symm]; exact hq4, hz', by simp only [List.length_append, List.length_cons, List.length_nil]; omega, ?_, fun b hb s' e => hdd b (by simp [hb]) s' e, fun b u e => ?_⟩
      · rw [← htx, ← hw']; simp
      · have n : b ≠ p := fun z => by rw [z, hp] at e; cases e
        rw [put_ne n]; exact hx4 _ _ e
    cases a with
    | t w =>
      simp only [amD]
      walk_at "st"
      try simp only [if_true]
      walk_at "st"
      rw [lstAt_lst hp4]
      refine ⟨trivial, ?_⟩
      rw [lstAt_lst hp4]
      refine ⟨by simp only [List.length_map]; omega, ?_⟩
      simp only [wpSs_nil]
      exact app w (amZs r) (by simp only [amZ] at hm; omega) rfl rfl (fun _ _ _ => trivial)
    | s s' =>
      have hds := hdd (.s s') (by simp) s' rfl
      cases s' with
      | yes =>
        simp only [amD, toD]
        walk_at "st"
        try simp only [Bool.false_eq_true, if_false]
        walk_at "st"
        have e1 : eqS st4 (.str (W "yes")) (.str (W "lamp")) = false := by simp only [eqS]; decide
        simp only [show (W "yes" == W "lamp") = false from by decide, Bool.false_eq_true, if_false]
        walk_at "st"
        simp only [show (((1 : Nat) : Int) == 1) = true from by decide, if_true]
        walk_at "st"
        rw [lstAt_lst hp4]
        refine ⟨trivial, ?_⟩
        rw [lstAt_lst hp4]
        refine ⟨by simp only [List.length_map]; omega, ?_⟩
        simp only [wpSs_nil]
        exact app _ (amZs r) (by simp only [amZ, mz] at hm; omega) rfl rfl (fun _ _ _ => trivial)
      | no =>
        simp only [amD, toD]
        walk_at "st"
        try simp only [Bool.false_eq_true, if_false]
        walk_at "st"
        have e1 : eqS st4 (.str (W "no")) (.str (W "lamp")) = false := by simp only [eqS]; decide
        simp only [show (W "no" == W "lamp") = false from by decide, Bool.false_eq_true, if_false]
        walk_at "st"
        simp only [show (((1 : Nat) : Int) == 1) = true from by decide, if_true]
        walk_at "st"
        rw [lstAt_lst hp4]
        refine ⟨trivial, ?_⟩
        rw [lstAt_lst hp4]
        refine ⟨by simp only [List.length_map]; omega, ?_⟩
        simp only [wpSs_nil]
        exact app _ (amZs r) (by simp only [amZ, mz] at hm; omega) rfl rfl (fun _ _ _ => trivial)
      | lamp n =>
        simp only [amD, toD]
        walk_at "st"
        try simp only [Bool.false_eq_true, if_false]
        walk_at "st"
        simp only [show (W "lamp" == W "lamp") = true from by decide, if_true]
        walk_at "st"
        rw [lstAt_lst hp4]
        refine ⟨trivial, ?_⟩
        rw [lstAt_lst hp4]
        refine ⟨by simp only [List.length_map]; omega, ?_⟩
        simp only [wpSs_nil]
        exact app _ (amZs r) (by simp only [amZ, mz] at hm; omega) rfl rfl (fun _ _ _ => trivial)
      | one w s1 =>
        simp only [amD, toD]
        simp only [dep] at hds
        walk_at "st"
        try simp only [Bool.false_eq_true, if_false]
        walk_at "st"
        simp only [show (c1 w == W "lamp") = false from by cases w <;> decide, Bool.false_eq_true, if_false]
        walk_at "st"
        simp only [show (((2 : Nat) : Int) == 1) = false from by decide, Bool.false_eq_true, if_false]
        walk_at "st"
        simp only [show (((2 : Nat) : Int) == 2) = true from by decide, if_true]
        walk_at "st"
        rw [lstAt_lst hq4]
        refine ⟨trivial, ?_⟩
        have lc : (c1 w).length ≤ 6 := by cases w <;> decide
        refine ⟨by rw [wsp]; simp only [List.length_cons, List.length_nil]; omega, ?_⟩
        refine newE (by show 2 ≤ LINE; decide) fun u st5 x5 hu hu5 => ?_
        have hp5 := x5 p _ hp4
        have hq5 := x5 q _ hq4
        have hx5 := hx4.trans x5
        have uq : u ≠ q := fun z => by rw [z, hq4] at hu; cases hu
        walk_at "ex"
        rw [lstAt_lst hq5, lstAt_lst hu5]
        simp only [amZ, mz] at hm hlen
        refine ⟨by simp only [List.length_reverse, List.length_map, List.length_cons, List.length_nil]; omega, ?_⟩
        simp only [wpSs_nil]
        refine ⟨amZs r + mz s1 + 1, by omega, .t (c1 w ++ W " ") :: .s s1 :: r, f, _, rfl, by rw [put_ne hpq]; exact hp5, by rw [put_same]; simp [amD], by simp only [amZs, amZ]; omega, by simp only [amZs, amZ]; omega, ?_, fun b hb s' e => ?_, fun b o' e => ?_⟩
        · rw [← htx, wsp]; simp [amT, tx]
        · simp only [List.mem_cons] at hb
          rcases hb with rfl | rfl | hb
          · cases e
          · cases e; omega
          · exact hdd b (by simp [hb]) s' e
        · have n : b ≠ q := fun z => by
            rw [z] at e
            have := x1 _ _ e
            rw [hq] at this; cases this
          rw [put_ne n]; exact hx5 _ _ e
      | two w s1 s2 =>
        simp only [amD, toD]
        simp only [dep] at hds
        walk_at "st"
        try simp only [Bool.false_eq_true, if_false]
        walk_at "st"
        simp only [show (c2 w == W "lamp") = false from by cases w <;> decide, Bool.false_eq_true, if_false]
        walk_at "st"
        simp only [show (((3 : Nat) : Int) == 1) = false from by decide, Bool.false_eq_true, if_false]
        walk_at "st"
        simp only [show (((3 : Nat) : Int) == 2) = false from by decide, Bool.false_eq_true, if_false]
        walk_at "st"
        rw [lstAt_lst hq4]
        refine ⟨trivial, ?_⟩
        have lc : (c2 w).length ≤ 6 := by cases w <;> decide
        refine ⟨by rw [wsp]; simp only [List.length_cons, List.length_nil]; omega, ?_⟩
        refine ⟨by rw [wsp]; simp only [List.length_append, List.length_cons, List.length_nil]; omega, ?_⟩
        refine newE (by show 5 ≤ LINE; decide) fun u st5 x5 hu hu5 => ?_
        have hp5 := x5 p _ hp4
        have hq5 := x5 q _ hq4
        have hx5 := hx4.trans x5
        have uq : u ≠ q := fun z => by rw [z, hq4] at hu; cases hu
        walk_at "ex"
        rw [lstAt_lst hq5, lstAt_lst hu5]
        simp only [amZ, mz] at hm hlen
        refine ⟨by simp only [List.length_reverse, List.length_map, List.length_cons, List.length_nil]; omega, ?_⟩
        simp only [wpSs_nil]
        refine ⟨amZs r + mz s1 + mz s2 + 3, by omega, .t (W "(") :: .s s1 :: .t (W " " ++ c2 w ++ W " ") :: .s s2 :: .t (W ")") :: r, f, _, rfl, by rw [put_ne hpq]; exact hp5, by rw [put_same]; simp [amD], by simp only [amZs, amZ]; omega, by simp only [amZs, amZ]; omega, ?_, fun b hb s' e => ?_, fun b o' e => ?_⟩
        · rw [← htx, wsp, wlp, wrp]; simp [amT, tx]
        · simp only [List.mem_cons] at hb
          rcases hb with rfl | rfl | rfl | rfl | rfl | hb
          · cases e
          · cases e; omega
          · cases e
          · cases e; omega
          · cases e
          · exact hdd b (by simp [hb]) s' e
        · have n : b ≠ q := fun z => by
            rw [z] at e
            have := x1 _ _ e
            rw [hq] at this; cases this
          rw [put_ne n]; exact hx5 _ _ e
theorem lTx_ok (h : G.fns it = some (hLTx it)) : ∀ (s : Sy) {k : Nat} {st : Store} {Q : VK} {E : XK}, (tx s).length ≤ LINE → Q (.str (tx s)) st → wpFn G (k + dep s) it [toD s] st Q E := by
  intro s
  induction s with
  | yes =>
    intro k st Q E hl hQ
    rw [show k + dep .yes = k + 1 from rfl, wpFn_at h]
    simp only [hLTx, start, toD]
    refine ⟨rfl, ?_⟩
    walk_at "st"
    simp only [show (W "yes" == W "lamp") = false from by decide, Bool.false_eq_true, if_false, wpSs_nil]
    walk_at "st"
    simp only [show (((1 : Nat) : Int) == 1) = true from by decide, if_true]
    walk_at "st"
    exact hQ
  | no =>
    intro k st Q E hl hQ
    rw [show k + dep .no = k + 1 from rfl, wpFn_at h]
    simp only [hLTx, start, toD]
    refine ⟨rfl, ?_⟩
    walk_at "st"
    simp only [show (W "no" == W "lamp") = false from by decide, Bool.false_eq_true, if_false, wpSs_nil]
    walk_at "st"
    simp only [show (((1 : Nat) : Int) == 1) = true from by decide, if_true]
    walk_at "st"
    exact hQ
  | lamp n =>
    intro k st Q E hl hQ
    rw [show k + dep (.lamp n) = k + 1 from rfl, wpFn_at h]
    simp only [hLTx, start, toD]
    refine ⟨rfl, ?_⟩
    walk_at "st"
    simp only [show (W "lamp" == W "lamp") = true from by decide, if_true]
    walk_at "st"
    exact hQ
  | one w s ih =>
    intro k st Q E hl hQ
    rw [show k + dep (.one w s) = k + dep s + 1 from by simp only [dep]; omega, wpFn_at h]
    simp only [hLTx, start, toD]
    refine ⟨rfl, ?_⟩
    simp only [tx, List.length_append, List.length_cons] at hl
    walk_at "st"
    simp only [show (c1 w == W "lamp") = false from by cases w <;> decide, Bool.false_eq_true, if_false, wpSs_nil]
    walk_at "st"
    simp only [show (((2 : Nat) : Int) == 1) = false from by decide, Bool.false_eq_true, if_false, wpSs_nil]
    walk_at "st"
    simp only [show (((2 : Nat) : Int) == 2) = true from by decide, if_true]
    walk_at "st"
    refine ⟨by rw [wsp]; simp only [List.length_cons, List.length_nil]; omega, ?_⟩
    refine ih (by omega) ?_
    walk_at "ex"
    refine ⟨by rw [wsp]; simp only [List.length_append, List.length_cons, List.length_nil]; omega, ?_⟩
    rw [wsp, show c1 w ++ [32] ++ tx s = tx (.one w s) from by simp [tx]]
    exact hQ
  | two w s t ih1 ih2 =>
    intro k st Q E hl hQ
    have l1 := Nat.le_max_left (dep s) (dep t)
    have l2 := Nat.le_max_right (dep s) (dep t)
    rw [show k + dep (.two w s t) = k + max (dep s) (dep t) + 1 from by simp only [dep]; omega, wpFn_at h]
    simp only [hLTx, start, toD]
    refine ⟨rfl, ?_⟩
    simp only [tx, List.length_append, List.length_cons, List.length_nil] at hl
    walk_at "st"
    simp only [show (c2 w == W "lamp") = false from by cases w <;> decide, Bool.false_eq_true, if_false, wpSs_nil]
    walk_at "st"
    simp only [show (((3 : Nat) : Int) == 1) = false from by decide, Bool.false_eq_true, if_false, wpSs_nil]
    walk_at "st"
    simp only [show (((3 : Nat) : Int) == 2) = false from by decide, Bool.false_eq_true, if_false, wpSs_nil]
    walk_at "st"
    rw [show k + max (dep s) (dep t) = (k + (max (dep s) (dep t) - dep s)) + dep s from by omega]
    refine ih1 (by omega) ?_
    rw [show (k + (max (dep s) (dep t) - dep s)) + dep s = (k + (max (dep s) (dep t) - dep t)) + dep t from by omega]
    walk_at "ex"
    refine ⟨by rw [wlp]; simp only [List.length_append, List.length_cons, List.length_nil]; omega, ?_⟩
    refine ⟨by rw [wlp, wsp]; simp only [List.length_append, List.length_cons, List.length_nil]; omega, ?_⟩
    refine ⟨by rw [wlp, wsp]; simp only [List.length_append, List.length_cons, List.length_nil]; omega, ?_⟩
    refine ⟨by rw [wlp, wsp]; simp only [List.length_append, List.length_cons, List.length_nil]; omega, ?_⟩
    refine ih2 (by omega) ?_
    walk_at "ex"
    refine ⟨by rw [wlp, wsp]; simp only [List.length_append, List.length_cons, List.length_nil]; omega, ?_⟩
    refine ⟨by rw [wlp, wsp, wrp]; simp only [List.length_append, List.length_cons, List.length_nil]; omega, ?_⟩
    rw [wlp, wsp, wrp, show [40] ++ tx s ++ [32] ++ c2 w ++ [32] ++ tx t ++ [41] = tx (.two w s t) from by simp [tx]]
    exact hQ
end
end L3
end
section
namespace L3
open PySem
noncomputable def hLWord : Fn := ⟨2, 3, [.asg (.nm 2) (.v 1), .whl (.and_ (.cmp .lt (.v 2) (.bi .len [(.v 0)])) (.cmp .in_ (.ix (.v 0) (.v 2)) (.c (.str (W "abcdefghijklmnopqrstuvwxyz"))))) [.asg (.nm 2) (.bin .add (.v 2) (.c (.int 1)))], .ret (.sl (.v 0) [(.v 1)] [(.v 2)])]⟩
noncomputable def hLPars (ip iw : Nat) : Fn := ⟨3, 7, [.iff (.cmp .eq (.sl (.v 0) [(.v 1)] [(.bin .add (.v 1) (.c (.int 1)))]) (.c (.str (W "(")))) [.asg (.nm 3) (.call ip [(.v 0), (.bin .add (.v 1) (.c (.int 1))), (.v 2)]), .iff (.or_ (.cmp .is_ (.v 3) (.c .non)) (.cmp .ne (.sl (.v 0) [(.ix (.v 3) (.c (.int 1)))] [(.bin .add (.ix (.v 3) (.c (.int 1))) (.c (.int 1)))]) (.c (.str (W " "))))) [.ret (.c .non)] [], .asg (.nm 4) (.call iw [(.v 0), (.bin .add (.ix (.v 3) (.c (.int 1))) (.c (.int 1)))]), .asg (.nm 5) (.bin .add (.bin .add (.ix (.v 3) (.c (.int 1))) (.c (.int 1))) (.bi .len [(.v 4)])), .iff (.or_ (.cmp .notin (.v 4) (.tup [(.c (.str (W "and"))), (.c (.str (W "or"))), (.c (.str (W "then"))), (.c (.str (W "same"))), (.c (.str (W "since")))])) (.cmp .ne (.sl (.v 0) [(.v 5)] [(.bin .add (.v 5) (.c (.int 1)))]) (.c (.str (W " "))))) [.ret (.c .non)] [], .asg (.nm 6) (.call ip [(.v 0), (.bin .add (.v 5) (.c (.int 1))), (.v 2)]), .iff (.or_ (.cmp .is_ (.v 6) (.c .non)) (.cmp .ne (.sl (.v 0) [(.ix (.v 6) (.c (.int 1)))] [(.bin .add (.ix (.v 6) (.c (.int 1))) (.c (.int 1)))]) (.c (.str (W ")"))))) [.ret (.c .non)] [], .ret (.tup [(.tup [(.v 4), (.ix (.v 3) (.c (.int 0))), (.ix (.v 6) (.c (.int 0)))]), (.bin .add (.ix (.v 6) (.c (.int 1))) (.c (.int 1)))])] [], .asg (.nm 4) (.call iw [(.v 0), (.v 1)]), .iff (.and_ (.cmp .in_ (.v 4) (.tup [(.c (.str (W "not"))), (.c (.str (W "before"))), (.c (.str (W "once"))), (.c (.str (W "sofar")))])) (.cmp .eq (.sl (.v 0) [(.bin .add (.v 1) (.bi .len [(.v 4)]))] [(.bin .add (.bin .add (.v 1) (.bi .len [(.v 4)])) (.c (.int 1)))]) (.c (.str (W " "))))) [.asg (.nm 3) (.call ip [(.v 0), (.bin .add (.bin .add (.v 1) (.bi .len [(.v 4)])) (.c (.int 1))), (.v 2)]), .iff (.cmp .is_ (.v 3) (.c .non)) [.ret (.c .non)] [], .ret (.tup [(.tup [(.v 4), (.ix (.v 3) (.c (.int 0)))]), (.ix (.v 3) (.c (.int 1)))])] [], .iff (.or_ (.cmp .eq (.v 4) (.c (.str (W "yes")))) (.cmp .eq (.v 4) (.c (.str (W "no"))))) [.ret (.tup [(.tup [(.v 4)]), (.bin .add (.v 1) (.bi .len [(.v 4)]))])] [], .iff (.cmp .notin (.v 4) (.v 2)) [.ret (.c .non)] [], .ret (.tup [(.tup [(.c (.str (W "lamp"))), (.v 4)]), (.bin .add (.v 1) (.bi .len [(.v 4)]))])]⟩
noncomputable def hLDeep (ide : Nat) : Fn := ⟨1, 1, [.iff (.cmp .in_ (.ix (.v 0) (.c (.int 0))) (.tup [(.c (.str (W "lamp"))), (.c (.str (W "yes"))), (.c (.str (W "no")))])) [.ret (.c (.int 1))] [], .ret (.bin .add (.c (.int 1)) (.bi .max [(.comp 1 [] [0] true none [(.sl (.v 0) [(.c (.int 1))] [])] [] (.call ide [(.v 0)]))]))]⟩
noncomputable def hLSayOf (ip ide : Nat) : Fn := ⟨2, 3, [.asg (.nm 2) (.call ip [(.v 0), (.c (.int 0)), (.v 1)]), .iff (.or_ (.cmp .is_ (.v 2) (.c .non)) (.or_ (.cmp .ne (.ix (.v 2) (.c (.int 1))) (.bi .len [(.v 0)])) (.cmp .gt (.call ide [(.ix (.v 2) (.c (.int 0)))]) (.c (.int 8))))) [.ret (.c .non)] [], .ret (.ix (.v 2) (.c (.int 0)))]⟩
theorem wrd_wrs (s : List Nat) : wrd s ++ wrs s = s := by unfold wrd wrs; exact List.takeWhile_append_dropWhile
theorem drop_wrd (s : List Nat) : s.drop (wrd s).length = wrs s := by
  have := congrArg (List.drop (wrd s).length) (wrd_wrs s)
  rw [List.drop_left] at this
  exact this.symm
theorem cut_one {T : List Nat} {i c : Nat} (hi : i ≤ T.length) : (cut T (some (i : Int)) (some ((i : Int) + 1)) == [c]) = (past c (T.drop i)).isSome := by
  by_cases l : i < T.length
  · rw [show ((i : Int) + 1) = ((i + 1 : Nat) : Int) from by omega, cut_nat (by omega) (by omega), show i + 1 - i = 1 from by omega, List.drop_eq_getElem_cons l]
    simp only [List.take_succ_cons, List.take_zero, past]
    by_cases e : T[i] = c
    · rw [if_pos e, e]; simp
    · rw [if_neg e]; simp [e]
  · have e : i = T.length := by omega
    subst e
    rw [List.drop_length]
    unfold cut sIx
    simp only
    rw [if_neg (by omega), if_neg (by omega), Int.toNat_natCast, Nat.min_self, List.drop_length, List.take_nil]
    rfl
section
variable {G : Prog} {k iw ip ide iso : Nat} {st : Store} {Q : VK} {E : XK} {T : List Nat} {names : List (List Nat)}
theorem lWord_ok (h : G.fns iw = some hLWord) {i : Nat} (hi : i ≤ T.length) (hT : T.length ≤ LINE) (hQ : Q (.str (wrd (T.drop i))) st) : wpFn G (k + 1) iw [.str T, .int (i : Nat)] st Q E := by
  rw [wpFn_at h]
  simp only [hLWord, start]
  refine ⟨rfl, ?_⟩
  walk_at "st"
  try dsimp only
  refine wpSs_c ?_
  refine while_rule (wpFn_mono G (Nat.le_refl _)) (fun m σ st' => ∃ j : Nat, σ = [some (.str T), some (.int (i : Nat)), some (.int (j : Nat))] ∧ st' = st ∧ i ≤ j ∧ j ≤ T.length ∧ m = T.length - j ∧ wrd (T.drop i) = (T.drop i).take (j - i) ++ wrd (T.drop j)) ?_ (m := T.length - i) ⟨i, rfl, rfl, Nat.le_refl _, hi, rfl, by simp⟩
  rintro m σ st3 ⟨j, rfl, rfl, l1, l2, hm, e2⟩
  walk_at "ex"
  refine ⟨hT, ?_⟩
  have done : (T.drop j = [] ∨ ∃ c t, T.drop j = c :: t ∧ isL c = false) → wpSs (wpFn G k) G.sub [.ret (.sl (.v 0) [(.v 1)] [(.v 2)])] ⟨fun _ st' => Q .non st', Q, fun _ _ => False, fun _ _ => False, fun c _ st' => E c st'⟩ [some (.str T), some (.int (i : Nat)), some (.int (j : Nat))] st3 := fun hz => by
    have z1 : wrd (T.drop j) = [] := by
      rcases hz with hz | ⟨c, t, hz, hl⟩
      · rw [hz]; rfl
      · rw [hz]; unfold wrd; rw [List.takeWhile_cons, hl]; rfl
    walk_at "st"
    refine ⟨hT, ?_⟩
    rw [cut_nat l1 l2]
    have e3 : (T.drop i).take (j - i) = wrd (T.drop i) := by rw [e2, z1, List.append_nil]
    rw [e3]
    exact hQ
  by_cases hl : j < T.length
  · have hl' : (j : Int) < (T.length : Int) := by omega
    simp only [hl', decide_true, if_true]
    walk_at "ex"
    rw [atI_nat (by omega), List.getElem?_eq_getElem hl]
    simp only [optK_some]
    walk_at "ex"
    refine ⟨hT, ?_⟩
    have ed : T.drop j = T[j] :: T.drop (j + 1) := List.drop_eq_getElem_cons hl
    cases hc : occurs [T[j]] lettersW with
    | false =>
      have hc' : occurs [T[j]] (W "abcdefghijklmnopqrstuvwxyz") = false := hc
      simp only [hc', Bool.false_eq_true, if_false]
      exact done (.inr ⟨_, _, ed, hc⟩)
    | true =>
      have hc' : isL T[j] = true := hc
      have hc2 : occurs [T[j]] (W "abcdefghijklmnopqrstuvwxyz") = true := hc
      simp only [hc2, if_true]
      walk_at "st"
      rw [wpSs_nil]
      refine ⟨m - 1, by omega, j + 1, rfl, rfl, by omega, by omega, by omega, ?_⟩
      rw [e2, ed]
      have : wrd (T[j] :: T.drop (j + 1)) = T[j] :: wrd (T.drop (j + 1)) := by unfold wrd; rw [List.takeWhile_cons, hc']; rfl
      rw [this]
      have e5 : (T.drop i).take (j + 1 - i) = (T.drop i).take (j - i) ++ [T[j]] := by
        rw [show j + 1 - i = (j - i) + 1 from by omega, List.take_add_one]
        rw [List.getElem?_drop, show i + (j - i) = j from by omega, List.getElem?_eq_getElem hl]
        rfl
      rw [e5, List.append_assoc, List.singleton_append]
  · have hl' : ¬ (j : Int) < (T.length : Int) := by omega
    simp only [hl', decide_false, Bool.false_eq_true, if_false]
    exact done (.inl (List.drop_eq_nil_of_le (by omega)))
theorem any_two (st : Store) (w : List Nat) : ([D.str (W "and"), .str (W "or"), .str (W "then"), .str (W "same"), .str (W "since")].any fun d => eqS st d (.str w)) = twoB w := by
  have c : ∀ a b : List Nat, (a == b) = (b == a) := fun a b => by rw [Bool.eq_iff_iff]; simp only [beq_iff_eq]; exact eq_comm
  simp only [List.any_cons, List.any_nil, eqS, twoB, c _ w, Bool.or_false, Bool.or_assoc]
theorem any_one (st : Store) (w : List Nat) : ([D.str (W "not"), .str (W "before"), .str (W "once"), .str (W "sofar")].any fun d => eqS st d (.str w)) = oneB w := by
  have c : ∀ a b : List Nat, (a == b) = (b == a) := fun a b => by rw [Bool.eq_iff_iff]; simp only [beq_iff_eq]; exact eq_comm
  simp only [List.any_cons, List.any_nil, eqS, oneB, c _ w, Bool.or_false, Bool.or_assoc]
theorem pl_two (st : Store) : plainSs st [D.str (W "and"), .str (W "or"), .str (W "then"), .str (W "same"), .str (W "since")] := ⟨rfl, by decide⟩
theorem pl_one (st : Store) : plainSs st [D.str (W "not"), .str (W "before"), .str (W "once"), .str (W "sofar")] := ⟨rfl, by decide⟩
theorem lPars_ok (h : G.fns ip = some (hLPars ip iw)) (hw : G.fns iw = some hLWord) (hT : T.length ≤ LINE) : ∀ (f : Nat) {k : Nat} {st : Store} {Q : VK} {E : XK} {i : Nat}, i ≤ T.length → sgn (T.drop i) < f →
    (pL names f (T.drop i) = none → Q .non st) → (∀ x rest, pL names f (T.drop i) = some (x, rest) → ∀ j : Nat, j ≤ T.length → T.drop j = rest → Q (.tup [pD x, .int (j : Nat)]) st) → wpFn G (k + f + 1) ip [.str T, .int (i : Nat), .tup (names.map .str)] st Q E := by
  intro f
  induction f with
  | zero => intro k st Q E i _ l; omega
  | succ f ih =>
    intro k st Q E i hi hsg h0 h1
    rw [show k + (f + 1) + 1 = (k + f + 1) + 1 from by omega, wpFn_at h]
    simp only [hLPars, start]
    refine ⟨rfl, ?_⟩
    walk_at "st"
    refine ⟨hT, ?_⟩
    rw [wlp, cut_one hi]
    cases hp : past 40 (T.drop i) with
    | some s1 =>
      obtain ⟨ed1, l1⟩ := past_drop hp
      have sg1 := sg_past (.inl rfl) hp
      have e0 : pL names (f + 1) (T.drop i) = (pL names f s1).bind fun p => (past 32 p.2).bind fun s3 => if twoB (wrd s3) = true then (past 32 (wrs s3)).bind fun s5 => (pL names f s5).bind fun q => (past 41 q.2).map fun s7 => (.two (wrd s3) p.1 q.1, s7) else none := by
        conv => lhs; unfold pL
        simp only [hp]
      simp only [Option.isSome_some, if_true]
      walk_at "st"
      rw [show ((i : Int) + 1) = ((i + 1 : Nat) : Int) from by omega]
      refine ih (i := i + 1) (by omega) (by rw [← ed1]; omega) (fun hx => ?_) fun x rest hx j lj ej => ?_
      · walk_at "st"
        try simp only [isNon, if_true]
        walk_at "st"
        refine h0 ?_
        rw [e0, ed1, hx]; rfl
      rw [ed1, hx, Option.bind_some] at e0
      have sgr := pL_sg f hx
      walk_at "st"
      try simp only [isNon, Bool.false_eq_true, if_false]
      walk_at "ex"
      refine ⟨hT, ?_⟩
      rw [wsp, cut_one lj, ej]
      cases h2 : past 32 rest with
      | none =>
        simp only [Option.isSome_none, Bool.not_false, if_true]
        walk_at "st"
        refine h0 ?_
        rw [e0, h2]; rfl
      | some s3 =>
        rw [h2, Option.bind_some] at e0
        rw [← ej] at h2
        obtain ⟨ed3, l3⟩ := past_drop h2
        have sg3 := sg_past (.inr rfl) h2
        simp only [Option.isSome_some, Bool.not_true, Bool.false_eq_true, if_false, wpSs_nil]
        walk_at "st"
        rw [show ((j : Int) + 1) = ((j + 1 : Nat) : Int) from by omega]
        refine lWord_ok (k := k + f) hw (by omega) hT ?_
        rw [← ed3]
        have lw := wrd_len s3
        have l33 : s3.length = T.length - (j + 1) := by rw [ed3, List.length_drop]
        walk_at "st"
        refine ⟨by omega, ?_⟩
        walk_at "st"
        refine ⟨pl_two st, ?_⟩
        rw [any_two]
        cases ht : twoB (wrd s3) with
        | false =>
          simp only [Bool.not_false, if_true]
          walk_at "st"
          refine h0 ?_
          rw [e0, if_neg (by rw [ht]; simp)]
        | true =>
          simp only [Bool.not_true, Bool.false_eq_true, if_false]
          walk_at "ex"
          refine ⟨hT, ?_⟩
          have sgw := sg_wr s3
          rw [if_pos ht] at e0
          have ee : (j : Int) + 1 + ((wrd s3).length : Int) = ((j + 1 + (wrd s3).length : Nat) : Int) := by omega
          rw [ee]
          have em : T.drop (j + 1 + (wrd s3).length) = wrs s3 := by rw [← List.drop_drop, ← ed3, drop_wrd]
          have lm : j + 1 + (wrd s3).length ≤ T.length := by omega
          generalize j + 1 + (wrd s3).length = m at em lm
          try rw [wsp]
          rw [cut_one lm, em]
          cases h3 : past 32 (wrs s3) with
          | none =>
            simp only [Option.isSome_none, Bool.not_false, if_true]
            walk_at "st"
            refine h0 ?_
            rw [e0, h3]; rfl
          | some s5 =>
            rw [h3, Option.bind_some] at e0
            rw [← em] at h3
            obtain ⟨ed5, l5⟩ := past_drop h3
            have sg5 := sg_past (.inr rfl) h3
            rw [em] at sg5
            rw [ej] at sg3
            simp only [Option.isSome_some, Bool.not_true, Bool.false_eq_true, if_false, wpSs_nil]
            walk_at "st"
            rw [show ((m : Int) + 1) = ((m + 1 : Nat) : Int) from by omega]
            refine ih (i := m + 1) (by omega) (by rw [← ed5]; rw [← ed1] at sgr; omega) (fun hx => ?_) fun y rest6 hy j6 l6 e6 => ?_
            · walk_at "st"
              try simp only [isNon, if_true]
              walk_at "st"
              refine h0 ?_
              rw [e0, ed5, hx]; rfl
            rw [ed5, hy, Option.bind_some] at e0
            walk_at "st"
            try simp only [isNon, Bool.false_eq_true, if_false]
            walk_at "ex"
            refine ⟨hT, ?_⟩
            rw [wrp, cut_one l6, e6]
            cases h4 : past 41 rest6 with
            | none =>
              simp only [Option.isSome_none, Bool.not_false, if_true]
              walk_at "st"
              refine h0 ?_
              rw [e0, h4]; rfl
            | some s7 =>
              rw [h4] at e0
              rw [← e6] at h4
              obtain ⟨ed7, l7⟩ := past_drop h4
              simp only [Option.isSome_some, Bool.not_true, Bool.false_eq_true, if_false, wpSs_nil]
              walk_at "st"
              rw [show ((j6 : Int) + 1) = ((j6 + 1 : Nat) : Int) from by omega]
              exact h1 (.two (wrd s3) x y) s7 e0 (j6 + 1) (by omega) ed7.symm
    | none =>
      have e0 : pL names (f + 1) (T.drop i) = if oneB (wrd (T.drop i)) = true ∧ (past 32 (wrs (T.drop i))).isSome = true then (past 32 (wrs (T.drop i))).bind fun s2 => (pL names f s2).map fun p => (.one (wrd (T.drop i)) p.1, p.2) else if nulB (wrd (T.drop i)) = true then some (.nul (wrd (T.drop i)), wrs (T.drop i)) else if wrd (T.drop i) ∈ names then some (.lamp (wrd (T.drop i)), wrs (T.drop i)) else none := by
        conv => lhs; unfold pL
        simp only [hp]
      simp only [Option.isSome_none, Bool.false_eq_true, if_false, wpSs_nil]
      walk_at "st"
      refine lWord_ok (k := k + f) hw hi hT ?_
      have lw := wrd_len (T.drop i)
      rw [List.length_drop] at lw
      have em : T.drop (i + (wrd (T.drop i)).length) = wrs (T.drop i) := by rw [← List.drop_drop, drop_wrd]
      have lm : i + (wrd (T.drop i)).length ≤ T.length := by omega
      have ee : (i : Int) + ((wrd (T.drop i)).length : Int) = ((i + (wrd (T.drop i)).length : Nat) : Int) := by omega
      have sgw := sg_wr (T.drop i)
      have lL : (wrd (T.drop i)).length ≤ LINE := by omega
      have rest : ¬ (oneB (wrd (T.drop i)) = true ∧ (past 32 (wrs (T.drop i))).isSome = true) → wpSs (wpFn G (k + f + 1)) G.sub [.iff (.or_ (.cmp .eq (.v 4) (.c (.str (W "yes")))) (.cmp .eq (.v 4) (.c (.str (W "no"))))) [.ret (.tup [(.tup [(.v 4)]), (.bin .add (.v 1) (.bi .len [(.v 4)]))])] [], .iff (.cmp .notin (.v 4) (.v 2)) [.ret (.c .non)] [], .ret (.tup [(.tup [(.c (.str (W "lamp"))), (.v 4)]), (.bin .add (.v 1) (.bi .len [(.v 4)]))])] ⟨fun _ st' => Q .non st', Q, fun _ _ => False, fun _ _ => False, fun c _ st' => E c st'⟩ [some (.str T), some (.int (i : Nat)), some (.tup (names.map .str)), none, some (.str (wrd (T.drop i))), none, none] st := fun hne => by
        rw [if_neg hne] at e0
        have hnul : nulB (wrd (T.drop i)) = (wrd (T.drop i) == W "yes" || wrd (T.drop i) == W "no") := rfl
        walk_at "st"
        cases hz : nulB (wrd (T.drop i)) with
        | true =>
          rw [if_pos hz] at e0
          have go : wpSs (wpFn G (k + f + 1)) G.sub [.ret (.tup [(.tup [(.v 4)]), (.bin .add (.v 1) (.bi .len [(.v 4)]))])] { nx := wpSs (wpFn G (k + f + 1)) G.sub [.iff (.cmp .notin (.v 4) (.v 2)) [.ret (.c .non)] [], .ret (.tup [(.tup [(.c (.str (W "lamp"))), (.v 4)]), (.bin .add (.v 1) (.bi .len [(.v 4)]))])] ⟨fun _ st' => Q .non st', Q, fun _ _ => False, fun _ _ => False, fun c _ st' => E c st'⟩, rt := Q, bk := fun _ _ => False, ct := fun _ _ => False, ex := fun c _ st' => E c st' } [some (.str T), some (.int (i : Nat)), some (.tup (names.map .str)), none, some (.str (wrd (T.drop i))), none, none] st := by
            walk_at "st"
            refine ⟨lL, ?_⟩
            rw [ee]
            exact h1 (.nul (wrd (T.drop i))) _ e0 _ lm em
          rw [hnul, Bool.or_eq_true] at hz
          by_cases q1 : (wrd (T.drop i) == W "yes") = true
          · simp only [q1, if_true]
            exact go
          · have q2 := hz.resolve_left q1
            simp only [q1, q2, if_true, Bool.false_eq_true, if_false]
            exact go
        | false =>
          rw [if_neg (by rw [hz]; simp)] at e0
          rw [hnul, Bool.or_eq_false_iff] at hz
          simp only [hz.1, hz.2, Bool.false_eq_true, if_false, wpSs_nil]
          walk_at "st"
          refine ⟨names_plain st names, ?_⟩
          rw [any_strs]
          by_cases hm : wrd (T.drop i) ∈ names
          · rw [if_pos hm] at e0
            rw [List.contains_iff_mem.mpr hm]
            simp only [Bool.not_true, Bool.false_eq_true, if_false, wpSs_nil]
            walk_at "st"
            refine ⟨lL, ?_⟩
            rw [ee]
            exact h1 (.lamp (wrd (T.drop i))) _ e0 _ lm em
          · rw [if_neg hm] at e0
            have hc : names.contains (wrd (T.drop i)) = false := by
              cases q : names.contains (wrd (T.drop i)) with
              | false => rfl
              | true => exact absurd (List.contains_iff_mem.mp q) hm
            rw [hc]
            simp only [Bool.not_false, if_true]
            walk_at "st"
            exact h0 e0
      walk_at "st"
      refine ⟨pl_one st, ?_⟩
      rw [any_one]
      cases ho : oneB (wrd (T.drop i)) with
      | false =>
        simp only [Bool.false_eq_true, if_false, wpSs_nil]
        exact rest (by rw [ho]; simp)
      | true =>
        simp only [if_true]
        walk_at "ex"
        refine ⟨lL, lL, hT, ?_⟩
        rw [ee, wsp, cut_one lm, em]
        cases hs : past 32 (wrs (T.drop i)) with
        | none =>
          simp only [Option.isSome_none, Bool.false_eq_true, if_false, wpSs_nil]
          exact rest (by rw [hs]; simp)
        | some s2 =>
          have hs' := hs
          rw [← em] at hs'
          obtain ⟨ed2, l2⟩ := past_drop hs'
          have sg2 := sg_past (.inr rfl) hs
          rw [if_pos ⟨ho, by rw [hs]; rfl⟩, hs, Option.bind_some] at e0
          simp only [Option.isSome_some, if_true]
          walk_at "st"
          refine ⟨lL, ?_⟩
          try walk_at "ex"
          rw [ee]
          generalize i + (wrd (T.drop i)).length = m at ed2 l2 lm em
          rw [show ((m : Int) + 1) = ((m + 1 : Nat) : Int) from by omega]
          refine ih (i := m + 1) (by omega) (by rw [← ed2]; omega) (fun hx => ?_) fun x rst hx j lj ej => ?_
          · walk_at "st"
            try simp only [isNon, if_true]
            walk_at "st"
            refine h0 ?_
            rw [e0, ed2, hx]; rfl
          rw [ed2, hx, Option.map_some] at e0
          walk_at "st"
          try simp only [isNon, Bool.false_eq_true, if_false, wpSs_nil]
          walk_at "st"
          exact h1 (.one (wrd (T.drop i)) x) rst e0 j lj ej
end
end L3
end
section
namespace L3
open PySem
noncomputable def hLSpo : Fn := ⟨3, 7, [.asg (.nm 3) (.bin .mod (.v 1) (.bin .add (.bi .len [(.v 0)]) (.c (.int 1)))), .asg (.nm 4) (.ix (.c (.str (W " ()\nabxyznotrdlamp0123456789-+<>.TF"))) (.bin .mod (.bin .fdiv (.v 1) (.c (.int 1000))) (.c (.int 35)))), .asg (.nm 5) (.bin .mod (.bin .fdiv (.v 1) (.c (.int 40000))) (.c (.int 6))), .iff (.cmp .eq (.v 5) (.c (.int 0))) [.ret (.bin .add (.bin .add (.sl (.v 0) [] [(.v 3)]) (.v 4)) (.sl (.v 0) [(.v 3)] []))] [], .iff (.cmp .eq (.v 5) (.c (.int 1))) [.ret (.bin .add (.sl (.v 0) [] [(.v 3)]) (.sl (.v 0) [(.bin .add (.v 3) (.c (.int 1)))] []))] [], .iff (.cmp .eq (.v 5) (.c (.int 2))) [.ret (.bin .add (.bin .add (.sl (.v 0) [] [(.v 3)]) (.v 4)) (.sl (.v 0) [(.bin .add (.v 3) (.c (.int 1)))] []))] [], .iff (.cmp .eq (.v 5) (.c (.int 3))) [.asg (.nm 6) (.bin .add (.v 3) (.bin .mod (.bin .fdiv (.v 1) (.c (.int 7))) (.c (.int 9)))), .ret (.bin .add (.sl (.v 0) [] [(.v 3)]) (.sl (.v 0) [(.v 6)] []))] [], .iff (.cmp .eq (.v 5) (.c (.int 4))) [.ret (.ix (.lst [(.bin .add (.v 0) (.v 0)), (.bin .add (.sl (.v 0) [(.v 3)] []) (.sl (.v 0) [] [(.v 3)])), (.bin .add (.c (.str (W " "))) (.v 0)), (.bin .add (.v 0) (.c (.str (W " "))))]) (.bin .mod (.v 1) (.c (.int 4))))] [], .ret (.ix (.bin .add (.v 2) (.lst [(.c .non), (.c (.int 5)), (.lst [(.v 0)]), (.c (.str (W "")))])) (.bin .mod (.v 1) (.bin .add (.bi .len [(.v 2)]) (.c (.int 4)))))]⟩
noncomputable def hLaw31 (inm is ist ilt ire isp im iso : Nat) : Fn := ⟨1, 11, [.asg (.nm 1) (.lst [(.c (.int 2))]), .asg (.tp [2, 3]) (.call inm [(.v 0), (.v 1)]), .asg (.nm 4) (.bin .add (.v 2) (.v 3)), .asg (.nm 5) (.call is [(.v 0), (.v 1), (.v 4), (.c (.int 4)), (.lst [(.c (.int 4))])]), .asg (.nm 6) (.call ist [(.v 5)]), .iff (.or_ (.not_ (.isi (.v 6) [.str])) (.or_ (.cmp .ne (.v 6) (.call ilt [(.v 5)])) (.cmp .ne (.call ire [(.v 4), (.v 6)]) (.v 5)))) [.ret (.c (.bl false))] [], .asg (.nm 7) (.lst [(.bin .add (.bin .mul (.c (.str (W "not "))) (.c (.int 8))) (.ix (.v 4) (.c (.int 0)))), (.bin .add (.bin .mul (.c (.str (W "not "))) (.c (.int 7))) (.ix (.v 4) (.c (.int 0)))), (.c (.str (W "(yes and no"))), (.c (.str (W "(yes and  no)"))), (.c (.str (W "zzz"))), (.c (.str (W "not")))]), .ex (.meth .extend (.v 7) [(.lst [(.c (.str (W "(yes nor no)"))), (.c (.str (W "yes no")))])]), .asg (.nm 6) (.call isp [(.v 6), (.call im [(.v 0), (.c (.int 0)), (.bin .pow (.c (.int 10)) (.c (.int 7)))]), (.v 7)]), .asg (.nm 8) (.c .non), .iff (.isi (.v 6) [.str]) [.asg (.nm 8) (.call iso [(.v 6), (.v 4)])] [], .asg (.nm 9) (.c .non), .tryy [.asg (.nm 9) (.callx ire [(.v 4), (.v 6)])] 3 (some 10) [.iff (.or_ (.not_ (.isi (.v 10) [.err 1])) (.or_ (.not_ (.isi (.v 10) [.err 0])) (.isi (.v 10) [.err 2]))) [.ret (.c (.bl false))] []], .ret (.cmp .eq (.v 9) (.v 8))]⟩
set_option tactic.hygienic true in
theorem pL_py {names : List (List Nat)} : ∀ (f : Nat) {s r : List Nat} {x : Py}, pL names f s = some (x, r) → ∃ y, x = py y ∧ over names y ∧ dep y = deep x ∧ deep x ≤ f
  | 0, _, _, _, h => by simp [pL] at h
  | f + 1, s, r, x, h => by
    unfold pL at h
    cases e : past 40 s with
    | some s1 =>
      simp only [e] at h
      simp only [Option.bind_eq_some_iff] at h
      obtain ⟨⟨a, s2⟩, h1, s3, h2, h⟩ := h
      split at h
      · rename_i ht
        simp only [Option.bind_eq_some_iff, Option.map_eq_some_iff, Prod.mk.injEq] at h
        obtain ⟨s5, h3, ⟨b, s6⟩, h4, s7, h5, rfl, rfl⟩ := h
        obtain ⟨y, ey, oy, dy, ly⟩ := pL_py f h1
        obtain ⟨z, ez, oz, dz, lz⟩ := pL_py f h4
        have hw : ∃ w : W2, wrd s3 = c2 w := by
          unfold twoB at ht
          simp only [Bool.or_eq_true, beq_iff_eq] at ht
          rcases ht with (((h1 | h1) | h1) | h1) | h1
          · exact ⟨.and, h1⟩
          · exact ⟨.or, h1⟩
          · exact ⟨.thn, h1⟩
          · exact ⟨.same, h1⟩
          · exact ⟨.since, h1⟩
        obtain ⟨w, hw⟩ := hw
        dsimp only
        refine ⟨.two w y z, by rw [hw, ey, ez]; rfl, ⟨oy, oz⟩, by simp only [dep, deep, dy, dz], ?_⟩
        simp only [deep]; omega
      · cases h
    | none =>
      simp only [e] at h
      split at h
      · rename_i h1
        simp only [Option.bind_eq_some_iff, Option.map_eq_some_iff, Prod.mk.injEq] at h
        obtain ⟨s2, h3, ⟨a, s4⟩, h4, rfl, rfl⟩ := h
        obtain ⟨y, ey, oy, dy, ly⟩ := pL_py f h4
        have hw : ∃ w : W1, wrd s = c1 w := by
          have ht := h1.1
          unfold oneB at ht
          simp only [Bool.or_eq_true, beq_iff_eq] at ht
          rcases ht with ((h1 | h1) | h1) | h1
          · exact ⟨.not, h1⟩
          · exact ⟨.before, h1⟩
          · exact ⟨.once, h1⟩
          · exact ⟨.sofar, h1⟩
        obtain ⟨w, hw⟩ := hw
        dsimp only
        refine ⟨.one w y, by rw [hw, ey]; rfl, oy, by simp only [dep, deep, dy], ?_⟩
        simp only [deep]; omega
      · split at h
        · rename_i h2
          cases h
          unfold nulB at h2
          simp only [Bool.or_eq_true, beq_iff_eq] at h2
          rcases h2 with h2 | h2
          · exact ⟨.yes, by rw [h2]; rfl, trivial, rfl, by simp only [deep]; omega⟩
          · exact ⟨.no, by rw [h2]; rfl, trivial, rfl, by simp only [deep]; omega⟩
        · split at h
          · rename_i h3
            cases h
            exact ⟨.lamp (wrd s), rfl, h3, rfl, by simp only [deep]; omega⟩
          · cases h
noncomputable def lOf (names : List (List Nat)) (F : Nat) (T : List Nat) : Option Py := (pL names F T).bind fun p => if p.2 = [] ∧ deep p.1 ≤ 8 then some p.1 else none
theorem agree {names : List (List Nat)} (hn : ∀ n ∈ names, nameB n = true) {F : Nat} (hF : 8 ≤ F) (T : List Nat) : rdS names T = lOf names F T := by
  have hn' : ∀ n ∈ names, nulB n = false ∧ oneB n = false := fun n h => ⟨(name_w (hn n h)).2.2.2.1, (name_w (hn n h)).2.2.2.2⟩
  cases h : rdS names T with
  | some x =>
    unfold rdS at h
    simp only [Option.bind_eq_some_iff] at h
    obtain ⟨y, h1, h2⟩ := h
    by_cases ho : okP names y = true
    · rw [if_pos ho] at h2
      cases h2
      unfold pW at h1
      simp only [Option.bind_eq_some_iff] at h1
      obtain ⟨⟨z, r⟩, h3, h4⟩ := h1
      by_cases hr : r = []
      · rw [if_pos hr] at h4
        cases h4
        unfold lOf
        rw [pL_of 8 F hF h3 ho, Option.bind_some, if_pos ⟨hr, (pN_deep 8 h3).1⟩]
      · rw [if_neg hr] at h4; cases h4
    · rw [if_neg ho] at h2; cases h2
  | none =>
    cases h' : lOf names F T with
    | none => rfl
    | some x =>
      unfold lOf at h'
      simp only [Option.bind_eq_some_iff] at h'
      obtain ⟨⟨z, r⟩, h3, h4⟩ := h'
      by_cases hr : r = [] ∧ deep z ≤ 8
      · obtain ⟨i1, i2⟩ := pN_of hn' F 8 h3 hr.2
        unfold rdS pW at h
        rw [i1, Option.bind_some, if_pos hr.1, Option.bind_some, if_pos i2] at h
        cases h
      · rw [if_neg hr] at h4; cases h4
section
variable {G : Prog} {k iw ip ide iso isp : Nat} {st : Store} {Q : VK} {E : XK} {T : List Nat} {names : List (List Nat)}
theorem sayOf_ok (h : G.fns iso = some (hLSayOf ip ide)) (hp : G.fns ip = some (hLPars ip iw)) (hw : G.fns iw = some hLWord) (hd : G.fns ide = some (hDeep ide)) (hT : T.length ≤ LINE) {F : Nat} (hF : sgn T < F)
    (h0 : lOf names F T = none → ∀ st', Ext st st' → Q .non st') (h1 : ∀ x, lOf names F T = some x → ∀ st', Ext st st' → Q (pD x) st') : wpFn G (k + F + 2) iso [.str T, .tup (names.map .str)] st Q E := by
  rw [wpFn_at h]
  simp only [hLSayOf, start]
  refine ⟨rfl, ?_⟩
  walk_at "st"
  refine lPars_ok (k := k) hp hw hT F (i := 0) (Nat.zero_le _) hF (fun hx => ?_) fun x rest hx j lj ej => ?_
  · walk_at "st"
    try simp only [isNon, if_true]
    walk_at "st"
    refine h0 ?_ st .refl
    rw [List.drop_zero] at hx
    unfold lOf; rw [hx]; rfl
  rw [List.drop_zero] at hx
  walk_at "st"
  try simp only [isNon, Bool.false_eq_true, if_false]
  walk_at "ex"
  refine ⟨hT, ?_⟩
  have e0 : lOf names F T = if rest = [] ∧ deep x ≤ 8 then some x else none := by unfold lOf; rw [hx]; rfl
  by_cases hj : j = T.length
  · have er : rest = [] := by rw [← ej, hj]; exact List.drop_length
    have e1 : ((j : Int) == (T.length : Int)) = true := beq_iff_eq.mpr (by omega)
    simp only [e1, Bool.not_true, Bool.false_eq_true, if_false]
    walk_at "ex"
    obtain ⟨y, rfl, oy, dy, ly⟩ := pL_py F hx
    rw [pD_py]
    refine wpFn_le (j := 0 + dep y) (by omega) (deep_ok hd y fun st1 x1 => ?_)
    walk_at "ex"
    rw [← dy] at e0
    by_cases h8 : dep y ≤ 8
    · have h8' : ¬ (8 : Int) < (dep y : Int) := by omega
      simp only [h8', decide_false, Bool.false_eq_true, if_false, wpSs_nil]
      walk_at "st"
      rw [← pD_py]
      exact h1 _ (by rw [e0, if_pos ⟨er, h8⟩]) st1 x1
    · have h8' : (8 : Int) < (dep y : Int) := by omega
      simp only [h8', decide_true, if_true]
      walk_at "st"
      exact h0 (by rw [e0, if_neg (fun z => h8 z.2)]) st1 x1
  · have er : ¬ rest = [] := fun z => by
      rw [z] at ej
      have := congrArg List.length ej
      rw [List.length_drop, List.length_nil] at this
      omega
    have e1 : ((j : Int) == (T.length : Int)) = false := beq_eq_false_iff_ne.mpr (by omega)
    simp only [e1, Bool.not_false, if_true]
    walk_at "st"
    exact h0 (by rw [e0, if_neg (fun z => er z.1)]) st .refl
end
end L3
end
section
namespace L3
open PySem
theorem cut_to {α : Type} {T : List α} {j : Nat} : cut T none (some (j : Int)) = T.take j := by
  unfold cut sIx
  simp only
  rw [if_neg (by omega), Int.toNat_natCast, List.drop_zero, Nat.sub_zero]
  by_cases h : j ≤ T.length
  · rw [Nat.min_eq_left h]
  · rw [Nat.min_eq_right (by omega), List.take_length, List.take_of_length_le (by omega)]
theorem cut_from {α : Type} {T : List α} {j : Nat} : cut T (some (j : Int)) none = T.drop j := by
  unfold cut sIx
  simp only
  rw [if_neg (by omega), Int.toNat_natCast]
  by_cases h : j ≤ T.length
  · rw [Nat.min_eq_left h, List.take_of_length_le (by rw [List.length_drop]; omega)]
  · rw [Nat.min_eq_right (by omega), List.drop_eq_nil_of_le (Nat.le_refl _), List.take_nil, List.drop_eq_nil_of_le (by omega)]
noncomputable def Of (T : List Nat) (ms : List (List Nat)) (x : List Nat) : Prop := x ∈ ms ∨ x.length ≤ 2 * T.length + 1 ∧ sgn x ≤ 2 * sgn T + 1
theorem sg_1 (c : Nat) : sgn [c] ≤ 1 := by simp only [sgn]; split <;> omega
section
variable {G : Prog} {k isp mo : Nat} {st : Store} {Q : VK} {E : XK} {T : List Nat} {ms : List (List Nat)}
theorem spo_ok (h : G.fns isp = some hLSpo) (hT : T.length ≤ 100000) (hm : st mo = some (.lst (ms.map .str))) (hl : ms.length ≤ 1000) {c : Int} (hc : 0 ≤ c)
    (q1 : ∀ x st', Ext st st' → Of T ms x → Q (.str x) st') (q2 : ∀ st', Ext st st' → Q .non st') (q3 : ∀ st', Ext st st' → Q (.int 5) st') (q4 : ∀ p st', Ext st st' → st' p = some (.lst [.str T]) → Q (.ref p) st') :
    wpFn G (k + 1) isp [.str T, .int c, .ref mo] st Q E := by
  have hL : LINE = 16777216 := rfl
  rw [wpFn_at h]
  simp only [hLSpo, start]
  refine ⟨rfl, ?_⟩
  walk_at "st"
  refine ⟨by omega, by omega, ?_⟩
  have a0 : 0 ≤ c % ((T.length : Int) + 1) := Int.emod_nonneg _ (by omega)
  have a1 : c % ((T.length : Int) + 1) < (T.length : Int) + 1 := Int.emod_lt_of_pos _ (by omega)
  obtain ⟨a, ea⟩ : ∃ a : Nat, c % ((T.length : Int) + 1) = (a : Int) := ⟨(c % ((T.length : Int) + 1)).toNat, by omega⟩
  rw [ea] at a0 a1 ⊢
  have la : a ≤ T.length := by omega
  walk_at "st"
  refine ⟨⟨by decide, by decide⟩, by decide, by decide, ?_⟩
  have b0 : 0 ≤ c / 1000 % 35 := Int.emod_nonneg _ (by omega)
  have b1 : c / 1000 % 35 < 35 := Int.emod_lt_of_pos _ (by omega)
  obtain ⟨b, eb⟩ : ∃ b : Nat, c / 1000 % 35 = (b : Int) := ⟨(c / 1000 % 35).toNat, by omega⟩
  rw [eb] at b0 b1 ⊢
  have lb : b < (W " ()\nabxyznotrdlamp0123456789-+<>.TF").length := by
    have : (W " ()\nabxyznotrdlamp0123456789-+<>.TF").length = 35 := by decide
    omega
  rw [atI_nat lb, List.getElem?_eq_getElem lb]
  simp only [optK_some]
  generalize (W " ()\nabxyznotrdlamp0123456789-+<>.TF")[b] = sn
  have s1 := sg_1 sn
  walk_at "st"
  refine ⟨⟨by decide, by decide⟩, by decide, ?_⟩
  have w0 : 0 ≤ c / 40000 % 6 := Int.emod_nonneg _ (by omega)
  have w1 : c / 40000 % 6 < 6 := Int.emod_lt_of_pos _ (by omega)
  generalize c / 40000 % 6 = w at w0 w1
  have td : sgn (T.take a) + sgn (T.drop a) = sgn T := by rw [← sg_app, List.take_append_drop]
  have sd : ∀ j, sgn (T.drop j) ≤ sgn T := fun j => sg_drop j T
  have st' : sgn (T.take a) ≤ sgn T := sg_take a T
  have lt : (T.take a).length ≤ T.length := by rw [List.length_take]; omega
  have ld : ∀ j, (T.drop j).length ≤ T.length := fun j => by rw [List.length_drop]; omega
  have lta : (T.take a).length + (T.drop a).length = T.length := by rw [List.length_take, List.length_drop]; omega
  walk_at "st"
  by_cases e : w = 0
  · subst e
    simp only [beq_self_eq_true, if_true]
    walk_at "st"
    rw [cut_to, cut_from]
    refine ⟨by omega, by (try simp only [List.length_cons, List.length_nil]); omega, by omega, by simp only [List.length_append, List.length_cons, List.length_nil]; omega, ?_⟩
    refine q1 _ st .refl (.inr ⟨by simp only [List.length_append, List.length_cons, List.length_nil]; omega, ?_⟩)
    simp only [sg_app] at *; omega
  simp only [show (w == 0) = false from beq_eq_false_iff_ne.mpr e, Bool.false_eq_true, if_false, wpSs_nil]
  walk_at "st"
  have ej : (a : Int) + 1 = ((a + 1 : Nat) : Int) := by omega
  by_cases e : w = 1
  · subst e
    simp only [beq_self_eq_true, if_true]
    walk_at "st"
    rw [ej, cut_to, cut_from]
    have := ld (a + 1)
    have := sd (a + 1)
    refine ⟨by omega, by omega, by omega, ?_⟩
    refine q1 _ st .refl (.inr ⟨by simp only [List.length_append]; omega, ?_⟩)
    simp only [sg_app]; omega
  simp only [show (w == 1) = false from beq_eq_false_iff_ne.mpr e, Bool.false_eq_true, if_false, wpSs_nil]
  walk_at "st"
  by_cases e : w = 2
  · subst e
    simp only [beq_self_eq_true, if_true]
    walk_at "st"
    rw [ej, cut_to, cut_from]
    have := ld (a + 1)
    have d2 : sgn (T.drop (a + 1)) ≤ sgn (T.drop a) := by
      rw [show T.drop (a + 1) = (T.drop a).drop 1 from by rw [List.drop_drop]]; exact sg_drop 1 _
    have d3 : (T.drop (a + 1)).length ≤ (T.drop a).length := by rw [List.length_drop, List.length_drop]; omega
    refine ⟨by omega, by (try simp only [List.length_cons, List.length_nil]); omega, by omega, by simp only [List.length_append, List.length_cons, List.length_nil]; omega, ?_⟩
    refine q1 _ st .refl (.inr ⟨by simp only [List.length_append, List.length_cons, List.length_nil]; omega, ?_⟩)
    simp only [sg_app]; omega
  simp only [show (w == 2) = false from beq_eq_false_iff_ne.mpr e, Bool.false_eq_true, if_false, wpSs_nil]
  walk_at "st"
  by_cases e : w = 3
  · subst e
    simp only [beq_self_eq_true, if_true]
    walk_at "st"
    refine ⟨⟨by decide, by decide⟩, by decide, ?_⟩
    have g0 : 0 ≤ c / 7 % 9 := Int.emod_nonneg _ (by omega)
    obtain ⟨g, eg⟩ : ∃ g : Nat, (a : Int) + c / 7 % 9 = (g : Int) := ⟨((a : Int) + c / 7 % 9).toNat, by omega⟩
    rw [eg]
    walk_at "st"
    rw [cut_to, cut_from]
    have := ld g
    have := sd g
    refine ⟨by omega, by omega, by omega, ?_⟩
    refine q1 _ st .refl (.inr ⟨by simp only [List.length_append]; omega, ?_⟩)
    simp only [sg_app]; omega
  simp only [show (w == 3) = false from beq_eq_false_iff_ne.mpr e, Bool.false_eq_true, if_false, wpSs_nil]
  walk_at "st"
  by_cases e : w = 4
  · subst e
    simp only [beq_self_eq_true, if_true]
    walk_at "st"
    rw [cut_to, cut_from]
    refine ⟨by omega, by omega, by omega, by omega, by rw [wsp]; simp only [List.length_cons, List.length_nil]; omega, by rw [wsp]; simp only [List.length_cons, List.length_nil]; omega, ?_⟩
    refine newE (by show 4 ≤ LINE; decide) fun p st1 x1 hp hp1 => ?_
    walk_at "ex"
    refine ⟨by decide, ?_⟩
    rw [ix_lst hp1, wsp]
    have f0 : 0 ≤ c % 4 := Int.emod_nonneg _ (by omega)
    have f1 : c % 4 < 4 := Int.emod_lt_of_pos _ (by omega)
    obtain z | z | z | z : c % 4 = 0 ∨ c % 4 = 1 ∨ c % 4 = 2 ∨ c % 4 = 3 := by omega
    all_goals rw [z]
    · exact q1 _ st1 x1 (.inr ⟨by simp only [List.length_append]; omega, by simp only [sg_app]; omega⟩)
    · exact q1 _ st1 x1 (.inr ⟨by simp only [List.length_append]; omega, by simp only [sg_app]; omega⟩)
    · exact q1 _ st1 x1 (.inr ⟨by simp only [List.length_append, List.length_cons, List.length_nil]; omega, by simp only [sg_app, show sgn [32] = 1 from rfl]; omega⟩)
    · exact q1 _ st1 x1 (.inr ⟨by simp only [List.length_append, List.length_cons, List.length_nil]; omega, by simp only [sg_app, show sgn [32] = 1 from rfl]; omega⟩)
  simp only [show (w == 4) = false from beq_eq_false_iff_ne.mpr e, Bool.false_eq_true, if_false, wpSs_nil]
  walk_at "st"
  refine newE (by show 1 ≤ LINE; decide) fun p st1 x1 hp hp1 => ?_
  walk_at "ex"
  refine newE (by show 4 ≤ LINE; decide) fun q st2 x2 hq hq2 => ?_
  walk_at "ex"
  rw [lstAt_lst (x2 _ _ (x1 _ _ hm)), lstAt_lst hq2]
  refine newE (by simp only [List.length_append, List.length_map, List.length_cons, List.length_nil]; omega) fun u st3 x3 hu hu3 => ?_
  walk_at "ex"
  rw [seqAt_lst (x3 _ _ (x2 _ _ (x1 _ _ hm)))]
  simp only [List.length_map]
  refine ⟨by omega, ?_⟩
  rw [ix_lst hu3]
  have f0 : 0 ≤ c % ((ms.length : Int) + 4) := Int.emod_nonneg _ (by omega)
  have f1 : c % ((ms.length : Int) + 4) < (ms.length : Int) + 4 := Int.emod_lt_of_pos _ (by omega)
  obtain ⟨g, eg⟩ : ∃ g : Nat, c % ((ms.length : Int) + 4) = (g : Int) := ⟨(c % ((ms.length : Int) + 4)).toNat, by omega⟩
  rw [eg] at f0 f1 ⊢
  rw [atI_nat (by simp only [List.length_append, List.length_map, List.length_cons, List.length_nil]; omega)]
  have x13 : Ext st st3 := (x1.trans x2).trans x3
  by_cases hg : g < ms.length
  · rw [List.getElem?_append_left (by simpa using hg), List.getElem?_map, List.getElem?_eq_getElem hg]
    exact q1 _ st3 x13 (.inl (List.getElem_mem hg))
  · rw [List.getElem?_append_right (by simpa using hg), List.length_map]
    obtain z | z | z | z : g - ms.length = 0 ∨ g - ms.length = 1 ∨ g - ms.length = 2 ∨ g - ms.length = 3 := by omega
    all_goals rw [z]
    · exact q2 st3 x13
    · exact q3 st3 x13
    · exact q4 p st3 x13 (x3 _ _ (x2 _ _ hp1))
    · exact q1 _ st3 x13 (.inr ⟨by show 0 ≤ _; omega, by show 0 ≤ _; omega⟩)
end
end L3
end
section
namespace L3
open PySem
theorem s_try {C : CallT} {sub : Nat → Nat → Bool} {b h : List Sx} {c : Nat} {n : Option Nat} {P : Post} {σ : St} {st : Store} : wpS C sub (.tryy b c n h) P σ st = wpSs C sub b (tryP sub c n P fun P' σ' st' => wpSs noCall sub h P' σ' st') σ st := by simp only [wpS]
theorem mz_le : ∀ (s : Sy) {d : Nat}, dep s ≤ d → mz s ≤ 5 * 2 ^ d
  | s, 0, l => by have := dep_pos s; omega
  | .yes, d + 1, _ => by simp only [mz]; have := Nat.pow_pos (n := d + 1) (show 0 < 2 by omega); omega
  | .no, d + 1, _ => by simp only [mz]; have := Nat.pow_pos (n := d + 1) (show 0 < 2 by omega); omega
  | .lamp _, d + 1, _ => by simp only [mz]; have := Nat.pow_pos (n := d + 1) (show 0 < 2 by omega); omega
  | .one w s, d + 1, l => by
    simp only [dep] at l
    have := mz_le s (d := d) (by omega)
    have := Nat.pow_pos (n := d) (show 0 < 2 by omega)
    rw [Nat.pow_succ]; simp only [mz]; omega
  | .two w s t, d + 1, l => by
    simp only [dep] at l
    cases d with
    | zero => have := dep_pos s; omega
    | succ d =>
      have h1 := mz_le' s (d := d + 1) (by omega)
      have h2 := mz_le' t (d := d + 1) (by omega)
      rw [Nat.pow_succ]; simp only [mz]; omega
where mz_le' : ∀ (s : Sy) {d : Nat}, dep s ≤ d → mz s + 4 ≤ 5 * 2 ^ d
  | s, 0, l => by have := dep_pos s; omega
  | .yes, d + 1, _ => by simp only [mz]; have := Nat.pow_pos (n := d) (show 0 < 2 by omega); rw [Nat.pow_succ]; omega
  | .no, d + 1, _ => by simp only [mz]; have := Nat.pow_pos (n := d) (show 0 < 2 by omega); rw [Nat.pow_succ]; omega
  | .lamp _, d + 1, _ => by simp only [mz]; have := Nat.pow_pos (n := d) (show 0 < 2 by omega); rw [Nat.pow_succ]; omega
  | .one w s, d + 1, l => by
    simp only [dep] at l
    have := mz_le' s (d := d) (by omega)
    have := Nat.pow_pos (n := d) (show 0 < 2 by omega)
    rw [Nat.pow_succ]; simp only [mz]; omega
  | .two w s t, d + 1, l => by
    simp only [dep] at l
    have h1 := mz_le' s (d := d) (by omega)
    have h2 := mz_le' t (d := d) (by omega)
    rw [Nat.pow_succ]; simp only [mz]; omega
noncomputable def nots (n : Nat) (w : List Nat) : List Nat := (List.replicate n (W "not ")).flatten ++ w
theorem nots_len (n : Nat) (w : List Nat) : (nots n w).length = 4 * n + w.length := by
  unfold nots
  rw [List.length_append, List.length_flatten, List.map_replicate, List.sum_replicate_nat, show (W "not ").length = 4 from rfl]; omega
theorem nots_sg (n : Nat) (w : List Nat) : sgn (nots n w) = n + sgn w := by
  unfold nots
  induction n with
  | zero => simp
  | succ n ih => rw [List.replicate_succ, List.flatten_cons, List.append_assoc, sg_app, ih, show sgn (W "not ") = 1 from rfl]; omega
section
variable {G : Prog} {il inm is ist ilt ire isp im iso inx ic iwh ict iy isw isn iri ig ine iwo ij ins ip iw ide : Nat}
theorem law31 (hl : G.fns il = some (hLaw31 inm is ist ilt ire isp im iso)) (hS : G.fns is = some (hSaying inx is)) (hN : G.fns inx = some (hNext im)) (hM : G.fns im = some (hMixed ic)) (hC : G.fns ic = some hCell) (hNm : G.fns inm = some (hNames inx))
    (hTx : G.fns ist = some hSayTx) (hLt : G.fns ilt = some (hLTx ilt)) (F : RS G ire iwh ict iy isw isn iri ig ine iwo ij ins) (hSp : G.fns isp = some hLSpo) (hSo : G.fns iso = some (hLSayOf ip ide)) (hP : G.fns ip = some (hLPars ip iw)) (hW : G.fns iw = some hLWord) (hD : G.fns ide = some (hDeep ide))
    (s33 : G.sub 3 3 = true) (s31 : G.sub 3 1 = true) (s30 : G.sub 3 0 = true) (s32 : G.sub 3 2 = false) (ns : List Int) {st : Store} {Q : VK} {E : XK} (hQ : ∀ st', Q (.bl true) st') : wpFn G (99 + 1) il [.mlst (ns.map .int)] st Q E := by
  have hL : LINE = 16777216 := rfl
  rw [wpFn_at hl]
  simp only [hLaw31, start]
  refine ⟨rfl, ?_⟩
  walk_at "st"
  refine newE (by decide) fun m st1 x1 hm hm1 => ?_
  walk_at "st"
  refine names_ok (k := 95) hNm hN hM hC hm1 (by decide) fun fs gs st2 i2 hok k2 hi2 m2 => ?_
  obtain ⟨⟨np, nl⟩, nin⟩ := okNames_in hok
  walk_at "ex"
  walk_at "st"
  simp only [List.length_map]
  refine ⟨by omega, ?_⟩
  walk_at "st"
  refine newE (by decide) fun b st3 x3 hb hb3 => ?_
  have hmb : m ≠ b := fun z => by rw [z, hb] at m2; cases m2
  try dsimp only
  rw [← List.map_append]
  have nmB : ∀ n ∈ fs ++ gs, nameB n = true := fun n hn => some8_nm n (nin n hn)
  generalize fs ++ gs = names at np nmB
  refine saying_ok (k := 91) hS hN hM hC np hmb 4 (x3 m _ m2) hb3 hi2 (by decide) fun s st4 i4 os ds cs k4 hi4 m4 b4 => ?_
  have tl := tx_len nmB s os ds
  have ts := tx_sg nmB s os ds
  have t5 : txm (4 + 1) = 620 := rfl
  have s5 : sgm (4 + 1) = 45 := rfl
  rw [t5] at tl
  rw [s5] at ts
  have eqs : ∀ (st : Store) (t : Sy), eqS st (toD t) (toD t) = true := fun st t => by rw [eqS_toD]; simp
  have fin : ∀ (d d8 : D) (o7 : Option D) (st1 : Store), ((∃ t : Sy, d8 = toD t ∧ dep t ≤ 60 ∧ ∀ (Q' : VK) (E' : XK), (∀ st', Q' d8 st') → wpFn G 99 ire [.tup (names.map .str), d] st1 Q' E') ∨ (d8 = .non ∧ ∀ (Q' : VK) (E' : XK), (∀ st', E' 3 st') → wpFn G 99 ire [.tup (names.map .str), d] st1 Q' E')) →
      wpSs (wpFn G 99) G.sub [.asg (.nm 9) (.c .non), .tryy [.asg (.nm 9) (.callx ire [(.v 4), (.v 6)])] 3 (some 10) [.iff (.or_ (.not_ (.isi (.v 10) [.err 1])) (.or_ (.not_ (.isi (.v 10) [.err 0])) (.isi (.v 10) [.err 2]))) [.ret (.c (.bl false))] []], .ret (.cmp .eq (.v 9) (.v 8))] ⟨fun _ st' => Q .non st', Q, fun _ _ => False, fun _ _ => False, fun c _ st' => E c st'⟩ [some (.mlst (ns.map .int)), some (.ref m), some (.tup (fs.map .str)), some (.tup (gs.map .str)), some (.tup (names.map .str)), some (toD s), some d, o7, some d8, none, none] st1 := by
    intro d d8 o7 st1 h
    walk_at "st"
    try dsimp only
    refine wpSs_c ?_
    rw [s_try]
    walk_at "st"
    rcases h with ⟨t, rfl, hd, h⟩ | ⟨rfl, h⟩
    · refine h _ _ fun st2 => ?_
      simp only [wpSs_nil, tryP]
      walk_at "st"
      rw [eqs]
      exact ⟨plainS_toD hd, plainS_toD hd, hQ st2⟩
    · refine h _ _ fun st2 => ?_
      simp only [tryP, s33, if_true, setO, List.set_cons_zero, List.set_cons_succ]
      walk_at "st"
      simp only [s31, s30, s32, Bool.not_true, Bool.false_eq_true, if_false, wpSs_nil]
      try simp only [List.set_cons_zero, List.set_cons_succ]
      walk_at "st"
      exact hQ st2
  walk_at "st"
  refine sayTx_ok (k := 98) hTx (Nat.le_trans (mz_le s ds) (by decide)) (by omega) (by omega) (fun w => by cases w <;> decide) fun st5 x5 => ?_
  walk_at "st"
  refine wpFn_le (j := 0 + dep s) (by omega) (lTx_ok hLt s (by omega) ?_)
  refine ⟨plainS_str, ?_⟩
  have e1 : (!eqS st5 (.str (tx s)) (.str (tx s))) = false := by simp only [eqS, beq_self_eq_true, Bool.not_true]
  rw [e1]
  simp only [Bool.false_eq_true, if_false]
  walk_at "ex"
  have rd : rdS names (tx s) = some (py s) := by
    have := pN_tx nmB s (d := 8) (r := []) os (by omega) (fun c t z => nomatch z)
    rw [List.append_nil] at this
    unfold rdS pW
    rw [this, Option.bind_some, if_pos rfl, Option.bind_some, if_pos (okP_py os)]
  refine wpFn_le (j := 0 + 22) (by omega) (read_ok F nmB (by omega) (fun x hx st6 x6 => ?_) fun hx => ?_)
  rotate_left
  · rw [rd] at hx; cases hx
  rw [rd] at hx
  cases hx
  walk_at "ex"
  rw [pD_py, eqs]
  refine ⟨plainS_toD (by omega), plainS_toD (by omega), ?_⟩
  simp only [Bool.not_true, Bool.false_eq_true, if_false, wpSs_nil]
  obtain ⟨n0, nr, en⟩ : ∃ n0 nr, names = n0 :: nr := by
    cases names with
    | nil => exact absurd np (by decide)
    | cons a r => exact ⟨a, r, rfl⟩
  have hn0 := name_w (nmB n0 (by rw [en]; simp))
  have at0 : atI (names.map D.str) 0 = some (.str n0) := by rw [en, List.map_cons]; exact at_0
  walk_at "st"
  rw [at0]
  simp only [optK_some]
  walk_at "ex"
  have l4 : (W "not ").length = 4 := rfl
  have r8 : ((List.replicate (Int.toNat 8) (W "not ")).flatten).length = 32 := by decide
  have r7 : ((List.replicate (Int.toNat 7) (W "not ")).flatten).length = 28 := by decide
  refine ⟨⟨by omega, by decide, by decide⟩, by omega, ⟨by omega, by decide, by decide⟩, by omega, ?_⟩
  refine newE (by show 6 ≤ LINE; decide) fun mo st7 x7 hmo hmo7 => ?_
  walk_at "st"
  rw [lstAt_lst hmo7]
  refine ⟨trivial, ?_⟩
  refine newE (by show 2 ≤ LINE; decide) fun m2' st8 x8 hm8 hm82 => ?_
  walk_at "ex"
  rw [lstAt_lst (x8 _ _ hmo7), lstAt_lst hm82]
  refine ⟨by show 8 ≤ LINE; decide, ?_⟩
  have em : ∀ (st : Store), put st mo (.lst ([D.str ((List.replicate (Int.toNat 8) (W "not ")).flatten ++ n0), D.str ((List.replicate (Int.toNat 7) (W "not ")).flatten ++ n0), D.str (W "(yes and no"), D.str (W "(yes and  no)"), D.str (W "zzz"), D.str (W "not")] ++ [D.str (W "(yes nor no)"), D.str (W "yes no")])) mo = some (.lst ([nots 8 n0, nots 7 n0, W "(yes and no", W "(yes and  no)", W "zzz", W "not", W "(yes nor no)", W "yes no"].map .str)) := fun st => put_same
  have hm9 := em st8
  clear em
  generalize put st8 mo _ = st9 at hm9 ⊢
  walk_at "st"
  refine ⟨by decide, ?_⟩
  refine wpFn_le (j := 0 + 2) (by omega) (mixed_ok hM hC (by decide) (by decide) fun st10 x10 => ?_)
  walk_at "ex"
  have msb : ∀ x ∈ [nots 8 n0, nots 7 n0, W "(yes and no", W "(yes and  no)", W "zzz", W "not", W "(yes nor no)", W "yes no"], x.length ≤ 100 ∧ sgn x ≤ 91 := by
    have z0 := sg_all hn0.1
    have z1 := hn0.2.2.1
    intro x hx
    simp only [List.mem_cons, List.not_mem_nil, or_false] at hx
    rcases hx with rfl | rfl | rfl | rfl | rfl | rfl | rfl | rfl
    · rw [nots_len, nots_sg]; omega
    · rw [nots_len, nots_sg]; omega
    all_goals exact ⟨by decide, by decide⟩
  refine wpFn_le (j := 98 + 1) (by omega) (spo_ok hSp (by omega) (x10 _ _ hm9) (by show 8 ≤ 1000; decide) (mixV_lo (by decide)) (fun x st11 x11 ox => ?_) (fun st11 x11 => ?_) (fun st11 x11 => ?_) fun p st11 x11 hp => ?_)
  · have bx : x.length ≤ 2000 ∧ sgn x ≤ 91 := by
      rcases ox with ox | ⟨o1, o2⟩
      · have := msb x ox; omega
      · omega
    walk_at "st"
    walk_at "st"
    try simp only [if_true]
    walk_at "st"
    have ag := agree nmB (F := 92) (by decide) x
    refine wpFn_le (j := 0 + 92 + 2) (by omega) (sayOf_ok hSo hP hW hD (by omega) (F := 92) (by omega) (fun h0 st12 x12 => ?_) fun y hy st12 x12 => ?_)
    · simp only [wpSs_nil]
      refine fin _ _ _ _ (.inr ⟨rfl, fun Q' E' hE => ?_⟩)
      refine wpFn_le (j := 0 + 22) (by omega) (read_ok F nmB (by omega) (fun z hz => ?_) fun _ st' _ => hE st')
      rw [ag, h0] at hz; cases hz
    · simp only [wpSs_nil]
      have hy' := hy
      unfold lOf at hy'
      simp only [Option.bind_eq_some_iff] at hy'
      obtain ⟨⟨z, r⟩, h3, h4⟩ := hy'
      by_cases hr : r = [] ∧ deep z ≤ 8
      · rw [if_pos hr] at h4
        cases h4
        obtain ⟨t, et, ot, dt, _⟩ := pL_py 92 h3
        refine fin _ _ _ _ (.inl ⟨t, by rw [et, pD_py], by omega, fun Q' E' hQ' => ?_⟩)
        refine wpFn_le (j := 0 + 22) (by omega) (read_ok F nmB (by omega) (fun u hu st' _ => ?_) fun hu => ?_)
        · rw [ag, hy] at hu; cases hu; exact hQ' st'
        · rw [ag, hy] at hu; cases hu
      · rw [if_neg hr] at h4; cases h4
  all_goals
    walk_at "st"
    walk_at "st"
    try simp only [Bool.false_eq_true, if_false, wpSs_nil]
  · refine fin _ _ _ _ (.inr ⟨rfl, fun Q' E' hE => ?_⟩)
    exact wpFn_le (j := 0 + 22) (by omega) (read_no F (fun P p => by simpa only [isOne] using p) (hE _))
  · refine fin _ _ _ _ (.inr ⟨rfl, fun Q' E' hE => ?_⟩)
    exact wpFn_le (j := 0 + 22) (by omega) (read_no F (fun P p => by simpa only [isOne] using p) (hE _))
  · rw [seqAt_lst hp]
    refine fin _ _ _ _ (.inr ⟨rfl, fun Q' E' hE => ?_⟩)
    exact wpFn_le (j := 0 + 22) (by omega) (read_no F (fun P q => by simp only [isOne]; rw [seqAt_lst hp]; exact q) (hE _))
end
end L3
end
end
namespace L3
open PySem PySem.Spec PyProof.Rows L2
noncomputable def g_LETTERS : D := (.str (W "abcdefghijklmnopqrstuvwxyz"))
noncomputable def g_LONGEST_NAME : D := (.int 8)
noncomputable def g_NO_NAMES : D := (.tup [(.str (W "yes")), (.str (W "no")), (.str (W "not")), (.str (W "and")), (.str (W "or")), (.str (W "then")), (.str (W "same")), (.str (W "before")), (.str (W "once")), (.str (W "sofar")), (.str (W "since")), (.str (W "foe")), (.str (W "friend")), (.str (W "promise")), (.str (W "must")), (.str (W "wish"))])
noncomputable def g_DEEPEST : D := (.int 8)
noncomputable def g_SAYINGS_WITHIN : D := (.mdic [(.str (W "yes")), (.str (W "no")), (.str (W "not")), (.str (W "before")), (.str (W "once")), (.str (W "sofar")), (.str (W "and")), (.str (W "or")), (.str (W "then")), (.str (W "same")), (.str (W "since"))] [(.int 0), (.int 0), (.int 1), (.int 1), (.int 1), (.int 1), (.int 2), (.int 2), (.int 2), (.int 2), (.int 2)])
noncomputable abbrev i_is_name : Nat := 0
noncomputable abbrev i_is_saying : Nat := 1
noncomputable abbrev i_is_saying_within : Nat := 2
noncomputable abbrev i_saying_text : Nat := 3
noncomputable abbrev i_Reader___init__ : Nat := 4
noncomputable abbrev i_Reader_goes_past : Nat := 5
noncomputable abbrev i_Reader_needs : Nat := 6
noncomputable abbrev i_Reader_word_here : Nat := 7
noncomputable abbrev i_joined_saying : Nat := 8
noncomputable abbrev i_next_saying : Nat := 9
noncomputable abbrev i_whole_saying : Nat := 10
noncomputable abbrev i_checked_text : Nat := 11
noncomputable abbrev i_read_saying : Nat := 12
noncomputable abbrev i__law_cell_at : Nat := 13
noncomputable abbrev i__law_mixed : Nat := 14
noncomputable abbrev i__law_next : Nat := 15
noncomputable abbrev i__law_saying : Nat := 16
noncomputable abbrev i__law_names : Nat := 17
noncomputable abbrev i__law_word : Nat := 18
noncomputable abbrev i__law_parsed : Nat := 19
noncomputable abbrev i__law_deep : Nat := 20
noncomputable abbrev i__law_saying_of : Nat := 21
noncomputable abbrev i__law_text : Nat := 22
noncomputable abbrev i__law_spoilt : Nat := 23
noncomputable abbrev i_law : Nat := 24
noncomputable def f_is_name : Fn := ⟨1, 1, [.iff (.or_ (.not_ (.isi (.v 0) [.str])) (.cmp .in_ (.v 0) (.c g_NO_NAMES))) [.ret (.c (.bl false))] [], .ret (.and_ (.chain .le .le (.c (.int 1)) (.bi .len [(.v 0)]) (.c g_LONGEST_NAME)) (.bi .all [(.comp 1 [] [0] true none [(.v 0)] [] (.cmp .in_ (.v 0) (.c g_LETTERS)))]))]⟩
noncomputable def f_is_saying : Fn := ⟨2, 2, [.ret (.call i_is_saying_within [(.v 0), (.v 1), (.c g_DEEPEST)])]⟩
noncomputable def f_is_saying_within : Fn := ⟨3, 3, [.iff (.or_ (.cmp .lt (.v 2) (.c (.int 1))) (.or_ (.not_ (.isi (.v 1) [.tuple])) (.or_ (.cmp .lt (.bi .len [(.v 1)]) (.c (.int 1))) (.not_ (.isi (.ix (.v 1) (.c (.int 0))) [.str]))))) [.ret (.c (.bl false))] [], .iff (.cmp .eq (.ix (.v 1) (.c (.int 0))) (.c (.str (W "lamp")))) [.ret (.and_ (.cmp .eq (.bi .len [(.v 1)]) (.c (.int 2))) (.and_ (.call i_is_name [(.ix (.v 1) (.c (.int 1)))]) (.cmp .in_ (.ix (.v 1) (.c (.int 1))) (.v 0))))] [], .iff (.or_ (.cmp .notin (.ix (.v 1) (.c (.int 0))) (.c g_SAYINGS_WITHIN)) (.cmp .ne (.bi .len [(.v 1)]) (.bin .add (.c (.int 1)) (.ix (.c g_SAYINGS_WITHIN) (.ix (.v 1) (.c (.int 0))))))) [.ret (.c (.bl false))] [], .ret (.bi .all [(.comp 1 [0, 2] [0] true none [(.sl (.v 1) [(.c (.int 1))] [])] [] (.call i_is_saying_within [(.v 1), (.v 0), (.bin .sub (.v 2) (.c (.int 1)))]))])]⟩
noncomputable def f_saying_text : Fn := hSayTx
noncomputable def f_Reader___init__ : Fn := hRInit
noncomputable def f_Reader_goes_past : Fn := hGoes
noncomputable def f_Reader_needs : Fn := hNeeds i_Reader_goes_past
noncomputable def f_Reader_word_here : Fn := hWordH g_LETTERS
noncomputable def f_joined_saying : Fn := hJoined i_next_saying i_Reader_needs i_Reader_word_here
noncomputable def f_next_saying : Fn := hNextS i_joined_saying i_Reader_goes_past i_Reader_word_here i_Reader_needs i_next_saying g_SAYINGS_WITHIN
noncomputable def f_whole_saying : Fn := hWhole i_Reader___init__ i_next_saying g_DEEPEST
noncomputable def f_checked_text : Fn := hChTx
noncomputable def f_read_saying : Fn := hRead i_whole_saying i_checked_text i_is_saying
noncomputable def f__law_cell_at : Fn := ⟨2, 2, [.iff (.cmp .lt (.v 1) (.bi .len [(.v 0)])) [.ret (.ix (.v 0) (.v 1))] [], .iff (.cmp .eq (.v 0) (.lst [])) [.ret (.c (.int 0))] [], .ret (.bin .add (.bin .mul (.ix (.v 0) (.bin .mod (.v 1) (.bi .len [(.v 0)]))) (.c (.int 31))) (.v 1))]⟩
noncomputable def f__law_mixed : Fn := ⟨3, 4, [.asg (.nm 3) (.bin .mod (.bin .mul (.bin .add (.bin .add (.call i__law_cell_at [(.v 0), (.v 1)]) (.bin .mul (.c (.int 7919)) (.v 1))) (.c (.int 1))) (.c (.int 48271))) (.c (.int 2147483647))), .ret (.bin .mod (.bin .mod (.bin .add (.bin .add (.bin .mul (.v 3) (.v 3)) (.bin .mul (.c (.int 7)) (.v 3))) (.v 1)) (.c (.int 2147483629))) (.v 2))]⟩
noncomputable def f__law_next : Fn := ⟨3, 3, [.asg (.ix (.v 1) (.c (.int 0))) (.bin .add (.ix (.v 1) (.c (.int 0))) (.c (.int 1))), .ret (.call i__law_mixed [(.v 0), (.ix (.v 1) (.c (.int 0))), (.v 2)])]⟩
noncomputable def f__law_saying : Fn := ⟨5, 7, [.asg (.nm 5) (.call i__law_next [(.v 0), (.v 1), (.c (.int 13))]), .iff (.or_ (.cmp .eq (.v 3) (.c (.int 0))) (.cmp .lt (.v 5) (.c (.int 3)))) [.ret (.tup [(.c (.str (W "lamp"))), (.ix (.v 2) (.call i__law_next [(.v 0), (.v 1), (.bi .len [(.v 2)])]))])] [], .iff (.cmp .eq (.v 5) (.c (.int 3))) [.ret (.tup [(.ix (.lst [(.c (.str (W "yes"))), (.c (.str (W "no")))]) (.call i__law_next [(.v 0), (.v 1), (.c (.int 2))]))])] [], .iff (.and_ (.cmp .gt (.v 5) (.c (.int 8))) (.cmp .gt (.ix (.v 4) (.c (.int 0))) (.c (.int 0)))) [.asg (.ix (.v 4) (.c (.int 0))) (.bin .sub (.ix (.v 4) (.c (.int 0))) (.c (.int 1))), .asg (.nm 6) (.call i__law_saying [(.v 0), (.v 1), (.v 2), (.bin .sub (.v 3) (.c (.int 1))), (.v 4)]), .iff (.cmp .eq (.v 5) (.c (.int 12))) [.ret (.tup [(.c (.str (W "since"))), (.v 6), (.call i__law_saying [(.v 0), (.v 1), (.v 2), (.bin .sub (.v 3) (.c (.int 1))), (.v 4)])])] [], .ret (.tup [(.ix (.lst [(.c (.str (W "before"))), (.c (.str (W "once"))), (.c (.str (W "sofar")))]) (.bin .sub (.v 5) (.c (.int 9)))), (.v 6)])] [], .asg (.nm 6) (.call i__law_saying [(.v 0), (.v 1), (.v 2), (.bin .sub (.v 3) (.c (.int 1))), (.v 4)]), .iff (.or_ (.cmp .eq (.v 5) (.c (.int 4))) (.cmp .gt (.v 5) (.c (.int 8)))) [.ret (.tup [(.c (.str (W "not"))), (.v 6)])] [], .ret (.tup [(.ix (.lst [(.c (.str (W "and"))), (.c (.str (W "or"))), (.c (.str (W "then"))), (.c (.str (W "same")))]) (.bin .sub (.v 5) (.c (.int 5)))), (.v 6), (.call i__law_saying [(.v 0), (.v 1), (.v 2), (.bin .sub (.v 3) (.c (.int 1))), (.v 4)])])]⟩
noncomputable def f__law_names : Fn := ⟨2, 7, [.asg (.nm 2) (.lst [(.c (.str (W "a"))), (.c (.str (W "b"))), (.c (.str (W "x"))), (.c (.str (W "y"))), (.c (.str (W "lamp"))), (.c (.str (W "far"))), (.c (.str (W "yesno"))), (.c (.str (W "abcdefgh")))]), .asg (.nm 3) (.call i__law_next [(.v 0), (.v 1), (.c (.int 8))]), .asg (.nm 4) (.bin .add (.sl (.v 2) [(.v 3)] []) (.sl (.v 2) [] [(.v 3)])), .asg (.nm 5) (.bin .add (.c (.int 1)) (.call i__law_next [(.v 0), (.v 1), (.c (.int 2))])), .asg (.nm 6) (.bin .add (.c (.int 1)) (.call i__law_next [(.v 0), (.v 1), (.c (.int 2))])), .ret (.tup [(.bi .tuple [(.sl (.v 4) [] [(.v 5)])]), (.bi .tuple [(.sl (.v 4) [(.v 5)] [(.bin .add (.v 5) (.v 6))])])])]⟩
noncomputable def f__law_word : Fn := hLWord
noncomputable def f__law_parsed : Fn := hLPars i__law_parsed i__law_word
noncomputable def f__law_deep : Fn := hLDeep i__law_deep
noncomputable def f__law_saying_of : Fn := hLSayOf i__law_parsed i__law_deep
noncomputable def f__law_text : Fn := hLTx i__law_text
noncomputable def f__law_spoilt : Fn := hLSpo
noncomputable def f_law : Fn := hLaw31 i__law_names i__law_saying i_saying_text i__law_text i_read_saying i__law_spoilt i__law_mixed i__law_saying_of
noncomputable def fnsT : Nat → Option Fn
  | 0 => some f_is_name
  | 1 => some f_is_saying
  | 2 => some f_is_saying_within
  | 3 => some f_saying_text
  | 4 => some f_Reader___init__
  | 5 => some f_Reader_goes_past
  | 6 => some f_Reader_needs
  | 7 => some f_Reader_word_here
  | 8 => some f_joined_saying
  | 9 => some f_next_saying
  | 10 => some f_whole_saying
  | 11 => some f_checked_text
  | 12 => some f_read_saying
  | 13 => some f__law_cell_at
  | 14 => some f__law_mixed
  | 15 => some f__law_next
  | 16 => some f__law_saying
  | 17 => some f__law_names
  | 18 => some f__law_word
  | 19 => some f__law_parsed
  | 20 => some f__law_deep
  | 21 => some f__law_saying_of
  | 22 => some f__law_text
  | 23 => some f__law_spoilt
  | 24 => some f_law
  | _ => none
noncomputable def subT : Nat → Nat → Bool
  | 0, 0 => true
  | 1, 1 => true
  | 1, 0 => true
  | 2, 2 => true
  | 2, 1 => true
  | 2, 0 => true
  | 3, 3 => true
  | 3, 1 => true
  | 3, 0 => true
  | _, _ => false
noncomputable def G : Prog := ⟨fnsT, subT⟩
noncomputable abbrev bd (n : Nat) : Stmt := PySem.Challenge.pw_leastloss_k31_saying_texts.main.body.getD n (.Pass ⟨0, 0, 0, 0⟩)
noncomputable def stt : Nat → Stmt
  | 0 => bd 10
  | 1 => bd 11
  | 2 => bd 12
  | 3 => bd 14
  | 4 => clsRow (bd 15) 0
  | 5 => clsRow (bd 15) 1
  | 6 => clsRow (bd 15) 2
  | 7 => clsRow (bd 15) 3
  | 8 => bd 16
  | 9 => bd 17
  | 10 => bd 18
  | 11 => bd 19
  | 12 => bd 20
  | 13 => bd 22
  | 14 => bd 23
  | 15 => bd 24
  | 16 => bd 25
  | 17 => bd 26
  | 18 => bd 27
  | 19 => bd 28
  | 20 => bd 29
  | 21 => bd 30
  | 22 => bd 31
  | 23 => bd 32
  | 24 => bd 33
  | _ => .Pass ⟨0, 0, 0, 0⟩
def nmt : Nat → Str
  | 0 => "is_name"
  | 1 => "is_saying"
  | 2 => "is_saying_within"
  | 3 => "saying_text"
  | 4 => "__init__"
  | 5 => "goes_past"
  | 6 => "needs"
  | 7 => "word_here"
  | 8 => "joined_saying"
  | 9 => "next_saying"
  | 10 => "whole_saying"
  | 11 => "checked_text"
  | 12 => "read_saying"
  | 13 => "_law_cell_at"
  | 14 => "_law_mixed"
  | 15 => "_law_next"
  | 16 => "_law_saying"
  | 17 => "_law_names"
  | 18 => "_law_word"
  | 19 => "_law_parsed"
  | 20 => "_law_deep"
  | 21 => "_law_saying_of"
  | 22 => "_law_text"
  | 23 => "_law_spoilt"
  | 24 => "law"
  | _ => ""
def qnt : Nat → Str
  | 0 => "is_name"
  | 1 => "is_saying"
  | 2 => "is_saying_within"
  | 3 => "saying_text"
  | 4 => "Reader.__init__"
  | 5 => "Reader.goes_past"
  | 6 => "Reader.needs"
  | 7 => "Reader.word_here"
  | 8 => "joined_saying"
  | 9 => "next_saying"
  | 10 => "whole_saying"
  | 11 => "checked_text"
  | 12 => "read_saying"
  | 13 => "_law_cell_at"
  | 14 => "_law_mixed"
  | 15 => "_law_next"
  | 16 => "_law_saying"
  | 17 => "_law_names"
  | 18 => "_law_word"
  | 19 => "_law_parsed"
  | 20 => "_law_deep"
  | 21 => "_law_saying_of"
  | 22 => "_law_text"
  | 23 => "_law_spoilt"
  | 24 => "law"
  | _ => ""
def att : Nat → At
  | 0 => .top
  | 1 => .top
  | 2 => .top
  | 3 => .top
  | 4 => (.init (W "Reader"))
  | 5 => (.meth (W "Reader"))
  | 6 => (.meth (W "Reader"))
  | 7 => (.meth (W "Reader"))
  | 8 => .top
  | 9 => .top
  | 10 => .top
  | 11 => .top
  | 12 => .top
  | 13 => .top
  | 14 => .top
  | 15 => .top
  | 16 => .top
  | 17 => .top
  | 18 => .top
  | 19 => .top
  | 20 => .top
  | 21 => .top
  | 22 => .top
  | 23 => .top
  | 24 => .top
  | _ => .top
def pst : Nat → List Str
  | 0 => ["thing"]
  | 1 => ["names", "thing"]
  | 2 => ["names", "thing", "deepest"]
  | 3 => ["saying"]
  | 4 => ["self", "text"]
  | 5 => ["self", "sign"]
  | 6 => ["self", "sign"]
  | 7 => ["self"]
  | 8 => ["reader", "deepest"]
  | 9 => ["reader", "deepest"]
  | 10 => ["text"]
  | 11 => ["thing"]
  | 12 => ["names", "text"]
  | 13 => ["_law_script", "_law_k"]
  | 14 => ["_law_script", "_law_k", "_law_many"]
  | 15 => ["_law_script", "_law_m", "_law_many"]
  | 16 => ["_law_script", "_law_m", "_law_names_here", "_law_deep_here", "_law_left"]
  | 17 => ["_law_script", "_law_m"]
  | 18 => ["_law_text_here", "_law_at"]
  | 19 => ["_law_text_here", "_law_at", "_law_names_here"]
  | 20 => ["_law_saying_here"]
  | 21 => ["_law_text_here", "_law_names_here"]
  | 22 => ["_law_saying_here"]
  | 23 => ["_law_text_here", "_law_cell", "_law_more"]
  | 24 => ["_law_script"]
  | _ => []
noncomputable def XN (K : PySem.W.Frag) (mg : Str → Option Value) : Prop := ∃ C, ExA K "NoText" C ∧ (∃ a, mg "LossError" = some (.ref a) ∧ IsQ K C (.ref a) true) ∧ (mg "ValueError" = none ∧ IsQ K C (.type "ValueError") true) ∧ (∃ a, mg "NoSaying" = some (.ref a) ∧ IsQ K C (.ref a) false) ∧ (PySem.W.clsIn K C).isSome = true
noncomputable def rst : Nat → Bool
  | 6 => true
  | 8 => true
  | 9 => true
  | 10 => true
  | 11 => true
  | 12 => true
  | _ => false
theorem bt_ValueError : bootBuiltins "ValueError" = some (.type "ValueError") := by decide +kernel
theorem gl_of {X : Cx} {n : Str} (h : X.env.kindOf n = some .globalImplicit) : Gl X n := h
structure Zt (K : PySem.W.Frag) (mg : Str → Option Value) : Prop where
  x_exc : XN K mg
  b_isinstance : mg "isinstance" = none
  b_str : mg "str" = none
  b_len : mg "len" = none
  b_all : mg "all" = none
  b_tuple : mg "tuple" = none
  b_max : mg "max" = none
  g_NO_NAMES : GC K mg "NO_NAMES" g_NO_NAMES
  g_LONGEST_NAME : GC K mg "LONGEST_NAME" g_LONGEST_NAME
  g_LETTERS : GC K mg "LETTERS" g_LETTERS
  g_DEEPEST : GC K mg "DEEPEST" g_DEEPEST
  g_SAYINGS_WITHIN : GC K mg "SAYINGS_WITHIN" g_SAYINGS_WITHIN
  c_Reader : ClsOk K (W "Reader")
  a_Reader_text : NoA K (W "Reader") (W "text")
  a_Reader_at : NoA K (W "Reader") (W "at")
section
variable {P : Program} {w : World} {K : PySem.W.Frag} {mg : Str → Option Value} {base : Heap}
theorem call_ok {k : Nat} (T : Top2 K mg 25 nmt qnt pst stt att) (IH : ∀ i, i < 25 → i ≠ 24 → FnOk P w K mg base CX0 (2 * k) (T.a i) (T.fd i) (pst i) (spOf K (wpFn G k) i)) {X : Cx} (e1 : X.prog = P) (e2 : X.w = w) (e3 : X.K = K) (e4 : X.mg = mg) (e5 : X.base = base) (hr : Room (2 * k + 1) X.A) (i : Nat) (h : Nat.blt i 24 = true) (ha : att i = .top) : CallOk X (wpFn G k) (nmt i) i := by
  subst e1 e2 e3 e4 e5
  have h0 : i < 24 := Nat.ble_eq.mp h
  have h : i < 25 := Nat.lt_trans h0 (by decide)
  have q := T.mg i h
  rw [ha] at q
  exact ⟨2 * k, T.a i, T.fd i, pst i, IH i h (Nat.ne_of_lt h0), hr.mono (by omega), q, (T.fn i h).kp, T.bi i h⟩
theorem meth_ok {k : Nat} (T : Top2 K mg 25 nmt qnt pst stt att) (IH : ∀ i, i < 25 → i ≠ 24 → FnOk P w K mg base CX0 (2 * k) (T.a i) (T.fd i) (pst i) (spOf K (wpFn G k) i)) {X : Cx} (e1 : X.prog = P) (e2 : X.w = w) (e3 : X.K = K) (e4 : X.mg = mg) (e5 : X.base = base) (hr : Room (2 * k + 1) X.A) (i : Nat) (c : List Nat) (h : Nat.blt i 24 = true) (ha : att i = .meth c) : MethOk X (wpFn G k) c (nmt i) i := by
  subst e1 e2 e3 e4 e5
  have h0 : i < 24 := Nat.ble_eq.mp h
  have h : i < 25 := Nat.lt_trans h0 (by decide)
  have q := T.mg i h
  rw [ha] at q
  obtain ⟨C0, q1, q2, q3⟩ := q
  exact ⟨2 * k, T.a i, T.fd i, pst i, C0, IH i h (Nat.ne_of_lt h0), hr.mono (by omega), T.bi i h, q1, q2, q3⟩
theorem make_ok {k : Nat} (T : Top2 K mg 25 nmt qnt pst stt att) (IH : ∀ i, i < 25 → i ≠ 24 → FnOk P w K mg base CX0 (2 * k) (T.a i) (T.fd i) (pst i) (spOf K (wpFn G k) i)) {X : Cx} (e1 : X.prog = P) (e2 : X.w = w) (e3 : X.K = K) (e4 : X.mg = mg) (e5 : X.base = base) (hr : Room (2 * k + 1) X.A) (i : Nat) (c : List Nat) (h : Nat.blt i 24 = true) (ha : att i = .init c) {n : Str} (hn : n = ⟨c.toArray⟩ := by kernel_rfl) : MakeOk X (wpFn G k) c n i := by
  subst e1 e2 e3 e4 e5
  have h0 : i < 24 := Nat.ble_eq.mp h
  have h : i < 25 := Nat.lt_trans h0 (by decide)
  have q := T.mg i h
  rw [ha] at q
  obtain ⟨C0, q1, q2, q3⟩ := q
  exact ⟨2 * k, T.a i, T.fd i, pst i, C0, IH i h (Nat.ne_of_lt h0), hr, T.bi i h, q1, by rw [hn]; exact q2, q3⟩
noncomputable abbrev TT (K : PySem.W.Frag) (mg : Str → Option Value) := Top2 K mg 25 nmt qnt pst stt att
noncomputable abbrev IT (P : Program) (w : World) (base : Heap) (T : TT K mg) (k : Nat) : Prop := ∀ i, i < 25 → i ≠ 24 → FnOk P w K mg base CX0 (2 * k) (T.a i) (T.fd i) (pst i) (spOf K (wpFn G k) i)
noncomputable abbrev OT (P : Program) (w : World) (base : Heap) (T : TT K mg) (k i : Nat) : Prop := FnOk P w K mg base CX0 (2 * k + 1 + 1) (T.a i) (T.fd i) (pst i) (spOf K (wpFn G (k + 1)) i)
theorem okw (i : Nat) {k : Nat} {fn : Fn} {N : List Str} (T : TT K mg) (IH : IT P w base T k) (hi : Nat.blt i 25 = true) (S : FnScope N (pst i) (defScope (stt i))) (hG : G.fns i = some fn) (hp : fn.np = (pst i).length) (hl : fn.nl = N.length)
    (hb : ∀ (cdv : Value) (A : Around) (outer : List Env) (s : Shared) (H : Hp) (E : L2.XK) (hr : Room (2 * k + 1) (A.deeper (envOfC (qnt i) (defScope (stt i)) s.heap.objs.size (T.a i) cdv))) (m : CMono (wpFn G k) (wpFn G k)) (u : (A.deeper (envOfC (qnt i) (defScope (stt i)) s.heap.objs.size (T.a i) cdv)).units + 180 < PySem.cLine)
    (c : ∀ j, Nat.blt j 24 = true → att j = .top → CallOk (cxOf CX0 P w K mg base N (qnt i) (defScope (stt i)) (T.a i) cdv A outer s H E).nox (wpFn G k) (nmt j) j) (cm : ∀ j c, Nat.blt j 24 = true → att j = .meth c → MethOk (cxOf CX0 P w K mg base N (qnt i) (defScope (stt i)) (T.a i) cdv A outer s H E).nox (wpFn G k) c (nmt j) j) (ck : ∀ j c, Nat.blt j 24 = true → att j = .init c → ∀ {n : Str} (hn : n = ⟨c.toArray⟩ := by kernel_rfl), MakeOk (cxOf CX0 P w K mg base N (qnt i) (defScope (stt i)) (T.a i) cdv A outer s H E).nox (wpFn G k) c n j) (nd : N.Nodup),
    JSs (cxOf CX0 P w K mg base N (qnt i) (defScope (stt i)) (T.a i) cdv A outer s H E).nox (wpFn G k) G.sub EF (defBody (stt i)) fn.body) : OT P w base T k i :=
  fn_ok2 (fn := fn) (T.fn i (Nat.ble_eq.mp hi)) S hG hp hl fun cdv A outer s H E hr => hb cdv A outer s H E hr (wpFn_mono G (Nat.le_refl k)) (un180 hr) (call_ok (X := (cxOf CX0 P w K mg base N (qnt i) (defScope (stt i)) (T.a i) cdv A outer s H E).nox) T IH rfl rfl rfl rfl rfl hr) (meth_ok (X := (cxOf CX0 P w K mg base N (qnt i) (defScope (stt i)) (T.a i) cdv A outer s H E).nox) T IH rfl rfl rfl rfl rfl hr) (@make_ok P w K mg base k T IH (cxOf CX0 P w K mg base N (qnt i) (defScope (stt i)) (T.a i) cdv A outer s H E).nox rfl rfl rfl rfl rfl hr) S.nd
noncomputable abbrev XT (P : Program) (w : World) (base : Heap) (T : TT K mg) (Cl : Addr) (k : Nat) : Prop := ∀ i, rst i = true → FnOk P w K mg base (CXE P w Cl) (2 * k) (T.a i) (T.fd i) (pst i) (spX K (wpFn G k) i)
noncomputable abbrev OX (P : Program) (w : World) (base : Heap) (T : TT K mg) (Cl : Addr) (k i : Nat) : Prop := FnOk P w K mg base (CXE P w Cl) (2 * k + 1 + 1) (T.a i) (T.fd i) (pst i) (spX K (wpFn G (k + 1)) i)
theorem callx_ok {k : Nat} {Cl : Addr} (T : TT K mg) (IX : XT P w base T Cl k) {X : Cx} {EX : XK} (e1 : X.prog = P) (e2 : X.w = w) (e3 : X.K = K) (e4 : X.mg = mg) (e5 : X.base = base) (hr : Room (2 * k + 1) X.A) (hx : Passes (CXE X.prog X.w Cl) X (EE X.K EX)) (i : Nat) (h : Nat.blt i 25 = true) (ha : att i = .top) (hi : rst i = true) : CallX X (wpFn G k) EX (nmt i) i := by
  subst e1 e2 e3 e4 e5
  have h : i < 25 := Nat.ble_eq.mp h
  have q := T.mg i h
  rw [ha] at q
  exact ⟨2 * k, T.a i, T.fd i, pst i, Cl, IX i hi, hr.mono (by omega), q, (T.fn i h).kp, T.bi i h, hx⟩
theorem methx_ok {k : Nat} {Cl : Addr} (T : TT K mg) (IX : XT P w base T Cl k) {X : Cx} {EX : XK} (e1 : X.prog = P) (e2 : X.w = w) (e3 : X.K = K) (e4 : X.mg = mg) (e5 : X.base = base) (hr : Room (2 * k + 1) X.A) (hx : Passes (CXE X.prog X.w Cl) X (EE X.K EX)) (i : Nat) (c : List Nat) (h : Nat.blt i 25 = true) (ha : att i = .meth c) (hi : rst i = true) : MethX X (wpFn G k) EX c (nmt i) i := by
  subst e1 e2 e3 e4 e5
  have h : i < 25 := Nat.ble_eq.mp h
  have q := T.mg i h
  rw [ha] at q
  obtain ⟨C0, q1, q2, q3⟩ := q
  exact ⟨2 * k, T.a i, T.fd i, pst i, C0, Cl, IX i hi, hr.mono (by omega), T.bi i h, q1, q2, q3, hx⟩
theorem okx (i : Nat) {k : Nat} {Cl : Addr} {fn : Fn} {N : List Str} (T : TT K mg) (IH : IT P w base T k) (IX : XT P w base T Cl k) (hi : Nat.blt i 25 = true) (S : FnScope N (pst i) (defScope (stt i))) (hG : G.fns i = some fn) (hp : fn.np = (pst i).length) (hl : fn.nl = N.length)
    (hb : ∀ (cdv : Value) (A : Around) (outer : List Env) (s : Shared) (H : Hp) (E : L2.XK) (EX : XK) (hr : Room (2 * k + 1) (A.deeper (envOfC (qnt i) (defScope (stt i)) s.heap.objs.size (T.a i) cdv))) (hE : ∀ cl a H', EE K EX cl a H' → E cl a H') (m : CMono (wpFn G k) (wpFn G k)) (u : (A.deeper (envOfC (qnt i) (defScope (stt i)) s.heap.objs.size (T.a i) cdv)).units + 180 < PySem.cLine)
    (c : ∀ j, Nat.blt j 24 = true → att j = .top → CallOk (cxOf (CXE P w Cl) P w K mg base N (qnt i) (defScope (stt i)) (T.a i) cdv A outer s H E) (wpFn G k) (nmt j) j) (cm : ∀ j c, Nat.blt j 24 = true → att j = .meth c → MethOk (cxOf (CXE P w Cl) P w K mg base N (qnt i) (defScope (stt i)) (T.a i) cdv A outer s H E) (wpFn G k) c (nmt j) j) (ck : ∀ j c, Nat.blt j 24 = true → att j = .init c → ∀ {n : Str} (hn : n = ⟨c.toArray⟩ := by kernel_rfl), MakeOk (cxOf (CXE P w Cl) P w K mg base N (qnt i) (defScope (stt i)) (T.a i) cdv A outer s H E) (wpFn G k) c n j)
    (cx : ∀ j, Nat.blt j 25 = true → att j = .top → rst j = true → CallX (cxOf (CXE P w Cl) P w K mg base N (qnt i) (defScope (stt i)) (T.a i) cdv A outer s H E) (wpFn G k) EX (nmt j) j) (cmx : ∀ j c, Nat.blt j 25 = true → att j = .meth c → rst j = true → MethX (cxOf (CXE P w Cl) P w K mg base N (qnt i) (defScope (stt i)) (T.a i) cdv A outer s H E) (wpFn G k) EX c (nmt j) j) (nd : N.Nodup),
    JSs (cxOf (CXE P w Cl) P w K mg base N (qnt i) (defScope (stt i)) (T.a i) cdv A outer s H E) (wpFn G k) G.sub EX (defBody (stt i)) fn.body) : OX P w base T Cl k i :=
  fn_okX (fn := fn) (T.fn i (Nat.ble_eq.mp hi)) S hG hp hl fun cdv A outer s H E EX hr hE => hb cdv A outer s H E EX hr hE (wpFn_mono G (Nat.le_refl k)) (un180 hr) (call_ok (X := (cxOf (CXE P w Cl) P w K mg base N (qnt i) (defScope (stt i)) (T.a i) cdv A outer s H E)) T IH rfl rfl rfl rfl rfl hr) (meth_ok (X := (cxOf (CXE P w Cl) P w K mg base N (qnt i) (defScope (stt i)) (T.a i) cdv A outer s H E)) T IH rfl rfl rfl rfl rfl hr) (@make_ok P w K mg base k T IH (cxOf (CXE P w Cl) P w K mg base N (qnt i) (defScope (stt i)) (T.a i) cdv A outer s H E) rfl rfl rfl rfl rfl hr) (callx_ok (X := (cxOf (CXE P w Cl) P w K mg base N (qnt i) (defScope (stt i)) (T.a i) cdv A outer s H E)) T IX rfl rfl rfl rfl rfl hr (passX hE)) (methx_ok (X := (cxOf (CXE P w Cl) P w K mg base N (qnt i) (defScope (stt i)) (T.a i) cdv A outer s H E)) T IX rfl rfl rfl rfl rfl hr (passX hE)) S.nd
theorem ok_0 {k : Nat} (T : TT K mg) (Z : Zt K mg) (IH : IT P w base T k) : OT P w base T k 0 :=
  okw 0 (fn := f_is_name) (N := ["thing"]) T IH rfl ⟨rfl, rfl, rfl, by decide +kernel, rfl, by decide +kernel, by decide +kernel⟩ rfl rfl rfl fun cdv A outer s H E hr m u c cm ck nd => by
  exact (cc (sif m (wpt (wor m (tno (tp (jis (t := .str) bt_str Z.b_isinstance Z.b_str (jv 0)))) (won (tcm (o := .in_) u (jv 0) (jg Z.g_NO_NAMES))))) (cc (sre m jb)
    c0) c0)
    (cc (sre m (jan (jch (o := .le) (o' := .le) u ji (jfun bi_len_ok bt_len Z.b_len (ja (jv 0) an)) (jg Z.g_LONGEST_NAME)) (jon (jfun (bi_all_ok hr.hd) bt_all Z.b_all (ja (jco m (own := ["sign"]) (cn := []) (caps := []) (one := true) (csc (on := (defScope (stt 0)).names) (N := ["thing"]) (by decide +kernel)) (iv (jv 0)) (fun _ _ _ _ => (b1 (gn (show (["sign"] : List Str).Nodup by decide +kernel)))) (fun _ _ _ _ => qn) (fun _ _ _ _ => (jcm (o := .in_) u (jv 0) (jg Z.g_LETTERS)))) an)))))
    c0))
theorem ok_1 {k : Nat} (T : TT K mg) (Z : Zt K mg) (IH : IT P w base T k) : OT P w base T k 1 :=
  okw 1 (fn := f_is_saying) (N := ["names", "thing"]) T IH rfl ⟨rfl, rfl, rfl, by decide +kernel, rfl, by decide +kernel, by decide +kernel⟩ rfl rfl rfl fun cdv A outer s H E hr m u c cm ck nd => by
  exact (cc (sre m (jcl (c 2 rfl rfl) (ja (jv 0) (ja (jv 1) (ja (jg Z.g_DEEPEST) an)))))
    c0)
noncomputable abbrev N2 : List Str := ["names", "thing", "deepest"]
theorem ok_2 {k : Nat} (T : TT K mg) (Z : Zt K mg) (IH : IT P w base T k) : OT P w base T k 2 :=
  okw 2 (fn := f_is_saying_within) (N := N2) T IH rfl ⟨rfl, rfl, rfl, by decide +kernel, rfl, by decide +kernel, by decide +kernel⟩ rfl rfl rfl fun cdv A outer s H E hr m u c cm ck nd => by
  exact (cc (sif m (wpt (wor m (tcm (o := .lt) u (jvc 2) ji) (wor m (tno (tp (jis (t := .tuple) bt_tuple Z.b_isinstance Z.b_tuple (jv 1)))) (wor m (tcm (o := .lt) u (jfun bi_len_ok bt_len Z.b_len (ja (jv 1) an)) ji) (won (tno (tp (jis (t := .str) bt_str Z.b_isinstance Z.b_str (jix (jv 1) ji))))))))) (cc (sre m jb)
    c0) c0)
    (cc (sif m (tcm (o := .eq) u (jix (jv 1) ji) js) (cc (sre m (jan (jcm (o := .eq) u (jfun bi_len_ok bt_len Z.b_len (ja (jv 1) an)) ji) (jan (jcl (c 0 rfl rfl) (ja (jix (jv 1) ji) an)) (jon (jcm (o := .in_) u (jix (jv 1) ji) (jvc 0))))))
    c0) c0)
    (cc (sif m (wpt (wor m (tcm (o := .notin) u (jix (jv 1) ji) (jg Z.g_SAYINGS_WITHIN)) (won (tcm (o := .ne) u (jfun bi_len_ok bt_len Z.b_len (ja (jv 1) an)) (jbi (op := .add) ji (jix (jg Z.g_SAYINGS_WITHIN) (jix (jv 1) ji))))))) (cc (sre m jb)
    c0) c0)
    (cc (sre m (jfun (bi_all_ok hr.hd) bt_all Z.b_all (ja (jco m (own := ["part"]) (cn := ["names", "deepest"]) (caps := [0, 2]) (one := true) (csc (on := (defScope (stt 2)).names) (N := N2) (by decide +kernel)) (iv (jsl (jv 1) (os ji) on)) (fun _ _ _ _ => (b1 (gn (show (["part", "names", "deepest"] : List Str).Nodup by decide +kernel)))) (fun _ _ _ _ => qn) (fun _ _ _ _ => (jcl ((c 2 rfl rfl).inC) (ja (jvc 1) (ja (jv 0) (ja (jbi (op := .sub) (jvc 2) ji) an)))))) an)))
    c0))))
theorem ok_3 {k : Nat} (T : TT K mg) (Z : Zt K mg) (IH : IT P w base T k) : OT P w base T k 3 :=
  okw 3 (fn := f_saying_text) (N := ["saying", "written", "ahead", "part"]) T IH rfl ⟨rfl, rfl, rfl, by decide +kernel, rfl, by decide +kernel, by decide +kernel⟩ rfl rfl rfl fun cdv A outer s H E hr m u c cm ck nd => by
  exact (cc (sn (i := 1) m nd (jl an))
    (cc (sn (i := 2) m nd (jl (ja (jv 0) an)))
    (cc (sw m (tp (jv 2)) (cc (sn (i := 3) m nd (jpo (jv 2) ))
    (cc (sif m (tp (jis (t := .str) bt_str Z.b_isinstance Z.b_str (jv 3))) (cc (sx m (jap (jv 1) (ja (jv 3) an)))
    c0) (cc (sif m (tcm (o := .eq) u (jix (jv 3) ji) js) (cc (sx m (jap (jv 1) (ja (jix (jv 3) ji) an)))
    c0) (cc (sif m (tcm (o := .eq) u (jfun bi_len_ok bt_len Z.b_len (ja (jv 3) an)) ji) (cc (sx m (jap (jv 1) (ja (jix (jv 3) ji) an)))
    c0) (cc (sif m (tcm (o := .eq) u (jfun bi_len_ok bt_len Z.b_len (ja (jv 3) an)) ji) (cc (sx m (jxt (jv 2) (ja (jl (ja (jix (jv 3) ji) (ja (jbi (op := .add) (jix (jv 3) ji) js) an))) an)))
    c0) (cc (sx m (jxt (jv 2) (ja (jl (ja js (ja (jix (jv 3) ji) (ja (jbi (op := .add) (jbi (op := .add) js (jix (jv 3) ji)) js) (ja (jix (jv 3) ji) (ja js an)))))) an)))
    c0))
    c0))
    c0))
    c0))
    c0)))
    (cc (sre m (jjn js (ja (jv 1) an)))
    c0))))
theorem ok_4 {k : Nat} (T : TT K mg) (Z : Zt K mg) (IH : IT P w base T k) : OT P w base T k 4 :=
  okw 4 (fn := f_Reader___init__) (N := ["self", "text"]) T IH rfl ⟨rfl, rfl, rfl, by decide +kernel, rfl, by decide +kernel, by decide +kernel⟩ rfl rfl rfl fun cdv A outer s H E hr m u c cm ck nd => by
  exact (cc (sfl m (W "Reader") Z.c_Reader Z.a_Reader_text (jv 0) (jv 1))
    (cc (sfl m (W "Reader") Z.c_Reader Z.a_Reader_at (jv 0) ji)
    c0))
theorem ok_5 {k : Nat} (T : TT K mg) (Z : Zt K mg) (IH : IT P w base T k) : OT P w base T k 5 :=
  okw 5 (fn := f_Reader_goes_past) (N := ["self", "sign"]) T IH rfl ⟨rfl, rfl, rfl, by decide +kernel, rfl, by decide +kernel, by decide +kernel⟩ rfl rfl rfl fun cdv A outer s H E hr m u c cm ck nd => by
  exact (cc (sif m (tno (tp (jsw (jfl (W "Reader") Z.c_Reader Z.a_Reader_text (jv 0)) (ja (jv 1) (ja (jfl (W "Reader") Z.c_Reader Z.a_Reader_at (jv 0)) an))))) (cc (sre m jb)
    c0) c0)
    (cc (sfl m (W "Reader") Z.c_Reader Z.a_Reader_at (jv 0) (jbi (op := .add) (jfl (W "Reader") Z.c_Reader Z.a_Reader_at (jv 0)) ji))
    (cc (sre m jb)
    c0)))
theorem okx_6 {k : Nat} {Cl : Addr} (T : TT K mg) (Z : Zt K mg) (Y : ExA K "NoText" Cl) (IH : IT P w base T k) (IX : XT P w base T Cl k) : OX P w base T Cl k 6 :=
  okx 6 (fn := f_Reader_needs) (N := ["self", "sign"]) T IH IX rfl ⟨rfl, rfl, rfl, by decide +kernel, rfl, by decide +kernel, by decide +kernel⟩ rfl rfl rfl fun cdv A outer s H E EX hr hE m u c cm ck cx cmx nd => by
  exact (cc (sif m (tno (tp (jmc (mm := W "goes_past") (cm 5 (W "Reader") rfl rfl) (jv 0) (ja (jv 1) an)))) (cc (sra hE Y)
    c0) c0)
    c0)
theorem ok_7 {k : Nat} (T : TT K mg) (Z : Zt K mg) (IH : IT P w base T k) : OT P w base T k 7 :=
  okw 7 (fn := f_Reader_word_here) (N := ["self", "start"]) T IH rfl ⟨rfl, rfl, rfl, by decide +kernel, rfl, by decide +kernel, by decide +kernel⟩ rfl rfl rfl fun cdv A outer s H E hr m u c cm ck nd => by
  exact (cc (sn (i := 1) m nd (jfl (W "Reader") Z.c_Reader Z.a_Reader_at (jv 0)))
    (cc (sw m (wpt (wan m (tcm (o := .lt) u (jfl (W "Reader") Z.c_Reader Z.a_Reader_at (jv 0)) (jfun bi_len_ok bt_len Z.b_len (ja (jfl (W "Reader") Z.c_Reader Z.a_Reader_text (jv 0)) an))) (won (tcm (o := .in_) u (jix (jfl (W "Reader") Z.c_Reader Z.a_Reader_text (jv 0)) (jfl (W "Reader") Z.c_Reader Z.a_Reader_at (jv 0))) (jg Z.g_LETTERS))))) (cc (sfl m (W "Reader") Z.c_Reader Z.a_Reader_at (jv 0) (jbi (op := .add) (jfl (W "Reader") Z.c_Reader Z.a_Reader_at (jv 0)) ji))
    c0))
    (cc (sre m (jsl (jfl (W "Reader") Z.c_Reader Z.a_Reader_text (jv 0)) (os (jv 1)) (os (jfl (W "Reader") Z.c_Reader Z.a_Reader_at (jv 0)))))
    c0)))
theorem okx_8 {k : Nat} {Cl : Addr} (T : TT K mg) (Z : Zt K mg) (Y : ExA K "NoText" Cl) (IH : IT P w base T k) (IX : XT P w base T Cl k) : OX P w base T Cl k 8 :=
  okx 8 (fn := f_joined_saying) (N := ["reader", "deepest", "first", "word", "second"]) T IH IX rfl ⟨rfl, rfl, rfl, by decide +kernel, rfl, by decide +kernel, by decide +kernel⟩ rfl rfl rfl fun cdv A outer s H E EX hr hE m u c cm ck cx cmx nd => by
  exact (cc (sn (i := 2) m nd (jclx (cx 9 rfl rfl rfl) (ja (jv 0) (ja (jv 1) an))))
    (cc (sx m (jmcx (mm := W "needs") (cmx 6 (W "Reader") rfl rfl rfl) (jv 0) (ja js an)))
    (cc (sn (i := 3) m nd (jmc0 (mm := W "word_here") (cm 7 (W "Reader") rfl rfl) (jv 0)))
    (cc (sx m (jmcx (mm := W "needs") (cmx 6 (W "Reader") rfl rfl rfl) (jv 0) (ja js an)))
    (cc (sn (i := 4) m nd (jclx (cx 9 rfl rfl rfl) (ja (jv 0) (ja (jv 1) an))))
    (cc (sx m (jmcx (mm := W "needs") (cmx 6 (W "Reader") rfl rfl rfl) (jv 0) (ja js an)))
    (cc (sre m (jt m (ja (jv 3) (ja (jv 2) (ja (jv 4) an)))))
    c0)))))))
theorem okx_9 {k : Nat} {Cl : Addr} (T : TT K mg) (Z : Zt K mg) (Y : ExA K "NoText" Cl) (IH : IT P w base T k) (IX : XT P w base T Cl k) : OX P w base T Cl k 9 :=
  okx 9 (fn := f_next_saying) (N := ["reader", "deepest", "word"]) T IH IX rfl ⟨rfl, rfl, rfl, by decide +kernel, rfl, by decide +kernel, by decide +kernel⟩ rfl rfl rfl fun cdv A outer s H E EX hr hE m u c cm ck cx cmx nd => by
  exact (cc (sif m (tcm (o := .lt) u (jv 1) ji) (cc (sra hE Y)
    c0) c0)
    (cc (sif m (tp (jmc (mm := W "goes_past") (cm 5 (W "Reader") rfl rfl) (jv 0) (ja js an))) (cc (sre m (jclx (cx 8 rfl rfl rfl) (ja (jv 0) (ja (jbi (op := .sub) (jv 1) ji) an))))
    c0) c0)
    (cc (sn (i := 2) m nd (jmc0 (mm := W "word_here") (cm 7 (W "Reader") rfl rfl) (jv 0)))
    (cc (sif m (tcm (o := .eq) u (jdg (jg Z.g_SAYINGS_WITHIN) (ja (jv 2) an)) ji) (cc (sre m (jt m (ja (jv 2) an)))
    c0) c0)
    (cc (sif m (tcm (o := .eq) u (jdg (jg Z.g_SAYINGS_WITHIN) (ja (jv 2) an)) ji) (cc (sx m (jmcx (mm := W "needs") (cmx 6 (W "Reader") rfl rfl rfl) (jv 0) (ja js an)))
    (cc (sre m (jt m (ja (jv 2) (ja (jclx (cx 9 rfl rfl rfl) (ja (jv 0) (ja (jbi (op := .sub) (jv 1) ji) an))) an))))
    c0)) c0)
    (cc (sre m (jt m (ja js (ja (jv 2) an))))
    c0))))))
theorem okx_10 {k : Nat} {Cl : Addr} (T : TT K mg) (Z : Zt K mg) (Y : ExA K "NoText" Cl) (IH : IT P w base T k) (IX : XT P w base T Cl k) : OX P w base T Cl k 10 :=
  okx 10 (fn := f_whole_saying) (N := ["text", "reader", "saying"]) T IH IX rfl ⟨rfl, rfl, rfl, by decide +kernel, rfl, by decide +kernel, by decide +kernel⟩ rfl rfl rfl fun cdv A outer s H E EX hr hE m u c cm ck cx cmx nd => by
  exact (cc (sn (i := 1) m nd (jmk (ck 4 (W "Reader") rfl rfl) (ja (jv 0) an)))
    (cc (sn (i := 2) m nd (jclx (cx 9 rfl rfl rfl) (ja (jv 1) (ja (jg Z.g_DEEPEST) an))))
    (cc (sif m (tcm (o := .lt) u (jfl (W "Reader") Z.c_Reader Z.a_Reader_at (jv 1)) (jfun bi_len_ok bt_len Z.b_len (ja (jv 0) an))) (cc (sra hE Y)
    c0) c0)
    (cc (sre m (jv 2))
    c0))))
theorem okx_11 {k : Nat} {Cl : Addr} (T : TT K mg) (Z : Zt K mg) (Y : ExA K "NoText" Cl) (IH : IT P w base T k) (IX : XT P w base T Cl k) : OX P w base T Cl k 11 :=
  okx 11 (fn := f_checked_text) (N := ["thing"]) T IH IX rfl ⟨rfl, rfl, rfl, by decide +kernel, rfl, by decide +kernel, by decide +kernel⟩ rfl rfl rfl fun cdv A outer s H E EX hr hE m u c cm ck cx cmx nd => by
  exact (cc (sif m (tno (tp (jis (t := .str) bt_str Z.b_isinstance Z.b_str (jv 0)))) (cc (sra hE Y)
    c0) c0)
    (cc (sre m (jv 0))
    c0))
theorem okx_12 {k : Nat} {Cl : Addr} (T : TT K mg) (Z : Zt K mg) (Y : ExA K "NoText" Cl) (IH : IT P w base T k) (IX : XT P w base T Cl k) : OX P w base T Cl k 12 :=
  okx 12 (fn := f_read_saying) (N := ["names", "text", "saying"]) T IH IX rfl ⟨rfl, rfl, rfl, by decide +kernel, rfl, by decide +kernel, by decide +kernel⟩ rfl rfl rfl fun cdv A outer s H E EX hr hE m u c cm ck cx cmx nd => by
  exact (cc (sn (i := 2) m nd (jclx (cx 10 rfl rfl rfl) (ja (jclx (cx 11 rfl rfl rfl) (ja (jv 1) an)) an)))
    (cc (sif m (tno (tp (jcl (c 1 rfl rfl) (ja (jv 0) (ja (jv 2) an))))) (cc (sra hE Y)
    c0) c0)
    (cc (sre m (jv 2))
    c0)))
theorem ok_13 {k : Nat} (T : TT K mg) (Z : Zt K mg) (IH : IT P w base T k) : OT P w base T k 13 :=
  okw 13 (fn := f__law_cell_at) (N := ["_law_script", "_law_k"]) T IH rfl ⟨rfl, rfl, rfl, by decide +kernel, rfl, by decide +kernel, by decide +kernel⟩ rfl rfl rfl fun cdv A outer s H E hr m u c cm ck nd => by
  exact (cc (sif m (tcm (o := .lt) u (jv 1) (jfun bi_len_ok bt_len Z.b_len (ja (jv 0) an))) (cc (sre m (jix (jv 0) (jv 1)))
    c0) c0)
    (cc (sif m (tcm (o := .eq) u (jv 0) (jl an)) (cc (sre m ji)
    c0) c0)
    (cc (sre m (jbi (op := .add) (jbi (op := .mul) (jix (jv 0) (jbi (op := .mod) (jv 1) (jfun bi_len_ok bt_len Z.b_len (ja (jv 0) an)))) ji) (jv 1)))
    c0)))
theorem ok_14 {k : Nat} (T : TT K mg) (Z : Zt K mg) (IH : IT P w base T k) : OT P w base T k 14 :=
  okw 14 (fn := f__law_mixed) (N := ["_law_script", "_law_k", "_law_many", "_law_drawn"]) T IH rfl ⟨rfl, rfl, rfl, by decide +kernel, rfl, by decide +kernel, by decide +kernel⟩ rfl rfl rfl fun cdv A outer s H E hr m u c cm ck nd => by
  exact (cc (sn (i := 3) m nd (jbi (op := .mod) (jbi (op := .mul) (jbi (op := .add) (jbi (op := .add) (jcl (c 13 rfl rfl) (ja (jv 0) (ja (jv 1) an))) (jbi (op := .mul) ji (jv 1))) ji) ji) ji))
    (cc (sre m (jbi (op := .mod) (jbi (op := .mod) (jbi (op := .add) (jbi (op := .add) (jbi (op := .mul) (jv 3) (jv 3)) (jbi (op := .mul) ji (jv 3))) (jv 1)) ji) (jv 2)))
    c0))
theorem ok_15 {k : Nat} (T : TT K mg) (Z : Zt K mg) (IH : IT P w base T k) : OT P w base T k 15 :=
  okw 15 (fn := f__law_next) (N := ["_law_script", "_law_m", "_law_many"]) T IH rfl ⟨rfl, rfl, rfl, by decide +kernel, rfl, by decide +kernel, by decide +kernel⟩ rfl rfl rfl fun cdv A outer s H E hr m u c cm ck nd => by
  exact (cc (sg m (jbi (op := .add) (jix (jv 1) ji) ji) (gi (jv 1) ji))
    (cc (sre m (jcl (c 14 rfl rfl) (ja (jv 0) (ja (jix (jv 1) ji) (ja (jv 2) an)))))
    c0))
theorem ok_16 {k : Nat} (T : TT K mg) (Z : Zt K mg) (IH : IT P w base T k) : OT P w base T k 16 :=
  okw 16 (fn := f__law_saying) (N := ["_law_script", "_law_m", "_law_names_here", "_law_deep_here", "_law_left", "_law_way", "_law_one"]) T IH rfl ⟨rfl, rfl, rfl, by decide +kernel, rfl, by decide +kernel, by decide +kernel⟩ rfl rfl rfl fun cdv A outer s H E hr m u c cm ck nd => by
  exact (cc (sn (i := 5) m nd (jcl (c 15 rfl rfl) (ja (jv 0) (ja (jv 1) (ja ji an)))))
    (cc (sif m (wpt (wor m (tcm (o := .eq) u (jv 3) ji) (won (tcm (o := .lt) u (jv 5) ji)))) (cc (sre m (jt m (ja js (ja (jix (jv 2) (jcl (c 15 rfl rfl) (ja (jv 0) (ja (jv 1) (ja (jfun bi_len_ok bt_len Z.b_len (ja (jv 2) an)) an))))) an))))
    c0) c0)
    (cc (sif m (tcm (o := .eq) u (jv 5) ji) (cc (sre m (jt m (ja (jix (jl (ja js (ja js an))) (jcl (c 15 rfl rfl) (ja (jv 0) (ja (jv 1) (ja ji an))))) an)))
    c0) c0)
    (cc (sif m (wpt (wan m (tcm (o := .gt) u (jv 5) ji) (won (tcm (o := .gt) u (jix (jv 4) ji) ji)))) (cc (sg m (jbi (op := .sub) (jix (jv 4) ji) ji) (gi (jv 4) ji))
    (cc (sn (i := 6) m nd (jcl (c 16 rfl rfl) (ja (jv 0) (ja (jv 1) (ja (jv 2) (ja (jbi (op := .sub) (jv 3) ji) (ja (jv 4) an)))))))
    (cc (sif m (tcm (o := .eq) u (jv 5) ji) (cc (sre m (jt m (ja js (ja (jv 6) (ja (jcl (c 16 rfl rfl) (ja (jv 0) (ja (jv 1) (ja (jv 2) (ja (jbi (op := .sub) (jv 3) ji) (ja (jv 4) an)))))) an)))))
    c0) c0)
    (cc (sre m (jt m (ja (jix (jl (ja js (ja js (ja js an)))) (jbi (op := .sub) (jv 5) ji)) (ja (jv 6) an))))
    c0)))) c0)
    (cc (sn (i := 6) m nd (jcl (c 16 rfl rfl) (ja (jv 0) (ja (jv 1) (ja (jv 2) (ja (jbi (op := .sub) (jv 3) ji) (ja (jv 4) an)))))))
    (cc (sif m (wpt (wor m (tcm (o := .eq) u (jv 5) ji) (won (tcm (o := .gt) u (jv 5) ji)))) (cc (sre m (jt m (ja js (ja (jv 6) an))))
    c0) c0)
    (cc (sre m (jt m (ja (jix (jl (ja js (ja js (ja js (ja js an))))) (jbi (op := .sub) (jv 5) ji)) (ja (jv 6) (ja (jcl (c 16 rfl rfl) (ja (jv 0) (ja (jv 1) (ja (jv 2) (ja (jbi (op := .sub) (jv 3) ji) (ja (jv 4) an)))))) an)))))
    c0)))))))
theorem ok_17 {k : Nat} (T : TT K mg) (Z : Zt K mg) (IH : IT P w base T k) : OT P w base T k 17 :=
  okw 17 (fn := f__law_names) (N := ["_law_script", "_law_m", "_law_some", "_law_turn", "_law_row", "_law_foe", "_law_friend"]) T IH rfl ⟨rfl, rfl, rfl, by decide +kernel, rfl, by decide +kernel, by decide +kernel⟩ rfl rfl rfl fun cdv A outer s H E hr m u c cm ck nd => by
  exact (cc (sn (i := 2) m nd (jl (ja js (ja js (ja js (ja js (ja js (ja js (ja js (ja js an))))))))))
    (cc (sn (i := 3) m nd (jcl (c 15 rfl rfl) (ja (jv 0) (ja (jv 1) (ja ji an)))))
    (cc (sn (i := 4) m nd (jbi (op := .add) (jsl (jv 2) (os (jv 3)) on) (jsl (jv 2) on (os (jv 3)))))
    (cc (sn (i := 5) m nd (jbi (op := .add) ji (jcl (c 15 rfl rfl) (ja (jv 0) (ja (jv 1) (ja ji an))))))
    (cc (sn (i := 6) m nd (jbi (op := .add) ji (jcl (c 15 rfl rfl) (ja (jv 0) (ja (jv 1) (ja ji an))))))
    (cc (sre m (jt m (ja (jtyp bi_tuple_ok bt_tuple Z.b_tuple (ja (jsl (jv 4) on (os (jv 5))) an)) (ja (jtyp bi_tuple_ok bt_tuple Z.b_tuple (ja (jsl (jv 4) (os (jv 5)) (os (jbi (op := .add) (jv 5) (jv 6)))) an)) an))))
    c0))))))
theorem ok_18 {k : Nat} (T : TT K mg) (Z : Zt K mg) (IH : IT P w base T k) : OT P w base T k 18 :=
  okw 18 (fn := f__law_word) (N := ["_law_text_here", "_law_at", "_law_end"]) T IH rfl ⟨rfl, rfl, rfl, by decide +kernel, rfl, by decide +kernel, by decide +kernel⟩ rfl rfl rfl fun cdv A outer s H E hr m u c cm ck nd => by
  exact (cc (sn (i := 2) m nd (jv 1))
    (cc (sw m (wpt (wan m (tcm (o := .lt) u (jv 2) (jfun bi_len_ok bt_len Z.b_len (ja (jv 0) an))) (won (tcm (o := .in_) u (jix (jv 0) (jv 2)) js)))) (cc (sn (i := 2) m nd (jbi (op := .add) (jv 2) ji))
    c0))
    (cc (sre m (jsl (jv 0) (os (jv 1)) (os (jv 2))))
    c0)))
theorem ok_19 {k : Nat} (T : TT K mg) (Z : Zt K mg) (IH : IT P w base T k) : OT P w base T k 19 :=
  okw 19 (fn := f__law_parsed) (N := ["_law_text_here", "_law_at", "_law_names_here", "_law_one", "_law_word_here", "_law_end", "_law_other"]) T IH rfl ⟨rfl, rfl, rfl, by decide +kernel, rfl, by decide +kernel, by decide +kernel⟩ rfl rfl rfl fun cdv A outer s H E hr m u c cm ck nd => by
  exact (cc (sif m (tcm (o := .eq) u (jsl (jv 0) (os (jv 1)) (os (jbi (op := .add) (jv 1) ji))) js) (cc (sn (i := 3) m nd (jcl (c 19 rfl rfl) (ja (jv 0) (ja (jbi (op := .add) (jv 1) ji) (ja (jv 2) an)))))
    (cc (sif m (wpt (wor m (tcm (o := .is_) u (jv 3) jn) (won (tcm (o := .ne) u (jsl (jv 0) (os (jix (jv 3) ji)) (os (jbi (op := .add) (jix (jv 3) ji) ji))) js)))) (cc (sre m jn)
    c0) c0)
    (cc (sn (i := 4) m nd (jcl (c 18 rfl rfl) (ja (jv 0) (ja (jbi (op := .add) (jix (jv 3) ji) ji) an))))
    (cc (sn (i := 5) m nd (jbi (op := .add) (jbi (op := .add) (jix (jv 3) ji) ji) (jfun bi_len_ok bt_len Z.b_len (ja (jv 4) an))))
    (cc (sif m (wpt (wor m (tcm (o := .notin) u (jv 4) (jt m (ja js (ja js (ja js (ja js (ja js an))))))) (won (tcm (o := .ne) u (jsl (jv 0) (os (jv 5)) (os (jbi (op := .add) (jv 5) ji))) js)))) (cc (sre m jn)
    c0) c0)
    (cc (sn (i := 6) m nd (jcl (c 19 rfl rfl) (ja (jv 0) (ja (jbi (op := .add) (jv 5) ji) (ja (jv 2) an)))))
    (cc (sif m (wpt (wor m (tcm (o := .is_) u (jv 6) jn) (won (tcm (o := .ne) u (jsl (jv 0) (os (jix (jv 6) ji)) (os (jbi (op := .add) (jix (jv 6) ji) ji))) js)))) (cc (sre m jn)
    c0) c0)
    (cc (sre m (jt m (ja (jt m (ja (jv 4) (ja (jix (jv 3) ji) (ja (jix (jv 6) ji) an)))) (ja (jbi (op := .add) (jix (jv 6) ji) ji) an))))
    c0)))))))) c0)
    (cc (sn (i := 4) m nd (jcl (c 18 rfl rfl) (ja (jv 0) (ja (jv 1) an))))
    (cc (sif m (wpt (wan m (tcm (o := .in_) u (jv 4) (jt m (ja js (ja js (ja js (ja js an)))))) (won (tcm (o := .eq) u (jsl (jv 0) (os (jbi (op := .add) (jv 1) (jfun bi_len_ok bt_len Z.b_len (ja (jv 4) an)))) (os (jbi (op := .add) (jbi (op := .add) (jv 1) (jfun bi_len_ok bt_len Z.b_len (ja (jv 4) an))) ji))) js)))) (cc (sn (i := 3) m nd (jcl (c 19 rfl rfl) (ja (jv 0) (ja (jbi (op := .add) (jbi (op := .add) (jv 1) (jfun bi_len_ok bt_len Z.b_len (ja (jv 4) an))) ji) (ja (jv 2) an)))))
    (cc (sif m (tcm (o := .is_) u (jv 3) jn) (cc (sre m jn)
    c0) c0)
    (cc (sre m (jt m (ja (jt m (ja (jv 4) (ja (jix (jv 3) ji) an))) (ja (jix (jv 3) ji) an))))
    c0))) c0)
    (cc (sif m (wpt (wor m (tcm (o := .eq) u (jv 4) js) (won (tcm (o := .eq) u (jv 4) js)))) (cc (sre m (jt m (ja (jt m (ja (jv 4) an)) (ja (jbi (op := .add) (jv 1) (jfun bi_len_ok bt_len Z.b_len (ja (jv 4) an))) an))))
    c0) c0)
    (cc (sif m (tcm (o := .notin) u (jv 4) (jv 2)) (cc (sre m jn)
    c0) c0)
    (cc (sre m (jt m (ja (jt m (ja js (ja (jv 4) an))) (ja (jbi (op := .add) (jv 1) (jfun bi_len_ok bt_len Z.b_len (ja (jv 4) an))) an))))
    c0))))))
theorem ok_20 {k : Nat} (T : TT K mg) (Z : Zt K mg) (IH : IT P w base T k) : OT P w base T k 20 :=
  okw 20 (fn := f__law_deep) (N := ["_law_saying_here"]) T IH rfl ⟨rfl, rfl, rfl, by decide +kernel, rfl, by decide +kernel, by decide +kernel⟩ rfl rfl rfl fun cdv A outer s H E hr m u c cm ck nd => by
  exact (cc (sif m (tcm (o := .in_) u (jix (jv 0) ji) (jt m (ja js (ja js (ja js an))))) (cc (sre m ji)
    c0) c0)
    (cc (sre m (jbi (op := .add) ji (jfun (bi_max_ok hr.hd rfl) bt_max Z.b_max (ja (jco m (own := ["_law_part"]) (cn := []) (caps := []) (one := true) (csc (on := (defScope (stt 20)).names) (N := ["_law_saying_here"]) (by decide +kernel)) (iv (jsl (jv 0) (os ji) on)) (fun _ _ _ _ => (b1 (gn (show (["_law_part"] : List Str).Nodup by decide +kernel)))) (fun _ _ _ _ => qn) (fun _ _ _ _ => (jcl ((c 20 rfl rfl).inC) (ja (jv 0) an)))) an))))
    c0))
theorem ok_21 {k : Nat} (T : TT K mg) (Z : Zt K mg) (IH : IT P w base T k) : OT P w base T k 21 :=
  okw 21 (fn := f__law_saying_of) (N := ["_law_text_here", "_law_names_here", "_law_found"]) T IH rfl ⟨rfl, rfl, rfl, by decide +kernel, rfl, by decide +kernel, by decide +kernel⟩ rfl rfl rfl fun cdv A outer s H E hr m u c cm ck nd => by
  exact (cc (sn (i := 2) m nd (jcl (c 19 rfl rfl) (ja (jv 0) (ja ji (ja (jv 1) an)))))
    (cc (sif m (wpt (wor m (tcm (o := .is_) u (jv 2) jn) (wor m (tcm (o := .ne) u (jix (jv 2) ji) (jfun bi_len_ok bt_len Z.b_len (ja (jv 0) an))) (won (tcm (o := .gt) u (jcl (c 20 rfl rfl) (ja (jix (jv 2) ji) an)) ji))))) (cc (sre m jn)
    c0) c0)
    (cc (sre m (jix (jv 2) ji))
    c0)))
theorem ok_22 {k : Nat} (T : TT K mg) (Z : Zt K mg) (IH : IT P w base T k) : OT P w base T k 22 :=
  okw 22 (fn := f__law_text) (N := ["_law_saying_here"]) T IH rfl ⟨rfl, rfl, rfl, by decide +kernel, rfl, by decide +kernel, by decide +kernel⟩ rfl rfl rfl fun cdv A outer s H E hr m u c cm ck nd => by
  exact (cc (sif m (tcm (o := .eq) u (jix (jv 0) ji) js) (cc (sre m (jix (jv 0) ji))
    c0) c0)
    (cc (sif m (tcm (o := .eq) u (jfun bi_len_ok bt_len Z.b_len (ja (jv 0) an)) ji) (cc (sre m (jix (jv 0) ji))
    c0) c0)
    (cc (sif m (tcm (o := .eq) u (jfun bi_len_ok bt_len Z.b_len (ja (jv 0) an)) ji) (cc (sre m (jbi (op := .add) (jbi (op := .add) (jix (jv 0) ji) js) (jcl (c 22 rfl rfl) (ja (jix (jv 0) ji) an))))
    c0) c0)
    (cc (sre m (jbi (op := .add) (jbi (op := .add) (jbi (op := .add) (jbi (op := .add) (jbi (op := .add) (jbi (op := .add) js (jcl (c 22 rfl rfl) (ja (jix (jv 0) ji) an))) js) (jix (jv 0) ji)) js) (jcl (c 22 rfl rfl) (ja (jix (jv 0) ji) an))) js))
    c0))))
theorem ok_23 {k : Nat} (T : TT K mg) (Z : Zt K mg) (IH : IT P w base T k) : OT P w base T k 23 :=
  okw 23 (fn := f__law_spoilt) (N := ["_law_text_here", "_law_cell", "_law_more", "_law_at", "_law_sign", "_law_way", "_law_end"]) T IH rfl ⟨rfl, rfl, rfl, by decide +kernel, rfl, by decide +kernel, by decide +kernel⟩ rfl rfl rfl fun cdv A outer s H E hr m u c cm ck nd => by
  exact (cc (sn (i := 3) m nd (jbi (op := .mod) (jv 1) (jbi (op := .add) (jfun bi_len_ok bt_len Z.b_len (ja (jv 0) an)) ji)))
    (cc (sn (i := 4) m nd (jix js (jbi (op := .mod) (jbi (op := .fdiv) (jv 1) ji) ji)))
    (cc (sn (i := 5) m nd (jbi (op := .mod) (jbi (op := .fdiv) (jv 1) ji) ji))
    (cc (sif m (tcm (o := .eq) u (jv 5) ji) (cc (sre m (jbi (op := .add) (jbi (op := .add) (jsl (jv 0) on (os (jv 3))) (jv 4)) (jsl (jv 0) (os (jv 3)) on)))
    c0) c0)
    (cc (sif m (tcm (o := .eq) u (jv 5) ji) (cc (sre m (jbi (op := .add) (jsl (jv 0) on (os (jv 3))) (jsl (jv 0) (os (jbi (op := .add) (jv 3) ji)) on)))
    c0) c0)
    (cc (sif m (tcm (o := .eq) u (jv 5) ji) (cc (sre m (jbi (op := .add) (jbi (op := .add) (jsl (jv 0) on (os (jv 3))) (jv 4)) (jsl (jv 0) (os (jbi (op := .add) (jv 3) ji)) on)))
    c0) c0)
    (cc (sif m (tcm (o := .eq) u (jv 5) ji) (cc (sn (i := 6) m nd (jbi (op := .add) (jv 3) (jbi (op := .mod) (jbi (op := .fdiv) (jv 1) ji) ji)))
    (cc (sre m (jbi (op := .add) (jsl (jv 0) on (os (jv 3))) (jsl (jv 0) (os (jv 6)) on)))
    c0)) c0)
    (cc (sif m (tcm (o := .eq) u (jv 5) ji) (cc (sre m (jix (jl (ja (jbi (op := .add) (jv 0) (jv 0)) (ja (jbi (op := .add) (jsl (jv 0) (os (jv 3)) on) (jsl (jv 0) on (os (jv 3)))) (ja (jbi (op := .add) js (jv 0)) (ja (jbi (op := .add) (jv 0) js) an))))) (jbi (op := .mod) (jv 1) ji)))
    c0) c0)
    (cc (sre m (jix (jbi (op := .add) (jv 2) (jl (ja jn (ja ji (ja (jl (ja (jv 0) an)) (ja js an)))))) (jbi (op := .mod) (jv 1) (jbi (op := .add) (jfun bi_len_ok bt_len Z.b_len (ja (jv 2) an)) ji))))
    c0)))))))))
theorem hh31 (P : Post) (σ : St) (st : Store) (hl : 10 < σ.length) (h : wpSs noCall G.sub [.iff (.or_ (.not_ (.isi (.v 10) [.err 1])) (.or_ (.not_ (.isi (.v 10) [.err 0])) (.isi (.v 10) [.err 2]))) [.ret (.c (.bl false))] []] P (σ.set 10 (some (.exc xN))) st) : P.nx (σ.set 10 (some (.exc xN))) st := by
  have e : (σ.set 10 (some (.exc xN)))[10]? = some (some (.exc xN)) := List.getElem?_set_self hl
  simp only [wpSs, wpS, wpE, getV, e, isiW, isOne, truW] at h
  exact h
noncomputable abbrev N24 : List Str := ["_law_script", "_law_m", "_law_foe", "_law_friend", "_law_names_here", "_law_saying_here", "_law_text_here", "_law_more", "_law_due", "_law_answer", "e"]
theorem ok_24 {k : Nat} {Cl : Addr} (T : TT K mg) (Z : Zt K mg) (Y : ExA K "NoText" Cl) (W1 : ∃ a, mg "LossError" = some (.ref a) ∧ IsQ K Cl (.ref a) true) (W2 : mg "ValueError" = none ∧ IsQ K Cl (.type "ValueError") true) (W3 : ∃ a, mg "NoSaying" = some (.ref a) ∧ IsQ K Cl (.ref a) false) (yc : (PySem.W.clsIn K Cl).isSome = true) (IH : IT P w base T k) (IX : XT P w base T Cl k) : FnOk P w K mg base CX0 (2 * k + 1 + 1) (T.a 24) (T.fd 24) (pst 24) (sp0 K (wpFn G (k + 1)) 24) :=
  fn_ok0 (fn := f_law) (N := N24) (T.fn 24 (by decide)) ⟨rfl, rfl, rfl, by decide +kernel, rfl, by decide +kernel, by decide +kernel⟩ rfl rfl rfl fun cdv A outer s H E hr => by
  obtain ⟨a1, m1, q1⟩ := W1
  obtain ⟨m2, q2⟩ := W2
  obtain ⟨a3, m3, q3⟩ := W3
  have m := wpFn_mono G (Nat.le_refl k)
  have u := un180 hr
  have c := call_ok (X := (cxOf CX0 P w K mg base N24 (qnt 24) (defScope (stt 24)) (T.a 24) cdv A outer s H E).nox) T IH rfl rfl rfl rfl rfl hr
  have cm := meth_ok (X := (cxOf CX0 P w K mg base N24 (qnt 24) (defScope (stt 24)) (T.a 24) cdv A outer s H E).nox) T IH rfl rfl rfl rfl rfl hr
  have ck := @make_ok P w K mg base k T IH (cxOf CX0 P w K mg base N24 (qnt 24) (defScope (stt 24)) (T.a 24) cdv A outer s H E).nox rfl rfl rfl rfl rfl hr
  have nd : N24.Nodup := by decide +kernel
  have isi : ∀ (a : Addr) {n : Str} {u : Value} {v : V} {b : Bool} {p p1 p2 pos : Pos}, IsQ K Cl u b → RelV v u → (∀ u', RelV v u' → u' = u) → PE (mk (cxOf CX0 P w K mg base N24 (qnt 24) (defScope (stt 24)) (T.a 24) cdv A outer s H E).nox a) (.Name n p2) (tC v) →
      starEach [.Name "e" p1, .Name n p2] (envOfC (qnt 24) (defScope (stt 24)) s.heap.objs.size (T.a 24) cdv) = (false, eval (.Name "e" p1) (envOfC (qnt 24) (defScope (stt 24)) s.heap.objs.size (T.a 24) cdv)) :: starEach [.Name n p2] (envOfC (qnt 24) (defScope (stt 24)) s.heap.objs.size (T.a 24) cdv) →
      PE (mk (cxOf CX0 P w K mg base N24 (qnt 24) (defScope (stt 24)) (T.a 24) cdv A outer s H E).nox a) (.Call (.Name "isinstance" p) [.Name "e" p1, .Name n p2] [] pos) (isR 10 v Cl b) := fun a n u v b p p1 p2 pos q r ru hn hst =>
    pe_callB (call_xc Y.xc yc q r ru) (gl_of (by kernel_rfl)) Z.b_isinstance bt_isinstance (pa_cons (pv 10 (by kernel_rfl) (.inl (by kernel_rfl))) (pa_cons hn pa_nil) hst)
  exact (zc (JS.z (sn (i := 1) m nd (jl (ja ji an))))
    (zc (JS.z (sg m (jcl (c 17 rfl rfl) (ja (jv 0) (ja (jv 1) an))) (gt (gc (gn (i := 2) nd) (gc (gn (i := 3) nd) nn)))))
    (zc (JS.z (sn (i := 4) m nd (jbi (op := .add) (jv 2) (jv 3))))
    (zc (JS.z (sn (i := 5) m nd (jcl (c 16 rfl rfl) (ja (jv 0) (ja (jv 1) (ja (jv 4) (ja ji (ja (jl (ja ji an)) an))))))))
    (zc (JS.z (sn (i := 6) m nd (jcl (c 3 rfl rfl) (ja (jv 5) an))))
    (zc (JS.z (sif m (wpt (wor m (tno (tp (jis (t := .str) bt_str Z.b_isinstance Z.b_str (jv 6)))) (wor m (tcm (o := .ne) u (jv 6) (jcl (c 22 rfl rfl) (ja (jv 5) an))) (won (tcm (o := .ne) u (jcl (c 12 rfl rfl) (ja (jv 4) (ja (jv 6) an))) (jv 5)))))) (cc (sre m jb)
    c0) c0))
    (zc (JS.z (sn (i := 7) m nd (jl (ja (jbi (op := .add) (jbi (op := .mul) js ji) (jix (jv 4) ji)) (ja (jbi (op := .add) (jbi (op := .mul) js ji) (jix (jv 4) ji)) (ja js (ja js (ja js (ja js an)))))))))
    (zc (JS.z (sx m (jxt (jv 7) (ja (jl (ja js (ja js an))) an))))
    (zc (JS.z (sn (i := 6) m nd (jcl (c 23 rfl rfl) (ja (jv 6) (ja (jcl (c 14 rfl rfl) (ja (jv 0) (ja ji (ja (jbi (op := .pow) ji ji) an)))) (ja (jv 7) an))))))
    (zc (JS.z (sn (i := 8) m nd jn))
    (zc (JS.z (sif m (tp (jis (t := .str) bt_str Z.b_isinstance Z.b_str (jv 6))) (cc (sn (i := 8) m nd (jcl (c 21 rfl rfl) (ja (jv 6) (ja (jv 4) an))))
    c0) c0))
    (zc (JS.z (sn (i := 9) m nd jn))
    (zc ⟨s_tryA (fun _ _ z => z) rfl rfl nd (IX 12 rfl) (hr.mono (by omega)) (gl_of (by kernel_rfl)) (T.mg 12 (by decide)) (T.fn 12 (by decide)).kp (T.bi 12 (by decide)) (fun _ => ((ja (jv 4) (ja (jv 6) an))).h) Y (gl_of (by kernel_rfl)) rfl (by kernel_rfl) rfl (by kernel_rfl) (fun a => suite3 (isi a (v := .ref a1) q1 rfl (fun _ z => z) (pe_glob (gl_of (by kernel_rfl)) m1 rfl) rfl) (isi a (v := .ty "ValueError") q2 rfl (fun _ z => z) (pe_bltn (gl_of (by kernel_rfl)) m2 bt_ValueError rfl) rfl) (isi a (v := .ref a3) q3 rfl (fun _ z => z) (pe_glob (gl_of (by kernel_rfl)) m3 rfl) rfl)) rfl hh31 (by decide) (by decide) rfl rfl (by kernel_rfl)⟩
    (zc (JS.z (sre m (jcm (o := .eq) u (jv 9) (jv 8))))
    z0))))))))))))))
theorem oks {k : Nat} {Cl : Addr} (T : TT K mg) (Z : Zt K mg) (Y : ExA K "NoText" Cl) (IH : IT P w base T k) (IX : XT P w base T Cl k) : ∀ i, i < 25 → i ≠ 24 → OT P w base T k i
  | 0, _, _ => ok_0 T Z IH
  | 1, _, _ => ok_1 T Z IH
  | 2, _, _ => ok_2 T Z IH
  | 3, _, _ => ok_3 T Z IH
  | 4, _, _ => ok_4 T Z IH
  | 5, _, _ => ok_5 T Z IH
  | 6, _, _ => FnOk.calm (okx_6 T Z Y IH IX)
  | 7, _, _ => ok_7 T Z IH
  | 8, _, _ => FnOk.calm (okx_8 T Z Y IH IX)
  | 9, _, _ => FnOk.calm (okx_9 T Z Y IH IX)
  | 10, _, _ => FnOk.calm (okx_10 T Z Y IH IX)
  | 11, _, _ => FnOk.calm (okx_11 T Z Y IH IX)
  | 12, _, _ => FnOk.calm (okx_12 T Z Y IH IX)
  | 13, _, _ => ok_13 T Z IH
  | 14, _, _ => ok_14 T Z IH
  | 15, _, _ => ok_15 T Z IH
  | 16, _, _ => ok_16 T Z IH
  | 17, _, _ => ok_17 T Z IH
  | 18, _, _ => ok_18 T Z IH
  | 19, _, _ => ok_19 T Z IH
  | 20, _, _ => ok_20 T Z IH
  | 21, _, _ => ok_21 T Z IH
  | 22, _, _ => ok_22 T Z IH
  | 23, _, _ => ok_23 T Z IH
  | 24, _, h => absurd rfl h
  | n + 25, h, _ => absurd h (by omega)
theorem okxs {k : Nat} {Cl : Addr} (T : TT K mg) (Z : Zt K mg) (Y : ExA K "NoText" Cl) (IH : IT P w base T k) (IX : XT P w base T Cl k) : ∀ i, rst i = true → OX P w base T Cl k i := by
  intro i h
  unfold rst at h
  split at h
  · exact okx_6 T Z Y IH IX
  · exact okx_8 T Z Y IH IX
  · exact okx_9 T Z Y IH IX
  · exact okx_10 T Z Y IH IX
  · exact okx_11 T Z Y IH IX
  · exact okx_12 T Z Y IH IX
  · cases h
theorem all31 {Cl : Addr} (T : TT K mg) (Z : Zt K mg) (Y : ExA K "NoText" Cl) : ∀ k, (∀ i, i < 25 → i ≠ 24 → FnOk P w K mg base CX0 (2 * k) (T.a i) (T.fd i) (pst i) (spOf K (wpFn G k) i)) ∧ XT P w base T Cl k
  | 0 => ⟨fun _ _ _ => fn_zero, fun _ _ => fn_zeroX⟩
  | k + 1 => let h := all31 T Z Y k; ⟨oks T Z Y h.1 h.2, okxs T Z Y h.1 h.2⟩
end
theorem hlaw : ∀ ns : List Int, ns.length ≤ 63 → wpFn G 100 i_law [.mlst (ns.map .int)] (fun _ => none) (fun d _ => d = .bl true) fun _ _ => False := fun ns _ =>
  law31 (G := G) (il := i_law) (inm := i__law_names) (is := i__law_saying) (ist := i_saying_text) (ilt := i__law_text) (ire := i_read_saying) (isp := i__law_spoilt) (im := i__law_mixed) (iso := i__law_saying_of) (inx := i__law_next) (ic := i__law_cell_at) (iwh := i_whole_saying) (ict := i_checked_text) (iy := i_is_saying) (isw := i_is_saying_within) (isn := i_is_name) (iri := i_Reader___init__) (ig := i_Reader_goes_past) (ine := i_Reader_needs) (iwo := i_Reader_word_here) (ij := i_joined_saying) (ins := i_next_saying) (ip := i__law_parsed) (iw := i__law_word) (ide := i__law_deep) rfl rfl rfl rfl rfl rfl rfl rfl ⟨rfl, rfl, rfl, rfl, rfl, rfl, rfl, ⟨rfl, rfl, rfl, rfl, rfl⟩⟩ rfl rfl rfl rfl rfl rfl rfl rfl rfl ns fun _ => rfl
theorem ln1 {α : Type} {P : List α → Prop} (h : ∀ a0, P [a0]) : ∀ us : List α, us.length = 1 → P us
  | [a0], _ => h a0
theorem ln2 {α : Type} {P : List α → Prop} (h : ∀ a0 a1, P [a0, a1]) : ∀ us : List α, us.length = 2 → P us
  | [a0, a1], _ => h a0 a1
theorem ln3 {α : Type} {P : List α → Prop} (h : ∀ a0 a1 a2, P [a0, a1, a2]) : ∀ us : List α, us.length = 3 → P us
  | [a0, a1, a2], _ => h a0 a1 a2
theorem ln4 {α : Type} {P : List α → Prop} (h : ∀ a0 a1 a2 a3, P [a0, a1, a2, a3]) : ∀ us : List α, us.length = 4 → P us
  | [a0, a1, a2, a3], _ => h a0 a1 a2 a3
theorem ln5 {α : Type} {P : List α → Prop} (h : ∀ a0 a1 a2 a3 a4, P [a0, a1, a2, a3, a4]) : ∀ us : List α, us.length = 5 → P us
  | [a0, a1, a2, a3, a4], _ => h a0 a1 a2 a3 a4
theorem bqs : ∀ i, i < 25 → BindEq2 (nmt i) (qnt i) (pst i) (stt i)
  | 0, _ => fun _ _ _ _ _ _ => ln1 fun _ => rfl
  | 1, _ => fun _ _ _ _ _ _ => ln2 fun _ _ => rfl
  | 2, _ => fun _ _ _ _ _ _ => ln3 fun _ _ _ => rfl
  | 3, _ => fun _ _ _ _ _ _ => ln1 fun _ => rfl
  | 4, _ => fun _ _ _ _ _ _ => ln2 fun _ _ => rfl
  | 5, _ => fun _ _ _ _ _ _ => ln2 fun _ _ => rfl
  | 6, _ => fun _ _ _ _ _ _ => ln2 fun _ _ => rfl
  | 7, _ => fun _ _ _ _ _ _ => ln1 fun _ => rfl
  | 8, _ => fun _ _ _ _ _ _ => ln2 fun _ _ => rfl
  | 9, _ => fun _ _ _ _ _ _ => ln2 fun _ _ => rfl
  | 10, _ => fun _ _ _ _ _ _ => ln1 fun _ => rfl
  | 11, _ => fun _ _ _ _ _ _ => ln1 fun _ => rfl
  | 12, _ => fun _ _ _ _ _ _ => ln2 fun _ _ => rfl
  | 13, _ => fun _ _ _ _ _ _ => ln2 fun _ _ => rfl
  | 14, _ => fun _ _ _ _ _ _ => ln3 fun _ _ _ => rfl
  | 15, _ => fun _ _ _ _ _ _ => ln3 fun _ _ _ => rfl
  | 16, _ => fun _ _ _ _ _ _ => ln5 fun _ _ _ _ _ => rfl
  | 17, _ => fun _ _ _ _ _ _ => ln2 fun _ _ => rfl
  | 18, _ => fun _ _ _ _ _ _ => ln2 fun _ _ => rfl
  | 19, _ => fun _ _ _ _ _ _ => ln3 fun _ _ _ => rfl
  | 20, _ => fun _ _ _ _ _ _ => ln1 fun _ => rfl
  | 21, _ => fun _ _ _ _ _ _ => ln2 fun _ _ => rfl
  | 22, _ => fun _ _ _ _ _ _ => ln1 fun _ => rfl
  | 23, _ => fun _ _ _ _ _ _ => ln3 fun _ _ _ => rfl
  | 24, _ => fun _ _ _ _ _ _ => ln1 fun _ => rfl
  | n + 25, h => absurd h (by omega)
noncomputable abbrev FF (K : PySem.W.Frag) (mg : Str → Option Value) (i : Nat) := FTop2 K mg (nmt i) (qnt i) (stt i) (att i)
theorem fts {K : PySem.W.Frag} {mg : Str → Option Value} (F0 : FF K mg 0) (F1 : FF K mg 1) (F2 : FF K mg 2) (F3 : FF K mg 3) (F4 : FF K mg 4) (F5 : FF K mg 5) (F6 : FF K mg 6) (F7 : FF K mg 7) (F8 : FF K mg 8) (F9 : FF K mg 9) (F10 : FF K mg 10) (F11 : FF K mg 11) (F12 : FF K mg 12) (F13 : FF K mg 13) (F14 : FF K mg 14) (F15 : FF K mg 15) (F16 : FF K mg 16) (F17 : FF K mg 17) (F18 : FF K mg 18) (F19 : FF K mg 19) (F20 : FF K mg 20) (F21 : FF K mg 21) (F22 : FF K mg 22) (F23 : FF K mg 23) (F24 : FF K mg 24) : ∀ i, i < 25 → FTop2 K mg (nmt i) (qnt i) (stt i) (att i)
  | 0, _ => F0
  | 1, _ => F1
  | 2, _ => F2
  | 3, _ => F3
  | 4, _ => F4
  | 5, _ => F5
  | 6, _ => F6
  | 7, _ => F7
  | 8, _ => F8
  | 9, _ => F9
  | 10, _ => F10
  | 11, _ => F11
  | 12, _ => F12
  | 13, _ => F13
  | 14, _ => F14
  | 15, _ => F15
  | 16, _ => F16
  | 17, _ => F17
  | 18, _ => F18
  | 19, _ => F19
  | 20, _ => F20
  | 21, _ => F21
  | 22, _ => F22
  | 23, _ => F23
  | 24, _ => F24
  | n + 25, h => absurd h (by omega)
theorem xn_ok {K : PySem.W.Frag} {h : Heap} {mg : Str → Option Value} (X : K.In h) (G : h.Ns mainGlobals mg) {C L B : Addr} (ns : PySem.W.nsIn K mainGlobals "NoText" = some (some (.ref C))) (ex : PySem.W.excIn K C bmV "ValueError.__new__" = true)
    (ga : PySem.W.findIn K (.ref C) "__getattribute__" = some (some (.builtin "BaseException.__getattribute__"))) (gt : PySem.W.findIn K (.ref C) "__getattr__" = some none) (cl : PySem.W.findIn K (.ref C) "__class__" = some (some (.builtin "object.__class__")))
    (ob : PySem.W.mroIn K C (.type "object") = some true) (be : PySem.W.mroIn K C (.type "BaseException") = some true) (yc : PySem.W.isClsIn K C = true)
    (nl : PySem.W.nsIn K mainGlobals "LossError" = some (some (.ref L))) (l1 : PySem.W.isClsIn K L = true) (l2 : PySem.W.typeIn K (.ref L) = some (.type "type")) (l3 : PySem.W.mroIn K C (.ref L) = some true) (l4 : Nat.beq C L = false)
    (nv : PySem.W.nsIn K mainGlobals "ValueError" = some none) (v1 : PySem.W.mroIn K C (.type "ValueError") = some true)
    (nb : PySem.W.nsIn K mainGlobals "NoSaying" = some (some (.ref B))) (b1 : PySem.W.isClsIn K B = true) (b2 : PySem.W.typeIn K (.ref B) = some (.type "type")) (b3 : PySem.W.mroIn K C (.ref B) = some false) (b4 : Nat.beq C B = false) : XN K mg :=
  ⟨C, ⟨ns, ex, ga, gt, cl, ob, be⟩, ⟨L, PySem.W.mg_of X G nl, isq_ref l1 l2 l3 l4⟩, ⟨PySem.W.mg_none_of X G nv, isq_val v1⟩, ⟨B, PySem.W.mg_of X G nb, isq_ref b1 b2 b3 b4⟩, yc⟩
theorem all_mk {P : Program} {w : World} {K : PySem.W.Frag} {mg : Str → Option Value} {fa : Addr} (hfa : mg "law" = some (.ref fa)) (Z : Zt K mg) (F : ∀ i, i < 25 → FTop2 K mg (nmt i) (qnt i) (stt i) (att i)) :
    ∃ fd : FuncData, (∀ (s : Shared) (u : Value), BindsTo s fd ⟨[u], []⟩ [("_law_script", u)]) ∧ ∀ base : Heap, K.In base → base.Ns mainGlobals mg → FnOk P w K mg base CX0 (2 * 100) fa fd ["_law_script"] (sp0 K (wpFn G 100) 24) := by
  obtain ⟨_, d, _⟩ := F 0 (by decide)
  obtain ⟨Cl, Y, W1, W2, W3, yc⟩ := Z.x_exc
  obtain ⟨T⟩ := top_of2 25 bqs F d
  have e := hfa.symm.trans (show mg "law" = some (.ref (T.a 24)) from T.mg 24 (by decide))
  cases e
  exact ⟨T.fd 24, binds_one2 (T.fn 24 (by decide)) (bqs 24 (by decide)), fun base _ _ => ok_24 (k := 99) T Z Y W1 W2 W3 yc (all31 T Z Y 99).1 (all31 T Z Y 99).2⟩
end L3
open PySem PySem.W PyProof.Rows
local macro_rules | `(tactic| walk_at "ft") => `(tactic| (refine' L3.ftop2 (by assumption) (by assumption) ?a ?l ?c ?k; (case a => k_is); (case l => k_is); (case c => k_is); (case k => k_is)))
local macro_rules | `(tactic| walk_at "fi") => `(tactic| (refine' L3.finit (by assumption) (by assumption) ?cl ?mk ?kp ?a ?fn ?l ?cc ?k; (case cl => k_is); (case mk => k_is); (case kp => k_is); (case a => k_is); (case fn => k_is); (case l => k_is); (case cc => k_is); (case k => k_is)))
local macro_rules | `(tactic| walk_at "fm") => `(tactic| (refine' L3.fmeth (by assumption) (by assumption) ?cl ?pg ?hd ?po ?sa ?a ?fn ?l ?cc ?k; (case cl => k_is); (case pg => k_is); (case hd => k_is); (case po => k_is); (case sa => k_is); (case a => k_is); (case fn => k_is); (case l => k_is); (case cc => k_is); (case k => k_is)))
local macro_rules | `(tactic| walk_at "fc") => `(tactic| (refine' L3.cls_ok ?cl ?pg ?hd ?po ?sa; (case cl => k_is); (case pg => k_is); (case hd => k_is); (case po => k_is); (case sa => k_is)))
local macro_rules | `(tactic| walk_at "fa") => `(tactic| (refine' L3.noa_ok ?cl ?na; (case cl => k_is); (case na => k_is)))
local macro_rules | `(tactic| walk_at "fn") => `(tactic| (refine' PySem.W.mg_none_of (by assumption) (by assumption) ?x; (case x => k_is)))
local macro_rules | `(tactic| walk_at "fg") => `(tactic| (refine' L3.gc_int (by assumption) (by assumption) ?a; (case a => k_is)))
namespace PySem.W.Fast
def tw16149146726179284341:Unit:=()
def tw9717743789721856796:Unit:=()
def tw6132357608796925328:Unit:=()
def tw16532737096089521983:Unit:=()
def tw7912563766168301128:Unit:=()
def tw10207910604991599286:Unit:=()
def tw7993066385449771502:Unit:=()
def tw21688545611601247:Unit:=()
def tw16121552984436112404:Unit:=()
def tw18205714899084806995:Unit:=()
def tw15771621195410597833:Unit:=()
def tw5751371394687866034:Unit:=()
def tw5946757785792188831:Unit:=()
def tw2649883935892597299:Unit:=()
def tw12877389603931409825:Unit:=()
def tw14455589157662770011:Unit:=()
def tw13018739256563578521:Unit:=()
def tw12958677262885293733:Unit:=()
def tw4039044609697582935:Unit:=()
def tw2069703257497340524:Unit:=()
def tw3337228603204785477:Unit:=()
def tw12735797293656033742:Unit:=()
def tw12568911264912896832:Unit:=()
def tw8205729548278014073:Unit:=()
def tw9876150493345865448:Unit:=()
def tw396642629019561542:Unit:=()
def tw8810813689731275776:Unit:=()
def tw15694770325634933976:Unit:=()
def tw9136483736606679428:Unit:=()
def tw3214729557317841755:Unit:=()
def tw13326840464054828718:Unit:=()
def tw17134680820385982612:Unit:=()
def tw5378617226946796236:Unit:=()
def tw9580033751333345094:Unit:=()
def tw10395716694096015441:Unit:=()
def tw16578175375547071342:Unit:=()
def tw13519179278228682394:Unit:=()
def tw12965553771197984724:Unit:=()
def tw2540650830109015362:Unit:=()
def tw12955360343230985371:Unit:=()
def tw3542017217142556426:Unit:=()
def tw14547429563333156959:Unit:=()
def tw10679727933218934240:Unit:=()
def tw13206605970571218941:Unit:=()
def tw4183971028433321568:Unit:=()
def tw16935468795473150929:Unit:=()
def tw13649639987058830068:Unit:=()
def tw1732511714262291378:Unit:=()
def tw8240360676313857870:Unit:=()
def tw15489773804234948816:Unit:=()
def tw9636525533048693777:Unit:=()
def tw10045090326639608259:Unit:=()
def tw2196881457323232639:Unit:=()
def tw15985540567640783572:Unit:=()
def tw10956228078928060654:Unit:=()
end PySem.W.Fast
set_option maxRecDepth 100000 in
set_option maxHeartbeats 0 in
theorem PySem.Challenge.cw_leastloss_k31_saying_texts_holds : PySem.Challenge.rw_leastloss_k31_saying_texts.Holds := by
  w_on; o_law; k_head; (case hw => w_witness2)
  k_fill
  refine L3.walkL0 (l := PySem.Challenge.rw_leastloss_k31_saying_texts) (x := "_law_script") (r := 2 * 100) (k := 100) (f := 24) (G := L3.G) ⟨rfl, by decide, by decide⟩ L3.hlaw rfl rfl (fun w h Y => PySem.W.kIn_of Y) ?F
  case F =>
    intro w mg fa h KX G hmg
    refine L3.all_mk hmg ?Z (L3.fts ?F0 ?F1 ?F2 ?F3 ?F4 ?F5 ?F6 ?F7 ?F8 ?F9 ?F10 ?F11 ?F12 ?F13 ?F14 ?F15 ?F16 ?F17 ?F18 ?F19 ?F20 ?F21 ?F22 ?F23 ?F24)
    case Z =>
      refine ⟨?x_exc, ?b_isinstance, ?b_str, ?b_len, ?b_all, ?b_tuple, ?b_max, ?g_NO_NAMES, ?g_LONGEST_NAME, ?g_LETTERS, ?g_DEEPEST, ?g_SAYINGS_WITHIN, ?c_Reader, ?a_Reader_text, ?a_Reader_at⟩
      case x_exc => refine' L3.xn_ok KX G ?xxns ?xxex ?xxga ?xxgt ?xxcl ?xxob ?xxbe ?xxyc ?xxnl ?xxl1 ?xxl2 ?xxl3 ?xxl4 ?xxnv ?xxv1 ?xxnb ?xxb1 ?xxb2 ?xxb3 ?xxb4; (case xxns => k_is); (case xxex => k_exc); (case xxga => k_is); (case xxgt => k_is); (case xxcl => k_is); (case xxob => k_is); (case xxbe => k_is); (case xxyc => k_is); (case xxnl => k_is); (case xxl1 => k_is); (case xxl2 => k_is); (case xxl3 => k_is); (case xxl4 => rfl); (case xxnv => k_is); (case xxv1 => k_is); (case xxnb => k_is); (case xxb1 => k_is); (case xxb2 => k_is); (case xxb3 => k_is); (case xxb4 => rfl)
      case b_isinstance => walk_at "fn"
      case b_str => walk_at "fn"
      case b_len => walk_at "fn"
      case b_all => walk_at "fn"
      case b_tuple => walk_at "fn"
      case b_max => walk_at "fn"
      case g_NO_NAMES => refine' L3.gc_tup KX G ?NO_NAMESa ?NO_NAMESl ?NO_NAMESf ?NO_NAMESz; (case NO_NAMESa => k_is); (case NO_NAMESl => k_is); (case NO_NAMESf => kernel_rfl); (case NO_NAMESz => kernel_rfl)
      case g_LONGEST_NAME => walk_at "fg"
      case g_LETTERS => refine' L3.gc_str KX G ?LETTERSa ?LETTERSe; (case LETTERSa => k_is); (case LETTERSe => rfl)
      case g_DEEPEST => walk_at "fg"
      case g_SAYINGS_WITHIN => refine' L3.gc_dic KX G ?SAYINGS_WITHINa ?SAYINGS_WITHINl ?SAYINGS_WITHINf; (case SAYINGS_WITHINa => k_is); (case SAYINGS_WITHINl => k_is); (case SAYINGS_WITHINf => kernel_rfl)
      case c_Reader => walk_at "fc"
      case a_Reader_text => walk_at "fa"
      case a_Reader_at => walk_at "fa"
    case F0 => walk_at "ft"
    case F1 => walk_at "ft"
    case F2 => walk_at "ft"
    case F3 => walk_at "ft"
    case F4 => walk_at "fi"
    case F5 => walk_at "fm"
    case F6 => walk_at "fm"
    case F7 => walk_at "fm"
    case F8 => walk_at "ft"
    case F9 => walk_at "ft"
    case F10 => walk_at "ft"
    case F11 => walk_at "ft"
    case F12 => walk_at "ft"
    case F13 => walk_at "ft"
    case F14 => walk_at "ft"
    case F15 => walk_at "ft"
    case F16 => walk_at "ft"
    case F17 => walk_at "ft"
    case F18 => walk_at "ft"
    case F19 => walk_at "ft"
    case F20 => walk_at "ft"
    case F21 => walk_at "ft"
    case F22 => walk_at "ft"
    case F23 => walk_at "ft"
    case F24 => walk_at "ft"
