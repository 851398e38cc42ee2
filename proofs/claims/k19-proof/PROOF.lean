import PyProof.Rows.All
import Wide.All
import OpenK.AllK
import Wide.FinOn
import Lean
import PyProof.EqAt
import PyProof.EqKinds
import PyProof.TupleCall
import PySem.Challenge.RW_leastloss_k19_run
set_option Elab.async false
set_option tactic.hygienic false
set_option genSizeOf false
set_option bootstrap.genMatcherCode false
set_option compiler.extract_closed false
set_option linter.all false
set_option maxRecDepth 100000
set_option maxHeartbeats 4000000
theorem OM.i1 {i : Int} (h : 0 ≤ i) : 0 ≤ i + 1 := by omega
theorem OM.ip {i : Int} (h : 0 ≤ i) : 0 < i + 1 := by omega
theorem OM.is {i j : Int} (h : j ≤ i) : 0 ≤ i - j := by omega
theorem OM.z {n m : Nat} (h : n ≤ m) : 0 + n ≤ m := by omega
theorem OM.n1 {n : Nat} : 0 < n + 1 := by omega
theorem OM.c {n : Nat} {i : Int} (h : (n : Int) + 1 ≤ i) : (n : Int) ≤ i - 1 := by omega
theorem OM.nl {d : Int} (h : 1 ≤ d) : ¬ d < 1 := by omega
theorem OM.w3 {w : Int} (h : 0 ≤ w) (h' : w < 3) : w = 0 ∨ w = 1 ∨ w = 2 := by omega
theorem OM.s1 {a b c : Nat} (h : a + b ≤ c) : a ≤ c := by omega
theorem OM.s2 {a b c : Nat} (h : a + b ≤ c) : b ≤ c := by omega
theorem OM.p1 {a b : Nat} (h : a + 1 ≤ b + 1) : a ≤ b := by omega
theorem OM.i2 {i : Int} (h : 0 ≤ i) : 0 ≤ i + 1 + 1 := by omega
local macro_rules | `(tactic| walk_at "wd") => `(tactic| (first | rw [if_pos (by decide +kernel)] | rw [if_neg (by decide +kernel)]))
local macro_rules | `(tactic| walk_at "om") => do
  let a ← ("OM.i1 OM.i2 OM.ip OM.is OM.nl OM.c OM.p1 OM.s1 OM.s2".splitOn " ").toArray.mapM fun s => `(Lean.Parser.Tactic.tacticSeq| exact $(Lean.mkIdent s.toName) (by assumption))
  let b ← ("Nat.le_trans Nat.lt_of_le_of_lt".splitOn " ").toArray.mapM fun s => `(Lean.Parser.Tactic.tacticSeq| exact $(Lean.mkIdent s.toName) (by assumption) (by decide))
  `(tactic| first | assumption | decide | (first $[| $a]*) | (first $[| $b]*) | exact OM.w3 (by assumption) (by assumption) | exact OM.z (Nat.le_trans (by assumption) (by decide)) | exact Nat.le_trans (Nat.add_le_add (by assumption) (by assumption)) (by decide) | exact OM.n1 | exact Nat.succ_ne_zero _ | omega)
section
namespace L2
open PySem PySem.Spec PyProof.Rows
noncomputable abbrev Key := Sum Int Str
noncomputable def keyIs : Key → Value → Bool
  | .inl k, v => Value.isInt k v
  | .inr x, v => Value.isStrOf x v
noncomputable def keyH (w : World) : Key → Int
  | .inl k => hashInt k
  | .inr x => hashStr w x
theorem keyIs_shape : ∀ {k : Key} {v : Value}, keyIs k v = true → (∃ i t, k = Sum.inl i ∧ v = Value.int i t) ∨ (∃ x t, k = Sum.inr x ∧ v = Value.str x t)
  | .inl i, v, h => by
    obtain ⟨t, e⟩ := Value.isInt_shape (k := i) (v := v) h
    exact .inl ⟨i, t, rfl, e⟩
  | .inr x, v, h => by
    obtain ⟨t, e⟩ := Value.isStrOf_shape (x := x) (v := v) h
    exact .inr ⟨x, t, rfl, e⟩
theorem key_ll (a b : Int) : decide ((Sum.inl a : Key) = Sum.inl b) = (a == b) := by
  by_cases e : a = b
  · subst e; simp
  · have h : ¬ (Sum.inl a : Key) = Sum.inl b := fun q => e (Sum.inl.inj q)
    rw [decide_eq_false h]
    exact (beq_eq_false_iff_ne.mpr e).symm
theorem key_rr (a b : Str) : decide ((Sum.inr a : Key) = Sum.inr b) = decide (a = b) := by
  by_cases e : a = b
  · subst e; simp
  · have h : ¬ (Sum.inr a : Key) = Sum.inr b := fun q => e (Sum.inr.inj q)
    rw [decide_eq_false h, decide_eq_false e]
theorem key_lr (a : Int) (b : Str) : decide ((Sum.inl a : Key) = Sum.inr b) = false := decide_eq_false (fun q => nomatch q)
theorem key_rl (a : Str) (b : Int) : decide ((Sum.inr a : Key) = Sum.inl b) = false := decide_eq_false (fun q => nomatch q)
noncomputable def mixKind (prog : Program) (w : World) : PySem.KeyKind prog w Key where
  is := keyIs
  hash := keyH w
  inj := fun v a b ha hb => by
    rcases keyIs_shape ha with ⟨i, t, rfl, rfl⟩ | ⟨x, t, rfl, rfl⟩
    · rcases keyIs_shape hb with ⟨j, u, rfl, e⟩ | ⟨y, u, rfl, e⟩
      · injection e with e1 _; rw [e1]
      · exact nomatch e
    · rcases keyIs_shape hb with ⟨j, u, rfl, e⟩ | ⟨y, u, rfl, e⟩
      · exact nomatch e
      · injection e with e1 _; rw [e1]
  byValue := fun k v h => by
    rcases keyIs_shape h with ⟨i, t, rfl, rfl⟩ | ⟨x, t, rfl, rfl⟩ <;> rfl
  pyHash := fun hv h => by
    rcases keyIs_shape hv with ⟨i, t, rfl, rfl⟩ | ⟨x, t, rfl, rfl⟩
    · exact wpAny_pyHash_int h
    · exact wpAny_pyHash_str h
  eqBool := fun hu hv h => by
    rcases keyIs_shape hu with ⟨i, t, rfl, rfl⟩ | ⟨x, t, rfl, rfl⟩
    · rcases keyIs_shape hv with ⟨j, u, rfl, rfl⟩ | ⟨y, u, rfl, rfl⟩
      · rw [key_ll] at h; exact wpAny_eqBool_int h
      · rw [key_lr] at h; exact SeqAt.EqAt.int_str i t y u _ _ _ _ h
    · rcases keyIs_shape hv with ⟨j, u, rfl, rfl⟩ | ⟨y, u, rfl, rfl⟩
      · rw [key_rl] at h; exact SeqAt.EqAt.str_int x t j u _ _ _ _ h
      · rw [key_rr] at h; exact wpAny_eqBool_str h
  «strs» := fun k x t v h => by
    rcases keyIs_shape h with ⟨i, u, rfl, e⟩ | ⟨y, u, rfl, e⟩
    · exact nomatch e
    · injection e with e1 _
      subst e1
      cases v <;> rfl
end L2
namespace L2
open PySem PySem.Spec PyProof.Rows
inductive V where
  | non | bl (b : Bool) | int (i : Int) | str (x : Str) | byt (b : Array UInt8) | flt (b : UInt64) | ref (a : Addr) | ty (n : String)
  deriving DecidableEq
noncomputable def RelV : V → Value → Prop
  | .non, u => u = Value.none
  | .bl b, u => u = Value.bool b
  | .int i, u => ∃ t, u = Value.int i t
  | .str x, u => ∃ t, u = Value.str x t
  | .byt b, u => ∃ t, u = Value.bytes b t
  | .flt b, u => ∃ t, u = Value.float b t
  | .ref a, u => u = Value.ref a
  | .ty n, u => u = Value.type n
noncomputable abbrev Vals : List V → List Value → Prop := Paired RelV
theorem Vals.length {xs : List V} {us : List Value} (r : Vals xs us) : xs.length = us.length := Paired.length r
theorem Vals.get : ∀ {xs : List V} {us : List Value} {i : Nat} {x : V}, Vals xs us → xs[i]? = some x → ∃ u, us[i]? = some u ∧ RelV x u
  | _, _, _, _, .nil, e => by simp at e
  | _, _, 0, _, .cons r _, e => by simp at e; subst e; exact ⟨_, rfl, r⟩
  | _, _, i + 1, x, .cons _ t, e => by
    obtain ⟨u, h1, h2⟩ := Vals.get (i := i) (x := x) t (by simpa using e)
    exact ⟨u, by simpa using h1, h2⟩
theorem Vals.set {x : V} {u : Value} (r : RelV x u) : ∀ {xs : List V} {us : List Value} (i : Nat), Vals xs us → Vals (xs.set i x) (us.set i u)
  | _, _, _, .nil => .nil
  | _, _, 0, .cons _ t => .cons r t
  | _, _, i + 1, .cons q t => .cons q (Vals.set r i t)
theorem Vals.append {xs ys : List V} {us ws : List Value} (h : Vals xs us) (s : Vals ys ws) : Vals (xs ++ ys) (us ++ ws) := by
  induction h with
  | nil => exact s
  | cons r t ih => exact .cons r ih
theorem Vals.take : ∀ {xs : List V} {us : List Value} (n : Nat), Vals xs us → Vals (xs.take n) (us.take n)
  | _, _, 0, _ => .nil
  | _, _, _ + 1, .nil => .nil
  | _, _, n + 1, .cons r t => .cons r (Vals.take n t)
theorem Vals.drop : ∀ {xs : List V} {us : List Value} (n : Nat), Vals xs us → Vals (xs.drop n) (us.drop n)
  | _, _, 0, r => r
  | _, _, _ + 1, .nil => .nil
  | _, _, n + 1, .cons _ t => Vals.drop n t
noncomputable def RelO : Option V → Option Value → Prop
  | some v, some u => RelV v u
  | none, none => True
  | _, _ => False
noncomputable def KV {κ : Type} : List (κ × V) → List (κ × Value) → Prop := Paired fun (p : κ × V) (q : κ × Value) => p.1 = q.1 ∧ RelV p.2 q.2
noncomputable def kV : Key → V
  | .inl i => .int i
  | .inr x => .str x
inductive HO where
  /-- a list -/
  | lst (xs : List V)
  /-- a tuple (never changes) -/
  | tup (xs : List V)
  /-- a dict whose keys are ints and texts; one whose keys are tuples of ints and texts (the empty one is both) -/
  | dK (kvs : List (Key × V)) | dT (kvs : List (List Key × V))
  /-- a set of ints: its members, its size -/
  | set (S : Int → Bool) (n : Nat)
  /-- an instance of the class at C, its dict at dx, its attributes -/
  | ins (C dx : Addr) (fs : List (Str × V))
  /-- the dict of the instance at x -/
  | own (x : Addr)
  /-- the dict of an exception -/
  | xd (fs : List (Str × V))
  /-- a bound method, f of x -/
  | met (f x : Addr)
  /-- a range object lo, lo + 1, .. below hi -/
  | rng (lo hi : Int)
  /-- a thing that is known to the object (the script; a dict while a loop walks it): read, never written while it is so -/
  | frz (o : Obj) (u : HO)
  /-- a code object's table -/
  | tbl (ps : Array Value)
  /-- any other thing, by what is true of its one object (a def of one's own: SetO a S n := HO.ext fun h => ..) -/
  | ext (φ : Program → World → Heap → Prop)
noncomputable abbrev Hp := Addr → Option HO
noncomputable def upd (H : Hp) (a : Addr) (o : HO) : Hp := fun b => if b = a then some o else H b
theorem upd_same {H : Hp} {a : Addr} {o : HO} : upd H a o a = some o := by unfold upd; rw [if_pos rfl]
theorem upd_ne {H : Hp} {a b : Addr} {o : HO} (h : b ≠ a) : upd H a o b = H b := by unfold upd; rw [if_neg h]
theorem ne_of {H : Hp} {a b : Addr} {o u : HO} (h : H a = some o) (h' : H b = some u) (d : o ≠ u) : a ≠ b := by
  intro e; subst e; rw [h] at h'; exact d (Option.some.inj h')
theorem ne_of_none {H : Hp} {a b : Addr} {o : HO} (h : H a = some o) (h' : H b = none) : a ≠ b := by
  intro e; subst e; rw [h] at h'; cases h'
noncomputable def TupO (h : Heap) (a : Addr) (its : Array Value) : Prop := ∃ o, h.get? a = some o ∧ o.cls = .type "tuple" ∧ (∃ n, o.data = .seq its n) ∧ o.dict = none
theorem TupO.tup {h : Heap} {a : Addr} {its : Array Value} : TupO h a its → IsTup h a its := fun ⟨o, e, c, d, _⟩ => ⟨o, e, c, d⟩
theorem TupO.lt {h : Heap} {a : Addr} {its : Array Value} (x : TupO h a its) : a < h.objs.size := x.tup.lt
theorem TupO.new (h : Heap) (items : Array Value) : TupO (h.push { cls := .type "tuple", data := .seq items }) h.objs.size items := ⟨_, Heap.get?_push_size _ rfl, rfl, ⟨_, rfl⟩, rfl⟩
section
variable (P : Program) (w : World)
noncomputable def ObjOk (H : Hp) (h : Heap) (a : Addr) : HO → Prop
  | .lst xs => xs.length ≤ sizeLine ∧ ∃ (its : List Value) (n : Nat), Vals xs its ∧ h.get? a = some { cls := .type "list", data := .seq its.toArray n }
  | .tup xs => xs.length ≤ sizeLine ∧ ∃ its : List Value, Vals xs its ∧ TupO h a its.toArray
  | .dK kvs => kvs.length ≤ sizeLine ∧ (a == sysModules) = false ∧ ∃ vs, KV kvs vs ∧ h.DictOf (mixKind P w) a vs
  | .dT kvs => kvs.length ≤ sizeLine ∧ (a == sysModules) = false ∧ ∃ xs : List (List Key × Addr × Value),
      Paired (fun (p : List Key × V) (q : List Key × Addr × Value) => p.1 = q.1 ∧ H q.2.1 = some (.tup (p.1.map kV)) ∧ RelV p.2 q.2.2) kvs xs ∧
      ∃ o es ep, h.get? a = some o ∧ o.ExactDict ∧ o.data = .dict es ep ∧ es.toList = xs.map (entryOfKey (tupleKind (mixKind P w))) ∧ (xs.map (·.1)).Nodup
  | .set S n => h.SetOf (intKind P w) a S n
  | .ins C dx fs => H dx = some (.own a) ∧ fs.length ≤ 1000 ∧ dx ≠ a ∧ h.get? a = some (PySem.W.instObj C dx) ∧
      ∃ mA, h.Ns1 dx mA ∧ (∀ f, RelO (fs.lookup f) (mA f)) ∧ PySem.Within mA (fs.map (·.1))
  | .own _ => ∃ o, h.get? a = some o
  | .xd fs => ∃ mA, h.Ns1 a mA ∧ ∀ f, RelO (fs.lookup f) (mA f)
  | .rng lo hi => ∃ t u v, h.get? a = some { cls := .type "range", data := .fields #[.int lo t, .int hi u, .int 1 v] }
  | .frz o u => h.get? a = some o ∧ ObjOk H h a u
  | .tbl ps => h.get? a = some { cls := .none, data := .fields ps }
  | .met f x => h.get? a = some (PySem.W.methodObj (.ref f) (.ref x))
  | .ext φ => φ P w h ∧ (∃ o, h.get? a = some o) ∧ ∀ h1 h2 : Heap, φ P w h1 → (∀ o, h1.get? a = some o → h2.get? a = some o) → φ P w h2
noncomputable def HOk (H : Hp) (h : Heap) : Prop := ∀ a o, H a = some o → ObjOk P w H h a o
end
section
variable {P : Program} {w : World} {H H' : Hp} {h h' : Heap} {a : Addr} {o : HO}
theorem ObjOk.lt (x : ObjOk P w H h a o) : a < h.objs.size := by
  cases o with
  | lst xs => obtain ⟨_, _, _, _, e⟩ := x; exact Heap.lt_size e
  | tup xs => obtain ⟨_, _, _, p⟩ := x; exact p.lt
  | dK kvs => obtain ⟨_, _, _, _, o, _, _, e, _⟩ := x; exact Heap.lt_size e
  | dT kvs => obtain ⟨_, _, _, _, o, _, _, e, _⟩ := x; exact Heap.lt_size e
  | set S n => obtain ⟨o, _, _, _, e, _⟩ := x; exact Heap.lt_size e
  | ins C dx fs => obtain ⟨_, _, _, e, _⟩ := x; exact Heap.lt_size e
  | own y => obtain ⟨_, e⟩ := x; exact Heap.lt_size e
  | xd fs => obtain ⟨_, ⟨_, _, _, e, _⟩, _⟩ := x; exact Heap.lt_size e
  | rng lo hi => obtain ⟨_, _, _, e⟩ := x; exact Heap.lt_size e
  | frz ob u => obtain ⟨e, _⟩ := x; exact Heap.lt_size e
  | tbl ps => exact Heap.lt_size (show h.get? a = some _ from x)
  | met f y => exact Heap.lt_size (show h.get? a = some _ from x)
  | ext φ => obtain ⟨_, ⟨_, e⟩, _⟩ := x; exact Heap.lt_size e
theorem Paired.mapP {α β : Type} {F G : α → β → Prop} {l₁ : List α} {l₂ : List β} (h : Paired F l₁ l₂) (f : ∀ a b, F a b → G a b) : Paired G l₁ l₂ := by
  induction h with
  | nil => exact .nil
  | cons r t ih => exact .cons (f _ _ r) ih
theorem ObjOk.stay (x : ObjOk P w H h a o) (k : ∀ b u, (b = a ∨ H b = some (.own a)) → h.get? b = some u → h'.get? b = some u)
    (ho : ∀ b, H b = some (.own a) → H' b = some (.own a)) (ht : ∀ b xs, H b = some (.tup xs) → H' b = some (.tup xs)) : ObjOk P w H' h' a o := by
  induction o with
  | lst xs => obtain ⟨z, its, n, r, e⟩ := x; exact ⟨z, its, n, r, k _ _ (.inl rfl) e⟩
  | tup xs => obtain ⟨z, its, r, ob, e, c⟩ := x; exact ⟨z, its, r, ob, k _ _ (.inl rfl) e, c⟩
  | dK kvs => obtain ⟨z, y, vs, r, ob, es, ep, e, c⟩ := x; exact ⟨z, y, vs, r, ob, es, ep, k _ _ (.inl rfl) e, c⟩
  | dT kvs =>
    obtain ⟨z, y, xs, r, ob, es, ep, e, c⟩ := x
    exact ⟨z, y, xs, Paired.mapP r fun p q z => ⟨z.1, ht _ _ z.2.1, z.2.2⟩, ob, es, ep, k _ _ (.inl rfl) e, c⟩
  | set S n => obtain ⟨ob, es, ep, t, e, c⟩ := x; exact ⟨ob, es, ep, t, k _ _ (.inl rfl) e, c⟩
  | ins C dx fs =>
    obtain ⟨d, z, ne, e, mA, ⟨od, es, ep, e2, c⟩, r⟩ := x
    exact ⟨ho _ d, z, ne, k _ _ (.inl rfl) e, mA, ⟨od, es, ep, k _ _ (.inr d) e2, c⟩, r⟩
  | own y => obtain ⟨ob, e⟩ := x; exact ⟨ob, k _ _ (.inl rfl) e⟩
  | xd fs => obtain ⟨mA, ⟨od, es, ep, e, c⟩, r⟩ := x; exact ⟨mA, ⟨od, es, ep, k _ _ (.inl rfl) e, c⟩, r⟩
  | rng lo hi => obtain ⟨t, u, v, e⟩ := x; exact ⟨t, u, v, k _ _ (.inl rfl) e⟩
  | frz ob u ih => obtain ⟨e, q⟩ := x; exact ⟨k _ _ (.inl rfl) e, ih q⟩
  | tbl ps =>
    have e : h.get? a = some { cls := .none, data := .fields ps } := x
    show h'.get? a = some { cls := .none, data := .fields ps }
    exact k a _ (.inl rfl) e
  | met f y =>
    have e : h.get? a = some (PySem.W.methodObj (.ref f) (.ref y)) := x
    show h'.get? a = some (PySem.W.methodObj (.ref f) (.ref y))
    exact k a _ (.inl rfl) e
  | ext φ => obtain ⟨p, ⟨o, e⟩, st⟩ := x; exact ⟨st _ _ p fun o q => k _ _ (.inl rfl) q, ⟨o, k _ _ (.inl rfl) e⟩, st⟩
theorem HOk.lt (x : HOk P w H h) (e : H a = some o) : a < h.objs.size := (x a o e).lt
theorem HOk.fresh (x : HOk P w H h) (e : h.objs.size ≤ a) : H a = none := by
  cases q : H a with
  | none => rfl
  | some u => exact absurd (Nat.lt_of_lt_of_le (x.lt q) e) (Nat.lt_irrefl _)
theorem HOk.kept (x : HOk P w H h) (k : ∀ b u, h.get? b = some u → h'.get? b = some u) : HOk P w H h' := fun a o e =>
  (x a o e).stay (fun b u o' q => k b u q) (fun o' q => q) fun o' o' q => q
theorem HOk.laid (x : HOk P w H h) (k : ∀ b u, h.get? b = some u → h'.get? b = some u) (hp : h.objs.size ≤ a) (new : ObjOk P w (upd H a o) h' a o) : HOk P w (upd H a o) h' := fun b u e => by
  have hn := x.fresh hp
  by_cases hb : b = a
  · subst hb; rw [upd_same] at e; cases e; exact new
  · rw [upd_ne hb] at e
    exact (x b u e).stay (fun c v o' q => k c v q) (fun c q => by rw [upd_ne (ne_of_none q hn)]; exact q) fun c xs q => by rw [upd_ne (ne_of_none q hn)]; exact q
end
noncomputable def Rd (H : Hp) (a : Addr) (u : HO) : Prop := H a = some u ∨ ∃ o, H a = some (.frz o u)
theorem Rd.ok {P : Program} {w : World} {H : Hp} {h : Heap} {a : Addr} {u : HO} (r : Rd H a u) (x : HOk P w H h) : ObjOk P w H h a u := by
  rcases r with r | ⟨o, r⟩
  · exact x a u r
  · obtain ⟨_, q⟩ := x a _ r
    exact q
noncomputable def Mut : Option HO → Prop
  | some (.lst _) => True
  | some (.dK _) => True
  | some (.dT _) => True
  | some (.set _ _) => True
  | some (.ins _ _ _) => True
  | some (.ext _) => True
  | _ => False
section
variable {P : Program} {w : World} {H : Hp} {h h' : Heap} {x e : Addr} {o' : HO}
theorem HOk.write (ok : HOk P w H h) (mu : Mut (H x)) (he : e = x ∨ H e = some (.own x)) (k : ∀ b u, b ≠ e → h.get? b = some u → h'.get? b = some u) (heo : ∃ u, h'.get? e = some u)
    (new : ObjOk P w (upd H x o') h' x o') : HOk P w (upd H x o') h' := fun b u q => by
  have nown : ∀ c y, H c = some (.own y) → c ≠ x := fun c y r z => by subst z; rw [r] at mu; exact mu
  have ntup : ∀ c xs, H c = some (.tup xs) → c ≠ x := fun c xs r z => by subst z; rw [r] at mu; exact mu
  by_cases hb : b = x
  · subst hb; rw [upd_same] at q; cases q; exact new
  · rw [upd_ne hb] at q
    by_cases hbe : b = e
    · have q' : H b = some (.own x) := by
        rcases he with z | z
        · exact absurd (hbe.trans z) hb
        · rw [hbe]; exact z
      rw [q] at q'; cases q'
      obtain ⟨v, hv⟩ := heo
      exact ⟨v, by rw [hbe]; exact hv⟩
    · refine (ok b u q).stay (fun c v hc r => k c v ?_ r) (fun c r => by rw [upd_ne (nown c b r)]; exact r) fun c xs r => by rw [upd_ne (ntup c xs r)]; exact r
      rcases hc with rfl | hc
      · exact hbe
      · rintro rfl
        rcases he with z | z
        · exact nown c b hc z
        · rw [hc] at z; cases z; exact hb rfl
end
structure Un (fs ex : List Addr) (H H' : Hp) (h h' : Heap) : Prop where
  keep : ∀ b o, h.get? b = some o → H b = none → b ∉ fs → b ∉ ex → h'.get? b = some o
  slot : ∀ b o, h.get? b = some o → H b = none → b ∈ fs → b ∉ ex → ∃ sl, h'.get? b = some { o with slots := sl }
  free : ∀ b o, h.get? b = some o → H b = none → b ∉ ex → H' b = none
  there : ∀ b o, h.get? b = some o → b ∉ ex → ∃ o', h'.get? b = some o'
  tups : ∀ b xs, H b = some (.tup xs) → H' b = some (.tup xs)
  frzs : ∀ b o u, H b = some (.frz o u) → H' b = some (.frz o u)
  tbls : ∀ b ps, H b = some (.tbl ps) → ∃ more, H' b = some (.tbl (ps ++ more))
section
variable {fs fs' ex ex' : List Addr} {H H1 H2 : Hp} {h h1 h2 h' : Heap} {a x e : Addr} {o : HO}
theorem Un.any (u : Un fs ex H H1 h h1) {b : Addr} {ob : Obj} (q : h.get? b = some ob) (n : H b = none) (hx : b ∉ ex) : ∃ sl, h1.get? b = some { ob with slots := sl } := by
  by_cases hb : b ∈ fs
  · exact u.slot b ob q n hb hx
  · exact ⟨ob.slots, u.keep b ob q n hb hx⟩
theorem Un.kept (k : ∀ b u, h.get? b = some u → h'.get? b = some u) : Un fs ex H H h h' :=
  ⟨fun b ob q o' o' o' => k b ob q, fun b ob q o' o' o' => ⟨ob.slots, k b ob q⟩, fun o' o' o' n o' => n, fun b ob q o' => ⟨ob, k b ob q⟩, fun o' o' q => q, fun o' o' o' q => q, fun o' ps q => ⟨#[], by rw [q]; simp⟩⟩
theorem Un.refl : Un fs ex H H h h := Un.kept fun o' o' q => q
theorem Un.laid (k : ∀ b u, h.get? b = some u → h'.get? b = some u) (hp : h.objs.size ≤ a) (hn : H a = none) : Un fs ex H (upd H a o) h h' where
  keep := fun b u q o' o' o' => k b u q
  slot := fun b u q o' o' o' => ⟨u.slots, k b u q⟩
  free := fun b u q n o' => by rw [upd_ne (Nat.ne_of_lt (Nat.lt_of_lt_of_le (Heap.lt_size q) hp))]; exact n
  there := fun b u q o' => ⟨u, k b u q⟩
  tups := fun b xs q => by rw [upd_ne (ne_of_none q hn)]; exact q
  frzs := fun b u xs q => by rw [upd_ne (ne_of_none q hn)]; exact q
  tbls := fun b ps q => ⟨#[], by rw [upd_ne (ne_of_none q hn), q]; simp⟩
theorem Un.write (mu : Mut (H x)) (he : e = x ∨ H e = some (.own x)) (k : ∀ b u, b ≠ e → h.get? b = some u → h'.get? b = some u) (heo : ∃ u, h'.get? e = some u) : Un fs ex H (upd H x o) h h' := by
  have hx : ∀ b, H b = none → b ≠ x := fun b n z => by subst z; rw [n] at mu; exact mu
  have hb : ∀ b, H b = none → b ≠ e := fun b n z => by
    subst z
    rcases he with r | r
    · exact hx b n r
    · rw [n] at r; cases r
  have hm : ∀ b u, H b = some u → ¬ Mut (some u) → b ≠ x := fun b u q nm z => by subst z; rw [q] at mu; exact nm mu
  refine ⟨fun b u q n o' o' => k b u (hb b n) q, fun b u q n o' o' => ⟨u.slots, k b u (hb b n) q⟩, fun b u q n o' => by rw [upd_ne (hx b n)]; exact n, fun b u q o' => ?_,
    fun b xs q => by rw [upd_ne (hm b _ q fun z => z)]; exact q, fun b u xs q => by rw [upd_ne (hm b _ q fun z => z)]; exact q, fun b ps q => ⟨#[], by rw [upd_ne (hm b _ q fun z => z), q]; simp⟩⟩
  by_cases hbe : b = e
  · subst hbe; exact heo
  · exact ⟨u, k b u hbe q⟩
end
noncomputable def trk (h : Heap) (H : Hp) : List Addr := (List.range h.objs.size).filter fun a => (H a).isSome
noncomputable def hidT (h : Heap) (H : Hp) : Heap := PySem.W.hideAll h (trk h H)
theorem hidT_size (h : Heap) (H : Hp) : (hidT h H).objs.size = h.objs.size := PySem.W.hideAll_size _ _
theorem hidT_get {h : Heap} {H : Hp} {b : Addr} {o : Obj} (e : h.get? b = some o) (n : H b = none) : (hidT h H).get? b = some o :=
  PySem.W.hideAll_get _ e fun hm => by
    have q : (H b).isSome = true := (List.mem_filter.mp hm).2
    rw [n] at q; simp at q
theorem of_hidT {h : Heap} {H : Hp} {b : Addr} {o : Obj} (e : (hidT h H).get? b = some o) : h.get? b = some o ∧ H b = none := by
  have e' : h.get? b = some o := PySem.W.of_hideAll (trk h H) e
  refine ⟨e', ?_⟩
  cases q : H b with
  | none => rfl
  | some x =>
    have hm : b ∈ trk h H := List.mem_filter.mpr ⟨List.mem_range.mpr (Heap.lt_size e'), by simp [q]⟩
    have z : (hidT h H).get? b = none := PySem.W.hideAll_none (trk h H) hm
    rw [z] at e; cases e
noncomputable def allNews (g h : Heap) (L : Addr) : List (Addr × Obj) := (List.range h.objs.size).filterMap fun a => if a = L ∨ (g.get? a).isSome = true then none else (h.get? a).map fun o => (a, o)
noncomputable def rest (g h : Heap) (L d : Addr) : List (Addr × Obj) := (allNews g h L).filter fun p => decide (p.1 ≠ d)
end L2
namespace L2
open PySem PySem.Spec PyProof.Rows
structure Mod (K : PySem.W.Frag) (mg : Str → Option Value) (base : Heap) : Prop where
  kin : K.In base
  glob : base.Ns mainGlobals mg
  blt : ∃ mb, base.Ns builtinsNs mb ∧ ∀ x : Str, x ≠ "__name__" → mb x = bootBuiltins x
  nolimit : base.NoLimit
set_option genInjectivity false in
structure Cx where
  prog : Program
  w : World
  K : PySem.W.Frag
  mg : Str → Option Value
  base : Heap
  A : Around
  N : List Str
  s₀ : Shared
  H₀ : Hp
  env : Env
  outer : List Env
  stack : List Env
  ex : List Addr
  fn : Str → Bool
  calm : Bool
  pn : List (Addr × Obj)
  xe : Value → Shared → Prop
noncomputable def frs (l : List Env) : List Addr := l.filterMap (·.frame)
noncomputable abbrev Cx.fs (X : Cx) : List Addr := frs X.outer
noncomputable def Vis (sc : Scope) (x : Str) : Prop := sc.names.lookup x = some .local ∨ sc.names.lookup x = some .cell ∨ sc.names.lookup x = some .free
noncomputable def Loc (sc : Scope) (x : Str) : Prop := sc.names.lookup x = some .local ∨ sc.names.lookup x = some .cell
noncomputable def Look (env : Env) (h : Heap) (m : Str → Option Value) (x : Str) (u : Value) : Prop :=
  (env.kindOf x = some .local ∧ m x = some u) ∨ ((env.kindOf x = some .cell ∨ env.kindOf x = some .free) ∧ ∃ c, env.cells.lookup x = some c ∧ h.IsCell c (some u))
structure Cx.Ok (X : Cx) : Prop where
  mod : Mod X.K X.mg X.base
  kind : X.env.scope.kind = .function
  glob : X.env.globals = mainGlobals
  blt : X.env.builtins = builtinsNs
  above : X.s₀.heap.objs.size ≤ X.env.locals
  inj : ∀ x y c, X.env.cells.lookup x = some c → X.env.cells.lookup y = some c → x = y
  has : ∀ x, (X.env.kindOf x = some .cell ∨ X.env.kindOf x = some .free) → ∃ c, X.env.cells.lookup x = some c
  cab : ∀ x c, X.fn x = true → X.env.cells.lookup x = some c → X.s₀.heap.objs.size ≤ c
  hd : X.calm = true → X.A.handled = none
  frames : X.A.frames = some X.stack
  stk : X.stack = X.outer ∨ (X.stack = X.env :: X.outer ∧ X.env.frame = some X.env.locals)
  exf : ∀ b ∈ X.ex, b ≠ X.env.locals ∧ ∀ x c, X.env.cells.lookup x = some c → c ≠ b
  bs : ∀ b o, X.base.get? b = some o → X.s₀.heap.get? b = some o ∧ X.H₀ b = none
  bsz : X.base.objs.size ≤ X.s₀.heap.objs.size
  noex : ∀ b o, X.base.get? b = some o → b ∉ X.ex
  exfs : ∀ b ∈ X.ex, b ∉ X.fs
  funs : X.s₀.heap.FunFrames X.base X.outer
  frf : ∀ b ∈ X.fs, X.H₀ b = none
structure Inv (X : Cx) (pins : List (Addr × Obj)) (σ : List (Option V)) (H : Hp) (s : Shared) : Prop where
  ok : X.Ok
  os : s.os = X.s₀.os
  bare : AllBare s.gens
  base : Un X.fs X.ex X.H₀ H X.s₀.heap s.heap
  loc : ∃ m, s.heap.Ns X.env.locals m ∧ ∀ (i : Nat) (x : Str) (v : V), X.N[i]? = some x → σ[i]? = some (some v) → Vis X.env.scope x → ∃ u, RelV v u ∧ Look X.env s.heap m x u
  cell : ∀ x c, X.env.cells.lookup x = some c → ∃ v, s.heap.IsCell c v
  free : H X.env.locals = none
  freeC : ∀ x c, X.env.cells.lookup x = some c → H c = none
  pin : ∀ p ∈ X.pn ++ pins, s.heap.get? p.1 = some p.2 ∧ H p.1 = none ∧ p.1 ≠ X.env.locals ∧ p.1 ∉ X.fs ∧ ∀ v, p.2.data ≠ .cell v
  hok : HOk X.prog X.w H s.heap
  len : σ.length = X.N.length
section
variable {X : Cx} {pins : List (Addr × Obj)} {σ : List (Option V)} {H H' : Hp} {s : Shared} {h' : Heap}
theorem Cx.Ok.nofr (ok : X.Ok) {b : Addr} {o : Obj} (e : X.base.get? b = some o) : b ∉ X.fs := fun hb => by
  have := (ok.funs.mem hb).1
  rw [e] at this; cases this
theorem Inv.bs (I : Inv X pins σ H s) : ∀ b o, X.base.get? b = some o → s.heap.get? b = some o ∧ H b = none := fun b o e =>
  ⟨I.base.keep b o (I.ok.bs b o e).1 (I.ok.bs b o e).2 (I.ok.nofr e) (I.ok.noex b o e), I.base.free b o (I.ok.bs b o e).1 (I.ok.bs b o e).2 (I.ok.noex b o e)⟩
theorem Inv.bk (I : Inv X pins σ H s) : ∀ b o, X.base.get? b = some o → s.heap.get? b = some o := fun b o e => (I.bs b o e).1
theorem Inv.mod (I : Inv X pins σ H s) : Mod X.K X.mg X.base := I.ok.mod
theorem Inv.kIn (I : Inv X pins σ H s) : X.K.In s.heap := I.ok.mod.kin.keeps I.bk
theorem Inv.fr (I : Inv X pins σ H s) : ∃ m, Fr X.base X.env.locals s.heap m :=
  let ⟨m, hn, _⟩ := I.loc
  ⟨m, hn, I.bk, Nat.le_trans I.ok.bsz I.ok.above⟩
theorem Inv.lt (I : Inv X pins σ H s) : X.env.locals < s.heap.objs.size := let ⟨_, hn, _⟩ := I.loc; hn.lt
theorem Inv.sz (I : Inv X pins σ H s) : X.s₀.heap.objs.size ≤ s.heap.objs.size := Nat.le_trans I.ok.above (Nat.le_of_lt I.lt)
theorem Inv.nofs (I : Inv X pins σ H s) {a : Addr} (h : s.heap.objs.size ≤ a) : a ∉ X.fs := fun hb => by
  obtain ⟨_, o, ho, _⟩ := I.ok.funs.mem hb
  exact absurd (Nat.lt_of_lt_of_le (Heap.lt_size ho) (Nat.le_trans I.sz h)) (Nat.lt_irrefl _)
theorem Inv.cne (I : Inv X pins σ H s) : ∀ x c, X.env.cells.lookup x = some c → c ≠ X.env.locals := fun x c e z => by
  obtain ⟨v, o, ho, hd⟩ := I.cell x c e
  obtain ⟨m, ⟨o', es, ep, ho', hd', _⟩, _⟩ := I.loc
  rw [z, ho'] at ho; cases ho; rw [hd'] at hd; cases hd
theorem Inv.funs (I : Inv X pins σ H s) : s.heap.FunFrames X.base X.outer := by
  have all : ∀ (l : List Env), (∀ b ∈ frs l, b ∈ X.fs) → X.s₀.heap.FunFrames X.base l → s.heap.FunFrames X.base l := by
    intro l
    induction l with
    | nil => intro _ _; trivial
    | cons env r ih =>
      intro hs hl
      obtain ⟨hk, ⟨L, o, hf, hn, ho, hd⟩, hr⟩ := hl
      have hL : L ∈ X.fs := hs L (by unfold frs; rw [List.filterMap_cons, hf]; exact List.mem_cons_self)
      obtain ⟨sl, e⟩ := I.base.slot L o ho (I.ok.frf L hL) hL fun z => I.ok.exfs L z hL
      exact ⟨hk, ⟨L, _, hf, hn, e, hd⟩, ih (fun b hb => hs b (by unfold frs; rw [List.filterMap_cons, hf]; exact List.mem_cons_of_mem _ hb)) hr⟩
  exact all X.outer (fun o' hb => hb) I.ok.funs
theorem Inv.stack (I : Inv X pins σ H s) : s.heap.FunFrames X.base X.stack := by
  rcases I.ok.stk with e | ⟨e, hf⟩
  · rw [e]; exact I.funs
  · rw [e]
    obtain ⟨m, hn, _⟩ := I.loc
    refine .cons (by rw [I.ok.kind]; decide) hf hn ?_ I.funs
    exact Heap.get?_none_of_le (Nat.le_trans I.ok.bsz I.ok.above)
theorem Inv.stkSub (I : Inv X pins σ H s) : ∀ b ∈ frs X.stack, b ∈ X.env.locals :: X.fs := fun b hb => by
  rcases I.ok.stk with e | ⟨e, hf⟩
  · rw [e] at hb; exact List.mem_cons_of_mem _ hb
  · rw [e] at hb
    unfold frs at hb
    rw [List.filterMap_cons, hf] at hb
    exact hb
theorem Inv.stkFree (I : Inv X pins σ H s) : ∀ b ∈ frs X.stack, H b = none := fun b hb => by
  rcases List.mem_cons.mp (I.stkSub b hb) with e | hb
  · rw [e]; exact I.free
  · obtain ⟨_, o, ho, _⟩ := I.ok.funs.mem hb
    exact I.base.free b o ho (I.ok.frf b hb) fun z => I.ok.exfs b z hb
theorem Inv.step {g' : Array GenState} {t' : Nat} {d' : Drawn} {ch : List Addr} (I : Inv X pins σ H s)
    (hch : ∀ b ∈ ch, (b ∈ X.ex ∨ X.s₀.heap.objs.size ≤ b) ∧ b ≠ X.env.locals ∧ (∀ x c, X.env.cells.lookup x = some c → c ≠ b) ∧ ∀ p ∈ X.pn ++ pins, p.1 ≠ b)
    (keep : ∀ b o, b ≠ X.env.locals → b ∉ X.fs → b ∉ ch → s.heap.get? b = some o → H b = none → h'.get? b = some o)
    (slot : ∀ b o, b ≠ X.env.locals → b ∈ X.fs → b ∉ ch → s.heap.get? b = some o → H b = none → ∃ sl, h'.get? b = some { o with slots := sl }) (free : ∀ b o, b ∉ ch → s.heap.get? b = some o → H b = none → H' b = none)
    (there : ∀ b o, b ∉ ch → s.heap.get? b = some o → ∃ o', h'.get? b = some o')
    (tups : ∀ b xs, H b = some (.tup xs) → H' b = some (.tup xs)) (frzs : ∀ b o u, H b = some (.frz o u) → H' b = some (.frz o u)) (tbls : ∀ b ps, H b = some (.tbl ps) → ∃ more, H' b = some (.tbl (ps ++ more)))
    (ns : ∀ m, s.heap.Ns X.env.locals m → h'.Ns X.env.locals m) (hok : HOk X.prog X.w H' h') (hg : AllBare g') :
    Inv X pins σ H' { s with heap := h', gens := g', drawn := d', toks := t' } := by
  have neL : ∀ b o, X.s₀.heap.get? b = some o → b ≠ X.env.locals := fun b o e => Nat.ne_of_lt (Nat.lt_of_lt_of_le (Heap.lt_size e) I.ok.above)
  have neC : ∀ b o, X.s₀.heap.get? b = some o → b ∉ X.ex → b ∉ ch := fun b o e hx hb => by
    rcases (hch b hb).1 with z | z
    · exact hx z
    · exact absurd (Nat.lt_of_lt_of_le (Heap.lt_size e) z) (Nat.lt_irrefl _)
  have cellK : ∀ x c, X.env.cells.lookup x = some c → ∀ v, s.heap.IsCell c v → h'.IsCell c v := fun x c e v ⟨o, ho, hd⟩ => by
    have nch : c ∉ ch := fun z => (hch c z).2.2.1 x c e rfl
    by_cases hc : c ∈ X.fs
    · obtain ⟨sl, q⟩ := slot c o (I.cne x c e) hc nch ho (I.freeC x c e)
      exact ⟨_, q, hd⟩
    · exact ⟨o, keep c o (I.cne x c e) hc nch ho (I.freeC x c e), hd⟩
  refine ⟨I.ok, I.os, hg, ⟨fun b o e n hb hx => ?_, fun b o e n hb hx => ?_, fun b o e n hx => ?_, fun b o e hx => ?_, fun b xs e => tups b xs (I.base.tups b xs e), fun b o xs e => frzs b o xs (I.base.frzs b o xs e), fun b ps e => ?_⟩, ?_, fun x c e => ?_, ?_, fun x c e => ?_, fun p hp => ?_, hok, I.len⟩
  · exact keep b o (neL b o e) hb (neC b o e hx) (I.base.keep b o e n hb hx) (I.base.free b o e n hx)
  · obtain ⟨sl, e1⟩ := I.base.slot b o e n hb hx
    obtain ⟨sl', e2⟩ := slot b _ (neL b o e) hb (neC b o e hx) e1 (I.base.free b o e n hx)
    exact ⟨sl', e2⟩
  · obtain ⟨o', e1⟩ := I.base.there b o e hx
    exact free b o' (neC b o e hx) e1 (I.base.free b o e n hx)
  · obtain ⟨o', e1⟩ := I.base.there b o e hx
    exact there b o' (neC b o e hx) e1
  · obtain ⟨m1, e1⟩ := I.base.tbls b ps e
    obtain ⟨m2, e2⟩ := tbls b _ e1
    exact ⟨m1 ++ m2, by rw [e2, Array.append_assoc]⟩
  · obtain ⟨m, hn, hl⟩ := I.loc
    refine ⟨m, ns m hn, fun i x v e1 e2 e3 => ?_⟩
    obtain ⟨u, r, l⟩ := hl i x v e1 e2 e3
    refine ⟨u, r, ?_⟩
    rcases l with l | ⟨k, c, e, z⟩
    · exact .inl l
    · exact .inr ⟨k, c, e, cellK x c e _ z⟩
  · obtain ⟨v, z⟩ := I.cell x c e
    exact ⟨v, cellK x c e v z⟩
  · obtain ⟨m, ⟨o, _, _, ho, _⟩, _⟩ := I.loc
    exact free _ o (fun z => (hch _ z).2.1 rfl) ho I.free
  · obtain ⟨v, o, ho, hd⟩ := I.cell x c e
    exact free c o (fun z => (hch c z).2.2.1 x c e rfl) ho (I.freeC x c e)
  · obtain ⟨e, n, ne, nf, d⟩ := I.pin p hp
    have nch : p.1 ∉ ch := fun z => (hch p.1 z).2.2.2 p hp rfl
    exact ⟨keep p.1 p.2 ne nf nch e n, free p.1 p.2 nch e n, ne, nf, d⟩
theorem Inv.un {t' : Nat} (I : Inv X pins σ H s) (u : Un X.fs [] H H' s.heap h') (hok : HOk X.prog X.w H' h') : Inv X pins σ H' { s with heap := h', toks := t' } := by
  obtain ⟨m, ⟨o, es, ep, ho, r⟩, _⟩ := id I.loc
  obtain ⟨sl, hL⟩ := u.any ho I.free (by simp)
  exact I.step (g' := s.gens) (d' := s.drawn) (ch := []) (fun o' z => nomatch z) (fun b o o' hb o' e n => u.keep b o e n hb (by simp)) (fun b o o' hb o' e n => u.slot b o e n hb (by simp)) (fun b o o' e n => u.free b o e n (by simp)) (fun b o o' e => u.there b o e (by simp)) u.tups u.frzs u.tbls (fun m' hm => by
    obtain ⟨o', es', ep', ho', r'⟩ := hm
    rw [ho] at ho'; cases ho'
    exact ⟨_, es', ep', hL, r'⟩) hok I.bare
theorem Inv.call {g' : Array GenState} {t' : Nat} {d' : Drawn} {ch : List Addr} (I : Inv X pins σ H s) (u : Un (frs X.stack) ch H H' s.heap h') (hok : HOk X.prog X.w H' h') (hg : AllBare g')
    (hch : ∀ b ∈ ch, (b ∈ X.ex ∨ X.s₀.heap.objs.size ≤ b) ∧ b ≠ X.env.locals ∧ (∀ x c, X.env.cells.lookup x = some c → c ≠ b) ∧ ∀ p ∈ X.pn ++ pins, p.1 ≠ b) :
    Inv X pins σ H' { s with heap := h', gens := g', drawn := d', toks := t' } := by
  obtain ⟨m, ⟨o, es, ep, ho, r⟩, _⟩ := id I.loc
  obtain ⟨sl, hL⟩ := u.any ho I.free fun z => (hch _ z).2.1 rfl
  exact I.step (ch := ch) hch (fun b o hL hb hc e n => u.keep b o e n (fun z => (List.mem_cons.mp (I.stkSub b z)).elim hL hb) hc) (fun b o o' o' hc e n => u.any e n hc) (fun b o hc e n => u.free b o e n hc) (fun b o hc e => u.there b o e hc) u.tups u.frzs u.tbls (fun m' hm => by
    obtain ⟨o', es', ep', ho', r'⟩ := hm
    rw [ho] at ho'; cases ho'
    exact ⟨_, es', ep', hL, r'⟩) hok hg
theorem Inv.turned {t' : Nat} {it : Addr} (I : Inv X pins σ H s) (k : ∀ b o, b ≠ it → s.heap.get? b = some o → h'.get? b = some o) (hn : H it = none) (hL : it ≠ X.env.locals)
    (h1 : it ∈ X.ex ∨ X.s₀.heap.objs.size ≤ it) (h2 : ∀ x c, X.env.cells.lookup x = some c → c ≠ it) (h3 : ∀ p ∈ X.pn ++ pins, p.1 ≠ it) : Inv X pins σ H { s with heap := h', toks := t' } := by
  have nit : ∀ b u, H b = some u → b ≠ it := fun b u e z => by rw [z, hn] at e; cases e
  refine I.step (g' := s.gens) (d' := s.drawn) (ch := [it]) (fun b hb => ?_) (fun b o o' o' hc e o' => k b o (fun z => hc (by simp [z])) e) (fun b o o' o' hc e o' => ⟨o.slots, k b o (fun z => hc (by simp [z])) e⟩) (fun o' o' o' o' n => n)
    (fun b o hc e => ⟨o, k b o (fun z => hc (by simp [z])) e⟩) (fun o' o' e => e) (fun o' o' o' e => e) (fun b ps e => ⟨#[], by rw [e]; simp⟩) (fun m hm => ?_) (fun b u e => ?_) I.bare
  · have e : b = it := by simpa using hb
    subst e
    exact ⟨h1, hL, h2, h3⟩
  · obtain ⟨o, es, ep, ho, r⟩ := hm
    exact ⟨o, es, ep, k _ o (Ne.symm hL) ho, r⟩
  · refine (I.hok b u e).stay (fun c v hc q => k c v ?_ q) (fun o' q => q) fun o' o' q => q
    rcases hc with z | z
    · rw [z]; exact nit b u e
    · exact nit c _ z
theorem Inv.tok (I : Inv X pins σ H s) (t : Nat) : Inv X pins σ H { s with toks := t } := I.un (h' := s.heap) (t' := t) Un.refl I.hok
theorem Inv.kept {t' : Nat} (I : Inv X pins σ H s) (k : ∀ b u, s.heap.get? b = some u → h'.get? b = some u) : Inv X pins σ H { s with heap := h', toks := t' } := I.un (Un.kept k) (I.hok.kept k)
theorem Inv.laid {a : Addr} {o : HO} {t' : Nat} (I : Inv X pins σ H s) (k : ∀ b u, s.heap.get? b = some u → h'.get? b = some u) (hp : s.heap.objs.size ≤ a) (new : ObjOk X.prog X.w (upd H a o) h' a o) :
    Inv X pins σ (upd H a o) { s with heap := h', toks := t' } := I.un (Un.laid k hp (I.hok.fresh hp)) (I.hok.laid k hp new)
theorem Inv.write {x e : Addr} {o : HO} {t' : Nat} (I : Inv X pins σ H s) (mu : Mut (H x)) (he : e = x ∨ H e = some (.own x)) (k : ∀ b u, b ≠ e → s.heap.get? b = some u → h'.get? b = some u) (heo : ∃ u, h'.get? e = some u)
    (new : ObjOk X.prog X.w (upd H x o) h' x o) : Inv X pins σ (upd H x o) { s with heap := h', toks := t' } := I.un (Un.write mu he k heo) (I.hok.write mu he k heo new)
theorem Inv.weak {σ' : List (Option V)} (I : Inv X pins σ H s) (hl : σ'.length = σ.length) (w : ∀ (i : Nat) v, σ'[i]? = some (some v) → σ[i]? = some (some v)) : Inv X pins σ' H s :=
  ⟨I.ok, I.os, I.bare, I.base, let ⟨m, hn, hl'⟩ := I.loc; ⟨m, hn, fun i x v e1 e2 e3 => hl' i x v e1 (w i v e2) e3⟩, I.cell, I.free, I.freeC, I.pin, I.hok, hl.trans I.len⟩
theorem Inv.pins_of {pins' : List (Addr × Obj)} (I : Inv X pins σ H s) (h : ∀ p ∈ pins', s.heap.get? p.1 = some p.2 ∧ H p.1 = none ∧ p.1 ≠ X.env.locals ∧ p.1 ∉ X.fs ∧ ∀ v, p.2.data ≠ .cell v) : Inv X pins' σ H s :=
  ⟨I.ok, I.os, I.bare, I.base, I.loc, I.cell, I.free, I.freeC, fun p hp => (List.mem_append.mp hp).elim (fun z => I.pin p (List.mem_append_left _ z)) (h p), I.hok, I.len⟩
theorem nodup_ix {N : List Str} (hN : N.Nodup) {i j : Nat} {x : Str} (a : N[i]? = some x) (b : N[j]? = some x) : i = j := by
  obtain ⟨h1, e1⟩ := List.getElem?_eq_some_iff.mp a
  obtain ⟨h2, e2⟩ := List.getElem?_eq_some_iff.mp b
  exact (List.getElem_inj hN).mp (e1.trans e2.symm)
theorem store_ok2 {M : Model} {A : Around} {E : Value → Shared → Prop} {i : Nat} {x : Str} {v : V} {u : Value} {Q : Unit → Shared → Prop} (I : Inv X pins σ H s) (hN : X.N.Nodup) (hi : X.N[i]? = some x) (hx : Loc X.env.scope x) (r : RelV v u)
    (h : ∀ s', Inv X pins (σ.set i (some v)) H s' → (∃ a, Heap.SameBut a s.heap s'.heap ∧ (a = X.env.locals ∨ X.env.cells.lookup x = some a)) → Q () s') (hf : X.fn x = true ∨ X.env.scope.names.lookup x = some .local := by first | exact .inl rfl | exact .inr rfl | assumption) : wpAny M A (storeName X.env x u) Q E s := by
  obtain ⟨m, hn, hl⟩ := id I.loc
  have hcls : (X.env.scope.kind == .class || (X.env.scope.kind == .module && X.env.locals != X.env.globals)) = false := by rw [I.ok.kind]; rfl
  have hiσ : i < σ.length := by rw [I.len]; exact (List.getElem?_eq_some_iff.mp hi).1
  have cne := I.cne
  have tracked : ∀ {a : Addr} {h' : Heap}, (∃ o, s.heap.get? a = some o ∧ H a = none) → Heap.SameBut a s.heap h' → HOk X.prog X.w H h' := fun {a h'} ha hs b ob e => by
    obtain ⟨_, _, hfree⟩ := ha
    refine (I.hok b ob e).stay (fun c w' hc q => (hs.2 c ?_).trans q) (fun o' q => q) fun o' o' q => q
    rintro rfl
    rcases hc with rfl | hc
    · rw [hfree] at e; cases e
    · rw [hfree] at hc; cases hc
  rcases hx with hk | hk
  · refine wpAny_storeName_local hk hn (fun h' hn' hs => ?_) hcls
    obtain ⟨oL, _, _, hoL, _⟩ := id hn
    refine h _ ⟨I.ok, I.os, I.bare, ⟨fun b o e n hb hx => ?_, fun b o e n hb hx => ?_, I.base.free, fun b o e hx => ?_, I.base.tups, I.base.frzs, I.base.tbls⟩, ⟨_, hn', fun j y v' e1 e2 e3 => ?_⟩, fun y c e => ?_, I.free, I.freeC, fun p hp => ?_, tracked ⟨oL, hoL, I.free⟩ hs, by simpa using I.len⟩ ⟨_, hs, .inl rfl⟩
    · exact (hs.2 b (Nat.ne_of_lt (Nat.lt_of_lt_of_le (Heap.lt_size e) I.ok.above))).trans (I.base.keep b o e n hb hx)
    · obtain ⟨sl, e1⟩ := I.base.slot b o e n hb hx
      exact ⟨sl, (hs.2 b (Nat.ne_of_lt (Nat.lt_of_lt_of_le (Heap.lt_size e) I.ok.above))).trans e1⟩
    · obtain ⟨o', e1⟩ := I.base.there b o e hx
      exact ⟨o', (hs.2 b (Nat.ne_of_lt (Nat.lt_of_lt_of_le (Heap.lt_size e) I.ok.above))).trans e1⟩
    · by_cases hj : j = i
      · subst hj
        rw [hi] at e1; cases e1
        rw [List.getElem?_set_self hiσ] at e2
        cases e2
        exact ⟨u, r, .inl ⟨hk, by simp⟩⟩
      · rw [List.getElem?_set_ne (Ne.symm hj)] at e2
        obtain ⟨u', r', q⟩ := hl j y v' e1 e2 e3
        refine ⟨u', r', ?_⟩
        rcases q with ⟨k, e⟩ | ⟨k, c, e, z⟩
        · refine .inl ⟨k, ?_⟩
          have : y ≠ x := fun e => hj (nodup_ix hN e1 (e ▸ hi))
          simp [this, e]
        · exact .inr ⟨k, c, e, z.sameBut hs (cne y c e)⟩
    · obtain ⟨w', z⟩ := I.cell y c e
      exact ⟨w', z.sameBut hs (cne y c e)⟩
    · obtain ⟨e, n, ne, nf, d⟩ := I.pin p hp
      exact ⟨(hs.2 p.1 ne).trans e, n, ne, nf, d⟩
  · have hfn : X.fn x = true := by
      rcases hf with z | z
      · exact z
      · rw [z] at hk; cases hk
    obtain ⟨c, hc⟩ := I.ok.has x (.inl hk)
    obtain ⟨w', z⟩ := I.cell x c hc
    refine wpAny_storeName_cell I.ok.kind hk hc z (fun h' hc' hs => ?_)
    obtain ⟨oc, hoc, hocd⟩ := id z
    refine h { s with heap := h' } ⟨I.ok, I.os, I.bare, ⟨fun b o e n hb hx => ?_, fun b o e n hb hx => ?_, I.base.free, fun b o e hx => ?_, I.base.tups, I.base.frzs, I.base.tbls⟩, ⟨m, hn.sameBut hs (Ne.symm (cne x c hc)), fun j y v' e1 e2 e3 => ?_⟩, fun y c' e => ?_, I.free, I.freeC, fun p hp => ?_, tracked ⟨oc, hoc, I.freeC x c hc⟩ hs, by simpa using I.len⟩ ⟨c, hs, .inr hc⟩
    · exact (hs.2 b (Nat.ne_of_lt (Nat.lt_of_lt_of_le (Heap.lt_size e) (I.ok.cab x c hfn hc)))).trans (I.base.keep b o e n hb hx)
    · obtain ⟨sl, e1⟩ := I.base.slot b o e n hb hx
      exact ⟨sl, (hs.2 b (Nat.ne_of_lt (Nat.lt_of_lt_of_le (Heap.lt_size e) (I.ok.cab x c hfn hc)))).trans e1⟩
    · obtain ⟨o', e1⟩ := I.base.there b o e hx
      exact ⟨o', (hs.2 b (Nat.ne_of_lt (Nat.lt_of_lt_of_le (Heap.lt_size e) (I.ok.cab x c hfn hc)))).trans e1⟩
    · by_cases hj : j = i
      · subst hj
        rw [hi] at e1; cases e1
        rw [List.getElem?_set_self hiσ] at e2
        cases e2
        exact ⟨u, r, .inr ⟨.inl hk, c, hc, hc'⟩⟩
      · rw [List.getElem?_set_ne (Ne.symm hj)] at e2
        obtain ⟨u', r', q⟩ := hl j y v' e1 e2 e3
        refine ⟨u', r', ?_⟩
        rcases q with q | ⟨k, c', e, z'⟩
        · exact .inl q
        · refine .inr ⟨k, c', e, z'.sameBut hs ?_⟩
          rintro rfl
          exact hj (nodup_ix hN e1 (I.ok.inj _ _ _ e hc ▸ hi))
    · by_cases hcc : c' = c
      · subst hcc; exact ⟨_, hc'⟩
      · obtain ⟨w2, z2⟩ := I.cell y c' e
        exact ⟨w2, z2.sameBut hs hcc⟩
    · obtain ⟨e, n, ne, nf, d⟩ := I.pin p hp
      refine ⟨(hs.2 p.1 ?_).trans e, n, ne, nf, d⟩
      intro q
      rw [q, hoc] at e
      have q' : oc = p.2 := Option.some.inj e
      exact d w' (by rw [← q']; exact hocd)
theorem store_ok {M : Model} {A : Around} {E : Value → Shared → Prop} {i : Nat} {x : Str} {v : V} {u : Value} {Q : Unit → Shared → Prop} (I : Inv X pins σ H s) (hN : X.N.Nodup) (hi : X.N[i]? = some x) (hx : Loc X.env.scope x) (r : RelV v u)
    (h : ∀ s', Inv X pins (σ.set i (some v)) H s' → Q () s') (hf : X.fn x = true ∨ X.env.scope.names.lookup x = some .local := by first | exact .inl rfl | exact .inr rfl | assumption) : wpAny M A (storeName X.env x u) Q E s :=
  store_ok2 I hN hi hx r (fun s' I' o' => h s' I') hf
theorem Inv.call' {s' : Shared} {ch : List Addr} (I : Inv X pins σ H s) (ho : s'.os = s.os) (u : Un (frs X.stack) ch H H' s.heap s'.heap) (hok : HOk X.prog X.w H' s'.heap) (hg : AllBare s'.gens)
    (hch : ∀ b ∈ ch, (b ∈ X.ex ∨ X.s₀.heap.objs.size ≤ b) ∧ b ≠ X.env.locals ∧ (∀ x c, X.env.cells.lookup x = some c → c ≠ b) ∧ ∀ p ∈ X.pn ++ pins, p.1 ≠ b) : Inv X pins σ H' s' := by
  obtain ⟨h', g', d', t', o'⟩ := s'
  have e : o' = s.os := ho
  subst e
  exact I.call (g' := g') (t' := t') (d' := d') u hok hg hch
end
noncomputable abbrev XK := Value → Option Addr → Hp → Prop
noncomputable abbrev St := List (Option V)
noncomputable abbrev VK := V → Hp → Prop
noncomputable abbrev TE := St → Hp → VK → Prop
noncomputable abbrev TT := St → Hp → (Bool → Hp → Prop) → Prop
noncomputable abbrev TA := St → Hp → (List V → Hp → Prop) → Prop
set_option genInjectivity false in
structure Ends where
  nx : St → Hp → Prop
  rt : VK
  bk : St → Hp → Prop := fun o' o' => False
  ct : St → Hp → Prop := fun o' o' => False
noncomputable abbrev TS := Ends → St → Hp → Prop
inductive EP (X : Cx) (pins : List (Addr × Obj)) (σ : St) (Q : VK) (u : Value) (s' : Shared) : Prop
  | mk (v : V) (H' : Hp) (i : Inv X pins σ H' s') (r : RelV v u) (q : Q v H')
inductive TP (X : Cx) (pins : List (Addr × Obj)) (σ : St) (Q : Bool → Hp → Prop) (b : Bool) (s' : Shared) : Prop
  | mk (H' : Hp) (i : Inv X pins σ H' s') (q : Q b H')
inductive AP (X : Cx) (pins : List (Addr × Obj)) (σ : St) (Q : List V → Hp → Prop) (us : List Value) (s' : Shared) : Prop
  | mk (vs : List V) (H' : Hp) (i : Inv X pins σ H' s') (r : Vals vs us) (q : Q vs H')
noncomputable def SP (X : Cx) (pins : List (Addr × Obj)) (D : Ends) (f : Flow) (s' : Shared) : Prop :=
  match f with
  | .next => ∃ σ' H', Inv X pins σ' H' s' ∧ D.nx σ' H'
  | .brk => ∃ σ' H', Inv X pins σ' H' s' ∧ D.bk σ' H'
  | .cont => ∃ σ' H', Inv X pins σ' H' s' ∧ D.ct σ' H'
  | .ret u => ∃ v σ' H', Inv X pins σ' H' s' ∧ RelV v u ∧ D.rt v H'
noncomputable def PE (X : Cx) (e : Expr) (t : TE) : Prop :=
  ∀ (pins : List (Addr × Obj)) (s : Shared) (σ : St) (H : Hp) (Q : VK), Inv X pins σ H s → t σ H Q → wpAny (model X.prog X.w) X.A (eval e X.env) (EP X pins σ Q) X.xe s
noncomputable def PT (X : Cx) (e : Expr) (t : TT) : Prop :=
  ∀ (pins : List (Addr × Obj)) (s : Shared) (σ : St) (H : Hp) (Q : Bool → Hp → Prop), Inv X pins σ H s → t σ H Q → wpAny (model X.prog X.w) X.A (isTrue e X.env (eval e X.env)) (TP X pins σ Q) X.xe s
noncomputable def PW (X : Cx) (e : Expr) (t : TT) : Prop :=
  ∀ (whole : Sem Value) (pins : List (Addr × Obj)) (s : Shared) (σ : St) (H : Hp) (Q : Bool → Hp → Prop), Inv X pins σ H s → t σ H Q → wpAny (model X.prog X.w) X.A (isTrue e X.env whole) (TP X pins σ Q) X.xe s
theorem PW.pt {X : Cx} {e : Expr} {t : TT} (h : PW X e t) : PT X e t := h _
noncomputable def PA (X : Cx) (es : List Expr) (t : TA) : Prop :=
  ∀ (pos : Pos) (pins : List (Addr × Obj)) (s : Shared) (σ : St) (H : Hp) (Q : List V → Hp → Prop), Inv X pins σ H s → t σ H Q → wpAny (model X.prog X.w) X.A (spliced (backTo pos (starEach es X.env))) (AP X pins σ Q) X.xe s
noncomputable def PS (X : Cx) (st : Stmt) (t : TS) : Prop :=
  ∀ (pins : List (Addr × Obj)) (s : Shared) (σ : St) (H : Hp) (D : Ends), Inv X pins σ H s → t D σ H → wpAny (model X.prog X.w) X.A (exec st X.env) (SP X pins D) X.xe s
noncomputable def PSs (X : Cx) (st : List Stmt) (t : TS) : Prop :=
  ∀ (pins : List (Addr × Obj)) (s : Shared) (σ : St) (H : Hp) (D : Ends), Inv X pins σ H s → t D σ H → wpAny (model X.prog X.w) X.A (execs st X.env) (SP X pins D) X.xe s
theorem thn {α : Type} {t : Sem α} {Q Q' : α → Shared → Prop} {M : Model} {A : Around} {E : Value → Shared → Prop} {s : Shared} (h : wpAny M A t Q E s) (hQ : ∀ a s, Q a s → Q' a s) : wpAny M A t Q' E s := wpAny_mono h hQ fun o' o' x => x
end L2
namespace L2
open PySem PySem.Spec PyProof.Rows
section
variable {X : Cx}
theorem bin {a b : Expr} {ta tb : TE} (ha : PE X a ta) (hb : PE X b tb) {pins : List (Addr × Obj)} {s : Shared} {σ : St} {H : Hp} {R : V → V → Hp → Prop} (I : Inv X pins σ H s) (h : ta σ H fun x H1 => tb σ H1 fun y H2 => R x y H2)
    {α : Type} {Q : α → Shared → Prop} {f : Value → Value → Sem α}
    (hf : ∀ v u s2 x y H2, Inv X pins σ H2 s2 → RelV x v → RelV y u → R x y H2 → wpAny (model X.prog X.w) X.A (f v u) Q X.xe s2) :
    wpAny (model X.prog X.w) X.A (eval a X.env) (fun v s₁ => wpAny (model X.prog X.w) X.A (eval b X.env) (fun u s₂ => wpAny (model X.prog X.w) X.A (f v u) Q X.xe s₂) X.xe s₁) X.xe s := by
  refine thn (ha pins s σ H _ I h) fun v s1 ⟨x, H1, I1, r1, q1⟩ => ?_
  refine thn (hb pins s1 σ H1 _ I1 q1) fun u s2 ⟨y, H2, I2, r2, q2⟩ => ?_
  exact hf v u s2 x y H2 I2 r1 r2 q2
noncomputable def tVar (i : Nat) : TE := fun σ H Q => ∃ v, σ[i]? = some (some v) ∧ Q v H
noncomputable def tC (v : V) : TE := fun o' H Q => Q v H
theorem pe_var {i : Nat} {x : Str} {pos : Pos} (hN : X.N[i]? = some x) (hv : Vis X.env.scope x) (hd : (x == ("__debug__" : Str)) = false := by decide) (hcd : (x == ("__classdict__" : Str)) = false := by decide) : PE X (.Name x pos) (tVar i) := by
  intro pins s σ H Q I h
  obtain ⟨v, e, h⟩ := h
  obtain ⟨m, hn, hl⟩ := I.loc
  obtain ⟨u, r, l⟩ := hl i x v hN e hv
  have fin : EP X pins σ Q u s := ⟨v, H, I, r, h⟩
  rcases l with ⟨hk, hm⟩ | ⟨hk, c, hc, hcell⟩
  · exact wpAny_Name (wpAny_loadName_local I.ok.kind hk hn hm fin) hd
  · rcases hk with hk | hk
    · exact wpAny_Name (wpAny_loadName_cell I.ok.kind hk hc hcell fin) hd
    · exact wpAny_Name (wpAny_loadName_free I.ok.kind hk hc hcell fin hcd) hd
theorem pe_int {i j pos} : PE X (.Constant (.int i) j pos) (tC (.int i)) := fun o' o' o' H o' I h => wpAny_Constant_int ⟨.int i, H, I.tok _, ⟨_, rfl⟩, h⟩
theorem pe_bl {b j pos} : PE X (.Constant (.bool b) j pos) (tC (.bl b)) := fun o' o' o' H o' I h => Constant_bool ⟨.bl b, H, I, rfl, h⟩
theorem pe_str {x j pos} : PE X (.Constant (.str x) j pos) (tC (.str x)) := fun o' o' o' H o' I h => Calls.Constant_str ⟨.str x, H, I.tok _, ⟨_, rfl⟩, h⟩
noncomputable def Gl (X : Cx) (x : Str) : Prop := X.env.kindOf x = some .globalImplicit
theorem ld_glob {E : Value → Shared → Prop} {pins : List (Addr × Obj)} {s : Shared} {σ : St} {H : Hp} {x : Str} {u : Value} {pos : Pos} {Q : Value → Shared → Prop} (I : Inv X pins σ H s) (hg : Gl X x) (hm : X.mg x = some u) (h : Q u s)
    (hd : (x == ("__debug__" : Str)) = false := by decide) : wpAny (model X.prog X.w) X.A (eval (.Name x pos) X.env) Q E s :=
  Calls.Name_function_global I.ok.kind hg (Calls.loadGlobal_global (by rw [I.ok.glob]; exact I.mod.glob.keeps I.bk) hm h) hd
theorem ld_blt {E : Value → Shared → Prop} {pins : List (Addr × Obj)} {s : Shared} {σ : St} {H : Hp} {x : Str} {u : Value} {pos : Pos} {Q : Value → Shared → Prop} (I : Inv X pins σ H s) (hg : Gl X x) (hm : X.mg x = none) (hv : bootBuiltins x = some u) (h : Q u s)
    (hn : x ≠ "__name__" := by decide) (hd : (x == ("__debug__" : Str)) = false := by decide) : wpAny (model X.prog X.w) X.A (eval (.Name x pos) X.env) Q E s := by
  obtain ⟨mb, h1, h2⟩ := I.mod.blt
  exact Calls.Name_function_global I.ok.kind hg (Calls.loadGlobal_builtin (by rw [I.ok.glob]; exact I.mod.glob.keeps I.bk) hm (by rw [I.ok.blt]; exact h1.keeps I.bk) ((h2 x hn).trans hv) h) hd
theorem pe_glob {x : Str} {v : V} {u : Value} {pos : Pos} (hg : Gl X x) (hm : X.mg x = some u) (r : RelV v u) (hd : (x == ("__debug__" : Str)) = false := by decide) : PE X (.Name x pos) (tC v) :=
  fun o' o' o' H o' I h => ld_glob I hg hm ⟨v, H, I, r, h⟩ hd
theorem pe_bltn {x : Str} {v : V} {u : Value} {pos : Pos} (hg : Gl X x) (hm : X.mg x = none) (hv : bootBuiltins x = some u) (r : RelV v u) (hn : x ≠ "__name__" := by decide) (hd : (x == ("__debug__" : Str)) = false := by decide) : PE X (.Name x pos) (tC v) :=
  fun o' o' o' H o' I h => ld_blt I hg hm hv ⟨v, H, I, r, h⟩ hn hd
variable {a b : Expr} {ta tb : TE} {pos : Pos}
variable {tA tB' : TT} {rest : List Expr}
noncomputable def tAnd (t u : TT) : TT := fun σ H Q => t σ H fun c H1 => if c = true then u σ H1 Q else Q false H1
noncomputable def tOr (t u : TT) : TT := fun σ H Q => t σ H fun c H1 => if c = true then Q true H1 else u σ H1 Q
noncomputable def tNot (t : TT) : TT := fun σ H Q => t σ H fun c H1 => Q (!c) H1
theorem pw_and1 (ha : PT X a tA) : PW X (.BoolOp .And [a] pos) tA := by
  intro wh pins s σ H Q I h
  refine isTrue_and (thn (ha pins s σ H Q I h) fun c s1 e => ?_)
  cases c with
  | true => exact isTrue_and_nil e
  | false => exact e
theorem pw_or1 (ha : PT X a tA) : PW X (.BoolOp .Or [a] pos) tA := by
  intro wh pins s σ H Q I h
  refine isTrue_or (thn (ha pins s σ H Q I h) fun c s1 e => ?_)
  cases c with
  | false => exact isTrue_or_nil e
  | true => exact e
theorem pw_and (ha : PT X a tA) (hb : PW X (.BoolOp .And (b :: rest) pos) tB') : PW X (.BoolOp .And (a :: b :: rest) pos) (tAnd tA tB') := by
  intro wh pins s σ H Q I h
  refine isTrue_and (thn (ha pins s σ H _ I h) fun c s1 ⟨H1, I1, q1⟩ => ?_)
  cases c with
  | true => exact hb wh pins s1 σ H1 Q I1 q1
  | false => exact ⟨H1, I1, q1⟩
theorem pw_or (ha : PT X a tA) (hb : PW X (.BoolOp .Or (b :: rest) pos) tB') : PW X (.BoolOp .Or (a :: b :: rest) pos) (tOr tA tB') := by
  intro wh pins s σ H Q I h
  refine isTrue_or (thn (ha pins s σ H _ I h) fun c s1 ⟨H1, I1, q1⟩ => ?_)
  cases c with
  | true => exact ⟨H1, I1, q1⟩
  | false => exact hb wh pins s1 σ H1 Q I1 q1
theorem pt_not (ha : PT X a tA) : PT X (.UnaryOp .Not a pos) (tNot tA) := by
  intro pins s σ H Q I h
  exact isTrue_not (thn (ha pins s σ H (fun c H1 => Q (!c) H1) I h) fun c s1 ⟨H1, I1, q⟩ => ⟨H1, I1, q⟩)
theorem pe_one {op} {t : TE} (h : PE X a t) : PE X (.BoolOp op [a] pos) t := fun pins s σ H Q I hw => BoolOp_one (h pins s σ H Q I hw)
end
end L2
namespace L2
open PySem PySem.Spec PyProof.Rows
noncomputable def SqL (K : PySem.W.Frag) (H : Hp) (a : Addr) (xs : List V) : Prop :=
  Rd H a (.lst xs) ∨
    ∃ (o : Obj) (its : Array Value) (n : Nat), K.lookup a = some o ∧ o.cls = .type "list" ∧ o.dict = none ∧ o.data = .seq its n ∧ its.size ≤ sizeLine ∧ Vals xs its.toList
noncomputable def SqT (K : PySem.W.Frag) (H : Hp) (a : Addr) (xs : List V) : Prop :=
  Rd H a (.tup xs) ∨
    ∃ (o : Obj) (its : Array Value) (n : Nat), K.lookup a = some o ∧ o.cls = .type "tuple" ∧ o.dict = none ∧ o.data = .seq its n ∧ its.size ≤ sizeLine ∧ Vals xs its.toList
noncomputable def absV : Value → Option V
  | .none => some .non
  | .bool b => some (.bl b)
  | .int i _ => some (.int i)
  | .str x _ => some (.str x)
  | .bytes b _ => some (.byt b)
  | .float b _ => some (.flt b)
  | .ref a => some (.ref a)
  | .type n => some (.ty n)
  | _ => none
theorem RelV.abs {x : V} {u : Value} (r : RelV x u) : absV u = some x := by
  cases x with
  | non => cases r; rfl
  | bl _ => cases r; rfl
  | int _ => obtain ⟨t, rfl⟩ := r; rfl
  | str _ => obtain ⟨t, rfl⟩ := r; rfl
  | byt _ => obtain ⟨t, rfl⟩ := r; rfl
  | flt _ => obtain ⟨t, rfl⟩ := r; rfl
  | ref _ => cases r; rfl
  | ty _ => cases r; rfl
theorem RelV.inj {x y : V} {u : Value} (r : RelV x u) (q : RelV y u) : x = y := Option.some.inj (r.abs.symm.trans q.abs)
theorem Vals.inj : ∀ {xs ys : List V} {us : List Value}, Vals xs us → Vals ys us → xs = ys := by
  intro xs ys us h
  induction h generalizing ys with
  | nil => intro h'; cases h'; rfl
  | cons r t ih => intro h'; cases h' with | cons r' t' => rw [r.inj r', ih t']
section
variable {X : Cx} {pins : List (Addr × Obj)} {σ : St} {H : Hp} {s : Shared} {a : Addr} {xs ys : List V}
theorem SqL.of {K : PySem.W.Frag} (h : H a = some (.lst xs)) : SqL K H a xs := .inl (.inl h)
theorem SqT.of {K : PySem.W.Frag} (h : H a = some (.tup xs)) : SqT K H a xs := .inl (.inl h)
theorem Inv.list (I : Inv X pins σ H s) (h : SqL X.K H a xs) : ∃ its : List Value, Vals xs its ∧ PlainL s.heap a its.toArray ∧ xs.length ≤ sizeLine := by
  rcases h with h | ⟨o, its, n, hk, hc, hd, hs, hz, r⟩
  · obtain ⟨z, its, n, r, e⟩ := h.ok I.hok
    exact ⟨its, r, ⟨_, n, e, rfl, rfl, rfl⟩, z⟩
  · refine ⟨its.toList, r, ⟨o, n, I.kIn a o hk, hc, hd, by simpa using hs⟩, ?_⟩
    have e := r.length
    simp only [Array.length_toList] at e
    omega
theorem Inv.tuple (I : Inv X pins σ H s) (h : SqT X.K H a xs) : ∃ its : List Value, Vals xs its ∧ IsTup s.heap a its.toArray ∧ xs.length ≤ sizeLine := by
  rcases h with h | ⟨o, its, n, hk, hc, _, hs, hz, r⟩
  · obtain ⟨z, its, r, p⟩ := h.ok I.hok
    exact ⟨its, r, p.tup, z⟩
  · refine ⟨its.toList, r, ⟨o, I.kIn a o hk, hc, n, by simpa using hs⟩, ?_⟩
    have e := r.length
    simp only [Array.length_toList] at e
    omega
theorem Inv.list_inj (I : Inv X pins σ H s) (h : SqL X.K H a xs) (h' : SqL X.K H a ys) : xs = ys := by
  obtain ⟨its, r, ⟨o, n, e, _, _, d⟩, _⟩ := I.list h
  obtain ⟨its', r', ⟨o', n', e', _, _, d'⟩, _⟩ := I.list h'
  rw [e] at e'; cases e'
  rw [d] at d'
  injection d' with d1 _
  have : its = its' := by simpa using congrArg Array.toList d1
  subst this
  exact r.inj r'
theorem Inv.tuple_inj (I : Inv X pins σ H s) (h : SqT X.K H a xs) (h' : SqT X.K H a ys) : xs = ys := by
  obtain ⟨its, r, ⟨o, e, _, n, d⟩, _⟩ := I.tuple h
  obtain ⟨its', r', ⟨o', e', _, n', d'⟩, _⟩ := I.tuple h'
  rw [e] at e'; cases e'
  rw [d] at d'
  injection d' with d1 _
  have : its = its' := by simpa using congrArg Array.toList d1
  subst this
  exact r.inj r'
end
noncomputable abbrev Cx.wish (X : Cx) (E : Value → Shared → Prop) : Cx := { X with xe := E }
noncomputable abbrev Cx.nox (X : Cx) : Cx := X.wish fun o' o' => False
theorem Cx.Ok.wish {X : Cx} (ok : X.Ok) (E : Value → Shared → Prop) : (X.wish E).Ok :=
  ⟨ok.mod, ok.kind, ok.glob, ok.blt, ok.above, ok.inj, ok.has, ok.cab, ok.hd, ok.frames, ok.stk, ok.exf, ok.bs, ok.bsz, ok.noex, ok.exfs, ok.funs, ok.frf⟩
theorem Cx.Ok.unwish {X : Cx} {E : Value → Shared → Prop} (ok : (X.wish E).Ok) : X.Ok :=
  ⟨ok.mod, ok.kind, ok.glob, ok.blt, ok.above, ok.inj, ok.has, ok.cab, ok.hd, ok.frames, ok.stk, ok.exf, ok.bs, ok.bsz, ok.noex, ok.exfs, ok.funs, ok.frf⟩
section
variable {X : Cx} {pins : List (Addr × Obj)} {σ : St} {H : Hp} {s : Shared} {E : Value → Shared → Prop}
theorem Inv.wish (I : Inv X pins σ H s) (E : Value → Shared → Prop) : Inv (X.wish E) pins σ H s := ⟨I.ok.wish E, I.os, I.bare, I.base, I.loc, I.cell, I.free, I.freeC, I.pin, I.hok, I.len⟩
theorem Inv.unwish (I : Inv (X.wish E) pins σ H s) : Inv X pins σ H s := ⟨I.ok.unwish, I.os, I.bare, I.base, I.loc, I.cell, I.free, I.freeC, I.pin, I.hok, I.len⟩
theorem SP.unwish {D : Ends} {f : Flow} {s' : Shared} (h : SP (X.wish E) pins D f s') : SP X pins D f s' := by
  cases f with
  | next => obtain ⟨σ', H', I, q⟩ := h; exact ⟨σ', H', I.unwish, q⟩
  | brk => obtain ⟨σ', H', I, q⟩ := h; exact ⟨σ', H', I.unwish, q⟩
  | cont => obtain ⟨σ', H', I, q⟩ := h; exact ⟨σ', H', I.unwish, q⟩
  | ret u => obtain ⟨v, σ', H', I, r, q⟩ := h; exact ⟨v, σ', H', I.unwish, r, q⟩
theorem PSs.nox {st : List Stmt} {t : TS} (h : PSs X.nox st t) : PSs X st t := fun pins s σ H D I hw =>
  wpAny_mono (h pins s σ H D (I.wish _) hw) (fun o' o' q => q.unwish) fun o' o' z => False.elim z
end
section
variable {X : Cx} {st : Stmt} {rest : List Stmt} {t u : TS} {e : Expr} {te : TE} {pos : Pos}
noncomputable def tNext : TS := fun D σ H => D.nx σ H
noncomputable def tSeq (t u : TS) : TS := fun D σ H => t { D with nx := u D } σ H
theorem pss_nil : PSs X [] tNext := fun o' o' σ H o' I h => wpAny_execs_nil ⟨σ, H, I, h⟩
theorem pss_cons (h1 : PS X st t) (h2 : PSs X rest u) : PSs X (st :: rest) (tSeq t u) := by
  intro pins s σ H D I h
  refine wpAny_execs_cons (thn (h1 pins s σ H { D with nx := u D } I h) fun f s1 q => ?_)
  cases f with
  | next =>
    obtain ⟨σ', H', I', q⟩ := q
    exact h2 pins s1 σ' H' D I' q
  | ret v => exact q
  | brk => exact q
  | cont => exact q
theorem Inv.quiet {pins : List (Addr × Obj)} {σ : St} {H : Hp} {s : Shared} (I : Inv X pins σ H s) : interactive X.env = false := by simp [interactive, I.ok.kind]
noncomputable def tDrop (te : TE) : TS := fun D σ H => te σ H fun o' H1 => D.nx σ H1
theorem ps_expr (he : PE X e te) (hs : swapsWith e none pos.line X.env = pure false := by rfl) : PS X (.Expr e pos) (tDrop te) := by
  intro pins s σ H D I h
  exact wpAny_Expr_any (thn (he pins s σ H _ I h) fun v s1 ⟨x, H1, I1, r1, q1⟩ => ⟨σ, H1, I1, q1⟩) I.quiet hs
noncomputable def tRet (te : TE) : TS := fun D σ H => te σ H D.rt
theorem ps_ret (he : PE X e te) : PS X (.Return (some e) pos) (tRet te) := by
  intro pins s σ H D I h
  exact wpAny_Return_some (thn (he pins s σ H _ I h) fun v s1 ⟨x, H1, I1, r1, q1⟩ => ⟨x, σ, H1, I1, r1, q1⟩)
noncomputable def tIfS (c : TT) (t u : TS) : TS := fun D σ H => c σ H fun b H1 => if b = true then t D σ H1 else u D σ H1
theorem ps_if {c : Expr} {a b : List Stmt} {tc : TT} (hc : PT X c tc) (ha : PSs X a t) (hb : PSs X b u) : PS X (.If c a b pos) (tIfS tc t u) := by
  intro pins s σ H D I h
  refine wpAny_If (thn (hc pins s σ H _ I h) fun d s1 ⟨H1, I1, q1⟩ => ?_)
  cases d with
  | true => exact ha pins s1 σ H1 D I1 q1
  | false => exact hb pins s1 σ H1 D I1 q1
noncomputable def tNever : TS := fun o' o' o' => False
theorem ps_never : PS X st tNever := fun o' o' o' o' o' o' h => h.elim
end
noncomputable abbrev TG := V → St → Hp → (St → Hp → Prop) → Prop
noncomputable abbrev TGs := List V → St → Hp → (St → Hp → Prop) → Prop
noncomputable def PG (X : Cx) (target : Expr) (t : TG) : Prop :=
  ∀ (pins : List (Addr × Obj)) (s : Shared) (σ : St) (H : Hp) (v : V) (u : Value) (Q : St → Hp → Prop), Inv X pins σ H s → RelV v u → t v σ H Q →
    wpAny (model X.prog X.w) X.A (assign target X.env u) (fun o' s' => ∃ σ' H', Inv X pins σ' H' s' ∧ Q σ' H') X.xe s
noncomputable def PGs (X : Cx) (ts : List Expr) (t : TGs) : Prop :=
  ∀ (pins : List (Addr × Obj)) (s : Shared) (σ : St) (H : Hp) (vs : List V) (us : List Value) (Q : St → Hp → Prop), Inv X pins σ H s → Vals vs us → t vs σ H Q →
    wpAny (model X.prog X.w) X.A (assignInOrder ((assignEach ts X.env).map (·.2)) us) (fun o' s' => ∃ σ' H', Inv X pins σ' H' s' ∧ Q σ' H') X.xe s
noncomputable abbrev TSet := V → V → V → Hp → (Hp → Prop) → Prop
noncomputable def PSet (X : Cx) (t : TSet) : Prop :=
  ∀ (pins : List (Addr × Obj)) (s : Shared) (σ : St) (H : Hp) (o i v : V) (ov iv u : Value) (Q : Hp → Prop), Inv X pins σ H s → RelV o ov → RelV i iv → RelV v u → t o i v H Q →
    wpAny (model X.prog X.w) X.A (setItem ov iv u) (fun o' s' => ∃ H', Inv X pins σ H' s' ∧ Q H') X.xe s
section
variable {X : Cx} {pos : Pos}
noncomputable def gName (i : Nat) : TG := fun v σ H Q => Q (σ.set i (some v)) H
theorem pg_name {i : Nat} {x : Str} (hN : X.N.Nodup) (hi : X.N[i]? = some x) (hx : Loc X.env.scope x) (hf : X.fn x = true ∨ X.env.scope.names.lookup x = some .local := by first | exact .inl rfl | exact .inr rfl | assumption) : PG X (.Name x pos) (gName i) := by
  intro pins s σ H v u Q I r h
  exact wpAny_assign_Name (store_ok I hN hi hx r (fun s' I' => ⟨_, H, I', h⟩) hf)
noncomputable def gNil : TGs := fun vs σ H Q => vs = [] ∧ Q σ H
noncomputable def gCons (t : TG) (u : TGs) : TGs := fun vs σ H Q => ∃ v r, vs = v :: r ∧ t v σ H fun σ' H' => u r σ' H' Q
theorem pgs_nil : PGs X [] gNil := by
  intro pins s σ H vs us Q I r h
  obtain ⟨e, h⟩ := h
  subst e
  cases r
  exact assignInOrder_nil ⟨σ, H, I, h⟩
theorem pgs_cons {e : Expr} {es : List Expr} {t : TG} {u : TGs} (h1 : PG X e t) (h2 : PGs X es u)
    (hs : (assignEach (e :: es) X.env).map (·.2) = assign e X.env :: (assignEach es X.env).map (·.2) := by rfl) : PGs X (e :: es) (gCons t u) := by
  intro pins s σ H vs us Q I r h
  obtain ⟨v, vr, e1, h⟩ := h
  subst e1
  cases r with
  | cons r rr =>
    rw [hs]
    refine assignInOrder_cons (thn (h1 pins s σ H _ _ _ I r h) fun _ s1 ⟨σ1, H1, I1, q1⟩ => ?_)
    exact h2 pins s1 σ1 H1 _ _ Q I1 rr q1
noncomputable def gTup (K : PySem.W.Frag) (n : Nat) (t : TGs) : TG := fun v σ H Q => ∃ a xs, v = .ref a ∧ SqT K H a xs ∧ xs.length = n ∧ t xs σ H Q
theorem pg_tup {es : List Expr} {k : Nat} {t : TGs} {n : Nat} (hc : X.calm = true) (h : PGs X es t)
    (hn : (assignEach es X.env).length = n := by rfl) (hst : (assignEach es X.env).findIdx? (·.1) = none := by rfl) : PG X (.Tuple es k pos) (gTup X.K n t) := by
  intro pins s σ H v u Q I r hw
  obtain ⟨a, xs, e1, hq, hl, hw⟩ := hw
  subst e1
  cases r
  obtain ⟨its, rv, ht, hz⟩ := I.tuple hq
  refine assign_Tuple_tuple (I.ok.hd hc) ht (by simp [hn, ← hl, rv.length]) hst fun h' hx => ?_
  have I1 : Inv X pins σ H { s with heap := h' } := I.kept (t' := s.toks) fun b o e => hx b o (Nat.ne_of_lt (Heap.lt_size e)) e
  exact h pins _ σ H xs _ Q I1 (by simpa using rv) hw
noncomputable def gSub (to ti : TE) (t : TSet) : TG := fun v σ H Q => to σ H fun o H1 => ti σ H1 fun i H2 => t o i v H2 fun H3 => Q σ H3
theorem pg_sub {o i : Expr} {to ti : TE} {t : TSet} (ho : PE X o to) (hi : PE X i ti) (hs : PSet X t)
    (ha : ∀ v, assign (.Subscript o i pos) X.env v = (do
      let ov ← holding [v] (eval o X.env)
      let iv ← holding [v, ov] (eval i X.env)
      standAt pos
      holding [v, ov, iv] (setItem ov iv v)
      release [v, ov, iv] []) := by intro _; rfl) : PG X (.Subscript o i pos) (gSub to ti t) := by
  intro pins s σ H v u Q I r h
  rw [ha]
  refine wpAny_bind (wpAny_holding (thn (ho pins s σ H _ I h) fun ov s1 ⟨x, H1, I1, r1, q1⟩ => ?_))
  refine wpAny_bind (wpAny_holding (thn (hi pins s1 σ H1 _ I1 q1) fun iv s2 ⟨y, H2, I2, r2, q2⟩ => ?_))
  refine wpAny_bind (wpAny_standAt (wpAny_bind (wpAny_holding (thn (hs pins s2 σ H2 x y v ov iv u _ I2 r1 r2 r q2) fun _ s3 ⟨H3, I3, q3⟩ => ?_))))
  exact wpAny_release ⟨σ, H3, I3, q3⟩
noncomputable def tAsg (te : TE) (g : TG) : TS := fun D σ H => te σ H fun x H1 => g x σ H1 D.nx
theorem ps_asg {tg e : Expr} {te : TE} {g : TG} (he : PE X e te) (hg : PG X tg g) (hs : swapsWithSole [tg] e pos.line X.env = pure false := by rfl) (hw : swappedStores [tg] e X.env = pure none := by rfl)
    (h1 : (assignEach [tg] X.env).map (·.2) = [assign tg X.env] := by rfl) : PS X (.Assign [tg] e pos) (tAsg te g) := by
  intro pins s σ H D I h
  refine wpAny_Assign_stores (thn (he pins s σ H _ I h) fun v s1 ⟨x, H1, I1, r1, q1⟩ => ?_) hs hw
  rw [h1]
  exact thn (hg pins s1 σ H1 x v _ I1 r1 q1) fun o' s2 q => q
end
section
variable {X : Cx} {pos : Pos}
noncomputable def tWhile (c : TT) (tb : TS) : TS := fun D σ H => ∃ W : Nat → St → Hp → Prop, (∃ m, W m σ H) ∧ ∀ m σ H, W m σ H →
  c σ H fun b H1 => if b = true then ∃ N : St → Hp → Prop, (∀ σ' H', N σ' H' → ∃ m', m' < m ∧ W m' σ' H') ∧ tb { D with nx := N, ct := N, bk := D.nx } σ H1 else D.nx σ H1
theorem ps_while {c : Expr} {body : List Stmt} {tc : TT} {tb : TS} (hp : PassesOwn (model X.prog X.w) X.A X.env X.xe) (hc : PT X c tc) (hb : PSs X body tb) : PS X (.While c body [] pos) (tWhile tc tb) := by
  intro pins s σ H D I h
  obtain ⟨W, ⟨m0, w0⟩, turn⟩ := h
  refine wpAny_While (codeAny_whileLoop (fun n s' => ∃ σ' H', Inv X pins σ' H' s' ∧ W n σ' H') ?_ m0 ⟨σ, H, I, w0⟩)
  rintro n s1 ⟨σ1, H1, I1, w1⟩
  refine wpAny_passesOwn hp (thn (hc pins s1 σ1 H1 _ I1 (turn n σ1 H1 w1)) fun b s2 ⟨H2, I2, q2⟩ => ?_)
  cases b with
  | true =>
    obtain ⟨N, hN, q2⟩ := q2
    rw [if_pos rfl]
    refine wpAny_passesOwn hp (thn (hb pins s2 σ1 H2 _ I2 q2) fun f s3 q3 => ?_)
    cases f with
    | next =>
      obtain ⟨σ3, H3, I3, n3⟩ := q3
      obtain ⟨m', hm, w3⟩ := hN σ3 H3 n3
      exact ⟨m', hm, σ3, H3, I3, w3⟩
    | cont =>
      obtain ⟨σ3, H3, I3, n3⟩ := q3
      obtain ⟨m', hm, w3⟩ := hN σ3 H3 n3
      exact ⟨m', hm, σ3, H3, I3, w3⟩
    | brk => exact q3
    | ret v => exact q3
  | false =>
    rw [if_neg Bool.false_ne_true]
    exact wpAny_execs_nil ⟨σ1, H2, I2, q2⟩
end
set_option genInjectivity false in
structure It where
  go : Nat → Hp → Prop
  yld : Nat → Hp → V → Hp → Prop
  stop : Nat → Hp → Prop
noncomputable def FpOk (X : Cx) (pins : List (Addr × Obj)) (H : Hp) (b : Addr) : Prop :=
  H b = none ∧ b ≠ X.env.locals ∧ b ∉ X.fs ∧ (b ∈ X.ex ∨ X.s₀.heap.objs.size ≤ b) ∧ (∀ x c, X.env.cells.lookup x = some c → c ≠ b) ∧ ∀ p ∈ X.pn ++ pins, p.1 ≠ b
theorem Inv.fpOk {X : Cx} {pins : List (Addr × Obj)} {σ : St} {H H' : Hp} {s : Shared} {b : Addr} (I : Inv X pins σ H s) (hb : s.heap.objs.size ≤ b) (hn : H' b = none) : FpOk X pins H' b := by
  refine ⟨hn, Nat.ne_of_gt (Nat.lt_of_lt_of_le I.lt hb), I.nofs hb, .inr (Nat.le_trans I.sz hb), fun x c e z => ?_, fun p hp z => ?_⟩
  · obtain ⟨v, q⟩ := I.cell x c e
    exact absurd (Nat.lt_of_lt_of_le q.lt (by rw [z]; exact hb)) (Nat.lt_irrefl _)
  · exact absurd (Nat.lt_of_lt_of_le (Heap.lt_size (I.pin p hp).1) (by rw [z]; exact hb)) (Nat.lt_irrefl _)
structure Turn (P : Program) (w : World) (K : PySem.W.Frag) (tg : Expr) (J : It) (fp : List Addr) (it : Addr) (tn : Nat → Heap → Prop) : Prop where
  mem : it ∈ fp
  obj : ∀ i h, tn i h → ∀ b ∈ fp, ∃ o, h.get? b = some o ∧ ∀ v, o.data ≠ .cell v
  keep : ∀ i h h', tn i h → (∀ b ∈ fp, ∀ o, h.get? b = some o → h'.get? b = some o) → tn i h'
  item : ∀ (X : Cx), X.prog = P → X.w = w → X.K = K → X.calm = true → ∀ (i : Nat) (pins : List (Addr × Obj)) (s : Shared) (σ : St) (H : Hp) (E : Value → Shared → Prop), Inv X pins σ H s → (∀ b ∈ fp, FpOk X pins H b) → tn i s.heap → J.go i H →
    wpAny (model P w) X.A (pyNext (.ref it)) (fun r s1 => ∃ u, r = some u ∧
      wpAny (model P w) X.A (letOwnedTupleGo tg (.ref it) u) (fun o' s2 => ∃ x H', Inv X pins σ H' s2 ∧ RelV x u ∧ J.yld i H x H' ∧ tn (i + 1) s2.heap ∧ ∀ b ∈ fp, H' b = none) E s1) E s
  done : ∀ (X : Cx), X.prog = P → X.w = w → X.K = K → X.calm = true → ∀ (i : Nat) (pins : List (Addr × Obj)) (s : Shared) (σ : St) (H : Hp) (E : Value → Shared → Prop), Inv X pins σ H s → (∀ b ∈ fp, FpOk X pins H b) → tn i s.heap → J.stop i H →
    wpAny (model P w) X.A (pyNext (.ref it)) (fun r s1 => r = none ∧ Inv X pins σ H s1) E s
  self : ∀ (A : Around) (i : Nat) (s : Shared) (Q : Value → Shared → Prop) (E : Value → Shared → Prop), tn i s.heap → Q (.ref it) s → wpAny (model P w) A (pyIter (.ref it)) Q E s
noncomputable abbrev TI := St → Hp → (It → Hp → Prop) → Prop
noncomputable def PIE (X : Cx) (pins : List (Addr × Obj)) (σ : St) (tg : Expr) (R : It → Hp → Prop) (itv : Value) (s2 : Shared) : Prop :=
  ∃ (it : Addr) (fp : List Addr) (tn : Nat → Heap → Prop) (J : It) (H' : Hp), itv = .ref it ∧ Inv X pins σ H' s2 ∧ Turn X.prog X.w X.K tg J fp it tn ∧ tn 0 s2.heap ∧ (∀ b ∈ fp, FpOk X pins H' b) ∧ R J H'
noncomputable def PI (X : Cx) (tg iter : Expr) (wi : TI) : Prop :=
  ∀ (pins : List (Addr × Obj)) (s : Shared) (σ : St) (H : Hp) (R : It → Hp → Prop), Inv X pins σ H s → wi σ H R →
    wpAny (model X.prog X.w) X.A (eval iter X.env) (fun v s1 => wpAny (model X.prog X.w) X.A (pyIter v) (PIE X pins σ tg R) X.xe s1) X.xe s
theorem go_of {M : Model} {A : Around} {E : Value → Shared → Prop} {s : Shared} {tg : Expr} {it : Addr} {u : Value} {o : Obj} {n : String} {vs : Array Value} {Q : Unit → Shared → Prop} (ho : s.heap.get? it = some o) (hc : o.cls = .type n) (hd : o.data = .fields vs)
    (hn : ["enumerate", "zip", "dict_itemiterator", "dict_reverseitemiterator", "odict_iterator", "itertools.zip_longest", "itertools.pairwise"].contains n = false) (hQ : Q () s) : wpAny M A (letOwnedTupleGo tg (.ref it) u) Q E s := by
  unfold letOwnedTupleGo
  cases tg <;> first
    | exact wpAny_pure hQ
    | (cases u <;> first
        | exact wpAny_pure hQ
        | (refine wpAny_bind (wpAny_load ho ?_)
           rw [hc, hd]
           show wpAny M A (if (["enumerate", "zip", "dict_itemiterator", "dict_reverseitemiterator", "odict_iterator", "itertools.zip_longest", "itertools.pairwise"].contains n && vs[0]? == some (rawInt _)) = true then _ else _) Q E s
           rw [if_neg (by intro h; rw [hn, Bool.false_and] at h; cases h)]
           exact wpAny_pure hQ))
noncomputable def Itl (K : PySem.W.Frag) (a : Addr) : It :=
  ⟨fun i H => ∃ xs x, SqL K H a xs ∧ xs[i]? = some x, fun i H x H' => H' = H ∧ ∀ xs, SqL K H a xs → xs[i]? = some x, fun i H => ∃ xs, SqL K H a xs ∧ xs.length ≤ i⟩
noncomputable def Itt (K : PySem.W.Frag) (a : Addr) : It :=
  ⟨fun i H => ∃ xs x, SqT K H a xs ∧ xs[i]? = some x, fun i H x H' => H' = H ∧ ∀ xs, SqT K H a xs → xs[i]? = some x, fun i H => ∃ xs, SqT K H a xs ∧ xs.length ≤ i⟩
noncomputable def Itr (lo : Int) (n : Nat) : It := ⟨fun i o' => i < n, fun i H x H' => H' = H ∧ x = .int (lo + i), fun i o' => n ≤ i⟩
theorem turn_list {P : Program} {w : World} {K : PySem.W.Frag} {tg : Expr} (a it : Addr) : Turn P w K tg (Itl K a) [it] it (fun i h => h.IsListIter it a i) where
  mem := by simp
  obj := fun i h st b hb => by
    have e : b = it := by simpa using hb
    subst e
    obtain ⟨o, e, c, d⟩ := st
    exact ⟨o, e, fun v z => by rw [d] at z; cases z⟩
  keep := fun i h h' st k => st.at fun o e => k it (by simp) o e
  item := by
    intro X hP hw hK hc i pins s σ H E I hf st hg
    subst hP hw hK
    obtain ⟨xs, x, hq, hx⟩ := hg
    obtain ⟨its, rv, p, hz⟩ := I.list hq
    obtain ⟨u, hu, ru⟩ := rv.get hx
    obtain ⟨f0, f1, f2, f3, f4, f5⟩ := hf it (by simp)
    refine wpAny_pyNext_list_item st p.isList (x := u) (by simpa using hu) fun h' st' sb => ?_
    have I1 : Inv X pins σ H { s with heap := h' } := I.turned (t' := s.toks) (fun b o hb e => (sb.2 b hb).trans e) f0 f1 f3 f4 f5
    obtain ⟨o, e, c, d⟩ := id st'
    exact ⟨u, rfl, go_of (s := { s with heap := h' }) e c d (by decide) ⟨x, H, I1, ru, ⟨rfl, fun ys hy => by rw [I.list_inj hy hq]; exact hx⟩, st', fun b hb => (hf b hb).1⟩⟩
  done := by
    intro X hP hw hK hc i pins s σ H E I hf st hg
    subst hP hw hK
    obtain ⟨xs, hq, hx⟩ := hg
    obtain ⟨its, rv, p, hz⟩ := I.list hq
    obtain ⟨f0, f1, f2, f3, f4, f5⟩ := hf it (by simp)
    have hl := rv.length
    exact wpAny_pyNext_list_end (I.ok.hd hc) st p.isList (by simp; omega) fun h' eb => ⟨rfl, I.turned (t' := s.toks) (fun b o hb e => eb b o hb e) f0 f1 f3 f4 f5⟩
  self := fun o' o' o' o' o' st h => wpAny_pyIter_listiter st h
theorem turn_tuple {P : Program} {w : World} {K : PySem.W.Frag} {tg : Expr} (a it : Addr) : Turn P w K tg (Itt K a) [it] it (fun i h => h.IsTupleIter it a i) where
  mem := by simp
  obj := fun i h st b hb => by
    have e : b = it := by simpa using hb
    subst e
    obtain ⟨o, e, c, d⟩ := st
    exact ⟨o, e, fun v z => by rw [d] at z; cases z⟩
  keep := fun i h h' st k => st.at fun o e => k it (by simp) o e
  item := by
    intro X hP hw hK hc i pins s σ H E I hf st hg
    subst hP hw hK
    obtain ⟨xs, x, hq, hx⟩ := hg
    obtain ⟨its, rv, p, hz⟩ := I.tuple hq
    obtain ⟨u, hu, ru⟩ := rv.get hx
    obtain ⟨f0, f1, f2, f3, f4, f5⟩ := hf it (by simp)
    refine wpAny_pyNext_tuple_item st (show s.heap.IsTuple a its.toArray from p) (x := u) (by simpa using hu) fun h' st' sb => ?_
    have I1 : Inv X pins σ H { s with heap := h' } := I.turned (t' := s.toks) (fun b o hb e => (sb.2 b hb).trans e) f0 f1 f3 f4 f5
    obtain ⟨o, e, c, d⟩ := id st'
    exact ⟨u, rfl, go_of (s := { s with heap := h' }) e c d (by decide) ⟨x, H, I1, ru, ⟨rfl, fun ys hy => by rw [I.tuple_inj hy hq]; exact hx⟩, st', fun b hb => (hf b hb).1⟩⟩
  done := by
    intro X hP hw hK hc i pins s σ H E I hf st hg
    subst hP hw hK
    obtain ⟨xs, hq, hx⟩ := hg
    obtain ⟨its, rv, p, hz⟩ := I.tuple hq
    obtain ⟨f0, f1, f2, f3, f4, f5⟩ := hf it (by simp)
    have hl := rv.length
    exact wpAny_pyNext_tuple_end (I.ok.hd hc) st (show s.heap.IsTuple a its.toArray from p) (by simp; omega) fun h' eb => ⟨rfl, I.turned (t' := s.toks) (fun b o hb e => eb b o hb e) f0 f1 f3 f4 f5⟩
  self := fun o' o' o' o' o' st h => wpAny_pyIter_tupleiter st h
theorem turn_range {P : Program} {w : World} {K : PySem.W.Frag} {tg : Expr} (it : Addr) (lo : Int) (n : Nat) : Turn P w K tg (Itr lo n) [it] it (fun i h => IsRangeIter h it (lo + (i : Nat) * 1) ((n : Int) - (i : Nat)) 1) where
  mem := by simp
  obj := fun i h st b hb => by
    have e : b = it := by simpa using hb
    subst e
    exact ⟨_, st, fun v z => by
      have z' : Data.fields _ = Data.cell v := z
      cases z'⟩
  keep := fun i h h' st k => k it (by simp) _ st
  item := by
    intro X hP hw hK hc i pins s σ H E I hf st hg
    subst hP hw hK
    obtain ⟨f0, f1, f2, f3, f4, f5⟩ := hf it (by simp)
    have W := Walks.range (prog := X.prog) (w := X.w) (I.ok.hd hc) it lo 1 n
    refine W.item i s _ _ hg st fun v h' tk hv st' kk => ?_
    obtain ⟨t, rfl⟩ := hv
    have I1 : Inv X pins σ H { s with heap := h', toks := tk } := I.turned (fun b o hb e => kk b o (by simpa using hb) e) f0 f1 f3 f4 f5
    refine ⟨_, rfl, go_of (s := { s with heap := h', toks := tk }) (n := "range_iterator") st' rfl rfl (by decide) ⟨.int (lo + i), H, I1, ⟨t, ?_⟩, ⟨rfl, rfl⟩, st', fun b hb => (hf b hb).1⟩⟩
    rw [Int.mul_one]
  done := by
    intro X hP hw hK hc i pins s σ H E I hf st hg
    subst hP hw hK
    obtain ⟨f0, f1, f2, f3, f4, f5⟩ := hf it (by simp)
    exact wpAny_pyNext_range_end (I.ok.hd hc) st (by have : n ≤ i := hg; omega) fun h' eb => ⟨rfl, I.turned (t' := s.toks) (fun b o hb e => eb b o hb e) f0 f1 f3 f4 f5⟩
  self := fun o' o' o' o' o' st h => wpAny_pyIter_rangeiter st h
end L2
namespace L2
open PySem PySem.Spec PyProof.Rows
section
variable {X : Cx} {tg : Expr}
theorem range_it {pins : List (Addr × Obj)} {σ : St} {H : Hp} {s : Shared} {R : It → Hp → Prop} {E : Value → Shared → Prop} {lo hi : Int} {t u v : Tok} {tk : Nat} (I : Inv X pins σ H s) (h1 : -(2 ^ 62) ≤ lo) (h2 : lo < 2 ^ 62) (h3 : -(2 ^ 62) ≤ hi) (h4 : hi < 2 ^ 62)
    (q : R (Itr lo (hi - lo).toNat) H) : wpAny (model X.prog X.w) X.A (pyIter (.ref s.heap.objs.size)) (PIE X pins σ tg R) E { s with heap := s.heap.push { cls := .type "range", data := .fields #[.int lo t, .int hi u, .int 1 v] }, toks := tk } := by
  refine wpAny_pyIter_range (IsRange.new ..) (small_one h1 h2 h3 h4) ?_
  have I1 : Inv X pins σ H { s with heap := s.heap.push { cls := .type "range", data := .fields #[.int lo t, .int hi u, .int 1 v] }, toks := tk } := I.kept fun b o e => Heap.get?_push_of_some _ e
  refine ⟨(s.heap.push { cls := .type "range", data := .fields #[.int lo t, .int hi u, .int 1 v] }).objs.size, [(s.heap.push { cls := .type "range", data := .fields #[.int lo t, .int hi u, .int 1 v] }).objs.size], _, _, H, rfl,
    I1.kept (t' := tk) fun b o e => Heap.get?_push_of_some _ e, turn_range _ lo (hi - lo).toNat, ?_, fun b hb => ?_, q⟩
  · have e1 : lo + ((0 : Nat) : Int) * 1 = lo := by simp
    have e2 : (((hi - lo).toNat : Nat) : Int) - ((0 : Nat) : Int) = Builtin.Range.rangeSize lo hi 1 := by rw [rangeSize_one]; split <;> omega
    show IsRangeIter _ _ (lo + ((0 : Nat) : Int) * 1) ((((hi - lo).toNat : Nat) : Int) - ((0 : Nat) : Int)) 1
    rw [e1, e2]
    exact Heap.get?_push_size _ rfl
  · have e : b = (s.heap.push { cls := .type "range", data := .fields #[.int lo t, .int hi u, .int 1 v] }).objs.size := by simpa using hb
    subst e
    exact I1.fpOk (Nat.le_refl _) (I1.hok.fresh (Nat.le_refl _))
noncomputable def iRng1 (ta : TA) : TI := fun σ H R => ta σ H fun vs H1 => ∃ j : Int, vs = [.int j] ∧ -(2 ^ 62) ≤ j ∧ j < 2 ^ 62 ∧ R (Itr 0 j.toNat) H1
theorem pi_range1 {a : Expr} {ta : TA} {p pos : Pos} (hg : Gl X "range") (hm : X.mg "range" = none) (ha : PA X [a] ta) (hs : starEach [a] X.env = [(false, eval a X.env)] := by rfl) : PI X tg (.Call (.Name "range" p) [a] [] pos) (iRng1 ta) := by
  intro pins s σ H R I h
  refine Call_ (ld_blt I hg hm boot_range (PyProof.Rows.callWith_type1 (thn (ha pos pins s σ H _ I h) fun us s1 ⟨vs, H1, I1, r1, q1⟩ => ?_) hs rfl))
  obtain ⟨j, e, q1, q2, q⟩ := q1
  subst e
  cases r1 with
  | cons r rr =>
    cases rr
    obtain ⟨t, rfl⟩ := r
    exact call_range_1 (range_it I1 (by omega) (by omega) q1 q2 (by simpa using q))
noncomputable def tFor (wi : TI) (g : TG) (tb : TS) : TS := fun D σ H => wi σ H fun J H1 => ∃ W : Nat → Nat → St → Hp → Prop, (∃ m, W 0 m σ H1) ∧ ∀ i m σ H, W i m σ H →
  (J.stop i H ∧ D.nx σ H) ∨ (J.go i H ∧ ∃ N : St → Hp → Prop, (∀ σ' H', N σ' H' → ∃ m', m' < m ∧ W (i + 1) m' σ' H') ∧ ∀ x H', J.yld i H x H' → g x σ H' fun σ2 H2 => tb { D with nx := N, ct := N, bk := D.nx } σ2 H2)
noncomputable def pinsAt (fp : List Addr) (h : Heap) : List (Addr × Obj) := fp.filterMap fun b => (h.get? b).map fun o => (b, o)
theorem mem_pinsAt {fp : List Addr} {h : Heap} {b : Addr} {o : Obj} (hb : b ∈ fp) (e : h.get? b = some o) : (b, o) ∈ pinsAt fp h := List.mem_filterMap.mpr ⟨b, hb, by rw [e]; rfl⟩
theorem of_pinsAt {fp : List Addr} {h : Heap} {p : Addr × Obj} (hp : p ∈ pinsAt fp h) : p.1 ∈ fp ∧ h.get? p.1 = some p.2 := by
  obtain ⟨b, hb, e⟩ := List.mem_filterMap.mp hp
  cases q : h.get? b with
  | none => rw [q] at e; cases e
  | some o =>
    rw [q] at e
    have e' : (b, o) = p := Option.some.inj e
    subst e'
    exact ⟨hb, q⟩
theorem Inv.pinned {pins : List (Addr × Obj)} {σ : St} {H : Hp} {s : Shared} {fp : List Addr} (I : Inv X pins σ H s) (hf : ∀ b ∈ fp, FpOk X pins H b) (ho : ∀ b ∈ fp, ∃ o, s.heap.get? b = some o ∧ ∀ v, o.data ≠ .cell v) : Inv X (pins ++ pinsAt fp s.heap) σ H s :=
  I.pins_of fun p hp => (List.mem_append.mp hp).elim (fun z => I.pin p (List.mem_append_right _ z)) fun z => by
    obtain ⟨hb, e⟩ := of_pinsAt z
    obtain ⟨f0, f1, f2, _⟩ := hf p.1 hb
    obtain ⟨o, e', d⟩ := ho p.1 hb
    rw [e] at e'; cases e'
    exact ⟨e, f0, f1, f2, d⟩
theorem Inv.unpinned {pins pl : List (Addr × Obj)} {σ : St} {H : Hp} {s : Shared} (I : Inv X (pins ++ pl) σ H s) : Inv X pins σ H s := I.pins_of fun p hp => I.pin p (List.mem_append_right _ (List.mem_append_left _ hp))
theorem ps_for {iter : Expr} {body : List Stmt} {wi : TI} {g : TG} {tb : TS} {pos : Pos} (hp : PassesOwn (model X.prog X.w) X.A X.env X.xe) (hc : X.calm = true) (hi : PI X tg iter wi) (hg : PG X tg g) (hb : PSs X body tb)
    (hs : ∀ x, foldedSetIterable iter X.env x = pure x := by intro _; rfl) : PS X (.For tg iter body [] pos) (tFor wi g tb) := by
  intro pins s σ H D I h
  refine wpAny_For (thn (hi pins s σ H _ I h) fun v s1 h1 => thn h1 fun itv s2 h2 => ?_) hs
  obtain ⟨it, fp, tn, J, H2, e, I2, T, st2, f2, W, ⟨m0, w0⟩, turn⟩ := h2
  subst e
  have stat : ∀ {H' : Hp}, (∀ b ∈ fp, H' b = none) → ∀ b ∈ fp, FpOk X pins H' b := fun hn b hb => ⟨hn b hb, (f2 b hb).2⟩
  refine codeAny_forLoop_any (fun n s' => ∃ i σ' H', Inv X pins σ' H' s' ∧ tn i s'.heap ∧ (∀ b ∈ fp, H' b = none) ∧ W i n σ' H') ?_ m0 ⟨0, σ, H2, I2, st2, fun b hb => (f2 b hb).1, w0⟩
  rintro n s3 ⟨i, σ3, H3, I3, st3, fr3, w3⟩
  rcases turn i n σ3 H3 w3 with ⟨stop, qn⟩ | ⟨go, N, hN, step⟩
  · refine wpAny_passesOwn hp (thn (T.done X rfl rfl rfl hc i pins s3 σ3 H3 X.xe I3 (stat fr3) st3 stop) fun r s4 ⟨hr, I4⟩ => ?_)
    subst hr
    exact wpAny_execs_nil ⟨σ3, H3, I4, qn⟩
  · refine wpAny_passesOwn hp (thn (T.item X rfl rfl rfl hc i pins s3 σ3 H3 X.xe I3 (stat fr3) st3 go) fun r s4 ⟨u, hr, h4⟩ => ?_)
    subst hr
    refine wpAny_passesOwn hp (thn h4 fun _ s5 ⟨x, H5, I5, r5, y5, st5, fr5⟩ => ?_)
    have I5' := I5.pinned (stat fr5) (T.obj _ _ st5)
    refine wpAny_passesOwn hp (thn (hg _ s5 σ3 H5 x u _ I5' r5 (step x H5 y5)) fun _ s6 ⟨σ6, H6, I6, q6⟩ => ?_)
    refine wpAny_passesOwn hp (thn (hb _ s6 σ6 H6 _ I6 q6) fun f s7 q7 => ?_)
    have again : ∀ {σ7 : St} {H7 : Hp}, Inv X (pins ++ pinsAt fp s5.heap) σ7 H7 s7 → N σ7 H7 → ∃ m, m < n ∧ ∃ i σ' H', Inv X pins σ' H' s7 ∧ tn i s7.heap ∧ (∀ b ∈ fp, H' b = none) ∧ W i m σ' H' := fun {σ7 H7} I7 n7 => by
      obtain ⟨m', hm, w7⟩ := hN σ7 H7 n7
      refine ⟨m', hm, i + 1, σ7, H7, I7.unpinned, T.keep _ _ _ st5 fun b hb o e => (I7.pin (b, o) (List.mem_append_right _ (List.mem_append_right _ (mem_pinsAt hb e)))).1, fun b hb => ?_, w7⟩
      obtain ⟨o, e, d⟩ := T.obj _ _ st5 b hb
      exact (I7.pin (b, o) (List.mem_append_right _ (List.mem_append_right _ (mem_pinsAt hb e)))).2.1
    cases f with
    | next => obtain ⟨σ7, H7, I7, n7⟩ := q7; exact again I7 n7
    | cont => obtain ⟨σ7, H7, I7, n7⟩ := q7; exact again I7 n7
    | brk => obtain ⟨σ7, H7, I7, q7⟩ := q7; exact ⟨σ7, H7, I7.unpinned, q7⟩
    | ret v => obtain ⟨x7, σ7, H7, I7, r7, q7⟩ := q7; exact ⟨x7, σ7, H7, I7.unpinned, r7, q7⟩
end
end L2
namespace L2
open PySem PySem.Spec PyProof.Rows
noncomputable abbrev R2 := V → V → Hp → VK → Prop
noncomputable def OpR (X : Cx) (f : Value → Value → Sem Value) (r : R2) : Prop :=
  ∀ (pins : List (Addr × Obj)) (s : Shared) (σ : St) (H : Hp) (x y : V) (v u : Value) (Q : VK), Inv X pins σ H s → RelV x v → RelV y u → r x y H Q →
    wpAny (model X.prog X.w) X.A (f v u) (EP X pins σ Q) X.xe s
noncomputable def CallR (X : Cx) (f : Value) (r : List V → Hp → VK → Prop) : Prop :=
  ∀ (pins : List (Addr × Obj)) (s : Shared) (σ : St) (H : Hp) (xs : List V) (us : List Value) (Q : VK), Inv X pins σ H s → Vals xs us → r xs H Q →
    wpAny (model X.prog X.w) X.A (call f us) (EP X pins σ Q) X.xe s
noncomputable def TruR (X : Cx) (r : V → Hp → (Bool → Hp → Prop) → Prop) : Prop :=
  ∀ (pins : List (Addr × Obj)) (s : Shared) (σ : St) (H : Hp) (x : V) (v : Value) (Q : Bool → Hp → Prop), Inv X pins σ H s → RelV x v → r x H Q →
    wpAny (model X.prog X.w) X.A (truthy v) (TP X pins σ Q) X.xe s
noncomputable def tOp (r : R2) (ta tb : TE) : TE := fun σ H Q => ta σ H fun x H1 => tb σ H1 fun y H2 => r x y H2 Q
noncomputable def rI (C : Int → Int → Prop) (g : Int → Int → V) : R2 := fun x y H Q => ∃ i j, x = .int i ∧ y = .int j ∧ C i j ∧ Q (g i j) H
noncomputable def rI0 (g : Int → Int → V) : R2 := fun x y H Q => ∃ i j, x = .int i ∧ y = .int j ∧ Q (g i j) H
section
variable {X : Cx} {a b c : Expr} {ta tb tc : TE} {pos : Pos}
theorem binT (ha : PE X a ta) (hb : PE X b tb) {pins : List (Addr × Obj)} {s : Shared} {σ : St} {H : Hp} {R : V → V → Hp → Prop} (I : Inv X pins σ H s)
    (h : ta σ H fun x H1 => tb σ H1 fun y H2 => R x y H2) {Q : Value → Shared → Prop} {f : Value → Value → Sem Value}
    (hf : ∀ v u s2 x y H2, Inv X pins σ H2 s2 → RelV x v → RelV y u → R x y H2 → wpAny (model X.prog X.w) X.A (f v u) Q X.xe s2) :
    wpAny (model X.prog X.w) X.A (eval a X.env) (fun v s₁ => wpAny (model X.prog X.w) X.A (eval b X.env) (fun u s₂ => wpAny (model X.prog X.w) X.A (f v u) Q X.xe s₂) X.xe s₁) X.xe s := by
  refine thn (ha pins s σ H _ I h) fun v s1 ⟨x, H1, I1, r1, q1⟩ => ?_
  refine thn (hb pins s1 σ H1 _ I1 q1) fun u s2 ⟨y, H2, I2, r2, q2⟩ => ?_
  exact hf v u s2 x y H2 I2 r1 r2 q2
theorem pe_op {op : Operator} {r : R2} (ho : OpR X (binaryOp op) r) (ha : PE X a ta) (hb : PE X b tb) : PE X (.BinOp a op b pos) (tOp r ta tb) := by
  intro pins s σ H Q I h
  exact wpAny_BinOp (binT ha hb I h fun v u s2 x y H2 I2 rx ry q => ho pins s2 σ H2 x y v u Q I2 rx ry q)
theorem opI {f : Value → Value → Sem Value} {C : Int → Int → Prop} {g : Int → Int → Int}
    (rule : ∀ (i j : Int) (t u : Tok) (s : Shared) (Q : Value → Shared → Prop) (E : Value → Shared → Prop), C i j → Q (.int (g i j) s.toks) { s with toks := s.toks + 1 } → wpAny (model X.prog X.w) X.A (f (.int i t) (.int j u)) Q E s) :
    OpR X f (rI C fun i j => .int (g i j)) := by
  intro pins s σ H x y v u Q I rx ry h
  obtain ⟨i, j, rfl, rfl, hc, q⟩ := h
  obtain ⟨t, rfl⟩ := rx
  obtain ⟨t', rfl⟩ := ry
  exact rule i j t t' s _ _ hc ⟨.int (g i j), H, I.tok _, ⟨_, rfl⟩, q⟩
theorem opI0 {f : Value → Value → Sem Value} {g : Int → Int → Int}
    (rule : ∀ (i j : Int) (t u : Tok) (s : Shared) (Q : Value → Shared → Prop) (E : Value → Shared → Prop), Q (.int (g i j) s.toks) { s with toks := s.toks + 1 } → wpAny (model X.prog X.w) X.A (f (.int i t) (.int j u)) Q E s) :
    OpR X f (rI0 fun i j => .int (g i j)) := by
  intro pins s σ H x y v u Q I rx ry h
  obtain ⟨i, j, rfl, rfl, q⟩ := h
  obtain ⟨t, rfl⟩ := rx
  obtain ⟨t', rfl⟩ := ry
  exact rule i j t t' s _ _ ⟨.int (g i j), H, I.tok _, ⟨_, rfl⟩, q⟩
noncomputable def CDiv (i j : Int) : Prop := 0 < j ∧ j < 1073741824
noncomputable def CPow (i j : Int) : Prop := 0 ≤ j ∧ j ≤ 1000000 ∧ i.natAbs < 2 ^ 64
noncomputable def CMul (i j : Int) : Prop := (-(2 ^ 64) < i ∧ i < 2 ^ 64) ∨ (-(2 ^ 64) < j ∧ j < 2 ^ 64)
theorem CMul.ok {i j : Int} (h : CMul i j) : IntMulOk i j := by
  rcases h with ⟨h1, h2⟩ | ⟨h1, h2⟩
  · exact .of_left (intBits_le_64 h1 h2)
  · exact .of_right (intBits_le_64 h1 h2)
theorem op_add : OpR X (binaryOp .Add) (rI0 fun i j => .int (i + j)) := opI0 fun o' o' o' o' o' o' o' q => add_int q
theorem op_sub : OpR X (binaryOp .Sub) (rI0 fun i j => .int (i - j)) := opI0 fun o' o' o' o' o' o' o' q => sub_int q
theorem op_mul : OpR X (binaryOp .Mult) (rI CMul fun i j => .int (i * j)) := opI fun o' o' o' o' o' o' o' hc q => mul_int q hc.ok
theorem op_fdiv : OpR X (binaryOp .FloorDiv) (rI CDiv fun i j => .int (i / j)) := opI fun i j o' o' o' o' o' hc q => by
  have h1 : (0 : Int) < j := hc.1
  have h2 : j < 1073741824 := hc.2
  exact floordiv_int (by omega) (by rw [Int.fdiv_eq_ediv_of_nonneg i (by omega)]; exact q) (.inl (PyProof.noPylong_small (by omega)))
theorem op_mod : OpR X (binaryOp .Mod) (rI (fun o' j => 0 < j) fun i j => .int (i % j)) := opI fun i j o' o' o' o' o' hc q => by
  have h1 : (0 : Int) < j := hc
  exact mod_int' (by omega) (by rw [Int.fmod_eq_emod_of_nonneg i (by omega)]; exact q)
theorem op_pow : OpR X (binaryOp .Pow) (rI CPow fun i j => .int (i ^ j.toNat)) := opI fun o' o' o' o' o' o' o' hc q => pow_int_small hc.1 hc.2.1 hc.2.2 q
end
section
variable {X : Cx} {a b c : Expr} {ta tb tc : TE} {pos : Pos}
theorem fin_bl {pins : List (Addr × Obj)} {σ : St} {H : Hp} {s : Shared} {Q : VK} {k k' : Bool} (I : Inv X pins σ H s) (q : Q (.bl k) H) (e : k = k') : EP X pins σ Q (.bool k') s := by
  subst e
  exact ⟨.bl k, H, I, rfl, q⟩
theorem op_in_str : OpR X (compareOp .In) (fun x y H Q => ∃ i j, x = .str i ∧ y = .str j ∧ Q (.bl (!(Builtin.Str.occurrences j i 0 j.length 1).isEmpty)) H) := by
  intro pins s σ H x y v u Q I rx ry h
  obtain ⟨i, j, rfl, rfl, q⟩ := h
  obtain ⟨t, rfl⟩ := rx
  obtain ⟨t', rfl⟩ := ry
  exact in_str (fin_bl I q rfl)
theorem OpR.or {f : Value → Value → Sem Value} {r r' : R2} (h : OpR X f r) (h' : OpR X f r') : OpR X f (fun x y H Q => r x y H Q ∨ r' x y H Q) := by
  intro pins s σ H x y v u Q I rx ry q
  rcases q with q | q
  · exact h pins s σ H x y v u Q I rx ry q
  · exact h' pins s σ H x y v u Q I rx ry q
noncomputable def TruV (K : PySem.W.Frag) (x : V) (H : Hp) (k : Bool) : Prop :=
  match x with
  | .non => k = false
  | .bl b => k = b
  | .int i => k = (i != 0)
  | .str y => y.length ≤ sizeLine ∧ k = ((y.length : Int) != 0)
  | .byt y => y.size ≤ sizeLine ∧ k = ((y.size : Int) != 0)
  | .ref p => (∃ xs, SqL K H p xs ∧ k = !xs.isEmpty) ∨ (∃ xs, SqT K H p xs ∧ k = !xs.isEmpty) ∨ ∃ kvs, H p = some (.dK kvs) ∧ k = !kvs.isEmpty
  | _ => False
theorem isEmpty_kv {κ : Type} {kvs : List (κ × V)} {vs : List (κ × Value)} (r : KV kvs vs) : (!vs.isEmpty) = !kvs.isEmpty := by
  cases r <;> rfl
theorem isEmpty_of {xs : List V} {its : List Value} (r : Vals xs its) : (!its.toArray.isEmpty) = !xs.isEmpty := by
  cases r <;> simp
theorem line63 : (sizeLine : Nat) < 2 ^ 63 := by rw [sizeLine_eq]; decide
theorem tru_ok : TruR X (fun x H Q => ∃ k, TruV X.K x H k ∧ Q k H) := by
  intro pins s σ H x v Q I rx h
  obtain ⟨k, e, q⟩ := h
  have hl := line63
  have hs : sizeLine = 16777216 := sizeLine_eq
  cases x with
  | non =>
    cases rx
    have e' : k = false := e
    subst e'
    exact truthy_none ⟨H, I, q⟩
  | bl b =>
    cases rx
    have e' : k = b := e
    subst e'
    exact wpAny_truthy_bool ⟨H, I, q⟩
  | int i =>
    obtain ⟨t, rfl⟩ := rx
    have e' : k = (i != 0) := e
    subst e'
    exact PySem.P.truthy_int ⟨H, I, q⟩
  | str y =>
    obtain ⟨t, rfl⟩ := rx
    obtain ⟨hy, e'⟩ : y.length ≤ sizeLine ∧ k = ((y.length : Int) != 0) := e
    subst e'
    exact PySem.P.truthy_str (by omega) ⟨H, I.tok _, q⟩
  | byt y =>
    obtain ⟨t, rfl⟩ := rx
    obtain ⟨hy, e'⟩ : y.size ≤ sizeLine ∧ k = ((y.size : Int) != 0) := e
    subst e'
    exact PySem.W.truthy_bytes (by omega) ⟨H, I.tok _, q⟩
  | ref p =>
    cases rx
    have e' : (∃ xs, SqL X.K H p xs ∧ k = !xs.isEmpty) ∨ (∃ xs, SqT X.K H p xs ∧ k = !xs.isEmpty) ∨ ∃ kvs, H p = some (.dK kvs) ∧ k = !kvs.isEmpty := e
    rcases e' with ⟨xs, hx, e'⟩ | ⟨xs, hx, e'⟩ | ⟨kvs, hx, e'⟩
    · subst e'
      obtain ⟨its, r, pl, hz⟩ := I.list hx
      have hlen := r.length
      exact wpAny_truthy_list pl.isList (by simp only [List.size_toArray]; omega) ⟨H, I.tok _, by rw [isEmpty_of r]; exact q⟩
    · subst e'
      obtain ⟨its, r, pl, hz⟩ := I.tuple hx
      have hlen := r.length
      exact truthy_tuple pl (by simp only [List.size_toArray]; omega) ⟨H, I.tok _, by rw [isEmpty_of r]; exact q⟩
    · subst e'
      obtain ⟨hz, hS, vs, r, m⟩ : kvs.length ≤ sizeLine ∧ (p == sysModules) = false ∧ ∃ vs, KV kvs vs ∧ s.heap.DictOf (mixKind X.prog X.w) p vs := I.hok p _ hx
      have hlen : kvs.length = vs.length := Paired.length r
      exact wpAny_truthy_dict hS m (by omega) ⟨H, I.tok _, by rw [isEmpty_kv r]; exact q⟩
  | _ => exact (show False from e).elim
theorem pt_truth (ha : PE X a ta) (he : ∀ whole, isTrue a X.env whole = (do let v ← whole; standAt a.pos; holding [v] (truthy v))) :
    PT X a (fun σ H Q => ta σ H fun x H' => ∃ k, TruV X.K x H' k ∧ Q k H') := by
  intro pins s σ H Q I h
  exact isTrue_plain (thn (ha pins s σ H _ I h) fun v s1 ⟨x, H1, I1, r1, q1⟩ => tru_ok pins s1 σ H1 x v Q I1 r1 q1) (he _)
theorem op_add_str : OpR X (binaryOp .Add) (fun x y H Q => ∃ i j, x = .str i ∧ y = .str j ∧ i.length + j.length ≤ sizeLine ∧ Q (.str (i ++ j)) H) := by
  intro pins s σ H x y v u Q I rx ry h
  obtain ⟨i, j, rfl, rfl, hz, q⟩ := h
  obtain ⟨t, rfl⟩ := rx
  obtain ⟨t', rfl⟩ := ry
  exact add_str (fun t' tk => ⟨.str (i ++ j), H, I.tok _, ⟨_, rfl⟩, q⟩) hz
theorem vals1 {x : V} {us : List Value} (r : Vals [x] us) : ∃ u, us = [u] ∧ RelV x u := by
  cases r with
  | cons r1 r2 => cases r2; exact ⟨_, rfl, r1⟩
noncomputable def LenV (K : PySem.W.Frag) (x : V) (H : Hp) (n : Nat) : Prop :=
  match x with
  | .str y => y.length ≤ sizeLine ∧ n = y.length
  | .byt y => y.size ≤ sizeLine ∧ n = y.size
  | .ref p => (∃ xs, SqL K H p xs ∧ n = xs.length) ∨ ∃ xs, SqT K H p xs ∧ n = xs.length
  | _ => False
theorem call_len : CallR X (.builtin "len") (fun xs H Q => ∃ x n, xs = [x] ∧ LenV X.K x H n ∧ Q (.int n) H) := by
  intro pins s σ H xs us Q I r h
  obtain ⟨x, n, rfl, e, q⟩ := h
  obtain ⟨u, rfl, rx⟩ := vals1 r
  have hl := line63
  have hs : sizeLine = 16777216 := sizeLine_eq
  cases x with
  | str y =>
    obtain ⟨t, rfl⟩ := rx
    obtain ⟨hy, e'⟩ : y.length ≤ sizeLine ∧ n = y.length := e
    subst e'
    exact len_str (by omega) ⟨.int _, H, I.tok _, ⟨_, rfl⟩, q⟩
  | byt y =>
    obtain ⟨t, rfl⟩ := rx
    obtain ⟨hy, e'⟩ : y.size ≤ sizeLine ∧ n = y.size := e
    subst e'
    exact PySem.W.len_bytes (by omega) ⟨.int _, H, I.tok _, ⟨_, rfl⟩, q⟩
  | ref p =>
    cases rx
    have e' : (∃ xs, SqL X.K H p xs ∧ n = xs.length) ∨ ∃ xs, SqT X.K H p xs ∧ n = xs.length := e
    rcases e' with ⟨xs, hx, e'⟩ | ⟨xs, hx, e'⟩
    · subst e'
      obtain ⟨its, r', pl, hz⟩ := I.list hx
      have hlen := r'.length
      exact Calls.call_len_list pl.isList (by simp only [List.size_toArray]; omega) ⟨.int xs.length, H, I.tok _, ⟨_, by simp only [List.size_toArray]; rw [hlen]⟩, q⟩
    · subst e'
      obtain ⟨its, r', pl, hz⟩ := I.tuple hx
      have hlen := r'.length
      exact len_tuple pl (by simp only [List.size_toArray]; omega) ⟨.int xs.length, H, I.tok _, ⟨_, by simp only [List.size_toArray]; rw [hlen]⟩, q⟩
  | _ => exact (show False from e).elim
end
end L2
namespace L2
open PySem PySem.Spec PyProof.Rows
section
variable {prog : Program} {w : World} {A : Around} {E : Value → Shared → Prop} {s : Shared} {K : PySem.W.Frag} {x dx C f : Addr} {mA : Str → Option Value} {name : Str} {v : Value}
end
section
variable {P : Program} {w : World} {H H' : Hp} {h h' : Heap} {a C dx : Addr} {fs fs' : List (Str × V)}
end
structure Cls (K : PySem.W.Frag) (C : Addr) : Prop where
  pg : PySem.W.plainGet K C Str.empty = true
  hd : PySem.W.hasDictIn K C = true
  po : PySem.W.plainOver K C = true
  sa : PySem.W.findIn K (.ref C) "__setattr__" = some (some (.builtin "object.__setattr__"))
structure Meth (K : PySem.W.Frag) (C : Addr) (m : Str) (f : Addr) : Prop where
  at_ : PySem.W.findIn K (.ref C) m = some (some (.ref f))
  fn : PySem.W.isFn K (.ref f) = true
  kp : PySem.W.keepIn K (.ref f) = true
section
variable {X : Cx} {pins : List (Addr × Obj)} {σ : St} {H : Hp} {s : Shared} {a C dx : Addr} {fs : List (Str × V)} {f : Str} {v : V} {A : Around} {E : Value → Shared → Prop}
end
section
variable {X : Cx} {o e value : Expr} {f : Str} {pos pos' tpos : Pos} {ta tv : TE}
end
section
variable {X : Cx} {pins : List (Addr × Obj)} {σ : St} {H : Hp} {s : Shared} {A : Around} {E : Value → Shared → Prop} {Q : Value → Shared → Prop} {c : Value} {b : Bool}
end
end L2
namespace L2
open PySem PySem.Spec PyProof.Rows
structure Room (k : Nat) (A : Around) : Prop where
  hd : A.handled = none
  dp : A.depth + 3 * k + 5 < recursionLimit
  un : A.units + 16 * k + 200 < cLine
theorem Room.mono {j k : Nat} {A : Around} (r : Room k A) (h : j ≤ k) : Room j A := ⟨r.hd, by have := r.dp; omega, by have := r.un; omega⟩
theorem Room.deeper {k : Nat} {A : Around} (r : Room (k + 1) A) (env : Env) : Room k (A.deeper env) :=
  ⟨r.hd, by have := r.dp; show A.depth + 1 + 3 * k + 5 < _; omega, by have := r.un; show A.units + 3 + 16 * k + 200 < _; omega⟩
theorem Room.depth {k : Nat} {A : Around} (r : Room k A) : A.depth < recursionLimit := by have := r.dp; omega
noncomputable def tNil : TA := fun o' H Q => Q [] H
noncomputable def tCons (ta : TE) (tr : TA) : TA := fun σ H Q => ta σ H fun x H1 => tr σ H1 fun xs H2 => Q (x :: xs) H2
section
variable {X : Cx} {e : Expr} {es : List Expr} {te : TE} {t : TA} {pos : Pos}
theorem pa_nil : PA X [] tNil := fun o' o' o' o' H Q I h => Calls.spliced_nil ⟨[], H, I, .nil, h⟩
theorem pa_cons (ha : PE X e te) (hr : PA X es t) (hs : starEach (e :: es) X.env = (false, eval e X.env) :: starEach es X.env := by rfl) : PA X (e :: es) (tCons te t) := by
  intro pos pins s σ H Q I h
  rw [hs]
  show wpAny _ _ (spliced ((false, eval e X.env) :: backTo pos (starEach es X.env))) _ _ s
  refine Calls.spliced_cons (thn (ha pins s σ H _ I h) fun u s1 ⟨x, H1, I1, r1, q1⟩ => ?_)
  exact thn (hr pos pins s1 σ H1 _ I1 q1) fun us s2 ⟨xs, H2, I2, r2, q2⟩ => ⟨x :: xs, H2, I2, .cons r1 r2, q2⟩
noncomputable def tTup (t : TA) : TE := fun σ H Q => t σ H fun xs H1 => xs.length ≤ sizeLine ∧ ∀ p, H1 p = none → Q (.ref p) (upd H1 p (.tup xs))
noncomputable def tLst (t : TA) : TE := fun σ H Q => t σ H fun xs H1 => xs.length ≤ sizeLine ∧ ∀ p, H1 p = none → Q (.ref p) (upd H1 p (.lst xs))
theorem pe_tup {x1} (h : PA X es t) : PE X (.Tuple es x1 pos) (tTup t) := by
  intro pins s σ H Q I hq
  refine wpAny_Tuple_spliced (thn (h pos pins s σ H _ I hq) fun us s1 ⟨xs, H1, I1, r, z, q⟩ => ⟨by rw [← r.length]; exact z, ?_⟩)
  have hf : H1 s1.heap.objs.size = none := I1.hok.fresh (Nat.le_refl _)
  refine ⟨.ref s1.heap.objs.size, upd H1 s1.heap.objs.size (.tup xs), I1.laid (t' := s1.toks) (fun b u e => Heap.get?_push_of_some _ e) (Nat.le_refl _) ?_, rfl, q _ hf⟩
  exact ⟨z, us, r, TupO.new _ _⟩
theorem pe_lst (h : PA X es t) : PE X (.List es pos) (tLst t) := by
  intro pins s σ H Q I hq
  refine wpAny_List_spliced (thn (h pos pins s σ H _ I hq) fun us s1 ⟨xs, H1, I1, r, z, q⟩ => ⟨by rw [← r.length]; exact z, ?_⟩)
  have hf : H1 s1.heap.objs.size = none := I1.hok.fresh (Nat.le_refl _)
  refine ⟨.ref s1.heap.objs.size, upd H1 s1.heap.objs.size (.lst xs), I1.laid (t' := s1.toks) (fun b u e => Heap.get?_push_of_some _ e) (Nat.le_refl _) ?_, rfl, q _ hf⟩
  exact ⟨z, us, 0, r, Heap.get?_push_size _ rfl⟩
end
noncomputable abbrev Sp := List V → Hp → VK → XK → Prop
noncomputable abbrev CXT := List Env → Hp → Shared → XK → Value → Shared → Prop
structure Env0 (P : Program) (w : World) (K : PySem.W.Frag) (mg : Str → Option Value) (base : Heap) (A : Around) (outer : List Env) (s : Shared) (H : Hp) : Prop where
  frames : A.frames = some outer
  mod : Mod K mg base
  bs : ∀ b o, base.get? b = some o → s.heap.get? b = some o ∧ H b = none
  bsz : base.objs.size ≤ s.heap.objs.size
  funs : s.heap.FunFrames base outer
  frf : ∀ b ∈ frs outer, H b = none
  hok : HOk P w H s.heap
  bare : AllBare s.gens
inductive CE (outer : List Env) (P : Program) (w : World) (H : Hp) (s : Shared) (Q : VK) (u : Value) (s' : Shared) : Prop
  | mk (v : V) (H' : Hp) (a : s'.os = s.os) (b : AllBare s'.gens) (c : Un (frs outer) [] H H' s.heap s'.heap) (d : HOk P w H' s'.heap) (r : RelV v u) (q : Q v H')
noncomputable def CR (CX : CXT) (outer : List Env) (P : Program) (w : World) (H : Hp) (s : Shared) (Q : VK) (E : XK) (r : Result) (s' : Shared) : Prop :=
  match r with
  | .ok (.ret u) => CE outer P w H s Q u s'
  | .ok _ => False
  | .error e => CX outer H s E e s'
structure FnOk (P : Program) (w : World) (K : PySem.W.Frag) (mg : Str → Option Value) (base : Heap) (CX : CXT) (k : Nat) (f : Addr) (fd : FuncData) (ps : List Str) (sp : Sp) : Prop where
  len : ∀ vs H Q E, sp vs H Q E → vs.length = ps.length
  run : ∀ (A : Around) (outer : List Env) (s : Shared) (H : Hp) (args : Args) (us : List Value) (vs : List V) (Q : VK) (E : XK), Room k A → Env0 P w K mg base A outer s H → BindsTo s fd args (ps.zip us) → Vals vs us → sp vs H Q E →
    codeAny (model P w) A (.call (.ref f) args) (CR CX outer P w H s Q E) s
section
variable {X : Cx} {pins : List (Addr × Obj)} {σ : St} {H : Hp} {s s' : Shared}
theorem Inv.env0 (I : Inv X pins σ H s) : Env0 X.prog X.w X.K X.mg X.base X.A X.stack s H :=
  ⟨I.ok.frames, I.ok.mod, I.bs, Nat.le_trans I.ok.bsz I.sz, I.stack, I.stkFree, I.hok, I.bare⟩
theorem Inv.after {Q : VK} {u : Value} (I : Inv X pins σ H s) (h : CE X.stack X.prog X.w H s Q u s') : EP X pins σ Q u s' := by
  obtain ⟨v, H', os, bare, un, hok, r, q⟩ := h
  obtain ⟨hh, g, d, t, os'⟩ := s'
  obtain rfl : os' = s.os := os
  exact ⟨v, H', I.call (h' := hh) (g' := g) (d' := d) (t' := t) (ch := []) un hok bare (fun b z => absurd z (by simp)), r, q⟩
end
noncomputable def tCall (sp : Sp) (dvs : List V) (E : XK) (t : TA) : TE := fun σ H Q => t σ H fun vs H1 => sp (vs ++ dvs) H1 Q E
noncomputable def Binds (K : PySem.W.Frag) (fd : FuncData) (ps : List Str) (ds : List Value) : Prop :=
  ∀ (s : Shared) (us : List Value), K.In s.heap → (us ++ ds).length = ps.length → BindsTo s fd ⟨us, []⟩ (ps.zip (us ++ ds))
theorem Binds.all {K : PySem.W.Frag} {fd : FuncData} {ps : List Str} (h : ∀ us : List Value, us.length = ps.length → bindArgs fd ⟨us, []⟩ = pure (ps.zip us)) : Binds K fd ps [] := fun s us o' hl => by
  rw [List.append_nil] at hl ⊢
  exact .of_eq (h us hl)
noncomputable def Passes (CX : CXT) (X : Cx) (E : XK) : Prop := ∀ (pins : List (Addr × Obj)) (σ : St) (H : Hp) (s : Shared) (e : Value) (s' : Shared), Inv X pins σ H s → CX X.stack H s E e s' → X.xe e s'
section
variable {X : Cx} {CX : CXT} {k : Nat} {f C : Addr} {fd : FuncData} {ps : List Str} {sp : Sp} {dvs : List V} {ds : List Value} {E : XK} {x m : Str} {p pos apos : Pos} {e o : Expr} {es : List Expr} {ta : TE} {t : TA}
theorem run_fn {pins : List (Addr × Obj)} {σ : St} {H : Hp} {s : Shared} {Q : VK} {us : List Value} {vs : List V} (F : FnOk X.prog X.w X.K X.mg X.base CX k f fd ps sp) (hr : Room k X.A) (hb : Binds X.K fd ps ds) (hd : Vals dvs ds) (hx : Passes CX X E)
    (I : Inv X pins σ H s) (r : Vals vs us) (h : sp (vs ++ dvs) H Q E) : wpAny (model X.prog X.w) X.A (call (.ref f) us) (EP X pins σ Q) X.xe s := by
  have r2 : Vals (vs ++ dvs) (us ++ ds) := r.append hd
  have hl : (us ++ ds).length = ps.length := by rw [← r2.length]; exact F.len _ _ _ _ h
  refine wpAny_call (codeAny_mono (F.run X.A X.stack s H ⟨us, []⟩ (us ++ ds) (vs ++ dvs) Q E hr I.env0 (hb s us I.kIn hl) r2 h) fun r s' hq => ?_)
  cases r with
  | error e => exact hx pins σ H s e s' I hq
  | ok fl =>
    cases fl with
    | ret u => exact I.after hq
    | next => exact False.elim hq
    | brk => exact False.elim hq
    | cont => exact False.elim hq
theorem pe_call (F : FnOk X.prog X.w X.K X.mg X.base CX k f fd ps sp) (hr : Room k X.A) (hg : Gl X x) (hm : X.mg x = some (.ref f)) (hk : PySem.W.keepIn X.K (.ref f) = true) (hb : Binds X.K fd ps ds) (hd : Vals dvs ds) (hx : Passes CX X E)
    (ha : PA X (e :: es) t) (hdb : (x == ("__debug__" : Str)) = false := by decide) (he : starEach (e :: es) X.env = (false, eval e X.env) :: starEach es X.env := by rfl) (hpl : (backTo pos (starEach es X.env)).any (·.1) = false := by rfl) :
    PE X (.Call (.Name x p) (e :: es) [] pos) (tCall sp dvs E t) := by
  intro pins s σ H Q I h
  refine wpAny_Call_Name_kw (ld_glob I hg hm ?_ hdb)
  refine PySem.W.callWith_K (h₀ := X.base) I.ok.mod.kin hk (thn (ha pos pins s σ H _ I h) fun us s1 ⟨vs, H1, I1, r, q⟩ => ⟨I1.kIn, ?_⟩) he hpl
  exact run_fn F hr hb hd hx I1 r q
structure Mk (K : PySem.W.Frag) (C f : Addr) : Prop where
  makes : PySem.W.makesIn K C = true
  init : PySem.W.findIn K (.ref C) "__init__" = some (some (.ref f))
  fn : PySem.W.isFn K (.ref f) = true
  kp : PySem.W.keepIn K (.ref C) = true
end
section
variable {X : Cx} {CX : CXT} {k : Nat} {f C : Addr} {fd : FuncData} {ps ks : List Str} {sp : Sp} {E : XK} {x m : Str} {p pos apos kpos : Pos} {e o : Expr} {es : List Expr} {kws : List Keyword} {te ta : TE} {t tk : TA} {nm : Option Str}
variable {g : List Value → List Value → List Value} {gV : List V → List V → List V}
end
structure FnScope (N P : List Str) (sc : Scope) : Prop where
  kind : sc.kind = .function
  co : sc.isCoroutine = false
  gen : sc.isGenerator = false
  nd : N.Nodup
  pre : N.take P.length = P
  par : ∀ x ∈ P, sc.names.lookup x = some .local ∨ sc.names.lookup x = some .cell
  nofree : ∀ y ∈ sc.names, y.2 ≠ .free
theorem bindL_out {kindOf : Str → Option NameKind} {x : Str} : ∀ {binds : List (Str × Value)} {m : Str → Option Value}, (∀ v, (x, v) ∉ binds) → bindL kindOf binds m x = m x
  | [], _, _ => rfl
  | (n, v) :: r, m, h => by
    unfold bindL
    rw [bindL_out fun w hw => h w (List.mem_cons_of_mem _ hw)]
    split
    · have : x ≠ n := by rintro rfl; exact h v List.mem_cons_self
      simp [this]
    · rfl
theorem bindC_out {kindOf : Str → Option NameKind} {x : Str} : ∀ {binds : List (Str × Value)} {m : Str → Option Value}, (∀ v, (x, v) ∉ binds) → bindC kindOf binds m x = m x
  | [], _, _ => rfl
  | (n, v) :: r, m, h => by
    unfold bindC
    rw [bindC_out fun w hw => h w (List.mem_cons_of_mem _ hw)]
    split
    · rfl
    · have : x ≠ n := by rintro rfl; exact h v List.mem_cons_self
      simp [this]
theorem bindL_get {kindOf : Str → Option NameKind} {x : Str} {v : Value} : ∀ {P : List Str} {vs : List Value} {i : Nat} {m : Str → Option Value}, P.Nodup → P[i]? = some x → vs[i]? = some v → kindOf x = some .local →
    bindL kindOf (P.zip vs) m x = some v
  | [], _, _, _, _, h, _, _ => by simp at h
  | _ :: _, [], _, _, _, _, h, _ => by simp at h
  | p :: P, w :: vs, 0, m, nd, h1, h2, hk => by
    simp at h1 h2; subst h1; subst h2
    show bindL kindOf ((p, w) :: P.zip vs) m p = _
    unfold bindL
    rw [bindL_out fun v hv => (List.nodup_cons.mp nd).1 (List.of_mem_zip hv).1, if_pos hk]
    simp
  | p :: P, w :: vs, i + 1, m, nd, h1, h2, hk => by
    show bindL kindOf ((p, w) :: P.zip vs) m x = _
    unfold bindL
    exact bindL_get (i := i) (List.nodup_cons.mp nd).2 (by simpa using h1) (by simpa using h2) hk
theorem bindC_get {kindOf : Str → Option NameKind} {x : Str} {v : Value} : ∀ {P : List Str} {vs : List Value} {i : Nat} {m : Str → Option Value}, P.Nodup → P[i]? = some x → vs[i]? = some v → kindOf x ≠ some .local →
    bindC kindOf (P.zip vs) m x = some v
  | [], _, _, _, _, h, _, _ => by simp at h
  | _ :: _, [], _, _, _, _, h, _ => by simp at h
  | p :: P, w :: vs, 0, m, nd, h1, h2, hk => by
    simp at h1 h2; subst h1; subst h2
    show bindC kindOf ((p, w) :: P.zip vs) m p = _
    unfold bindC
    rw [bindC_out fun v hv => (List.nodup_cons.mp nd).1 (List.of_mem_zip hv).1, if_neg hk]
    simp
  | p :: P, w :: vs, i + 1, m, nd, h1, h2, hk => by
    show bindC kindOf ((p, w) :: P.zip vs) m x = _
    unfold bindC
    exact bindC_get (i := i) (List.nodup_cons.mp nd).2 (by simpa using h1) (by simpa using h2) hk
noncomputable def start (N : List Str) (vs : List V) : St := vs.map some ++ List.replicate (N.length - vs.length) none
noncomputable def cxOf (CX : CXT) (P : Program) (w : World) (K : PySem.W.Frag) (mg : Str → Option Value) (base : Heap) (N : List Str) (qual : Str) (scope : Scope) (f : Addr) (cd : Value) (A : Around) (outer : List Env) (s : Shared) (H : Hp) (E : XK) : Cx where
  prog := P
  w := w
  K := K
  mg := mg
  base := base
  A := A.deeper (envOfC qual scope s.heap.objs.size f cd)
  N := N
  s₀ := s
  H₀ := H
  env := envOfC qual scope s.heap.objs.size f cd
  outer := outer
  stack := envOfC qual scope s.heap.objs.size f cd :: outer
  ex := []
  calm := true
  fn := fun o' => true
  pn := []
  xe := fun e s' => wpAny (model P w) (A.deeper (envOfC qual scope s.heap.objs.size f cd)) (leaving (envOfC qual scope s.heap.objs.size f cd) e) (fun o' s'' => CX outer H s E e s'') (fun e' s'' => CX outer H s E e' s'') s'
theorem cell_has {sc : Scope} {n : Nat} {x : Str} (h : sc.names.lookup x = some .cell) : ∃ c, (cellsFrom n sc.names []).lookup x = some c := by
  have q := PySem.W.cellsFrom_some sc.names n [] (.inl h)
  exact Option.isSome_iff_exists.mp q
theorem inv_start {CX : CXT} {P : Program} {w : World} {K : PySem.W.Frag} {mg : Str → Option Value} {base : Heap} {N ps : List Str} {qual : Str} {scope : Scope} {f : Addr} {cd : Value} {A : Around} {outer : List Env} {s s1 : Shared} {H : Hp} {E : XK} {us : List Value} {vs : List V}
    (S : FnScope N ps scope) (hd : A.handled = none) (e0 : Env0 P w K mg base A outer s H) (hl : vs.length = ps.length) (r : Vals vs us)
    (x : InCallC s s.heap.objs.size (bindL (envOfC qual scope s.heap.objs.size f cd).kindOf (ps.zip us) fun o' => none) (cellsFrom (s.heap.objs.size + 1) scope.names []) (bindC (envOfC qual scope s.heap.objs.size f cd).kindOf (ps.zip us) fun o' => none) s1) :
    Inv (cxOf CX P w K mg base N qual scope f cd A outer s H E) [] (start N vs) H s1 := by
  have hpl : ps.length ≤ N.length := by have := congrArg List.length S.pre; rw [List.length_take] at this; omega
  obtain ⟨h1, tk, rfl, hk⟩ := x.done
  have noA : ∀ b : Addr, b ∉ (cxOf CX P w K mg base N qual scope f cd A outer s H E).ex := fun b z => absurd (show b ∈ ([] : List Addr) from z) (by simp)
  refine ⟨⟨e0.mod, S.kind, rfl, rfl, Nat.le_refl _, fun y z c h1 h2 => ?_, fun y hy => ?_, fun y c o' h => ?_, fun o' => hd, Around.frames_deeper e0.frames, .inr ⟨rfl, rfl⟩, fun b z => absurd z (noA b), e0.bs, e0.bsz, fun b o' o' => noA b, fun b z => absurd z (noA b), e0.funs, e0.frf⟩,
    rfl, e0.bare, Un.kept hk, ⟨_, x.toInCall.ns, fun i y v h1 h2 h3 => ?_⟩, fun y c h => ⟨_, x.cell y c h⟩, e0.hok.fresh (Nat.le_refl _), fun y c h => ?_, fun p hp => absurd (show p ∈ ([] : List (Addr × Obj)) from hp) (by simp), e0.hok.kept hk, ?_⟩
  · exact name_of_addr x.apart (PySem.mem_of_lookup h1) (PySem.mem_of_lookup h2)
  · have hy : scope.names.lookup y = some .cell ∨ scope.names.lookup y = some .free := hy
    rcases hy with hy | hy
    · exact cell_has hy
    · exact absurd rfl (S.nofree _ (PySem.mem_of_lookup hy))
  · exact Nat.le_of_lt (x.above y c (PySem.mem_of_lookup h))
  · have hi : i < vs.length := by
      unfold start at h2
      by_cases hi : i < vs.length
      · exact hi
      · rw [List.getElem?_append_right (by simpa using hi)] at h2
        rw [List.getElem?_replicate] at h2
        split at h2 <;> cases h2
    have ha : vs[i]? = some v := by
      unfold start at h2
      rw [List.getElem?_append_left (by simpa using hi), List.getElem?_map] at h2
      cases e : vs[i]? with
      | none => rw [e] at h2; cases h2
      | some a => rw [e] at h2; cases h2; rfl
    obtain ⟨u, hu, rv⟩ := r.get ha
    have hp : ps[i]? = some y := by
      rw [← S.pre, List.getElem?_take_of_lt (by omega)]; exact h1
    have ndP : ps.Nodup := by rw [← S.pre]; exact S.nd.sublist (List.take_sublist _ _)
    refine ⟨u, rv, ?_⟩
    rcases S.par y (List.mem_of_getElem? hp) with k | k
    · exact .inl ⟨k, bindL_get ndP hp hu k⟩
    · obtain ⟨c, e⟩ := cell_has (n := s.heap.objs.size + 1) k
      refine .inr ⟨.inl k, c, e, ?_⟩
      have q := x.cell y c e
      rw [bindC_get ndP hp hu (by show scope.names.lookup y ≠ _; rw [k]; decide)] at q
      exact q
  · exact e0.hok.fresh (Nat.le_of_lt (x.above y c (PySem.mem_of_lookup h)))
  · unfold start
    show _ = N.length
    rw [List.length_append, List.length_map, List.length_replicate]
    omega
theorem fn_of {CX : CXT} {P : Program} {w : World} {K : PySem.W.Frag} {mg : Str → Option Value} {base : Heap} {k : Nat} {f : Addr} {name qual : Str} {params : Arguments} {body : List Stmt} {scope : Scope} {dV kV doc pm cdv ct oc : Value} {an od : Option Addr}
    {osl : Array (Option Value)} {N ps : List Str} {sp : Sp} (lk : K.lookup f = some ⟨oc, od, .func (PySem.W.fnOf name qual params body scope dV kV doc pm an cdv ct), osl⟩) (hcd : PySem.W.codeIn K cdv qual = true) (S : FnScope N ps scope)
    (len : ∀ vs H Q E, sp vs H Q E → vs.length = ps.length)
    (hbody : ∀ (A : Around) (outer : List Env) (s : Shared) (H : Hp) (vs : List V) (Q : VK) (E : XK), Room k (A.deeper (envOfC qual scope s.heap.objs.size f cdv)) → sp vs H Q E →
      ∃ t, PSs (cxOf CX P w K mg base N qual scope f cdv A outer s H E) body t ∧ t { nx := fun o' H' => Q .non H', rt := Q } (start N vs) H) :
    FnOk P w K mg base CX (k + 1) f (PySem.W.fnOf name qual params body scope dV kV doc pm an cdv ct) ps sp := by
  refine ⟨len, fun A outer s H args us vs Q E hr e0 hb r hsp => ?_⟩
  have hl := len _ _ _ _ hsp
  have KX : K.In s.heap := e0.mod.kin.keeps fun b o e => (e0.bs b o e).1
  have lim : s.heap.NoLimit := e0.mod.nolimit.keeps fun b o e => (e0.bs b o e).1
  have hkind : ∀ y ∈ ps.zip us, scope.names.lookup y.1 = some .local ∨ (scope.names.lookup y.1 = some .cell ∧ ((cellsFrom (s.heap.objs.size + 1) scope.names []).lookup y.1).isSome = true) := fun ⟨n, v⟩ hy => by
    rcases S.par n (List.of_mem_zip hy).1 with q | q
    · exact .inl q
    · exact .inr ⟨q, PySem.W.cellsFrom_some _ _ _ (.inl q)⟩
  refine codeAny_call_function hr.depth (KX _ _ lk) rfl S.co S.gen rfl (PySem.W.codeRec_of KX hcd) (hb _ _ _ _ ?_)
  refine wpAny_newFunctionEnv_cells S.kind hkind fun env he s1 x => ?_
  subst he
  refine ⟨lim.keeps x.toInCall.keep, codeAny_func ?_⟩
  obtain ⟨t, ht, hq⟩ := hbody A outer s H vs Q E (hr.deeper _) hsp
  have I : Inv (cxOf CX P w K mg base N qual scope f cdv A outer s H E) [] (start N vs) H s1 := inv_start S hr.hd e0 hl r x
  refine wpAny_mono (ht [] s1 (start N vs) H _ I hq) (fun fl s' hs => ?_) fun e s' hs => hs
  have fin : ∀ {σ' : St} {H' : Hp} {v : V} {u : Value}, Inv (cxOf CX P w K mg base N qual scope f cdv A outer s H E) [] σ' H' s' → RelV v u → Q v H' → CE outer P w H s Q u s' :=
    fun {σ' H' v u} J rv q => ⟨v, H', J.os, J.bare, J.base, J.hok, rv, q⟩
  cases fl with
  | ret u =>
    obtain ⟨v, σ', H', J, rv, q⟩ := hs
    exact fin J rv q
  | next =>
    obtain ⟨σ', H', J, q⟩ := hs
    exact fin (v := V.non) (u := Value.none) J rfl q
  | brk =>
    obtain ⟨_, _, _, q⟩ := hs
    exact False.elim q
  | cont =>
    obtain ⟨_, _, _, q⟩ := hs
    exact False.elim q
end L2
namespace L2
open PySem PySem.Spec PyProof.Rows
section
variable {X : Cx} {x : Str} {p pos : Pos} {e : Expr} {es : List Expr} {t : TA} {id T : String} {r : List V → Hp → VK → Prop}
noncomputable def tCB (r : List V → Hp → VK → Prop) (t : TA) : TE := fun σ H Q => t σ H fun vs H1 => r vs H1 Q
theorem pe_callB (hc : CallR X (.builtin id) r) (hg : Gl X x) (hm : X.mg x = none) (hv : bootBuiltins x = some (.builtin id)) (ha : PA X (e :: es) t) (hn : x ≠ "__name__" := by decide) (hdb : (x == ("__debug__" : Str)) = false := by decide)
    (he : starEach (e :: es) X.env = (false, eval e X.env) :: starEach es X.env := by rfl) (hpl : (backTo pos (starEach es X.env)).any (·.1) = false := by rfl) : PE X (.Call (.Name x p) (e :: es) [] pos) (tCB r t) := by
  intro pins s σ H Q I h
  refine wpAny_Call_Name_kw (ld_blt I hg hm hv ?_ hn hdb)
  exact PyProof.Rows.callWith_builtin1 (thn (ha pos pins s σ H _ I h) fun us s1 ⟨vs, H1, I1, r1, q1⟩ => hc pins s1 σ H1 vs us Q I1 r1 q1) he hpl
theorem pe_callTy (hc : CallR X (.type T) r) (hg : Gl X x) (hm : X.mg x = none) (hv : bootBuiltins x = some (.type T)) (ha : PA X (e :: es) t) (hn : x ≠ "__name__" := by decide) (hdb : (x == ("__debug__" : Str)) = false := by decide)
    (he : starEach (e :: es) X.env = (false, eval e X.env) :: starEach es X.env := by rfl) (hpl : (backTo pos (starEach es X.env)).any (·.1) = false := by rfl) : PE X (.Call (.Name x p) (e :: es) [] pos) (tCB r t) := by
  intro pins s σ H Q I h
  refine wpAny_Call_Name_kw (ld_blt I hg hm hv ?_ hn hdb)
  exact PyProof.Rows.callWith_type1 (thn (ha pos pins s σ H _ I h) fun us s1 ⟨vs, H1, I1, r1, q1⟩ => hc pins s1 σ H1 vs us Q I1 r1 q1) he hpl
end
end L2
namespace HT
open PySem PyProof.Rows
section
open PySem.SeqAt
open PySem.AutoSeq1 (wpAny_loadPart')
open PySem.MeetsSeq PySem.MeetsSeq2 PySem.MeetsSeq3
end
section
variable {prog : Program} {w : World} {A : Around} {E : Value → Shared → Prop} {s : Shared}
theorem cat_tup {t b : Addr} {vs ws : List Value} {Q : Value → Shared → Prop} (ht : IsTup s.heap t vs.toArray) (hb : IsTup s.heap b ws.toArray) (hv : vs ≠ [])
    (h1 : ws = [] → Q (.ref t) s) (h2 : ws ≠ [] → Q (.ref s.heap.objs.size) { s with heap := s.heap.push { cls := .type "tuple", data := .seq (vs ++ ws).toArray } })
    (hsz : vs.length + ws.length ≤ sizeLine) : wpAny (model prog w) A (binaryOp .Add (.ref t) (.ref b)) Q E s := by
  obtain ⟨⟨cls, dd, data, sl⟩, ho, hc, n, hd⟩ := id ht
  obtain ⟨⟨cls2, dd2, data2, sl2⟩, ho2, hc2, n2, hd2⟩ := id hb
  simp only at hc hd hc2 hd2
  subst hc hd hc2 hd2
  have e : vs.toArray ++ ws.toArray = (vs ++ ws).toArray := by simp
  by_cases hw : ws = []
  · exact concat_meets ⟨_, ho, rfl⟩ ⟨_, ho2, rfl⟩ noFill_tuple_add seq_tuple_add PySem.F.slot_tuple_add PySem.F.entry_tuple_add (PySem.F.args_tuple_add_2 _ _)
      (tuple_addW1 t b vs.toArray ws.toArray n n2 dd dd2 sl sl2 (by simpa using hv) (by simp [hw])) ⟨ho, ho2, h1 hw⟩
  · refine concat_meets ⟨_, ho, rfl⟩ ⟨_, ho2, rfl⟩ noFill_tuple_add seq_tuple_add PySem.F.slot_tuple_add PySem.F.entry_tuple_add (PySem.F.args_tuple_add_2 _ _)
      (tuple_addW2 t b vs.toArray ws.toArray n n2 dd dd2 sl sl2 (by simpa using hv) (by simpa using hw) (by rw [List.size_toArray, List.size_toArray]; exact hsz)) ⟨ho, ho2, ?_⟩
    rw [e]
    exact h2 hw
noncomputable def sIx (n d : Nat) : Option Int → Nat
  | none => d
  | some v => if v < 0 then (v + (n : Int)).toNat else min v.toNat n
theorem sIx_le (n d : Nat) (hd : d ≤ n) (o : Option Int) : sIx n d o ≤ n := by
  cases o with
  | none => exact hd
  | some v =>
    show (if v < 0 then (v + (n : Int)).toNat else min v.toNat n) ≤ n
    by_cases hv : v < 0
    · rw [if_pos hv]; omega
    · rw [if_neg hv]; exact Nat.min_le_right _ _
theorem clip_eq (v : Int) (n d : Nat) : (if v < 0 then max (v + (n : Int)) 0 else min v (n : Int)) = ((sIx n d (some v) : Nat) : Int) := by
  show (if v < 0 then max (v + (n : Int)) 0 else min v (n : Int)) = (((if v < 0 then (v + (n : Int)).toNat else min v.toNat n) : Nat) : Int)
  by_cases hv : v < 0
  · simp only [if_pos hv]; omega
  · simp only [if_neg hv]; omega
theorem adjust_gen (lo hi : Option Int) (n : Nat) : Builtin.Slice.sliceAdjust lo hi 1 (n : Int) = (((sIx n 0 lo : Nat) : Int), ((sIx n n hi : Nat) : Int)) := by
  have h1 : ¬ ((1 : Int) < 0) := by omega
  unfold Builtin.Slice.sliceAdjust
  simp only [h1, if_false]
  refine Prod.ext ?_ ?_
  · cases lo with
    | none => rfl
    | some v => exact clip_eq v n 0
  · cases hi with
    | none => rfl
    | some v => exact clip_eq v n n
theorem places_gen (i j : Nat) : Builtin.Slice.slicePlaces (i : Int) (j : Int) 1 = j - i := by
  unfold Builtin.Slice.slicePlaces
  have h1 : (1 : Int) > 0 := by omega
  simp only [h1, if_true, Int.ediv_one]
  split <;> omega
theorem slicePart_ {v : Value} {o : Option Int} {Q : Option Int → Shared → Prop} (p : IsPart v o) (h : Q o s) : wpAny (model prog w) A (Builtin.Slice.slicePartIndex v) Q E s := by
  cases p with
  | none => exact slicePart_none h
  | int i t => exact slicePart_int h
theorem sliceApplied_gen {sl : Addr} {vl vu : Value} {lo hi : Option Int} {n : Nat} {Q : Int × Int × Nat → Shared → Prop} (hs : s.heap.IsSliceOf sl vl vu .none) (pl : IsPart vl lo) (pu : IsPart vu hi)
    (h : Q (((sIx n 0 lo : Nat) : Int), 1, sIx n n hi - sIx n 0 lo) s) : wpAny (model prog w) A (Builtin.Slice.sliceApplied (.ref sl) (pure (n : Int))) Q E s := by
  obtain ⟨os, hos, hcs, hds⟩ := id hs
  unfold Builtin.Slice.sliceApplied Builtin.Slice.sliceFields
  refine wpAny_bind (wpAny_bind (wpAny_field hos hds (x := vl) rfl (wpAny_bind (wpAny_field hos hds (x := vu) rfl (wpAny_bind (wpAny_field hos hds (x := .none) rfl (wpAny_pure ?_)))))))
  refine wpAny_bind (slicePart_none ?_)
  show wpAny _ _ (if ((1 : Int) == 0) = true then _ else _) _ _ s
  rw [if_neg (by decide)]
  refine wpAny_bind (slicePart_ pl (wpAny_bind (slicePart_ pu (wpAny_bind (wpAny_pure ?_)))))
  show wpAny _ _ (match Builtin.Slice.sliceAdjust lo hi 1 (n : Int) with | (lo, hi) => pure (lo, (1 : Int), Builtin.Slice.slicePlaces lo hi 1)) _ _ s
  rw [adjust_gen lo hi n]
  show wpAny _ _ (pure (((sIx n 0 lo : Nat) : Int), (1 : Int), Builtin.Slice.slicePlaces ((sIx n 0 lo : Nat) : Int) ((sIx n n hi : Nat) : Int) 1)) _ _ s
  rw [places_gen]
  exact wpAny_pure h
theorem pick_gen (xs : Array Value) (i k : Nat) : ((List.range k).filterMap fun (m : Nat) => xs[((i : Int) + (m : Int) * 1).toNat]?).toArray = ((xs.toList.drop i).take k).toArray := by
  have e : (fun (m : Nat) => xs[((i : Int) + (m : Int) * 1).toNat]?) = fun m => xs[i + m]? := by
    funext m
    have : ((i : Int) + (m : Int) * 1).toNat = i + m := by omega
    rw [this]
  rw [e]
  have := pick_run xs i k
  rw [List.filterMap_map] at this
  have e2 : ((fun x => xs[x]?) ∘ fun x => i + x) = fun m => xs[i + m]? := rfl
  rw [e2] at this
  rw [this]
theorem getItem_tuple_cut {t sl : Addr} {items : Array Value} {vl vu : Value} {lo hi : Option Int} {Q : Value → Shared → Prop} (ht : IsTup s.heap t items) (hs : s.heap.IsSliceOf sl vl vu .none) (pl : IsPart vl lo) (pu : IsPart vu hi)
    (hw : ¬ (sIx items.size 0 lo = 0 ∧ sIx items.size items.size hi = items.size))
    (h : Q (.ref s.heap.objs.size) { s with heap := s.heap.push { cls := .type "tuple", data := .seq ((items.toList.drop (sIx items.size 0 lo)).take (sIx items.size items.size hi - sIx items.size 0 lo)).toArray } })
    (hsz : items.size ≤ sizeLine) : wpAny (model prog w) A (getItem (.ref t) (.ref sl)) Q E s := by
  have htake : sizeOk (.seq ((items.toList.drop (sIx items.size 0 lo)).take (sIx items.size items.size hi - sIx items.size 0 lo)).toArray) := by
    show ((items.toList.drop (sIx items.size 0 lo)).take (sIx items.size items.size hi - sIx items.size 0 lo)).toArray.size ≤ sizeLine
    rw [List.size_toArray, List.length_take, List.length_drop, Array.length_toList]
    omega
  have hj : sIx items.size items.size hi ≤ items.size := sIx_le _ _ (Nat.le_refl _) hi
  obtain ⟨os, hos, hcs, hds⟩ := id hs
  have hTs : s.TypeIs (.ref sl) "slice" := ⟨os, hos, hcs⟩
  unfold getItem
  try with_reducible refine wpAny_holding ?_
  first | refine wpAny_bind (wpAny_pure ?_) | skip
  refine wpAny_bind (wpAny_sequenceKey ht.typeIs (by decide) ?_)
  refine wpAny_bind (wpAny_callSpecial?_slot (name := Str.ofString "__getitem__") ht.typeIs PyProof.Rows.slot_tuple_getitem
    (wpAny_call_entry PyProof.Rows.slot_tuple_getitem ht.typeIs entry_tuple_getitem ?_ (args_tuple_getitem _ _)))
  show wpAny _ _ (Builtin.Tuple.tupleItemsOf (.ref t) >>= _) _ _ s
  refine wpAny_bind (tupleItemsOf_ ht ?_)
  refine wpAny_bind (wpAny_typeOf hTs ?_)
  rw [if_pos (by decide)]
  refine wpAny_bind (sliceApplied_gen hs pl pu ?_)
  have hno : ¬ ((((sIx items.size 0 lo : Nat) : Int) == 0 && (1 : Int) == 1 && (sIx items.size items.size hi - sIx items.size 0 lo) == items.size) = true) := by
    intro q
    rw [Bool.and_eq_true, Bool.and_eq_true] at q
    have q1 : ((sIx items.size 0 lo : Nat) : Int) = 0 := eq_of_beq q.1.1
    have q2 : sIx items.size items.size hi - sIx items.size 0 lo = items.size := eq_of_beq q.2
    exact hw ⟨by omega, by omega⟩
  show wpAny _ _ (if (((sIx items.size 0 lo : Nat) : Int) == 0 && (1 : Int) == 1 && (sIx items.size items.size hi - sIx items.size 0 lo) == items.size) = true then _ else _) _ _ s
  rw [if_neg hno, pick_gen]
  first
    | exact wpAny_bind (m := Builtin.Tuple.tupleExact _) (wpAny_newObj_type (wpAny_pure ⟨_, rfl, wpAny_pure h⟩) htake)
    | exact wpAny_bind (m := Builtin.Tuple.tupleExact _) (wpAny_newObj_type (wpAny_bind (wpAny_pure (wpAny_pure ⟨_, rfl, wpAny_pure h⟩))) htake)
    | exact wpAny_bind (wpAny_bind (m := Builtin.Tuple.tupleExact _) (wpAny_newObj_type (wpAny_pure (wpAny_pure ⟨_, rfl, wpAny_pure h⟩)) htake))
    | exact wpAny_bind (wpAny_bind (m := Builtin.Tuple.tupleExact _) (wpAny_newObj_type (wpAny_pure ⟨_, rfl, wpAny_pure h⟩) htake))
end
end HT
namespace L2
open PySem PySem.Spec PyProof.Rows
noncomputable abbrev TO := St → Hp → (Option Int → Hp → Prop) → Prop
noncomputable def PO (X : Cx) (e : Option Expr) (t : TO) : Prop :=
  ∀ (pins : List (Addr × Obj)) (s : Shared) (σ : St) (H : Hp) (Q : Option Int → Hp → Prop), Inv X pins σ H s → t σ H Q →
    wpAny (model X.prog X.w) X.A (evalPart e X.env) (fun u s' => ∃ o H', Inv X pins σ H' s' ∧ IsPart u o ∧ Q o H') X.xe s
noncomputable def tNoPart : TO := fun o' H Q => Q none H
noncomputable def tPart (t : TE) : TO := fun σ H Q => t σ H fun x H1 => ∃ i, x = .int i ∧ Q (some i) H1
section
variable {X : Cx} {e : Expr} {te : TE} {lo hi : Option Expr} {tl th : TO} {pos p2 : Pos}
theorem po_none : PO X none tNoPart := by
  intro pins s σ H Q I h
  rw [evalPart_none]
  exact wpAny_pure ⟨none, H, I, .none, h⟩
theorem po_some (h : PE X e te) : PO X (some e) (tPart te) := by
  intro pins s σ H Q I hw
  rw [evalPart_some]
  refine thn (h pins s σ H _ I hw) fun u s1 ⟨x, H1, I1, r1, q1⟩ => ?_
  obtain ⟨i, rfl, q⟩ := q1
  obtain ⟨t, rfl⟩ := r1
  exact ⟨some i, H1, I1, .int i t, q⟩
noncomputable def SlR (X : Cx) (r : V → Option Int → Option Int → Hp → VK → Prop) : Prop :=
  ∀ (pins : List (Addr × Obj)) (s : Shared) (σ : St) (H : Hp) (x : V) (v vl vu : Value) (lo hi : Option Int) (sl : Addr) (Q : VK), Inv X pins σ H s → RelV x v → s.heap.IsSliceOf sl vl vu .none → IsPart vl lo → IsPart vu hi → r x lo hi H Q →
    ∃ T id, typeLookup (.type T) "__getitem__" = pure (some (.builtin id)) ∧ s.TypeIs v T ∧ wpAny (model X.prog X.w) X.A (getItem v (.ref sl)) (EP X pins σ Q) X.xe s
theorem SlR.or {r r' : V → Option Int → Option Int → Hp → VK → Prop} (h : SlR X r) (h' : SlR X r') : SlR X (fun x lo hi H Q => r x lo hi H Q ∨ r' x lo hi H Q) := by
  intro pins s σ H x v vl vu lo hi sl Q I rx hs pl pu q
  rcases q with q | q
  · exact h pins s σ H x v vl vu lo hi sl Q I rx hs pl pu q
  · exact h' pins s σ H x v vl vu lo hi sl Q I rx hs pl pu q
noncomputable def tSl (r : V → Option Int → Option Int → Hp → VK → Prop) (te : TE) (tl th : TO) : TE := fun σ H Q => te σ H fun x H1 => tl σ H1 fun l H2 => th σ H2 fun u H3 => r x l u H3 Q
theorem pe_slice {r : V → Option Int → Option Int → Hp → VK → Prop} (hr : SlR X r) (he : PE X e te) (hl : PO X lo tl) (hu : PO X hi th) : PE X (.Subscript e (.Slice lo hi none p2) pos) (tSl r te tl th) := by
  intro pins s σ H Q I h
  refine Subscript_ (thn (he pins s σ H _ I h) fun v s1 ⟨x, H1, I1, r1, q1⟩ => ?_)
  refine wpAny_Slice (thn (hl pins s1 σ H1 _ I1 q1) fun vl s2 ⟨l, H2, I2, pl, q2⟩ => thn (hu pins s2 σ H2 _ I2 q2) fun vu s3 ⟨u, H3, I3, pu, q3⟩ => ?_)
  rw [evalPart_none]
  refine wpAny_pure ?_
  have I4 : Inv X pins σ H3 { s3 with heap := s3.heap.push { cls := .type "slice", data := .fields #[vl, vu, .none] } } := I3.kept (t' := s3.toks) fun b ob q => Heap.get?_push_of_some _ q
  obtain ⟨T, id, hT, ht, hg⟩ := hr pins { s3 with heap := s3.heap.push { cls := .type "slice", data := .fields #[vl, vu, .none] } } σ H3 x v vl vu l u s3.heap.objs.size Q I4 r1 (Heap.IsSliceOf.new ..) pl pu q3
  show wpAny (model X.prog X.w) X.A (subscriptTail e (.Slice lo hi none p2) v (.ref s3.heap.objs.size)) (EP X pins σ Q) X.xe { s3 with heap := s3.heap.push { cls := .type "slice", data := .fields #[vl, vu, .none] } }
  exact tail_any (ops := [.ref s3.heap.objs.size, v]) ht hT hg (by with_unfolding_all rfl)
noncomputable def cutV (xs : List V) (lo hi : Option Int) : List V := (xs.drop (HT.sIx xs.length 0 lo)).take (HT.sIx xs.length xs.length hi - HT.sIx xs.length 0 lo)
theorem cutV_length (xs : List V) (lo hi : Option Int) : (cutV xs lo hi).length ≤ xs.length := by
  unfold cutV
  rw [List.length_take, List.length_drop]
  exact Nat.le_trans (Nat.min_le_right _ _) (Nat.sub_le _ _)
noncomputable def rSlT (K : PySem.W.Frag) : V → Option Int → Option Int → Hp → VK → Prop := fun x lo hi H Q => ∃ a xs, x = .ref a ∧ SqT K H a xs ∧
  ¬ (HT.sIx xs.length 0 lo = 0 ∧ HT.sIx xs.length xs.length hi = xs.length) ∧ ∀ p, H p = none → Q (.ref p) (upd H p (.tup (cutV xs lo hi)))
theorem sl_tup : SlR X (rSlT X.K) := by
  intro pins s σ H x v vl vu lo hi sl Q I rx hs pl pu h
  obtain ⟨a, xs, rfl, hx, hw, q⟩ := h
  cases rx
  obtain ⟨its, r, ht, hz⟩ := I.tuple hx
  have hlen : its.toArray.size = xs.length := by rw [List.size_toArray]; exact r.length.symm
  refine ⟨"tuple", _, PyProof.Rows.slot_tuple_getitem.lookup, ht.typeIs, ?_⟩
  refine HT.getItem_tuple_cut ht hs pl pu (by rw [hlen]; exact hw) ?_ (by rw [hlen]; exact hz)
  rw [hlen]
  refine ⟨.ref s.heap.objs.size, _, I.laid (t' := s.toks) (o := .tup (cutV xs lo hi)) (fun b ob q => Heap.get?_push_of_some _ q) (Nat.le_refl _) ?_, rfl, q _ (I.hok.fresh (Nat.le_refl _))⟩
  exact ⟨Nat.le_trans (cutV_length xs lo hi) hz, _, (r.drop (HT.sIx xs.length 0 lo)).take (HT.sIx xs.length xs.length hi - HT.sIx xs.length 0 lo), TupO.new _ _⟩
noncomputable def rCatT (K : PySem.W.Frag) : R2 := fun x y H Q => ∃ a b xs ys, x = .ref a ∧ y = .ref b ∧ SqT K H a xs ∧ SqT K H b ys ∧ xs ≠ [] ∧ xs.length + ys.length ≤ sizeLine ∧
  (ys = [] → Q (.ref a) H) ∧ (ys ≠ [] → ∀ p, H p = none → Q (.ref p) (upd H p (.tup (xs ++ ys))))
theorem Vals.nil_iff {xs : List V} {us : List Value} (r : Vals xs us) : us = [] ↔ xs = [] := by
  cases r with
  | nil => simp
  | cons _ _ => simp
theorem op_catT : OpR X (binaryOp .Add) (rCatT X.K) := by
  intro pins s σ H x y v u Q I rx ry h
  obtain ⟨a, b, xs, ys, rfl, rfl, ha, hb, hx, hz, q1, q2⟩ := h
  cases rx
  cases ry
  obtain ⟨its, r1, p1, _⟩ := I.tuple ha
  obtain ⟨its2, r2, p2, _⟩ := I.tuple hb
  refine HT.cat_tup p1 p2 (fun z => hx (r1.nil_iff.mp z)) (fun z => ⟨.ref a, H, I, rfl, q1 (r2.nil_iff.mp z)⟩) (fun z => ?_) (by rw [← r1.length, ← r2.length]; exact hz)
  refine ⟨.ref s.heap.objs.size, _, I.laid (t' := s.toks) (o := .tup (xs ++ ys)) (fun b ob q => Heap.get?_push_of_some _ q) (Nat.le_refl _) ?_, rfl, q2 (fun w => z (r2.nil_iff.mpr w)) _ (I.hok.fresh (Nat.le_refl _))⟩
  exact ⟨by rw [List.length_append]; exact hz, _, r1.append r2, TupO.new _ _⟩
end
end L2
namespace L2
open PySem PySem.Spec PyProof.Rows
noncomputable def ixN (n : Nat) (i : Int) : Option Nat := if 0 ≤ i then (if i < n then some i.toNat else none) else if -(n : Int) ≤ i then some (i + n).toNat else none
noncomputable def atI {α : Type} (xs : List α) (i : Int) : Option α := (ixN xs.length i).bind fun j => xs[j]?
theorem ixN_seq {n : Nat} {i : Int} {j : Nat} (h : ixN n i = some j) : seqIndex? i n = some j ∧ j < n ∧ -(n : Int) ≤ i ∧ i < n := by
  unfold ixN at h
  by_cases h0 : 0 ≤ i
  · rw [if_pos h0] at h
    by_cases h1 : i < n
    · rw [if_pos h1] at h
      have e : i.toNat = j := Option.some.inj h
      exact ⟨by rw [seqIndex_of h0 h1, e], by omega, by omega, h1⟩
    · rw [if_neg h1] at h; cases h
  · rw [if_neg h0] at h
    by_cases h1 : -(n : Int) ≤ i
    · rw [if_pos h1] at h
      have e : (i + n).toNat = j := Option.some.inj h
      exact ⟨by rw [seqIndex_neg (by omega) h1, e], by omega, h1, by omega⟩
    · rw [if_neg h1] at h; cases h
theorem atI_get {α : Type} {xs : List α} {i : Int} {v : α} (h : atI xs i = some v) : ∃ j, seqIndex? i xs.length = some j ∧ xs[j]? = some v ∧ j < xs.length ∧ -(xs.length : Int) ≤ i ∧ i < xs.length := by
  unfold atI at h
  cases e : ixN xs.length i with
  | none => rw [e] at h; cases h
  | some j =>
    rw [e] at h
    obtain ⟨h1, h2, h3, h4⟩ := ixN_seq e
    exact ⟨j, h1, h, h2, h3, h4⟩
theorem atI_nat {α : Type} {xs : List α} {j : Nat} {v : α} (h : xs[j]? = some v) : atI xs (j : Int) = some v := by
  have hj : j < xs.length := (List.getElem?_eq_some_iff.mp h).1
  have e : ixN xs.length (j : Int) = some j := by
    unfold ixN
    rw [if_pos (by omega), if_pos (by omega)]; simp
  unfold atI; rw [e]; exact h
noncomputable def PlainIx (b : Expr) : Prop := ∀ o i, subscripted b false o i = operate [o, i] (getItem o i)
noncomputable def IxR (X : Cx) (r : R2) : Prop :=
  ∀ (value slice : Expr) (pins : List (Addr × Obj)) (s : Shared) (σ : St) (H : Hp) (x y : V) (v u : Value) (Q : VK), Inv X pins σ H s → RelV x v → RelV y u → r x y H Q →
    subscripted slice false v u = operate [v, u] (getItem v u) → wpAny (model X.prog X.w) X.A (subscriptTail value slice v u) (EP X pins σ Q) X.xe s
noncomputable def MtR (X : Cx) (id : String) (r : V → List V → Hp → VK → Prop) : Prop :=
  ∀ (pins : List (Addr × Obj)) (s : Shared) (σ : St) (H : Hp) (x : V) (xs : List V) (v : Value) (us : List Value) (Q : VK), Inv X pins σ H s → RelV x v → Vals xs us → r x xs H Q →
    wpAny (model X.prog X.w) X.A (call (.builtin id) (v :: us)) (EP X pins σ Q) X.xe s
section
variable {X : Cx} {a b : Expr} {ta tb : TE} {pos : Pos}
theorem IxR.or {r r' : R2} (h : IxR X r) (h' : IxR X r') : IxR X (fun x y H Q => r x y H Q ∨ r' x y H Q) := by
  intro value slice pins s σ H x y v u Q I rx ry q hs
  rcases q with q | q
  · exact h value slice pins s σ H x y v u Q I rx ry q hs
  · exact h' value slice pins s σ H x y v u Q I rx ry q hs
theorem pe_ix {r : R2} (hr : IxR X r) (ha : PE X a ta) (hb : PE X b tb) (hs : PlainIx b) : PE X (.Subscript a b pos) (tOp r ta tb) := by
  intro pins s σ H Q I h
  exact Subscript_ (binT ha hb I h fun v u s2 x y H2 I2 rx ry q => hr a b pins s2 σ H2 x y v u Q I2 rx ry q (hs _ _))
noncomputable def rIxL (K : PySem.W.Frag) : R2 := fun x y H Q => ∃ p xs i v, x = .ref p ∧ y = .int i ∧ SqL K H p xs ∧ atI xs i = some v ∧ Q v H
noncomputable def rIxT (K : PySem.W.Frag) : R2 := fun x y H Q => ∃ p xs i v, x = .ref p ∧ y = .int i ∧ SqT K H p xs ∧ atI xs i = some v ∧ Q v H
noncomputable def rIxS : R2 := fun x y H Q => ∃ z i c, x = .str z ∧ y = .int i ∧ z.length ≤ sizeLine ∧ atI z.cps.toList i = some c ∧ Q (.str ⟨#[c]⟩) H
theorem ix_list : IxR X (rIxL X.K) := by
  intro value slice pins s σ H x y v u Q I rx ry h hs
  obtain ⟨p, xs, i, z, rfl, rfl, hq, he, q⟩ := h
  cases rx
  obtain ⟨t, rfl⟩ := ry
  obtain ⟨its, r, pl, hz⟩ := I.list hq
  obtain ⟨j, h1, h2, h3, h4, h5⟩ := atI_get he
  obtain ⟨w, ew, rw'⟩ := r.get h2
  have hl := r.length
  have hn := line63
  have fin : EP X pins σ Q w s := ⟨z, H, I, rw', q⟩
  by_cases h0 : 0 ≤ i
  · have hj : i.toNat = j := by
      rw [seqIndex_of h0 h5] at h1
      exact Option.some.inj h1
    exact item_listR pl.isList h0 (by omega) (by rw [hj]; simpa using ew) fin hs
  · have hj : (i + (its.toArray.size : Int)).toNat = j := by
      rw [seqIndex_neg (by omega) h4] at h1
      rw [List.size_toArray, ← hl]
      exact Option.some.inj h1
    exact subscriptTail_builtinR (x := w) pl.isList.typeIs slot_list_getitem.lookup
      (wpAny_getItem_list_neg (Q := fun r s' => r = w ∧ EP X pins σ Q r s') pl.isList (by omega) (by rw [List.size_toArray] <;> omega) (by omega) (by rw [hj]; simpa using ew) ⟨rfl, fin⟩) hs
theorem ix_tup : IxR X (rIxT X.K) := by
  intro value slice pins s σ H x y v u Q I rx ry h hs
  obtain ⟨p, xs, i, z, rfl, rfl, hq, he, q⟩ := h
  cases rx
  obtain ⟨t, rfl⟩ := ry
  obtain ⟨its, r, pl, hz⟩ := I.tuple hq
  obtain ⟨j, h1, h2, h3, h4, h5⟩ := atI_get he
  obtain ⟨w, ew, rw'⟩ := r.get h2
  have hl := r.length
  have hn := line63
  have fin : EP X pins σ Q w s := ⟨z, H, I, rw', q⟩
  exact subscriptTail_builtinR (x := w) pl.typeIs slot_tuple_getitem.lookup
    (getItem_tuple (j := j) (Q := fun r s' => r = w ∧ EP X pins σ Q r s') pl (by omega) (by omega) (by rw [List.size_toArray, ← hl]; exact h1) (by simpa using ew) ⟨rfl, fin⟩) hs
theorem ix_str : IxR X rIxS := by
  intro value slice pins s σ H x y v u Q I rx ry h hs
  obtain ⟨z, i, c, rfl, rfl, hz, he, q⟩ := h
  obtain ⟨t, rfl⟩ := rx
  obtain ⟨t', rfl⟩ := ry
  obtain ⟨j, h1, h2, h3, h4, h5⟩ := atI_get he
  have hl : z.cps.toList.length = z.length := by simp [Str.length]
  rw [hl] at h1 h4 h5
  have hn := line63
  exact tail_any (typeIs_str s z t) slot_str_getitem.lookup (getItem_str (c := c) (by
    have e1 : decide (i < -(2 ^ 63 : Int)) = false := decide_eq_false (by omega)
    have e2 : decide (i ≥ 2 ^ 63) = false := decide_eq_false (by omega)
    rw [e1, e2, Bool.or_false]) (by rw [h1]; simpa using h2) ⟨.str ⟨#[c]⟩, H, I.tok _, ⟨_, rfl⟩, q⟩) hs
noncomputable def rIx (K : PySem.W.Frag) : R2 := fun x y H Q => rIxL K x y H Q ∨ rIxT K x y H Q ∨ rIxS x y H Q
theorem ix_seq : IxR X (rIx X.K) := ix_list.or (ix_tup.or ix_str)
theorem mapSeq_set (its : List Value) (n j : Nat) (u : Value) : Obj.mapSeq (·.setIfInBounds j u) { cls := .type "list", data := .seq its.toArray n } = { cls := .type "list", data := .seq (its.set j u).toArray n } := by
  simp [Obj.mapSeq]
theorem Inv.lst {pins : List (Addr × Obj)} {σ : St} {H : Hp} {s : Shared} {p : Addr} {xs : List V} (I : Inv X pins σ H s) (h : H p = some (.lst xs)) :
    ∃ (its : List Value) (n : Nat), Vals xs its ∧ s.heap.get? p = some { cls := .type "list", data := .seq its.toArray n } ∧ xs.length ≤ sizeLine := by
  obtain ⟨z, its, n, r, e⟩ := I.hok p _ h
  exact ⟨its, n, r, e, z⟩
theorem Inv.lstUpd {pins : List (Addr × Obj)} {σ : St} {H : Hp} {s : Shared} {p : Addr} {xs ys : List V} {its its' : List Value} {n n' : Nat} {f : Obj → Obj} (I : Inv X pins σ H s) (h : H p = some (.lst xs))
    (ho : s.heap.get? p = some { cls := .type "list", data := .seq its.toArray n }) (hf : f { cls := .type "list", data := .seq its.toArray n } = { cls := .type "list", data := .seq its'.toArray n' }) (r : Vals ys its') (hz : ys.length ≤ sizeLine) (t : Nat) :
    Inv X pins σ (upd H p (.lst ys)) { s with heap := s.heap.update p f, toks := t } := by
  have e : (s.heap.update p f).get? p = some { cls := .type "list", data := .seq its'.toArray n' } := by
    rw [Heap.get?_update_self f ho (by rw [hf] <;> rfl), hf]
  refine I.write (x := p) (e := p) (by rw [h]; trivial) (.inl rfl) (fun b u hb q => (Heap.get?_update_other _ _ (Ne.symm hb)).trans q) ⟨_, e⟩ ?_
  exact ⟨hz, its', n', r, e⟩
noncomputable def rSetL : V → V → V → Hp → (Hp → Prop) → Prop := fun o i v H Q => ∃ p xs k j, o = .ref p ∧ i = .int k ∧ H p = some (.lst xs) ∧ ixN xs.length k = some j ∧ Q (upd H p (.lst (xs.set j v)))
theorem set_list : PSet X rSetL := by
  intro pins s σ H o i v ov iv u Q I ro ri rv h
  obtain ⟨p, xs, k, j, rfl, rfl, hp, hj, q⟩ := h
  cases ro
  obtain ⟨t, rfl⟩ := ri
  obtain ⟨its, n, r, ho, hz⟩ := I.lst hp
  obtain ⟨h1, h2, h3, h4⟩ := ixN_seq hj
  have hl := r.length
  have hn := line63
  have I' : Inv X pins σ (upd H p (.lst (xs.set j v))) { s with heap := s.heap.update p (Obj.mapSeq (·.setIfInBounds j u)) } :=
    I.lstUpd hp ho (mapSeq_set its n j u) (r.set rv j) (by rw [List.length_set]; exact hz) s.toks
  by_cases h0 : 0 ≤ k
  · have hk : k.toNat = j := by
      rw [seqIndex_of h0 h4] at h1
      exact Option.some.inj h1
    exact PySem.W.ki_setAt ho h0 (by omega) (by rw [List.size_toArray, ← hl]; exact h4) (by rw [hk]; exact ⟨_, I', q⟩)
  · have hk : (k + (its.toArray.size : Int)).toNat = j := by
      rw [seqIndex_neg (by omega) h3] at h1
      rw [List.size_toArray, ← hl]
      exact Option.some.inj h1
    exact PySem.W.ki_setBack ho (by omega) (by rw [List.size_toArray, ← hl]; exact h3) (by omega) (by rw [hk]; exact ⟨_, I', q⟩)
theorem sb1 {i : Int} {n : Nat} (h : i < 0) : max 0 (min (i + (n : Int)) (n : Int)) = (((i + (n : Int)).toNat : Nat) : Int) := by omega
theorem sb2 {i : Int} {n : Nat} (h : ¬ i < 0) : max 0 (min i (n : Int)) = ((min i.toNat n : Nat) : Int) := by omega
theorem slice_bounds (lo hi : Option Int) (n : Nat) : (sliceBounds lo hi none n).1 = ((HT.sIx n 0 lo : Nat) : Int) ∧ (sliceBounds lo hi none n).2.1 = ((HT.sIx n n hi : Nat) : Int) ∧ (sliceBounds lo hi none n).2.2 = 1 := by
  refine ⟨?_, ?_, rfl⟩
  · cases lo with
    | none => simp [sliceBounds, HT.sIx]
    | some i =>
      simp only [sliceBounds, HT.sIx, Option.getD_none, show (1 : Int) > 0 by decide, if_true]
      by_cases h : i < 0
      · simp only [h, if_true] <;> first | exact sb1 h | omega
      · simp only [h, if_false] <;> first | exact sb2 h | omega
  · cases hi with
    | none => simp [sliceBounds, HT.sIx]
    | some i =>
      simp only [sliceBounds, HT.sIx, Option.getD_none, show (1 : Int) > 0 by decide, if_true]
      by_cases h : i < 0
      · simp only [h, if_true] <;> first | exact sb1 h | omega
      · simp only [h, if_false] <;> first | exact sb2 h | omega
theorem slicePick_cut (its : List Value) (lo hi : Option Int) : slicePick its.toArray lo hi none = ((its.drop (HT.sIx its.length 0 lo)).take (HT.sIx its.length its.length hi - HT.sIx its.length 0 lo)).toArray := by
  obtain ⟨h1, h2, h3⟩ := slice_bounds lo hi its.toArray.size
  unfold slicePick
  rw [h1, h2, h3]
  simp only [sliceRange_one, pick_run, List.size_toArray] <;> rfl
noncomputable def rSlL (K : PySem.W.Frag) : V → Option Int → Option Int → Hp → VK → Prop := fun x lo hi H Q => ∃ a xs, x = .ref a ∧ SqL K H a xs ∧ ∀ p, H p = none → Q (.ref p) (upd H p (.lst (cutV xs lo hi)))
theorem sl_list : SlR X (rSlL X.K) := by
  intro pins s σ H x v vl vu lo hi sl Q I rx hs pl pu h
  obtain ⟨a, xs, rfl, hx, q⟩ := h
  cases rx
  obtain ⟨its, r, ht, hz⟩ := I.list hx
  have hlen := r.length
  refine ⟨"list", _, slot_list_getitem.lookup, ht.isList.typeIs, ?_⟩
  refine wpAny_getItem_list_slice ht.isList hs pl pu .none (by simp) ?_ (by rw [List.size_toArray] <;> omega)
  rw [slicePick_cut, ← hlen]
  refine ⟨.ref s.heap.objs.size, _, I.laid (t' := s.toks) (o := .lst (cutV xs lo hi)) (fun b ob q => Heap.get?_push_of_some _ q) (Nat.le_refl _) ?_, rfl, q _ (I.hok.fresh (Nat.le_refl _))⟩
  exact ⟨Nat.le_trans (cutV_length xs lo hi) hz, _, 0, (r.drop (HT.sIx xs.length 0 lo)).take (HT.sIx xs.length xs.length hi - HT.sIx xs.length 0 lo), Heap.get?_push_size _ rfl⟩
theorem op_notIn_str : OpR X (compareOp .NotIn) (fun x y H Q => ∃ i j, x = .str i ∧ y = .str j ∧ Q (.bl (!(!(Builtin.Str.occurrences j i 0 j.length 1).isEmpty))) H) := by
  intro pins s σ H x y v u Q I rx ry h
  obtain ⟨i, j, rfl, rfl, q⟩ := h
  obtain ⟨t, rfl⟩ := rx
  obtain ⟨t', rfl⟩ := ry
  exact notIn_str ⟨.bl _, H, I, rfl, q⟩
theorem call_list_of : CallR X (.type "list") (fun xs H Q => ∃ p ys, xs = [.ref p] ∧ (SqL X.K H p ys ∨ SqT X.K H p ys) ∧ ∀ l, H l = none → Q (.ref l) (upd H l (.lst ys))) := by
  intro pins s σ H xs us Q I r h
  obtain ⟨p, ys, rfl, hq, q⟩ := h
  obtain ⟨u, rfl, rx⟩ := vals1 r
  cases rx
  have fin : ∀ (its : List Value), Vals ys its → ys.length ≤ sizeLine → ∀ (h' : Heap) (c' : Nat), (∀ b o', s.heap.get? b = some o' → h'.get? b = some o') →
      h'.get? s.heap.objs.size = some { cls := .type "list", dict := none, data := .seq its.toArray c', slots := #[] } → EP X pins σ Q (.ref s.heap.objs.size) { s with heap := h' } := fun its r' hz h' c' kp e =>
    ⟨.ref s.heap.objs.size, _, I.laid (t' := s.toks) kp (Nat.le_refl _) (show ObjOk X.prog X.w _ h' _ (.lst ys) from ⟨hz, its, c', r', e⟩), rfl, q _ (I.hok.fresh (Nat.le_refl _))⟩
  rcases hq with hq | hq
  · obtain ⟨its, r', pl, hz⟩ := I.list hq
    have hlen := r'.length
    obtain ⟨o, ho, hc, n, hd⟩ := pl.isList
    exact call_list_seq p (.inl rfl) ho hc hd (fun h' c' kp e => fin its r' hz h' c' kp e) (by simp only [List.size_toArray] <;> omega)
  · obtain ⟨its, r', pl, hz⟩ := I.tuple hq
    have hlen := r'.length
    obtain ⟨o, ho, hc, n, hd⟩ := pl
    exact call_list_seq p (.inr rfl) ho hc hd (fun h' c' kp e => fin its r' hz h' c' kp e) (by simp only [List.size_toArray] <;> omega)
theorem call_tuple_of : CallR X (.type "tuple") (fun xs H Q => ∃ p ys, xs = [.ref p] ∧ ((SqL X.K H p ys ∧ ∀ l, H l = none → Q (.ref l) (upd H l (.tup ys))) ∨ (SqT X.K H p ys ∧ Q (.ref p) H))) := by
  intro pins s σ H xs us Q I r h
  obtain ⟨p, ys, rfl, h⟩ := h
  obtain ⟨u, rfl, rx⟩ := vals1 r
  cases rx
  rcases h with ⟨hq, q⟩ | ⟨hq, q⟩
  · obtain ⟨its, r', pl, hz⟩ := I.list hq
    have hlen := r'.length
    refine call_tuple_list pl.isList (fun h' kp => ?_) (by simp only [List.size_toArray] <;> omega)
    have I1 : Inv X pins σ H { s with heap := h' } := I.kept (t' := s.toks) kp
    have I2 : Inv X pins σ (upd H h'.objs.size (.tup ys)) { s with heap := h'.push { cls := .type "tuple", data := .seq its.toArray } } :=
      I1.laid (t' := s.toks) (fun b o e => Heap.get?_push_of_some _ e) (Nat.le_refl _) (show ObjOk X.prog X.w _ _ _ (.tup ys) from ⟨hz, its, r', TupO.new _ _⟩)
    exact ⟨.ref h'.objs.size, _, I2, rfl, q _ (I1.hok.fresh (Nat.le_refl _))⟩
  · obtain ⟨its, r', pl, hz⟩ := I.tuple hq
    exact call_tuple_same pl ⟨.ref p, H, I, rfl, q⟩
noncomputable def tyV (K : PySem.W.Frag) (T : String) (x : V) (H : Hp) : Prop := match x with
  | .str _ => T = "str"
  | .int _ => T = "int"
  | .ref p => (T = "list" ∧ ∃ xs, SqL K H p xs) ∨ (T = "tuple" ∧ ∃ o, K.lookup p = some o ∧ o.cls = .type "tuple" ∧ o.dict = none) ∨
      (T = "dict" ∧ ((∃ kvs, H p = some (.dK kvs)) ∨ ∃ kvs, H p = some (.dT kvs))) ∨ (T = "set" ∧ ∃ S n, H p = some (.set S n))
  | _ => False
theorem tyV_is {pins : List (Addr × Obj)} {σ : St} {H : Hp} {s : Shared} {T : String} {x : V} {v : Value} (I : Inv X pins σ H s) (r : RelV x v) (ty : tyV X.K T x H) :
    s.TypeIs v T ∧ ∀ a, v = .ref a → ∃ ob, s.heap.get? a = some ob ∧ ob.dict = none := by
  cases x with
  | str z =>
    obtain ⟨t, rfl⟩ := r
    cases (show T = "str" from ty)
    exact ⟨typeIs_str s z t, fun o' e => nomatch e⟩
  | int i =>
    obtain ⟨t, rfl⟩ := r
    cases (show T = "int" from ty)
    exact ⟨typeIs_int s i t, fun o' e => nomatch e⟩
  | ref p =>
    cases r
    rcases ty with ⟨rfl, xs, hq⟩ | ⟨rfl, o, hk, hc, hd⟩ | ⟨rfl, hk⟩ | ⟨rfl, S, n, hk⟩
    · obtain ⟨its, _, pl, _⟩ := I.list hq
      refine ⟨pl.isList.typeIs, fun a e => ?_⟩
      cases e
      obtain ⟨o, n, e, c, hd, _⟩ := pl
      exact ⟨o, e, hd⟩
    · refine ⟨⟨o, I.kIn p o hk, hc⟩, fun a e => ?_⟩
      cases e
      exact ⟨o, I.kIn _ o hk, hd⟩
    · have z : ∃ o, s.heap.get? p = some o ∧ o.ExactDict := by
        rcases hk with ⟨kvs, hk⟩ | ⟨kvs, hk⟩
        · obtain ⟨_, _, _, _, o, _, _, e, ex, _⟩ := I.hok p _ hk
          exact ⟨o, e, ex⟩
        · obtain ⟨_, _, _, _, o, _, _, e, ex, _⟩ := I.hok p _ hk
          exact ⟨o, e, ex⟩
      obtain ⟨o, e, ex⟩ := z
      refine ⟨⟨o, e, ex.1⟩, fun a e2 => ?_⟩
      cases e2
      exact ⟨o, e, ex.2.1⟩
    · obtain ⟨o, _, _, _, e, ex, _⟩ := I.hok p _ hk
      refine ⟨⟨o, e, ex.1⟩, fun a e2 => ?_⟩
      cases e2
      exact ⟨o, e, ex.2.1⟩
  | _ => exact False.elim ty
noncomputable def tBM0 (K : PySem.W.Frag) (T : String) (r : V → List V → Hp → VK → Prop) (to : TE) : TE := fun σ H Q => to σ H fun x H1 => tyV K T x H1 ∧ r x [] H1 Q
noncomputable def tBM (K : PySem.W.Frag) (T : String) (r : V → List V → Hp → VK → Prop) (to : TE) (t : TA) : TE := fun σ H Q => to σ H fun x H1 => tyV K T x H1 ∧ t σ H1 fun xs H2 => r x xs H2 Q
variable {o e : Expr} {es : List Expr} {to : TE} {t : TA} {name : Str} {apos cpos : Pos} {T id : String} {r : V → List V → Hp → VK → Prop}
theorem pe_bm0 (pa : PlainAttrs T) (slot : Slot T name id) (hty : typeOf (.builtin id) = pure (.type "method_descriptor")) (hm : MtR X id r) (ho : PE X o to)
    (hbase : attributeBase o name X.env (eval o X.env) = eval o X.env := by rfl) (hline : (apos.endLine == cpos.line) = true := by rfl) : PE X (.Call (.Attribute o name apos) [] [] cpos) (tBM0 X.K T r to) := by
  intro pins s σ H Q I h
  refine wpAny_Call_method0_late hbase hline (thn (ho pins s σ H _ I h) fun v s1 ⟨x, H1, I1, r1, ty, q1⟩ => ?_)
  obtain ⟨h1, h2⟩ := tyV_is I1 r1 ty
  exact ⟨T, id, pa, slot, hty, h1, h2, Calls.callWith_builtin rfl (PySem.evalArgs_none (hm pins s1 σ H1 x [] v [] Q I1 r1 .nil q1))⟩
theorem pe_bm (pa : PlainAttrs T) (slot : Slot T name id) (hty : typeOf (.builtin id) = pure (.type "method_descriptor")) (hm : MtR X id r) (ho : PE X o to) (ha : PA X (e :: es) t)
    (hbase : attributeBase o name X.env (eval o X.env) = eval o X.env := by rfl)
    (hfew : ((backTo cpos (starEach (e :: es) X.env)).all (fun x => !x.1) && (backToKw cpos (keywordEach [] X.env)).all (fun x => x.1.isSome)
      && decide ((e :: es).length + ([] : List Keyword).length + (if ([] : List Keyword).isEmpty then 0 else 1) < 30)) = true := by rfl)
    (hline : (apos.endLine == cpos.line) = true := by rfl) (hs : starEach (e :: es) X.env = (false, eval e X.env) :: starEach es X.env := by rfl) (hplain : (backTo cpos (starEach es X.env)).any (·.1) = false := by rfl) :
    PE X (.Call (.Attribute o name apos) (e :: es) [] cpos) (tBM X.K T r to t) := by
  intro pins s σ H Q I h
  refine wpAny_Call_method_late hbase hfew hline rfl (thn (ho pins s σ H _ I h) fun v s1 ⟨x, H1, I1, r1, ty, q1⟩ => ?_)
  obtain ⟨h1, h2⟩ := tyV_is I1 r1 ty
  refine ⟨T, id, pa, slot, hty, h1, h2, ?_⟩
  have hA := ha cpos pins s1 σ H1 _ I1 q1
  rw [hs] at hA ⊢
  refine Calls.callWith_builtin (by show (false || (backTo cpos (starEach es X.env)).any (·.1)) = false; rw [hplain] <;> rfl) (Calls.evalArgs_plain ?_)
  exact thn hA fun us s2 ⟨vs, H2, I2, r2, q2⟩ => hm pins s2 σ H2 x vs v us Q I2 r1 r2 q2
end
end L2
namespace L2
open PySem PySem.Spec PyProof.Rows
noncomputable def MtM (X : Cx) (id : String) (r : V → List V → Hp → VK → Prop) : Prop :=
  ∀ (pins : List (Addr × Obj)) (s : Shared) (σ : St) (H : Hp) (x : V) (xs : List V) (v : Value) (us : List Value) (Q : VK), Inv X pins σ H s → RelV x v → Vals xs us → r x xs H Q →
    wpAny (model X.prog X.w) X.A (call (.builtin id) (v :: us)) (EP X pins σ Q) X.xe s
theorem Vals.one {x : V} {us : List Value} (h : Vals [x] us) : ∃ u, us = [u] ∧ RelV x u := by
  cases h with | cons r t => cases t; exact ⟨_, rfl, r⟩
theorem Vals.zero : ∀ {us : List Value}, Vals [] us → us = []
  | _, .nil => rfl
theorem Vals.dropLast {xs : List V} {us : List Value} (h : Vals xs us) : Vals xs.dropLast us.dropLast := by
  induction h with
  | nil => exact .nil
  | cons r t ih =>
    cases t with
    | nil => exact .nil
    | cons q t' => exact .cons r ih
theorem Vals.reverse {xs : List V} {us : List Value} (h : Vals xs us) : Vals xs.reverse us.reverse := by
  induction h with
  | nil => exact .nil
  | cons r t ih => rw [List.reverse_cons, List.reverse_cons]; exact Vals.append ih (.cons r .nil)
theorem erase_last {α : Type} (l : List α) : l.eraseIdx (l.length - 1) = l.dropLast := by
  induction l with
  | nil => rfl
  | cons a r ih =>
    cases r with
    | nil => rfl
    | cons b r =>
      have e : (a :: b :: r).length - 1 = ((b :: r).length - 1) + 1 := rfl
      rw [e, List.eraseIdx_cons_succ, ih]
      all_goals rfl
section
variable {X : Cx} {pins : List (Addr × Obj)} {σ : St} {H : Hp} {s : Shared} {l b : Addr} {xs ys zs : List V}
theorem Inv.lset {its its' : List Value} {n : Nat} {f : Array Value → Array Value} {t' : Nat} (I : Inv X pins σ H s) (hH : H l = some (.lst xs))
    (e : s.heap.get? l = some { cls := .type "list", data := .seq its.toArray n }) (hf : f its.toArray = its'.toArray) (hv : Vals ys its') (hz : ys.length ≤ sizeLine) :
    Inv X pins σ (upd H l (.lst ys)) { s with heap := s.heap.update l (Obj.mapSeq f), toks := t' } := by
  have q := PySem.IsL.update e f
  rw [hf] at q
  refine I.write (x := l) (e := l) (by rw [hH]; exact trivial) (.inl rfl) (fun b' u hb hu => (Heap.get?_update_other s.heap (Obj.mapSeq f) (Ne.symm hb)).trans hu) ⟨_, q⟩ ?_
  exact ⟨hz, its', _, hv, q⟩
theorem Inv.lnew {its : List Value} {t' : Nat} (I : Inv X pins σ H s) (hv : Vals ys its) (hz : ys.length ≤ sizeLine) :
    Inv X pins σ (upd H s.heap.objs.size (.lst ys)) { s with heap := s.heap.push { cls := .type "list", data := .seq its.toArray }, toks := t' } :=
  I.laid (fun o' o' q => Heap.get?_push_of_some _ q) (Nat.le_refl _) ⟨hz, its, 0, hv, Heap.get?_push_size _ rfl⟩
theorem Inv.fresh (I : Inv X pins σ H s) : H s.heap.objs.size = none := I.hok.fresh (Nat.le_refl _)
theorem Inv.lstM (I : Inv X pins σ H s) (hH : H l = some (.lst xs)) : xs.length ≤ sizeLine ∧ ∃ (its : List Value) (n : Nat), Vals xs its ∧ xs.length = its.length ∧ s.heap.get? l = some { cls := .type "list", data := .seq its.toArray n } := by
  obtain ⟨z, its, n, r, e⟩ := I.hok l _ hH
  exact ⟨z, its, n, r, r.length, e⟩
theorem notLongL {n : Nat} (h : n ≤ sizeLine) : Builtin.List.listTooLong n = false := by
  unfold Builtin.List.listTooLong
  exact decide_eq_false (by omega)
end
section
variable {X : Cx}
noncomputable def rAppend : V → List V → Hp → VK → Prop := fun x vs H Q => ∃ l xs y, x = .ref l ∧ vs = [y] ∧ H l = some (.lst xs) ∧ xs.length < sizeLine ∧ Q .non (upd H l (.lst (xs ++ [y])))
theorem mt_append : MtM X "list.append" rAppend := by
  intro pins s σ H x vs v us Q I rx rv h
  obtain ⟨l, xs, y, rfl, rfl, hH, hz, q⟩ := h
  cases rx
  obtain ⟨u, rfl, ru⟩ := rv.one
  obtain ⟨z, its, n, r, hl, e⟩ := I.lstM hH
  refine call_meets F.slot_list_append ⟨_, e, rfl⟩ F.entry_list_append (F.args_list_append_2 _ _) (PySem.list_append l its.toArray n u (by rw [List.size_toArray]; omega)) ⟨e, ?_⟩
  refine ⟨.non, _, I.lset (its' := its ++ [u]) hH e (by simp) (r.append (.cons ru .nil)) ?_, rfl, q⟩
  rw [List.length_append, List.length_singleton]
  omega
noncomputable def rExtend : V → List V → Hp → VK → Prop := fun x vs H Q => ∃ l b xs zs, x = .ref l ∧ vs = [.ref b] ∧ H l = some (.lst xs) ∧ H b = some (.lst zs) ∧ xs.length + zs.length ≤ sizeLine ∧ Q .non (upd H l (.lst (xs ++ zs)))
theorem mt_extend : MtM X "list.extend" rExtend := by
  intro pins s σ H x vs v us Q I rx rv h
  obtain ⟨l, b, xs, zs, rfl, rfl, hH, hB, hz, q⟩ := h
  cases rx
  obtain ⟨u, rfl, ru⟩ := rv.one
  cases ru
  obtain ⟨z, its, n, r, hl, e⟩ := I.lstM hH
  obtain ⟨z2, its2, n2, r2, hl2, e2⟩ := I.lstM hB
  have hsz : its.toArray.size + its2.toArray.size ≤ sizeLine := by rw [List.size_toArray, List.size_toArray]; omega
  have hlong : ¬ (!its.toArray.isEmpty && Builtin.List.listTooLong (its.toArray.size + its2.toArray.size)) = true := by
    rw [notLongL hsz, Bool.and_false]
    exact Bool.false_ne_true
  refine call_meets F.slot_list_extend ⟨_, e, rfl⟩ F.entry_list_extend (F.args_list_extend_2 _ _)
    (AutoSeq1.list_extend_list_list_0 l its.toArray n b its2.toArray n2 hlong (by rw [List.size_toArray]; omega) (by omega)) ⟨e, e2, ?_⟩
  refine ⟨.non, _, I.lset (its' := its ++ its2) hH e (by simp) (r.append r2) ?_, rfl, q⟩
  rw [List.length_append]
  omega
noncomputable def rPop : V → List V → Hp → VK → Prop := fun x vs H Q => ∃ l xs y, x = .ref l ∧ vs = [] ∧ H l = some (.lst xs) ∧ xs[xs.length - 1]? = some y ∧ Q y (upd H l (.lst xs.dropLast))
theorem mt_pop : MtM X "list.pop" rPop := by
  intro pins s σ H x vs v us Q I rx rv h
  obtain ⟨l, xs, y, rfl, rfl, hH, hy, q⟩ := h
  cases rx
  have hus := rv.zero
  subst hus
  obtain ⟨z, its, n, r, hl, e⟩ := I.lstM hH
  obtain ⟨u, hu, ru⟩ := r.get hy
  have hy' : its.toArray[its.toArray.size - 1]? = some u := by
    show its.toArray[its.length - 1]? = some u
    rw [← Array.getElem?_toList, ← hl]
    exact hu
  refine call_meets F.slot_list_pop ⟨_, e, rfl⟩ F.entry_list_pop (F.args_list_pop_1 _) (MeetsSeq.list_pop_last l its.toArray n u hy' (by rw [List.size_toArray]; omega)) ⟨e, ?_⟩
  refine ⟨y, _, I.lset (its' := its.dropLast) hH e ?_ r.dropLast ?_, ru, q⟩
  · show its.toArray.eraseIdxIfInBounds (its.toArray.size - 1) = its.dropLast.toArray
    rw [List.size_toArray, List.eraseIdxIfInBounds_toArray, erase_last]
  · rw [List.length_dropLast]
    omega
noncomputable def rCat : R2 := fun x y H Q => ∃ l b xs zs, x = .ref l ∧ y = .ref b ∧ H l = some (.lst xs) ∧ H b = some (.lst zs) ∧ xs.length + zs.length ≤ sizeLine ∧ ∀ p, H p = none → Q (.ref p) (upd H p (.lst (xs ++ zs)))
theorem op_cat : OpR X (binaryOp .Add) rCat := by
  intro pins s σ H x y v u Q I rx ry h
  obtain ⟨l, b, xs, zs, rfl, rfl, hH, hB, hz, q⟩ := h
  cases rx
  cases ry
  obtain ⟨z, its, n, r, hl, e⟩ := I.lstM hH
  obtain ⟨z2, its2, n2, r2, hl2, e2⟩ := I.lstM hB
  refine PySem.P.add_list e e2 ?_ (by rw [List.size_toArray, List.size_toArray]; omega)
  have ea : its.toArray ++ its2.toArray = (its ++ its2).toArray := by simp
  rw [ea]
  exact ⟨.ref _, _, I.lnew (t' := s.toks) (r.append r2) (by rw [List.length_append]; omega), rfl, q _ I.fresh⟩
end
section
variable {prog : Program} {w : World} {A : Around} {E : Value → Shared → Prop} {s : Shared}
end
section
variable {X : Cx}
end
end L2
namespace Att
open PySem PySem.W PySem.Calls PyProof.Rows
theorem ints_of_wellAll {P : Params} {h : Heap} : ∀ (ns : List Int) (vs : List Value), WellAll P h vs (ns.map WData.int) → IntsAre vs ns := by
  intro ns
  induction ns with
  | nil =>
    intro vs w
    rw [List.map_nil] at w
    cases w
    exact .nil
  | cons n ns ih =>
    intro vs w
    rw [List.map_cons] at w
    cases w with
    | cons a b =>
      cases a
      exact .cons _ _ (ih _ b)
theorem script_of {l : OpenLaw} {n : Nat} (hn : l.most = some n) {P : Params} {h : Heap} {args : List WData} {vals : List Value}
    (hpre : l.row.toRowW.claim.pre args = true) (hwl : WellAll P h vals args) :
    ∃ a vs ns, vals = [Value.ref a] ∧ args = [WData.list (ns.map WData.int)] ∧ h.get? a = some { cls := .type "list", data := .seq vs.toArray } ∧ IntsAre vs ns ∧ ns.length ≤ n := by
  have hsh : WShape.hasAll [] args [.list .int] = true := (pre_splitW hpre).1
  have hc : l.pre.holds [] { args := args } = true := (pre_splitW hpre).2
  obtain ⟨d, r, rfl, h1, h2⟩ := hasAllW_cons hsh
  obtain rfl := hasAllW_nil h2
  obtain ⟨xs, rfl, h3⟩ := hasW_list h1
  obtain ⟨ns, rfl⟩ := items_int h3
  have hlen : ns.length ≤ n := by
    unfold OpenLaw.pre at hc
    have h4 : (WTm.not (.lt (.lit (.int (n : Int))) (.len (.arg 0)))).holds [] { args := [.list (ns.map .int)] } = true := by
      have h4 := (holds_andW hc).1
      rw [hn] at h4
      exact h4
    have h5 := condW_of h4 (w_not (w_lt w_lit (w_len_list (w_arg rfl))))
    rw [List.length_map] at h5
    refine Nat.le_of_not_lt fun q => ?_
    have q' : (n : Int) < ((ns.length : Nat) : Int) := by omega
    first
      | (rw [decide_eq_true q'] at h5; exact absurd h5 (by decide))
      | (simp at h5; omega)
  cases hwl with
  | cons w1 w2 =>
    cases w2
    cases w1 with
    | list ho hall => exact ⟨_, _, ns, rfl, rfl, ho, ints_of_wellAll ns _ hall, hlen⟩
theorem post_true (l : OpenLaw) (args : List WData) : l.row.toRowW.claim.post args (.bool true) args = true :=
  postW_of (r := l.row.toRowW) (X := (true == true))
    (show WShape.has [] (.bool true) .bool = true by first | rfl | decide | simp [WShape.has, WShape.arms, WShape.armsAll])
    (show (WTm.eq .res (.lit (.bool true))).value [] { args := args, res := some (.bool true), after := args } = some (.bool (true == true)) from w_eq_bool (w_res rfl) w_lit) rfl
theorem attach_call {l : OpenLaw} {n : Nat} {q : Program} {loose : List Str} {XP : (Str → Option Value) → Heap → Prop} {YP : World → Heap → Prop} {d : DefRec}
    (hn : l.most = some n) (hdf : d.params.defaults = [])
    (call : ∀ (w : World) (s₀ s₁ : Shared) (mg mb : Str → Option Value) (fa : Addr) (o : Obj) (pm cd doc : Value) (a : Addr) (vs : List Value) (ns : List Int),
      Ground q loose [] XP w s₀ mg mb s₁.heap → YP w s₁.heap →
      s₁.heap.get? fa = some o → o.data = .func (docDef d.name d.params d.body d.scope pm cd doc) → s₁.heap.CodeRec cd d.name → mg d.name = some (.ref fa) →
      s₁.heap.get? a = some { cls := .type "list", data := .seq vs.toArray } → IntsAre vs ns → ns.length ≤ n → s₁.gens = #[] →
      codeAny (model l.prog w) callerA (.call (.ref fa) ⟨[.ref a], []⟩) (fun r s' => r = .ok (.ret (.bool true)) ∧ OldK s₁.heap s'.heap ∧ s'.os = s₁.os ∧ AllBare s'.gens) s₁) :
    WalkO q loose XP YP l.row.toRowW d [] (fun f vs => PySem.call f vs) := by
  intro w s₀ s₁ mg mb G Y fa o pm cd doc dV kV ho hd hcd hD hmg hg args vals as hpre hlay hrd hwl hlo
  obtain rfl : dV = .none := Dflts.none hD hdf
  obtain rfl : kV = .none := Dflts.noKw hD
  obtain ⟨a, vs, ns, rfl, rfl, hobj, hints, hlen⟩ := script_of hn hpre hwl
  refine enter_call (codeAny_mono (call w s₀ s₁ mg mb fa o pm cd doc a vs ns G Y ho (fd_plain hd) hcd hmg hobj hints hlen hg) fun r s' hq => ?_)
  obtain ⟨rfl, h2, h3, h4⟩ := hq
  exact ⟨.inl ⟨.bool true, .bool true, [], rfl, fun o' => rfl, .bool true, post_true l _, fun o' => ⟨List.Pairwise.nil, fun o' hm => (nomatch hm)⟩⟩, h2, h3, h4⟩
section
variable {prog : Program} {w : World} {A : Around} {E : Value → Shared → Prop} {s : Shared} {K : Frag}
end
end Att
namespace L2
open PySem PySem.Spec PyProof.Rows
theorem vals_ints {vs : List Value} {ns : List Int} (h : IntsAre vs ns) : Vals (ns.map V.int) vs := by
  induction h with
  | nil => exact .nil
  | cons n t h ih => exact .cons ⟨t, rfl⟩ ih
noncomputable def Only (H : Hp) : Prop := ∀ b, H b = none ∨ ∃ o xs, H b = some (.frz o (.lst xs))
theorem law_call {P : Program} {w : World} {K : PySem.W.Frag} {mg mb : Str → Option Value} {CX : CXT} {k : Nat} {fa a : Addr} {fd : FuncData} {x : Str} {sp : Sp} {s₁ : Shared} {vs : List Value} {ns : List Int}
    (KX : K.In s₁.heap) (hns : s₁.heap.Ns mainGlobals mg) (hb : s₁.heap.Ns builtinsNs mb) (hbb : ∀ x : Str, x ≠ "__name__" → mb x = bootBuiltins x) (hlim : s₁.heap.NoLimit) (hg : s₁.gens = #[])
    (ha : s₁.heap.get? a = some { cls := .type "list", data := .seq vs.toArray }) (hi : IntsAre vs ns) (hl : ns.length ≤ sizeLine) (hr : Room k callerA)
    (F : ∀ base : Heap, K.In base → base.Ns mainGlobals mg → FnOk P w K mg base CX k fa fd [x] sp) (hbind : ∀ (s : Shared) (u : Value), BindsTo s fd ⟨[u], []⟩ [(x, u)])
    (hsp : ∀ H : Hp, Only H → SqL K H a (ns.map V.int) → sp [.ref a] H (fun v o' => v = .bl true) fun o' o' o' => False)
    (hCX : ∀ H e s', CX [] H s₁ (fun o' o' o' => False) e s' → False) :
    codeAny (model P w) callerA (.call (.ref fa) ⟨[.ref a], []⟩) (fun r s' => r = .ok (.ret (.bool true)) ∧ OldK s₁.heap s'.heap ∧ s'.os = s₁.os ∧ AllBare s'.gens) s₁ := by
  have rv := vals_ints hi
  have lenV := hi.length
  have core : ∀ H : Hp, Only H → SqL K H a (ns.map V.int) → HOk P w H s₁.heap → (∀ b, H b ≠ none → b = a) → (H a ≠ none → K.lookup a = none) →
      codeAny (model P w) callerA (.call (.ref fa) ⟨[.ref a], []⟩) (fun r s' => r = .ok (.ret (.bool true)) ∧ OldK s₁.heap s'.heap ∧ s'.os = s₁.os ∧ AllBare s'.gens) s₁ := by
    intro H hO hS hok hA hK
    have base_of : ∀ {b : Addr} {o : Obj}, s₁.heap.get? b = some o → H b = none → (hidT s₁.heap H).get? b = some o := fun e n => hidT_get e n
    have noA : ∀ {b : Addr} {o : Obj} {es : Array DictEntry} {ep : Nat}, s₁.heap.get? b = some o → o.data = .dict es ep → H b = none := fun {b o es ep} e d => by
      cases q : H b with
      | none => rfl
      | some u =>
        have e' : b = a := hA b (by rw [q]; simp)
        subst e'
        rw [ha] at e; cases e
        have d' : Data.seq vs.toArray _ = Data.dict es ep := d
        cases d'
    have nsK : ∀ {b : Addr} {m : Str → Option Value}, s₁.heap.Ns b m → (hidT s₁.heap H).Ns b m := fun {b m} ⟨o, es, ep, e, d, r⟩ => ⟨o, es, ep, base_of e (noA e d), d, r⟩
    have hKb : K.In (hidT s₁.heap H) := fun b o e => base_of (KX b o e) (by
      cases q : H b with
      | none => rfl
      | some u =>
        have e' : b = a := hA b (by rw [q]; simp)
        subst e'
        rw [hK (by rw [q]; simp)] at e; cases e)
    have hM : Mod K mg (hidT s₁.heap H) := ⟨hKb, nsK hns, ⟨mb, nsK hb, hbb⟩, let ⟨mc, h1, h2⟩ := hlim; ⟨mc, nsK h1, h2⟩⟩
    have e0 : Env0 P w K mg (hidT s₁.heap H) callerA [] s₁ H := ⟨rfl, hM, fun b o e => of_hidT e, Nat.le_of_eq (hidT_size _ _), trivial, fun b hb => absurd (show b ∈ ([] : List Addr) from hb) (by simp), hok, .of_eq hg⟩
    refine codeAny_mono ((F _ hKb (nsK hns)).run callerA [] s₁ H ⟨[.ref a], []⟩ [.ref a] [.ref a] _ _ hr e0 (hbind s₁ (.ref a)) (.cons rfl .nil) (hsp H hO hS)) fun r s' h => ?_
    cases r with
    | error e => exact (hCX H e s' h).elim
    | ok fl =>
      cases fl with
      | next => exact False.elim h
      | brk => exact False.elim h
      | cont => exact False.elim h
      | ret u =>
        obtain ⟨v, H', os, bare, un, hok', r', q⟩ := h
        have q' : v = .bl true := q
        subst q'
        obtain rfl : u = Value.bool true := r'
        refine ⟨rfl, OldK.of_keep fun b o e => ?_, os, bare⟩
        cases q : H b with
        | none => exact un.keep b o e q (by intro z; exact absurd (show b ∈ ([] : List Addr) from z) (by simp)) (by simp)
        | some u =>
          rcases hO b with z | ⟨ob, xs, z⟩
          · rw [q] at z; cases z
          · have z2 := un.frzs b ob _ z
            obtain ⟨e1, _⟩ := hok b _ z
            obtain ⟨e2, _⟩ := hok' b _ z2
            rw [e] at e1; cases e1
            exact e2
  cases hk : K.lookup a with
  | some o =>
    have e := KX a o hk
    rw [ha] at e
    cases e
    refine core (fun o' => none) (fun o' => .inl rfl) (.inr ⟨_, vs.toArray, _, hk, rfl, rfl, rfl, by rw [List.size_toArray, lenV]; exact hl, by simpa using rv⟩) (fun b u z => by have z' : (none : Option HO) = some u := z; cases z') (fun b z => absurd rfl z) fun z => absurd rfl z
  | none =>
    refine core (fun b => if b = a then some (.frz { cls := .type "list", data := .seq vs.toArray } (.lst (ns.map V.int))) else none) (fun b => ?_) (.inl (.inr ⟨{ cls := .type "list", data := .seq vs.toArray }, if_pos rfl⟩)) (fun b u z => ?_) (fun b z => ?_) fun o' => hk
    · by_cases hb : b = a
      · exact .inr ⟨_, _, if_pos hb⟩
      · exact .inl (if_neg hb)
    · by_cases hb : b = a
      · have z' := (if_pos hb).symm.trans z
        cases z'
        subst hb
        exact ⟨ha, by rw [List.length_map]; exact hl, vs, _, rv, ha⟩
      · have z' := (if_neg hb).symm.trans z
        cases z'
    · by_cases hb : b = a
      · exact hb
      · exact absurd (if_neg hb) z
end L2
namespace L2
open PySem PySem.Spec PyProof.Rows
theorem walk_of {l : PySem.W.OpenLaw} {n k : Nat} {q : Program} {loose : List Str} {XP : (Str → Option Value) → Heap → Prop} {YP : World → Heap → Prop} {d : DefRec} {K : Params → PySem.W.Frag} {CX : World → CXT} {sp : World → Sp} {x : Str}
    (hn : l.most = some n) (hn2 : n ≤ sizeLine) (hdf : d.params.defaults = []) (hr : Room k callerA)
    (hY : ∀ (w : World) (h : Heap), YP w h → (K w.params).In h)
    (F : ∀ (w : World) (mg : Str → Option Value) (fa : Addr) (h : Heap), (K w.params).In h → h.Ns mainGlobals mg → mg d.name = some (.ref fa) →
      ∃ fd : FuncData, (∀ (s : Shared) (u : Value), BindsTo s fd ⟨[u], []⟩ [(x, u)]) ∧
        ∀ base : Heap, (K w.params).In base → base.Ns mainGlobals mg → FnOk l.prog w (K w.params) mg base (CX w) k fa fd [x] (sp w))
    (hsp : ∀ (w : World) (H : Hp) (a : Addr) (ns : List Int), ns.length ≤ n → Only H → SqL (K w.params) H a (ns.map V.int) → sp w [.ref a] H (fun v o' => v = .bl true) fun o' o' o' => False)
    (hCX : ∀ (w : World) (H : Hp) (s : Shared) (e : Value) (s' : Shared), CX w [] H s (fun o' o' o' => False) e s' → False) :
    PySem.W.WalkO q loose XP YP l.row.toRowW d [] (fun f vs => PySem.call f vs) := by
  refine Att.attach_call hn hdf fun w s₀ s₁ mg mb fa o pm cd doc a vs ns G Y ho hd hcd hmg hobj hints hlen hg => ?_
  have KX := hY w _ Y
  obtain ⟨fd, hb, hF⟩ := F w mg fa _ KX G.T.g hmg
  exact law_call KX G.T.g G.T.b G.T.builtins G.T.nolimit hg hobj hints (Nat.le_trans hlen hn2) hr hF hb (fun H hO hS => hsp w H a ns hlen hO hS) fun H e s' => hCX w H s₁ e s'
end L2
namespace L2
open PySem PySem.Spec PyProof.Rows
noncomputable def defArgs (s : Stmt) : Arguments := match s with
  | .FunctionDef _ a _ _ _ _ _ _ _ _ => a
  | _ => { posonlyargs := [], args := [], vararg := none, kwonlyargs := [], kw_defaults := [], kwarg := none, defaults := [] }
noncomputable def defBody (s : Stmt) : List Stmt := match s with
  | .FunctionDef _ _ b _ _ _ _ _ _ _ => b
  | _ => []
noncomputable def defScope (s : Stmt) : Scope := match s with
  | .FunctionDef _ _ _ _ _ _ sc _ _ _ => sc
  | _ => { kind := .function, names := [], isGenerator := false, isCoroutine := false }
noncomputable abbrev CX0 : CXT := fun o' o' o' o' o' o' => False
noncomputable abbrev E0 : XK := fun o' o' o' => False
theorem pass0 {X : Cx} : Passes CX0 X E0 := fun o' o' o' o' o' o' o' h => h.elim
structure Fun (K : PySem.W.Frag) (x qual : Str) (st : Stmt) (f : Addr) (fd : FuncData) : Prop where
  ex : ∃ (oc : Value) (od : Option Addr) (kV doc pm : Value) (an : Option Addr) (cdv ct : Value) (osl : Array (Option Value)),
    fd = PySem.W.fnOf x qual (defArgs st) (defBody st) (defScope st) .none kV doc pm an cdv ct ∧ K.lookup f = some ⟨oc, od, .func fd, osl⟩ ∧ PySem.W.codeIn K cdv qual = true
  kp : PySem.W.keepIn K (.ref f) = true
section
variable {P : Program} {w : World} {K : PySem.W.Frag} {mg : Str → Option Value} {base : Heap}
theorem Fun.ok {x qual : Str} {st : Stmt} {f : Addr} {fd : FuncData} {N ps : List Str} {k : Nat} {sp : Sp} (F : Fun K x qual st f fd) (S : FnScope N ps (defScope st)) (len : ∀ vs H Q E, sp vs H Q E → vs.length = ps.length)
    (hbody : ∀ (cdv : Value) (A : Around) (outer : List Env) (s : Shared) (H : Hp) (vs : List V) (Q : VK) (E : XK), Room k (A.deeper (envOfC qual (defScope st) s.heap.objs.size f cdv)) → sp vs H Q E →
      ∃ t, PSs (cxOf CX0 P w K mg base N qual (defScope st) f cdv A outer s H E).nox (defBody st) t ∧ t { nx := fun o' H' => Q .non H', rt := Q } (start N vs) H) : FnOk P w K mg base CX0 (k + 1) f fd ps sp := by
  obtain ⟨oc, od, kV, doc, pm, an, cdv, ct, osl, rfl, lk, hcd⟩ := F.ex
  refine fn_of lk hcd S len fun A outer s H vs Q E hr hsp => ?_
  obtain ⟨t, h, q⟩ := hbody cdv A outer s H vs Q E hr hsp
  exact ⟨t, h.nox, q⟩
theorem Fun.binds {x qual : Str} {st : Stmt} {f : Addr} {fd : FuncData} {ps : List Str} (F : Fun K x qual st f fd)
    (h : ∀ (kV doc pm : Value) (an : Option Addr) (cdv ct : Value) (us : List Value), us.length = ps.length → bindArgs (PySem.W.fnOf x qual (defArgs st) (defBody st) (defScope st) .none kV doc pm an cdv ct) ⟨us, []⟩ = pure (ps.zip us)) : Binds K fd ps [] := by
  obtain ⟨oc, od, kV, doc, pm, an, cdv, ct, osl, rfl, lk, hcd⟩ := F.ex
  exact .all (h kV doc pm an cdv ct)
theorem fun_mk {x qual : Str} {st : Stmt} {f : Addr} {oc : Value} {od an : Option Addr} {osl : Array (Option Value)} {kV doc pm cdv ct : Value} (l : K.lookup f = some ⟨oc, od, .func (PySem.W.fnOf x qual (defArgs st) (defBody st) (defScope st) .none kV doc pm an cdv ct), osl⟩)
    (c : PySem.W.codeIn K cdv qual = true) (k : PySem.W.keepIn K (.ref f) = true) : Fun K x qual st f (PySem.W.fnOf x qual (defArgs st) (defBody st) (defScope st) .none kV doc pm an cdv ct) := ⟨⟨oc, od, kV, doc, pm, an, cdv, ct, osl, rfl, l, c⟩, k⟩
end
theorem small1000 {n : Nat} (h : n ≤ 1000) : n < sizeLine := Nat.lt_of_le_of_lt h (by decide)
section
variable {X : Cx}
theorem pv (i : Nat) {x : Str} {pos : Pos} (hN : X.N[i]? = some x := by rfl) (hv : Vis X.env.scope x := by first | exact Or.inl rfl | exact Or.inr (Or.inl rfl) | exact Or.inr (Or.inr rfl)) (hd : (x == ("__debug__" : Str)) = false := by decide)
    (hcd : (x == ("__classdict__" : Str)) = false := by decide) : PE X (.Name x pos) (tVar i) := pe_var hN hv hd hcd
end
end L2
end
section
namespace L3
inductive D where
  | non | bl (b : Bool) | int (i : Int) | str (x : List Nat) | tup (ds : List D) | ref (a : Nat) | mdic (ks vs : List D) | mlst (ds : List D)
inductive MO where
  | lst (ds : List D)
noncomputable abbrev Store := Nat → Option MO
noncomputable def put (st : Store) (a : Nat) (o : MO) : Store := fun b => if b = a then some o else st b
inductive BOp where
  | add | sub | mul | fdiv | mod | pow
inductive COp where
  | eq | ne | lt | le | gt | in_ | notin
inductive Ty where
  | int | str | bool | list | tuple
inductive BI where
  | len | all | any | list | tuple | lenset
inductive MT where
  | append | extend | pop | index
inductive IK where
  | range | rev
set_option genInjectivity false in
inductive Ex where
  | c (d : D) | v (i : Nat)
  | tup (es : List Ex) | lst (es : List Ex)
  | bin (op : BOp) (a b : Ex) | neg (a : Ex)
  | cmp (op : COp) (a b : Ex) | chain (op op' : COp) (a b c : Ex)
  | and_ (a b : Ex) | or_ (a b : Ex) | not_ (a : Ex)
  | call (f : Nat) (es : List Ex) | bi (f : BI) (es : List Ex) | isi (a : Ex) (ts : List Ty)
  | meth (m : MT) (o : Ex) (es : List Ex)
  | ix (a b : Ex) | sl (a : Ex) (lo hi : List Ex)
  /-- f(g(..)), g what is walked on the spot -/
  | bit (f : BI) (k : IK) (es : List Ex)
  | comp (n : Nat) (caps : List Nat) (tg : List Nat) (one : Bool) (k : Option IK) (its : List Ex) (ifs : List Ex) (elt : Ex)
set_option genInjectivity false in
inductive Tg where
  | nm (i : Nat) | tp (is : List Nat) | ix (o i : Ex)
set_option genInjectivity false in
inductive Sx where
  | ex (e : Ex) | asg (t : Tg) (e : Ex)
  | iff (c : Ex) (a b : List Sx) | whl (c : Ex) (b : List Sx) | forr (t : Tg) (k : Option IK) (its : List Ex) (b : List Sx)
  | ret (e : Ex) | rais (c : Nat) (es : List Ex)
set_option genInjectivity false in
structure Fn where
  np : Nat
  nl : Nat
  body : List Sx
set_option genInjectivity false in
structure Prog where
  fns : Nat → Option Fn
  /-- class c is class c' or stands under it -/
  sub : Nat → Nat → Bool
noncomputable abbrev St := List (Option D)
noncomputable abbrev VK := D → Store → Prop
noncomputable abbrev XK := Nat → Store → Prop
noncomputable abbrev CallT := Nat → List D → Store → VK → XK → Prop
noncomputable abbrev LINE : Nat := 16777216
noncomputable abbrev DEEP : Nat := 80
def W (x : String) : List Nat := x.toList.map Char.toNat
noncomputable def Ext (st st' : Store) : Prop := ∀ a o, st a = some o → st' a = some o
noncomputable def getV (σ : St) (i : Nat) (Q : D → Prop) : Prop := match σ[i]? with
  | some (some d) => Q d
  | _ => False
mutual
noncomputable def eqD : D → D → Bool
  | .non, .non => true
  | .bl a, .bl b => a == b
  | .bl a, .int b => (if a then 1 else 0) == b
  | .int a, .bl b => a == (if b then 1 else 0)
  | .int a, .int b => a == b
  | .str a, .str b => a == b
  | .tup as, .tup bs => eqDs as bs
  | _, _ => false
noncomputable def eqDs : List D → List D → Bool
  | [], [] => true
  | a :: as, b :: bs => eqD a b && eqDs as bs
  | _, _ => false
end
mutual
noncomputable def pureD : D → Bool
  | .non => true
  | .bl _ => true
  | .int _ => true
  | .str _ => true
  | .tup ds => pureDs ds
  | _ => false
noncomputable def pureDs : List D → Bool
  | [] => true
  | d :: ds => pureD d && pureDs ds
end
mutual
noncomputable def depD : D → Nat
  | .tup ds => depDs ds + 1
  | _ => 0
noncomputable def depDs : List D → Nat
  | [] => 0
  | d :: ds => max (depD d) (depDs ds)
end
noncomputable def plain (d : D) : Prop := pureD d = true ∧ depD d ≤ DEEP
noncomputable def plains (ds : List D) : Prop := pureDs ds = true ∧ depDs ds ≤ DEEP
noncomputable def okL : Option MO → Bool
  | some (.lst ds) => pureDs ds && decide (depDs ds ≤ DEEP)
  | _ => false
mutual
noncomputable def pureS (st : Store) : D → Bool
  | .non => true
  | .bl _ => true
  | .int _ => true
  | .str _ => true
  | .tup ds => pureSs st ds
  | .ref a => okL (st a)
  | .mlst ds => pureDs ds && decide (depDs ds ≤ DEEP)
  | _ => false
noncomputable def pureSs (st : Store) : List D → Bool
  | [] => true
  | d :: ds => pureS st d && pureSs st ds
end
noncomputable def eqO : Option MO → Option MO → Bool
  | some (.lst xs), some (.lst ys) => eqDs xs ys
  | _, _ => false
mutual
noncomputable def eqS (st : Store) : D → D → Bool
  | .non, .non => true
  | .bl a, .bl b => a == b
  | .bl a, .int b => (if a then 1 else 0) == b
  | .int a, .bl b => a == (if b then 1 else 0)
  | .int a, .int b => a == b
  | .str a, .str b => a == b
  | .tup as, .tup bs => eqSs st as bs
  | .ref a, .ref b => eqO (st a) (st b)
  | .mlst xs, .ref b => eqO (some (.lst xs)) (st b)
  | .ref a, .mlst ys => eqO (st a) (some (.lst ys))
  | .mlst xs, .mlst ys => eqDs xs ys
  | _, _ => false
noncomputable def eqSs (st : Store) : List D → List D → Bool
  | [], [] => true
  | a :: as, b :: bs => eqS st a b && eqSs st as bs
  | _, _ => false
end
noncomputable def plainS (st : Store) (d : D) : Prop := pureS st d = true ∧ depD d ≤ DEEP
noncomputable def plainSs (st : Store) (ds : List D) : Prop := pureSs st ds = true ∧ depDs ds ≤ DEEP
noncomputable def eqW (x y : D) (st : Store) (P : Bool → Prop) : Prop := plainS st x ∧ plainS st y ∧ P (eqS st x y)
noncomputable def occurs (x : List Nat) : List Nat → Bool
  | [] => x.isEmpty
  | c :: r => x.isPrefixOf (c :: r) || occurs x r
noncomputable def lstAt (st : Store) (a : Nat) (K : List D → Prop) : Prop := match st a with
  | some (.lst ds) => K ds
  | _ => False
noncomputable def optK {α : Type} (o : Option α) (K : α → Prop) : Prop := match o with
  | some x => K x
  | none => False
noncomputable def seqAt (st : Store) (a : Nat) (K : List D → Prop) (M : List D → List D → Prop) : Prop := match st a with
  | some (.lst ds) => K ds
  | _ => False
noncomputable def intW : D → (Int → Prop) → Prop
  | .int i, F => F i
  | _, _ => False
noncomputable def strW : D → (List Nat → Prop) → Prop
  | .str w, F => F w
  | _, _ => False
theorem intW_inv {y : D} {F : Int → Prop} (h : intW y F) : ∃ i, y = .int i ∧ F i := by
  cases y <;> first | exact ⟨_, rfl, h⟩ | exact False.elim h
theorem strW_inv {y : D} {F : List Nat → Prop} (h : strW y F) : ∃ w, y = .str w ∧ F w := by
  cases y <;> first | exact ⟨_, rfl, h⟩ | exact False.elim h
theorem intW_mono {y : D} {F F' : Int → Prop} (h : ∀ i, F i → F' i) : intW y F → intW y F' := by
  cases y <;> first | exact id | exact h _
theorem strW_mono {y : D} {F F' : List Nat → Prop} (h : ∀ i, F i → F' i) : strW y F → strW y F' := by
  cases y <;> first | exact id | exact h _
noncomputable def inW : D → D → Store → (Bool → Prop) → Prop
  | x, .tup ds, st, P => plainS st x ∧ plainSs st ds ∧ P (ds.any fun d => eqS st d x)
  | x, .ref a, st, P => seqAt st a (fun ds => plainS st x ∧ plainSs st ds ∧ P (ds.any fun d => eqS st d x)) fun ks o' => plain x ∧ plains ks ∧ P (ks.any fun d => eqD d x)
  | x, .mdic ks _, _, P => strW x fun w => P (ks.any fun d => eqD d (.str w))
  | x, .mlst ds, st, P => plainS st x ∧ plainSs st ds ∧ P (ds.any fun d => eqS st d x)
  | x, .str z, _, P => strW x fun w => P (occurs w z)
  | _, _, _, _ => False
noncomputable def ordW (f : Int → Int → Bool) : D → D → (Bool → Prop) → Prop
  | .int i, .int j, P => P (f i j)
  | _, _, _ => False
noncomputable def cmpW : COp → D → D → Store → (Bool → Prop) → Prop
  | .eq, x, y, st, P => eqW x y st P
  | .ne, x, y, st, P => eqW x y st fun b => P (!b)
  | .lt, x, y, _, P => ordW (fun i j => decide (i < j)) x y P
  | .le, x, y, _, P => ordW (fun i j => decide (i ≤ j)) x y P
  | .gt, x, y, _, P => ordW (fun i j => decide (j < i)) x y P
  | .in_, x, y, st, P => inW x y st P
  | .notin, x, y, st, P => inW x y st fun b => P (!b)
noncomputable def smallI (i : Int) : Prop := -18446744073709551616 < i ∧ i < 18446744073709551616
noncomputable def newL (ds : List D) (st : Store) (Q : VK) : Prop := ds.length ≤ LINE ∧ ∀ p, st p = none → Q (.ref p) (put st p (.lst ds))
noncomputable def addW : D → D → Store → VK → Prop
  | .int i, .int j, st, Q => Q (.int (i + j)) st
  | .str a, .str b, st, Q => a.length + b.length ≤ LINE ∧ Q (.str (a ++ b)) st
  | .tup a, .tup b, st, Q => a.length + b.length ≤ LINE ∧ Q (.tup (a ++ b)) st
  | .ref a, .ref b, st, Q => lstAt st a fun xs => lstAt st b fun ys => newL (xs ++ ys) st Q
  | _, _, _, _ => False
noncomputable def iiW (f : Int → Int → Store → VK → Prop) : D → D → Store → VK → Prop
  | .int i, .int j, st, Q => f i j st Q
  | _, _, _, _ => False
theorem iiW_inv {f : Int → Int → Store → VK → Prop} {d d' : D} {st : Store} {Q : VK} (h : iiW f d d' st Q) : ∃ i j, d = .int i ∧ d' = .int j ∧ f i j st Q := by
  unfold iiW at h
  split at h
  · exact ⟨_, _, rfl, rfl, h⟩
  · exact h.elim
noncomputable def binW : BOp → D → D → Store → VK → Prop
  | .add => addW
  | .sub => iiW fun i j st Q => Q (.int (i - j)) st
  | .mul => iiW fun i j st Q => (smallI i ∨ smallI j) ∧ Q (.int (i * j)) st
  | .fdiv => iiW fun i j st Q => (0 < j ∧ j < 1073741824) ∧ Q (.int (i / j)) st
  | .mod => iiW fun i j st Q => 0 < j ∧ Q (.int (i % j)) st
  | .pow => iiW fun i j st Q => (0 ≤ j ∧ j ≤ 1000000 ∧ i.natAbs < 18446744073709551616) ∧ Q (.int (i ^ j.toNat)) st
noncomputable def negW : D → Store → VK → Prop
  | .int i, st, Q => Q (.int (-i)) st
  | _, _, _ => False
noncomputable def truW : D → Store → (Bool → Prop) → Prop
  | .non, _, P => P false
  | .bl b, _, P => P b
  | .int i, _, P => P (i != 0)
  | .str x, _, P => x.length ≤ LINE ∧ P (!x.isEmpty)
  | .tup ds, _, P => P (!ds.isEmpty)
  | .ref a, st, P => seqAt st a (fun ds => P (!ds.isEmpty)) fun ks o' => P (!ks.isEmpty)
  | .mlst ds, _, P => P (!ds.isEmpty)
  | _, _, _ => False
noncomputable def isOne (sub : Nat → Nat → Bool) : D → Store → Ty → (Bool → Prop) → Prop
  | .non, _, _, P => P false
  | .bl _, _, .bool, P => P true
  | .bl _, _, .int, P => P true
  | .bl _, _, _, P => P false
  | .int _, _, .int, P => P true
  | .int _, _, _, P => P false
  | .str _, _, .str, P => P true
  | .str _, _, _, P => P false
  | .tup _, _, .tuple, P => P true
  | .tup _, _, _, P => P false
  | .ref a, st, .list, P => seqAt st a (fun o' => P true) fun o' o' => P false
  | .ref a, st, _, P => seqAt st a (fun o' => P false) fun o' o' => P false
  | .mlst _, _, .list, P => P true
  | .mlst _, _, _, P => P false
  | _, _, _, _ => False
noncomputable def isiW (sub : Nat → Nat → Bool) (d : D) (st : Store) : List Ty → (Bool → Prop) → Prop
  | [], _ => False
  | [t], P => isOne sub d st t P
  | t :: u :: ts, P => isOne sub d st t fun b => if b = true then P true else isiW sub d st (u :: ts) P
noncomputable def ixN (n : Nat) (i : Int) : Option Nat := if 0 ≤ i then (if i < n then some i.toNat else none) else if -(n : Int) ≤ i then some (i + n).toNat else none
noncomputable def atI {α : Type} (xs : List α) (i : Int) : Option α := (ixN xs.length i).bind fun j => xs[j]?
noncomputable def lookD : List D → List D → D → Option D
  | k :: ks, v :: vs, x => if eqD k x then some v else lookD ks vs x
  | _, _, _ => none
noncomputable def ixW : D → D → Store → VK → Prop
  | .tup ds, y, st, Q => intW y fun i => optK (atI ds i) fun d => Q d st
  | .mlst ds, y, st, Q => intW y fun i => optK (atI ds i) fun d => Q d st
  | .str z, y, st, Q => intW y fun i => z.length ≤ LINE ∧ optK (atI z i) fun c => Q (.str [c]) st
  | .mdic ks vs, y, st, Q => strW y fun w => optK (lookD ks vs (.str w)) fun d => Q d st
  | .ref a, y, st, Q => seqAt st a (fun ds => intW y fun i => optK (atI ds i) fun d => Q d st) fun ks vs => plain y ∧ plains ks ∧ optK (lookD ks vs y) fun d => Q d st
  | _, _, _, _ => False
noncomputable def sIx (n d : Nat) : Option Int → Nat
  | none => d
  | some v => if v < 0 then (v + (n : Int)).toNat else min v.toNat n
noncomputable def cut {α : Type} (xs : List α) (lo hi : Option Int) : List α := (xs.drop (sIx xs.length 0 lo)).take (sIx xs.length xs.length hi - sIx xs.length 0 lo)
noncomputable def partW : List D → (Option Int → Prop) → Prop
  | [], P => P none
  | [.int i], P => P (some i)
  | _, _ => False
noncomputable def slW : D → Option Int → Option Int → Store → VK → Prop
  | .tup ds, lo, hi, st, Q => Q (.tup (cut ds lo hi)) st
  | .ref a, lo, hi, st, Q => lstAt st a fun ds => ∀ p, st p = none → Q (.ref p) (put st p (.lst (cut ds lo hi)))
  | _, _, _, _, _ => False
noncomputable def seqW : D → Store → (List Nat → List D → Prop) → Prop
  | .tup ds, _, K => K [] ds
  | .ref a, st, K => lstAt st a fun ds => K [a] ds
  | .mlst ds, _, K => K [] ds
  | _, _, _ => False
noncomputable def iterW : D → Store → (List Nat → List D → Prop) → Prop
  | .tup ds, _, K => K [] ds
  | .str x, _, K => x.length ≤ LINE ∧ K [] (x.map fun c => .str [c])
  | .ref a, st, K => lstAt st a fun ds => K [a] ds
  | .mlst ds, _, K => K [] ds
  | _, _, _ => False
noncomputable def rangeD (lo : Int) (n : Nat) : List D := (List.range n).map fun k => .int (lo + (k : Nat))
noncomputable def small62 (i : Int) : Prop := -4611686018427387904 ≤ i ∧ i < 4611686018427387904
noncomputable def itrW : Option IK → List D → Store → (List Nat → List D → Prop) → Prop
  | none, [x], st, P => iterW x st P
  | some .range, [.int j], _, P => small62 j ∧ P [] (rangeD 0 j.toNat)
  | some .range, [.int i, .int j], _, P => small62 i ∧ small62 j ∧ P [] (rangeD i (j - i).toNat)
  | some .rev, [x], st, P => seqW x st fun as xs => P as xs.reverse
  | _, _, _, _ => False
noncomputable def boolsOf : List D → Option (List Bool)
  | [] => some []
  | .bl b :: r => (boolsOf r).map (b :: ·)
  | _ => none
noncomputable def lenW : D → Store → (Nat → Prop) → Prop
  | .tup ds, _, P => P ds.length
  | .str x, _, P => x.length ≤ LINE ∧ P x.length
  | .ref a, st, P => seqAt st a (fun ds => P ds.length) fun ks o' => P ks.length
  | .mlst ds, _, P => P ds.length
  | _, _, _ => False
noncomputable def itemsW : BI → List D → Store → VK → Prop
  | .all, xs, st, Q => optK (boolsOf xs) fun bs => Q (.bl (bs.all id)) st
  | .any, xs, st, Q => optK (boolsOf xs) fun bs => Q (.bl (bs.any id)) st
  | .list, xs, st, Q => newL xs st Q
  | .tuple, xs, st, Q => xs.length ≤ LINE ∧ Q (.tup xs) st
  | _, _, _, _ => False
noncomputable def strsOf : List D → Option (List (List Nat))
  | [] => some []
  | .str w :: r => (strsOf r).map (w :: ·)
  | _ => none
noncomputable def ndS : List (List Nat) → List (List Nat) → Nat
  | _, [] => 0
  | seen, w :: r => (if seen.any (· == w) then 0 else 1) + ndS (seen ++ [w]) r
noncomputable def biW : BI → List D → Store → VK → Prop
  | .len, [d], st, Q => lenW d st fun n => Q (.int (n : Nat)) st
  | .lenset, [.tup ds], st, Q => optK (strsOf ds) fun ws => ws.length < 4000 ∧ Q (.int (ndS [] ws : Nat)) st
  | f, [d], st, Q => seqW d st fun o' xs => itemsW f xs st Q
  | _, _, _, _ => False
noncomputable def ownW : D → Store → (List D → Prop) → Prop
  | .tup ds, _, K => K ds
  | .ref a, st, K => lstAt st a K
  | _, _, _ => False
noncomputable def findD (st : Store) (d : D) : List D → Option Nat
  | [] => none
  | e :: r => if eqS st e d = true then some 0 else (findD st d r).map (· + 1)
noncomputable def lsqW : D → Store → (List D → Prop) → Prop
  | .ref a, st, R => lstAt st a R
  | _, _, _ => False
noncomputable def methW : MT → D → List D → Store → VK → Prop
  | .append, .ref a, [d], st, Q => lstAt st a fun xs => xs.length < LINE ∧ Q .non (put st a (.lst (xs ++ [d])))
  | .extend, .ref a, [d], st, Q => lstAt st a fun xs => ownW d st fun ys => xs.length + ys.length ≤ LINE ∧ Q .non (put st a (.lst (xs ++ ys)))
  | .pop, .ref a, [], st, Q => lstAt st a fun xs => optK (xs[xs.length - 1]?) fun d => Q d (put st a (.lst xs.dropLast))
  | .index, x, [d], st, Q => lsqW x st fun ds => plainS st d ∧ plainSs st ds ∧ optK (findD st d ds) fun i => Q (.int (i : Nat)) st
  | _, _, _, _, _ => False
noncomputable def rcvW : MT → D → Store → Prop
  | .append, .ref a, st => lstAt st a fun o' => True
  | .extend, .ref a, st => lstAt st a fun o' => True
  | .pop, .ref a, st => lstAt st a fun o' => True
  | .index, x, st => lsqW x st fun o' => True
  | _, _, _ => False
noncomputable def bindT : Bool → List Nat → D → St → (St → Prop) → Prop
  | true, [i], x, σ, P => P (σ.set i (some x))
  | false, is, .tup ds, σ, P => ds.length = is.length ∧ P ((is.zip ds).foldl (fun σ p => σ.set p.1 (some p.2)) σ)
  | _, _, _, _, _ => False
noncomputable def compW (g : Store → Prop) (turn : D → Store → (Option D → Store → Prop) → Prop) : List D → List D → Store → (List D → Store → Prop) → Prop
  | [], acc, st, R => g st ∧ R acc st
  | x :: xs, acc, st, R => g st ∧ acc.length < LINE ∧ turn x st fun o st' => compW g turn xs (match o with | none => acc | some d => acc ++ [d]) st' R
noncomputable def same (as : List Nat) (st st' : Store) : Prop := ∀ a ∈ as, st' a = st a
mutual
noncomputable def wpE (C : CallT) (sub : Nat → Nat → Bool) (E : XK) : Ex → St → Store → VK → Prop
  | .c d, _, st, Q => Q d st
  | .v i, σ, st, Q => getV σ i fun d => Q d st
  | .tup es, σ, st, Q => wpEs C sub E es σ st fun ds st' => Q (.tup ds) st'
  | .lst es, σ, st, Q => wpEs C sub E es σ st fun ds st' => newL ds st' Q
  | .bin op a b, σ, st, Q => wpE C sub E a σ st fun x st1 => wpE C sub E b σ st1 fun y st2 => binW op x y st2 Q
  | .neg a, σ, st, Q => wpE C sub E a σ st fun x st1 => negW x st1 Q
  | .cmp op a b, σ, st, Q => wpE C sub E a σ st fun x st1 => wpE C sub E b σ st1 fun y st2 => cmpW op x y st2 fun k => Q (.bl k) st2
  | .chain op op' a b c, σ, st, Q => wpE C sub E a σ st fun x st1 => wpE C sub E b σ st1 fun y st2 => cmpW op x y st2 fun k =>
      if k = true then wpE C sub E c σ st2 fun z st3 => cmpW op' y z st3 fun k => Q (.bl k) st3 else Q (.bl false) st2
  | .and_ a b, σ, st, Q => wpE C sub E a σ st fun x st1 => truW x st1 fun k => if k = true then wpE C sub E b σ st1 Q else Q x st1
  | .or_ a b, σ, st, Q => wpE C sub E a σ st fun x st1 => truW x st1 fun k => if k = true then Q x st1 else wpE C sub E b σ st1 Q
  | .not_ a, σ, st, Q => wpE C sub E a σ st fun x st1 => truW x st1 fun k => Q (.bl (!k)) st1
  | .call f es, σ, st, Q => wpEs C sub E es σ st fun ds st' => C f ds st' Q E
  | .bi f es, σ, st, Q => wpEs C sub E es σ st fun ds st' => biW f ds st' Q
  | .isi a ts, σ, st, Q => wpE C sub E a σ st fun x st1 => isiW sub x st1 ts fun k => Q (.bl k) st1
  | .meth m o es, σ, st, Q => wpE C sub E o σ st fun x st1 => rcvW m x st1 ∧ wpEs C sub E es σ st1 fun ds st2 => methW m x ds st2 Q
  | .ix a b, σ, st, Q => wpE C sub E a σ st fun x st1 => wpE C sub E b σ st1 fun y st2 => ixW x y st2 Q
  | .sl a lo hi, σ, st, Q => wpE C sub E a σ st fun x st1 => wpEs C sub E lo σ st1 fun ls st2 => partW ls fun l => wpEs C sub E hi σ st2 fun hs st3 => partW hs fun h => slW x l h st3 Q
  | .bit f k es, σ, st, Q => wpEs C sub E es σ st fun ds st1 => itrW (some k) ds st1 fun o' xs => itemsW f xs st1 Q
  | .comp n caps tg one k its ifs elt, σ, st, Q => wpEs C sub E its σ st fun ds st1 => itrW k ds st1 fun as xs =>
      compW (same as st1) (fun x st2 K => bindT one tg x (List.replicate n none ++ caps.map fun i => (σ[i]?).getD none) fun σ' =>
        wpTs C sub E ifs σ' st2 fun b st3 => if b = true then wpE C sub E elt σ' st3 fun d st4 => K (some d) st4 else K none st3) xs [] st1 fun ds st5 => newL ds st5 Q
noncomputable def wpEs (C : CallT) (sub : Nat → Nat → Bool) (E : XK) : List Ex → St → Store → (List D → Store → Prop) → Prop
  | [], _, st, Q => Q [] st
  | e :: es, σ, st, Q => wpE C sub E e σ st fun d st' => wpEs C sub E es σ st' fun ds st'' => Q (d :: ds) st''
/-- all tests, one after another -/
noncomputable def wpTs (C : CallT) (sub : Nat → Nat → Bool) (E : XK) : List Ex → St → Store → (Bool → Store → Prop) → Prop
  | [], _, st, Q => Q true st
  | e :: es, σ, st, Q => wpE C sub E e σ st fun d st' => truW d st' fun k => if k = true then wpTs C sub E es σ st' Q else Q false st'
end
set_option genInjectivity false in
structure Post where
  nx : St → Store → Prop
  rt : D → Store → Prop
  bk : St → Store → Prop
  ct : St → Store → Prop
  ex : Nat → St → Store → Prop
noncomputable def setW : D → D → D → Store → (Store → Prop) → Prop
  | .ref a, .int k, v, st, Q => lstAt st a fun xs => optK (ixN xs.length k) fun j => Q (put st a (.lst (xs.set j v)))
  | _, _, _, _, _ => False
noncomputable def tgW (C : CallT) (sub : Nat → Nat → Bool) (E : XK) : Tg → D → St → Store → (St → Store → Prop) → Prop
  | .nm i, d, σ, st, Q => Q (σ.set i (some d)) st
  | .tp is, d, σ, st, Q => bindT false is d σ fun σ' => Q σ' st
  | .ix o i, d, σ, st, Q => wpE C sub E o σ st fun x st1 => wpE C sub E i σ st1 fun y st2 => setW x y d st2 fun st3 => Q σ st3
noncomputable def forW (g : Store → Prop) (turn : D → (St → Store → Prop) → St → Store → Prop) (N : St → Store → Prop) : List D → St → Store → Prop
  | [], σ, st => g st ∧ N σ st
  | x :: xs, σ, st => g st ∧ turn x (forW g turn N xs) σ st
noncomputable def whileN (turn : (St → Store → Prop) → St → Store → Prop) : Nat → St → Store → Prop
  | 0, _, _ => False
  | n + 1, σ, st => turn (whileN turn n) σ st
mutual
noncomputable def wpS (C : CallT) (sub : Nat → Nat → Bool) : Sx → Post → St → Store → Prop
  | .ex e, P, σ, st => wpE C sub (fun c st' => P.ex c σ st') e σ st fun o' st' => P.nx σ st'
  | .asg t e, P, σ, st => wpE C sub (fun c st' => P.ex c σ st') e σ st fun d st' => tgW C sub (fun c st' => P.ex c σ st') t d σ st' P.nx
  | .iff c a b, P, σ, st => wpE C sub (fun c st' => P.ex c σ st') c σ st fun d st' => truW d st' fun k => if k = true then wpSs C sub a P σ st' else wpSs C sub b P σ st'
  | .whl c b, P, σ, st => ∃ n, whileN (fun next σ st => wpE C sub (fun c st' => P.ex c σ st') c σ st fun d st' => truW d st' fun k =>
      if k = true then wpSs C sub b { P with nx := next, ct := next, bk := P.nx } σ st' else P.nx σ st') n σ st
  | .forr t k its b, P, σ, st => wpEs C sub (fun c st' => P.ex c σ st') its σ st fun ds st1 => itrW k ds st1 fun as xs => forW (same as st1) (fun x next σ st => tgW C sub (fun c st' => P.ex c σ st') t x σ st fun σ' st' => wpSs C sub b { P with nx := next, ct := next, bk := P.nx } σ' st') P.nx xs σ st1
  | .ret e, P, σ, st => wpE C sub (fun c st' => P.ex c σ st') e σ st P.rt
  | .rais c es, P, σ, st => wpEs C sub (fun c st' => P.ex c σ st') es σ st fun o' st' => P.ex c σ st'
noncomputable def wpSs (C : CallT) (sub : Nat → Nat → Bool) : List Sx → Post → St → Store → Prop
  | [], P, σ, st => P.nx σ st
  | s :: ss, P, σ, st => wpS C sub s { P with nx := wpSs C sub ss P } σ st
end
noncomputable def start (np nl : Nat) (ds : List D) : St := ds.map some ++ List.replicate (nl - np) none
noncomputable def wpFn (G : Prog) : Nat → CallT
  | 0 => fun o' o' o' o' o' => False
  | k + 1 => fun f ds st Q E => match G.fns f with
    | none => False
    | some fn => ds.length = fn.np ∧ wpSs (wpFn G k) G.sub fn.body ⟨fun o' st' => Q .non st', Q, fun o' o' => False, fun o' o' => False, fun c o' st' => E c st'⟩ (start fn.np fn.nl ds) st
end L3
end
section
namespace L3
theorem getV_mono {σ : St} {i : Nat} {Q Q' : D → Prop} (h : ∀ d, Q d → Q' d) : getV σ i Q → getV σ i Q' := by
  unfold getV; split
  · exact h _
  · exact id
theorem seqAt_mono {st : Store} {a : Nat} {K K' : List D → Prop} {M M' : List D → List D → Prop} (h : ∀ ds, K ds → K' ds) (h' : ∀ ks vs, M ks vs → M' ks vs) : seqAt st a K M → seqAt st a K' M' := by
  unfold seqAt; split
  · exact h _
  · exact id
theorem lstAt_mono {st : Store} {a : Nat} {K K' : List D → Prop} (h : ∀ ds, K ds → K' ds) : lstAt st a K → lstAt st a K' := by
  unfold lstAt; split
  · exact h _
  · exact id
theorem optK_mono {α : Type} {o : Option α} {K K' : α → Prop} (h : ∀ x, K x → K' x) : optK o K → optK o K' := by
  unfold optK; split
  · exact h _
  · exact id
theorem truW_mono {d : D} {st : Store} {P P' : Bool → Prop} (h : ∀ b, P b → P' b) : truW d st P → truW d st P' := by
  unfold truW; split
  all_goals first | exact h _ | exact id | exact (fun x => ⟨x.1, h _ x.2⟩) | exact seqAt_mono (fun o' => h _) fun o' o' => h _
theorem newL_mono {ds : List D} {st : Store} {Q Q' : VK} (h : ∀ d st, Q d st → Q' d st) : newL ds st Q → newL ds st Q' := fun x => ⟨x.1, fun p hp => h _ _ (x.2 p hp)⟩
theorem binW_mono {op : BOp} {x y : D} {st : Store} {Q Q' : VK} (h : ∀ d st, Q d st → Q' d st) : binW op x y st Q → binW op x y st Q' := by
  cases op with
  | add =>
    show addW x y st Q → addW x y st Q'
    unfold addW; split
    all_goals first | exact h _ _ | exact id | exact (fun z => ⟨z.1, h _ _ z.2⟩) | exact lstAt_mono (fun o' => lstAt_mono fun o' => newL_mono h) | exact lstAt_mono (fun o' z => ⟨z.1, z.2.1, newL_mono h z.2.2⟩)
  | mul =>
    intro z
    obtain ⟨i, j, rfl, rfl, z⟩ := iiW_inv z
    exact (⟨z.1, h _ _ z.2⟩)
  | sub =>
    intro z
    obtain ⟨i, j, rfl, rfl, z⟩ := iiW_inv z
    exact (h _ _ z)
  | fdiv =>
    intro z
    obtain ⟨i, j, rfl, rfl, z⟩ := iiW_inv z
    exact (⟨z.1, h _ _ z.2⟩)
  | mod =>
    intro z
    obtain ⟨i, j, rfl, rfl, z⟩ := iiW_inv z
    exact (⟨z.1, h _ _ z.2⟩)
  | pow =>
    intro z
    obtain ⟨i, j, rfl, rfl, z⟩ := iiW_inv z
    exact (⟨z.1, h _ _ z.2⟩)
theorem negW_mono {x : D} {st : Store} {Q Q' : VK} (h : ∀ d st, Q d st → Q' d st) : negW x st Q → negW x st Q' := by
  unfold negW; split
  · exact h _ _
  · exact id
theorem eqW_mono {x y : D} {st : Store} {P P' : Bool → Prop} (h : ∀ b, P b → P' b) : eqW x y st P → eqW x y st P' := fun z => ⟨z.1, z.2.1, h _ z.2.2⟩
theorem inW_mono {x y : D} {st : Store} {P P' : Bool → Prop} (h : ∀ b, P b → P' b) : inW x y st P → inW x y st P' := by
  cases y
  case tup => exact fun z => ⟨z.1, z.2.1, h _ z.2.2⟩
  case mlst => exact fun z => ⟨z.1, z.2.1, h _ z.2.2⟩
  case ref =>
    show seqAt st _ (fun ds => plainS st x ∧ plainSs st ds ∧ P (ds.any fun d => eqS st d x)) (fun o' o' => False) → seqAt st _ (fun ds => plainS st x ∧ plainSs st ds ∧ P' (ds.any fun d => eqS st d x)) (fun o' o' => False)
    exact seqAt_mono (fun o' z => ⟨z.1, z.2.1, h _ z.2.2⟩) fun o' o' => id
  case mdic => exact strW_mono fun o' => h _
  case str => exact strW_mono fun o' => h _
  all_goals exact id
theorem ordW_mono {f : Int → Int → Bool} {x y : D} {P P' : Bool → Prop} (h : ∀ b, P b → P' b) : ordW f x y P → ordW f x y P' := by
  unfold ordW; split
  · exact h _
  · exact id
theorem cmpW_mono {op : COp} {x y : D} {st : Store} {P P' : Bool → Prop} (h : ∀ b, P b → P' b) : cmpW op x y st P → cmpW op x y st P' := by
  cases op
  · exact eqW_mono h
  · exact eqW_mono fun b => h (!b)
  · exact ordW_mono h
  · exact ordW_mono h
  · exact ordW_mono h
  · exact inW_mono h
  · exact inW_mono fun b => h (!b)
theorem isOne_mono {sub : Nat → Nat → Bool} {x : D} {st : Store} {t : Ty} {P P' : Bool → Prop} (h : ∀ b, P b → P' b) : isOne sub x st t P → isOne sub x st t P' := by
  cases x <;> cases t <;> first | exact h _ | exact id | exact seqAt_mono (M := fun o' o' => P false) (M' := fun o' o' => P' false) (fun o' => h _) fun o' o' => h false
theorem isiW_mono {sub : Nat → Nat → Bool} {x : D} {st : Store} {P P' : Bool → Prop} (h : ∀ b, P b → P' b) : ∀ {ts : List Ty}, isiW sub x st ts P → isiW sub x st ts P'
  | [] => id
  | [t] => isOne_mono h
  | t :: u :: ts => by
    unfold isiW
    refine isOne_mono fun b => ?_
    split
    · exact h _
    · exact isiW_mono h
theorem ixW_mono {x y : D} {st : Store} {Q Q' : VK} (h : ∀ d st, Q d st → Q' d st) : ixW x y st Q → ixW x y st Q' := by
  cases x
  case tup => exact intW_mono fun o' => optK_mono fun o' => h _ _
  case mlst => exact intW_mono fun o' => optK_mono fun o' => h _ _
  case str => exact intW_mono fun o' z => ⟨z.1, optK_mono (fun o' => h _ _) z.2⟩
  case mdic => exact strW_mono fun o' => optK_mono fun o' => h _ _
  case ref =>
    show seqAt st _ (fun ds => intW y fun i => optK (atI ds i) fun d => Q d st) (fun o' o' => False) → seqAt st _ (fun ds => intW y fun i => optK (atI ds i) fun d => Q' d st) (fun o' o' => False)
    exact seqAt_mono (fun o' => intW_mono fun o' => optK_mono fun o' => h _ _) fun o' o' => id
  all_goals exact id
theorem partW_mono {ds : List D} {P P' : Option Int → Prop} (h : ∀ o, P o → P' o) : partW ds P → partW ds P' := by
  unfold partW; split
  all_goals first | exact h _ | exact id
theorem slW_mono {x : D} {lo hi : Option Int} {st : Store} {Q Q' : VK} (h : ∀ d st, Q d st → Q' d st) : slW x lo hi st Q → slW x lo hi st Q' := by
  unfold slW
  split
  · exact h _ _
  · exact lstAt_mono fun o' z p hp => h _ _ (z p hp)
  · exact id
theorem iterW_mono {d : D} {st : Store} {K K' : List Nat → List D → Prop} (h : ∀ as xs, K as xs → K' as xs) : iterW d st K → iterW d st K' := by
  unfold iterW
  split
  all_goals first | exact h _ _ | exact id | exact (fun z => ⟨z.1, h _ _ z.2⟩) | exact lstAt_mono (fun o' => h _ _)
theorem seqW_mono {d : D} {st : Store} {K K' : List Nat → List D → Prop} (h : ∀ as xs, K as xs → K' as xs) : seqW d st K → seqW d st K' := by
  unfold seqW
  split
  all_goals first | exact h _ _ | exact id | exact lstAt_mono (fun o' => h _ _)
theorem itrW_mono {k : Option IK} {ds : List D} {st : Store} {P P' : List Nat → List D → Prop} (h : ∀ as xs, P as xs → P' as xs) : itrW k ds st P → itrW k ds st P' := by
  rcases k with _ | k
  · rcases ds with _ | ⟨x, _ | ⟨y, r⟩⟩
    · exact id
    · exact iterW_mono h
    · exact id
  · cases k
    · rcases ds with _ | ⟨x, _ | ⟨y, _ | ⟨w, r⟩⟩⟩
      · exact id
      · cases x <;> first | exact id | exact fun z => ⟨z.1, h _ _ z.2⟩
      · cases x <;> first | exact id | (cases y <;> first | exact id | exact fun z => ⟨z.1, z.2.1, h _ _ z.2.2⟩)
      · first | exact id | (cases x <;> first | exact id | (cases y <;> exact id))
    · rcases ds with _ | ⟨x, _ | ⟨y, r⟩⟩
      · exact id
      · exact seqW_mono fun o' o' => h _ _
      · exact id
theorem lenW_mono {d : D} {st : Store} {P P' : Nat → Prop} (h : ∀ n, P n → P' n) : lenW d st P → lenW d st P' := by
  unfold lenW
  split
  all_goals first | exact h _ | exact id | exact (fun z => ⟨z.1, h _ z.2⟩) | exact seqAt_mono (fun o' => h _) fun o' o' => h _
theorem itemsW_mono {f : BI} {xs : List D} {st : Store} {Q Q' : VK} (h : ∀ d st, Q d st → Q' d st) : itemsW f xs st Q → itemsW f xs st Q' := by
  unfold itemsW
  split
  all_goals first | exact id | exact newL_mono h | exact (fun z => ⟨z.1, h _ _ z.2⟩) | exact optK_mono (fun o' => h _ _) | skip
theorem biW_mono {f : BI} {ds : List D} {st : Store} {Q Q' : VK} (h : ∀ d st, Q d st → Q' d st) : biW f ds st Q → biW f ds st Q' := by
  rcases ds with _ | ⟨x, _ | ⟨y, r⟩⟩
  · cases f <;> exact id
  · cases f
    case len => exact lenW_mono fun o' => h _ _
    case lenset => cases x <;> first | exact id | exact optK_mono (fun o' z => ⟨z.1, h _ _ z.2⟩) | exact (show seqW _ st (fun o' xs => itemsW .lenset xs st Q) → seqW _ st (fun o' xs => itemsW .lenset xs st Q') from seqW_mono fun o' o' => itemsW_mono h)
    all_goals exact seqW_mono fun o' o' => itemsW_mono h
  · cases f <;> first | exact id | (cases x <;> exact id)
theorem ownW_mono {d : D} {st : Store} {K K' : List D → Prop} (h : ∀ xs, K xs → K' xs) : ownW d st K → ownW d st K' := by
  unfold ownW
  split
  all_goals first | exact h _ | exact id | exact lstAt_mono h
theorem lsqW_mono {d : D} {st : Store} {K K' : List D → Prop} (h : ∀ ds, K ds → K' ds) : lsqW d st K → lsqW d st K' := by
  cases d <;> first | exact id | exact lstAt_mono h
theorem methW_mono {m : MT} {o : D} {ds : List D} {st : Store} {Q Q' : VK} (h : ∀ d st, Q d st → Q' d st) : methW m o ds st Q → methW m o ds st Q' := by
  cases m
  case index =>
    rcases ds with _ | ⟨d, _ | ⟨e, r⟩⟩
    · first | exact id | (cases o <;> exact id)
    · exact (show lsqW o st (fun ds => plainS st d ∧ plainSs st ds ∧ optK (findD st d ds) fun i => Q (.int (i : Nat)) st) → lsqW o st (fun ds => plainS st d ∧ plainSs st ds ∧ optK (findD st d ds) fun i => Q' (.int (i : Nat)) st) from lsqW_mono fun o' z => ⟨z.1, z.2.1, optK_mono (fun o' => h _ _) z.2.2⟩)
    · first | exact id | (cases o <;> exact id)
  all_goals (cases o <;> first | exact id | (rcases ds with _ | ⟨d, _ | ⟨e, r⟩⟩ <;> first | exact id | exact (lstAt_mono fun o' z => ⟨z.1, h _ _ z.2⟩) | exact (lstAt_mono fun o' => ownW_mono fun o' z => ⟨z.1, h _ _ z.2⟩) | exact (lstAt_mono fun o' => optK_mono fun o' => h _ _)))
theorem bindT_mono {one : Bool} {tg : List Nat} {x : D} {σ : St} {P P' : St → Prop} (h : ∀ σ, P σ → P' σ) : bindT one tg x σ P → bindT one tg x σ P' := by
  unfold bindT
  split
  · exact h _
  · exact fun z => ⟨z.1, h _ z.2⟩
  · exact id
theorem compW_mono {g : Store → Prop} {turn turn' : D → Store → (Option D → Store → Prop) → Prop} {R R' : List D → Store → Prop}
    (ht : ∀ x st K K', (∀ o st, K o st → K' o st) → turn x st K → turn' x st K') (h : ∀ ds st, R ds st → R' ds st) : ∀ {xs acc : List D} {st : Store}, compW g turn xs acc st R → compW g turn' xs acc st R'
  | [], _, _, z => ⟨z.1, h _ _ z.2⟩
  | _ :: _, _, _, z => ⟨z.1, z.2.1, ht _ _ _ _ (fun o' o' y => compW_mono ht h y) z.2.2⟩
noncomputable def CMono (C C' : CallT) : Prop := ∀ f ds st Q Q' E E', (∀ d st, Q d st → Q' d st) → (∀ c st, E c st → E' c st) → C f ds st Q E → C' f ds st Q' E'
mutual
theorem wpE_mono {C C' : CallT} {sub} {E E' : XK} (hC : CMono C C') (hE : ∀ c st, E c st → E' c st) : ∀ (e : Ex) {σ : St} {st : Store} {Q Q' : VK}, (∀ d st, Q d st → Q' d st) → wpE C sub E e σ st Q → wpE C' sub E' e σ st Q'
  | .c d, σ, st, Q, Q', h => by exact h _ _
  | .v i, σ, st, Q, Q', h => by exact getV_mono fun d => h _ _
  | .tup es, σ, st, Q, Q', h => by exact wpEs_mono hC hE es fun o' o' => h _ _
  | .lst es, σ, st, Q, Q', h => by exact wpEs_mono hC hE es fun o' o' => newL_mono h
  | .bin op a b, σ, st, Q, Q', h => by exact wpE_mono hC hE a fun o' o' => wpE_mono hC hE b fun o' o' => binW_mono h
  | .neg a, σ, st, Q, Q', h => by
    exact wpE_mono hC hE a fun o' o' => negW_mono h
  | .cmp op a b, σ, st, Q, Q', h => by exact wpE_mono hC hE a fun o' o' => wpE_mono hC hE b fun o' o' => cmpW_mono fun o' => h _ _
  | .chain op op' a b c, σ, st, Q, Q', h => by
    refine wpE_mono hC hE a fun o' o' => wpE_mono hC hE b fun o' o' => cmpW_mono fun k => ?_
    split
    · exact wpE_mono hC hE c fun o' o' => cmpW_mono fun o' => h _ _
    · exact h _ _
  | .and_ a b, σ, st, Q, Q', h => by
    refine wpE_mono hC hE a fun o' o' => truW_mono fun k => ?_
    split
    · exact wpE_mono hC hE b h
    · exact h _ _
  | .or_ a b, σ, st, Q, Q', h => by
    refine wpE_mono hC hE a fun o' o' => truW_mono fun k => ?_
    split
    · exact h _ _
    · exact wpE_mono hC hE b h
  | .not_ a, σ, st, Q, Q', h => by exact wpE_mono hC hE a fun o' o' => truW_mono fun k => h _ _
  | .call f es, σ, st, Q, Q', h => by exact wpEs_mono hC hE es fun o' o' => hC _ _ _ _ _ _ _ h hE
  | .bi f es, σ, st, Q, Q', h => by exact wpEs_mono hC hE es fun o' o' => biW_mono h
  | .isi a ts, σ, st, Q, Q', h => by exact wpE_mono hC hE a fun o' o' => isiW_mono fun o' => h _ _
  | .meth m o es, σ, st, Q, Q', h => by exact wpE_mono hC hE o fun o' o' z => ⟨z.1, wpEs_mono hC hE es (fun o' o' => methW_mono h) z.2⟩
  | .ix a b, σ, st, Q, Q', h => by exact wpE_mono hC hE a fun o' o' => wpE_mono hC hE b fun o' o' => ixW_mono h
  | .sl a lo hi, σ, st, Q, Q', h => by exact wpE_mono hC hE a fun o' o' => wpEs_mono hC hE lo fun o' o' => partW_mono fun o' => wpEs_mono hC hE hi fun o' o' => partW_mono fun o' => slW_mono h
  | .bit f k es, σ, st, Q, Q', h => by exact wpEs_mono hC hE es fun o' o' => itrW_mono fun o' o' => itemsW_mono h
  | .comp n caps tg one k its ifs elt, σ, st, Q, Q', h => by
    refine wpEs_mono hC hE its fun d st1 => itrW_mono fun as xs => ?_
    intro z
    refine compW_mono (fun x st K K' hK => ?_) (fun o' o' => newL_mono h) z
    refine bindT_mono fun σ' => wpTs_mono hC hE ifs fun b st => ?_
    split
    · exact wpE_mono hC hE elt fun o' o' => hK _ _
    · exact hK _ _
theorem wpEs_mono {C C' : CallT} {sub} {E E' : XK} (hC : CMono C C') (hE : ∀ c st, E c st → E' c st) : ∀ (es : List Ex) {σ : St} {st : Store} {Q Q' : List D → Store → Prop}, (∀ d st, Q d st → Q' d st) → wpEs C sub E es σ st Q → wpEs C' sub E' es σ st Q'
  | [], σ, st, Q, Q', h => by exact h _ _
  | e :: es, σ, st, Q, Q', h => by exact wpE_mono hC hE e fun o' o' => wpEs_mono hC hE es fun o' o' => h _ _
theorem wpTs_mono {C C' : CallT} {sub} {E E' : XK} (hC : CMono C C') (hE : ∀ c st, E c st → E' c st) : ∀ (es : List Ex) {σ : St} {st : Store} {Q Q' : Bool → Store → Prop}, (∀ d st, Q d st → Q' d st) → wpTs C sub E es σ st Q → wpTs C' sub E' es σ st Q'
  | [], σ, st, Q, Q', h => by exact h _ _
  | e :: es, σ, st, Q, Q', h => by
    refine wpE_mono hC hE e fun o' o' => truW_mono fun k => ?_
    split
    · exact wpTs_mono hC hE es h
    · exact h _ _
end
structure Post.Le (P P' : Post) : Prop where
  nx : ∀ σ st, P.nx σ st → P'.nx σ st
  rt : ∀ d st, P.rt d st → P'.rt d st
  bk : ∀ σ st, P.bk σ st → P'.bk σ st
  ct : ∀ σ st, P.ct σ st → P'.ct σ st
  ex : ∀ c σ st, P.ex c σ st → P'.ex c σ st
theorem setW_mono {o i v : D} {st : Store} {Q Q' : Store → Prop} (h : ∀ st, Q st → Q' st) : setW o i v st Q → setW o i v st Q' := by
  unfold setW
  split
  · exact lstAt_mono fun o' => optK_mono fun o' => h _
  · exact id
theorem tgW_mono {C C' : CallT} {sub} {E E' : XK} (hC : CMono C C') (hE : ∀ c st, E c st → E' c st) {d : D} {Q Q' : St → Store → Prop} (h : ∀ σ st, Q σ st → Q' σ st) : ∀ (t : Tg) {σ : St} {st : Store}, tgW C sub E t d σ st Q → tgW C' sub E' t d σ st Q'
  | .nm i, _, _ => by exact h _ _
  | .tp is, _, _ => by exact bindT_mono fun o' => h _ _
  | .ix o i, _, _ => by exact wpE_mono hC hE o fun o' o' => wpE_mono hC hE i fun o' o' => setW_mono fun o' => h _ _
theorem forW_mono {g : Store → Prop} {turn turn' : D → (St → Store → Prop) → St → Store → Prop} {N N' : St → Store → Prop}
    (ht : ∀ x M M' σ st, (∀ σ st, M σ st → M' σ st) → turn x M σ st → turn' x M' σ st) (h : ∀ σ st, N σ st → N' σ st) : ∀ {xs : List D} {σ : St} {st : Store}, forW g turn N xs σ st → forW g turn' N' xs σ st
  | [], _, _, z => ⟨z.1, h _ _ z.2⟩
  | _ :: _, _, _, z => ⟨z.1, ht _ _ _ _ _ (fun o' o' => forW_mono ht h) z.2⟩
theorem whileN_mono {turn turn' : (St → Store → Prop) → St → Store → Prop} (ht : ∀ M M' σ st, (∀ σ st, M σ st → M' σ st) → turn M σ st → turn' M' σ st) : ∀ {n : Nat} {σ : St} {st : Store}, whileN turn n σ st → whileN turn' n σ st
  | 0, _, _, z => z
  | n + 1, _, _, z => ht _ _ _ _ (fun o' o' => whileN_mono ht) z
mutual
theorem wpS_mono {C C' : CallT} {sub} (hC : CMono C C') : ∀ (s : Sx) {P P' : Post} {σ : St} {st : Store}, P.Le P' → wpS C sub s P σ st → wpS C' sub s P' σ st
  | .ex e, P, P', σ, st, h => by exact wpE_mono hC (fun o' o' => h.ex _ _ _) e fun o' o' => h.nx _ _
  | .asg t e, P, P', σ, st, h => by exact wpE_mono hC (fun o' o' => h.ex _ _ _) e fun o' o' => tgW_mono hC (fun o' o' => h.ex _ _ _) h.nx t
  | .iff c a b, P, P', σ, st, h => by
    refine wpE_mono hC (fun o' o' => h.ex _ _ _) c fun o' o' => truW_mono fun k => ?_
    split
    · exact wpSs_mono hC a h
    · exact wpSs_mono hC b h
  | .whl c b, P, P', σ, st, h => by
    rintro ⟨n, z⟩
    refine ⟨n, whileN_mono (fun M M' σ st hM => wpE_mono hC (fun o' o' => h.ex _ _ _) c fun o' o' => truW_mono fun k => ?_) z⟩
    split
    · exact wpSs_mono hC b ⟨hM, h.rt, h.nx, hM, h.ex⟩
    · exact h.nx _ _
  | .forr t k its b, P, P', σ, st, h => by
    refine wpEs_mono hC (fun o' o' => h.ex _ _ _) its fun o' o' => itrW_mono fun as xs => ?_
    exact forW_mono (fun x M M' σ st hM => tgW_mono hC (fun o' o' => h.ex _ _ _) (fun o' o' => wpSs_mono hC b (P := { P with nx := M, ct := M, bk := P.nx }) (P' := { P' with nx := M', ct := M', bk := P'.nx }) ⟨hM, h.rt, h.nx, hM, h.ex⟩) t) h.nx
  | .ret e, P, P', σ, st, h => by exact wpE_mono hC (fun o' o' => h.ex _ _ _) e h.rt
  | .rais c es, P, P', σ, st, h => by exact wpEs_mono hC (fun o' o' => h.ex _ _ _) es fun o' o' => h.ex _ _ _
theorem wpSs_mono {C C' : CallT} {sub} (hC : CMono C C') : ∀ (ss : List Sx) {P P' : Post} {σ : St} {st : Store}, P.Le P' → wpSs C sub ss P σ st → wpSs C' sub ss P' σ st
  | [], P, P', σ, st, h => by exact h.nx _ _
  | s :: ss, P, P', σ, st, h => by exact wpS_mono hC s ⟨fun o' o' => wpSs_mono hC ss h, h.rt, h.bk, h.ct, h.ex⟩
end
theorem wpFn_mono (G : Prog) : ∀ {j k : Nat}, j ≤ k → CMono (wpFn G j) (wpFn G k)
  | 0, k, _ => fun o' o' o' o' o' o' o' o' o' x => x.elim
  | j + 1, 0, h => by omega
  | j + 1, k + 1, h => fun f ds st Q Q' E E' hQ hE => by
    simp only [wpFn]
    split
    · exact id
    · have hj : j ≤ k := by omega
      exact fun z => ⟨z.1, wpSs_mono (wpFn_mono G hj) _ (P := ⟨fun o' st' => Q .non st', Q, fun o' o' => False, fun o' o' => False, fun c o' st' => E c st'⟩) (P' := ⟨fun o' st' => Q' .non st', Q', fun o' o' => False, fun o' o' => False, fun c o' st' => E' c st'⟩) ⟨fun o' o' => hQ _ _, hQ, fun o' o' => id, fun o' o' => id, fun o' o' o' => hE _ _⟩ z.2⟩
end L3
end
section
namespace L3
section
variable {C : CallT} {sub : Nat → Nat → Bool} {E : XK} {σ : St} {st : Store} {Q : VK} {P : Bool → Prop} {e a b c : Ex} {es : List Ex} {x y : D} {i j : Int} {u v : List Nat} {ds xs ys ks vs : List D} {p q : Nat} {K : List D → Prop} {M : List D → List D → Prop}
theorem wpSs_nil {R : Post} : wpSs C sub [] R σ st = R.nx σ st := rfl
theorem wpSs_cons {R : Post} {s : Sx} {ss : List Sx} : wpSs C sub (s :: ss) R σ st = wpS C sub s { R with nx := wpSs C sub ss R } σ st := rfl
theorem wpSs_c {R : Post} {s : Sx} {ss : List Sx} (h : wpS C sub s { R with nx := wpSs C sub ss R } σ st) : wpSs C sub (s :: ss) R σ st := h
theorem seqAt_lst (h : st p = some (.lst ds)) : seqAt st p K M = K ds := by unfold seqAt; rw [h]
theorem lstAt_lst (h : st p = some (.lst ds)) : lstAt st p K = K ds := by unfold lstAt; rw [h]
theorem optK_some {α : Type} {x : α} {K : α → Prop} : optK (some x) K = K x := rfl
theorem optK_none {α : Type} {K : α → Prop} : optK none K = False := rfl
theorem getV_0 {d : D} {r : St} {R : D → Prop} : getV (some d :: r) 0 R = R d := rfl
theorem getV_s {o : Option D} {r : St} {n : Nat} {R : D → Prop} : getV (o :: r) (n + 1) R = getV r n R := rfl
theorem put_same {o : MO} : put st p o p = some o := by unfold put; rw [if_pos rfl]
theorem put_ne {o : MO} (h : q ≠ p) : put st p o q = st q := by unfold put; rw [if_neg h]
theorem put_old {o u : MO} (h : st p = none) (h' : st q = some u) : put st p o q = some u := by
  rw [put_ne]; exact h'
  intro e; rw [e, h] at h'; cases h'
theorem put_put {o u : MO} : put (put st p o) p u = put st p u := by funext b; unfold put; split <;> rfl
theorem tru_non : truW .non st P = P false := rfl
theorem tru_bl {k : Bool} : truW (.bl k) st P = P k := rfl
theorem tru_int : truW (.int i) st P = P (i != 0) := rfl
theorem tru_tup : truW (.tup ds) st P = P (!ds.isEmpty) := rfl
theorem tru_ref : truW (.ref p) st P = seqAt st p (fun ds => P (!ds.isEmpty)) fun ks o' => P (!ks.isEmpty) := rfl
theorem tru_mlst : truW (.mlst ds) st P = P (!ds.isEmpty) := rfl
theorem cmp_eq : cmpW .eq x y st P = (plainS st x ∧ plainS st y ∧ P (eqS st x y)) := rfl
theorem cmp_ne : cmpW .ne x y st P = (plainS st x ∧ plainS st y ∧ P (!eqS st x y)) := rfl
theorem cmp_lt : cmpW .lt (.int i) (.int j) st P = P (decide (i < j)) := rfl
theorem cmp_le : cmpW .le (.int i) (.int j) st P = P (decide (i ≤ j)) := rfl
theorem cmp_gt : cmpW .gt (.int i) (.int j) st P = P (decide (j < i)) := rfl
theorem cmp_in_tup : cmpW .in_ x (.tup ds) st P = (plainS st x ∧ plainSs st ds ∧ P (ds.any fun d => eqS st d x)) := rfl
theorem cmp_in_mdic {w : List Nat} : cmpW .in_ (.str w) (.mdic ks vs) st P = P (ks.any fun d => eqD d (.str w)) := rfl
theorem cmp_in_str : cmpW .in_ (.str u) (.str v) st P = P (occurs u v) := rfl
theorem cmp_nin_tup : cmpW .notin x (.tup ds) st P = (plainS st x ∧ plainSs st ds ∧ P (!ds.any fun d => eqS st d x)) := rfl
theorem cmp_nin_ref : cmpW .notin x (.ref p) st P = seqAt st p (fun ds => plainS st x ∧ plainSs st ds ∧ P (!ds.any fun d => eqS st d x)) fun ks o' => plain x ∧ plains ks ∧ P (!ks.any fun d => eqD d x) := rfl
theorem cmp_nin_mdic {w : List Nat} : cmpW .notin (.str w) (.mdic ks vs) st P = P (!ks.any fun d => eqD d (.str w)) := rfl
theorem cmp_nin_str : cmpW .notin (.str u) (.str v) st P = P (!occurs u v) := rfl
theorem add_int : binW .add (.int i) (.int j) st Q = Q (.int (i + j)) st := rfl
theorem add_str : binW .add (.str u) (.str v) st Q = (u.length + v.length ≤ LINE ∧ Q (.str (u ++ v)) st) := rfl
theorem add_tup : binW .add (.tup xs) (.tup ys) st Q = (xs.length + ys.length ≤ LINE ∧ Q (.tup (xs ++ ys)) st) := rfl
theorem add_ref : binW .add (.ref p) (.ref q) st Q = lstAt st p fun xs => lstAt st q fun ys => newL (xs ++ ys) st Q := rfl
theorem sub_int : binW .sub (.int i) (.int j) st Q = Q (.int (i - j)) st := rfl
theorem mul_int : binW .mul (.int i) (.int j) st Q = ((smallI i ∨ smallI j) ∧ Q (.int (i * j)) st) := rfl
theorem fdiv_int : binW .fdiv (.int i) (.int j) st Q = ((0 < j ∧ j < 1073741824) ∧ Q (.int (i / j)) st) := rfl
theorem mod_int : binW .mod (.int i) (.int j) st Q = (0 < j ∧ Q (.int (i % j)) st) := rfl
theorem pow_int : binW .pow (.int i) (.int j) st Q = ((0 ≤ j ∧ j ≤ 1000000 ∧ i.natAbs < 18446744073709551616) ∧ Q (.int (i ^ j.toNat)) st) := rfl
theorem neg_int : negW (.int i) st Q = Q (.int (-i)) st := rfl
theorem isi_one {t : Ty} : isiW sub x st [t] P = isOne sub x st t P := rfl
theorem is_non {sub : Nat → Nat → Bool} {st : Store} {t : Ty} {P : Bool → Prop} : isOne sub .non st t P = P false := rfl
theorem is_bl_int {sub : Nat → Nat → Bool} {st : Store} {P : Bool → Prop} {k : Bool} : isOne sub (.bl k) st .int P = P true := rfl
theorem is_bl_str {sub : Nat → Nat → Bool} {st : Store} {P : Bool → Prop} {k : Bool} : isOne sub (.bl k) st .str P = P false := rfl
theorem is_bl_bool {sub : Nat → Nat → Bool} {st : Store} {P : Bool → Prop} {k : Bool} : isOne sub (.bl k) st .bool P = P true := rfl
theorem is_bl_list {sub : Nat → Nat → Bool} {st : Store} {P : Bool → Prop} {k : Bool} : isOne sub (.bl k) st .list P = P false := rfl
theorem is_bl_tuple {sub : Nat → Nat → Bool} {st : Store} {P : Bool → Prop} {k : Bool} : isOne sub (.bl k) st .tuple P = P false := rfl
theorem is_int_int {sub : Nat → Nat → Bool} {st : Store} {P : Bool → Prop} {i : Int} : isOne sub (.int i) st .int P = P true := rfl
theorem is_int_str {sub : Nat → Nat → Bool} {st : Store} {P : Bool → Prop} {i : Int} : isOne sub (.int i) st .str P = P false := rfl
theorem is_int_bool {sub : Nat → Nat → Bool} {st : Store} {P : Bool → Prop} {i : Int} : isOne sub (.int i) st .bool P = P false := rfl
theorem is_int_list {sub : Nat → Nat → Bool} {st : Store} {P : Bool → Prop} {i : Int} : isOne sub (.int i) st .list P = P false := rfl
theorem is_int_tuple {sub : Nat → Nat → Bool} {st : Store} {P : Bool → Prop} {i : Int} : isOne sub (.int i) st .tuple P = P false := rfl
theorem is_str_int {sub : Nat → Nat → Bool} {st : Store} {P : Bool → Prop} {u : List Nat} : isOne sub (.str u) st .int P = P false := rfl
theorem is_str_str {sub : Nat → Nat → Bool} {st : Store} {P : Bool → Prop} {u : List Nat} : isOne sub (.str u) st .str P = P true := rfl
theorem is_str_bool {sub : Nat → Nat → Bool} {st : Store} {P : Bool → Prop} {u : List Nat} : isOne sub (.str u) st .bool P = P false := rfl
theorem is_str_list {sub : Nat → Nat → Bool} {st : Store} {P : Bool → Prop} {u : List Nat} : isOne sub (.str u) st .list P = P false := rfl
theorem is_str_tuple {sub : Nat → Nat → Bool} {st : Store} {P : Bool → Prop} {u : List Nat} : isOne sub (.str u) st .tuple P = P false := rfl
theorem is_tup_int {sub : Nat → Nat → Bool} {st : Store} {P : Bool → Prop} {ds : List D} : isOne sub (.tup ds) st .int P = P false := rfl
theorem is_tup_str {sub : Nat → Nat → Bool} {st : Store} {P : Bool → Prop} {ds : List D} : isOne sub (.tup ds) st .str P = P false := rfl
theorem is_tup_bool {sub : Nat → Nat → Bool} {st : Store} {P : Bool → Prop} {ds : List D} : isOne sub (.tup ds) st .bool P = P false := rfl
theorem is_tup_list {sub : Nat → Nat → Bool} {st : Store} {P : Bool → Prop} {ds : List D} : isOne sub (.tup ds) st .list P = P false := rfl
theorem is_tup_tuple {sub : Nat → Nat → Bool} {st : Store} {P : Bool → Prop} {ds : List D} : isOne sub (.tup ds) st .tuple P = P true := rfl
theorem is_mlst_int {sub : Nat → Nat → Bool} {st : Store} {P : Bool → Prop} {ds : List D} : isOne sub (.mlst ds) st .int P = P false := rfl
theorem is_mlst_str {sub : Nat → Nat → Bool} {st : Store} {P : Bool → Prop} {ds : List D} : isOne sub (.mlst ds) st .str P = P false := rfl
theorem is_mlst_bool {sub : Nat → Nat → Bool} {st : Store} {P : Bool → Prop} {ds : List D} : isOne sub (.mlst ds) st .bool P = P false := rfl
theorem is_mlst_list {sub : Nat → Nat → Bool} {st : Store} {P : Bool → Prop} {ds : List D} : isOne sub (.mlst ds) st .list P = P true := rfl
theorem is_mlst_tuple {sub : Nat → Nat → Bool} {st : Store} {P : Bool → Prop} {ds : List D} : isOne sub (.mlst ds) st .tuple P = P false := rfl
theorem is_ref_int {sub : Nat → Nat → Bool} {st : Store} {P : Bool → Prop} {a : Nat} : isOne sub (.ref a) st .int P = seqAt st a (fun o' => P false) fun o' o' => P false := rfl
theorem is_ref_str {sub : Nat → Nat → Bool} {st : Store} {P : Bool → Prop} {a : Nat} : isOne sub (.ref a) st .str P = seqAt st a (fun o' => P false) fun o' o' => P false := rfl
theorem is_ref_bool {sub : Nat → Nat → Bool} {st : Store} {P : Bool → Prop} {a : Nat} : isOne sub (.ref a) st .bool P = seqAt st a (fun o' => P false) fun o' o' => P false := rfl
theorem is_ref_list {sub : Nat → Nat → Bool} {st : Store} {P : Bool → Prop} {a : Nat} : isOne sub (.ref a) st .list P = seqAt st a (fun o' => P true) fun o' o' => P false := rfl
theorem is_ref_tuple {sub : Nat → Nat → Bool} {st : Store} {P : Bool → Prop} {a : Nat} : isOne sub (.ref a) st .tuple P = seqAt st a (fun o' => P false) fun o' o' => P false := rfl
theorem isi_two {t t' : Ty} {ts : List Ty} : isiW sub x st (t :: t' :: ts) P = isOne sub x st t fun b => if b = true then P true else isiW sub x st (t' :: ts) P := rfl
theorem ix_tup : ixW (.tup ds) (.int i) st Q = optK (atI ds i) fun d => Q d st := rfl
theorem ix_mlst : ixW (.mlst ds) (.int i) st Q = optK (atI ds i) fun d => Q d st := rfl
theorem ix_str : ixW (.str u) (.int i) st Q = (u.length ≤ LINE ∧ optK (atI u i) fun c => Q (.str [c]) st) := rfl
theorem ix_mdic {w : List Nat} : ixW (.mdic ks vs) (.str w) st Q = optK (lookD ks vs (.str w)) fun d => Q d st := rfl
theorem ix_lst (h : st p = some (.lst ds)) : ixW (.ref p) (.int i) st Q = optK (atI ds i) fun d => Q d st := by
  show seqAt st p _ (fun o' o' => False) = _
  rw [seqAt_lst h]
  rfl
theorem atI_nat {α : Type} {xs : List α} {n : Nat} (h : n < xs.length) : atI xs (n : Int) = xs[n]? := by
  unfold atI ixN
  rw [if_pos (by omega), if_pos (by omega)]
  simp
theorem at_0 {α : Type} {x : α} {r : List α} : atI (x :: r) 0 = some x := atI_nat (n := 0) (by simp)
theorem at_1 {α : Type} {x y : α} {r : List α} : atI (x :: y :: r) 1 = some y := atI_nat (n := 1) (by simp)
theorem at_2 {α : Type} {x y z : α} {r : List α} : atI (x :: y :: z :: r) 2 = some z := atI_nat (n := 2) (by simp)
theorem at_3 {α : Type} {x y z w : α} {r : List α} : atI (x :: y :: z :: w :: r) 3 = some w := atI_nat (n := 3) (by simp)
theorem at_4 {α : Type} {x y z w t : α} {r : List α} : atI (x :: y :: z :: w :: t :: r) 4 = some t := atI_nat (n := 4) (by simp)
theorem part_0 {R : Option Int → Prop} : partW [] R = R none := rfl
theorem part_1 {R : Option Int → Prop} : partW [.int i] R = R (some i) := rfl
theorem sl_tup {lo hi : Option Int} : slW (.tup ds) lo hi st Q = Q (.tup (cut ds lo hi)) st := rfl
theorem sl_ref {lo hi : Option Int} : slW (.ref p) lo hi st Q = lstAt st p fun ds => ∀ p, st p = none → Q (.ref p) (put st p (.lst (cut ds lo hi))) := rfl
theorem cut_1 {α : Type} {d : α} {ds : List α} : cut (d :: ds) (some 1) none = ds := by simp [cut, sIx]
theorem cut_len {α : Type} {xs : List α} {lo hi : Option Int} : (cut xs lo hi).length ≤ xs.length := by unfold cut; rw [List.length_take, List.length_drop]; exact Nat.le_trans (Nat.min_le_right _ _) (Nat.sub_le _ _)
theorem itr_val {R : List Nat → List D → Prop} : itrW none [x] st R = iterW x st R := rfl
theorem iter_tup {R : List Nat → List D → Prop} : iterW (.tup ds) st R = R [] ds := rfl
theorem iter_str {R : List Nat → List D → Prop} : iterW (.str u) st R = (u.length ≤ LINE ∧ R [] (u.map fun c => .str [c])) := rfl
theorem iter_ref {R : List Nat → List D → Prop} : iterW (.ref p) st R = lstAt st p fun ds => R [p] ds := rfl
theorem iter_mlst {R : List Nat → List D → Prop} : iterW (.mlst ds) st R = R [] ds := rfl
theorem seq_tup {R : List Nat → List D → Prop} : seqW (.tup ds) st R = R [] ds := rfl
theorem seq_ref {R : List Nat → List D → Prop} : seqW (.ref p) st R = lstAt st p fun ds => R [p] ds := rfl
theorem seq_mlst {R : List Nat → List D → Prop} : seqW (.mlst ds) st R = R [] ds := rfl
theorem itr_range1 {R : List Nat → List D → Prop} : itrW (some .range) [.int j] st R = (small62 j ∧ R [] (rangeD 0 j.toNat)) := rfl
theorem itr_range2 {R : List Nat → List D → Prop} : itrW (some .range) [.int i, .int j] st R = (small62 i ∧ small62 j ∧ R [] (rangeD i (j - i).toNat)) := rfl
theorem itr_rev {R : List Nat → List D → Prop} : itrW (some .rev) [x] st R = seqW x st fun as xs => R as xs.reverse := rfl
theorem bi_len : biW .len [x] st Q = lenW x st fun n => Q (.int (n : Nat)) st := rfl
theorem len_tup {R : Nat → Prop} : lenW (.tup ds) st R = R ds.length := rfl
theorem len_mlst {R : Nat → Prop} : lenW (.mlst ds) st R = R ds.length := rfl
theorem len_str {R : Nat → Prop} : lenW (.str u) st R = (u.length ≤ LINE ∧ R u.length) := rfl
theorem len_ref {R : Nat → Prop} : lenW (.ref p) st R = seqAt st p (fun ds => R ds.length) fun ks o' => R ks.length := rfl
theorem bi_all : biW .all [x] st Q = seqW x st fun o' xs => itemsW .all xs st Q := rfl
theorem bi_any : biW .any [x] st Q = seqW x st fun o' xs => itemsW .any xs st Q := rfl
theorem bi_list : biW .list [x] st Q = seqW x st fun o' xs => itemsW .list xs st Q := rfl
theorem bi_tuple : biW .tuple [x] st Q = seqW x st fun o' xs => itemsW .tuple xs st Q := rfl
theorem bi_lenset {ds : List D} : biW .lenset [.tup ds] st Q = optK (strsOf ds) fun ws => ws.length < 4000 ∧ Q (.int (ndS [] ws : Nat)) st := rfl
theorem it_all : itemsW .all xs st Q = optK (boolsOf xs) fun bs => Q (.bl (bs.all id)) st := rfl
theorem it_any : itemsW .any xs st Q = optK (boolsOf xs) fun bs => Q (.bl (bs.any id)) st := rfl
theorem it_list : itemsW .list xs st Q = newL xs st Q := rfl
theorem it_tuple : itemsW .tuple xs st Q = (xs.length ≤ LINE ∧ Q (.tup xs) st) := rfl
theorem own_tup : ownW (.tup ds) st K = K ds := rfl
theorem own_ref : ownW (.ref p) st K = lstAt st p K := rfl
theorem rcv_append : rcvW .append (.ref p) st = lstAt st p fun o' => True := rfl
theorem rcv_extend : rcvW .extend (.ref p) st = lstAt st p fun o' => True := rfl
theorem rcv_pop : rcvW .pop (.ref p) st = lstAt st p fun o' => True := rfl
theorem rcv_index {x : D} : rcvW .index x st = lsqW x st fun o' => True := rfl
theorem lsq_ref {R : List D → Prop} : lsqW (.ref p) st R = lstAt st p R := rfl
theorem mt_index {x d : D} : methW .index x [d] st Q = lsqW x st fun ds => plainS st d ∧ plainSs st ds ∧ optK (findD st d ds) fun i => Q (.int (i : Nat)) st := rfl
theorem mt_append : methW .append (.ref p) [x] st Q = lstAt st p fun xs => xs.length < LINE ∧ Q .non (put st p (.lst (xs ++ [x]))) := rfl
theorem mt_extend : methW .extend (.ref p) [x] st Q = lstAt st p fun xs => ownW x st fun ys => xs.length + ys.length ≤ LINE ∧ Q .non (put st p (.lst (xs ++ ys))) := rfl
theorem mt_pop : methW .pop (.ref p) [] st Q = lstAt st p fun xs => optK (xs[xs.length - 1]?) fun d => Q d (put st p (.lst xs.dropLast)) := rfl
theorem set_ref {R : Store → Prop} : setW (.ref p) (.int i) x st R = lstAt st p fun xs => optK (ixN xs.length i) fun j => R (put st p (.lst (xs.set j x))) := rfl
theorem bind_1 {n : Nat} {R : St → Prop} : bindT true [n] x σ R = R (σ.set n (some x)) := rfl
theorem bind_t {is : List Nat} {R : St → Prop} : bindT false is (.tup ds) σ R = (ds.length = is.length ∧ R ((is.zip ds).foldl (fun σ p => σ.set p.1 (some p.2)) σ)) := by cases is <;> rfl
end
theorem Ext.refl {st : Store} : Ext st st := fun o' o' h => h
theorem Ext.trans {a b c : Store} (h : Ext a b) (h' : Ext b c) : Ext a c := fun x o e => h' x o (h x o e)
theorem Ext.new {st : Store} {p : Nat} {o : MO} (h : st p = none) : Ext st (put st p o) := fun a u e => put_old h e
end L3
end
section
namespace L3
theorem same_nil {st st' : Store} : same [] st st' := fun o' h => nomatch h
theorem comp_map {g : Store → Prop} {turn : D → Store → (Option D → Store → Prop) → Prop} {R : List D → Store → Prop} (f : D → D) : ∀ (xs acc : List D) (st : Store),
    (∀ st', Ext st st' → g st') → (∀ x ∈ xs, ∀ st' (K : Option D → Store → Prop), Ext st st' → (∀ st'', Ext st' st'' → K (some (f x)) st'') → turn x st' K) →
    acc.length + xs.length ≤ LINE → (∀ st', Ext st st' → R (acc ++ xs.map f) st') → compW g turn xs acc st R
  | [], acc, st, hg, _, _, hR => ⟨hg st .refl, by simpa using hR st .refl⟩
  | x :: xs, acc, st, hg, ht, hl, hR => by
    refine ⟨hg st .refl, by simp at hl; omega, ht x (by simp) st _ .refl fun st'' h'' => ?_⟩
    refine comp_map f xs (acc ++ [f x]) st'' (fun st' h => hg st' (h''.trans h)) (fun y hy st' K h => ht y (by simp [hy]) st' K (h''.trans h)) (by simp at hl ⊢; omega) fun st' h => ?_
    simpa using hR st' (h''.trans h)
mutual
theorem pureS_of {st : Store} : ∀ d : D, pureD d = true → pureS st d = true
  | .non, _ => rfl
  | .bl _, _ => rfl
  | .int _, _ => rfl
  | .str _, _ => rfl
  | .tup ds, h => by simp only [pureD] at h; simp only [pureS]; exact pureSs_of ds h
  | .ref _, h => by simp [pureD] at h
  | .mdic _ _, h => by simp [pureD] at h
  | .mlst _, h => by simp [pureD] at h
theorem pureSs_of {st : Store} : ∀ ds : List D, pureDs ds = true → pureSs st ds = true
  | [], _ => rfl
  | d :: ds, h => by
    simp only [pureDs, Bool.and_eq_true] at h
    simp only [pureSs, Bool.and_eq_true]
    exact ⟨pureS_of d h.1, pureSs_of ds h.2⟩
end
theorem plain.s {d : D} (h : plain d) {st : Store} : plainS st d := ⟨pureS_of d h.1, h.2⟩
theorem plains.s {ds : List D} (h : plains ds) {st : Store} : plainSs st ds := ⟨pureSs_of ds h.1, h.2⟩
theorem plain_str {x : List Nat} : plain (.str x) := ⟨rfl, Nat.zero_le _⟩
theorem plain_int {i : Int} : plain (.int i) := ⟨rfl, Nat.zero_le _⟩
theorem plain_bl {b : Bool} : plain (.bl b) := ⟨rfl, Nat.zero_le _⟩
theorem plain_non : plain .non := ⟨rfl, Nat.zero_le _⟩
theorem plainS_str {x : List Nat} {st : Store} : plainS st (.str x) := plain_str.s
theorem plainS_int {i : Int} {st : Store} : plainS st (.int i) := plain_int.s
theorem plainS_bl {b : Bool} {st : Store} : plainS st (.bl b) := plain_bl.s
theorem plainS_non {st : Store} : plainS st .non := plain_non.s
theorem plains_strs : ∀ xs : List (List Nat), plains (xs.map .str)
  | [] => ⟨rfl, Nat.zero_le _⟩
  | x :: xs => by
    have h := plains_strs xs
    exact ⟨by simp only [List.map_cons, pureDs, pureD, Bool.true_and]; exact h.1, by simp only [List.map_cons, depDs, depD]; exact Nat.max_le.mpr ⟨Nat.zero_le _, h.2⟩⟩
theorem eqS_str {st : Store} {x y : List Nat} : eqS st (.str x) (.str y) = (x == y) := id rfl
theorem eqS_int {st : Store} {x y : Int} : eqS st (.int x) (.int y) = (x == y) := id rfl
theorem eqS_bl {st : Store} {x y : Bool} : eqS st (.bl x) (.bl y) = (x == y) := id rfl
theorem eqD_str {x y : List Nat} : eqD (.str x) (.str y) = (x == y) := id rfl
theorem any_strs {st : Store} (x : List Nat) : ∀ xs : List (List Nat), ((xs.map D.str).any fun d => eqS st d (.str x)) = xs.contains x
  | [] => rfl
  | y :: xs => by
    simp only [List.map_cons, List.any_cons, eqS_str, any_strs x xs, List.contains_cons]
    congr 1
    exact Bool.beq_comm
end L3
end
section
namespace L3
open PySem PySem.Spec PyProof.Rows L2
noncomputable def clsAt (K : PySem.W.Frag) (c : List Nat) (C : Addr) : Prop := PySem.W.nsIn K mainGlobals ⟨c.toArray⟩ = some (some (.ref C))
end L3
end
section
namespace L3
open PySem PySem.Spec PyProof.Rows L2
noncomputable def FrzL (K : PySem.W.Frag) (H : Hp) (a : Addr) (vs : List V) : Prop :=
  (∃ o, H a = some (.frz o (.lst vs))) ∨ ∃ (o : Obj) (its : Array Value) (n : Nat), K.lookup a = some o ∧ o.cls = .type "list" ∧ o.dict = none ∧ o.data = .seq its n ∧ its.size ≤ sizeLine ∧ Vals vs its.toList
theorem FrzL.sq {K : PySem.W.Frag} {H : Hp} {a : Addr} {vs : List V} : FrzL K H a vs → SqL K H a vs
  | .inl ⟨o, h⟩ => .inl (.inr ⟨o, h⟩)
  | .inr h => .inr h
noncomputable def flatD : PyData → D
  | .bool b => .bl b
  | .int i => .int i
  | .str x => .str x.cps.toList
  | _ => .non
noncomputable def simpleD : PyData → Bool
  | .none => true
  | .bool _ => true
  | .int _ => true
  | .str _ => true
  | _ => false
noncomputable def MTab (K : PySem.W.Frag) (a : Addr) (ks vs : List D) : Prop := ∃ T : List (Str × PyData), KTD.tabLook KTD.flatLooks (fun b => K.lookup b) a T = true ∧ (T.all fun p => simpleD p.2) = true ∧ ks = T.map (fun p => .str p.1.cps.toList) ∧ vs = T.map (fun p => flatD p.2)
mutual
inductive Rep (K : PySem.W.Frag) (H : Hp) : D → V → Prop where
  | non : Rep K H .non .non
  | bl (b : Bool) : Rep K H (.bl b) (.bl b)
  | int (i : Int) : Rep K H (.int i) (.int i)
  | str (x : List Nat) : Rep K H (.str x) (.str ⟨x.toArray⟩)
  | tup {ds : List D} {a : Addr} {vs : List V} (h : SqT K H a vs) (r : Reps K H ds vs) : Rep K H (.tup ds) (.ref a)
  | ref (a : Addr) : Rep K H (.ref a) (.ref a)
  | mlst {ds : List D} {a : Addr} {vs : List V} (h : FrzL K H a vs) (r : Reps K H ds vs) : Rep K H (.mlst ds) (.ref a)
  | mdic {ks vs : List D} {a : Addr} (h : MTab K a ks vs) : Rep K H (.mdic ks vs) (.ref a)
inductive Reps (K : PySem.W.Frag) (H : Hp) : List D → List V → Prop where
  | nil : Reps K H [] []
  | cons {d : D} {v : V} {ds : List D} {vs : List V} (h : Rep K H d v) (r : Reps K H ds vs) : Reps K H (d :: ds) (v :: vs)
end
noncomputable def bears : HO → Bool
  | .lst _ => true
  | .ins _ _ _ => true
  | .ext _ => true
  | _ => false
noncomputable def ObjR (K : PySem.W.Frag) (H : Hp) (a : Addr) : MO → Prop
  | .lst ds => ∃ vs, H a = some (.lst vs) ∧ Reps K H ds vs
noncomputable def StOk (K : PySem.W.Frag) (st : Store) (H : Hp) : Prop := ∀ a o, st a = some o → ObjR K H a o
noncomputable def Step (H : Hp) (st : Store) (H' : Hp) (st' : Store) : Prop := ∀ a o, H a = some o → st a = none → H' a = some o ∧ st' a = none
theorem Step.refl {H : Hp} {st : Store} : Step H st H st := fun o' o' h n => ⟨h, n⟩
theorem Step.trans {H H1 H2 : Hp} {st st1 st2 : Store} (a : Step H st H1 st1) (b : Step H1 st1 H2 st2) : Step H st H2 st2 := fun x o h n => let ⟨h1, n1⟩ := a x o h n; b x o h1 n1
section
variable {K : PySem.W.Frag} {H H' H1 : Hp} {st st' st1 : Store} {a p : Addr} {d : D} {v : V} {ds : List D} {vs : List V}
theorem ObjR.bears {m : MO} (h : ObjR K H a m) : ∃ o, H a = some o ∧ L3.bears o = true := by
  cases m with
  | lst ds => obtain ⟨vs, q, _⟩ := h; exact ⟨_, q, rfl⟩
theorem StOk.noneOf (ok : StOk K st H) {o : HO} (h : H a = some o) (n : L3.bears o = false) : st a = none := by
  cases e : st a with
  | none => rfl
  | some u =>
    obtain ⟨o', e1, e2⟩ := (ok a u e).bears
    rw [h] at e1; cases e1
    rw [n] at e2; cases e2
theorem StOk.fresh (ok : StOk K st H) (h : H a = none) : st a = none := by
  cases e : st a with
  | none => rfl
  | some u =>
    obtain ⟨o', e1, e2⟩ := (ok a u e).bears
    rw [h] at e1; cases e1
theorem sqT_step (ok : StOk K st H) (s : Step H st H' st') (h : SqT K H a vs) : SqT K H' a vs := by
  rcases h with (h | ⟨o, h⟩) | h
  · exact .inl (.inl (s a _ h (ok.noneOf h rfl)).1)
  · exact .inl (.inr ⟨o, (s a _ h (ok.noneOf h rfl)).1⟩)
  · exact .inr h
theorem frzL_step (ok : StOk K st H) (s : Step H st H' st') (h : FrzL K H a vs) : FrzL K H' a vs := by
  rcases h with ⟨o, h⟩ | h
  · exact .inl ⟨o, (s a _ h (ok.noneOf h rfl)).1⟩
  · exact .inr h
theorem Rep.step (ok : StOk K st H) (s : Step H st H' st') {d : D} {v : V} (r : Rep K H d v) : Rep K H' d v :=
  Rep.rec (motive_1 := fun d v o' => Rep K H' d v) (motive_2 := fun ds vs o' => Reps K H' ds vs) .non (fun b => .bl b) (fun i => .int i) (fun x => .str x) (fun h o' ih => .tup (sqT_step ok s h) ih) (fun a => .ref a) (fun h o' ih => .mlst (frzL_step ok s h) ih) (fun h => .mdic h) .nil (fun o' o' i1 i2 => .cons i1 i2) r
theorem Reps.step (ok : StOk K st H) (s : Step H st H' st') {ds : List D} {vs : List V} (r : Reps K H ds vs) : Reps K H' ds vs :=
  Reps.rec (motive_1 := fun d v o' => Rep K H' d v) (motive_2 := fun ds vs o' => Reps K H' ds vs) .non (fun b => .bl b) (fun i => .int i) (fun x => .str x) (fun h o' ih => .tup (sqT_step ok s h) ih) (fun a => .ref a) (fun h o' ih => .mlst (frzL_step ok s h) ih) (fun h => .mdic h) .nil (fun o' o' i1 i2 => .cons i1 i2) r
theorem ObjR.step (ok : StOk K st H) (s : Step H st H' st') {m : MO} (h : ObjR K H a m) (e : H' a = H a) : ObjR K H' a m := by
  cases m with
  | lst ds => obtain ⟨vs, q, r⟩ := h; exact ⟨vs, e.trans q, r.step ok s⟩
theorem Reps.length : ∀ {ds : List D} {vs : List V}, Reps K H ds vs → ds.length = vs.length := by
  intro ds
  induction ds with
  | nil => intro vs r; cases r; rfl
  | cons d ds ih => intro vs r; cases r with | cons h r => exact congrArg Nat.succ (ih r)
theorem Reps.get : ∀ {ds : List D} {vs : List V} {i : Nat} {d : D}, Reps K H ds vs → ds[i]? = some d → ∃ v, vs[i]? = some v ∧ Rep K H d v
  | _, _, _, _, .nil, e => by simp at e
  | _, _, 0, _, .cons h _, e => by simp at e; subst e; exact ⟨_, rfl, h⟩
  | _, _, i + 1, d, .cons _ r, e => by
    obtain ⟨v, e1, e2⟩ := Reps.get (i := i) (d := d) r (by simpa using e)
    exact ⟨v, by simpa using e1, e2⟩
theorem Reps.append : ∀ {ds es : List D} {vs us : List V}, Reps K H ds vs → Reps K H es us → Reps K H (ds ++ es) (vs ++ us) := by
  intro ds
  induction ds with
  | nil => intro es vs us r s; cases r; exact s
  | cons d ds ih => intro es vs us r s; cases r with | cons h r => exact .cons h (ih r s)
theorem Reps.take : ∀ {ds : List D} {vs : List V} (n : Nat), Reps K H ds vs → Reps K H (ds.take n) (vs.take n)
  | _, _, 0, _ => by simp; exact .nil
  | _, _, _ + 1, .nil => by simp; exact .nil
  | _, _, n + 1, .cons h r => by simp only [List.take_succ_cons]; exact .cons h (Reps.take n r)
theorem Reps.drop : ∀ {ds : List D} {vs : List V} (n : Nat), Reps K H ds vs → Reps K H (ds.drop n) (vs.drop n)
  | _, _, 0, r => by simpa using r
  | _, _, _ + 1, .nil => by simp; exact .nil
  | _, _, n + 1, .cons _ r => by simp only [List.drop_succ_cons]; exact Reps.drop n r
theorem Reps.set (h : Rep K H d v) : ∀ {ds : List D} {vs : List V} (i : Nat), Reps K H ds vs → Reps K H (ds.set i d) (vs.set i v)
  | _, _, _, .nil => by simp; exact .nil
  | _, _, 0, .cons _ r => by simp only [List.set_cons_zero]; exact .cons h r
  | _, _, i + 1, .cons q r => by simp only [List.set_cons_succ]; exact .cons q (Reps.set h i r)
theorem Reps.dropLast {ds : List D} {vs : List V} (r : Reps K H ds vs) : Reps K H ds.dropLast vs.dropLast := by
  rw [List.dropLast_eq_take, List.dropLast_eq_take, r.length]
  exact r.take _
theorem Reps.reverse : ∀ {ds : List D} {vs : List V}, Reps K H ds vs → Reps K H ds.reverse vs.reverse
  | _, _, .nil => by simp; exact .nil
  | _, _, .cons h r => by simp only [List.reverse_cons]; exact (Reps.reverse r).append (.cons h .nil)
inductive QD (K : PySem.W.Frag) (H : Hp) (st : Store) (R : VK) (v : V) (H' : Hp) : Prop where
  | mk (d : D) (st' : Store) (s : Step H st H' st') (ok : StOk K st' H') (r : Rep K H' d v) (q : R d st') : QD K H st R v H'
inductive QDs (K : PySem.W.Frag) (H : Hp) (st : Store) (R : List D → Store → Prop) (vs : List V) (H' : Hp) : Prop where
  | mk (ds : List D) (st' : Store) (s : Step H st H' st') (ok : StOk K st' H') (r : Reps K H' ds vs) (q : R ds st') : QDs K H st R vs H'
inductive QX (K : PySem.W.Frag) (H : Hp) (st : Store) (R : Store → Prop) (H' : Hp) : Prop where
  | mk (st' : Store) (s : Step H st H' st') (ok : StOk K st' H') (q : R st') : QX K H st R H'
theorem QD.here {R : VK} (ok : StOk K st H) (r : Rep K H d v) (h : R d st) : QD K H st R v H := ⟨d, st, .refl, ok, r, h⟩
theorem QD.after {R : VK} (s : Step H st H1 st1) (h : QD K H1 st1 R v H') : QD K H st R v H' := let ⟨d, st', s', ok, r, q⟩ := h; ⟨d, st', s.trans s', ok, r, q⟩
theorem step_new {o : HO} (hp : H p = none) : Step H st (upd H p o) st := fun a u h n => by
  have e : a ≠ p := fun e => by rw [e, hp] at h; cases h
  exact ⟨by rw [upd_ne e]; exact h, n⟩
theorem step_newL {o : HO} {m : MO} (hp : H p = none) : Step H st (upd H p o) (put st p m) := fun a u h n => by
  have e : a ≠ p := fun e => by rw [e, hp] at h; cases h
  exact ⟨by rw [upd_ne e]; exact h, by rw [put_ne e]; exact n⟩
theorem StOk.new {o : HO} (ok : StOk K st H) (hp : H p = none) : StOk K st (upd H p o) := fun a u e => by
  have ne : a ≠ p := fun z => by obtain ⟨o', q, _⟩ := (ok a u e).bears; rw [z, hp] at q; cases q
  exact (ok a u e).step ok (step_new (st := st) hp) (upd_ne ne)
theorem StOk.newL (ok : StOk K st H) (hp : H p = none) (r : Reps K H ds vs) : StOk K (put st p (.lst ds)) (upd H p (.lst vs)) := fun a u e => by
  have s : Step H st (upd H p (.lst vs)) (put st p (.lst ds)) := step_newL hp
  by_cases ha : a = p
  · subst ha
    rw [put_same] at e; cases e
    exact ⟨vs, upd_same, r.step ok s⟩
  · rw [put_ne ha] at e
    exact (ok a u e).step ok s (upd_ne ha)
theorem QD.newT {R : VK} (ok : StOk K st H) (r : Reps K H ds vs) (hp : H p = none) (h : R (.tup ds) st) : QD K H st R (.ref p) (upd H p (.tup vs)) :=
  ⟨.tup ds, st, step_new hp, ok.new hp, .tup (SqT.of upd_same) (r.step ok (step_new (st := st) hp)), h⟩
theorem QD.newL {R : VK} (ok : StOk K st H) (r : Reps K H ds vs) (hp : H p = none) (h : ∀ p, st p = none → R (.ref p) (put st p (.lst ds))) : QD K H st R (.ref p) (upd H p (.lst vs)) :=
  ⟨.ref p, put st p (.lst ds), step_newL hp, ok.newL hp r, .ref p, h p (ok.fresh hp)⟩
theorem StOk.lst (ok : StOk K st H) (h : st a = some (.lst ds)) : ∃ vs, H a = some (.lst vs) ∧ Reps K H ds vs := ok a _ h
theorem step_set {o : HO} {m m' : MO} (h : st a = some m) : Step H st (upd H a o) (put st a m') := fun b u hb n => by
  have e : b ≠ a := fun e => by rw [e, h] at n; cases n
  exact ⟨by rw [upd_ne e]; exact hb, by rw [put_ne e]; exact n⟩
theorem StOk.set (ok : StOk K st H) {m : MO} (h : st a = some m) (r : Reps K H ds vs) : StOk K (put st a (.lst ds)) (upd H a (.lst vs)) := fun b u e => by
  have s : Step H st (upd H a (.lst vs)) (put st a (.lst ds)) := step_set h
  by_cases ha : b = a
  · subst ha
    rw [put_same] at e; cases e
    exact ⟨vs, upd_same, r.step ok s⟩
  · rw [put_ne ha] at e
    exact (ok b u e).step ok s (upd_ne ha)
theorem QD.set {R : VK} (ok : StOk K st H) {m : MO} (h : st a = some m) (r : Reps K H ds vs) (rd : Rep K H d v) (q : R d (put st a (.lst ds))) : QD K H st R v (upd H a (.lst vs)) :=
  ⟨d, put st a (.lst ds), step_set h, ok.set h r, rd.step ok (step_set (m' := .lst ds) h), q⟩
end
noncomputable def SRel (K : PySem.W.Frag) (H : Hp) (σd : St) (σ : L2.St) : Prop := σd.length = σ.length ∧ ∀ (i : Nat) (d : D), σd[i]? = some (some d) → ∃ v, σ[i]? = some (some v) ∧ Rep K H d v
theorem SRel.step {K : PySem.W.Frag} {H H' : Hp} {st st' : Store} {σd : St} {σ : L2.St} (r : SRel K H σd σ) (ok : StOk K st H) (s : Step H st H' st') : SRel K H' σd σ :=
  ⟨r.1, fun i d e => let ⟨v, e1, e2⟩ := r.2 i d e; ⟨v, e1, e2.step ok s⟩⟩
theorem SRel.set {K : PySem.W.Frag} {H : Hp} {σd : St} {σ : L2.St} {d : D} {v : V} (r : SRel K H σd σ) (i : Nat) (h : Rep K H d v) : SRel K H (σd.set i (some d)) (σ.set i (some v)) := by
  refine ⟨by simpa using r.1, fun j e hj => ?_⟩
  by_cases q : j = i
  · subst q
    by_cases hl : j < σd.length
    · rw [List.getElem?_set_self hl] at hj
      cases hj
      exact ⟨v, by rw [List.getElem?_set_self (by rw [← r.1]; exact hl)], h⟩
    · rw [List.getElem?_eq_none (by simp; omega)] at hj; cases hj
  · rw [List.getElem?_set_ne (Ne.symm q)] at hj
    obtain ⟨u, e1, e2⟩ := r.2 j e hj
    exact ⟨u, by rw [List.getElem?_set_ne (Ne.symm q)]; exact e1, e2⟩
noncomputable abbrev TEd := St → Store → VK → Prop
inductive tOf (K : PySem.W.Frag) (te : TEd) (σ : L2.St) (H : Hp) (Q : L2.VK) : Prop where
  | mk (σd : St) (st : Store) (R : VK) (r : SRel K H σd σ) (ok : StOk K st H) (q : te σd st R) (hq : ∀ v H', QD K H st R v H' → Q v H') : tOf K te σ H Q
inductive taOf (K : PySem.W.Frag) (te : St → Store → (List D → Store → Prop) → Prop) (σ : L2.St) (H : Hp) (Q : List V → Hp → Prop) : Prop where
  | mk (σd : St) (st : Store) (R : List D → Store → Prop) (r : SRel K H σd σ) (ok : StOk K st H) (q : te σd st R) (hq : ∀ vs H', QDs K H st R vs H' → Q vs H') : taOf K te σ H Q
inductive ttOf (K : PySem.W.Frag) (te : TEd) (σ : L2.St) (H : Hp) (Q : Bool → Hp → Prop) : Prop where
  | mk (σd : St) (st : Store) (R : Bool → Store → Prop) (r : SRel K H σd σ) (ok : StOk K st H) (q : te σd st (fun d st' => truW d st' fun b => R b st')) (hq : ∀ (b : Bool) H', QX K H st (R b) H' → Q b H') : ttOf K te σ H Q
theorem _root_.L2.PE.imp {X : Cx} {e : Expr} {t t' : L2.TE} (i : ∀ σ H Q, t' σ H Q → t σ H Q) (h : PE X e t) : PE X e t' := fun pins s σ H Q I q => h pins s σ H Q I (i σ H Q q)
theorem _root_.L2.PT.imp {X : Cx} {e : Expr} {t t' : L2.TT} (i : ∀ σ H Q, t' σ H Q → t σ H Q) (h : PT X e t) : PT X e t' := fun pins s σ H Q I q => h pins s σ H Q I (i σ H Q q)
theorem _root_.L2.PW.imp {X : Cx} {e : Expr} {t t' : L2.TT} (i : ∀ σ H Q, t' σ H Q → t σ H Q) (h : PW X e t) : PW X e t' := fun wh pins s σ H Q I q => h wh pins s σ H Q I (i σ H Q q)
theorem _root_.L2.PA.imp {X : Cx} {es : List Expr} {t t' : L2.TA} (i : ∀ σ H Q, t' σ H Q → t σ H Q) (h : PA X es t) : PA X es t' := fun pos pins s σ H Q I q => h pos pins s σ H Q I (i σ H Q q)
theorem _root_.L2.PS.imp {X : Cx} {e : Stmt} {t t' : L2.TS} (i : ∀ D σ H, t' D σ H → t D σ H) (h : PS X e t) : PS X e t' := fun pins s σ H D I q => h pins s σ H D I (i D σ H q)
theorem _root_.L2.PSs.imp {X : Cx} {e : List Stmt} {t t' : L2.TS} (i : ∀ D σ H, t' D σ H → t D σ H) (h : PSs X e t) : PSs X e t' := fun pins s σ H D I q => h pins s σ H D I (i D σ H q)
end L3
end
section
namespace L3
open PySem PySem.Spec PyProof.Rows L2
theorem line_eq : sizeLine = LINE := sizeLine_eq
section
variable {X : Cx} {C : CallT} {sub : Nat → Nat → Bool} {E : XK} {a b c e : Expr} {x y z : Ex} {pos : Pos}
theorem j_const {d : D} {v : V} (h : PE X e (tC v)) (r : ∀ H, Rep X.K H d v) : PE X e (tOf X.K (wpE C sub E (.c d))) :=
  h.imp fun σ H Q ⟨σd, st, R, _, ok, q, hq⟩ => by
    exact hq v H (.here ok (r H) q)
set_option tactic.hygienic true in
theorem j_var {i : Nat} (h : PE X e (tVar i)) : PE X e (tOf X.K (wpE C sub E (.v i))) :=
  h.imp fun σ H Q ⟨σd, st, R, r, ok, q, hq⟩ => by
    have q : getV σd i (fun d => R d st) := q
    unfold getV at q
    split at q
    · rename_i d ed
      obtain ⟨v, e1, e2⟩ := r.2 i d ed
      exact ⟨v, e1, hq v H (.here ok e2 q)⟩
    · exact q.elim
theorem j_nil : PA X [] (taOf X.K (wpEs C sub E [])) :=
  pa_nil.imp fun σ H Q ⟨σd, st, R, r, ok, q, hq⟩ => by
    exact hq [] H ⟨[], st, .refl, ok, .nil, q⟩
theorem j_cons {es : List Expr} {xs : List Ex} (h : PE X e (tOf X.K (wpE C sub E x))) (hs : PA X es (taOf X.K (wpEs C sub E xs)))
    (hst : starEach (e :: es) X.env = (false, eval e X.env) :: starEach es X.env) : PA X (e :: es) (taOf X.K (wpEs C sub E (x :: xs))) :=
  (pa_cons h hs hst).imp fun σ H Q ⟨σd, st, R, r, ok, q, hq⟩ => by
    refine ⟨σd, st, _, r, ok, q, fun v H1 ⟨d, st1, s1, ok1, r1, q1⟩ => ?_⟩
    refine ⟨σd, st1, _, r.step ok s1, ok1, q1, fun vs H2 ⟨ds, st2, s2, ok2, r2, q2⟩ => ?_⟩
    exact hq _ _ ⟨d :: ds, st2, s1.trans s2, ok2, .cons (r1.step ok1 s2) r2, q2⟩
theorem wpEs_len : ∀ (xs : List Ex) {σ : St} {st : Store} {R : List D → Store → Prop}, CMono C C → wpEs C sub E xs σ st R → wpEs C sub E xs σ st (fun ds st' => ds.length = xs.length ∧ R ds st')
  | [], σ, st, R, _, h => by exact ⟨rfl, h⟩
  | x :: xs, σ, st, R, hC, h => by
    refine wpE_mono hC (fun o' o' z => z) x (fun d st' h' => ?_) h
    exact wpEs_mono hC (fun o' o' z => z) xs (fun ds st'' z => ⟨by simp [z.1], z.2⟩) (wpEs_len xs hC h')
theorem j_tup {es : List Expr} {xs : List Ex} {k : Nat} (hC : CMono C C) (hs : PA X es (taOf X.K (wpEs C sub E xs))) (hl : xs.length ≤ LINE) : PE X (.Tuple es k pos) (tOf X.K (wpE C sub E (.tup xs))) :=
  (pe_tup hs).imp fun σ H Q ⟨σd, st, R, r, ok, q, hq⟩ => by
    refine ⟨σd, st, _, r, ok, wpEs_len xs hC q, fun vs H1 ⟨ds, st1, s1, ok1, r1, l1, q1⟩ => ⟨?_, fun p hp => ?_⟩⟩
    · rw [line_eq, ← r1.length, l1]; exact hl
    · exact hq _ _ (.after s1 (.newT ok1 r1 hp q1))
theorem j_lst {es : List Expr} {xs : List Ex} (hs : PA X es (taOf X.K (wpEs C sub E xs))) : PE X (.List es pos) (tOf X.K (wpE C sub E (.lst xs))) :=
  (pe_lst hs).imp fun σ H Q ⟨σd, st, R, r, ok, q, hq⟩ => by
    refine ⟨σd, st, _, r, ok, q, fun vs H1 ⟨ds, st1, s1, ok1, r1, q1⟩ => ⟨?_, fun p hp => ?_⟩⟩
    · rw [line_eq, ← r1.length]; exact q1.1
    · exact hq _ _ (.after s1 (.newL ok1 r1 hp q1.2))
theorem two {r : R2} {te tf : TEd} {σ : L2.St} {H : Hp} {Q : L2.VK} {σd : St} {st : Store} {W : D → D → Store → Prop} {R : VK}
    (sr : SRel X.K H σd σ) (ok : StOk X.K st H) (q : te σd st fun d st1 => tf σd st1 fun d' st2 => W d d' st2) (hq : ∀ v H', QD X.K H st R v H' → Q v H')
    (op : ∀ d d' v v' H2 st2, StOk X.K st2 H2 → Rep X.K H2 d v → Rep X.K H2 d' v' → W d d' st2 → r v v' H2 (QD X.K H2 st2 R))
    (mono : ∀ v v' H (Q Q' : L2.VK), (∀ v H, Q v H → Q' v H) → r v v' H Q → r v v' H Q') : tOp r (tOf X.K te) (tOf X.K tf) σ H Q := by
  refine ⟨σd, st, _, sr, ok, q, fun v H1 ⟨d, st1, s1, ok1, r1, q1⟩ => ?_⟩
  refine ⟨σd, st1, _, sr.step ok s1, ok1, q1, fun v' H2 ⟨d', st2, s2, ok2, r2, q2⟩ => ?_⟩
  refine mono _ _ _ _ _ (fun u H' z => hq u H' (.after (s1.trans s2) z)) (op d d' v v' H2 st2 ok2 (r1.step ok1 s2) r2 q2)
theorem rI0_mono {g : Int → Int → V} (v v' : V) (H : Hp) (Q Q' : L2.VK) (h : ∀ v H, Q v H → Q' v H) (z : rI0 g v v' H Q) : rI0 g v v' H Q' := let ⟨i, j, e, e', q⟩ := z; ⟨i, j, e, e', h _ _ q⟩
theorem rI_mono {P : Int → Int → Prop} {g : Int → Int → V} (v v' : V) (H : Hp) (Q Q' : L2.VK) (h : ∀ v H, Q v H → Q' v H) (z : rI P g v v' H Q) : rI P g v v' H Q' := let ⟨i, j, e, e', p, q⟩ := z; ⟨i, j, e, e', p, h _ _ q⟩
end
end L3
end
section
namespace L3
open PySem PySem.Spec PyProof.Rows L2
section
variable {prog : Program} {w : World} {A : Around} {E : Value → Shared → Prop} {s : Shared}
end
end L3
end
section
namespace L3
open PySem PySem.Spec PyProof.Rows L2
section
variable {X : Cx}
theorem cat_nil {prog : Program} {w : World} {A : Around} {E : Value → Shared → Prop} {s : Shared} {t b : Addr} {ws : List Value} {Q : Value → Shared → Prop} (ht : IsTup s.heap t #[]) (hb : IsTup s.heap b ws.toArray)
    (h : Q (.ref b) s) : wpAny (model prog w) A (binaryOp .Add (.ref t) (.ref b)) Q E s := by
  obtain ⟨⟨cls, dd, data, sl⟩, ho, hc, n, hd⟩ := id ht
  obtain ⟨⟨cls2, dd2, data2, sl2⟩, ho2, hc2, n2, hd2⟩ := id hb
  simp only at hc hd hc2 hd2
  subst hc hd hc2 hd2
  exact concat_meets ⟨_, ho, rfl⟩ ⟨_, ho2, rfl⟩ noFill_tuple_add seq_tuple_add PySem.F.slot_tuple_add PySem.F.entry_tuple_add (PySem.F.args_tuple_add_2 _ _)
    (tuple_addW0 t b #[] ws.toArray n n2 dd dd2 sl sl2 (by simp)) ⟨ho, ho2, h⟩
noncomputable def rNilT (K : PySem.W.Frag) : R2 := fun x y H Q => ∃ a b ys, x = .ref a ∧ y = .ref b ∧ SqT K H a [] ∧ SqT K H b ys ∧ Q (.ref b) H
theorem op_nilT : OpR X (binaryOp .Add) (rNilT X.K) := by
  intro pins s σ H x y v u Q I rx ry h
  obtain ⟨a, b, ys, rfl, rfl, ha, hb, q⟩ := h
  cases rx
  cases ry
  obtain ⟨its, r1, p1, _⟩ := I.tuple ha
  obtain ⟨its2, r2, p2, _⟩ := I.tuple hb
  have e : its = [] := r1.nil_iff.mpr rfl
  subst e
  exact cat_nil p1 p2 ⟨.ref b, H, I, rfl, q⟩
noncomputable def rStr2 : R2 := fun x y H Q => ∃ i j, x = .str i ∧ y = .str j ∧ i.length + j.length ≤ sizeLine ∧ Q (.str (i ++ j)) H
noncomputable abbrev rAddA (K : PySem.W.Frag) : R2 := fun x y H Q => rI0 (fun i j => .int (i + j)) x y H Q ∨ rStr2 x y H Q ∨ rCatT K x y H Q ∨ rNilT K x y H Q ∨ rCat x y H Q
theorem op_addA : OpR X (binaryOp .Add) (rAddA X.K) := OpR.or op_add (OpR.or op_add_str (OpR.or op_catT (OpR.or op_nilT op_cat)))
noncomputable def bop : BOp → Operator
  | .add => .Add | .sub => .Sub | .mul => .Mult | .fdiv => .FloorDiv | .mod => .Mod | .pow => .Pow
noncomputable def rBin (K : PySem.W.Frag) : BOp → R2
  | .add => rAddA K
  | .sub => rI0 fun i j => .int (i - j)
  | .mul => rI CMul fun i j => .int (i * j)
  | .fdiv => rI CDiv fun i j => .int (i / j)
  | .mod => rI (fun o' j => 0 < j) fun i j => .int (i % j)
  | .pow => rI CPow fun i j => .int (i ^ j.toNat)
theorem op_bin : ∀ op : BOp, OpR X (binaryOp (bop op)) (rBin X.K op)
  | .add => op_addA
  | .sub => op_sub
  | .mul => op_mul
  | .fdiv => op_fdiv
  | .mod => op_mod
  | .pow => op_pow
theorem rBin_mono {K : PySem.W.Frag} : ∀ (op : BOp) (v v' : V) (H : Hp) (Q Q' : L2.VK), (∀ v H, Q v H → Q' v H) → rBin K op v v' H Q → rBin K op v v' H Q'
  | .add, v, v', H, Q, Q', h, z => by
    rcases z with z | ⟨i, j, e, e', l, q⟩ | ⟨a, b, xs, ys, e, e', s, s', n, l, q, q'⟩ | ⟨a, b, ys, e, e', s, s', q⟩ | ⟨l, b, xs, zs, e, e', s, s', n, q⟩
    · exact .inl (rI0_mono _ _ _ _ _ h z)
    · exact .inr (.inl ⟨i, j, e, e', l, h _ _ q⟩)
    · exact .inr (.inr (.inl ⟨a, b, xs, ys, e, e', s, s', n, l, fun z => h _ _ (q z), fun z p hp => h _ _ (q' z p hp)⟩))
    · exact .inr (.inr (.inr (.inl ⟨a, b, ys, e, e', s, s', h _ _ q⟩)))
    · exact .inr (.inr (.inr (.inr ⟨l, b, xs, zs, e, e', s, s', n, fun p hp => h _ _ (q p hp)⟩)))
  | .sub, v, v', H, Q, Q', h, z => rI0_mono _ _ _ _ _ h z
  | .mul, v, v', H, Q, Q', h, z => rI_mono _ _ _ _ _ h z
  | .fdiv, v, v', H, Q, Q', h, z => rI_mono _ _ _ _ _ h z
  | .mod, v, v', H, Q, Q', h, z => rI_mono _ _ _ _ _ h z
  | .pow, v, v', H, Q, Q', h, z => rI_mono _ _ _ _ _ h z
end
section
variable {K : PySem.W.Frag} {H : Hp} {st : Store} {R : VK}
theorem Rep.int_inv {i : Int} {v : V} (r : Rep K H (.int i) v) : v = .int i := by cases r; rfl
theorem Rep.str_inv {x : List Nat} {v : V} (r : Rep K H (.str x) v) : v = .str ⟨x.toArray⟩ := by cases r; rfl
theorem Rep.bl_inv {b : Bool} {v : V} (r : Rep K H (.bl b) v) : v = .bl b := by cases r; rfl
theorem Rep.non_inv {v : V} (r : Rep K H .non v) : v = .non := by cases r; rfl
theorem Rep.ref_inv {a : Addr} {v : V} (r : Rep K H (.ref a) v) : v = .ref a := by cases r; rfl
theorem Rep.tup_inv {ds : List D} {v : V} (r : Rep K H (.tup ds) v) : ∃ a vs, v = .ref a ∧ SqT K H a vs ∧ Reps K H ds vs := by cases r with | tup h r => exact ⟨_, _, rfl, h, r⟩
theorem Rep.mdic_inv {ks vs : List D} {v : V} (r : Rep K H (.mdic ks vs) v) : ∃ a, v = .ref a ∧ MTab K a ks vs := by cases r with | mdic h => exact ⟨_, rfl, h⟩
theorem Rep.mlst_inv {ds : List D} {v : V} (r : Rep K H (.mlst ds) v) : ∃ a vs, v = .ref a ∧ FrzL K H a vs ∧ Reps K H ds vs := by cases r with | mlst h r => exact ⟨_, _, rfl, h, r⟩
set_option tactic.hygienic true in
theorem lstAt_inv {a : Nat} {P : List D → Prop} (h : lstAt st a P) : ∃ ds, st a = some (.lst ds) ∧ P ds := by
  unfold lstAt at h
  split at h
  · rename_i ds e; exact ⟨ds, e, h⟩
  · exact h.elim
set_option tactic.hygienic true in
theorem seqAt_inv {a : Nat} {P : List D → Prop} {M : List D → List D → Prop} (ok : StOk K st H) (h : seqAt st a P M) : ∃ ds, st a = some (.lst ds) ∧ P ds := by
  unfold seqAt at h
  split at h
  · rename_i ds e; exact ⟨ds, e, h⟩
  · exact h.elim
theorem optK_inv {α : Type} {o : Option α} {P : α → Prop} (h : optK o P) : ∃ x, o = some x ∧ P x := by
  unfold optK at h
  split at h
  · exact ⟨_, rfl, h⟩
  · exact h.elim
theorem lsq_inv {d : D} {st : Store} {R : List D → Prop} (h : lsqW d st R) : ∃ p ds, d = .ref p ∧ st p = some (.lst ds) ∧ R ds := by
  cases d with
  | ref a => obtain ⟨ds, e, q⟩ := lstAt_inv (show lstAt st a R from h); exact ⟨a, ds, rfl, e, q⟩
  | _ => exact False.elim h
theorem str_app (x y : List Nat) : (⟨x.toArray⟩ : Str) ++ ⟨y.toArray⟩ = ⟨(x ++ y).toArray⟩ := by
  show Str.mk _ = Str.mk _
  simp
theorem Reps.nil_inv {vs : List V} (r : Reps K H [] vs) : vs = [] := by cases r; rfl
theorem Reps.flat {ds : List D} {vs : List V} (r : Reps K H ds vs) : ∀ k : Nat, Reps K H (List.replicate k ds).flatten (List.replicate k vs).flatten
  | 0 => .nil
  | k + 1 => by simp only [List.replicate_succ, List.flatten_cons]; exact r.append (Reps.flat r k)
set_option tactic.hygienic true in
theorem bin_sound {op : BOp} {d d' : D} {v v' : V} (ok : StOk K st H) (r : Rep K H d v) (r' : Rep K H d' v') (h : binW op d d' st R) : rBin K op v v' H (QD K H st R) := by
  cases op with
  | add =>
    change addW d d' st R at h
    unfold addW at h
    split at h
    · cases r.int_inv; cases r'.int_inv
      exact .inl ⟨_, _, rfl, rfl, .here ok (.int _) h⟩
    · rename_i a b
      cases r.str_inv; cases r'.str_inv
      refine .inr (.inl ⟨_, _, rfl, rfl, ?_, ?_⟩)
      · rw [line_eq]; simpa [Str.length] using h.1
      · rw [str_app]; exact .here ok (.str _) h.2
    · rename_i ds es
      obtain ⟨a, vs, rfl, s1, q1⟩ := r.tup_inv
      obtain ⟨b, us, rfl, s2, q2⟩ := r'.tup_inv
      cases ds with
      | nil =>
        cases q1.nil_inv
        exact .inr (.inr (.inr (.inl ⟨a, b, us, rfl, rfl, s1, s2, .here ok r' (by simpa using h.2)⟩)))
      | cons d ds =>
        refine .inr (.inr (.inl ⟨a, b, vs, us, rfl, rfl, s1, s2, ?_, ?_, fun e => ?_, fun o' p hp => .newT ok (q1.append q2) hp h.2⟩))
        · intro e; subst e; cases q1
        · rw [line_eq, ← q1.length, ← q2.length]; exact h.1
        · subst e
          cases q2
          exact .here ok r (by simpa using h.2)
    · rename_i a b
      cases r.ref_inv; cases r'.ref_inv
      obtain ⟨xs, e1, h⟩ := lstAt_inv h
      obtain ⟨ys, e2, h⟩ := lstAt_inv h
      obtain ⟨vs, g1, q1⟩ := ok.lst e1
      obtain ⟨us, g2, q2⟩ := ok.lst e2
      refine .inr (.inr (.inr (.inr ⟨a, b, vs, us, rfl, rfl, g1, g2, ?_, fun p hp => .newL ok (q1.append q2) hp h.2⟩)))
      rw [line_eq, ← q1.length, ← q2.length]; simpa using h.1
    · exact h.elim
  | sub =>
    obtain ⟨i, j, rfl, rfl, h⟩ := iiW_inv h
    cases r.int_inv; cases r'.int_inv
    exact ⟨_, _, rfl, rfl, .here ok (.int _) h⟩
  | mul =>
    obtain ⟨i, j, rfl, rfl, h⟩ := iiW_inv h
    cases r.int_inv; cases r'.int_inv
    exact ⟨_, _, rfl, rfl, h.1.imp (fun z => z) (fun z => z), .here ok (.int _) h.2⟩
  | fdiv =>
    obtain ⟨i, j, rfl, rfl, h⟩ := iiW_inv h
    cases r.int_inv; cases r'.int_inv
    exact ⟨_, _, rfl, rfl, h.1, .here ok (.int _) h.2⟩
  | mod =>
    obtain ⟨i, j, rfl, rfl, h⟩ := iiW_inv h
    cases r.int_inv; cases r'.int_inv
    exact ⟨_, _, rfl, rfl, h.1, .here ok (.int _) h.2⟩
  | pow =>
    obtain ⟨i, j, rfl, rfl, h⟩ := iiW_inv h
    cases r.int_inv; cases r'.int_inv
    exact ⟨_, _, rfl, rfl, h.1, .here ok (.int _) h.2⟩
end
section
variable {X : Cx} {C : CallT} {sub : Nat → Nat → Bool} {E : XK} {a b c e : Expr} {x y z : Ex} {pos : Pos}
theorem j_bin {op : BOp} (ha : PE X a (tOf X.K (wpE C sub E x))) (hb : PE X b (tOf X.K (wpE C sub E y))) : PE X (.BinOp a (bop op) b pos) (tOf X.K (wpE C sub E (.bin op x y))) :=
  (pe_op (op_bin op) ha hb).imp fun σ H Q ⟨σd, st, R, r, ok, q, hq⟩ => by
    exact two (W := fun d d' st2 => binW op d d' st2 R) r ok q hq (fun d d' v v' H2 st2 ok2 r1 r2 h => bin_sound ok2 r1 r2 h) (rBin_mono op)
noncomputable def truO (d : D) (st : Store) : Option Bool := match d with
  | .non => some false
  | .bl b => some b
  | .int i => some (i != 0)
  | .str x => if x.length ≤ LINE then some (!x.isEmpty) else none
  | .tup ds => some (!ds.isEmpty)
  | .ref a => match st a with
    | some (.lst ds) => some (!ds.isEmpty)
    | none => none
  | .mlst ds => some (!ds.isEmpty)
  | _ => none
set_option tactic.hygienic true in
theorem truW_iff {d : D} {st : Store} {P : Bool → Prop} : truW d st P ↔ ∃ k, truO d st = some k ∧ P k := by
  cases d with
  | str x =>
    show (x.length ≤ LINE ∧ P (!x.isEmpty)) ↔ ∃ k, (if x.length ≤ LINE then some (!x.isEmpty) else none) = some k ∧ P k
    split
    · rename_i h; exact ⟨fun z => ⟨_, rfl, z.2⟩, fun ⟨k, e, q⟩ => ⟨h, by cases e; exact q⟩⟩
    · rename_i h; exact ⟨fun z => (h z.1).elim, fun ⟨k, e, q⟩ => by cases e⟩
  | ref a =>
    show seqAt st a _ (fun o' o' => False) ↔ ∃ k, (match st a with | some (.lst ds) => some (!ds.isEmpty) | none => none) = some k ∧ P k
    unfold seqAt
    cases st a with
    | none => exact ⟨fun z => z.elim, fun ⟨k, e, q⟩ => by cases e⟩
    | some o => cases o with
      | lst ds => exact ⟨fun z => ⟨_, rfl, z⟩, fun ⟨k, e, q⟩ => by cases e; exact q⟩
  | mdic _ _ => exact ⟨fun z => z.elim, fun ⟨k, e, q⟩ => by cases e⟩
  | _ => exact ⟨fun z => ⟨_, rfl, z⟩, fun ⟨k, e, q⟩ => by cases e; exact q⟩
theorem isEmpty_len {α : Type} (x : List α) : (!x.isEmpty) = (((x.length : Nat) : Int) != 0) := by
  cases x with
  | nil => rfl
  | cons a r =>
    simp only [List.isEmpty_cons, Bool.not_false, List.length_cons]
    symm
    rw [bne_iff_ne]; omega
set_option tactic.hygienic true in
theorem tru_sound {K : PySem.W.Frag} {H : Hp} {st : Store} {d : D} {v : V} {P : Bool → Prop} (ok : StOk K st H) (r : Rep K H d v) (h : truW d st P) : ∃ k, TruV K v H k ∧ P k := by
  unfold truW at h
  split at h
  · cases r.non_inv; exact ⟨_, rfl, h⟩
  · cases r.bl_inv; exact ⟨_, rfl, h⟩
  · cases r.int_inv; exact ⟨_, rfl, h⟩
  · rename_i x P
    cases r.str_inv
    refine ⟨_, ⟨by rw [line_eq]; simpa [Str.length] using h.1, ?_⟩, h.2⟩
    rw [isEmpty_len]; simp [Str.length]
  · obtain ⟨a, vs, rfl, s1, q1⟩ := r.tup_inv
    refine ⟨_, .inr (.inl ⟨vs, s1, ?_⟩), h⟩
    rw [isEmpty_len, isEmpty_len, q1.length]
  · cases r.ref_inv
    obtain ⟨ds, e, h⟩ := seqAt_inv ok h
    obtain ⟨vs, g, q⟩ := ok.lst e
    refine ⟨_, .inl ⟨vs, SqL.of g, ?_⟩, h⟩
    rw [isEmpty_len, isEmpty_len, q.length]
  · obtain ⟨a, vs, rfl, s1, q1⟩ := r.mlst_inv
    refine ⟨_, .inl ⟨vs, s1.sq, ?_⟩, h⟩
    rw [isEmpty_len, isEmpty_len, q1.length]
  · exact h.elim
theorem jt_plain (h : PE X e (tOf X.K (wpE C sub E x))) (he : ∀ whole, isTrue e X.env whole = (do let v ← whole; standAt e.pos; holding [v] (truthy v))) : PT X e (ttOf X.K (wpE C sub E x)) :=
  (pt_truth h he).imp fun σ H Q ⟨σd, st, R, r, ok, q, hq⟩ => by
    refine ⟨σd, st, _, r, ok, q, fun v H1 ⟨d, st1, s1, ok1, r1, q1⟩ => ?_⟩
    obtain ⟨k, t, z⟩ := tru_sound ok1 r1 q1
    exact ⟨k, t, hq _ _ ⟨st1, s1, ok1, z⟩⟩
theorem jt_not (h : PT X e (ttOf X.K (wpE C sub E x))) : PT X (.UnaryOp .Not e pos) (ttOf X.K (wpE C sub E (.not_ x))) :=
  (pt_not h).imp fun σ H Q ⟨σd, st, R, r, ok, q, hq⟩ => by
    exact ⟨σd, st, fun b st' => R (!b) st', r, ok, q, fun b H1 z => hq _ _ z⟩
theorem j_not (h : PE X e (tOf X.K (wpE C sub E x))) : PE X (.UnaryOp .Not e pos) (tOf X.K (wpE C sub E (.not_ x))) := by
  intro pins s σ H Q I ⟨σd, st, R, r, ok, q, hq⟩
  refine UnaryOp_ (thn (h pins s σ H _ I ⟨σd, st, _, r, ok, q, fun v H' z => z⟩) fun u s1 ⟨v, H1, I1, rv, d, st1, st1s, ok1, r1, q1⟩ => ?_)
  obtain ⟨k, t, z⟩ := tru_sound ok1 r1 q1
  exact not_of (thn (tru_ok pins s1 σ H1 v u (fun b H' => Q (.bl (!b)) H') I1 rv ⟨k, t, hq _ _ (.after st1s (.here ok1 (.bl _) z))⟩) fun b s2 ⟨H2, I2, w⟩ => ⟨.bl (!b), H2, I2, rfl, w⟩)
theorem jw_one {op : BoolOp} (h : PT X e (ttOf X.K (wpE C sub E x))) : PW X (.BoolOp op [e] pos) (ttOf X.K (wpE C sub E x)) := by
  cases op
  · exact pw_and1 h
  · exact pw_or1 h
theorem jw_and {rest : List Expr} (hC : CMono C C) (ha : PT X a (ttOf X.K (wpE C sub E x))) (hb : PW X (.BoolOp .And (b :: rest) pos) (ttOf X.K (wpE C sub E y))) : PW X (.BoolOp .And (a :: b :: rest) pos) (ttOf X.K (wpE C sub E (.and_ x y))) :=
  (pw_and ha hb).imp fun σ H Q ⟨σd, st, R, r, ok, q, hq⟩ => by
    refine ⟨σd, st, fun k st1 => if k = true then wpE C sub E y σd st1 (fun d st' => truW d st' fun b => R b st') else R false st1, r, ok, wpE_mono hC (fun o' o' z => z) x (fun d st1 z => ?_) q, fun k H1 ⟨st1, s1, ok1, z⟩ => ?_⟩
    · rw [truW_iff] at z ⊢
      obtain ⟨k, t, z⟩ := z
      refine ⟨k, t, ?_⟩
      cases k with
      | true => exact z
      | false =>
        have z' : truW d st1 fun b => R b st1 := z
        rw [truW_iff] at z'
        obtain ⟨k', t', z'⟩ := z'
        rw [t] at t'; cases t'
        exact z'
    · cases k with
      | true => exact ⟨σd, st1, R, r.step ok s1, ok1, z, fun k H2 ⟨st2, s2, ok2, w⟩ => hq _ _ ⟨st2, s1.trans s2, ok2, w⟩⟩
      | false => exact hq _ _ ⟨st1, s1, ok1, z⟩
theorem jw_or {rest : List Expr} (hC : CMono C C) (ha : PT X a (ttOf X.K (wpE C sub E x))) (hb : PW X (.BoolOp .Or (b :: rest) pos) (ttOf X.K (wpE C sub E y))) : PW X (.BoolOp .Or (a :: b :: rest) pos) (ttOf X.K (wpE C sub E (.or_ x y))) :=
  (pw_or ha hb).imp fun σ H Q ⟨σd, st, R, r, ok, q, hq⟩ => by
    refine ⟨σd, st, fun k st1 => if k = true then R true st1 else wpE C sub E y σd st1 (fun d st' => truW d st' fun b => R b st'), r, ok, wpE_mono hC (fun o' o' z => z) x (fun d st1 z => ?_) q, fun k H1 ⟨st1, s1, ok1, z⟩ => ?_⟩
    · rw [truW_iff] at z ⊢
      obtain ⟨k, t, z⟩ := z
      refine ⟨k, t, ?_⟩
      cases k with
      | false => exact z
      | true =>
        have z' : truW d st1 fun b => R b st1 := z
        rw [truW_iff] at z'
        obtain ⟨k', t', z'⟩ := z'
        rw [t] at t'; cases t'
        exact z'
    · cases k with
      | false => exact ⟨σd, st1, R, r.step ok s1, ok1, z, fun k H2 ⟨st2, s2, ok2, w⟩ => hq _ _ ⟨st2, s1.trans s2, ok2, w⟩⟩
      | true => exact hq _ _ ⟨st1, s1, ok1, z⟩
theorem j_and {rest : List Expr} (ha : PE X a (tOf X.K (wpE C sub E x))) (hb : PE X (.BoolOp .And (b :: rest) pos) (tOf X.K (wpE C sub E y))) : PE X (.BoolOp .And (a :: b :: rest) pos) (tOf X.K (wpE C sub E (.and_ x y))) := by
  intro pins s σ H Q I ⟨σd, st, R, r, ok, q, hq⟩
  refine BoolOp_and (thn (ha pins s σ H _ I ⟨σd, st, _, r, ok, q, fun v H' z => z⟩) fun u s1 ⟨v, H1, I1, rv, d, st1, st1s, ok1, r1, q1⟩ => ?_)
  obtain ⟨k, t, z⟩ := tru_sound ok1 r1 q1
  refine thn (tru_ok pins s1 σ H1 v u (fun b H' => b = k ∧ H' = H1) I1 rv ⟨k, t, rfl, rfl⟩) fun b s2 ⟨H2, I2, e, e'⟩ => ?_
  subst e e'
  cases b with
  | true => exact hb pins s2 σ H2 Q I2 ⟨σd, st1, R, r.step ok st1s, ok1, z, fun v H' w => hq _ _ (.after st1s w)⟩
  | false => exact ⟨v, H2, I2, rv, hq _ _ (.after st1s (.here ok1 r1 z))⟩
theorem j_one {op : BoolOp} (h : PE X e (tOf X.K (wpE C sub E x))) : PE X (.BoolOp op [e] pos) (tOf X.K (wpE C sub E x)) := pe_one h
end
end L3
end
section
namespace L3
open PySem PySem.Spec PyProof.Rows L2 PySem.SeqAt
mutual
theorem eqD_refl : ∀ d : D, pureD d = true → eqD d d = true
  | .non, _ => rfl
  | .bl b, _ => beq_self_eq_true b
  | .int i, _ => beq_self_eq_true i
  | .str x, _ => beq_self_eq_true x
  | .tup ds, h => eqDs_refl ds h
  | .ref _, h => by simp [pureD] at h
  | .mdic _ _, h => by simp [pureD] at h
  | .mlst _, h => by simp [pureD] at h
theorem eqDs_refl : ∀ ds : List D, pureDs ds = true → eqDs ds ds = true
  | [], _ => rfl
  | d :: ds, h => by
    simp only [pureDs, Bool.and_eq_true] at h
    simp only [eqDs, Bool.and_eq_true]
    exact ⟨eqD_refl d h.1, eqDs_refl ds h.2⟩
end
theorem pureDs_mem : ∀ {ds : List D} {d : D}, pureDs ds = true → d ∈ ds → pureD d = true
  | e :: ds, d, h, m => by
    simp only [pureDs, Bool.and_eq_true] at h
    rcases List.mem_cons.mp m with rfl | m
    · exact h.1
    · exact pureDs_mem h.2 m
theorem depDs_mem : ∀ {ds : List D} {d : D}, d ∈ ds → depD d ≤ depDs ds
  | e :: ds, d, m => by
    simp only [depDs]
    rcases List.mem_cons.mp m with rfl | m
    · omega
    · have := depDs_mem m; omega
theorem eqDs_all : ∀ {ds es : List D} (e : Nat → Bool), (∀ j d d', ds[j]? = some d → es[j]? = some d' → e j = eqD d d') → ((List.range (min ds.length es.length)).all e && ds.length == es.length) = eqDs ds es
  | [], [], e, h => by simp [eqDs]
  | [], _ :: _, e, h => by simp [eqDs]
  | _ :: _, [], e, h => by simp [eqDs]
  | d :: ds, d' :: es, e, h => by
    have ih := eqDs_all (fun j => e (j + 1)) fun j x x' e1 e2 => h (j + 1) x x' (by simpa using e1) (by simpa using e2)
    have h0 := h 0 d d' rfl rfl
    simp only [eqDs, List.length_cons, Nat.add_min_add_right, List.range_succ_eq_map, List.all_cons, List.all_map, Function.comp_def]
    rw [← ih, h0]
    have hl : (ds.length + 1 == es.length + 1) = (ds.length == es.length) := by simp
    rw [hl, Bool.and_assoc]
theorem eqDs_all' {ds es : List D} (e : Nat → Bool) (hl : ds.length = es.length) (h : ∀ j d d', ds[j]? = some d → es[j]? = some d' → e j = eqD d d') : (List.range ds.length).all e = eqDs ds es := by
  rw [← eqDs_all e h, ← hl]; simp
theorem eqDs_len : ∀ {ds es : List D}, ds.length ≠ es.length → eqDs ds es = false
  | [], [], h => (h rfl).elim
  | [], _ :: _, h => rfl
  | _ :: _, [], h => rfl
  | d :: ds, d' :: es, h => by simp only [eqDs, eqDs_len (ds := ds) (es := es) (by simpa using h), Bool.and_false]
section
variable {X : Cx} {pins : List (Addr × Obj)} {σ : L2.St} {H : Hp} {s : Shared} {st : Store}
theorem Vals.at {vs : List V} {its : List Value} (r : Vals vs its) {j : Nat} (h : j < its.toArray.size) : ∃ v, vs[j]? = some v ∧ RelV v its.toArray[j] := by
  have hl := r.length
  have hj : j < vs.length := by simp at h; omega
  obtain ⟨u, e1, e2⟩ := Vals.get r (List.getElem?_eq_getElem hj)
  refine ⟨vs[j], List.getElem?_eq_getElem hj, ?_⟩
  rw [List.getElem?_eq_some_iff] at e1
  obtain ⟨h1, e1⟩ := e1
  simp only [List.getElem_toArray, e1]
  exact e2
theorem Reps.get' {K : PySem.W.Frag} : ∀ {ds : List D} {vs : List V} {i : Nat} {v : V}, Reps K H ds vs → vs[i]? = some v → ∃ d, ds[i]? = some d ∧ Rep K H d v
  | _, _, _, _, .nil, e => by simp at e
  | _, _, 0, _, .cons h _, e => by simp at e; subst e; exact ⟨_, rfl, h⟩
  | _, _, i + 1, v, .cons _ r, e => by
    obtain ⟨d, e1, e2⟩ := Reps.get' (i := i) (v := v) r (by simpa using e)
    exact ⟨d, by simpa using e1, e2⟩
noncomputable def scalD : D → Bool
  | .non => true
  | .bl _ => true
  | .int _ => true
  | .str _ => true
  | _ => false
noncomputable def svD : D → V
  | .bl b => .bl b
  | .int i => .int i
  | .str x => .str ⟨x.toArray⟩
  | _ => .non
theorem Rep.scal {K : PySem.W.Frag} {H : Hp} {d : D} {v : V} (p : scalD d = true) (r : Rep K H d v) : v = svD d := by
  cases r <;> first | rfl | cases p
theorem sv_inj {d d' : D} (p : scalD d = true) (p' : scalD d' = true) (e : svD d = svD d') : d = d' := by
  cases d <;> first | (cases p; done) | (cases d' <;> first | (cases p'; done) | (cases e; done) | (cases e; rfl))
theorem sv_ref {d : D} {a : Addr} (p : scalD d = true) (e : svD d = .ref a) : False := by
  cases d <;> first | (cases p; done) | cases e
theorem pureK {d : D} (p : pureD d = true) : scalD d = true ∨ ∃ ds, d = .tup ds := by
  cases d <;> first | exact .inl rfl | exact .inr ⟨_, rfl⟩ | cases p
theorem rep_inj (I : Inv X pins σ H s) : ∀ (n : Nat) {d d' : D} {v : V}, depD d ≤ n → pureD d = true → pureD d' = true → Rep X.K H d v → Rep X.K H d' v → d = d' := by
  have key : ∀ {d d' : D} {v : V}, (∀ ds ds' vs, d = .tup ds → pureDs ds' = true → Reps X.K H ds vs → Reps X.K H ds' vs → ds = ds') → pureD d = true → pureD d' = true → Rep X.K H d v → Rep X.K H d' v → d = d' := by
    intro d d' v ht p p' r r'
    rcases pureK p with q | ⟨ds, rfl⟩
    · rcases pureK p' with q' | ⟨ds', rfl⟩
      · exact sv_inj q q' ((r.scal q).symm.trans (r'.scal q'))
      · obtain ⟨a, vs, e, _⟩ := r'.tup_inv
        exact (sv_ref q ((r.scal q).symm.trans e)).elim
    · obtain ⟨a, vs, rfl, h, g⟩ := r.tup_inv
      rcases pureK p' with q' | ⟨ds', rfl⟩
      · exact (sv_ref q' (r'.scal q').symm).elim
      · obtain ⟨b, us, e, h', g'⟩ := r'.tup_inv
        cases e
        cases I.tuple_inj h h'
        rw [ht ds ds' vs rfl p' g g']
  intro n
  induction n with
  | zero =>
    intro d d' v hn p p' r r'
    exact key (fun ds ds' vs e o' o' o' => by subst e; exact absurd hn (Nat.not_succ_le_zero _)) p p' r r'
  | succ n ih =>
    intro d d' v hn p p' r r'
    have go : ∀ (ds es : List D) (vs : List V), depDs ds ≤ n → pureDs ds = true → pureDs es = true → Reps X.K H ds vs → Reps X.K H es vs → ds = es := by
      clear hn p p' r r'
      intro ds
      induction ds with
      | nil => intro es vs _ _ _ r r'; cases r; cases r'; rfl
      | cons d ds ihs =>
        intro es vs hd pp pp' r r'
        cases r with
        | cons r1 r2 => cases r' with
          | cons r1' r2' =>
            simp only [pureDs, Bool.and_eq_true] at pp pp'
            rw [ih (Nat.le_trans (Nat.le_max_left _ _) hd) pp.1 pp'.1 r1 r1', ihs _ _ (Nat.le_trans (Nat.le_max_right _ _) hd) pp.2 pp'.2 r2 r2']
    exact key (fun ds ds' vs e q' g g' => by subst e; exact go ds ds' vs (Nat.le_of_succ_le_succ hn) p q' g g') p p' r r'
noncomputable def Eq3 (A : Around) (s : Shared) (u u' : Value) (b : Bool) : Prop := RcAt A s u u' b ∧ EqAt A s u u' b ∧ RcNeAt A s u u' (!b)
theorem strBeq (x y : List Nat) : ((⟨x.toArray⟩ : Str) == ⟨y.toArray⟩) = (x == y) := by
  rw [← str_beq]
theorem eq3_scal {K : PySem.W.Frag} {H : Hp} {A : Around} {s : Shared} {d d' : D} {v v' : V} {u u' : Value} (p : scalD d = true) (p' : scalD d' = true) (r : Rep K H d v) (rv : RelV v u) (r' : Rep K H d' v') (rv' : RelV v' u') : Eq3 A s u u' (eqD d d') := by
  cases d with
  | non => cases d' with
    | non =>
      cases r.non_inv; cases rv
      cases r'.non_inv; cases rv'
      exact ⟨RcAt.none_none, EqAt.same _, RcNeAt.none_none⟩
    | bl b' =>
      cases r.non_inv; cases rv
      cases r'.bl_inv; cases rv'
      exact ⟨RcAt.none_bool _, EqAt.none_bool _, RcNeAt.none_bool _⟩
    | int i' =>
      cases r.non_inv; cases rv
      cases r'.int_inv; obtain ⟨_, rfl⟩ := rv'
      exact ⟨RcAt.none_int _ _, EqAt.none_int _ _, RcNeAt.none_int _ _⟩
    | str x' =>
      cases r.non_inv; cases rv
      cases r'.str_inv; obtain ⟨_, rfl⟩ := rv'
      exact ⟨RcAt.none_str _ _, EqAt.none_str _ _, RcNeAt.none_str _ _⟩
    | _ => cases p'
  | bl b => cases d' with
    | non =>
      cases r.bl_inv; cases rv
      cases r'.non_inv; cases rv'
      exact ⟨RcAt.bool_none _, EqAt.bool_none _, RcNeAt.bool_none _⟩
    | bl b' =>
      cases r.bl_inv; cases rv
      cases r'.bl_inv; cases rv'
      exact ⟨RcAt.bool_bool _ _, EqAt.bool_bool _ _, RcNeAt.bool_bool _ _⟩
    | int i' =>
      cases r.bl_inv; cases rv
      cases r'.int_inv; obtain ⟨_, rfl⟩ := rv'
      exact ⟨RcAt.bool_int _ _ _, EqAt.bool_int _ _ _, RcNeAt.bool_int _ _ _⟩
    | str x' =>
      cases r.bl_inv; cases rv
      cases r'.str_inv; obtain ⟨_, rfl⟩ := rv'
      exact ⟨RcAt.bool_str _ _ _, EqAt.bool_str _ _ _, RcNeAt.bool_str _ _ _⟩
    | _ => cases p'
  | int i => cases d' with
    | non =>
      cases r.int_inv; obtain ⟨_, rfl⟩ := rv
      cases r'.non_inv; cases rv'
      exact ⟨RcAt.int_none _ _, EqAt.int_none _ _, RcNeAt.int_none _ _⟩
    | bl b' =>
      cases r.int_inv; obtain ⟨_, rfl⟩ := rv
      cases r'.bl_inv; cases rv'
      exact ⟨RcAt.int_bool _ _ _, EqAt.int_bool _ _ _, RcNeAt.int_bool _ _ _⟩
    | int i' =>
      cases r.int_inv; obtain ⟨_, rfl⟩ := rv
      cases r'.int_inv; obtain ⟨_, rfl⟩ := rv'
      exact ⟨RcAt.int_int _ _ _ _, EqAt.int_int _ _ _ _, RcNeAt.int_int _ _ _ _⟩
    | str x' =>
      cases r.int_inv; obtain ⟨_, rfl⟩ := rv
      cases r'.str_inv; obtain ⟨_, rfl⟩ := rv'
      exact ⟨RcAt.int_str _ _ _ _, EqAt.int_str _ _ _ _, RcNeAt.int_str _ _ _ _⟩
    | _ => cases p'
  | str x => cases d' with
    | non =>
      cases r.str_inv; obtain ⟨_, rfl⟩ := rv
      cases r'.non_inv; cases rv'
      exact ⟨RcAt.str_none _ _, EqAt.str_none _ _, RcNeAt.str_none _ _⟩
    | bl b' =>
      cases r.str_inv; obtain ⟨_, rfl⟩ := rv
      cases r'.bl_inv; cases rv'
      exact ⟨RcAt.str_bool _ _ _, EqAt.str_bool _ _ _, RcNeAt.str_bool _ _ _⟩
    | int i' =>
      cases r.str_inv; obtain ⟨_, rfl⟩ := rv
      cases r'.int_inv; obtain ⟨_, rfl⟩ := rv'
      exact ⟨RcAt.str_int _ _ _ _, EqAt.str_int _ _ _ _, RcNeAt.str_int _ _ _ _⟩
    | str x' =>
      cases r.str_inv; obtain ⟨_, rfl⟩ := rv
      cases r'.str_inv; obtain ⟨_, rfl⟩ := rv'
      have e : eqD (.str x) (.str x') = ((⟨x.toArray⟩ : Str) == ⟨x'.toArray⟩) := by rw [strBeq]; rfl
      rw [e]
      exact ⟨RcAt.str_str _ _ _ _, EqAt.str_str _ _ _ _, RcNeAt.str_str _ _ _ _⟩
    | _ => cases p'
  | _ => cases p
theorem eq3_tuple_scal {K : PySem.W.Frag} {H : Hp} {A : Around} {s : Shared} {l : Addr} {its : Array Value} {d' : D} {v' : V} {u' : Value} (hl : s.heap.IsTuple l its) (hu : A.units < cLine) (p' : scalD d' = true) (r' : Rep K H d' v') (rv' : RelV v' u') : Eq3 A s (.ref l) u' false ∧ Eq3 A s u' (.ref l) false := by
  cases d' with
  | non =>
    cases r'.non_inv; cases rv'
    exact ⟨⟨RcAt.tuple_none hl hu, EqAt.tuple_none hl hu, RcNeAt.tuple_none hl hu⟩, ⟨RcAt.none_tuple hl hu, EqAt.none_tuple hl hu, RcNeAt.none_tuple hl hu⟩⟩
  | bl b =>
    cases r'.bl_inv; cases rv'
    exact ⟨⟨RcAt.tuple_bool _ hl hu, EqAt.tuple_bool _ hl hu, RcNeAt.tuple_bool _ hl hu⟩, ⟨RcAt.bool_tuple _ hl hu, EqAt.bool_tuple _ hl hu, RcNeAt.bool_tuple _ hl hu⟩⟩
  | int i =>
    cases r'.int_inv; obtain ⟨_, rfl⟩ := rv'
    exact ⟨⟨RcAt.tuple_int _ _ hl hu, EqAt.tuple_int _ _ hl hu, RcNeAt.tuple_int _ _ hl hu⟩, ⟨RcAt.int_tuple _ _ hl hu, EqAt.int_tuple _ _ hl hu, RcNeAt.int_tuple _ _ hl hu⟩⟩
  | str x =>
    cases r'.str_inv; obtain ⟨_, rfl⟩ := rv'
    exact ⟨⟨RcAt.tuple_str _ _ hl hu, EqAt.tuple_str _ _ hl hu, RcNeAt.tuple_str _ _ hl hu⟩, ⟨RcAt.str_tuple _ _ hl hu, EqAt.str_tuple _ _ hl hu, RcNeAt.str_tuple _ _ hl hu⟩⟩
  | _ => cases p'
theorem eq3_list_scal {K : PySem.W.Frag} {H : Hp} {A : Around} {s : Shared} {l : Addr} {its : Array Value} {d' : D} {v' : V} {u' : Value} (hl : s.heap.IsList l its) (hu : A.units < cLine) (p' : scalD d' = true) (r' : Rep K H d' v') (rv' : RelV v' u') : Eq3 A s (.ref l) u' false ∧ Eq3 A s u' (.ref l) false := by
  cases d' with
  | non =>
    cases r'.non_inv; cases rv'
    exact ⟨⟨RcAt.list_none hl hu, EqAt.list_none hl hu, RcNeAt.list_none hl hu⟩, ⟨RcAt.none_list hl hu, EqAt.none_list hl hu, RcNeAt.none_list hl hu⟩⟩
  | bl b =>
    cases r'.bl_inv; cases rv'
    exact ⟨⟨RcAt.list_bool _ hl hu, EqAt.list_bool _ hl hu, RcNeAt.list_bool _ hl hu⟩, ⟨RcAt.bool_list _ hl hu, EqAt.bool_list _ hl hu, RcNeAt.bool_list _ hl hu⟩⟩
  | int i =>
    cases r'.int_inv; obtain ⟨_, rfl⟩ := rv'
    exact ⟨⟨RcAt.list_int _ _ hl hu, EqAt.list_int _ _ hl hu, RcNeAt.list_int _ _ hl hu⟩, ⟨RcAt.int_list _ _ hl hu, EqAt.int_list _ _ hl hu, RcNeAt.int_list _ _ hl hu⟩⟩
  | str x =>
    cases r'.str_inv; obtain ⟨_, rfl⟩ := rv'
    exact ⟨⟨RcAt.list_str _ _ hl hu, EqAt.list_str _ _ hl hu, RcNeAt.list_str _ _ hl hu⟩, ⟨RcAt.str_list _ _ hl hu, EqAt.str_list _ _ hl hu, RcNeAt.str_list _ _ hl hu⟩⟩
  | _ => cases p'
theorem eq3_tups (I : Inv X pins σ H s) {A : Around} {a b : Addr} {vs us : List V} {b0 : Bool} (e : Nat → Bool) (ha : SqT X.K H a vs) (hb : SqT X.K H b us) (hu : A.units < cLine) (hs : a = b → b0 = true)
    (he : ∀ j v v' u u', vs[j]? = some v → us[j]? = some v' → RelV v u → RelV v' u' → EqAt A.in1 s u u' (e j)) (hb0 : ((List.range (min vs.length us.length)).all e && vs.length == us.length) = b0) : Eq3 A s (.ref a) (.ref b) b0 := by
  obtain ⟨its, r1, p1, _⟩ := I.tuple ha
  obtain ⟨jts, r2, p2, _⟩ := I.tuple hb
  have l1 : its.toArray.size = vs.length := by rw [List.size_toArray]; exact r1.length.symm
  have l2 : jts.toArray.size = us.length := by rw [List.size_toArray]; exact r2.length.symm
  have hi : ∀ j (h1 : j < its.toArray.size) (h2 : j < jts.toArray.size), EqAt A.in1 s its.toArray[j] jts.toArray[j] (e j) := fun j h1 h2 => by
    obtain ⟨v, e1, q1⟩ := Vals.at r1 h1
    obtain ⟨v', e2, q2⟩ := Vals.at r2 h2
    exact he j v v' _ _ e1 e2 q1 q2
  have rc : RcAt A s (.ref a) (.ref b) b0 := by
    have := RcAt.tuples (e := e) p1 p2 hu hi
    rw [l1, l2, hb0] at this
    exact this
  have rn : RcNeAt A s (.ref a) (.ref b) (!b0) := by
    have := RcNeAt.tuples (e := e) p1 p2 hu hi
    rw [l1, l2, hb0] at this
    exact this
  refine ⟨rc, ?_, rn⟩
  by_cases q : a = b
  · rw [hs q, q]; exact EqAt.same _
  · exact EqAt.of_refs q rc
theorem eq3_lsts (I : Inv X pins σ H s) {A : Around} {a b : Addr} {vs us : List V} {b0 : Bool} (e : Nat → Bool) (ha : SqL X.K H a vs) (hb : SqL X.K H b us) (hu : A.units < cLine) (hs : a = b → b0 = true)
    (he : ∀ j v v' u u', vs[j]? = some v → us[j]? = some v' → RelV v u → RelV v' u' → EqAt A.in1 s u u' (e j)) (hn : vs.length ≠ us.length → b0 = false) (hb0 : vs.length = us.length → (List.range vs.length).all e = b0) : Eq3 A s (.ref a) (.ref b) b0 := by
  obtain ⟨its, r1, p1, _⟩ := I.list ha
  obtain ⟨jts, r2, p2, _⟩ := I.list hb
  have l1 : its.toArray.size = vs.length := by rw [List.size_toArray]; exact r1.length.symm
  have l2 : jts.toArray.size = us.length := by rw [List.size_toArray]; exact r2.length.symm
  have hi : ∀ j (h1 : j < its.toArray.size) (h2 : j < jts.toArray.size), EqAt A.in1 s its.toArray[j] jts.toArray[j] (e j) := fun j h1 h2 => by
    obtain ⟨v, e1, q1⟩ := Vals.at r1 h1
    obtain ⟨v', e2, q2⟩ := Vals.at r2 h2
    exact he j v v' _ _ e1 e2 q1 q2
  have both : RcAt A s (.ref a) (.ref b) b0 ∧ RcNeAt A s (.ref a) (.ref b) (!b0) := by
    by_cases hl : vs.length = us.length
    · have := RcAt.lists (e := e) p1.isList p2.isList (by rw [l1, l2, hl]) hu hi
      have rn := RcNeAt.lists (e := e) p1.isList p2.isList (by rw [l1, l2, hl]) hu hi
      rw [l1, hb0 hl] at this rn
      exact ⟨this, rn⟩
    · rw [hn hl]
      have hz : (its.toArray.size != jts.toArray.size) = true := by rw [l1, l2, bne_iff_ne]; exact hl
      exact ⟨RcAt.lists_lengths p1.isList p2.isList hz hu, RcNeAt.lists_lengths p1.isList p2.isList hz hu⟩
  refine ⟨both.1, ?_, both.2⟩
  by_cases q : a = b
  · rw [hs q, q]; exact EqAt.same _
  · exact EqAt.of_refs q both.1
theorem scal_or {d : D} (p : pureD d = true) : scalD d = true ∨ ∃ ds, d = .tup ds := by
  cases d <;> first | exact .inl rfl | exact .inr ⟨_, rfl⟩ | cases p
theorem eqP (I : Inv X pins σ H s) : ∀ (n : Nat) {d d' : D} {A : Around} {v v' : V} {u u' : Value}, depD d ≤ n → pureD d = true → pureD d' = true → Rep X.K H d v → RelV v u → Rep X.K H d' v' → RelV v' u' → A.units + n + 2 < cLine →
    Eq3 A s u u' (eqD d d') := by
  intro n
  induction n with
  | zero =>
    intro d d' A v v' u u' hn p p' r rv r' rv' hu
    have hu0 : A.units < cLine := by omega
    rcases scal_or p with q | ⟨ds, rfl⟩
    · rcases scal_or p' with q' | ⟨ds', rfl⟩
      · exact eq3_scal q q' r rv r' rv'
      · obtain ⟨b, us, rfl, h2, q2⟩ := r'.tup_inv
        cases rv'
        obtain ⟨its, r1, p1, _⟩ := I.tuple h2
        have := (eq3_tuple_scal p1 hu0 q r rv).2
        have e : eqD d (.tup ds') = false := by cases d <;> first | rfl | cases q
        rw [e]; exact this
    · simp only [depD] at hn; omega
  | succ n ih =>
    intro d d' A v v' u u' hn p p' r rv r' rv' hu
    have hu0 : A.units < cLine := by omega
    rcases scal_or p with q | ⟨ds, rfl⟩
    · rcases scal_or p' with q' | ⟨ds', rfl⟩
      · exact eq3_scal q q' r rv r' rv'
      · obtain ⟨b, us, rfl, h2, q2⟩ := r'.tup_inv
        cases rv'
        obtain ⟨its, r1, p1, _⟩ := I.tuple h2
        have := (eq3_tuple_scal p1 hu0 q r rv).2
        have e : eqD d (.tup ds') = false := by cases d <;> first | rfl | cases q
        rw [e]; exact this
    · obtain ⟨a, vs, rfl, h1, q1⟩ := r.tup_inv
      cases rv
      rcases scal_or p' with q' | ⟨ds', rfl⟩
      · obtain ⟨its, r1, p1, _⟩ := I.tuple h1
        have := (eq3_tuple_scal p1 hu0 q' r' rv').1
        have e : eqD (.tup ds) d' = false := by cases d' <;> first | rfl | cases q'
        rw [e]; exact this
      · obtain ⟨b, us, rfl, h2, q2⟩ := r'.tup_inv
        cases rv'
        have pd : pureDs ds = true := by simpa [pureD] using p
        have pd' : pureDs ds' = true := by simpa [pureD] using p'
        have e0 : eqD (.tup ds) (.tup ds') = eqDs ds ds' := rfl
        rw [e0]
        refine eq3_tups I (fun j => match ds[j]?, ds'[j]? with | some x, some y => eqD x y | _, _ => true) h1 h2 hu0 (fun e => ?_) (fun j v v' u u' e1 e2 rv rv' => ?_) ?_
        · subst e
          have := rep_inj I (depD (.tup ds)) (Nat.le_refl _) p p' r r'
          cases this
          exact eqDs_refl ds pd
        · obtain ⟨x, f1, g1⟩ := Reps.get' q1 e1
          obtain ⟨y, f2, g2⟩ := Reps.get' q2 e2
          simp only [f1, f2]
          have hx := depDs_mem (List.mem_of_getElem? f1)
          simp only [depD] at hn
          exact (ih (by omega) (pureDs_mem pd (List.mem_of_getElem? f1)) (pureDs_mem pd' (List.mem_of_getElem? f2)) g1 rv g2 rv' (by simp only [Around.in1_units]; omega)).2.1
        · rw [← q1.length, ← q2.length]
          exact eqDs_all _ fun j x y e1 e2 => by simp only [e1, e2]
end
end L3
end
section
namespace L3
open PySem PySem.Spec PyProof.Rows L2 PySem.SeqAt
noncomputable def lsD (st : Store) : D → Option (List D)
  | .ref a => match st a with
    | some (.lst xs) => some xs
    | _ => none
  | .mlst xs => some xs
  | _ => none
theorem kinds {st : Store} {d : D} (p : pureS st d = true) : scalD d = true ∨ (∃ ds, d = .tup ds ∧ pureSs st ds = true) ∨ ∃ xs, lsD st d = some xs ∧ pureDs xs = true ∧ depDs xs ≤ DEEP := by
  cases d with
  | tup ds => exact .inr (.inl ⟨ds, rfl, by simpa [pureS] using p⟩)
  | ref a =>
    simp only [pureS] at p
    cases q : st a with
    | none => rw [q] at p; cases p
    | some o => cases o with
      | lst xs =>
        rw [q] at p
        simp only [okL, Bool.and_eq_true, decide_eq_true_eq] at p
        exact .inr (.inr ⟨xs, by simp [lsD, q], p⟩)
  | mlst xs =>
    simp only [pureS, Bool.and_eq_true, decide_eq_true_eq] at p
    exact .inr (.inr ⟨xs, rfl, p⟩)
  | mdic _ _ => cases p
  | _ => exact .inl rfl
set_option tactic.hygienic true in
theorem eqS_ll {st : Store} {d d' : D} {xs ys : List D} (h : lsD st d = some xs) (h' : lsD st d' = some ys) : eqS st d d' = eqDs xs ys := by
  cases d with
  | ref a =>
    simp only [lsD] at h
    split at h
    · rename_i zs e
      cases h
      cases d' with
      | ref b =>
        simp only [lsD] at h'
        split at h'
        · rename_i ws e'
          cases h'
          show eqO (st a) (st b) = _
          rw [e, e']; rfl
        · cases h'
      | mlst ws => cases h'; show eqO (st a) (some (.lst _)) = _; rw [e]; rfl
      | _ => cases h'
    · cases h
  | mlst zs =>
    cases h
    cases d' with
    | ref b =>
      simp only [lsD] at h'
      split at h'
      · rename_i ws e'
        cases h'
        show eqO (some (.lst _)) (st b) = _
        rw [e']; rfl
      · cases h'
    | mlst ws => cases h'; rfl
    | _ => cases h'
  | _ => cases h
theorem eqS_ls {st : Store} {d d' : D} {xs : List D} (h : lsD st d = some xs) (p : scalD d' = true) : eqS st d d' = false ∧ eqS st d' d = false := by
  cases d <;> first | (cases h; done) | skip
  all_goals (cases d' <;> first | (cases p; done) | exact ⟨rfl, rfl⟩)
theorem eqS_lt {st : Store} {d : D} {ds xs : List D} (h : lsD st d = some xs) : eqS st d (.tup ds) = false ∧ eqS st (.tup ds) d = false := by
  cases d <;> first | (cases h; done) | exact ⟨rfl, rfl⟩
theorem eqS_ss {st : Store} {d d' : D} (p : scalD d = true) (p' : scalD d' = true) : eqS st d d' = eqD d d' := by
  cases d <;> first | (cases p; done) | skip
  all_goals (cases d' <;> first | (cases p'; done) | rfl)
theorem eqS_st {st : Store} {d : D} {ds : List D} (p : scalD d = true) : eqS st d (.tup ds) = false ∧ eqS st (.tup ds) d = false := by
  cases d <;> first | (cases p; done) | exact ⟨rfl, rfl⟩
theorem pureSs_mem {st : Store} : ∀ {ds : List D} {d : D}, pureSs st ds = true → d ∈ ds → pureS st d = true
  | e :: ds, d, h, m => by
    simp only [pureSs, Bool.and_eq_true] at h
    rcases List.mem_cons.mp m with rfl | m
    · exact h.1
    · exact pureSs_mem h.2 m
theorem eqSs_all {st : Store} : ∀ {ds es : List D} (e : Nat → Bool), (∀ j d d', ds[j]? = some d → es[j]? = some d' → e j = eqS st d d') → ((List.range (min ds.length es.length)).all e && ds.length == es.length) = eqSs st ds es
  | [], [], e, h => by simp [eqSs]
  | [], _ :: _, e, h => by simp [eqSs]
  | _ :: _, [], e, h => by simp [eqSs]
  | d :: ds, d' :: es, e, h => by
    have ih := eqSs_all (fun j => e (j + 1)) fun j x x' e1 e2 => h (j + 1) x x' (by simpa using e1) (by simpa using e2)
    have h0 := h 0 d d' rfl rfl
    simp only [eqSs, List.length_cons, Nat.add_min_add_right, List.range_succ_eq_map, List.all_cons, List.all_map, Function.comp_def]
    rw [← ih, h0]
    have hl : (ds.length + 1 == es.length + 1) = (ds.length == es.length) := by simp
    rw [hl, Bool.and_assoc]
section
variable {X : Cx} {pins : List (Addr × Obj)} {σ : L2.St} {H : Hp} {s : Shared} {st : Store}
set_option tactic.hygienic true in
theorem ls_rep {K : PySem.W.Frag} {d : D} {v : V} {xs : List D} (ok : StOk K st H) (h : lsD st d = some xs) (r : Rep K H d v) : ∃ a vs, v = .ref a ∧ SqL K H a vs ∧ Reps K H xs vs := by
  cases r with
  | ref a =>
    simp only [lsD] at h
    split at h
    · rename_i zs e
      cases h
      obtain ⟨vs, g, q⟩ := ok.lst e
      exact ⟨a, vs, rfl, SqL.of g, q⟩
    · cases h
  | mlst f q => cases h; exact ⟨_, _, rfl, f.sq, q⟩
  | _ => cases h
theorem reps_inj (I : Inv X pins σ H s) : ∀ {ds es : List D} {vs : List V}, pureDs ds = true → pureDs es = true → Reps X.K H ds vs → Reps X.K H es vs → ds = es := by
  intro ds
  induction ds with
  | nil => intro es vs p p' r r'; cases r; cases r'; rfl
  | cons d ds ih =>
    intro es vs p p' r r'
    cases r with
    | cons h r => cases r' with
      | cons h' r' =>
        simp only [pureDs, Bool.and_eq_true] at p p'
        rw [rep_inj I _ (Nat.le_refl _) p.1 p'.1 h h', ih p.2 p'.2 r r']
theorem noTL (I : Inv X pins σ H s) {a : Addr} {vs us : List V} (h : SqL X.K H a vs) (h' : SqT X.K H a us) : False := by
  obtain ⟨its, _, p1, _⟩ := I.list h
  obtain ⟨jts, _, p2, _⟩ := I.tuple h'
  exact ne_of_list_tuple p1.isList p2 rfl
theorem no_frz {pins : List (Addr × Obj)} {s : Shared} {σ : L2.St} {H : Hp} {a : Addr} {vs us : List V} (I : Inv X pins σ H s) (h : H a = some (.lst vs)) (f : FrzL X.K H a us) : False := by
  rcases f with ⟨o, e⟩ | ⟨o, _, _, e, _⟩
  · rw [h] at e; cases e
  · have := (I.bs a o (I.ok.mod.kin a o e)).2
    rw [h] at this; cases this
set_option tactic.hygienic true in
theorem rep_injS {pins : List (Addr × Obj)} {s : Shared} {σ : L2.St} {H : Hp} {st : Store} (I : Inv X pins σ H s) (ok : StOk X.K st H) : ∀ (n : Nat) {d d' : D} {v : V}, depD d ≤ n → pureS st d = true → pureS st d' = true → Rep X.K H d v → Rep X.K H d' v → d = d' := by
  have lists : ∀ {d d' : D} {v : V} {xs ys : List D}, lsD st d = some xs → lsD st d' = some ys → pureDs xs = true → pureDs ys = true → Rep X.K H d v → Rep X.K H d' v → d = d' := by
    intro d d' v xs ys q q' p p' r r'
    cases r with
    | ref a => cases r' with
      | ref _ => rfl
      | mlst f g =>
        simp only [lsD] at q
        split at q
        · rename_i e
          obtain ⟨vs, h, _⟩ := ok.lst e
          exact (no_frz I h f).elim
        · cases q
      | _ => cases q'
    | mlst f g => cases r' with
      | ref _ =>
        simp only [lsD] at q'
        split at q'
        · rename_i e
          obtain ⟨vs, h, _⟩ := ok.lst e
          exact (no_frz I h f).elim
        · cases q'
      | mlst f' g' =>
        cases q; cases q'
        cases I.list_inj f.sq f'.sq
        rw [reps_inj I p p' g g']
      | _ => cases q'
    | _ => cases q
  have key : ∀ {d d' : D} {v : V}, (∀ ds ds' vs, d = .tup ds → pureSs st ds' = true → Reps X.K H ds vs → Reps X.K H ds' vs → ds = ds') → pureS st d = true → pureS st d' = true → Rep X.K H d v → Rep X.K H d' v → d = d' := by
    intro d d' v ht p p' r r'
    rcases kinds p with q | ⟨ds, rfl, q⟩ | ⟨xs, q, q1, q2⟩
    · have e0 := r.scal q
      rcases kinds p' with q' | ⟨ds', rfl, q'⟩ | ⟨ys, q', q1', q2'⟩
      · exact sv_inj q q' (e0.symm.trans (r'.scal q'))
      · obtain ⟨a, vs, e, _⟩ := r'.tup_inv
        exact (sv_ref q (e0.symm.trans e)).elim
      · obtain ⟨a, vs, e, _⟩ := ls_rep ok q' r'
        exact (sv_ref q (e0.symm.trans e)).elim
    · obtain ⟨a, vs, rfl, f1, g1⟩ := r.tup_inv
      rcases kinds p' with q' | ⟨ds', rfl, q'⟩ | ⟨ys, q', q1', q2'⟩
      · exact (sv_ref q' (r'.scal q').symm).elim
      · obtain ⟨b, us, e, f2, g2⟩ := r'.tup_inv
        cases e
        cases I.tuple_inj f1 f2
        rw [ht ds ds' vs rfl q' g1 g2]
      · obtain ⟨b, us, e, f2, g2⟩ := ls_rep ok q' r'
        cases e
        exact (noTL I f2 f1).elim
    · rcases kinds p' with q' | ⟨ds', rfl, q'⟩ | ⟨ys, q', q1', q2'⟩
      · obtain ⟨a, vs, e, _⟩ := ls_rep ok q r
        exact (sv_ref q' ((r'.scal q').symm.trans e)).elim
      · obtain ⟨a, vs, rfl, f1, g1⟩ := ls_rep ok q r
        obtain ⟨b, us, e, f2, g2⟩ := r'.tup_inv
        cases e
        exact (noTL I f1 f2).elim
      · exact lists q q' q1 q1' r r'
  intro n
  induction n with
  | zero =>
    intro d d' v hn p p' r r'
    exact key (fun ds ds' vs e o' o' o' => by subst e; exact absurd hn (Nat.not_succ_le_zero _)) p p' r r'
  | succ n ih =>
    intro d d' v hn p p' r r'
    have go : ∀ (ds es : List D) (vs : List V), depDs ds ≤ n → pureSs st ds = true → pureSs st es = true → Reps X.K H ds vs → Reps X.K H es vs → ds = es := by
      clear hn p p' r r'
      intro ds
      induction ds with
      | nil => intro es vs _ _ _ r r'; cases r; cases r'; rfl
      | cons d ds ihs =>
        intro es vs hd pp pp' r r'
        cases r with
        | cons r1 r2 => cases r' with
          | cons r1' r2' =>
            simp only [pureSs, Bool.and_eq_true] at pp pp'
            rw [ih (Nat.le_trans (Nat.le_max_left _ _) hd) pp.1 pp'.1 r1 r1', ihs _ _ (Nat.le_trans (Nat.le_max_right _ _) hd) pp.2 pp'.2 r2 r2']
    exact key (fun ds ds' vs e q' g g' => by subst e; exact go ds ds' vs (Nat.le_of_succ_le_succ hn) p q' g g') p p' r r'
mutual
theorem eqS_self {st : Store} : ∀ d : D, pureS st d = true → eqS st d d = true
  | .non, _ => rfl
  | .bl b, _ => beq_self_eq_true b
  | .int i, _ => beq_self_eq_true i
  | .str x, _ => beq_self_eq_true x
  | .tup ds, h => eqSs_self ds h
  | .ref a, h => by
    show eqO (st a) (st a) = true
    have h : okL (st a) = true := h
    cases e : st a with
    | none => rw [e] at h; cases h
    | some o => cases o with
      | lst ds => rw [e] at h; exact eqDs_refl ds (Bool.and_eq_true_iff.mp h).1
  | .mlst ds, h => eqDs_refl ds (Bool.and_eq_true_iff.mp h).1
  | .mdic _ _, h => (Bool.false_ne_true h).elim
theorem eqSs_self {st : Store} : ∀ ds : List D, pureSs st ds = true → eqSs st ds ds = true
  | [], _ => rfl
  | d :: ds, h => Bool.and_eq_true_iff.mpr ⟨eqS_self d (Bool.and_eq_true_iff.mp h).1, eqSs_self ds (Bool.and_eq_true_iff.mp h).2⟩
end
theorem rep_eqS (I : Inv X pins σ H s) (ok : StOk X.K st H) (n : Nat) {d d' : D} {v : V} (hn : depD d ≤ n) (p : pureS st d = true) (p' : pureS st d' = true) (r : Rep X.K H d v) (r' : Rep X.K H d' v) : eqS st d d' = true := by
  rw [← rep_injS I ok n hn p p' r r']; exact eqS_self d p
theorem eq3_list_tuple {A : Around} {l b : Addr} {its jts : Array Value} (hl : s.heap.IsList l its) (hb : s.heap.IsTuple b jts) (hu : A.units < cLine) : Eq3 A s (.ref l) (.ref b) false ∧ Eq3 A s (.ref b) (.ref l) false :=
  ⟨⟨RcAt.list_tuple hl hb hu, EqAt.list_tuple hl hb hu, RcNeAt.list_tuple hl hb hu⟩, ⟨RcAt.tuple_list hb hl hu, EqAt.tuple_list hb hl hu, RcNeAt.tuple_list hb hl hu⟩⟩
theorem eq3_ll (I : Inv X pins σ H s) {A : Around} {a b : Addr} {vs us : List V} {xs ys : List D} (f1 : SqL X.K H a vs) (g1 : Reps X.K H xs vs) (f2 : SqL X.K H b us) (g2 : Reps X.K H ys us) (p1 : pureDs xs = true) (d1 : depDs xs ≤ DEEP) (p2 : pureDs ys = true)
    (hu : A.units + 85 < cLine) : Eq3 A s (.ref a) (.ref b) (eqDs xs ys) := by
  refine eq3_lsts I (fun j => match xs[j]?, ys[j]? with | some x, some y => eqD x y | _, _ => true) f1 f2 (by omega) (fun e => ?_) (fun j v v' u u' e1 e2 rv rv' => ?_) (fun h => ?_) (fun h => ?_)
  · subst e
    cases I.list_inj f1 f2
    rw [reps_inj I p1 p2 g1 g2]
    exact eqDs_refl _ p2
  · obtain ⟨x, h1, k1⟩ := Reps.get' g1 e1
    obtain ⟨y, h2, k2⟩ := Reps.get' g2 e2
    simp only [h1, h2]
    have hx := depDs_mem (List.mem_of_getElem? h1)
    have hD : DEEP = 80 := rfl
    exact (eqP I DEEP (by omega) (pureDs_mem p1 (List.mem_of_getElem? h1)) (pureDs_mem p2 (List.mem_of_getElem? h2)) k1 rv k2 rv' (by simp only [Around.in1_units]; omega)).2.1
  · exact eqDs_len (by rw [g1.length, g2.length]; exact h)
  · rw [← g1.length]
    exact eqDs_all' _ (by rw [g1.length, g2.length]; exact h) fun j x y e1 e2 => by simp only [e1, e2]
theorem eqSd (I : Inv X pins σ H s) (ok : StOk X.K st H) : ∀ (n : Nat) {d d' : D} {A : Around} {v v' : V} {u u' : Value}, depD d ≤ n → pureS st d = true → pureS st d' = true → Rep X.K H d v → RelV v u → Rep X.K H d' v' → RelV v' u' → A.units + n + 85 < cLine →
    Eq3 A s u u' (eqS st d d') := by
  intro n
  induction n with
  | zero =>
    intro d d' A v v' u u' hn p p' r rv r' rv' hu
    have hu0 : A.units < cLine := by omega
    rcases kinds p with q | ⟨ds, rfl, q⟩ | ⟨xs, q, q1, q2⟩
    · rcases kinds p' with q' | ⟨ds', rfl, q'⟩ | ⟨ys, q', q1', q2'⟩
      · rw [eqS_ss q q']; exact eq3_scal q q' r rv r' rv'
      · obtain ⟨b, us, rfl, h2, g2⟩ := r'.tup_inv
        cases rv'
        obtain ⟨its, r1, p1, _⟩ := I.tuple h2
        rw [(eqS_st q).1]
        exact (eq3_tuple_scal p1 hu0 q r rv).2
      · obtain ⟨b, us, rfl, h2, g2⟩ := ls_rep ok q' r'
        cases rv'
        obtain ⟨its, r1, p1, _⟩ := I.list h2
        rw [(eqS_ls q' q).2]
        exact (eq3_list_scal p1.isList hu0 q r rv).2
    · simp only [depD] at hn; omega
    · obtain ⟨a, vs, rfl, f1, g1⟩ := ls_rep ok q r
      cases rv
      obtain ⟨its, r1, p1, _⟩ := I.list f1
      rcases kinds p' with q' | ⟨ds', rfl, q'⟩ | ⟨ys, q', q1', q2'⟩
      · rw [(eqS_ls q q').1]
        exact (eq3_list_scal p1.isList hu0 q' r' rv').1
      · obtain ⟨b, us, rfl, h2, g2⟩ := r'.tup_inv
        cases rv'
        obtain ⟨jts, r2, p2, _⟩ := I.tuple h2
        rw [(eqS_lt q).1]
        exact (eq3_list_tuple p1.isList p2 hu0).1
      · obtain ⟨b, us, rfl, h2, g2⟩ := ls_rep ok q' r'
        cases rv'
        rw [eqS_ll q q']
        exact eq3_ll I f1 g1 h2 g2 q1 q2 q1' (by omega)
  | succ n ih =>
    intro d d' A v v' u u' hn p p' r rv r' rv' hu
    have hu0 : A.units < cLine := by omega
    rcases kinds p with q | ⟨ds, rfl, q⟩ | ⟨xs, q, q1, q2⟩
    · rcases kinds p' with q' | ⟨ds', rfl, q'⟩ | ⟨ys, q', q1', q2'⟩
      · rw [eqS_ss q q']; exact eq3_scal q q' r rv r' rv'
      · obtain ⟨b, us, rfl, h2, g2⟩ := r'.tup_inv
        cases rv'
        obtain ⟨its, r1, p1, _⟩ := I.tuple h2
        rw [(eqS_st q).1]
        exact (eq3_tuple_scal p1 hu0 q r rv).2
      · obtain ⟨b, us, rfl, h2, g2⟩ := ls_rep ok q' r'
        cases rv'
        obtain ⟨its, r1, p1, _⟩ := I.list h2
        rw [(eqS_ls q' q).2]
        exact (eq3_list_scal p1.isList hu0 q r rv).2
    · obtain ⟨a, vs, rfl, f1, g1⟩ := r.tup_inv
      cases rv
      obtain ⟨its, r1, p1, _⟩ := I.tuple f1
      rcases kinds p' with q' | ⟨ds', rfl, q'⟩ | ⟨ys, q', q1', q2'⟩
      · rw [(eqS_st q').2]
        exact (eq3_tuple_scal p1 hu0 q' r' rv').1
      · obtain ⟨b, us, rfl, h2, g2⟩ := r'.tup_inv
        cases rv'
        have e0 : eqS st (.tup ds) (.tup ds') = eqSs st ds ds' := rfl
        refine eq3_tups I (fun j => match ds[j]?, ds'[j]? with | some x, some y => eqS st x y | _, _ => true) f1 h2 hu0 (fun e => ?_) (fun j v v' u u' e1 e2 rv rv' => ?_) ?_
        · subst e
          exact rep_eqS I ok _ (Nat.le_refl _) p p' r r'
        · obtain ⟨x, k1, l1⟩ := Reps.get' g1 e1
          obtain ⟨y, k2, l2⟩ := Reps.get' g2 e2
          simp only [k1, k2]
          have hx := depDs_mem (List.mem_of_getElem? k1)
          simp only [depD] at hn
          exact (ih (by omega) (pureSs_mem q (List.mem_of_getElem? k1)) (pureSs_mem q' (List.mem_of_getElem? k2)) l1 rv l2 rv' (by simp only [Around.in1_units]; omega)).2.1
        · rw [← g1.length, ← g2.length, e0]
          exact eqSs_all _ fun j x y e1 e2 => by simp only [e1, e2]
      · obtain ⟨b, us, rfl, h2, g2⟩ := ls_rep ok q' r'
        cases rv'
        obtain ⟨jts, r2, p2, _⟩ := I.list h2
        rw [(eqS_lt q').2]
        exact (eq3_list_tuple p2.isList p1 hu0).2
    · obtain ⟨a, vs, rfl, f1, g1⟩ := ls_rep ok q r
      cases rv
      obtain ⟨its, r1, p1, _⟩ := I.list f1
      rcases kinds p' with q' | ⟨ds', rfl, q'⟩ | ⟨ys, q', q1', q2'⟩
      · rw [(eqS_ls q q').1]
        exact (eq3_list_scal p1.isList hu0 q' r' rv').1
      · obtain ⟨b, us, rfl, h2, g2⟩ := r'.tup_inv
        cases rv'
        obtain ⟨jts, r2, p2, _⟩ := I.tuple h2
        rw [(eqS_lt q).1]
        exact (eq3_list_tuple p1.isList p2 hu0).1
      · obtain ⟨b, us, rfl, h2, g2⟩ := ls_rep ok q' r'
        cases rv'
        rw [eqS_ll q q']
        exact eq3_ll I f1 g1 h2 g2 q1 q2 q1' (by omega)
end
end L3
end
section
namespace L3
open PySem PySem.Spec PyProof.Rows L2 PySem.SeqAt
mutual
inductive KIs (h : Heap) : D → Value → Prop where
  | str (x : List Nat) (t : Tok) : KIs h (.str x) (.str ⟨x.toArray⟩ t)
  | tup {ds : List D} {a : Addr} {o : Obj} {its : Array Value} {n : Nat} (e : h.get? a = some o) (c : o.cls = .type "tuple") (d : o.data = .seq its n) (r : KIss h ds its.toList) : KIs h (.tup ds) (.ref a)
inductive KIss (h : Heap) : List D → List Value → Prop where
  | nil : KIss h [] []
  | cons {d : D} {ds : List D} {v : Value} {vs : List Value} (r : KIs h d v) (rs : KIss h ds vs) : KIss h (d :: ds) (v :: vs)
end
section
variable {h h' : Heap}
end
noncomputable instance decD : DecidableEq D := fun a b => Classical.propDecidable (a = b)
end L3
end
section
namespace L3
open PySem PySem.Spec PyProof.Rows L2 PySem.SeqAt
noncomputable def CmpR (X : Cx) (op : CmpOp) (W : D → D → Store → (Bool → Prop) → Prop) : Prop :=
  ∀ (pins : List (Addr × Obj)) (s : Shared) (σ : L2.St) (H : Hp) (st : Store) (d d' : D) (v v' : V) (u u' : Value) (P : Bool → Prop), Inv X pins σ H s → StOk X.K st H → Rep X.K H d v → RelV v u → Rep X.K H d' v' → RelV v' u' → W d d' st P →
    wpAny (model X.prog X.w) X.A (compareOp op u u') (fun r s' => ∃ k, r = .bool k ∧ P k ∧ Inv X pins σ H s') X.xe s
theorem occurs_iff (w : List Nat) : ∀ z : List Nat, occurs w z = true ↔ ∃ i, i + w.length ≤ z.length ∧ (z.drop i).take w.length = w
  | [] => by
    unfold occurs
    constructor
    · intro h; rw [List.isEmpty_iff] at h; subst h; exact ⟨0, by simp, by simp⟩
    · rintro ⟨i, h, _⟩; rw [List.isEmpty_iff]; exact List.length_eq_zero_iff.mp (by simp only [List.length_nil] at h; omega)
  | c :: r => by
    unfold occurs
    rw [Bool.or_eq_true, occurs_iff w r, List.isPrefixOf_iff_prefix]
    constructor
    · rintro (h | ⟨i, h1, h2⟩)
      · exact ⟨0, by have := h.length_le; omega, by rw [List.drop_zero]; exact (List.prefix_iff_eq_take.mp h).symm⟩
      · exact ⟨i + 1, by simp; omega, by simpa using h2⟩
    · rintro ⟨i, h1, h2⟩
      cases i with
      | zero => exact .inl (by rw [List.drop_zero] at h2; rw [List.prefix_iff_eq_take]; exact h2.symm)
      | succ i => exact .inr ⟨i, by simp at h1; omega, by simpa using h2⟩
theorem occ_found (w z : List Nat) : (!(Builtin.Str.occurrences ⟨z.toArray⟩ ⟨w.toArray⟩ 0 (⟨z.toArray⟩ : Str).length 1).isEmpty) = occurs w z := by
  rw [Bool.eq_iff_iff, PySem.StrLaws.found_iff, occurs_iff]
  refine ⟨fun ⟨i, h1, h2⟩ => ⟨i, by simpa [Str.length] using h1, ?_⟩, fun ⟨i, h1, h2⟩ => ⟨i, by simpa [Str.length] using h1, ?_⟩⟩
  · unfold Builtin.Str.subAt at h2
    have := eq_of_beq h2
    simp only [Str.length, List.size_toArray] at this
    have e := congrArg Array.toList this
    simp only [Array.toList_extract, List.extract_eq_take_drop, Nat.add_sub_cancel_left] at e
    exact e
  · unfold Builtin.Str.subAt
    rw [beq_iff_eq]
    simp only [Str.length, List.size_toArray]
    apply Array.toList_inj.mp
    simp only [Array.toList_extract, List.extract_eq_take_drop, Nat.add_sub_cancel_left]
    exact h2
section
variable {X : Cx} {C : CallT} {sub : Nat → Nat → Bool} {E : XK} {a b c e : Expr} {x y z : Ex} {pos : Pos}
theorem c_eq (hu : X.A.units + 180 < cLine) : CmpR X .Eq (cmpW .eq) := by
  intro pins s σ H st d d' v v' u u' P I ok r rv r' rv' ⟨p, p', q⟩
  have hD : DEEP = 80 := rfl
  exact (eqSd I ok 80 (by have := p.2; omega) p.1 p'.1 r rv r' rv' (by omega)).1 _ _ _ _ ⟨_, rfl, q, I⟩
theorem c_ne (hu : X.A.units + 180 < cLine) : CmpR X .NotEq (cmpW .ne) := by
  intro pins s σ H st d d' v v' u u' P I ok r rv r' rv' ⟨p, p', q⟩
  have hD : DEEP = 80 := rfl
  exact (eqSd I ok 80 (by have := p.2; omega) p.1 p'.1 r rv r' rv' (by omega)).2.2 _ _ _ _ ⟨_, rfl, q, I⟩
theorem c_ord {op : CmpOp} {o : COp} {f : Int → Int → Bool} (hW : ∀ d d' st P, cmpW o d d' st P = ordW f d d' P)
    (rule : ∀ (i j : Int) (t u : Tok) (Q : Value → Shared → Prop) (s : Shared), Q (.bool (f i j)) s → wpAny (model X.prog X.w) X.A (compareOp op (.int i t) (.int j u)) Q X.xe s) : CmpR X op (cmpW o) := by
  intro pins s σ H st d d' v v' u u' P I ok r rv r' rv' q
  rw [hW] at q
  unfold ordW at q
  split at q
  · cases r.int_inv; cases r'.int_inv
    obtain ⟨t, rfl⟩ := rv
    obtain ⟨t', rfl⟩ := rv'
    exact rule _ _ _ _ _ _ ⟨_, rfl, q, I⟩
  · exact q.elim
theorem c_lt : CmpR X .Lt (cmpW .lt) := c_ord (fun o' o' o' o' => rfl) fun o' o' o' o' o' o' h => lt_int h
theorem c_le : CmpR X .LtE (cmpW .le) := c_ord (fun o' o' o' o' => rfl) fun o' o' o' o' o' o' h => le_int h
theorem c_gt : CmpR X .Gt (cmpW .gt) := c_ord (fun o' o' o' o' => rfl) fun o' o' o' o' o' o' h => gt_int h
theorem any_items {pins : List (Addr × Obj)} {s : Shared} {σ : L2.St} {H : Hp} {st : Store} (I : Inv X pins σ H s) (ok : StOk X.K st H) {ds : List D} {vs : List V} {its : List Value} {d : D} {v : V} {u : Value} {A : Around}
    (g : Reps X.K H ds vs) (r : Vals vs its) (p : plainSs st ds) (pd : plainS st d) (rd : Rep X.K H d v) (rv : RelV v u) (hu : A.units + 178 < cLine) :
    ∃ e : Value → Bool, (∀ y, y ∈ its.toArray → EqAt A.in1 s y u (e y)) ∧ its.toArray.any e = ds.any fun d' => eqS st d' d := by
  classical
  have hD : DEEP = 80 := rfl
  have item : ∀ (d' : D) (v' : V) (y : Value), d' ∈ ds → Rep X.K H d' v' → RelV v' y → EqAt A.in1 s y u (eqS st d' d) := fun d' v' y m r' rv' => by
    have h1 := depDs_mem m
    have h2 := p.2
    exact (eqSd I ok 80 (by omega) (pureSs_mem p.1 m) pd.1 r' rv' rd rv (by simp only [Around.in1_units]; omega)).2.1
  let e : Value → Bool := fun y => decide (∃ d' v', d' ∈ ds ∧ Rep X.K H d' v' ∧ RelV v' y ∧ eqS st d' d = true)
  have he : ∀ (d' : D) (v' : V) (y : Value), d' ∈ ds → Rep X.K H d' v' → RelV v' y → e y = eqS st d' d := fun d' v' y m r' rv' => by
    show decide _ = _
    cases q : eqS st d' d with
    | true => exact decide_eq_true ⟨d', v', m, r', rv', q⟩
    | false =>
      refine decide_eq_false fun ⟨d2, v2, m2, r2, rv2, q2⟩ => ?_
      cases RelV.inj rv' rv2
      have := rep_injS I ok _ (Nat.le_refl _) (pureSs_mem p.1 m) (pureSs_mem p.1 m2) r' r2
      subst this
      rw [q] at q2; cases q2
  refine ⟨e, fun y hy => ?_, ?_⟩
  · obtain ⟨j, hj, rfl⟩ := Array.mem_iff_getElem.mp hy
    obtain ⟨v', e1, e2⟩ := Vals.at r hj
    obtain ⟨d', e3, e4⟩ := Reps.get' g e1
    rw [he d' v' _ (List.mem_of_getElem? e3) e4 e2]
    exact item d' v' _ (List.mem_of_getElem? e3) e4 e2
  · have go : ∀ (es : List D) (vs : List V) (its : List Value), (∀ d ∈ es, d ∈ ds) → Reps X.K H es vs → Vals vs its → its.any e = es.any fun d' => eqS st d' d := by
      intro es
      induction es with
      | nil => intro vs its _ g r; cases g; cases r; rfl
      | cons d1 es ih =>
        intro vs its hm g r
        cases g with
        | cons g1 g2 => cases r with
          | cons r1 r2 =>
            simp only [List.any_cons]
            rw [he d1 _ _ (hm d1 (by simp)) g1 r1, ih _ _ (fun d m => hm d (by simp [m])) g2 r2]
    rw [List.any_toArray]
    exact go ds vs its (fun o' m => m) g r
theorem cps_eq (k x : Str) : (decide (k = x)) = (x.cps.toList == k.cps.toList) := by
  by_cases h : k = x
  · subst h; simp
  · rw [decide_eq_false h]
    symm
    refine beq_eq_false_iff_ne.mpr fun e => h ?_
    obtain ⟨⟨k⟩⟩ := k
    obtain ⟨⟨x⟩⟩ := x
    have e : x = k := e
    subst e; rfl
theorem mt_here {pins : List (Addr × Obj)} {s : Shared} {σ : L2.St} {H : Hp} {a : Addr} {T : List (Str × PyData)} (I : Inv X pins σ H s) (h : KTD.tabLook KTD.flatLooks (fun b => X.K.lookup b) a T = true) : KTD.Here s.heap s.heap a (T.map fun p => (p.1, KTD.Dat.flat p.2)) :=
  ⟨(KTD.tab_of_look (fun d v => KTD.flat_of_looks) (fun a o e => I.kIn a o e) h).text, fun o' o' e => e⟩
theorem mt_keys (k : List Nat) : ∀ (T : List (Str × PyData)), KTD.inKeys (⟨k.toArray⟩ : Str) (T.map fun p => (p.1, KTD.Dat.flat p.2)) = (T.map fun p => D.str p.1.cps.toList).any fun d => eqD d (.str k)
  | [] => rfl
  | (x, d) :: T => by
    show (decide ((⟨k.toArray⟩ : Str) = x) || KTD.inKeys _ _) = ((x.cps.toList == k) || _)
    rw [mt_keys k T, cps_eq]
theorem c_in (hu : X.A.units + 180 < cLine) : CmpR X .In (cmpW .in_) ∧ CmpR X .NotIn (cmpW .notin) := by
  have main : ∀ (neg : Bool) (pins : List (Addr × Obj)) (s : Shared) (σ : L2.St) (H : Hp) (st : Store) (d d' : D) (v v' : V) (u u' : Value) (P : Bool → Prop), Inv X pins σ H s → StOk X.K st H → Rep X.K H d v → RelV v u → Rep X.K H d' v' → RelV v' u' →
      inW d d' st (fun b => P (if neg then !b else b)) → wpAny (model X.prog X.w) X.A (compareOp (if neg then .NotIn else .In) u u') (fun r s' => ∃ k, r = .bool k ∧ P k ∧ Inv X pins σ H s') X.xe s := by
    intro neg pins s σ H st d d' v v' u u' P I ok r rv r' rv' q
    have lst : ∀ (a : Addr) (vs : List V) (ds : List D), SqL X.K H a vs → Reps X.K H ds vs → plainS st d → plainSs st ds → P (if neg then !(ds.any fun d' => eqS st d' d) else ds.any fun d' => eqS st d' d) →
        wpAny (model X.prog X.w) X.A (compareOp (if neg then .NotIn else .In) u (.ref a)) (fun r s' => ∃ k, r = .bool k ∧ P k ∧ Inv X pins σ H s') X.xe s := by
      intro a vs ds f g pd ps q
      obtain ⟨its, r1, p1, _⟩ := I.list f
      obtain ⟨e, he, ha⟩ := any_items I ok g r1 ps pd r rv (A := X.A) (by omega)
      rw [← ha] at q
      cases neg with
      | true => exact notIn_listAt e p1.isList he ⟨_, rfl, q, I⟩
      | false => exact in_listAt e p1.isList he ⟨_, rfl, q, I⟩
    cases d' with
    | tup ds0 =>
      obtain ⟨a, vs, rfl, f, g⟩ := r'.tup_inv
      cases rv'
      obtain ⟨its, r1, p1, _⟩ := I.tuple f
      obtain ⟨pd, ps, q⟩ := q
      obtain ⟨e, he, ha⟩ := any_items I ok g r1 ps pd r rv (A := X.A) (by omega)
      rw [← ha] at q
      cases neg with
      | true => exact notIn_tupleAt e p1 he ⟨_, rfl, q, I⟩
      | false => exact in_tupleAt e p1 he ⟨_, rfl, q, I⟩
    | ref a0 =>
      cases r'.ref_inv
      cases rv'
      obtain ⟨ds, e1, pd, ps, q⟩ := seqAt_inv (M := fun o' o' => False) ok q
      obtain ⟨vs, g1, g2⟩ := ok.lst e1
      exact lst _ vs ds (SqL.of g1) g2 pd ps q
    | mdic ks0 vs0 =>
      have q1 := strW_inv q
      clear q
      obtain ⟨w0, rfl, q⟩ := q1
      obtain ⟨a, rfl, T, h1, _, h2, _⟩ := r'.mdic_inv
      cases rv'
      cases r.str_inv
      obtain ⟨t, rfl⟩ := rv
      rw [h2, ← mt_keys] at q
      cases neg with
      | true => exact KTD.notin_text (mt_here I h1) ⟨_, rfl, q, I.tok _⟩
      | false => exact KTD.in_text (mt_here I h1) ⟨_, rfl, q, I.tok _⟩
    | mlst ds0 =>
      obtain ⟨a, vs, rfl, f, g⟩ := r'.mlst_inv
      cases rv'
      exact lst a vs _ f.sq g q.1 q.2.1 q.2.2
    | str z0 =>
      have q1 := strW_inv q
      clear q
      obtain ⟨w0, rfl, q⟩ := q1
      cases r.str_inv; cases r'.str_inv
      cases neg with
      | true =>
        refine thn (op_notIn_str (X := X) pins s σ H _ _ _ _ (fun v H' => H' = H ∧ ∃ k, v = .bl k ∧ P k) I rv rv' ⟨_, _, rfl, rfl, rfl, _, rfl, ?_⟩) fun r s1 ⟨v, H', I1, r1, e, k, e', q'⟩ => ?_
        · rw [occ_found]; exact q
        · subst e e'; cases r1; exact ⟨k, rfl, q', I1⟩
      | false =>
        refine thn (op_in_str (X := X) pins s σ H _ _ _ _ (fun v H' => H' = H ∧ ∃ k, v = .bl k ∧ P k) I rv rv' ⟨_, _, rfl, rfl, rfl, _, rfl, ?_⟩) fun r s1 ⟨v, H', I1, r1, e, k, e', q'⟩ => ?_
        · rw [occ_found]; exact q
        · subst e e'; cases r1; exact ⟨k, rfl, q', I1⟩
    | _ => exact False.elim q
  exact ⟨fun pins s σ H st d d' v v' u u' P I ok r rv r' rv' q => main false pins s σ H st d d' v v' u u' P I ok r rv r' rv' q, fun pins s σ H st d d' v v' u u' P I ok r rv r' rv' q => main true pins s σ H st d d' v v' u u' P I ok r rv r' rv' q⟩
noncomputable def cop : COp → CmpOp
  | .eq => .Eq | .ne => .NotEq | .lt => .Lt | .le => .LtE | .gt => .Gt | .in_ => .In | .notin => .NotIn
theorem c_all (hu : X.A.units + 180 < cLine) : ∀ o : COp, CmpR X (cop o) (cmpW o)
  | .eq => c_eq hu
  | .ne => c_ne hu
  | .lt => c_lt
  | .le => c_le
  | .gt => c_gt
  | .in_ => (c_in hu).1
  | .notin => (c_in hu).2
theorem j_cmp {o : COp} (hu : X.A.units + 180 < cLine) (ha : PE X a (tOf X.K (wpE C sub E x))) (hb : PE X b (tOf X.K (wpE C sub E y))) (hm : behindInMarks (cop o) b = false) : PE X (.Compare a [cop o] [b] pos) (tOf X.K (wpE C sub E (.cmp o x y))) := by
  intro pins s σ H Q I ⟨σd, st, R, r, ok, q, hq⟩
  refine wpAny_Compare1 (thn (ha pins s σ H _ I ⟨σd, st, _, r, ok, q, fun v H' z => z⟩) fun u s1 ⟨v, H1, I1, rv, d, st1, s1s, ok1, r1, q1⟩ =>
    thn (hb pins s1 σ H1 _ I1 ⟨σd, st1, _, r.step ok s1s, ok1, q1, fun v H' z => z⟩) fun u' s2 ⟨v', H2, I2, rv', d', st2, s2s, ok2, r2, q2⟩ =>
    thn (c_all hu o pins s2 σ H2 st2 d d' v v' u u' _ I2 ok2 (r1.step ok1 s2s) rv r2 rv' q2) fun w s3 ⟨k, e, q3, I3⟩ => ?_) hm
  subst e
  exact ⟨.bl k, H2, I3, rfl, hq _ _ (.after (s1s.trans s2s) (.here ok2 (.bl k) q3))⟩
theorem jt_cmp {o : COp} (hu : X.A.units + 180 < cLine) (ha : PE X a (tOf X.K (wpE C sub E x))) (hb : PE X b (tOf X.K (wpE C sub E y))) (hm : behindInMarks (cop o) b = false) : PT X (.Compare a [cop o] [b] pos) (ttOf X.K (wpE C sub E (.cmp o x y))) := by
  intro pins s σ H Q I ⟨σd, st, R, r, ok, q, hq⟩
  refine wpAny_isTrue_Compare1 (thn (ha pins s σ H _ I ⟨σd, st, _, r, ok, q, fun v H' z => z⟩) fun u s1 ⟨v, H1, I1, rv, d, st1, s1s, ok1, r1, q1⟩ =>
    thn (hb pins s1 σ H1 _ I1 ⟨σd, st1, _, r.step ok s1s, ok1, q1, fun v H' z => z⟩) fun u' s2 ⟨v', H2, I2, rv', d', st2, s2s, ok2, r2, q2⟩ =>
    thn (c_all hu o pins s2 σ H2 st2 d d' v v' u u' _ I2 ok2 (r1.step ok1 s2s) rv r2 rv' q2) fun w s3 ⟨k, e, q3, I3⟩ => ?_) hm
  subst e
  exact wpAny_truthy_bool ⟨H2, I3, hq _ _ ⟨st2, s1s.trans s2s, ok2, q3⟩⟩
theorem j_chain {o o' : COp} (hu : X.A.units + 180 < cLine) (ha : PE X a (tOf X.K (wpE C sub E x))) (hb : PE X b (tOf X.K (wpE C sub E y))) (hc : PE X c (tOf X.K (wpE C sub E z))) (hm : lastMarks [cop o, cop o'] [b, c] = false) :
    PE X (.Compare a [cop o, cop o'] [b, c] pos) (tOf X.K (wpE C sub E (.chain o o' x y z))) := by
  intro pins s σ H Q I ⟨σd, st, R, r, ok, q, hq⟩
  refine Compare_chain (thn (ha pins s σ H _ I ⟨σd, st, _, r, ok, q, fun v H' z => z⟩) fun u s1 ⟨v, H1, I1, rv, d, st1, s1s, ok1, r1, q1⟩ =>
    chain_link (thn (hb pins s1 σ H1 _ I1 ⟨σd, st1, _, r.step ok s1s, ok1, q1, fun v H' z => z⟩) fun u' s2 ⟨v', H2, I2, rv', d', st2, s2s, ok2, r2, q2⟩ =>
    thn (c_all hu o pins s2 σ H2 st2 d d' v v' u u' _ I2 ok2 (r1.step ok1 s2s) rv r2 rv' q2) fun w s3 ⟨k, e, q3, I3⟩ => ?_)) hm
  subst e
  refine wpAny_truthy_bool ?_
  cases k with
  | false => exact ite_ff ⟨.bl false, H2, I3, rfl, hq _ _ (.after (s1s.trans s2s) (.here ok2 (.bl _) q3))⟩
  | true =>
    refine ite_tt (chain_last (thn (hc pins s3 σ H2 _ I3 ⟨σd, st2, _, (r.step ok s1s).step ok1 s2s, ok2, q3, fun v H' z => z⟩) fun u3 s4 ⟨v3, H4, I4, rv3, d3, st4, s4s, ok4, r4, q4⟩ =>
      thn (c_all hu o' pins s4 σ H4 st4 d' d3 v' v3 u' u3 _ I4 ok4 (r2.step ok2 s4s) rv' r4 rv3 q4) fun w s5 ⟨k, e, q5, I5⟩ => ?_))
    subst e
    exact ⟨.bl k, H4, I5, rfl, hq _ _ (.after ((s1s.trans s2s).trans s4s) (.here ok4 (.bl k) q5))⟩
end
end L3
end
section
namespace L3
open PySem PySem.Spec PyProof.Rows PyProof.V L2
section
variable {X : Cx} {C : CallT} {sub : Nat → Nat → Bool} {E : XK} {a b c e : Expr} {x y z : Ex} {pos : Pos}
theorem ixN_eq (n : Nat) (i : Int) : L2.ixN n i = ixN n i := rfl
theorem atI_rep {K : PySem.W.Frag} {H : Hp} {ds : List D} {vs : List V} {i : Int} {d : D} (r : Reps K H ds vs) (h : atI ds i = some d) : ∃ v, L2.atI vs i = some v ∧ Rep K H d v := by
  unfold atI at h
  unfold L2.atI
  rw [ixN_eq, ← r.length]
  cases e : ixN ds.length i with
  | none => rw [e] at h; cases h
  | some j =>
    rw [e] at h
    obtain ⟨v, e1, e2⟩ := r.get (i := j) h
    exact ⟨v, e1, e2⟩
noncomputable def rIxM (K : PySem.W.Frag) : R2 := fun x y H Q => ∃ (p : Addr) (T : List (Str × PyData)) (k : Str) (d : PyData), x = .ref p ∧ y = .str k ∧ KTD.tabLook KTD.flatLooks (fun b => K.lookup b) p T = true ∧ KTD.datumAt k T = some d ∧ simpleD d = true ∧ ∀ v u, RelV v u → Flat u d → Q v H
noncomputable def rIx3 (K : PySem.W.Frag) : R2 := fun x y H Q => rIx K x y H Q ∨ rIxM K x y H Q
theorem datum_flat {k : Str} {d : PyData} : ∀ {T : List (Str × PyData)}, KTD.datumAt k T = some d → KTD.datumAt k (T.map fun p => (p.1, KTD.Dat.flat p.2)) = some (.flat d)
  | [], h => by cases h
  | (x, e) :: T, h => by
    show (if decide (k = x) = true then some (KTD.Dat.flat e) else _) = _
    have h : (if decide (k = x) = true then some e else KTD.datumAt k T) = some d := h
    by_cases c : decide (k = x) = true
    · rw [if_pos c] at h ⊢; cases h; rfl
    · rw [if_neg c] at h ⊢; exact datum_flat h
theorem ix_mt {X : Cx} : IxR X (rIxM X.K) := by
  intro value slice pins s σ H x y v u Q I rx ry h hs
  obtain ⟨p, T, k, d, rfl, rfl, hT, hd, hsd, q⟩ := h
  cases rx
  obtain ⟨t, rfl⟩ := ry
  have hh := mt_here I hT
  refine subscriptTail_builtin_flat hh.typeIs slot_dict_getitem.lookup ?_ hs
  unfold getItem
  try with_reducible refine wpAny_holding ?_
  refine wpAny_bind (wpAny_sequenceKey hh.typeIs (by decide) ?_)
  refine wpAny_bind (wpAny_callSpecial?_slot (name := Str.ofString "__getitem__") hh.typeIs slot_dict_getitem
    (wpAny_call_entry slot_dict_getitem hh.typeIs entry_dict_getitem ?_ (args_dict_getitem _ _)))
  show wpAny _ _ (dictGet p (.str k t) >>= _) _ _ s
  refine wpAny_bind (KTD.dictGet_text hh (fun d' v ha hv => ?_) fun hn => ?_)
  · rw [datum_flat hd] at ha
    cases ha
    have hv : Flat v d := hv
    refine wpAny_pure ⟨v, rfl, wpAny_pure ⟨Flat.notRef hv, ?_⟩⟩
    obtain ⟨w, rw'⟩ : ∃ w, RelV w v := by
      cases d with
      | none => cases Flat.none_inv hv; exact ⟨.non, rfl⟩
      | bool b => cases Flat.bool_inv hv; exact ⟨.bl b, rfl⟩
      | int i => obtain ⟨t, rfl⟩ := Flat.int_inv hv; exact ⟨.int i, ⟨t, rfl⟩⟩
      | str x => obtain ⟨t, rfl⟩ := Flat.str_inv hv; exact ⟨.str x, ⟨t, rfl⟩⟩
      | _ => cases hsd
    exact ⟨w, H, I.tok _, rw', q w v rw' hv⟩
  · rw [datum_flat hd] at hn; cases hn
theorem ix_all {X : Cx} : IxR X (rIx3 X.K) := ix_seq.or ix_mt
theorem rIx3_mono {K : PySem.W.Frag} (v v' : V) (H : Hp) (Q Q' : L2.VK) (h : ∀ v H, Q v H → Q' v H) (z : rIx3 K v v' H Q) : rIx3 K v v' H Q' := by
  rcases z with z | ⟨p, T, k, d, e, e', e1, e2, e3, q⟩
  · refine .inl ?_
    rcases z with ⟨p, xs, i, v, e, e', s, t, q⟩ | ⟨p, xs, i, v, e, e', s, t, q⟩ | ⟨z, i, c, e, e', s, t, q⟩
    · exact .inl ⟨p, xs, i, v, e, e', s, t, h _ _ q⟩
    · exact .inr (.inl ⟨p, xs, i, v, e, e', s, t, h _ _ q⟩)
    · exact .inr (.inr ⟨z, i, c, e, e', s, t, h _ _ q⟩)
  · exact .inr ⟨p, T, k, d, e, e', e1, e2, e3, fun v u r f => h _ _ (q v u r f)⟩
theorem lookD_mt {k : List Nat} {d : D} : ∀ {T : List (Str × PyData)}, (T.all fun p => simpleD p.2) = true → lookD (T.map fun p => .str p.1.cps.toList) (T.map fun p => flatD p.2) (.str k) = some d → ∃ e, KTD.datumAt (⟨k.toArray⟩ : Str) T = some e ∧ simpleD e = true ∧ d = flatD e
  | [], _, h => by cases h
  | (x, e) :: T, a, h => by
    simp only [List.all_cons, Bool.and_eq_true] at a
    have h : (if (x.cps.toList == k) = true then some (flatD e) else lookD (T.map fun p => .str p.1.cps.toList) (T.map fun p => flatD p.2) (.str k)) = some d := h
    show ∃ e', (if decide ((⟨k.toArray⟩ : Str) = x) = true then some e else KTD.datumAt _ T) = some e' ∧ _
    rw [cps_eq]
    by_cases c : (x.cps.toList == k) = true
    · rw [if_pos c] at h; cases h
      exact ⟨e, if_pos c, a.1, rfl⟩
    · rw [if_neg c] at h
      obtain ⟨e', h1, h2⟩ := lookD_mt a.2 h
      exact ⟨e', (if_neg c).trans h1, h2⟩
theorem flat_rep {K : PySem.W.Frag} {H : Hp} {e : PyData} {v : V} {u : Value} (s : simpleD e = true) (r : RelV v u) (f : Flat u e) : Rep K H (flatD e) v := by
  cases e with
  | none => cases Flat.none_inv f; cases RelV.inj r (show RelV .non .none from rfl); exact .non
  | bool b => cases Flat.bool_inv f; cases RelV.inj r (show RelV (.bl b) (.bool b) from rfl); exact .bl b
  | int i => obtain ⟨t, rfl⟩ := Flat.int_inv f; cases RelV.inj r (show RelV (.int i) (.int i t) from ⟨t, rfl⟩); exact .int i
  | str x => obtain ⟨t, rfl⟩ := Flat.str_inv f; cases RelV.inj r (show RelV (.str x) (.str x t) from ⟨t, rfl⟩); exact .str x.cps.toList
  | _ => cases s
theorem ix_sound {K : PySem.W.Frag} {H : Hp} {st : Store} {R : VK} {d d' : D} {v v' : V} (ok : StOk K st H) (r : Rep K H d v) (r' : Rep K H d' v') (h : ixW d d' st R) : rIx3 K v v' H (QD K H st R) := by
  cases d with
  | tup ds0 =>
    obtain ⟨i0, rfl, h⟩ := intW_inv h
    obtain ⟨a, vs, rfl, f, g⟩ := r.tup_inv
    cases r'.int_inv
    obtain ⟨d, e, q⟩ := optK_inv h
    obtain ⟨v, e1, e2⟩ := atI_rep g e
    exact .inl (.inr (.inl ⟨a, vs, _, v, rfl, rfl, f, e1, .here ok e2 q⟩))
  | mlst ds0 =>
    obtain ⟨i0, rfl, h⟩ := intW_inv h
    obtain ⟨a, vs, rfl, f, g⟩ := r.mlst_inv
    cases r'.int_inv
    obtain ⟨d, e, q⟩ := optK_inv h
    obtain ⟨v, e1, e2⟩ := atI_rep g e
    exact .inl (.inl ⟨a, vs, _, v, rfl, rfl, f.sq, e1, .here ok e2 q⟩)
  | str z0 =>
    obtain ⟨i0, rfl, h⟩ := intW_inv h
    cases r.str_inv
    cases r'.int_inv
    obtain ⟨l, h⟩ := h
    obtain ⟨c, e, q⟩ := optK_inv h
    exact .inl (.inr (.inr ⟨_, _, c, rfl, rfl, by rw [line_eq]; simpa [Str.length] using l, e, .here ok (.str [c]) q⟩))
  | mdic ks0 vs0 =>
    obtain ⟨w0, rfl, h⟩ := strW_inv h
    obtain ⟨a, rfl, T, h1, h2, h3, h4⟩ := r.mdic_inv
    cases r'.str_inv
    obtain ⟨d, e, q⟩ := optK_inv h
    rw [h3, h4] at e
    obtain ⟨e', e1, e2, rfl⟩ := lookD_mt h2 e
    exact .inr ⟨a, T, _, e', rfl, rfl, h1, e1, e2, fun v u r f => .here ok (flat_rep e2 r f) q⟩
  | ref a0 =>
    cases r.ref_inv
    obtain ⟨ds, e, q⟩ := seqAt_inv (M := fun o' o' => False) ok h
    obtain ⟨vs, g1, g2⟩ := ok.lst e
    obtain ⟨i0, rfl, q⟩ := intW_inv q
    · cases r'.int_inv
      obtain ⟨d, e, q⟩ := optK_inv q
      obtain ⟨v, e1, e2⟩ := atI_rep g2 e
      exact .inl (.inl ⟨_, vs, _, v, rfl, rfl, SqL.of g1, e1, .here ok e2 q⟩)
  | _ => exact False.elim h
theorem j_ix (ha : PE X a (tOf X.K (wpE C sub E x))) (hb : PE X b (tOf X.K (wpE C sub E y))) (hp : PlainIx b) : PE X (.Subscript a b pos) (tOf X.K (wpE C sub E (.ix x y))) :=
  (pe_ix ix_all ha hb hp).imp fun σ H Q ⟨σd, st, R, r, ok, q, hq⟩ => by
    exact two (W := fun d d' st2 => ixW d d' st2 R) r ok q hq (fun d d' v v' H2 st2 ok2 r1 r2 h => ix_sound ok2 r1 r2 h) rIx3_mono
theorem getItem_tuple_whole {prog : Program} {w : World} {A : Around} {E : Value → Shared → Prop} {s : Shared} {t sl : Addr} {items : Array Value} {vl vu : Value} {lo hi : Option Int} {Q : Value → Shared → Prop} (ht : IsTup s.heap t items) (hs : s.heap.IsSliceOf sl vl vu .none) (pl : IsPart vl lo) (pu : IsPart vu hi)
    (hw : HT.sIx items.size 0 lo = 0 ∧ HT.sIx items.size items.size hi = items.size) (h : Q (.ref t) s) : wpAny (model prog w) A (getItem (.ref t) (.ref sl)) Q E s := by
  obtain ⟨os, hos, hcs, hds⟩ := id hs
  have hTs : s.TypeIs (.ref sl) "slice" := ⟨os, hos, hcs⟩
  unfold getItem
  try with_reducible refine wpAny_holding ?_
  first | refine wpAny_bind (wpAny_pure ?_) | skip
  refine wpAny_bind (wpAny_sequenceKey ht.typeIs (by decide) ?_)
  refine wpAny_bind (wpAny_callSpecial?_slot (name := Str.ofString "__getitem__") ht.typeIs PyProof.Rows.slot_tuple_getitem
    (wpAny_call_entry PyProof.Rows.slot_tuple_getitem ht.typeIs entry_tuple_getitem ?_ (args_tuple_getitem _ _)))
  show wpAny _ _ (Builtin.Tuple.tupleItemsOf (.ref t) >>= _) _ _ s
  refine wpAny_bind (tupleItemsOf_ ht ?_)
  refine wpAny_bind (wpAny_typeOf hTs ?_)
  rw [if_pos (by decide)]
  refine wpAny_bind (HT.sliceApplied_gen hs pl pu ?_)
  have hyes : (((HT.sIx items.size 0 lo : Nat) : Int) == 0 && (1 : Int) == 1 && (HT.sIx items.size items.size hi - HT.sIx items.size 0 lo) == items.size) = true := by
    rw [hw.1, hw.2]; simp
  show wpAny _ _ (if (((HT.sIx items.size 0 lo : Nat) : Int) == 0 && (1 : Int) == 1 && (HT.sIx items.size items.size hi - HT.sIx items.size 0 lo) == items.size) = true then _ else _) _ _ s
  rw [if_pos hyes]
  have hex : ∀ {Q : Bool → Shared → Prop}, Q true s → wpAny (model prog w) A.in1 (Builtin.Tuple.tupleIsExact (.ref t)) Q E s := fun h => by
    unfold Builtin.Tuple.tupleIsExact
    exact wpAny_bind (wpAny_typeOf ht.typeIs (wpAny_pure h))
  refine wpAny_bind (hex ?_)
  rw [if_pos rfl]
  exact wpAny_bind (wpAny_rule (wpAny_pure ⟨_, rfl, wpAny_pure h⟩))
theorem sIx_eq (n d : Nat) (o : Option Int) : HT.sIx n d o = sIx n d o := rfl
theorem Reps.cut {K : PySem.W.Frag} {H : Hp} {ds : List D} {vs : List V} (r : Reps K H ds vs) (lo hi : Option Int) : Reps K H (cut ds lo hi) (cut vs lo hi) := by
  unfold L3.cut
  rw [r.length]
  exact (r.drop _).take _
noncomputable def rSlW (K : PySem.W.Frag) : V → Option Int → Option Int → Hp → L2.VK → Prop := fun x lo hi H Q => ∃ a xs, x = .ref a ∧ SqT K H a xs ∧ (HT.sIx xs.length 0 lo = 0 ∧ HT.sIx xs.length xs.length hi = xs.length) ∧ Q (.ref a) H
theorem sl_tupW : SlR X (rSlW X.K) := by
  intro pins s σ H x v vl vu lo hi sl Q I rx hs pl pu h
  obtain ⟨a, xs, rfl, hx, hw, q⟩ := h
  cases rx
  obtain ⟨its, r, ht, hz⟩ := I.tuple hx
  have hlen : its.toArray.size = xs.length := by rw [List.size_toArray]; exact r.length.symm
  refine ⟨"tuple", _, PyProof.Rows.slot_tuple_getitem.lookup, ht.typeIs, ?_⟩
  exact getItem_tuple_whole ht hs pl pu (by rw [hlen]; exact hw) ⟨.ref a, H, I, rfl, q⟩
noncomputable abbrev rSlA (K : PySem.W.Frag) : V → Option Int → Option Int → Hp → L2.VK → Prop := fun x lo hi H Q => rSlT K x lo hi H Q ∨ rSlW K x lo hi H Q ∨ rSlL K x lo hi H Q
theorem sl_all : SlR X (rSlA X.K) := SlR.or L2.sl_tup (SlR.or sl_tupW sl_list)
set_option tactic.hygienic true in
theorem sl_sound {K : PySem.W.Frag} {H : Hp} {st : Store} {R : VK} {Q : L2.VK} {d : D} {v : V} {lo hi : Option Int} (ok : StOk K st H) (r : Rep K H d v) (h : slW d lo hi st R) (hq : ∀ v H', QD K H st R v H' → Q v H') : rSlA K v lo hi H Q := by
  unfold slW at h
  split at h
  · rename_i ds0
    obtain ⟨a, vs, rfl, f, g⟩ := r.tup_inv
    by_cases hw : HT.sIx vs.length 0 lo = 0 ∧ HT.sIx vs.length vs.length hi = vs.length
    · refine .inr (.inl ⟨a, vs, rfl, f, hw, hq _ _ (.here ok r ?_)⟩)
      have e : L3.cut ds0 lo hi = ds0 := by
        unfold L3.cut
        rw [g.length, ← sIx_eq, ← sIx_eq, hw.1, hw.2, List.drop_zero, Nat.sub_zero, ← g.length, List.take_length]
      rw [e] at h
      exact h
    · exact .inl ⟨a, vs, rfl, f, hw, fun p hp => hq _ _ (.newT ok (g.cut lo hi) hp h)⟩
  · cases r.ref_inv
    obtain ⟨ds, e, h⟩ := lstAt_inv h
    obtain ⟨vs, g1, g2⟩ := ok.lst e
    exact .inr (.inr ⟨_, vs, rfl, SqL.of g1, fun p hp => hq _ _ (.newL ok (g2.cut lo hi) hp h)⟩)
  · exact h.elim
inductive toOf (K : PySem.W.Frag) (te : St → Store → (List D → Store → Prop) → Prop) (σ : L2.St) (H : Hp) (Q : Option Int → Hp → Prop) : Prop where
  | mk (σd : St) (st : Store) (R : Option Int → Store → Prop) (r : SRel K H σd σ) (ok : StOk K st H) (q : te σd st (fun ds st' => partW ds fun o => R o st')) (hq : ∀ (o : Option Int) H', QX K H st (R o) H' → Q o H') : toOf K te σ H Q
theorem _root_.L2.PO.imp {X : Cx} {e : Option Expr} {t t' : TO} (i : ∀ σ H Q, t' σ H Q → t σ H Q) (h : PO X e t) : PO X e t' := fun pins s σ H Q I q => h pins s σ H Q I (i σ H Q q)
theorem jo_none : PO X none (toOf X.K (wpEs C sub E [])) :=
  po_none.imp fun σ H Q ⟨σd, st, R, r, ok, q, hq⟩ => by
    exact hq _ _ ⟨st, .refl, ok, q⟩
theorem jo_some (h : PE X e (tOf X.K (wpE C sub E x))) : PO X (some e) (toOf X.K (wpEs C sub E [x])) :=
  (po_some h).imp fun σ H Q ⟨σd, st, R, r, ok, q, hq⟩ => by
    refine ⟨σd, st, _, r, ok, q, fun v H1 ⟨d, st1, s1, ok1, r1, q1⟩ => ?_⟩
    cases d with
    | int i => cases r1.int_inv; exact ⟨i, rfl, hq _ _ ⟨st1, s1, ok1, q1⟩⟩
    | _ => exact q1.elim
theorem j_sl {lo hi : Option Expr} {xl xh : List Ex} {p2 : Pos} (ha : PE X a (tOf X.K (wpE C sub E x))) (hl : PO X lo (toOf X.K (wpEs C sub E xl))) (hh : PO X hi (toOf X.K (wpEs C sub E xh))) :
    PE X (.Subscript a (.Slice lo hi none p2) pos) (tOf X.K (wpE C sub E (.sl x xl xh))) :=
  (pe_slice sl_all ha hl hh).imp fun σ H Q ⟨σd, st, R, r, ok, q, hq⟩ => by
    refine ⟨σd, st, _, r, ok, q, fun v H1 ⟨d, st1, s1, ok1, r1, q1⟩ => ?_⟩
    refine ⟨σd, st1, _, r.step ok s1, ok1, q1, fun lo H2 ⟨st2, s2, ok2, q2⟩ => ?_⟩
    refine ⟨σd, st2, _, (r.step ok s1).step ok1 s2, ok2, q2, fun hi H3 ⟨st3, s3, ok3, q3⟩ => ?_⟩
    exact sl_sound ok3 ((r1.step ok1 s2).step ok2 s3) q3 fun v H' z => hq _ _ (.after ((s1.trans s2).trans s3) z)
noncomputable def BiR (X : Cx) (f : Value) (W : List D → Store → VK → Prop) : Prop :=
  ∀ (pins : List (Addr × Obj)) (s : Shared) (σ : L2.St) (H : Hp) (st : Store) (ds : List D) (vs : List V) (us : List Value) (R : VK), Inv X pins σ H s → StOk X.K st H → Reps X.K H ds vs → Vals vs us → W ds st R →
    wpAny (model X.prog X.w) X.A (call f us) (EP X pins σ (QD X.K H st R)) X.xe s
inductive rOf (K : PySem.W.Frag) (W : List D → Store → VK → Prop) (vs : List V) (H : Hp) (Q : L2.VK) : Prop where
  | mk (ds : List D) (st : Store) (R : VK) (r : Reps K H ds vs) (ok : StOk K st H) (q : W ds st R) (hq : ∀ v H', QD K H st R v H' → Q v H') : rOf K W vs H Q
theorem BiR.call {f : Value} {W : List D → Store → VK → Prop} (h : BiR X f W) : CallR X f (rOf X.K W) := fun pins s σ H vs us Q I rv ⟨ds, st, R, r, ok, q, hq⟩ =>
  thn (h pins s σ H st ds vs us R I ok r rv q) fun u s' ⟨v, H', I', r', z⟩ => ⟨v, H', I', r', hq _ _ z⟩
theorem args_imp {K : PySem.W.Frag} {W : List D → Store → VK → Prop} {xs : List Ex} {σ : L2.St} {H : Hp} {Q : L2.VK} (h : tOf K (fun σ st R => wpEs C sub E xs σ st fun ds st' => W ds st' R) σ H Q) : tCB (rOf K W) (taOf K (wpEs C sub E xs)) σ H Q := by
  obtain ⟨σd, st, R, r, ok, q, hq⟩ := h
  refine ⟨σd, st, _, r, ok, q, fun vs H1 ⟨ds, st1, s1, ok1, r1, q1⟩ => ?_⟩
  exact ⟨ds, st1, R, r1, ok1, q1, fun v H' z => hq _ _ (.after s1 z)⟩
theorem j_fun {W : List D → Store → VK → Prop} {n : Str} {id : String} {p : Pos} {es : List Expr} {xs : List Ex} (hW : BiR X (.builtin id) W) (hg : Gl X n) (hm : X.mg n = none) (hv : bootBuiltins n = some (.builtin id)) (ha : PA X (e :: es) (taOf X.K (wpEs C sub E xs)))
    (hn : n ≠ "__name__") (hdb : (n == ("__debug__" : Str)) = false) (he : starEach (e :: es) X.env = (false, eval e X.env) :: starEach es X.env) (hpl : (backTo pos (starEach es X.env)).any (·.1) = false) :
    PE X (.Call (.Name n p) (e :: es) [] pos) (tOf X.K fun σ st R => wpEs C sub E xs σ st fun ds st' => W ds st' R) :=
  (pe_callB hW.call hg hm hv ha hn hdb he hpl).imp fun σ H Q h => args_imp h
theorem j_type {W : List D → Store → VK → Prop} {n : Str} {T : String} {p : Pos} {es : List Expr} {xs : List Ex} (hW : BiR X (.type T) W) (hg : Gl X n) (hm : X.mg n = none) (hv : bootBuiltins n = some (.type T)) (ha : PA X (e :: es) (taOf X.K (wpEs C sub E xs)))
    (hn : n ≠ "__name__") (hdb : (n == ("__debug__" : Str)) = false) (he : starEach (e :: es) X.env = (false, eval e X.env) :: starEach es X.env) (hpl : (backTo pos (starEach es X.env)).any (·.1) = false) :
    PE X (.Call (.Name n p) (e :: es) [] pos) (tOf X.K fun σ st R => wpEs C sub E xs σ st fun ds st' => W ds st' R) :=
  (pe_callTy hW.call hg hm hv ha hn hdb he hpl).imp fun σ H Q h => args_imp h
theorem Reps.one {K : PySem.W.Frag} {H : Hp} {d : D} {vs : List V} (r : Reps K H [d] vs) : ∃ v, vs = [v] ∧ Rep K H d v := by
  cases r with | cons h r => cases r; exact ⟨_, rfl, h⟩
theorem len_sound {K : PySem.W.Frag} {H : Hp} {st : Store} {d : D} {v : V} {P : Nat → Prop} (ok : StOk K st H) (r : Rep K H d v) (h : lenW d st P) : ∃ n, LenV K v H n ∧ P n := by
  unfold lenW at h
  split at h
  · obtain ⟨a, vs, rfl, f, g⟩ := r.tup_inv
    exact ⟨_, .inr ⟨vs, f, g.length⟩, h⟩
  · cases r.str_inv
    exact ⟨_, ⟨by rw [line_eq]; simpa [Str.length] using h.1, by simp [Str.length]⟩, h.2⟩
  · cases r.ref_inv
    obtain ⟨ds, e, h⟩ := seqAt_inv ok h
    obtain ⟨vs, g1, g2⟩ := ok.lst e
    exact ⟨_, .inl ⟨vs, SqL.of g1, g2.length⟩, h⟩
  · obtain ⟨a, vs, rfl, f, g⟩ := r.mlst_inv
    exact ⟨_, .inl ⟨vs, f.sq, g.length⟩, h⟩
  · exact h.elim
theorem bi_len_ok : BiR X (.builtin "len") (biW .len) := by
  intro pins s σ H st ds vs us R I ok r rv q
  match ds, q with
  | [d], q =>
    have q : lenW d st fun n => R (.int (n : Nat)) st := q
    obtain ⟨v, rfl, rd⟩ := r.one
    obtain ⟨n, l, q⟩ := len_sound ok rd q
    exact call_len pins s σ H _ us _ I rv ⟨v, n, rfl, l, .here ok (.int _) q⟩
  | [], q => exact (show False from q).elim
  | _ :: _ :: _, q => exact (show False from q).elim
end
end L3
end
section
namespace L3
open PySem PySem.Spec PyProof.Rows L2
section
variable {X : Cx} {pins : List (Addr × Obj)} {σ : L2.St} {H : Hp} {s : Shared}
noncomputable def SeqAny (K : PySem.W.Frag) (H : Hp) (a : Addr) (vs : List V) : Prop := SqL K H a vs ∨ SqT K H a vs
theorem iter_seq {A : Around} {E : Value → Shared → Prop} {a : Addr} {vs : List V} {Q : Value → Shared → Prop} (hh : A.handled = none) (I : Inv X pins σ H s) (h : SeqAny X.K H a vs)
    (hQ : ∀ (its : List Value) (I0 : Addr) (fp wr : List Addr) (St : Nat → Heap → Prop) (s₂ : Shared), Vals vs its → Walks X.prog X.w A I0 fp wr its.length (fun i v => its[i]? = some v) St → St 0 s₂.heap → (∀ b ∈ fp, b < s₂.heap.objs.size) →
      (∀ h' tk, (∀ b o, b ∉ wr → s₂.heap.get? b = some o → h'.get? b = some o) → Inv X pins σ H { s₂ with heap := h', toks := tk }) → Q (.ref I0) s₂) : wpAny (model X.prog X.w) A (pyIter (.ref a)) Q E s := by
  rcases h with h | h
  · obtain ⟨its, r, p, hz⟩ := I.list h
    have hl := p.isList
    have hlt : a < s.heap.objs.size := by obtain ⟨_, e, _⟩ := hl; exact Heap.lt_size e
    have W := Walks.list (prog := X.prog) (w := X.w) (A := A) hh s.heap.objs.size a (Nat.ne_of_lt hlt) its.toArray
    have e1 : its.toArray.size = its.length := by simp
    have e2 : (fun (i : Nat) (v : Value) => its.toArray[i]? = some v) = fun i v => its[i]? = some v := by funext i v; simp
    rw [e1, e2] at W
    refine wpAny_pyIter_list hl (hQ its s.heap.objs.size _ _ _ _ r W ⟨⟨_, Heap.get?_push_size _ rfl, rfl, rfl⟩, hl.push _⟩ (fun b hb => ?_) fun h' tk hk => ?_)
    · show b < (s.heap.push _).objs.size
      rw [Heap.size_push]
      rcases List.mem_cons.mp hb with rfl | hb
      · exact Nat.lt_succ_self _
      · rcases List.mem_cons.mp hb with rfl | hb
        · exact Nat.lt_succ_of_lt hlt
        · cases hb
    · exact I.kept (t' := tk) (old_kept hk)
  · obtain ⟨its, r, p, hz⟩ := I.tuple h
    have hl : s.heap.IsTuple a its.toArray := p
    have hlt : a < s.heap.objs.size := by obtain ⟨_, e, _⟩ := hl; exact Heap.lt_size e
    have W := Walks.tuple (prog := X.prog) (w := X.w) (A := A) hh s.heap.objs.size a (Nat.ne_of_lt hlt) its.toArray
    have e1 : its.toArray.size = its.length := by simp
    have e2 : (fun (i : Nat) (v : Value) => its.toArray[i]? = some v) = fun i v => its[i]? = some v := by funext i v; simp
    rw [e1, e2] at W
    refine wpAny_pyIter_tuple hl (hQ its s.heap.objs.size _ _ _ _ r W ⟨⟨_, Heap.get?_push_size _ rfl, rfl, rfl⟩, hl.push _⟩ (fun b hb => ?_) fun h' tk hk => ?_)
    · show b < (s.heap.push _).objs.size
      rw [Heap.size_push]
      rcases List.mem_cons.mp hb with rfl | hb
      · exact Nat.lt_succ_self _
      · rcases List.mem_cons.mp hb with rfl | hb
        · exact Nat.lt_succ_of_lt hlt
        · cases hb
    · refine I.kept (t' := tk) fun b o e => hk b o (fun hm => ?_) (Heap.get?_push_of_some _ e)
      rcases List.mem_cons.mp hm with e1 | hm
      · exact absurd (e1 ▸ Heap.lt_size e) (Nat.lt_irrefl _)
      · cases hm
theorem seq_sound {K : PySem.W.Frag} {st : Store} {d : D} {v : V} {P : List Nat → List D → Prop} (ok : StOk K st H) (r : Rep K H d v) (h : seqW d st P) : ∃ a vs as ds, v = .ref a ∧ SeqAny K H a vs ∧ Reps K H ds vs ∧ P as ds := by
  unfold seqW at h
  split at h
  · obtain ⟨a, vs, rfl, f, g⟩ := r.tup_inv
    exact ⟨a, vs, _, _, rfl, .inr f, g, h⟩
  · cases r.ref_inv
    obtain ⟨ds, e, h⟩ := lstAt_inv h
    obtain ⟨vs, g1, g2⟩ := ok.lst e
    exact ⟨_, vs, _, ds, rfl, .inl (SqL.of g1), g2, h⟩
  · obtain ⟨a, vs, rfl, f, g⟩ := r.mlst_inv
    exact ⟨a, vs, _, _, rfl, .inl f.sq, g, h⟩
  · exact h.elim
theorem bools_at {K : PySem.W.Frag} : ∀ {ds : List D} {vs : List V} {its : List Value} {bs : List Bool}, boolsOf ds = some bs → Reps K H ds vs → Vals vs its → its = bs.map Value.bool := by
  intro ds
  induction ds with
  | nil => intro vs its bs h r rv; cases r; cases rv; cases h; rfl
  | cons d ds ih =>
    intro vs its bs h r rv
    cases r with
    | cons r1 r2 => cases rv with
      | cons v1 v2 => cases d with
        | bl b =>
          have h : (boolsOf ds).map (b :: ·) = some bs := h
          obtain ⟨bs', e, rfl⟩ := Option.map_eq_some_iff.mp h
          cases r1.bl_inv
          cases v1
          rw [ih e r2 v2]; rfl
        | _ => cases h
theorem all_range (bs : List Bool) : (List.range bs.length).all (fun i => (bs[i]?).getD true) = bs.all id := by
  induction bs with
  | nil => rfl
  | cons b bs ih =>
    simp only [List.length_cons, List.range_succ_eq_map, List.all_cons, List.all_map, Function.comp_def, List.getElem?_cons_zero, List.getElem?_cons_succ, Option.getD_some, id]
    rw [← ih]
theorem any_range (bs : List Bool) : (List.range bs.length).any (fun i => (bs[i]?).getD true) = bs.any id := by
  induction bs with
  | nil => rfl
  | cons b bs ih =>
    simp only [List.length_cons, List.range_succ_eq_map, List.any_cons, List.any_map, Function.comp_def, List.getElem?_cons_zero, List.getElem?_cons_succ, Option.getD_some, id]
    rw [← ih]
theorem truth_bools {prog : Program} {w : World} {A : Around} (bs : List Bool) : TruthOf prog w A (fun i v => (bs.map Value.bool)[i]? = some v) (fun i => (bs[i]?).getD true) := fun i v s Q E hP hQ => by
  have hP : (bs.map Value.bool)[i]? = some v := hP
  rw [List.getElem?_map, Option.map_eq_some_iff] at hP
  obtain ⟨b, e, rfl⟩ := hP
  simp only [e, Option.getD_some] at hQ
  exact wpAny_truthy_bool hQ
theorem bi_all_ok (hh : X.A.handled = none) : BiR X (.builtin "all") (biW .all) := by
  intro pins s σ H st ds vs us R I ok r rv q
  match ds, q with
  | [d], q =>
    have q : biW .all [d] st R := q
    rw [bi_all] at q
    obtain ⟨v, rfl, rd⟩ := r.one
    obtain ⟨u, rfl, ru⟩ := vals1 rv
    obtain ⟨a, ws, as, xs, rfl, sa, g, q⟩ := seq_sound ok rd q
    cases ru
    obtain ⟨bs, e, q⟩ := optK_inv q
    refine call_all_walk (iter_seq (A := X.A.in1) hh I sa fun its I0 fp wr St s₂ rr W h0 hfp hk => ?_)
    cases bools_at e g rr
    refine ⟨I0, fp, wr, _, _, St, _, rfl, W, h0, truth_bools bs, fun h' tk hk' => ⟨.bl _, H, hk h' tk hk', rfl, ?_⟩⟩
    rw [List.length_map, all_range]
    exact .here ok (.bl _) q
  | [], q => exact (show False from q).elim
  | _ :: _ :: _, q => exact (show False from q).elim
theorem bi_any_ok (hh : X.A.handled = none) : BiR X (.builtin "any") (biW .any) := by
  intro pins s σ H st ds vs us R I ok r rv q
  match ds, q with
  | [d], q =>
    have q : biW .any [d] st R := q
    rw [bi_any] at q
    obtain ⟨v, rfl, rd⟩ := r.one
    obtain ⟨u, rfl, ru⟩ := vals1 rv
    obtain ⟨a, ws, as, xs, rfl, sa, g, q⟩ := seq_sound ok rd q
    cases ru
    obtain ⟨bs, e, q⟩ := optK_inv q
    refine call_any_walk (iter_seq (A := X.A.in1) hh I sa fun its I0 fp wr St s₂ rr W h0 hfp hk => ?_)
    cases bools_at e g rr
    refine ⟨I0, fp, wr, _, _, St, _, rfl, W, h0, truth_bools bs, fun h' tk hk' => ⟨.bl _, H, hk h' tk hk', rfl, ?_⟩⟩
    rw [List.length_map, any_range]
    exact .here ok (.bl _) q
  | [], q => exact (show False from q).elim
  | _ :: _ :: _, q => exact (show False from q).elim
theorem bi_list_ok : BiR X (.type "list") (biW .list) := by
  intro pins s σ H st ds vs us R I ok r rv q
  match ds, q with
  | [d], q =>
    have q : biW .list [d] st R := q
    rw [bi_list] at q
    obtain ⟨v, rfl, rd⟩ := r.one
    obtain ⟨a, ws, as, xs, rfl, sa, g, q⟩ := seq_sound ok rd q
    exact call_list_of pins s σ H _ us _ I rv ⟨a, ws, rfl, sa, fun l hl => .newL ok g hl q.2⟩
  | [], q => exact (show False from q).elim
  | _ :: _ :: _, q => exact (show False from q).elim
theorem bi_tuple_ok : BiR X (.type "tuple") (biW .tuple) := by
  intro pins s σ H st ds vs us R I ok r rv q
  match ds, q with
  | [d], q =>
    have q : biW .tuple [d] st R := q
    rw [bi_tuple] at q
    obtain ⟨v, rfl, rd⟩ := r.one
    obtain ⟨a, ws, as, xs, rfl, sa, g, q⟩ := seq_sound ok rd q
    rcases sa with sa | sa
    · exact call_tuple_of pins s σ H _ us _ I rv ⟨a, ws, rfl, .inl ⟨sa, fun l hl => .newT ok g hl q.2⟩⟩
    · exact call_tuple_of pins s σ H _ us _ I rv ⟨a, ws, rfl, .inr ⟨sa, .here ok (.tup sa g) q.2⟩⟩
  | [], q => exact (show False from q).elim
  | _ :: _ :: _, q => exact (show False from q).elim
theorem tyL {K : PySem.W.Frag} {a : Addr} {vs : List V} (h : H a = some (.lst vs)) : tyV K "list" (.ref a) H := .inl ⟨rfl, vs, SqL.of h⟩
theorem list_extend_tuple (l : Addr) (items : Array Value) (n : Nat) (b : Addr) (items2 : Array Value) (n2 : Nat) (dd : Option Addr) (sl : Array (Option Value)) (hs0 : ¬(!items.isEmpty && Builtin.List.listTooLong (items.size + items2.size)) = true) (hs1 : items.size ≤ sizeLine) (hs2 : items.size + items2.size ≤ sizeLine + 1) :
    Meets (Builtin.«list.extend» ⟨[.ref l, .ref b], []⟩) (fun o' R s => s.heap.get? l = some { cls := .type "list", dict := none, data := .seq items n, slots := #[] } ∧ s.heap.get? b = some { cls := .type "tuple", dict := dd, data := .seq items2 n2, slots := sl } ∧ R (.ok (.ret Value.none)) { s with heap := s.heap.update l (Obj.mapSeq fun x => x ++ items2), toks := s.toks }) :=
  .of_wp fun prog w A R s h => by
    obtain ⟨hp, g, d, tk, os⟩ := s; obtain ⟨hl, hb, h⟩ := h; have f1 := AutoSeq1.idx_int; have f2 := AutoSeq1.sub_tuple_tuple; have f3 := AutoSeq1.sub_list_list; have f4 := AutoSeq1.sub_tuple_list; have f5 := AutoSeq1.sub_list_tuple;
    have hz' : (items ++ items2).size ≤ sizeLine + 1 := by rw [Array.size_append]; exact hs2
    wp_walk using (wpAny_updateSeq hl rfl (hz := hs1) (_hz' := hz')), AutoSeq1.wpAny_loadPart' hl, AutoSeq1.wpAny_loadPart' hb; exact ⟨_, rfl, h⟩
noncomputable def rExtendT (K : PySem.W.Frag) : V → List V → Hp → L2.VK → Prop := fun x vs H Q => ∃ l b xs zs, x = .ref l ∧ vs = [.ref b] ∧ H l = some (.lst xs) ∧ SqT K H b zs ∧ xs.length + zs.length ≤ sizeLine ∧ Q .non (upd H l (.lst (xs ++ zs)))
theorem mt_extendT : MtR X "list.extend" (rExtendT X.K) := by
  intro pins s σ H x vs v us Q I rx rv h
  obtain ⟨l, b, xs, zs, rfl, rfl, hH, hB, hz, q⟩ := h
  cases rx
  obtain ⟨u, rfl, ru⟩ := rv.one
  cases ru
  obtain ⟨z, its, n, r, hl, e⟩ := I.lstM hH
  obtain ⟨its2, r2, p2, _⟩ := I.tuple hB
  have hl2 := r2.length
  obtain ⟨⟨cls, dd, data, sl⟩, ho, hc, n2, hd⟩ := id p2
  simp only at hc hd
  subst hc hd
  have hsz : its.toArray.size + its2.toArray.size ≤ sizeLine := by rw [List.size_toArray, List.size_toArray]; omega
  have hlong : ¬ (!its.toArray.isEmpty && Builtin.List.listTooLong (its.toArray.size + its2.toArray.size)) = true := by
    rw [notLongL hsz, Bool.and_false]
    exact Bool.false_ne_true
  refine call_meets F.slot_list_extend ⟨_, e, rfl⟩ F.entry_list_extend (F.args_list_extend_2 _ _)
    (list_extend_tuple l its.toArray n b its2.toArray n2 dd sl hlong (by rw [List.size_toArray]; omega) (by omega)) ⟨e, ho, ?_⟩
  refine ⟨.non, _, I.lset (its' := its ++ its2) hH e (by simp) (r.append r2) ?_, rfl, q⟩
  rw [List.length_append]
  omega
noncomputable def MeR (X : Cx) (T id : String) (W : D → List D → Store → VK → Prop) : Prop :=
  ∀ (pins : List (Addr × Obj)) (s : Shared) (σ : L2.St) (H : Hp) (st : Store) (d : D) (ds : List D) (v : V) (vs : List V) (u : Value) (us : List Value) (R : VK), Inv X pins σ H s → StOk X.K st H → Rep X.K H d v → RelV v u → Reps X.K H ds vs → Vals vs us → W d ds st R →
    wpAny (model X.prog X.w) X.A (call (.builtin id) (u :: us)) (EP X pins σ (QD X.K H st R)) X.xe s
inductive rmOf (K : PySem.W.Frag) (W : D → List D → Store → VK → Prop) (v : V) (vs : List V) (H : Hp) (Q : L2.VK) : Prop where
  | mk (d : D) (ds : List D) (st : Store) (R : VK) (r : Rep K H d v) (rs : Reps K H ds vs) (ok : StOk K st H) (q : W d ds st R) (hq : ∀ v H', QD K H st R v H' → Q v H') : rmOf K W v vs H Q
theorem MeR.mt {T id : String} {W : D → List D → Store → VK → Prop} (h : MeR X T id W) : MtR X id (rmOf X.K W) := fun pins s σ H v vs u us Q I rv rvs ⟨d, ds, st, R, r, rs, ok, q, hq⟩ =>
  thn (h pins s σ H st d ds v vs u us R I ok r rv rs rvs q) fun u s' ⟨v, H', I', r', z⟩ => ⟨v, H', I', r', hq _ _ z⟩
theorem me_append : MeR X "list" "list.append" (methW .append) := by
  intro pins s σ H st d ds v vs u us R I ok r rv rs rvs q
  cases d <;> first | exact (show False from q).elim | skip
  match ds, q with
  | [d], q =>
    cases r.ref_inv
    obtain ⟨w, rfl, rd⟩ := rs.one
    obtain ⟨xs, e, q⟩ := lstAt_inv (st := st) q
    obtain ⟨ys, g1, g2⟩ := ok.lst e
    exact L2.mt_append pins s σ H _ _ u us _ I rv rvs ⟨_, ys, w, rfl, rfl, g1, by rw [line_eq, ← g2.length]; exact q.1, .set ok e (g2.append (.cons rd .nil)) .non q.2⟩
  | [], q => exact (show False from q).elim
  | _ :: _ :: _, q => exact (show False from q).elim
theorem me_extend : MeR X "list" "list.extend" (methW .extend) := by
  intro pins s σ H st d ds v vs u us R I ok r rv rs rvs q
  cases d <;> first | exact (show False from q).elim | skip
  match ds, q with
  | [d], q =>
    cases r.ref_inv
    obtain ⟨w, rfl, rd⟩ := rs.one
    obtain ⟨xs, e, q⟩ := lstAt_inv (st := st) q
    obtain ⟨ys, g1, g2⟩ := ok.lst e
    have q : ownW d st fun zs => xs.length + zs.length ≤ LINE ∧ R .non (put st _ (.lst (xs ++ zs))) := q
    cases d <;> first | exact (show False from q).elim | skip
    · obtain ⟨b, ws, rfl, f, g⟩ := rd.tup_inv
      exact mt_extendT pins s σ H _ _ u us _ I rv rvs ⟨_, b, ys, ws, rfl, rfl, g1, f, by rw [line_eq, ← g2.length, ← g.length]; exact q.1, .set ok e (g2.append g) .non q.2⟩
    · cases rd.ref_inv
      obtain ⟨zs, e2, q⟩ := lstAt_inv (st := st) q
      obtain ⟨ws, k1, k2⟩ := ok.lst e2
      exact L2.mt_extend pins s σ H _ _ u us _ I rv rvs ⟨_, _, ys, ws, rfl, rfl, g1, k1, by rw [line_eq, ← g2.length, ← k2.length]; exact q.1, .set ok e (g2.append k2) .non q.2⟩
  | [], q => exact (show False from q).elim
  | _ :: _ :: _, q => exact (show False from q).elim
theorem me_pop : MeR X "list" "list.pop" (methW .pop) := by
  intro pins s σ H st d ds v vs u us R I ok r rv rs rvs q
  cases d <;> first | exact (show False from q).elim | skip
  match ds, q with
  | [], q =>
    cases r.ref_inv
    cases rs
    obtain ⟨xs, e, q⟩ := lstAt_inv (st := st) q
    obtain ⟨ys, g1, g2⟩ := ok.lst e
    obtain ⟨d, e2, q⟩ := optK_inv q
    obtain ⟨w, k1, k2⟩ := g2.get e2
    exact L2.mt_pop pins s σ H _ _ u us _ I rv rvs ⟨_, ys, w, rfl, rfl, g1, by rw [← g2.length]; exact k1, .set ok e g2.dropLast k2 q⟩
  | _ :: _, q => exact (show False from q).elim
theorem rcv_ty {K : PySem.W.Frag} {m : MT} {st : Store} {d : D} {v : V} (hm : m ≠ .index) (ok : StOk K st H) (r : Rep K H d v) (h : rcvW m d st) : tyV K "list" v H := by
  unfold rcvW at h
  split at h
  all_goals first | (exact h.elim; done) | (exact absurd rfl hm; done) | skip
  all_goals
    cases r.ref_inv
    obtain ⟨ds, e, _⟩ := lstAt_inv h
    obtain ⟨vs, g, _⟩ := ok.lst e
    exact tyL g
end
section
variable {X : Cx} {C : CallT} {sub : Nat → Nat → Bool} {E : XK} {a b c e o : Expr} {x y z : Ex} {pos apos cpos : Pos}
theorem j_meth {m : MT} {name : Str} {id : String} {es : List Expr} {xs : List Ex} (hmi : m ≠ .index) (slot : Slot "list" name id) (hty : typeOf (.builtin id) = pure (.type "method_descriptor")) (hm : MeR X "list" id (methW m)) (ho : PE X o (tOf X.K (wpE C sub E x))) (ha : PA X (e :: es) (taOf X.K (wpEs C sub E xs)))
    (hbase : attributeBase o name X.env (eval o X.env) = eval o X.env)
    (hfew : ((backTo cpos (starEach (e :: es) X.env)).all (fun x => !x.1) && (backToKw cpos (keywordEach [] X.env)).all (fun x => x.1.isSome) && decide ((e :: es).length + ([] : List Keyword).length + (if ([] : List Keyword).isEmpty then 0 else 1) < 30)) = true) (hline : (apos.endLine == cpos.line) = true)
    (hs : starEach (e :: es) X.env = (false, eval e X.env) :: starEach es X.env) (hplain : (backTo cpos (starEach es X.env)).any (·.1) = false) :
    PE X (.Call (.Attribute o name apos) (e :: es) [] cpos) (tOf X.K (wpE C sub E (.meth m x xs))) :=
  (pe_bm PySem.F.plainAttrs_list slot hty hm.mt ho ha hbase hfew hline hs hplain).imp fun σ H Q ⟨σd, st, R, r, ok, q, hq⟩ => by
    refine ⟨σd, st, _, r, ok, q, fun v H1 ⟨d, st1, s1, ok1, r1, q1⟩ => ⟨rcv_ty hmi ok1 r1 q1.1, ?_⟩⟩
    refine ⟨σd, st1, _, r.step ok s1, ok1, q1.2, fun vs H2 ⟨ds, st2, s2, ok2, r2, q2⟩ => ?_⟩
    exact ⟨d, ds, st2, R, r1.step ok1 s2, r2, ok2, q2, fun v H' z => hq _ _ (.after (s1.trans s2) z)⟩
theorem j_meth0 {m : MT} {name : Str} {id : String} (hmi : m ≠ .index) (slot : Slot "list" name id) (hty : typeOf (.builtin id) = pure (.type "method_descriptor")) (hm : MeR X "list" id (methW m)) (ho : PE X o (tOf X.K (wpE C sub E x)))
    (hbase : attributeBase o name X.env (eval o X.env) = eval o X.env) (hline : (apos.endLine == cpos.line) = true) :
    PE X (.Call (.Attribute o name apos) [] [] cpos) (tOf X.K (wpE C sub E (.meth m x []))) :=
  (pe_bm0 PySem.F.plainAttrs_list slot hty hm.mt ho hbase hline).imp fun σ H Q ⟨σd, st, R, r, ok, q, hq⟩ => by
    refine ⟨σd, st, _, r, ok, q, fun v H1 ⟨d, st1, s1, ok1, r1, q1⟩ => ⟨rcv_ty hmi ok1 r1 q1.1, ?_⟩⟩
    exact ⟨d, [], st1, R, r1, .nil, ok1, q1.2, fun v H' z => hq _ _ (.after s1 z)⟩
inductive spOf (K : PySem.W.Frag) (C : CallT) (f : Nat) (vs : List V) (H : Hp) (Q : L2.VK) (E : L2.XK) : Prop where
  | mk (ds : List D) (st : Store) (R : VK) (r : Reps K H ds vs) (ok : StOk K st H) (q : C f ds st R (fun o' o' => False)) (hq : ∀ v H', QD K H st R v H' → Q v H') : spOf K C f vs H Q E
theorem j_call {CX : CXT} {k : Nat} {f : Addr} {fid : Nat} {fd : FuncData} {ps : List Str} {n : Str} {p : Pos} {es : List Expr} {xs : List Ex} (F : FnOk X.prog X.w X.K X.mg X.base CX k f fd ps (spOf X.K C fid)) (hr : Room k X.A) (hg : Gl X n) (hm : X.mg n = some (.ref f))
    (hk : PySem.W.keepIn X.K (.ref f) = true) (hb : Binds X.K fd ps []) (hx : Passes CX X E0) (ha : PA X (e :: es) (taOf X.K (wpEs C sub (fun o' o' => False) xs)))
    (hdb : (n == ("__debug__" : Str)) = false) (he : starEach (e :: es) X.env = (false, eval e X.env) :: starEach es X.env) (hpl : (backTo pos (starEach es X.env)).any (·.1) = false) :
    PE X (.Call (.Name n p) (e :: es) [] pos) (tOf X.K (wpE C sub (fun o' o' => False) (.call fid xs))) :=
  (pe_call F hr hg hm hk hb .nil hx ha hdb he hpl).imp fun σ H Q ⟨σd, st, R, r, ok, q, hq⟩ => by
    refine ⟨σd, st, _, r, ok, q, fun vs H1 ⟨ds, st1, s1, ok1, r1, q1⟩ => ?_⟩
    show spOf X.K C fid (vs ++ []) H1 Q E0
    rw [List.append_nil]
    exact ⟨ds, st1, R, r1, ok1, q1, fun v H' z => hq _ _ (.after s1 z)⟩
end
end L3
end
section
namespace L3
open PySem PySem.Spec PyProof.Rows L2
noncomputable abbrev EF : XK := fun o' o' => False
structure EndsOk (K : PySem.W.Frag) (H : Hp) (st : Store) (P : Post) (D : Ends) : Prop where
  nx : ∀ σ' H' σd' st', SRel K H' σd' σ' → Step H st H' st' → StOk K st' H' → P.nx σd' st' → D.nx σ' H'
  rt : ∀ v H', QD K H st P.rt v H' → D.rt v H'
  bk : ∀ σ' H' σd' st', SRel K H' σd' σ' → Step H st H' st' → StOk K st' H' → P.bk σd' st' → D.bk σ' H'
  ct : ∀ σ' H' σd' st', SRel K H' σd' σ' → Step H st H' st' → StOk K st' H' → P.ct σd' st' → D.ct σ' H'
  ex : ∀ c σd st, ¬ P.ex c σd st
theorem EndsOk.after {K : PySem.W.Frag} {H H1 : Hp} {st st1 : Store} {P : Post} {D : Ends} (h : EndsOk K H st P D) (s : Step H st H1 st1) : EndsOk K H1 st1 P D :=
  ⟨fun σ' H' σd' st' r t ok q => h.nx σ' H' σd' st' r (s.trans t) ok q, fun v H' z => h.rt v H' (.after s z), fun σ' H' σd' st' r t ok q => h.bk σ' H' σd' st' r (s.trans t) ok q, fun σ' H' σd' st' r t ok q => h.ct σ' H' σd' st' r (s.trans t) ok q, h.ex⟩
inductive tsOf (K : PySem.W.Frag) (ts : Post → St → Store → Prop) (D : Ends) (σ : L2.St) (H : Hp) : Prop where
  | mk (σd : St) (st : Store) (P : Post) (r : SRel K H σd σ) (ok : StOk K st H) (q : ts P σd st) (h : EndsOk K H st P D) : tsOf K ts D σ H
section
variable {X : Cx} {C : CallT} {sub : Nat → Nat → Bool} {a b c e : Expr} {x y z : Ex} {pos : Pos} {s : Stmt} {ss : List Stmt} {xs : List Sx} {sx : Sx}
theorem s_nil : PSs X [] (tsOf X.K (wpSs C sub [])) :=
  pss_nil.imp fun D σ H ⟨σd, st, P, r, ok, q, h⟩ => by
    exact h.nx _ _ _ _ r .refl ok q
theorem s_cons (h1 : PS X s (tsOf X.K (wpS C sub sx))) (h2 : PSs X ss (tsOf X.K (wpSs C sub xs))) : PSs X (s :: ss) (tsOf X.K (wpSs C sub (sx :: xs))) :=
  (pss_cons h1 h2).imp fun D σ H ⟨σd, st, P, r, ok, q, h⟩ => by
    exact ⟨σd, st, _, r, ok, q, ⟨fun σ' H' σd' st' r' s' ok' q' => ⟨σd', st', P, r', ok', q', h.after s'⟩, h.rt, h.bk, h.ct, h.ex⟩⟩
theorem toEF {P : Post} {σd : St} {st : Store} {x : Ex} {Q : VK} (hC : CMono C C) (he : ∀ c σd st, ¬ P.ex c σd st) (q : wpE C sub (fun c st' => P.ex c σd st') x σd st Q) : wpE C sub EF x σd st Q :=
  wpE_mono hC (fun c st z => he _ _ _ z) x (fun o' o' z => z) q
theorem toEFs {P : Post} {σd : St} {st : Store} {xs : List Ex} {Q : List D → Store → Prop} (hC : CMono C C) (he : ∀ c σd st, ¬ P.ex c σd st) (q : wpEs C sub (fun c st' => P.ex c σd st') xs σd st Q) : wpEs C sub EF xs σd st Q :=
  wpEs_mono hC (fun c st z => he _ _ _ z) xs (fun o' o' z => z) q
theorem s_ret (hC : CMono C C) (h : PE X e (tOf X.K (wpE C sub EF x))) : PS X (.Return (some e) pos) (tsOf X.K (wpS C sub (.ret x))) :=
  (ps_ret h).imp fun D σ H ⟨σd, st, P, r, ok, q, h⟩ => by
    exact ⟨σd, st, _, r, ok, toEF hC h.ex q, h.rt⟩
theorem s_ex (hC : CMono C C) (h : PE X e (tOf X.K (wpE C sub EF x))) (hs : swapsWith e none pos.line X.env = pure false) : PS X (.Expr e pos) (tsOf X.K (wpS C sub (.ex x))) :=
  (ps_expr h hs).imp fun D σ H ⟨σd, st, P, r, ok, q, h⟩ => by
    exact ⟨σd, st, _, r, ok, toEF hC h.ex q, fun v H' ⟨d, st', s', ok', _, q'⟩ => h.nx _ _ _ _ (r.step ok s') s' ok' q'⟩
theorem s_if {as bs : List Stmt} {ax bx : List Sx} (hC : CMono C C) (hc : PT X c (ttOf X.K (wpE C sub EF x))) (ha : PSs X as (tsOf X.K (wpSs C sub ax))) (hb : PSs X bs (tsOf X.K (wpSs C sub bx))) : PS X (.If c as bs pos) (tsOf X.K (wpS C sub (.iff x ax bx))) :=
  (ps_if hc ha hb).imp fun D σ H ⟨σd, st, P, r, ok, q, h⟩ => by
    refine ⟨σd, st, fun k st' => if k = true then wpSs C sub ax P σd st' else wpSs C sub bx P σd st', r, ok, toEF hC h.ex q, fun k H' ⟨st', s', ok', q'⟩ => ?_⟩
    cases k with
    | true => exact ⟨σd, st', P, r.step ok s', ok', q', h.after s'⟩
    | false => exact ⟨σd, st', P, r.step ok s', ok', q', h.after s'⟩
theorem s_rais {cl : Nat} {es : List Ex} (hC : CMono C C) (hn : ∀ σd st, ¬ wpEs C sub EF es σd st fun o' o' => False) : PS X s (tsOf X.K (wpS C sub (.rais cl es))) :=
  ps_never.imp fun D σ H ⟨σd, st, P, r, ok, q, h⟩ => by
    exact hn σd st (wpEs_mono hC (fun c st z => (h.ex _ _ _ z).elim) es (fun o' o' z => (h.ex _ _ _ z).elim) q)
inductive gOf (K : PySem.W.Frag) (g : D → St → Store → (St → Store → Prop) → Prop) (v : V) (σ : L2.St) (H : Hp) (Q : L2.St → Hp → Prop) : Prop where
  | mk (d : D) (σd : St) (st : Store) (M : St → Store → Prop) (r : Rep K H d v) (sr : SRel K H σd σ) (ok : StOk K st H) (q : g d σd st M) (hq : ∀ σ' H' σd' st', SRel K H' σd' σ' → Step H st H' st' → StOk K st' H' → M σd' st' → Q σ' H') : gOf K g v σ H Q
theorem _root_.L2.PG.imp {X : Cx} {e : Expr} {t t' : TG} (i : ∀ v σ H Q, t' v σ H Q → t v σ H Q) (h : PG X e t) : PG X e t' := fun pins s σ H v u Q I r q => h pins s σ H v u Q I r (i v σ H Q q)
theorem g_nm {E : XK} {i : Nat} (h : PG X e (gName i)) : PG X e (gOf X.K (tgW C sub E (.nm i))) :=
  h.imp fun v σ H Q ⟨d, σd, st, M, rd, r, ok, q, hq⟩ => by
    exact hq _ _ _ _ (r.set i rd) .refl ok q
theorem s_asg {tg : Expr} {t : Tg} (hC : CMono C C) (he : PE X e (tOf X.K (wpE C sub EF x))) (hg : PG X tg (gOf X.K (tgW C sub EF t)))
    (hs : swapsWithSole [tg] e pos.line X.env = pure false) (hw : swappedStores [tg] e X.env = pure none) (h1 : (assignEach [tg] X.env).map (·.2) = [assign tg X.env]) : PS X (.Assign [tg] e pos) (tsOf X.K (wpS C sub (.asg t x))) :=
  (ps_asg he hg hs hw h1).imp fun D σ H ⟨σd, st, P, r, ok, q, h⟩ => by
    refine ⟨σd, st, _, r, ok, toEF hC h.ex q, fun v H' ⟨d, st', s', ok', rd, q'⟩ => ?_⟩
    refine ⟨d, σd, st', P.nx, rd, r.step ok s', ok', tgW_mono hC (fun c st z => h.ex _ _ _ z) (fun o' o' z => z) t q', fun σ2 H2 σd2 st2 r2 s2 ok2 q2 => ?_⟩
    exact h.nx _ _ _ _ r2 (s'.trans s2) ok2 q2
theorem s_while {bs : List Stmt} {bx : List Sx} (hC : CMono C C) (hp : PassesOwn (model X.prog X.w) X.A X.env X.xe) (hc : PT X c (ttOf X.K (wpE C sub EF x))) (hb : PSs X bs (tsOf X.K (wpSs C sub bx))) : PS X (.While c bs [] pos) (tsOf X.K (wpS C sub (.whl x bx))) :=
  (ps_while hp hc hb).imp fun D σ H ⟨σd, st, P, r, ok, q, h⟩ => by
    obtain ⟨n, q⟩ := q
    refine ⟨fun m σ' H' => ∃ σd' st', SRel X.K H' σd' σ' ∧ Step H st H' st' ∧ StOk X.K st' H' ∧ whileN _ m σd' st', ⟨n, σd, st, r, .refl, ok, q⟩, fun m σ1 H1 ⟨σd1, st1, r1, s1, ok1, q1⟩ => ?_⟩
    cases m with
    | zero => exact q1.elim
    | succ m =>
      simp only [whileN] at q1
      refine ⟨σd1, st1, fun k st' => if k = true then wpSs C sub bx _ σd1 st' else P.nx σd1 st', r1, ok1, toEF hC h.ex q1, fun k H2 ⟨st2, s2, ok2, q2⟩ => ?_⟩
      cases k with
      | false => exact h.nx _ _ _ _ (r1.step ok1 s2) (s1.trans s2) ok2 q2
      | true =>
        refine ⟨fun σ' H' => ∃ σd' st', SRel X.K H' σd' σ' ∧ Step H st H' st' ∧ StOk X.K st' H' ∧ whileN _ m σd' st', fun σ' H' z => ⟨m, Nat.lt_succ_self _, z⟩, ?_⟩
        refine ⟨σd1, st2, _, r1.step ok1 s2, ok2, q2, ⟨fun σ' H' σd' st' r' s' ok' q' => ⟨σd', st', r', (s1.trans s2).trans s', ok', q'⟩, fun v H' z => h.rt _ _ (.after (s1.trans s2) z), fun σ' H' σd' st' r' s' ok' q' => h.nx _ _ _ _ r' ((s1.trans s2).trans s') ok' q',
          fun σ' H' σd' st' r' s' ok' q' => ⟨σd', st', r', (s1.trans s2).trans s', ok', q'⟩, h.ex⟩⟩
end
end L3
end
section
namespace L3
open PySem PySem.Spec PyProof.Rows L2
noncomputable def Its (x : Str) : It := ⟨fun i o' => i < x.cps.size, fun i H v H' => H' = H ∧ ∃ c, x.cps[i]? = some c ∧ v = .str ⟨#[c]⟩, fun i o' => x.cps.size ≤ i⟩
theorem turn_str {P : Program} {w : World} {K : PySem.W.Frag} {tg : Expr} (it : Addr) (x : Str) (t : Tok) (ty : String) (hty : ["enumerate", "zip", "dict_itemiterator", "dict_reverseitemiterator", "odict_iterator", "itertools.zip_longest", "itertools.pairwise"].contains ty = false)
    (W : ∀ A : Around, A.handled = none → Walks P w A it [it] [it] x.cps.size (SignAt x) (fun i h => h.IsStrIter it ty x t i))
    (hd : ∀ (A : Around) (i : Nat) (s : Shared) (Q : Option Value → Shared → Prop) (E : Value → Shared → Prop), A.handled = none → s.heap.IsStrIter it ty x t i → x.cps.size ≤ i → (∀ h', (∀ b o, b ≠ it → s.heap.get? b = some o → h'.get? b = some o) → Q none { s with heap := h' }) → wpAny (model P w) A (pyNext (.ref it)) Q E s)
    (hself : ∀ (A : Around) (i : Nat) (s : Shared) (Q : Value → Shared → Prop) (E : Value → Shared → Prop), s.heap.IsStrIter it ty x t i → Q (.ref it) s → wpAny (model P w) A (pyIter (.ref it)) Q E s) : Turn P w K tg (Its x) [it] it (fun i h => h.IsStrIter it ty x t i) where
  mem := by simp
  obj := fun i h st b hb => by
    have e : b = it := by simpa using hb
    subst e
    obtain ⟨o, e, c, d⟩ := st
    exact ⟨o, e, fun v z => by rw [d] at z; cases z⟩
  keep := fun i h h' st k => let ⟨o, e, r⟩ := st; ⟨o, k it (by simp) o e, r⟩
  item := by
    intro X hP hw hK hc i pins s σ H E I hf st hg
    subst hP hw hK
    obtain ⟨f0, f1, f2, f3, f4, f5⟩ := hf it (by simp)
    refine (W X.A (I.ok.hd hc)).item i s _ _ hg st fun v h' tk hv st' kk => ?_
    obtain ⟨c, u, hc', rfl⟩ := hv
    have I1 : Inv X pins σ H { s with heap := h', toks := tk } := I.turned (fun b o hb e => kk b o (by simpa using hb) e) f0 f1 f3 f4 f5
    obtain ⟨o, e, c1, d⟩ := id st'
    exact ⟨_, rfl, go_of (s := { s with heap := h', toks := tk }) e c1 d hty ⟨.str ⟨#[c]⟩, H, I1, ⟨u, rfl⟩, ⟨rfl, c, hc', rfl⟩, st', fun b hb => (hf b hb).1⟩⟩
  done := by
    intro X hP hw hK hc i pins s σ H E I hf st hg
    subst hP hw hK
    obtain ⟨f0, f1, f2, f3, f4, f5⟩ := hf it (by simp)
    exact hd X.A i s _ _ (I.ok.hd hc) st hg fun h' eb => ⟨rfl, I.turned (t' := s.toks) (fun b o hb e => eb b o hb e) f0 f1 f3 f4 f5⟩
  self := fun A i s Q E st h => hself A i s Q E st h
structure JOk (K : PySem.W.Frag) (J : It) (as : List Nat) (xs : List D) (H1 : Hp) (st1 : Store) : Prop where
  go : ∀ i H st d, Step H1 st1 H st → StOk K st H → same as st1 st → xs[i]? = some d → J.go i H
  yld : ∀ i H st d x H', Step H1 st1 H st → StOk K st H → same as st1 st → xs[i]? = some d → J.yld i H x H' → Step H st H' st ∧ StOk K st H' ∧ Rep K H' d x
  stop : ∀ i H st, Step H1 st1 H st → StOk K st H → same as st1 st → xs.length ≤ i → J.stop i H
inductive QJ (K : PySem.W.Frag) (H : Hp) (st : Store) (M : List Nat → List D → Store → Prop) (J : It) (H1 : Hp) : Prop where
  | mk (as : List Nat) (xs : List D) (st1 : Store) (s : Step H st H1 st1) (ok : StOk K st1 H1) (j : JOk K J as xs H1 st1) (q : M as xs st1) : QJ K H st M J H1
inductive tiOf (K : PySem.W.Frag) (te : St → Store → (List Nat → List D → Store → Prop) → Prop) (σ : L2.St) (H : Hp) (R : It → Hp → Prop) : Prop where
  | mk (σd : St) (st : Store) (M : List Nat → List D → Store → Prop) (r : SRel K H σd σ) (ok : StOk K st H) (q : te σd st M) (hq : ∀ J H1, QJ K H st M J H1 → R J H1) : tiOf K te σ H R
section
variable {K : PySem.W.Frag} {H1 : Hp} {st1 : Store} {a : Addr} {xs : List D} {vs : List V}
theorem jok_tup (ok1 : StOk K st1 H1) (f : SqT K H1 a vs) (g : Reps K H1 xs vs) : JOk K (Itt K a) [] xs H1 st1 where
  go := fun i H st d s ok o' e => let ⟨v, e1, _⟩ := g.get e; ⟨vs, v, sqT_step ok1 s f, e1⟩
  yld := fun i H st d x H' s ok _ e ⟨e', h⟩ => by
    subst e'
    obtain ⟨v, e1, e2⟩ := g.get e
    have := h vs (sqT_step ok1 s f)
    rw [e1] at this; cases this
    exact ⟨.refl, ok, e2.step ok1 s⟩
  stop := fun i H st s ok o' l => ⟨vs, sqT_step ok1 s f, by rw [← g.length]; exact l⟩
theorem jok_mlst (ok1 : StOk K st1 H1) (f : FrzL K H1 a vs) (g : Reps K H1 xs vs) : JOk K (Itl K a) [] xs H1 st1 where
  go := fun i H st d s ok o' e => let ⟨v, e1, _⟩ := g.get e; ⟨vs, v, (frzL_step ok1 s f).sq, e1⟩
  yld := fun i H st d x H' s ok _ e ⟨e', h⟩ => by
    subst e'
    obtain ⟨v, e1, e2⟩ := g.get e
    have := h vs (frzL_step ok1 s f).sq
    rw [e1] at this; cases this
    exact ⟨.refl, ok, e2.step ok1 s⟩
  stop := fun i H st s ok o' l => ⟨vs, (frzL_step ok1 s f).sq, by rw [← g.length]; exact l⟩
theorem jok_lst (ok1 : StOk K st1 H1) (e0 : st1 a = some (.lst xs)) : JOk K (Itl K a) [a] xs H1 st1 where
  go := fun i H st d s ok sm e => by
    have e' : st a = some (.lst xs) := (sm a (by simp)).trans e0
    obtain ⟨us, g1, g2⟩ := ok.lst e'
    obtain ⟨v, e1, _⟩ := g2.get e
    exact ⟨us, v, SqL.of g1, e1⟩
  yld := fun i H st d x H' s ok sm e ⟨e', h⟩ => by
    subst e'
    have e' : st a = some (.lst xs) := (sm a (by simp)).trans e0
    obtain ⟨us, g1, g2⟩ := ok.lst e'
    obtain ⟨v, e1, e2⟩ := g2.get e
    have := h us (SqL.of g1)
    rw [e1] at this; cases this
    exact ⟨.refl, ok, e2⟩
  stop := fun i H st s ok sm l => by
    have e' : st a = some (.lst xs) := (sm a (by simp)).trans e0
    obtain ⟨us, g1, g2⟩ := ok.lst e'
    exact ⟨us, SqL.of g1, by rw [← g2.length]; exact l⟩
theorem jok_range (lo : Int) (n : Nat) : JOk K (Itr lo n) [] (rangeD lo n) H1 st1 where
  go := fun i H st d s ok o' e => by
    have := (List.getElem?_eq_some_iff.mp e).1
    show i < n
    simpa [rangeD] using this
  yld := fun i H st d x H' s ok _ e ⟨e', h⟩ => by
    subst e' h
    simp only [rangeD, List.getElem?_map, Option.map_eq_some_iff] at e
    obtain ⟨k, e1, rfl⟩ := e
    have : k = i := by
      rw [List.getElem?_eq_some_iff] at e1
      obtain ⟨_, e2⟩ := e1
      simp at e2
      exact e2.symm
    subst this
    exact ⟨.refl, ok, .int _⟩
  stop := fun i H st s ok o' l => by show n ≤ i; simpa [rangeD] using l
theorem jok_str (x : List Nat) : JOk K (Its ⟨x.toArray⟩) [] (x.map fun c => .str [c]) H1 st1 where
  go := fun i H st d s ok o' e => by
    have := (List.getElem?_eq_some_iff.mp e).1
    show i < (⟨x.toArray⟩ : Str).cps.size
    simpa using this
  yld := fun i H st d v H' s ok _ e ⟨e', c, ec, ev⟩ => by
    subst e' ev
    simp only [List.getElem?_map, Option.map_eq_some_iff] at e
    obtain ⟨c', e1, rfl⟩ := e
    have : c = c' := by
      have ec : x.toArray[i]? = some c := ec
      simp at ec
      rw [ec] at e1; exact Option.some.inj e1
    subst this
    exact ⟨.refl, ok, .str [c]⟩
  stop := fun i H st s ok o' l => by
    show (⟨x.toArray⟩ : Str).cps.size ≤ i
    simpa using l
end
section
variable {X : Cx} {C : CallT} {sub : Nat → Nat → Bool} {a b c e tg : Expr} {x y z : Ex} {pos : Pos}
theorem _root_.L2.PI.imp {X : Cx} {tg e : Expr} {t t' : TI} (i : ∀ σ H Q, t' σ H Q → t σ H Q) (h : PI X tg e t) : PI X tg e t' := fun pins s σ H Q I q => h pins s σ H Q I (i σ H Q q)
theorem pi_val {E : XK} (h : PE X e (tOf X.K (wpE C sub E x))) : PI X tg e (tiOf X.K fun σ st M => wpEs C sub E [x] σ st fun ds st1 => itrW none ds st1 fun as xs => M as xs st1) := by
  intro pins s σ H R I ⟨σd, st, M, r, ok, q, hq⟩
  refine thn (h pins s σ H _ I ⟨σd, st, _, r, ok, q, fun v H' z => z⟩) fun u s1 ⟨v, H1, I1, rv, d, st1, s1s, ok1, r1, q1⟩ => ?_
  have fresh : ∀ {b : Addr}, b ∈ [s1.heap.objs.size] → FpOk X pins H1 b := fun {b} hb => by
    have e : b = s1.heap.objs.size := by simpa using hb
    subst e
    exact I1.fpOk (Nat.le_refl _) (I1.hok.fresh (Nat.le_refl _))
  have tup : ∀ (a : Addr) (vs : List V) (as : List Nat) (xs : List D), v = .ref a → SqT X.K H1 a vs → JOk X.K (Itt X.K a) as xs H1 st1 → M as xs st1 → wpAny (model X.prog X.w) X.A (pyIter u) (PIE X pins σ tg R) X.xe s1 := by
    intro a vs as xs e f j q
    subst e
    cases rv
    obtain ⟨its, rr, p, hz⟩ := I1.tuple f
    exact wpAny_pyIter_tuple (show s1.heap.IsTuple a its.toArray from p) ⟨s1.heap.objs.size, [s1.heap.objs.size], _, _, H1, rfl, I1.kept (t' := s1.toks) fun b o e => Heap.get?_push_of_some _ e, turn_tuple a _, ⟨_, Heap.get?_push_size _ rfl, rfl, rfl⟩, fun b hb => fresh hb, hq _ _ ⟨as, xs, st1, s1s, ok1, j, q⟩⟩
  have lst : ∀ (a : Addr) (vs : List V) (as : List Nat) (xs : List D), v = .ref a → SqL X.K H1 a vs → JOk X.K (Itl X.K a) as xs H1 st1 → M as xs st1 → wpAny (model X.prog X.w) X.A (pyIter u) (PIE X pins σ tg R) X.xe s1 := by
    intro a vs as xs e f j q
    subst e
    cases rv
    obtain ⟨its, rr, p, hz⟩ := I1.list f
    exact wpAny_pyIter_list p.isList ⟨s1.heap.objs.size, [s1.heap.objs.size], _, _, H1, rfl, I1.kept (t' := s1.toks) fun b o e => Heap.get?_push_of_some _ e, turn_list a _, ⟨_, Heap.get?_push_size _ rfl, rfl, rfl⟩, fun b hb => fresh hb, hq _ _ ⟨as, xs, st1, s1s, ok1, j, q⟩⟩
  have q1 : iterW d st1 fun as xs => M as xs st1 := q1
  cases d with
  | tup ds =>
    obtain ⟨a, vs, e, f, g⟩ := r1.tup_inv
    exact tup a vs _ _ e f (jok_tup ok1 f g) q1
  | str z =>
    have q1 : z.length ≤ LINE ∧ M [] (z.map fun c => .str [c]) st1 := q1
    cases r1.str_inv
    obtain ⟨t, rfl⟩ := rv
    cases ha : (⟨z.toArray⟩ : Str).cps.all (· < 128)
    · exact wpAny_pyIter_wide ha ⟨s1.heap.objs.size, [s1.heap.objs.size], _, Its ⟨z.toArray⟩, H1, rfl, I1.kept (t' := s1.toks) fun b o e => Heap.get?_push_of_some _ e,
        turn_str s1.heap.objs.size ⟨z.toArray⟩ t "str_iterator" (by decide) (fun A hA => Walks.strWide hA _ _ t) (fun A i s Q E hA hi hn hQ => wpAny_pyNext_wide_end hA hi (by simpa using hn) fun h' he => hQ h' he) (fun A i s Q E hi hQ => wpAny_pyIter_striter_wide hi hQ),
        ⟨_, Heap.get?_push_size _ rfl, rfl, rfl⟩, fun b hb => fresh hb, hq _ _ ⟨_, _, st1, s1s, ok1, jok_str z, q1.2⟩⟩
    · exact wpAny_pyIter_ascii ha ⟨s1.heap.objs.size, [s1.heap.objs.size], _, Its ⟨z.toArray⟩, H1, rfl, I1.kept (t' := s1.toks) fun b o e => Heap.get?_push_of_some _ e,
        turn_str s1.heap.objs.size ⟨z.toArray⟩ t "str_ascii_iterator" (by decide) (fun A hA => Walks.strAscii hA _ _ t) (fun A i s Q E hA hi hn hQ => wpAny_pyNext_ascii_end hA hi (by simpa using hn) fun h' he => hQ h' he) (fun A i s Q E hi hQ => wpAny_pyIter_striter_ascii hi hQ),
        ⟨_, Heap.get?_push_size _ rfl, rfl, rfl⟩, fun b hb => fresh hb, hq _ _ ⟨_, _, st1, s1s, ok1, jok_str z, q1.2⟩⟩
  | ref a =>
    cases r1.ref_inv
    obtain ⟨ds, e, q1⟩ := lstAt_inv (st := st1) q1
    obtain ⟨vs, g1, g2⟩ := ok1.lst e
    exact lst _ vs _ _ rfl (SqL.of g1) (jok_lst ok1 e) q1
  | mlst ds =>
    obtain ⟨a, vs, e, f, g⟩ := r1.mlst_inv
    exact lst a vs _ _ e f.sq (jok_mlst ok1 f g) q1
  | _ => exact (show False from q1).elim
theorem pi_rng1 {E : XK} {p : Pos} (hC : CMono C C) (hg : Gl X "range") (hm : X.mg "range" = none) (ha : PA X [a] (taOf X.K (wpEs C sub E [x]))) (hs : starEach [a] X.env = [(false, eval a X.env)]) :
    PI X tg (.Call (.Name "range" p) [a] [] pos) (tiOf X.K fun σ st M => wpEs C sub E [x] σ st fun ds st1 => itrW (some .range) ds st1 fun as xs => M as xs st1) :=
  (pi_range1 hg hm ha hs).imp fun σ H R ⟨σd, st, M, r, ok, q, hq⟩ => by
    refine ⟨σd, st, _, r, ok, wpEs_len [x] hC q, fun vs H1 ⟨ds, st1, s1, ok1, r1, l1, q1⟩ => ?_⟩
    match ds, l1, q1 with
    | [d], _, q1 =>
      obtain ⟨v, rfl, rd⟩ := r1.one
      have q1 : itrW (some .range) [d] st1 fun as xs => M as xs st1 := q1
      cases d with
      | int j =>
        cases rd.int_inv
        exact ⟨j, rfl, q1.1.1, q1.1.2, hq _ _ ⟨_, _, st1, s1, ok1, jok_range 0 _, q1.2⟩⟩
      | _ => exact (show False from q1).elim
theorem s_for {k : Option IK} {its : List Ex} {iter : Expr} {t : Tg} {bs : List Stmt} {bx : List Sx} (hC : CMono C C) (hp : PassesOwn (model X.prog X.w) X.A X.env X.xe) (hc : X.calm = true)
    (hi : PI X tg iter (tiOf X.K fun σ st M => wpEs C sub EF its σ st fun ds st1 => itrW k ds st1 fun as xs => M as xs st1)) (hg : PG X tg (gOf X.K (tgW C sub EF t))) (hb : PSs X bs (tsOf X.K (wpSs C sub bx)))
    (hs : ∀ x, foldedSetIterable iter X.env x = pure x) : PS X (.For tg iter bs [] pos) (tsOf X.K (wpS C sub (.forr t k its bx))) :=
  (ps_for hp hc hi hg hb hs).imp fun DD σ H ⟨σd, st, P, r, ok, q, h⟩ => by
    refine ⟨σd, st, _, r, ok, toEFs hC h.ex q, fun J H1 ⟨as, xs, st1, s1, ok1, j, q1⟩ => ?_⟩
    refine ⟨fun i m σ' H' => ∃ σd' st', SRel X.K H' σd' σ' ∧ Step H1 st1 H' st' ∧ StOk X.K st' H' ∧ m + i = xs.length ∧ forW (same as st1) (fun (x : L3.D) next σ st => tgW C sub (fun c st' => P.ex c σ st') t x σ st fun σ' st' => wpSs C sub bx { P with nx := next, ct := next, bk := P.nx } σ' st') P.nx (xs.drop i) σd' st', ⟨xs.length, σd, st1, r.step ok s1, .refl, ok1, by omega, by simpa using q1⟩, fun i m σ2 H2 ⟨σd2, st2, r2, s2, ok2, e2, q2⟩ => ?_⟩
    by_cases hi' : i < xs.length
    · have ed : xs.drop i = xs[i] :: xs.drop (i + 1) := List.drop_eq_getElem_cons hi'
      rw [ed] at q2
      obtain ⟨g2, q2⟩ := q2
      refine .inr ⟨j.go i H2 st2 xs[i] s2 ok2 g2 (List.getElem?_eq_getElem hi'), fun σ' H' => ∃ σd' st', SRel X.K H' σd' σ' ∧ Step H1 st1 H' st' ∧ StOk X.K st' H' ∧ forW (same as st1) (fun (x : L3.D) next σ st => tgW C sub (fun c st' => P.ex c σ st') t x σ st fun σ' st' => wpSs C sub bx { P with nx := next, ct := next, bk := P.nx } σ' st') P.nx (xs.drop (i + 1)) σd' st',
        fun σ' H' ⟨σd', st', r', s', ok', q'⟩ => ⟨m - 1, by omega, σd', st', r', s', ok', by omega, q'⟩, fun v H3 y3 => ?_⟩
      obtain ⟨s3, ok3, r3⟩ := j.yld i H2 st2 xs[i] v H3 s2 ok2 g2 (List.getElem?_eq_getElem hi') y3
      refine ⟨xs[i], σd2, st2, _, r3, r2.step ok2 s3, ok3, tgW_mono hC (fun c st z => h.ex _ _ _ z) (fun o' o' z => z) t q2, fun σ4 H4 σd4 st4 r4 s4 ok4 q4 => ?_⟩
      refine ⟨σd4, st4, _, r4, ok4, q4, ⟨fun σ' H' σd' st' r' s' ok' q' => ⟨σd', st', r', ((s2.trans s3).trans s4).trans s', ok', q'⟩, fun v H' z => h.rt _ _ (.after (((s1.trans s2).trans s3).trans s4) z),
        fun σ' H' σd' st' r' s' ok' q' => h.nx _ _ _ _ r' ((((s1.trans s2).trans s3).trans s4).trans s') ok' q', fun σ' H' σd' st' r' s' ok' q' => ⟨σd', st', r', ((s2.trans s3).trans s4).trans s', ok', q'⟩, h.ex⟩⟩
    · have ed : xs.drop i = [] := List.drop_eq_nil_of_le (by omega)
      rw [ed] at q2
      exact .inl ⟨j.stop i H2 st2 s2 ok2 q2.1 (by omega), h.nx _ _ _ _ r2 (s1.trans s2) ok2 q2.2⟩
end
end L3
end
section
namespace L3
open PySem PySem.Spec PyProof.Rows L2
section
variable {X : Cx} {C : CallT} {sub : Nat → Nat → Bool} {a b c e o i tg : Expr} {x y z : Ex} {pos : Pos}
noncomputable def setsV (is : List Nat) (vs : List V) (σ : L2.St) : L2.St := (is.zip vs).foldl (fun σ p => σ.set p.1 (some p.2)) σ
noncomputable def gNames (is : List Nat) : TGs := fun vs σ H Q => vs.length = is.length ∧ Q (setsV is vs σ) H
theorem gs_nil : PGs X [] (gNames []) := fun pins s σ H vs us Q I r h => by
  have : vs = [] := List.length_eq_zero_iff.mp h.1
  subst this
  exact pgs_nil pins s σ H [] us Q I r ⟨rfl, h.2⟩
theorem gs_cons {es : List Expr} {i : Nat} {is : List Nat} (h1 : PG X e (gName i)) (h2 : PGs X es (gNames is)) (hs : (assignEach (e :: es) X.env).map (·.2) = assign e X.env :: (assignEach es X.env).map (·.2)) : PGs X (e :: es) (gNames (i :: is)) := fun pins s σ H vs us Q I r h => by
  obtain ⟨hl, h⟩ := h
  cases vs with
  | nil => simp at hl
  | cons v vs => exact pgs_cons h1 h2 hs pins s σ H (v :: vs) us Q I r ⟨v, vs, rfl, by simpa using hl, h⟩
theorem SRel.sets {K : PySem.W.Frag} {H : Hp} : ∀ (is : List Nat) {ds : List D} {vs : List V} {σd : St} {σ : L2.St}, SRel K H σd σ → Reps K H ds vs → SRel K H ((is.zip ds).foldl (fun σ p => σ.set p.1 (some p.2)) σd) (setsV is vs σ)
  | [], _, _, _, _, r, _ => by simpa [setsV] using r
  | _ :: _, _, _, _, _, r, .nil => by simpa [setsV] using r
  | i :: is, _, _, _, _, r, .cons h t => by
    have := SRel.sets is (r.set i h) t
    simpa [setsV] using this
theorem g_tp {E : XK} {es : List Expr} {k : Nat} {is : List Nat} (hc : X.calm = true) (h : PGs X es (gNames is)) (hn : (assignEach es X.env).length = is.length) (hst : (assignEach es X.env).findIdx? (·.1) = none) :
    PG X (.Tuple es k pos) (gOf X.K (tgW C sub E (.tp is))) :=
  (pg_tup hc h hn hst).imp fun v σ H Q ⟨d, σd, st, M, rd, r, ok, q, hq⟩ => by
    cases d with
    | tup ds0 =>
      have q : ds0.length = is.length ∧ M _ st := q
      obtain ⟨a, vs, rfl, f, g⟩ := rd.tup_inv
      exact ⟨a, vs, rfl, f, by rw [← g.length]; exact q.1, by rw [← g.length]; exact q.1, hq _ _ _ _ (r.sets is g) .refl ok q.2⟩
    | _ => exact (show False by cases is <;> exact q).elim
theorem g_ix {E : XK} (ho : PE X o (tOf X.K (wpE C sub E x))) (hi : PE X i (tOf X.K (wpE C sub E y)))
    (ha : ∀ v, assign (.Subscript o i pos) X.env v = (do
      let ov ← holding [v] (eval o X.env)
      let iv ← holding [v, ov] (eval i X.env)
      standAt pos
      holding [v, ov, iv] (setItem ov iv v)
      release [v, ov, iv] [])) : PG X (.Subscript o i pos) (gOf X.K (tgW C sub E (.ix x y))) :=
  (pg_sub ho hi set_list ha).imp fun v σ H Q ⟨d, σd, st, M, rd, r, ok, q, hq⟩ => by
    refine ⟨σd, st, _, r, ok, q, fun v1 H1 ⟨d1, st1, s1, ok1, r1, q1⟩ => ?_⟩
    refine ⟨σd, st1, _, r.step ok s1, ok1, q1, fun v2 H2 ⟨d2, st2, s2, ok2, r2, q2⟩ => ?_⟩
    have r1' := r1.step ok1 s2
    have rd' := (rd.step ok s1).step ok1 s2
    have q2 : setW d1 d2 d st2 fun st3 => M σd st3 := q2
    cases d1 <;> first | exact (show False from q2).elim | skip
    cases d2 <;> first | exact (show False from q2).elim | skip
    cases r1'.ref_inv
    cases r2.int_inv
    rw [set_ref] at q2
    obtain ⟨xs, e, q2⟩ := lstAt_inv q2
    obtain ⟨j, ej, q2⟩ := optK_inv q2
    obtain ⟨vs, g1, g2⟩ := ok2.lst e
    refine ⟨_, vs, _, j, rfl, rfl, g1, by rw [← g2.length]; exact ej, ?_⟩
    have s3 := step_set (H := H2) (st := st2) (o := .lst (vs.set j v)) (m' := .lst (xs.set j d)) e
    exact hq _ _ _ _ (((r.step ok s1).step ok1 s2).step ok2 s3) ((s1.trans s2).trans s3) (ok2.set e (g2.set rd' j)) q2
end
end L3
end
section
namespace L3
open PySem PySem.Spec PyProof.Rows L2
noncomputable def clOf (cells : List (Str × Addr)) : List (Str × NameKind) → List (Str × Addr) → List (Str × Addr)
  | [], cs => cs
  | (n, k) :: r, cs => clOf cells r (if k == .free then (n, (cells.lookup n).getD 0) :: cs else cs)
theorem closure_eq {env : Env} : ∀ (names : List (Str × NameKind)) (cs : List (Str × Addr)), (∀ p ∈ names, p.2 = .free → ∃ c, env.cells.lookup p.1 = some c) →
    (forIn names cs fun (p : Str × NameKind) (cs : List (Str × Addr)) => (if p.2 == .free then do let c ← cellOf env p.1; pure (ForInStep.yield ((p.1, c) :: cs)) else pure (ForInStep.yield cs) : Sem (ForInStep (List (Str × Addr))))) = pure (clOf env.cells names cs)
  | [], cs, _ => by simp [clOf]
  | (n, k) :: r, cs, h => by
    have ih := fun cs => closure_eq r cs fun p hp => h p (List.mem_cons_of_mem _ hp)
    simp only [List.forIn_cons, clOf]
    cases e : (k == NameKind.free) with
    | true =>
      obtain ⟨c, hc⟩ := h (n, k) (List.mem_cons_self ..) (by simpa using e)
      have hc : env.cells.lookup n = some c := hc
      simp only [if_true, cellOf, hc, Option.getD_some, pure_bind]
      exact ih _
    | false =>
      simp only [Bool.false_eq_true, if_false, pure_bind]
      exact ih _
theorem closureFor_eq {env : Env} {scope : Scope} (h : ∀ p ∈ scope.names, p.2 = .free → ∃ c, env.cells.lookup p.1 = some c) : closureFor scope env = pure (clOf env.cells scope.names []) := by
  rw [← closure_eq scope.names [] h]
  unfold closureFor
  simp only [bind_pure]
set_option tactic.hygienic true in
theorem clOf_sub {cells : List (Str × Addr)} : ∀ (names : List (Str × NameKind)) (cs : List (Str × Addr)) {x : Str} {c : Addr}, (∀ p ∈ names, p.2 = .free → ∃ c, cells.lookup p.1 = some c) → (∀ x c, cs.lookup x = some c → cells.lookup x = some c) → (clOf cells names cs).lookup x = some c → cells.lookup x = some c
  | [], cs, x, c, _, h, e => h x c e
  | (n, k) :: r, cs, x, c, hn, h, e => by
    simp only [clOf] at e
    refine clOf_sub r _ (fun p hp => hn p (List.mem_cons_of_mem _ hp)) (fun y d ed => ?_) e
    split at ed
    · rename_i hk
      obtain ⟨c', hc'⟩ := hn (n, k) (List.mem_cons_self ..) (by simpa using hk)
      have hc' : cells.lookup n = some c' := hc'
      rw [List.lookup_cons] at ed
      split at ed
      · rename_i q
        have q : y = n := by simpa using q
        subst q
        rw [hc'] at ed ⊢
        simpa using ed
      · exact h y d ed
    · exact h y d ed
theorem clOf_keep {cells : List (Str × Addr)} : ∀ (names : List (Str × NameKind)) (cs : List (Str × Addr)) {x : Str}, (∃ c, cs.lookup x = some c) → ∃ c, (clOf cells names cs).lookup x = some c
  | [], cs, x, h => h
  | (n, k) :: r, cs, x, h => by
    simp only [clOf]
    refine clOf_keep r _ ?_
    split
    · rw [List.lookup_cons]
      split
      · exact ⟨_, rfl⟩
      · exact h
    · exact h
set_option tactic.hygienic true in
theorem clOf_has {cells : List (Str × Addr)} : ∀ (names : List (Str × NameKind)) (cs : List (Str × Addr)) {x : Str}, names.lookup x = some .free → ∃ c, (clOf cells names cs).lookup x = some c
  | [], cs, x, h => by simp at h
  | (n, k) :: r, cs, x, h => by
    simp only [clOf]
    rw [List.lookup_cons] at h
    split at h
    · rename_i q
      cases h
      refine clOf_keep r _ ?_
      simp only [beq_self_eq_true, if_true]
      rw [List.lookup_cons, q]
      exact ⟨_, rfl⟩
    · exact clOf_has r _ h
theorem relabel_kind {env : Env} : ∀ {names : List (Str × NameKind)} {x : Str} {k : NameKind}, (names.map fun (n, k) => if (k == NameKind.free && env.scope.kind == .function && env.kindOf n == some .cell) then (n, NameKind.cell) else (n, k)).lookup x = some k → ∃ k', names.lookup x = some k' ∧ (k' = k ∨ (k' = .free ∧ k = .cell))
  | [], x, k, h => by simp at h
  | (n, k0) :: r, x, k, h => by
    simp only [List.map_cons] at h
    cases q : (x == n) with
    | true =>
      refine ⟨k0, by simp only [List.lookup_cons, q], ?_⟩
      by_cases hc : (k0 == NameKind.free && env.scope.kind == .function && env.kindOf n == some .cell) = true
      · simp only [hc, if_true, List.lookup_cons, q] at h
        cases h
        simp only [Bool.and_eq_true] at hc
        exact .inr ⟨by simpa using hc.1.1, rfl⟩
      · simp only [hc, if_false, List.lookup_cons, q, Bool.false_eq_true] at h
        cases h
        exact .inl rfl
    | false =>
      simp only [List.lookup_cons, q]
      refine relabel_kind (env := env) (names := r) ?_
      by_cases hc : (k0 == NameKind.free && env.scope.kind == .function && env.kindOf n == some .cell) = true
      · simp only [hc, if_true, List.lookup_cons, q] at h
        exact h
      · simp only [hc, if_false, List.lookup_cons, q, Bool.false_eq_true] at h
        exact h
set_option tactic.hygienic true in
theorem relabel_free {env : Env} : ∀ {names : List (Str × NameKind)} {x : Str}, names.lookup x = some .free → (names.map fun (n, k) => if (k == NameKind.free && env.scope.kind == .function && env.kindOf n == some .cell) then (n, NameKind.cell) else (n, k)).lookup x = some .cell ∨ (names.map fun (n, k) => if (k == NameKind.free && env.scope.kind == .function && env.kindOf n == some .cell) then (n, NameKind.cell) else (n, k)).lookup x = some .free
  | [], x, h => by simp at h
  | (n, k0) :: r, x, h => by
    simp only [List.map_cons]
    rw [List.lookup_cons] at h
    split at h
    · rename_i q; cases h
      split
      · exact .inl (by rw [List.lookup_cons, q])
      · exact .inr (by rw [List.lookup_cons, q])
    · rename_i q
      split
      · rw [List.lookup_cons, q]; exact relabel_free h
      · rw [List.lookup_cons, q]; exact relabel_free h
structure CompSc (X : Cx) (scope : Scope) (cn : List Str) (caps : List Nat) : Prop where
  kind : scope.kind = .function
  nocell : ∀ y ∈ scope.names, y.2 ≠ .cell
  names : ∀ y ∈ scope.names, y.2 = .local → scope.names.lookup y.1 = some .local
  free : ∀ y ∈ scope.names, y.2 = .free → X.env.kindOf y.1 = some .cell ∨ X.env.kindOf y.1 = some .free
  len : cn.length = caps.length
  cap : ∀ (j : Nat) (y : Str), cn[j]? = some y → scope.names.lookup y = some .free ∧ ∃ i, caps[j]? = some i ∧ X.N[i]? = some y ∧ (X.env.kindOf y = some .cell ∨ X.env.kindOf y = some .free)
noncomputable def cxC (X : Cx) (scope : Scope) (own cn : List Str) (fp : List Addr) (s : Shared) (H : Hp) (Ca : Addr) : Cx :=
  { X with N := own ++ cn, s₀ := s, H₀ := H, env := compEnvC scope (clOf X.env.cells scope.names []) Ca X.env, outer := X.stack, ex := fp, fn := fun o' => false, calm := true, pn := [], xe := fun o' o' => False }
noncomputable def capV (caps : List Nat) (σ : L2.St) : L2.St := caps.map fun i => (σ[i]?).getD none
section
variable {X : Cx} {scope : Scope} {own cn : List Str} {caps : List Nat} {fp : List Addr} {pins : List (Addr × Obj)} {σ : L2.St} {H : Hp} {s : Shared}
theorem CompSc.cells (S : CompSc X scope cn caps) (ok : X.Ok) : ∀ p ∈ scope.names, p.2 = .free → ∃ c, X.env.cells.lookup p.1 = some c := fun p hp e => ok.has p.1 (S.free p hp e)
theorem block_ok (S : CompSc X scope cn caps) (hc : X.calm = true) (I : Inv X pins σ H s) (hf : ∀ b ∈ fp, FpOk X pins H b) (hlt : ∀ b ∈ fp, b < s.heap.objs.size) {Ca : Addr} (hC : s.heap.objs.size ≤ Ca) : (cxC X scope own cn fp s H Ca).Ok where
  mod := I.ok.mod
  kind := S.kind
  glob := I.ok.glob
  blt := I.ok.blt
  above := hC
  inj := fun x y c h1 h2 => I.ok.inj x y c (clOf_sub _ [] (S.cells I.ok) (fun o' o' h => by simp at h) h1) (clOf_sub _ [] (S.cells I.ok) (fun o' o' h => by simp at h) h2)
  has := fun x h => by
    refine clOf_has _ [] ?_
    rcases h with h | h
    · obtain ⟨k, e, r⟩ := relabel_kind (env := X.env) (show List.lookup x (List.map _ scope.names) = _ from h)
      rcases r with rfl | ⟨rfl, _⟩
      · exact absurd rfl (S.nocell _ (PySem.mem_of_lookup e))
      · exact e
    · obtain ⟨k, e, r⟩ := relabel_kind (env := X.env) (show List.lookup x (List.map _ scope.names) = _ from h)
      rcases r with rfl | ⟨rfl, r⟩
      · exact e
      · cases r
  cab := fun x c h o' => by cases h
  hd := fun o' => I.ok.hd hc
  frames := I.ok.frames
  stk := .inl rfl
  exf := fun b hb => ⟨fun e => absurd (hlt b hb) (by rw [e]; exact Nat.not_lt.mpr hC), fun x c h => (hf b hb).2.2.2.2.1 x c (clOf_sub _ [] (S.cells I.ok) (fun o' o' h => by simp at h) h)⟩
  bs := I.bs
  bsz := Nat.le_trans I.ok.bsz I.sz
  noex := fun b o e hb => by
    rcases (hf b hb).2.2.2.1 with z | z
    · exact I.ok.noex b o e z
    · exact absurd (Nat.lt_of_lt_of_le (Heap.lt_size e) (Nat.le_trans I.ok.bsz z)) (Nat.lt_irrefl _)
  exfs := fun b hb z => by
    rcases List.mem_cons.mp (I.stkSub b z) with e | e
    · exact (hf b hb).2.1 e
    · exact (hf b hb).2.2.1 e
  funs := I.stack
  frf := I.stkFree
theorem block_start (S : CompSc X scope cn caps) (hc : X.calm = true) (I : Inv X pins σ H s) (hf : ∀ b ∈ fp, FpOk X pins H b) (hlt : ∀ b ∈ fp, b < s.heap.objs.size) {Ca : Addr} (hC : s.heap.objs.size ≤ Ca) {h1 : Heap} {tk : Nat}
    {m : Str → Option Value} (hn : h1.Ns Ca m) (hk : ∀ b o, s.heap.get? b = some o → h1.get? b = some o) :
    Inv (cxC X scope own cn fp s H Ca) [] (List.replicate own.length none ++ capV caps σ) H { s with heap := h1, toks := tk } where
  ok := block_ok S hc I hf hlt hC
  os := rfl
  bare := I.bare
  base := Un.kept hk
  loc := ⟨m, hn, fun i y v h1' h2 h3 => by
    have hi : own.length ≤ i := by
      refine Nat.le_of_not_lt fun hi => ?_
      rw [List.getElem?_append_left (by simpa using hi), List.getElem?_replicate] at h2
      split at h2 <;> cases h2
    rw [List.getElem?_append_right (by simpa using hi)] at h2
    have h1' : (own ++ cn)[i]? = some y := h1'
    rw [List.getElem?_append_right hi] at h1'
    simp only [List.length_replicate, capV, List.getElem?_map, Option.map_eq_some_iff] at h2
    obtain ⟨k, e1, e2⟩ := h2
    obtain ⟨hfr, i', e3, e4, e5⟩ := S.cap _ y h1'
    rw [e1] at e3; cases e3
    cases e6 : σ[k]? with
    | none => rw [e6] at e2; cases e2
    | some u =>
      rw [e6] at e2
      have e2 : u = some v := e2
      subst e2
      obtain ⟨m0, hn0, hl0⟩ := I.loc
      obtain ⟨w, rw', lk⟩ := hl0 k y v e4 e6 (e5.elim (fun z => .inr (.inl z)) fun z => .inr (.inr z))
      refine ⟨w, rw', ?_⟩
      rcases lk with ⟨z, _⟩ | ⟨_, c, ec, ⟨oc, hoc, hdc⟩⟩
      · rcases e5 with e5 | e5
        · rw [e5] at z; cases z
        · rw [e5] at z; cases z
      · obtain ⟨c', ec'⟩ := clOf_has (cells := X.env.cells) scope.names [] hfr
        have := clOf_sub _ [] (S.cells I.ok) (fun o' o' h => by simp at h) ec'
        rw [ec] at this; cases this
        exact .inr ⟨relabel_free (env := X.env) hfr, c, ec', ⟨oc, hk _ _ hoc, hdc⟩⟩⟩
  cell := fun x c h => by
    obtain ⟨v, o, ho, hd⟩ := I.cell x c (clOf_sub _ [] (S.cells I.ok) (fun o' o' h => by simp at h) h)
    exact ⟨v, o, hk _ _ ho, hd⟩
  free := I.hok.fresh hC
  freeC := fun x c h => I.freeC x c (clOf_sub _ [] (S.cells I.ok) (fun o' o' h => by simp at h) h)
  pin := fun p hp => absurd (show p ∈ ([] : List (Addr × Obj)) from hp) (by simp)
  hok := I.hok.kept hk
  len := by
    show (List.replicate own.length none ++ capV caps σ).length = (own ++ cn).length
    simp [capV, S.len]
end
end L3
end
section
namespace L3
open PySem PySem.Spec PyProof.Rows L2
noncomputable def testsOf (ifs : List Expr) (env : Env) : Sem Bool := forIn ifs true fun c r => if r = true then do let ok ← isTrue c env (eval c env); pure (ForInStep.yield ok) else pure (ForInStep.yield r)
noncomputable def PTs (X : Cx) (ifs : List Expr) (t : L2.TT) : Prop :=
  ∀ (pins : List (Addr × Obj)) (s : Shared) (σ : L2.St) (H : Hp) (Q : Bool → Hp → Prop), Inv X pins σ H s → t σ H Q → wpAny (model X.prog X.w) X.A (testsOf ifs X.env) (TP X pins σ Q) X.xe s
inductive tqOf (K : PySem.W.Frag) (te : St → Store → (Bool → Store → Prop) → Prop) (σ : L2.St) (H : Hp) (Q : Bool → Hp → Prop) : Prop where
  | mk (σd : St) (st : Store) (R : Bool → Store → Prop) (r : SRel K H σd σ) (ok : StOk K st H) (q : te σd st R) (hq : ∀ (b : Bool) H', QX K H st (R b) H' → Q b H') : tqOf K te σ H Q
section
variable {X : Cx} {C : CallT} {sub : Nat → Nat → Bool} {E : XK} {a b c e o i tg : Expr} {x y z : Ex} {pos : Pos}
theorem ts_nil : PTs X [] (tqOf X.K (wpTs C sub E [])) := fun pins s σ H Q I ⟨σd, st, R, r, ok, q, hq⟩ => by
  unfold testsOf
  simp only [List.forIn_nil]
  exact wpAny_pure ⟨H, I, hq true H ⟨st, .refl, ok, q⟩⟩
end
theorem compLoop_any {prog : Program} {w : World} {A : Around} {s : Shared} {R : Result → Shared → Prop} {elt target iter : Expr} {ifs : List Expr} {scope : Scope} {pos : Pos} {it acc : Value} {env : Env} (I : Nat → Shared → Prop)
    (turn : ∀ n s, I n s → wpAny (model prog w) A (pyNext it) (fun r s₁ => match r with
      | none => R (.ok .next) s₁
      | some v => wpAny (model prog w) A (letOwnedTupleGo target it v) (fun o' s₁' => wpAny (model prog w) A (assign target env v) (fun o' s₂ =>
          wpAny (model prog w) A (testsOf ifs env) (fun ok s₃ =>
            if ok = true then wpAny (model prog w) A (eval elt env) (fun x s₄ =>
              wpAny (model prog w) A (call (.builtin "list.append") [acc, x]) (fun o' s₅ => ∃ m, m < n ∧ I m s₅) (fun o' o' => False) s₄) (fun o' o' => False) s₃
            else ∃ m, m < n ∧ I m s₃) (fun o' o' => False) s₂) (fun o' o' => False) s₁') (fun o' o' => False) s₁) (fun o' o' => False) s)
    (n : Nat) (h : I n s) :
    codeAny (model prog w) A (.compLoop (.ListComp elt [⟨target, iter, ifs, 0⟩] scope pos) 0 it acc env) R s := by
  refine codeAny_loop rfl I (fun n s hI => ?_) n h
  show wpAny _ A ((compTurn (.ListComp elt [⟨target, iter, ifs, 0⟩] scope pos) 0 it acc env).onRaise (fun x => do noteFrame x env; theTreesLotGoes x)) _ _ s
  refine wpAny_noted ?_
  rw [compTurn_list]
  refine wpAny_bind (wpAny_standAt (wpAny_bind (wpAny_mono (turn n s hI) (fun r s₁ h₁ => ?_) fun o' o' h' => h'.elim)))
  cases r with
  | none => exact wpAny_pure h₁
  | some v =>
    refine wpAny_bind (wpAny_mono h₁ (fun o' s₁' h₁' => ?_) fun o' o' h' => h'.elim)
    refine wpAny_bind (wpAny_mono h₁' (fun o' s₂ h₂ => wpAny_bind (wpAny_mono h₂ (fun ok s₃ h₃ => ?_) fun o' o' h' => h'.elim)) fun o' o' h' => h'.elim)
    cases ok with
    | false => exact wpAny_pure ⟨rfl, h₃⟩
    | true =>
      exact wpAny_bind (wpAny_bind (wpAny_mono h₃ (fun x s₄ h₄ => wpAny_bind (wpAny_mono h₄ (fun o' s₅ h₅ => wpAny_pure (wpAny_pure ⟨rfl, h₅⟩)) fun o' o' h' => h'.elim)) fun o' o' h' => h'.elim))
noncomputable def gBl (K : PySem.W.Frag) : Bool → Nat → TG
  | true, _ => gName 0
  | false, n => gTup K n (gNames (List.range n))
theorem setsV_keep : ∀ (is : List Nat) (vs : List V) (σ : L2.St) (n i : Nat), (∀ j ∈ is, j < n) → n ≤ i → (setsV is vs σ)[i]? = σ[i]?
  | [], _, _, _, _, _, _ => by simp [setsV]
  | _ :: _, [], _, _, _, _, _ => by simp [setsV]
  | j :: is, v :: vs, σ, n, i, h, hi => by
    have := setsV_keep is vs (σ.set j (some v)) n i (fun k hk => h k (List.mem_cons_of_mem _ hk)) hi
    simp only [setsV, List.zip_cons_cons, List.foldl_cons] at this ⊢
    rw [this]
    have := h j (List.mem_cons_self ..)
    rw [List.getElem?_set_ne (by omega)]
theorem setsV_len : ∀ (is : List Nat) (vs : List V) (σ : L2.St), (setsV is vs σ).length = σ.length
  | [], _, _ => by simp [setsV]
  | _ :: _, [], _ => by simp [setsV]
  | j :: is, v :: vs, σ => by
    have := setsV_len is vs (σ.set j (some v))
    simp only [setsV, List.zip_cons_cons, List.foldl_cons, List.length_set] at this ⊢
    exact this
theorem bind_sound {K : PySem.W.Frag} {H : Hp} {one : Bool} {n : Nat} {d : D} {v : V} {σd : St} {σ : L2.St} {P : St → Prop} {Q : L2.St → Hp → Prop} (hn : one = true → n = 1) (h : bindT one (List.range n) d σd P) (r : SRel K H σd σ) (rd : Rep K H d v)
    (hQ : ∀ σ2 σd2, SRel K H σd2 σ2 → P σd2 → (∀ i, n ≤ i → σ2[i]? = σ[i]?) → σ2.length = σ.length → Q σ2 H) : gBl K one n v σ H Q := by
  cases one with
  | true =>
    cases hn rfl
    have h : P (σd.set 0 (some d)) := h
    refine hQ _ _ (r.set 0 rd) h (fun i hi => ?_) (by simp)
    rw [List.getElem?_set_ne (by omega)]
  | false =>
    cases d with
    | tup ds =>
      rw [bind_t] at h
      obtain ⟨a, vs, rfl, f, g⟩ := rd.tup_inv
      have hl : vs.length = n := by rw [← g.length, h.1]; simp
      refine ⟨a, vs, rfl, f, hl, by simp [hl], hQ _ _ (r.sets _ g) h.2 (fun i hi => setsV_keep _ _ _ n i (fun j hj => by simpa using hj) hi) (setsV_len _ _ _)⟩
    | _ => exact (show False by cases n <;> exact h).elim
section
variable {K : PySem.W.Frag} {H : Hp} {st : Store} {Da : Addr} {ys zs : List V}
theorem sqT_alt (hD : H Da = some (.lst ys)) {a : Addr} {vs : List V} (h : SqT K H a vs) : SqT K (upd H Da (.lst zs)) a vs := by
  rcases h with (h | ⟨o, h⟩) | h
  · exact .inl (.inl (by rw [upd_ne (ne_of h hD (by simp))]; exact h))
  · exact .inl (.inr ⟨o, by rw [upd_ne (ne_of h hD (by simp))]; exact h⟩)
  · exact .inr h
theorem frzL_alt (hD : H Da = some (.lst ys)) {a : Addr} {vs : List V} (h : FrzL K H a vs) : FrzL K (upd H Da (.lst zs)) a vs := by
  rcases h with ⟨o, h⟩ | h
  · exact .inl ⟨o, by rw [upd_ne (ne_of h hD (by simp))]; exact h⟩
  · exact .inr h
mutual
theorem Rep.alt (hD : H Da = some (.lst ys)) : ∀ {d : D} {v : V}, Rep K H d v → Rep K (upd H Da (.lst zs)) d v
  | _, _, .non => .non
  | _, _, .bl b => .bl b
  | _, _, .int i => .int i
  | _, _, .str x => .str x
  | _, _, .tup h r => .tup (sqT_alt hD h) (Reps.alt hD r)
  | _, _, .ref a => .ref a
  | _, _, .mlst h r => .mlst (frzL_alt hD h) (Reps.alt hD r)
  | _, _, .mdic h => .mdic h
theorem Reps.alt (hD : H Da = some (.lst ys)) : ∀ {ds : List D} {vs : List V}, Reps K H ds vs → Reps K (upd H Da (.lst zs)) ds vs
  | _, _, .nil => .nil
  | _, _, .cons h r => .cons (Rep.alt hD h) (Reps.alt hD r)
end
theorem StOk.alt (ok : StOk K st H) (hD : H Da = some (.lst ys)) (hn : st Da = none) : StOk K st (upd H Da (.lst zs)) := fun a o e => by
  have ne : a ≠ Da := fun z => by rw [z, hn] at e; cases e
  have := ok a o e
  cases o with
  | lst ds =>
    obtain ⟨vs, q, r⟩ := this
    exact ⟨vs, by rw [upd_ne ne]; exact q, r.alt hD⟩
theorem StOk.take (ok : StOk K st H) (hD : H Da = some (.lst ys)) {ds : List D} (r : Reps K H ds ys) : StOk K (put st Da (.lst ds)) H := fun a o e => by
  by_cases ha : a = Da
  · subst ha
    rw [put_same] at e; cases e
    exact ⟨ys, hD, r⟩
  · rw [put_ne ha] at e
    exact ok a o e
end
theorem caps_rel {K : PySem.W.Frag} {H : Hp} {σd : St} {σ : L2.St} (r : SRel K H σd σ) (n : Nat) (caps : List Nat) : SRel K H (List.replicate n none ++ caps.map fun i => (σd[i]?).getD none) (List.replicate n none ++ capV caps σ) := by
  refine ⟨by simp [capV], fun i d e => ?_⟩
  by_cases hi : i < n
  · rw [List.getElem?_append_left (by simpa using hi), List.getElem?_replicate] at e
    split at e <;> cases e
  · rw [List.getElem?_append_right (by simpa using hi)] at e ⊢
    simp only [List.length_replicate, List.getElem?_map, Option.map_eq_some_iff] at e ⊢
    obtain ⟨k, e1, e2⟩ := e
    cases q : σd[k]? with
    | none => rw [q] at e2; cases e2
    | some u =>
      rw [q] at e2
      have e2 : u = some d := e2
      subst e2
      obtain ⟨v, h1, h2⟩ := r.2 k d q
      refine ⟨v, ?_, h2⟩
      simp only [capV, List.getElem?_map, Option.map_eq_some_iff]
      exact ⟨k, e1, by rw [h1]; rfl⟩
end L3
end
section
namespace L3
open PySem PySem.Spec PyProof.Rows L2
theorem hok_but {P : Program} {w : World} {H : Hp} {h h' : Heap} {Ca : Addr} (ok : HOk P w H h) (hn : H Ca = none) (hs : Heap.SameBut Ca h h') : HOk P w H h' := fun b u e => by
  refine (ok b u e).stay (fun c v hc q => hs.extBut c v ?_ q) (fun o' q => q) fun o' o' q => q
  rcases hc with z | z
  · rw [z]; exact fun y => by rw [y, hn] at e; cases e
  · exact fun y => by rw [y, hn] at z; cases z
inductive CoreI (K : PySem.W.Frag) (Xc : Cx) (sg : L2.St) (xs : List D) (tn : Nat → Heap → Prop) (fp : List Addr) (H1 : Hp) (st1 : Store) (Da : Addr) (T : List D → List D → Store → Prop) (n : Nat) (s' : Shared) : Prop
  | mk (i : Nat) (H' : Hp) (st' : Store) (ds : List D) (ys : List V) (hni : n + i = xs.length) (I' : Inv Xc [] sg H' s') (ti : tn i s'.heap) (fr' : ∀ b ∈ fp, H' b = none) (s1s : Step H1 st1 H' st') (ok' : StOk K st' H') (hD' : H' Da = some (.lst ys)) (hst' : st' Da = none) (rs : Reps K H' ds ys) (q' : T (xs.drop i) ds st')
section
variable {X : Cx} {C : CallT} {sub : Nat → Nat → Bool} {elt iter tg : Expr} {ifs : List Expr} {xe : Ex} {xifs its : List Ex} {pos : Pos} {scope : Scope} {own cn : List Str} {caps : List Nat} {one : Bool} {k : Option IK}
theorem comp_core (hC : CMono C C) (S : CompSc X scope cn caps) (hc : X.calm = true) (hone : one = true → own.length = 1)
    (hg : ∀ fp s H Ca, PG (cxC X scope own cn fp s H Ca) tg (gBl X.K one own.length))
    (hts : ∀ fp s H Ca, PTs (cxC X scope own cn fp s H Ca) ifs (tqOf X.K (wpTs C sub EF xifs)))
    (he : ∀ fp s H Ca, PE (cxC X scope own cn fp s H Ca) elt (tOf X.K (wpE C sub EF xe)))
    {use : Option (Value → Sem Unit)} {Qf : Value → Shared → Prop}
    {pins : List (Addr × Obj)} {s₂ : Shared} {σ : L2.St} {σd : St} {H1 : Hp} {st1 : Store} {J : It} {fp : List Addr} {it : Addr} {tn : Nat → Heap → Prop} {as : List Nat} {xs : List D} {R : List D → Store → Prop}
    (I2 : Inv X pins σ H1 s₂) (T : Turn X.prog X.w X.K tg J fp it tn) (t0 : tn 0 s₂.heap) (f2 : ∀ b ∈ fp, FpOk X pins H1 b) (r : SRel X.K H1 σd σ) (ok1 : StOk X.K st1 H1) (j : JOk X.K J as xs H1 st1)
    (q : compW (same as st1) (fun x st2 K => bindT one (List.range own.length) x (List.replicate own.length none ++ caps.map fun i => (σd[i]?).getD none) fun σ' =>
        wpTs C sub EF xifs σ' st2 fun b st3 => if b = true then wpE C sub EF xe σ' st3 fun d st4 => K (some d) st4 else K none st3) xs [] st1 R)
    (fin : ∀ (Da Ca : Addr) (H' : Hp) (st' : Store) (ds : List D) (m : Str → Option Value) (s' : Shared), s'.heap.Ns Ca m → (∀ h', Heap.SameBut Ca s'.heap h' → Inv X pins σ H' { s' with heap := h' }) → Inv X pins σ H' s' → Ca ≠ X.env.locals → (∀ x c, X.env.cells.lookup x = some c → c ≠ Ca) → Ca ∉ X.fs → X.s₀.heap.objs.size ≤ Ca → (∀ p ∈ X.pn ++ pins, p.1 ≠ Ca) → H' Ca = none → Step H1 st1 H' st' → StOk X.K (put st' Da (.lst ds)) H' → H1 Da = none → st' Da = none → R ds st' →
      compPost (model X.prog X.w) X.A X.xe use Qf (.ref Da) Ca (.ok .next) s') :
    wpAny (model X.prog X.w) X.A (newList []) (fun acc s₃ =>
      wpAny (model X.prog X.w) X.A (newFunctionEnv scope X.env.globals (clOf X.env.cells scope.names []) [] X.env.qual none .none (some X.env)) (fun cenv s₄ =>
        codeAny (model X.prog X.w) X.A (.compStart (.ListComp elt [⟨tg, iter, ifs, 0⟩] scope pos) 0 (.ref it) acc { cenv with scope := relabel scope X.env }) (compPost (model X.prog X.w) X.A X.xe use Qf acc cenv.locals) s₄) X.xe s₃) X.xe s₂ := by
  have hD1 : H1 s₂.heap.objs.size = none := I2.fresh
  obtain ⟨tf, htf0⟩ : ∃ tf : D → Store → (Option D → Store → Prop) → Prop, tf = fun x st2 K => bindT one (List.range own.length) x (List.replicate own.length none ++ caps.map fun i => (σd[i]?).getD none) fun σ' =>
        wpTs C sub EF xifs σ' st2 fun b st3 => if b = true then wpE C sub EF xe σ' st3 fun d st4 => K (some d) st4 else K none st3 := ⟨_, rfl⟩
  have htf : ∀ x st2 (K : Option D → Store → Prop), tf x st2 K → bindT one (List.range own.length) x (List.replicate own.length none ++ caps.map fun i => (σd[i]?).getD none) fun σ' =>
        wpTs C sub EF xifs σ' st2 fun b st3 => if b = true then wpE C sub EF xe σ' st3 fun d st4 => K (some d) st4 else K none st3 := fun x st2 K h => by rw [htf0] at h; exact h
  rw [← htf0] at q
  refine wpAny_newObj_type ?_
  have I3 := I2.lnew (its := []) (ys := []) (t' := s₂.toks) .nil (Nat.zero_le _)
  generalize hS3 : ({ s₂ with heap := s₂.heap.push { cls := .type "list", dict := none, data := .seq ([] : List Value).toArray } } : Shared) = s₃
  have I3 : Inv X pins σ (upd H1 s₂.heap.objs.size (.lst [])) s₃ := by rw [← hS3]; exact I3
  have lt3 : s₂.heap.objs.size < s₃.heap.objs.size := by rw [← hS3]; show _ < (s₂.heap.push _).objs.size; rw [Heap.size_push]; exact Nat.lt_succ_self _
  have old3 : ∀ b o, s₂.heap.get? b = some o → s₃.heap.get? b = some o := fun b o e => by rw [← hS3]; exact Heap.get?_push_of_some _ e
  generalize hDa : s₂.heap.objs.size = Da at *
  have hlt2 : ∀ b ∈ fp, b < Da := fun b hb => by
    obtain ⟨o, e, _⟩ := T.obj _ _ t0 b hb
    rw [← hDa]; exact Heap.lt_size e
  have f3 : ∀ b ∈ fp, FpOk X pins (upd H1 Da (.lst [])) b := fun b hb => ⟨by rw [upd_ne (Nat.ne_of_lt (hlt2 b hb))]; exact (f2 b hb).1, (f2 b hb).2⟩
  have hlt3 : ∀ b ∈ fp, b < s₃.heap.objs.size := fun b hb => Nat.lt_trans (hlt2 b hb) lt3
  refine wpAny_newFunctionEnv S.nocell (by intro y hy; simp at hy) (fun h₁ hns hsb => ?_) S.kind
  have keep1 : ∀ b o, s₃.heap.get? b = some o → h₁.get? b = some o := fun b o e => hsb.extBut b o (Nat.ne_of_lt (Heap.lt_size e)) (Heap.get?_push_of_some _ e)
  have t1 : tn 0 h₁ := T.keep _ _ _ t0 fun b hb o e => keep1 b o (old3 b o e)
  have B0 := block_start (own := own) S hc I3 f3 hlt3 (Nat.le_refl _) (tk := s₃.toks + ([] : List (Str × Value)).length) hns keep1
  generalize hXc : cxC X scope own cn fp s₃ (upd H1 Da (.lst [])) s₃.heap.objs.size = Xc at B0
  have hgc : PG Xc tg (gBl X.K one own.length) := by rw [← hXc]; exact hg _ _ _ _
  have htc : PTs Xc ifs (tqOf X.K (wpTs C sub EF xifs)) := by rw [← hXc]; exact hts _ _ _ _
  have hec : PE Xc elt (tOf X.K (wpE C sub EF xe)) := by rw [← hXc]; exact he _ _ _ _
  have eP : Xc.prog = X.prog := by rw [← hXc]; rfl
  have eW : Xc.w = X.w := by rw [← hXc]; rfl
  have eK : Xc.K = X.K := by rw [← hXc]; rfl
  have eA : Xc.A = X.A := by rw [← hXc]; rfl
  have eX : Xc.xe = fun o' o' => False := by rw [← hXc]; rfl
  have eN : Xc.env = compEnvC scope (clOf X.env.cells scope.names []) s₃.heap.objs.size X.env := by rw [← hXc]; rfl
  have eL : Xc.env.locals = s₃.heap.objs.size := by rw [eN]; rfl
  have eC : Xc.calm = true := by rw [← hXc]; rfl
  have fC : ∀ {H' : Hp}, (∀ b ∈ fp, H' b = none) → ∀ b ∈ fp, FpOk Xc [] H' b := fun {H'} hn b hb => by
    have ok := B0.ok
    refine ⟨hn b hb, by rw [eL]; exact Nat.ne_of_lt (hlt3 b hb), ok.exfs b (by rw [← hXc]; exact hb), .inl (by rw [← hXc]; exact hb), fun x c e => (ok.exf b (by rw [← hXc]; exact hb)).2 x c e, fun p hp => ?_⟩
    have : p ∈ ([] : List (Addr × Obj)) := by rw [← hXc] at hp; exact hp
    cases this
  have capsRel : ∀ {H' : Hp} {st' : Store}, Step H1 st1 H' st' → SRel X.K H' (List.replicate own.length none ++ caps.map fun i => (σd[i]?).getD none) (List.replicate own.length none ++ capV caps σ) := fun s' => (caps_rel r _ _).step ok1 s'
  have loop : ∀ s4 : Shared, s4 = { s₃ with heap := h₁, toks := s₃.toks + ([] : List (Str × Value)).length } → codeAny (model X.prog X.w) X.A (.compLoop (.ListComp elt [⟨tg, iter, ifs, 0⟩] scope pos) 0 (.ref it) (.ref Da) Xc.env) (compPost (model X.prog X.w) X.A X.xe use Qf (.ref Da) s₃.heap.objs.size) s4 := by
    rintro s4 rfl
    refine compLoop_any (CoreI X.K Xc (List.replicate own.length none ++ capV caps σ) xs tn fp H1 st1 Da (fun l ds st' => compW (same as st1) tf l ds st' R)) ?_ xs.length
      ⟨0, _, st1, [], [], rfl, B0, t1, fun b hb => (f3 b hb).1, step_new hD1, ok1.new hD1, upd_same, ok1.fresh hD1, .nil, by simpa using q⟩
    rintro n s' ⟨i, H', st', ds, ys, hni, I', ti, fr', s1s, ok', hD', hst', rs, q'⟩
    by_cases hi : i < xs.length
    · -- a turn
      have ed : xs.drop i = xs[i] :: xs.drop (i + 1) := List.drop_eq_getElem_cons hi
      rw [ed] at q'
      obtain ⟨g1, gl, q'⟩ := q'
      have hx : xs[i]? = some xs[i] := List.getElem?_eq_getElem hi
      have hpn := T.item Xc eP eW eK eC i [] s' _ H' (fun o' o' => False) I' (fC fr') ti (j.go i H' st' xs[i] s1s ok' g1 hx)
      rw [eA] at hpn
      refine thn hpn fun rr s5 ⟨u, hu, h5⟩ => ?_
      subst hu
      refine thn h5 fun _ s6 ⟨v, H6, I6, rv, y6, t6, fr6⟩ => ?_
      obtain ⟨s6s, ok6, rd⟩ := j.yld i H' st' xs[i] v H6 s1s ok' g1 hx y6
      have D6 := s6s Da _ hD' hst'
      have I6' := I6.pinned (fC fr6) (T.obj _ _ t6)
      have hasg := hgc _ s6 _ H6 v u (fun σ2 H2 => ∃ σd2, H2 = H6 ∧ SRel X.K H6 σd2 σ2 ∧ (∀ i, own.length ≤ i → σ2[i]? = (List.replicate own.length none ++ capV caps σ)[i]?) ∧ σ2.length = (List.replicate own.length none ++ capV caps σ).length ∧
        wpTs C sub EF xifs σd2 st' fun b st3 => if b = true then wpE C sub EF xe σd2 st3 fun d st4 => compW (same as st1) tf (xs.drop (i + 1)) (ds ++ [d]) st4 R else compW (same as st1) tf (xs.drop (i + 1)) ds st3 R) I6' rv
        (bind_sound hone (htf _ _ _ q') ((capsRel s1s).step ok' s6s) rd fun σ2 σd2 r2 p2 k2 l2 => ⟨σd2, rfl, r2, k2, l2, p2⟩)
      rw [eP, eW, eA, eX] at hasg
      refine thn hasg fun _ s7 ⟨σ2, H7, I7, σd2, e7, r7, k7, l7, q7⟩ => ?_
      subst e7
      have hte := htc _ s7 σ2 H7 _ I7 ⟨σd2, st', _, r7, ok6, q7, fun b H' z => z⟩
      rw [eP, eW, eA, eX] at hte
      have again : ∀ {H8 : Hp} {s8 : Shared} {st8 : Store} {ds8 : List D} {ys8 : List V}, Inv Xc ([] ++ pinsAt fp s6.heap) σ2 H8 s8 → Step H1 st1 H8 st8 → StOk X.K st8 H8 → H8 Da = some (.lst ys8) → st8 Da = none → Reps X.K H8 ds8 ys8 → compW (same as st1) tf (xs.drop (i + 1)) ds8 st8 R →
          ∃ m, m < n ∧ CoreI X.K Xc (List.replicate own.length none ++ capV caps σ) xs tn fp H1 st1 Da (fun l ds st' => compW (same as st1) tf l ds st' R) m s8 := fun {H8 s8 st8 ds8 ys8} I8 s8s ok8 hD8 hs8 rs8 q8 => by
        have pinned : ∀ b ∈ fp, ∀ o, s6.heap.get? b = some o → s8.heap.get? b = some o ∧ H8 b = none := fun b hb o e => by
          have := I8.pin (b, o) (List.mem_append_right _ (List.mem_append_right _ (mem_pinsAt hb e)))
          exact ⟨this.1, this.2.1⟩
        refine ⟨n - 1, by omega, i + 1, H8, st8, ds8, ys8, by omega, ?_, T.keep _ _ _ t6 fun b hb o e => (pinned b hb o e).1, fun b hb => ?_, s8s, ok8, hD8, hs8, rs8, q8⟩
        · refine I8.unpinned.weak (by rw [l7]) fun i0 v0 e0 => ?_
          by_cases hi0 : i0 < own.length
          · rw [List.getElem?_append_left (by simpa using hi0), List.getElem?_replicate] at e0
            split at e0 <;> cases e0
          · rw [k7 i0 (by omega)]; exact e0
        · obtain ⟨o, e, _⟩ := T.obj _ _ t6 b hb
          exact (pinned b hb o e).2
      have s17 := s1s.trans s6s
      have rs7 := rs.step ok' s6s
      refine thn hte fun b s8 ⟨H8, I8, st8, s8s, ok8, q8⟩ => ?_
      have D8 := s8s Da _ D6.1 D6.2
      have rs8 := rs7.step ok6 s8s
      cases b with
      | false => exact again I8 (s17.trans s8s) ok8 D8.1 D8.2 rs8 q8
      | true =>
        have hel := hec _ s8 σ2 H8 _ I8 ⟨σd2, st8, _, r7.step ok6 s8s, ok8, q8, fun v H' z => z⟩
        rw [eP, eW, eA, eX] at hel
        refine thn hel fun u9 s9 ⟨v9, H9, I9, rv9, d9, st9, s9s, ok9, rd9, q9⟩ => ?_
        have D9 := s9s Da _ D8.1 D8.2
        have rs9 := rs8.step ok8 s9s
        have hap := L2.mt_append _ s9 σ2 H9 (.ref Da) [v9] (.ref Da) [u9] (fun o' H' => H' = upd H9 Da (.lst (ys ++ [v9]))) I9 rfl (.cons rv9 .nil) ⟨Da, ys, v9, rfl, rfl, D9.1, by rw [line_eq, ← rs9.length]; exact gl, rfl⟩
        rw [eP, eW, eA, eX] at hap
        refine thn hap fun _ s10 ⟨_, H10, I10, _, e10⟩ => ?_
        subst e10
        refine again I10 (fun a o e0 n0 => ?_) (ok9.alt D9.1 D9.2) upd_same D9.2 ((rs9.append (.cons rd9 .nil)).alt D9.1) q9
        have := ((s17.trans s8s).trans s9s) a o e0 n0
        exact ⟨by rw [upd_ne (ne_of_none e0 hD1)]; exact this.1, this.2⟩
    · -- the end
      have ed : xs.drop i = [] := List.drop_eq_nil_of_le (by omega)
      rw [ed] at q'
      have hpn := T.done Xc eP eW eK eC i [] s' _ H' (fun o' o' => False) I' (fC fr') ti (j.stop i H' st' s1s ok' q'.1 (by omega))
      rw [eA] at hpn
      refine thn hpn fun rr s5 ⟨hr, I5⟩ => ?_
      subst hr
      have un5 : Un (frs X.stack) fp (upd H1 Da (.lst [])) H' s₃.heap s5.heap := by have := I5.base; rw [← hXc] at this; exact this
      have os5 : s5.os = s₃.os := by have := I5.os; rw [← hXc] at this; exact this
      have fC5 : H' s₃.heap.objs.size = none := by have := I5.free; rw [eL] at this; exact this
      have hch : ∀ b ∈ fp, (b ∈ X.ex ∨ X.s₀.heap.objs.size ≤ b) ∧ b ≠ X.env.locals ∧ (∀ x c, X.env.cells.lookup x = some c → c ≠ b) ∧ ∀ p ∈ X.pn ++ pins, p.1 ≠ b := fun b hb => ⟨(f2 b hb).2.2.2.1, (f2 b hb).2.1, (f2 b hb).2.2.2.2.1, (f2 b hb).2.2.2.2.2⟩
      have hok5 : HOk X.prog X.w H' s5.heap := by have := I5.hok; rw [eP, eW] at this; exact this
      have Iall : ∀ h', (∀ b o, b ≠ s₃.heap.objs.size → s5.heap.get? b = some o → h'.get? b = some o) → HOk X.prog X.w H' h' → Inv X pins σ H' { s5 with heap := h' } := fun h' kk hok => by
        have ne : ∀ b o, s₃.heap.get? b = some o → b ≠ s₃.heap.objs.size := fun b o e => Nat.ne_of_lt (Heap.lt_size e)
        refine I3.call' (s' := { s5 with heap := h' }) (ch := fp) os5 ⟨fun b o e n hb hx => kk b o (ne b o e) (un5.keep b o e n hb hx), fun b o e n hb hx => ?_, un5.free, fun b o e hx => ?_, un5.tups, un5.frzs, un5.tbls⟩ hok I5.bare hch
        · obtain ⟨sl, e'⟩ := un5.slot b o e n hb hx
          exact ⟨sl, kk b _ (ne b o e) e'⟩
        · obtain ⟨o', e'⟩ := un5.there b o e hx
          exact ⟨o', kk b o' (ne b o e) e'⟩
      obtain ⟨m5, ns5, _⟩ := I5.loc
      rw [eL] at ns5
      refine fin Da s₃.heap.objs.size H' st' ds m5 s5 ns5 (fun h' hs => Iall h' (fun b o hb e => hs.extBut b o hb e) (hok_but hok5 fC5 hs)) (Iall s5.heap (fun b o o' e => e) hok5) (Nat.ne_of_gt I3.lt) (fun x c e => ?_) (I3.nofs (Nat.le_refl _)) I3.sz (fun p hp => Nat.ne_of_lt (Heap.lt_size (I3.pin p hp).1)) fC5 s1s (ok'.take hD' rs) hD1 hst' q'.2
      obtain ⟨v, o, ho, _⟩ := I3.cell x c e
      exact Nat.ne_of_lt (Heap.lt_size ho)
  have hl := loop _ rfl
  rw [eN] at hl
  exact codeAny_compStart_list hl (T.self X.A 0 _ _ _ t1 hl)
theorem step_put {H H1 H' : Hp} {st st1 st' : Store} {Da : Addr} {o : MO} (s1 : Step H st H1 st1) (s2 : Step H1 st1 H' st') (hD : H1 Da = none) : Step H st H' (put st' Da o) := fun a u e n => by
  have e1 := s1 a u e n
  have e2 := s2 a u e1.1 e1.2
  exact ⟨e2.1, by rw [put_ne (ne_of_none e1.1 hD)]; exact e2.2⟩
theorem j_comp (hC : CMono C C) (S : CompSc X scope cn caps) (hc : X.calm = true) (hone : one = true → own.length = 1)
    (hi : PI X tg iter (tiOf X.K fun σ st M => wpEs C sub EF its σ st fun ds st1 => itrW k ds st1 fun as xs => M as xs st1))
    (hg : ∀ fp s H Ca, PG (cxC X scope own cn fp s H Ca) tg (gBl X.K one own.length))
    (hts : ∀ fp s H Ca, PTs (cxC X scope own cn fp s H Ca) ifs (tqOf X.K (wpTs C sub EF xifs)))
    (he : ∀ fp s H Ca, PE (cxC X scope own cn fp s H Ca) elt (tOf X.K (wpE C sub EF xe)))
    (hs : ∀ x, foldedSetIterable iter X.env x = pure x) :
    PE X (.ListComp elt [⟨tg, iter, ifs, 0⟩] scope pos) (tOf X.K (wpE C sub EF (.comp own.length caps (List.range own.length) one k its xifs xe))) := by
  intro pins s σ H Q I ⟨σd, st, R, r, ok, q, hq⟩
  rw [eval_ListComp]
  refine wpAny_comprehension_free (use := none) rfl hs (closureFor_eq (S.cells I.ok)) S.kind S.names ?_
  refine thn (hi pins s σ H _ I ⟨σd, st, _, r, ok, q, fun J H1 z => z⟩) fun v s1 h1 => thn h1 fun itv s2 h2 => ?_
  obtain ⟨it, fp, tn, J, H1, rfl, I2, T, t0, f2, as, xs, st1, s1s, ok1, j, q1⟩ := h2
  refine comp_core (use := none) hC S hc hone hg hts he I2 T t0 f2 (r.step ok s1s) ok1 j q1 ?_
  intro Da Ca H' st' ds m s' hns hall hI _ _ _ _ _ _ s2s okp hD1 hst' hR
  exact ⟨m, hns, fun h' hh => ⟨.ref Da, H', hall h' hh, rfl, hq _ _ ⟨.ref Da, _, step_put s1s s2s hD1, okp, .ref Da, hR.2 Da hst'⟩⟩⟩
theorem s_asgC {i : Nat} {y : Str} {py spos : Pos} (hC : CMono C C) (S : CompSc X scope cn caps) (hc : X.calm = true) (hone : one = true → own.length = 1)
    (hi : PI X tg iter (tiOf X.K fun σ st M => wpEs C sub EF its σ st fun ds st1 => itrW k ds st1 fun as xs => M as xs st1))
    (hg : ∀ fp s H Ca, PG (cxC X scope own cn fp s H Ca) tg (gBl X.K one own.length))
    (hts : ∀ fp s H Ca, PTs (cxC X scope own cn fp s H Ca) ifs (tqOf X.K (wpTs C sub EF xifs)))
    (he : ∀ fp s H Ca, PE (cxC X scope own cn fp s H Ca) elt (tOf X.K (wpE C sub EF xe)))
    (hN : X.N.Nodup) (hy : X.N[i]? = some y) (hx : Loc X.env.scope y) (hf : X.fn y = true ∨ X.env.scope.names.lookup y = some .local)
    (hsw : swapsWith (.ListComp elt [⟨tg, iter, ifs, 0⟩] scope pos) (some (.Name y py)) spos.line X.env = pure true)
    (hs : ∀ x, foldedSetIterable iter X.env x = pure x) :
    PS X (.Assign [.Name y py] (.ListComp elt [⟨tg, iter, ifs, 0⟩] scope pos) spos) (tsOf X.K (wpS C sub (.asg (.nm i) (.comp own.length caps (List.range own.length) one k its xifs xe)))) := by
  intro pins s σ H D I ⟨σd, st, P, r, ok, q, h⟩
  have q := toEF hC h.ex q
  rw [exec_Assign_Name_used _ _ _ _ hsw]
  refine wpAny_bind (wpAny_standAt (wpAny_bind ?_))
  show wpAny _ X.A (do let _ ← comprehension (.ListComp elt [⟨tg, iter, ifs, 0⟩] scope pos) scope X.env _ (newList []) false (eval iter X.env) (some (assign (.Name y py) X.env))) _ _ s
  refine wpAny_bind (wpAny_mono (wpAny_comprehension_free (use := some (assign (.Name y py) X.env)) (Q := fun o' s' => SP X pins D .next s') rfl hs (closureFor_eq (S.cells I.ok)) S.kind S.names ?_) (fun o' s' hq => wpAny_pure (wpAny_pure hq)) fun o' o' e => e)
  refine thn (hi pins s σ H _ I ⟨σd, st, _, r, ok, q, fun J H1 z => z⟩) fun v s1 h1 => thn h1 fun itv s2 h2 => ?_
  obtain ⟨it, fp, tn, J, H1, rfl, I2, T, t0, f2, as, xs, st1, s1s, ok1, j, q1⟩ := h2
  refine comp_core (use := some (assign (.Name y py) X.env)) hC S hc hone hg hts he I2 T t0 f2 (r.step ok s1s) ok1 j q1 ?_
  intro Da Ca H' st' ds m s' hns hall hI hL hcl hfs hsz hpins hn s2s okp hD1 hst' hR
  show wpAny _ X.A (assign (.Name y py) X.env (.ref Da)) _ _ _
  refine wpAny_assign_Name (store_ok2 hI hN hy hx (v := .ref Da) rfl (fun s'' I'' kk => ?_) hf)
  obtain ⟨ad, sb, had⟩ := kk
  have nad : Ca ≠ ad := fun z => by
    rcases had with e | e
    · exact hL (z.trans e)
    · exact hcl y ad e z.symm
  refine ⟨m, hns.at' fun o e => (sb.2 Ca nad).trans e, fun h' hh => ?_⟩
  refine ⟨σ.set i (some (.ref Da)), H', I''.turned (t' := s''.toks) (fun b o hb e => hh.extBut b o hb e) hn hL (.inr hsz) hcl hpins, ?_⟩
  have st3 := step_put (o := .lst ds) s1s s2s hD1
  exact h.nx _ _ _ _ ((r.step ok st3).set i (.ref Da)) st3 okp (hR.2 Da hst')
end
end L3
end
section
namespace L3
open PySem PySem.Spec PyProof.Rows L2
theorem start_rel {K : PySem.W.Frag} {H : Hp} {ds : List D} {vs : List V} (r : Reps K H ds vs) {N : List Str} {np : Nat} (h : ds.length = np) : SRel K H (start np N.length ds) (L2.start N vs) := by
  refine ⟨by simp [start, L2.start, r.length, ← h], fun i d e => ?_⟩
  unfold start at e
  by_cases hi : i < ds.length
  · rw [List.getElem?_append_left (by simpa using hi), List.getElem?_map, Option.map_eq_some_iff] at e
    obtain ⟨d', e1, e2⟩ := e
    cases e2
    obtain ⟨v, e3, e4⟩ := r.get e1
    refine ⟨v, ?_, e4⟩
    unfold L2.start
    rw [List.getElem?_append_left (by rw [List.length_map, ← r.length]; exact hi), List.getElem?_map, e3]; rfl
  · rw [List.getElem?_append_right (by simpa using hi), List.getElem?_replicate] at e
    split at e <;> cases e
theorem fn_zero {P : Program} {w : World} {K : PySem.W.Frag} {mg : Str → Option Value} {base : Heap} {G : Prog} {f : Nat} {a : Addr} {fd : FuncData} {ps : List Str} : FnOk P w K mg base CX0 0 a fd ps (spOf K (wpFn G 0) f) := by
  have no : ∀ vs H Q E, ¬ spOf K (wpFn G 0) f vs H Q E := fun vs H Q E ⟨_, _, _, _, _, h, _⟩ => h
  exact ⟨fun vs H Q E h => absurd h (no vs H Q E), fun A outer s H args us vs Q E o' o' o' o' h => absurd h (no vs H Q E)⟩
theorem law_sp {K : PySem.W.Frag} {G : Prog} {k f : Nat} (h : ∀ ns : List Int, ns.length ≤ 63 → wpFn G k f [.mlst (ns.map .int)] (fun o' => none) (fun d o' => d = .bl true) fun o' o' => False) (H : Hp) (a : Addr) (ns : List Int) (hl : ns.length ≤ 63) (hO : Only H) (hS : SqL K H a (ns.map V.int)) :
    spOf K (wpFn G k) f [.ref a] H (fun v o' => v = .bl true) fun o' o' o' => False := by
  have hF : FrzL K H a (ns.map V.int) := by
    rcases hS with (e | ⟨o, e⟩) | e
    · rcases hO a with z | ⟨o, xs, z⟩
      · rw [z] at e; cases e
      · rw [z] at e; cases e
    · exact .inl ⟨o, e⟩
    · exact .inr e
  have ri : ∀ ns : List Int, Reps K H (ns.map .int) (ns.map V.int) := fun ns => by
    induction ns with
    | nil => exact .nil
    | cons i r ih => exact .cons (.int i) ih
  refine ⟨[.mlst (ns.map .int)], fun o' => none, fun d o' => d = .bl true, .cons (.mlst hF (ri ns)) .nil, fun a o e => (by cases e), h ns hl, fun v H' ⟨d, st', _, _, r, q⟩ => ?_⟩
  subst q
  exact r.bl_inv
end L3
end
section
namespace L3
open PySem PySem.Spec PyProof.Rows L2
theorem bt_len : bootBuiltins "len" = some (.builtin "len") := by decide +kernel
theorem bt_all : bootBuiltins "all" = some (.builtin "all") := by decide +kernel
theorem bt_any : bootBuiltins "any" = some (.builtin "any") := by decide +kernel
theorem bt_isinstance : bootBuiltins "isinstance" = some (.builtin "isinstance") := by decide +kernel
theorem bt_int : bootBuiltins "int" = some (.type "int") := by decide +kernel
theorem bt_str : bootBuiltins "str" = some (.type "str") := by decide +kernel
theorem bt_bool : bootBuiltins "bool" = some (.type "bool") := by decide +kernel
theorem bt_list : bootBuiltins "list" = some (.type "list") := by decide +kernel
theorem bt_tuple : bootBuiltins "tuple" = some (.type "tuple") := by decide +kernel
theorem bt_set : bootBuiltins "set" = some (.type "set") := by decide +kernel
theorem bt_reversed : bootBuiltins "reversed" = some (.type "reversed") := by decide +kernel
noncomputable def tyN : Ty → String
  | .int => "int"
  | .str => "str"
  | .bool => "bool"
  | .list => "list"
  | .tuple => "tuple"
noncomputable def noErr : Ty → Bool
  | _ => true
section
variable {X : Cx} {pins : List (Addr × Obj)} {σ : L2.St} {H : Hp} {s : Shared} {st : Store} {sub : Nat → Nat → Bool}
noncomputable abbrev IsR (X : Cx) (s : Shared) (u : Value) (t : Ty) (b : Bool) : Prop := ∀ (A : Around) (Q : Value → Shared → Prop) (E : Value → Shared → Prop), (∀ tk, Q (.bool b) { s with toks := tk }) → wpAny (model X.prog X.w) A (call (.builtin "isinstance") [u, .type (tyN t)]) Q E s
theorem isi_lst {a : Addr} (I : Inv X pins σ H s) (h : ∃ o, s.heap.get? a = some o ∧ o.cls = .type "list") {t : Ty} {b : Bool} (e : PySem.W.kitOne X.K (.type "list") (.type (tyN t)) = some b) : IsR X s (.ref a) t b := fun A Q E hQ =>
  PySem.W.kia_one PySem.W.kitx_list I.kIn h e (fun z => nomatch z) hQ
theorem isi_tup {a : Addr} (I : Inv X pins σ H s) (h : ∃ o, s.heap.get? a = some o ∧ o.cls = .type "tuple") {t : Ty} {b : Bool} (e : PySem.W.kitOne X.K (.type "tuple") (.type (tyN t)) = some b) : IsR X s (.ref a) t b := fun A Q E hQ =>
  PySem.W.kia_one PySem.W.kitx_tuple I.kIn h e (fun z => nomatch z) hQ
theorem isi_sound {d : D} {v : V} {u : Value} {t : Ty} {P : Bool → Prop} (I : Inv X pins σ H s) (ok : StOk X.K st H) (r : Rep X.K H d v) (rv : RelV v u) (ht : noErr t = true) (h : isOne sub d st t P) : ∃ b, P b ∧ IsR X s u t b := by
  cases d with
  | non =>
    cases r.non_inv; cases rv
    refine ⟨false, by cases t <;> exact h, fun A Q E hQ => PySem.W.kia_one PySem.W.kitx_none I.kIn True.intro ?_ (fun z => nomatch z) hQ⟩
    cases t <;> first | rfl | cases ht
  | bl k =>
    cases r.bl_inv; cases rv
    cases t with
    | bool => exact ⟨true, h, fun A Q E hQ => PySem.W.kia_one PySem.W.kitx_bool I.kIn True.intro rfl (fun z => nomatch z) hQ⟩
    | int => exact ⟨true, h, fun A Q E hQ => PySem.W.kia_one PySem.W.kitx_bool I.kIn True.intro rfl (fun z => nomatch z) hQ⟩
    | _ => exact ⟨false, h, fun A Q E hQ => PySem.W.kia_one PySem.W.kitx_bool I.kIn True.intro rfl (fun z => nomatch z) hQ⟩
  | int k =>
    cases r.int_inv; obtain ⟨tk, rfl⟩ := rv
    cases t with
    | int => exact ⟨true, h, fun A Q E hQ => PySem.W.kia_one PySem.W.kitx_int I.kIn True.intro rfl (fun z => nomatch z) hQ⟩
    | _ => exact ⟨false, h, fun A Q E hQ => PySem.W.kia_one PySem.W.kitx_int I.kIn True.intro rfl (fun z => nomatch z) hQ⟩
  | str k =>
    cases r.str_inv; obtain ⟨tk, rfl⟩ := rv
    cases t with
    | str => exact ⟨true, h, fun A Q E hQ => PySem.W.kia_one PySem.W.kitx_str I.kIn True.intro rfl (fun z => nomatch z) hQ⟩
    | _ => exact ⟨false, h, fun A Q E hQ => PySem.W.kia_one PySem.W.kitx_str I.kIn True.intro rfl (fun z => nomatch z) hQ⟩
  | tup ds =>
    obtain ⟨a, vs, rfl, f, g⟩ := r.tup_inv
    cases rv
    obtain ⟨its, _, ⟨o, h1, h2, _⟩, _⟩ := I.tuple f
    cases t with
    | tuple => exact ⟨true, h, isi_tup I ⟨o, h1, h2⟩ rfl⟩
    | _ => exact ⟨false, h, isi_tup I ⟨o, h1, h2⟩ rfl⟩
  | ref a =>
    cases r.ref_inv
    cases rv
    have key : ∃ ds, st a = some (.lst ds) := by
      cases e : st a with
      | none => exfalso; cases t <;> first | (have h : seqAt st a _ (fun o' o' => False) := h; unfold seqAt at h; rw [e] at h; exact h) | cases ht
      | some o =>
        cases o with
        | lst ds => exact ⟨ds, rfl⟩
    obtain ⟨ds, e⟩ := key
    obtain ⟨vs, g1, _⟩ := ok.lst e
    obtain ⟨_, its, n, _, _, e1⟩ := I.lstM g1
    have ho : ∃ o, s.heap.get? a = some o ∧ o.cls = .type "list" := ⟨_, e1, rfl⟩
    cases t with
    | list => have h : seqAt st a (fun o' => P true) (fun o' o' => P false) := h; rw [seqAt_lst e] at h; exact ⟨true, h, isi_lst I ho rfl⟩
    | _ => have h : seqAt st a (fun o' => P false) (fun o' o' => P false) := h; rw [seqAt_lst e] at h; exact ⟨false, h, isi_lst I ho rfl⟩
  | mlst ds =>
    obtain ⟨a, vs, rfl, f, g⟩ := r.mlst_inv
    cases rv
    obtain ⟨its, _, p, _⟩ := I.list f.sq
    obtain ⟨o, h1, h2, _⟩ := p.isList
    cases t with
    | list => exact ⟨true, h, isi_lst I ⟨o, h1, h2⟩ rfl⟩
    | _ => exact ⟨false, h, isi_lst I ⟨o, h1, h2⟩ rfl⟩
  | mdic _ _ => cases t <;> exact (show False from h).elim
end
section
variable {X : Cx} {C : CallT} {sub : Nat → Nat → Bool} {E : XK} {a : Expr} {x : Ex} {p p2 pos : Pos}
noncomputable def rIsi (K : PySem.W.Frag) (sub : Nat → Nat → Bool) (t : Ty) : List V → Hp → L2.VK → Prop := fun vs H Q => ∃ d v st R, vs = [v, .ty (tyN t)] ∧ Rep K H d v ∧ StOk K st H ∧ isOne sub d st t (fun b => R (.bl b) st) ∧ ∀ v H', QD K H st R v H' → Q v H'
theorem call_isi {t : Ty} (ht : noErr t = true) : CallR X (.builtin "isinstance") (rIsi X.K sub t) := by
  intro pins s σ H vs us Q I rv h
  obtain ⟨d, v, st, R, rfl, r, ok, h, hq⟩ := h
  cases rv with | cons r1 r2 => cases r2 with | cons r2 r3 =>
    cases r3
    cases r2
    obtain ⟨b, hb, hi⟩ := isi_sound I ok r r1 ht h
    exact hi X.A _ _ fun tk => ⟨.bl b, H, I.tok tk, rfl, hq _ _ (.here ok (.bl b) hb)⟩
theorem j_isi {t : Ty} {n : Str} (ht : noErr t = true) (hg : Gl X "isinstance") (hm : X.mg "isinstance" = none) (hg2 : Gl X n) (hm2 : X.mg n = none) (hv2 : bootBuiltins n = some (.type (tyN t))) (ha : PE X a (tOf X.K (wpE C sub E x)))
    (hn2 : n ≠ "__name__") (hd2 : (n == ("__debug__" : Str)) = false) (he : starEach [a, .Name n p2] X.env = (false, eval a X.env) :: starEach [.Name n p2] X.env) (he2 : starEach [.Name n p2] X.env = [(false, eval (.Name n p2) X.env)]) (hpl : (backTo pos (starEach [.Name n p2] X.env)).any (·.1) = false) :
    PE X (.Call (.Name "isinstance" p) [a, .Name n p2] [] pos) (tOf X.K (wpE C sub E (.isi x [t]))) :=
  (pe_callB (call_isi (sub := sub) ht) hg hm bt_isinstance (pa_cons ha (pa_cons (pe_bltn hg2 hm2 hv2 (v := .ty (tyN t)) rfl hn2 hd2) pa_nil he2) he) (by decide) (by decide) he hpl).imp fun σ H Q ⟨σd, st, R, r, ok, q, hq⟩ => by
    refine ⟨σd, st, _, r, ok, q, fun v H1 ⟨d, st1, s1, ok1, r1, q1⟩ => ?_⟩
    exact ⟨d, v, st1, R, rfl, r1, ok1, q1, fun v H' z => hq _ _ (.after s1 z)⟩
theorem j_str {t : String} {j : Nat} (h : Str.ofString t = ⟨(W t).toArray⟩) : PE X (.Constant (.str (Str.ofString t)) j pos) (tOf X.K (wpE C sub E (.c (.str (W t))))) :=
  j_const pe_str fun H => by rw [h]; exact .str _
end
end L3
end
section
namespace L3
open PySem PySem.Spec PyProof.Rows L2
structure JE (X : Cx) (C : CallT) (sub : Nat → Nat → Bool) (E : XK) (e : Expr) (x : Ex) : Prop where
  h : PE X e (tOf X.K (wpE C sub E x))
structure JT (X : Cx) (C : CallT) (sub : Nat → Nat → Bool) (E : XK) (e : Expr) (x : Ex) : Prop where
  h : PT X e (ttOf X.K (wpE C sub E x))
structure JW (X : Cx) (C : CallT) (sub : Nat → Nat → Bool) (E : XK) (e : Expr) (x : Ex) : Prop where
  h : PW X e (ttOf X.K (wpE C sub E x))
structure JA (X : Cx) (C : CallT) (sub : Nat → Nat → Bool) (E : XK) (es : List Expr) (xs : List Ex) : Prop where
  h : PA X es (taOf X.K (wpEs C sub E xs))
structure JO (X : Cx) (C : CallT) (sub : Nat → Nat → Bool) (E : XK) (e : Option Expr) (xs : List Ex) : Prop where
  h : PO X e (toOf X.K (wpEs C sub E xs))
structure JI (X : Cx) (C : CallT) (sub : Nat → Nat → Bool) (E : XK) (tg e : Expr) (k : Option IK) (xs : List Ex) : Prop where
  h : PI X tg e (tiOf X.K fun σ st M => wpEs C sub E xs σ st fun ds st1 => itrW k ds st1 fun as ys => M as ys st1)
structure JG (X : Cx) (C : CallT) (sub : Nat → Nat → Bool) (E : XK) (tg : Expr) (t : Tg) : Prop where
  h : PG X tg (gOf X.K (tgW C sub E t))
structure JN (X : Cx) (tg : Expr) (i : Nat) : Prop where
  h : PG X tg (gName i)
structure JNs (X : Cx) (es : List Expr) (is : List Nat) : Prop where
  h : PGs X es (gNames is)
structure JB (X : Cx) (tg : Expr) (one : Bool) (n : Nat) : Prop where
  h : PG X tg (gBl X.K one n)
structure JQ (X : Cx) (C : CallT) (sub : Nat → Nat → Bool) (E : XK) (es : List Expr) (xs : List Ex) : Prop where
  h : PTs X es (tqOf X.K (wpTs C sub E xs))
structure JS (X : Cx) (C : CallT) (sub : Nat → Nat → Bool) (s : Stmt) (x : Sx) : Prop where
  h : PS X s (tsOf X.K (wpS C sub x))
structure JSs (X : Cx) (C : CallT) (sub : Nat → Nat → Bool) (ss : List Stmt) (xs : List Sx) : Prop where
  h : PSs X ss (tsOf X.K (wpSs C sub xs))
structure CallOk (X : Cx) (C : CallT) (n : Str) (fid : Nat) : Prop where
  h : ∃ k f fd ps, FnOk X.prog X.w X.K X.mg X.base CX0 k f fd ps (spOf X.K C fid) ∧ Room k X.A ∧ X.mg n = some (.ref f) ∧ PySem.W.keepIn X.K (.ref f) = true ∧ Binds X.K fd ps []
noncomputable def GC (K : PySem.W.Frag) (mg : Str → Option Value) (n : Str) (d : D) : Prop := ∃ u v, mg n = some u ∧ RelV v u ∧ ∀ H, Rep K H d v
section
variable {X : Cx} {C : CallT} {sub : Nat → Nat → Bool} {E : XK} {a b c e o tg : Expr} {es : List Expr} {x y z : Ex} {xs : List Ex} {p p2 pos apos : Pos} {k : Nat} {n : Str} {s : Stmt} {ss : List Stmt} {sxs : List Sx}
theorem jv (i : Nat) (hN : X.N[i]? = some n := by kernel_rfl) (hv : X.env.scope.names.lookup n = some .local := by kernel_rfl) (hd : (n == ("__debug__" : Str)) = false := by kernel_rfl)
    (hcd : (n == ("__classdict__" : Str)) = false := by kernel_rfl) : JE X C sub E (.Name n pos) (.v i) := ⟨j_var (pv i hN (.inl hv) hd hcd)⟩
theorem jvc (i : Nat) (hN : X.N[i]? = some n := by kernel_rfl) (hv : X.env.scope.names.lookup n = some .cell := by kernel_rfl) (hd : (n == ("__debug__" : Str)) = false := by kernel_rfl)
    (hcd : (n == ("__classdict__" : Str)) = false := by kernel_rfl) : JE X C sub E (.Name n pos) (.v i) := ⟨j_var (pv i hN (.inr (.inl hv)) hd hcd)⟩
theorem ji {i : Int} : JE X C sub E (.Constant (.int i) k pos) (.c (.int i)) := ⟨j_const pe_int fun o' => .int _⟩
theorem jb {i : Bool} : JE X C sub E (.Constant (.bool i) k pos) (.c (.bl i)) := ⟨j_const pe_bl fun o' => .bl _⟩
theorem js {t : String} (h : Str.ofString t = ⟨(W t).toArray⟩ := by kernel_rfl) : JE X C sub E (.Constant (.str (Str.ofString t)) k pos) (.c (.str (W t))) := ⟨j_str h⟩
theorem jg {d : D} (h : GC X.K X.mg n d) (hg : X.env.kindOf n = some .globalImplicit := by kernel_rfl) (hd : (n == ("__debug__" : Str)) = false := by kernel_rfl) : JE X C sub E (.Name n pos) (.c d) := ⟨let ⟨u, v, h1, h2, h3⟩ := h; j_const (pe_glob hg h1 h2 hd) h3⟩
theorem ja (h : JE X C sub E e x) (hs : JA X C sub E es xs) (hst : starEach (e :: es) X.env = (false, eval e X.env) :: starEach es X.env := by kernel_rfl) : JA X C sub E (e :: es) (x :: xs) := ⟨j_cons h.h hs.h hst⟩
theorem jt (m : CMono C C) (hs : JA X C sub E es xs) (hl : xs.length ≤ LINE := by decide) : JE X C sub E (.Tuple es k pos) (.tup xs) := ⟨j_tup m hs.h hl⟩
theorem jcm {o : COp} (u : X.A.units + 180 < cLine) (ha : JE X C sub E a x) (hb : JE X C sub E b y) (hm : behindInMarks (cop o) b = false := by kernel_rfl) : JE X C sub E (.Compare a [cop o] [b] pos) (.cmp o x y) := ⟨j_cmp u ha.h hb.h hm⟩
theorem tcm {o : COp} (u : X.A.units + 180 < cLine) (ha : JE X C sub E a x) (hb : JE X C sub E b y) (hm : behindInMarks (cop o) b = false := by kernel_rfl) : JT X C sub E (.Compare a [cop o] [b] pos) (.cmp o x y) := ⟨jt_cmp u ha.h hb.h hm⟩
theorem jch {o o' : COp} (u : X.A.units + 180 < cLine) (ha : JE X C sub E a x) (hb : JE X C sub E b y) (hc : JE X C sub E c z) (hm : lastMarks [cop o, cop o'] [b, c] = false := by kernel_rfl) : JE X C sub E (.Compare a [cop o, cop o'] [b, c] pos) (.chain o o' x y z) := ⟨j_chain u ha.h hb.h hc.h hm⟩
theorem tp (h : JE X C sub E e x) (he : ∀ whole, isTrue e X.env whole = (do let v ← whole; standAt e.pos; holding [v] (truthy v)) := by intro _; rfl) : JT X C sub E e x := ⟨jt_plain h.h he⟩
theorem jix (ha : JE X C sub E a x) (hb : JE X C sub E b y) (hp : PlainIx b := by intro _ _; rfl) : JE X C sub E (.Subscript a b pos) (.ix x y) := ⟨j_ix ha.h hb.h hp⟩
theorem jcl {fid : Nat} (h : CallOk X C n fid) (ha : JA X C sub EF (e :: es) xs) (hg : X.env.kindOf n = some .globalImplicit := by kernel_rfl) (hdb : (n == ("__debug__" : Str)) = false := by kernel_rfl) (he : starEach (e :: es) X.env = (false, eval e X.env) :: starEach es X.env := by kernel_rfl) (hpl : (backTo pos (starEach es X.env)).any (·.1) = false := by kernel_rfl) :
    JE X C sub EF (.Call (.Name n p) (e :: es) [] pos) (.call fid xs) := ⟨by obtain ⟨k, f, fd, ps, h1, h2, h3, h4, h5⟩ := h.h; exact j_call h1 h2 hg h3 h4 h5 pass0 ha.h hdb he hpl⟩
theorem jfun {f : BI} {id : String} (hW : BiR X (.builtin id) (biW f)) (hv : bootBuiltins n = some (.builtin id)) (hm : X.mg n = none) (ha : JA X C sub E (e :: es) xs) (hg : X.env.kindOf n = some .globalImplicit := by kernel_rfl)
    (hn : n ≠ "__name__" := by decide) (hdb : (n == ("__debug__" : Str)) = false := by kernel_rfl) (he : starEach (e :: es) X.env = (false, eval e X.env) :: starEach es X.env := by kernel_rfl) (hpl : (backTo pos (starEach es X.env)).any (·.1) = false := by kernel_rfl) :
    JE X C sub E (.Call (.Name n p) (e :: es) [] pos) (.bi f xs) := ⟨(j_fun hW hg hm hv ha.h hn hdb he hpl).imp fun σ H Q ⟨σd, st, R, r, ok, q, hq⟩ => ⟨σd, st, R, r, ok, q, hq⟩⟩
theorem jtyp {f : BI} {id : String} (hW : BiR X (.type id) (biW f)) (hv : bootBuiltins n = some (.type id)) (hm : X.mg n = none) (ha : JA X C sub E (e :: es) xs) (hg : X.env.kindOf n = some .globalImplicit := by kernel_rfl)
    (hn : n ≠ "__name__" := by decide) (hdb : (n == ("__debug__" : Str)) = false := by kernel_rfl) (he : starEach (e :: es) X.env = (false, eval e X.env) :: starEach es X.env := by kernel_rfl) (hpl : (backTo pos (starEach es X.env)).any (·.1) = false := by kernel_rfl) :
    JE X C sub E (.Call (.Name n p) (e :: es) [] pos) (.bi f xs) := ⟨(j_type hW hg hm hv ha.h hn hdb he hpl).imp fun σ H Q ⟨σd, st, R, r, ok, q, hq⟩ => ⟨σd, st, R, r, ok, q, hq⟩⟩
theorem jis {t : Ty} (hv : bootBuiltins n = some (.type (tyN t))) (hm : X.mg "isinstance" = none) (hm2 : X.mg n = none) (ha : JE X C sub E a x) (ht : noErr t = true := by kernel_rfl) (hg : X.env.kindOf "isinstance" = some .globalImplicit := by kernel_rfl) (hg2 : X.env.kindOf n = some .globalImplicit := by kernel_rfl)
    (hn2 : n ≠ "__name__" := by decide) (hd2 : (n == ("__debug__" : Str)) = false := by kernel_rfl) (he : starEach [a, .Name n p2] X.env = (false, eval a X.env) :: starEach [.Name n p2] X.env := by kernel_rfl) (he2 : starEach [.Name n p2] X.env = [(false, eval (.Name n p2) X.env)] := by kernel_rfl) (hpl : (backTo pos (starEach [.Name n p2] X.env)).any (·.1) = false := by kernel_rfl) :
    JE X C sub E (.Call (.Name "isinstance" p) [a, .Name n p2] [] pos) (.isi x [t]) := ⟨j_isi ht hg hm hg2 hm2 hv ha.h hn2 hd2 he he2 hpl⟩
theorem jap (ho : JE X C sub E o x) (ha : JA X C sub E (e :: es) xs) (hbase : attributeBase o "append" X.env (eval o X.env) = eval o X.env := by kernel_rfl)
    (hfew : ((backTo pos (starEach (e :: es) X.env)).all (fun x => !x.1) && (backToKw pos (keywordEach [] X.env)).all (fun x => x.1.isSome) && decide ((e :: es).length + ([] : List Keyword).length + (if ([] : List Keyword).isEmpty then 0 else 1) < 30)) = true := by kernel_rfl) (hline : (apos.endLine == pos.line) = true := by kernel_rfl)
    (hs : starEach (e :: es) X.env = (false, eval e X.env) :: starEach es X.env := by kernel_rfl) (hplain : (backTo pos (starEach es X.env)).any (·.1) = false := by kernel_rfl) :
    JE X C sub E (.Call (.Attribute o "append" apos) (e :: es) [] pos) (.meth .append x xs) := ⟨j_meth (fun z => nomatch z) PySem.F.slot_list_append PySem.F.type_list_append me_append ho.h ha.h hbase hfew hline hs hplain⟩
theorem jxt (ho : JE X C sub E o x) (ha : JA X C sub E (e :: es) xs) (hbase : attributeBase o "extend" X.env (eval o X.env) = eval o X.env := by kernel_rfl)
    (hfew : ((backTo pos (starEach (e :: es) X.env)).all (fun x => !x.1) && (backToKw pos (keywordEach [] X.env)).all (fun x => x.1.isSome) && decide ((e :: es).length + ([] : List Keyword).length + (if ([] : List Keyword).isEmpty then 0 else 1) < 30)) = true := by kernel_rfl) (hline : (apos.endLine == pos.line) = true := by kernel_rfl)
    (hs : starEach (e :: es) X.env = (false, eval e X.env) :: starEach es X.env := by kernel_rfl) (hplain : (backTo pos (starEach es X.env)).any (·.1) = false := by kernel_rfl) :
    JE X C sub E (.Call (.Attribute o "extend" apos) (e :: es) [] pos) (.meth .extend x xs) := ⟨j_meth (fun z => nomatch z) PySem.F.slot_list_extend PySem.F.type_list_extend me_extend ho.h ha.h hbase hfew hline hs hplain⟩
theorem jpo (ho : JE X C sub E o x) (hbase : attributeBase o "pop" X.env (eval o X.env) = eval o X.env := by kernel_rfl) (hline : (apos.endLine == pos.line) = true := by kernel_rfl) :
    JE X C sub E (.Call (.Attribute o "pop" apos) [] [] pos) (.meth .pop x []) := ⟨j_meth0 (fun z => nomatch z) PySem.F.slot_list_pop PySem.F.type_list_pop me_pop ho.h hbase hline⟩
theorem sx (m : CMono C C) (h : JE X C sub EF e x) (hs : swapsWith e none pos.line X.env = pure false := by kernel_rfl) : JS X C sub (.Expr e pos) (.ex x) := ⟨s_ex m h.h hs⟩
theorem sn {i : Nat} (m : CMono C C) (nd : X.N.Nodup) (he : JE X C sub EF e x) (hi : X.N[i]? = some n := by kernel_rfl) (hx : X.env.scope.names.lookup n = some .local := by kernel_rfl)
    (hs : swapsWithSole [.Name n p] e pos.line X.env = pure false := by kernel_rfl) (hw : swappedStores [.Name n p] e X.env = pure none := by kernel_rfl) (h1 : (assignEach [.Name n p] X.env).map (·.2) = [assign (.Name n p) X.env] := by kernel_rfl) : JS X C sub (.Assign [.Name n p] e pos) (.asg (.nm i) x) := ⟨s_asg m he.h (g_nm (pg_name nd hi (.inl hx) (.inr hx))) hs hw h1⟩
theorem snc {i : Nat} (m : CMono C C) (nd : X.N.Nodup) (he : JE X C sub EF e x) (hi : X.N[i]? = some n := by kernel_rfl) (hx : X.env.scope.names.lookup n = some .cell := by kernel_rfl) (hf : X.fn n = true := by kernel_rfl)
    (hs : swapsWithSole [.Name n p] e pos.line X.env = pure false := by kernel_rfl) (hw : swappedStores [.Name n p] e X.env = pure none := by kernel_rfl) (h1 : (assignEach [.Name n p] X.env).map (·.2) = [assign (.Name n p) X.env] := by kernel_rfl) : JS X C sub (.Assign [.Name n p] e pos) (.asg (.nm i) x) := ⟨s_asg m he.h (g_nm (pg_name nd hi (.inr hx) (.inl hf))) hs hw h1⟩
theorem gn {i : Nat} (nd : X.N.Nodup) (hi : X.N[i]? = some n := by kernel_rfl) (hx : X.env.scope.names.lookup n = some .local := by kernel_rfl) : JN X (.Name n p) i := ⟨pg_name nd hi (.inl hx) (.inr hx)⟩
theorem gnc {i : Nat} (nd : X.N.Nodup) (hi : X.N[i]? = some n := by kernel_rfl) (hx : X.env.scope.names.lookup n = some .cell := by kernel_rfl) (hf : X.fn n = true := by kernel_rfl) : JN X (.Name n p) i := ⟨pg_name nd hi (.inr hx) (.inl hf)⟩
theorem gc {i : Nat} {is : List Nat} (h1 : JN X e i) (h2 : JNs X es is) (hs : (assignEach (e :: es) X.env).map (·.2) = assign e X.env :: (assignEach es X.env).map (·.2) := by kernel_rfl) : JNs X (e :: es) (i :: is) := ⟨gs_cons h1.h h2.h hs⟩
theorem gt {is : List Nat} (h : JNs X es is) (hc : X.calm = true := by kernel_rfl) (hn : (assignEach es X.env).length = is.length := by kernel_rfl) (hst : (assignEach es X.env).findIdx? (·.1) = none := by kernel_rfl) : JG X C sub E (.Tuple es k pos) (.tp is) := ⟨g_tp hc h.h hn hst⟩
theorem gi (ho : JE X C sub E o x) (hi : JE X C sub E a y)
    (ha : ∀ v, assign (.Subscript o a pos) X.env v = (do
      let ov ← holding [v] (eval o X.env)
      let iv ← holding [v, ov] (eval a X.env)
      standAt pos
      holding [v, ov, iv] (setItem ov iv v)
      release [v, ov, iv] []) := by intro _; rfl) : JG X C sub E (.Subscript o a pos) (.ix x y) := ⟨g_ix ho.h hi.h ha⟩
theorem sg {t : Tg} (m : CMono C C) (he : JE X C sub EF e x) (hg : JG X C sub EF tg t)
    (hs : swapsWithSole [tg] e pos.line X.env = pure false := by kernel_rfl) (hw : swappedStores [tg] e X.env = pure none := by kernel_rfl) (h1 : (assignEach [tg] X.env).map (·.2) = [assign tg X.env] := by kernel_rfl) : JS X C sub (.Assign [tg] e pos) (.asg t x) := ⟨s_asg m he.h hg.h hs hw h1⟩
theorem sw (m : CMono C C) (hc : JT X C sub EF c x) (hb : JSs X C sub ss sxs) (hp : PassesOwn (model X.prog X.w) X.A X.env X.xe := by exact PassesOwn.never) : JS X C sub (.While c ss [] pos) (.whl x sxs) := ⟨s_while m hp hc.h hb.h⟩
theorem sfn {kk : Option IK} {i : Nat} (m : CMono C C) (nd : X.N.Nodup) (hi : JI X C sub EF (.Name n p) e kk xs) (hb : JSs X C sub ss sxs)
    (hN : X.N[i]? = some n := by kernel_rfl) (hx : X.env.scope.names.lookup n = some .local := by kernel_rfl)
    (hp : PassesOwn (model X.prog X.w) X.A X.env X.xe := by exact PassesOwn.never) (hc : X.calm = true := by kernel_rfl) (hs : ∀ x, foldedSetIterable e X.env x = pure x := by intro _; rfl) : JS X C sub (.For (.Name n p) e ss [] pos) (.forr (.nm i) kk xs sxs) := ⟨s_for m hp hc hi.h (g_nm (pg_name nd hN (.inl hx) (.inr hx))) hb.h hs⟩
theorem pr1 (m : CMono C C) (hm : X.mg "range" = none) (ha : JA X C sub E [a] [x]) (hg : X.env.kindOf "range" = some .globalImplicit := by kernel_rfl) (hs : starEach [a] X.env = [(false, eval a X.env)] := by kernel_rfl) :
    JI X C sub E tg (.Call (.Name "range" p) [a] [] pos) (some .range) [x] := ⟨pi_rng1 m hg hm ha.h hs⟩
theorem srn {cl : Nat} {t : String} (m : CMono C C) : JS X C sub s (.rais cl [.c (.str (W t))]) := ⟨s_rais m fun σd st h => h⟩
end
section
variable {X : Cx} {C : CallT} {sub : Nat → Nat → Bool} {E : XK} {a b c e o tg : Expr} {es rest : List Expr} {x y z : Ex} {xs : List Ex} {p p2 pos apos : Pos} {k : Nat} {n : Str} {s : Stmt} {ss as bs : List Stmt} {sx1 : Sx} {sxs ax bx : List Sx}
theorem an : JA X C sub E [] [] := ⟨j_nil⟩
theorem jl (hs : JA X C sub E es xs) : JE X C sub E (.List es pos) (.lst xs) := ⟨j_lst hs.h⟩
theorem jbi {op : BOp} (ha : JE X C sub E a x) (hb : JE X C sub E b y) : JE X C sub E (.BinOp a (bop op) b pos) (.bin op x y) := ⟨j_bin ha.h hb.h⟩
theorem jno (ha : JE X C sub E a x) : JE X C sub E (.UnaryOp .Not a pos) (.not_ x) := ⟨j_not ha.h⟩
theorem jon {op : BoolOp} (ha : JE X C sub E a x) : JE X C sub E (.BoolOp op [a] pos) x := ⟨j_one ha.h⟩
theorem jan (ha : JE X C sub E a x) (hb : JE X C sub E (.BoolOp .And (b :: rest) pos) y) : JE X C sub E (.BoolOp .And (a :: b :: rest) pos) (.and_ x y) := ⟨j_and ha.h hb.h⟩
theorem on : JO X C sub E none [] := ⟨jo_none⟩
theorem os (h : JE X C sub E e x) : JO X C sub E (some e) [x] := ⟨jo_some h.h⟩
theorem jsl {lo hi : Option Expr} {xl xh : List Ex} (ha : JE X C sub E a x) (hl : JO X C sub E lo xl) (hh : JO X C sub E hi xh) : JE X C sub E (.Subscript a (.Slice lo hi none p2) pos) (.sl x xl xh) := ⟨j_sl ha.h hl.h hh.h⟩
theorem tno (h : JT X C sub E e x) : JT X C sub E (.UnaryOp .Not e pos) (.not_ x) := ⟨jt_not h.h⟩
theorem wpt (h : JW X C sub E e x) : JT X C sub E e x := ⟨h.h.pt⟩
theorem won {op : BoolOp} (h : JT X C sub E e x) : JW X C sub E (.BoolOp op [e] pos) x := ⟨jw_one h.h⟩
theorem wan (m : CMono C C) (ha : JT X C sub E a x) (hb : JW X C sub E (.BoolOp .And (b :: rest) pos) y) : JW X C sub E (.BoolOp .And (a :: b :: rest) pos) (.and_ x y) := ⟨jw_and m ha.h hb.h⟩
theorem wor (m : CMono C C) (ha : JT X C sub E a x) (hb : JW X C sub E (.BoolOp .Or (b :: rest) pos) y) : JW X C sub E (.BoolOp .Or (a :: b :: rest) pos) (.or_ x y) := ⟨jw_or m ha.h hb.h⟩
theorem iv (h : JE X C sub E e x) : JI X C sub E tg e none [x] := ⟨pi_val h.h⟩
theorem qn : JQ X C sub E [] [] := ⟨ts_nil⟩
theorem nn : JNs X [] [] := ⟨gs_nil⟩
theorem b1 (h : JN X tg 0) : JB X tg true 1 := ⟨h.h⟩
theorem c0 : JSs X C sub [] [] := ⟨s_nil⟩
theorem cc (h1 : JS X C sub s sx1) (h2 : JSs X C sub ss sxs) : JSs X C sub (s :: ss) (sx1 :: sxs) := ⟨s_cons h1.h h2.h⟩
theorem sif (m : CMono C C) (hc : JT X C sub EF c x) (ha : JSs X C sub as ax) (hb : JSs X C sub bs bx) : JS X C sub (.If c as bs pos) (.iff x ax bx) := ⟨s_if m hc.h ha.h hb.h⟩
theorem sre (m : CMono C C) (h : JE X C sub EF e x) : JS X C sub (.Return (some e) pos) (.ret x) := ⟨s_ret m h.h⟩
end
section
variable {X : Cx} {C : CallT} {sub : Nat → Nat → Bool} {elt iter tg : Expr} {ifs : List Expr} {xe : Ex} {xifs its : List Ex} {pos : Pos} {scope : Scope} {own cn : List Str} {caps : List Nat} {one : Bool} {k : Option IK}
theorem jco (m : CMono C C) (S : CompSc X scope cn caps) (hi : JI X C sub EF tg iter k its)
    (hg : ∀ fp s H Ca, JB (cxC X scope own cn fp s H Ca) tg one own.length)
    (hts : ∀ fp s H Ca, JQ (cxC X scope own cn fp s H Ca) C sub EF ifs xifs)
    (he : ∀ fp s H Ca, JE (cxC X scope own cn fp s H Ca) C sub EF elt xe) (hc : X.calm = true := by kernel_rfl) (hone : one = true → own.length = 1 := by decide)
    (hs : ∀ x, foldedSetIterable iter X.env x = pure x := by intro _; rfl) :
    JE X C sub EF (.ListComp elt [⟨tg, iter, ifs, 0⟩] scope pos) (.comp own.length caps (List.range own.length) one k its xifs xe) :=
  ⟨j_comp m S hc hone hi.h (fun a b c d => (hg a b c d).h) (fun a b c d => (hts a b c d).h) (fun a b c d => (he a b c d).h) hs⟩
theorem sco {i : Nat} {y : Str} {py spos : Pos} (m : CMono C C) (nd : X.N.Nodup) (S : CompSc X scope cn caps) (hi : JI X C sub EF tg iter k its)
    (hg : ∀ fp s H Ca, JB (cxC X scope own cn fp s H Ca) tg one own.length)
    (hts : ∀ fp s H Ca, JQ (cxC X scope own cn fp s H Ca) C sub EF ifs xifs)
    (he : ∀ fp s H Ca, JE (cxC X scope own cn fp s H Ca) C sub EF elt xe) (hy : X.N[i]? = some y := by kernel_rfl) (hx : X.env.scope.names.lookup y = some .local := by kernel_rfl)
    (hsw : swapsWith (.ListComp elt [⟨tg, iter, ifs, 0⟩] scope pos) (some (.Name y py)) spos.line X.env = pure true := by kernel_rfl) (hc : X.calm = true := by kernel_rfl) (hone : one = true → own.length = 1 := by decide)
    (hs : ∀ x, foldedSetIterable iter X.env x = pure x := by intro _; rfl) :
    JS X C sub (.Assign [.Name y py] (.ListComp elt [⟨tg, iter, ifs, 0⟩] scope pos) spos) (.asg (.nm i) (.comp own.length caps (List.range own.length) one k its xifs xe)) :=
  ⟨s_asgC m S hc hone hi.h (fun a b c d => (hg a b c d).h) (fun a b c d => (hts a b c d).h) (fun a b c d => (he a b c d).h) nd hy (.inl hx) (.inr hx) hsw hs⟩
end
noncomputable def isCF (k : Option NameKind) : Bool := k == some .cell || k == some .free
noncomputable def compB (names on : List (Str × NameKind)) (N cn : List Str) (caps : List Nat) : Bool :=
  names.all (fun y => !(y.2 == .cell) && (!(y.2 == .local) || names.lookup y.1 == some .local) && (!(y.2 == .free) || isCF (on.lookup y.1))) && (cn.length == caps.length) &&
    (cn.zip caps).all (fun p => names.lookup p.1 == some .free && N[p.2]? == some p.1 && isCF (on.lookup p.1))
theorem isCF_of {k : Option NameKind} (h : isCF k = true) : k = some .cell ∨ k = some .free := by
  unfold isCF at h
  rw [Bool.or_eq_true] at h
  rcases h with h | h
  · exact .inl (by simpa using h)
  · exact .inr (by simpa using h)
theorem csc {X : Cx} {scope : Scope} {cn : List Str} {caps : List Nat} {on : List (Str × NameKind)} {N : List Str} (h : compB scope.names on N cn caps = true) (hE : X.env.scope.names = on := by kernel_rfl) (hN : X.N = N := by kernel_rfl) (hk : scope.kind = .function := by kernel_rfl) : CompSc X scope cn caps := by
  unfold compB at h
  rw [Bool.and_eq_true, Bool.and_eq_true] at h
  obtain ⟨⟨h1, h2⟩, h3⟩ := h
  have h1 := List.all_eq_true.mp h1
  have hl : cn.length = caps.length := by simpa using h2
  refine ⟨hk, fun y hy => ?_, fun y hy e => ?_, fun y hy e => ?_, hl, fun j y e => ?_⟩
  · have := h1 y hy
    simp only [Bool.and_eq_true] at this
    intro z; rw [z] at this; simp at this
  · have := h1 y hy
    simp only [Bool.and_eq_true, Bool.or_eq_true] at this
    rcases this.1.2 with q | q
    · rw [e] at q; simp at q
    · simpa using q
  · have := h1 y hy
    simp only [Bool.and_eq_true, Bool.or_eq_true] at this
    rcases this.2 with q | q
    · rw [e] at q; simp at q
    · show X.env.scope.names.lookup y.1 = _ ∨ X.env.scope.names.lookup y.1 = _
      rw [hE]; exact isCF_of q
  · obtain ⟨hj, ej⟩ := List.getElem?_eq_some_iff.mp e
    have hj' : j < caps.length := by omega
    have hm : (y, caps[j]) ∈ cn.zip caps := by
      rw [← ej]
      exact List.mem_iff_getElem.mpr ⟨j, by simp; omega, by simp⟩
    have := List.all_eq_true.mp h3 _ hm
    simp only [Bool.and_eq_true] at this
    refine ⟨by simpa using this.1.1, caps[j], List.getElem?_eq_getElem hj', by rw [hN]; simpa using this.1.2, ?_⟩
    show X.env.scope.names.lookup y = _ ∨ X.env.scope.names.lookup y = _
    rw [hE]; exact isCF_of this.2
end L3
namespace L3
theorem un180 {k : Nat} {A : PySem.Around} (hr : L2.Room k A) : A.units + 180 < PySem.cLine := by have := hr.un; omega
end L3
end
section
namespace PySem
open Sem (wp)
section
variable {prog : Program} {w : World} {A : Around} {s : Shared} {R : Result → Shared → Prop} {I : Addr} {fp wr : List Addr} {n : Nat} {P : Nat → Value → Prop} {St : Nat → Heap → Prop}
noncomputable def HintOk (prog : Program) (w : World) (I : Addr) (St : Nat → Heap → Prop) : Prop := ∀ (A : Around) (s : Shared) (Q : Bool → Shared → Prop) (E : Value → Shared → Prop), St 0 s.heap → (∀ b tk, Q b { s with toks := tk }) → wpAny (model prog w) A (Builtin.List.listLengthHint (.ref I)) Q E s
theorem extend_it {T : String} (W : Walks prog w A.in1 I fp wr n P St) (hn : n ≤ sizeLine) (hT : ∀ h, St 0 h → ∃ o, h.get? I = some o ∧ o.cls = .type T) (h2 : (Value.type T == Value.type "list") = false) (h3 : (Value.type T == Value.type "tuple") = false) (hint : HintOk prog w I St)
    (S : Addr) (res : Value) (c₀ : Nat) (hst : St 0 s.heap) (hSf : S ∉ fp) (hI : I ∈ fp) (hS : s.heap.get? S = some { cls := .type "list", data := .seq #[] c₀ })
    (hR : ∀ h' tk acc' c', (∀ b o, b ∉ S :: wr → s.heap.get? b = some o → h'.get? b = some o) → h'.get? S = some { cls := .type "list", dict := none, data := .seq acc' c', slots := #[] } → ItemsOf P acc' n → R (.ok (.ret res)) { s with heap := h', toks := tk }) :
    wpAny (model prog w) A.in1 (Builtin.List.listExtendWith (.ref S) (.ref I) res)
      (fun fin s' => match fin with | .done f => R (.ok f) s' | .again c' => c'.quiet = true ∧ codeAny (model prog w) A c' R s') (fun e s' => R (.error e) s') s := by
  have hSI : S ≠ I := fun e => hSf (e ▸ hI)
  have key : ∀ (h : Heap) (c₁ tk : Nat), St 0 h → (∀ b o, b ≠ S → s.heap.get? b = some o → h.get? b = some o) → h.get? S = some { cls := .type "list", data := .seq #[] c₁ } →
      codeAny (model prog w) A (.builtin "list.extend.loop" ⟨[.ref S, .ref I, res], []⟩) R { s with heap := h, toks := tk } := by
    intro h c₁ tk hst₁ hk hS₁
    refine codeAny_extend_loopS W.toS hn S hSf res n 0 _ #[] c₁ rfl (Nat.zero_le _) hst₁ hS₁ (ItemsOf.nil _) fun s' acc' c' hm hS' hacc => ?_
    rw [Moved.eq_with hm]
    exact hR s'.heap s'.toks acc' c' (fun b o hb e => hm.heap b o hb (hk b o (fun z => hb (by rw [z]; exact List.mem_cons_self ..)) e)) hS' hacc
  unfold Builtin.List.listExtendWith
  refine wpAny_bind (wpAny_typeOf (T := T) (hT _ hst) ?_)
  have h1 : Builtin.List.listSameRef (.ref S) (.ref I) = false := by simp [Builtin.List.listSameRef, hSI]
  simp only [h1, h2, h3, Bool.or_false, Bool.false_eq_true, if_false]
  refine wpAny_bind (W.self 0 _ _ _ hst ?_)
  refine wpAny_bind (wpAny_holding (hint _ _ _ _ hst fun b tk => ?_))
  have touch : ∀ {Q : Fin → Shared → Prop} {E : Value → Shared → Prop} {k : Unit → Sem Fin}, (∀ h' , St 0 h' → (∀ b o, b ≠ S → s.heap.get? b = some o → h'.get? b = some o) → (∃ c₁, h'.get? S = some { cls := .type "list", data := .seq #[] c₁ }) → wpAny (model prog w) A.in1 (k ()) Q E { s with heap := h', toks := tk }) →
      wpAny (model prog w) A.in1 (rule "list.extend.makes-room" >>= fun o' => Builtin.List.listTouch (.ref S) >>= k) Q E { s with toks := tk } := fun {Q E k} hk => by
    refine wpAny_bind (wpAny_rule (wpAny_bind ?_))
    show wpAny _ A.in1 (updateSeq S (·.push .none) >>= fun o' => updateSeq S (·.pop)) _ _ _
    refine wpAny_bind (wpAny_updateSeq hS rfl ?_)
    have hS₂ := Heap.get?_update_self (Obj.mapSeq (·.push Value.none)) hS rfl
    refine wpAny_updateSeq (hz := by seq_fits) hS₂ rfl ?_
    have hS₃ := Heap.get?_update_self (Obj.mapSeq (·.pop)) hS₂ rfl
    have oth : ∀ b o, b ≠ S → s.heap.get? b = some o → ((s.heap.update S (Obj.mapSeq (·.push Value.none))).update S (Obj.mapSeq (·.pop))).get? b = some o :=
      fun b o hb e => (Heap.get?_update_other _ _ (Ne.symm hb)).trans ((Heap.get?_update_other _ _ (Ne.symm hb)).trans e)
    exact hk _ (W.frame _ _ _ hst fun b hb o e => oth b o (fun h => hSf (h ▸ hb)) e) oth ⟨_, hS₃⟩
  refine wpAny_ite_split (fun o' => ?_) (fun o' => wpAny_pure ⟨plainId_quiet F.plain_extend_loop _, key _ c₀ _ hst (fun b o o' e => e) hS⟩)
  refine touch fun h' a b ⟨c₁, c⟩ => wpAny_pure ⟨plainId_quiet F.plain_extend_loop _, key _ c₁ _ a b c⟩
theorem list_init_it {T : String} (W : Walks prog w A.in1 I fp wr n P St) (hn : n ≤ sizeLine) (hT : ∀ h, St 0 h → ∃ o, h.get? I = some o ∧ o.cls = .type T) (h2 : (Value.type T == Value.type "list") = false) (h3 : (Value.type T == Value.type "tuple") = false) (hint : HintOk prog w I St)
    (S : Addr) (hst : St 0 s.heap) (hSf : S ∉ fp) (hI : I ∈ fp) (hS : s.heap.get? S = some { cls := .type "list", data := .seq #[] })
    (hR : ∀ h' tk acc' c', (∀ b o, b ∉ S :: wr → s.heap.get? b = some o → h'.get? b = some o) → h'.get? S = some { cls := .type "list", dict := none, data := .seq acc' c', slots := #[] } → ItemsOf P acc' n → R (.ok (.ret .none)) { s with heap := h', toks := tk }) :
    wpAny (model prog w) A.in1 (Builtin.«list.__init__» ⟨[.ref S, .ref I], []⟩)
      (fun fin s' => match fin with | .done f => R (.ok f) s' | .again c' => c'.quiet = true ∧ codeAny (model prog w) A c' R s') (fun e s' => R (.error e) s') s := by
  show wpAny _ A.in1 (do let old ← Builtin.List.listItems (.ref S); Builtin.List.listUpdate (.ref S) (fun o' => #[]); letGo old.toList.reverse; Builtin.List.listExtendWith (.ref S) (.ref I) .none) _ _ s
  refine wpAny_bind ?_
  unfold Builtin.List.listItems
  refine wpAny_bind (wpAny_seqItems hS rfl (wpAny_pure ?_))
  show wpAny _ A.in1 (updateSeq S (fun o' => #[]) >>= fun o' => letGo (#[] : Array Value).toList.reverse >>= fun o' => Builtin.List.listExtendWith (.ref S) (.ref I) .none) _ _ s
  refine wpAny_bind (wpAny_updateSeq hS rfl ?_)
  have hS₂ := Heap.get?_update_self (Obj.mapSeq (fun o' => (#[] : Array Value))) hS rfl
  have oth : ∀ b o, b ≠ S → s.heap.get? b = some o → (s.heap.update S (Obj.mapSeq (fun o' => (#[] : Array Value)))).get? b = some o :=
    fun b o hb e => (Heap.get?_update_other _ _ (Ne.symm hb)).trans e
  refine wpAny_bind (wpAny_letGo ?_)
  refine extend_it W hn hT h2 h3 hint S .none _ (W.frame _ _ _ hst fun b hb o e => oth b o (fun h => hSf (h ▸ hb)) e) hSf hI hS₂ fun h' tk acc' c' hm hS' hacc => ?_
  exact hR h' tk acc' c' (fun b o hb e => hm b o hb (oth b o (fun z => hb (by rw [z]; exact List.mem_cons_self ..)) e)) hS' hacc
end
section
variable {prog : Program} {w : World} {A : Around} {E : Value → Shared → Prop} {s : Shared} {I : Addr} {fp wr : List Addr} {n : Nat} {P : Nat → Value → Prop} {St : Nat → Heap → Prop}
theorem call_list_it {T : String} {Q : Value → Shared → Prop} (W : Walks prog w A.in1.in1 I fp wr n P St) (hn : n ≤ sizeLine) (hT : ∀ h, St 0 h → ∃ o, h.get? I = some o ∧ o.cls = .type T) (h2 : (Value.type T == Value.type "list") = false) (h3 : (Value.type T == Value.type "tuple") = false) (hint : HintOk prog w I St)
    (hst : St 0 s.heap) (hfp : ∀ b ∈ fp, b < s.heap.objs.size) (hI : I ∈ fp)
    (hQ : ∀ h' tk acc' c', (∀ b o, b ∉ wr → s.heap.get? b = some o → h'.get? b = some o) → h'.get? s.heap.objs.size = some { cls := .type "list", dict := none, data := .seq acc' c', slots := #[] } → ItemsOf P acc' n → Q (.ref s.heap.objs.size) { s with heap := h', toks := tk }) :
    wpAny (model prog w) A (call (.type "list") [.ref I]) Q E s := by
  have hSf : s.heap.objs.size ∉ fp := fun hm => Nat.lt_irrefl _ (hfp _ hm)
  refine callType_codes (Q₁ := fun obj s₁ => obj = .ref s.heap.objs.size ∧ s₁ = { s with heap := s.heap.push { cls := .type "list", data := .seq #[] } }) F.called_list (F.typeCall_list_1 _) F.entry_list_init
    (code_list_new _ ⟨rfl, rfl⟩) fun obj s₁ h₁ => ?_
  obtain ⟨rfl, rfl⟩ := h₁
  have hS : (s.heap.push { cls := .type "list", data := .seq #[] }).get? s.heap.objs.size = some { cls := .type "list", data := .seq #[] } := Heap.get?_push_size _ rfl
  refine ⟨⟨_, hS, rfl⟩, F.args_list_init_2 _ _, list_init_it (A := A.in1) W hn hT h2 h3 hint _ (W.frame _ _ _ hst fun b o' o e => Heap.get?_push_of_some _ e) hSf hI hS fun h' tk acc' c' hk hS' hacc => ?_⟩
  refine ⟨rfl, hQ h' tk acc' c' (fun b o hb e => hk b o (fun z => ?_) (Heap.get?_push_of_some _ e)) hS' hacc⟩
  rcases List.mem_cons.mp z with z | z
  · exact absurd (Heap.lt_size e) (by rw [z]; exact Nat.lt_irrefl _)
  · exact hb z
end
end PySem
end
section
namespace PySem
namespace F
theorem lri_no_len : typeLookup (.type "list_reverseiterator") "__len__" = pure none := by rw [typeLookup_type, builtinLookup_eq_fast]; kernel_rfl
theorem lri_hint : typeLookup (.type "list_reverseiterator") "__length_hint__" = pure (some (.builtin "list_reverseiterator.__length_hint__")) := by rw [typeLookup_type, builtinLookup_eq_fast]; kernel_rfl
end F
section
variable {prog : Program} {w : World}
theorem hint_lri {I l : Addr} {items : Array Value} : HintOk prog w I (fun i h => i ≤ items.size ∧ h.IsRevIter I l ((items.size : Int) - 1 - (i : Int)) ∧ h.IsList l items) := fun A s Q E hst hQ => by
  have hT := hst.2.1.typeIs
  unfold Builtin.List.listLengthHint
  refine wpAny_bind (wpAny_specialOf hT F.lri_no_len ?_)
  refine wpAny_ite_split (fun hab => absurd hab (by decide)) (fun o' => ?_)
  refine wpAny_ite_split (fun hab => absurd hab (by decide)) (fun o' => ?_)
  refine wpAny_bind (wpAny_specialOf hT F.lri_hint ?_)
  generalize hid : ("list_reverseiterator.__length_hint__" : String) = id0
  wp_delta
  rw [show splitId id0 = some ("list_reverseiterator", "__length_hint__") from by subst hid; decide +kernel]
  subst hid
  refine wpAny_bind (wpAny_isInstance (T := "list_reverseiterator") (b := true) hT (by rw [isSubtype_type]; kernel_rfl) ?_)
  refine wpAny_ite_split (fun hab => absurd hab (by decide)) (fun o' => ?_)
  refine wpAny_ite_split (fun o' => ?_) (fun hab => absurd (by decide +kernel) hab)
  refine wpAny_ite_split (fun hab => absurd hab (by decide +kernel)) (fun o' => ?_)
  exact wpAny_pure (hQ false s.toks)
end
end PySem
end
section
namespace PySem
open PyProof.Rows
namespace F
theorem tup_no_rev : typeLookup (.type "tuple") "__reversed__" = pure none := by rw [typeLookup_type, builtinLookup_eq_fast]; kernel_rfl
theorem tup_item : typeLookup (.type "tuple") "__getitem__" = pure (some (.builtin "tuple.__getitem__")) := by rw [typeLookup_type, builtinLookup_eq_fast]; kernel_rfl
theorem rev_no_len : typeLookup (.type "reversed") "__len__" = pure none := by rw [typeLookup_type, builtinLookup_eq_fast]; kernel_rfl
theorem owner_rev : Manifest.owners.lookup (String.ofList ['d', 'e', 's', 'r', 'e', 'v', 'e', 'r'].reverse) = some Manifest.sig_reversed := by kernel_rfl
theorem slot_rev_next : Slot "reversed" "__next__" "reversed.__next__" :=
  .of (owner := "reversed") (n := "__next__") (by rw [typeLookup_type, builtinLookup_eq_fast]; kernel_rfl) (by decide +kernel) (by decide +kernel) (by decide +kernel)
    (by first | exact .inl (by decide +kernel) | exact .inr (by decide +kernel)) (by rw [isSubtype_type]; kernel_rfl)
theorem slot_rev_hint : Slot "reversed" "__length_hint__" "reversed.__length_hint__" :=
  .of (owner := "reversed") (n := "__length_hint__") (by rw [typeLookup_type, builtinLookup_eq_fast]; kernel_rfl) (by decide +kernel) (by decide +kernel) (by decide +kernel)
    (by first | exact .inl (by decide +kernel) | exact .inr (by decide +kernel)) (by rw [isSubtype_type]; kernel_rfl)
theorem slot_rev_iter : Slot "reversed" "__iter__" "reversed.__iter__" :=
  .of (owner := "reversed") (n := "__iter__") (by rw [typeLookup_type, builtinLookup_eq_fast]; kernel_rfl) (by decide +kernel) (by decide +kernel) (by decide +kernel)
    (by first | exact .inl (by decide +kernel) | exact .inr (by decide +kernel)) (by rw [isSubtype_type]; kernel_rfl)
theorem entry_rev_next : entryFor table "reversed.__next__" = some Builtin.«reversed.__next__» := entryFor_of_tree (by kernel_rfl)
theorem entry_rev_hint : entryFor table "reversed.__length_hint__" = some Builtin.«reversed.__length_hint__» := entryFor_of_tree (by kernel_rfl)
theorem args_rev_next_1 (a : Value) : argsOk "reversed.__next__" ⟨[a], []⟩ := by
  unfold argsOk; rw [signature?_of (id := "reversed.__next__") (n := ['_', '_', 't', 'x', 'e', 'n', '_', '_']) (o := ['d', 'e', 's', 'r', 'e', 'v', 'e', 'r']) (by kernel_rfl) owner_rev]; kernel_rfl
theorem args_rev_hint_1 (a : Value) : argsOk "reversed.__length_hint__" ⟨[a], []⟩ := by
  unfold argsOk; rw [signature?_of (id := "reversed.__length_hint__") (n := "__length_hint__".toList.reverse) (o := ['d', 'e', 's', 'r', 'e', 'v', 'e', 'r']) (by kernel_rfl) owner_rev]; kernel_rfl
theorem args_rev_iter_1 (a : Value) : argsOk "reversed.__iter__" ⟨[a], []⟩ := by
  unfold argsOk; rw [signature?_of (id := "reversed.__iter__") (n := ['_', '_', 'r', 'e', 't', 'i', '_', '_']) (o := ['d', 'e', 's', 'r', 'e', 'v', 'e', 'r']) (by kernel_rfl) owner_rev]; kernel_rfl
theorem entry_rev_iter : entryFor table "reversed.__iter__" = some Builtin.«dict_keyiterator.__iter__» :=
  entryFor_alias (id' := "dict_keyiterator.__iter__") (by kernel_rfl) (by first | rfl | decide +kernel | (unfold String.splitOn; simp +decide [String.splitOnAux])) (by decide +kernel) (by kernel_rfl)
end F
end PySem
end
section
namespace PySem
open PyProof.Rows
section
variable {prog : Program} {w : World} {A : Around} {E : Value → Shared → Prop} {s : Shared}
noncomputable def revT (t : Addr) (i : Int) : Obj := { cls := .type "reversed", data := .fields #[.ref t, rawInt i] }
noncomputable def Heap.IsRevT (h : Heap) (a t : Addr) (i : Int) : Prop := ∃ o, h.get? a = some o ∧ o.cls = .type "reversed" ∧ o.data = .fields #[.ref t, rawInt i]
theorem Heap.IsRevT.typeIs {a t : Addr} {i : Int} (x : s.heap.IsRevT a t i) : s.TypeIs (.ref a) "reversed" := let ⟨o, ho, hc, _⟩ := x; ⟨o, ho, hc⟩
theorem Heap.IsRevT.at {h h' : Heap} {a t : Addr} {i : Int} (x : h.IsRevT a t i) (e : ∀ o, h.get? a = some o → h'.get? a = some o) : h'.IsRevT a t i := let ⟨o, ho, r⟩ := x; ⟨o, e _ ho, r⟩
theorem code_reversed_newT {t : Addr} {items : Array Value} {Q₁ : Value → Shared → Prop} (ht : IsTup s.heap t items) (hfit : (items.size : Int) < 2 ^ 63)
    (h : Q₁ (.ref s.heap.objs.size) { s with heap := s.heap.push (revT t ((items.size : Int) - 1)), toks := s.toks + 1 + 1 }) :
    codeAny (model prog w) A (.call (.builtin "reversed.__new__") ⟨[.type "reversed", .ref t], []⟩) (wants Q₁ E) s := by
  refine codeAny_of_tree ?_
  show wpAny _ A.in1 (do checkBuiltinCall "reversed.__new__" ⟨[.type "reversed", .ref t], []⟩; again (.builtin "reversed.__new__" ⟨[.type "reversed", .ref t], []⟩)) _ _ s
  refine wpAny_bind (wpAny_of_eq (F.newCall_reversed_1 _) (wpAny_pure ⟨plainId_quiet F.plain_reversed_new _, codeAny_builtin F.entry_reversed_new ?_⟩))
  rw [Around.under_plainId F.plain_reversed_new _]
  unfold Builtin.«reversed.__new__»
  refine wpAny_bind (wpAny_of_eq (newClass_reversed _) ?_)
  try dsimp only
  refine wpAny_bind (wpAny_of_eq (a := ()) (by first | rfl | kernel_rfl) ?_)
  refine wpAny_bind (wpAny_of_eq (a := ()) (by first | rfl | kernel_rfl) ?_)
  try dsimp only
  refine wpAny_bind (wpAny_specialOf ht.typeIs F.tup_no_rev ?_)
  try dsimp only
  refine wpAny_bind ?_
  wp_delta
  refine wpAny_bind (wpAny_isInstance (T := "tuple") (b := false) ht.typeIs (by rw [isSubtype_type]; kernel_rfl) ?_)
  refine wpAny_ite_split (fun hab => absurd hab (by decide)) (fun o' => ?_)
  refine wpAny_bind (wpAny_specialOf ht.typeIs F.tup_item ?_)
  refine wpAny_ite_split (fun o' => ?_) (fun hab => absurd (by decide +kernel) hab)
  refine wpAny_pure ?_
  refine wpAny_ite_split (fun hab => absurd hab (by decide)) (fun o' => ?_)
  refine wpAny_bind (len_tuple ht hfit ?_)
  refine wpAny_bind (m := asInt? _) (wpAny_pure ?_)
  refine wpAny_bind (m := Builtin.SmallTypes.newRecord (.type "reversed") [Value.ref t, rawInt ((items.size : Int) - 1)]) ?_
  show wpAny _ _ (newObj (.type "reversed") (.fields #[Value.ref t, rawInt ((items.size : Int) - 1)])) _ _ _
  exact wpAny_newObj_type (wpAny_pure h)
theorem wpAny_pyIter_revT {it t : Addr} {i : Int} {Q : Value → Shared → Prop} (hit : s.heap.IsRevT it t i) (h : Q (.ref it) s) : wpAny (model prog w) A (pyIter (.ref it)) Q E s := by
  refine wpAny_pyIter_slot hit.typeIs F.slot_rev_iter (wpAny_call_entry F.slot_rev_iter hit.typeIs F.entry_rev_iter ?_ (F.args_rev_iter_1 _))
  show wpAny _ _ (ret (.ref it)) _ _ s
  exact wpAny_pure ⟨_, rfl, "reversed", _, hit.typeIs, F.slot_rev_next.lookup, h⟩
theorem wpAny_pyNext_revT_item {it t : Addr} {i : Nat} {items : Array Value} {x : Value} {Q : Option Value → Shared → Prop} (hit : s.heap.IsRevT it t (i : Int)) (ht : IsTup s.heap t items) (hfit : (items.size : Int) < 2 ^ 63) (hx : items[i]? = some x)
    (hQ : ∀ h', h'.IsRevT it t ((i : Int) - 1) → Heap.SameBut it s.heap h' → Q (some x) { s with heap := h', toks := s.toks + 1 }) : wpAny (model prog w) A (pyNext (.ref it)) Q E s := by
  obtain ⟨o, ho, hc, hd⟩ := id hit
  have hi : i < items.size := by
    rcases Nat.lt_or_ge i items.size with z | z
    · exact z
    · rw [Array.getElem?_eq_none z] at hx; cases hx
  unfold pyNext
  refine wpAny_bind (wpAny_attempt (wpAny_callSpecial?_slot (name := Str.ofString "__next__") hit.typeIs F.slot_rev_next
    (wpAny_call_entry F.slot_rev_next hit.typeIs F.entry_rev_next ?_ (F.args_rev_next_1 _))))
  unfold Builtin.«reversed.__next__»
  refine wpAny_bind (wpAny_of_eq (a := (Value.ref it, [])) rfl ?_)
  try dsimp only
  refine wpAny_bind (wpAny_field ho hd (x := .ref t) rfl ?_)
  refine wpAny_bind (wpAny_field ho hd (x := rawInt (i : Int)) rfl ?_)
  show wpAny _ _ (if (i : Int) < 0 then _ else _) _ _ s
  rw [if_neg (by omega)]
  refine wpAny_bind (wpAny_specialOf ht.typeIs F.tup_item ?_)
  refine wpAny_ite_split (fun hab => absurd hab (by decide)) (fun o' => ?_)
  refine wpAny_bind (wpAny_mkInt ?_)
  refine wpAny_bind (wpAny_attempt (PyProof.Rows.getItem_tuple (j := i) ht (by omega) (by omega) (seqIndex_of (by omega) (by omega)) hx ?_))
  refine wpAny_bind (wpAny_field ho hd (x := rawInt (i : Int)) rfl ?_)
  refine wpAny_bind (wpAny_setField ho hd (by simp) ?_)
  first
  | refine wpAny_pure ⟨x, rfl, wpAny_pure (hQ _ ?_ (Heap.SameBut.update ..))⟩
  | refine wpAny_bind (wpAny_pure (wpAny_pure ⟨x, rfl, wpAny_pure (hQ _ ?_ (Heap.SameBut.update ..))⟩))
  exact ⟨_, Heap.get?_update_self _ ho (Obj.isFreed_of_fields (Obj.data_mapFields hd _)), (Obj.cls_mapFields ..).trans hc, by
    rw [Obj.data_mapFields hd]; simp⟩
end
end PySem
end
section
namespace PySem
open PyProof.Rows
section
variable {prog : Program} {w : World} {A : Around} {E : Value → Shared → Prop} {s : Shared}
theorem wpAny_pyNext_revT_end {it t : Addr} {Q : Option Value → Shared → Prop} (hh : A.handled = none) (hit : s.heap.IsRevT it t (-1))
    (hQ : ∀ h', Heap.ExtBut it s.heap h' → Q none { s with heap := h' }) : wpAny (model prog w) A (pyNext (.ref it)) Q E s := by
  obtain ⟨o, ho, hc, hd⟩ := id hit
  unfold pyNext
  refine wpAny_bind (wpAny_attempt (wpAny_callSpecial?_slot (name := Str.ofString "__next__") hit.typeIs F.slot_rev_next
    (wpAny_call_entry F.slot_rev_next hit.typeIs F.entry_rev_next ?_ (F.args_rev_next_1 _))))
  unfold Builtin.«reversed.__next__»
  refine wpAny_bind (wpAny_of_eq (a := (Value.ref it, [])) rfl ?_)
  try dsimp only
  refine wpAny_bind (wpAny_field ho hd (x := .ref t) rfl ?_)
  refine wpAny_bind (wpAny_field ho hd (x := rawInt (-1)) rfl ?_)
  show wpAny _ _ (if (-1 : Int) < 0 then _ else _) _ _ s
  rw [if_pos (by decide)]
  refine wpAny_bind (wpAny_rule ?_)
  refine wpAny_bind ?_
  wp_delta
  have ho2 := Heap.get?_update_self (Obj.mapFields (·.setIfInBounds 1 (rawInt (-1)))) ho (Obj.isFreed_of_fields (Obj.data_mapFields hd _))
  refine wpAny_bind (wpAny_setField ho hd (by simp) ?_)
  refine wpAny_setField ho2 (Obj.data_mapFields hd _) (by simp) ?_
  first
  | show wpAny _ _ (newExc (.type "StopIteration") [] >>= _) _ _ _
  | (refine wpAny_bind ?_; show wpAny _ _ (newExc (.type "StopIteration") [] >>= _) _ _ _)
  refine wpAny_bind ?_
  simp only [newExc, newTuple]
  refine wpAny_bind (wpAny_newObj_type ?_ (by size_fits))
  refine wpAny_bind (m := firstArgMember _ _) (wpAny_of_eq (a := Value.none) (by first | rfl | (simp only [firstArgMember]; rfl)) ?_)
  refine wpAny_newObj_type ?_ (by size_fits)
  simp only [raiseNew]
  refine wpAny_bind (wpAny_handled ?_)
  first | rw [show A.in1.handled = none from hh] | rw [hh]
  refine wpAny_bind (wpAny_pure (wpAny_throw ?_))
  refine wpAny_bind (wpAny_isInstance (T := "StopIteration") (b := true) ⟨_, Heap.get?_push_size _ rfl, rfl⟩ isSubtype_stop ?_)
  refine wpAny_pure (hQ _ ?_)
  have e1 : Heap.ExtBut it s.heap ((s.heap.update it (Obj.mapFields (·.setIfInBounds 1 (rawInt (-1))))).update it (Obj.mapFields (·.setIfInBounds 0 Value.none))) := fun b u hb e =>
    (Heap.get?_update_other _ _ (Ne.symm hb)).trans ((Heap.get?_update_other _ _ (Ne.symm hb)).trans e)
  exact (e1.push _).push _
end
theorem Walks.tupRev {prog : Program} {w : World} {A : Around} (hh : A.handled = none) (I l : Addr) (hne : l ≠ I) (items : Array Value) (hfit : (items.size : Int) < 2 ^ 63) :
    Walks prog w A I [I, l] [I] items.size (fun i v => items[items.size - 1 - i]? = some v) (fun i h => i ≤ items.size ∧ h.IsRevT I l ((items.size : Int) - 1 - (i : Int)) ∧ IsTup h l items) where
  sub := fun b hb => by simp at hb; simp [hb]
  frame := fun o' o' o' x hk => ⟨x.1, x.2.1.at fun o e => hk I (by simp) o e, let ⟨o, ho, r⟩ := x.2.2; ⟨o, hk l (by simp) o ho, r⟩⟩
  item := fun i s Q E hi x hQ => by
    have e : (items.size : Int) - 1 - (i : Int) = ((items.size - 1 - i : Nat) : Int) := by omega
    have hit := x.2.1
    rw [e] at hit
    have hx : items[items.size - 1 - i]? = some (items[items.size - 1 - i]'(by omega)) := Array.getElem?_eq_getElem (by omega)
    refine wpAny_pyNext_revT_item hit x.2.2 hfit hx fun h' hit' hs' => ?_
    have e2 : ((items.size - 1 - i : Nat) : Int) - 1 = (items.size : Int) - 1 - ((i + 1 : Nat) : Int) := by omega
    rw [e2] at hit'
    exact hQ _ h' _ hx ⟨hi, hit', let ⟨o, ho, r⟩ := x.2.2; ⟨o, (hs'.2 l hne).trans ho, r⟩⟩ fun b o hb eo => hs'.extBut b o (fun h => hb (by simp [h])) eo
  done := fun s Q E x hQ => by
    have e : (items.size : Int) - 1 - (items.size : Int) = -1 := by omega
    have hit := x.2.1
    rw [e] at hit
    exact wpAny_pyNext_revT_end hh hit fun h' he' => hQ h' s.toks fun b o hb eo => he' b o (fun h => hb (by simp [h])) eo
  self := fun o' o' o' o' x hQ => wpAny_pyIter_revT x.2.1 hQ
section
variable {prog : Program} {w : World} {A : Around} {E : Value → Shared → Prop} {s : Shared}
theorem F.slot_reversed_init : Slot "reversed" "__init__" "object.__init__" :=
  .of (owner := "object") (n := "__init__") (by rw [typeLookup_type, builtinLookup_eq_fast]; kernel_rfl) (by decide +kernel) (by decide +kernel) (by decide +kernel)
    (by first | exact .inl (by decide +kernel) | exact .inr (by decide +kernel)) (by rw [isSubtype_type]; kernel_rfl)
theorem F.called_reversed : TypeCalled "reversed" "reversed.__new__" "object.__init__" :=
  ⟨by decide +kernel, by decide +kernel, ⟨_, _, F.mro_reversed⟩, F.made_reversed, by decide +kernel, by rw [isSubtype_type]; kernel_rfl, F.slot_reversed_init⟩
theorem call_reversed_tup {t : Addr} {items : Array Value} {Q : Value → Shared → Prop} (ht : IsTup s.heap t items) (hfit : (items.size : Int) < 2 ^ 63)
    (h : Q (.ref s.heap.objs.size) { s with heap := s.heap.push (revT t ((items.size : Int) - 1)), toks := s.toks + 1 + 1 }) : wpAny (model prog w) A (call (.type "reversed") [.ref t]) Q E s := by
  refine callType_codes (Q₁ := fun obj s₁ => s₁.TypeIs obj "reversed" ∧ Q obj s₁) F.called_reversed (F.typeCall_reversed_1 _) F.entry_object_init
    (code_reversed_newT ht hfit ⟨⟨_, Heap.get?_push_size _ rfl, rfl⟩, h⟩) fun obj s₁ hq => ⟨hq.1, F.args_object_init_2 obj _, ?_⟩
  exact object_init_meets F.called_reversed.init.lookup F.called_reversed.made (by decide) prog w A.in1 _ s₁ ⟨hq.1, rfl, hq.2⟩
theorem hint_rev {I l : Addr} {items : Array Value} (hfit : items.size ≤ sizeLine) : HintOk prog w I (fun i h => i ≤ items.size ∧ h.IsRevT I l ((items.size : Int) - 1 - (i : Int)) ∧ IsTup h l items) := fun A s Q E hst hQ => by
  have hit := hst.2.1
  have hT := hit.typeIs
  obtain ⟨o, ho, hc, hd⟩ := id hit
  have hf : (items.size : Int) < 2 ^ 63 := by have := hfit; rw [sizeLine_eq] at this; omega
  unfold Builtin.List.listLengthHint
  refine wpAny_bind (wpAny_specialOf hT F.rev_no_len ?_)
  refine wpAny_ite_split (fun hab => absurd hab (by decide)) (fun o' => ?_)
  refine wpAny_ite_split (fun hab => absurd hab (by decide)) (fun o' => ?_)
  refine wpAny_bind (wpAny_specialOf hT F.slot_rev_hint.lookup ?_)
  generalize hid : ("reversed.__length_hint__" : String) = id0
  wp_delta
  rw [show splitId id0 = some ("reversed", "__length_hint__") from by subst hid; decide +kernel]
  subst hid
  refine wpAny_bind (wpAny_isInstance (T := "reversed") (b := true) hT (by rw [isSubtype_type]; kernel_rfl) ?_)
  refine wpAny_ite_split (fun hab => absurd hab (by decide)) (fun o' => ?_)
  refine wpAny_ite_split (fun hab => absurd hab (by decide +kernel)) (fun o' => ?_)
  refine wpAny_bind (wpAny_rule ?_)
  refine wpAny_bind (wpAny_of_eq (F.slot_rev_hint.bind _) ?_)
  refine wpAny_bind (wpAny_attempt (wpAny_call_entry F.slot_rev_hint hT F.entry_rev_hint ?_ (F.args_rev_hint_1 _)))
  unfold Builtin.«reversed.__length_hint__»
  refine wpAny_bind (wpAny_of_eq (a := Value.ref I) rfl ?_)
  refine wpAny_bind (wpAny_field ho hd (x := .ref l) rfl ?_)
  refine wpAny_ite_split (fun hab => absurd hab (by simp)) (fun o' => ?_)
  refine wpAny_bind (len_tuple hst.2.2 hf ?_)
  refine wpAny_bind (m := asInt? _) (wpAny_pure ?_)
  refine wpAny_bind (m := field (.ref I) 1) (wpAny_field ho hd (x := rawInt ((items.size : Int) - 1 - ((0 : Nat) : Int))) rfl ?_)
  show wpAny _ _ (if (items.size : Int) < ((items.size : Int) - 1 - ((0 : Nat) : Int)) + 1 then _ else _) _ _ _
  rw [if_neg (by omega)]
  refine wpAny_bind (wpAny_mkInt (wpAny_pure ⟨_, rfl, ?_⟩))
  refine wpAny_bind (m := asInt? _) (wpAny_pure ?_)
  dsimp only
  have e0 : (items.size : Int) - 1 - ((0 : Nat) : Int) + 1 = items.size := by omega
  rw [e0]
  have hfi : Builtin.List.listFitsIndex (items.size : Int) = true := fitsIndex_both (by omega) hf
  have htl : Builtin.List.listTooLong ((items.size : Int).toNat) = false := by simp [Builtin.List.listTooLong]; exact hfit
  rw [hfi, htl]
  refine wpAny_ite_split (fun hab => absurd hab (by decide)) (fun o' => ?_)
  refine wpAny_ite_split (fun hab => absurd hab (by omega)) (fun o' => ?_)
  refine wpAny_ite_split (fun hab => absurd hab (by decide)) (fun o' => wpAny_pure (hQ _ _))
end
end PySem
end
section
namespace L3
open PySem PySem.Spec PyProof.Rows L2
theorem inv_made {X : Cx} {pins : List (Addr × Obj)} {σ : L2.St} {H : Hp} {s : Shared} {h' : Heap} {t' : Nat} {it : Addr} {ys : List V} {its : List Value} {n : Nat} (I : Inv X pins σ H s) (f : FpOk X pins H it) (k : ∀ b o, b ≠ it → s.heap.get? b = some o → h'.get? b = some o)
    (new : h'.get? s.heap.objs.size = some { cls := .type "list", data := .seq its.toArray n }) (hv : Vals ys its) (hz : ys.length ≤ sizeLine) : Inv X pins σ (upd H s.heap.objs.size (.lst ys)) { s with heap := h', toks := t' } := by
  have hS := I.fresh
  have neS : ∀ b o, s.heap.get? b = some o → b ≠ s.heap.objs.size := fun b o e => Nat.ne_of_lt (Heap.lt_size e)
  have tr : ∀ b u, H b = some u → b ≠ s.heap.objs.size := fun b u e => ne_of_none e hS
  obtain ⟨f0, f1, f2, f3, f4, f5⟩ := f
  refine I.step (g' := s.gens) (d' := s.drawn) (ch := [it]) (fun b hb => ?_) (fun b o o' o' hc e o' => k b o (fun z => hc (by simp [z])) e) (fun b o o' o' hc e o' => ⟨o.slots, k b o (fun z => hc (by simp [z])) e⟩) (fun b o o' e n => by rw [upd_ne (neS b o e)]; exact n)
    (fun b o hc e => ⟨o, k b o (fun z => hc (by simp [z])) e⟩) (fun b xs e => by rw [upd_ne (tr b _ e)]; exact e) (fun b o u e => by rw [upd_ne (tr b _ e)]; exact e) (fun b ps e => ⟨#[], by rw [upd_ne (tr b _ e), e]; simp⟩) (fun m hm => ?_) (fun b u e => ?_) I.bare
  · have e : b = it := by simpa using hb
    subst e
    exact ⟨f3, f1, f4, f5⟩
  · obtain ⟨o, es, ep, ho, r⟩ := hm
    exact ⟨o, es, ep, k _ o (Ne.symm f1) ho, r⟩
  · by_cases hb : b = s.heap.objs.size
    · subst hb
      rw [upd_same] at e; cases e
      exact ⟨hz, its, n, hv, new⟩
    · rw [upd_ne hb] at e
      refine (I.hok b u e).stay (fun c v hc q => k c v ?_ q) (fun c q => by rw [upd_ne (tr c _ q)]; exact q) fun c xs q => by rw [upd_ne (tr c _ q)]; exact q
      rcases hc with z | z
      · rw [z]; exact fun y => by rw [y, f0] at e; cases e
      · exact fun y => by rw [y, f0] at z; cases z
theorem items_rev {its : List Value} {acc : Array Value} (h : ItemsOf (fun i v => its.toArray[its.toArray.size - 1 - i]? = some v) acc its.toArray.size) : acc = its.reverse.toArray := by
  obtain ⟨h1, h2⟩ := h
  apply Array.ext
  · rw [h1]; simp
  · intro i hi hi'
    have : its.toArray[its.toArray.size - 1 - i]? = some acc[i] := h2 i acc[i] (Array.getElem?_eq_getElem hi)
    have hl : i < its.length := by rw [h1] at hi; simpa using hi
    have e : its.toArray[its.toArray.size - 1 - i]? = some (its.reverse.toArray[i]) := by
      simp
    rw [e] at this
    exact (Option.some.inj this).symm
theorem Vals.reverse : ∀ {vs : List V} {us : List Value}, Vals vs us → Vals vs.reverse us.reverse
  | _, _, .nil => .nil
  | _, _, .cons h t => by simp only [List.reverse_cons]; exact (Vals.reverse t).append (.cons h .nil)
section
variable {X : Cx} {C : CallT} {sub : Nat → Nat → Bool} {E : XK} {a b c e o tg : Expr} {es : List Expr} {x y z : Ex} {xs : List Ex} {p p2 pos pos2 : Pos} {kk : IK}
theorem jlrev (hm : X.mg "list" = none) (hm2 : X.mg "reversed" = none) (hc : X.calm = true) (ha : PA X [a] (taOf X.K (wpEs C sub E [x]))) (hg : X.env.kindOf "list" = some .globalImplicit := by kernel_rfl) (hg2 : X.env.kindOf "reversed" = some .globalImplicit := by kernel_rfl)
    (he : starEach [.Call (.Name "reversed" p2) [a] [] pos2] X.env = (false, eval (.Call (.Name "reversed" p2) [a] [] pos2) X.env) :: starEach [] X.env := by kernel_rfl) (hpl : (backTo pos (starEach [] X.env)).any (·.1) = false := by kernel_rfl)
    (he2 : starEach [a] X.env = (false, eval a X.env) :: starEach [] X.env := by kernel_rfl) (hpl2 : (backTo pos2 (starEach [] X.env)).any (·.1) = false := by kernel_rfl) :
    PE X (.Call (.Name "list" p) [.Call (.Name "reversed" p2) [a] [] pos2] [] pos) (tOf X.K (wpE C sub E (.bit .list .rev [x]))) := by
  intro pins s σ H Q I ⟨σd, st, R, r, ok, q, hq⟩
  refine wpAny_Call_Name_kw (ld_blt I hg hm bt_list ?_ (by decide) (by decide))
  refine PyProof.Rows.callWith_type1 ?_ he hpl
  rw [he]
  show wpAny _ _ (spliced ((false, eval (.Call (.Name "reversed" p2) [a] [] pos2) X.env) :: backTo pos (starEach [] X.env))) _ _ s
  refine Calls.spliced_cons ?_
  refine wpAny_Call_Name_kw (ld_blt I hg2 hm2 bt_reversed ?_ (by decide) (by decide))
  refine PyProof.Rows.callWith_type1 (thn (ha pos2 pins s σ H _ I ⟨σd, st, _, r, ok, q, fun vs H' z => z⟩) fun us s1 ⟨vs, H1, I1, rv, ds, st1, s1s, ok1, rs, q1⟩ => ?_) he2 hpl2
  match ds, rs, q1 with
  | [d], rs, q1 =>
    obtain ⟨v, rfl, rd⟩ := rs.one
    obtain ⟨u, rfl, ru⟩ := vals1 rv
    have q1 : seqW d st1 fun as xs => newL xs.reverse st1 R := q1
    obtain ⟨l, ws, as, ys, rfl, sa, g, q1⟩ := seq_sound ok1 rd q1
    cases ru
    have hh : X.A.handled = none := I1.ok.hd hc
    have nil : ∀ {Q' : List Value → Shared → Prop} {s' : Shared}, Q' [] s' → wpAny (model X.prog X.w) X.A (spliced (backTo pos (starEach [] X.env))) Q' X.xe s' := fun h => Calls.spliced_nil h
    have fin : ∀ (its : List Value) (s2 : Shared) (h' : Heap) (tk : Nat) (acc : Array Value) (cc : Nat), Vals ws its → ws.length ≤ sizeLine → Inv X pins σ H1 s2 → FpOk X pins H1 s1.heap.objs.size → (∀ b o, b ∉ [s1.heap.objs.size] → s2.heap.get? b = some o → h'.get? b = some o) →
        h'.get? s2.heap.objs.size = some { cls := .type "list", dict := none, data := .seq acc cc, slots := #[] } → ItemsOf (fun i v => its.toArray[its.toArray.size - 1 - i]? = some v) acc its.toArray.size → EP X pins σ Q (.ref s2.heap.objs.size) { s2 with heap := h', toks := tk } := by
      intro its s2 h' tk acc cc hv hz I2 f2 k2 hS hacc
      have ea := items_rev hacc
      subst ea
      refine ⟨.ref s2.heap.objs.size, _, inv_made I2 f2 (fun b o hb e => k2 b o (by simpa using hb) e) hS (Vals.reverse hv) (by simpa using hz), rfl, hq _ _ (.after s1s ?_)⟩
      exact .newL ok1 g.reverse I2.fresh q1.2
    rcases sa with sa | sa
    · obtain ⟨its, r1, pl, hz⟩ := I1.list sa
      have hl := pl.isList
      have hlt : l < s1.heap.objs.size := by obtain ⟨_, e, _⟩ := hl; exact Heap.lt_size e
      have hzz : its.toArray.size ≤ sizeLine := by simp; rw [← r1.length]; exact hz
      refine call_reversed_list hl (nil ?_)
      have I2 : Inv X pins σ H1 { s1 with heap := s1.heap.push (revObj l ((its.toArray.size : Int) - 1)) } := I1.kept (t' := s1.toks) fun b o e => Heap.get?_push_of_some _ e
      have W := fun A hA => Walks.listRev (prog := X.prog) (w := X.w) (A := A) hA s1.heap.objs.size l (Nat.ne_of_lt hlt) its.toArray
      refine call_list_it (W _ hh) hzz (fun h st => let ⟨o, ho, hcl, _⟩ := st.2.1; ⟨o, ho, hcl⟩) (by decide) (by decide) hint_lri ⟨Nat.zero_le _, ⟨_, Heap.get?_push_size _ rfl, rfl, by simp [revObj]⟩, hl.push _⟩ (fun b hb => ?_) (by simp) fun h' tk acc cc k hS hacc => ?_
      · show b < (s1.heap.push _).objs.size
        rw [Heap.size_push]
        rcases List.mem_cons.mp hb with rfl | hb
        · exact Nat.lt_succ_self _
        · rcases List.mem_cons.mp hb with rfl | hb
          · exact Nat.lt_succ_of_lt hlt
          · cases hb
      · exact fin its _ h' tk acc cc r1 hz I2 (I1.fpOk (Nat.le_refl _) I1.fresh) k hS hacc
    · obtain ⟨its, r1, pl, hz⟩ := I1.tuple sa
      have hlt : l < s1.heap.objs.size := by obtain ⟨_, e, _⟩ := pl; exact Heap.lt_size e
      have hzz : its.toArray.size ≤ sizeLine := by simp; rw [← r1.length]; exact hz
      have hfit : (its.toArray.size : Int) < 2 ^ 63 := by have := hzz; rw [sizeLine_eq] at this; omega
      refine call_reversed_tup pl hfit (nil ?_)
      have I2 : Inv X pins σ H1 { s1 with heap := s1.heap.push (revT l ((its.toArray.size : Int) - 1)), toks := s1.toks + 1 + 1 } := I1.kept (t' := s1.toks + 1 + 1) fun b o e => Heap.get?_push_of_some _ e
      have W := fun A hA => Walks.tupRev (prog := X.prog) (w := X.w) (A := A) hA s1.heap.objs.size l (Nat.ne_of_lt hlt) its.toArray hfit
      refine call_list_it (W _ hh) hzz (fun h st => let ⟨o, ho, hcl, _⟩ := st.2.1; ⟨o, ho, hcl⟩) (by decide) (by decide) (hint_rev hzz) ⟨Nat.zero_le _, ⟨_, Heap.get?_push_size _ rfl, rfl, by simp [revT]⟩, let ⟨o, ho, r⟩ := pl; ⟨o, Heap.get?_push_of_some _ ho, r⟩⟩ (fun b hb => ?_) (by simp) fun h' tk acc cc k hS hacc => ?_
      · show b < (s1.heap.push _).objs.size
        rw [Heap.size_push]
        rcases List.mem_cons.mp hb with rfl | hb
        · exact Nat.lt_succ_self _
        · rcases List.mem_cons.mp hb with rfl | hb
          · exact Nat.lt_succ_of_lt hlt
          · cases hb
      · exact fin its _ h' tk acc cc r1 hz I2 (I1.fpOk (Nat.le_refl _) I1.fresh) k hS hacc
theorem jlr (hm : X.mg "list" = none) (hm2 : X.mg "reversed" = none) (ha : JA X C sub E [a] [x]) (hc : X.calm = true := by kernel_rfl) (hg : X.env.kindOf "list" = some .globalImplicit := by kernel_rfl) (hg2 : X.env.kindOf "reversed" = some .globalImplicit := by kernel_rfl)
    (he : starEach [.Call (.Name "reversed" p2) [a] [] pos2] X.env = (false, eval (.Call (.Name "reversed" p2) [a] [] pos2) X.env) :: starEach [] X.env := by kernel_rfl) (hpl : (backTo pos (starEach [] X.env)).any (·.1) = false := by kernel_rfl)
    (he2 : starEach [a] X.env = (false, eval a X.env) :: starEach [] X.env := by kernel_rfl) (hpl2 : (backTo pos2 (starEach [] X.env)).any (·.1) = false := by kernel_rfl) :
    JE X C sub E (.Call (.Name "list" p) [.Call (.Name "reversed" p2) [a] [] pos2] [] pos) (.bit .list .rev [x]) := ⟨jlrev hm hm2 hc ha.h hg hg2 he hpl he2 hpl2⟩
end
end L3
end
section
namespace L3
open PySem PySem.Spec PyProof.Rows L2
theorem gc_int {K : PySem.W.Frag} {h : Heap} {mg : Str → Option Value} (X : K.In h) (G : h.Ns mainGlobals mg) {n : Str} {i : Int} {t : Tok} (a : PySem.W.nsIn K mainGlobals n = some (some (.int i t))) : GC K mg n (.int i) := ⟨_, .int i, PySem.W.mg_of X G a, ⟨t, rfl⟩, fun o' => .int i⟩
theorem gc_str {K : PySem.W.Frag} {h : Heap} {mg : Str → Option Value} (X : K.In h) (G : h.Ns mainGlobals mg) {n : Str} {x : Str} {w : List Nat} {t : Tok} (a : PySem.W.nsIn K mainGlobals n = some (some (.str x t))) (e : x = ⟨w.toArray⟩) : GC K mg n (.str w) := ⟨_, .str x, PySem.W.mg_of X G a, ⟨t, rfl⟩, fun o' => by rw [e]; exact .str w⟩
noncomputable def flat1 : D → Value → Bool
  | .non, .none => true
  | .bl b, .bool c => b == c
  | .int i, .int j _ => i == j
  | .str w, .str x _ => w == x.cps.toList
  | _, _ => false
noncomputable def flats : List D → List Value → Bool
  | [], [] => true
  | d :: ds, u :: us => flat1 d u && flats ds us
  | _, _ => false
noncomputable def vOf : D → V
  | .bl b => .bl b
  | .int i => .int i
  | .str w => .str ⟨w.toArray⟩
  | _ => .non
set_option tactic.hygienic true in
theorem flat1_ok {K : PySem.W.Frag} {H : Hp} {d : D} {u : Value} (h : flat1 d u = true) : L2.RelV (vOf d) u ∧ Rep K H d (vOf d) := by
  unfold flat1 at h
  split at h
  · exact ⟨rfl, .non⟩
  · exact ⟨by rw [eq_of_beq h]; rfl, .bl _⟩
  · exact ⟨⟨_, by rw [eq_of_beq h]⟩, .int _⟩
  · rename_i w x t
    exact ⟨⟨t, by rw [eq_of_beq h]⟩, .str w⟩
  · cases h
theorem flats_ok {K : PySem.W.Frag} {H : Hp} : ∀ {ds : List D} {us : List Value}, flats ds us = true → Vals (ds.map vOf) us ∧ Reps K H ds (ds.map vOf)
  | [], [], _ => ⟨.nil, .nil⟩
  | d :: ds, u :: us, h => by
    simp only [flats, Bool.and_eq_true] at h
    have r := flat1_ok (K := K) (H := H) h.1
    have s := flats_ok (K := K) (H := H) h.2
    exact ⟨.cons r.1 s.1, .cons r.2 s.2⟩
  | [], _ :: _, h => by cases h
  | _ :: _, [], h => by cases h
theorem gc_tup {K : PySem.W.Frag} {h : Heap} {mg : Str → Option Value} (X : K.In h) (G : h.Ns mainGlobals mg) {n : Str} {ds : List D} {p : Addr} {its : Array Value} {k : Nat} {sl : Array (Option Value)} (a : PySem.W.nsIn K mainGlobals n = some (some (.ref p)))
    (l : K.lookup p = some ⟨.type "tuple", none, .seq its k, sl⟩) (f : flats ds its.toList = true) (z : Nat.ble its.size 1000 = true) : GC K mg n (.tup ds) := by
  refine ⟨_, .ref p, PySem.W.mg_of X G a, rfl, fun H => ?_⟩
  have s := flats_ok (K := K) (H := H) f
  exact .tup (.inr ⟨_, its, k, l, rfl, rfl, rfl, Nat.le_of_lt (small1000 (Nat.le_of_ble_eq_true z)), s.1⟩) s.2
end L3
end
section
namespace L3
open PySem PySem.Spec PyProof.Rows L2
section
variable {X : Cx} {tg : Expr}
variable {C : CallT} {sub : Nat → Nat → Bool} {E : XK} {a b c : Expr} {x y z : Ex} {p pos : Pos}
end
end L3
end
section
namespace L3
open PySem PySem.Spec PyProof.Rows L2
noncomputable def toP : D → PyData
  | .bl b => .bool b
  | .int i => .int i
  | .str w => .str ⟨w.toArray⟩
  | _ => .none
noncomputable def okV : D → Bool
  | .non => true
  | .bl _ => true
  | .int _ => true
  | .str _ => true
  | _ => false
noncomputable def tabT : List D → List D → List (Str × PyData)
  | .str w :: ks, v :: vs => (⟨w.toArray⟩, toP v) :: tabT ks vs
  | _, _ => []
noncomputable def okT : List D → List D → Bool
  | [], [] => true
  | .str _ :: ks, v :: vs => okV v && okT ks vs
  | _, _ => false
theorem okV_ok {v : D} (h : okV v = true) : flatD (toP v) = v ∧ simpleD (toP v) = true := by
  cases v <;> first | exact ⟨rfl, rfl⟩ | cases h
theorem okT_ok : ∀ {ks vs : List D}, okT ks vs = true → ((tabT ks vs).all fun p => simpleD p.2) = true ∧ ks = (tabT ks vs).map (fun p => .str p.1.cps.toList) ∧ vs = (tabT ks vs).map (fun p => flatD p.2)
  | [], [], _ => ⟨rfl, rfl, rfl⟩
  | .str w :: ks, v :: vs, h => by
    simp only [okT, Bool.and_eq_true] at h
    obtain ⟨a, b, c⟩ := okT_ok h.2
    obtain ⟨d, e⟩ := okV_ok h.1
    refine ⟨?_, ?_, ?_⟩
    · simp only [tabT, List.all_cons, e, a, Bool.and_self]
    · simp only [tabT, List.map_cons]; rw [← b]
    · simp only [tabT, List.map_cons, d]; rw [← c]
  | [], _ :: _, h => by cases h
  | .str _ :: _, [], h => by cases h
  | .non :: _, _, h => by cases h
  | .bl _ :: _, _, h => by cases h
  | .int _ :: _, _, h => by cases h
  | .tup _ :: _, _, h => by cases h
  | .ref _ :: _, _, h => by cases h
  | .mdic _ _ :: _, _, h => by cases h
  | .mlst _ :: _, _, h => by cases h
theorem gc_dic {K : PySem.W.Frag} {h : Heap} {mg : Str → Option Value} (X : K.In h) (G : h.Ns mainGlobals mg) {n : Str} {ks vs : List D} {p : Addr} {es : Array DictEntry} {ep : Nat} (a : PySem.W.nsIn K mainGlobals n = some (some (.ref p)))
    (l : K.lookup p = some ⟨.type "dict", none, .dict es ep, #[]⟩) (f : (KTD.rowsLook KTD.flatLooks es.toList (tabT ks vs) && okT ks vs && !(p == sysModules)) = true) : GC K mg n (.mdic ks vs) := by
  simp only [Bool.and_eq_true] at f
  obtain ⟨⟨f1, f2⟩, f3⟩ := f
  obtain ⟨a1, a2, a3⟩ := okT_ok f2
  refine ⟨_, .ref p, PySem.W.mg_of X G a, rfl, fun H => .mdic ⟨tabT ks vs, ?_, a1, a2, a3⟩⟩
  simp only [KTD.tabLook, l, f1, f3]
  rfl
end L3
end
section
namespace L3
open PySem PySem.Spec PyProof.Rows L2 PySem.SeqAt
end L3
end
section
namespace L3
open PySem PySem.Spec PyProof.Rows L2 PySem.SeqAt
section
variable {X : Cx}
theorem at_items {pins : List (Addr × Obj)} {s : Shared} {σ : L2.St} {H : Hp} {st : Store} (I : Inv X pins σ H s) (ok : StOk X.K st H) {ds : List D} {vs : List V} {its : List Value} {d : D} {v : V} {u : Value} {A : Around}
    (g : Reps X.K H ds vs) (r : Vals vs its) (p : plainSs st ds) (pd : plainS st d) (rd : Rep X.K H d v) (rv : RelV v u) (hu : A.units + 178 < cLine) :
    ∃ e : Value → Bool, (∀ y, y ∈ its.toArray → EqAt A.in1 s y u (e y)) ∧ ∀ j (hj : j < its.length) (hj' : j < ds.length), e its[j] = eqS st ds[j] d := by
  classical
  have hD : DEEP = 80 := rfl
  have item : ∀ (d' : D) (v' : V) (y : Value), d' ∈ ds → Rep X.K H d' v' → RelV v' y → EqAt A.in1 s y u (eqS st d' d) := fun d' v' y m r' rv' => by
    have h1 := depDs_mem m
    have h2 := p.2
    exact (eqSd I ok 80 (by omega) (pureSs_mem p.1 m) pd.1 r' rv' rd rv (by simp only [Around.in1_units]; omega)).2.1
  let e : Value → Bool := fun y => decide (∃ d' v', d' ∈ ds ∧ Rep X.K H d' v' ∧ RelV v' y ∧ eqS st d' d = true)
  have he : ∀ (d' : D) (v' : V) (y : Value), d' ∈ ds → Rep X.K H d' v' → RelV v' y → e y = eqS st d' d := fun d' v' y m r' rv' => by
    show decide _ = _
    cases q : eqS st d' d with
    | true => exact decide_eq_true ⟨d', v', m, r', rv', q⟩
    | false =>
      refine decide_eq_false fun ⟨d2, v2, m2, r2, rv2, q2⟩ => ?_
      cases RelV.inj rv' rv2
      have := rep_injS I ok _ (Nat.le_refl _) (pureSs_mem p.1 m) (pureSs_mem p.1 m2) r' r2
      subst this
      rw [q] at q2; cases q2
  refine ⟨e, fun y hy => ?_, fun j hj hj' => ?_⟩
  · obtain ⟨j, hj, rfl⟩ := Array.mem_iff_getElem.mp hy
    obtain ⟨v', e1, e2⟩ := Vals.at r hj
    obtain ⟨d', e3, e4⟩ := Reps.get' g e1
    rw [he d' v' _ (List.mem_of_getElem? e3) e4 e2]
    exact item d' v' _ (List.mem_of_getElem? e3) e4 e2
  · obtain ⟨v', e1, e2⟩ := Vals.at r (by simpa using hj)
    obtain ⟨d', e3, e4⟩ := Reps.get' g e1
    have e5 : ds[j] = d' := (List.getElem?_eq_some_iff.mp e3).2
    rw [e5]
    exact he d' v' _ (List.mem_of_getElem? e3) e4 (by simpa using e2)
theorem findD_some {st : Store} {d : D} : ∀ {ds : List D} {j : Nat}, findD st d ds = some j → ∃ hj : j < ds.length, eqS st ds[j] d = true ∧ ∀ m (hm : m < ds.length), m < j → eqS st ds[m] d = false
  | [], _, h => by cases h
  | x :: r, j, h => by
    have h : (if eqS st x d = true then some 0 else (findD st d r).map (· + 1)) = some j := h
    by_cases c : eqS st x d = true
    · rw [if_pos c] at h; cases h
      exact ⟨by simp, c, fun m o' hm => by omega⟩
    · rw [if_neg c] at h
      obtain ⟨k, e, rfl⟩ := Option.map_eq_some_iff.mp h
      obtain ⟨h1, h2, h3⟩ := findD_some e
      refine ⟨by simpa using h1, by simpa using h2, fun m hm hl => ?_⟩
      cases m with
      | zero => simpa using c
      | succ m => simpa using h3 m (by simpa using hm) (by omega)
theorem index_list {pins : List (Addr × Obj)} {s : Shared} {σ : L2.St} {H : Hp} {st : Store} {R : VK} {ds : List D} {vs : List V} {d : D} {v : V} {u : Value} {a : Addr} {j : Nat} (hu : X.A.units + 180 < cLine) (I : Inv X pins σ H s) (ok : StOk X.K st H) (f : SqL X.K H a vs) (g : Reps X.K H ds vs)
    (rd : Rep X.K H d v) (rv : RelV v u) (pd : plainS st d) (ps : plainSs st ds) (hj : findD st d ds = some j) (q : R (.int (j : Nat)) st) : wpAny (model X.prog X.w) X.A (call (.builtin "list.index") [.ref a, u]) (EP X pins σ (QD X.K H st R)) X.xe s := by
  obtain ⟨its, r1, p1, hz⟩ := I.list f
  obtain ⟨e, he, ha⟩ := at_items I ok g r1 ps pd rd rv (A := X.A) (by omega)
  obtain ⟨h1, h2, h3⟩ := findD_some hj
  have l1 := g.length
  have l2 := r1.length
  have hn := line63
  obtain ⟨⟨cls, dd, data, sl⟩, ho, hc, n, hd⟩ := id p1.isList
  simp only at hc hd
  subst hc hd
  refine call_meets PySem.F.slot_list_index ⟨_, ho, rfl⟩ PySem.F.entry_list_index (PySem.F.args_list_index_2 _ _)
    (list_indexAt a its.toArray n dd sl u e j (by simp; omega) (by omega) ?_ ?_) ⟨ho, he, ?_⟩
  · show e its[j] = true
    rw [ha j (by omega) h1]; exact h2
  · intro m hm hl
    have hm : m < its.length := by simpa using hm
    show e its[m] = false
    rw [ha m hm (by omega)]; exact h3 m (by omega) hl
  · exact ⟨.int j, H, I.tok _, ⟨_, rfl⟩, .here ok (.int _) q⟩
end
section
variable {X : Cx} {C : CallT} {sub : Nat → Nat → Bool} {E : XK} {e o : Expr} {x y : Ex} {pos apos cpos : Pos}
theorem jidx (m : CMono C C) (hu : X.A.units + 180 < cLine) (ho : JE X C sub E o x) (ha : JA X C sub E [e] [y]) (hbase : attributeBase o "index" X.env (eval o X.env) = eval o X.env := by kernel_rfl)
    (hfew : ((backTo pos (starEach [e] X.env)).all (fun x => !x.1) && (backToKw pos (keywordEach [] X.env)).all (fun x => x.1.isSome) && decide ([e].length + ([] : List Keyword).length + (if ([] : List Keyword).isEmpty then 0 else 1) < 30)) = true := by kernel_rfl) (hline : (apos.endLine == pos.line) = true := by kernel_rfl)
    (hs : starEach [e] X.env = [(false, eval e X.env)] := by kernel_rfl) :
    JE X C sub E (.Call (.Attribute o "index" apos) [e] [] pos) (.meth .index x [y]) := ⟨by
  intro pins s σ H Q I ⟨σd, st, R, r, ok, q, hq⟩
  refine wpAny_Call_method_late hbase hfew hline rfl (thn (ho.h pins s σ H _ I ⟨σd, st, _, r, ok, q, fun v H' z => z⟩) fun v s1 ⟨x1, H1, I1, r1, d1, st1, s1s, ok1, rd1, q1⟩ => ?_)
  obtain ⟨rc, q1⟩ := q1
  obtain ⟨p, ds, rfl, e1, _⟩ := lsq_inv (show lsqW _ st1 _ from rc)
  cases rd1.ref_inv
  cases r1
  obtain ⟨vs, g1, g2⟩ := ok1.lst e1
  obtain ⟨its, _, p1, _⟩ := I1.list (SqL.of g1)
  refine ⟨"list", "list.index", PySem.F.plainAttrs_list, PySem.F.slot_list_index, PySem.F.type_list_index, p1.isList.typeIs, fun b e => ?_, ?_⟩
  · cases e
    obtain ⟨o, n, e, c, hd, _⟩ := p1
    exact ⟨o, e, hd⟩
  · have hA := ha.h pos pins s1 σ H1 _ I1 ⟨σd, st1, _, r.step ok s1s, ok1, wpEs_len [y] m q1, fun vs H' z => z⟩
    rw [hs] at hA ⊢
    refine Calls.callWith_builtin (by rfl) (Calls.evalArgs_plain ?_)
    refine thn hA fun us s2 ⟨ws, H2, I2, r2, es, st2, s2s, ok2, rs2, l2, q2⟩ => ?_
    obtain ⟨d2, rfl⟩ := List.length_eq_one_iff.mp (show es.length = 1 from l2)
    obtain ⟨w2, rfl, rd2⟩ := rs2.one
    obtain ⟨u2, rfl, rv2⟩ := L2.Vals.one r2
    obtain ⟨p', ds2, e', e2, pd, ps, q2⟩ := lsq_inv (show lsqW (.ref p) st2 _ from q2)
    cases e'
    obtain ⟨j, hj, q2⟩ := optK_inv q2
    obtain ⟨vs2, g3, g4⟩ := ok2.lst e2
    exact thn (index_list hu I2 ok2 (SqL.of g3) g4 rd2 rv2 pd ps hj q2) fun w s3 ⟨v3, H3, I3, r3, z⟩ => ⟨v3, H3, I3, r3, hq _ _ (.after (s1s.trans s2s) z)⟩⟩
end
end L3
end
section
namespace L3
open PySem PySem.Spec PyProof.Rows L2 PySem.SeqAt
noncomputable def ndN (val : Nat → Str) : Nat → Nat
  | 0 => 0
  | i + 1 => if ((List.range i).map val).any (· == val i) then ndN val i else ndN val i + 1
theorem ndN_le (val : Nat → Str) : ∀ i, ndN val i ≤ i
  | 0 => Nat.le_refl _
  | i + 1 => by
    have := ndN_le val i
    unfold ndN
    split <;> omega
section
variable {prog : Program} {w : World} {A : Around} {R : Result → Shared → Prop} {I : Addr} {fp wr : List Addr} {G : Array GenState → Array GenState → Prop} {n : Nat} {P : Nat → Value → Prop} {St : Nat → Shared → Prop}
noncomputable abbrev SetTo (prog : Program) (w : World) (val : Nat → Str) (S : Addr) (i : Nat) (h : Heap) : Prop := h.SetOf (strKind prog w) S (fun k => ((List.range i).map val).any (· == k)) (ndN val i)
theorem set_to_step {val : Nat → Str} {S : Addr} {i : Nat} {h : Heap} (x : h.SetOf (strKind prog w) S (fun k' => ((List.range i).map val).any (· == k') || decide (k' = val i)) (if ((List.range i).map val).any (· == val i) then ndN val i else ndN val i + 1)) : SetTo prog w val S (i + 1) h := by
  refine SetOf_congr x (fun k => ?_) rfl
  rw [List.range_succ, List.map_append, List.any_append]
  congr 1
  simp only [List.map_cons, List.map_nil, List.any_cons, List.any_nil, Bool.or_false]
  by_cases e : k = val i
  · subst e; simp
  · rw [decide_eq_false e]; symm; exact beq_eq_false_iff_ne.mpr fun z => e z.symm
theorem set_loop (W : WalksS prog w A.in1 I fp wr G n P St) (S : Addr) (hSf : S ∉ fp) (val : Nat → Str) (hval : ∀ i v, P i v → ∃ t, v = .str (val i) t) (hb : n + 1 < scanBound) :
    ∀ (k i : Nat) (s : Shared), n - i = k → i ≤ n → St i s → SetTo prog w val S i s.heap → (∀ s', Moved (S :: wr) G s s' → SetTo prog w val S n s'.heap → R (.ok (.ret .none)) s') →
      codeAny (model prog w) A (.builtin "set.update.loop" ⟨[.ref S, .ref I], []⟩) R s := by
  have hSw : S ∉ wr := fun h => hSf (W.sub _ h)
  have hsub : ∀ b ∈ wr, b ∈ S :: wr := fun b hb => List.mem_cons_of_mem _ hb
  have keep : ∀ {i : Nat} {s s' : Shared}, SetTo prog w val S i s.heap → Moved wr G s s' → SetTo prog w val S i s'.heap := fun ⟨o, es, ep, t, ho, rest⟩ hm => ⟨o, es, ep, t, hm.heap S _ hSw ho, rest⟩
  intro k
  induction k with
  | zero =>
    intro i s hk hi hst hS hR
    obtain rfl : i = n := by omega
    refine codeAny_builtin PyProof.Rows.F.entry_set_update_loop ?_
    rw [Around.under_plainId PyProof.Rows.F.plain_set_update_loop _]
    show wpAny _ A.in1 (pyNext (.ref I) >>= _) _ _ s
    refine wpAny_bind (W.done s _ _ hst fun s' hm => ?_)
    show wpAny _ A.in1 (ret Value.none) _ _ s'
    exact wpAny_pure (hR s' (hm.mono hsub) (keep hS hm))
  | succ k ih =>
    intro i s hk hi hst hS hR
    have hlt : i < n := by omega
    refine codeAny_builtin PyProof.Rows.F.entry_set_update_loop ?_
    rw [Around.under_plainId PyProof.Rows.F.plain_set_update_loop _]
    show wpAny _ A.in1 (pyNext (.ref I) >>= _) _ _ s
    refine wpAny_bind (W.item i s _ _ hlt hst fun v s' hP hst' hm => ?_)
    obtain ⟨t, rfl⟩ := hval i v hP
    show wpAny _ A.in1 (holding [Value.str (val i) t] (setAdd S (.str (val i) t)) >>= _) _ _ s'
    refine wpAny_bind (wpAny_holding ?_)
    unfold setAdd
    refine wpAny_holding (wpAny_bind ((strKind prog w).pyHash (k := val i) (strKind_is _ _ _ _) ?_))
    refine wpAny_setAddHashed_of (knd := strKind prog w) (s := { s' with toks := s'.toks + 1 }) (strKind_is _ _ _ _) rfl (show SetTo prog w val S i s'.heap from keep hS hm) (by have := ndN_le val i; omega) fun h' hsb hS2 => ?_
    refine wpAny_pure ⟨plainId_quiet PyProof.Rows.F.plain_set_update_loop _, ih (i + 1) _ (by omega) hlt (W.frame _ s' _ _ hst' (Nat.le_succ _) fun b hb o e => ?_) (set_to_step hS2) fun s'' hm'' hS'' => ?_⟩
    · rw [hsb.2 b (fun h : b = S => hSf (by rw [← h]; exact hb))]; exact e
    · refine hR s'' (Moved.trans W.gtrans ((hm.mono hsub).then_heap (Nat.le_succ _) fun b o hb e => ?_) hm'') hS''
      rw [hsb.2 b (fun h : b = S => hb (by rw [h]; exact List.mem_cons_self))]; exact e
end
section
variable {prog : Program} {w : World} {A : Around} {E : Value → Shared → Prop} {s : Shared}
noncomputable abbrev emptySet (led : Bool) : Obj := { cls := .type "set", dict := none, data := .set #[] 0 (.fresh 0 0 led) }
theorem set_init_tuple {l : Addr} {items : Array Value} {val : Nat → Str} {led : Bool} {Q : PySem.Fin → Shared → Prop} (hh : A.handled = none) (hl : s.heap.IsTuple l items) (hv : ∀ (i : Nat) (v : Value), items[i]? = some v → ∃ t, v = .str (val i) t) (hb : items.size + 1 < scanBound)
    (h : ∀ (h' : Heap) (tk : Nat), SetTo prog w val s.heap.objs.size items.size h' → (∀ b o, s.heap.get? b = some o → h'.get? b = some o) → Q (.done (.ret .none)) { s with heap := h', toks := tk }) :
    wpAny (model prog w) A (Builtin.«set.__init__» ⟨[.ref s.heap.objs.size, .ref l], []⟩) Q E { s with heap := s.heap.push (emptySet led) } := by
  obtain ⟨ol, hol, hcl, nl, hdl⟩ := hl
  obtain ⟨ocls, odict, odata, oslots⟩ := ol
  simp only at hcl hdl
  subst hcl; subst hdl
  have hS : (s.heap.push (emptySet led)).get? s.heap.objs.size = some (emptySet led) := Heap.get?_push_size _ rfl
  have hT : Shared.TypeIs { s with heap := s.heap.push (emptySet led) } (.ref s.heap.objs.size) "set" := ⟨_, hS, rfl⟩
  have hol' : (s.heap.push (emptySet led)).get? l = some { cls := .type "tuple", dict := odict, data := .seq items nl, slots := oslots } := Heap.get?_push_of_some _ hol
  have hsls := PySem.F.sub_tuple_set
  have hslf := PySem.F.sub_tuple_frozenset
  have hne : (Value.type "tuple" == Value.type "dict") = false := by decide
  have hl1 : (s.heap.push (emptySet led)).IsTuple l items := ⟨_, hol', rfl, nl, rfl⟩
  unfold Builtin.«set.__init__» noKeywords Builtin.Frozenset.updateFrom
  generalize hPI : pyIter = PI
  wp_walk
  subst hPI
  refine wpAny_pyIter_tuple hl1 ?_
  refine wpAny_bind (wpAny_runValue ?_)
  have hlS : l < s.heap.objs.size := Heap.lt_size hol
  have hh3 : A.in1.handled = none := by simp [hh]
  have hsz : (s.heap.push (emptySet led)).objs.size = s.heap.objs.size + 1 := Heap.size_push ..
  have hneI : l ≠ (s.heap.push (emptySet led)).objs.size := by rw [hsz]; exact Nat.ne_of_lt (Nat.lt_succ_of_lt hlS)
  have hSf : s.heap.objs.size ∉ [(s.heap.push (emptySet led)).objs.size, l] := by
    simp only [List.mem_cons, List.not_mem_nil, or_false, not_or]
    exact ⟨by rw [hsz]; exact Nat.ne_of_lt (Nat.lt_succ_self _), Nat.ne_of_gt hlS⟩
  refine set_loop ((Walks.tuple hh3 _ l hneI items).toS) s.heap.objs.size hSf val hv hb (items.size - 0) 0 _ (by omega) (Nat.zero_le _) ⟨?hT1, ?hT0⟩ ?hS0 ?hR
  case hT1 => exact ⟨_, Heap.get?_push_size _ rfl, rfl, rfl⟩
  case hT0 => exact ⟨_, Heap.get?_push_of_some _ hol', rfl, nl, rfl⟩
  case hS0 => exact SetOf_congr ((setObjOf_fresh (knd := strKind prog w) led).setOf (Heap.get?_push_of_some _ hS) (by unfold scanBound; omega)) (fun o' => rfl) rfl
  case hR =>
    intro s' hm hS'
    obtain ⟨h', g', d', tk', os'⟩ := s'
    have eg : g' = s.gens := hm.gens
    have ed : d' = s.drawn := hm.drawn
    have eo : os' = s.os := hm.os
    subst eg; subst ed; subst eo
    show wpAny _ _ _ _ _ _
    refine wpAny_pure ?_
    show wpAny _ _ (ret Value.none) _ _ _
    refine wpAny_pure (h h' tk' hS' fun b o e => ?_)
    have hb1 : b < s.heap.objs.size := Heap.lt_size e
    exact hm.heap b o (by simp only [List.mem_cons, List.not_mem_nil, or_false, not_or]; exact ⟨Nat.ne_of_lt hb1, by rw [hsz]; exact Nat.ne_of_lt (Nat.lt_succ_of_lt hb1)⟩) (Heap.get?_push_of_some _ (Heap.get?_push_of_some _ e))
set_option maxHeartbeats 6400000 in
theorem call_set_tup {l : Addr} {items : Array Value} {val : Nat → Str} {Q : Value → Shared → Prop} (hh : A.handled = none) (hl : s.heap.IsTuple l items) (hv : ∀ (i : Nat) (v : Value), items[i]? = some v → ∃ t, v = .str (val i) t) (hb : items.size + 1 < scanBound)
    (h : ∀ (h' : Heap) (tk : Nat), SetTo prog w val s.heap.objs.size items.size h' → (∀ b o, s.heap.get? b = some o → h'.get? b = some o) → Q (.ref s.heap.objs.size) { s with heap := h', toks := tk }) :
    wpAny (model prog w) A (call (.type "set") [.ref l]) Q E s := by
  obtain ⟨c, tl, hmro⟩ := PySem.F.called_set.mro
  have hmade := PySem.F.called_set.made
  have hsub := PySem.F.called_set.sub
  refine wpAny_call (codeAny_of_tree ?_)
  show wpAny _ _ (callAny (.type "set") _) _ _ _
  refine wpAny_pure ⟨Code.quiet_builtin _ (by decide +kernel), codeAny_builtin PySem.F.entry_type_call ?_⟩
  rw [Around.under_plain (weight_type_call_type "set" [.ref l] []) rfl]
  have h1 := PySem.F.called_set.notType
  have h2 := PySem.F.called_set.canCreate
  have hct := PySem.F.typeCall_set_1 (.ref l)
  repeat (any_goals (first | assumption | wp_step))
  refine codeAny_mono (code_set_new_1 (.ref l) (E := E) (Q₁ := fun obj s₁ => ∃ led : Bool, obj = .ref s.heap.objs.size ∧ s₁ = { s with heap := s.heap.push (emptySet led) }) fun led => ⟨led, rfl, rfl⟩) fun r s₁ hr => ?_
  cases r with
  | error e => exact hr
  | ok fl =>
    cases fl with
    | ret obj =>
      obtain ⟨led, rfl, rfl⟩ := hr
      have hT : Shared.TypeIs { s with heap := s.heap.push (emptySet led) } (.ref s.heap.objs.size) "set" := ⟨_, Heap.get?_push_size _ rfl, rfl⟩
      have hli := PySem.F.called_set.init.lookup
      have hbi := PySem.F.called_set.init.bind (.ref s.heap.objs.size)
      repeat (any_goals (first | assumption | wp_step))
      refine codeAny_mono (codeAny_call_builtin (R := wants (fun r s₂ => r = .none ∧ ∃ h' tk, s₂ = { s with heap := h', toks := tk } ∧ SetTo prog w val s.heap.objs.size items.size h' ∧ (∀ b o, s.heap.get? b = some o → h'.get? b = some o)) E) PySem.F.called_set.init.plain PySem.F.entry_set_init (check_set_init_1 hT ?_)) fun r₂ s₂ hr₂ => ?_
      · exact set_init_tuple (by simp [hh]) hl hv hb fun h' tk hS hk => ⟨rfl, h', tk, rfl, hS, hk⟩
      · cases r₂ with
        | error e => exact hr₂
        | ok fl₂ =>
          cases fl₂ with
          | ret r =>
            obtain ⟨rfl, h', tk, rfl, hS', hk'⟩ := hr₂
            repeat (any_goals (first | assumption | wp_step))
            exact h _ _ hS' hk'
          | _ => exact hr₂.elim
    | _ => exact hr.elim
end
end L3
end
section
namespace L3
open PySem PySem.Spec PyProof.Rows L2 PySem.SeqAt
noncomputable abbrev valS (ws : List (List Nat)) (i : Nat) : Str := ⟨(ws.getD i []).toArray⟩
theorem str_beq (a b : List Nat) : ((⟨a.toArray⟩ : Str) == ⟨b.toArray⟩) = (a == b) := by
  by_cases h : a = b
  · subst h; simp
  · rw [beq_eq_false_iff_ne.mpr h]
    refine beq_eq_false_iff_ne.mpr fun e => h ?_
    have e1 : a.toArray = b.toArray := congrArg Str.cps e
    simpa using e1
theorem nd_run (ws : List (List Nat)) : ∀ (rest seen : List (List Nat)), ws = seen ++ rest → ndN (valS ws) seen.length + ndS seen rest = ndN (valS ws) ws.length
  | [], seen, h => by simp [h, ndS]
  | w :: r, seen, h => by
    have ih := nd_run ws r (seen ++ [w]) (by simp [h])
    rw [← ih]
    have e1 : valS ws seen.length = ⟨w.toArray⟩ := by simp [valS, h]
    have e2 : ((List.range seen.length).map (valS ws)).any (· == valS ws seen.length) = seen.any (· == w) := by
      have e3 : (List.range seen.length).map (valS ws) = seen.map fun x => (⟨x.toArray⟩ : Str) := by
        refine List.ext_getElem (by simp) fun i h1 h2 => ?_
        have hi : i < seen.length := by simpa using h1
        simp [valS, h, List.getElem?_append_left hi, List.getElem?_eq_getElem hi]
      rw [e3, e1, List.any_map]
      congr 1
      funext x
      exact str_beq x w
    simp only [List.length_append, List.length_cons, List.length_nil, ndS]
    have e5 : ndN (valS ws) (seen.length + 1) = if seen.any (· == w) = true then ndN (valS ws) seen.length else ndN (valS ws) seen.length + 1 := by rw [← e2]; rfl
    show _ = ndN (valS ws) (seen.length + 1) + _
    rw [e5]
    by_cases c : seen.any (· == w) = true
    · rw [if_pos c, if_pos c]; omega
    · rw [if_neg c, if_neg c]; omega
theorem strsOf_at {K : PySem.W.Frag} {H : Hp} : ∀ {ds : List D} {ws : List (List Nat)} {vs : List V} {us : List Value}, strsOf ds = some ws → Reps K H ds vs → Vals vs us → us.length = ws.length ∧ ∀ (i : Nat) (v : Value), us[i]? = some v → ∃ t, v = .str (valS ws i) t := by
  intro ds
  induction ds with
  | nil => intro ws vs us h r rv; cases r; cases rv; cases h; exact ⟨rfl, fun i v e => by simp at e⟩
  | cons d ds ih =>
    intro ws vs us h r rv
    cases r with
    | cons rd rs => cases rv with
      | cons rv rvs => cases d with
        | str w =>
          have h : (strsOf ds).map (w :: ·) = some ws := h
          obtain ⟨ws', e, rfl⟩ := Option.map_eq_some_iff.mp h
          obtain ⟨l, ih⟩ := ih e rs rvs
          refine ⟨congrArg Nat.succ l, fun i v e => ?_⟩
          cases i with
          | zero =>
            cases rd.str_inv
            obtain ⟨t, rfl⟩ := rv
            simp at e
            exact ⟨t, e.symm⟩
          | succ i => exact ih i v (by simpa using e)
        | _ => cases h
theorem ls2 {a b : D} {r : List D} {st : Store} {Q : VK} (h : biW .lenset (a :: b :: r) st Q) : False := by
  cases a <;> exact h
section
variable {X : Cx} {C : CallT} {sub : Nat → Nat → Bool} {E : XK} {a : Expr} {x : Ex} {p p2 pos pos2 : Pos}
theorem jls (hm : X.mg "len" = none) (hm2 : X.mg "set" = none) (ha : JA X C sub E [a] [x]) (hc : X.calm = true := by kernel_rfl) (hg : X.env.kindOf "len" = some .globalImplicit := by kernel_rfl) (hg2 : X.env.kindOf "set" = some .globalImplicit := by kernel_rfl)
    (he : starEach [.Call (.Name "set" p2) [a] [] pos2] X.env = (false, eval (.Call (.Name "set" p2) [a] [] pos2) X.env) :: starEach [] X.env := by kernel_rfl) (hpl : (backTo pos (starEach [] X.env)).any (·.1) = false := by kernel_rfl)
    (he2 : starEach [a] X.env = (false, eval a X.env) :: starEach [] X.env := by kernel_rfl) (hpl2 : (backTo pos2 (starEach [] X.env)).any (·.1) = false := by kernel_rfl) :
    JE X C sub E (.Call (.Name "len" p) [.Call (.Name "set" p2) [a] [] pos2] [] pos) (.bi .lenset [x]) := ⟨by
  intro pins s σ H Q I ⟨σd, st, R, r, ok, q, hq⟩
  refine wpAny_Call_Name_kw (ld_blt I hg hm bt_len ?_ (by decide) (by decide))
  rw [he]
  refine Calls.callWith_builtin (by show (false || (backTo pos (starEach [] X.env)).any (·.1)) = false; rw [hpl]; rfl) (Calls.evalArgs_plain ?_)
  show wpAny _ _ (spliced ((false, eval (.Call (.Name "set" p2) [a] [] pos2) X.env) :: backTo pos (starEach [] X.env))) _ _ s
  refine Calls.spliced_cons ?_
  refine wpAny_Call_Name_kw (ld_blt I hg2 hm2 bt_set ?_ (by decide) (by decide))
  refine PyProof.Rows.callWith_type1 (thn (ha.h pos2 pins s σ H _ I ⟨σd, st, _, r, ok, q, fun vs H' z => z⟩) fun us s1 ⟨vs, H1, I1, rv, ds, st1, s1s, ok1, rs, q1⟩ => ?_) he2 hpl2
  match ds, rs, q1 with
  | [d], rs, q1 =>
    obtain ⟨v, rfl, rd⟩ := rs.one
    obtain ⟨u, rfl, ru⟩ := vals1 rv
    cases d with
    | tup es =>
      rw [bi_lenset] at q1
      obtain ⟨ws, e1, hl, q1⟩ := optK_inv q1
      obtain ⟨l, vs, rfl, f, g⟩ := rd.tup_inv
      cases ru
      obtain ⟨its, r1, pl, hz⟩ := I1.tuple f
      obtain ⟨hlen, hat⟩ := strsOf_at e1 g r1
      have hh : X.A.handled = none := I1.ok.hd hc
      refine call_set_tup (val := valS ws) hh (show s1.heap.IsTuple l its.toArray from pl) (fun i v e => hat i v (by simpa using e)) (by simp; unfold scanBound; omega) fun h' tk hS hk => ?_
      refine Calls.spliced_nil ?_
      have I2 : Inv X pins σ H1 { s1 with heap := h', toks := tk } := I1.kept hk
      obtain ⟨o, es', ep, t, ho, hex, hd, hel, hmem, hb, hf, hn⟩ := hS
      refine call_len_set (s := { s1 with heap := h', toks := tk }) ho hex hd hf (by unfold scanBound at hb; omega) ?_
      have hn2 : es'.size = ndS [] ws := by
        rw [hn]
        have := nd_run ws ws [] rfl
        simp only [List.length_nil, ndN, Nat.zero_add] at this
        rw [this]
        simp [hlen]
      rw [hn2]
      exact ⟨.int (ndS [] ws : Nat), H1, I2.tok _, ⟨_, rfl⟩, hq _ _ (.after s1s (.here ok1 (.int _) q1))⟩
    | ref b =>
      obtain ⟨_, _, z⟩ := lstAt_inv (show lstAt st1 b fun xs => itemsW .lenset xs st1 R from q1)
      exact (show False from z).elim
    | _ => exact (show False from q1).elim
  | [], rs, q1 => exact (show False from q1).elim
  | _ :: _ :: _, rs, q1 => exact (ls2 q1).elim⟩
end
end L3
end
section
namespace L3
open PySem PySem.Spec PyProof.Rows L2
theorem CallOk.inC {X : Cx} {C : CallT} {n : Str} {i : Nat} {scope : Scope} {own cn : List Str} {fp : List Addr} {s : Shared} {H : Hp} {Ca : Addr} (h : CallOk X C n i) : CallOk (cxC X scope own cn fp s H Ca) C n i := let ⟨a, b⟩ := h; ⟨a, b⟩
end L3
end
section
namespace L3
open PySem PySem.Spec PyProof.Rows L2
section
variable {K : PySem.W.Frag} {H : Hp}
end
section
variable {X : Cx} {C : CallT} {sub : Nat → Nat → Bool} {E : XK} {a b e o value : Expr} {es : List Expr} {x y : Ex} {xs : List Ex} {p pos apos pos' : Pos} {n : Str} {c f : List Nat} {fid : Nat}
end
end L3
end
section
namespace L3
open PySem PySem.Spec PyProof.Rows L2
section
variable {X : Cx} {pins : List (Addr × Obj)} {σ : L2.St} {H : Hp} {s : Shared} {st : Store}
end
section
variable {X : Cx} {C : CallT} {sub : Nat → Nat → Bool} {E : XK} {a b e o i value : Expr} {x y z : Ex} {p pos apos pos' : Pos}
end
end L3
end
section
namespace L3
open PySem PySem.Spec PyProof.Rows L2
theorem fn_ok2 {P : Program} {w : World} {K : PySem.W.Frag} {mg : Str → Option Value} {base : Heap} {G : Prog} {r k f : Nat} {fn : Fn} {x qual : Str} {st : Stmt} {a : Addr} {fd : FuncData} {N ps : List Str} (F : Fun K x qual st a fd) (S : FnScope N ps (defScope st))
    (hG : G.fns f = some fn) (hp : fn.np = ps.length) (hl : fn.nl = N.length)
    (hb : ∀ (cdv : Value) (A : Around) (outer : List Env) (s : Shared) (H : Hp) (E : L2.XK), Room r (A.deeper (envOfC qual (defScope st) s.heap.objs.size a cdv)) →
      JSs (cxOf CX0 P w K mg base N qual (defScope st) a cdv A outer s H E).nox (wpFn G k) G.sub (defBody st) fn.body) :
    FnOk P w K mg base CX0 (r + 1) a fd ps (spOf K (wpFn G (k + 1)) f) := by
  refine F.ok S (fun vs H Q E h => ?_) (fun cdv A outer s H vs Q E hr h => ?_)
  · obtain ⟨ds, st', R, r, _, h, _⟩ := h
    simp only [wpFn, hG] at h
    rw [← r.length, h.1, hp]
  · obtain ⟨ds, st', R, r, ok, h, hq⟩ := h
    simp only [wpFn, hG] at h
    refine ⟨_, (hb cdv A outer s H E hr).h, ?_⟩
    refine ⟨start fn.np fn.nl ds, st', _, ?_, ok, h.2, ⟨fun σ' H' σd' st'' sr s' ok' q => ?_, fun v H' z => hq v H' z, fun o' o' o' o' o' o' o' q => q, fun o' o' o' o' o' o' o' q => q, fun o' o' o' q => q⟩⟩
    · rw [hl]; exact start_rel r h.1
    · exact hq _ _ ⟨.non, st'', s', ok', .non, q⟩
inductive At where
  | top
  | meth (c : List Nat)
  | init (c : List Nat)
noncomputable def AtOk (K : PySem.W.Frag) (mg : Str → Option Value) (n : Str) (a : Addr) : At → Prop
  | .top => mg n = some (.ref a)
  | .meth c => ∃ C0, clsAt K c C0 ∧ Cls K C0 ∧ Meth K C0 n a
  | .init c => ∃ C0, clsAt K c C0 ∧ mg ⟨c.toArray⟩ = some (.ref C0) ∧ Mk K C0 a
structure Top2 (K : PySem.W.Frag) (mg : Str → Option Value) (nf : Nat) (nm qn : Nat → Str) (ps : Nat → List Str) (st : Nat → Stmt) (at_ : Nat → At) where
  a : Nat → Addr
  fd : Nat → FuncData
  fn : ∀ i, i < nf → Fun K (nm i) (qn i) (st i) (a i) (fd i)
  bi : ∀ i, i < nf → Binds K (fd i) (ps i) []
  mg : ∀ i, i < nf → AtOk K mg (nm i) (a i) (at_ i)
theorem all_ok2 {P : Program} {w : World} {K : PySem.W.Frag} {mg : Str → Option Value} {base : Heap} {G : Prog} {nf : Nat} {nm qn : Nat → Str} {ps : Nat → List Str} {st : Nat → Stmt} {at_ : Nat → At} (T : Top2 K mg nf nm qn ps st at_)
    (step : ∀ k, (∀ i, i < nf → FnOk P w K mg base CX0 (2 * k) (T.a i) (T.fd i) (ps i) (spOf K (wpFn G k) i)) → ∀ i, i < nf → FnOk P w K mg base CX0 (2 * k + 1 + 1) (T.a i) (T.fd i) (ps i) (spOf K (wpFn G (k + 1)) i)) :
    ∀ k i, i < nf → FnOk P w K mg base CX0 (2 * k) (T.a i) (T.fd i) (ps i) (spOf K (wpFn G k) i)
  | 0, i, _ => fn_zero
  | k + 1, i, h => step k (all_ok2 T step k) i h
noncomputable def BindEq2 (n q : Str) (ps : List Str) (st : Stmt) : Prop := ∀ (kV doc pm : Value) (an : Option Addr) (cdv ct : Value) (us : List Value), us.length = ps.length → bindArgs (PySem.W.fnOf n q (defArgs st) (defBody st) (defScope st) .none kV doc pm an cdv ct) ⟨us, []⟩ = pure (ps.zip us)
noncomputable def FTop2 (K : PySem.W.Frag) (mg : Str → Option Value) (n q : Str) (st : Stmt) (at_ : At) : Prop := ∃ a fd, Fun K n q st a fd ∧ AtOk K mg n a at_
theorem ftop2 {K : PySem.W.Frag} {h : Heap} {mg : Str → Option Value} (X : K.In h) (G : h.Ns mainGlobals mg) {n : Str} {st : Stmt} {f : Addr} {oc : Value} {od an : Option Addr} {sl : Array (Option Value)} {kV dc pm cd ct : Value}
    (a : PySem.W.nsIn K mainGlobals n = some (some (.ref f))) (l : K.lookup f = some ⟨oc, od, .func (PySem.W.fnOf n n (defArgs st) (defBody st) (defScope st) .none kV dc pm an cd ct), sl⟩) (c : PySem.W.codeIn K cd n = true) (k : PySem.W.keepIn K (.ref f) = true) : FTop2 K mg n n st .top :=
  ⟨f, _, fun_mk l c k, PySem.W.mg_of X G a⟩
theorem top_of2 {K : PySem.W.Frag} {mg : Str → Option Value} {nm qn : Nat → Str} {ps : Nat → List Str} {st : Nat → Stmt} {at_ : Nat → At} : ∀ (nf : Nat), (∀ i, i < nf → BindEq2 (nm i) (qn i) (ps i) (st i)) → (∀ i, i < nf → FTop2 K mg (nm i) (qn i) (st i) (at_ i)) → FuncData → Nonempty (Top2 K mg nf nm qn ps st at_)
  | 0, _, _, d => ⟨⟨fun o' => 0, fun o' => d, fun i h => absurd h (by omega), fun i h => absurd h (by omega), fun i h => absurd h (by omega)⟩⟩
  | nf + 1, B, H, d => by
    obtain ⟨T⟩ := top_of2 nf (fun i h => B i (by omega)) (fun i h => H i (by omega)) d
    obtain ⟨a, fd, hF, hm⟩ := H nf (by omega)
    refine ⟨⟨fun i => if i = nf then a else T.a i, fun i => if i = nf then fd else T.fd i, fun i h => ?_, fun i h => ?_, fun i h => ?_⟩⟩
    · by_cases e : i = nf
      · subst e; simpa using hF
      · simpa only [if_neg e] using T.fn i (by omega)
    · by_cases e : i = nf
      · subst e; simpa using hF.binds (B i (by omega))
      · simpa only [if_neg e] using T.bi i (by omega)
    · by_cases e : i = nf
      · subst e; simpa using hm
      · simpa only [if_neg e] using T.mg i (by omega)
theorem binds_one2 {K : PySem.W.Frag} {n q x : Str} {st : Stmt} {a : Addr} {fd : FuncData} (F : Fun K n q st a fd) (h : BindEq2 n q [x] st) (s : Shared) (u : Value) : BindsTo s fd ⟨[u], []⟩ [(x, u)] := by
  obtain ⟨oc, od, kV, doc, pm, an, cdv, ct, osl, rfl, lk, hcd⟩ := F.ex
  exact .of_eq (h kV doc pm an cdv ct [u] rfl)
theorem walkL2 {l : PySem.W.OpenLaw} {q : Program} {loose : List Str} {XP : (Str → Option Value) → Heap → Prop} {YP : World → Heap → Prop} {d : DefRec} {K : Params → PySem.W.Frag} {G : Prog} {r k f : Nat} {x : Str} (hr : Room r callerA) (hlaw : ∀ ns : List Int, ns.length ≤ 63 → wpFn G k f [.mlst (ns.map .int)] (fun o' => none) (fun d o' => d = .bl true) fun o' o' => False) (hn : l.most = some 63) (hdf : d.params.defaults = [])
    (hY : ∀ (w : World) (h : Heap), YP w h → (K w.params).In h)
    (F : ∀ (w : World) (mg : Str → Option Value) (fa : Addr) (h : Heap), (K w.params).In h → h.Ns mainGlobals mg → mg d.name = some (.ref fa) →
      ∃ fd : FuncData, (∀ (s : Shared) (u : Value), BindsTo s fd ⟨[u], []⟩ [(x, u)]) ∧ ∀ base : Heap, (K w.params).In base → base.Ns mainGlobals mg → FnOk l.prog w (K w.params) mg base CX0 r fa fd [x] (spOf (K w.params) (wpFn G k) f)) :
    PySem.W.WalkO q loose XP YP l.row.toRowW d [] (fun f vs => PySem.call f vs) :=
  L2.walk_of (n := 63) (k := r) (x := x) (CX := fun o' => CX0) (sp := fun w => spOf (K w.params) (wpFn G k) f) hn (by decide) hdf hr hY F (fun o' H a ns hl hO hS => law_sp hlaw H a ns hl hO hS) fun o' o' o' o' o' z => z
end L3
end
section
namespace L3
section
variable {C : CallT} {sub : Nat → Nat → Bool} {E : XK} {σ : St} {st : Store} {Q : VK} {QQ : List D → Store → Prop} {QB : Bool → Store → Prop} {P : Post} {e a b c : Ex} {es : List Ex} {i : Nat} {d : D} {M : St → Store → Prop}
theorem e_c : wpE C sub E (.c d) σ st Q = Q d st := rfl
theorem e_v : wpE C sub E (.v i) σ st Q = getV σ i fun d => Q d st := rfl
theorem e_tup : wpE C sub E (.tup es) σ st Q = wpEs C sub E es σ st fun ds st' => Q (.tup ds) st' := rfl
theorem e_lst : wpE C sub E (.lst es) σ st Q = wpEs C sub E es σ st fun ds st' => newL ds st' Q := rfl
theorem e_bin {op : BOp} : wpE C sub E (.bin op a b) σ st Q = wpE C sub E a σ st fun x st1 => wpE C sub E b σ st1 fun y st2 => binW op x y st2 Q := rfl
theorem e_neg : wpE C sub E (.neg a) σ st Q = wpE C sub E a σ st fun x st1 => negW x st1 Q := rfl
theorem e_cmp {op : COp} : wpE C sub E (.cmp op a b) σ st Q = wpE C sub E a σ st fun x st1 => wpE C sub E b σ st1 fun y st2 => cmpW op x y st2 fun k => Q (.bl k) st2 := rfl
theorem e_chain {op op' : COp} : wpE C sub E (.chain op op' a b c) σ st Q = wpE C sub E a σ st fun x st1 => wpE C sub E b σ st1 fun y st2 => cmpW op x y st2 fun k =>
      if k = true then wpE C sub E c σ st2 fun z st3 => cmpW op' y z st3 fun k => Q (.bl k) st3 else Q (.bl false) st2 := rfl
theorem e_and : wpE C sub E (.and_ a b) σ st Q = wpE C sub E a σ st fun x st1 => truW x st1 fun k => if k = true then wpE C sub E b σ st1 Q else Q x st1 := rfl
theorem e_or : wpE C sub E (.or_ a b) σ st Q = wpE C sub E a σ st fun x st1 => truW x st1 fun k => if k = true then Q x st1 else wpE C sub E b σ st1 Q := rfl
theorem e_not : wpE C sub E (.not_ a) σ st Q = wpE C sub E a σ st fun x st1 => truW x st1 fun k => Q (.bl (!k)) st1 := rfl
theorem e_call {f : Nat} : wpE C sub E (.call f es) σ st Q = wpEs C sub E es σ st fun ds st' => C f ds st' Q E := rfl
theorem e_bi {f : BI} : wpE C sub E (.bi f es) σ st Q = wpEs C sub E es σ st fun ds st' => biW f ds st' Q := rfl
theorem e_isi {ts : List Ty} : wpE C sub E (.isi a ts) σ st Q = wpE C sub E a σ st fun x st1 => isiW sub x st1 ts fun k => Q (.bl k) st1 := rfl
theorem e_meth {m : MT} : wpE C sub E (.meth m a es) σ st Q = wpE C sub E a σ st fun x st1 => rcvW m x st1 ∧ wpEs C sub E es σ st1 fun ds st2 => methW m x ds st2 Q := rfl
theorem e_ix : wpE C sub E (.ix a b) σ st Q = wpE C sub E a σ st fun x st1 => wpE C sub E b σ st1 fun y st2 => ixW x y st2 Q := rfl
theorem e_sl {lo hi : List Ex} : wpE C sub E (.sl a lo hi) σ st Q = wpE C sub E a σ st fun x st1 => wpEs C sub E lo σ st1 fun ls st2 => partW ls fun l => wpEs C sub E hi σ st2 fun hs st3 => partW hs fun h => slW x l h st3 Q := rfl
theorem e_bit {f : BI} {k : IK} : wpE C sub E (.bit f k es) σ st Q = wpEs C sub E es σ st fun ds st1 => itrW (some k) ds st1 fun o' xs => itemsW f xs st1 Q := rfl
theorem e_comp {n : Nat} {caps tg : List Nat} {one : Bool} {k : Option IK} {its ifs : List Ex} : wpE C sub E (.comp n caps tg one k its ifs e) σ st Q = wpEs C sub E its σ st fun ds st1 => itrW k ds st1 fun as xs =>
      compW (same as st1) (fun x st2 K => bindT one tg x (List.replicate n none ++ caps.map fun i => (σ[i]?).getD none) fun σ' =>
        wpTs C sub E ifs σ' st2 fun b st3 => if b = true then wpE C sub E e σ' st3 fun d st4 => K (some d) st4 else K none st3) xs [] st1 fun ds st5 => newL ds st5 Q := rfl
theorem es_nil : wpEs C sub E [] σ st QQ = QQ [] st := rfl
theorem es_cons : wpEs C sub E (e :: es) σ st QQ = wpE C sub E e σ st fun d st' => wpEs C sub E es σ st' fun ds st'' => QQ (d :: ds) st'' := rfl
theorem t_nil : wpTs C sub E [] σ st QB = QB true st := rfl
theorem t_cons : wpTs C sub E (e :: es) σ st QB = wpE C sub E e σ st fun d st' => truW d st' fun k => if k = true then wpTs C sub E es σ st' QB else QB false st' := rfl
theorem s_exW : wpS C sub (.ex e) P σ st = wpE C sub (fun c st' => P.ex c σ st') e σ st fun o' st' => P.nx σ st' := rfl
theorem s_asgW {t : Tg} : wpS C sub (.asg t e) P σ st = wpE C sub (fun c st' => P.ex c σ st') e σ st fun d st' => tgW C sub (fun c st' => P.ex c σ st') t d σ st' P.nx := rfl
theorem s_iffW {x y : List Sx} : wpS C sub (.iff e x y) P σ st = wpE C sub (fun c st' => P.ex c σ st') e σ st fun d st' => truW d st' fun k => if k = true then wpSs C sub x P σ st' else wpSs C sub y P σ st' := rfl
theorem s_forW {t : Tg} {k : Option IK} {b : List Sx} : wpS C sub (.forr t k es b) P σ st = wpEs C sub (fun c st' => P.ex c σ st') es σ st fun ds st1 => itrW k ds st1 fun as xs => forW (same as st1) (fun x next σ st => tgW C sub (fun c st' => P.ex c σ st') t x σ st fun σ' st' => wpSs C sub b { P with nx := next, ct := next, bk := P.nx } σ' st') P.nx xs σ st1 := rfl
theorem s_retW : wpS C sub (.ret e) P σ st = wpE C sub (fun c st' => P.ex c σ st') e σ st P.rt := rfl
theorem tg_nm : tgW C sub E (.nm i) d σ st M = M (σ.set i (some d)) st := rfl
theorem tg_tp {is : List Nat} : tgW C sub E (.tp is) d σ st M = bindT false is d σ fun σ' => M σ' st := rfl
theorem tg_ix : tgW C sub E (.ix a b) d σ st M = wpE C sub E a σ st fun x st1 => wpE C sub E b σ st1 fun y st2 => setW x y d st2 fun st3 => M σ st3 := rfl
end
section
variable {d : D} {r : St} {R : D → Prop} {o0 o1 o2 o3 o4 o5 o6 o7 o8 o9 o10 o11 o12 : Option D}
theorem gv_0 : getV (some d :: r) 0 R = R d := rfl
theorem gv_1 : getV (o0 :: some d :: r) 1 R = R d := rfl
theorem gv_2 : getV (o0 :: o1 :: some d :: r) 2 R = R d := rfl
theorem gv_3 : getV (o0 :: o1 :: o2 :: some d :: r) 3 R = R d := rfl
theorem gv_4 : getV (o0 :: o1 :: o2 :: o3 :: some d :: r) 4 R = R d := rfl
theorem gv_5 : getV (o0 :: o1 :: o2 :: o3 :: o4 :: some d :: r) 5 R = R d := rfl
theorem gv_6 : getV (o0 :: o1 :: o2 :: o3 :: o4 :: o5 :: some d :: r) 6 R = R d := rfl
theorem gv_7 : getV (o0 :: o1 :: o2 :: o3 :: o4 :: o5 :: o6 :: some d :: r) 7 R = R d := rfl
theorem gv_8 : getV (o0 :: o1 :: o2 :: o3 :: o4 :: o5 :: o6 :: o7 :: some d :: r) 8 R = R d := rfl
theorem gv_9 : getV (o0 :: o1 :: o2 :: o3 :: o4 :: o5 :: o6 :: o7 :: o8 :: some d :: r) 9 R = R d := rfl
theorem gv_10 : getV (o0 :: o1 :: o2 :: o3 :: o4 :: o5 :: o6 :: o7 :: o8 :: o9 :: some d :: r) 10 R = R d := rfl
theorem gv_11 : getV (o0 :: o1 :: o2 :: o3 :: o4 :: o5 :: o6 :: o7 :: o8 :: o9 :: o10 :: some d :: r) 11 R = R d := rfl
theorem gv_12 : getV (o0 :: o1 :: o2 :: o3 :: o4 :: o5 :: o6 :: o7 :: o8 :: o9 :: o10 :: o11 :: some d :: r) 12 R = R d := rfl
theorem gv_13 : getV (o0 :: o1 :: o2 :: o3 :: o4 :: o5 :: o6 :: o7 :: o8 :: o9 :: o10 :: o11 :: o12 :: some d :: r) 13 R = R d := rfl
end
end L3
end
section
namespace L3
open PySem PySem.Spec PyProof.Rows L2
section
variable {K : PySem.W.Frag} {H1 : Hp} {st1 : Store} {a b : Addr} {xs ys : List D}
end
section
variable {X : Cx} {C : CallT} {sub : Nat → Nat → Bool} {a b : Expr} {x y : Ex} {p pos : Pos} {elts : List Expr} {x1 : Nat} {tp : Pos}
end
end L3
end
section
namespace L3
open PySem PySem.Spec PyProof.Rows L2
section
variable {K : PySem.W.Frag} {H1 : Hp} {st1 : Store} {a b : Addr} {xs ys : List D}
end
section
variable {X : Cx} {C : CallT} {sub : Nat → Nat → Bool} {a b : Expr} {x y : Ex} {p pos : Pos} {elts : List Expr} {x1 : Nat} {tp : Pos}
end
end L3
end
section
namespace L3
open PySem PySem.Spec PyProof.Rows L2
section
variable {X : Cx} {C : CallT} {sub : Nat → Nat → Bool} {E : XK} {a b : Expr} {x y : Ex} {p pos tp : Pos} {elts : List Expr} {x1 : Nat}
end
end L3
end
section
open L3 PySem
local macro_rules | `(tactic| walk_at "wpe") => do
  let a ← ("e_c e_v e_tup e_lst e_bin e_neg e_cmp e_chain e_and e_or e_not e_call e_bi e_isi e_meth e_ix e_sl e_bit e_comp es_nil es_cons t_nil t_cons s_exW s_asgW s_iffW s_forW s_retW tg_nm tg_tp tg_ix gv_0 gv_1 gv_2 gv_3 gv_4 gv_5 gv_6 gv_7 gv_8 gv_9 gv_10 gv_11 gv_12 gv_13 tru_bl tru_non tru_int tru_tup tru_mlst cmp_eq cmp_ne cmp_lt cmp_le cmp_gt cmp_in_tup cmp_in_mdic cmp_in_str cmp_nin_tup cmp_nin_mdic cmp_nin_str add_int add_str add_tup add_ref sub_int mul_int fdiv_int mod_int pow_int neg_int isi_one isi_two is_non is_bl_int is_bl_str is_bl_bool is_bl_list is_bl_tuple is_int_int is_int_str is_int_bool is_int_list is_int_tuple is_str_int is_str_str is_str_bool is_str_list is_str_tuple is_tup_int is_tup_str is_tup_bool is_tup_list is_tup_tuple is_mlst_int is_mlst_str is_mlst_bool is_mlst_list is_mlst_tuple is_ref_int is_ref_str is_ref_bool is_ref_list is_ref_tuple ix_tup ix_mlst ix_str ix_mdic optK_some optK_none part_0 part_1 sl_tup sl_ref itr_val iter_tup iter_str iter_mlst iter_ref seq_tup seq_ref seq_mlst itr_range1 itr_range2 itr_rev bi_len len_tup len_mlst len_str len_ref bi_all bi_any bi_list bi_tuple bi_lenset it_all it_any it_list it_tuple own_tup own_ref rcv_append rcv_extend rcv_pop mt_append mt_extend mt_pop set_ref bind_1 bind_t".splitOn " ").toArray.mapM fun s => `(Lean.Parser.Tactic.simpLemma| ↓$(Lean.mkIdent s.toName):term)
  let b ← ("at_0 at_1 at_2 at_3 at_4 cut_1 List.map_cons List.map_nil List.cons_append List.nil_append List.replicate List.append_nil if_true if_false Bool.not_true Bool.not_false Bool.false_eq_true reduceIte List.set_cons_zero List.set_cons_succ true_and and_true plainS_str plainS_int plainS_bl plainS_non plain_str plain_int plain_bl plain_non eqS_str eqS_int eqS_bl eqD_str Option.getD_some List.getElem?_cons_zero List.getElem?_cons_succ decide_eq_true_eq Bool.and_eq_true List.zip_cons_cons List.zip_nil_left List.zip_nil_right List.foldl_cons List.foldl_nil List.length_cons List.length_nil".splitOn " ").toArray.mapM fun s => `(Lean.Parser.Tactic.simpLemma| $(Lean.mkIdent s.toName):term)
  `(tactic| simp only [$a,*, $b,*])
local macro_rules | `(tactic| walk_at "st") => `(tactic| ((try dsimp only); (first | refine wpSs_c ?_ | rw [wpSs_cons]); (try walk_at "wpe")))
local macro_rules | `(tactic| walk_at "ex") => `(tactic| ((try dsimp only); (try walk_at "wpe")))
section
namespace L3
open PySem
theorem wpFn_at {G : Prog} {f k : Nat} {fn : Fn} {ds : List D} {st : Store} {Q : VK} {E : XK} (h : G.fns f = some fn) : wpFn G (k + 1) f ds st Q E = (ds.length = fn.np ∧ wpSs (wpFn G k) G.sub fn.body ⟨fun o' st' => Q .non st', Q, fun o' o' => False, fun o' o' => False, fun c o' st' => E c st'⟩ (start fn.np fn.nl ds) st) := by
  simp only [wpFn, h]
theorem wpFn_i {G : Prog} {f k : Nat} {fn : Fn} {ds : List D} {st : Store} {Q : VK} {E : XK} (h : G.fns f = some fn) (q : ds.length = fn.np ∧ wpSs (wpFn G k) G.sub fn.body ⟨fun o' st' => Q .non st', Q, fun o' o' => False, fun o' o' => False, fun c o' st' => E c st'⟩ (start fn.np fn.nl ds) st) : wpFn G (k + 1) f ds st Q E := by
  rw [wpFn_at h]; exact q
noncomputable def Keep (as : List Nat) (st st' : Store) : Prop := ∀ a o, a ∉ as → st a = some o → st' a = some o
theorem Keep.refl {as : List Nat} {st : Store} : Keep as st st := fun o' o' o' h => h
theorem Keep.trans {as : List Nat} {a b c : Store} (h : Keep as a b) (h' : Keep as b c) : Keep as a c := fun x o n e => h' x o n (h x o n e)
theorem Keep.mono {as bs : List Nat} {st st' : Store} (h : Keep as st st') (s : ∀ a ∈ as, a ∈ bs) : Keep bs st st' := fun x o n e => h x o (fun z => n (s x z)) e
theorem Ext.keep {as : List Nat} {st st' : Store} (h : Ext st st') : Keep as st st' := fun x o o' e => h x o e
theorem Keep.put {as : List Nat} {st : Store} {a : Nat} {o : MO} (h : a ∈ as) : Keep as st (put st a o) := fun x u n e => by rw [put_ne (fun z => n (by rw [z]; exact h))]; exact e
noncomputable def cellV (ns : List Int) (k : Int) : Int := if k < ns.length then (ns[k.toNat]?).getD 0 else if ns = [] then 0 else (ns[(k % ns.length).toNat]?).getD 0 * 31 + k
noncomputable def mixV (ns : List Int) (k many : Int) : Int :=
  let d := (cellV ns k + 7919 * k + 1) * 48271 % 2147483647
  (d * d + 7 * d + k) % 2147483629 % many
theorem mixV_lo {ns : List Int} {k many : Int} (h : 0 < many) : 0 ≤ mixV ns k many := Int.emod_nonneg _ (by walk_at "om")
theorem mixV_hi {ns : List Int} {k many : Int} (h : 0 < many) : mixV ns k many < many := Int.emod_lt_of_pos _ h
noncomputable def hCell : Fn := ⟨2, 2, [.iff (.cmp .lt (.v 1) (.bi .len [(.v 0)])) [.ret (.ix (.v 0) (.v 1))] [], .iff (.cmp .eq (.v 0) (.lst [])) [.ret (.c (.int 0))] [],
  .ret (.bin .add (.bin .mul (.ix (.v 0) (.bin .mod (.v 1) (.bi .len [(.v 0)]))) (.c (.int 31))) (.v 1))]⟩
noncomputable def hMixed (ic : Nat) : Fn := ⟨3, 4, [.asg (.nm 3) (.bin .mod (.bin .mul (.bin .add (.bin .add (.call ic [(.v 0), (.v 1)]) (.bin .mul (.c (.int 7919)) (.v 1))) (.c (.int 1))) (.c (.int 48271))) (.c (.int 2147483647))),
  .ret (.bin .mod (.bin .mod (.bin .add (.bin .add (.bin .mul (.v 3) (.v 3)) (.bin .mul (.c (.int 7)) (.v 3))) (.v 1)) (.c (.int 2147483629))) (.v 2))]⟩
noncomputable def hNext (im : Nat) : Fn := ⟨3, 3, [.asg (.ix (.v 1) (.c (.int 0))) (.bin .add (.ix (.v 1) (.c (.int 0))) (.c (.int 1))), .ret (.call im [(.v 0), (.ix (.v 1) (.c (.int 0))), (.v 2)])]⟩
theorem plain_ints (ns : List Int) : pureDs (ns.map .int) = true ∧ depDs (ns.map .int) = 0 := by
  induction ns with
  | nil => exact ⟨rfl, rfl⟩
  | cons n r ih => exact ⟨by simp only [List.map_cons, pureDs, pureD, ih.1, Bool.and_self], by simp only [List.map_cons, depDs, depD, ih.2, Nat.max_self]⟩
theorem at_ints {ns : List Int} {k : Int} (h0 : 0 ≤ k) (h1 : k < ns.length) : atI (ns.map D.int) k = some (.int ((ns[k.toNat]?).getD 0)) := by
  obtain ⟨n, rfl⟩ : ∃ n : Nat, k = n := ⟨k.toNat, by walk_at "om"⟩
  rw [atI_nat (by simp; walk_at "om")]
  simp only [List.getElem?_map, Int.toNat_natCast]
  rw [List.getElem?_eq_getElem (by walk_at "om")]
  rfl
section
variable {G : Prog} {k ic im inx : Nat} {st : Store} {Q : VK} {E : XK} {ns : List Int}
theorem cell_ok (hc : G.fns ic = some hCell) {i : Int} (hi : 0 ≤ i) (hQ : ∀ st', Ext st st' → Q (.int (cellV ns i)) st') : wpFn G (k + 1) ic [.mlst (ns.map .int), .int i] st Q E := by
  refine wpFn_i hc ?_
  simp only [hCell, start]
  refine ⟨rfl, ?_⟩
  refine wpSs_c ?_
  walk_at "wpe"
  simp only [List.length_map]
  by_cases h : i < ns.length
  · simp only [h, decide_true, if_true]
    refine wpSs_c ?_
    walk_at "wpe"
    rw [at_ints hi h]
    walk_at "wpe"
    have := hQ st .refl
    simp only [cellV, h, if_true] at this
    exact this
  · simp only [h, decide_false, Bool.false_eq_true, if_false, wpSs_nil]
    refine wpSs_c ?_
    walk_at "wpe"
    refine ⟨Nat.zero_le _, fun p hp => ?_⟩
    have hx : Ext st (put st p (.lst [])) := Ext.new hp
    dsimp only
    have e1 : eqS (put st p (.lst [])) (.mlst (ns.map .int)) (.ref p) = ns.isEmpty := by
      show eqO (some (.lst (ns.map .int))) (put st p (.lst []) p) = _
      rw [put_same]
      cases ns with
      | nil => rfl
      | cons n r => rfl
    rw [e1]
    refine ⟨⟨?_, Nat.zero_le _⟩, ⟨?_, Nat.zero_le _⟩, ?_⟩
    · simp only [pureS, (plain_ints ns).1, (plain_ints ns).2, Bool.true_and]; rfl
    · simp only [pureS, put_same, okL]; rfl
    cases ns with
    | nil =>
      simp only [List.isEmpty_nil, if_true]
      refine wpSs_c ?_
      walk_at "wpe"
      have := hQ _ hx
      simp only [cellV, h, if_false, if_true] at this
      exact this
    | cons n r =>
      simp only [List.isEmpty_cons, Bool.false_eq_true, if_false, wpSs_nil]
      refine wpSs_c ?_
      have hl : (0 : Int) < ((n :: r).length : Int) := by simp only [List.length_cons]; walk_at "om"
      simp only [s_retW, e_bin, e_ix, e_v, e_c, e_bi, es_cons, es_nil, getV_0, getV_s, bi_len, len_mlst, mod_int, ix_mlst, List.length_map, List.map_cons, List.cons_append, List.nil_append, List.map_nil]
      refine ⟨by simpa using hl, ?_⟩
      have hm0 : 0 ≤ i % ((n :: r).length : Int) := Int.emod_nonneg _ (by walk_at "om")
      have hm1 : i % ((n :: r).length : Int) < (n :: r).length := Int.emod_lt_of_pos _ hl
      have := at_ints (ns := n :: r) hm0 hm1
      simp only [List.map_cons, List.length_cons] at this
      simp only [List.length_cons, List.length_map]
      rw [this]
      walk_at "wpe"
      refine ⟨.inr ⟨by walk_at "om", by walk_at "om"⟩, ?_⟩
      have := hQ _ hx
      simp only [cellV, h, if_false] at this
      simpa using this
theorem mixed_ok (hm : G.fns im = some (hMixed ic)) (hc : G.fns ic = some hCell) {i many : Int} (hi : 0 ≤ i) (hmany : 0 < many) (hQ : ∀ st', Ext st st' → Q (.int (mixV ns i many)) st') : wpFn G (k + 2) im [.mlst (ns.map .int), .int i, .int many] st Q E := by
  refine wpFn_i hm ?_
  simp only [hMixed, start]
  refine ⟨rfl, ?_⟩
  refine wpSs_c ?_
  walk_at "wpe"
  refine cell_ok hc hi fun st' e => ?_
  walk_at "wpe"
  refine ⟨.inl ⟨by walk_at "om", by walk_at "om"⟩, .inr ⟨by walk_at "om", by walk_at "om"⟩, by walk_at "om", ?_⟩
  refine wpSs_c ?_
  walk_at "wpe"
  have d0 : 0 ≤ (cellV ns i + 7919 * i + 1) * 48271 % 2147483647 := Int.emod_nonneg _ (by walk_at "om")
  have d1 : (cellV ns i + 7919 * i + 1) * 48271 % 2147483647 < 2147483647 := Int.emod_lt_of_pos _ (by walk_at "om")
  refine ⟨.inl ⟨by walk_at "om", by walk_at "om"⟩, .inl ⟨by walk_at "om", by walk_at "om"⟩, by walk_at "om", hmany, ?_⟩
  exact hQ st' e
theorem next_ok (hn : G.fns inx = some (hNext im)) (hm : G.fns im = some (hMixed ic)) (hc : G.fns ic = some hCell) {a : Nat} {i many : Int} (ha : st a = some (.lst [.int i])) (hi : 0 ≤ i) (hmany : 0 < many)
    (hQ : ∀ st', Keep [a] st st' → st' a = some (.lst [.int (i + 1)]) → Q (.int (mixV ns (i + 1) many)) st') : wpFn G (k + 3) inx [.mlst (ns.map .int), .ref a, .int many] st Q E := by
  refine wpFn_i hn ?_
  simp only [hNext, start]
  refine ⟨rfl, ?_⟩
  refine wpSs_c ?_
  walk_at "wpe"
  rw [ix_lst ha]
  walk_at "wpe"
  rw [lstAt_lst ha]
  have e0 : ixN [D.int i].length 0 = some 0 := rfl
  simp only [e0, optK_some, List.set_cons_zero]
  refine wpSs_c ?_
  walk_at "wpe"
  rw [ix_lst put_same]
  walk_at "wpe"
  refine mixed_ok hm hc (by walk_at "om") hmany fun st' e => ?_
  refine hQ st' (fun x o n h => e x o (by rw [put_ne (by simpa using n)]; exact h)) (e a _ put_same)
end
end L3
end
section
namespace L3
open PySem
inductive W1 where
  | not | before | once | sofar
  deriving DecidableEq
inductive W2 where
  | and | or | thn | same | since
  deriving DecidableEq
inductive Sy where
  | yes | no | lamp (n : List Nat) | one (w : W1) (s : Sy) | two (w : W2) (s t : Sy)
  deriving DecidableEq
noncomputable def c1 : W1 → List Nat
  | .not => W "not"
  | .before => W "before"
  | .once => W "once"
  | .sofar => W "sofar"
noncomputable def c2 : W2 → List Nat
  | .and => W "and"
  | .or => W "or"
  | .thn => W "then"
  | .same => W "same"
  | .since => W "since"
noncomputable def toD : Sy → D
  | .yes => .tup [.str (W "yes")]
  | .no => .tup [.str (W "no")]
  | .lamp n => .tup [.str (W "lamp"), .str n]
  | .one w s => .tup [.str (c1 w), toD s]
  | .two w s t => .tup [.str (c2 w), toD s, toD t]
noncomputable def dep : Sy → Nat
  | .one _ s => dep s + 1
  | .two _ s t => max (dep s) (dep t) + 1
  | _ => 1
noncomputable def p1 : W1 → Bool
  | .not => false
  | _ => true
noncomputable def p2 : W2 → Bool
  | .since => true
  | _ => false
noncomputable def cnt : Sy → Nat
  | .one w s => (if p1 w then 1 else 0) + cnt s
  | .two w s t => (if p2 w then 1 else 0) + (cnt s + cnt t)
  | _ => 0
noncomputable def over (names : List (List Nat)) : Sy → Prop
  | .lamp n => n ∈ names
  | .one _ s => over names s
  | .two _ s t => over names s ∧ over names t
  | _ => True
theorem toD_pure : ∀ s : Sy, pureD (toD s) = true
  | .yes => rfl
  | .no => rfl
  | .lamp n => rfl
  | .one w s => by simp only [toD, pureD, pureDs, toD_pure s, Bool.and_self]
  | .two w s t => by simp only [toD, pureD, pureDs, toD_pure s, toD_pure t, Bool.and_self]
theorem toD_dep : ∀ s : Sy, depD (toD s) = dep s
  | .yes => rfl
  | .no => rfl
  | .lamp n => rfl
  | .one w s => by simp only [toD, depD, depDs, toD_dep s, dep, Nat.zero_max, Nat.max_zero]
  | .two w s t => by simp only [toD, depD, depDs, toD_dep s, toD_dep t, dep, Nat.zero_max, Nat.max_zero]
noncomputable def hSaying (inx is : Nat) : Fn := ⟨5, 7, [.asg (.nm 5) (.call inx [(.v 0), (.v 1), (.c (.int 13))]), .iff (.or_ (.cmp .eq (.v 3) (.c (.int 0))) (.cmp .lt (.v 5) (.c (.int 3)))) [.ret (.tup [(.c (.str (W "lamp"))), (.ix (.v 2) (.call inx [(.v 0), (.v 1), (.bi .len [(.v 2)])]))])] [], .iff (.cmp .eq (.v 5) (.c (.int 3))) [.ret (.tup [(.ix (.lst [(.c (.str (W "yes"))), (.c (.str (W "no")))]) (.call inx [(.v 0), (.v 1), (.c (.int 2))]))])] [], .iff (.and_ (.cmp .gt (.v 5) (.c (.int 8))) (.cmp .gt (.ix (.v 4) (.c (.int 0))) (.c (.int 0)))) [.asg (.ix (.v 4) (.c (.int 0))) (.bin .sub (.ix (.v 4) (.c (.int 0))) (.c (.int 1))), .asg (.nm 6) (.call is [(.v 0), (.v 1), (.v 2), (.bin .sub (.v 3) (.c (.int 1))), (.v 4)]), .iff (.cmp .eq (.v 5) (.c (.int 12))) [.ret (.tup [(.c (.str (W "since"))), (.v 6), (.call is [(.v 0), (.v 1), (.v 2), (.bin .sub (.v 3) (.c (.int 1))), (.v 4)])])] [], .ret (.tup [(.ix (.lst [(.c (.str (W "before"))), (.c (.str (W "once"))), (.c (.str (W "sofar")))]) (.bin .sub (.v 5) (.c (.int 9)))), (.v 6)])] [], .asg (.nm 6) (.call is [(.v 0), (.v 1), (.v 2), (.bin .sub (.v 3) (.c (.int 1))), (.v 4)]), .iff (.or_ (.cmp .eq (.v 5) (.c (.int 4))) (.cmp .gt (.v 5) (.c (.int 8)))) [.ret (.tup [(.c (.str (W "not"))), (.v 6)])] [], .ret (.tup [(.ix (.lst [(.c (.str (W "and"))), (.c (.str (W "or"))), (.c (.str (W "then"))), (.c (.str (W "same")))]) (.bin .sub (.v 5) (.c (.int 5)))), (.v 6), (.call is [(.v 0), (.v 1), (.v 2), (.bin .sub (.v 3) (.c (.int 1))), (.v 4)])])]⟩
noncomputable def Drawn (a b : Nat) (i l : Int) (st st' : Store) (i' l' : Int) : Prop := Keep [a, b] st st' ∧ 0 ≤ i' ∧ st' a = some (.lst [.int i']) ∧ st' b = some (.lst [.int l'])
section
variable {G : Prog} {k ic im inx is : Nat} {st : Store} {Q : VK} {E : XK} {ns : List Int}
theorem at_strs {xs : List (List Nat)} {v : Int} (h0 : 0 ≤ v) (h1 : v < xs.length) : ∃ x ∈ xs, atI (xs.map D.str) v = some (.str x) := by
  obtain ⟨n, rfl⟩ : ∃ n : Nat, v = n := ⟨v.toNat, by walk_at "om"⟩
  have h : n < xs.length := by walk_at "om"
  refine ⟨xs[n], List.getElem_mem h, ?_⟩
  rw [atI_nat (by simpa using h)]
  simp only [List.getElem?_map]
  rw [List.getElem?_eq_getElem h]
  rfl
theorem ixN_0 {d : D} {r : List D} : ixN (d :: r).length 0 = some 0 := by
  unfold ixN
  rw [if_pos (by walk_at "om"), if_pos (by simp only [List.length_cons]; walk_at "om")]
  rfl
theorem newE {ds : List D} {Q : VK} (hl : ds.length ≤ LINE) (h : ∀ p st', Ext st st' → st p = none → st' p = some (.lst ds) → Q (.ref p) st') : newL ds st Q := ⟨hl, fun p hp => h p _ (Ext.new hp) hp put_same⟩
theorem saying_ok (hs : G.fns is = some (hSaying inx is)) (hn : G.fns inx = some (hNext im)) (hm : G.fns im = some (hMixed ic)) (hc : G.fns ic = some hCell) {names : List (List Nat)} (hnm : 0 < names.length) {a b : Nat} (hab : a ≠ b) :
    ∀ (n : Nat) {st : Store} {Q : VK} {E : XK} {i l : Int}, st a = some (.lst [.int i]) → st b = some (.lst [.int l]) → 0 ≤ i → 0 ≤ l →
      (∀ s st' i', over names s → dep s ≤ n + 1 → (cnt s : Int) ≤ l → Keep [a, b] st st' → 0 ≤ i' → st' a = some (.lst [.int i']) → st' b = some (.lst [.int (l - cnt s)]) → Q (toD s) st') →
      wpFn G (k + n + 4) is [.mlst (ns.map .int), .ref a, .tup (names.map .str), .int n, .ref b] st Q E := by
  intro n
  have lamp : ∀ {n : Nat} {st : Store} {Q : VK} {E : XK} {i l : Int} {K : Nat} {P : Post} {r : St}, st a = some (.lst [.int i]) → st b = some (.lst [.int l]) → 0 ≤ i → 0 ≤ l →
      (∀ s st' i', over names s → dep s ≤ n + 1 → (cnt s : Int) ≤ l → Keep [a, b] st st' → 0 ≤ i' → st' a = some (.lst [.int i']) → st' b = some (.lst [.int (l - cnt s)]) → P.rt (toD s) st') →
      wpSs (wpFn G (K + 3)) G.sub [.ret (.tup [(.c (.str (W "lamp"))), (.ix (.v 2) (.call inx [(.v 0), (.v 1), (.bi .len [(.v 2)])]))])] P (some (.mlst (ns.map .int)) :: some (.ref a) :: some (.tup (names.map .str)) :: r) st := by
    intro n st Q E i l K P r ha hb hi hl hQ
    walk_at "st"
    simp only [List.length_map]
    refine next_ok hn hm hc ha hi (by walk_at "om") fun st1 k1 a1 => ?_
    walk_at "ex"
    obtain ⟨x, hx, e⟩ := at_strs (xs := names) (mixV_lo (ns := ns) (k := i + 1) (many := names.length) (by walk_at "om")) (mixV_hi (by walk_at "om"))
    rw [e]
    walk_at "ex"
    have b1 : st1 b = some (.lst [.int l]) := k1 b _ (by simpa using hab.symm) hb
    exact hQ (.lamp x) st1 (i + 1) hx (by simp [dep]) (by simp [cnt]; walk_at "om") (k1.mono (by simp)) (by walk_at "om") a1 (by simpa [cnt] using b1)
  induction n with
  | zero =>
    intro st Q E i l ha hb hi hl hQ
    refine wpFn_i hs ?_
    simp only [hSaying, start]
    refine ⟨rfl, ?_⟩
    walk_at "st"
    refine next_ok hn hm hc ha hi (by walk_at "om") fun st1 k1 a1 => ?_
    walk_at "st"
    simp only [Int.natCast_zero, beq_self_eq_true, if_true]
    have b1 : st1 b = some (.lst [.int l]) := k1 b _ (by simpa using hab.symm) hb
    have kk : Keep [a, b] st st1 := k1.mono (by simp)
    exact lamp (n := 0) (Q := Q) (E := E) a1 b1 (by walk_at "om") hl fun s st' i' h1 h2 h3 h4 h5 h6 h7 => hQ s st' i' h1 h2 h3 (kk.trans h4) h5 h6 h7
  | succ n ih =>
    intro st Q E i l ha hb hi hl hQ
    refine wpFn_i hs ?_
    simp only [hSaying, start]
    refine ⟨rfl, ?_⟩
    walk_at "st"
    refine next_ok hn hm hc ha hi (by walk_at "om") fun st1 k1 a1 => ?_
    have v0 := mixV_lo (ns := ns) (k := i + 1) (many := 13) (by walk_at "om")
    have v1 := mixV_hi (ns := ns) (k := i + 1) (many := 13) (by walk_at "om")
    generalize mixV ns (i + 1) 13 = v at v0 v1
    have b1 : st1 b = some (.lst [.int l]) := k1 b _ (by simpa using hab.symm) hb
    have kk : Keep [a, b] st st1 := k1.mono (by simp)
    have hn0 : (((n + 1 : Nat) : Int) == 0) = false := by rw [beq_eq_false_iff_ne]; walk_at "om"
    have hn1 : ((n + 1 : Nat) : Int) - 1 = (n : Int) := by walk_at "om"
    walk_at "st"
    simp only [hn0, Bool.false_eq_true, if_false]
    by_cases h3 : v < 3
    · simp only [h3, decide_true, if_true]
      exact lamp (n := n + 1) (Q := Q) (E := E) a1 b1 (by walk_at "om") hl fun s st' i' h1 h2 h3 h4 h5 h6 h7 => hQ s st' i' h1 h2 h3 (kk.trans h4) h5 h6 h7
    simp only [h3, decide_false, Bool.false_eq_true, if_false, wpSs_nil]
    walk_at "st"
    by_cases e3 : v = 3
    · subst e3
      simp only [beq_self_eq_true, if_true]
      walk_at "st"
      refine newE (by decide) fun p st2 x2 hp hp2 => ?_
      walk_at "ex"
      have pa : p ≠ a := fun z => by rw [z, a1] at hp; cases hp
      have pb : p ≠ b := fun z => by rw [z, b1] at hp; cases hp
      refine next_ok hn hm hc (x2 a _ a1) (by walk_at "om") (by walk_at "om") fun st3 k3 a3 => ?_
      walk_at "ex"
      have w0 := mixV_lo (ns := ns) (k := i + 1 + 1) (many := 2) (by walk_at "om")
      have w1 := mixV_hi (ns := ns) (k := i + 1 + 1) (many := 2) (by walk_at "om")
      generalize mixV ns (i + 1 + 1) 2 = w at w0 w1
      rw [ix_lst (k3 p _ (by simpa using pa) hp2)]
      have b3 : st3 b = some (.lst [.int l]) := k3 b _ (by simpa using hab.symm) (x2 b _ b1)
      have kk3 : Keep [a, b] st st3 := (kk.trans x2.keep).trans (k3.mono (by simp))
      obtain rfl | rfl : w = 0 ∨ w = 1 := by walk_at "om"
      · walk_at "ex"
        exact hQ .yes st3 _ trivial (by simp [dep]) (by simp [cnt]; walk_at "om") kk3 (by walk_at "om") a3 (by simpa [cnt] using b3)
      · walk_at "ex"
        exact hQ .no st3 _ trivial (by simp [dep]) (by simp [cnt]; walk_at "om") kk3 (by walk_at "om") a3 (by simpa [cnt] using b3)
    have e3' : (v == 3) = false := by rw [beq_eq_false_iff_ne]; exact e3
    simp only [e3', Bool.false_eq_true, if_false, wpSs_nil]
    walk_at "st"
    have plain : ∀ {P : Post}, (∀ s st' i', over names s → dep s ≤ n + 1 + 1 → (cnt s : Int) ≤ l → Keep [a, b] st st' → 0 ≤ i' → st' a = some (.lst [.int i']) → st' b = some (.lst [.int (l - cnt s)]) → P.rt (toD s) st') →
        wpSs (wpFn G (k + n + 4)) G.sub [.asg (.nm 6) (.call is [(.v 0), (.v 1), (.v 2), (.bin .sub (.v 3) (.c (.int 1))), (.v 4)]), .iff (.or_ (.cmp .eq (.v 5) (.c (.int 4))) (.cmp .gt (.v 5) (.c (.int 8)))) [.ret (.tup [(.c (.str (W "not"))), (.v 6)])] [], .ret (.tup [(.ix (.lst [(.c (.str (W "and"))), (.c (.str (W "or"))), (.c (.str (W "then"))), (.c (.str (W "same")))]) (.bin .sub (.v 5) (.c (.int 5)))), (.v 6), (.call is [(.v 0), (.v 1), (.v 2), (.bin .sub (.v 3) (.c (.int 1))), (.v 4)])])] P [some (.mlst (ns.map .int)), some (.ref a), some (.tup (names.map .str)), some (.int ((n + 1 : Nat) : Int)), some (.ref b), some (.int v), none] st1 := by
      intro P hQ
      walk_at "st"
      rw [hn1]
      refine ih a1 b1 (by walk_at "om") hl fun s1 st2 i2 o1 d1 cc1 k2 hi2 a2 b2 => ?_
      walk_at "st"
      have hor : ((v == 4) || decide (8 < v)) = true ∨ (v = 5 ∨ v = 6 ∨ v = 7 ∨ v = 8) := by
        by_cases q : v = 4
        · left; simp [q]
        · by_cases q' : 8 < v
          · left; simp [q']
          · right; walk_at "om"
      rcases hor with hor | hor
      · have go : wpSs (wpFn G (k + n + 4)) G.sub [.ret (.tup [.c (.str (W "not")), .v 6])] { P with nx := wpSs (wpFn G (k + n + 4)) G.sub [.ret (.tup [(.ix (.lst [(.c (.str (W "and"))), (.c (.str (W "or"))), (.c (.str (W "then"))), (.c (.str (W "same")))]) (.bin .sub (.v 5) (.c (.int 5)))), (.v 6), (.call is [(.v 0), (.v 1), (.v 2), (.bin .sub (.v 3) (.c (.int 1))), (.v 4)])])] P } [some (.mlst (ns.map .int)), some (.ref a), some (.tup (names.map .str)), some (.int ((n + 1 : Nat) : Int)), some (.ref b), some (.int v), some (toD s1)] st2 := by
          walk_at "st"
          exact hQ (.one .not s1) st2 i2 o1 (by simp only [dep]; walk_at "om") (by simp [cnt, p1]; walk_at "om") (kk.trans k2) hi2 a2 (by simpa [cnt, p1] using b2)
        by_cases q : v = 4
        · simp only [q, beq_self_eq_true, if_true]
          rw [q] at go; exact go
        · have q1 : (v == 4) = false := by rw [beq_eq_false_iff_ne]; exact q
          have q2 : 8 < v := by simpa [q1] using hor
          simp only [q1, q2, Bool.false_eq_true, if_false, if_true]
          exact go
      · have q1 : (v == 4) = false := by rw [beq_eq_false_iff_ne]; walk_at "om"
        have q2 : ¬ 8 < v := by walk_at "om"
        simp only [q1, q2, Bool.false_eq_true, if_false, wpSs_nil]
        walk_at "st"
        refine newE (by decide) fun p st3 x3 hp hp3 => ?_
        walk_at "ex"
        rw [ix_lst hp3]
        have pa : p ≠ a := fun z => by rw [z, a2] at hp; cases hp
        have pb : p ≠ b := fun z => by rw [z, b2] at hp; cases hp
        have step : ∀ w : W2, p2 w = false → ∀ {Q : VK}, (∀ s st' i', over names s → dep s ≤ n + 1 + 1 → (cnt s : Int) ≤ l → Keep [a, b] st st' → 0 ≤ i' → st' a = some (.lst [.int i']) → st' b = some (.lst [.int (l - cnt s)]) → Q (toD s) st') →
            wpFn G (k + n + 4) is [.mlst (ns.map .int), .ref a, .tup (names.map .str), .int (((n + 1 : Nat) : Int) - 1), .ref b] st3 (fun d st' => Q (.tup [.str (c2 w), toD s1, d]) st') fun c st' => P.ex c [some (.mlst (ns.map .int)), some (.ref a), some (.tup (names.map .str)), some (.int ((n + 1 : Nat) : Int)), some (.ref b), some (.int v), some (toD s1)] st' := by
          intro w hw Q hQ
          rw [hn1]
          refine ih (x3 a _ a2) (x3 b _ b2) hi2 (by walk_at "om") fun s2 st4 i4 o2 d2 c2' k4 hi4 a4 b4 => ?_
          refine hQ (.two w s1 s2) st4 i4 ⟨o1, o2⟩ (by simp only [dep]; walk_at "om") (by simp only [cnt, hw]; simp; walk_at "om") ((kk.trans k2).trans (x3.keep.trans k4)) hi4 a4 ?_
          rw [b4]; simp only [cnt, hw]; simp; walk_at "om"
        rcases hor with rfl | rfl | rfl | rfl
        · walk_at "ex"; exact step .and rfl hQ
        · walk_at "ex"; exact step .or rfl hQ
        · walk_at "ex"; exact step .thn rfl hQ
        · walk_at "ex"; exact step .same rfl hQ
    by_cases h8 : 8 < v
    · simp only [h8, if_true]
      rw [ix_lst b1]
      walk_at "ex"
      by_cases hl0 : 0 < l
      · simp only [hl0, if_true]
        walk_at "st"
        rw [ix_lst b1]
        walk_at "ex"
        rw [lstAt_lst b1]
        simp only [ixN_0, optK_some, List.set_cons_zero]
        have a2 : (put st1 b (.lst [.int (l - 1)])) a = some (.lst [.int (i + 1)]) := by rw [put_ne hab]; exact a1
        have kp : Keep [a, b] st (put st1 b (.lst [.int (l - 1)])) := kk.trans (Keep.put (by simp))
        walk_at "st"
        rw [hn1]
        refine ih a2 put_same (by walk_at "om") (by walk_at "om") fun s1 st2 i2 o1 d1 cc1 k2 hi2 a3 b3 => ?_
        walk_at "st"
        by_cases e12 : v = 12
        · simp only [e12, beq_self_eq_true, if_true]
          walk_at "st"
          rw [hn1]
          refine ih a3 b3 hi2 (by walk_at "om") fun s2 st4 i4 o2 d2 c2' k4 hi4 a4 b4 => ?_
          refine hQ (.two .since s1 s2) st4 i4 ⟨o1, o2⟩ (by simp only [dep]; walk_at "om") (by simp [cnt, p2]; walk_at "om") ((kp.trans k2).trans k4) hi4 a4 ?_
          rw [b4]; simp [cnt, p2]; walk_at "om"
        · have e12' : (v == 12) = false := by rw [beq_eq_false_iff_ne]; exact e12
          simp only [e12', Bool.false_eq_true, if_false, wpSs_nil]
          walk_at "st"
          refine newE (by decide) fun p st3 x3 hp hp3 => ?_
          walk_at "ex"
          rw [ix_lst hp3]
          have fin : ∀ w : W1, p1 w = true → Q (.tup [.str (c1 w), toD s1]) st3 := fun w hw => by
            refine hQ (.one w s1) st3 i2 o1 (by simp only [dep]; walk_at "om") (by simp [cnt, hw]; walk_at "om") ((kp.trans k2).trans x3.keep) hi2 (x3 _ _ a3) ?_
            rw [x3 _ _ b3]; simp [cnt, hw]; walk_at "om"
          obtain rfl | rfl | rfl : v = 9 ∨ v = 10 ∨ v = 11 := by walk_at "om"
          · walk_at "ex"; exact fin .before rfl
          · walk_at "ex"; exact fin .once rfl
          · walk_at "ex"; exact fin .sofar rfl
      · simp only [hl0, if_false, wpSs_nil]
        exact plain hQ
    · simp only [h8, if_false, wpSs_nil]
      exact plain hQ
end
end L3
end
section
namespace L3
open PySem
noncomputable def some8 : List (List Nat) := [W "a", W "b", W "x", W "y", W "lamp", W "far", W "yesno", W "abcdefgh"]
noncomputable def okNames (fs gs : List (List Nat)) : Bool := decide (1 ≤ fs.length) && decide (fs.length ≤ 2) && decide (1 ≤ gs.length) && decide (gs.length ≤ 2) && decide ((fs ++ gs).Nodup) && (fs ++ gs).all fun n => some8.contains n
noncomputable def rowV (t : Int) : List (List Nat) := cut some8 (some t) none ++ cut some8 none (some t)
theorem names_chk : ∀ (t : Fin 8) (f g : Fin 2), okNames (cut (rowV (t.val : Nat)) none (some (1 + (f.val : Nat)))) (cut (rowV (t.val : Nat)) (some (1 + (f.val : Nat))) (some (1 + (f.val : Nat) + (1 + (g.val : Nat))))) = true := by decide +kernel
theorem names_ok1 {t f g : Int} (h0 : 0 ≤ t) (h1 : t < 8) (h2 : 0 ≤ f) (h3 : f < 2) (h4 : 0 ≤ g) (h5 : g < 2) : okNames (cut (rowV t) none (some (1 + f))) (cut (rowV t) (some (1 + f)) (some (1 + f + (1 + g)))) = true := by
  have := names_chk ⟨t.toNat, by walk_at "om"⟩ ⟨f.toNat, by walk_at "om"⟩ ⟨g.toNat, by walk_at "om"⟩
  simp only [Int.toNat_of_nonneg h0, Int.toNat_of_nonneg h2, Int.toNat_of_nonneg h4] at this
  exact this
theorem cut_map {α β : Type} (f : α → β) (xs : List α) (lo hi : Option Int) : cut (xs.map f) lo hi = (cut xs lo hi).map f := by
  simp only [cut, List.length_map, List.map_take, List.map_drop]
noncomputable def hNames (inx : Nat) : Fn := ⟨2, 7, [.asg (.nm 2) (.lst [(.c (.str (W "a"))), (.c (.str (W "b"))), (.c (.str (W "x"))), (.c (.str (W "y"))), (.c (.str (W "lamp"))), (.c (.str (W "far"))), (.c (.str (W "yesno"))), (.c (.str (W "abcdefgh")))]), .asg (.nm 3) (.call inx [(.v 0), (.v 1), (.c (.int 8))]), .asg (.nm 4) (.bin .add (.sl (.v 2) [(.v 3)] []) (.sl (.v 2) [] [(.v 3)])), .asg (.nm 5) (.bin .add (.c (.int 1)) (.call inx [(.v 0), (.v 1), (.c (.int 2))])), .asg (.nm 6) (.bin .add (.c (.int 1)) (.call inx [(.v 0), (.v 1), (.c (.int 2))])), .ret (.tup [(.bi .tuple [(.sl (.v 4) [] [(.v 5)])]), (.bi .tuple [(.sl (.v 4) [(.v 5)] [(.bin .add (.v 5) (.v 6))])])])]⟩
section
variable {G : Prog} {k ic im inx is : Nat} {st : Store} {Q : VK} {E : XK} {ns : List Int}
theorem names_ok {inm : Nat} (hm' : G.fns inm = some (hNames inx)) (hn : G.fns inx = some (hNext im)) (hm : G.fns im = some (hMixed ic)) (hc : G.fns ic = some hCell) {a : Nat} {i : Int} (ha : st a = some (.lst [.int i])) (hi : 0 ≤ i)
    (hQ : ∀ fs gs st' i', okNames fs gs = true → Keep [a] st st' → 0 ≤ i' → st' a = some (.lst [.int i']) → Q (.tup [.tup (fs.map .str), .tup (gs.map .str)]) st') :
    wpFn G (k + 4) inm [.mlst (ns.map .int), .ref a] st Q E := by
  have hL : LINE = 16777216 := rfl
  rw [wpFn_at hm']
  simp only [hNames, start]
  refine ⟨rfl, ?_⟩
  walk_at "st"
  refine newE (by decide) fun p st1 x1 hp hp1 => ?_
  have pa : p ≠ a := fun z => by rw [z, ha] at hp; cases hp
  walk_at "st"
  refine next_ok hn hm hc (x1 a _ ha) hi (by walk_at "om") fun st2 k2 a2 => ?_
  have t0 := mixV_lo (ns := ns) (k := i + 1) (many := 8) (by walk_at "om")
  have t1 := mixV_hi (ns := ns) (k := i + 1) (many := 8) (by walk_at "om")
  generalize mixV ns (i + 1) 8 = t at t0 t1
  have p2 := k2 p _ (by simpa using pa) hp1
  walk_at "st"
  rw [lstAt_lst p2]
  intro q hq
  have x3 : Ext st2 (put st2 q (.lst (cut [.str (W "a"), .str (W "b"), .str (W "x"), .str (W "y"), .str (W "lamp"), .str (W "far"), .str (W "yesno"), .str (W "abcdefgh")] (some t) none))) := Ext.new hq
  walk_at "ex"
  rw [lstAt_lst (x3 p _ p2)]
  intro q' hq'
  have x4 := Ext.new (o := .lst (cut [.str (W "a"), .str (W "b"), .str (W "x"), .str (W "y"), .str (W "lamp"), .str (W "far"), .str (W "yesno"), .str (W "abcdefgh")] none (some t))) hq'
  walk_at "ex"
  rw [lstAt_lst (x4 q _ put_same), lstAt_lst put_same]
  have eL : ([.str (W "a"), .str (W "b"), .str (W "x"), .str (W "y"), .str (W "lamp"), .str (W "far"), .str (W "yesno"), .str (W "abcdefgh")] : List D) = some8.map .str := rfl
  have er : cut ([.str (W "a"), .str (W "b"), .str (W "x"), .str (W "y"), .str (W "lamp"), .str (W "far"), .str (W "yesno"), .str (W "abcdefgh")] : List D) (some t) none ++ cut [.str (W "a"), .str (W "b"), .str (W "x"), .str (W "y"), .str (W "lamp"), .str (W "far"), .str (W "yesno"), .str (W "abcdefgh")] none (some t) = (rowV t).map .str := by
    rw [eL, cut_map, cut_map, ← List.map_append]; rfl
  have lr : (rowV t).length ≤ 16 := by
    have l1 := cut_len (xs := some8) (lo := some t) (hi := none)
    have l2 := cut_len (xs := some8) (lo := none) (hi := some t)
    have l3 : some8.length = 8 := rfl
    simp only [rowV, List.length_append]; walk_at "om"
  rw [er]
  refine newE (by simp only [List.length_map]; walk_at "om") fun r st5 x5 hr hr5 => ?_
  have k5 : Keep [a] st st5 := ((x1.keep.trans k2).trans x3.keep).trans (x4.keep.trans x5.keep)
  have a5 : st5 a = some (.lst [.int (i + 1)]) := x5 _ _ (x4 _ _ (x3 _ _ a2))
  have ra : r ≠ a := fun z => by rw [z, x4 _ _ (x3 _ _ a2)] at hr; cases hr
  walk_at "st"
  refine next_ok hn hm hc a5 (by walk_at "om") (by walk_at "om") fun st6 k6 a6 => ?_
  have f0 := mixV_lo (ns := ns) (k := i + 1 + 1) (many := 2) (by walk_at "om")
  have f1 := mixV_hi (ns := ns) (k := i + 1 + 1) (many := 2) (by walk_at "om")
  generalize mixV ns (i + 1 + 1) 2 = f at f0 f1
  walk_at "ex"
  walk_at "st"
  refine next_ok hn hm hc a6 (by walk_at "om") (by walk_at "om") fun st7 k7 a7 => ?_
  have g0 := mixV_lo (ns := ns) (k := i + 1 + 1 + 1) (many := 2) (by walk_at "om")
  have g1 := mixV_hi (ns := ns) (k := i + 1 + 1 + 1) (many := 2) (by walk_at "om")
  generalize mixV ns (i + 1 + 1 + 1) 2 = g at g0 g1
  have r7 : st7 r = some (.lst ((rowV t).map .str)) := k7 r _ (by simpa using ra) (k6 r _ (by simpa using ra) hr5)
  walk_at "ex"
  walk_at "st"
  rw [lstAt_lst r7]
  intro u hu
  walk_at "ex"
  rw [lstAt_lst put_same]
  have xu := Ext.new (o := .lst (cut ((rowV t).map D.str) none (some (1 + f)))) hu
  have c1 := cut_len (xs := (rowV t).map D.str) (lo := none) (hi := some (1 + f))
  have c2 := cut_len (xs := (rowV t).map D.str) (lo := some (1 + f)) (hi := some (1 + f + (1 + g)))
  simp only [List.length_map] at c1 c2
  refine ⟨by walk_at "om", ?_⟩
  rw [lstAt_lst (xu r _ r7)]
  intro u' hu'
  walk_at "ex"
  rw [lstAt_lst put_same]
  refine ⟨by walk_at "om", ?_⟩
  have xu' := Ext.new (o := .lst (cut ((rowV t).map D.str) (some (1 + f)) (some (1 + f + (1 + g))))) hu'
  rw [cut_map, cut_map] at *
  exact hQ _ _ _ (i + 1 + 1 + 1) (names_ok1 t0 t1 f0 f1 g0 g1) ((k5.trans (k6.trans k7)).trans (xu.keep.trans xu'.keep)) (by walk_at "om") (xu' _ _ (xu _ _ a7))
end
end L3
end
section
namespace L3
open PySem
mutual
theorem eqD_rfl : ∀ d : D, pureD d = true → eqD d d = true
  | .non, _ => rfl
  | .bl b, _ => beq_self_eq_true b
  | .int i, _ => beq_self_eq_true i
  | .str x, _ => beq_self_eq_true x
  | .tup ds, h => eqDs_rfl ds h
  | .ref _, h => by simp [pureD] at h
  | .mdic _ _, h => by simp [pureD] at h
  | .mlst _, h => by simp [pureD] at h
theorem eqDs_rfl : ∀ ds : List D, pureDs ds = true → eqDs ds ds = true
  | [], _ => rfl
  | d :: ds, h => by
    simp only [pureDs, Bool.and_eq_true] at h
    simp only [eqDs, eqD_rfl d h.1, eqDs_rfl ds h.2, Bool.and_self]
end
mutual
theorem eqS_rfl {st : Store} : ∀ d : D, pureD d = true → eqS st d d = true
  | .non, _ => rfl
  | .bl b, _ => beq_self_eq_true b
  | .int i, _ => beq_self_eq_true i
  | .str x, _ => beq_self_eq_true x
  | .tup ds, h => eqSs_rfl ds h
  | .ref _, h => by simp [pureD] at h
  | .mdic _ _, h => by simp [pureD] at h
  | .mlst _, h => by simp [pureD] at h
theorem eqSs_rfl {st : Store} : ∀ ds : List D, pureDs ds = true → eqSs st ds ds = true
  | [], _ => rfl
  | d :: ds, h => by
    simp only [pureDs, Bool.and_eq_true] at h
    simp only [eqSs, eqS_rfl d h.1, eqSs_rfl ds h.2, Bool.and_self]
end
theorem c1_inj (w w' : W1) : (c1 w == c1 w') = decide (w = w') := by cases w <;> cases w' <;> decide +kernel
theorem c2_inj (w w' : W2) : (c2 w == c2 w') = decide (w = w') := by cases w <;> cases w' <;> decide +kernel
theorem lamp_c1 (w : W1) : (W "lamp" == c1 w) = false ∧ (c1 w == W "lamp") = false := by cases w <;> decide +kernel
theorem eqS_tup {st : Store} {as bs : List D} : eqS st (.tup as) (.tup bs) = eqSs st as bs := id rfl
theorem eqSs_cons {st : Store} {a b : D} {as bs : List D} : eqSs st (a :: as) (b :: bs) = (eqS st a b && eqSs st as bs) := id rfl
theorem eqSs_nil {st : Store} : eqSs st [] [] = true := rfl
theorem eqSs_nc {st : Store} {b : D} {bs : List D} : eqSs st [] (b :: bs) = false := rfl
theorem eqSs_cn {st : Store} {b : D} {bs : List D} : eqSs st (b :: bs) [] = false := rfl
theorem yes_no : (W "yes" == W "no") = false ∧ (W "no" == W "yes") = false := by decide +kernel
theorem eqS_toD {st : Store} : ∀ s t : Sy, eqS st (toD s) (toD t) = decide (s = t)
  | .yes, .yes => by simp only [toD, eqS_tup, eqSs_cons, eqS_str, eqSs_nil, beq_self_eq_true, Bool.and_self, decide_true]
  | .yes, .no => by simp only [toD, eqS_tup, eqSs_cons, eqS_str, yes_no.1, Bool.false_and]; rfl
  | .yes, .lamp _ => by simp only [toD, eqS_tup, eqSs_cons, eqSs_nc, Bool.and_false]; rfl
  | .yes, .one _ _ => by simp only [toD, eqS_tup, eqSs_cons, eqSs_nc, Bool.and_false]; rfl
  | .yes, .two _ _ _ => by simp only [toD, eqS_tup, eqSs_cons, eqSs_nc, Bool.and_false]; rfl
  | .no, .yes => by simp only [toD, eqS_tup, eqSs_cons, eqS_str, yes_no.2, Bool.false_and]; rfl
  | .no, .no => by simp only [toD, eqS_tup, eqSs_cons, eqS_str, eqSs_nil, beq_self_eq_true, Bool.and_self, decide_true]
  | .no, .lamp _ => by simp only [toD, eqS_tup, eqSs_cons, eqSs_nc, Bool.and_false]; rfl
  | .no, .one _ _ => by simp only [toD, eqS_tup, eqSs_cons, eqSs_nc, Bool.and_false]; rfl
  | .no, .two _ _ _ => by simp only [toD, eqS_tup, eqSs_cons, eqSs_nc, Bool.and_false]; rfl
  | .lamp _, .yes => by simp only [toD, eqS_tup, eqSs_cons, eqSs_cn, Bool.and_false]; rfl
  | .lamp _, .no => by simp only [toD, eqS_tup, eqSs_cons, eqSs_cn, Bool.and_false]; rfl
  | .lamp m, .lamp n => by
    simp only [toD, eqS_tup, eqSs_cons, eqSs_nil, eqS_str, beq_self_eq_true, Bool.and_true, Bool.true_and, Sy.lamp.injEq]
    rw [Bool.beq_eq_decide_eq]
  | .lamp m, .one w s => by simp only [toD, eqS_tup, eqSs_cons, eqS_str, (lamp_c1 w).1, Bool.false_and]; rfl
  | .lamp _, .two _ _ _ => by simp only [toD, eqS_tup, eqSs_cons, eqSs_nc, Bool.and_false]; rfl
  | .one _ _, .yes => by simp only [toD, eqS_tup, eqSs_cons, eqSs_cn, Bool.and_false]; rfl
  | .one _ _, .no => by simp only [toD, eqS_tup, eqSs_cons, eqSs_cn, Bool.and_false]; rfl
  | .one w s, .lamp m => by simp only [toD, eqS_tup, eqSs_cons, eqS_str, (lamp_c1 w).2, Bool.false_and]; rfl
  | .one w s, .one w' s' => by
    simp only [toD, eqS_tup, eqSs_cons, eqSs_nil, eqS_str, c1_inj, eqS_toD s s', Bool.and_true, Sy.one.injEq]
    by_cases h : w = w' <;> by_cases h' : s = s' <;> simp [h, h']
  | .one _ _, .two _ _ _ => by simp only [toD, eqS_tup, eqSs_cons, eqSs_nc, Bool.and_false]; rfl
  | .two _ _ _, .yes => by simp only [toD, eqS_tup, eqSs_cons, eqSs_cn, Bool.and_false]; rfl
  | .two _ _ _, .no => by simp only [toD, eqS_tup, eqSs_cons, eqSs_cn, Bool.and_false]; rfl
  | .two _ _ _, .lamp _ => by simp only [toD, eqS_tup, eqSs_cons, eqSs_cn, Bool.and_false]; rfl
  | .two _ _ _, .one _ _ => by simp only [toD, eqS_tup, eqSs_cons, eqSs_cn, Bool.and_false]; rfl
  | .two w s t, .two w' s' t' => by
    simp only [toD, eqS_tup, eqSs_cons, eqSs_nil, eqS_str, c2_inj, eqS_toD s s', eqS_toD t t', Bool.and_true, Sy.two.injEq]
    by_cases h : w = w' <;> by_cases h' : s = s' <;> by_cases h'' : t = t' <;> simp [h, h', h'']
theorem any_toD {st : Store} (x : Sy) (f : List Sy) : ((f.map toD).any fun d => eqS st d (toD x)) = f.contains x := by
  induction f with
  | nil => rfl
  | cons y r ih =>
    simp only [List.map_cons, List.any_cons, ih, eqS_toD, List.contains_cons]
    congr 1
    by_cases h : y = x
    · simp [h]
    · simp [h, Ne.symm h]
theorem pures_toD (f : List Sy) : pureDs (f.map toD) = true := by
  induction f with
  | nil => rfl
  | cons x r ih => simp only [List.map_cons, pureDs, toD_pure, ih, Bool.and_self]
theorem deps_toD {n : Nat} (f : List Sy) (h : ∀ s ∈ f, dep s ≤ n) : depDs (f.map toD) ≤ n := by
  induction f with
  | nil => exact Nat.zero_le _
  | cons x r ih =>
    simp only [List.map_cons, depDs, toD_dep]
    have := h x (by simp)
    have := ih fun s hs => h s (by simp [hs])
    walk_at "om"
theorem plain_toD {st : Store} {s : Sy} (h : dep s ≤ 60) : plainS st (toD s) := ⟨pureS_of _ (toD_pure s), Nat.le_trans (by rw [toD_dep]; exact h) (by decide)⟩
theorem plains_toD {st : Store} {f : List Sy} (h : ∀ s ∈ f, dep s ≤ 60) : plainSs st (f.map toD) := ⟨pureSs_of _ (pures_toD f), Nat.le_trans (deps_toD f h) (by decide)⟩
noncomputable def wd : Sy → List Nat
  | .yes => W "yes"
  | .no => W "no"
  | .lamp _ => W "lamp"
  | .one w _ => c1 w
  | .two w _ _ => c2 w
noncomputable def subs : Sy → List Sy
  | .one _ s => [s]
  | .two _ s t => [s, t]
  | _ => []
noncomputable def isPast : Sy → Bool
  | .one w _ => p1 w
  | .two w _ _ => p2 w
  | _ => false
noncomputable def isLamp : Sy → Bool
  | .lamp _ => true
  | _ => false
theorem toD_wd (s : Sy) : ∃ r, toD s = .tup (.str (wd s) :: r) := by cases s <;> exact ⟨_, rfl⟩
theorem toD_subs {s : Sy} (h : isLamp s = false) : toD s = .tup (.str (wd s) :: (subs s).map toD) := by cases s <;> first | rfl | cases h
noncomputable def pastW : List (List Nat) := [W "before", W "once", W "sofar", W "since"]
theorem past_wd (s : Sy) : pastW.contains (wd s) = isPast s := by
  cases s with
  | one w s => cases w <;> (simp only [wd, isPast]; decide +kernel)
  | two w s t => cases w <;> (simp only [wd, isPast]; decide +kernel)
  | _ => (simp only [wd, isPast]; decide +kernel)
theorem lamp_wd (s : Sy) : (wd s == W "lamp") = isLamp s := by
  cases s with
  | one w s => cases w <;> (simp only [wd, isLamp]; decide +kernel)
  | two w s t => cases w <;> (simp only [wd, isLamp]; decide +kernel)
  | _ => (simp only [wd, isLamp]; decide +kernel)
noncomputable def addP (f : List Sy) (s : Sy) : List Sy := if isPast s && !f.contains s then f ++ [s] else f
noncomputable def pcs : Sy → List Sy → List Sy
  | .one w s, f => pcs s (addP f (.one w s))
  | .two w s t, f => pcs t (pcs s (addP f (.two w s t)))
  | _, f => f
noncomputable def pcsL : List Sy → List Sy → List Sy
  | [], f => f
  | s :: r, f => pcsL r (pcs s f)
theorem pcs_eq (s : Sy) (f : List Sy) : pcs s f = pcsL (subs s) (addP f s) := by
  cases s <;> simp [pcs, subs, pcsL, addP, isPast]
theorem pcsL_append (a b : List Sy) (f : List Sy) : pcsL (a ++ b) f = pcsL b (pcsL a f) := by
  induction a generalizing f with
  | nil => rfl
  | cons x r ih => simp only [List.cons_append, pcsL, ih]
theorem pcsL_cons (s : Sy) (r f : List Sy) : pcsL (s :: r) f = pcsL (subs s ++ r) (addP f s) := by rw [pcsL_append, ← pcs_eq]; rfl
noncomputable def sz : Sy → Nat
  | .one _ s => sz s + 1
  | .two _ s t => sz s + sz t + 1
  | _ => 1
noncomputable def szL (l : List Sy) : Nat := (l.map sz).sum
theorem sz_le : ∀ s : Sy, sz s + 1 ≤ 2 ^ dep s
  | .yes => by decide
  | .no => by decide
  | .lamp _ => by simp only [sz, dep]; decide
  | .one w s => by have := sz_le s; simp only [sz, dep, Nat.pow_succ]; walk_at "om"
  | .two w s t => by
    have h1 := sz_le s
    have h2 := sz_le t
    have a := Nat.pow_le_pow_right (n := 2) (by walk_at "om") (Nat.le_max_left (dep s) (dep t))
    have b := Nat.pow_le_pow_right (n := 2) (by walk_at "om") (Nat.le_max_right (dep s) (dep t))
    simp only [sz, dep, Nat.pow_succ]; walk_at "om"
theorem sz_subs (s : Sy) : szL (subs s) + 1 = sz s := by cases s <;> simp [subs, szL, sz]
theorem dep_subs {s t : Sy} (h : t ∈ subs s) : dep t < dep s := by cases s <;> simp [subs] at h <;> simp only [dep] <;> (try rcases h with rfl | rfl) <;> (try subst h) <;> walk_at "om"
theorem addP_dep {f : List Sy} {s : Sy} {n : Nat} (h : ∀ x ∈ f, dep x ≤ n) (hs : dep s ≤ n) : ∀ x ∈ addP f s, dep x ≤ n := by
  unfold addP
  split
  · intro x hx
    rcases List.mem_append.mp hx with hx | hx
    · exact h x hx
    · simp at hx; subst hx; exact hs
  · exact h
theorem addP_len (f : List Sy) (s : Sy) : (addP f s).length ≤ f.length + 1 := by unfold addP; split <;> simp
theorem pcs_dep : ∀ (s : Sy) {f : List Sy} {n : Nat}, (∀ x ∈ f, dep x ≤ n) → dep s ≤ n → ∀ x ∈ pcs s f, dep x ≤ n
  | .yes, _, _, h, _ => h
  | .no, _, _, h, _ => h
  | .lamp _, _, _, h, _ => h
  | .one w s, f, n, h, hs => pcs_dep s (addP_dep h hs) (by simp only [dep] at hs; walk_at "om")
  | .two w s t, f, n, h, hs => pcs_dep t (pcs_dep s (addP_dep h hs) (by simp only [dep] at hs; walk_at "om")) (by simp only [dep] at hs; walk_at "om")
end L3
end
section
namespace L3
open PySem
noncomputable def hWithin : Fn := ⟨1, 1, [.iff (.cmp .eq (.ix (.v 0) (.c (.int 0))) (.c (.str (W "lamp")))) [.ret (.tup [])] [], .ret (.sl (.v 0) [(.c (.int 1))] [])]⟩
noncomputable def pastD : D := .tup (pastW.map .str)
noncomputable def hPiecesIn (iw : Nat) : Fn := ⟨1, 4, [.asg (.nm 1) (.lst []), .asg (.nm 2) (.bit .list .rev [(.v 0)]), .whl (.v 2) [.asg (.nm 3) (.meth .pop (.v 2) []), .iff (.and_ (.cmp .in_ (.ix (.v 3) (.c (.int 0))) (.c pastD)) (.cmp .notin (.v 3) (.v 1))) [.ex (.meth .append (.v 1) [(.v 3)])] [], .ex (.meth .extend (.v 2) [(.bit .list .rev [(.call iw [(.v 3)])])])], .ret (.v 1)]⟩
section
variable {G : Prog} {k ip iw : Nat} {st : Store} {Q : VK} {E : XK}
theorem within_ok (hw : G.fns iw = some hWithin) {s : Sy} (hQ : Q (.tup ((subs s).map toD)) st) : wpFn G (k + 1) iw [toD s] st Q E := by
  refine wpFn_i hw ?_
  simp only [hWithin, start]
  refine ⟨rfl, ?_⟩
  obtain ⟨r, er⟩ := toD_wd s
  walk_at "st"
  rw [er]
  walk_at "ex"
  rw [lamp_wd, ← er]
  cases h : isLamp s with
  | true =>
    simp only [if_true]
    walk_at "st"
    cases s <;> first | exact hQ | cases h
  | false =>
    simp only [Bool.false_eq_true, if_false, wpSs_nil]
    walk_at "st"
    rw [toD_subs h]
    walk_at "ex"
    exact hQ
end
end L3
end
section
namespace L3
open PySem
theorem while_rule {C : CallT} {sub : Nat → Nat → Bool} (hC : CMono C C) {c : Ex} {b : List Sx} {P : Post} (I : Nat → St → Store → Prop)
    (step : ∀ m σ st, I m σ st → wpE C sub (fun c st' => P.ex c σ st') c σ st fun d st' => truW d st' fun k =>
      if k = true then wpSs C sub b { P with nx := fun σ st => ∃ m', m' < m ∧ I m' σ st, ct := fun σ st => ∃ m', m' < m ∧ I m' σ st, bk := P.nx } σ st' else P.nx σ st') {m : Nat} {σ : St} {st : Store} (h : I m σ st) : wpS C sub (.whl c b) P σ st := by
  refine ⟨m + 1, ?_⟩
  have key : ∀ (n m : Nat) (σ : St) (st : Store), m < n → I m σ st → whileN (fun next σ st => wpE C sub (fun c st' => P.ex c σ st') c σ st fun d st' => truW d st' fun k =>
      if k = true then wpSs C sub b { P with nx := next, ct := next, bk := P.nx } σ st' else P.nx σ st') n σ st := by
    intro n
    induction n with
    | zero => intro m σ st h; walk_at "om"
    | succ n ih =>
      intro m σ st hm hI
      refine wpE_mono hC (fun o' o' z => z) c (fun d st' => truW_mono fun k => ?_) (step m σ st hI)
      split
      · exact wpSs_mono hC b ⟨fun σ st ⟨m', h1, h2⟩ => ih m' σ st (by walk_at "om") h2, fun o' o' z => z, fun o' o' z => z, fun σ st ⟨m', h1, h2⟩ => ih m' σ st (by walk_at "om") h2, fun o' o' o' z => z⟩
      · exact id
  exact key (m + 1) m σ st (by walk_at "om") h
section
variable {G : Prog} {k ip iw iz : Nat} {st : Store} {Q : VK} {E : XK}
theorem szL_cons (s : Sy) (r : List Sy) : szL (s :: r) = sz s + szL r := by simp [szL]
theorem szL_append (a b : List Sy) : szL (a ++ b) = szL a + szL b := by simp [szL]
theorem sz_pos (s : Sy) : 0 < sz s := by cases s <;> simp [sz]
theorem len_szL (r : List Sy) : r.length ≤ szL r := by
  induction r with
  | nil => simp
  | cons s r ih => have := sz_pos s; simp only [szL_cons, List.length_cons]; walk_at "om"
theorem pieces_in_ok (hz : G.fns iz = some (hPiecesIn iw)) (hw : G.fns iw = some hWithin) {l : Nat} {ss : List Sy} (hl : st l = some (.lst (ss.map toD))) (hd : ∀ x ∈ ss, dep x ≤ 60) (hs : szL ss < LINE)
    (hQ : ∀ p st', Ext st st' → st' p = some (.lst ((pcsL ss []).map toD)) → Q (.ref p) st') : wpFn G (k + 2) iz [.ref l] st Q E := by
  refine wpFn_i hz ?_
  simp only [hPiecesIn, start]
  refine ⟨rfl, ?_⟩
  walk_at "st"
  refine newE (by decide) fun p st1 x1 hp hp1 => ?_
  walk_at "st"
  rw [lstAt_lst (x1 l _ hl)]
  refine newE (by have := len_szL ss; simp only [List.length_reverse, List.length_map]; walk_at "om") fun q st2 x2 hq hq2 => ?_
  have hpq : p ≠ q := fun z => by rw [z] at hp1; rw [hq] at hp1; cases hp1
  have p2 := x2 p _ hp1
  try dsimp only
  refine wpSs_c ?_
  refine while_rule (wpFn_mono G (Nat.le_refl _)) (fun m σ st' => ∃ (stack f : List Sy) (o : Option D), σ = [some (.ref l), some (.ref p), some (.ref q), o] ∧ st' p = some (.lst (f.map toD)) ∧ st' q = some (.lst (stack.map toD).reverse) ∧ szL stack = m ∧
    (∀ x ∈ stack, dep x ≤ 60) ∧ (∀ x ∈ f, dep x ≤ 60) ∧ f.length + szL stack < LINE ∧ pcsL stack f = pcsL ss [] ∧ Ext st st') ?_ (m := szL ss) ⟨ss, [], none, rfl, p2, hq2, rfl, hd, by simp, by simpa using hs, rfl, fun a o e => x2 a o (x1 a o e)⟩
  rintro m σ st3 ⟨stack, f, o, rfl, hp3, hq3, hm, hds, hdf, hlen, hpc, x3⟩
  walk_at "ex"
  rw [tru_ref, seqAt_lst hq3]
  cases stack with
  | nil =>
    simp only [List.map_nil, List.reverse_nil, List.isEmpty_nil, Bool.not_true, Bool.false_eq_true, if_false]
    walk_at "st"
    refine hQ p st3 x3 ?_
    rw [← hpc]; exact hp3
  | cons s r =>
    have hne : (!((List.map toD (s :: r)).reverse).isEmpty) = true := by simp
    rw [hne]
    simp only [if_true]
    have hds' := hds s (by simp)
    rw [szL_cons] at hm hlen
    have hsp := sz_pos s
    have hss := sz_subs s
    walk_at "st"
    rw [lstAt_lst hq3]
    refine ⟨trivial, ?_⟩
    rw [lstAt_lst hq3]
    have elast : ((List.map toD (s :: r)).reverse)[((List.map toD (s :: r)).reverse).length - 1]? = some (toD s) := by
      simp only [List.map_cons, List.reverse_cons, List.length_append, List.length_cons, List.length_nil]
      rw [List.getElem?_append_right (by simp)]
      simp
    have edrop : ((List.map toD (s :: r)).reverse).dropLast = (r.map toD).reverse := by simp
    rw [elast, edrop, optK_some]
    try dsimp only
    have hp4 : (put st3 q (.lst (r.map toD).reverse)) p = some (.lst (f.map toD)) := by rw [put_ne hpq]; exact hp3
    have hx4 : Ext st (put st3 q (.lst (r.map toD).reverse)) := fun a u e => by
      by_cases ha : a = q
      · exfalso
        rw [ha] at e
        rw [x1 q _ e] at hq; cases hq
      · rw [put_ne ha]; exact x3 a u e
    have head : ∀ {P : Post} {st4 : Store} {rest : List Sx}, st4 p = some (.lst (f.map toD)) →
        (∀ st', Keep [p] st4 st' → st' p = some (.lst ((addP f s).map toD)) → wpSs (wpFn G (k + 1)) G.sub rest P [some (.ref l), some (.ref p), some (.ref q), some (toD s)] st') →
        wpSs (wpFn G (k + 1)) G.sub ((.iff (.and_ (.cmp .in_ (.ix (.v 3) (.c (.int 0))) (.c pastD)) (.cmp .notin (.v 3) (.v 1))) [.ex (.meth .append (.v 1) [(.v 3)])] []) :: rest) P [some (.ref l), some (.ref p), some (.ref q), some (toD s)] st4 := by
      intro P st4 rest hb hN
      obtain ⟨rr, er⟩ := toD_wd s
      walk_at "st"
      rw [er]
      simp only [pastD]
      walk_at "ex"
      rw [← er]
      refine ⟨(plains_strs pastW).s, ?_⟩
      have e1 : (List.any (pastW.map .str) fun d => eqS st4 d (.str (wd s))) = isPast s := (any_strs (wd s) pastW).trans (past_wd s)
      rw [e1]
      cases hpp : isPast s with
      | false =>
        simp only [Bool.false_eq_true, if_false, wpSs_nil]
        refine hN st4 .refl ?_
        simp only [addP, hpp, Bool.false_and, Bool.false_eq_true, if_false]
        exact hb
      | true =>
        simp only [if_true]
        rw [cmp_nin_ref, seqAt_lst hb, any_toD]
        refine ⟨plain_toD hds', plains_toD hdf, ?_⟩
        cases hc : f.contains s with
        | true =>
          simp only [Bool.not_true, Bool.false_eq_true, if_false, wpSs_nil]
          refine hN st4 .refl ?_
          simp only [addP, hpp, hc, Bool.not_true, Bool.and_false, Bool.false_eq_true, if_false]
          exact hb
        | false =>
          simp only [Bool.not_false, if_true]
          walk_at "st"
          rw [lstAt_lst hb]
          refine ⟨trivial, ?_⟩
          rw [lstAt_lst hb]
          refine ⟨by simp only [List.length_map]; walk_at "om", ?_⟩
          rw [wpSs_nil]
          refine hN _ (Keep.put (by simp)) ?_
          rw [put_same]
          simp only [addP, hpp, hc, Bool.not_false, Bool.and_self, if_true, List.map_append, List.map_cons, List.map_nil]
    refine head hp4 fun st5 k5 hp5 => ?_
    have hq5 : st5 q = some (.lst (r.map toD).reverse) := k5 q _ (by simpa using Ne.symm hpq) put_same
    have hx5 : Ext st st5 := fun a u e => by
      by_cases ha : a = p
      · exfalso
        rw [ha] at e; rw [hp] at e; cases e
      · exact k5 a u (by simpa using ha) (hx4 a u e)
    walk_at "st"
    rw [lstAt_lst hq5]
    refine ⟨trivial, within_ok hw ?_⟩
    walk_at "ex"
    have hsl := len_szL (subs s)
    have hrl := len_szL r
    refine newE (by simp only [List.length_reverse, List.length_map]; walk_at "om") fun u st6 x6 hu hu6 => ?_
    walk_at "ex"
    rw [lstAt_lst (x6 q _ hq5), lstAt_lst hu6]
    refine ⟨by simp only [List.length_reverse, List.length_map]; walk_at "om", ?_⟩
    rw [wpSs_nil]
    dsimp only
    refine ⟨szL (subs s ++ r), by rw [szL_append]; walk_at "om", subs s ++ r, addP f s, _, rfl, ?_, ?_, rfl, fun x hx => ?_, addP_dep hdf hds', ?_, ?_, fun a v e => ?_⟩
    · rw [put_ne hpq]; exact x6 p _ hp5
    · rw [put_same]; simp
    · rcases List.mem_append.mp hx with hx | hx
      · have := dep_subs hx; walk_at "om"
      · exact hds x (by simp [hx])
    · have := addP_len f s; rw [szL_append]; walk_at "om"
    · rw [← pcsL_cons]; exact hpc
    · by_cases ha : a = q
      · exfalso
        rw [ha] at e
        rw [x1 q _ e] at hq; cases hq
      · rw [put_ne ha]; exact x6 a v (hx5 a v e)
end
end L3
end
section
namespace L3
open PySem
noncomputable def noNames : List (List Nat) := [W "yes", W "no", W "not", W "and", W "or", W "then", W "same", W "before", W "once", W "sofar", W "since", W "foe", W "friend", W "promise", W "must", W "wish"]
noncomputable def lettersW : List Nat := W "abcdefghijklmnopqrstuvwxyz"
noncomputable def hIsName (nn lt lg : D) : Fn := ⟨1, 1, [.iff (.or_ (.not_ (.isi (.v 0) [.str])) (.cmp .in_ (.v 0) (.c nn))) [.ret (.c (.bl false))] [], .ret (.and_ (.chain .le .le (.c (.int 1)) (.bi .len [(.v 0)]) (.c lg)) (.bi .all [(.comp 1 [] [0] true none [(.v 0)] [] (.cmp .in_ (.v 0) (.c lt)))]))]⟩
noncomputable def nameB (w : List Nat) : Bool := !(noNames.any (· == w)) && decide (1 ≤ w.length) && decide (w.length ≤ 8) && w.all fun c => occurs [c] lettersW
section
variable {G : Prog} {k i : Nat} {st : Store} {Q : VK} {E : XK}
theorem noD_any (st : Store) (w : List Nat) : ((noNames.map D.str).any fun d => eqS st d (.str w)) = noNames.any (· == w) := by
  rw [List.any_map]; rfl
theorem noD_plain (st : Store) : plainSs st (noNames.map D.str) := ⟨rfl, by decide⟩
noncomputable def letB : D → Bool
  | .str x => occurs x lettersW
  | _ => false
theorem bools_let : ∀ (w : List Nat), boolsOf ((w.map fun c => D.str [c]).map fun d => .bl (letB d)) = some (w.map fun c => occurs [c] lettersW)
  | [] => rfl
  | c :: r => by
    show (boolsOf ((r.map fun c => D.str [c]).map fun d => .bl (letB d))).map (_ :: ·) = _
    rw [bools_let r]; rfl
set_option tactic.hygienic true in
theorem is_name_ok (h : G.fns i = some (hIsName (.tup (noNames.map .str)) (.str lettersW) (.int 8))) {w : List Nat} (hw : w.length ≤ LINE) (hQ : ∀ st', Ext st st' → Q (.bl (nameB w)) st') : wpFn G (k + 1) i [.str w] st Q E := by
  have hL : LINE = 16777216 := rfl
  refine wpFn_i h ?_
  simp only [hIsName, start]
  refine ⟨rfl, ?_⟩
  walk_at "st"
  refine ⟨noD_plain st, ?_⟩
  rw [noD_any]
  cases c1 : noNames.any (· == w) with
  | true =>
    simp only [if_true]
    walk_at "st"
    have e : nameB w = false := by simp [nameB, c1]
    rw [← e]; exact hQ _ (fun o' o' z => z)
  | false =>
    simp only [Bool.false_eq_true, if_false]
    rw [wpSs_nil]
    walk_at "st"
    refine ⟨hw, ?_⟩
    split
    · rename_i g1
      split
      · rename_i g2
        refine ⟨hw, ?_⟩
        refine comp_map (fun d => .bl (letB d)) _ [] st (fun st' x a ha => by cases ha) ?_ (by simp only [List.length_map, List.length_nil]; walk_at "om") fun st' x => ?_
        · intro x hx st' K x1 hK
          obtain ⟨c, hc, rfl⟩ := List.mem_map.mp hx
          exact hK st' .refl
        · rw [List.nil_append]
          refine newE (by simp only [List.length_map]; walk_at "om") fun p st2 x2 hp hp2 => ?_
          simp only [seqW]
          rw [lstAt_lst hp2, bools_let]
          have e : nameB w = (w.map fun c => occurs [c] lettersW).all id := by
            simp only [nameB, c1, List.all_map]
            have h1 : decide (1 ≤ w.length) = true := decide_eq_true (by walk_at "om")
            have h2 : decide (w.length ≤ 8) = true := decide_eq_true (by walk_at "om")
            rw [h1, h2]
            rfl
          show Q _ _
          rw [← e]
          exact hQ _ (x.trans x2)
      · rename_i g2
        have e : nameB w = decide ((w.length : Int) ≤ 8) := by
          have h2 : decide (w.length ≤ 8) = false := decide_eq_false (by walk_at "om")
          have h3 : decide ((w.length : Int) ≤ 8) = false := decide_eq_false g2
          simp only [nameB, h2, h3, Bool.and_false, Bool.false_and]
        rw [← e]; exact hQ _ .refl
    · rename_i g1
      have e : nameB w = false := by
        have h1 : decide (1 ≤ w.length) = false := decide_eq_false (by walk_at "om")
        simp only [nameB, h1, Bool.and_false, Bool.false_and]
      rw [← e]; exact hQ _ .refl
end
end L3
end
section
namespace L3
open PySem
noncomputable def hSayW (isn isw : Nat) (sw : D) : Fn := ⟨3, 3, [.iff (.or_ (.cmp .lt (.v 2) (.c (.int 1))) (.or_ (.not_ (.isi (.v 1) [.tuple])) (.or_ (.cmp .lt (.bi .len [(.v 1)]) (.c (.int 1))) (.not_ (.isi (.ix (.v 1) (.c (.int 0))) [.str]))))) [.ret (.c (.bl false))] [], .iff (.cmp .eq (.ix (.v 1) (.c (.int 0))) (.c (.str (W "lamp")))) [.ret (.and_ (.cmp .eq (.bi .len [(.v 1)]) (.c (.int 2))) (.and_ (.call isn [(.ix (.v 1) (.c (.int 1)))]) (.cmp .in_ (.ix (.v 1) (.c (.int 1))) (.v 0))))] [], .iff (.or_ (.cmp .notin (.ix (.v 1) (.c (.int 0))) (.c sw)) (.cmp .ne (.bi .len [(.v 1)]) (.bin .add (.c (.int 1)) (.ix (.c sw) (.ix (.v 1) (.c (.int 0))))))) [.ret (.c (.bl false))] [], .ret (.bi .all [(.comp 1 [0, 2] [0] true none [(.sl (.v 1) [(.c (.int 1))] [])] [] (.call isw [(.v 1), (.v 0), (.bin .sub (.v 2) (.c (.int 1)))]))])]⟩
section
variable {G : Prog} {k isn isw : Nat} {Q : VK} {E : XK}
noncomputable def swK : List D := [(.str (W "yes")), (.str (W "no")), (.str (W "not")), (.str (W "before")), (.str (W "once")), (.str (W "sofar")), (.str (W "and")), (.str (W "or")), (.str (W "then")), (.str (W "same")), (.str (W "since"))]
noncomputable def swV : List D := [(.int 0), (.int 0), (.int 1), (.int 1), (.int 1), (.int 1), (.int 2), (.int 2), (.int 2), (.int 2), (.int 2)]
theorem bools_true {α : Type} : ∀ (ps : List α), boolsOf (ps.map fun o' => .bl true) = some (ps.map fun o' => true)
  | [] => rfl
  | _ :: r => by
    show (boolsOf (r.map fun o' => .bl true)).map (true :: ·) = _
    rw [bools_true r]; rfl
theorem sayW_gen (h : G.fns isw = some (hSayW isn isw (.mdic swK swV))) {nm : D} {w : List Nat} {ps : List D} {st : Store} {d : Int} (hd : 1 ≤ d) (hl : ¬ (w == W "lamp") = true) (hin : (swK.any fun x => eqD x (.str w)) = true) (har : lookD swK swV (.str w) = some (.int ps.length)) (hps : ps.length ≤ 2)
    (hp : ∀ x ∈ ps, ∀ (st' : Store) (Q' : VK) (E' : XK), Ext st st' → (∀ st'', Ext st' st'' → Q' (.bl true) st'') → wpFn G k isw [nm, x, .int (d - 1)] st' Q' E') (hQ : ∀ st', Ext st st' → Q (.bl true) st') : wpFn G (k + 1) isw [nm, .tup (.str w :: ps), .int d] st Q E := by
  have hL : LINE = 16777216 := rfl
  refine wpFn_i h ?_
  simp only [hSayW, start]
  refine ⟨rfl, ?_⟩
  walk_at "st"
  have n1 : ¬ d < 1 := by walk_at "om"
  simp only [if_neg n1]
  have n2 : ¬ ((ps.length + 1 : Nat) : Int) < 1 := by walk_at "om"
  simp only [List.length_cons, if_neg n2]
  walk_at "ex"
  rw [wpSs_nil]
  walk_at "st"
  rw [if_neg hl]
  rw [wpSs_nil]
  walk_at "st"
  rw [hin]
  simp only [Bool.not_true, Bool.false_eq_true, if_false]
  rw [har]
  show plainS st (.int (1 + (ps.length : Int))) ∧ _
  refine ⟨⟨rfl, Nat.zero_le _⟩, ?_⟩
  have n3 : ¬ (!eqS st (.int ((ps.length + 1 : Nat) : Int)) (.int (1 + (ps.length : Int)))) = true := by
    have e : (((ps.length + 1 : Nat) : Int) == 1 + (ps.length : Int)) = true := beq_iff_eq.mpr (by walk_at "om")
    rw [eqS_int, e]; decide
  rw [if_neg n3, wpSs_nil]
  walk_at "st"
  refine comp_map (fun o' => .bl true) ps [] st (fun st' x a ha => by cases ha) (fun x hx st' K x1 hK => hp x hx st' _ _ x1 fun st'' x2 => hK st'' x2) (by simp only [List.length_nil]; walk_at "om") fun st' x1 => ?_
  rw [List.nil_append]
  refine newE (by simp only [List.length_map]; walk_at "om") fun p st2 x2 hp' hp2 => ?_
  simp only [seqW]
  rw [lstAt_lst hp2, bools_true]
  show Q (.bl (((ps.map fun o' => true).all id))) _
  have e : (ps.map fun o' => true).all id = true := by simp
  rw [e]
  exact hQ _ (x1.trans x2)
theorem nameB_len {n : List Nat} (h : nameB n = true) : n.length ≤ 8 := by
  simp only [nameB, Bool.and_eq_true, decide_eq_true_eq] at h
  exact h.1.2
theorem names_plain (st : Store) : ∀ (names : List (List Nat)), plainSs st (names.map D.str)
  | [] => ⟨rfl, Nat.zero_le _⟩
  | n :: r => ⟨by simp only [List.map_cons, pureSs, pureS, Bool.true_and]; exact (names_plain st r).1, by simp only [List.map_cons, depDs, depD]; have := (names_plain st r).2; walk_at "om"⟩
theorem names_any (st : Store) (names : List (List Nat)) (n : List Nat) (h : n ∈ names) : ((names.map D.str).any fun d => eqS st d (.str n)) = true := by
  rw [List.any_map]
  exact List.any_eq_true.mpr ⟨n, h, by show (n == n) = true; simp⟩
theorem sayW_lamp (h : G.fns isw = some (hSayW isn isw (.mdic swK swV))) (hn : G.fns isn = some (hIsName (.tup (noNames.map .str)) (.str lettersW) (.int 8))) {names : List (List Nat)} (hnm : ∀ n ∈ names, nameB n = true) {n : List Nat} (ho : n ∈ names) {st : Store} {d : Int} (hd : 1 ≤ d)
    (hQ : ∀ st', Ext st st' → Q (.bl true) st') : wpFn G (k + 1 + 1) isw [.tup (names.map .str), .tup [.str (W "lamp"), .str n], .int d] st Q E := by
  have hL : LINE = 16777216 := rfl
  refine wpFn_i h ?_
  simp only [hSayW, start]
  refine ⟨rfl, ?_⟩
  walk_at "st"
  have n1 : ¬ d < 1 := by walk_at "om"
  simp only [if_neg n1]
  walk_at "ex"
  have n2 : ¬ ((0 + 1 + 1 : Nat) : Int) < 1 := by decide
  simp only [if_neg n2]
  walk_at "ex"
  rw [wpSs_nil]
  walk_at "st"
  have n3 : (W "lamp" == W "lamp") = true := by simp
  simp only [n3, if_true]
  walk_at "st"
  rw [if_pos (by decide)]
  refine is_name_ok (w := n) hn (by have := nameB_len (hnm n ho); walk_at "om") fun st' x1 => ?_
  rw [hnm n ho]
  show plainSs st' (names.map .str) ∧ Q (.bl ((names.map D.str).any fun d => eqS st' d (.str n))) st'
  refine ⟨names_plain st' names, ?_⟩
  rw [names_any st' names n ho]
  exact hQ _ x1
theorem sayW_ok (h : G.fns isw = some (hSayW isn isw (.mdic swK swV))) (hn : G.fns isn = some (hIsName (.tup (noNames.map .str)) (.str lettersW) (.int 8))) {names : List (List Nat)} (hnm : ∀ n ∈ names, nameB n = true) :
    ∀ (s : Sy) {k : Nat} {st : Store} {Q : VK} {E : XK} {d : Int}, over names s → (dep s : Int) ≤ d → (∀ st', Ext st st' → Q (.bl true) st') → wpFn G (k + dep s + 1) isw [.tup (names.map .str), toD s, .int d] st Q E
  | .yes, k, st, Q, E, d, ho, hd, hQ => by
    simp only [dep] at hd
    exact sayW_gen h (by walk_at "om") (by decide) (by decide) rfl (by decide) (fun x hx => by cases hx) hQ
  | .no, k, st, Q, E, d, ho, hd, hQ => by
    simp only [dep] at hd
    exact sayW_gen h (by walk_at "om") (by decide) (by decide) rfl (by decide) (fun x hx => by cases hx) hQ
  | .lamp n, k, st, Q, E, d, ho, hd, hQ => by
    simp only [dep] at hd ⊢
    exact sayW_lamp h hn hnm ho (by walk_at "om") hQ
  | .one w s, k, st, Q, E, d, ho, hd, hQ => by
    simp only [dep] at hd ⊢
    refine sayW_gen (ps := [toD s]) h (by walk_at "om") (by cases w <;> decide) (by cases w <;> decide) (by cases w <;> rfl) (by simp) (fun x hx st' Q' E' x1 hQ' => ?_) hQ
    simp only [List.mem_singleton] at hx
    subst hx
    have := sayW_ok h hn hnm s (k := k) (st := st') (Q := Q') (E := E') (d := d - 1) ho (by walk_at "om") hQ'
    exact this
  | .two w s t, k, st, Q, E, d, ho, hd, hQ => by
    simp only [dep] at hd ⊢
    refine sayW_gen (ps := [toD s, toD t]) h (by walk_at "om") (by cases w <;> decide) (by cases w <;> decide) (by cases w <;> rfl) (by simp) (fun x hx st' Q' E' x1 hQ' => ?_) hQ
    have l1 := Nat.le_max_left (dep s) (dep t)
    have l2 := Nat.le_max_right (dep s) (dep t)
    simp only [List.mem_cons, List.not_mem_nil, or_false] at hx
    rcases hx with rfl | rfl
    · have := sayW_ok h hn hnm s (k := k + (max (dep s) (dep t) - dep s)) (st := st') (Q := Q') (E := E') (d := d - 1) ho.1 (by walk_at "om") hQ'
      have e : k + (max (dep s) (dep t) - dep s) + dep s + 1 = k + (max (dep s) (dep t) + 1) := by walk_at "om"
      rw [e] at this; exact this
    · have := sayW_ok h hn hnm t (k := k + (max (dep s) (dep t) - dep t)) (st := st') (Q := Q') (E := E') (d := d - 1) ho.2 (by walk_at "om") hQ'
      have e : k + (max (dep s) (dep t) - dep t) + dep t + 1 = k + (max (dep s) (dep t) + 1) := by walk_at "om"
      rw [e] at this; exact this
end
end L3
end
section
namespace L3
open PySem
noncomputable def hIsRow : Fn := ⟨3, 3, [.ret (.and_ (.isi (.v 0) [.tuple]) (.chain .le .le (.v 1) (.bi .len [(.v 0)]) (.v 2)))]⟩
noncomputable def hLamps (ir isn : Nat) (ml : D) : Fn := ⟨2, 3, [.iff (.or_ (.not_ (.call ir [(.v 0), (.c (.int 1)), (.c ml)])) (.not_ (.call ir [(.v 1), (.c (.int 1)), (.c ml)]))) [.ret (.c (.bl false))] [], .asg (.nm 2) (.bin .add (.v 0) (.v 1)), .ret (.and_ (.bi .all [(.comp 1 [] [0] true none [(.v 2)] [] (.call isn [(.v 0)]))]) (.cmp .eq (.bi .lenset [(.v 2)]) (.bi .len [(.v 2)])))]⟩
section
variable {G : Prog} {k ir isn il : Nat} {st : Store} {Q : VK} {E : XK}
theorem is_row_ok (h : G.fns ir = some hIsRow) {ds : List D} {lo hi : Int} (hQ : Q (.bl (decide (lo ≤ (ds.length : Int)) && decide ((ds.length : Int) ≤ hi))) st) : wpFn G (k + 1) ir [.tup ds, .int lo, .int hi] st Q E := by
  refine wpFn_i h ?_
  simp only [hIsRow, start]
  refine ⟨rfl, ?_⟩
  walk_at "st"
  by_cases c : lo ≤ (ds.length : Int)
  · rw [if_pos c]
    rw [decide_eq_true c, Bool.true_and] at hQ
    exact hQ
  · rw [if_neg c]
    rw [decide_eq_false c, Bool.false_and] at hQ
    exact hQ
theorem ndS_nodup : ∀ (ws seen : List (List Nat)), (seen ++ ws).Nodup → ndS seen ws = ws.length
  | [], _, _ => rfl
  | w :: r, seen, h => by
    have e : seen.any (· == w) = false := by
      rw [List.any_eq_false]
      intro x hx z
      have : x = w := by simpa using z
      subst this
      rw [List.nodup_append] at h
      exact h.2.2 x hx x (by simp) rfl
    show (if seen.any (· == w) = true then 0 else 1) + ndS (seen ++ [w]) r = _
    rw [e, ndS_nodup r (seen ++ [w]) (by simpa using h)]
    simp only [Bool.false_eq_true, if_false, List.length_cons]
    walk_at "om"
theorem strsOf_map : ∀ (ws : List (List Nat)), strsOf (ws.map .str) = some ws
  | [] => rfl
  | w :: r => by
    show (strsOf (r.map .str)).map (w :: ·) = _
    rw [strsOf_map r]; rfl
theorem lamps_ok (h : G.fns il = some (hLamps ir isn (.int 2))) (hr : G.fns ir = some hIsRow) (hn : G.fns isn = some (hIsName (.tup (noNames.map .str)) (.str lettersW) (.int 8))) {fs gs : List (List Nat)} (h1 : 1 ≤ fs.length) (h2 : fs.length ≤ 2) (h3 : 1 ≤ gs.length) (h4 : gs.length ≤ 2) (h5 : (fs ++ gs).Nodup) (h6 : ∀ n ∈ fs ++ gs, nameB n = true)
    (hQ : ∀ st', Ext st st' → Q (.bl true) st') : wpFn G (k + 2) il [.tup (fs.map .str), .tup (gs.map .str)] st Q E := by
  have hL : LINE = 16777216 := rfl
  refine wpFn_i h ?_
  simp only [hLamps, start]
  refine ⟨rfl, ?_⟩
  walk_at "st"
  refine is_row_ok hr ?_
  have e1 : (decide ((1 : Int) ≤ ((fs.map D.str).length : Int)) && decide (((fs.map D.str).length : Int) ≤ 2)) = true := by simp only [List.length_map, Bool.and_eq_true, decide_eq_true_eq]; walk_at "om"
  rw [e1]
  walk_at "ex"
  refine is_row_ok hr ?_
  have e2 : (decide ((1 : Int) ≤ ((gs.map D.str).length : Int)) && decide (((gs.map D.str).length : Int) ≤ 2)) = true := by simp only [List.length_map, Bool.and_eq_true, decide_eq_true_eq]; walk_at "om"
  rw [e2]
  walk_at "ex"
  rw [wpSs_nil]
  walk_at "st"
  refine ⟨by simp only [List.length_map]; walk_at "om", ?_⟩
  rw [← List.map_append]
  walk_at "st"
  refine comp_map (fun o' => .bl true) _ [] st (fun st' x a ha => by cases ha) (fun x hx st' K x1 hK => ?_) (by simp only [List.length_map, List.length_append, List.length_nil]; walk_at "om") fun st' x1 => ?_
  · obtain ⟨n, hn', rfl⟩ := List.mem_map.mp hx
    refine is_name_ok (w := n) hn (by have := nameB_len (h6 n hn'); walk_at "om") fun st'' x2 => ?_
    rw [h6 n hn']
    exact hK st'' x2
  · rw [List.nil_append]
    refine newE (by simp only [List.length_map, List.length_append]; walk_at "om") fun p st2 x2 hp' hp2 => ?_
    simp only [seqW]
    rw [lstAt_lst hp2, bools_true]
    rw [optK_some, strsOf_map, optK_some]
    have e3 : (List.map (fun o' => true) ((fs ++ gs).map D.str)).all id = true := by simp
    rw [if_pos e3]
    refine ⟨by simp only [List.length_append]; walk_at "om", ?_⟩
    have e4 : (((ndS [] (fs ++ gs) : Nat) : Int) == ((((fs ++ gs).map D.str).length : Nat) : Int)) = true := by
      rw [ndS_nodup (fs ++ gs) [] (by simpa using h5), List.length_map]; simp
    rw [e4]
    exact hQ _ (x1.trans x2)
end
end L3
end
section
namespace L3
open PySem
noncomputable def hIsSay (isw : Nat) (dp : D) : Fn := ⟨2, 2, [.ret (.call isw [(.v 0), (.v 1), (.c dp)])]⟩
noncomputable def hAreSay (ir iy : Nat) : Fn := ⟨3, 3, [.ret (.and_ (.call ir [(.v 1), (.c (.int 0)), (.v 2)]) (.bi .all [(.comp 1 [0] [0] true none [(.v 1)] [] (.call iy [(.v 1), (.v 0)]))]))]⟩
noncomputable def hIsPrice (hp : D) : Fn := ⟨1, 1, [.ret (.and_ (.isi (.v 0) [.int]) (.and_ (.not_ (.isi (.v 0) [.bool])) (.chain .le .le (.c (.int 1)) (.v 0) (.c hp))))]⟩
noncomputable def hIsWish (ir ip iy : Nat) : Fn := ⟨2, 2, [.ret (.and_ (.call ir [(.v 1), (.c (.int 2)), (.c (.int 2))]) (.and_ (.call ip [(.ix (.v 1) (.c (.int 0)))]) (.call iy [(.v 0), (.ix (.v 1) (.c (.int 1)))])))]⟩
noncomputable def hAreWish (ir iw : Nat) (mw : D) : Fn := ⟨2, 2, [.ret (.and_ (.call ir [(.v 1), (.c (.int 1)), (.c mw)]) (.bi .all [(.comp 1 [0] [0] true none [(.v 1)] [] (.call iw [(.v 1), (.v 0)]))]))]⟩
section
variable {G : Prog} {k ir isn isw iy ip iw ia : Nat} {st : Store} {Q : VK} {E : XK} {names : List (List Nat)}
theorem is_say_ok (hy : G.fns iy = some (hIsSay isw (.int 8))) (h : G.fns isw = some (hSayW isn isw (.mdic swK swV))) (hn : G.fns isn = some (hIsName (.tup (noNames.map .str)) (.str lettersW) (.int 8))) (hnm : ∀ n ∈ names, nameB n = true) {s : Sy} (ho : over names s) (hd : dep s ≤ 8)
    (hQ : ∀ st', Ext st st' → Q (.bl true) st') : wpFn G (k + 10) iy [.tup (names.map .str), toD s] st Q E := by
  refine wpFn_i hy ?_
  simp only [hIsSay, start]
  refine ⟨rfl, ?_⟩
  walk_at "st"
  have := sayW_ok h hn hnm s (k := k + (8 - dep s)) (st := st) (Q := Q) (E := E) (d := 8) ho (by walk_at "om") hQ
  have e : k + (8 - dep s) + dep s + 1 = k + 9 := by walk_at "om"
  rw [e] at this; exact this
theorem are_say_ok (ha : G.fns ia = some (hAreSay ir iy)) (hr : G.fns ir = some hIsRow) (hy : G.fns iy = some (hIsSay isw (.int 8))) (h : G.fns isw = some (hSayW isn isw (.mdic swK swV))) (hn : G.fns isn = some (hIsName (.tup (noNames.map .str)) (.str lettersW) (.int 8))) (hnm : ∀ n ∈ names, nameB n = true) {ss : List Sy} {m : Int}
    (ho : ∀ s ∈ ss, over names s ∧ dep s ≤ 8) (hl : (ss.length : Int) ≤ m) (hl2 : ss.length ≤ 1000) (hQ : ∀ st', Ext st st' → Q (.bl true) st') : wpFn G (k + 11) ia [.tup (names.map .str), .tup (ss.map toD), .int m] st Q E := by
  have hL : LINE = 16777216 := rfl
  refine wpFn_i ha ?_
  simp only [hAreSay, start]
  refine ⟨rfl, ?_⟩
  walk_at "st"
  refine is_row_ok hr ?_
  have e1 : (decide ((0 : Int) ≤ ((ss.map toD).length : Int)) && decide (((ss.map toD).length : Int) ≤ m)) = true := by simp only [List.length_map, Bool.and_eq_true, decide_eq_true_eq]; walk_at "om"
  rw [e1]
  walk_at "ex"
  refine comp_map (fun o' => .bl true) _ [] st (fun st' x a ha => by cases ha) (fun x hx st' K x1 hK => ?_) (by simp only [List.length_map, List.length_nil]; walk_at "om") fun st' x1 => ?_
  · obtain ⟨s, hs, rfl⟩ := List.mem_map.mp hx
    exact is_say_ok hy h hn hnm (ho s hs).1 (ho s hs).2 fun st'' x2 => hK st'' x2
  · rw [List.nil_append]
    refine newE (by simp only [List.length_map]; walk_at "om") fun p st2 x2 hp' hp2 => ?_
    simp only [seqW]
    rw [lstAt_lst hp2, bools_true, optK_some]
    have e3 : (List.map (fun o' => true) (ss.map toD)).all id = true := by simp
    rw [e3]
    exact hQ _ (x1.trans x2)
theorem is_price_ok (h : G.fns ip = some (hIsPrice (.int 99))) {p : Int} (h1 : 1 ≤ p) (h2 : p ≤ 99) (hQ : Q (.bl true) st) : wpFn G (k + 1) ip [.int p] st Q E := by
  refine wpFn_i h ?_
  simp only [hIsPrice, start]
  refine ⟨rfl, ?_⟩
  walk_at "st"
  rw [if_pos h1, decide_eq_true h2]
  exact hQ
theorem is_wish_ok (hw : G.fns iw = some (hIsWish ir ip iy)) (hr : G.fns ir = some hIsRow) (hp : G.fns ip = some (hIsPrice (.int 99))) (hy : G.fns iy = some (hIsSay isw (.int 8))) (h : G.fns isw = some (hSayW isn isw (.mdic swK swV))) (hn : G.fns isn = some (hIsName (.tup (noNames.map .str)) (.str lettersW) (.int 8))) (hnm : ∀ n ∈ names, nameB n = true) {s : Sy} {p : Int}
    (h1 : 1 ≤ p) (h2 : p ≤ 99) (ho : over names s) (hd : dep s ≤ 8) (hQ : ∀ st', Ext st st' → Q (.bl true) st') : wpFn G (k + 11) iw [.tup (names.map .str), .tup [.int p, toD s]] st Q E := by
  refine wpFn_i hw ?_
  simp only [hIsWish, start]
  refine ⟨rfl, ?_⟩
  walk_at "st"
  refine is_row_ok hr ?_
  have e1 : (decide ((2 : Int) ≤ (([.int p, toD s] : List D).length : Int)) && decide ((([.int p, toD s] : List D).length : Int) ≤ 2)) = true := rfl
  rw [e1]
  walk_at "ex"
  refine is_price_ok hp h1 h2 ?_
  walk_at "ex"
  exact is_say_ok hy h hn hnm ho hd fun st'' x2 => hQ st'' x2
end
end L3
end
section
namespace L3
open PySem
noncomputable def hBare (ih ib : Nat) : Fn := ⟨2, 2, [.iff (.cmp .eq (.ix (.v 1) (.c (.int 0))) (.c (.str (W "before")))) [.ret (.c (.bl false))] [], .iff (.cmp .eq (.ix (.v 1) (.c (.int 0))) (.c (.str (W "lamp")))) [.ret (.cmp .in_ (.ix (.v 1) (.c (.int 1))) (.v 0))] [], .ret (.bi .any [(.comp 1 [0] [0] true none [(.call ih [(.v 1)])] [] (.call ib [(.v 1), (.v 0)]))])]⟩
noncomputable def bareB (gs : List (List Nat)) : Sy → Bool
  | .lamp n => gs.any (· == n)
  | .one .before _ => false
  | .one _ s => bareB gs s
  | .two _ s t => bareB gs s || bareB gs t
  | _ => false
section
variable {G : Prog} {k ih ib ir isn isw iy ip iw ia : Nat} {st : Store} {Q : VK} {E : XK} {names : List (List Nat)}
theorem are_wish_ok (ha : G.fns ia = some (hAreWish ir iw (.int 5))) (hw : G.fns iw = some (hIsWish ir ip iy)) (hr : G.fns ir = some hIsRow) (hp : G.fns ip = some (hIsPrice (.int 99))) (hy : G.fns iy = some (hIsSay isw (.int 8))) (h : G.fns isw = some (hSayW isn isw (.mdic swK swV))) (hn : G.fns isn = some (hIsName (.tup (noNames.map .str)) (.str lettersW) (.int 8))) (hnm : ∀ n ∈ names, nameB n = true) {ws : List (Int × Sy)}
    (ho : ∀ w ∈ ws, 1 ≤ w.1 ∧ w.1 ≤ 99 ∧ over names w.2 ∧ dep w.2 ≤ 8) (h1 : 1 ≤ ws.length) (h2 : ws.length ≤ 5) (hQ : ∀ st', Ext st st' → Q (.bl true) st') : wpFn G (k + 12) ia [.tup (names.map .str), .tup (ws.map fun w => .tup [.int w.1, toD w.2])] st Q E := by
  have hL : LINE = 16777216 := rfl
  refine wpFn_i ha ?_
  simp only [hAreWish, start]
  refine ⟨rfl, ?_⟩
  walk_at "st"
  refine is_row_ok hr ?_
  have e1 : (decide ((1 : Int) ≤ ((ws.map fun w => D.tup [.int w.1, toD w.2]).length : Int)) && decide (((ws.map fun w => D.tup [.int w.1, toD w.2]).length : Int) ≤ 5)) = true := by simp only [List.length_map, Bool.and_eq_true, decide_eq_true_eq]; walk_at "om"
  rw [e1]
  walk_at "ex"
  refine comp_map (fun o' => .bl true) _ [] st (fun st' x a ha => by cases ha) (fun x hx st' K x1 hK => ?_) (by simp only [List.length_map, List.length_nil]; walk_at "om") fun st' x1 => ?_
  · obtain ⟨s, hs, rfl⟩ := List.mem_map.mp hx
    obtain ⟨o1, o2, o3, o4⟩ := ho s hs
    exact is_wish_ok hw hr hp hy h hn hnm o1 o2 o3 o4 fun st'' x2 => hK st'' x2
  · rw [List.nil_append]
    refine newE (by simp only [List.length_map]; walk_at "om") fun p st2 x2 hp' hp2 => ?_
    simp only [seqW]
    rw [lstAt_lst hp2, bools_true, optK_some]
    have e3 : (List.map (fun o' => true) (ws.map fun w => D.tup [.int w.1, toD w.2])).all id = true := by simp
    rw [e3]
    exact hQ _ (x1.trans x2)
end
end L3
end
section
namespace L3
open PySem
theorem comp_of {α : Type} {g : Store → Prop} {turn : D → Store → (Option D → Store → Prop) → Prop} {R : List D → Store → Prop} (t f : α → D) : ∀ (xs : List α) (acc : List D) (st : Store),
    (∀ st', Ext st st' → g st') → (∀ x ∈ xs, ∀ st' (K : Option D → Store → Prop), Ext st st' → (∀ st'', Ext st' st'' → K (some (f x)) st'') → turn (t x) st' K) →
    acc.length + xs.length ≤ LINE → (∀ st', Ext st st' → R (acc ++ xs.map f) st') → compW g turn (xs.map t) acc st R
  | [], acc, st, hg, _, _, hR => ⟨hg st .refl, by simpa using hR st .refl⟩
  | x :: xs, acc, st, hg, ht, hl, hR => by
    simp only [List.length_cons] at hl
    refine ⟨hg st .refl, by walk_at "om", ht x (by simp) st _ .refl fun st'' h'' => ?_⟩
    exact comp_of t f xs (acc ++ [f x]) st'' (fun st' h => hg st' (h''.trans h)) (fun y hy st' K h => ht y (by simp [hy]) st' K (h''.trans h)) (by simp only [List.length_append, List.length_cons, List.length_nil]; walk_at "om") fun st' h => by simpa using hR st' (h''.trans h)
theorem bools_of {α : Type} (b : α → Bool) : ∀ (ps : List α), boolsOf (ps.map fun x => .bl (b x)) = some (ps.map b)
  | [] => rfl
  | x :: r => by
    show (boolsOf (r.map fun x => .bl (b x))).map (b x :: ·) = _
    rw [bools_of b r]; rfl
section
variable {G : Prog} {k ih ib : Nat} {Q : VK} {E : XK} {gs : List (List Nat)}
theorem bare_gen (h : G.fns ib = some (hBare ih ib)) (hh : G.fns ih = some hWithin) {s : Sy} {st : Store} (h1 : ¬ (wd s == W "before") = true) (h2 : isLamp s = false) (h3 : ¬ (wd s == W "lamp") = true) (h4 : (subs s).length ≤ 2)
    (hp : ∀ x ∈ subs s, ∀ (st' : Store) (Q' : VK) (E' : XK), Ext st st' → (∀ st'', Ext st' st'' → Q' (.bl (bareB gs x)) st'') → wpFn G (k + 1) ib [.tup (gs.map .str), toD x] st' Q' E') (hQ : ∀ st', Ext st st' → Q (.bl ((subs s).any (bareB gs))) st') : wpFn G (k + 2) ib [.tup (gs.map .str), toD s] st Q E := by
  have hL : LINE = 16777216 := rfl
  refine wpFn_i h ?_
  simp only [hBare, start]
  refine ⟨rfl, ?_⟩
  obtain ⟨r, er⟩ := toD_wd s
  rw [er]
  walk_at "st"
  rw [if_neg h1, wpSs_nil]
  walk_at "st"
  rw [if_neg h3, wpSs_nil]
  walk_at "st"
  rw [← er]
  refine within_ok hh ?_
  walk_at "ex"
  refine comp_of toD (fun x => .bl (bareB gs x)) _ [] st (fun st' x a ha => by cases ha) (fun x hx st' K x1 hK => hp x hx st' _ _ x1 fun st'' x2 => hK st'' x2) (by simp only [List.length_nil]; walk_at "om") fun st' x1 => ?_
  rw [List.nil_append]
  refine newE (by simp only [List.length_map]; walk_at "om") fun p st2 x2 hp' hp2 => ?_
  simp only [seqW]
  rw [lstAt_lst hp2, bools_of, optK_some, List.any_map]
  exact hQ _ (x1.trans x2)
theorem bare_ok (h : G.fns ib = some (hBare ih ib)) (hh : G.fns ih = some hWithin) : ∀ (s : Sy) {k : Nat} {st : Store} {Q : VK} {E : XK}, (∀ st', Ext st st' → Q (.bl (bareB gs s)) st') → wpFn G (k + dep s + 1) ib [.tup (gs.map .str), toD s] st Q E
  | .yes, k, st, Q, E, hQ => bare_gen (k := k) h hh (by decide) rfl (by decide) (by decide) (fun x hx => by cases hx) hQ
  | .no, k, st, Q, E, hQ => bare_gen (k := k) h hh (by decide) rfl (by decide) (by decide) (fun x hx => by cases hx) hQ
  | .lamp n, k, st, Q, E, hQ => by
    refine wpFn_i h ?_
    simp only [hBare, start, toD]
    refine ⟨rfl, ?_⟩
    walk_at "st"
    have n1 : ¬ (W "lamp" == W "before") = true := by decide
    rw [if_neg n1, wpSs_nil]
    walk_at "st"
    have n3 : (W "lamp" == W "lamp") = true := by decide
    rw [if_pos n3]
    walk_at "st"
    refine ⟨names_plain st gs, ?_⟩
    have e : ((gs.map D.str).any fun d => eqS st d (.str n)) = bareB gs (.lamp n) := by rw [List.any_map]; rfl
    rw [e]
    exact hQ _ .refl
  | .one w s, k, st, Q, E, hQ => by
    by_cases hw : w = .before
    · subst hw
      refine wpFn_i h ?_
      simp only [hBare, start, toD, c1]
      refine ⟨rfl, ?_⟩
      walk_at "st"
      have n1 : (W "before" == W "before") = true := by decide
      rw [if_pos n1]
      walk_at "st"
      exact hQ _ .refl
    · have e0 : k + dep (.one w s) + 1 = (k + dep s) + 2 := by simp only [dep]; walk_at "om"
      rw [e0]
      refine bare_gen h hh (show ¬ (c1 w == W "before") = true by cases w <;> first | decide | exact absurd rfl hw) rfl (show ¬ (c1 w == W "lamp") = true by cases w <;> decide) (by simp [subs]) (fun x hx st' Q' E' x1 hQ' => ?_) (fun st' x1 => ?_)
      · simp only [subs, List.mem_cons, List.not_mem_nil, or_false] at hx
        rw [hx] at hQ' ⊢
        exact bare_ok h hh s (k := k) (st := st') (Q := Q') (E := E') hQ'
      · have e1 : (subs (.one w s)).any (bareB gs) = bareB gs (.one w s) := by
          cases w <;> first | exact absurd rfl hw | simp [subs, bareB]
        rw [e1]; exact hQ st' x1
  | .two w s t, k, st, Q, E, hQ => by
    have l1 := Nat.le_max_left (dep s) (dep t)
    have l2 := Nat.le_max_right (dep s) (dep t)
    have e0 : k + dep (.two w s t) + 1 = (k + max (dep s) (dep t)) + 2 := by simp only [dep]; walk_at "om"
    rw [e0]
    refine bare_gen h hh (show ¬ (c2 w == W "before") = true by cases w <;> decide) rfl (show ¬ (c2 w == W "lamp") = true by cases w <;> decide) (by simp [subs]) (fun x hx st' Q' E' x1 hQ' => ?_) (fun st' x1 => by simpa [subs, bareB] using hQ st' x1)
    simp only [subs, List.mem_cons, List.not_mem_nil, or_false] at hx
    rcases hx with hx | hx
    · rw [hx] at hQ' ⊢
      have := bare_ok h hh s (k := k + (max (dep s) (dep t) - dep s)) (st := st') (Q := Q') (E := E') hQ'
      have e : k + (max (dep s) (dep t) - dep s) + dep s + 1 = k + max (dep s) (dep t) + 1 := by walk_at "om"
      rw [e] at this; exact this
    · rw [hx] at hQ' ⊢
      have := bare_ok h hh t (k := k + (max (dep s) (dep t) - dep t)) (st := st') (Q := Q') (E := E') hQ'
      have e : k + (max (dep s) (dep t) - dep t) + dep t + 1 = k + max (dep s) (dep t) + 1 := by walk_at "om"
      rw [e] at this; exact this
end
end L3
end
section
namespace L3
open PySem
noncomputable def hArePro (ia ib : Nat) (mp : D) : Fn := ⟨3, 3, [.ret (.and_ (.call ia [(.v 0), (.v 2), (.c mp)]) (.not_ (.bi .any [(.comp 1 [1] [0] true none [(.v 2)] [] (.call ib [(.v 1), (.v 0)]))])))]⟩
noncomputable def hSayOf : Fn := ⟨3, 3, [.ret (.bin .add (.bin .add (.bi .list [(.v 0)]) (.bi .list [(.v 1)])) (.comp 1 [] [0] true none [(.v 2)] [] (.ix (.v 0) (.c (.int 1)))))]⟩
section
variable {G : Prog} {k ih ib ir isn isw iy ia iap io : Nat} {st : Store} {Q : VK} {E : XK} {names gs : List (List Nat)}
theorem are_pro_ok (hp : G.fns iap = some (hArePro ia ib (.int 3))) (hb : G.fns ib = some (hBare ih ib)) (hh : G.fns ih = some hWithin) (ha : G.fns ia = some (hAreSay ir iy)) (hr : G.fns ir = some hIsRow) (hy : G.fns iy = some (hIsSay isw (.int 8))) (h : G.fns isw = some (hSayW isn isw (.mdic swK swV))) (hn : G.fns isn = some (hIsName (.tup (noNames.map .str)) (.str lettersW) (.int 8))) (hnm : ∀ n ∈ names, nameB n = true) {ss : List Sy}
    (ho : ∀ s ∈ ss, over names s ∧ dep s ≤ 8) (hl : ss.length ≤ 3) (hbare : ∀ s ∈ ss, bareB gs s = false) (hQ : ∀ st', Ext st st' → Q (.bl true) st') : wpFn G (k + 12) iap [.tup (names.map .str), .tup (gs.map .str), .tup (ss.map toD)] st Q E := by
  have hL : LINE = 16777216 := rfl
  refine wpFn_i hp ?_
  simp only [hArePro, start]
  refine ⟨rfl, ?_⟩
  walk_at "st"
  refine are_say_ok ha hr hy h hn hnm ho (by walk_at "om") (by walk_at "om") fun st1 y1 => ?_
  walk_at "ex"
  refine comp_of toD (fun o' => .bl false) _ [] st1 (fun st' x a ha => by cases ha) (fun x hx st' K x1 hK => ?_) (by simp only [List.length_nil]; walk_at "om") fun st' x1 => ?_
  · have e : k + 11 = (k + 10 - dep x) + dep x + 1 := by have := (ho x hx).2; walk_at "om"
    rw [e]
    refine bare_ok hb hh x fun st'' x2 => ?_
    rw [hbare x hx]
    exact hK st'' x2
  · rw [List.nil_append]
    refine newE (by simp only [List.length_map]; walk_at "om") fun p st2 x2 hp' hp2 => ?_
    simp only [seqW]
    rw [lstAt_lst hp2, bools_of (fun o' => false), optK_some]
    have e3 : (ss.map fun o' => false).any id = false := by simp
    rw [e3]
    exact hQ _ ((y1.trans x1).trans x2)
theorem say_of_ok (h : G.fns io = some hSayOf) {ps ms : List Sy} {ws : List (Int × Sy)} (h1 : ps.length ≤ 1000) (h2 : ms.length ≤ 1000) (h3 : ws.length ≤ 1000)
    (hQ : ∀ p st', Ext st st' → st' p = some (.lst ((ps ++ ms ++ ws.map (·.2)).map toD)) → Q (.ref p) st') : wpFn G (k + 1) io [.tup (ps.map toD), .tup (ms.map toD), .tup (ws.map fun w => .tup [.int w.1, toD w.2])] st Q E := by
  have hL : LINE = 16777216 := rfl
  refine wpFn_i h ?_
  simp only [hSayOf, start]
  refine ⟨rfl, ?_⟩
  walk_at "st"
  refine newE (by simp only [List.length_map]; walk_at "om") fun p st1 x1 hp hp1 => ?_
  walk_at "ex"
  refine newE (by simp only [List.length_map]; walk_at "om") fun q st2 x2 hq hq2 => ?_
  walk_at "ex"
  rw [lstAt_lst (x2 _ _ hp1), lstAt_lst hq2]
  refine newE (by simp only [List.length_map, List.length_append]; walk_at "om") fun r st3 x3 hr hr3 => ?_
  refine comp_of (fun w : Int × Sy => D.tup [.int w.1, toD w.2]) (fun w => toD w.2) _ [] st3 (fun st' x a ha => by cases ha) (fun x hx st' K y1 hK => hK st' .refl) (by simp only [List.length_nil]; walk_at "om") fun st4 x4 => ?_
  rw [List.nil_append]
  refine newE (by simp only [List.length_map]; walk_at "om") fun u st5 x5 hu hu5 => ?_
  show lstAt st5 r fun xs => lstAt st5 u fun ys => newL (xs ++ ys) st5 Q
  rw [lstAt_lst (x5 _ _ (x4 _ _ hr3)), lstAt_lst hu5]
  refine newE (by simp only [List.length_map, List.length_append]; walk_at "om") fun v st6 x6 hv hv6 => ?_
  refine hQ v st6 (((((x1.trans x2).trans x3).trans x4).trans x5).trans x6) ?_
  rw [hv6]
  simp only [List.map_append, List.map_map]
  rfl
end
end L3
end
section
namespace L3
open PySem
noncomputable def hIsBook (ir il iap ia iaw ipi io : Nat) (mm mp : D) : Fn := ⟨1, 6, [.iff (.or_ (.not_ (.call ir [(.v 0), (.c (.int 5)), (.c (.int 5))])) (.not_ (.call il [(.ix (.v 0) (.c (.int 0))), (.ix (.v 0) (.c (.int 1)))]))) [.ret (.c (.bl false))] [], .asg (.nm 1) (.ix (.v 0) (.c (.int 1))), .asg (.nm 2) (.bin .add (.ix (.v 0) (.c (.int 0))) (.v 1)), .asg (.nm 3) (.ix (.v 0) (.c (.int 2))), .asg (.nm 4) (.ix (.v 0) (.c (.int 3))), .asg (.nm 5) (.ix (.v 0) (.c (.int 4))), .iff (.or_ (.not_ (.call iap [(.v 2), (.v 1), (.v 3)])) (.not_ (.call ia [(.v 2), (.v 4), (.c mm)]))) [.ret (.c (.bl false))] [], .ret (.and_ (.call iaw [(.v 2), (.v 5)]) (.cmp .le (.bi .len [(.call ipi [(.call io [(.v 3), (.v 4), (.v 5)])])]) (.c mp)))]⟩
set_option genInjectivity false in
structure Bk where
  fs : List (List Nat)
  gs : List (List Nat)
  ps : List Sy
  ms : List Sy
  ws : List (Int × Sy)
noncomputable def Bk.d (b : Bk) : D := .tup [.tup (b.fs.map .str), .tup (b.gs.map .str), .tup (b.ps.map toD), .tup (b.ms.map toD), .tup (b.ws.map fun w => .tup [.int w.1, toD w.2])]
noncomputable def Bk.names (b : Bk) : List (List Nat) := b.fs ++ b.gs
noncomputable def Bk.says (b : Bk) : List Sy := b.ps ++ b.ms ++ b.ws.map (·.2)
structure Bk.Ok (b : Bk) : Prop where
  f1 : 1 ≤ b.fs.length
  f2 : b.fs.length ≤ 2
  g1 : 1 ≤ b.gs.length
  g2 : b.gs.length ≤ 2
  nd : b.names.Nodup
  nm : ∀ n ∈ b.names, nameB n = true
  p1 : b.ps.length ≤ 3
  p2 : ∀ s ∈ b.ps, over b.names s ∧ dep s ≤ 8
  p3 : ∀ s ∈ b.ps, bareB b.gs s = false
  m1 : b.ms.length ≤ 3
  m2 : ∀ s ∈ b.ms, over b.names s ∧ dep s ≤ 8
  w1 : 1 ≤ b.ws.length
  w2 : b.ws.length ≤ 5
  w3 : ∀ w ∈ b.ws, 1 ≤ w.1 ∧ w.1 ≤ 99 ∧ over b.names w.2 ∧ dep w.2 ≤ 8
section
variable {G : Prog} {k ih ib ir isn isw iy ia iap io il iaw ipi ip iw ibk : Nat} {st : Store} {Q : VK} {E : XK}
theorem is_row_true (h : G.fns ir = some hIsRow) {ds : List D} {lo hi : Int} (h1 : lo ≤ (ds.length : Int)) (h2 : (ds.length : Int) ≤ hi) (hQ : Q (.bl true) st) : wpFn G (k + 1) ir [.tup ds, .int lo, .int hi] st Q E :=
  is_row_ok h (by rw [decide_eq_true h1, decide_eq_true h2]; exact hQ)
end
end L3
end
section
namespace L3
open PySem
section
variable {G : Prog} {k ir il iap ia iaw ipi io ibk : Nat} {Q : VK} {E : XK}
theorem is_book_gen (hbk : G.fns ibk = some (hIsBook ir il iap ia iaw ipi io (.int 3) (.int 4))) (hr : G.fns ir = some hIsRow) {F J P M V N : D} {st : Store} {Φ : Nat → Store → Prop}
    (h1 : ∀ (st : Store) (Q : VK) (E : XK), (∀ st', Ext st st' → Q (.bl true) st') → wpFn G (k + 12) il [F, J] st Q E) (h2 : ∀ (st : Store) (Q : VK), Q N st → binW .add F J st Q)
    (h3 : ∀ (st : Store) (Q : VK) (E : XK), (∀ st', Ext st st' → Q (.bl true) st') → wpFn G (k + 12) iap [N, J, P] st Q E) (h4 : ∀ (st : Store) (Q : VK) (E : XK), (∀ st', Ext st st' → Q (.bl true) st') → wpFn G (k + 12) ia [N, M, .int 3] st Q E)
    (h5 : ∀ (st : Store) (Q : VK) (E : XK), (∀ st', Ext st st' → Q (.bl true) st') → wpFn G (k + 12) iaw [N, V] st Q E) (h6 : ∀ (st : Store) (Q : VK) (E : XK), (∀ l st', Ext st st' → Φ l st' → Q (.ref l) st') → wpFn G (k + 12) io [P, M, V] st Q E)
    (h7 : ∀ (l : Nat) (st : Store) (Q : VK) (E : XK), Φ l st → (∀ p st' (xs : List D), Ext st st' → xs.length ≤ 4 → st' p = some (.lst xs) → Q (.ref p) st') → wpFn G (k + 12) ipi [.ref l] st Q E)
    (hQ : ∀ st', Ext st st' → Q (.bl true) st') : wpFn G (k + 13) ibk [.tup [F, J, P, M, V]] st Q E := by
  refine wpFn_i hbk ?_
  simp only [hIsBook, start]
  refine ⟨rfl, ?_⟩
  walk_at "st"
  refine is_row_true hr (Int.le_refl 5) (Int.le_refl 5) ?_
  walk_at "ex"
  refine h1 _ _ _ fun st1 x1 => ?_
  walk_at "ex"
  rw [wpSs_nil]
  try dsimp only
  refine wpSs_c ?_
  rw [s_asgW, e_ix, e_v]
  simp only [↓gv_0, ↓e_c]
  rw [ix_tup, show atI [F, J, P, M, V] 1 = some J from rfl, optK_some, tg_nm]
  simp only [List.set_cons_succ, List.set_cons_zero]
  refine wpSs_c ?_
  rw [s_asgW, e_bin, e_ix, e_v]
  simp only [↓gv_0, ↓e_c]
  rw [ix_tup, show atI [F, J, P, M, V] 0 = some F from rfl, optK_some, e_v]
  simp only [List.set_cons_succ, List.set_cons_zero, ↓gv_1]
  refine h2 _ _ ?_
  rw [tg_nm]
  simp only [List.set_cons_succ, List.set_cons_zero]
  refine wpSs_c ?_
  rw [s_asgW, e_ix, e_v]
  simp only [List.set_cons_succ, List.set_cons_zero, ↓gv_0, ↓e_c]
  rw [ix_tup, show atI [F, J, P, M, V] 2 = some P from rfl, optK_some, tg_nm]
  simp only [List.set_cons_succ, List.set_cons_zero]
  refine wpSs_c ?_
  rw [s_asgW, e_ix, e_v]
  simp only [List.set_cons_succ, List.set_cons_zero, ↓gv_0, ↓e_c]
  rw [ix_tup, show atI [F, J, P, M, V] 3 = some M from rfl, optK_some, tg_nm]
  simp only [List.set_cons_succ, List.set_cons_zero]
  refine wpSs_c ?_
  rw [s_asgW, e_ix, e_v]
  simp only [List.set_cons_succ, List.set_cons_zero, ↓gv_0, ↓e_c]
  rw [ix_tup, show atI [F, J, P, M, V] 4 = some V from rfl, optK_some, tg_nm]
  simp only [List.set_cons_succ, List.set_cons_zero]
  walk_at "st"
  refine h3 _ _ _ fun st2 x2 => ?_
  walk_at "ex"
  refine h4 _ _ _ fun st3 x3 => ?_
  walk_at "ex"
  rw [wpSs_nil]
  walk_at "st"
  refine h5 _ _ _ fun st4 x4 => ?_
  walk_at "ex"
  refine h6 _ _ _ fun l st5 x5 hl => ?_
  walk_at "ex"
  refine h7 _ _ _ _ hl fun p st6 xs x6 hx hp => ?_
  walk_at "ex"
  unfold seqAt
  rw [hp]
  show Q (.bl (decide ((xs.length : Int) ≤ 4))) st6
  rw [decide_eq_true (show (xs.length : Int) ≤ 4 by walk_at "om")]
  exact hQ _ (((((x1.trans x2).trans x3).trans x4).trans x5).trans x6)
end
end L3
end
section
namespace L3
open PySem
section
variable {G : Prog} {k ih ib ir isn isw iy ia iap io il iaw ipi ip iw ibk : Nat} {st : Store} {Q : VK} {E : XK}
theorem is_book_ok (hbk : G.fns ibk = some (hIsBook ir il iap ia iaw ipi io (.int 3) (.int 4))) (hla : G.fns il = some (hLamps ir isn (.int 2))) (hap : G.fns iap = some (hArePro ia ib (.int 3))) (hb : G.fns ib = some (hBare ih ib)) (hh : G.fns ih = some hWithin) (ha : G.fns ia = some (hAreSay ir iy)) (hr : G.fns ir = some hIsRow) (hy : G.fns iy = some (hIsSay isw (.int 8))) (h : G.fns isw = some (hSayW isn isw (.mdic swK swV)))
    (hn : G.fns isn = some (hIsName (.tup (noNames.map .str)) (.str lettersW) (.int 8))) (haw : G.fns iaw = some (hAreWish ir iw (.int 5))) (hw : G.fns iw = some (hIsWish ir ip iy)) (hp : G.fns ip = some (hIsPrice (.int 99))) (ho : G.fns io = some hSayOf) (hpi : G.fns ipi = some (hPiecesIn ih)) {b : Bk} (B : b.Ok) (hs : szL b.says < LINE) (hd : ∀ x ∈ b.says, dep x ≤ 60) (hc : (pcsL b.says []).length ≤ 4)
    (hQ : ∀ st', Ext st st' → Q (.bl true) st') : wpFn G (k + 13) ibk [b.d] st Q E := by
  have hL : LINE = 16777216 := rfl
  have f2 := B.f2
  have g2 := B.g2
  have p1 := B.p1
  have m1 := B.m1
  have w2 := B.w2
  refine is_book_gen hbk hr (N := .tup (b.names.map .str)) (Φ := fun l st => st l = some (.lst (b.says.map toD))) (fun st Q E q => lamps_ok (k := k + 10) hla hr hn B.f1 B.f2 B.g1 B.g2 B.nd B.nm q) (fun st Q q => ?_) (fun st Q E q => are_pro_ok (k := k) hap hb hh ha hr hy h hn B.nm B.p2 B.p1 B.p3 q)
    (fun st Q E q => are_say_ok (k := k + 1) ha hr hy h hn B.nm B.m2 (by walk_at "om") (by walk_at "om") q) (fun st Q E q => are_wish_ok (k := k) haw hw hr hp hy h hn B.nm B.w3 B.w1 B.w2 q) (fun st Q E q => say_of_ok (k := k + 11) ho (by walk_at "om") (by walk_at "om") (by walk_at "om") fun p st' x e => q p st' x e)
    (fun l st Q E e q => pieces_in_ok (k := k + 10) hpi hh e hd hs fun p st' x e' => q p st' _ x (by simpa using hc) e') hQ
  show _ ∧ Q _ st
  refine ⟨by simp only [List.length_map]; walk_at "om", ?_⟩
  rw [← List.map_append]
  exact q
end
end L3
end
section
namespace L3
noncomputable def sinceF (f g : Nat → Bool) : Nat → Bool
  | 0 => g 0
  | t + 1 => g (t + 1) || (f (t + 1) && sinceF f g t)
noncomputable def lampV (names : List (List Nat)) (play : List (List Bool)) (n : List Nat) (t : Nat) : Bool := (((play[t]?).getD [])[names.idxOf n]?).getD false
noncomputable def hv (names : List (List Nat)) (play : List (List Bool)) : Sy → Nat → Bool
  | .yes, _ => true
  | .no, _ => false
  | .lamp n, t => lampV names play n t
  | .one .not s, t => !hv names play s t
  | .one .before s, t => decide (0 < t) && hv names play s (t - 1)
  | .one .once s, t => (List.range (t + 1)).any (hv names play s)
  | .one .sofar s, t => (List.range (t + 1)).all (hv names play s)
  | .two .and s u, t => hv names play s t && hv names play u t
  | .two .or s u, t => hv names play s t || hv names play u t
  | .two .thn s u, t => hv names play u t || !hv names play s t
  | .two .same s u, t => hv names play s t == hv names play u t
  | .two .since s u, t => sinceF (hv names play s) (hv names play u) t
section
variable {names : List (List Nat)} {play : List (List Bool)}
end
end L3
end
section
namespace L3
open PySem
section
variable {G : Prog} {k i : Nat} {st : Store} {Q : VK} {E : XK}
end
end L3
end
section
namespace L3
open PySem
mutual
theorem eqSD {st : Store} : ∀ (a b : D), pureD a = true → eqS st a b = eqD a b
  | .non, b, _ => by cases b <;> rfl
  | .bl _, b, _ => by cases b <;> rfl
  | .int _, b, _ => by cases b <;> rfl
  | .str _, b, _ => by cases b <;> rfl
  | .tup as, b, h => by
    cases b with
    | tup bs => exact eqSDs as bs (by simpa [pureD] using h)
    | _ => rfl
  | .ref _, _, h => by simp [pureD] at h
  | .mdic _ _, _, h => by simp [pureD] at h
  | .mlst _, _, h => by simp [pureD] at h
theorem eqSDs {st : Store} : ∀ (as bs : List D), pureDs as = true → eqSs st as bs = eqDs as bs
  | [], [], _ => rfl
  | [], _ :: _, _ => rfl
  | _ :: _, [], _ => rfl
  | a :: as, b :: bs, h => by
    simp only [pureDs, Bool.and_eq_true] at h
    simp only [eqSs, eqDs]
    rw [eqSD a b h.1, eqSDs as bs h.2]
end
end L3
end
section
namespace L3
open PySem
theorem for_of {α : Type} (t : α → D) {g : Store → Prop} {turn : D → (St → Store → Prop) → St → Store → Prop} {N : St → Store → Prop} (I : List α → St → Store → Prop) (hg : ∀ xs σ st, I xs σ st → g st)
    (ht : ∀ x r σ st (M : St → Store → Prop), I (x :: r) σ st → (∀ σ' st', I r σ' st' → M σ' st') → turn (t x) M σ st) (hN : ∀ σ st, I [] σ st → N σ st) : ∀ (xs : List α) (σ : St) (st : Store), I xs σ st → forW g turn N (xs.map t) σ st
  | [], σ, st, h => ⟨hg _ _ _ h, hN _ _ h⟩
  | x :: xs, σ, st, h => ⟨hg _ _ _ h, ht x xs σ st _ h fun σ' st' h' => for_of t I hg ht hN xs σ' st' h'⟩
section
variable {G : Prog} {k i iph inh : Nat} {st : Store} {Q : VK} {E : XK} {p lp lr ld : Nat} {names : List (List Nat)} {pcs R : List Sy} {xs : List (List Nat × D)}
end
end L3
end
section
namespace L3
open PySem
section
variable {G : Prog} {k i ie iw ipo : Nat} {st : Store} {Q : VK} {E : XK} {p lp lr ld lm : Nat} {names : List (List Nat)} {pcs R : List Sy} {xs fs : List (List Nat × D)}
end
end L3
end
section
namespace L3
open PySem
theorem pcsL_dep : ∀ (l : List Sy) {f : List Sy} {n : Nat}, (∀ x ∈ f, dep x ≤ n) → (∀ x ∈ l, dep x ≤ n) → ∀ x ∈ pcsL l f, dep x ≤ n
  | [], _, _, hf, _ => hf
  | s :: l, f, n, hf, hl => pcsL_dep l (pcs_dep s hf (hl s (by simp))) fun x hx => hl x (by simp [hx])
section
variable {G : Prog} {k i ie iw ipo iz irr iti : Nat} {st : Store} {Q : VK} {E : XK} {p l : Nat} {names : List (List Nat)} {ss : List Sy}
end
end L3
end
section
namespace L3
open PySem
noncomputable def hSetting : Fn := ⟨2, 2, [.ret (.and_ (.isi (.v 0) [.tuple]) (.and_ (.cmp .eq (.bi .len [(.v 0)]) (.v 1)) (.bi .all [(.comp 1 [] [0] true none [(.v 0)] [] (.isi (.v 0) [.bool]))])))]⟩
noncomputable def hChecked (ibk : Nat) : Fn := ⟨1, 1, [.iff (.not_ (.call ibk [(.v 0)])) [.rais 2 [(.c (.str (W "no book")))]] [], .ret (.v 0)]⟩
section
variable {G : Prog} {k i ie iw ipo iz irr iti io r : Nat} {st : Store} {Q : VK} {E : XK} {b : Bk}
theorem says_ok (B : b.Ok) : ∀ s ∈ b.says, over b.names s ∧ dep s ≤ 8 := by
  intro s hs
  simp only [Bk.says, List.mem_append, List.mem_map] at hs
  rcases hs with (hs | hs) | ⟨w, hw, rfl⟩
  · exact B.p2 s hs
  · exact B.m2 s hs
  · exact ⟨(B.w3 w hw).2.2.1, (B.w3 w hw).2.2.2⟩
end
end L3
end
section
namespace L3
open PySem
noncomputable def setD (bs : List Bool) : D := .tup (bs.map .bl)
noncomputable def BookB (G : Prog) (ibk kb : Nat) (b : Bk) : Prop := ∀ (k : Nat) (st : Store) (Q : VK) (E : XK), (∀ st', Ext st st' → Q (.bl true) st') → wpFn G (k + kb) ibk [b.d] st Q E
section
variable {G : Prog} {k i ibk kb ich icp ist ie iw ipo iz irr iti io iri ima iha iph inh : Nat} {st : Store} {Q : VK} {E : XK} {b : Bk}
theorem setting_ok (h : G.fns ist = some hSetting) {bs : List Bool} {n : Nat} (hn : bs.length = n) (hl : n ≤ 100) (hQ : ∀ st', Ext st st' → Q (.bl true) st') : wpFn G (k + 1) ist [setD bs, .int n] st Q E := by
  have hL : LINE = 16777216 := rfl
  refine wpFn_i h ?_
  simp only [hSetting, start, setD]
  refine ⟨rfl, ?_⟩
  walk_at "st"
  have e1 : (((bs.map D.bl).length : Int) == (n : Int)) = true := by rw [List.length_map, hn]; simp
  simp only [e1, if_true]
  walk_at "ex"
  refine comp_of D.bl (fun o' => .bl true) bs [] st (fun st'' y a ha => by cases ha) (fun t ht st'' K y1 hK => hK st'' .refl) (by simp only [List.length_nil]; walk_at "om") fun st2 y2 => ?_
  rw [List.nil_append]
  refine newE (by simp only [List.length_map]; walk_at "om") fun pp st3 y3 hpp hpp3 => ?_
  walk_at "ex"
  rw [lstAt_lst hpp3, bools_true, optK_some]
  have e2 : (bs.map fun o' => true).all id = true := by simp
  rw [e2]
  exact hQ st3 (y2.trans y3)
theorem checked_ok (h : G.fns ich = some (hChecked ibk)) (hb : BookB G ibk kb b) (hQ : ∀ st', Ext st st' → Q b.d st') : wpFn G (k + kb + 1) ich [b.d] st Q E := by
  refine wpFn_i h ?_
  simp only [hChecked, start]
  refine ⟨rfl, ?_⟩
  walk_at "st"
  refine hb k _ _ _ fun st1 x1 => ?_
  walk_at "ex"
  simp only [wpSs_nil]
  walk_at "st"
  exact hQ st1 x1
end
end L3
end
section
namespace L3
open PySem
theorem rangeD_eq (n : Nat) : rangeD 0 n = (List.range n).map fun k => D.int (k : Nat) := by
  unfold rangeD; congr 1; funext k; simp
section
variable {G : Prog} {ih l : Nat} {names : List (List Nat)} {play : List (List Bool)}
end
end L3
end
section
namespace L3
open PySem
theorem pure_set (bs : List Bool) : pureD (setD bs) = true := by
  simp only [setD, pureD]
  induction bs with
  | nil => rfl
  | cons a l ih => simp only [List.map_cons, pureDs, pureD, ih, Bool.and_self]
theorem dep_set (bs : List Bool) : depD (setD bs) ≤ 1 := by
  simp only [setD, depD]
  have : depDs (bs.map D.bl) = 0 := by
    induction bs with
    | nil => rfl
    | cons a l ih => simp only [List.map_cons, depDs, depD, ih]; rfl
  walk_at "om"
theorem pures_sets (play : List (List Bool)) : pureDs (play.map setD) = true ∧ depDs (play.map setD) ≤ 1 := by
  induction play with
  | nil => exact ⟨rfl, by simp [depDs]⟩
  | cons a l ih =>
    have := dep_set a
    simp only [List.map_cons, pureDs, pure_set, ih.1, Bool.and_self, depDs, true_and]
    walk_at "om"
theorem plain_play {st : Store} {p : Nat} {play : List (List Bool)} (h : st p = some (.lst (play.map setD))) : plainS st (.ref p) := by
  refine ⟨?_, Nat.zero_le _⟩
  have q := pures_sets play
  simp only [pureS, h, okL, q.1, Bool.true_and, decide_eq_true_eq]
  have : (1 : Nat) ≤ DEEP := by decide
  walk_at "om"
section
variable {G : Prog} {k i ip ibp ih : Nat} {st : Store} {Q : VK} {E : XK} {b : Bk}
end
end L3
end
section
namespace L3
open PySem
noncomputable def hProm (is inx : Nat) : Fn := ⟨5, 7, [.asg (.nm 5) (.call is [(.v 0), (.v 1), (.v 2), (.c (.int 1)), (.lst [(.c (.int 0))])]), .iff (.and_ (.cmp .gt (.ix (.v 4) (.c (.int 0))) (.c (.int 0))) (.cmp .eq (.call inx [(.v 0), (.v 1), (.c (.int 2))]) (.c (.int 1)))) [.asg (.ix (.v 4) (.c (.int 0))) (.bin .sub (.ix (.v 4) (.c (.int 0))) (.c (.int 1))), .asg (.nm 6) (.call is [(.v 0), (.v 1), (.v 3), (.c (.int 1)), (.lst [(.c (.int 0))])]), .ret (.tup [(.ix (.lst [(.c (.str (W "then"))), (.c (.str (W "or"))), (.c (.str (W "same")))]) (.call inx [(.v 0), (.v 1), (.c (.int 3))])), (.tup [(.c (.str (W "before"))), (.v 6)]), (.v 5)])] [], .ret (.v 5)]⟩
noncomputable def hBook (inm inx is ipr : Nat) : Fn := ⟨4, 14, [.asg (.nm 4) (.lst [(.v 1)]), .asg (.tp [5, 6]) (.call inm [(.v 0), (.v 4)]), .asg (.nm 7) (.bin .add (.v 5) (.v 6)), .asg (.nm 8) (.lst [(.call inx [(.v 0), (.v 4), (.bin .add (.v 2) (.c (.int 1)))])]), .asg (.nm 9) (.lst []), .forr (.nm 10) (some .range) [(.bin .add (.c (.int 1)) (.call inx [(.v 0), (.v 4), (.c (.int 3))]))] [.asg (.nm 11) (.bin .add (.c (.int 1)) (.call inx [(.v 0), (.v 4), (.ix (.lst [(.c (.int 3)), (.c (.int 9)), (.c (.int 99))]) (.call inx [(.v 0), (.v 4), (.c (.int 3))]))])), .ex (.meth .append (.v 9) [(.tup [(.v 11), (.call is [(.v 0), (.v 4), (.v 7), (.c (.int 2)), (.v 8)])])])], .asg (.nm 12) (.comp 1 [0, 4, 7, 8] [0] true (some .range) [(.call inx [(.v 0), (.v 4), (.bin .add (.v 3) (.c (.int 1)))])] [] (.call is [(.v 1), (.v 2), (.v 3), (.c (.int 2)), (.v 4)])), .asg (.nm 13) (.comp 1 [0, 4, 5, 7, 8] [0] true (some .range) [(.call inx [(.v 0), (.v 4), (.c (.int 2))])] [] (.call ipr [(.v 1), (.v 2), (.v 3), (.v 4), (.v 5)])), .ret (.tup [(.v 5), (.v 6), (.bi .tuple [(.v 13)]), (.bi .tuple [(.v 12)]), (.bi .tuple [(.v 9)])])]⟩
section
variable {G : Prog} {k i im ic : Nat} {st : Store} {Q : VK} {E : XK} {ns : List Int}
end
end L3
end
section
namespace L3
open PySem
theorem over_mono {f g : List (List Nat)} (h : ∀ n ∈ f, n ∈ g) : ∀ s : Sy, over f s → over g s
  | .yes, _ => trivial
  | .no, _ => trivial
  | .lamp _, q => h _ q
  | .one w s, q => over_mono h s q
  | .two w s t, q => ⟨over_mono h s q.1, over_mono h t q.2⟩
theorem bare_over {fs gs : List (List Nat)} (h : ∀ n ∈ fs, n ∉ gs) : ∀ s : Sy, over fs s → bareB gs s = false
  | .yes, _ => rfl
  | .no, _ => rfl
  | .lamp n, q => by
    simp only [bareB, List.any_eq_false]
    intro x hx e
    have := h n q
    rw [← eq_of_beq e] at this
    exact this hx
  | .one w s, q => by cases w <;> first | rfl | exact bare_over h s q
  | .two w s t, q => by simp only [bareB, bare_over h s q.1, bare_over h t q.2, Bool.or_self]
section
variable {G : Prog} {k ic im inx is ipr : Nat} {st : Store} {Q : VK} {E : XK} {ns : List Int}
theorem prom_ok (h : G.fns ipr = some (hProm is inx)) (hs : G.fns is = some (hSaying inx is)) (hn : G.fns inx = some (hNext im)) (hm : G.fns im = some (hMixed ic)) (hc : G.fns ic = some hCell) {fs gs : List (List Nat)} (hf : 0 < fs.length) (hdis : ∀ n ∈ fs, n ∉ gs) {a b : Nat} (hab : a ≠ b) {i l : Int}
    (ha : st a = some (.lst [.int i])) (hb : st b = some (.lst [.int l])) (hi : 0 ≤ i) (hl : 0 ≤ l)
    (hQ : ∀ s st' i', over (fs ++ gs) s → bareB gs s = false → dep s ≤ 4 → (cnt s : Int) ≤ l → Keep [a, b] st st' → 0 ≤ i' → st' a = some (.lst [.int i']) → st' b = some (.lst [.int (l - cnt s)]) → Q (toD s) st') :
    wpFn G (k + 6) ipr [.mlst (ns.map .int), .ref a, .tup (fs.map .str), .tup ((fs ++ gs).map .str), .ref b] st Q E := by
  refine wpFn_i h ?_
  simp only [hProm, start]
  refine ⟨rfl, ?_⟩
  have hfm : ∀ n ∈ fs, n ∈ fs ++ gs := fun n hn => by simp [hn]
  walk_at "st"
  refine newE (by decide) fun z st1 x1 hz hz1 => ?_
  have za : a ≠ z := fun e => by rw [← e, ha] at hz; cases hz
  have zb : b ≠ z := fun e => by rw [← e, hb] at hz; cases hz
  have zz : ∀ c o, st c = some o → c ≠ z := fun c o e q => by rw [q, hz] at e; cases e
  refine saying_ok (k := k) hs hn hm hc hf za 1 (x1 _ _ ha) hz1 hi (by walk_at "om") fun s st2 i2 o1 d1 c1' k2 hi2 a2 z2 => ?_
  have cs : cnt s = 0 := by walk_at "om"
  have b2 : st2 b = some (.lst [.int l]) := k2 b _ (by simp [hab.symm, zb]) (x1 _ _ hb)
  have kk2 : Keep [a, b] st st2 := fun c o nc e => k2 c o (by simp only [List.mem_cons, List.not_mem_nil, or_false, not_or] at nc ⊢; exact ⟨nc.1, zz c o e⟩) (x1 _ _ e)
  have base : ∀ st3 i3, Keep [a, b] st2 st3 → 0 ≤ i3 → st3 a = some (.lst [.int i3]) → st3 b = some (.lst [.int l]) → Q (toD s) st3 := fun st3 i3 k3 h3 a3 b3 =>
    hQ s st3 i3 (over_mono hfm s o1) (bare_over hdis s o1) (by walk_at "om") (by walk_at "om") (kk2.trans k3) h3 a3 (by rw [cs]; simpa using b3)
  walk_at "st"
  rw [ix_lst b2, at_0, optK_some]
  walk_at "ex"
  by_cases hl0 : 0 < l
  · rw [if_pos hl0]
    refine next_ok (k := k + 2) hn hm hc a2 hi2 (by walk_at "om") fun st3 k3 a3 => ?_
    have b3 : st3 b = some (.lst [.int l]) := k3 b _ (by simpa using hab.symm) b2
    walk_at "ex"
    generalize hv : mixV ns (i2 + 1) 2 = v
    cases hv1 : (v == 1) with
    | true =>
      simp only [if_true]
      walk_at "st"
      rw [ix_lst b3, at_0, optK_some]
      walk_at "ex"
      rw [lstAt_lst b3, ixN_0, optK_some]
      generalize hst4 : put st3 b _ = st4
      have b4 : st4 b = some (.lst [.int (l - 1)]) := by rw [← hst4, put_same]; rfl
      have a4 : st4 a = some (.lst [.int (i2 + 1)]) := by rw [← hst4, put_ne hab]; exact a3
      have k4 : Keep [a, b] st3 st4 := by rw [← hst4]; exact Keep.put (by simp)
      walk_at "st"
      refine newE (by decide) fun y st5 x5 hy hy5 => ?_
      have ya : a ≠ y := fun e => by rw [← e, a4] at hy; cases hy
      have yb : b ≠ y := fun e => by rw [← e, b4] at hy; cases hy
      have yy : ∀ c o, st4 c = some o → c ≠ y := fun c o e q => by rw [q, hy] at e; cases e
      refine saying_ok (k := k) hs hn hm hc (by simp; walk_at "om") ya 1 (x5 _ _ a4) hy5 (by walk_at "om") (by walk_at "om") fun s2 st6 i6 o6 d6 c6 k6 hi6 a6 y6 => ?_
      have cs2 : cnt s2 = 0 := by walk_at "om"
      have b6 : st6 b = some (.lst [.int (l - 1)]) := k6 b _ (by simp [hab.symm, yb]) (x5 _ _ b4)
      have kk6 : Keep [a, b] st4 st6 := fun c o nc e => k6 c o (by simp only [List.mem_cons, List.not_mem_nil, or_false, not_or] at nc ⊢; exact ⟨nc.1, yy c o e⟩) (x5 _ _ e)
      walk_at "st"
      refine newE (by decide) fun u st7 x7 hu hu7 => ?_
      walk_at "ex"
      refine next_ok (k := k + 2) hn hm hc (x7 _ _ a6) hi6 (by walk_at "om") fun st8 k8 a8 => ?_
      have u8 : st8 u = some (.lst [.str (W "then"), .str (W "or"), .str (W "same")]) := k8 u _ (by
        intro z'
        simp only [List.mem_singleton] at z'
        rw [z', a6] at hu; cases hu) hu7
      have w0 := mixV_lo (ns := ns) (k := i6 + 1) (many := 3) (by walk_at "om")
      have w1 := mixV_hi (ns := ns) (k := i6 + 1) (many := 3) (by walk_at "om")
      generalize mixV ns (i6 + 1) 3 = w at w0 w1
      have b8 : st8 b = some (.lst [.int (l - 1)]) := k8 b _ (by simpa using hab.symm) (x7 _ _ b6)
      have kk8 : Keep [a, b] st st8 := ((((kk2.trans (k3.mono (by simp))).trans k4).trans kk6).trans x7.keep).trans (k8.mono (by simp))
      have fin : ∀ W2', p2 W2' = false → dep (Sy.two W2' (.one .before s2) s) ≤ 4 → Q (toD (Sy.two W2' (.one .before s2) s)) st8 := fun W2' hp2 hdp => by
        have hcn : cnt (Sy.two W2' (.one .before s2) s) = 1 := by simp [cnt, hp2, p1, cs, cs2]
        refine hQ _ st8 (i6 + 1) ⟨o6, over_mono hfm s o1⟩ ?_ hdp (by rw [hcn]; walk_at "om") kk8 (by walk_at "om") a8 (by rw [hcn]; exact b8)
        simp only [bareB, bare_over hdis s o1, Bool.or_self]
      walk_at "ex"
      have hdp : ∀ W2', dep (Sy.two W2' (.one .before s2) s) ≤ 4 := fun W2' => by simp only [dep]; walk_at "om"
      have hw : w = 0 ∨ w = 1 ∨ w = 2 := by walk_at "om"
      rcases hw with rfl | rfl | rfl
      · rw [ix_lst u8, at_0, optK_some]; exact fin .thn rfl (hdp _)
      · rw [ix_lst u8, at_1, optK_some]; exact fin .or rfl (hdp _)
      · rw [ix_lst u8, at_2, optK_some]; exact fin .same rfl (hdp _)
    | false =>
      simp only [Bool.false_eq_true, if_false, wpSs_nil]
      walk_at "st"
      exact base st3 (i2 + 1) (k3.mono (by simp)) (by walk_at "om") a3 b3
  · rw [if_neg hl0]
    (try rw [if_neg hl0])
    (try simp only [decide_eq_false hl0, Bool.false_eq_true, if_false])
    rw [wpSs_nil]
    walk_at "st"
    exact base st2 i2 .refl hi2 a2 b2
end
end L3
end
section
namespace L3
open PySem
section
variable {d : D} {r : St} {R : D → Prop} {o0 o1 o2 o3 o4 o5 o6 o7 o8 o9 o10 o11 o12 : Option D}
end
theorem ok_names {fs gs : List (List Nat)} (h : okNames fs gs = true) : 1 ≤ fs.length ∧ fs.length ≤ 2 ∧ 1 ≤ gs.length ∧ gs.length ≤ 2 ∧ (fs ++ gs).Nodup ∧ ∀ n ∈ fs ++ gs, n ∈ some8 := by
  simp only [okNames, Bool.and_eq_true, decide_eq_true_eq, List.all_eq_true] at h
  obtain ⟨⟨⟨⟨⟨a, b⟩, c⟩, d⟩, e⟩, f⟩ := h
  exact ⟨a, b, c, d, e, fun n hn => by simpa using f n hn⟩
theorem some8_name : ∀ n ∈ some8, nameB n = true := by decide +kernel
noncomputable def cntL (l : List Sy) : Nat := (l.map cnt).sum
theorem cntL_append (a b : List Sy) : cntL (a ++ b) = cntL a + cntL b := by simp [cntL]
theorem addP_cnt (f : List Sy) (s : Sy) : (addP f s).length ≤ f.length + (if isPast s = true then 1 else 0) := by
  unfold addP
  cases h : isPast s with
  | true => simp only [Bool.true_and, if_true]; split <;> simp
  | false => simp
theorem pcs_cnt : ∀ (s : Sy) (f : List Sy), (pcs s f).length ≤ f.length + cnt s
  | .yes, f => by simp [pcs]
  | .no, f => by simp [pcs]
  | .lamp _, f => by simp [pcs]
  | .one w s, f => by
    have h1 := pcs_cnt s (addP f (.one w s))
    have h2 := addP_cnt f (.one w s)
    simp only [isPast] at h2
    simp only [pcs, cnt]
    cases h : p1 w <;> simp [h] at h2 ⊢ <;> walk_at "om"
  | .two w s t, f => by
    have h1 := pcs_cnt s (addP f (.two w s t))
    have h2 := addP_cnt f (.two w s t)
    have h3 := pcs_cnt t (pcs s (addP f (.two w s t)))
    simp only [isPast] at h2
    simp only [pcs, cnt]
    cases h : p2 w <;> simp [h] at h2 ⊢ <;> walk_at "om"
theorem pcsL_cnt : ∀ (l f : List Sy), (pcsL l f).length ≤ f.length + cntL l
  | [], f => by simp [pcsL, cntL]
  | s :: l, f => by
    have h1 := pcsL_cnt l (pcs s f)
    have h2 := pcs_cnt s f
    have : cntL (s :: l) = cnt s + cntL l := by simp [cntL]
    simp only [pcsL]; walk_at "om"
structure Drw (b : Bk) (pieces musts : Int) : Prop where
  ok : b.Ok
  d4 : ∀ s ∈ b.says, dep s ≤ 4
  ms : (b.ms.length : Int) ≤ musts
  cn : (cntL b.says : Int) ≤ pieces
  n8 : ∀ n ∈ b.names, n ∈ some8
noncomputable abbrev bσ (at_ pieces musts : Int) (ns : List Int) (fs gs : List (List Nat)) (m lf wl : Nat) (o10 o11 o12 o13 : Option D) : St := [some (.mlst (ns.map .int)), some (.int at_), some (.int pieces), some (.int musts), some (.ref m), some (.tup (fs.map .str)), some (.tup (gs.map .str)), some (.tup ((fs ++ gs).map .str)), some (.ref lf), some (.ref wl), o10, o11, o12, o13]
inductive WI (σ0 : Option D → Option D → St) (names : List (List Nat)) (m lf wl : Nat) (st6 : Store) (lv v : Int) (rest : List Nat) (σ : St) (st' : Store) : Prop
  | mk (j : Nat) (o10 o11 : Option D) (i' : Int) (ws : List (Int × Sy)) (e1 : rest = (List.range (1 + v).toNat).drop j) (e2 : σ = σ0 o10 o11) (q1 : Keep [m, lf, wl] st6 st') (q2 : 0 ≤ i') (q3 : st' m = some (.lst [.int i'])) (q4 : st' lf = some (.lst [.int (lv - cntL (ws.map (·.2)))])) (q5 : (cntL (ws.map (·.2)) : Int) ≤ lv) (q6 : st' wl = some (.lst (ws.map fun w : Int × Sy => .tup [.int w.1, toD w.2]))) (q7 : ws.length = j) (q7' : j ≤ (1 + v).toNat) (q8 : ∀ w ∈ ws, 1 ≤ w.1 ∧ w.1 ≤ 99 ∧ over names w.2 ∧ dep w.2 ≤ 3)
theorem bkI {a b c : Nat} {x : Int} (h : (a : Int) ≤ x) (h' : (b : Int) ≤ x - a) : ((a + b : Nat) : Int) ≤ x := by walk_at "om"
theorem bkS {a b : Nat} {x : Int} : x - (a : Int) - (b : Int) = x - ((a + b : Nat) : Int) := by walk_at "om"
theorem bkZ {b : Nat} {x : Int} (h : (b : Int) ≤ x) : 0 ≤ x - (b : Int) := by walk_at "om"
theorem draws {turn : D → Store → (Option D → Store → Prop) → Prop} {R : List D → Store → Prop} {m lf : Nat} {ok : Sy → Prop} {st0 : Store}
    (ht : ∀ (x : D) (st : Store) (K : Option D → Store → Prop) (i c : Int), 0 ≤ i → 0 ≤ c → st m = some (.lst [.int i]) → st lf = some (.lst [.int c]) → (∀ s st' i', ok s → (cnt s : Int) ≤ c → Keep [m, lf] st st' → 0 ≤ i' → st' m = some (.lst [.int i']) → st' lf = some (.lst [.int (c - cnt s)]) → K (some (toD s)) st') → turn x st K) :
    ∀ (xs : List D) (ss : List Sy) {st : Store} {i c : Int}, 0 ≤ i → 0 ≤ c → st m = some (.lst [.int i]) → st lf = some (.lst [.int c]) → ss.length + xs.length < LINE →
      (∀ ss' st' i', (∀ s ∈ ss', ok s) → ss'.length = xs.length → (cntL ss' : Int) ≤ c → Keep [m, lf] st st' → 0 ≤ i' → st' m = some (.lst [.int i']) → st' lf = some (.lst [.int (c - cntL ss')]) → R ((ss ++ ss').map toD) st') →
      compW (same [] st0) turn xs (ss.map toD) st R
  | [], ss, st, i, c, hi, hc, hm, hl, hn, h => ⟨same_nil, by have q := h [] st i (fun o' h => nomatch h) rfl (by simpa [cntL] using hc) .refl hi hm (by simpa [cntL] using hl); rw [List.append_nil] at q; exact q⟩
  | x :: xs, ss, st, i, c, hi, hc, hm, hl, hn, h => ⟨same_nil, by rw [List.length_map]; simp only [List.length_cons] at hn; walk_at "om", ht x st _ i c hi hc hm hl fun s st' i' o1 o2 k1 hi' m1 l1 => by
    have q := draws (st0 := st0) ht xs (ss ++ [s]) hi' (bkZ o2) m1 l1 (by simp only [List.length_append, List.length_cons, List.length_nil] at hn ⊢; walk_at "om") (fun ss' st'' i'' p1 p2 p3 p4 p5 p6 p7 => by
      have e : cntL (s :: ss') = cnt s + cntL ss' := by simp [cntL]
      have z := h (s :: ss') st'' i'' (fun s' hs' => by
        rcases List.mem_cons.mp hs' with rfl | hs'
        · exact o1
        · exact p1 s' hs') (by simp [p2]) (by rw [e]; exact bkI (c := 0) o2 p3) (k1.trans p4) p5 p6 (by rw [e, ← bkS]; exact p7)
      rw [List.append_assoc]
      exact z)
    rw [List.map_append] at q
    exact q⟩
section
variable {G : Prog} {k i inm ic im inx is ipr : Nat} {st : Store} {Q : VK} {E : XK} {ns : List Int}
theorem bk62 {v : Int} {n : Int} (h0 : 0 ≤ v) (h1 : v < n) (hn : n ≤ 4) : small62 v := by unfold small62; walk_at "om"
theorem bkN {v : Int} {n : Int} {a : Nat} (e : a = v.toNat) (h1 : v < n) (hn : n ≤ 4) : a ≤ 3 := by walk_at "om"
theorem bkM {v n : Int} {a : Nat} (e : a = v.toNat) (h0 : 0 ≤ v) (h1 : v < n + 1) : (a : Int) ≤ n := by walk_at "om"
theorem bkL {a b c : Nat} {x y : Int} (h : (a : Int) ≤ x - c - b) (h' : x < y + 1) : ((a + b + c : Nat) : Int) ≤ y := by walk_at "om"
theorem bk3 {a : Nat} (h : a ≤ 3) : a ≤ LINE := Nat.le_trans h (by decide)
theorem book_tail (hp : G.fns ipr = some (hProm is inx)) (hs : G.fns is = some (hSaying inx is)) (hn : G.fns inx = some (hNext im)) (hm : G.fns im = some (hMixed ic)) (hc : G.fns ic = some hCell) {fs gs : List (List Nat)} (f1 : 0 < fs.length) (fpos : 0 < (fs ++ gs).length) (hdis : ∀ n ∈ fs, n ∉ gs) {m lf wl : Nat} (mlf : m ≠ lf) (mwl : m ≠ wl) (lfwl : lf ≠ wl) {at_ pieces musts i' c : Int} (hmu : 0 ≤ musts) (hmu3 : musts ≤ 3) {ws : List (Int × Sy)} {o10 o11 : Option D} (q2 : 0 ≤ i') (q3 : st m = some (.lst [.int i'])) (q4 : st lf = some (.lst [.int c])) (hc0 : 0 ≤ c) (q6 : st wl = some (.lst (ws.map fun w : Int × Sy => .tup [.int w.1, toD w.2]))) (hws : ws.length ≤ 3)
    (hQ : ∀ ps ms st', (∀ s ∈ ms, over (fs ++ gs) s ∧ dep s ≤ 3) → (ms.length : Int) ≤ musts → ms.length ≤ 3 → (∀ s ∈ ps, over (fs ++ gs) s ∧ dep s ≤ 4 ∧ bareB gs s = false) → ps.length ≤ 3 → (cntL ms : Int) ≤ c → (cntL ps : Int) ≤ c - cntL ms → Keep [m, lf] st st' → Q (Bk.d ⟨fs, gs, ps, ms, ws⟩) st') :
    wpSs (wpFn G (k + 6)) G.sub ((hBook inm inx is ipr).body.drop 6) ⟨fun o' st' => Q .non st', Q, fun o' o' => False, fun o' o' => False, fun c o' st' => E c st'⟩ (bσ at_ pieces musts ns fs gs m lf wl o10 o11 none none) st := by
  simp only [hBook, List.drop_succ_cons, List.drop_zero, bσ]
  walk_at "st"
  refine next_ok (k := k + 3) hn hm hc q3 q2 (by walk_at "om") fun st7 k7 m7 => ?_
  have V2 := mixV_lo (ns := ns) (k := i' + 1) (many := musts + 1) (by walk_at "om")
  have V3 := mixV_hi (ns := ns) (k := i' + 1) (many := musts + 1) (by walk_at "om")
  generalize mixV ns (i' + 1) (musts + 1) = v2 at V2 V3
  walk_at "ex"
  have h4 : musts + 1 ≤ 4 := by walk_at "om"
  refine ⟨bk62 V2 V3 h4, ?_⟩
  have lf7 := k7 lf _ (by simpa using mlf.symm) q4
  have wl7 := k7 wl _ (by simpa using mwl.symm) q6
  refine draws (m := m) (lf := lf) (ok := fun s => over (fs ++ gs) s ∧ dep s ≤ 3) (fun x st' K i c hi hc' h1 h2 hK => ?_) _ [] (by walk_at "om") hc0 m7 lf7 ?_ fun ms st8 i8 z8 z7 z6 z2 z3 z4 z5 => ?_
  · exact saying_ok (k := k) hs hn hm hc fpos mlf 2 h1 h2 hi hc' fun s st8 i8 o8 d8 c8 k8 hi8 m8 lf8 => hK s st8 i8 ⟨o8, d8⟩ c8 k8 hi8 m8 lf8
  · simp only [List.length_nil, rangeD, List.length_map, List.length_range]; exact Nat.lt_of_le_of_lt (by rw [Nat.zero_add]; exact bkN rfl V3 h4) (by decide)
  simp only [rangeD, List.length_map, List.length_range] at z7
  have m3 := bkN z7 V3 h4
  refine newE (by rw [List.nil_append, List.length_map]; exact bk3 m3) fun ml st9 x9 hml ml9 => ?_
  walk_at "ex"
  have wl9 := x9 _ _ (z2 wl _ (by simp [mwl.symm, lfwl.symm]) wl7)
  walk_at "st"
  refine next_ok (k := k + 3) hn hm hc (x9 _ _ z4) z3 (by decide) fun sta ka ma => ?_
  have V4 := mixV_lo (ns := ns) (k := i8 + 1) (many := 2) (by decide)
  have V5 := mixV_hi (ns := ns) (k := i8 + 1) (many := 2) (by decide)
  generalize mixV ns (i8 + 1) 2 = v3 at V4 V5
  walk_at "ex"
  refine ⟨bk62 V4 V5 (by decide), ?_⟩
  have mml : m ≠ ml := fun z => by rw [← z, z4] at hml; cases hml
  have lfml : lf ≠ ml := fun z => by rw [← z, z5] at hml; cases hml
  have lfa := ka lf _ (by simpa using mlf.symm) (x9 _ _ z5)
  have wla := ka wl _ (by simpa using mwl.symm) wl9
  have mla := ka ml _ (by simpa using mml.symm) ml9
  refine draws (m := m) (lf := lf) (ok := fun s => over (fs ++ gs) s ∧ dep s ≤ 4 ∧ bareB gs s = false) (fun x st' K i c hi hc' h1 h2 hK => ?_) _ [] (by walk_at "om") (bkZ z6) ma lfa ?_ fun ps stb ib y8 y7 y6 y2 y3 y4 y5 => ?_
  · exact prom_ok (k := k) hp hs hn hm hc f1 hdis mlf h1 h2 hi hc' fun s st8 i8 o8 b8 d8 c8 k8 hi8 m8 lf8 => hK s st8 i8 ⟨o8, d8, b8⟩ c8 k8 hi8 m8 lf8
  · simp only [List.length_nil, rangeD, List.length_map, List.length_range]; exact Nat.lt_of_le_of_lt (by rw [Nat.zero_add]; exact bkN rfl V5 (by decide)) (by decide)
  simp only [rangeD, List.length_map, List.length_range] at y7
  have p3 := bkN y7 V5 (by decide)
  refine newE (by rw [List.nil_append, List.length_map]; exact bk3 p3) fun pl stc xc hpl plc => ?_
  walk_at "ex"
  have wlc := xc _ _ (y2 wl _ (by simp [mwl.symm, lfwl.symm]) wla)
  have mlc := xc _ _ (y2 ml _ (by simp [mml.symm, lfml.symm]) mla)
  simp only [List.nil_append] at plc mlc
  walk_at "st"
  rw [lstAt_lst plc]
  refine ⟨by rw [List.length_map]; exact bk3 p3, ?_⟩
  rw [lstAt_lst mlc]
  refine ⟨by rw [List.length_map]; exact bk3 m3, ?_⟩
  rw [lstAt_lst wlc]
  refine ⟨by rw [List.length_map]; exact bk3 hws, ?_⟩
  refine hQ ps ms stc z8 (bkM z7 V2 V3) m3 y8 p3 z6 y6 fun a o ha e => ?_
  have ha' := ha
  simp only [List.mem_cons, List.not_mem_nil, or_false, not_or] at ha'
  have t7 := k7 a o (by simpa using ha'.1) e
  have t9 := ka a o (by simpa using ha'.1) (x9 _ _ (z2 a o ha t7))
  exact xc _ _ (y2 a o ha t9)
theorem book_ok (h : G.fns i = some (hBook inm inx is ipr)) (hnm : G.fns inm = some (hNames inx)) (hp : G.fns ipr = some (hProm is inx)) (hs : G.fns is = some (hSaying inx is)) (hn : G.fns inx = some (hNext im)) (hm : G.fns im = some (hMixed ic)) (hc : G.fns ic = some hCell) {at_ pieces musts : Int} (ha : 0 ≤ at_) (hpi : 0 ≤ pieces) (hmu : 0 ≤ musts) (hmu3 : musts ≤ 3)
    (hQ : ∀ b st', Drw b pieces musts → Ext st st' → Q b.d st') : wpFn G (k + 7) i [.mlst (ns.map .int), .int at_, .int pieces, .int musts] st Q E := by
  have hL : LINE = 16777216 := rfl
  refine wpFn_i h ?_
  simp only [hBook, start]
  refine ⟨rfl, ?_⟩
  walk_at "st"
  refine newE (by show 1 ≤ LINE; decide) fun m st1 x1 hm0 m1 => ?_
  walk_at "st"
  refine names_ok (k := k + 2) hnm hn hm hc m1 ha fun fs gs st2 i2 hok k2 hi2 m2 => ?_
  obtain ⟨f1, f2, g1, g2, nd, n8⟩ := ok_names hok
  walk_at "ex"
  walk_at "st"
  refine ⟨by simp only [List.length_map]; walk_at "om", ?_⟩
  have en : (fs.map D.str ++ gs.map D.str) = (fs ++ gs).map .str := by simp
  rw [en]
  walk_at "st"
  refine next_ok (k := k + 3) hn hm hc m2 hi2 (by walk_at "om") fun st3 k3 m3 => ?_
  have L0 := mixV_lo (ns := ns) (k := i2 + 1) (many := pieces + 1) (by walk_at "om")
  have L1 := mixV_hi (ns := ns) (k := i2 + 1) (many := pieces + 1) (by walk_at "om")
  generalize mixV ns (i2 + 1) (pieces + 1) = lv at L0 L1
  refine newE (by show 1 ≤ LINE; decide) fun lf st4 x4 hlf lf4 => ?_
  have m4 := x4 _ _ m3
  have mlf : m ≠ lf := fun z => by rw [← z, m3] at hlf; cases hlf
  have old3 : ∀ a o, st a = some o → st3 a = some o := fun a o e => by
    have hma : a ≠ m := fun z => by rw [z, hm0] at e; cases e
    exact k3 a o (by simpa using hma) (k2 a o (by simpa using hma) (x1 _ _ e))
  have old4 : ∀ a o, st a = some o → st4 a = some o ∧ a ≠ m ∧ a ≠ lf := fun a o e => ⟨x4 _ _ (old3 a o e), fun z => (by rw [z, hm0] at e; cases e), fun z => (by rw [← z, old3 a o e] at hlf; cases hlf)⟩
  walk_at "ex"
  walk_at "st"
  refine newE (by simp) fun wl st5 x5 hwl wl5 => ?_
  have m5 := x5 _ _ m4
  have lf5 := x5 _ _ lf4
  have mwl : m ≠ wl := fun z => by rw [← z, m4] at hwl; cases hwl
  have lfwl : lf ≠ wl := fun z => by rw [← z, lf4] at hwl; cases hwl
  have old5 : ∀ a o, st a = some o → st5 a = some o ∧ a ≠ m ∧ a ≠ lf ∧ a ≠ wl := fun a o e => by
    obtain ⟨q1, q2, q3⟩ := old4 a o e
    exact ⟨x5 _ _ q1, q2, q3, fun z => by rw [← z, q1] at hwl; cases hwl⟩
  walk_at "ex"
  walk_at "st"
  refine next_ok (k := k + 3) hn hm hc m5 (by walk_at "om") (by walk_at "om") fun st6 k6 m6 => ?_
  have V0 := mixV_lo (ns := ns) (k := i2 + 1 + 1) (many := 3) (by walk_at "om")
  have V1 := mixV_hi (ns := ns) (k := i2 + 1 + 1) (many := 3) (by walk_at "om")
  generalize mixV ns (i2 + 1 + 1) 3 = v at V0 V1
  have lf6 := k6 lf _ (by simpa using mlf.symm) lf5
  have wl6 := k6 wl _ (by simpa using mwl.symm) wl5
  walk_at "ex"
  refine ⟨by unfold small62; walk_at "om", ?_⟩
  rw [rangeD_eq]
  have hname : ∀ n ∈ fs ++ gs, nameB n = true := fun n hn' => some8_name n (n8 n hn')
  have fpos : 0 < (fs ++ gs).length := by simp; walk_at "om"
  have hdis : ∀ n ∈ fs, n ∉ gs := fun n h1 h2 => by
    rw [List.nodup_append] at nd
    exact nd.2.2 n h1 n h2 rfl
  refine for_of (fun j : Nat => D.int (j : Nat)) (I := WI (fun o10 o11 => bσ at_ pieces musts ns fs gs m lf wl o10 o11 none none) (fs ++ gs) m lf wl st6 lv v) (fun rest σ st' o' a ha => ?_) (fun x rest σ st' M ⟨j, o10, o11, i', ws, e1, e2, q1, q2, q3, q4, q5, q6, q7, q7', q8⟩ hM => ?_) (fun σ st' ⟨j, o10, o11, i', ws, e1, e2, q1, q2, q3, q4, q5, q6, q7, q7', q8⟩ => ?_) _ _ _ ⟨0, none, none, i2 + 1 + 1, [], rfl, rfl, .refl, by walk_at "om", m6, by simpa [cntL] using lf6, by simp [cntL]; walk_at "om", wl6, rfl, Nat.zero_le _, by simp⟩
  · cases ha
  · subst e2
    have hj : j < (List.range (1 + v).toNat).length := by
      by_cases z : j < (List.range (1 + v).toNat).length
      · exact z
      · rw [List.drop_eq_nil_of_le (by walk_at "om")] at e1; cases e1
    rw [List.drop_eq_getElem_cons hj] at e1
    injection e1 with e3 e4
    simp only [List.length_range] at hj
    simp only [bσ]
    walk_at "st"
    refine newE (by decide) fun u st7 x7 hu hu7 => ?_
    walk_at "ex"
    refine next_ok (k := k + 3) hn hm hc (x7 _ _ q3) q2 (by walk_at "om") fun st8 k8 m8 => ?_
    have um : u ≠ m := fun z => by rw [z, q3] at hu; cases hu
    have u8 := k8 u _ (by simpa using um) hu7
    have w0 := mixV_lo (ns := ns) (k := i' + 1) (many := 3) (by walk_at "om")
    have w1 := mixV_hi (ns := ns) (k := i' + 1) (many := 3) (by walk_at "om")
    generalize mixV ns (i' + 1) 3 = w at w0 w1
    have hpr : ∃ c : Int, 0 < c ∧ c ≤ 99 ∧ atI [D.int 3, D.int 9, D.int 99] w = some (.int c) := by
      have hw : w = 0 ∨ w = 1 ∨ w = 2 := by walk_at "om"
      rcases hw with rfl | rfl | rfl
      · exact ⟨3, by decide, by decide, at_0⟩
      · exact ⟨9, by decide, by decide, at_1⟩
      · exact ⟨99, by decide, by decide, at_2⟩
    obtain ⟨c, bkZ, c99, hc'⟩ := hpr
    rw [ix_lst u8, hc', optK_some]
    refine next_ok (k := k + 3) hn hm hc m8 (by walk_at "om") bkZ fun st9 k9 m9 => ?_
    have y0 := mixV_lo (ns := ns) (k := i' + 1 + 1) (many := c) (by walk_at "om")
    have y1 := mixV_hi (ns := ns) (k := i' + 1 + 1) (many := c) (by walk_at "om")
    generalize mixV ns (i' + 1 + 1) c = y at y0 y1
    walk_at "ex"
    have kk9 : Keep [m, lf, wl] st' st9 := (x7.keep.trans (k8.mono (by simp))).trans (k9.mono (by simp))
    have lf9 : st9 lf = some (.lst [.int (lv - cntL (ws.map (·.2)))]) := k9 lf _ (by simpa using mlf.symm) (k8 lf _ (by simpa using mlf.symm) (x7 _ _ q4))
    have wl9 : st9 wl = some (.lst (ws.map fun w : Int × Sy => .tup [.int w.1, toD w.2])) := k9 wl _ (by simpa using mwl.symm) (k8 wl _ (by simpa using mwl.symm) (x7 _ _ q6))
    walk_at "st"
    rw [lstAt_lst wl9]
    refine ⟨True.intro, ?_⟩
    refine saying_ok (k := k) hs hn hm hc fpos mlf 2 m9 lf9 (by walk_at "om") (by walk_at "om") fun s st10 i10 o10' d10 c10 k10 hi10 m10 lf10 => ?_
    have wl10 := k10 wl _ (by simp [mwl.symm, lfwl.symm]) wl9
    walk_at "ex"
    rw [lstAt_lst wl10]
    refine ⟨by simp only [List.length_map]; walk_at "om", ?_⟩
    simp only [wpSs_nil]
    have ec : cntL ((ws ++ [(1 + y, s)]).map (·.2)) = cntL (ws.map (·.2)) + cnt s := by rw [List.map_append, cntL_append]; simp [cntL]
    refine hM _ _ ⟨j + 1, _, _, i10, ws ++ [(1 + y, s)], e4, rfl, ?_, hi10, ?_, ?_, ?_, ?_, by simp [q7], by walk_at "om", fun w' hw' => ?_⟩
    · intro a o na e
      simp only [List.mem_cons, List.not_mem_nil, or_false, not_or] at na
      rw [put_ne na.2.2]
      exact k10 a o (by simp [na]) (kk9 a o (by simp [na]) (q1 a o (by simp [na]) e))
    · rw [put_ne mwl]; exact m10
    · rw [put_ne lfwl, lf10, ec]; simp; walk_at "om"
    · rw [ec]; simp; walk_at "om"
    · rw [put_same]; simp
    · rcases List.mem_append.mp hw' with hw' | hw'
      · exact q8 w' hw'
      · simp only [List.mem_singleton] at hw'; subst hw'
        exact ⟨by show 1 ≤ 1 + y; walk_at "om", by show 1 + y ≤ 99; walk_at "om", o10', d10⟩
  · -- musts
    subst e2
    have hj : (1 + v).toNat ≤ j := by
      by_cases z : j < (List.range (1 + v).toNat).length
      · rw [List.drop_eq_getElem_cons z] at e1; cases e1
      · simpa using z
    have hws : ws.length ≤ 3 := by walk_at "om"
    refine book_tail (k := k) (inm := inm) hp hs hn hm hc (by walk_at "om") fpos hdis mlf mwl lfwl hmu hmu3 q2 q3 q4 (by walk_at "om") q6 hws fun ps ms st8 z8 z7 m3 y8 p3 z6 y6 z2 => ?_
    have w1 : 1 ≤ ws.length := by walk_at "om"
    refine hQ ⟨fs, gs, ps, ms, ws⟩ st8 ⟨⟨f1, f2, g1, g2, nd, hname, p3, fun s hs' => ⟨(y8 s hs').1, Nat.le_trans (y8 s hs').2.1 (by decide)⟩, fun s hs' => (y8 s hs').2.2, m3, fun s hs' => ⟨(z8 s hs').1, Nat.le_trans (z8 s hs').2 (by decide)⟩, w1, Nat.le_trans hws (by decide), fun w hw => ⟨(q8 w hw).1, (q8 w hw).2.1, (q8 w hw).2.2.1, Nat.le_trans (q8 w hw).2.2.2 (by decide)⟩⟩, fun s hs' => ?_, z7, ?_, n8⟩ fun a o e => ?_
    · simp only [Bk.says, List.mem_append, List.mem_map] at hs'
      rcases hs' with (hs' | hs') | ⟨w, hw, rfl⟩
      · exact (y8 s hs').2.1
      · exact Nat.le_trans (z8 s hs').2 (by decide)
      · exact Nat.le_trans (q8 w hw).2.2.2 (by decide)
    · show ((cntL (ps ++ ms ++ ws.map (·.2)) : Nat) : Int) ≤ pieces
      rw [cntL_append, cntL_append]
      exact bkL y6 L1
    · obtain ⟨s1, s2, s3, s4⟩ := old5 a o e
      have t6 := k6 a o (by simpa using s2) s1
      exact z2 a o (by simp [s2, s3]) (q1 a o (by simp [s2, s3, s4]) t6)
end
end L3
end
section
namespace L3
open PySem
theorem szL_le {n : Nat} : ∀ (l : List Sy), (∀ s ∈ l, dep s ≤ 4) → szL l ≤ l.length * 15
  | [], _ => by simp [szL]
  | s :: l, h => by
    have h1 := sz_le s
    have h2 := h s (by simp)
    have h3 := szL_le (n := n) l fun x hx => h x (by simp [hx])
    have h4 : 2 ^ dep s ≤ 2 ^ 4 := Nat.pow_le_pow_right (by decide) h2
    rw [szL_cons]
    simp only [List.length_cons]
    walk_at "om"
theorem over_addP {names : List (List Nat)} {f : List Sy} {s : Sy} (hf : ∀ x ∈ f, over names x) (hs : over names s) : ∀ x ∈ addP f s, over names x := by
  unfold addP; split
  · intro x hx
    rcases List.mem_append.mp hx with hx | hx
    · exact hf x hx
    · simp only [List.mem_singleton] at hx; subst hx; exact hs
  · exact hf
theorem over_pcs {names : List (List Nat)} : ∀ (s : Sy) {f : List Sy}, (∀ x ∈ f, over names x) → over names s → ∀ x ∈ pcs s f, over names x
  | .yes, _, hf, _ => hf
  | .no, _, hf, _ => hf
  | .lamp _, _, hf, _ => hf
  | .one w s, _, hf, hs => over_pcs s (over_addP hf hs) hs
  | .two w s t, _, hf, hs => over_pcs t (over_pcs s (over_addP hf hs) hs.1) hs.2
theorem over_pcsL {names : List (List Nat)} : ∀ (l : List Sy) {f : List Sy}, (∀ x ∈ f, over names x) → (∀ s ∈ l, over names s) → ∀ x ∈ pcsL l f, over names x
  | [], _, hf, _ => hf
  | s :: l, _, hf, hl => over_pcsL l (over_pcs s hf (hl s (by simp))) fun x hx => hl x (by simp [hx])
section
variable {G : Prog} {k il ibo ipl imb ilm inm ic im inx is ipr ibk ich icp ist ie iw ipo iz irr iti io iri ima iha iph inh ibp ip ih : Nat} {st : Store} {E : XK} {ns : List Int}
theorem drw_facts {b : Bk} {pieces musts : Int} (DR : Drw b pieces musts) (hp : pieces ≤ 4) : szL b.says ≤ 200 ∧ (∀ x ∈ b.says, dep x ≤ 60) ∧ (pcsL b.says []).length ≤ 4 ∧ ∀ s ∈ pcsL b.says [], over b.names s ∧ dep s ≤ 8 := by
  have p1 := DR.ok.p1
  have m1 := DR.ok.m1
  have w2 := DR.ok.w2
  have hl : b.says.length ≤ 11 := by simp [Bk.says]; walk_at "om"
  refine ⟨?_, fun x hx => by have := DR.d4 x hx; walk_at "om", ?_, fun s hs => ⟨over_pcsL b.says (by simp) (fun s hs => (says_ok DR.ok s hs).1) s hs, pcsL_dep b.says (n := 8) (by simp) (fun x hx => by have := DR.d4 x hx; walk_at "om") s hs⟩⟩
  · have := szL_le (n := 0) b.says DR.d4; walk_at "om"
  · have := pcsL_cnt b.says []
    have h2 := DR.cn
    simp at this; walk_at "om"
end
end L3
end
section
namespace L3
open PySem
noncomputable def hSets : Fn := ⟨1, 5, [.asg (.nm 1) (.lst [(.tup [])]), .forr (.nm 2) (some .range) [(.bi .len [(.v 0)])] [.asg (.nm 3) (.lst []), .forr (.nm 4) none [(.v 1)] [.ex (.meth .append (.v 3) [(.bin .add (.v 4) (.tup [(.c (.bl false))]))]), .ex (.meth .append (.v 3) [(.bin .add (.v 4) (.tup [(.c (.bl true))]))])], .asg (.nm 1) (.v 3)], .ret (.v 1)]⟩
noncomputable def sets : Nat → List (List Bool)
  | 0 => [[]]
  | n + 1 => (sets n).flatMap fun r => [r ++ [false], r ++ [true]]
theorem sets_len : ∀ (n : Nat) (r : List Bool), r ∈ sets n → r.length = n
  | 0, r, h => by simp [sets] at h; subst h; rfl
  | n + 1, r, h => by
    simp only [sets, List.mem_flatMap, List.mem_cons, List.not_mem_nil, or_false] at h
    obtain ⟨q, hq, h | h⟩ := h <;> (subst h; simp [sets_len n q hq])
theorem sets_mem : ∀ (n : Nat) (r : List Bool), r.length = n → r ∈ sets n
  | 0, r, h => by simp at h; subst h; simp [sets]
  | n + 1, r, h => by
    simp only [sets, List.mem_flatMap, List.mem_cons, List.not_mem_nil, or_false]
    have hr : r ≠ [] := by intro z; rw [z] at h; cases h
    refine ⟨r.dropLast, sets_mem n _ (by simp [h]), ?_⟩
    have := List.dropLast_concat_getLast hr
    cases hb : r.getLast hr with
    | false => rw [hb] at this; exact .inl this.symm
    | true => rw [hb] at this; exact .inr this.symm
theorem sets_size : ∀ n : Nat, (sets n).length = 2 ^ n
  | 0 => rfl
  | n + 1 => by
    have h := sets_size n
    simp only [sets]
    have : ∀ l : List (List Bool), (l.flatMap fun r => [r ++ [false], r ++ [true]]).length = 2 * l.length := fun l => by
      induction l with
      | nil => rfl
      | cons a l ih => simp only [List.flatMap_cons, List.length_append, ih, List.length_cons, List.length_nil]; walk_at "om"
    rw [this, h, Nat.pow_succ]; walk_at "om"
inductive SetI (N : Nat) (hd : Option D) (st : Store) (rest : List Nat) (σ : St) (st' : Store) : Prop
  | mk (t q : Nat) (o2 o3 o4 : Option D) (e0 : t ≤ N) (e1 : rest = (List.range N).drop t) (e2 : σ = [hd, some (.ref q), o2, o3, o4]) (hq : st q = none) (x3 : Ext st st') (e5 : st' q = some (.lst ((sets t).map setD)))
inductive SetJ (t : Nat) (hd : Option D) (q x u : Nat) (st4 : Store) (rest2 : List (List Bool)) (σ : St) (st5 : Store) : Prop
  | mk (dn : List (List Bool)) (o4 : Option D) (f1 : sets t = dn ++ rest2) (f2 : σ = [hd, some (.ref q), some (.int (x : Nat)), some (.ref u), o4]) (f3 : Keep [u] st4 st5) (f4 : st5 u = some (.lst ((dn.flatMap fun r => [r ++ [false], r ++ [true]]).map setD)))
theorem flat2 (l : List (List Bool)) : (l.flatMap fun r => [r ++ [false], r ++ [true]]).length = 2 * l.length := by
  induction l with
  | nil => rfl
  | cons a l ih => simp only [List.flatMap_cons, List.length_append, ih, List.length_cons, List.length_nil]; walk_at "om"
theorem sets_16 {t : Nat} (h : t ≤ 4) : (sets t).length ≤ 16 := by
  rw [sets_size]; exact Nat.pow_le_pow_right (n := 2) (by decide) h
theorem drop_cons {N t x : Nat} {rest : List Nat} (h : x :: rest = (List.range N).drop t) : t < N ∧ rest = (List.range N).drop (t + 1) := by
  have ht : t < (List.range N).length := by
    by_cases z : t < (List.range N).length
    · exact z
    · rw [List.drop_eq_nil_of_le (by walk_at "om")] at h; cases h
  rw [List.drop_eq_getElem_cons ht] at h
  injection h with _ h
  exact ⟨by simpa using ht, h⟩
theorem drop_nil {N t : Nat} (h : [] = (List.range N).drop t) : N ≤ t := by
  by_cases z : t < (List.range N).length
  · rw [List.drop_eq_getElem_cons z] at h; cases h
  · simpa using z
theorem pre_len {l dn r : List (List Bool)} {n : Nat} (e : l = dn ++ r) (h : l.length ≤ n) : dn.length ≤ n := by
  rw [e, List.length_append] at h; walk_at "om"
section
variable {G : Prog} {k i : Nat} {st : Store} {Q : VK} {E : XK}
theorem sets_ok (h : G.fns i = some hSets) {ds : List D} (hd : ds.length ≤ 4) (hQ : ∀ p st', st p = none → Ext st st' → st' p = some (.lst ((sets ds.length).map setD)) → Q (.ref p) st') : wpFn G (k + 1) i [.tup ds] st Q E := by
  have hL : LINE = 16777216 := rfl
  refine wpFn_i h ?_
  simp only [hSets, start]
  refine ⟨rfl, ?_⟩
  walk_at "st"
  refine newE (by show 1 ≤ LINE; decide) fun p st1 x1 hp hp1 => ?_
  walk_at "st"
  refine ⟨by unfold small62; walk_at "om", ?_⟩
  rw [show ((ds.length : Int)).toNat = ds.length by walk_at "om", rangeD_eq]
  have p1 : st1 p = some (.lst ((sets 0).map setD)) := hp1
  refine for_of (fun j : Nat => D.int (j : Nat)) (I := SetI ds.length (some (.tup ds)) st) (fun rest σ st' o' a ha => ?_) (fun x rest σ st' M I hM => ?_) (fun σ st' I => ?_) _ _ _ ⟨0, p, none, none, none, Nat.zero_le _, rfl, rfl, hp, x1, p1⟩
  · cases ha
  · obtain ⟨t, q, o2, o3, o4, e0, e1, e2, hq, x3, e5⟩ := I
    subst e2
    obtain ⟨ht, e4⟩ := drop_cons e1
    have hsz : (sets t).length ≤ 16 := sets_16 (by walk_at "om")
    clear e1
    walk_at "st"
    refine newE (by simp) fun u st4 x4 hu hu4 => ?_
    have qu : q ≠ u := fun z => by rw [← z, e5] at hu; cases hu
    walk_at "st"
    rw [lstAt_lst (x4 _ _ e5)]
    refine for_of setD (I := SetJ t (some (.tup ds)) q x u st4) (fun rest2 σ st5 J => ?_) (fun y rest2 σ st5 M2 J hM2 => ?_) (fun σ st5 J => ?_) _ _ _ ⟨[], o4, rfl, rfl, .refl, hu4⟩
    · obtain ⟨dn, o4, f1, f2, f3, f4⟩ := J
      intro a ha
      simp only [List.mem_singleton] at ha
      subst ha
      rw [x4 _ _ e5, f3 _ _ (by simpa using qu) (x4 _ _ e5)]
    · obtain ⟨dn, o4, f1, f2, f3, f4⟩ := J
      subst f2
      have hl : (dn.flatMap fun r => [r ++ [false], r ++ [true]]).length ≤ 40 := by have := pre_len f1 hsz; rw [flat2]; walk_at "om"
      have hyl : y.length = t := sets_len t y (by rw [f1]; simp)
      simp only [setD]
      walk_at "st"
      rw [lstAt_lst f4]
      refine ⟨True.intro, by simp only [List.length_map]; walk_at "om", ?_⟩
      rw [lstAt_lst f4]
      refine ⟨by simp only [List.length_map]; walk_at "om", ?_⟩
      walk_at "st"
      rw [lstAt_lst put_same]
      refine ⟨True.intro, by simp only [List.length_map]; walk_at "om", ?_⟩
      rw [lstAt_lst put_same]
      refine ⟨by simp only [List.length_map, List.length_append, List.length_cons, List.length_nil]; walk_at "om", ?_⟩
      simp only [wpSs_nil]
      rw [put_put]
      refine hM2 _ _ ⟨dn ++ [y], _, by simp [f1], rfl, fun a o na e => by rw [put_ne (by simpa using na)]; exact f3 a o na e, ?_⟩
      rw [put_same]
      simp [setD, List.flatMap_append]
    · obtain ⟨dn, o4, f1, f2, f3, f4⟩ := J
      subst f2
      rw [List.append_nil] at f1
      walk_at "st"
      simp only [wpSs_nil]
      refine hM _ st5 ⟨t + 1, u, _, _, _, by walk_at "om", e4, rfl, ?_, fun a o e => f3 a o (fun z => ?_) (x4 _ _ (x3 _ _ e)), ?_⟩
      · cases hz : st u with
        | none => rfl
        | some o => rw [x3 _ _ hz] at hu; cases hu
      · simp only [List.mem_singleton] at z
        rw [z] at e
        rw [x3 _ _ e] at hu; cases hu
      · rw [f4, ← f1]; rfl
  · obtain ⟨t, q, o2, o3, o4, e0, e1, e2, hq, x3, e5⟩ := I
    subst e2
    have ht := drop_nil e1
    have et : t = ds.length := by walk_at "om"
    subst et
    walk_at "st"
    exact hQ q st' hq x3 e5
end
end L3
end
section
namespace L3
open PySem
noncomputable def hSets8 : Fn := ⟨1, 5, [.asg (.nm 1) (.lst [(.tup [])]), .forr (.nm 2) (some .range) [(.v 0)] [.asg (.nm 3) (.lst []), .forr (.nm 4) none [(.v 1)] [.ex (.meth .extend (.v 3) [(.lst [(.bin .add (.v 4) (.tup [(.c (.bl false))])), (.bin .add (.v 4) (.tup [(.c (.bl true))]))])])], .asg (.nm 1) (.v 3)], .ret (.v 1)]⟩
noncomputable def hPlaceN : Fn := ⟨2, 2, [.ret (.and_ (.isi (.v 0) [.int]) (.and_ (.not_ (.isi (.v 0) [.bool])) (.chain .le .lt (.c (.int 0)) (.v 0) (.v 1))))]⟩
noncomputable def hWay (ir ist ipl : Nat) : Fn := ⟨3, 3, [.ret (.and_ (.call ir [(.v 2), (.c (.int 2)), (.c (.int 2))]) (.and_ (.call ist [(.ix (.v 2) (.c (.int 0))), (.bi .len [(.ix (.v 0) (.c (.int 1)))])]) (.call ipl [(.ix (.v 2) (.c (.int 1))), (.v 1)])))]⟩
noncomputable def hStand (ise ir iwy : Nat) : Fn := ⟨3, 4, [.asg (.nm 3) (.bi .len [(.call ise [(.ix (.v 0) (.c (.int 0)))])]), .ret (.and_ (.call ir [(.v 2), (.v 3), (.v 3)]) (.bi .all [(.comp 1 [0, 1] [0] true none [(.v 2)] [] (.call iwy [(.v 1), (.v 2), (.v 0)]))]))]⟩
noncomputable def hMach (ir isd : Nat) (gs : D) : Fn := ⟨2, 2, [.ret (.and_ (.call ir [(.v 1), (.c (.int 1)), (.c gs)]) (.bi .all [(.comp 1 [0, 1] [0] true none [(.v 1)] [] (.call isd [(.v 1), (.bi .len [(.v 2)]), (.v 0)]))]))]⟩
noncomputable def hChMach (ich ima : Nat) : Fn := ⟨2, 2, [.ex (.call ich [(.v 0)]), .iff (.not_ (.call ima [(.v 0), (.v 1)])) [.rais 4 [(.c (.str (W "no machine for this book")))]] [], .ret (.v 1)]⟩
theorem eqS_set {st : Store} (a b : List Bool) : eqS st (setD a) (setD b) = decide (a = b) := by
  rw [eqSD _ _ (pure_set a)]
  show eqDs (a.map .bl) (b.map .bl) = decide (a = b)
  induction a generalizing b with
  | nil => cases b <;> simp [eqDs]
  | cons x a ih =>
    cases b with
    | nil => simp [eqDs]
    | cons y b =>
      show ((x == y) && eqDs (a.map .bl) (b.map .bl)) = _
      rw [ih]
      simp only [List.cons.injEq]
      by_cases h1 : x = y <;> by_cases h2 : a = b <;> simp [h1, h2]
theorem plain_set {st : Store} (a : List Bool) : plainS st (setD a) := ⟨pureS_of _ (pure_set a), Nat.le_trans (dep_set a) (by decide)⟩
theorem plains_sets {st : Store} (l : List (List Bool)) : plainSs st (l.map setD) := ⟨pureSs_of _ (pures_sets l).1, Nat.le_trans (pures_sets l).2 (by decide)⟩
theorem findD_set {st : Store} {m : List Bool} : ∀ {met : List (List Bool)}, m ∈ met → findD st (setD m) (met.map setD) = some (met.idxOf m)
  | [], h => by cases h
  | x :: r, h => by
    simp only [List.map_cons, findD, eqS_set]
    by_cases e : x = m
    · subst e; simp [List.idxOf_cons]
    · rw [if_neg (by simpa using e), findD_set (by simpa [Ne.symm e] using h)]
      rw [List.idxOf_cons, beq_eq_false_iff_ne.mpr e]; rfl
theorem add_sets {st : Store} {Q : VK} (a c : List Bool) : binW .add (setD a) (setD c) st Q = ((a.length + c.length ≤ LINE) ∧ Q (setD (a ++ c)) st) := by
  simp only [setD, add_tup, List.map_append, List.length_map]
noncomputable abbrev Mach := List (List (List Bool × Nat))
noncomputable def wayD (w : List Bool × Nat) : D := .tup [setD w.1, .int (w.2 : Nat)]
noncomputable def stdD (s : List (List Bool × Nat)) : D := .tup (s.map wayD)
noncomputable def machD (m : Mach) : D := .tup (m.map stdD)
structure MOk (n g : Nat) (m : Mach) : Prop where
  l1 : 1 ≤ m.length
  l2 : m.length ≤ 64
  sl : ∀ s ∈ m, s.length = 2 ^ n
  wf : ∀ s ∈ m, ∀ w ∈ s, w.1.length = g
  wn : ∀ s ∈ m, ∀ w ∈ s, w.2 < m.length
section
variable {G : Prog} {k i ir ist ipl ise iwy isd ich ibk kb ima : Nat} {st : Store} {Q : VK} {E : XK} {b : Bk}
theorem sets8_ok (h : G.fns i = some hSets8) {n : Nat} (hd : n ≤ 4) (hQ : ∀ p st', st p = none → Ext st st' → st' p = some (.lst ((sets n).map setD)) → Q (.ref p) st') : wpFn G (k + 1) i [.int (n : Nat)] st Q E := by
  have hL : LINE = 16777216 := rfl
  refine wpFn_i h ?_
  simp only [hSets8, start]
  refine ⟨rfl, ?_⟩
  walk_at "st"
  refine newE (by show 1 ≤ LINE; decide) fun p st1 x1 hp hp1 => ?_
  walk_at "st"
  refine ⟨by unfold small62; walk_at "om", ?_⟩
  rw [show ((n : Int)).toNat = n by walk_at "om", rangeD_eq]
  have p1 : st1 p = some (.lst ((sets 0).map setD)) := hp1
  refine for_of (fun j : Nat => D.int (j : Nat)) (I := SetI n (some (.int (n : Nat))) st) (fun rest σ st' o' a ha => ?_) (fun x rest σ st' M I hM => ?_) (fun σ st' I => ?_) _ _ _ ⟨0, p, none, none, none, Nat.zero_le _, rfl, rfl, hp, x1, p1⟩
  · cases ha
  · obtain ⟨t, q, o2, o3, o4, e0, e1, e2, hq, x3, e5⟩ := I
    subst e2
    obtain ⟨ht, e4⟩ := drop_cons e1
    have hsz : (sets t).length ≤ 16 := sets_16 (by walk_at "om")
    clear e1
    walk_at "st"
    refine newE (by simp) fun u st4 x4 hu hu4 => ?_
    have qu : q ≠ u := fun z => by rw [← z, e5] at hu; cases hu
    walk_at "st"
    rw [lstAt_lst (x4 _ _ e5)]
    refine for_of setD (I := SetJ t (some (.int (n : Nat))) q x u st4) (fun rest2 σ st5 J => ?_) (fun y rest2 σ st5 M2 J hM2 => ?_) (fun σ st5 J => ?_) _ _ _ ⟨[], o4, rfl, rfl, .refl, hu4⟩
    · obtain ⟨dn, o4, f1, f2, f3, f4⟩ := J
      intro a ha
      simp only [List.mem_singleton] at ha
      subst ha
      rw [x4 _ _ e5, f3 _ _ (by simpa using qu) (x4 _ _ e5)]
    · obtain ⟨dn, o4, f1, f2, f3, f4⟩ := J
      subst f2
      have hl : (dn.flatMap fun r => [r ++ [false], r ++ [true]]).length ≤ 40 := by have := pre_len f1 hsz; rw [flat2]; walk_at "om"
      have hyl : y.length = t := sets_len t y (by rw [f1]; simp)
      simp only [setD]
      walk_at "st"
      rw [lstAt_lst f4]
      refine ⟨True.intro, by simp only [List.length_map]; walk_at "om", by simp only [List.length_map]; walk_at "om", ?_⟩
      refine newE (by show 2 ≤ LINE; decide) fun w st6 x6 hw hw6 => ?_
      have wu : w ≠ u := fun z => by rw [z, f4] at hw; cases hw
      rw [lstAt_lst (x6 _ _ f4), own_ref, lstAt_lst hw6]
      refine ⟨by simp only [List.length_map, List.length_cons, List.length_nil]; walk_at "om", ?_⟩
      simp only [wpSs_nil]
      refine hM2 _ _ ⟨dn ++ [y], _, by simp [f1], rfl, fun a o na e => by rw [put_ne (by simpa using na)]; exact x6 _ _ (f3 a o na e), ?_⟩
      rw [put_same]
      simp [setD, List.flatMap_append]
    · obtain ⟨dn, o4, f1, f2, f3, f4⟩ := J
      subst f2
      rw [List.append_nil] at f1
      walk_at "st"
      simp only [wpSs_nil]
      refine hM _ st5 ⟨t + 1, u, _, _, _, by walk_at "om", e4, rfl, ?_, fun a o e => f3 a o (fun z => ?_) (x4 _ _ (x3 _ _ e)), ?_⟩
      · cases hz : st u with
        | none => rfl
        | some o => rw [x3 _ _ hz] at hu; cases hu
      · simp only [List.mem_singleton] at z
        rw [z] at e
        rw [x3 _ _ e] at hu; cases hu
      · rw [f4, ← f1]; rfl
  · obtain ⟨t, q, o2, o3, o4, e0, e1, e2, hq, x3, e5⟩ := I
    subst e2
    have ht := drop_nil e1
    have et : t = n := by walk_at "om"
    subst et
    walk_at "st"
    exact hQ q st' hq x3 e5
theorem is_place_ok (h : G.fns i = some hPlaceN) {a N : Nat} (ha : a < N) (hQ : Q (.bl true) st) : wpFn G (k + 1) i [.int (a : Nat), .int (N : Nat)] st Q E := by
  refine wpFn_i h ?_
  simp only [hPlaceN, start]
  refine ⟨rfl, ?_⟩
  walk_at "st"
  have h2 : ((a : Nat) : Int) < ((N : Nat) : Int) := by walk_at "om"
  rw [if_pos (by walk_at "om" : (0 : Int) ≤ ((a : Nat) : Int)), decide_eq_true h2]
  exact hQ
theorem is_way_ok (h : G.fns iwy = some (hWay ir ist ipl)) (hr : G.fns ir = some hIsRow) (hs : G.fns ist = some hSetting) (hp : G.fns ipl = some hPlaceN) (hg : b.gs.length ≤ 100) {N : Nat} {w : List Bool × Nat} (h1 : w.1.length = b.gs.length) (h2 : w.2 < N)
    (hQ : ∀ st', Ext st st' → Q (.bl true) st') : wpFn G (k + 2) iwy [b.d, .int (N : Nat), wayD w] st Q E := by
  refine wpFn_i h ?_
  simp only [hWay, start, wayD, Bk.d]
  refine ⟨rfl, ?_⟩
  walk_at "st"
  refine is_row_true hr (by simp only [List.length_cons, List.length_nil]; walk_at "om") (by simp only [List.length_cons, List.length_nil]; walk_at "om") ?_
  walk_at "ex"
  rw [List.length_map]
  refine setting_ok hs h1 hg fun st1 x1 => ?_
  walk_at "ex"
  exact is_place_ok hp h2 (hQ _ x1)
theorem is_stand_ok (h : G.fns isd = some (hStand ise ir iwy)) (hse : G.fns ise = some hSets) (hw : G.fns iwy = some (hWay ir ist ipl)) (hr : G.fns ir = some hIsRow) (hs : G.fns ist = some hSetting) (hp : G.fns ipl = some hPlaceN) (B : b.Ok) {N : Nat} {s : List (List Bool × Nat)} (h0 : s.length = 2 ^ b.fs.length) (h1 : ∀ w ∈ s, w.1.length = b.gs.length) (h2 : ∀ w ∈ s, w.2 < N)
    (hQ : ∀ st', Ext st st' → Q (.bl true) st') : wpFn G (k + 3) isd [b.d, .int (N : Nat), stdD s] st Q E := by
  have hL : LINE = 16777216 := rfl
  have f2 := B.f2
  have g2 := B.g2
  have h16 : s.length ≤ 16 := by rw [h0]; exact Nat.pow_le_pow_right (n := 2) (by decide) (by walk_at "om" : b.fs.length ≤ 4)
  refine wpFn_i h ?_
  simp only [hStand, start, stdD]
  refine ⟨rfl, ?_⟩
  rw [show b.d = .tup [.tup (b.fs.map .str), .tup (b.gs.map .str), .tup (b.ps.map toD), .tup (b.ms.map toD), .tup (b.ws.map fun w => .tup [.int w.1, toD w.2])] from rfl]
  walk_at "st"
  refine sets_ok (k := k + 1) hse (by rw [List.length_map]; walk_at "om") fun p st1 hp0 x1 hp1 => ?_
  walk_at "ex"
  rw [seqAt_lst hp1]
  walk_at "st"
  have el : (((sets (b.fs.map D.str).length).map setD).length : Int) = (s.length : Int) := by rw [List.length_map, sets_size, List.length_map, h0]
  rw [el]
  refine is_row_true hr (by rw [List.length_map]; walk_at "om") (by rw [List.length_map]; walk_at "om") ?_
  walk_at "ex"
  refine comp_of wayD (fun o' => .bl true) s [] st1 (fun st'' y a ha => by cases ha) (fun w hws st'' K y1 hK => ?_) (by simp only [List.length_nil]; walk_at "om") fun st2 y2 => ?_
  · exact is_way_ok hw hr hs hp (by walk_at "om") (h1 w hws) (h2 w hws) hK
  rw [List.nil_append]
  refine newE (by simp only [List.length_map]; walk_at "om") fun pp st3 y3 hpp hpp3 => ?_
  walk_at "ex"
  rw [lstAt_lst hpp3, bools_true, optK_some]
  have e2 : (s.map fun o' => true).all id = true := by simp
  rw [e2]
  exact hQ st3 (x1.trans (y2.trans y3))
theorem is_mach_ok (h : G.fns ima = some (hMach ir isd (.int 64))) (hd : G.fns isd = some (hStand ise ir iwy)) (hse : G.fns ise = some hSets) (hw : G.fns iwy = some (hWay ir ist ipl)) (hr : G.fns ir = some hIsRow) (hs : G.fns ist = some hSetting) (hp : G.fns ipl = some hPlaceN) (B : b.Ok) {m : Mach} (O : MOk b.fs.length b.gs.length m)
    (hQ : ∀ st', Ext st st' → Q (.bl true) st') : wpFn G (k + 4) ima [b.d, machD m] st Q E := by
  have hL : LINE = 16777216 := rfl
  have l1 := O.l1
  have l2 := O.l2
  refine wpFn_i h ?_
  simp only [hMach, start, machD]
  refine ⟨rfl, ?_⟩
  walk_at "st"
  refine is_row_true hr (by rw [List.length_map]; walk_at "om") (by rw [List.length_map]; walk_at "om") ?_
  walk_at "ex"
  refine comp_of stdD (fun o' => .bl true) m [] st (fun st'' y a ha => by cases ha) (fun s hs' st'' K y1 hK => ?_) (by simp only [List.length_nil]; walk_at "om") fun st2 y2 => ?_
  · rw [List.length_map]
    exact is_stand_ok hd hse hw hr hs hp B (O.sl s hs') (O.wf s hs') (O.wn s hs') hK
  rw [List.nil_append]
  refine newE (by simp only [List.length_map]; walk_at "om") fun pp st3 y3 hpp hpp3 => ?_
  walk_at "ex"
  rw [lstAt_lst hpp3, bools_true, optK_some]
  have e2 : (m.map fun o' => true).all id = true := by simp
  rw [e2]
  exact hQ st3 (y2.trans y3)
theorem ch_mach_ok (h : G.fns i = some (hChMach ich ima)) (hc : G.fns ich = some (hChecked ibk)) (hb : BookB G ibk 13 b) (hm : G.fns ima = some (hMach ir isd (.int 64))) (hd : G.fns isd = some (hStand ise ir iwy)) (hse : G.fns ise = some hSets) (hw : G.fns iwy = some (hWay ir ist ipl)) (hr : G.fns ir = some hIsRow) (hs : G.fns ist = some hSetting) (hp : G.fns ipl = some hPlaceN) (B : b.Ok) {m : Mach} (O : MOk b.fs.length b.gs.length m)
    (hQ : ∀ st', Ext st st' → Q (machD m) st') : wpFn G (k + 15) i [b.d, machD m] st Q E := by
  refine wpFn_i h ?_
  simp only [hChMach, start]
  refine ⟨rfl, ?_⟩
  walk_at "st"
  refine checked_ok (k := k) hc hb fun st1 x1 => ?_
  walk_at "ex"
  walk_at "st"
  refine is_mach_ok (k := k + 10) hm hd hse hw hr hs hp B O fun st2 x2 => ?_
  walk_at "ex"
  simp only [wpSs_nil]
  walk_at "st"
  exact hQ st2 (x1.trans x2)
end
end L3
end
section
namespace L3
open PySem
noncomputable def hRun (icm ist ise : Nat) : Fn := ⟨3, 8, [.ex (.call icm [(.v 0), (.v 1)]), .iff (.or_ (.not_ (.isi (.v 2) [.list])) (.not_ (.bi .all [(.comp 1 [0] [0] true none [(.v 2)] [] (.call ist [(.v 0), (.bi .len [(.ix (.v 1) (.c (.int 0)))])]))]))) [.rais 3 [(.c (.str (W "no list of settings of the foe")))]] [], .asg (.nm 3) (.call ise [(.ix (.v 0) (.c (.int 0)))]), .asg (.nm 4) (.lst []), .asg (.nm 5) (.c (.int 0)), .forr (.nm 6) none [(.v 2)] [.asg (.nm 7) (.ix (.ix (.v 1) (.v 5)) (.meth .index (.v 3) [(.v 6)])), .ex (.meth .append (.v 4) [(.bin .add (.v 6) (.ix (.v 7) (.c (.int 0))))]), .asg (.nm 5) (.ix (.v 7) (.c (.int 1)))], .ret (.v 4)]⟩
noncomputable def hLawRun (is8 : Nat) : Fn := ⟨2, 6, [.asg (.nm 2) (.c (.int 0)), .asg (.nm 3) (.lst []), .forr (.nm 4) none [(.v 1)] [.asg (.tp [5, 2]) (.ix (.ix (.v 0) (.v 2)) (.meth .index (.call is8 [(.bi .len [(.v 4)])]) [(.v 4)])), .ex (.meth .append (.v 3) [(.bin .add (.v 4) (.v 5))])], .ret (.v 3)]⟩
noncomputable def stepM (n : Nat) (m : Mach) (s : Nat) (f : List Bool) : Option (List Bool × Nat) := (m[s]?).bind fun r => r[(sets n).idxOf f]?
noncomputable def runM (n : Nat) (m : Mach) : Nat → List (List Bool) → List (List Bool)
  | _, [] => []
  | s, f :: r => match stepM n m s f with
    | some w => (f ++ w.1) :: runM n m w.2 r
    | none => []
theorem step_some {n g : Nat} {m : Mach} (O : MOk n g m) {s : Nat} {f : List Bool} (hs : s < m.length) (hf : f.length = n) : ∃ r w, m[s]? = some r ∧ r[(sets n).idxOf f]? = some w ∧ stepM n m s f = some w ∧ w.1.length = g ∧ w.2 < m.length := by
  have e1 : m[s]? = some m[s] := List.getElem?_eq_getElem hs
  have hm : m[s] ∈ m := List.getElem_mem hs
  have hi : (sets n).idxOf f < m[s].length := by
    rw [O.sl _ hm, ← sets_size]
    exact List.idxOf_lt_length_of_mem (sets_mem n f hf)
  have e2 : m[s][(sets n).idxOf f]? = some m[s][(sets n).idxOf f] := List.getElem?_eq_getElem hi
  have hw : m[s][(sets n).idxOf f] ∈ m[s] := List.getElem_mem hi
  exact ⟨_, _, e1, e2, by rw [stepM, e1]; exact e2, O.wf _ hm _ hw, O.wn _ hm _ hw⟩
theorem run_cons {n : Nat} {m : Mach} {s : Nat} {f : List Bool} {r : List (List Bool)} {w : List Bool × Nat} (h : stepM n m s f = some w) : runM n m s (f :: r) = (f ++ w.1) :: runM n m w.2 r := by
  simp only [runM, h]
theorem at_map {α : Type} {t : α → D} {xs : List α} {j : Nat} {x : α} (h : xs[j]? = some x) : atI (xs.map t) (j : Int) = some (t x) := by
  have hl : j < xs.length := by
    by_cases z : j < xs.length
    · exact z
    · rw [List.getElem?_eq_none (by walk_at "om")] at h; cases h
  rw [atI_nat (by simpa using hl), List.getElem?_map, h]; rfl
inductive RunI (n : Nat) (m : Mach) (ss : List (List Bool)) (F : Nat → Option D → Option D → St) (p : Nat) (st5 : Store) (rest : List (List Bool)) (σ : St) (st' : Store) : Prop
  | mk (dn done : List (List Bool)) (s : Nat) (o6 o7 : Option D) (e1 : ss = dn ++ rest) (e2 : s < m.length) (e3 : runM n m 0 ss = done ++ runM n m s rest) (e4 : done.length = dn.length) (e5 : σ = F s o6 o7) (e6 : Keep [p] st5 st') (e7 : st' p = some (.lst (done.map setD)))
section
variable {G : Prog} {k i icm ich ima ibk ir ist ipl ise iwy isd is8 l : Nat} {st : Store} {Q : VK} {E : XK} {b : Bk} {m : Mach} {ss : List (List Bool)}
theorem run_ok (h : G.fns i = some (hRun icm ist ise)) (hcm : G.fns icm = some (hChMach ich ima)) (hc : G.fns ich = some (hChecked ibk)) (hb : BookB G ibk 13 b) (hm : G.fns ima = some (hMach ir isd (.int 64))) (hd : G.fns isd = some (hStand ise ir iwy)) (hse : G.fns ise = some hSets) (hw : G.fns iwy = some (hWay ir ist ipl)) (hr : G.fns ir = some hIsRow) (hs : G.fns ist = some hSetting) (hp : G.fns ipl = some hPlaceN) (B : b.Ok) (O : MOk b.fs.length b.gs.length m)
    (hl : st l = some (.lst (ss.map setD))) (hf : ∀ f ∈ ss, f.length = b.fs.length) (hn : ss.length ≤ 1000)
    (hQ : ∀ p st', Ext st st' → st' p = some (.lst ((runM b.fs.length m 0 ss).map setD)) → Q (.ref p) st') : wpFn G (k + 16) i [b.d, machD m, .ref l] st Q E := by
  have hL : LINE = 16777216 := rfl
  have f2 := B.f2
  have g2 := B.g2
  have hd0 : b.d = .tup [.tup (b.fs.map .str), .tup (b.gs.map .str), .tup (b.ps.map toD), .tup (b.ms.map toD), .tup (b.ws.map fun w => .tup [.int w.1, toD w.2])] := rfl
  refine wpFn_i h ?_
  simp only [hRun, start]
  refine ⟨rfl, ?_⟩
  walk_at "st"
  refine ch_mach_ok (k := k) hcm hc hb hm hd hse hw hr hs hp B O fun st1 x1 => ?_
  have l1 := x1 _ _ hl
  walk_at "ex"
  walk_at "st"
  rw [seqAt_lst l1]
  (try simp only [Bool.not_true, Bool.false_eq_true, if_false])
  walk_at "ex"
  rw [lstAt_lst l1]
  refine comp_of setD (fun o' => .bl true) ss [] st1 (fun st'' y a ha => ?_) (fun t ht st'' K y1 hK => ?_) (by simp only [List.length_nil]; walk_at "om") fun st2 y2 => ?_
  · simp only [List.mem_singleton] at ha
    subst ha
    rw [l1, y _ _ l1]
  · rw [hd0]
    walk_at "ex"
    rw [List.length_map]
    exact setting_ok hs (hf t ht) (by walk_at "om") fun st3 y3 => hK st3 y3
  rw [List.nil_append]
  refine newE (by simp only [List.length_map]; walk_at "om") fun pp st3 y3 hpp hpp3 => ?_
  walk_at "ex"
  rw [lstAt_lst hpp3, bools_true, optK_some]
  have e2 : (ss.map fun o' => true).all id = true := by simp
  rw [e2]
  simp only [Bool.not_true, Bool.false_eq_true, if_false, wpSs_nil]
  rw [hd0]
  walk_at "st"
  refine sets_ok (k := k + 14) hse (by rw [List.length_map]; walk_at "om") fun q st4 hq x4 hq4 => ?_
  rw [List.length_map] at hq4
  walk_at "st"
  refine newE (by simp) fun p st5 x5 hp5 hp5' => ?_
  walk_at "st"
  walk_at "st"
  have x05 : Ext st st5 := x1.trans (y2.trans (y3.trans (x4.trans x5)))
  have l5 := x05 _ _ hl
  have q5 := x5 _ _ hq4
  rw [lstAt_lst l5]
  have lp : l ≠ p := fun z => by rw [← z] at hp5; rw [x4 _ _ (y3 _ _ (y2 _ _ l1))] at hp5; cases hp5
  have qp : q ≠ p := fun z => by rw [← z] at hp5; rw [hq4] at hp5; cases hp5
  refine for_of setD (I := RunI b.fs.length m ss (fun s o6 o7 => [some (.tup [.tup (b.fs.map .str), .tup (b.gs.map .str), .tup (b.ps.map toD), .tup (b.ms.map toD), .tup (b.ws.map fun w => .tup [.int w.1, toD w.2])]), some (machD m), some (.ref l), some (.ref q), some (.ref p), some (.int (s : Nat)), o6, o7]) p st5) (fun rest σ st' I => ?_) (fun f rest σ st' M I hM => ?_) (fun σ st' I => ?_) _ _ _ ⟨[], [], 0, none, none, rfl, O.l1, rfl, rfl, rfl, .refl, hp5'⟩
  · obtain ⟨dn, done, s, o6, o7, e1, e2, e3, e4, e5, e6, e7⟩ := I
    intro a ha
    simp only [List.mem_singleton] at ha
    subst ha
    rw [l5, e6 _ _ (by simpa using lp) l5]
  · obtain ⟨dn, done, s, o6, o7, e1, e2, e3, e4, e5, e6, e7⟩ := I
    subst e5
    have hff : f.length = b.fs.length := hf f (by rw [e1]; simp)
    obtain ⟨r, w, m1, m2, m3, m4, m5⟩ := step_some O e2 hff
    have q6 := e6 _ _ (by simpa using qp) q5
    have hdl : done.length ≤ 1000 := by have := congrArg List.length e1; simp at this; walk_at "om"
    walk_at "st"
    simp only [machD]
    walk_at "ex"
    rw [at_map m1, optK_some]
    rw [rcv_index, lsq_ref, lstAt_lst q6]
    refine ⟨True.intro, ?_⟩
    rw [mt_index, lsq_ref, lstAt_lst q6, findD_set (sets_mem _ _ hff), optK_some]
    refine ⟨plain_set _, plains_sets _, ?_⟩
    simp only [stdD]
    walk_at "ex"
    rw [at_map m2, optK_some]
    walk_at "st"
    rw [lstAt_lst e7]
    refine ⟨True.intro, ?_⟩
    simp only [wayD]
    walk_at "ex"
    rw [add_sets]
    refine ⟨by walk_at "om", ?_⟩
    rw [lstAt_lst e7]
    refine ⟨by simp only [List.length_map]; walk_at "om", ?_⟩
    walk_at "st"
    simp only [wpSs_nil]
    refine hM _ _ ⟨dn ++ [f], done ++ [f ++ w.1], w.2, _, _, by simp [e1], m5, by rw [e3, run_cons m3]; simp, by simp [e4], rfl, fun a o na e => by rw [put_ne (by simpa using na)]; exact e6 a o na e, ?_⟩
    rw [put_same]; simp
  · obtain ⟨dn, done, s, o6, o7, e1, e2, e3, e4, e5, e6, e7⟩ := I
    subst e5
    walk_at "st"
    refine hQ p st' (fun a o e => e6 a o (fun z => ?_) (x05 _ _ e)) (by rw [e7, e3]; simp [runM])
    simp only [List.mem_singleton] at z
    rw [z] at e
    rw [x4 _ _ (y3 _ _ (y2 _ _ (x1 _ _ e)))] at hp5; cases hp5
theorem law_run_ok (h : G.fns i = some (hLawRun is8)) (h8 : G.fns is8 = some hSets8) {n g : Nat} (hn4 : n ≤ 4) (hg : g ≤ 4) (O : MOk n g m)
    (hl : st l = some (.lst (ss.map setD))) (hf : ∀ f ∈ ss, f.length = n) (hn : ss.length ≤ 1000)
    (hQ : ∀ p st', Ext st st' → st' p = some (.lst ((runM n m 0 ss).map setD)) → Q (.ref p) st') : wpFn G (k + 2) i [machD m, .ref l] st Q E := by
  have hL : LINE = 16777216 := rfl
  refine wpFn_i h ?_
  simp only [hLawRun, start]
  refine ⟨rfl, ?_⟩
  walk_at "st"
  walk_at "st"
  refine newE (by simp) fun p st5 x5 hp5 hp5' => ?_
  walk_at "st"
  have l5 := x5 _ _ hl
  rw [lstAt_lst l5]
  have lp : l ≠ p := fun z => by rw [← z] at hp5; rw [hl] at hp5; cases hp5
  refine for_of setD (I := RunI n m ss (fun s o6 o7 => [some (machD m), some (.ref l), some (.int (s : Nat)), some (.ref p), o6, o7]) p st5) (fun rest σ st' I => ?_) (fun f rest σ st' M I hM => ?_) (fun σ st' I => ?_) _ _ _ ⟨[], [], 0, none, none, rfl, O.l1, rfl, rfl, rfl, .refl, hp5'⟩
  · obtain ⟨dn, done, s, o6, o7, e1, e2, e3, e4, e5, e6, e7⟩ := I
    intro a ha
    simp only [List.mem_singleton] at ha
    subst ha
    rw [l5, e6 _ _ (by simpa using lp) l5]
  · obtain ⟨dn, done, s, o6, o7, e1, e2, e3, e4, e5, e6, e7⟩ := I
    subst e5
    have hff : f.length = n := hf f (by rw [e1]; simp)
    obtain ⟨r, w, m1, m2, m3, m4, m5⟩ := step_some O e2 hff
    have hdl : done.length ≤ 1000 := by have := congrArg List.length e1; simp at this; walk_at "om"
    walk_at "st"
    simp only [machD]
    walk_at "ex"
    rw [at_map m1, optK_some]
    rw [show setD f = .tup (f.map .bl) from rfl]
    walk_at "ex"
    rw [List.length_map, hff]
    refine sets8_ok (k := k) h8 hn4 fun q st6 hq x6 hq6 => ?_
    rw [rcv_index, lsq_ref, lstAt_lst hq6]
    refine ⟨True.intro, ?_⟩
    walk_at "ex"
    rw [mt_index, lsq_ref, lstAt_lst hq6, show D.tup (f.map .bl) = setD f from rfl, findD_set (sets_mem _ _ hff), optK_some]
    refine ⟨plain_set _, plains_sets _, ?_⟩
    simp only [stdD]
    walk_at "ex"
    rw [at_map m2, optK_some]
    simp only [wayD]
    walk_at "ex"
    have e8 := x6 _ _ e7
    walk_at "st"
    rw [lstAt_lst e8]
    refine ⟨True.intro, ?_⟩
    rw [add_sets]
    refine ⟨by walk_at "om", ?_⟩
    rw [lstAt_lst e8]
    refine ⟨by simp only [List.length_map]; walk_at "om", ?_⟩
    simp only [wpSs_nil]
    refine hM _ _ ⟨dn ++ [f], done ++ [f ++ w.1], w.2, _, _, by simp [e1], m5, by rw [e3, run_cons m3]; simp, by simp [e4], rfl, fun a o na e => by rw [put_ne (by simpa using na)]; exact x6 _ _ (e6 a o na e), ?_⟩
    rw [put_same]; simp
  · obtain ⟨dn, done, s, o6, o7, e1, e2, e3, e4, e5, e6, e7⟩ := I
    subst e5
    walk_at "st"
    refine hQ p st' (fun a o e => e6 a o (fun z => ?_) (x5 _ _ e)) (by rw [e7, e3]; simp [runM])
    simp only [List.mem_singleton] at z
    rw [z] at e
    rw [e] at hp5; cases hp5
end
end L3
end
section
namespace L3
open PySem
noncomputable def hLawMach (im is8 : Nat) : Fn := ⟨5, 12, [.asg (.nm 5) (.bin .add (.c (.int 1)) (.call im [(.v 0), (.v 1), (.v 4)])), .asg (.nm 6) (.call is8 [(.v 3)]), .asg (.nm 7) (.lst []), .forr (.nm 8) (some .range) [(.v 5)] [.asg (.nm 9) (.lst []), .forr (.nm 10) (some .range) [(.bi .len [(.call is8 [(.v 2)])])] [.asg (.nm 11) (.call im [(.v 0), (.bin .add (.bin .add (.bin .add (.v 1) (.c (.int 1))) (.bin .mul (.c (.int 4)) (.v 8))) (.v 10)), (.bin .mul (.c (.int 4)) (.v 5))]), .ex (.meth .append (.v 9) [(.tup [(.ix (.v 6) (.bin .mod (.bin .mod (.v 11) (.c (.int 4))) (.bi .len [(.v 6)]))), (.bin .fdiv (.v 11) (.c (.int 4)))])])], .ex (.meth .append (.v 7) [(.bi .tuple [(.v 9)])])], .ret (.bi .tuple [(.v 7)])]⟩
noncomputable def hLawSets (im is8 : Nat) : Fn := ⟨4, 9, [.asg (.nm 4) (.call im [(.v 0), (.v 1), (.bin .pow (.c (.int 10)) (.c (.int 9)))]), .asg (.nm 5) (.call is8 [(.v 2)]), .asg (.nm 6) (.lst []), .forr (.nm 7) (some .range) [(.call im [(.v 0), (.bin .add (.v 1) (.c (.int 1))), (.bin .add (.v 3) (.c (.int 1)))])] [.asg (.nm 8) (.bin .mod (.bin .mul (.bin .add (.bin .add (.v 4) (.bin .mul (.bin .mul (.c (.int 104729)) (.v 7)) (.v 7))) (.bin .mul (.c (.int 7919)) (.v 7))) (.c (.int 48271))) (.c (.int 2147483647))), .ex (.meth .append (.v 6) [(.ix (.v 5) (.bin .mod (.bin .fdiv (.v 8) (.c (.int 13))) (.bi .len [(.v 5)])))])], .ret (.v 6)]⟩
theorem sets_at {g : Nat} {c : Int} (h0 : 0 ≤ c) (h1 : c < (((sets g).map setD).length : Nat)) : ∃ f, atI ((sets g).map setD) c = some (setD f) ∧ f.length = g := by
  have hj : c.toNat < (sets g).length := by simp only [List.length_map] at h1; walk_at "om"
  refine ⟨(sets g)[c.toNat], ?_, sets_len g _ (List.getElem_mem hj)⟩
  have := at_map (t := setD) (List.getElem?_eq_getElem hj)
  rwa [show ((c.toNat : Nat) : Int) = c by walk_at "om"] at this
inductive MchI (n g N : Nat) (F : Option D → Option D → Option D → Option D → St) (p : Nat) (st3 : Store) (rest : List Nat) (σ : St) (st' : Store) : Prop
  | mk (ms : Mach) (o8 o9 o10 o11 : Option D) (e0 : rest.length + ms.length = N) (e1 : σ = F o8 o9 o10 o11) (e2 : Keep [p] st3 st') (e3 : st' p = some (.lst (ms.map stdD))) (e4 : ∀ s ∈ ms, s.length = n ∧ ∀ w ∈ s, w.1.length = g ∧ w.2 < N)
inductive MchJ (n g N : Nat) (F : Option D → Option D → St) (u : Nat) (st5 : Store) (rest : List Nat) (σ : St) (st6 : Store) : Prop
  | mk (ws : List (List Bool × Nat)) (o10 o11 : Option D) (f0 : rest.length + ws.length = n) (f1 : σ = F o10 o11) (f2 : Keep [u] st5 st6) (f3 : st6 u = some (.lst (ws.map wayD))) (f4 : ∀ w ∈ ws, w.1.length = g ∧ w.2 < N)
inductive StsI (n v : Nat) (F : Option D → Option D → St) (p : Nat) (st4 : Store) (rest : List Nat) (σ : St) (st' : Store) : Prop
  | mk (ss : List (List Bool)) (o7 o8 : Option D) (e0 : rest.length + ss.length = v) (ex : ∀ y ∈ rest, y < v) (e1 : σ = F o7 o8) (e2 : Keep [p] st4 st') (e3 : st' p = some (.lst (ss.map setD))) (e4 : ∀ f ∈ ss, f.length = n)
theorem am0 {v most : Int} (h0 : 0 ≤ v) (h1 : v < most) (h2 : most ≤ 60) : ∃ N : Nat, 1 + v = (N : Int) ∧ 1 ≤ N ∧ N ≤ 60 := ⟨(1 + v).toNat, by walk_at "om", by walk_at "om", by walk_at "om"⟩
theorem am1 {N : Nat} (h : N ≤ 60) : small62 (N : Int) := by unfold small62; walk_at "om"
theorem am2 {a : Int} {x y : Nat} (h : 0 ≤ a) : 0 ≤ a + 1 + 4 * (x : Int) + (y : Int) := by walk_at "om"
theorem am3 {N : Nat} (h : 1 ≤ N) : (0 : Int) < 4 * (N : Int) := by walk_at "om"
theorem am4 {c : Int} {N : Nat} (h0 : 0 ≤ c) (h1 : c < 4 * (N : Int)) : ∃ k : Nat, c / 4 = (k : Int) ∧ k < N := ⟨(c / 4).toNat, by walk_at "om", by walk_at "om"⟩
theorem am5 : smallI 4 := by unfold smallI; walk_at "om"
theorem am6 {a b N : Nat} (h : a + 1 + b = N) (h2 : N ≤ 60) : b < LINE := by have hL : LINE = 16777216 := rfl; walk_at "om"
theorem am7 {a b N : Nat} (h : a + 1 + b = N) : a + (b + 1) = N := by walk_at "om"
theorem am9 {b N : Nat} (h : b = N) (h2 : N ≤ 60) : b ≤ LINE := by have hL : LINE = 16777216 := rfl; walk_at "om"
theorem len1 {α : Type} (l : List α) (x : α) : (l ++ [x]).length = l.length + 1 := by simp
section
variable {G : Prog} {k i im ic is8 : Nat} {st : Store} {Q : VK} {E : XK} {ns : List Int}
theorem law_mach_ok (h : G.fns i = some (hLawMach im is8)) (hm : G.fns im = some (hMixed ic)) (hc : G.fns ic = some hCell) (h8 : G.fns is8 = some hSets8) {at_ most : Int} {n g : Nat} (ha : 0 ≤ at_) (hmo : 0 < most) (hmo2 : most ≤ 60) (hn : n ≤ 2) (hg : g ≤ 2)
    (hQ : ∀ m st', Ext st st' → MOk n g m → Q (machD m) st') : wpFn G (k + 3) i [.mlst (ns.map .int), .int at_, .int (n : Nat), .int (g : Nat), .int most] st Q E := by
  have hn16 : 2 ^ n ≤ 16 := Nat.pow_le_pow_right (n := 2) (by decide) (by walk_at "om" : n ≤ 4)
  have hg16 : 0 < 2 ^ g := Nat.pow_pos (by decide)
  have szn := sets_size n
  generalize hN : 2 ^ n = N at hn16 szn
  refine wpFn_i h ?_
  simp only [hLawMach, start]
  refine ⟨rfl, ?_⟩
  walk_at "st"
  refine mixed_ok hm hc ha hmo fun st1 x1 => ?_
  have v0 := mixV_lo (ns := ns) (k := at_) (many := most) (by walk_at "om")
  have v1 := mixV_hi (ns := ns) (k := at_) (many := most) (by walk_at "om")
  generalize mixV ns at_ most = v at v0 v1
  obtain ⟨N1, hN1, n1, n60⟩ := am0 v0 v1 hmo2
  walk_at "ex"
  rw [hN1]
  clear hN1 v0 v1 hmo hmo2 v
  walk_at "st"
  refine sets8_ok (k := k + 1) h8 (by walk_at "om") fun q st2 hq x2 hq2 => ?_
  walk_at "st"
  refine newE (by simp) fun p st3 x3 hp hp3 => ?_
  walk_at "st"
  refine ⟨am1 n60, ?_⟩
  rw [show ((N1 : Nat) : Int).toNat = N1 from rfl, rangeD_eq]
  have q3 := x3 _ _ hq2
  have qp : q ≠ p := fun z => by rw [← z] at hp; rw [hq2] at hp; cases hp
  refine for_of (fun j : Nat => D.int (j : Nat)) (I := MchI N g N1 (fun o8 o9 o10 o11 => [some (.mlst (ns.map .int)), some (.int at_), some (.int (n : Nat)), some (.int (g : Nat)), some (.int most), some (.int (N1 : Nat)), some (.ref q), some (.ref p), o8, o9, o10, o11]) p st3) (fun rest σ st' o' a ha => ?_) (fun x rest σ st' M I hM => ?_) (fun σ st' I => ?_) _ _ _ ⟨[], none, none, none, none, by simp, rfl, .refl, hp3, by simp⟩
  · cases ha
  · obtain ⟨ms, o8, o9, o10, o11, e0, e1, e2, e3, e4⟩ := I
    subst e1
    simp only [List.length_cons] at e0
    walk_at "st"
    refine newE (by simp) fun u st4 x4 hu hu4 => ?_
    have pu : p ≠ u := fun z => by rw [← z] at hu; rw [e3] at hu; cases hu
    have qu : q ≠ u := fun z => by rw [← z] at hu; rw [e2 _ _ (by simpa using qp) q3] at hu; cases hu
    walk_at "st"
    refine sets8_ok (k := k + 1) h8 (by walk_at "om") fun q' st5 hq' x5 hq5 => ?_
    walk_at "ex"
    rw [seqAt_lst hq5]
    rw [List.length_map, szn]
    refine ⟨am1 (Nat.le_trans hn16 (by decide)), ?_⟩
    rw [show ((N : Nat) : Int).toNat = N from rfl, rangeD_eq]
    have u5 := x5 _ _ hu4
    refine for_of (fun j : Nat => D.int (j : Nat)) (I := MchJ N g N1 (fun o10 o11 => [some (.mlst (ns.map .int)), some (.int at_), some (.int (n : Nat)), some (.int (g : Nat)), some (.int most), some (.int (N1 : Nat)), some (.ref q), some (.ref p), some (.int (x : Nat)), some (.ref u), o10, o11]) u st5) (fun rest2 σ st6 o' a ha => ?_) (fun y rest2 σ st6 M2 J hM2 => ?_) (fun σ st6 J => ?_) _ _ _ ⟨[], _, _, by simp, rfl, .refl, u5, by simp⟩
    · cases ha
    · obtain ⟨ws, o10, o11, f0, f1, f2, f3, f4⟩ := J
      subst f1
      simp only [List.length_cons] at f0
      walk_at "st"
      refine ⟨.inl am5, .inl am5, ?_⟩
      refine mixed_ok hm hc (am2 ha) (am3 n1) fun st7 x7 => ?_
      have c0 := mixV_lo (ns := ns) (k := at_ + 1 + 4 * (x : Int) + (y : Int)) (many := 4 * (N1 : Int)) (am3 n1)
      have c1 := mixV_hi (ns := ns) (k := at_ + 1 + 4 * (x : Int) + (y : Int)) (many := 4 * (N1 : Int)) (am3 n1)
      generalize mixV ns (at_ + 1 + 4 * (x : Int) + (y : Int)) (4 * (N1 : Int)) = c at c0 c1
      have u7 := x7 _ _ f3
      have q7 := x7 _ _ (f2 _ _ (by simpa using qu) (x5 _ _ (x4 _ _ (e2 _ _ (by simpa using qp) q3))))
      walk_at "st"
      rw [lstAt_lst u7]
      refine ⟨True.intro, by decide, ?_⟩
      rw [seqAt_lst q7]
      have hlen : (0 : Int) < ((((sets g).map setD).length : Nat) : Int) := by rw [List.length_map, sets_size]; exact Int.natCast_pos.mpr hg16
      refine ⟨hlen, ?_⟩
      obtain ⟨fr, hfr, hfl⟩ := sets_at (g := g) (Int.emod_nonneg (c % 4) (Int.ne_of_gt hlen)) (Int.emod_lt_of_pos (c % 4) hlen)
      rw [ix_lst q7, hfr, optK_some]
      walk_at "ex"
      refine ⟨by decide, ?_⟩
      rw [lstAt_lst u7]
      refine ⟨by rw [List.length_map]; exact am6 f0 (Nat.le_trans hn16 (by decide)), ?_⟩
      obtain ⟨kk, hk1, hk2⟩ := am4 c0 c1
      rw [hk1]
      simp only [wpSs_nil]
      refine hM2 _ _ ⟨ws ++ [(fr, kk)], _, _, by rw [len1]; exact am7 f0, rfl, fun a o na e => by rw [put_ne (by simpa using na)]; exact x7 _ _ (f2 a o na e), ?_, fun w hw => ?_⟩
      · rw [put_same, List.map_append]
        rfl
      · rcases List.mem_append.mp hw with hw | hw
        · exact f4 w hw
        · simp only [List.mem_singleton] at hw
          subst hw
          exact ⟨hfl, hk2⟩
    · obtain ⟨ws, o10, o11, f0, f1, f2, f3, f4⟩ := J
      subst f1
      simp only [List.length_nil, Nat.zero_add] at f0
      have p6 := f2 _ _ (by simpa using pu) (x5 _ _ (x4 _ _ e3))
      walk_at "st"
      rw [lstAt_lst p6]
      refine ⟨True.intro, ?_⟩
      rw [lstAt_lst f3]
      refine ⟨by rw [List.length_map]; exact am9 f0 (Nat.le_trans hn16 (by decide)), ?_⟩
      rw [lstAt_lst p6]
      refine ⟨by rw [List.length_map]; exact am6 e0 n60, ?_⟩
      simp only [wpSs_nil]
      refine hM _ _ ⟨ms ++ [ws], _, _, _, _, by rw [len1]; exact am7 e0, rfl, fun a o na e => ?_, ?_, fun s hs => ?_⟩
      · rw [put_ne (by simpa using na)]
        refine f2 a o (fun z => ?_) (x5 _ _ (x4 _ _ (e2 a o na e)))
        simp only [List.mem_singleton] at z
        rw [z] at e na
        rw [e2 u o na e] at hu; cases hu
      · rw [put_same, List.map_append]; rfl
      · rcases List.mem_append.mp hs with hs | hs
        · exact e4 s hs
        · simp only [List.mem_singleton] at hs
          subst hs
          exact ⟨f0, f4⟩
  · obtain ⟨ms, o8, o9, o10, o11, e0, e1, e2, e3, e4⟩ := I
    subst e1
    simp only [List.length_nil, Nat.zero_add] at e0
    walk_at "st"
    rw [lstAt_lst e3]
    refine ⟨by rw [List.length_map]; exact am9 e0 n60, ?_⟩
    refine hQ ms st' (fun a o e => e2 a o (fun z => ?_) (x3 _ _ (x2 _ _ (x1 _ _ e)))) ⟨e0 ▸ n1, e0 ▸ Nat.le_trans n60 (by decide), fun s hs => (e4 s hs).1.trans hN.symm, fun s hs w hw => ((e4 s hs).2 w hw).1, fun s hs w hw => e0 ▸ ((e4 s hs).2 w hw).2⟩
    simp only [List.mem_singleton] at z
    rw [z] at e
    rw [x2 _ _ (x1 _ _ e)] at hp; cases hp
theorem law_sets_ok (h : G.fns i = some (hLawSets im is8)) (hm : G.fns im = some (hMixed ic)) (hc : G.fns ic = some hCell) (h8 : G.fns is8 = some hSets8) {at_ most : Int} {n : Nat} (ha : 0 ≤ at_) (hmo : 0 ≤ most) (hmo2 : most ≤ 100) (hn : n ≤ 2)
    (hQ : ∀ p st' (ss : List (List Bool)), Ext st st' → st' p = some (.lst (ss.map setD)) → (∀ f ∈ ss, f.length = n) → ss.length ≤ 1000 → Q (.ref p) st') : wpFn G (k + 3) i [.mlst (ns.map .int), .int at_, .int (n : Nat), .int most] st Q E := by
  have hL : LINE = 16777216 := rfl
  have hn16 : 0 < 2 ^ n := Nat.pow_pos (by decide)
  refine wpFn_i h ?_
  simp only [hLawSets, start]
  refine ⟨rfl, ?_⟩
  walk_at "st"
  refine ⟨by decide, ?_⟩
  refine mixed_ok hm hc ha (by decide) fun st1 x1 => ?_
  generalize mixV ns at_ (10 ^ Int.toNat 9) = seed
  walk_at "st"
  refine sets8_ok (k := k + 1) h8 (by walk_at "om") fun q st2 hq x2 hq2 => ?_
  walk_at "st"
  refine newE (by simp) fun p st3 x3 hp hp3 => ?_
  walk_at "st"
  refine mixed_ok hm hc (by walk_at "om") (by walk_at "om") fun st4 x4 => ?_
  have v0 := mixV_lo (ns := ns) (k := at_ + 1) (many := most + 1) (by walk_at "om")
  have v1 := mixV_hi (ns := ns) (k := at_ + 1) (many := most + 1) (by walk_at "om")
  generalize mixV ns (at_ + 1) (most + 1) = v at v0 v1
  walk_at "ex"
  refine ⟨by unfold small62; walk_at "om", ?_⟩
  rw [rangeD_eq]
  have q4 := x4 _ _ (x3 _ _ hq2)
  have qp : q ≠ p := fun z => by rw [← z] at hp; rw [hq2] at hp; cases hp
  refine for_of (fun j : Nat => D.int (j : Nat)) (I := StsI n v.toNat (fun o7 o8 => [some (.mlst (ns.map .int)), some (.int at_), some (.int (n : Nat)), some (.int most), some (.int seed), some (.ref q), some (.ref p), o7, o8]) p st4) (fun rest σ st' o' a ha => ?_) (fun x rest σ st' M I hM => ?_) (fun σ st' I => ?_) _ _ _ ⟨[], none, none, by simp, fun y hy => List.mem_range.mp hy, rfl, .refl, x4 _ _ hp3, by simp⟩
  · cases ha
  · obtain ⟨ss, o7, o8, e0, ex, e1, e2, e3, e4⟩ := I
    subst e1
    simp only [List.length_cons] at e0
    have hx : x < v.toNat := ex x (by simp)
    walk_at "st"
    refine ⟨.inl (by unfold smallI; walk_at "om"), .inr (by unfold smallI; walk_at "om"), .inl (by unfold smallI; walk_at "om"), .inr (by unfold smallI; walk_at "om"), by decide, ?_⟩
    generalize (seed + 104729 * (x : Int) * (x : Int) + 7919 * (x : Int)) * 48271 % 2147483647 = dr
    have q5 := e2 _ _ (by simpa using qp) q4
    walk_at "st"
    rw [lstAt_lst e3]
    refine ⟨True.intro, by decide, ?_⟩
    rw [seqAt_lst q5]
    have hlen : (0 : Int) < ((((sets n).map setD).length : Nat) : Int) := by rw [List.length_map, sets_size]; walk_at "om"
    refine ⟨hlen, ?_⟩
    obtain ⟨fr, hfr, hfl⟩ := sets_at (g := n) (Int.emod_nonneg (dr / 13) (by walk_at "om" : ((((sets n).map setD).length : Nat) : Int) ≠ 0)) (Int.emod_lt_of_pos (dr / 13) hlen)
    rw [ix_lst q5, hfr, optK_some]
    walk_at "ex"
    rw [lstAt_lst e3]
    refine ⟨by simp only [List.length_map]; walk_at "om", ?_⟩
    simp only [wpSs_nil]
    refine hM _ _ ⟨ss ++ [fr], _, _, by simp only [List.length_append, List.length_cons, List.length_nil]; walk_at "om", fun y hy => ex y (by simp [hy]), rfl, fun a o na e => by rw [put_ne (by simpa using na)]; exact e2 a o na e, ?_, fun f hf => ?_⟩
    · rw [put_same, List.map_append]; rfl
    · rcases List.mem_append.mp hf with hf | hf
      · exact e4 f hf
      · simp only [List.mem_singleton] at hf
        subst hf
        exact hfl
  · obtain ⟨ss, o7, o8, e0, ex, e1, e2, e3, e4⟩ := I
    subst e1
    simp only [List.length_nil, Nat.zero_add] at e0
    walk_at "st"
    refine hQ p st' ss (fun a o e => e2 a o (fun z => ?_) (x4 _ _ (x3 _ _ (x2 _ _ (x1 _ _ e))))) e3 e4 (by walk_at "om")
    simp only [List.mem_singleton] at z
    rw [z] at e
    rw [x2 _ _ (x1 _ _ e)] at hp; cases hp
end
end L3
end
section
namespace L3
open PySem
noncomputable def hLaw19 (ibo ilm ils iru icm ilr : Nat) : Fn := ⟨1, 6, [.asg (.nm 1) (.call ibo [(.v 0), (.c (.int 30)), (.c (.int 2)), (.c (.int 1))]), .asg (.nm 2) (.call ilm [(.v 0), (.c (.int 2)), (.bi .len [(.ix (.v 1) (.c (.int 0)))]), (.bi .len [(.ix (.v 1) (.c (.int 1)))]), (.c (.int 6))]), .asg (.nm 3) (.call ils [(.v 0), (.c (.int 0)), (.bi .len [(.ix (.v 1) (.c (.int 0)))]), (.c (.int 12))]), .asg (.nm 4) (.bi .list [(.v 3)]), .asg (.nm 5) (.call iru [(.v 1), (.v 2), (.v 4)]), .iff (.or_ (.cmp .ne (.v 4) (.v 3)) (.cmp .ne (.call icm [(.v 1), (.v 2)]) (.v 2))) [.ret (.c (.bl false))] [], .ret (.and_ (.isi (.v 5) [.list]) (.cmp .eq (.v 5) (.call ilr [(.v 2), (.v 3)])))]⟩
theorem pure_way (w : List Bool × Nat) : pureD (wayD w) = true ∧ depD (wayD w) ≤ 2 := by
  have h1 := pure_set w.1
  have h2 := dep_set w.1
  refine ⟨?_, ?_⟩
  · simp only [wayD, pureD, pureDs, h1, Bool.and_self]
  · simp only [wayD, depD, depDs]; walk_at "om"
theorem pures_ways (s : List (List Bool × Nat)) : pureDs (s.map wayD) = true ∧ depDs (s.map wayD) ≤ 2 := by
  induction s with
  | nil => exact ⟨rfl, by simp [depDs]⟩
  | cons a l ih =>
    have := pure_way a
    refine ⟨by simp only [List.map_cons, pureDs, this.1, ih.1, Bool.and_self], ?_⟩
    simp only [List.map_cons, depDs]; walk_at "om"
theorem pures_stds (m : Mach) : pureDs (m.map stdD) = true ∧ depDs (m.map stdD) ≤ 3 := by
  induction m with
  | nil => exact ⟨rfl, by simp [depDs]⟩
  | cons a l ih =>
    have := pures_ways a
    refine ⟨by simp only [List.map_cons, pureDs, stdD, pureD, this.1, Bool.true_and]; exact ih.1, ?_⟩
    have h2 : depD (stdD a) ≤ 3 := by simp only [stdD, depD]; walk_at "om"
    simp only [List.map_cons, depDs]; walk_at "om"
theorem pure_mach (m : Mach) : pureD (machD m) = true := (pures_stds m).1
theorem plain_mach {st : Store} (m : Mach) : plainS st (machD m) := ⟨pureS_of _ (pure_mach m), by
  have := (pures_stds m).2
  have h : depD (machD m) = depDs (m.map stdD) + 1 := by simp only [machD, depD]
  have h2 : DEEP = 80 := rfl
  walk_at "om"⟩
theorem eq_refs {st : Store} {p q : Nat} {l : List (List Bool)} (hp : st p = some (.lst (l.map setD))) (hq : st q = some (.lst (l.map setD))) : eqS st (.ref p) (.ref q) = true := by
  show eqO (st p) (st q) = true
  rw [hp, hq]
  exact eqDs_rfl _ (pures_sets l).1
section
variable {G : Prog} {k il ibo ilm ils iru icm ilr inm inx is ipr im ic is8 ist ise ich ima ibk ir isd iwy ipl : Nat} {st : Store} {E : XK} {ns : List Int}
theorem law19 (h : G.fns il = some (hLaw19 ibo ilm ils iru icm ilr)) (hbo : G.fns ibo = some (hBook inm inx is ipr)) (hnm : G.fns inm = some (hNames inx)) (hpr : G.fns ipr = some (hProm is inx)) (hs : G.fns is = some (hSaying inx is)) (hn : G.fns inx = some (hNext im)) (hm : G.fns im = some (hMixed ic)) (hc : G.fns ic = some hCell) (hlm : G.fns ilm = some (hLawMach im is8)) (hls : G.fns ils = some (hLawSets im is8)) (h8 : G.fns is8 = some hSets8)
    (hru : G.fns iru = some (hRun icm ist ise)) (hcm : G.fns icm = some (hChMach ich ima)) (hch : G.fns ich = some (hChecked ibk)) (hb : ∀ b : Bk, b.Ok → szL b.says < LINE → (∀ x ∈ b.says, dep x ≤ 60) → (pcsL b.says []).length ≤ 4 → BookB G ibk 13 b) (hma : G.fns ima = some (hMach ir isd (.int 64))) (hd : G.fns isd = some (hStand ise ir iwy)) (hse : G.fns ise = some hSets) (hw : G.fns iwy = some (hWay ir ist ipl)) (hr : G.fns ir = some hIsRow) (hst : G.fns ist = some hSetting) (hp : G.fns ipl = some hPlaceN) (hlr : G.fns ilr = some (hLawRun is8)) :
    wpFn G (k + 17) il [.mlst (ns.map .int)] st (fun d o' => d = .bl true) E := by
  have hL : LINE = 16777216 := rfl
  refine wpFn_i h ?_
  simp only [hLaw19, start]
  refine ⟨rfl, ?_⟩
  walk_at "st"
  refine book_ok (k := k + 9) hbo hnm hpr hs hn hm hc (by decide) (by decide) (by decide) (by decide) fun b st1 DR x1 => ?_
  obtain ⟨F1, F2, F3, F4⟩ := drw_facts DR (by decide)
  have hB := hb b DR.ok (by walk_at "om") F2 F3
  have f2 := DR.ok.f2
  have g2 := DR.ok.g2
  have hd0 : b.d = .tup [.tup (b.fs.map .str), .tup (b.gs.map .str), .tup (b.ps.map toD), .tup (b.ms.map toD), .tup (b.ws.map fun w => .tup [.int w.1, toD w.2])] := rfl
  walk_at "ex"
  rw [hd0]
  walk_at "st"
  rw [List.length_map, List.length_map]
  refine law_mach_ok (k := k + 13) hlm hm hc h8 (by decide) (by decide) (by decide) f2 g2 fun m st2 x2 O => ?_
  walk_at "ex"
  walk_at "st"
  rw [List.length_map]
  refine law_sets_ok (k := k + 13) hls hm hc h8 (by decide) (by decide) (by decide) f2 fun l st3 ss x3 hl3 hf hss => ?_
  walk_at "ex"
  walk_at "st"
  rw [lstAt_lst hl3]
  refine newE (by simp only [List.length_map]; walk_at "om") fun q st4 x4 hq hq4 => ?_
  walk_at "ex"
  rw [← hd0]
  walk_at "st"
  refine run_ok (k := k) hru hcm hch hB hma hd hse hw hr hst hp DR.ok O hq4 hf hss fun p st5 x5 hp5 => ?_
  walk_at "ex"
  walk_at "st"
  have q5 := x5 _ _ hq4
  have l5 := x5 _ _ (x4 _ _ hl3)
  refine ⟨plain_play q5, plain_play l5, ?_⟩
  rw [eq_refs q5 l5]
  simp only [Bool.not_true, Bool.false_eq_true, if_false]
  walk_at "ex"
  refine ch_mach_ok (k := k + 1) hcm hch hB hma hd hse hw hr hst hp DR.ok O fun st6 x6 => ?_
  walk_at "ex"
  refine ⟨plain_mach m, plain_mach m, ?_⟩
  rw [eqS_rfl _ (pure_mach m)]
  simp only [Bool.not_true, Bool.false_eq_true, if_false, wpSs_nil]
  walk_at "st"
  have p6 := x6 _ _ hp5
  have l6 := x6 _ _ l5
  rw [seqAt_lst p6]
  walk_at "ex"
  refine law_run_ok (k := k + 14) hlr h8 (by walk_at "om") (by walk_at "om") O l6 hf hss fun r st7 x7 hr7 => ?_
  walk_at "ex"
  refine ⟨plain_play (x7 _ _ p6), plain_play hr7, ?_⟩
  rw [eq_refs (x7 _ _ p6) hr7]
end
end L3
end
end
namespace L3
open PySem PySem.Spec PyProof.Rows L2
noncomputable def g_LETTERS : D := (.str (W "abcdefghijklmnopqrstuvwxyz"))
noncomputable def g_LONGEST_NAME : D := (.int 8)
noncomputable def g_NO_NAMES : D := (.tup [(.str (W "yes")), (.str (W "no")), (.str (W "not")), (.str (W "and")), (.str (W "or")), (.str (W "then")), (.str (W "same")), (.str (W "before")), (.str (W "once")), (.str (W "sofar")), (.str (W "since")), (.str (W "foe")), (.str (W "friend")), (.str (W "promise")), (.str (W "must")), (.str (W "wish"))])
noncomputable def g_DEEPEST : D := (.int 8)
noncomputable def g_SAYINGS_WITHIN : D := (.mdic [(.str (W "yes")), (.str (W "no")), (.str (W "not")), (.str (W "before")), (.str (W "once")), (.str (W "sofar")), (.str (W "and")), (.str (W "or")), (.str (W "then")), (.str (W "same")), (.str (W "since"))] [(.int 0), (.int 0), (.int 1), (.int 1), (.int 1), (.int 1), (.int 2), (.int 2), (.int 2), (.int 2), (.int 2)])
noncomputable def g_PAST_WORDS : D := (.tup [(.str (W "before")), (.str (W "once")), (.str (W "sofar")), (.str (W "since"))])
noncomputable def g_MOST_LAMPS : D := (.int 2)
noncomputable def g_MOST_PROMISES : D := (.int 3)
noncomputable def g_MOST_MUSTS : D := (.int 3)
noncomputable def g_MOST_WISHES : D := (.int 5)
noncomputable def g_HIGHEST_PRICE : D := (.int 99)
noncomputable def g_MOST_PIECES : D := (.int 4)
noncomputable def g_MOST_STANDS : D := (.int 64)
noncomputable abbrev i_is_name : Nat := 0
noncomputable abbrev i_is_saying : Nat := 1
noncomputable abbrev i_is_saying_within : Nat := 2
noncomputable abbrev i_sayings_within : Nat := 3
noncomputable abbrev i_pieces_in : Nat := 4
noncomputable abbrev i_is_row : Nat := 5
noncomputable abbrev i_are_lamps : Nat := 6
noncomputable abbrev i_are_sayings : Nat := 7
noncomputable abbrev i_stands_bare : Nat := 8
noncomputable abbrev i_are_promises : Nat := 9
noncomputable abbrev i_is_price : Nat := 10
noncomputable abbrev i_is_wish : Nat := 11
noncomputable abbrev i_are_wishes : Nat := 12
noncomputable abbrev i_sayings_of : Nat := 13
noncomputable abbrev i_is_book : Nat := 14
noncomputable abbrev i_checked : Nat := 15
noncomputable abbrev i_is_setting : Nat := 16
noncomputable abbrev i_settings_of : Nat := 17
noncomputable abbrev i_is_place : Nat := 18
noncomputable abbrev i_is_way : Nat := 19
noncomputable abbrev i_is_stand : Nat := 20
noncomputable abbrev i_is_machine : Nat := 21
noncomputable abbrev i_checked_machine : Nat := 22
noncomputable abbrev i_run : Nat := 23
noncomputable abbrev i__law_cell_at : Nat := 24
noncomputable abbrev i__law_mixed : Nat := 25
noncomputable abbrev i__law_next : Nat := 26
noncomputable abbrev i__law_names : Nat := 27
noncomputable abbrev i__law_saying : Nat := 28
noncomputable abbrev i__law_promise : Nat := 29
noncomputable abbrev i__law_book : Nat := 30
noncomputable abbrev i__law_settings : Nat := 31
noncomputable abbrev i__law_machine : Nat := 32
noncomputable abbrev i__law_run : Nat := 33
noncomputable abbrev i__law_sets : Nat := 34
noncomputable abbrev i_law : Nat := 35
noncomputable def f_is_name : Fn := ⟨1, 1, [.iff (.or_ (.not_ (.isi (.v 0) [.str])) (.cmp .in_ (.v 0) (.c g_NO_NAMES))) [.ret (.c (.bl false))] [], .ret (.and_ (.chain .le .le (.c (.int 1)) (.bi .len [(.v 0)]) (.c g_LONGEST_NAME)) (.bi .all [(.comp 1 [] [0] true none [(.v 0)] [] (.cmp .in_ (.v 0) (.c g_LETTERS)))]))]⟩
noncomputable def f_is_saying : Fn := ⟨2, 2, [.ret (.call i_is_saying_within [(.v 0), (.v 1), (.c g_DEEPEST)])]⟩
noncomputable def f_is_saying_within : Fn := ⟨3, 3, [.iff (.or_ (.cmp .lt (.v 2) (.c (.int 1))) (.or_ (.not_ (.isi (.v 1) [.tuple])) (.or_ (.cmp .lt (.bi .len [(.v 1)]) (.c (.int 1))) (.not_ (.isi (.ix (.v 1) (.c (.int 0))) [.str]))))) [.ret (.c (.bl false))] [], .iff (.cmp .eq (.ix (.v 1) (.c (.int 0))) (.c (.str (W "lamp")))) [.ret (.and_ (.cmp .eq (.bi .len [(.v 1)]) (.c (.int 2))) (.and_ (.call i_is_name [(.ix (.v 1) (.c (.int 1)))]) (.cmp .in_ (.ix (.v 1) (.c (.int 1))) (.v 0))))] [], .iff (.or_ (.cmp .notin (.ix (.v 1) (.c (.int 0))) (.c g_SAYINGS_WITHIN)) (.cmp .ne (.bi .len [(.v 1)]) (.bin .add (.c (.int 1)) (.ix (.c g_SAYINGS_WITHIN) (.ix (.v 1) (.c (.int 0))))))) [.ret (.c (.bl false))] [], .ret (.bi .all [(.comp 1 [0, 2] [0] true none [(.sl (.v 1) [(.c (.int 1))] [])] [] (.call i_is_saying_within [(.v 1), (.v 0), (.bin .sub (.v 2) (.c (.int 1)))]))])]⟩
noncomputable def f_sayings_within : Fn := ⟨1, 1, [.iff (.cmp .eq (.ix (.v 0) (.c (.int 0))) (.c (.str (W "lamp")))) [.ret (.tup [])] [], .ret (.sl (.v 0) [(.c (.int 1))] [])]⟩
noncomputable def f_pieces_in : Fn := ⟨1, 4, [.asg (.nm 1) (.lst []), .asg (.nm 2) (.bit .list .rev [(.v 0)]), .whl (.v 2) [.asg (.nm 3) (.meth .pop (.v 2) []), .iff (.and_ (.cmp .in_ (.ix (.v 3) (.c (.int 0))) (.c g_PAST_WORDS)) (.cmp .notin (.v 3) (.v 1))) [.ex (.meth .append (.v 1) [(.v 3)])] [], .ex (.meth .extend (.v 2) [(.bit .list .rev [(.call i_sayings_within [(.v 3)])])])], .ret (.v 1)]⟩
noncomputable def f_is_row : Fn := ⟨3, 3, [.ret (.and_ (.isi (.v 0) [.tuple]) (.chain .le .le (.v 1) (.bi .len [(.v 0)]) (.v 2)))]⟩
noncomputable def f_are_lamps : Fn := ⟨2, 3, [.iff (.or_ (.not_ (.call i_is_row [(.v 0), (.c (.int 1)), (.c g_MOST_LAMPS)])) (.not_ (.call i_is_row [(.v 1), (.c (.int 1)), (.c g_MOST_LAMPS)]))) [.ret (.c (.bl false))] [], .asg (.nm 2) (.bin .add (.v 0) (.v 1)), .ret (.and_ (.bi .all [(.comp 1 [] [0] true none [(.v 2)] [] (.call i_is_name [(.v 0)]))]) (.cmp .eq (.bi .lenset [(.v 2)]) (.bi .len [(.v 2)])))]⟩
noncomputable def f_are_sayings : Fn := ⟨3, 3, [.ret (.and_ (.call i_is_row [(.v 1), (.c (.int 0)), (.v 2)]) (.bi .all [(.comp 1 [0] [0] true none [(.v 1)] [] (.call i_is_saying [(.v 1), (.v 0)]))]))]⟩
noncomputable def f_stands_bare : Fn := ⟨2, 2, [.iff (.cmp .eq (.ix (.v 1) (.c (.int 0))) (.c (.str (W "before")))) [.ret (.c (.bl false))] [], .iff (.cmp .eq (.ix (.v 1) (.c (.int 0))) (.c (.str (W "lamp")))) [.ret (.cmp .in_ (.ix (.v 1) (.c (.int 1))) (.v 0))] [], .ret (.bi .any [(.comp 1 [0] [0] true none [(.call i_sayings_within [(.v 1)])] [] (.call i_stands_bare [(.v 1), (.v 0)]))])]⟩
noncomputable def f_are_promises : Fn := ⟨3, 3, [.ret (.and_ (.call i_are_sayings [(.v 0), (.v 2), (.c g_MOST_PROMISES)]) (.not_ (.bi .any [(.comp 1 [1] [0] true none [(.v 2)] [] (.call i_stands_bare [(.v 1), (.v 0)]))])))]⟩
noncomputable def f_is_price : Fn := ⟨1, 1, [.ret (.and_ (.isi (.v 0) [.int]) (.and_ (.not_ (.isi (.v 0) [.bool])) (.chain .le .le (.c (.int 1)) (.v 0) (.c g_HIGHEST_PRICE))))]⟩
noncomputable def f_is_wish : Fn := ⟨2, 2, [.ret (.and_ (.call i_is_row [(.v 1), (.c (.int 2)), (.c (.int 2))]) (.and_ (.call i_is_price [(.ix (.v 1) (.c (.int 0)))]) (.call i_is_saying [(.v 0), (.ix (.v 1) (.c (.int 1)))])))]⟩
noncomputable def f_are_wishes : Fn := ⟨2, 2, [.ret (.and_ (.call i_is_row [(.v 1), (.c (.int 1)), (.c g_MOST_WISHES)]) (.bi .all [(.comp 1 [0] [0] true none [(.v 1)] [] (.call i_is_wish [(.v 1), (.v 0)]))]))]⟩
noncomputable def f_sayings_of : Fn := ⟨3, 3, [.ret (.bin .add (.bin .add (.bi .list [(.v 0)]) (.bi .list [(.v 1)])) (.comp 1 [] [0] true none [(.v 2)] [] (.ix (.v 0) (.c (.int 1)))))]⟩
noncomputable def f_is_book : Fn := ⟨1, 6, [.iff (.or_ (.not_ (.call i_is_row [(.v 0), (.c (.int 5)), (.c (.int 5))])) (.not_ (.call i_are_lamps [(.ix (.v 0) (.c (.int 0))), (.ix (.v 0) (.c (.int 1)))]))) [.ret (.c (.bl false))] [], .asg (.nm 1) (.ix (.v 0) (.c (.int 1))), .asg (.nm 2) (.bin .add (.ix (.v 0) (.c (.int 0))) (.v 1)), .asg (.nm 3) (.ix (.v 0) (.c (.int 2))), .asg (.nm 4) (.ix (.v 0) (.c (.int 3))), .asg (.nm 5) (.ix (.v 0) (.c (.int 4))), .iff (.or_ (.not_ (.call i_are_promises [(.v 2), (.v 1), (.v 3)])) (.not_ (.call i_are_sayings [(.v 2), (.v 4), (.c g_MOST_MUSTS)]))) [.ret (.c (.bl false))] [], .ret (.and_ (.call i_are_wishes [(.v 2), (.v 5)]) (.cmp .le (.bi .len [(.call i_pieces_in [(.call i_sayings_of [(.v 3), (.v 4), (.v 5)])])]) (.c g_MOST_PIECES)))]⟩
noncomputable def f_checked : Fn := ⟨1, 1, [.iff (.not_ (.call i_is_book [(.v 0)])) [.rais 2 [(.c (.str (W "no book")))]] [], .ret (.v 0)]⟩
noncomputable def f_is_setting : Fn := ⟨2, 2, [.ret (.and_ (.isi (.v 0) [.tuple]) (.and_ (.cmp .eq (.bi .len [(.v 0)]) (.v 1)) (.bi .all [(.comp 1 [] [0] true none [(.v 0)] [] (.isi (.v 0) [.bool]))])))]⟩
noncomputable def f_settings_of : Fn := ⟨1, 5, [.asg (.nm 1) (.lst [(.tup [])]), .forr (.nm 2) (some .range) [(.bi .len [(.v 0)])] [.asg (.nm 3) (.lst []), .forr (.nm 4) none [(.v 1)] [.ex (.meth .append (.v 3) [(.bin .add (.v 4) (.tup [(.c (.bl false))]))]), .ex (.meth .append (.v 3) [(.bin .add (.v 4) (.tup [(.c (.bl true))]))])], .asg (.nm 1) (.v 3)], .ret (.v 1)]⟩
noncomputable def f_is_place : Fn := ⟨2, 2, [.ret (.and_ (.isi (.v 0) [.int]) (.and_ (.not_ (.isi (.v 0) [.bool])) (.chain .le .lt (.c (.int 0)) (.v 0) (.v 1))))]⟩
noncomputable def f_is_way : Fn := ⟨3, 3, [.ret (.and_ (.call i_is_row [(.v 2), (.c (.int 2)), (.c (.int 2))]) (.and_ (.call i_is_setting [(.ix (.v 2) (.c (.int 0))), (.bi .len [(.ix (.v 0) (.c (.int 1)))])]) (.call i_is_place [(.ix (.v 2) (.c (.int 1))), (.v 1)])))]⟩
noncomputable def f_is_stand : Fn := ⟨3, 4, [.asg (.nm 3) (.bi .len [(.call i_settings_of [(.ix (.v 0) (.c (.int 0)))])]), .ret (.and_ (.call i_is_row [(.v 2), (.v 3), (.v 3)]) (.bi .all [(.comp 1 [0, 1] [0] true none [(.v 2)] [] (.call i_is_way [(.v 1), (.v 2), (.v 0)]))]))]⟩
noncomputable def f_is_machine : Fn := ⟨2, 2, [.ret (.and_ (.call i_is_row [(.v 1), (.c (.int 1)), (.c g_MOST_STANDS)]) (.bi .all [(.comp 1 [0, 1] [0] true none [(.v 1)] [] (.call i_is_stand [(.v 1), (.bi .len [(.v 2)]), (.v 0)]))]))]⟩
noncomputable def f_checked_machine : Fn := ⟨2, 2, [.ex (.call i_checked [(.v 0)]), .iff (.not_ (.call i_is_machine [(.v 0), (.v 1)])) [.rais 4 [(.c (.str (W "no machine for this book")))]] [], .ret (.v 1)]⟩
noncomputable def f_run : Fn := ⟨3, 8, [.ex (.call i_checked_machine [(.v 0), (.v 1)]), .iff (.or_ (.not_ (.isi (.v 2) [.list])) (.not_ (.bi .all [(.comp 1 [0] [0] true none [(.v 2)] [] (.call i_is_setting [(.v 0), (.bi .len [(.ix (.v 1) (.c (.int 0)))])]))]))) [.rais 3 [(.c (.str (W "no list of settings of the foe")))]] [], .asg (.nm 3) (.call i_settings_of [(.ix (.v 0) (.c (.int 0)))]), .asg (.nm 4) (.lst []), .asg (.nm 5) (.c (.int 0)), .forr (.nm 6) none [(.v 2)] [.asg (.nm 7) (.ix (.ix (.v 1) (.v 5)) (.meth .index (.v 3) [(.v 6)])), .ex (.meth .append (.v 4) [(.bin .add (.v 6) (.ix (.v 7) (.c (.int 0))))]), .asg (.nm 5) (.ix (.v 7) (.c (.int 1)))], .ret (.v 4)]⟩
noncomputable def f__law_cell_at : Fn := ⟨2, 2, [.iff (.cmp .lt (.v 1) (.bi .len [(.v 0)])) [.ret (.ix (.v 0) (.v 1))] [], .iff (.cmp .eq (.v 0) (.lst [])) [.ret (.c (.int 0))] [], .ret (.bin .add (.bin .mul (.ix (.v 0) (.bin .mod (.v 1) (.bi .len [(.v 0)]))) (.c (.int 31))) (.v 1))]⟩
noncomputable def f__law_mixed : Fn := ⟨3, 4, [.asg (.nm 3) (.bin .mod (.bin .mul (.bin .add (.bin .add (.call i__law_cell_at [(.v 0), (.v 1)]) (.bin .mul (.c (.int 7919)) (.v 1))) (.c (.int 1))) (.c (.int 48271))) (.c (.int 2147483647))), .ret (.bin .mod (.bin .mod (.bin .add (.bin .add (.bin .mul (.v 3) (.v 3)) (.bin .mul (.c (.int 7)) (.v 3))) (.v 1)) (.c (.int 2147483629))) (.v 2))]⟩
noncomputable def f__law_next : Fn := ⟨3, 3, [.asg (.ix (.v 1) (.c (.int 0))) (.bin .add (.ix (.v 1) (.c (.int 0))) (.c (.int 1))), .ret (.call i__law_mixed [(.v 0), (.ix (.v 1) (.c (.int 0))), (.v 2)])]⟩
noncomputable def f__law_names : Fn := ⟨2, 7, [.asg (.nm 2) (.lst [(.c (.str (W "a"))), (.c (.str (W "b"))), (.c (.str (W "x"))), (.c (.str (W "y"))), (.c (.str (W "lamp"))), (.c (.str (W "far"))), (.c (.str (W "yesno"))), (.c (.str (W "abcdefgh")))]), .asg (.nm 3) (.call i__law_next [(.v 0), (.v 1), (.c (.int 8))]), .asg (.nm 4) (.bin .add (.sl (.v 2) [(.v 3)] []) (.sl (.v 2) [] [(.v 3)])), .asg (.nm 5) (.bin .add (.c (.int 1)) (.call i__law_next [(.v 0), (.v 1), (.c (.int 2))])), .asg (.nm 6) (.bin .add (.c (.int 1)) (.call i__law_next [(.v 0), (.v 1), (.c (.int 2))])), .ret (.tup [(.bi .tuple [(.sl (.v 4) [] [(.v 5)])]), (.bi .tuple [(.sl (.v 4) [(.v 5)] [(.bin .add (.v 5) (.v 6))])])])]⟩
noncomputable def f__law_saying : Fn := ⟨5, 7, [.asg (.nm 5) (.call i__law_next [(.v 0), (.v 1), (.c (.int 13))]), .iff (.or_ (.cmp .eq (.v 3) (.c (.int 0))) (.cmp .lt (.v 5) (.c (.int 3)))) [.ret (.tup [(.c (.str (W "lamp"))), (.ix (.v 2) (.call i__law_next [(.v 0), (.v 1), (.bi .len [(.v 2)])]))])] [], .iff (.cmp .eq (.v 5) (.c (.int 3))) [.ret (.tup [(.ix (.lst [(.c (.str (W "yes"))), (.c (.str (W "no")))]) (.call i__law_next [(.v 0), (.v 1), (.c (.int 2))]))])] [], .iff (.and_ (.cmp .gt (.v 5) (.c (.int 8))) (.cmp .gt (.ix (.v 4) (.c (.int 0))) (.c (.int 0)))) [.asg (.ix (.v 4) (.c (.int 0))) (.bin .sub (.ix (.v 4) (.c (.int 0))) (.c (.int 1))), .asg (.nm 6) (.call i__law_saying [(.v 0), (.v 1), (.v 2), (.bin .sub (.v 3) (.c (.int 1))), (.v 4)]), .iff (.cmp .eq (.v 5) (.c (.int 12))) [.ret (.tup [(.c (.str (W "since"))), (.v 6), (.call i__law_saying [(.v 0), (.v 1), (.v 2), (.bin .sub (.v 3) (.c (.int 1))), (.v 4)])])] [], .ret (.tup [(.ix (.lst [(.c (.str (W "before"))), (.c (.str (W "once"))), (.c (.str (W "sofar")))]) (.bin .sub (.v 5) (.c (.int 9)))), (.v 6)])] [], .asg (.nm 6) (.call i__law_saying [(.v 0), (.v 1), (.v 2), (.bin .sub (.v 3) (.c (.int 1))), (.v 4)]), .iff (.or_ (.cmp .eq (.v 5) (.c (.int 4))) (.cmp .gt (.v 5) (.c (.int 8)))) [.ret (.tup [(.c (.str (W "not"))), (.v 6)])] [], .ret (.tup [(.ix (.lst [(.c (.str (W "and"))), (.c (.str (W "or"))), (.c (.str (W "then"))), (.c (.str (W "same")))]) (.bin .sub (.v 5) (.c (.int 5)))), (.v 6), (.call i__law_saying [(.v 0), (.v 1), (.v 2), (.bin .sub (.v 3) (.c (.int 1))), (.v 4)])])]⟩
noncomputable def f__law_promise : Fn := ⟨5, 7, [.asg (.nm 5) (.call i__law_saying [(.v 0), (.v 1), (.v 2), (.c (.int 1)), (.lst [(.c (.int 0))])]), .iff (.and_ (.cmp .gt (.ix (.v 4) (.c (.int 0))) (.c (.int 0))) (.cmp .eq (.call i__law_next [(.v 0), (.v 1), (.c (.int 2))]) (.c (.int 1)))) [.asg (.ix (.v 4) (.c (.int 0))) (.bin .sub (.ix (.v 4) (.c (.int 0))) (.c (.int 1))), .asg (.nm 6) (.call i__law_saying [(.v 0), (.v 1), (.v 3), (.c (.int 1)), (.lst [(.c (.int 0))])]), .ret (.tup [(.ix (.lst [(.c (.str (W "then"))), (.c (.str (W "or"))), (.c (.str (W "same")))]) (.call i__law_next [(.v 0), (.v 1), (.c (.int 3))])), (.tup [(.c (.str (W "before"))), (.v 6)]), (.v 5)])] [], .ret (.v 5)]⟩
noncomputable def f__law_book : Fn := ⟨4, 14, [.asg (.nm 4) (.lst [(.v 1)]), .asg (.tp [5, 6]) (.call i__law_names [(.v 0), (.v 4)]), .asg (.nm 7) (.bin .add (.v 5) (.v 6)), .asg (.nm 8) (.lst [(.call i__law_next [(.v 0), (.v 4), (.bin .add (.v 2) (.c (.int 1)))])]), .asg (.nm 9) (.lst []), .forr (.nm 10) (some .range) [(.bin .add (.c (.int 1)) (.call i__law_next [(.v 0), (.v 4), (.c (.int 3))]))] [.asg (.nm 11) (.bin .add (.c (.int 1)) (.call i__law_next [(.v 0), (.v 4), (.ix (.lst [(.c (.int 3)), (.c (.int 9)), (.c (.int 99))]) (.call i__law_next [(.v 0), (.v 4), (.c (.int 3))]))])), .ex (.meth .append (.v 9) [(.tup [(.v 11), (.call i__law_saying [(.v 0), (.v 4), (.v 7), (.c (.int 2)), (.v 8)])])])], .asg (.nm 12) (.comp 1 [0, 4, 7, 8] [0] true (some .range) [(.call i__law_next [(.v 0), (.v 4), (.bin .add (.v 3) (.c (.int 1)))])] [] (.call i__law_saying [(.v 1), (.v 2), (.v 3), (.c (.int 2)), (.v 4)])), .asg (.nm 13) (.comp 1 [0, 4, 5, 7, 8] [0] true (some .range) [(.call i__law_next [(.v 0), (.v 4), (.c (.int 2))])] [] (.call i__law_promise [(.v 1), (.v 2), (.v 3), (.v 4), (.v 5)])), .ret (.tup [(.v 5), (.v 6), (.bi .tuple [(.v 13)]), (.bi .tuple [(.v 12)]), (.bi .tuple [(.v 9)])])]⟩
noncomputable def f__law_settings : Fn := ⟨1, 5, [.asg (.nm 1) (.lst [(.tup [])]), .forr (.nm 2) (some .range) [(.v 0)] [.asg (.nm 3) (.lst []), .forr (.nm 4) none [(.v 1)] [.ex (.meth .extend (.v 3) [(.lst [(.bin .add (.v 4) (.tup [(.c (.bl false))])), (.bin .add (.v 4) (.tup [(.c (.bl true))]))])])], .asg (.nm 1) (.v 3)], .ret (.v 1)]⟩
noncomputable def f__law_machine : Fn := ⟨5, 12, [.asg (.nm 5) (.bin .add (.c (.int 1)) (.call i__law_mixed [(.v 0), (.v 1), (.v 4)])), .asg (.nm 6) (.call i__law_settings [(.v 3)]), .asg (.nm 7) (.lst []), .forr (.nm 8) (some .range) [(.v 5)] [.asg (.nm 9) (.lst []), .forr (.nm 10) (some .range) [(.bi .len [(.call i__law_settings [(.v 2)])])] [.asg (.nm 11) (.call i__law_mixed [(.v 0), (.bin .add (.bin .add (.bin .add (.v 1) (.c (.int 1))) (.bin .mul (.c (.int 4)) (.v 8))) (.v 10)), (.bin .mul (.c (.int 4)) (.v 5))]), .ex (.meth .append (.v 9) [(.tup [(.ix (.v 6) (.bin .mod (.bin .mod (.v 11) (.c (.int 4))) (.bi .len [(.v 6)]))), (.bin .fdiv (.v 11) (.c (.int 4)))])])], .ex (.meth .append (.v 7) [(.bi .tuple [(.v 9)])])], .ret (.bi .tuple [(.v 7)])]⟩
noncomputable def f__law_run : Fn := ⟨2, 6, [.asg (.nm 2) (.c (.int 0)), .asg (.nm 3) (.lst []), .forr (.nm 4) none [(.v 1)] [.asg (.tp [5, 2]) (.ix (.ix (.v 0) (.v 2)) (.meth .index (.call i__law_settings [(.bi .len [(.v 4)])]) [(.v 4)])), .ex (.meth .append (.v 3) [(.bin .add (.v 4) (.v 5))])], .ret (.v 3)]⟩
noncomputable def f__law_sets : Fn := ⟨4, 9, [.asg (.nm 4) (.call i__law_mixed [(.v 0), (.v 1), (.bin .pow (.c (.int 10)) (.c (.int 9)))]), .asg (.nm 5) (.call i__law_settings [(.v 2)]), .asg (.nm 6) (.lst []), .forr (.nm 7) (some .range) [(.call i__law_mixed [(.v 0), (.bin .add (.v 1) (.c (.int 1))), (.bin .add (.v 3) (.c (.int 1)))])] [.asg (.nm 8) (.bin .mod (.bin .mul (.bin .add (.bin .add (.v 4) (.bin .mul (.bin .mul (.c (.int 104729)) (.v 7)) (.v 7))) (.bin .mul (.c (.int 7919)) (.v 7))) (.c (.int 48271))) (.c (.int 2147483647))), .ex (.meth .append (.v 6) [(.ix (.v 5) (.bin .mod (.bin .fdiv (.v 8) (.c (.int 13))) (.bi .len [(.v 5)])))])], .ret (.v 6)]⟩
noncomputable def f_law : Fn := ⟨1, 6, [.asg (.nm 1) (.call i__law_book [(.v 0), (.c (.int 30)), (.c (.int 2)), (.c (.int 1))]), .asg (.nm 2) (.call i__law_machine [(.v 0), (.c (.int 2)), (.bi .len [(.ix (.v 1) (.c (.int 0)))]), (.bi .len [(.ix (.v 1) (.c (.int 1)))]), (.c (.int 6))]), .asg (.nm 3) (.call i__law_sets [(.v 0), (.c (.int 0)), (.bi .len [(.ix (.v 1) (.c (.int 0)))]), (.c (.int 12))]), .asg (.nm 4) (.bi .list [(.v 3)]), .asg (.nm 5) (.call i_run [(.v 1), (.v 2), (.v 4)]), .iff (.or_ (.cmp .ne (.v 4) (.v 3)) (.cmp .ne (.call i_checked_machine [(.v 1), (.v 2)]) (.v 2))) [.ret (.c (.bl false))] [], .ret (.and_ (.isi (.v 5) [.list]) (.cmp .eq (.v 5) (.call i__law_run [(.v 2), (.v 3)])))]⟩
noncomputable def fnsT : Nat → Option Fn
  | 0 => some f_is_name
  | 1 => some f_is_saying
  | 2 => some f_is_saying_within
  | 3 => some f_sayings_within
  | 4 => some f_pieces_in
  | 5 => some f_is_row
  | 6 => some f_are_lamps
  | 7 => some f_are_sayings
  | 8 => some f_stands_bare
  | 9 => some f_are_promises
  | 10 => some f_is_price
  | 11 => some f_is_wish
  | 12 => some f_are_wishes
  | 13 => some f_sayings_of
  | 14 => some f_is_book
  | 15 => some f_checked
  | 16 => some f_is_setting
  | 17 => some f_settings_of
  | 18 => some f_is_place
  | 19 => some f_is_way
  | 20 => some f_is_stand
  | 21 => some f_is_machine
  | 22 => some f_checked_machine
  | 23 => some f_run
  | 24 => some f__law_cell_at
  | 25 => some f__law_mixed
  | 26 => some f__law_next
  | 27 => some f__law_names
  | 28 => some f__law_saying
  | 29 => some f__law_promise
  | 30 => some f__law_book
  | 31 => some f__law_settings
  | 32 => some f__law_machine
  | 33 => some f__law_run
  | 34 => some f__law_sets
  | 35 => some f_law
  | _ => none
noncomputable def subT : Nat → Nat → Bool
  | 0, 0 => true
  | 1, 1 => true
  | 1, 0 => true
  | 2, 2 => true
  | 2, 1 => true
  | 2, 0 => true
  | 3, 3 => true
  | 3, 1 => true
  | 3, 0 => true
  | 4, 4 => true
  | 4, 1 => true
  | 4, 0 => true
  | _, _ => false
noncomputable def G : Prog := ⟨fnsT, subT⟩
noncomputable abbrev bd (n : Nat) : Stmt := PySem.Challenge.pw_leastloss_k19_run.main.body.getD n (.Pass ⟨0, 0, 0, 0⟩)
noncomputable def stt : Nat → Stmt
  | 0 => bd 12
  | 1 => bd 13
  | 2 => bd 14
  | 3 => bd 15
  | 4 => bd 16
  | 5 => bd 24
  | 6 => bd 25
  | 7 => bd 26
  | 8 => bd 27
  | 9 => bd 28
  | 10 => bd 29
  | 11 => bd 30
  | 12 => bd 31
  | 13 => bd 32
  | 14 => bd 33
  | 15 => bd 34
  | 16 => bd 36
  | 17 => bd 38
  | 18 => bd 41
  | 19 => bd 42
  | 20 => bd 43
  | 21 => bd 44
  | 22 => bd 45
  | 23 => bd 46
  | 24 => bd 48
  | 25 => bd 49
  | 26 => bd 50
  | 27 => bd 51
  | 28 => bd 52
  | 29 => bd 53
  | 30 => bd 54
  | 31 => bd 55
  | 32 => bd 56
  | 33 => bd 57
  | 34 => bd 58
  | 35 => bd 59
  | _ => .Pass ⟨0, 0, 0, 0⟩
def nmt : Nat → Str
  | 0 => "is_name"
  | 1 => "is_saying"
  | 2 => "is_saying_within"
  | 3 => "sayings_within"
  | 4 => "pieces_in"
  | 5 => "is_row"
  | 6 => "are_lamps"
  | 7 => "are_sayings"
  | 8 => "stands_bare"
  | 9 => "are_promises"
  | 10 => "is_price"
  | 11 => "is_wish"
  | 12 => "are_wishes"
  | 13 => "sayings_of"
  | 14 => "is_book"
  | 15 => "checked"
  | 16 => "is_setting"
  | 17 => "settings_of"
  | 18 => "is_place"
  | 19 => "is_way"
  | 20 => "is_stand"
  | 21 => "is_machine"
  | 22 => "checked_machine"
  | 23 => "run"
  | 24 => "_law_cell_at"
  | 25 => "_law_mixed"
  | 26 => "_law_next"
  | 27 => "_law_names"
  | 28 => "_law_saying"
  | 29 => "_law_promise"
  | 30 => "_law_book"
  | 31 => "_law_settings"
  | 32 => "_law_machine"
  | 33 => "_law_run"
  | 34 => "_law_sets"
  | 35 => "law"
  | _ => ""
def qnt : Nat → Str
  | 0 => "is_name"
  | 1 => "is_saying"
  | 2 => "is_saying_within"
  | 3 => "sayings_within"
  | 4 => "pieces_in"
  | 5 => "is_row"
  | 6 => "are_lamps"
  | 7 => "are_sayings"
  | 8 => "stands_bare"
  | 9 => "are_promises"
  | 10 => "is_price"
  | 11 => "is_wish"
  | 12 => "are_wishes"
  | 13 => "sayings_of"
  | 14 => "is_book"
  | 15 => "checked"
  | 16 => "is_setting"
  | 17 => "settings_of"
  | 18 => "is_place"
  | 19 => "is_way"
  | 20 => "is_stand"
  | 21 => "is_machine"
  | 22 => "checked_machine"
  | 23 => "run"
  | 24 => "_law_cell_at"
  | 25 => "_law_mixed"
  | 26 => "_law_next"
  | 27 => "_law_names"
  | 28 => "_law_saying"
  | 29 => "_law_promise"
  | 30 => "_law_book"
  | 31 => "_law_settings"
  | 32 => "_law_machine"
  | 33 => "_law_run"
  | 34 => "_law_sets"
  | 35 => "law"
  | _ => ""
def att : Nat → At
  | 0 => .top
  | 1 => .top
  | 2 => .top
  | 3 => .top
  | 4 => .top
  | 5 => .top
  | 6 => .top
  | 7 => .top
  | 8 => .top
  | 9 => .top
  | 10 => .top
  | 11 => .top
  | 12 => .top
  | 13 => .top
  | 14 => .top
  | 15 => .top
  | 16 => .top
  | 17 => .top
  | 18 => .top
  | 19 => .top
  | 20 => .top
  | 21 => .top
  | 22 => .top
  | 23 => .top
  | 24 => .top
  | 25 => .top
  | 26 => .top
  | 27 => .top
  | 28 => .top
  | 29 => .top
  | 30 => .top
  | 31 => .top
  | 32 => .top
  | 33 => .top
  | 34 => .top
  | 35 => .top
  | _ => .top
noncomputable def pst : Nat → List Str
  | 0 => ["thing"]
  | 1 => ["names", "thing"]
  | 2 => ["names", "thing", "deepest"]
  | 3 => ["saying"]
  | 4 => ["sayings"]
  | 5 => ["thing", "fewest", "most"]
  | 6 => ["foe", "friend"]
  | 7 => ["names", "things", "most"]
  | 8 => ["names", "saying"]
  | 9 => ["names", "friend", "things"]
  | 10 => ["thing"]
  | 11 => ["names", "thing"]
  | 12 => ["names", "things"]
  | 13 => ["promises", "musts", "wishes"]
  | 14 => ["thing"]
  | 15 => ["book"]
  | 16 => ["thing", "lamps"]
  | 17 => ["lamps"]
  | 18 => ["thing", "places"]
  | 19 => ["book", "stands", "thing"]
  | 20 => ["book", "stands", "thing"]
  | 21 => ["book", "thing"]
  | 22 => ["book", "machine"]
  | 23 => ["book", "machine", "sets"]
  | 24 => ["_law_script", "_law_k"]
  | 25 => ["_law_script", "_law_k", "_law_many"]
  | 26 => ["_law_script", "_law_m", "_law_many"]
  | 27 => ["_law_script", "_law_m"]
  | 28 => ["_law_script", "_law_m", "_law_names_here", "_law_deep", "_law_left"]
  | 29 => ["_law_script", "_law_m", "_law_foe", "_law_names_here", "_law_left"]
  | 30 => ["_law_script", "_law_at", "_law_pieces", "_law_musts"]
  | 31 => ["_law_many"]
  | 32 => ["_law_script", "_law_at", "_law_foe", "_law_friend", "_law_most"]
  | 33 => ["_law_machine_here", "_law_sets_here"]
  | 34 => ["_law_script", "_law_at", "_law_foe", "_law_most"]
  | 35 => ["_law_script"]
  | _ => []
structure Zt (K : PySem.W.Frag) (mg : Str → Option Value) : Prop where
  b_isinstance : mg "isinstance" = none
  b_str : mg "str" = none
  b_len : mg "len" = none
  b_all : mg "all" = none
  b_tuple : mg "tuple" = none
  b_list : mg "list" = none
  b_reversed : mg "reversed" = none
  b_set : mg "set" = none
  b_any : mg "any" = none
  b_int : mg "int" = none
  b_bool : mg "bool" = none
  b_range : mg "range" = none
  g_NO_NAMES : GC K mg "NO_NAMES" g_NO_NAMES
  g_LONGEST_NAME : GC K mg "LONGEST_NAME" g_LONGEST_NAME
  g_LETTERS : GC K mg "LETTERS" g_LETTERS
  g_DEEPEST : GC K mg "DEEPEST" g_DEEPEST
  g_SAYINGS_WITHIN : GC K mg "SAYINGS_WITHIN" g_SAYINGS_WITHIN
  g_PAST_WORDS : GC K mg "PAST_WORDS" g_PAST_WORDS
  g_MOST_LAMPS : GC K mg "MOST_LAMPS" g_MOST_LAMPS
  g_MOST_PROMISES : GC K mg "MOST_PROMISES" g_MOST_PROMISES
  g_HIGHEST_PRICE : GC K mg "HIGHEST_PRICE" g_HIGHEST_PRICE
  g_MOST_WISHES : GC K mg "MOST_WISHES" g_MOST_WISHES
  g_MOST_MUSTS : GC K mg "MOST_MUSTS" g_MOST_MUSTS
  g_MOST_PIECES : GC K mg "MOST_PIECES" g_MOST_PIECES
  g_MOST_STANDS : GC K mg "MOST_STANDS" g_MOST_STANDS
section
variable {P : Program} {w : World} {K : PySem.W.Frag} {mg : Str → Option Value} {base : Heap}
theorem call_ok {k : Nat} (T : Top2 K mg 36 nmt qnt pst stt att) (IH : ∀ i, i < 36 → FnOk P w K mg base CX0 (2 * k) (T.a i) (T.fd i) (pst i) (spOf K (wpFn G k) i)) {X : Cx} (e1 : X.prog = P) (e2 : X.w = w) (e3 : X.K = K) (e4 : X.mg = mg) (e5 : X.base = base) (hr : Room (2 * k + 1) X.A) (i : Nat) (h : Nat.blt i 36 = true) (ha : att i = .top) : CallOk X (wpFn G k) (nmt i) i := by
  subst e1 e2 e3 e4 e5
  have h : i < 36 := Nat.ble_eq.mp h
  have q := T.mg i h
  rw [ha] at q
  exact ⟨2 * k, T.a i, T.fd i, pst i, IH i h, hr.mono (by walk_at "om"), q, (T.fn i h).kp, T.bi i h⟩
noncomputable abbrev TT (K : PySem.W.Frag) (mg : Str → Option Value) := Top2 K mg 36 nmt qnt pst stt att
noncomputable abbrev IT (P : Program) (w : World) (base : Heap) (T : TT K mg) (k : Nat) : Prop := ∀ i, i < 36 → FnOk P w K mg base CX0 (2 * k) (T.a i) (T.fd i) (pst i) (spOf K (wpFn G k) i)
noncomputable abbrev OT (P : Program) (w : World) (base : Heap) (T : TT K mg) (k i : Nat) : Prop := FnOk P w K mg base CX0 (2 * k + 1 + 1) (T.a i) (T.fd i) (pst i) (spOf K (wpFn G (k + 1)) i)
theorem okw (i : Nat) {k : Nat} {fn : Fn} {N : List Str} (T : TT K mg) (IH : IT P w base T k) (hi : Nat.blt i 36 = true) (S : FnScope N (pst i) (defScope (stt i))) (hG : G.fns i = some fn) (hp : fn.np = (pst i).length) (hl : fn.nl = N.length)
    (hb : ∀ (cdv : Value) (A : Around) (outer : List Env) (s : Shared) (H : Hp) (E : L2.XK) (hr : Room (2 * k + 1) (A.deeper (envOfC (qnt i) (defScope (stt i)) s.heap.objs.size (T.a i) cdv))) (m : CMono (wpFn G k) (wpFn G k)) (u : (A.deeper (envOfC (qnt i) (defScope (stt i)) s.heap.objs.size (T.a i) cdv)).units + 180 < PySem.cLine)
    (c : ∀ j, Nat.blt j 36 = true → att j = .top → CallOk (cxOf CX0 P w K mg base N (qnt i) (defScope (stt i)) (T.a i) cdv A outer s H E).nox (wpFn G k) (nmt j) j) (nd : N.Nodup),
    JSs (cxOf CX0 P w K mg base N (qnt i) (defScope (stt i)) (T.a i) cdv A outer s H E).nox (wpFn G k) G.sub (defBody (stt i)) fn.body) : OT P w base T k i :=
  fn_ok2 (fn := fn) (T.fn i (Nat.ble_eq.mp hi)) S hG hp hl fun cdv A outer s H E hr => hb cdv A outer s H E hr (wpFn_mono G (Nat.le_refl k)) (un180 hr) (call_ok (X := (cxOf CX0 P w K mg base N (qnt i) (defScope (stt i)) (T.a i) cdv A outer s H E).nox) T IH rfl rfl rfl rfl rfl hr) S.nd
theorem ok_0 {k : Nat} (T : TT K mg) (Z : Zt K mg) (IH : IT P w base T k) : OT P w base T k 0 :=
  okw 0 (fn := f_is_name) (N := ["thing"]) T IH rfl ⟨rfl, rfl, rfl, by decide +kernel, rfl, by decide +kernel, by decide +kernel⟩ rfl rfl rfl fun cdv A outer s H E hr m u c nd => by
  exact (cc (sif m (wpt (wor m (tno (tp (jis (t := .str) bt_str Z.b_isinstance Z.b_str (jv 0)))) (won (tcm (o := .in_) u (jv 0) (jg Z.g_NO_NAMES))))) (cc (sre m jb)
    c0) c0)
    (cc (sre m (jan (jch (o := .le) (o' := .le) u ji (jfun bi_len_ok bt_len Z.b_len (ja (jv 0) an)) (jg Z.g_LONGEST_NAME)) (jon (jfun (bi_all_ok hr.hd) bt_all Z.b_all (ja (jco m (own := ["sign"]) (cn := []) (caps := []) (one := true) (csc (on := (defScope (stt 0)).names) (N := ["thing"]) (by decide +kernel)) (iv (jv 0)) (fun o' o' o' o' => (b1 (gn (show (["sign"] : List Str).Nodup by decide +kernel)))) (fun o' o' o' o' => qn) (fun o' o' o' o' => (jcm (o := .in_) u (jv 0) (jg Z.g_LETTERS)))) an)))))
    c0))
theorem ok_1 {k : Nat} (T : TT K mg) (Z : Zt K mg) (IH : IT P w base T k) : OT P w base T k 1 :=
  okw 1 (fn := f_is_saying) (N := ["names", "thing"]) T IH rfl ⟨rfl, rfl, rfl, by decide +kernel, rfl, by decide +kernel, by decide +kernel⟩ rfl rfl rfl fun cdv A outer s H E hr m u c nd => by
  exact (cc (sre m (jcl (c 2 rfl rfl) (ja (jv 0) (ja (jv 1) (ja (jg Z.g_DEEPEST) an)))))
    c0)
noncomputable abbrev N2 : List Str := ["names", "thing", "deepest"]
theorem ok_2 {k : Nat} (T : TT K mg) (Z : Zt K mg) (IH : IT P w base T k) : OT P w base T k 2 :=
  okw 2 (fn := f_is_saying_within) (N := N2) T IH rfl ⟨rfl, rfl, rfl, by decide +kernel, rfl, by decide +kernel, by decide +kernel⟩ rfl rfl rfl fun cdv A outer s H E hr m u c nd => by
  exact (cc (sif m (wpt (wor m (tcm (o := .lt) u (jvc 2) ji) (wor m (tno (tp (jis (t := .tuple) bt_tuple Z.b_isinstance Z.b_tuple (jv 1)))) (wor m (tcm (o := .lt) u (jfun bi_len_ok bt_len Z.b_len (ja (jv 1) an)) ji) (won (tno (tp (jis (t := .str) bt_str Z.b_isinstance Z.b_str (jix (jv 1) ji))))))))) (cc (sre m jb)
    c0) c0)
    (cc (sif m (tcm (o := .eq) u (jix (jv 1) ji) js) (cc (sre m (jan (jcm (o := .eq) u (jfun bi_len_ok bt_len Z.b_len (ja (jv 1) an)) ji) (jan (jcl (c 0 rfl rfl) (ja (jix (jv 1) ji) an)) (jon (jcm (o := .in_) u (jix (jv 1) ji) (jvc 0))))))
    c0) c0)
    (cc (sif m (wpt (wor m (tcm (o := .notin) u (jix (jv 1) ji) (jg Z.g_SAYINGS_WITHIN)) (won (tcm (o := .ne) u (jfun bi_len_ok bt_len Z.b_len (ja (jv 1) an)) (jbi (op := .add) ji (jix (jg Z.g_SAYINGS_WITHIN) (jix (jv 1) ji))))))) (cc (sre m jb)
    c0) c0)
    (cc (sre m (jfun (bi_all_ok hr.hd) bt_all Z.b_all (ja (jco m (own := ["part"]) (cn := ["names", "deepest"]) (caps := [0, 2]) (one := true) (csc (on := (defScope (stt 2)).names) (N := N2) (by decide +kernel)) (iv (jsl (jv 1) (os ji) on)) (fun o' o' o' o' => (b1 (gn (show (["part", "names", "deepest"] : List Str).Nodup by decide +kernel)))) (fun o' o' o' o' => qn) (fun o' o' o' o' => (jcl ((c 2 rfl rfl).inC) (ja (jvc 1) (ja (jv 0) (ja (jbi (op := .sub) (jvc 2) ji) an)))))) an)))
    c0))))
theorem ok_3 {k : Nat} (T : TT K mg) (Z : Zt K mg) (IH : IT P w base T k) : OT P w base T k 3 :=
  okw 3 (fn := f_sayings_within) (N := ["saying"]) T IH rfl ⟨rfl, rfl, rfl, by decide +kernel, rfl, by decide +kernel, by decide +kernel⟩ rfl rfl rfl fun cdv A outer s H E hr m u c nd => by
  exact (cc (sif m (tcm (o := .eq) u (jix (jv 0) ji) js) (cc (sre m (jt m an))
    c0) c0)
    (cc (sre m (jsl (jv 0) (os ji) on))
    c0))
theorem ok_4 {k : Nat} (T : TT K mg) (Z : Zt K mg) (IH : IT P w base T k) : OT P w base T k 4 :=
  okw 4 (fn := f_pieces_in) (N := ["sayings", "pieces", "ahead", "saying"]) T IH rfl ⟨rfl, rfl, rfl, by decide +kernel, rfl, by decide +kernel, by decide +kernel⟩ rfl rfl rfl fun cdv A outer s H E hr m u c nd => by
  exact (cc (sn (i := 1) m nd (jl an))
    (cc (sn (i := 2) m nd (jlr Z.b_list Z.b_reversed (ja (jv 0) an)))
    (cc (sw m (tp (jv 2)) (cc (sn (i := 3) m nd (jpo (jv 2) ))
    (cc (sif m (wpt (wan m (tcm (o := .in_) u (jix (jv 3) ji) (jg Z.g_PAST_WORDS)) (won (tcm (o := .notin) u (jv 3) (jv 1))))) (cc (sx m (jap (jv 1) (ja (jv 3) an)))
    c0) c0)
    (cc (sx m (jxt (jv 2) (ja (jlr Z.b_list Z.b_reversed (ja (jcl (c 3 rfl rfl) (ja (jv 3) an)) an)) an)))
    c0))))
    (cc (sre m (jv 1))
    c0))))
theorem ok_5 {k : Nat} (T : TT K mg) (Z : Zt K mg) (IH : IT P w base T k) : OT P w base T k 5 :=
  okw 5 (fn := f_is_row) (N := ["thing", "fewest", "most"]) T IH rfl ⟨rfl, rfl, rfl, by decide +kernel, rfl, by decide +kernel, by decide +kernel⟩ rfl rfl rfl fun cdv A outer s H E hr m u c nd => by
  exact (cc (sre m (jan (jis (t := .tuple) bt_tuple Z.b_isinstance Z.b_tuple (jv 0)) (jon (jch (o := .le) (o' := .le) u (jv 1) (jfun bi_len_ok bt_len Z.b_len (ja (jv 0) an)) (jv 2)))))
    c0)
noncomputable abbrev N6 : List Str := ["foe", "friend", "names"]
theorem ok_6 {k : Nat} (T : TT K mg) (Z : Zt K mg) (IH : IT P w base T k) : OT P w base T k 6 :=
  okw 6 (fn := f_are_lamps) (N := N6) T IH rfl ⟨rfl, rfl, rfl, by decide +kernel, rfl, by decide +kernel, by decide +kernel⟩ rfl rfl rfl fun cdv A outer s H E hr m u c nd => by
  exact (cc (sif m (wpt (wor m (tno (tp (jcl (c 5 rfl rfl) (ja (jv 0) (ja ji (ja (jg Z.g_MOST_LAMPS) an)))))) (won (tno (tp (jcl (c 5 rfl rfl) (ja (jv 1) (ja ji (ja (jg Z.g_MOST_LAMPS) an))))))))) (cc (sre m jb)
    c0) c0)
    (cc (sn (i := 2) m nd (jbi (op := .add) (jv 0) (jv 1)))
    (cc (sre m (jan (jfun (bi_all_ok hr.hd) bt_all Z.b_all (ja (jco m (own := ["name"]) (cn := []) (caps := []) (one := true) (csc (on := (defScope (stt 6)).names) (N := N6) (by decide +kernel)) (iv (jv 2)) (fun o' o' o' o' => (b1 (gn (show (["name"] : List Str).Nodup by decide +kernel)))) (fun o' o' o' o' => qn) (fun o' o' o' o' => (jcl ((c 0 rfl rfl).inC) (ja (jv 0) an)))) an)) (jon (jcm (o := .eq) u (jls Z.b_len Z.b_set (ja (jv 2) an)) (jfun bi_len_ok bt_len Z.b_len (ja (jv 2) an))))))
    c0)))
noncomputable abbrev N7 : List Str := ["names", "things", "most"]
theorem ok_7 {k : Nat} (T : TT K mg) (Z : Zt K mg) (IH : IT P w base T k) : OT P w base T k 7 :=
  okw 7 (fn := f_are_sayings) (N := N7) T IH rfl ⟨rfl, rfl, rfl, by decide +kernel, rfl, by decide +kernel, by decide +kernel⟩ rfl rfl rfl fun cdv A outer s H E hr m u c nd => by
  exact (cc (sre m (jan (jcl (c 5 rfl rfl) (ja (jv 1) (ja ji (ja (jv 2) an)))) (jon (jfun (bi_all_ok hr.hd) bt_all Z.b_all (ja (jco m (own := ["thing"]) (cn := ["names"]) (caps := [0]) (one := true) (csc (on := (defScope (stt 7)).names) (N := N7) (by decide +kernel)) (iv (jv 1)) (fun o' o' o' o' => (b1 (gn (show (["thing", "names"] : List Str).Nodup by decide +kernel)))) (fun o' o' o' o' => qn) (fun o' o' o' o' => (jcl ((c 1 rfl rfl).inC) (ja (jvc 1) (ja (jv 0) an))))) an)))))
    c0)
theorem ok_8 {k : Nat} (T : TT K mg) (Z : Zt K mg) (IH : IT P w base T k) : OT P w base T k 8 :=
  okw 8 (fn := f_stands_bare) (N := ["names", "saying"]) T IH rfl ⟨rfl, rfl, rfl, by decide +kernel, rfl, by decide +kernel, by decide +kernel⟩ rfl rfl rfl fun cdv A outer s H E hr m u c nd => by
  exact (cc (sif m (tcm (o := .eq) u (jix (jv 1) ji) js) (cc (sre m jb)
    c0) c0)
    (cc (sif m (tcm (o := .eq) u (jix (jv 1) ji) js) (cc (sre m (jcm (o := .in_) u (jix (jv 1) ji) (jvc 0)))
    c0) c0)
    (cc (sre m (jfun (bi_any_ok hr.hd) bt_any Z.b_any (ja (jco m (own := ["part"]) (cn := ["names"]) (caps := [0]) (one := true) (csc (on := (defScope (stt 8)).names) (N := ["names", "saying"]) (by decide +kernel)) (iv (jcl (c 3 rfl rfl) (ja (jv 1) an))) (fun o' o' o' o' => (b1 (gn (show (["part", "names"] : List Str).Nodup by decide +kernel)))) (fun o' o' o' o' => qn) (fun o' o' o' o' => (jcl ((c 8 rfl rfl).inC) (ja (jvc 1) (ja (jv 0) an))))) an)))
    c0)))
noncomputable abbrev N9 : List Str := ["names", "friend", "things"]
theorem ok_9 {k : Nat} (T : TT K mg) (Z : Zt K mg) (IH : IT P w base T k) : OT P w base T k 9 :=
  okw 9 (fn := f_are_promises) (N := N9) T IH rfl ⟨rfl, rfl, rfl, by decide +kernel, rfl, by decide +kernel, by decide +kernel⟩ rfl rfl rfl fun cdv A outer s H E hr m u c nd => by
  exact (cc (sre m (jan (jcl (c 7 rfl rfl) (ja (jv 0) (ja (jv 2) (ja (jg Z.g_MOST_PROMISES) an)))) (jon (jno (jfun (bi_any_ok hr.hd) bt_any Z.b_any (ja (jco m (own := ["thing"]) (cn := ["friend"]) (caps := [1]) (one := true) (csc (on := (defScope (stt 9)).names) (N := N9) (by decide +kernel)) (iv (jv 2)) (fun o' o' o' o' => (b1 (gn (show (["thing", "friend"] : List Str).Nodup by decide +kernel)))) (fun o' o' o' o' => qn) (fun o' o' o' o' => (jcl ((c 8 rfl rfl).inC) (ja (jvc 1) (ja (jv 0) an))))) an))))))
    c0)
theorem ok_10 {k : Nat} (T : TT K mg) (Z : Zt K mg) (IH : IT P w base T k) : OT P w base T k 10 :=
  okw 10 (fn := f_is_price) (N := ["thing"]) T IH rfl ⟨rfl, rfl, rfl, by decide +kernel, rfl, by decide +kernel, by decide +kernel⟩ rfl rfl rfl fun cdv A outer s H E hr m u c nd => by
  exact (cc (sre m (jan (jis (t := .int) bt_int Z.b_isinstance Z.b_int (jv 0)) (jan (jno (jis (t := .bool) bt_bool Z.b_isinstance Z.b_bool (jv 0))) (jon (jch (o := .le) (o' := .le) u ji (jv 0) (jg Z.g_HIGHEST_PRICE))))))
    c0)
theorem ok_11 {k : Nat} (T : TT K mg) (Z : Zt K mg) (IH : IT P w base T k) : OT P w base T k 11 :=
  okw 11 (fn := f_is_wish) (N := ["names", "thing"]) T IH rfl ⟨rfl, rfl, rfl, by decide +kernel, rfl, by decide +kernel, by decide +kernel⟩ rfl rfl rfl fun cdv A outer s H E hr m u c nd => by
  exact (cc (sre m (jan (jcl (c 5 rfl rfl) (ja (jv 1) (ja ji (ja ji an)))) (jan (jcl (c 10 rfl rfl) (ja (jix (jv 1) ji) an)) (jon (jcl (c 1 rfl rfl) (ja (jv 0) (ja (jix (jv 1) ji) an)))))))
    c0)
theorem ok_12 {k : Nat} (T : TT K mg) (Z : Zt K mg) (IH : IT P w base T k) : OT P w base T k 12 :=
  okw 12 (fn := f_are_wishes) (N := ["names", "things"]) T IH rfl ⟨rfl, rfl, rfl, by decide +kernel, rfl, by decide +kernel, by decide +kernel⟩ rfl rfl rfl fun cdv A outer s H E hr m u c nd => by
  exact (cc (sre m (jan (jcl (c 5 rfl rfl) (ja (jv 1) (ja ji (ja (jg Z.g_MOST_WISHES) an)))) (jon (jfun (bi_all_ok hr.hd) bt_all Z.b_all (ja (jco m (own := ["thing"]) (cn := ["names"]) (caps := [0]) (one := true) (csc (on := (defScope (stt 12)).names) (N := ["names", "things"]) (by decide +kernel)) (iv (jv 1)) (fun o' o' o' o' => (b1 (gn (show (["thing", "names"] : List Str).Nodup by decide +kernel)))) (fun o' o' o' o' => qn) (fun o' o' o' o' => (jcl ((c 11 rfl rfl).inC) (ja (jvc 1) (ja (jv 0) an))))) an)))))
    c0)
noncomputable abbrev N13 : List Str := ["promises", "musts", "wishes"]
theorem ok_13 {k : Nat} (T : TT K mg) (Z : Zt K mg) (IH : IT P w base T k) : OT P w base T k 13 :=
  okw 13 (fn := f_sayings_of) (N := N13) T IH rfl ⟨rfl, rfl, rfl, by decide +kernel, rfl, by decide +kernel, by decide +kernel⟩ rfl rfl rfl fun cdv A outer s H E hr m u c nd => by
  exact (cc (sre m (jbi (op := .add) (jbi (op := .add) (jtyp bi_list_ok bt_list Z.b_list (ja (jv 0) an)) (jtyp bi_list_ok bt_list Z.b_list (ja (jv 1) an))) (jco m (own := ["wish"]) (cn := []) (caps := []) (one := true) (csc (on := (defScope (stt 13)).names) (N := N13) (by decide +kernel)) (iv (jv 2)) (fun o' o' o' o' => (b1 (gn (show (["wish"] : List Str).Nodup by decide +kernel)))) (fun o' o' o' o' => qn) (fun o' o' o' o' => (jix (jv 0) ji)))))
    c0)
theorem ok_14 {k : Nat} (T : TT K mg) (Z : Zt K mg) (IH : IT P w base T k) : OT P w base T k 14 :=
  okw 14 (fn := f_is_book) (N := ["thing", "friend", "names", "promises", "musts", "wishes"]) T IH rfl ⟨rfl, rfl, rfl, by decide +kernel, rfl, by decide +kernel, by decide +kernel⟩ rfl rfl rfl fun cdv A outer s H E hr m u c nd => by
  exact (cc (sif m (wpt (wor m (tno (tp (jcl (c 5 rfl rfl) (ja (jv 0) (ja ji (ja ji an)))))) (won (tno (tp (jcl (c 6 rfl rfl) (ja (jix (jv 0) ji) (ja (jix (jv 0) ji) an)))))))) (cc (sre m jb)
    c0) c0)
    (cc (sn (i := 1) m nd (jix (jv 0) ji))
    (cc (sn (i := 2) m nd (jbi (op := .add) (jix (jv 0) ji) (jv 1)))
    (cc (sn (i := 3) m nd (jix (jv 0) ji))
    (cc (sn (i := 4) m nd (jix (jv 0) ji))
    (cc (sn (i := 5) m nd (jix (jv 0) ji))
    (cc (sif m (wpt (wor m (tno (tp (jcl (c 9 rfl rfl) (ja (jv 2) (ja (jv 1) (ja (jv 3) an)))))) (won (tno (tp (jcl (c 7 rfl rfl) (ja (jv 2) (ja (jv 4) (ja (jg Z.g_MOST_MUSTS) an))))))))) (cc (sre m jb)
    c0) c0)
    (cc (sre m (jan (jcl (c 12 rfl rfl) (ja (jv 2) (ja (jv 5) an))) (jon (jcm (o := .le) u (jfun bi_len_ok bt_len Z.b_len (ja (jcl (c 4 rfl rfl) (ja (jcl (c 13 rfl rfl) (ja (jv 3) (ja (jv 4) (ja (jv 5) an)))) an)) an)) (jg Z.g_MOST_PIECES)))))
    c0))))))))
theorem ok_15 {k : Nat} (T : TT K mg) (Z : Zt K mg) (IH : IT P w base T k) : OT P w base T k 15 :=
  okw 15 (fn := f_checked) (N := ["book"]) T IH rfl ⟨rfl, rfl, rfl, by decide +kernel, rfl, by decide +kernel, by decide +kernel⟩ rfl rfl rfl fun cdv A outer s H E hr m u c nd => by
  exact (cc (sif m (tno (tp (jcl (c 14 rfl rfl) (ja (jv 0) an)))) (cc (srn m)
    c0) c0)
    (cc (sre m (jv 0))
    c0))
theorem ok_16 {k : Nat} (T : TT K mg) (Z : Zt K mg) (IH : IT P w base T k) : OT P w base T k 16 :=
  okw 16 (fn := f_is_setting) (N := ["thing", "lamps"]) T IH rfl ⟨rfl, rfl, rfl, by decide +kernel, rfl, by decide +kernel, by decide +kernel⟩ rfl rfl rfl fun cdv A outer s H E hr m u c nd => by
  exact (cc (sre m (jan (jis (t := .tuple) bt_tuple Z.b_isinstance Z.b_tuple (jv 0)) (jan (jcm (o := .eq) u (jfun bi_len_ok bt_len Z.b_len (ja (jv 0) an)) (jv 1)) (jon (jfun (bi_all_ok hr.hd) bt_all Z.b_all (ja (jco m (own := ["part"]) (cn := []) (caps := []) (one := true) (csc (on := (defScope (stt 16)).names) (N := ["thing", "lamps"]) (by decide +kernel)) (iv (jv 0)) (fun o' o' o' o' => (b1 (gn (show (["part"] : List Str).Nodup by decide +kernel)))) (fun o' o' o' o' => qn) (fun o' o' o' o' => (jis (t := .bool) bt_bool Z.b_isinstance Z.b_bool (jv 0)))) an))))))
    c0)
theorem ok_17 {k : Nat} (T : TT K mg) (Z : Zt K mg) (IH : IT P w base T k) : OT P w base T k 17 :=
  okw 17 (fn := f_settings_of) (N := ["lamps", "settings", "place", "longer", "setting"]) T IH rfl ⟨rfl, rfl, rfl, by decide +kernel, rfl, by decide +kernel, by decide +kernel⟩ rfl rfl rfl fun cdv A outer s H E hr m u c nd => by
  exact (cc (sn (i := 1) m nd (jl (ja (jt m an) an)))
    (cc (sfn (i := 2) m nd (pr1 m Z.b_range (ja (jfun bi_len_ok bt_len Z.b_len (ja (jv 0) an)) an)) (cc (sn (i := 3) m nd (jl an))
    (cc (sfn (i := 4) m nd (iv (jv 1)) (cc (sx m (jap (jv 3) (ja (jbi (op := .add) (jv 4) (jt m (ja jb an))) an)))
    (cc (sx m (jap (jv 3) (ja (jbi (op := .add) (jv 4) (jt m (ja jb an))) an)))
    c0)))
    (cc (sn (i := 1) m nd (jv 3))
    c0))))
    (cc (sre m (jv 1))
    c0)))
theorem ok_18 {k : Nat} (T : TT K mg) (Z : Zt K mg) (IH : IT P w base T k) : OT P w base T k 18 :=
  okw 18 (fn := f_is_place) (N := ["thing", "places"]) T IH rfl ⟨rfl, rfl, rfl, by decide +kernel, rfl, by decide +kernel, by decide +kernel⟩ rfl rfl rfl fun cdv A outer s H E hr m u c nd => by
  exact (cc (sre m (jan (jis (t := .int) bt_int Z.b_isinstance Z.b_int (jv 0)) (jan (jno (jis (t := .bool) bt_bool Z.b_isinstance Z.b_bool (jv 0))) (jon (jch (o := .le) (o' := .lt) u ji (jv 0) (jv 1))))))
    c0)
theorem ok_19 {k : Nat} (T : TT K mg) (Z : Zt K mg) (IH : IT P w base T k) : OT P w base T k 19 :=
  okw 19 (fn := f_is_way) (N := ["book", "stands", "thing"]) T IH rfl ⟨rfl, rfl, rfl, by decide +kernel, rfl, by decide +kernel, by decide +kernel⟩ rfl rfl rfl fun cdv A outer s H E hr m u c nd => by
  exact (cc (sre m (jan (jcl (c 5 rfl rfl) (ja (jv 2) (ja ji (ja ji an)))) (jan (jcl (c 16 rfl rfl) (ja (jix (jv 2) ji) (ja (jfun bi_len_ok bt_len Z.b_len (ja (jix (jv 0) ji) an)) an))) (jon (jcl (c 18 rfl rfl) (ja (jix (jv 2) ji) (ja (jv 1) an)))))))
    c0)
noncomputable abbrev N20 : List Str := ["book", "stands", "thing", "ways"]
theorem ok_20 {k : Nat} (T : TT K mg) (Z : Zt K mg) (IH : IT P w base T k) : OT P w base T k 20 :=
  okw 20 (fn := f_is_stand) (N := N20) T IH rfl ⟨rfl, rfl, rfl, by decide +kernel, rfl, by decide +kernel, by decide +kernel⟩ rfl rfl rfl fun cdv A outer s H E hr m u c nd => by
  exact (cc (sn (i := 3) m nd (jfun bi_len_ok bt_len Z.b_len (ja (jcl (c 17 rfl rfl) (ja (jix (jvc 0) ji) an)) an)))
    (cc (sre m (jan (jcl (c 5 rfl rfl) (ja (jv 2) (ja (jv 3) (ja (jv 3) an)))) (jon (jfun (bi_all_ok hr.hd) bt_all Z.b_all (ja (jco m (own := ["way"]) (cn := ["book", "stands"]) (caps := [0, 1]) (one := true) (csc (on := (defScope (stt 20)).names) (N := N20) (by decide +kernel)) (iv (jv 2)) (fun o' o' o' o' => (b1 (gn (show (["way", "book", "stands"] : List Str).Nodup by decide +kernel)))) (fun o' o' o' o' => qn) (fun o' o' o' o' => (jcl ((c 19 rfl rfl).inC) (ja (jvc 1) (ja (jvc 2) (ja (jv 0) an)))))) an)))))
    c0))
theorem ok_21 {k : Nat} (T : TT K mg) (Z : Zt K mg) (IH : IT P w base T k) : OT P w base T k 21 :=
  okw 21 (fn := f_is_machine) (N := ["book", "thing"]) T IH rfl ⟨rfl, rfl, rfl, by decide +kernel, rfl, by decide +kernel, by decide +kernel⟩ rfl rfl rfl fun cdv A outer s H E hr m u c nd => by
  exact (cc (sre m (jan (jcl (c 5 rfl rfl) (ja (jvc 1) (ja ji (ja (jg Z.g_MOST_STANDS) an)))) (jon (jfun (bi_all_ok hr.hd) bt_all Z.b_all (ja (jco m (own := ["stand"]) (cn := ["book", "thing"]) (caps := [0, 1]) (one := true) (csc (on := (defScope (stt 21)).names) (N := ["book", "thing"]) (by decide +kernel)) (iv (jvc 1)) (fun o' o' o' o' => (b1 (gn (show (["stand", "book", "thing"] : List Str).Nodup by decide +kernel)))) (fun o' o' o' o' => qn) (fun o' o' o' o' => (jcl ((c 20 rfl rfl).inC) (ja (jvc 1) (ja (jfun bi_len_ok bt_len Z.b_len (ja (jvc 2) an)) (ja (jv 0) an)))))) an)))))
    c0)
theorem ok_22 {k : Nat} (T : TT K mg) (Z : Zt K mg) (IH : IT P w base T k) : OT P w base T k 22 :=
  okw 22 (fn := f_checked_machine) (N := ["book", "machine"]) T IH rfl ⟨rfl, rfl, rfl, by decide +kernel, rfl, by decide +kernel, by decide +kernel⟩ rfl rfl rfl fun cdv A outer s H E hr m u c nd => by
  exact (cc (sx m (jcl (c 15 rfl rfl) (ja (jv 0) an)))
    (cc (sif m (tno (tp (jcl (c 21 rfl rfl) (ja (jv 0) (ja (jv 1) an))))) (cc (srn m)
    c0) c0)
    (cc (sre m (jv 1))
    c0)))
noncomputable abbrev N23 : List Str := ["book", "machine", "sets", "order", "play", "stand", "foe", "way"]
theorem ok_23 {k : Nat} (T : TT K mg) (Z : Zt K mg) (IH : IT P w base T k) : OT P w base T k 23 :=
  okw 23 (fn := f_run) (N := N23) T IH rfl ⟨rfl, rfl, rfl, by decide +kernel, rfl, by decide +kernel, by decide +kernel⟩ rfl rfl rfl fun cdv A outer s H E hr m u c nd => by
  exact (cc (sx m (jcl (c 22 rfl rfl) (ja (jvc 0) (ja (jv 1) an))))
    (cc (sif m (wpt (wor m (tno (tp (jis (t := .list) bt_list Z.b_isinstance Z.b_list (jv 2)))) (won (tno (tp (jfun (bi_all_ok hr.hd) bt_all Z.b_all (ja (jco m (own := ["foe"]) (cn := ["book"]) (caps := [0]) (one := true) (csc (on := (defScope (stt 23)).names) (N := N23) (by decide +kernel)) (iv (jv 2)) (fun o' o' o' o' => (b1 (gn (show (["foe", "book"] : List Str).Nodup by decide +kernel)))) (fun o' o' o' o' => qn) (fun o' o' o' o' => (jcl ((c 16 rfl rfl).inC) (ja (jv 0) (ja (jfun bi_len_ok bt_len Z.b_len (ja (jix (jvc 1) ji) an)) an))))) an))))))) (cc (srn m)
    c0) c0)
    (cc (sn (i := 3) m nd (jcl (c 17 rfl rfl) (ja (jix (jvc 0) ji) an)))
    (cc (sn (i := 4) m nd (jl an))
    (cc (sn (i := 5) m nd ji)
    (cc (sfn (i := 6) m nd (iv (jv 2)) (cc (sn (i := 7) m nd (jix (jix (jv 1) (jv 5)) (jidx m u (jv 3) (ja (jv 6) an))))
    (cc (sx m (jap (jv 4) (ja (jbi (op := .add) (jv 6) (jix (jv 7) ji)) an)))
    (cc (sn (i := 5) m nd (jix (jv 7) ji))
    c0))))
    (cc (sre m (jv 4))
    c0)))))))
theorem ok_24 {k : Nat} (T : TT K mg) (Z : Zt K mg) (IH : IT P w base T k) : OT P w base T k 24 :=
  okw 24 (fn := f__law_cell_at) (N := ["_law_script", "_law_k"]) T IH rfl ⟨rfl, rfl, rfl, by decide +kernel, rfl, by decide +kernel, by decide +kernel⟩ rfl rfl rfl fun cdv A outer s H E hr m u c nd => by
  exact (cc (sif m (tcm (o := .lt) u (jv 1) (jfun bi_len_ok bt_len Z.b_len (ja (jv 0) an))) (cc (sre m (jix (jv 0) (jv 1)))
    c0) c0)
    (cc (sif m (tcm (o := .eq) u (jv 0) (jl an)) (cc (sre m ji)
    c0) c0)
    (cc (sre m (jbi (op := .add) (jbi (op := .mul) (jix (jv 0) (jbi (op := .mod) (jv 1) (jfun bi_len_ok bt_len Z.b_len (ja (jv 0) an)))) ji) (jv 1)))
    c0)))
theorem ok_25 {k : Nat} (T : TT K mg) (Z : Zt K mg) (IH : IT P w base T k) : OT P w base T k 25 :=
  okw 25 (fn := f__law_mixed) (N := ["_law_script", "_law_k", "_law_many", "_law_drawn"]) T IH rfl ⟨rfl, rfl, rfl, by decide +kernel, rfl, by decide +kernel, by decide +kernel⟩ rfl rfl rfl fun cdv A outer s H E hr m u c nd => by
  exact (cc (sn (i := 3) m nd (jbi (op := .mod) (jbi (op := .mul) (jbi (op := .add) (jbi (op := .add) (jcl (c 24 rfl rfl) (ja (jv 0) (ja (jv 1) an))) (jbi (op := .mul) ji (jv 1))) ji) ji) ji))
    (cc (sre m (jbi (op := .mod) (jbi (op := .mod) (jbi (op := .add) (jbi (op := .add) (jbi (op := .mul) (jv 3) (jv 3)) (jbi (op := .mul) ji (jv 3))) (jv 1)) ji) (jv 2)))
    c0))
theorem ok_26 {k : Nat} (T : TT K mg) (Z : Zt K mg) (IH : IT P w base T k) : OT P w base T k 26 :=
  okw 26 (fn := f__law_next) (N := ["_law_script", "_law_m", "_law_many"]) T IH rfl ⟨rfl, rfl, rfl, by decide +kernel, rfl, by decide +kernel, by decide +kernel⟩ rfl rfl rfl fun cdv A outer s H E hr m u c nd => by
  exact (cc (sg m (jbi (op := .add) (jix (jv 1) ji) ji) (gi (jv 1) ji))
    (cc (sre m (jcl (c 25 rfl rfl) (ja (jv 0) (ja (jix (jv 1) ji) (ja (jv 2) an)))))
    c0))
theorem ok_27 {k : Nat} (T : TT K mg) (Z : Zt K mg) (IH : IT P w base T k) : OT P w base T k 27 :=
  okw 27 (fn := f__law_names) (N := ["_law_script", "_law_m", "_law_some", "_law_turn", "_law_row", "_law_foe", "_law_friend"]) T IH rfl ⟨rfl, rfl, rfl, by decide +kernel, rfl, by decide +kernel, by decide +kernel⟩ rfl rfl rfl fun cdv A outer s H E hr m u c nd => by
  exact (cc (sn (i := 2) m nd (jl (ja js (ja js (ja js (ja js (ja js (ja js (ja js (ja js an))))))))))
    (cc (sn (i := 3) m nd (jcl (c 26 rfl rfl) (ja (jv 0) (ja (jv 1) (ja ji an)))))
    (cc (sn (i := 4) m nd (jbi (op := .add) (jsl (jv 2) (os (jv 3)) on) (jsl (jv 2) on (os (jv 3)))))
    (cc (sn (i := 5) m nd (jbi (op := .add) ji (jcl (c 26 rfl rfl) (ja (jv 0) (ja (jv 1) (ja ji an))))))
    (cc (sn (i := 6) m nd (jbi (op := .add) ji (jcl (c 26 rfl rfl) (ja (jv 0) (ja (jv 1) (ja ji an))))))
    (cc (sre m (jt m (ja (jtyp bi_tuple_ok bt_tuple Z.b_tuple (ja (jsl (jv 4) on (os (jv 5))) an)) (ja (jtyp bi_tuple_ok bt_tuple Z.b_tuple (ja (jsl (jv 4) (os (jv 5)) (os (jbi (op := .add) (jv 5) (jv 6)))) an)) an))))
    c0))))))
theorem ok_28 {k : Nat} (T : TT K mg) (Z : Zt K mg) (IH : IT P w base T k) : OT P w base T k 28 :=
  okw 28 (fn := f__law_saying) (N := ["_law_script", "_law_m", "_law_names_here", "_law_deep", "_law_left", "_law_way", "_law_one"]) T IH rfl ⟨rfl, rfl, rfl, by decide +kernel, rfl, by decide +kernel, by decide +kernel⟩ rfl rfl rfl fun cdv A outer s H E hr m u c nd => by
  exact (cc (sn (i := 5) m nd (jcl (c 26 rfl rfl) (ja (jv 0) (ja (jv 1) (ja ji an)))))
    (cc (sif m (wpt (wor m (tcm (o := .eq) u (jv 3) ji) (won (tcm (o := .lt) u (jv 5) ji)))) (cc (sre m (jt m (ja js (ja (jix (jv 2) (jcl (c 26 rfl rfl) (ja (jv 0) (ja (jv 1) (ja (jfun bi_len_ok bt_len Z.b_len (ja (jv 2) an)) an))))) an))))
    c0) c0)
    (cc (sif m (tcm (o := .eq) u (jv 5) ji) (cc (sre m (jt m (ja (jix (jl (ja js (ja js an))) (jcl (c 26 rfl rfl) (ja (jv 0) (ja (jv 1) (ja ji an))))) an)))
    c0) c0)
    (cc (sif m (wpt (wan m (tcm (o := .gt) u (jv 5) ji) (won (tcm (o := .gt) u (jix (jv 4) ji) ji)))) (cc (sg m (jbi (op := .sub) (jix (jv 4) ji) ji) (gi (jv 4) ji))
    (cc (sn (i := 6) m nd (jcl (c 28 rfl rfl) (ja (jv 0) (ja (jv 1) (ja (jv 2) (ja (jbi (op := .sub) (jv 3) ji) (ja (jv 4) an)))))))
    (cc (sif m (tcm (o := .eq) u (jv 5) ji) (cc (sre m (jt m (ja js (ja (jv 6) (ja (jcl (c 28 rfl rfl) (ja (jv 0) (ja (jv 1) (ja (jv 2) (ja (jbi (op := .sub) (jv 3) ji) (ja (jv 4) an)))))) an)))))
    c0) c0)
    (cc (sre m (jt m (ja (jix (jl (ja js (ja js (ja js an)))) (jbi (op := .sub) (jv 5) ji)) (ja (jv 6) an))))
    c0)))) c0)
    (cc (sn (i := 6) m nd (jcl (c 28 rfl rfl) (ja (jv 0) (ja (jv 1) (ja (jv 2) (ja (jbi (op := .sub) (jv 3) ji) (ja (jv 4) an)))))))
    (cc (sif m (wpt (wor m (tcm (o := .eq) u (jv 5) ji) (won (tcm (o := .gt) u (jv 5) ji)))) (cc (sre m (jt m (ja js (ja (jv 6) an))))
    c0) c0)
    (cc (sre m (jt m (ja (jix (jl (ja js (ja js (ja js (ja js an))))) (jbi (op := .sub) (jv 5) ji)) (ja (jv 6) (ja (jcl (c 28 rfl rfl) (ja (jv 0) (ja (jv 1) (ja (jv 2) (ja (jbi (op := .sub) (jv 3) ji) (ja (jv 4) an)))))) an)))))
    c0)))))))
theorem ok_29 {k : Nat} (T : TT K mg) (Z : Zt K mg) (IH : IT P w base T k) : OT P w base T k 29 :=
  okw 29 (fn := f__law_promise) (N := ["_law_script", "_law_m", "_law_foe", "_law_names_here", "_law_left", "_law_one", "_law_other"]) T IH rfl ⟨rfl, rfl, rfl, by decide +kernel, rfl, by decide +kernel, by decide +kernel⟩ rfl rfl rfl fun cdv A outer s H E hr m u c nd => by
  exact (cc (sn (i := 5) m nd (jcl (c 28 rfl rfl) (ja (jv 0) (ja (jv 1) (ja (jv 2) (ja ji (ja (jl (ja ji an)) an)))))))
    (cc (sif m (wpt (wan m (tcm (o := .gt) u (jix (jv 4) ji) ji) (won (tcm (o := .eq) u (jcl (c 26 rfl rfl) (ja (jv 0) (ja (jv 1) (ja ji an)))) ji)))) (cc (sg m (jbi (op := .sub) (jix (jv 4) ji) ji) (gi (jv 4) ji))
    (cc (sn (i := 6) m nd (jcl (c 28 rfl rfl) (ja (jv 0) (ja (jv 1) (ja (jv 3) (ja ji (ja (jl (ja ji an)) an)))))))
    (cc (sre m (jt m (ja (jix (jl (ja js (ja js (ja js an)))) (jcl (c 26 rfl rfl) (ja (jv 0) (ja (jv 1) (ja ji an))))) (ja (jt m (ja js (ja (jv 6) an))) (ja (jv 5) an)))))
    c0))) c0)
    (cc (sre m (jv 5))
    c0)))
noncomputable abbrev N30 : List Str := ["_law_script", "_law_at", "_law_pieces", "_law_musts", "_law_m", "_law_foe", "_law_friend", "_law_names_here", "_law_left", "_law_wishes", "_law_k", "_law_price", "_law_some", "_law_known"]
theorem ok_30 {k : Nat} (T : TT K mg) (Z : Zt K mg) (IH : IT P w base T k) : OT P w base T k 30 :=
  okw 30 (fn := f__law_book) (N := N30) T IH rfl ⟨rfl, rfl, rfl, by decide +kernel, rfl, by decide +kernel, by decide +kernel⟩ rfl rfl rfl fun cdv A outer s H E hr m u c nd => by
  exact (cc (snc (i := 4) m nd (jl (ja (jv 1) an)))
    (cc (sg m (jcl (c 27 rfl rfl) (ja (jvc 0) (ja (jvc 4) an))) (gt (gc (gnc (i := 5) nd) (gc (gn (i := 6) nd) nn))))
    (cc (snc (i := 7) m nd (jbi (op := .add) (jvc 5) (jv 6)))
    (cc (snc (i := 8) m nd (jl (ja (jcl (c 26 rfl rfl) (ja (jvc 0) (ja (jvc 4) (ja (jbi (op := .add) (jv 2) ji) an)))) an)))
    (cc (sn (i := 9) m nd (jl an))
    (cc (sfn (i := 10) m nd (pr1 m Z.b_range (ja (jbi (op := .add) ji (jcl (c 26 rfl rfl) (ja (jvc 0) (ja (jvc 4) (ja ji an))))) an)) (cc (sn (i := 11) m nd (jbi (op := .add) ji (jcl (c 26 rfl rfl) (ja (jvc 0) (ja (jvc 4) (ja (jix (jl (ja ji (ja ji (ja ji an)))) (jcl (c 26 rfl rfl) (ja (jvc 0) (ja (jvc 4) (ja ji an))))) an))))))
    (cc (sx m (jap (jv 9) (ja (jt m (ja (jv 11) (ja (jcl (c 28 rfl rfl) (ja (jvc 0) (ja (jvc 4) (ja (jvc 7) (ja ji (ja (jvc 8) an)))))) an))) an)))
    c0)))
    (cc (sco (i := 12) m nd (own := ["_law_k"]) (cn := ["_law_script", "_law_m", "_law_names_here", "_law_left"]) (caps := [0, 4, 7, 8]) (one := true) (csc (on := (defScope (stt 30)).names) (N := N30) (by decide +kernel)) (pr1 m Z.b_range (ja (jcl (c 26 rfl rfl) (ja (jvc 0) (ja (jvc 4) (ja (jbi (op := .add) (jv 3) ji) an)))) an)) (fun o' o' o' o' => (b1 (gn (show (["_law_k", "_law_script", "_law_m", "_law_names_here", "_law_left"] : List Str).Nodup by decide +kernel)))) (fun o' o' o' o' => qn) (fun o' o' o' o' => (jcl ((c 28 rfl rfl).inC) (ja (jvc 1) (ja (jvc 2) (ja (jvc 3) (ja ji (ja (jvc 4) an))))))))
    (cc (sco (i := 13) m nd (own := ["_law_k"]) (cn := ["_law_script", "_law_m", "_law_foe", "_law_names_here", "_law_left"]) (caps := [0, 4, 5, 7, 8]) (one := true) (csc (on := (defScope (stt 30)).names) (N := N30) (by decide +kernel)) (pr1 m Z.b_range (ja (jcl (c 26 rfl rfl) (ja (jvc 0) (ja (jvc 4) (ja ji an)))) an)) (fun o' o' o' o' => (b1 (gn (show (["_law_k", "_law_script", "_law_m", "_law_foe", "_law_names_here", "_law_left"] : List Str).Nodup by decide +kernel)))) (fun o' o' o' o' => qn) (fun o' o' o' o' => (jcl ((c 29 rfl rfl).inC) (ja (jvc 1) (ja (jvc 2) (ja (jvc 3) (ja (jvc 4) (ja (jvc 5) an))))))))
    (cc (sre m (jt m (ja (jvc 5) (ja (jv 6) (ja (jtyp bi_tuple_ok bt_tuple Z.b_tuple (ja (jv 13) an)) (ja (jtyp bi_tuple_ok bt_tuple Z.b_tuple (ja (jv 12) an)) (ja (jtyp bi_tuple_ok bt_tuple Z.b_tuple (ja (jv 9) an)) an)))))))
    c0)))))))))
theorem ok_31 {k : Nat} (T : TT K mg) (Z : Zt K mg) (IH : IT P w base T k) : OT P w base T k 31 :=
  okw 31 (fn := f__law_settings) (N := ["_law_many", "_law_rows", "_law_turn", "_law_more", "_law_row"]) T IH rfl ⟨rfl, rfl, rfl, by decide +kernel, rfl, by decide +kernel, by decide +kernel⟩ rfl rfl rfl fun cdv A outer s H E hr m u c nd => by
  exact (cc (sn (i := 1) m nd (jl (ja (jt m an) an)))
    (cc (sfn (i := 2) m nd (pr1 m Z.b_range (ja (jv 0) an)) (cc (sn (i := 3) m nd (jl an))
    (cc (sfn (i := 4) m nd (iv (jv 1)) (cc (sx m (jxt (jv 3) (ja (jl (ja (jbi (op := .add) (jv 4) (jt m (ja jb an))) (ja (jbi (op := .add) (jv 4) (jt m (ja jb an))) an))) an)))
    c0))
    (cc (sn (i := 1) m nd (jv 3))
    c0))))
    (cc (sre m (jv 1))
    c0)))
theorem ok_32 {k : Nat} (T : TT K mg) (Z : Zt K mg) (IH : IT P w base T k) : OT P w base T k 32 :=
  okw 32 (fn := f__law_machine) (N := ["_law_script", "_law_at", "_law_foe", "_law_friend", "_law_most", "_law_many", "_law_some", "_law_stands", "_law_k", "_law_row", "_law_j", "_law_cell"]) T IH rfl ⟨rfl, rfl, rfl, by decide +kernel, rfl, by decide +kernel, by decide +kernel⟩ rfl rfl rfl fun cdv A outer s H E hr m u c nd => by
  exact (cc (sn (i := 5) m nd (jbi (op := .add) ji (jcl (c 25 rfl rfl) (ja (jv 0) (ja (jv 1) (ja (jv 4) an))))))
    (cc (sn (i := 6) m nd (jcl (c 31 rfl rfl) (ja (jv 3) an)))
    (cc (sn (i := 7) m nd (jl an))
    (cc (sfn (i := 8) m nd (pr1 m Z.b_range (ja (jv 5) an)) (cc (sn (i := 9) m nd (jl an))
    (cc (sfn (i := 10) m nd (pr1 m Z.b_range (ja (jfun bi_len_ok bt_len Z.b_len (ja (jcl (c 31 rfl rfl) (ja (jv 2) an)) an)) an)) (cc (sn (i := 11) m nd (jcl (c 25 rfl rfl) (ja (jv 0) (ja (jbi (op := .add) (jbi (op := .add) (jbi (op := .add) (jv 1) ji) (jbi (op := .mul) ji (jv 8))) (jv 10)) (ja (jbi (op := .mul) ji (jv 5)) an)))))
    (cc (sx m (jap (jv 9) (ja (jt m (ja (jix (jv 6) (jbi (op := .mod) (jbi (op := .mod) (jv 11) ji) (jfun bi_len_ok bt_len Z.b_len (ja (jv 6) an)))) (ja (jbi (op := .fdiv) (jv 11) ji) an))) an)))
    c0)))
    (cc (sx m (jap (jv 7) (ja (jtyp bi_tuple_ok bt_tuple Z.b_tuple (ja (jv 9) an)) an)))
    c0))))
    (cc (sre m (jtyp bi_tuple_ok bt_tuple Z.b_tuple (ja (jv 7) an)))
    c0)))))
theorem ok_33 {k : Nat} (T : TT K mg) (Z : Zt K mg) (IH : IT P w base T k) : OT P w base T k 33 :=
  okw 33 (fn := f__law_run) (N := ["_law_machine_here", "_law_sets_here", "_law_stand", "_law_play", "_law_foe", "_law_friend"]) T IH rfl ⟨rfl, rfl, rfl, by decide +kernel, rfl, by decide +kernel, by decide +kernel⟩ rfl rfl rfl fun cdv A outer s H E hr m u c nd => by
  exact (cc (sn (i := 2) m nd ji)
    (cc (sn (i := 3) m nd (jl an))
    (cc (sfn (i := 4) m nd (iv (jv 1)) (cc (sg m (jix (jix (jv 0) (jv 2)) (jidx m u (jcl (c 31 rfl rfl) (ja (jfun bi_len_ok bt_len Z.b_len (ja (jv 4) an)) an)) (ja (jv 4) an))) (gt (gc (gn (i := 5) nd) (gc (gn (i := 2) nd) nn))))
    (cc (sx m (jap (jv 3) (ja (jbi (op := .add) (jv 4) (jv 5)) an)))
    c0)))
    (cc (sre m (jv 3))
    c0))))
theorem ok_34 {k : Nat} (T : TT K mg) (Z : Zt K mg) (IH : IT P w base T k) : OT P w base T k 34 :=
  okw 34 (fn := f__law_sets) (N := ["_law_script", "_law_at", "_law_foe", "_law_most", "_law_seed", "_law_some", "_law_sets_here", "_law_k", "_law_drawn"]) T IH rfl ⟨rfl, rfl, rfl, by decide +kernel, rfl, by decide +kernel, by decide +kernel⟩ rfl rfl rfl fun cdv A outer s H E hr m u c nd => by
  exact (cc (sn (i := 4) m nd (jcl (c 25 rfl rfl) (ja (jv 0) (ja (jv 1) (ja (jbi (op := .pow) ji ji) an)))))
    (cc (sn (i := 5) m nd (jcl (c 31 rfl rfl) (ja (jv 2) an)))
    (cc (sn (i := 6) m nd (jl an))
    (cc (sfn (i := 7) m nd (pr1 m Z.b_range (ja (jcl (c 25 rfl rfl) (ja (jv 0) (ja (jbi (op := .add) (jv 1) ji) (ja (jbi (op := .add) (jv 3) ji) an)))) an)) (cc (sn (i := 8) m nd (jbi (op := .mod) (jbi (op := .mul) (jbi (op := .add) (jbi (op := .add) (jv 4) (jbi (op := .mul) (jbi (op := .mul) ji (jv 7)) (jv 7))) (jbi (op := .mul) ji (jv 7))) ji) ji))
    (cc (sx m (jap (jv 6) (ja (jix (jv 5) (jbi (op := .mod) (jbi (op := .fdiv) (jv 8) ji) (jfun bi_len_ok bt_len Z.b_len (ja (jv 5) an)))) an)))
    c0)))
    (cc (sre m (jv 6))
    c0)))))
theorem ok_35 {k : Nat} (T : TT K mg) (Z : Zt K mg) (IH : IT P w base T k) : OT P w base T k 35 :=
  okw 35 (fn := f_law) (N := ["_law_script", "_law_book_here", "_law_machine_here", "_law_sets_here", "_law_handed", "_law_play"]) T IH rfl ⟨rfl, rfl, rfl, by decide +kernel, rfl, by decide +kernel, by decide +kernel⟩ rfl rfl rfl fun cdv A outer s H E hr m u c nd => by
  exact (cc (sn (i := 1) m nd (jcl (c 30 rfl rfl) (ja (jv 0) (ja ji (ja ji (ja ji an))))))
    (cc (sn (i := 2) m nd (jcl (c 32 rfl rfl) (ja (jv 0) (ja ji (ja (jfun bi_len_ok bt_len Z.b_len (ja (jix (jv 1) ji) an)) (ja (jfun bi_len_ok bt_len Z.b_len (ja (jix (jv 1) ji) an)) (ja ji an)))))))
    (cc (sn (i := 3) m nd (jcl (c 34 rfl rfl) (ja (jv 0) (ja ji (ja (jfun bi_len_ok bt_len Z.b_len (ja (jix (jv 1) ji) an)) (ja ji an))))))
    (cc (sn (i := 4) m nd (jtyp bi_list_ok bt_list Z.b_list (ja (jv 3) an)))
    (cc (sn (i := 5) m nd (jcl (c 23 rfl rfl) (ja (jv 1) (ja (jv 2) (ja (jv 4) an)))))
    (cc (sif m (wpt (wor m (tcm (o := .ne) u (jv 4) (jv 3)) (won (tcm (o := .ne) u (jcl (c 22 rfl rfl) (ja (jv 1) (ja (jv 2) an))) (jv 2))))) (cc (sre m jb)
    c0) c0)
    (cc (sre m (jan (jis (t := .list) bt_list Z.b_isinstance Z.b_list (jv 5)) (jon (jcm (o := .eq) u (jv 5) (jcl (c 33 rfl rfl) (ja (jv 2) (ja (jv 3) an)))))))
    c0)))))))
theorem oks {k : Nat} (T : Top2 K mg 36 nmt qnt pst stt att) (Z : Zt K mg) (IH : ∀ i, i < 36 → FnOk P w K mg base CX0 (2 * k) (T.a i) (T.fd i) (pst i) (spOf K (wpFn G k) i)) : ∀ i, i < 36 → FnOk P w K mg base CX0 (2 * k + 1 + 1) (T.a i) (T.fd i) (pst i) (spOf K (wpFn G (k + 1)) i)
  | 0, _ => ok_0 T Z IH
  | 1, _ => ok_1 T Z IH
  | 2, _ => ok_2 T Z IH
  | 3, _ => ok_3 T Z IH
  | 4, _ => ok_4 T Z IH
  | 5, _ => ok_5 T Z IH
  | 6, _ => ok_6 T Z IH
  | 7, _ => ok_7 T Z IH
  | 8, _ => ok_8 T Z IH
  | 9, _ => ok_9 T Z IH
  | 10, _ => ok_10 T Z IH
  | 11, _ => ok_11 T Z IH
  | 12, _ => ok_12 T Z IH
  | 13, _ => ok_13 T Z IH
  | 14, _ => ok_14 T Z IH
  | 15, _ => ok_15 T Z IH
  | 16, _ => ok_16 T Z IH
  | 17, _ => ok_17 T Z IH
  | 18, _ => ok_18 T Z IH
  | 19, _ => ok_19 T Z IH
  | 20, _ => ok_20 T Z IH
  | 21, _ => ok_21 T Z IH
  | 22, _ => ok_22 T Z IH
  | 23, _ => ok_23 T Z IH
  | 24, _ => ok_24 T Z IH
  | 25, _ => ok_25 T Z IH
  | 26, _ => ok_26 T Z IH
  | 27, _ => ok_27 T Z IH
  | 28, _ => ok_28 T Z IH
  | 29, _ => ok_29 T Z IH
  | 30, _ => ok_30 T Z IH
  | 31, _ => ok_31 T Z IH
  | 32, _ => ok_32 T Z IH
  | 33, _ => ok_33 T Z IH
  | 34, _ => ok_34 T Z IH
  | 35, _ => ok_35 T Z IH
  | n + 36, h => absurd h (by walk_at "om")
end
theorem hlaw : ∀ ns : List Int, ns.length ≤ 63 → wpFn G 18 i_law [.mlst (ns.map .int)] (fun o' => none) (fun d o' => d = .bl true) fun o' o' => False := fun ns o' =>
  law19 (k := 1) (G := G) (il := i_law) (ibo := i__law_book) (ilm := i__law_machine) (ils := i__law_sets) (iru := i_run) (icm := i_checked_machine) (ilr := i__law_run) (inm := i__law_names) (inx := i__law_next) (is := i__law_saying) (ipr := i__law_promise) (im := i__law_mixed) (ic := i__law_cell_at) (is8 := i__law_settings) (ist := i_is_setting) (ise := i_settings_of) (ich := i_checked) (ima := i_is_machine) (ibk := i_is_book) (ir := i_is_row) (isd := i_is_stand) (iwy := i_is_way) (ipl := i_is_place)
    rfl rfl rfl rfl rfl rfl rfl rfl rfl rfl rfl rfl rfl rfl
    (fun b B hs hd hc k st Q E hQ => is_book_ok (G := G) (ir := i_is_row) (isn := i_is_name) (isw := i_is_saying_within) (iy := i_is_saying) (ia := i_are_sayings) (iap := i_are_promises) (io := i_sayings_of) (il := i_are_lamps) (iaw := i_are_wishes) (ipi := i_pieces_in) (ip := i_is_price) (iw := i_is_wish) (ibk := i_is_book) (ih := i_sayings_within) (ib := i_stands_bare) rfl rfl rfl rfl rfl rfl rfl rfl rfl rfl rfl rfl rfl rfl rfl B hs hd hc hQ)
    rfl rfl rfl rfl rfl rfl rfl rfl
theorem ln1 {α : Type} {P : List α → Prop} (h : ∀ a0, P [a0]) : ∀ us : List α, us.length = 1 → P us
  | [a0], _ => h a0
theorem ln2 {α : Type} {P : List α → Prop} (h : ∀ a0 a1, P [a0, a1]) : ∀ us : List α, us.length = 2 → P us
  | [a0, a1], _ => h a0 a1
theorem ln3 {α : Type} {P : List α → Prop} (h : ∀ a0 a1 a2, P [a0, a1, a2]) : ∀ us : List α, us.length = 3 → P us
  | [a0, a1, a2], _ => h a0 a1 a2
theorem ln4 {α : Type} {P : List α → Prop} (h : ∀ a0 a1 a2 a3, P [a0, a1, a2, a3]) : ∀ us : List α, us.length = 4 → P us
  | [a0, a1, a2, a3], _ => h a0 a1 a2 a3
theorem ln5 {α : Type} {P : List α → Prop} (h : ∀ a0 a1 a2 a3 a4, P [a0, a1, a2, a3, a4]) : ∀ us : List α, us.length = 5 → P us
  | [a0, a1, a2, a3, a4], _ => h a0 a1 a2 a3 a4
theorem bqs : ∀ i, i < 36 → BindEq2 (nmt i) (qnt i) (pst i) (stt i)
  | 0, _ => fun o' o' o' o' o' o' => ln1 fun o' => rfl
  | 1, _ => fun o' o' o' o' o' o' => ln2 fun o' o' => rfl
  | 2, _ => fun o' o' o' o' o' o' => ln3 fun o' o' o' => rfl
  | 3, _ => fun o' o' o' o' o' o' => ln1 fun o' => rfl
  | 4, _ => fun o' o' o' o' o' o' => ln1 fun o' => rfl
  | 5, _ => fun o' o' o' o' o' o' => ln3 fun o' o' o' => rfl
  | 6, _ => fun o' o' o' o' o' o' => ln2 fun o' o' => rfl
  | 7, _ => fun o' o' o' o' o' o' => ln3 fun o' o' o' => rfl
  | 8, _ => fun o' o' o' o' o' o' => ln2 fun o' o' => rfl
  | 9, _ => fun o' o' o' o' o' o' => ln3 fun o' o' o' => rfl
  | 10, _ => fun o' o' o' o' o' o' => ln1 fun o' => rfl
  | 11, _ => fun o' o' o' o' o' o' => ln2 fun o' o' => rfl
  | 12, _ => fun o' o' o' o' o' o' => ln2 fun o' o' => rfl
  | 13, _ => fun o' o' o' o' o' o' => ln3 fun o' o' o' => rfl
  | 14, _ => fun o' o' o' o' o' o' => ln1 fun o' => rfl
  | 15, _ => fun o' o' o' o' o' o' => ln1 fun o' => rfl
  | 16, _ => fun o' o' o' o' o' o' => ln2 fun o' o' => rfl
  | 17, _ => fun o' o' o' o' o' o' => ln1 fun o' => rfl
  | 18, _ => fun o' o' o' o' o' o' => ln2 fun o' o' => rfl
  | 19, _ => fun o' o' o' o' o' o' => ln3 fun o' o' o' => rfl
  | 20, _ => fun o' o' o' o' o' o' => ln3 fun o' o' o' => rfl
  | 21, _ => fun o' o' o' o' o' o' => ln2 fun o' o' => rfl
  | 22, _ => fun o' o' o' o' o' o' => ln2 fun o' o' => rfl
  | 23, _ => fun o' o' o' o' o' o' => ln3 fun o' o' o' => rfl
  | 24, _ => fun o' o' o' o' o' o' => ln2 fun o' o' => rfl
  | 25, _ => fun o' o' o' o' o' o' => ln3 fun o' o' o' => rfl
  | 26, _ => fun o' o' o' o' o' o' => ln3 fun o' o' o' => rfl
  | 27, _ => fun o' o' o' o' o' o' => ln2 fun o' o' => rfl
  | 28, _ => fun o' o' o' o' o' o' => ln5 fun o' o' o' o' o' => rfl
  | 29, _ => fun o' o' o' o' o' o' => ln5 fun o' o' o' o' o' => rfl
  | 30, _ => fun o' o' o' o' o' o' => ln4 fun o' o' o' o' => rfl
  | 31, _ => fun o' o' o' o' o' o' => ln1 fun o' => rfl
  | 32, _ => fun o' o' o' o' o' o' => ln5 fun o' o' o' o' o' => rfl
  | 33, _ => fun o' o' o' o' o' o' => ln2 fun o' o' => rfl
  | 34, _ => fun o' o' o' o' o' o' => ln4 fun o' o' o' o' => rfl
  | 35, _ => fun o' o' o' o' o' o' => ln1 fun o' => rfl
  | n + 36, h => absurd h (by walk_at "om")
noncomputable abbrev FF (K : PySem.W.Frag) (mg : Str → Option Value) (i : Nat) := FTop2 K mg (nmt i) (qnt i) (stt i) (att i)
theorem fts {K : PySem.W.Frag} {mg : Str → Option Value} (F0 : FF K mg 0) (F1 : FF K mg 1) (F2 : FF K mg 2) (F3 : FF K mg 3) (F4 : FF K mg 4) (F5 : FF K mg 5) (F6 : FF K mg 6) (F7 : FF K mg 7) (F8 : FF K mg 8) (F9 : FF K mg 9) (F10 : FF K mg 10) (F11 : FF K mg 11) (F12 : FF K mg 12) (F13 : FF K mg 13) (F14 : FF K mg 14) (F15 : FF K mg 15) (F16 : FF K mg 16) (F17 : FF K mg 17) (F18 : FF K mg 18) (F19 : FF K mg 19) (F20 : FF K mg 20) (F21 : FF K mg 21) (F22 : FF K mg 22) (F23 : FF K mg 23) (F24 : FF K mg 24) (F25 : FF K mg 25) (F26 : FF K mg 26) (F27 : FF K mg 27) (F28 : FF K mg 28) (F29 : FF K mg 29) (F30 : FF K mg 30) (F31 : FF K mg 31) (F32 : FF K mg 32) (F33 : FF K mg 33) (F34 : FF K mg 34) (F35 : FF K mg 35) : ∀ i, i < 36 → FTop2 K mg (nmt i) (qnt i) (stt i) (att i)
  | 0, _ => F0
  | 1, _ => F1
  | 2, _ => F2
  | 3, _ => F3
  | 4, _ => F4
  | 5, _ => F5
  | 6, _ => F6
  | 7, _ => F7
  | 8, _ => F8
  | 9, _ => F9
  | 10, _ => F10
  | 11, _ => F11
  | 12, _ => F12
  | 13, _ => F13
  | 14, _ => F14
  | 15, _ => F15
  | 16, _ => F16
  | 17, _ => F17
  | 18, _ => F18
  | 19, _ => F19
  | 20, _ => F20
  | 21, _ => F21
  | 22, _ => F22
  | 23, _ => F23
  | 24, _ => F24
  | 25, _ => F25
  | 26, _ => F26
  | 27, _ => F27
  | 28, _ => F28
  | 29, _ => F29
  | 30, _ => F30
  | 31, _ => F31
  | 32, _ => F32
  | 33, _ => F33
  | 34, _ => F34
  | 35, _ => F35
  | n + 36, h => absurd h (by walk_at "om")
theorem all_mk {P : Program} {w : World} {K : PySem.W.Frag} {mg : Str → Option Value} {fa : Addr} (hfa : mg "law" = some (.ref fa)) (Z : Zt K mg) (F : ∀ i, i < 36 → FTop2 K mg (nmt i) (qnt i) (stt i) (att i)) :
    ∃ fd : FuncData, (∀ (s : Shared) (u : Value), BindsTo s fd ⟨[u], []⟩ [("_law_script", u)]) ∧ ∀ base : Heap, K.In base → base.Ns mainGlobals mg → FnOk P w K mg base CX0 (2 * 18) fa fd ["_law_script"] (spOf K (wpFn G 18) 35) := by
  obtain ⟨_, d, _⟩ := F 0 (by decide)
  obtain ⟨T⟩ := top_of2 36 bqs F d
  have e := hfa.symm.trans (show mg "law" = some (.ref (T.a 35)) from T.mg 35 (by decide))
  cases e
  exact ⟨T.fd 35, binds_one2 (T.fn 35 (by decide)) (bqs 35 (by decide)), fun base o' o' => all_ok2 T (fun k IH => oks T Z IH) 18 35 (by decide)⟩
end L3
open PySem PySem.W PyProof.Rows
set_option maxRecDepth 100000 in
set_option maxHeartbeats 0 in
theorem PySem.Challenge.cw_leastloss_k19_run_holds : PySem.Challenge.rw_leastloss_k19_run.Holds := by
  w_on; o_law; k_head; (case hw => w_witness2)
  k_fill
  refine L3.walkL2 (l := PySem.Challenge.rw_leastloss_k19_run) (x := "_law_script") (r := 2 * 18) (k := 18) (f := 35) (G := L3.G) ⟨rfl, by decide, by decide⟩ L3.hlaw rfl rfl (fun w h Y => PySem.W.kIn_of Y) ?F
  case F =>
    intro w mg fa h KX G hmg
    refine L3.all_mk hmg ?Z (L3.fts ?F0 ?F1 ?F2 ?F3 ?F4 ?F5 ?F6 ?F7 ?F8 ?F9 ?F10 ?F11 ?F12 ?F13 ?F14 ?F15 ?F16 ?F17 ?F18 ?F19 ?F20 ?F21 ?F22 ?F23 ?F24 ?F25 ?F26 ?F27 ?F28 ?F29 ?F30 ?F31 ?F32 ?F33 ?F34 ?F35)
    case Z =>
      refine ⟨?b_isinstance, ?b_str, ?b_len, ?b_all, ?b_tuple, ?b_list, ?b_reversed, ?b_set, ?b_any, ?b_int, ?b_bool, ?b_range, ?g_NO_NAMES, ?g_LONGEST_NAME, ?g_LETTERS, ?g_DEEPEST, ?g_SAYINGS_WITHIN, ?g_PAST_WORDS, ?g_MOST_LAMPS, ?g_MOST_PROMISES, ?g_HIGHEST_PRICE, ?g_MOST_WISHES, ?g_MOST_MUSTS, ?g_MOST_PIECES, ?g_MOST_STANDS⟩
      case b_isinstance => (refine' PySem.W.mg_none_of (by assumption) (by assumption) ?fnx1; (case fnx1 => k_is))
      case b_str => (refine' PySem.W.mg_none_of (by assumption) (by assumption) ?fnx2; (case fnx2 => k_is))
      case b_len => (refine' PySem.W.mg_none_of (by assumption) (by assumption) ?fnx3; (case fnx3 => k_is))
      case b_all => (refine' PySem.W.mg_none_of (by assumption) (by assumption) ?fnx4; (case fnx4 => k_is))
      case b_tuple => (refine' PySem.W.mg_none_of (by assumption) (by assumption) ?fnx5; (case fnx5 => k_is))
      case b_list => (refine' PySem.W.mg_none_of (by assumption) (by assumption) ?fnx6; (case fnx6 => k_is))
      case b_reversed => (refine' PySem.W.mg_none_of (by assumption) (by assumption) ?fnx7; (case fnx7 => k_is))
      case b_set => (refine' PySem.W.mg_none_of (by assumption) (by assumption) ?fnx8; (case fnx8 => k_is))
      case b_any => (refine' PySem.W.mg_none_of (by assumption) (by assumption) ?fnx9; (case fnx9 => k_is))
      case b_int => (refine' PySem.W.mg_none_of (by assumption) (by assumption) ?fnx10; (case fnx10 => k_is))
      case b_bool => (refine' PySem.W.mg_none_of (by assumption) (by assumption) ?fnx11; (case fnx11 => k_is))
      case b_range => (refine' PySem.W.mg_none_of (by assumption) (by assumption) ?fnx12; (case fnx12 => k_is))
      case g_NO_NAMES => refine' L3.gc_tup KX G ?NO_NAMESa ?NO_NAMESl ?NO_NAMESf ?NO_NAMESz; (case NO_NAMESa => k_is); (case NO_NAMESl => k_is); (case NO_NAMESf => kernel_rfl); (case NO_NAMESz => kernel_rfl)
      case g_LONGEST_NAME => (refine' L3.gc_int (by assumption) (by assumption) ?fga1; (case fga1 => k_is))
      case g_LETTERS => refine' L3.gc_str KX G ?LETTERSa ?LETTERSe; (case LETTERSa => k_is); (case LETTERSe => rfl)
      case g_DEEPEST => (refine' L3.gc_int (by assumption) (by assumption) ?fga2; (case fga2 => k_is))
      case g_SAYINGS_WITHIN => refine' L3.gc_dic KX G ?SAYINGS_WITHINa ?SAYINGS_WITHINl ?SAYINGS_WITHINf; (case SAYINGS_WITHINa => k_is); (case SAYINGS_WITHINl => k_is); (case SAYINGS_WITHINf => kernel_rfl)
      case g_PAST_WORDS => refine' L3.gc_tup KX G ?PAST_WORDSa ?PAST_WORDSl ?PAST_WORDSf ?PAST_WORDSz; (case PAST_WORDSa => k_is); (case PAST_WORDSl => k_is); (case PAST_WORDSf => kernel_rfl); (case PAST_WORDSz => kernel_rfl)
      case g_MOST_LAMPS => (refine' L3.gc_int (by assumption) (by assumption) ?fga3; (case fga3 => k_is))
      case g_MOST_PROMISES => (refine' L3.gc_int (by assumption) (by assumption) ?fga4; (case fga4 => k_is))
      case g_HIGHEST_PRICE => (refine' L3.gc_int (by assumption) (by assumption) ?fga5; (case fga5 => k_is))
      case g_MOST_WISHES => (refine' L3.gc_int (by assumption) (by assumption) ?fga6; (case fga6 => k_is))
      case g_MOST_MUSTS => (refine' L3.gc_int (by assumption) (by assumption) ?fga7; (case fga7 => k_is))
      case g_MOST_PIECES => (refine' L3.gc_int (by assumption) (by assumption) ?fga8; (case fga8 => k_is))
      case g_MOST_STANDS => (refine' L3.gc_int (by assumption) (by assumption) ?fga9; (case fga9 => k_is))
    case F0 => (refine' L3.ftop2 (by assumption) (by assumption) ?fta1 ?ftl1 ?ftc1 ?ftk1; (case fta1 => k_is); (case ftl1 => k_is); (case ftc1 => k_is); (case ftk1 => k_is))
    case F1 => (refine' L3.ftop2 (by assumption) (by assumption) ?fta2 ?ftl2 ?ftc2 ?ftk2; (case fta2 => k_is); (case ftl2 => k_is); (case ftc2 => k_is); (case ftk2 => k_is))
    case F2 => (refine' L3.ftop2 (by assumption) (by assumption) ?fta3 ?ftl3 ?ftc3 ?ftk3; (case fta3 => k_is); (case ftl3 => k_is); (case ftc3 => k_is); (case ftk3 => k_is))
    case F3 => (refine' L3.ftop2 (by assumption) (by assumption) ?fta4 ?ftl4 ?ftc4 ?ftk4; (case fta4 => k_is); (case ftl4 => k_is); (case ftc4 => k_is); (case ftk4 => k_is))
    case F4 => (refine' L3.ftop2 (by assumption) (by assumption) ?fta5 ?ftl5 ?ftc5 ?ftk5; (case fta5 => k_is); (case ftl5 => k_is); (case ftc5 => k_is); (case ftk5 => k_is))
    case F5 => (refine' L3.ftop2 (by assumption) (by assumption) ?fta6 ?ftl6 ?ftc6 ?ftk6; (case fta6 => k_is); (case ftl6 => k_is); (case ftc6 => k_is); (case ftk6 => k_is))
    case F6 => (refine' L3.ftop2 (by assumption) (by assumption) ?fta7 ?ftl7 ?ftc7 ?ftk7; (case fta7 => k_is); (case ftl7 => k_is); (case ftc7 => k_is); (case ftk7 => k_is))
    case F7 => (refine' L3.ftop2 (by assumption) (by assumption) ?fta8 ?ftl8 ?ftc8 ?ftk8; (case fta8 => k_is); (case ftl8 => k_is); (case ftc8 => k_is); (case ftk8 => k_is))
    case F8 => (refine' L3.ftop2 (by assumption) (by assumption) ?fta9 ?ftl9 ?ftc9 ?ftk9; (case fta9 => k_is); (case ftl9 => k_is); (case ftc9 => k_is); (case ftk9 => k_is))
    case F9 => (refine' L3.ftop2 (by assumption) (by assumption) ?fta10 ?ftl10 ?ftc10 ?ftk10; (case fta10 => k_is); (case ftl10 => k_is); (case ftc10 => k_is); (case ftk10 => k_is))
    case F10 => (refine' L3.ftop2 (by assumption) (by assumption) ?fta11 ?ftl11 ?ftc11 ?ftk11; (case fta11 => k_is); (case ftl11 => k_is); (case ftc11 => k_is); (case ftk11 => k_is))
    case F11 => (refine' L3.ftop2 (by assumption) (by assumption) ?fta12 ?ftl12 ?ftc12 ?ftk12; (case fta12 => k_is); (case ftl12 => k_is); (case ftc12 => k_is); (case ftk12 => k_is))
    case F12 => (refine' L3.ftop2 (by assumption) (by assumption) ?fta13 ?ftl13 ?ftc13 ?ftk13; (case fta13 => k_is); (case ftl13 => k_is); (case ftc13 => k_is); (case ftk13 => k_is))
    case F13 => (refine' L3.ftop2 (by assumption) (by assumption) ?fta14 ?ftl14 ?ftc14 ?ftk14; (case fta14 => k_is); (case ftl14 => k_is); (case ftc14 => k_is); (case ftk14 => k_is))
    case F14 => (refine' L3.ftop2 (by assumption) (by assumption) ?fta15 ?ftl15 ?ftc15 ?ftk15; (case fta15 => k_is); (case ftl15 => k_is); (case ftc15 => k_is); (case ftk15 => k_is))
    case F15 => (refine' L3.ftop2 (by assumption) (by assumption) ?fta16 ?ftl16 ?ftc16 ?ftk16; (case fta16 => k_is); (case ftl16 => k_is); (case ftc16 => k_is); (case ftk16 => k_is))
    case F16 => (refine' L3.ftop2 (by assumption) (by assumption) ?fta17 ?ftl17 ?ftc17 ?ftk17; (case fta17 => k_is); (case ftl17 => k_is); (case ftc17 => k_is); (case ftk17 => k_is))
    case F17 => (refine' L3.ftop2 (by assumption) (by assumption) ?fta18 ?ftl18 ?ftc18 ?ftk18; (case fta18 => k_is); (case ftl18 => k_is); (case ftc18 => k_is); (case ftk18 => k_is))
    case F18 => (refine' L3.ftop2 (by assumption) (by assumption) ?fta19 ?ftl19 ?ftc19 ?ftk19; (case fta19 => k_is); (case ftl19 => k_is); (case ftc19 => k_is); (case ftk19 => k_is))
    case F19 => (refine' L3.ftop2 (by assumption) (by assumption) ?fta20 ?ftl20 ?ftc20 ?ftk20; (case fta20 => k_is); (case ftl20 => k_is); (case ftc20 => k_is); (case ftk20 => k_is))
    case F20 => (refine' L3.ftop2 (by assumption) (by assumption) ?fta21 ?ftl21 ?ftc21 ?ftk21; (case fta21 => k_is); (case ftl21 => k_is); (case ftc21 => k_is); (case ftk21 => k_is))
    case F21 => (refine' L3.ftop2 (by assumption) (by assumption) ?fta22 ?ftl22 ?ftc22 ?ftk22; (case fta22 => k_is); (case ftl22 => k_is); (case ftc22 => k_is); (case ftk22 => k_is))
    case F22 => (refine' L3.ftop2 (by assumption) (by assumption) ?fta23 ?ftl23 ?ftc23 ?ftk23; (case fta23 => k_is); (case ftl23 => k_is); (case ftc23 => k_is); (case ftk23 => k_is))
    case F23 => (refine' L3.ftop2 (by assumption) (by assumption) ?fta24 ?ftl24 ?ftc24 ?ftk24; (case fta24 => k_is); (case ftl24 => k_is); (case ftc24 => k_is); (case ftk24 => k_is))
    case F24 => (refine' L3.ftop2 (by assumption) (by assumption) ?fta25 ?ftl25 ?ftc25 ?ftk25; (case fta25 => k_is); (case ftl25 => k_is); (case ftc25 => k_is); (case ftk25 => k_is))
    case F25 => (refine' L3.ftop2 (by assumption) (by assumption) ?fta26 ?ftl26 ?ftc26 ?ftk26; (case fta26 => k_is); (case ftl26 => k_is); (case ftc26 => k_is); (case ftk26 => k_is))
    case F26 => (refine' L3.ftop2 (by assumption) (by assumption) ?fta27 ?ftl27 ?ftc27 ?ftk27; (case fta27 => k_is); (case ftl27 => k_is); (case ftc27 => k_is); (case ftk27 => k_is))
    case F27 => (refine' L3.ftop2 (by assumption) (by assumption) ?fta28 ?ftl28 ?ftc28 ?ftk28; (case fta28 => k_is); (case ftl28 => k_is); (case ftc28 => k_is); (case ftk28 => k_is))
    case F28 => (refine' L3.ftop2 (by assumption) (by assumption) ?fta29 ?ftl29 ?ftc29 ?ftk29; (case fta29 => k_is); (case ftl29 => k_is); (case ftc29 => k_is); (case ftk29 => k_is))
    case F29 => (refine' L3.ftop2 (by assumption) (by assumption) ?fta30 ?ftl30 ?ftc30 ?ftk30; (case fta30 => k_is); (case ftl30 => k_is); (case ftc30 => k_is); (case ftk30 => k_is))
    case F30 => (refine' L3.ftop2 (by assumption) (by assumption) ?fta31 ?ftl31 ?ftc31 ?ftk31; (case fta31 => k_is); (case ftl31 => k_is); (case ftc31 => k_is); (case ftk31 => k_is))
    case F31 => (refine' L3.ftop2 (by assumption) (by assumption) ?fta32 ?ftl32 ?ftc32 ?ftk32; (case fta32 => k_is); (case ftl32 => k_is); (case ftc32 => k_is); (case ftk32 => k_is))
    case F32 => (refine' L3.ftop2 (by assumption) (by assumption) ?fta33 ?ftl33 ?ftc33 ?ftk33; (case fta33 => k_is); (case ftl33 => k_is); (case ftc33 => k_is); (case ftk33 => k_is))
    case F33 => (refine' L3.ftop2 (by assumption) (by assumption) ?fta34 ?ftl34 ?ftc34 ?ftk34; (case fta34 => k_is); (case ftl34 => k_is); (case ftc34 => k_is); (case ftk34 => k_is))
    case F34 => (refine' L3.ftop2 (by assumption) (by assumption) ?fta35 ?ftl35 ?ftc35 ?ftk35; (case fta35 => k_is); (case ftl35 => k_is); (case ftc35 => k_is); (case ftk35 => k_is))
    case F35 => (refine' L3.ftop2 (by assumption) (by assumption) ?fta36 ?ftl36 ?ftc36 ?ftk36; (case fta36 => k_is); (case ftl36 => k_is); (case ftc36 => k_is); (case ftk36 => k_is))
