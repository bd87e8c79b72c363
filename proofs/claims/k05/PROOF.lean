import PyProof.Rows.All
import Wide.All
import OpenK.AllK
import Wide.FinOn
import Lean
import PyProof.EqAt
import PyProof.EqKinds
import PyProof.TupleCall
import PyProof.AttrMissHeap
import KE.KDictOf
import PyProof.ListMulRoad
import PyProof.FactsAll.tuple_2
import KE.KSortTup
import PyProof.TupleOfSeq
import PySem.Challenge.RW_soundrules_k05_orders_of_any_things
noncomputable section
set_option Elab.async false
set_option linter.all false
set_option maxRecDepth 100000
namespace L2
open PySem PySem.Spec PyProof.Rows
abbrev Key := Sum Int Str
def Br : Key → Value → Bool
  | .inl k, v => Value.isInt k v
  | .inr x, v => Value.isStrOf x v
def ag7 (w : World) : Key → Int
  | .inl k => hashInt k
  | .inr x => hashStr w x
theorem cQ : ∀ {k : Key} {v : Value}, Br k v = true → (∃ i t, k = Sum.inl i ∧ v = Value.int i t) ∨ (∃ x t, k = Sum.inr x ∧ v = Value.str x t)
  | .inl i, v, h => by
    obtain ⟨t, e⟩ := Value.isInt_shape (k := i) (v := v) h
    exact .inl ⟨i, t, rfl, e⟩
  | .inr x, v, h => by
    obtain ⟨t, e⟩ := Value.isStrOf_shape (x := x) (v := v) h
    exact .inr ⟨x, t, rfl, e⟩
theorem PJ (i : Int) (t : Tok) : Br (.inl i) (.int i t) = true := by simp [Br, Value.isInt]
theorem PB (x : Str) (t : Tok) : Br (.inr x) (.str x t) = true := by simp [Br, Value.isStrOf]
theorem abH (a b : Int) : decide ((Sum.inl a : Key) = Sum.inl b) = (a == b) := by
  by_cases e : a = b
  · subst e; simp
  · have h : ¬ (Sum.inl a : Key) = Sum.inl b := fun q => e (Sum.inl.inj q)
    rw [decide_eq_false h]
    exact (beq_eq_false_iff_ne.mpr e).symm
theorem abE (a b : Str) : decide ((Sum.inr a : Key) = Sum.inr b) = decide (a = b) := by
  by_cases e : a = b
  · subst e; simp
  · have h : ¬ (Sum.inr a : Key) = Sum.inr b := fun q => e (Sum.inr.inj q)
    rw [decide_eq_false h, decide_eq_false e]
theorem abG (a : Int) (b : Str) : decide ((Sum.inl a : Key) = Sum.inr b) = false := decide_eq_false (fun q => nomatch q)
theorem abF (a : Str) (b : Int) : decide ((Sum.inr a : Key) = Sum.inl b) = false := decide_eq_false (fun q => nomatch q)
def fY (prog : Program) (w : World) : PySem.KeyKind prog w Key where
  is := Br
  hash := ag7 w
  inj := fun v a b ha hb => by
    rcases cQ ha with ⟨i, t, rfl, rfl⟩ | ⟨x, t, rfl, rfl⟩
    · rcases cQ hb with ⟨j, u, rfl, e⟩ | ⟨y, u, rfl, e⟩
      · injection e with e1 _; rw [e1]
      · exact nomatch e
    · rcases cQ hb with ⟨j, u, rfl, e⟩ | ⟨y, u, rfl, e⟩
      · exact nomatch e
      · injection e with e1 _; rw [e1]
  byValue := fun k v h => by
    rcases cQ h with ⟨i, t, rfl, rfl⟩ | ⟨x, t, rfl, rfl⟩ <;> rfl
  pyHash := fun hv h => by
    rcases cQ hv with ⟨i, t, rfl, rfl⟩ | ⟨x, t, rfl, rfl⟩
    · exact wpAny_pyHash_int h
    · exact wpAny_pyHash_str h
  eqBool := fun hu hv h => by
    rcases cQ hu with ⟨i, t, rfl, rfl⟩ | ⟨x, t, rfl, rfl⟩
    · rcases cQ hv with ⟨j, u, rfl, rfl⟩ | ⟨y, u, rfl, rfl⟩
      · rw [abH] at h; exact wpAny_eqBool_int h
      · rw [abG] at h; exact SeqAt.EqAt.int_str i t y u _ _ _ _ h
    · rcases cQ hv with ⟨j, u, rfl, rfl⟩ | ⟨y, u, rfl, rfl⟩
      · rw [abF] at h; exact SeqAt.EqAt.str_int x t j u _ _ _ _ h
      · rw [abE] at h; exact wpAny_eqBool_str h
  «strs» := fun k x t v h => by
    rcases cQ h with ⟨i, u, rfl, e⟩ | ⟨y, u, rfl, e⟩
    · exact nomatch e
    · injection e with e1 _
      subst e1
      cases v <;> rfl
theorem Hy (prog : Program) (w : World) (i : Int) (t : Tok) : (fY prog w).is (.inl i) (.int i t) = true := PJ i t
theorem Hx (prog : Program) (w : World) (x : Str) (t : Tok) : (fY prog w).is (.inr x) (.str x t) = true := PB x t
end L2
namespace L2
open PySem PySem.Spec PyProof.Rows
inductive V where
  | non | bl (b : Bool) | int (i : Int) | str (x : Str) | byt (b : Array UInt8) | flt (b : UInt64) | ref (a : Addr) | ty (n : String)
  deriving DecidableEq
def RelV : V → Value → Prop
  | .non, u => u = Value.none
  | .bl b, u => u = Value.bool b
  | .int i, u => ∃ t, u = Value.int i t
  | .str x, u => ∃ t, u = Value.str x t
  | .byt b, u => ∃ t, u = Value.bytes b t
  | .flt b, u => ∃ t, u = Value.float b t
  | .ref a, u => u = Value.ref a
  | .ty n, u => u = Value.type n
abbrev Vals : List V → List Value → Prop := Paired RelV
theorem Vals.length {xs : List V} {us : List Value} (r : Vals xs us) : xs.length = us.length := Paired.length r
theorem Vals.get : ∀ {xs : List V} {us : List Value} {i : Nat} {x : V}, Vals xs us → xs[i]? = some x → ∃ u, us[i]? = some u ∧ RelV x u
  | _, _, _, _, .nil, e => by simp at e
  | _, _, 0, _, .cons r _, e => by simp at e; subst e; exact ⟨_, rfl, r⟩
  | _, _, i + 1, x, .cons _ t, e => by
    obtain ⟨u, h1, h2⟩ := Vals.get (i := i) (x := x) t (by simpa using e)
    exact ⟨u, by simpa using h1, h2⟩
theorem Vals.set {x : V} {u : Value} (r : RelV x u) : ∀ {xs : List V} {us : List Value} (i : Nat), Vals xs us → Vals (xs.set i x) (us.set i u)
  | _, _, _, .nil => .nil
  | _, _, 0, .cons _ t => .cons r t
  | _, _, i + 1, .cons q t => .cons q (Vals.set r i t)
theorem Vals.append : ∀ {xs ys : List V} {us ws : List Value}, Vals xs us → Vals ys ws → Vals (xs ++ ys) (us ++ ws)
  | _, _, _, _, .nil, s => s
  | _, _, _, _, .cons r t, s => .cons r (Vals.append t s)
theorem Vals.take : ∀ {xs : List V} {us : List Value} (n : Nat), Vals xs us → Vals (xs.take n) (us.take n)
  | _, _, 0, _ => .nil
  | _, _, _ + 1, .nil => .nil
  | _, _, n + 1, .cons r t => .cons r (Vals.take n t)
theorem Vals.drop : ∀ {xs : List V} {us : List Value} (n : Nat), Vals xs us → Vals (xs.drop n) (us.drop n)
  | _, _, 0, r => r
  | _, _, _ + 1, .nil => .nil
  | _, _, n + 1, .cons _ t => Vals.drop n t
def Aq : Option V → Option Value → Prop
  | some v, some u => RelV v u
  | none, none => True
  | _, _ => False
def KV {κ : Type} : List (κ × V) → List (κ × Value) → Prop := Paired fun (p : κ × V) (q : κ × Value) => p.1 = q.1 ∧ RelV p.2 q.2
def kV : Key → V
  | .inl i => .int i
  | .inr x => .str x
inductive HO where
  /-- a list -/
  | lst (xs : List V)
  /-- a tuple (never changes) -/
  | tup (xs : List V)
  /-- a dict whose keys are ints and texts; one whose keys are tuples of ints and texts (the empty one is both) -/
  | dK (kvs : List (Key × V)) | dT (kvs : List (List Key × V))
  /-- a set of ints: its members, its size -/
  | set (S : Int → Bool) (n : Nat)
  /-- an instance of the class at C, its dict at dx, its attributes -/
  | ins (C dx : Addr) (fs : List (Str × V))
  /-- the dict of the instance at x -/
  | own (x : Addr)
  /-- the dict of an exception -/
  | xd (fs : List (Str × V))
  /-- a bound method, f of x -/
  | met (f x : Addr)
  /-- a range object lo, lo + 1, .. below hi -/
  | rng (lo hi : Int)
  /-- a thing that is known to the object (the script; a dict while a loop walks it): read, never written while it is so -/
  | VJ (o : Obj) (u : HO)
  /-- a code object's table -/
  | tbl (ps : Array Value)
  /-- any other thing, by what is true of its one object (a def of one's own: Vt a S n := HO.ext fun h => ..) -/
  | ext (φ : Heap → Prop)
abbrev Hp := Addr → Option HO
def upd (H : Hp) (a : Addr) (o : HO) : Hp := fun b => if b = a then some o else H b
theorem aQ {H : Hp} {a : Addr} {o : HO} : upd H a o a = some o := by unfold upd; rw [if_pos rfl]
theorem bJ {H : Hp} {a b : Addr} {o : HO} (h : b ≠ a) : upd H a o b = H b := by unfold upd; rw [if_neg h]
theorem VV {H : Hp} {a : Addr} {o u : HO} : upd (upd H a o) a u = upd H a u := by
  funext b; unfold upd; split <;> rfl
theorem aeU {H : Hp} {a b : Addr} {o u : HO} (h : H a = some o) (h' : H b = some u) (d : o ≠ u) : a ≠ b := by
  intro e; subst e; rw [h] at h'; exact d (Option.some.inj h')
theorem fu {H : Hp} {a b : Addr} {o : HO} (h : H a = some o) (h' : H b = none) : a ≠ b := by
  intro e; subst e; rw [h] at h'; cases h'
def Ao (h : Heap) (a : Addr) (items : Array Value) : Prop := ∃ o, h.get? a = some o ∧ o.cls = .type "tuple" ∧ (∃ n, o.data = .seq items n) ∧ o.dict = none
theorem Ao.is {h : Heap} {a : Addr} {items : Array Value} (x : Ao h a items) : IsTup h a items := let ⟨o, h1, h2, h3, _⟩ := x; ⟨o, h1, h2, h3⟩
theorem Ao.new (h : Heap) (items : Array Value) : Ao (h.push { cls := .type "tuple", data := .seq items }) h.objs.size items := ⟨_, Heap.get?_push_size _ rfl, rfl, ⟨_, rfl⟩, rfl⟩
section
variable (P : Program) (w : World)
def f9 (H : Hp) (h : Heap) (a : Addr) : HO → Prop
  | .lst xs => xs.length ≤ sizeLine ∧ ∃ (its : List Value) (n : Nat), Vals xs its ∧ h.get? a = some { cls := .type "list", data := .seq its.toArray n }
  | .tup xs => xs.length ≤ sizeLine ∧ ∃ its : List Value, Vals xs its ∧ Ao h a its.toArray
  | .dK kvs => kvs.length ≤ sizeLine ∧ (a == sysModules) = false ∧ ∃ vs, KV kvs vs ∧ h.DictOf (fY P w) a vs
  | .dT kvs => kvs.length ≤ sizeLine ∧ (a == sysModules) = false ∧ ∃ xs : List (List Key × Addr × Value),
      Paired (fun (p : List Key × V) (q : List Key × Addr × Value) => p.1 = q.1 ∧ H q.2.1 = some (.tup (p.1.map kV)) ∧ RelV p.2 q.2.2) kvs xs ∧
      ∃ o es ep, h.get? a = some o ∧ o.ExactDict ∧ o.data = .dict es ep ∧ es.toList = xs.map (entryOfKey (tupleKind (fY P w))) ∧ (xs.map (·.1)).Nodup
  | .set S n => h.SetOf (intKind P w) a S n
  | .ins C dx fs => H dx = some (.own a) ∧ fs.length ≤ 1000 ∧ dx ≠ a ∧ h.get? a = some (PySem.W.instObj C dx) ∧
      ∃ mA, h.Ns1 dx mA ∧ (∀ f, Aq (fs.lookup f) (mA f)) ∧ PySem.Within mA (fs.map (·.1))
  | .own _ => ∃ o, h.get? a = some o
  | .xd fs => ∃ mA, h.Ns1 a mA ∧ ∀ f, Aq (fs.lookup f) (mA f)
  | .rng lo hi => ∃ t u v, h.get? a = some { cls := .type "range", data := .fields #[.int lo t, .int hi u, .int 1 v] }
  | .VJ o u => h.get? a = some o ∧ f9 H h a u
  | .tbl ps => h.get? a = some { cls := .none, data := .fields ps }
  | .met f x => h.get? a = some (PySem.W.methodObj (.ref f) (.ref x))
  | .ext φ => φ h ∧ (∃ o, h.get? a = some o) ∧ ∀ h1 h2 : Heap, φ h1 → (∀ o, h1.get? a = some o → h2.get? a = some o) → φ h2
def uQ (H : Hp) (h : Heap) : Prop := ∀ a o, H a = some o → f9 P w H h a o
end
section
variable {P : Program} {w : World} {H H' : Hp} {h h' : Heap} {a : Addr} {o : HO}
theorem f9.lt (x : f9 P w H h a o) : a < h.objs.size := by
  cases o with
  | lst xs => obtain ⟨_, _, _, _, e⟩ := x; exact Heap.lt_size e
  | tup xs => obtain ⟨_, _, _, p⟩ := x; exact p.is.lt
  | dK kvs => obtain ⟨_, _, _, _, o, _, _, e, _⟩ := x; exact Heap.lt_size e
  | dT kvs => obtain ⟨_, _, _, _, o, _, _, e, _⟩ := x; exact Heap.lt_size e
  | set S n => obtain ⟨o, _, _, _, e, _⟩ := x; exact Heap.lt_size e
  | ins C dx fs => obtain ⟨_, _, _, e, _⟩ := x; exact Heap.lt_size e
  | own y => obtain ⟨_, e⟩ := x; exact Heap.lt_size e
  | xd fs => obtain ⟨_, ⟨_, _, _, e, _⟩, _⟩ := x; exact Heap.lt_size e
  | rng lo hi => obtain ⟨_, _, _, e⟩ := x; exact Heap.lt_size e
  | VJ ob u => obtain ⟨e, _⟩ := x; exact Heap.lt_size e
  | tbl ps => exact Heap.lt_size (show h.get? a = some _ from x)
  | met f y => exact Heap.lt_size (show h.get? a = some _ from x)
  | ext φ => obtain ⟨_, ⟨_, e⟩, _⟩ := x; exact Heap.lt_size e
theorem Paired.aby {α β : Type} {F G : α → β → Prop} : ∀ {l₁ : List α} {l₂ : List β}, Paired F l₁ l₂ → (∀ a b, F a b → G a b) → Paired G l₁ l₂
  | _, _, .nil, _ => .nil
  | _, _, .cons r t, f => .cons (f _ _ r) (Paired.aby t f)
theorem f9.stay (x : f9 P w H h a o) (k : ∀ b u, (b = a ∨ H b = some (.own a)) → h.get? b = some u → h'.get? b = some u)
    (ho : ∀ b, H b = some (.own a) → H' b = some (.own a)) (ht : ∀ b xs, H b = some (.tup xs) → H' b = some (.tup xs)) : f9 P w H' h' a o := by
  induction o with
  | lst xs => obtain ⟨z, its, n, r, e⟩ := x; exact ⟨z, its, n, r, k _ _ (.inl rfl) e⟩
  | tup xs => obtain ⟨z, its, r, ob, e, c⟩ := x; exact ⟨z, its, r, ob, k _ _ (.inl rfl) e, c⟩
  | dK kvs => obtain ⟨z, y, vs, r, ob, es, ep, e, c⟩ := x; exact ⟨z, y, vs, r, ob, es, ep, k _ _ (.inl rfl) e, c⟩
  | dT kvs =>
    obtain ⟨z, y, xs, r, ob, es, ep, e, c⟩ := x
    exact ⟨z, y, xs, Paired.aby r fun p q z => ⟨z.1, ht _ _ z.2.1, z.2.2⟩, ob, es, ep, k _ _ (.inl rfl) e, c⟩
  | set S n => obtain ⟨ob, es, ep, t, e, c⟩ := x; exact ⟨ob, es, ep, t, k _ _ (.inl rfl) e, c⟩
  | ins C dx fs =>
    obtain ⟨d, z, ne, e, mA, ⟨od, es, ep, e2, c⟩, r⟩ := x
    exact ⟨ho _ d, z, ne, k _ _ (.inl rfl) e, mA, ⟨od, es, ep, k _ _ (.inr d) e2, c⟩, r⟩
  | own y => obtain ⟨ob, e⟩ := x; exact ⟨ob, k _ _ (.inl rfl) e⟩
  | xd fs => obtain ⟨mA, ⟨od, es, ep, e, c⟩, r⟩ := x; exact ⟨mA, ⟨od, es, ep, k _ _ (.inl rfl) e, c⟩, r⟩
  | rng lo hi => obtain ⟨t, u, v, e⟩ := x; exact ⟨t, u, v, k _ _ (.inl rfl) e⟩
  | VJ ob u ih => obtain ⟨e, q⟩ := x; exact ⟨k _ _ (.inl rfl) e, ih q⟩
  | tbl ps =>
    have e : h.get? a = some { cls := .none, data := .fields ps } := x
    show h'.get? a = some { cls := .none, data := .fields ps }
    exact k a _ (.inl rfl) e
  | met f y =>
    have e : h.get? a = some (PySem.W.methodObj (.ref f) (.ref y)) := x
    show h'.get? a = some (PySem.W.methodObj (.ref f) (.ref y))
    exact k a _ (.inl rfl) e
  | ext φ => obtain ⟨p, ⟨o, e⟩, st⟩ := x; exact ⟨st _ _ p fun o q => k _ _ (.inl rfl) q, ⟨o, k _ _ (.inl rfl) e⟩, st⟩
theorem uQ.lt (x : uQ P w H h) (e : H a = some o) : a < h.objs.size := (x a o e).lt
theorem uQ.fresh (x : uQ P w H h) (e : h.objs.size ≤ a) : H a = none := by
  cases q : H a with
  | none => rfl
  | some u => exact absurd (Nat.lt_of_lt_of_le (x.lt q) e) (Nat.lt_irrefl _)
theorem uQ.kept (x : uQ P w H h) (k : ∀ b u, h.get? b = some u → h'.get? b = some u) : uQ P w H h' := fun a o e =>
  (x a o e).stay (fun b u _ q => k b u q) (fun _ q => q) fun _ _ q => q
theorem uQ.laid (x : uQ P w H h) (k : ∀ b u, h.get? b = some u → h'.get? b = some u) (hp : h.objs.size ≤ a) (new : f9 P w (upd H a o) h' a o) : uQ P w (upd H a o) h' := fun b u e => by
  have hn := x.fresh hp
  by_cases hb : b = a
  · subst hb; rw [aQ] at e; cases e; exact new
  · rw [bJ hb] at e
    exact (x b u e).stay (fun c v _ q => k c v q) (fun c q => by rw [bJ (fu q hn)]; exact q) fun c xs q => by rw [bJ (fu q hn)]; exact q
end
def Rd (H : Hp) (a : Addr) (u : HO) : Prop := H a = some u ∨ ∃ o, H a = some (.VJ o u)
theorem Rd.ok {P : Program} {w : World} {H : Hp} {h : Heap} {a : Addr} {u : HO} (r : Rd H a u) (x : uQ P w H h) : f9 P w H h a u := by
  rcases r with r | ⟨o, r⟩
  · exact x a u r
  · obtain ⟨_, q⟩ := x a _ r
    exact q
def Mut : Option HO → Prop
  | some (.lst _) => True
  | some (.dK _) => True
  | some (.dT _) => True
  | some (.set _ _) => True
  | some (.ins _ _ _) => True
  | some (.ext _) => True
  | _ => False
section
variable {P : Program} {w : World} {H : Hp} {h h' : Heap} {x e : Addr} {o' : HO}
theorem uQ.write (ok : uQ P w H h) (mu : Mut (H x)) (he : e = x ∨ H e = some (.own x)) (k : ∀ b u, b ≠ e → h.get? b = some u → h'.get? b = some u) (heo : ∃ u, h'.get? e = some u)
    (new : f9 P w (upd H x o') h' x o') : uQ P w (upd H x o') h' := fun b u q => by
  have aeR : ∀ c y, H c = some (.own y) → c ≠ x := fun c y r z => by subst z; rw [r] at mu; exact mu
  have agX : ∀ c xs, H c = some (.tup xs) → c ≠ x := fun c xs r z => by subst z; rw [r] at mu; exact mu
  by_cases hb : b = x
  · subst hb; rw [aQ] at q; cases q; exact new
  · rw [bJ hb] at q
    by_cases hbe : b = e
    · have q' : H b = some (.own x) := by
        rcases he with z | z
        · exact absurd (hbe.trans z) hb
        · rw [hbe]; exact z
      rw [q] at q'; cases q'
      obtain ⟨v, hv⟩ := heo
      exact ⟨v, by rw [hbe]; exact hv⟩
    · refine (ok b u q).stay (fun c v hc r => k c v ?_ r) (fun c r => by rw [bJ (aeR c b r)]; exact r) fun c xs r => by rw [bJ (agX c xs r)]; exact r
      rcases hc with rfl | hc
      · exact hbe
      · rintro rfl
        rcases he with z | z
        · exact aeR c b hc z
        · rw [hc] at z; cases z; exact hb rfl
end
structure Un (fs ex : List Addr) (H H' : Hp) (h h' : Heap) : Prop where
  keep : ∀ b o, h.get? b = some o → H b = none → b ∉ fs → b ∉ ex → h'.get? b = some o
  slot : ∀ b o, h.get? b = some o → H b = none → b ∈ fs → b ∉ ex → ∃ sl, h'.get? b = some { o with slots := sl }
  free : ∀ b o, h.get? b = some o → H b = none → b ∉ ex → H' b = none
  there : ∀ b o, h.get? b = some o → b ∉ ex → ∃ o', h'.get? b = some o'
  tups : ∀ b xs, H b = some (.tup xs) → H' b = some (.tup xs)
  Et : ∀ b o u, H b = some (.VJ o u) → H' b = some (.VJ o u)
  Gm : ∀ b ps, H b = some (.tbl ps) → ∃ more, H' b = some (.tbl (ps ++ more))
section
variable {fs fs' ex ex' : List Addr} {H H1 H2 : Hp} {h h1 h2 h' : Heap} {a x e : Addr} {o : HO}
theorem Un.any (u : Un fs ex H H1 h h1) {b : Addr} {ob : Obj} (q : h.get? b = some ob) (n : H b = none) (hx : b ∉ ex) : ∃ sl, h1.get? b = some { ob with slots := sl } := by
  by_cases hb : b ∈ fs
  · exact u.slot b ob q n hb hx
  · exact ⟨ob.slots, u.keep b ob q n hb hx⟩
theorem Un.kept (k : ∀ b u, h.get? b = some u → h'.get? b = some u) : Un fs ex H H h h' :=
  ⟨fun b ob q _ _ _ => k b ob q, fun b ob q _ _ _ => ⟨ob.slots, k b ob q⟩, fun _ _ _ n _ => n, fun b ob q _ => ⟨ob, k b ob q⟩, fun _ _ q => q, fun _ _ _ q => q, fun _ ps q => ⟨#[], by rw [q]; simp⟩⟩
theorem Un.refl : Un fs ex H H h h := Un.kept fun _ _ q => q
theorem Un.laid (k : ∀ b u, h.get? b = some u → h'.get? b = some u) (hp : h.objs.size ≤ a) (hn : H a = none) : Un fs ex H (upd H a o) h h' where
  keep := fun b u q _ _ _ => k b u q
  slot := fun b u q _ _ _ => ⟨u.slots, k b u q⟩
  free := fun b u q n _ => by rw [bJ (Nat.ne_of_lt (Nat.lt_of_lt_of_le (Heap.lt_size q) hp))]; exact n
  there := fun b u q _ => ⟨u, k b u q⟩
  tups := fun b xs q => by rw [bJ (fu q hn)]; exact q
  Et := fun b u xs q => by rw [bJ (fu q hn)]; exact q
  Gm := fun b ps q => ⟨#[], by rw [bJ (fu q hn), q]; simp⟩
theorem Un.write (mu : Mut (H x)) (he : e = x ∨ H e = some (.own x)) (k : ∀ b u, b ≠ e → h.get? b = some u → h'.get? b = some u) (heo : ∃ u, h'.get? e = some u) : Un fs ex H (upd H x o) h h' := by
  have hx : ∀ b, H b = none → b ≠ x := fun b n z => by subst z; rw [n] at mu; exact mu
  have hb : ∀ b, H b = none → b ≠ e := fun b n z => by
    subst z
    rcases he with r | r
    · exact hx b n r
    · rw [n] at r; cases r
  have hm : ∀ b u, H b = some u → ¬ Mut (some u) → b ≠ x := fun b u q nm z => by subst z; rw [q] at mu; exact nm mu
  refine ⟨fun b u q n _ _ => k b u (hb b n) q, fun b u q n _ _ => ⟨u.slots, k b u (hb b n) q⟩, fun b u q n _ => by rw [bJ (hx b n)]; exact n, fun b u q _ => ?_,
    fun b xs q => by rw [bJ (hm b _ q fun z => z)]; exact q, fun b u xs q => by rw [bJ (hm b _ q fun z => z)]; exact q, fun b ps q => ⟨#[], by rw [bJ (hm b _ q fun z => z), q]; simp⟩⟩
  by_cases hbe : b = e
  · subst hbe; exact heo
  · exact ⟨u, k b u hbe q⟩
end
def trk (h : Heap) (H : Hp) : List Addr := (List.range h.objs.size).filter fun a => (H a).isSome
def Ej (h : Heap) (H : Hp) : Heap := PySem.W.hideAll h (trk h H)
theorem Qa (h : Heap) (H : Hp) : (Ej h H).objs.size = h.objs.size := PySem.W.hideAll_size _ _
theorem Ub {h : Heap} {H : Hp} {b : Addr} {o : Obj} (e : h.get? b = some o) (n : H b = none) : (Ej h H).get? b = some o :=
  PySem.W.hideAll_get _ e fun hm => by
    have q : (H b).isSome = true := (List.mem_filter.mp hm).2
    rw [n] at q; simp at q
theorem Xa {h : Heap} {H : Hp} {b : Addr} {o : Obj} (e : (Ej h H).get? b = some o) : h.get? b = some o ∧ H b = none := by
  have e' : h.get? b = some o := PySem.W.of_hideAll (trk h H) e
  refine ⟨e', ?_⟩
  cases q : H b with
  | none => rfl
  | some x =>
    have hm : b ∈ trk h H := List.mem_filter.mpr ⟨List.mem_range.mpr (Heap.lt_size e'), by simp [q]⟩
    have z : (Ej h H).get? b = none := PySem.W.hideAll_none (trk h H) hm
    rw [z] at e; cases e
def YM (g h : Heap) (L : Addr) : List (Addr × Obj) := (List.range h.objs.size).filterMap fun a => if a = L ∨ (g.get? a).isSome = true then none else (h.get? a).map fun o => (a, o)
def rest (g h : Heap) (L d : Addr) : List (Addr × Obj) := (YM g h L).filter fun p => decide (p.1 ≠ d)
end L2
namespace L2
open PySem PySem.Spec PyProof.Rows
structure Mod (K : PySem.W.Frag) (mg : Str → Option Value) (base : Heap) : Prop where
  QF : K.In base
  glob : base.Ns mainGlobals mg
  blt : ∃ mb, base.Ns builtinsNs mb ∧ ∀ x : Str, x ≠ "__name__" → mb x = bootBuiltins x
  nolimit : base.NoLimit
structure Cx where
  prog : Program
  w : World
  K : PySem.W.Frag
  mg : Str → Option Value
  base : Heap
  A : Around
  N : List Str
  s₀ : Shared
  H₀ : Hp
  env : Env
  outer : List Env
  stack : List Env
  ex : List Addr
  fn : Str → Bool
  calm : Bool
  pn : List (Addr × Obj)
  xe : Value → Shared → Prop
def frs (l : List Env) : List Addr := l.filterMap (·.frame)
abbrev Cx.fs (X : Cx) : List Addr := frs X.outer
def rO (sc : Scope) (x : Str) : Prop := sc.names.lookup x = some .local ∨ sc.names.lookup x = some .cell ∨ sc.names.lookup x = some .free
def Loc (sc : Scope) (x : Str) : Prop := sc.names.lookup x = some .local ∨ sc.names.lookup x = some .cell
def Look (env : Env) (h : Heap) (m : Str → Option Value) (x : Str) (u : Value) : Prop :=
  (env.kindOf x = some .local ∧ m x = some u) ∨ ((env.kindOf x = some .cell ∨ env.kindOf x = some .free) ∧ ∃ c, env.cells.lookup x = some c ∧ h.IsCell c (some u))
structure Cx.Ok (X : Cx) : Prop where
  mod : Mod X.K X.mg X.base
  kind : X.env.scope.kind = .function
  glob : X.env.globals = mainGlobals
  blt : X.env.builtins = builtinsNs
  above : X.s₀.heap.objs.size ≤ X.env.locals
  inj : ∀ x y c, X.env.cells.lookup x = some c → X.env.cells.lookup y = some c → x = y
  has : ∀ x, (X.env.kindOf x = some .cell ∨ X.env.kindOf x = some .free) → ∃ c, X.env.cells.lookup x = some c
  cab : ∀ x c, X.fn x = true → X.env.cells.lookup x = some c → X.s₀.heap.objs.size ≤ c
  hd : X.calm = true → X.A.handled = none
  frames : X.A.frames = some X.stack
  VB : X.stack = X.outer ∨ (X.stack = X.env :: X.outer ∧ X.env.frame = some X.env.locals)
  exf : ∀ b ∈ X.ex, b ≠ X.env.locals ∧ ∀ x c, X.env.cells.lookup x = some c → c ≠ b
  bs : ∀ b o, X.base.get? b = some o → X.s₀.heap.get? b = some o ∧ X.H₀ b = none
  ZK : X.base.objs.size ≤ X.s₀.heap.objs.size
  Ss : ∀ b o, X.base.get? b = some o → b ∉ X.ex
  Ur : ∀ b ∈ X.ex, b ∉ X.fs
  yS : X.s₀.heap.FunFrames X.base X.outer
  frf : ∀ b ∈ X.fs, X.H₀ b = none
structure Inv (X : Cx) (pins : List (Addr × Obj)) (σ : List (Option V)) (H : Hp) (s : Shared) : Prop where
  ok : X.Ok
  os : s.os = X.s₀.os
  bare : AllBare s.gens
  base : Un X.fs X.ex X.H₀ H X.s₀.heap s.heap
  loc : ∃ m, s.heap.Ns X.env.locals m ∧ ∀ (i : Nat) (x : Str) (v : V), X.N[i]? = some x → σ[i]? = some (some v) → rO X.env.scope x → ∃ u, RelV v u ∧ Look X.env s.heap m x u
  cell : ∀ x c, X.env.cells.lookup x = some c → ∃ v, s.heap.IsCell c v
  free : H X.env.locals = none
  qj : ∀ x c, X.env.cells.lookup x = some c → H c = none
  pin : ∀ p ∈ X.pn ++ pins, s.heap.get? p.1 = some p.2 ∧ H p.1 = none ∧ p.1 ≠ X.env.locals ∧ p.1 ∉ X.fs ∧ ∀ v, p.2.data ≠ .cell v
  hok : uQ X.prog X.w H s.heap
  len : σ.length = X.N.length
section
variable {X : Cx} {pins : List (Addr × Obj)} {σ : List (Option V)} {H H' : Hp} {s : Shared} {h' : Heap}
theorem Cx.Ok.agZ (ok : X.Ok) {b : Addr} {o : Obj} (e : X.base.get? b = some o) : b ∉ X.fs := fun hb => by
  have := (ok.yS.mem hb).1
  rw [e] at this; cases this
theorem Inv.bs (I : Inv X pins σ H s) : ∀ b o, X.base.get? b = some o → s.heap.get? b = some o ∧ H b = none := fun b o e =>
  ⟨I.base.keep b o (I.ok.bs b o e).1 (I.ok.bs b o e).2 (I.ok.agZ e) (I.ok.Ss b o e), I.base.free b o (I.ok.bs b o e).1 (I.ok.bs b o e).2 (I.ok.Ss b o e)⟩
theorem Inv.bk (I : Inv X pins σ H s) : ∀ b o, X.base.get? b = some o → s.heap.get? b = some o := fun b o e => (I.bs b o e).1
theorem Inv.mod (I : Inv X pins σ H s) : Mod X.K X.mg X.base := I.ok.mod
theorem Inv.kIn (I : Inv X pins σ H s) : X.K.In s.heap := I.ok.mod.QF.keeps I.bk
theorem Inv.lt (I : Inv X pins σ H s) : X.env.locals < s.heap.objs.size := let ⟨_, hn, _⟩ := I.loc; hn.lt
theorem Inv.sz (I : Inv X pins σ H s) : X.s₀.heap.objs.size ≤ s.heap.objs.size := Nat.le_trans I.ok.above (Nat.le_of_lt I.lt)
theorem Inv.agY (I : Inv X pins σ H s) {a : Addr} (h : s.heap.objs.size ≤ a) : a ∉ X.fs := fun hb => by
  obtain ⟨_, o, ho, _⟩ := I.ok.yS.mem hb
  exact absurd (Nat.lt_of_lt_of_le (Heap.lt_size ho) (Nat.le_trans I.sz h)) (Nat.lt_irrefl _)
theorem Inv.cne (I : Inv X pins σ H s) : ∀ x c, X.env.cells.lookup x = some c → c ≠ X.env.locals := fun x c e z => by
  obtain ⟨v, o, ho, hd⟩ := I.cell x c e
  obtain ⟨m, ⟨o', es, ep, ho', hd', _⟩, _⟩ := I.loc
  rw [z, ho'] at ho; cases ho; rw [hd'] at hd; cases hd
theorem Inv.yS (I : Inv X pins σ H s) : s.heap.FunFrames X.base X.outer := by
  have all : ∀ (l : List Env), (∀ b ∈ frs l, b ∈ X.fs) → X.s₀.heap.FunFrames X.base l → s.heap.FunFrames X.base l := by
    intro l
    induction l with
    | nil => intro _ _; trivial
    | cons env r ih =>
      intro hs hl
      obtain ⟨hk, ⟨L, o, hf, hn, ho, hd⟩, hr⟩ := hl
      have hL : L ∈ X.fs := hs L (by unfold frs; rw [List.filterMap_cons, hf]; exact List.mem_cons_self)
      obtain ⟨sl, e⟩ := I.base.slot L o ho (I.ok.frf L hL) hL fun z => I.ok.Ur L z hL
      exact ⟨hk, ⟨L, _, hf, hn, e, hd⟩, ih (fun b hb => hs b (by unfold frs; rw [List.filterMap_cons, hf]; exact List.mem_cons_of_mem _ hb)) hr⟩
  exact all X.outer (fun _ hb => hb) I.ok.yS
theorem Inv.stack (I : Inv X pins σ H s) : s.heap.FunFrames X.base X.stack := by
  rcases I.ok.VB with e | ⟨e, hf⟩
  · rw [e]; exact I.yS
  · rw [e]
    obtain ⟨m, hn, _⟩ := I.loc
    refine .cons (by rw [I.ok.kind]; decide) hf hn ?_ I.yS
    exact Heap.get?_none_of_le (Nat.le_trans I.ok.ZK I.ok.above)
theorem Inv.JW (I : Inv X pins σ H s) : ∀ b ∈ frs X.stack, b ∈ X.env.locals :: X.fs := fun b hb => by
  rcases I.ok.VB with e | ⟨e, hf⟩
  · rw [e] at hb; exact List.mem_cons_of_mem _ hb
  · rw [e] at hb
    unfold frs at hb
    rw [List.filterMap_cons, hf] at hb
    exact hb
theorem Inv.Mt (I : Inv X pins σ H s) : ∀ b ∈ frs X.stack, H b = none := fun b hb => by
  rcases List.mem_cons.mp (I.JW b hb) with e | hb
  · rw [e]; exact I.free
  · obtain ⟨_, o, ho, _⟩ := I.ok.yS.mem hb
    exact I.base.free b o ho (I.ok.frf b hb) fun z => I.ok.Ur b z hb
theorem Inv.step {g' : Array GenState} {t' : Nat} {d' : Drawn} {ch : List Addr} (I : Inv X pins σ H s)
    (hch : ∀ b ∈ ch, (b ∈ X.ex ∨ X.s₀.heap.objs.size ≤ b) ∧ b ≠ X.env.locals ∧ (∀ x c, X.env.cells.lookup x = some c → c ≠ b) ∧ ∀ p ∈ X.pn ++ pins, p.1 ≠ b)
    (keep : ∀ b o, b ≠ X.env.locals → b ∉ X.fs → b ∉ ch → s.heap.get? b = some o → H b = none → h'.get? b = some o)
    (slot : ∀ b o, b ≠ X.env.locals → b ∈ X.fs → b ∉ ch → s.heap.get? b = some o → H b = none → ∃ sl, h'.get? b = some { o with slots := sl }) (free : ∀ b o, b ∉ ch → s.heap.get? b = some o → H b = none → H' b = none)
    (there : ∀ b o, b ∉ ch → s.heap.get? b = some o → ∃ o', h'.get? b = some o')
    (tups : ∀ b xs, H b = some (.tup xs) → H' b = some (.tup xs)) (Et : ∀ b o u, H b = some (.VJ o u) → H' b = some (.VJ o u)) (Gm : ∀ b ps, H b = some (.tbl ps) → ∃ more, H' b = some (.tbl (ps ++ more)))
    (ns : ∀ m, s.heap.Ns X.env.locals m → h'.Ns X.env.locals m) (hok : uQ X.prog X.w H' h') (hg : AllBare g') :
    Inv X pins σ H' { s with heap := h', gens := g', drawn := d', toks := t' } := by
  have neL : ∀ b o, X.s₀.heap.get? b = some o → b ≠ X.env.locals := fun b o e => Nat.ne_of_lt (Nat.lt_of_lt_of_le (Heap.lt_size e) I.ok.above)
  have neC : ∀ b o, X.s₀.heap.get? b = some o → b ∉ X.ex → b ∉ ch := fun b o e hx hb => by
    rcases (hch b hb).1 with z | z
    · exact hx z
    · exact absurd (Nat.lt_of_lt_of_le (Heap.lt_size e) z) (Nat.lt_irrefl _)
  have cellK : ∀ x c, X.env.cells.lookup x = some c → ∀ v, s.heap.IsCell c v → h'.IsCell c v := fun x c e v ⟨o, ho, hd⟩ => by
    have nch : c ∉ ch := fun z => (hch c z).2.2.1 x c e rfl
    by_cases hc : c ∈ X.fs
    · obtain ⟨sl, q⟩ := slot c o (I.cne x c e) hc nch ho (I.qj x c e)
      exact ⟨_, q, hd⟩
    · exact ⟨o, keep c o (I.cne x c e) hc nch ho (I.qj x c e), hd⟩
  refine ⟨I.ok, I.os, hg, ⟨fun b o e n hb hx => ?_, fun b o e n hb hx => ?_, fun b o e n hx => ?_, fun b o e hx => ?_, fun b xs e => tups b xs (I.base.tups b xs e), fun b o xs e => Et b o xs (I.base.Et b o xs e), fun b ps e => ?_⟩, ?_, fun x c e => ?_, ?_, fun x c e => ?_, fun p hp => ?_, hok, I.len⟩
  · exact keep b o (neL b o e) hb (neC b o e hx) (I.base.keep b o e n hb hx) (I.base.free b o e n hx)
  · obtain ⟨sl, e1⟩ := I.base.slot b o e n hb hx
    obtain ⟨sl', e2⟩ := slot b _ (neL b o e) hb (neC b o e hx) e1 (I.base.free b o e n hx)
    exact ⟨sl', e2⟩
  · obtain ⟨o', e1⟩ := I.base.there b o e hx
    exact free b o' (neC b o e hx) e1 (I.base.free b o e n hx)
  · obtain ⟨o', e1⟩ := I.base.there b o e hx
    exact there b o' (neC b o e hx) e1
  · obtain ⟨m1, e1⟩ := I.base.Gm b ps e
    obtain ⟨m2, e2⟩ := Gm b _ e1
    exact ⟨m1 ++ m2, by rw [e2, Array.append_assoc]⟩
  · obtain ⟨m, hn, hl⟩ := I.loc
    refine ⟨m, ns m hn, fun i x v e1 e2 e3 => ?_⟩
    obtain ⟨u, r, l⟩ := hl i x v e1 e2 e3
    refine ⟨u, r, ?_⟩
    rcases l with l | ⟨k, c, e, z⟩
    · exact .inl l
    · exact .inr ⟨k, c, e, cellK x c e _ z⟩
  · obtain ⟨v, z⟩ := I.cell x c e
    exact ⟨v, cellK x c e v z⟩
  · obtain ⟨m, ⟨o, _, _, ho, _⟩, _⟩ := I.loc
    exact free _ o (fun z => (hch _ z).2.1 rfl) ho I.free
  · obtain ⟨v, o, ho, hd⟩ := I.cell x c e
    exact free c o (fun z => (hch c z).2.2.1 x c e rfl) ho (I.qj x c e)
  · obtain ⟨e, n, ne, nf, d⟩ := I.pin p hp
    have nch : p.1 ∉ ch := fun z => (hch p.1 z).2.2.2 p hp rfl
    exact ⟨keep p.1 p.2 ne nf nch e n, free p.1 p.2 nch e n, ne, nf, d⟩
theorem Inv.un {t' : Nat} (I : Inv X pins σ H s) (u : Un X.fs [] H H' s.heap h') (hok : uQ X.prog X.w H' h') : Inv X pins σ H' { s with heap := h', toks := t' } := by
  obtain ⟨m, ⟨o, es, ep, ho, r⟩, _⟩ := id I.loc
  obtain ⟨sl, hL⟩ := u.any ho I.free (by simp)
  exact I.step (g' := s.gens) (d' := s.drawn) (ch := []) (fun _ z => nomatch z) (fun b o _ hb _ e n => u.keep b o e n hb (by simp)) (fun b o _ hb _ e n => u.slot b o e n hb (by simp)) (fun b o _ e n => u.free b o e n (by simp)) (fun b o _ e => u.there b o e (by simp)) u.tups u.Et u.Gm (fun m' hm => by
    obtain ⟨o', es', ep', ho', r'⟩ := hm
    rw [ho] at ho'; cases ho'
    exact ⟨_, es', ep', hL, r'⟩) hok I.bare
theorem Inv.call {g' : Array GenState} {t' : Nat} {d' : Drawn} {ch : List Addr} (I : Inv X pins σ H s) (u : Un (frs X.stack) ch H H' s.heap h') (hok : uQ X.prog X.w H' h') (hg : AllBare g')
    (hch : ∀ b ∈ ch, (b ∈ X.ex ∨ X.s₀.heap.objs.size ≤ b) ∧ b ≠ X.env.locals ∧ (∀ x c, X.env.cells.lookup x = some c → c ≠ b) ∧ ∀ p ∈ X.pn ++ pins, p.1 ≠ b) :
    Inv X pins σ H' { s with heap := h', gens := g', drawn := d', toks := t' } := by
  obtain ⟨m, ⟨o, es, ep, ho, r⟩, _⟩ := id I.loc
  obtain ⟨sl, hL⟩ := u.any ho I.free fun z => (hch _ z).2.1 rfl
  exact I.step (ch := ch) hch (fun b o hL hb hc e n => u.keep b o e n (fun z => (List.mem_cons.mp (I.JW b z)).elim hL hb) hc) (fun b o _ _ hc e n => u.any e n hc) (fun b o hc e n => u.free b o e n hc) (fun b o hc e => u.there b o e hc) u.tups u.Et u.Gm (fun m' hm => by
    obtain ⟨o', es', ep', ho', r'⟩ := hm
    rw [ho] at ho'; cases ho'
    exact ⟨_, es', ep', hL, r'⟩) hok hg
theorem Inv.turned {t' : Nat} {it : Addr} (I : Inv X pins σ H s) (k : ∀ b o, b ≠ it → s.heap.get? b = some o → h'.get? b = some o) (hn : H it = none) (hL : it ≠ X.env.locals)
    (h1 : it ∈ X.ex ∨ X.s₀.heap.objs.size ≤ it) (h2 : ∀ x c, X.env.cells.lookup x = some c → c ≠ it) (h3 : ∀ p ∈ X.pn ++ pins, p.1 ≠ it) : Inv X pins σ H { s with heap := h', toks := t' } := by
  have nit : ∀ b u, H b = some u → b ≠ it := fun b u e z => by rw [z, hn] at e; cases e
  refine I.step (g' := s.gens) (d' := s.drawn) (ch := [it]) (fun b hb => ?_) (fun b o _ _ hc e _ => k b o (fun z => hc (by simp [z])) e) (fun b o _ _ hc e _ => ⟨o.slots, k b o (fun z => hc (by simp [z])) e⟩) (fun _ _ _ _ n => n)
    (fun b o hc e => ⟨o, k b o (fun z => hc (by simp [z])) e⟩) (fun _ _ e => e) (fun _ _ _ e => e) (fun b ps e => ⟨#[], by rw [e]; simp⟩) (fun m hm => ?_) (fun b u e => ?_) I.bare
  · have e : b = it := by simpa using hb
    subst e
    exact ⟨h1, hL, h2, h3⟩
  · obtain ⟨o, es, ep, ho, r⟩ := hm
    exact ⟨o, es, ep, k _ o (Ne.symm hL) ho, r⟩
  · refine (I.hok b u e).stay (fun c v hc q => k c v ?_ q) (fun _ q => q) fun _ _ q => q
    rcases hc with z | z
    · rw [z]; exact nit b u e
    · exact nit c _ z
theorem Inv.tok (I : Inv X pins σ H s) (t : Nat) : Inv X pins σ H { s with toks := t } := I.un (h' := s.heap) (t' := t) Un.refl I.hok
theorem Inv.kept {t' : Nat} (I : Inv X pins σ H s) (k : ∀ b u, s.heap.get? b = some u → h'.get? b = some u) : Inv X pins σ H { s with heap := h', toks := t' } := I.un (Un.kept k) (I.hok.kept k)
theorem Inv.laid {a : Addr} {o : HO} {t' : Nat} (I : Inv X pins σ H s) (k : ∀ b u, s.heap.get? b = some u → h'.get? b = some u) (hp : s.heap.objs.size ≤ a) (new : f9 X.prog X.w (upd H a o) h' a o) :
    Inv X pins σ (upd H a o) { s with heap := h', toks := t' } := I.un (Un.laid k hp (I.hok.fresh hp)) (I.hok.laid k hp new)
theorem Inv.write {x e : Addr} {o : HO} {t' : Nat} (I : Inv X pins σ H s) (mu : Mut (H x)) (he : e = x ∨ H e = some (.own x)) (k : ∀ b u, b ≠ e → s.heap.get? b = some u → h'.get? b = some u) (heo : ∃ u, h'.get? e = some u)
    (new : f9 X.prog X.w (upd H x o) h' x o) : Inv X pins σ (upd H x o) { s with heap := h', toks := t' } := I.un (Un.write mu he k heo) (I.hok.write mu he k heo new)
theorem Inv.MT {Ze : List (Addr × Obj)} (I : Inv X pins σ H s) (h : ∀ p ∈ Ze, s.heap.get? p.1 = some p.2 ∧ H p.1 = none ∧ p.1 ≠ X.env.locals ∧ p.1 ∉ X.fs ∧ ∀ v, p.2.data ≠ .cell v) : Inv X Ze σ H s :=
  ⟨I.ok, I.os, I.bare, I.base, I.loc, I.cell, I.free, I.qj, fun p hp => (List.mem_append.mp hp).elim (fun z => I.pin p (List.mem_append_left _ z)) (h p), I.hok, I.len⟩
theorem Hu {N : List Str} (hN : N.Nodup) {i j : Nat} {x : Str} (a : N[i]? = some x) (b : N[j]? = some x) : i = j := by
  obtain ⟨h1, e1⟩ := List.getElem?_eq_some_iff.mp a
  obtain ⟨h2, e2⟩ := List.getElem?_eq_some_iff.mp b
  exact (List.getElem_inj hN).mp (e1.trans e2.symm)
theorem Bc {M : Model} {A : Around} {E : Value → Shared → Prop} {i : Nat} {x : Str} {v : V} {u : Value} {Q : Unit → Shared → Prop} (I : Inv X pins σ H s) (hN : X.N.Nodup) (hi : X.N[i]? = some x) (hx : Loc X.env.scope x) (r : RelV v u)
    (h : ∀ s', Inv X pins (σ.set i (some v)) H s' → (∃ a, Heap.SameBut a s.heap s'.heap ∧ (a = X.env.locals ∨ X.env.cells.lookup x = some a)) → Q () s') (hf : X.fn x = true ∨ X.env.scope.names.lookup x = some .local := by first | exact .inl rfl | exact .inr rfl | assumption) : wpAny M A (storeName X.env x u) Q E s := by
  obtain ⟨m, hn, hl⟩ := id I.loc
  have hcls : (X.env.scope.kind == .class || (X.env.scope.kind == .module && X.env.locals != X.env.globals)) = false := by rw [I.ok.kind]; rfl
  have hiσ : i < σ.length := by rw [I.len]; exact (List.getElem?_eq_some_iff.mp hi).1
  have cne := I.cne
  have tracked : ∀ {a : Addr} {h' : Heap}, (∃ o, s.heap.get? a = some o ∧ H a = none) → Heap.SameBut a s.heap h' → uQ X.prog X.w H h' := fun {a h'} ha hs b ob e => by
    obtain ⟨_, _, hfree⟩ := ha
    refine (I.hok b ob e).stay (fun c w' hc q => (hs.2 c ?_).trans q) (fun _ q => q) fun _ _ q => q
    rintro rfl
    rcases hc with rfl | hc
    · rw [hfree] at e; cases e
    · rw [hfree] at hc; cases hc
  rcases hx with hk | hk
  · refine wpAny_storeName_local hk hn (fun h' hn' hs => ?_) hcls
    obtain ⟨oL, _, _, hoL, _⟩ := id hn
    refine h _ ⟨I.ok, I.os, I.bare, ⟨fun b o e n hb hx => ?_, fun b o e n hb hx => ?_, I.base.free, fun b o e hx => ?_, I.base.tups, I.base.Et, I.base.Gm⟩, ⟨_, hn', fun j y v' e1 e2 e3 => ?_⟩, fun y c e => ?_, I.free, I.qj, fun p hp => ?_, tracked ⟨oL, hoL, I.free⟩ hs, by simpa using I.len⟩ ⟨_, hs, .inl rfl⟩
    · exact (hs.2 b (Nat.ne_of_lt (Nat.lt_of_lt_of_le (Heap.lt_size e) I.ok.above))).trans (I.base.keep b o e n hb hx)
    · obtain ⟨sl, e1⟩ := I.base.slot b o e n hb hx
      exact ⟨sl, (hs.2 b (Nat.ne_of_lt (Nat.lt_of_lt_of_le (Heap.lt_size e) I.ok.above))).trans e1⟩
    · obtain ⟨o', e1⟩ := I.base.there b o e hx
      exact ⟨o', (hs.2 b (Nat.ne_of_lt (Nat.lt_of_lt_of_le (Heap.lt_size e) I.ok.above))).trans e1⟩
    · by_cases hj : j = i
      · subst hj
        rw [hi] at e1; cases e1
        rw [List.getElem?_set_self hiσ] at e2
        cases e2
        exact ⟨u, r, .inl ⟨hk, by simp⟩⟩
      · rw [List.getElem?_set_ne (Ne.symm hj)] at e2
        obtain ⟨u', r', q⟩ := hl j y v' e1 e2 e3
        refine ⟨u', r', ?_⟩
        rcases q with ⟨k, e⟩ | ⟨k, c, e, z⟩
        · refine .inl ⟨k, ?_⟩
          have : y ≠ x := fun e => hj (Hu hN e1 (e ▸ hi))
          simp [this, e]
        · exact .inr ⟨k, c, e, z.sameBut hs (cne y c e)⟩
    · obtain ⟨w', z⟩ := I.cell y c e
      exact ⟨w', z.sameBut hs (cne y c e)⟩
    · obtain ⟨e, n, ne, nf, d⟩ := I.pin p hp
      exact ⟨(hs.2 p.1 ne).trans e, n, ne, nf, d⟩
  · have hfn : X.fn x = true := by
      rcases hf with z | z
      · exact z
      · rw [z] at hk; cases hk
    obtain ⟨c, hc⟩ := I.ok.has x (.inl hk)
    obtain ⟨w', z⟩ := I.cell x c hc
    refine wpAny_storeName_cell I.ok.kind hk hc z (fun h' hc' hs => ?_)
    obtain ⟨oc, hoc, ahl⟩ := id z
    refine h { s with heap := h' } ⟨I.ok, I.os, I.bare, ⟨fun b o e n hb hx => ?_, fun b o e n hb hx => ?_, I.base.free, fun b o e hx => ?_, I.base.tups, I.base.Et, I.base.Gm⟩, ⟨m, hn.sameBut hs (Ne.symm (cne x c hc)), fun j y v' e1 e2 e3 => ?_⟩, fun y c' e => ?_, I.free, I.qj, fun p hp => ?_, tracked ⟨oc, hoc, I.qj x c hc⟩ hs, by simpa using I.len⟩ ⟨c, hs, .inr hc⟩
    · exact (hs.2 b (Nat.ne_of_lt (Nat.lt_of_lt_of_le (Heap.lt_size e) (I.ok.cab x c hfn hc)))).trans (I.base.keep b o e n hb hx)
    · obtain ⟨sl, e1⟩ := I.base.slot b o e n hb hx
      exact ⟨sl, (hs.2 b (Nat.ne_of_lt (Nat.lt_of_lt_of_le (Heap.lt_size e) (I.ok.cab x c hfn hc)))).trans e1⟩
    · obtain ⟨o', e1⟩ := I.base.there b o e hx
      exact ⟨o', (hs.2 b (Nat.ne_of_lt (Nat.lt_of_lt_of_le (Heap.lt_size e) (I.ok.cab x c hfn hc)))).trans e1⟩
    · by_cases hj : j = i
      · subst hj
        rw [hi] at e1; cases e1
        rw [List.getElem?_set_self hiσ] at e2
        cases e2
        exact ⟨u, r, .inr ⟨.inl hk, c, hc, hc'⟩⟩
      · rw [List.getElem?_set_ne (Ne.symm hj)] at e2
        obtain ⟨u', r', q⟩ := hl j y v' e1 e2 e3
        refine ⟨u', r', ?_⟩
        rcases q with q | ⟨k, c', e, z'⟩
        · exact .inl q
        · refine .inr ⟨k, c', e, z'.sameBut hs ?_⟩
          rintro rfl
          exact hj (Hu hN e1 (I.ok.inj _ _ _ e hc ▸ hi))
    · by_cases hcc : c' = c
      · subst hcc; exact ⟨_, hc'⟩
      · obtain ⟨w2, z2⟩ := I.cell y c' e
        exact ⟨w2, z2.sameBut hs hcc⟩
    · obtain ⟨e, n, ne, nf, d⟩ := I.pin p hp
      refine ⟨(hs.2 p.1 ?_).trans e, n, ne, nf, d⟩
      intro q
      rw [q, hoc] at e
      have q' : oc = p.2 := Option.some.inj e
      exact d w' (by rw [← q']; exact ahl)
theorem Gy {M : Model} {A : Around} {E : Value → Shared → Prop} {i : Nat} {x : Str} {v : V} {u : Value} {Q : Unit → Shared → Prop} (I : Inv X pins σ H s) (hN : X.N.Nodup) (hi : X.N[i]? = some x) (hx : Loc X.env.scope x) (r : RelV v u)
    (h : ∀ s', Inv X pins (σ.set i (some v)) H s' → Q () s') (hf : X.fn x = true ∨ X.env.scope.names.lookup x = some .local := by first | exact .inl rfl | exact .inr rfl | assumption) : wpAny M A (storeName X.env x u) Q E s :=
  Bc I hN hi hx r (fun s' I' _ => h s' I') hf
theorem Inv.call' {s' : Shared} {ch : List Addr} (I : Inv X pins σ H s) (ho : s'.os = s.os) (u : Un (frs X.stack) ch H H' s.heap s'.heap) (hok : uQ X.prog X.w H' s'.heap) (hg : AllBare s'.gens)
    (hch : ∀ b ∈ ch, (b ∈ X.ex ∨ X.s₀.heap.objs.size ≤ b) ∧ b ≠ X.env.locals ∧ (∀ x c, X.env.cells.lookup x = some c → c ≠ b) ∧ ∀ p ∈ X.pn ++ pins, p.1 ≠ b) : Inv X pins σ H' s' := by
  obtain ⟨h', g', d', t', o'⟩ := s'
  have e : o' = s.os := ho
  subst e
  exact I.call (g' := g') (t' := t') (d' := d') u hok hg hch
end
abbrev XK := Value → Option Addr → Hp → Prop
abbrev St := List (Option V)
abbrev VK := V → Hp → Prop
abbrev TE := St → Hp → VK → Prop
abbrev TT := St → Hp → (Bool → Hp → Prop) → Prop
abbrev TA := St → Hp → (List V → Hp → Prop) → Prop
structure Ends where
  nx : St → Hp → Prop
  rt : VK
  bk : St → Hp → Prop := fun _ _ => False
  ct : St → Hp → Prop := fun _ _ => False
abbrev TS := Ends → St → Hp → Prop
def EP (X : Cx) (pins : List (Addr × Obj)) (σ : St) (Q : VK) (u : Value) (s' : Shared) : Prop := ∃ v H', Inv X pins σ H' s' ∧ RelV v u ∧ Q v H'
def TP (X : Cx) (pins : List (Addr × Obj)) (σ : St) (Q : Bool → Hp → Prop) (b : Bool) (s' : Shared) : Prop := ∃ H', Inv X pins σ H' s' ∧ Q b H'
def AP (X : Cx) (pins : List (Addr × Obj)) (σ : St) (Q : List V → Hp → Prop) (us : List Value) (s' : Shared) : Prop := ∃ vs H', Inv X pins σ H' s' ∧ Vals vs us ∧ Q vs H'
def SP (X : Cx) (pins : List (Addr × Obj)) (D : Ends) (f : Flow) (s' : Shared) : Prop :=
  match f with
  | .next => ∃ σ' H', Inv X pins σ' H' s' ∧ D.nx σ' H'
  | .brk => ∃ σ' H', Inv X pins σ' H' s' ∧ D.bk σ' H'
  | .cont => ∃ σ' H', Inv X pins σ' H' s' ∧ D.ct σ' H'
  | .ret u => ∃ v σ' H', Inv X pins σ' H' s' ∧ RelV v u ∧ D.rt v H'
def PE (X : Cx) (e : Expr) (t : TE) : Prop :=
  ∀ (pins : List (Addr × Obj)) (s : Shared) (σ : St) (H : Hp) (Q : VK), Inv X pins σ H s → t σ H Q → wpAny (model X.prog X.w) X.A (eval e X.env) (EP X pins σ Q) X.xe s
def PT (X : Cx) (e : Expr) (t : TT) : Prop :=
  ∀ (pins : List (Addr × Obj)) (s : Shared) (σ : St) (H : Hp) (Q : Bool → Hp → Prop), Inv X pins σ H s → t σ H Q → wpAny (model X.prog X.w) X.A (isTrue e X.env (eval e X.env)) (TP X pins σ Q) X.xe s
def PW (X : Cx) (e : Expr) (t : TT) : Prop :=
  ∀ (whole : Sem Value) (pins : List (Addr × Obj)) (s : Shared) (σ : St) (H : Hp) (Q : Bool → Hp → Prop), Inv X pins σ H s → t σ H Q → wpAny (model X.prog X.w) X.A (isTrue e X.env whole) (TP X pins σ Q) X.xe s
theorem PW.pt {X : Cx} {e : Expr} {t : TT} (h : PW X e t) : PT X e t := h _
def PA (X : Cx) (es : List Expr) (t : TA) : Prop :=
  ∀ (pos : Pos) (pins : List (Addr × Obj)) (s : Shared) (σ : St) (H : Hp) (Q : List V → Hp → Prop), Inv X pins σ H s → t σ H Q → wpAny (model X.prog X.w) X.A (spliced (backTo pos (starEach es X.env))) (AP X pins σ Q) X.xe s
def PS (X : Cx) (st : Stmt) (t : TS) : Prop :=
  ∀ (pins : List (Addr × Obj)) (s : Shared) (σ : St) (H : Hp) (D : Ends), Inv X pins σ H s → t D σ H → wpAny (model X.prog X.w) X.A (exec st X.env) (SP X pins D) X.xe s
def JD (X : Cx) (st : List Stmt) (t : TS) : Prop :=
  ∀ (pins : List (Addr × Obj)) (s : Shared) (σ : St) (H : Hp) (D : Ends), Inv X pins σ H s → t D σ H → wpAny (model X.prog X.w) X.A (execs st X.env) (SP X pins D) X.xe s
theorem il {α : Type} {t : Sem α} {Q Q' : α → Shared → Prop} {M : Model} {A : Around} {E : Value → Shared → Prop} {s : Shared} (h : wpAny M A t Q E s) (hQ : ∀ a s, Q a s → Q' a s) : wpAny M A t Q' E s := wpAny_mono h hQ fun _ _ x => x
end L2
namespace L2
open PySem PySem.Spec PyProof.Rows
section
variable {X : Cx}
def adX (i : Nat) : TE := fun σ H Q => ∃ v, σ[i]? = some (some v) ∧ Q v H
def tC (v : V) : TE := fun _ H Q => Q v H
theorem lu {i : Nat} {x : Str} {pos : Pos} (hN : X.N[i]? = some x) (hv : rO X.env.scope x) (hd : (x == ("__debug__" : Str)) = false := by decide) (hcd : (x == ("__classdict__" : Str)) = false := by decide) : PE X (.Name x pos) (adX i) := by
  intro pins s σ H Q I h
  obtain ⟨v, e, h⟩ := h
  obtain ⟨m, hn, hl⟩ := I.loc
  obtain ⟨u, r, l⟩ := hl i x v hN e hv
  have fin : EP X pins σ Q u s := ⟨v, H, I, r, h⟩
  rcases l with ⟨hk, hm⟩ | ⟨hk, c, hc, hcell⟩
  · exact wpAny_Name (wpAny_loadName_local I.ok.kind hk hn hm fin) hd
  · rcases hk with hk | hk
    · exact wpAny_Name (wpAny_loadName_cell I.ok.kind hk hc hcell fin) hd
    · exact wpAny_Name (wpAny_loadName_free I.ok.kind hk hc hcell fin hcd) hd
theorem aaR {i j pos} : PE X (.Constant (.int i) j pos) (tC (.int i)) := fun _ _ _ H _ I h => wpAny_Constant_int ⟨.int i, H, I.tok _, ⟨_, rfl⟩, h⟩
theorem aeC {b j pos} : PE X (.Constant (.bool b) j pos) (tC (.bl b)) := fun _ _ _ H _ I h => Constant_bool ⟨.bl b, H, I, rfl, h⟩
theorem aaP {j pos} : PE X (.Constant .none j pos) (tC .non) := fun _ _ _ H _ I h => Constant_none ⟨.non, H, I, rfl, h⟩
theorem aaN {x j pos} : PE X (.Constant (.str x) j pos) (tC (.str x)) := fun _ _ _ H _ I h => Calls.Constant_str ⟨.str x, H, I.tok _, ⟨_, rfl⟩, h⟩
def Gl (X : Cx) (x : Str) : Prop := X.env.kindOf x = some .globalImplicit
theorem Nb {E : Value → Shared → Prop} {pins : List (Addr × Obj)} {s : Shared} {σ : St} {H : Hp} {x : Str} {u : Value} {pos : Pos} {Q : Value → Shared → Prop} (I : Inv X pins σ H s) (hg : Gl X x) (hm : X.mg x = some u) (h : Q u s)
    (hd : (x == ("__debug__" : Str)) = false := by decide) : wpAny (model X.prog X.w) X.A (eval (.Name x pos) X.env) Q E s :=
  Calls.Name_function_global I.ok.kind hg (Calls.loadGlobal_global (by rw [I.ok.glob]; exact I.mod.glob.keeps I.bk) hm h) hd
theorem yI {E : Value → Shared → Prop} {pins : List (Addr × Obj)} {s : Shared} {σ : St} {H : Hp} {x : Str} {u : Value} {pos : Pos} {Q : Value → Shared → Prop} (I : Inv X pins σ H s) (hg : Gl X x) (hm : X.mg x = none) (hv : bootBuiltins x = some u) (h : Q u s)
    (hn : x ≠ "__name__" := by decide) (hd : (x == ("__debug__" : Str)) = false := by decide) : wpAny (model X.prog X.w) X.A (eval (.Name x pos) X.env) Q E s := by
  obtain ⟨mb, h1, h2⟩ := I.mod.blt
  exact Calls.Name_function_global I.ok.kind hg (Calls.loadGlobal_builtin (by rw [I.ok.glob]; exact I.mod.glob.keeps I.bk) hm (by rw [I.ok.blt]; exact h1.keeps I.bk) ((h2 x hn).trans hv) h) hd
theorem WX {x : Str} {v : V} {u : Value} {pos : Pos} (hg : Gl X x) (hm : X.mg x = some u) (r : RelV v u) (hd : (x == ("__debug__" : Str)) = false := by decide) : PE X (.Name x pos) (tC v) :=
  fun _ _ _ H _ I h => Nb I hg hm ⟨v, H, I, r, h⟩ hd
theorem W0 {x : Str} {v : V} {u : Value} {pos : Pos} (hg : Gl X x) (hm : X.mg x = none) (hv : bootBuiltins x = some u) (r : RelV v u) (hn : x ≠ "__name__" := by decide) (hd : (x == ("__debug__" : Str)) = false := by decide) : PE X (.Name x pos) (tC v) :=
  fun _ _ _ H _ I h => yI I hg hm hv ⟨v, H, I, r, h⟩ hn hd
variable {a b : Expr} {ta tb : TE} {pos : Pos}
def tB (t : TE) : TT := fun σ H Q => t σ H fun x H1 => ∃ c, x = .bl c ∧ Q c H1
theorem aaD {e : Expr} {t : TE} (h : PE X e t) (he : ∀ whole, isTrue e X.env whole = (do let v ← whole; standAt e.pos; holding [v] (truthy v)) := by intro _; rfl) : PT X e (tB t) := by
  intro pins s σ H Q I hw
  refine isTrue_plain (il (h pins s σ H _ I hw) fun v s1 ⟨x, H1, I1, r1, q1⟩ => ?_) (he _)
  obtain ⟨d, rfl, q⟩ := q1
  cases r1
  exact wpAny_truthy_bool ⟨H1, I1, q⟩
variable {tA tB' : TT} {rest : List Expr}
def agP (t u : TT) : TT := fun σ H Q => t σ H fun c H1 => if c = true then u σ H1 Q else Q false H1
def tOr (t u : TT) : TT := fun σ H Q => t σ H fun c H1 => if c = true then Q true H1 else u σ H1 Q
def agI (t : TT) : TT := fun σ H Q => t σ H fun c H1 => Q (!c) H1
theorem pw_and1 (ha : PT X a tA) : PW X (.BoolOp .And [a] pos) tA := by
  intro wh pins s σ H Q I h
  refine isTrue_and (il (ha pins s σ H Q I h) fun c s1 e => ?_)
  cases c with
  | true => exact isTrue_and_nil e
  | false => exact e
theorem pw_or1 (ha : PT X a tA) : PW X (.BoolOp .Or [a] pos) tA := by
  intro wh pins s σ H Q I h
  refine isTrue_or (il (ha pins s σ H Q I h) fun c s1 e => ?_)
  cases c with
  | false => exact isTrue_or_nil e
  | true => exact e
theorem pw_and (ha : PT X a tA) (hb : PW X (.BoolOp .And (b :: rest) pos) tB') : PW X (.BoolOp .And (a :: b :: rest) pos) (agP tA tB') := by
  intro wh pins s σ H Q I h
  refine isTrue_and (il (ha pins s σ H _ I h) fun c s1 ⟨H1, I1, q1⟩ => ?_)
  cases c with
  | true => exact hb wh pins s1 σ H1 Q I1 q1
  | false => exact ⟨H1, I1, q1⟩
theorem pw_or (ha : PT X a tA) (hb : PW X (.BoolOp .Or (b :: rest) pos) tB') : PW X (.BoolOp .Or (a :: b :: rest) pos) (tOr tA tB') := by
  intro wh pins s σ H Q I h
  refine isTrue_or (il (ha pins s σ H _ I h) fun c s1 ⟨H1, I1, q1⟩ => ?_)
  cases c with
  | true => exact ⟨H1, I1, q1⟩
  | false => exact hb wh pins s1 σ H1 Q I1 q1
theorem aaE (ha : PT X a tA) : PT X (.UnaryOp .Not a pos) (agI tA) := by
  intro pins s σ H Q I h
  exact isTrue_not (ha pins s σ H (fun c H1 => Q (!c) H1) I h)
def ad5 (ta tb : TE) : TE := fun σ H Q => ta σ H fun x H1 => ∃ c, x = .bl c ∧ if c = true then tb σ H1 Q else Q (.bl false) H1
def agH (ta tb : TE) : TE := fun σ H Q => ta σ H fun x H1 => ∃ c, x = .bl c ∧ if c = true then Q (.bl true) H1 else tb σ H1 Q
theorem aaO {op} {t : TE} (h : PE X a t) : PE X (.BoolOp op [a] pos) t := fun pins s σ H Q I hw => BoolOp_one (h pins s σ H Q I hw)
theorem aaS (ha : PE X a ta) (hb : PE X (.BoolOp .And (b :: rest) pos) tb) : PE X (.BoolOp .And (a :: b :: rest) pos) (ad5 ta tb) := by
  intro pins s σ H Q I h
  refine BoolOp_and (il (ha pins s σ H _ I h) fun v s1 ⟨x, H1, I1, r1, q1⟩ => ?_)
  obtain ⟨c, rfl, q1⟩ := q1
  cases r1
  refine wpAny_truthy_bool ?_
  cases c with
  | true => exact hb pins s1 σ H1 Q I1 q1
  | false => exact ⟨.bl false, H1, I1, rfl, q1⟩
theorem aeA (ha : PE X a ta) (hb : PE X (.BoolOp .Or (b :: rest) pos) tb) : PE X (.BoolOp .Or (a :: b :: rest) pos) (agH ta tb) := by
  intro pins s σ H Q I h
  refine BoolOp_or (il (ha pins s σ H _ I h) fun v s1 ⟨x, H1, I1, r1, q1⟩ => ?_)
  obtain ⟨c, rfl, q1⟩ := q1
  cases r1
  refine wpAny_truthy_bool ?_
  cases c with
  | false => exact hb pins s1 σ H1 Q I1 q1
  | true => exact ⟨.bl true, H1, I1, rfl, q1⟩
end
end L2
namespace L2
open PySem PySem.Spec PyProof.Rows
def lN (K : PySem.W.Frag) (H : Hp) (a : Addr) (xs : List V) : Prop :=
  Rd H a (.lst xs) ∨
    ∃ (o : Obj) (its : Array Value) (n : Nat), K.lookup a = some o ∧ o.cls = .type "list" ∧ o.dict = none ∧ o.data = .seq its n ∧ its.size ≤ sizeLine ∧ Vals xs its.toList
def nO (K : PySem.W.Frag) (H : Hp) (a : Addr) (xs : List V) : Prop :=
  Rd H a (.tup xs) ∨
    ∃ (o : Obj) (its : Array Value) (n : Nat), K.lookup a = some o ∧ o.cls = .type "tuple" ∧ o.dict = none ∧ o.data = .seq its n ∧ its.size ≤ sizeLine ∧ Vals xs its.toList
def ahK : Value → Option V
  | .none => some .non
  | .bool b => some (.bl b)
  | .int i _ => some (.int i)
  | .str x _ => some (.str x)
  | .bytes b _ => some (.byt b)
  | .float b _ => some (.flt b)
  | .ref a => some (.ref a)
  | .type n => some (.ty n)
  | _ => none
theorem RelV.abs {x : V} {u : Value} (r : RelV x u) : ahK u = some x := by
  cases x with
  | non => cases r; rfl
  | bl _ => cases r; rfl
  | int _ => obtain ⟨t, rfl⟩ := r; rfl
  | str _ => obtain ⟨t, rfl⟩ := r; rfl
  | byt _ => obtain ⟨t, rfl⟩ := r; rfl
  | flt _ => obtain ⟨t, rfl⟩ := r; rfl
  | ref _ => cases r; rfl
  | ty _ => cases r; rfl
theorem RelV.inj {x y : V} {u : Value} (r : RelV x u) (q : RelV y u) : x = y := Option.some.inj (r.abs.symm.trans q.abs)
theorem Vals.inj : ∀ {xs ys : List V} {us : List Value}, Vals xs us → Vals ys us → xs = ys
  | _, _, _, .nil, .nil => rfl
  | _, _, _, .cons r t, .cons r' t' => by rw [r.inj r', Vals.inj t t']
section
variable {X : Cx} {pins : List (Addr × Obj)} {σ : St} {H : Hp} {s : Shared} {a : Addr} {xs ys : List V}
theorem lN.of {K : PySem.W.Frag} (h : H a = some (.lst xs)) : lN K H a xs := .inl (.inl h)
theorem nO.of {K : PySem.W.Frag} (h : H a = some (.tup xs)) : nO K H a xs := .inl (.inl h)
theorem Inv.list (I : Inv X pins σ H s) (h : lN X.K H a xs) : ∃ its : List Value, Vals xs its ∧ PlainL s.heap a its.toArray ∧ xs.length ≤ sizeLine := by
  rcases h with h | ⟨o, its, n, hk, hc, hd, hs, hz, r⟩
  · obtain ⟨z, its, n, r, e⟩ := h.ok I.hok
    exact ⟨its, r, ⟨_, n, e, rfl, rfl, rfl⟩, z⟩
  · refine ⟨its.toList, r, ⟨o, n, I.kIn a o hk, hc, hd, by simpa using hs⟩, ?_⟩
    have e := r.length
    simp only [Array.length_toList] at e
    omega
theorem Inv.tuple (I : Inv X pins σ H s) (h : nO X.K H a xs) : ∃ its : List Value, Vals xs its ∧ IsTup s.heap a its.toArray ∧ xs.length ≤ sizeLine := by
  rcases h with h | ⟨o, its, n, hk, hc, hdn, hs, hz, r⟩
  · obtain ⟨z, its, r, p⟩ := h.ok I.hok
    exact ⟨its, r, p.is, z⟩
  · refine ⟨its.toList, r, ⟨o, I.kIn a o hk, hc, n, by simpa using hs⟩, ?_⟩
    have e := r.length
    simp only [Array.length_toList] at e
    omega
theorem Inv.Sw (I : Inv X pins σ H s) (h : lN X.K H a xs) (h' : lN X.K H a ys) : xs = ys := by
  obtain ⟨its, r, ⟨o, n, e, _, _, d⟩, _⟩ := I.list h
  obtain ⟨its', r', ⟨o', n', e', _, _, d'⟩, _⟩ := I.list h'
  rw [e] at e'; cases e'
  rw [d] at d'
  injection d' with d1 _
  have : its = its' := by simpa using congrArg Array.toList d1
  subst this
  exact r.inj r'
theorem Inv.Oh (I : Inv X pins σ H s) (h : nO X.K H a xs) (h' : nO X.K H a ys) : xs = ys := by
  obtain ⟨its, r, ⟨o, e, _, n, d⟩, _⟩ := I.tuple h
  obtain ⟨its', r', ⟨o', e', _, n', d'⟩, _⟩ := I.tuple h'
  rw [e] at e'; cases e'
  rw [d] at d'
  injection d' with d1 _
  have : its = its' := by simpa using congrArg Array.toList d1
  subst this
  exact r.inj r'
end
abbrev Cx.wish (X : Cx) (E : Value → Shared → Prop) : Cx := { X with xe := E }
abbrev Cx.nox (X : Cx) : Cx := X.wish fun _ _ => False
theorem Cx.Ok.wish {X : Cx} (ok : X.Ok) (E : Value → Shared → Prop) : (X.wish E).Ok :=
  ⟨ok.mod, ok.kind, ok.glob, ok.blt, ok.above, ok.inj, ok.has, ok.cab, ok.hd, ok.frames, ok.VB, ok.exf, ok.bs, ok.ZK, ok.Ss, ok.Ur, ok.yS, ok.frf⟩
theorem Cx.Ok.pB {X : Cx} {E : Value → Shared → Prop} (ok : (X.wish E).Ok) : X.Ok :=
  ⟨ok.mod, ok.kind, ok.glob, ok.blt, ok.above, ok.inj, ok.has, ok.cab, ok.hd, ok.frames, ok.VB, ok.exf, ok.bs, ok.ZK, ok.Ss, ok.Ur, ok.yS, ok.frf⟩
section
variable {X : Cx} {pins : List (Addr × Obj)} {σ : St} {H : Hp} {s : Shared} {E : Value → Shared → Prop}
theorem Inv.wish (I : Inv X pins σ H s) (E : Value → Shared → Prop) : Inv (X.wish E) pins σ H s := ⟨I.ok.wish E, I.os, I.bare, I.base, I.loc, I.cell, I.free, I.qj, I.pin, I.hok, I.len⟩
theorem Inv.pB (I : Inv (X.wish E) pins σ H s) : Inv X pins σ H s := ⟨I.ok.pB, I.os, I.bare, I.base, I.loc, I.cell, I.free, I.qj, I.pin, I.hok, I.len⟩
theorem SP.pB {D : Ends} {f : Flow} {s' : Shared} (h : SP (X.wish E) pins D f s') : SP X pins D f s' := by
  cases f with
  | next => obtain ⟨σ', H', I, q⟩ := h; exact ⟨σ', H', I.pB, q⟩
  | brk => obtain ⟨σ', H', I, q⟩ := h; exact ⟨σ', H', I.pB, q⟩
  | cont => obtain ⟨σ', H', I, q⟩ := h; exact ⟨σ', H', I.pB, q⟩
  | ret u => obtain ⟨v, σ', H', I, r, q⟩ := h; exact ⟨v, σ', H', I.pB, r, q⟩
theorem JD.nox {st : List Stmt} {t : TS} (h : JD X.nox st t) : JD X st t := fun pins s σ H D I hw =>
  wpAny_mono (h pins s σ H D (I.wish _) hw) (fun _ _ q => q.pB) fun _ _ z => False.elim z
end
section
variable {X : Cx} {st : Stmt} {rest : List Stmt} {t u : TS} {e : Expr} {te : TE} {pos : Pos}
def ad0 : TS := fun D σ H => D.nx σ H
def agE (t u : TS) : TS := fun D σ H => t { D with nx := u D } σ H
theorem WD : JD X [] ad0 := fun _ _ σ H _ I h => wpAny_execs_nil ⟨σ, H, I, h⟩
theorem RJ (h1 : PS X st t) (h2 : JD X rest u) : JD X (st :: rest) (agE t u) := by
  intro pins s σ H D I h
  refine wpAny_execs_cons (il (h1 pins s σ H { D with nx := u D } I h) fun f s1 q => ?_)
  cases f with
  | next =>
    obtain ⟨σ', H', I', q⟩ := q
    exact h2 pins s1 σ' H' D I' q
  | ret v => exact q
  | brk => exact q
  | cont => exact q
theorem Wz (h1 : PS X st t) : JD X [st] t := by
  intro pins s σ H D I h
  refine wpAny_execs_cons (il (h1 pins s σ H D I h) fun f s1 q => ?_)
  cases f with
  | next => exact wpAny_execs_nil q
  | ret v => exact q
  | brk => exact q
  | cont => exact q
theorem Inv.quiet {pins : List (Addr × Obj)} {σ : St} {H : Hp} {s : Shared} (I : Inv X pins σ H s) : interactive X.env = false := by simp [interactive, I.ok.kind]
def ad1 (te : TE) : TS := fun D σ H => te σ H fun _ H1 => D.nx σ H1
theorem WK (he : PE X e te) (hs : swapsWith e none pos.line X.env = pure false := by rfl) : PS X (.Expr e pos) (ad1 te) := by
  intro pins s σ H D I h
  exact wpAny_Expr_any (il (he pins s σ H _ I h) fun v s1 ⟨x, H1, I1, r1, q1⟩ => ⟨σ, H1, I1, q1⟩) I.quiet hs
def agF (te : TE) : TS := fun D σ H => te σ H D.rt
theorem RM (he : PE X e te) : PS X (.Return (some e) pos) (agF te) := by
  intro pins s σ H D I h
  exact wpAny_Return_some (il (he pins s σ H _ I h) fun v s1 ⟨x, H1, I1, r1, q1⟩ => ⟨x, σ, H1, I1, r1, q1⟩)
def agM (c : TT) (t u : TS) : TS := fun D σ H => c σ H fun b H1 => if b = true then t D σ H1 else u D σ H1
theorem aez {c : Expr} {a b : List Stmt} {tc : TT} (hc : PT X c tc) (ha : JD X a t) (hb : JD X b u) : PS X (.If c a b pos) (agM tc t u) := by
  intro pins s σ H D I h
  refine wpAny_If (il (hc pins s σ H _ I h) fun d s1 ⟨H1, I1, q1⟩ => ?_)
  cases d with
  | true => exact ha pins s1 σ H1 D I1 q1
  | false => exact hb pins s1 σ H1 D I1 q1
end
abbrev TG := V → St → Hp → (St → Hp → Prop) → Prop
abbrev YS := List V → St → Hp → (St → Hp → Prop) → Prop
def PG (X : Cx) (target : Expr) (t : TG) : Prop :=
  ∀ (pins : List (Addr × Obj)) (s : Shared) (σ : St) (H : Hp) (v : V) (u : Value) (Q : St → Hp → Prop), Inv X pins σ H s → RelV v u → t v σ H Q →
    wpAny (model X.prog X.w) X.A (assign target X.env u) (fun _ s' => ∃ σ' H', Inv X pins σ' H' s' ∧ Q σ' H') X.xe s
def Z5 (X : Cx) (ts : List Expr) (t : YS) : Prop :=
  ∀ (pins : List (Addr × Obj)) (s : Shared) (σ : St) (H : Hp) (vs : List V) (us : List Value) (Q : St → Hp → Prop), Inv X pins σ H s → Vals vs us → t vs σ H Q →
    wpAny (model X.prog X.w) X.A (assignInOrder ((assignEach ts X.env).map (·.2)) us) (fun _ s' => ∃ σ' H', Inv X pins σ' H' s' ∧ Q σ' H') X.xe s
abbrev oY := V → V → V → Hp → (Hp → Prop) → Prop
def agb (X : Cx) (t : oY) : Prop :=
  ∀ (pins : List (Addr × Obj)) (s : Shared) (σ : St) (H : Hp) (o i v : V) (ov iv u : Value) (Q : Hp → Prop), Inv X pins σ H s → RelV o ov → RelV i iv → RelV v u → t o i v H Q →
    wpAny (model X.prog X.w) X.A (setItem ov iv u) (fun _ s' => ∃ H', Inv X pins σ H' s' ∧ Q H') X.xe s
section
variable {X : Cx} {pos : Pos}
def Ii (i : Nat) : TG := fun v σ H Q => Q (σ.set i (some v)) H
theorem WW {i : Nat} {x : Str} (hN : X.N.Nodup) (hi : X.N[i]? = some x) (hx : Loc X.env.scope x) (hf : X.fn x = true ∨ X.env.scope.names.lookup x = some .local := by first | exact .inl rfl | exact .inr rfl | assumption) : PG X (.Name x pos) (Ii i) := by
  intro pins s σ H v u Q I r h
  exact wpAny_assign_Name (Gy I hN hi hx r (fun s' I' => ⟨_, H, I', h⟩) hf)
def ahu : YS := fun vs σ H Q => vs = [] ∧ Q σ H
def afV (t : TG) (u : YS) : YS := fun vs σ H Q => ∃ v r, vs = v :: r ∧ t v σ H fun σ' H' => u r σ' H' Q
theorem WT : Z5 X [] ahu := by
  intro pins s σ H vs us Q I r h
  obtain ⟨e, h⟩ := h
  subst e
  cases r
  exact assignInOrder_nil ⟨σ, H, I, h⟩
theorem R0 {e : Expr} {es : List Expr} {t : TG} {u : YS} (h1 : PG X e t) (h2 : Z5 X es u)
    (hs : (assignEach (e :: es) X.env).map (·.2) = assign e X.env :: (assignEach es X.env).map (·.2) := by rfl) : Z5 X (e :: es) (afV t u) := by
  intro pins s σ H vs us Q I r h
  obtain ⟨v, vr, e1, h⟩ := h
  subst e1
  cases r with
  | cons r rr =>
    rw [hs]
    refine assignInOrder_cons (il (h1 pins s σ H _ _ _ I r h) fun _ s1 ⟨σ1, H1, I1, q1⟩ => ?_)
    exact h2 pins s1 σ1 H1 _ _ Q I1 rr q1
def aht (K : PySem.W.Frag) (n : Nat) (t : YS) : TG := fun v σ H Q => ∃ a xs, v = .ref a ∧ nO K H a xs ∧ xs.length = n ∧ t xs σ H Q
theorem aaK {es : List Expr} {k : Nat} {t : YS} {n : Nat} (hc : X.calm = true) (h : Z5 X es t)
    (hn : (assignEach es X.env).length = n := by rfl) (hst : (assignEach es X.env).findIdx? (·.1) = none := by rfl) : PG X (.Tuple es k pos) (aht X.K n t) := by
  intro pins s σ H v u Q I r hw
  obtain ⟨a, xs, e1, hq, hl, hw⟩ := hw
  subst e1
  cases r
  obtain ⟨its, rv, ht, hz⟩ := I.tuple hq
  refine assign_Tuple_tuple (I.ok.hd hc) ht (by simp [hn, ← hl, rv.length]) hst fun h' hx => ?_
  have I1 : Inv X pins σ H { s with heap := h' } := I.kept (t' := s.toks) fun b o e => hx b o (Nat.ne_of_lt (Heap.lt_size e)) e
  exact h pins _ σ H xs _ Q I1 (by simpa using rv) hw
def El (to ti : TE) (t : oY) : TG := fun v σ H Q => to σ H fun o H1 => ti σ H1 fun i H2 => t o i v H2 fun H3 => Q σ H3
theorem aaL {o i : Expr} {to ti : TE} {t : oY} (ho : PE X o to) (hi : PE X i ti) (hs : agb X t)
    (ha : ∀ v, assign (.Subscript o i pos) X.env v = (do
      let ov ← holding [v] (eval o X.env)
      let iv ← holding [v, ov] (eval i X.env)
      standAt pos
      holding [v, ov, iv] (setItem ov iv v)
      release [v, ov, iv] []) := by intro _; rfl) : PG X (.Subscript o i pos) (El to ti t) := by
  intro pins s σ H v u Q I r h
  rw [ha]
  refine wpAny_bind (wpAny_holding (il (ho pins s σ H _ I h) fun ov s1 ⟨x, H1, I1, r1, q1⟩ => ?_))
  refine wpAny_bind (wpAny_holding (il (hi pins s1 σ H1 _ I1 q1) fun iv s2 ⟨y, H2, I2, r2, q2⟩ => ?_))
  refine wpAny_bind (wpAny_standAt (wpAny_bind (wpAny_holding (il (hs pins s2 σ H2 x y v ov iv u _ I2 r1 r2 r q2) fun _ s3 ⟨H3, I3, q3⟩ => ?_))))
  exact wpAny_release ⟨σ, H3, I3, q3⟩
def V3 (te : TE) (g : TG) : TS := fun D σ H => te σ H fun x H1 => g x σ H1 D.nx
theorem aaG {tg e : Expr} {te : TE} {g : TG} (he : PE X e te) (hg : PG X tg g) (hs : swapsWithSole [tg] e pos.line X.env = pure false := by rfl) (hw : swappedStores [tg] e X.env = pure none := by rfl)
    (h1 : (assignEach [tg] X.env).map (·.2) = [assign tg X.env] := by rfl) : PS X (.Assign [tg] e pos) (V3 te g) := by
  intro pins s σ H D I h
  refine wpAny_Assign_stores (il (he pins s σ H _ I h) fun v s1 ⟨x, H1, I1, r1, q1⟩ => ?_) hs hw
  rw [h1]
  exact il (hg pins s1 σ H1 x v _ I1 r1 q1) fun _ s2 q => q
theorem RL {i : Nat} {x : Str} {e : Expr} {te : TE} {pos' : Pos} (hN : X.N.Nodup) (hi : X.N[i]? = some x) (hx : Loc X.env.scope x) (he : PE X e te) (hs : swapsWith e (some (.Name x pos')) pos.line X.env = pure false := by rfl) (hf : X.fn x = true ∨ X.env.scope.names.lookup x = some .local := by first | exact .inl rfl | exact .inr rfl | assumption) :
    PS X (.Assign [.Name x pos'] e pos) (V3 te (Ii i)) := by
  intro pins s σ H D I h
  refine wpAny_Assign_Name (il (he pins s σ H _ I h) fun v s1 ⟨y, H1, I1, r1, q1⟩ => ?_) hs
  exact Gy I1 hN hi hx r1 (fun s2 I2 => ⟨_, H1, I2, q1⟩) hf
end
structure It where
  go : Nat → Hp → Prop
  yld : Nat → Hp → V → Hp → Prop
  stop : Nat → Hp → Prop
def zT (X : Cx) (pins : List (Addr × Obj)) (H : Hp) (b : Addr) : Prop :=
  H b = none ∧ b ≠ X.env.locals ∧ b ∉ X.fs ∧ (b ∈ X.ex ∨ X.s₀.heap.objs.size ≤ b) ∧ (∀ x c, X.env.cells.lookup x = some c → c ≠ b) ∧ ∀ p ∈ X.pn ++ pins, p.1 ≠ b
theorem Inv.ac3 {X : Cx} {pins : List (Addr × Obj)} {σ : St} {H H' : Hp} {s : Shared} {b : Addr} (I : Inv X pins σ H s) (hb : s.heap.objs.size ≤ b) (hn : H' b = none) : zT X pins H' b := by
  refine ⟨hn, Nat.ne_of_gt (Nat.lt_of_lt_of_le I.lt hb), I.agY hb, .inr (Nat.le_trans I.sz hb), fun x c e z => ?_, fun p hp z => ?_⟩
  · obtain ⟨v, q⟩ := I.cell x c e
    exact absurd (Nat.lt_of_lt_of_le q.lt (by rw [z]; exact hb)) (Nat.lt_irrefl _)
  · exact absurd (Nat.lt_of_lt_of_le (Heap.lt_size (I.pin p hp).1) (by rw [z]; exact hb)) (Nat.lt_irrefl _)
structure Turn (P : Program) (w : World) (K : PySem.W.Frag) (tg : Expr) (J : It) (fp : List Addr) (it : Addr) (tn : Nat → Heap → Prop) : Prop where
  mem : it ∈ fp
  obj : ∀ i h, tn i h → ∀ b ∈ fp, ∃ o, h.get? b = some o ∧ ∀ v, o.data ≠ .cell v
  keep : ∀ i h h', tn i h → (∀ b ∈ fp, ∀ o, h.get? b = some o → h'.get? b = some o) → tn i h'
  item : ∀ (X : Cx), X.prog = P → X.w = w → X.K = K → X.calm = true → ∀ (i : Nat) (pins : List (Addr × Obj)) (s : Shared) (σ : St) (H : Hp) (E : Value → Shared → Prop), Inv X pins σ H s → (∀ b ∈ fp, zT X pins H b) → tn i s.heap → J.go i H →
    wpAny (model P w) X.A (pyNext (.ref it)) (fun r s1 => ∃ u, r = some u ∧
      wpAny (model P w) X.A (letOwnedTupleGo tg (.ref it) u) (fun _ s2 => ∃ x H', Inv X pins σ H' s2 ∧ RelV x u ∧ J.yld i H x H' ∧ tn (i + 1) s2.heap ∧ ∀ b ∈ fp, H' b = none) E s1) E s
  done : ∀ (X : Cx), X.prog = P → X.w = w → X.K = K → X.calm = true → ∀ (i : Nat) (pins : List (Addr × Obj)) (s : Shared) (σ : St) (H : Hp) (E : Value → Shared → Prop), Inv X pins σ H s → (∀ b ∈ fp, zT X pins H b) → tn i s.heap → J.stop i H →
    wpAny (model P w) X.A (pyNext (.ref it)) (fun r s1 => r = none ∧ Inv X pins σ H s1) E s
  self : ∀ (A : Around) (i : Nat) (s : Shared) (Q : Value → Shared → Prop) (E : Value → Shared → Prop), tn i s.heap → Q (.ref it) s → wpAny (model P w) A (pyIter (.ref it)) Q E s
abbrev TI := St → Hp → (It → Hp → Prop) → Prop
def PIE (X : Cx) (pins : List (Addr × Obj)) (σ : St) (tg : Expr) (R : It → Hp → Prop) (itv : Value) (s2 : Shared) : Prop :=
  ∃ (it : Addr) (fp : List Addr) (tn : Nat → Heap → Prop) (J : It) (H' : Hp), itv = .ref it ∧ Inv X pins σ H' s2 ∧ Turn X.prog X.w X.K tg J fp it tn ∧ tn 0 s2.heap ∧ (∀ b ∈ fp, zT X pins H' b) ∧ R J H'
def PI (X : Cx) (tg iter : Expr) (wi : TI) : Prop :=
  ∀ (pins : List (Addr × Obj)) (s : Shared) (σ : St) (H : Hp) (R : It → Hp → Prop), Inv X pins σ H s → wi σ H R →
    wpAny (model X.prog X.w) X.A (eval iter X.env) (fun v s1 => wpAny (model X.prog X.w) X.A (pyIter v) (PIE X pins σ tg R) X.xe s1) X.xe s
theorem Bu {M : Model} {A : Around} {E : Value → Shared → Prop} {s : Shared} {tg : Expr} {it : Addr} {u : Value} {o : Obj} {n : String} {vs : Array Value} {Q : Unit → Shared → Prop} (ho : s.heap.get? it = some o) (hc : o.cls = .type n) (hd : o.data = .fields vs)
    (hn : ["enumerate", "zip", "dict_itemiterator", "dict_reverseitemiterator", "odict_iterator", "itertools.zip_longest", "itertools.pairwise"].contains n = false) (hQ : Q () s) : wpAny M A (letOwnedTupleGo tg (.ref it) u) Q E s := by
  unfold letOwnedTupleGo
  cases tg <;> first
    | exact wpAny_pure hQ
    | (cases u <;> first
        | exact wpAny_pure hQ
        | (refine wpAny_bind (wpAny_load ho ?_)
           rw [hc, hd]
           show wpAny M A (if (["enumerate", "zip", "dict_itemiterator", "dict_reverseitemiterator", "odict_iterator", "itertools.zip_longest", "itertools.pairwise"].contains n && vs[0]? == some (rawInt _)) = true then _ else _) Q E s
           rw [if_neg (by intro h; rw [hn, Bool.false_and] at h; cases h)]
           exact wpAny_pure hQ))
def Itl (K : PySem.W.Frag) (a : Addr) : It :=
  ⟨fun i H => ∃ xs x, lN K H a xs ∧ xs[i]? = some x, fun i H x H' => H' = H ∧ ∀ xs, lN K H a xs → xs[i]? = some x, fun i H => ∃ xs, lN K H a xs ∧ xs.length ≤ i⟩
def Itt (K : PySem.W.Frag) (a : Addr) : It :=
  ⟨fun i H => ∃ xs x, nO K H a xs ∧ xs[i]? = some x, fun i H x H' => H' = H ∧ ∀ xs, nO K H a xs → xs[i]? = some x, fun i H => ∃ xs, nO K H a xs ∧ xs.length ≤ i⟩
def Itr (lo : Int) (n : Nat) : It := ⟨fun i _ => i < n, fun i H x H' => H' = H ∧ x = .int (lo + i), fun i _ => n ≤ i⟩
theorem Og {P : Program} {w : World} {K : PySem.W.Frag} {tg : Expr} (a it : Addr) : Turn P w K tg (Itl K a) [it] it (fun i h => h.IsListIter it a i) where
  mem := by simp
  obj := fun i h st b hb => by
    have e : b = it := by simpa using hb
    subst e
    obtain ⟨o, e, c, d⟩ := st
    exact ⟨o, e, fun v z => by rw [d] at z; cases z⟩
  keep := fun i h h' st k => st.at fun o e => k it (by simp) o e
  item := by
    intro X hP hw hK hc i pins s σ H E I hf st hg
    subst hP hw hK
    obtain ⟨xs, x, hq, hx⟩ := hg
    obtain ⟨its, rv, p, hz⟩ := I.list hq
    obtain ⟨u, hu, ru⟩ := rv.get hx
    obtain ⟨f0, f1, f2, f3, f4, f5⟩ := hf it (by simp)
    refine wpAny_pyNext_list_item st p.isList (x := u) (by simpa using hu) fun h' st' sb => ?_
    have I1 : Inv X pins σ H { s with heap := h' } := I.turned (t' := s.toks) (fun b o hb e => (sb.2 b hb).trans e) f0 f1 f3 f4 f5
    obtain ⟨o, e, c, d⟩ := id st'
    exact ⟨u, rfl, Bu (s := { s with heap := h' }) e c d (by decide) ⟨x, H, I1, ru, ⟨rfl, fun ys hy => by rw [I.Sw hy hq]; exact hx⟩, st', fun b hb => (hf b hb).1⟩⟩
  done := by
    intro X hP hw hK hc i pins s σ H E I hf st hg
    subst hP hw hK
    obtain ⟨xs, hq, hx⟩ := hg
    obtain ⟨its, rv, p, hz⟩ := I.list hq
    obtain ⟨f0, f1, f2, f3, f4, f5⟩ := hf it (by simp)
    have hl := rv.length
    exact wpAny_pyNext_list_end (I.ok.hd hc) st p.isList (by simp; omega) fun h' eb => ⟨rfl, I.turned (t' := s.toks) (fun b o hb e => eb b o hb e) f0 f1 f3 f4 f5⟩
  self := fun _ _ _ _ _ st h => wpAny_pyIter_listiter st h
theorem JN {P : Program} {w : World} {K : PySem.W.Frag} {tg : Expr} (a it : Addr) : Turn P w K tg (Itt K a) [it] it (fun i h => h.IsTupleIter it a i) where
  mem := by simp
  obj := fun i h st b hb => by
    have e : b = it := by simpa using hb
    subst e
    obtain ⟨o, e, c, d⟩ := st
    exact ⟨o, e, fun v z => by rw [d] at z; cases z⟩
  keep := fun i h h' st k => st.at fun o e => k it (by simp) o e
  item := by
    intro X hP hw hK hc i pins s σ H E I hf st hg
    subst hP hw hK
    obtain ⟨xs, x, hq, hx⟩ := hg
    obtain ⟨its, rv, p, hz⟩ := I.tuple hq
    obtain ⟨u, hu, ru⟩ := rv.get hx
    obtain ⟨f0, f1, f2, f3, f4, f5⟩ := hf it (by simp)
    refine wpAny_pyNext_tuple_item st (show s.heap.IsTuple a its.toArray from p) (x := u) (by simpa using hu) fun h' st' sb => ?_
    have I1 : Inv X pins σ H { s with heap := h' } := I.turned (t' := s.toks) (fun b o hb e => (sb.2 b hb).trans e) f0 f1 f3 f4 f5
    obtain ⟨o, e, c, d⟩ := id st'
    exact ⟨u, rfl, Bu (s := { s with heap := h' }) e c d (by decide) ⟨x, H, I1, ru, ⟨rfl, fun ys hy => by rw [I.Oh hy hq]; exact hx⟩, st', fun b hb => (hf b hb).1⟩⟩
  done := by
    intro X hP hw hK hc i pins s σ H E I hf st hg
    subst hP hw hK
    obtain ⟨xs, hq, hx⟩ := hg
    obtain ⟨its, rv, p, hz⟩ := I.tuple hq
    obtain ⟨f0, f1, f2, f3, f4, f5⟩ := hf it (by simp)
    have hl := rv.length
    exact wpAny_pyNext_tuple_end (I.ok.hd hc) st (show s.heap.IsTuple a its.toArray from p) (by simp; omega) fun h' eb => ⟨rfl, I.turned (t' := s.toks) (fun b o hb e => eb b o hb e) f0 f1 f3 f4 f5⟩
  self := fun _ _ _ _ _ st h => wpAny_pyIter_tupleiter st h
theorem JP {P : Program} {w : World} {K : PySem.W.Frag} {tg : Expr} (it : Addr) (lo : Int) (n : Nat) : Turn P w K tg (Itr lo n) [it] it (fun i h => IsRangeIter h it (lo + (i : Nat) * 1) ((n : Int) - (i : Nat)) 1) where
  mem := by simp
  obj := fun i h st b hb => by
    have e : b = it := by simpa using hb
    subst e
    exact ⟨_, st, fun v z => by
      have z' : Data.fields _ = Data.cell v := z
      cases z'⟩
  keep := fun i h h' st k => k it (by simp) _ st
  item := by
    intro X hP hw hK hc i pins s σ H E I hf st hg
    subst hP hw hK
    obtain ⟨f0, f1, f2, f3, f4, f5⟩ := hf it (by simp)
    have W := Walks.range (prog := X.prog) (w := X.w) (I.ok.hd hc) it lo 1 n
    refine W.item i s _ _ hg st fun v h' tk hv st' kk => ?_
    obtain ⟨t, rfl⟩ := hv
    have I1 : Inv X pins σ H { s with heap := h', toks := tk } := I.turned (fun b o hb e => kk b o (by simpa using hb) e) f0 f1 f3 f4 f5
    refine ⟨_, rfl, Bu (s := { s with heap := h', toks := tk }) (n := "range_iterator") st' rfl rfl (by decide) ⟨.int (lo + i), H, I1, ⟨t, ?_⟩, ⟨rfl, rfl⟩, st', fun b hb => (hf b hb).1⟩⟩
    rw [Int.mul_one]
  done := by
    intro X hP hw hK hc i pins s σ H E I hf st hg
    subst hP hw hK
    obtain ⟨f0, f1, f2, f3, f4, f5⟩ := hf it (by simp)
    exact wpAny_pyNext_range_end (I.ok.hd hc) st (by have : n ≤ i := hg; omega) fun h' eb => ⟨rfl, I.turned (t' := s.toks) (fun b o hb e => eb b o hb e) f0 f1 f3 f4 f5⟩
  self := fun _ _ _ _ _ st h => wpAny_pyIter_rangeiter st h
end L2
namespace L2
open PySem PySem.Spec PyProof.Rows
section
variable {X : Cx} {tg : Expr}
theorem Rp {pins : List (Addr × Obj)} {σ : St} {H : Hp} {s : Shared} {R : It → Hp → Prop} {E : Value → Shared → Prop} {lo hi : Int} {t u v : Tok} {tk : Nat} (I : Inv X pins σ H s) (h1 : -(2 ^ 62) ≤ lo) (h2 : lo < 2 ^ 62) (h3 : -(2 ^ 62) ≤ hi) (h4 : hi < 2 ^ 62)
    (q : R (Itr lo (hi - lo).toNat) H) : wpAny (model X.prog X.w) X.A (pyIter (.ref s.heap.objs.size)) (PIE X pins σ tg R) E { s with heap := s.heap.push { cls := .type "range", data := .fields #[.int lo t, .int hi u, .int 1 v] }, toks := tk } := by
  refine wpAny_pyIter_range (IsRange.new ..) (small_one h1 h2 h3 h4) ?_
  have I1 : Inv X pins σ H { s with heap := s.heap.push { cls := .type "range", data := .fields #[.int lo t, .int hi u, .int 1 v] }, toks := tk } := I.kept fun b o e => Heap.get?_push_of_some _ e
  refine ⟨(s.heap.push { cls := .type "range", data := .fields #[.int lo t, .int hi u, .int 1 v] }).objs.size, [(s.heap.push { cls := .type "range", data := .fields #[.int lo t, .int hi u, .int 1 v] }).objs.size], _, _, H, rfl,
    I1.kept (t' := tk) fun b o e => Heap.get?_push_of_some _ e, JP _ lo (hi - lo).toNat, ?_, fun b hb => ?_, q⟩
  · have e1 : lo + ((0 : Nat) : Int) * 1 = lo := by simp
    have e2 : (((hi - lo).toNat : Nat) : Int) - ((0 : Nat) : Int) = Builtin.Range.rangeSize lo hi 1 := by rw [rangeSize_one]; split <;> omega
    show IsRangeIter _ _ (lo + ((0 : Nat) : Int) * 1) ((((hi - lo).toNat : Nat) : Int) - ((0 : Nat) : Int)) 1
    rw [e1, e2]
    exact Heap.get?_push_size _ rfl
  · have e : b = (s.heap.push { cls := .type "range", data := .fields #[.int lo t, .int hi u, .int 1 v] }).objs.size := by simpa using hb
    subst e
    exact I1.ac3 (Nat.le_refl _) (I1.hok.fresh (Nat.le_refl _))
def afB (ta : TA) : TI := fun σ H R => ta σ H fun vs H1 => ∃ j : Int, vs = [.int j] ∧ -(2 ^ 62) ≤ j ∧ j < 2 ^ 62 ∧ R (Itr 0 j.toNat) H1
theorem O9 {a : Expr} {ta : TA} {p pos : Pos} (hg : Gl X "range") (hm : X.mg "range" = none) (ha : PA X [a] ta) (hs : starEach [a] X.env = [(false, eval a X.env)] := by rfl) : PI X tg (.Call (.Name "range" p) [a] [] pos) (afB ta) := by
  intro pins s σ H R I h
  refine Call_ (yI I hg hm boot_range (PyProof.Rows.callWith_type1 (il (ha pos pins s σ H _ I h) fun us s1 ⟨vs, H1, I1, r1, q1⟩ => ?_) hs rfl))
  obtain ⟨j, e, q1, q2, q⟩ := q1
  subst e
  cases r1 with
  | cons r rr =>
    cases rr
    obtain ⟨t, rfl⟩ := r
    exact call_range_1 (Rp I1 (by omega) (by omega) q1 q2 (by simpa using q))
def agN (wi : TI) (g : TG) (tb : TS) : TS := fun D σ H => wi σ H fun J H1 => ∃ W : Nat → Nat → St → Hp → Prop, (∃ m, W 0 m σ H1) ∧ ∀ i m σ H, W i m σ H →
  (J.stop i H ∧ D.nx σ H) ∨ (J.go i H ∧ ∃ N : St → Hp → Prop, (∀ σ' H', N σ' H' → ∃ m', m' < m ∧ W (i + 1) m' σ' H') ∧ ∀ x H', J.yld i H x H' → g x σ H' fun σ2 H2 => tb { D with nx := N, ct := N, bk := D.nx } σ2 H2)
def yr (fp : List Addr) (h : Heap) : List (Addr × Obj) := fp.filterMap fun b => (h.get? b).map fun o => (b, o)
theorem nU {fp : List Addr} {h : Heap} {b : Addr} {o : Obj} (hb : b ∈ fp) (e : h.get? b = some o) : (b, o) ∈ yr fp h := List.mem_filterMap.mpr ⟨b, hb, by rw [e]; rfl⟩
theorem Pj {fp : List Addr} {h : Heap} {p : Addr × Obj} (hp : p ∈ yr fp h) : p.1 ∈ fp ∧ h.get? p.1 = some p.2 := by
  obtain ⟨b, hb, e⟩ := List.mem_filterMap.mp hp
  cases q : h.get? b with
  | none => rw [q] at e; cases e
  | some o =>
    rw [q] at e
    have e' : (b, o) = p := Option.some.inj e
    subst e'
    exact ⟨hb, q⟩
theorem Inv.pinned {pins : List (Addr × Obj)} {σ : St} {H : Hp} {s : Shared} {fp : List Addr} (I : Inv X pins σ H s) (hf : ∀ b ∈ fp, zT X pins H b) (ho : ∀ b ∈ fp, ∃ o, s.heap.get? b = some o ∧ ∀ v, o.data ≠ .cell v) : Inv X (pins ++ yr fp s.heap) σ H s :=
  I.MT fun p hp => (List.mem_append.mp hp).elim (fun z => I.pin p (List.mem_append_right _ z)) fun z => by
    obtain ⟨hb, e⟩ := Pj z
    obtain ⟨f0, f1, f2, _⟩ := hf p.1 hb
    obtain ⟨o, e', d⟩ := ho p.1 hb
    rw [e] at e'; cases e'
    exact ⟨e, f0, f1, f2, d⟩
theorem Inv.uh {pins pl : List (Addr × Obj)} {σ : St} {H : Hp} {s : Shared} (I : Inv X (pins ++ pl) σ H s) : Inv X pins σ H s := I.MT fun p hp => I.pin p (List.mem_append_right _ (List.mem_append_left _ hp))
theorem aaF {iter : Expr} {body : List Stmt} {wi : TI} {g : TG} {tb : TS} {pos : Pos} (hp : PassesOwn (model X.prog X.w) X.A X.env X.xe) (hc : X.calm = true) (hi : PI X tg iter wi) (hg : PG X tg g) (hb : JD X body tb)
    (hs : ∀ x, foldedSetIterable iter X.env x = pure x := by intro _; rfl) : PS X (.For tg iter body [] pos) (agN wi g tb) := by
  intro pins s σ H D I h
  refine wpAny_For (il (hi pins s σ H _ I h) fun v s1 h1 => il h1 fun itv s2 h2 => ?_) hs
  obtain ⟨it, fp, tn, J, H2, e, I2, T, st2, f2, W, ⟨m0, w0⟩, turn⟩ := h2
  subst e
  -- what stays true of the iterator's objects through the loop
  have stat : ∀ {H' : Hp}, (∀ b ∈ fp, H' b = none) → ∀ b ∈ fp, zT X pins H' b := fun hn b hb => ⟨hn b hb, (f2 b hb).2⟩
  refine codeAny_forLoop_any (fun n s' => ∃ i σ' H', Inv X pins σ' H' s' ∧ tn i s'.heap ∧ (∀ b ∈ fp, H' b = none) ∧ W i n σ' H') ?_ m0 ⟨0, σ, H2, I2, st2, fun b hb => (f2 b hb).1, w0⟩
  rintro n s3 ⟨i, σ3, H3, I3, st3, fr3, w3⟩
  rcases turn i n σ3 H3 w3 with ⟨stop, qn⟩ | ⟨go, N, hN, step⟩
  · refine wpAny_passesOwn hp (il (T.done X rfl rfl rfl hc i pins s3 σ3 H3 X.xe I3 (stat fr3) st3 stop) fun r s4 ⟨hr, I4⟩ => ?_)
    subst hr
    exact wpAny_execs_nil ⟨σ3, H3, I4, qn⟩
  · refine wpAny_passesOwn hp (il (T.item X rfl rfl rfl hc i pins s3 σ3 H3 X.xe I3 (stat fr3) st3 go) fun r s4 ⟨u, hr, h4⟩ => ?_)
    subst hr
    refine wpAny_passesOwn hp (il h4 fun _ s5 ⟨x, H5, I5, r5, y5, st5, fr5⟩ => ?_)
    have I5' := I5.pinned (stat fr5) (T.obj _ _ st5)
    refine wpAny_passesOwn hp (il (hg _ s5 σ3 H5 x u _ I5' r5 (step x H5 y5)) fun _ s6 ⟨σ6, H6, I6, q6⟩ => ?_)
    refine wpAny_passesOwn hp (il (hb _ s6 σ6 H6 _ I6 q6) fun f s7 q7 => ?_)
    have again : ∀ {σ7 : St} {H7 : Hp}, Inv X (pins ++ yr fp s5.heap) σ7 H7 s7 → N σ7 H7 → ∃ m, m < n ∧ ∃ i σ' H', Inv X pins σ' H' s7 ∧ tn i s7.heap ∧ (∀ b ∈ fp, H' b = none) ∧ W i m σ' H' := fun {σ7 H7} I7 n7 => by
      obtain ⟨m', hm, w7⟩ := hN σ7 H7 n7
      refine ⟨m', hm, i + 1, σ7, H7, I7.uh, T.keep _ _ _ st5 fun b hb o e => (I7.pin (b, o) (List.mem_append_right _ (List.mem_append_right _ (nU hb e)))).1, fun b hb => ?_, w7⟩
      obtain ⟨o, e, d⟩ := T.obj _ _ st5 b hb
      exact (I7.pin (b, o) (List.mem_append_right _ (List.mem_append_right _ (nU hb e)))).2.1
    cases f with
    | next => obtain ⟨σ7, H7, I7, n7⟩ := q7; exact again I7 n7
    | cont => obtain ⟨σ7, H7, I7, n7⟩ := q7; exact again I7 n7
    | brk => obtain ⟨σ7, H7, I7, q7⟩ := q7; exact ⟨σ7, H7, I7.uh, q7⟩
    | ret v => obtain ⟨x7, σ7, H7, I7, r7, q7⟩ := q7; exact ⟨x7, σ7, H7, I7.uh, r7, q7⟩
end
end L2
namespace L2
open PySem PySem.Spec PyProof.Rows
abbrev R2 := V → V → Hp → VK → Prop
def kh (X : Cx) (f : Value → Value → Sem Value) (r : R2) : Prop :=
  ∀ (pins : List (Addr × Obj)) (s : Shared) (σ : St) (H : Hp) (x y : V) (v u : Value) (Q : VK), Inv X pins σ H s → RelV x v → RelV y u → r x y H Q →
    wpAny (model X.prog X.w) X.A (f v u) (EP X pins σ Q) X.xe s
def gM (X : Cx) (f : Value) (r : List V → Hp → VK → Prop) : Prop :=
  ∀ (pins : List (Addr × Obj)) (s : Shared) (σ : St) (H : Hp) (xs : List V) (us : List Value) (Q : VK), Inv X pins σ H s → Vals xs us → r xs H Q →
    wpAny (model X.prog X.w) X.A (call f us) (EP X pins σ Q) X.xe s
def tOp (r : R2) (ta tb : TE) : TE := fun σ H Q => ta σ H fun x H1 => tb σ H1 fun y H2 => r x y H2 Q
def rI (C : Int → Int → Prop) (g : Int → Int → V) : R2 := fun x y H Q => ∃ i j, x = .int i ∧ y = .int j ∧ C i j ∧ Q (g i j) H
def MK (g : Int → Int → V) : R2 := fun x y H Q => ∃ i j, x = .int i ∧ y = .int j ∧ Q (g i j) H
section
variable {X : Cx} {a b c : Expr} {ta tb tc : TE} {pos : Pos}
theorem adw (ha : PE X a ta) (hb : PE X b tb) {pins : List (Addr × Obj)} {s : Shared} {σ : St} {H : Hp} {R : V → V → Hp → Prop} (I : Inv X pins σ H s)
    (h : ta σ H fun x H1 => tb σ H1 fun y H2 => R x y H2) {Q : Value → Shared → Prop} {f : Value → Value → Sem Value}
    (hf : ∀ v u s2 x y H2, Inv X pins σ H2 s2 → RelV x v → RelV y u → R x y H2 → wpAny (model X.prog X.w) X.A (f v u) Q X.xe s2) :
    wpAny (model X.prog X.w) X.A (eval a X.env) (fun v s₁ => wpAny (model X.prog X.w) X.A (eval b X.env) (fun u s₂ => wpAny (model X.prog X.w) X.A (f v u) Q X.xe s₂) X.xe s₁) X.xe s := by
  refine il (ha pins s σ H _ I h) fun v s1 ⟨x, H1, I1, r1, q1⟩ => ?_
  refine il (hb pins s1 σ H1 _ I1 q1) fun u s2 ⟨y, H2, I2, r2, q2⟩ => ?_
  exact hf v u s2 x y H2 I2 r1 r2 q2
theorem Zf {op : Operator} {r : R2} (ho : kh X (binaryOp op) r) (ha : PE X a ta) (hb : PE X b tb) : PE X (.BinOp a op b pos) (tOp r ta tb) := by
  intro pins s σ H Q I h
  exact wpAny_BinOp (adw ha hb I h fun v u s2 x y H2 I2 rx ry q => ho pins s2 σ H2 x y v u Q I2 rx ry q)
theorem opI {f : Value → Value → Sem Value} {C : Int → Int → Prop} {g : Int → Int → Int}
    (rule : ∀ (i j : Int) (t u : Tok) (s : Shared) (Q : Value → Shared → Prop) (E : Value → Shared → Prop), C i j → Q (.int (g i j) s.toks) { s with toks := s.toks + 1 } → wpAny (model X.prog X.w) X.A (f (.int i t) (.int j u)) Q E s) :
    kh X f (rI C fun i j => .int (g i j)) := by
  intro pins s σ H x y v u Q I rx ry h
  obtain ⟨i, j, rfl, rfl, hc, q⟩ := h
  obtain ⟨t, rfl⟩ := rx
  obtain ⟨t', rfl⟩ := ry
  exact rule i j t t' s _ _ hc ⟨.int (g i j), H, I.tok _, ⟨_, rfl⟩, q⟩
theorem abf {f : Value → Value → Sem Value} {g : Int → Int → Int}
    (rule : ∀ (i j : Int) (t u : Tok) (s : Shared) (Q : Value → Shared → Prop) (E : Value → Shared → Prop), Q (.int (g i j) s.toks) { s with toks := s.toks + 1 } → wpAny (model X.prog X.w) X.A (f (.int i t) (.int j u)) Q E s) :
    kh X f (MK fun i j => .int (g i j)) := by
  intro pins s σ H x y v u Q I rx ry h
  obtain ⟨i, j, rfl, rfl, q⟩ := h
  obtain ⟨t, rfl⟩ := rx
  obtain ⟨t', rfl⟩ := ry
  exact rule i j t t' s _ _ ⟨.int (g i j), H, I.tok _, ⟨_, rfl⟩, q⟩
theorem aeH {f : Value → Value → Sem Value} {g : Int → Int → Bool}
    (rule : ∀ (i j : Int) (t u : Tok) (s : Shared) (Q : Value → Shared → Prop) (E : Value → Shared → Prop), Q (.bool (g i j)) s → wpAny (model X.prog X.w) X.A (f (.int i t) (.int j u)) Q E s) :
    kh X f (MK fun i j => .bl (g i j)) := by
  intro pins s σ H x y v u Q I rx ry h
  obtain ⟨i, j, rfl, rfl, q⟩ := h
  obtain ⟨t, rfl⟩ := rx
  obtain ⟨t', rfl⟩ := ry
  exact rule i j t t' s _ _ ⟨.bl (g i j), H, I, rfl, q⟩
def age (i j : Int) : Prop := 0 < j ∧ j < 1073741824
def Y5 (i j : Int) : Prop := 0 ≤ j ∧ j ≤ 1000000 ∧ i.natAbs < 2 ^ 64
theorem JM (k : Nat) : (0 : Int) ≤ 2 ^ k := by
  rw [two_pow_cast]
  exact Int.natCast_nonneg _
theorem abe : kh X (binaryOp .Add) (MK fun i j => .int (i + j)) := abf fun _ _ _ _ _ _ _ q => add_int q
theorem aaY : kh X (binaryOp .Sub) (MK fun i j => .int (i - j)) := abf fun _ _ _ _ _ _ _ q => sub_int q
theorem aa3 : kh X (binaryOp .Mod) (rI (fun _ j => 0 < j) fun i j => .int (i % j)) := opI fun i j _ _ _ _ _ hc q => by
  have h1 : (0 : Int) < j := hc
  exact mod_int' (by omega) (by rw [Int.fmod_eq_emod_of_nonneg i (by omega)]; exact q)
theorem aa1 : kh X (binaryOp .Pow) (rI Y5 fun i j => .int (i ^ j.toNat)) := opI fun _ _ _ _ _ _ _ hc q => pow_int_small hc.1 hc.2.1 hc.2.2 q
theorem aa0 : kh X (binaryOp .LShift) (rI Y5 fun i j => .int (i * 2 ^ j.toNat)) := opI fun _ _ _ _ _ _ _ hc q => lshift_int_small hc.1 hc.2.1 hc.2.2 q
theorem aaZ : kh X (binaryOp .RShift) (rI (fun _ j => 0 ≤ j) fun i j => .int (i / 2 ^ j.toNat)) := opI fun i j _ _ _ _ _ hc q =>
  rshift_int hc (by rw [Int.fdiv_eq_ediv_of_nonneg i (JM _)]; exact q)
theorem abd : kh X (binaryOp .BitAnd) (MK fun i j => .int (Builtin.bitAnd i j)) := abf fun _ _ _ _ _ _ _ q => and_int q
end
theorem adk {i j : Bool} : decide (V.bl i = V.bl j) = (i == j) := by
  rw [Bool.eq_iff_iff]
  simp
section
variable {X : Cx} {a b c : Expr} {ta tb tc : TE} {pos : Pos}
theorem yX {pins : List (Addr × Obj)} {σ : St} {H : Hp} {s : Shared} {Q : VK} {k k' : Bool} (I : Inv X pins σ H s) (q : Q (.bl k) H) (e : k = k') : EP X pins σ Q (.bool k') s := by
  subst e
  exact ⟨.bl k, H, I, rfl, q⟩
theorem aeE : kh X (compareOp .Lt) (MK fun i j => .bl (decide (i < j))) := aeH fun _ _ _ _ _ _ _ q => lt_int q
theorem aeF : kh X (compareOp .Gt) (MK fun i j => .bl (decide (j < i))) := aeH fun _ _ _ _ _ _ _ q => gt_int q
theorem Pg : kh X (compareOp .Lt) (fun x y H Q => ∃ i j, x = .str i ∧ y = .str j ∧ Q (.bl (decide (i.cps.toList < j.cps.toList))) H) := by
  intro pins s σ H x y v u Q I rx ry h
  obtain ⟨i, j, rfl, rfl, q⟩ := h
  obtain ⟨t, rfl⟩ := rx
  obtain ⟨t', rfl⟩ := ry
  exact lt_str (yX I q rfl)
theorem Ph : kh X (compareOp .In) (fun x y H Q => ∃ i j, x = .str i ∧ y = .str j ∧ Q (.bl (!(Builtin.Str.occurrences j i 0 j.length 1).isEmpty)) H) := by
  intro pins s σ H x y v u Q I rx ry h
  obtain ⟨i, j, rfl, rfl, q⟩ := h
  obtain ⟨t, rfl⟩ := rx
  obtain ⟨t', rfl⟩ := ry
  exact in_str (yX I q rfl)
theorem aa5 : kh X (compareOp .Is) (fun x y H Q => y = .non ∧ Q (.bl (decide (x = .non))) H) := by
  intro pins s σ H x y v u Q I rx ry h
  obtain ⟨rfl, q⟩ := h
  cases ry
  refine is_none_gen (yX I q ?_)
  cases x <;> first
    | (cases rx; rfl)
    | (obtain ⟨t, rfl⟩ := rx; rfl)
theorem Dp : kh X (compareOp .NotIn) (fun x y H Q => ∃ i j, x = .str i ∧ y = .str j ∧ Q (.bl (!(!(Builtin.Str.occurrences j i 0 j.length 1).isEmpty))) H) := by
  intro pins s σ H x y v u Q I rx ry h
  obtain ⟨i, j, rfl, rfl, q⟩ := h
  obtain ⟨t, rfl⟩ := rx
  obtain ⟨t', rfl⟩ := ry
  exact notIn_str (yX I q rfl)
theorem kh.or {f : Value → Value → Sem Value} {r r' : R2} (h : kh X f r) (h' : kh X f r') : kh X f (fun x y H Q => r x y H Q ∨ r' x y H Q) := by
  intro pins s σ H x y v u Q I rx ry q
  rcases q with q | q
  · exact h pins s σ H x y v u Q I rx ry q
  · exact h' pins s σ H x y v u Q I rx ry q
theorem M4 {op : CmpOp} {r : R2} (ho : kh X (compareOp op) r) (ha : PE X a ta) (hb : PE X b tb) (hm : behindInMarks op b = false) : PE X (.Compare a [op] [b] pos) (tOp r ta tb) := by
  intro pins s σ H Q I h
  exact wpAny_Compare1 (adw ha hb I h fun v u s2 x y H2 I2 rx ry q => ho pins s2 σ H2 x y v u Q I2 rx ry q) hm
def adY (t : TE) : TT := fun σ H Q => t σ H fun x H' => ∃ k, x = .bl k ∧ Q k H'
theorem MP {op : CmpOp} {r : R2} (ho : kh X (compareOp op) r) (ha : PE X a ta) (hb : PE X b tb) (hm : behindInMarks op b = false) : PT X (.Compare a [op] [b] pos) (adY (tOp r ta tb)) := by
  intro pins s σ H Q I h
  refine wpAny_isTrue_Compare1 (il (ha pins s σ H _ I h) fun v s1 ⟨x, H1, I1, r1, q1⟩ => il (hb pins s1 σ H1 _ I1 q1) fun u s2 ⟨y, H2, I2, r2, q2⟩ =>
    il (ho pins s2 σ H2 x y v u _ I2 r1 r2 q2) fun c s3 ⟨z, H3, I3, r3, k, e, q3⟩ => ?_) hm
  subst e
  cases r3
  exact wpAny_truthy_bool ⟨H3, I3, q3⟩
theorem acH {κ : Type} {kvs : List (κ × V)} {vs : List (κ × Value)} (r : KV kvs vs) : (!vs.isEmpty) = !kvs.isEmpty := by
  cases r <;> rfl
theorem acG {xs : List V} {its : List Value} (r : Vals xs its) : (!its.toArray.isEmpty) = !xs.isEmpty := by
  cases r <;> simp
theorem sO : (sizeLine : Nat) < 2 ^ 63 := by rw [sizeLine_eq]; decide
theorem Kl : kh X (binaryOp .Add) (fun x y H Q => ∃ i j, x = .str i ∧ y = .str j ∧ i.length + j.length ≤ sizeLine ∧ Q (.str (i ++ j)) H) := by
  intro pins s σ H x y v u Q I rx ry h
  obtain ⟨i, j, rfl, rfl, hz, q⟩ := h
  obtain ⟨t, rfl⟩ := rx
  obtain ⟨t', rfl⟩ := ry
  exact add_str (fun t' tk => ⟨.str (i ++ j), H, I.tok _, ⟨_, rfl⟩, q⟩) hz
theorem vals1 {x : V} {us : List Value} (r : Vals [x] us) : ∃ u, us = [u] ∧ RelV x u := by
  cases r with
  | cons r1 r2 => cases r2; exact ⟨_, rfl, r1⟩
theorem vals2 {x y : V} {us : List Value} (r : Vals [x, y] us) : ∃ u w', us = [u, w'] ∧ RelV x u ∧ RelV y w' := by
  cases r with
  | cons r1 r2 =>
    cases r2 with
    | cons r3 r4 => cases r4; exact ⟨_, _, rfl, r1, r3⟩
theorem Qt (hc : X.calm = true) : gM X (.builtin "max") (fun xs H Q => ∃ i j, xs = [.int i, .int j] ∧ Q (.int (if j > i then j else i)) H) := by
  intro pins s σ H xs us Q I r h
  obtain ⟨i, j, rfl, q⟩ := h
  obtain ⟨u, w', rfl, ⟨t, rfl⟩, ⟨t', rfl⟩⟩ := vals2 r
  refine max_two_ints (I.ok.hd hc) fun h' tk k => ⟨_, H, I.kept k, ?_, q⟩
  by_cases hj : j > i
  · rw [if_pos hj, if_pos hj]; exact ⟨_, rfl⟩
  · rw [if_neg hj, if_neg hj]; exact ⟨_, rfl⟩
theorem Qs (hc : X.calm = true) : gM X (.builtin "min") (fun xs H Q => ∃ i j, xs = [.int i, .int j] ∧ Q (.int (if j < i then j else i)) H) := by
  intro pins s σ H xs us Q I r h
  obtain ⟨i, j, rfl, q⟩ := h
  obtain ⟨u, w', rfl, ⟨t, rfl⟩, ⟨t', rfl⟩⟩ := vals2 r
  refine min_two_ints (I.ok.hd hc) fun h' tk k => ⟨_, H, I.kept k, ?_, q⟩
  by_cases hj : j < i
  · rw [if_pos hj, if_pos hj]; exact ⟨_, rfl⟩
  · rw [if_neg hj, if_neg hj]; exact ⟨_, rfl⟩
def agd (K : PySem.W.Frag) (x : V) (H : Hp) (n : Nat) : Prop :=
  match x with
  | .str y => y.length ≤ sizeLine ∧ n = y.length
  | .byt y => y.size ≤ sizeLine ∧ n = y.size
  | .ref p => (∃ xs, lN K H p xs ∧ n = xs.length) ∨ ∃ xs, nO K H p xs ∧ n = xs.length
  | _ => False
theorem Vg : gM X (.builtin "len") (fun xs H Q => ∃ x n, xs = [x] ∧ agd X.K x H n ∧ Q (.int n) H) := by
  intro pins s σ H xs us Q I r h
  obtain ⟨x, n, rfl, e, q⟩ := h
  obtain ⟨u, rfl, rx⟩ := vals1 r
  have hl := sO
  have hs : sizeLine = 16777216 := sizeLine_eq
  cases x with
  | str y =>
    obtain ⟨t, rfl⟩ := rx
    obtain ⟨hy, e'⟩ : y.length ≤ sizeLine ∧ n = y.length := e
    subst e'
    exact len_str (by omega) ⟨.int _, H, I.tok _, ⟨_, rfl⟩, q⟩
  | byt y =>
    obtain ⟨t, rfl⟩ := rx
    obtain ⟨hy, e'⟩ : y.size ≤ sizeLine ∧ n = y.size := e
    subst e'
    exact PySem.W.len_bytes (by omega) ⟨.int _, H, I.tok _, ⟨_, rfl⟩, q⟩
  | ref p =>
    cases rx
    have e' : (∃ xs, lN X.K H p xs ∧ n = xs.length) ∨ ∃ xs, nO X.K H p xs ∧ n = xs.length := e
    rcases e' with ⟨xs, hx, e'⟩ | ⟨xs, hx, e'⟩
    · subst e'
      obtain ⟨its, r', pl, hz⟩ := I.list hx
      have hlen := r'.length
      exact Calls.call_len_list pl.isList (by simp only [List.size_toArray]; omega) ⟨.int xs.length, H, I.tok _, ⟨_, by simp only [List.size_toArray]; rw [hlen]⟩, q⟩
    · subst e'
      obtain ⟨its, r', pl, hz⟩ := I.tuple hx
      have hlen := r'.length
      exact len_tuple pl (by simp only [List.size_toArray]; omega) ⟨.int xs.length, H, I.tok _, ⟨_, by simp only [List.size_toArray]; rw [hlen]⟩, q⟩
  | _ => exact (show False from e).elim
theorem Jr : gM X (.builtin "divmod") (fun xs H Q => ∃ i j, xs = [.int i, .int j] ∧ age i j ∧ ∀ p, H p = none → Q (.ref p) (upd H p (.tup [.int (i / j), .int (i % j)]))) := by
  intro pins s σ H xs us Q I r h
  obtain ⟨i, j, rfl, ⟨h1, h2⟩, q⟩ := h
  obtain ⟨u, w', rfl, ⟨t, rfl⟩, ⟨t', rfl⟩⟩ := vals2 r
  refine divmod_int (by omega) ?_ (.inl (PyProof.noPylong_small (by omega)))
  rw [Int.fdiv_eq_ediv_of_nonneg i (by omega), Int.fmod_eq_emod_of_nonneg i (by omega)]
  have hn : H s.heap.objs.size = none := I.hok.fresh (Nat.le_refl _)
  refine ⟨.ref s.heap.objs.size, _, ?_, rfl, q _ hn⟩
  refine I.laid (fun b o e => Heap.get?_push_of_some _ e) (Nat.le_refl _) ⟨by simp only [List.length_cons, List.length_nil]; rw [sizeLine_eq]; decide, [.int (i / j) s.toks, .int (i % j) (s.toks + 1)], .cons ⟨_, rfl⟩ (.cons ⟨_, rfl⟩ .nil), ?_⟩
  exact ⟨_, Heap.get?_push_size s.heap rfl, rfl, ⟨0, rfl⟩, rfl⟩
end
end L2
namespace L2
open PySem PySem.Spec PyProof.Rows
theorem Aq.some_of {v : V} {o : Option Value} (r : Aq (some v) o) : ∃ u, o = some u ∧ RelV v u := by
  cases o with
  | none => exact (show False from r).elim
  | some u => exact ⟨u, rfl, r⟩
end L2
namespace L2
open PySem PySem.Spec PyProof.Rows
structure gR (k : Nat) (A : Around) : Prop where
  hd : A.handled = none
  dp : A.depth + 3 * k + 5 < recursionLimit
  un : A.units + 16 * k + 200 < cLine
theorem gR.mono {j k : Nat} {A : Around} (r : gR k A) (h : j ≤ k) : gR j A := ⟨r.hd, by have := r.dp; omega, by have := r.un; omega⟩
theorem gR.deeper {k : Nat} {A : Around} (r : gR (k + 1) A) (env : Env) : gR k (A.deeper env) :=
  ⟨r.hd, by have := r.dp; show A.depth + 1 + 3 * k + 5 < _; omega, by have := r.un; show A.units + 3 + 16 * k + 200 < _; omega⟩
theorem gR.depth {k : Nat} {A : Around} (r : gR k A) : A.depth < recursionLimit := by have := r.dp; omega
theorem gR.units {k : Nat} {A : Around} (r : gR k A) : A.units + 64 < cLine := by have := r.un; omega
def agJ : TA := fun _ H Q => Q [] H
def ad3 (ta : TE) (tr : TA) : TA := fun σ H Q => ta σ H fun x H1 => tr σ H1 fun xs H2 => Q (x :: xs) H2
section
variable {X : Cx} {e : Expr} {es : List Expr} {te : TE} {t : TA} {pos : Pos}
theorem sH : PA X [] agJ := fun _ _ _ _ H Q I h => Calls.spliced_nil ⟨[], H, I, .nil, h⟩
theorem jB (ha : PE X e te) (hr : PA X es t) (hs : starEach (e :: es) X.env = (false, eval e X.env) :: starEach es X.env := by rfl) : PA X (e :: es) (ad3 te t) := by
  intro pos pins s σ H Q I h
  rw [hs]
  show wpAny _ _ (spliced ((false, eval e X.env) :: backTo pos (starEach es X.env))) _ _ s
  refine Calls.spliced_cons (il (ha pins s σ H _ I h) fun u s1 ⟨x, H1, I1, r1, q1⟩ => ?_)
  exact il (hr pos pins s1 σ H1 _ I1 q1) fun us s2 ⟨xs, H2, I2, r2, q2⟩ => ⟨x :: xs, H2, I2, .cons r1 r2, q2⟩
def agD (t : TA) : TE := fun σ H Q => t σ H fun xs H1 => xs.length ≤ sizeLine ∧ ∀ p, H1 p = none → Q (.ref p) (upd H1 p (.tup xs))
def agK (t : TA) : TE := fun σ H Q => t σ H fun xs H1 => xs.length ≤ sizeLine ∧ ∀ p, H1 p = none → Q (.ref p) (upd H1 p (.lst xs))
theorem aaM {x1} (h : PA X es t) : PE X (.Tuple es x1 pos) (agD t) := by
  intro pins s σ H Q I hq
  refine wpAny_Tuple_spliced (il (h pos pins s σ H _ I hq) fun us s1 ⟨xs, H1, I1, r, z, q⟩ => ⟨by rw [← r.length]; exact z, ?_⟩)
  have hf : H1 s1.heap.objs.size = none := I1.hok.fresh (Nat.le_refl _)
  refine ⟨.ref s1.heap.objs.size, upd H1 s1.heap.objs.size (.tup xs), I1.laid (t' := s1.toks) (fun b u e => Heap.get?_push_of_some _ e) (Nat.le_refl _) ?_, rfl, q _ hf⟩
  exact ⟨z, us, r, Ao.new _ _⟩
theorem aaQ (h : PA X es t) : PE X (.List es pos) (agK t) := by
  intro pins s σ H Q I hq
  refine wpAny_List_spliced (il (h pos pins s σ H _ I hq) fun us s1 ⟨xs, H1, I1, r, z, q⟩ => ⟨by rw [← r.length]; exact z, ?_⟩)
  have hf : H1 s1.heap.objs.size = none := I1.hok.fresh (Nat.le_refl _)
  refine ⟨.ref s1.heap.objs.size, upd H1 s1.heap.objs.size (.lst xs), I1.laid (t' := s1.toks) (fun b u e => Heap.get?_push_of_some _ e) (Nat.le_refl _) ?_, rfl, q _ hf⟩
  exact ⟨z, us, 0, r, Heap.get?_push_size _ rfl⟩
end
abbrev Sp := List V → Hp → VK → XK → Prop
abbrev Y4 := List Env → Hp → Shared → XK → Value → Shared → Prop
structure YZ (P : Program) (w : World) (K : PySem.W.Frag) (mg : Str → Option Value) (base : Heap) (A : Around) (outer : List Env) (s : Shared) (H : Hp) : Prop where
  frames : A.frames = some outer
  mod : Mod K mg base
  bs : ∀ b o, base.get? b = some o → s.heap.get? b = some o ∧ H b = none
  ZK : base.objs.size ≤ s.heap.objs.size
  yS : s.heap.FunFrames base outer
  frf : ∀ b ∈ frs outer, H b = none
  hok : uQ P w H s.heap
  bare : AllBare s.gens
def CE (outer : List Env) (P : Program) (w : World) (H : Hp) (s : Shared) (Q : VK) (u : Value) (s' : Shared) : Prop :=
  ∃ v H', s'.os = s.os ∧ AllBare s'.gens ∧ Un (frs outer) [] H H' s.heap s'.heap ∧ uQ P w H' s'.heap ∧ RelV v u ∧ Q v H'
def CR (CX : Y4) (outer : List Env) (P : Program) (w : World) (H : Hp) (s : Shared) (Q : VK) (E : XK) (r : Result) (s' : Shared) : Prop :=
  match r with
  | .ok (.ret u) => CE outer P w H s Q u s'
  | .ok _ => False
  | .error e => CX outer H s E e s'
structure pA (P : Program) (w : World) (K : PySem.W.Frag) (mg : Str → Option Value) (base : Heap) (CX : Y4) (k : Nat) (f : Addr) (fd : FuncData) (ps : List Str) (sp : Sp) : Prop where
  len : ∀ vs H Q E, sp vs H Q E → vs.length = ps.length
  run : ∀ (A : Around) (outer : List Env) (s : Shared) (H : Hp) (args : Args) (us : List Value) (vs : List V) (Q : VK) (E : XK), gR k A → YZ P w K mg base A outer s H → BindsTo s fd args (ps.zip us) → Vals vs us → sp vs H Q E →
    codeAny (model P w) A (.call (.ref f) args) (CR CX outer P w H s Q E) s
section
variable {X : Cx} {pins : List (Addr × Obj)} {σ : St} {H : Hp} {s s' : Shared}
theorem Inv.env0 (I : Inv X pins σ H s) : YZ X.prog X.w X.K X.mg X.base X.A X.stack s H :=
  ⟨I.ok.frames, I.ok.mod, I.bs, Nat.le_trans I.ok.ZK I.sz, I.stack, I.Mt, I.hok, I.bare⟩
theorem Inv.after {Q : VK} {u : Value} (I : Inv X pins σ H s) (h : CE X.stack X.prog X.w H s Q u s') : EP X pins σ Q u s' := by
  obtain ⟨v, H', os, bare, un, hok, r, q⟩ := h
  obtain ⟨hh, g, d, t, os'⟩ := s'
  obtain rfl : os' = s.os := os
  exact ⟨v, H', I.call (h' := hh) (g' := g) (d' := d) (t' := t) (ch := []) un hok bare (fun b z => absurd z (by simp)), r, q⟩
end
def ad4 (sp : Sp) (ZJ : List V) (E : XK) (t : TA) : TE := fun σ H Q => t σ H fun vs H1 => sp (vs ++ ZJ) H1 Q E
def Binds (K : PySem.W.Frag) (fd : FuncData) (ps : List Str) (ds : List Value) : Prop :=
  ∀ (s : Shared) (us : List Value), K.In s.heap → (us ++ ds).length = ps.length → BindsTo s fd ⟨us, []⟩ (ps.zip (us ++ ds))
theorem Binds.all {K : PySem.W.Frag} {fd : FuncData} {ps : List Str} (h : ∀ us : List Value, us.length = ps.length → bindArgs fd ⟨us, []⟩ = pure (ps.zip us)) : Binds K fd ps [] := fun s us _ hl => by
  rw [List.append_nil] at hl ⊢
  exact .of_eq (h us hl)
def Passes (CX : Y4) (X : Cx) (E : XK) : Prop := ∀ (pins : List (Addr × Obj)) (σ : St) (H : Hp) (s : Shared) (e : Value) (s' : Shared), Inv X pins σ H s → CX X.stack H s E e s' → X.xe e s'
section
variable {X : Cx} {CX : Y4} {k : Nat} {f C : Addr} {fd : FuncData} {ps : List Str} {sp : Sp} {ZJ : List V} {ds : List Value} {E : XK} {x m : Str} {p pos apos : Pos} {e o : Expr} {es : List Expr} {ta : TE} {t : TA}
theorem aaq {pins : List (Addr × Obj)} {σ : St} {H : Hp} {s : Shared} {Q : VK} {us : List Value} {vs : List V} (F : pA X.prog X.w X.K X.mg X.base CX k f fd ps sp) (hr : gR k X.A) (hb : Binds X.K fd ps ds) (hd : Vals ZJ ds) (hx : Passes CX X E)
    (I : Inv X pins σ H s) (r : Vals vs us) (h : sp (vs ++ ZJ) H Q E) : wpAny (model X.prog X.w) X.A (call (.ref f) us) (EP X pins σ Q) X.xe s := by
  have r2 : Vals (vs ++ ZJ) (us ++ ds) := r.append hd
  have hl : (us ++ ds).length = ps.length := by rw [← r2.length]; exact F.len _ _ _ _ h
  refine wpAny_call (codeAny_mono (F.run X.A X.stack s H ⟨us, []⟩ (us ++ ds) (vs ++ ZJ) Q E hr I.env0 (hb s us I.kIn hl) r2 h) fun r s' hq => ?_)
  cases r with
  | error e => exact hx pins σ H s e s' I hq
  | ok fl =>
    cases fl with
    | ret u => exact I.after hq
    | next => exact False.elim hq
    | brk => exact False.elim hq
    | cont => exact False.elim hq
theorem Dl (F : pA X.prog X.w X.K X.mg X.base CX k f fd ps sp) (hr : gR k X.A) (hg : Gl X x) (hm : X.mg x = some (.ref f)) (hk : PySem.W.keepIn X.K (.ref f) = true) (hb : Binds X.K fd ps ds) (hd : Vals ZJ ds) (hx : Passes CX X E)
    (ha : PA X (e :: es) t) (hdb : (x == ("__debug__" : Str)) = false := by decide) (he : starEach (e :: es) X.env = (false, eval e X.env) :: starEach es X.env := by rfl) (hpl : (backTo pos (starEach es X.env)).any (·.1) = false := by rfl) :
    PE X (.Call (.Name x p) (e :: es) [] pos) (ad4 sp ZJ E t) := by
  intro pins s σ H Q I h
  refine wpAny_Call_Name_kw (Nb I hg hm ?_ hdb)
  refine PySem.W.callWith_K (h₀ := X.base) I.ok.mod.QF hk (il (ha pos pins s σ H _ I h) fun us s1 ⟨vs, H1, I1, r, q⟩ => ⟨I1.kIn, ?_⟩) he hpl
  exact aaq F hr hb hd hx I1 r q
end
structure bG (N P : List Str) (sc : Scope) : Prop where
  kind : sc.kind = .function
  co : sc.isCoroutine = false
  gen : sc.isGenerator = false
  nd : N.Nodup
  pre : N.take P.length = P
  par : ∀ x ∈ P, sc.names.lookup x = some .local ∨ sc.names.lookup x = some .cell
  abx : ∀ y ∈ sc.names, y.2 ≠ .free
theorem BK {kindOf : Str → Option NameKind} {x : Str} : ∀ {binds : List (Str × Value)} {m : Str → Option Value}, (∀ v, (x, v) ∉ binds) → bindL kindOf binds m x = m x
  | [], _, _ => rfl
  | (n, v) :: r, m, h => by
    unfold bindL
    rw [BK fun w hw => h w (List.mem_cons_of_mem _ hw)]
    split
    · have : x ≠ n := by rintro rfl; exact h v List.mem_cons_self
      simp [this]
    · rfl
theorem BP {kindOf : Str → Option NameKind} {x : Str} : ∀ {binds : List (Str × Value)} {m : Str → Option Value}, (∀ v, (x, v) ∉ binds) → bindC kindOf binds m x = m x
  | [], _, _ => rfl
  | (n, v) :: r, m, h => by
    unfold bindC
    rw [BP fun w hw => h w (List.mem_cons_of_mem _ hw)]
    split
    · rfl
    · have : x ≠ n := by rintro rfl; exact h v List.mem_cons_self
      simp [this]
theorem BL {kindOf : Str → Option NameKind} {x : Str} {v : Value} : ∀ {P : List Str} {vs : List Value} {i : Nat} {m : Str → Option Value}, P.Nodup → P[i]? = some x → vs[i]? = some v → kindOf x = some .local →
    bindL kindOf (P.zip vs) m x = some v
  | [], _, _, _, _, h, _, _ => by simp at h
  | _ :: _, [], _, _, _, _, h, _ => by simp at h
  | p :: P, w :: vs, 0, m, nd, h1, h2, hk => by
    simp at h1 h2; subst h1; subst h2
    show bindL kindOf ((p, w) :: P.zip vs) m p = _
    unfold bindL
    rw [BK fun v hv => (List.nodup_cons.mp nd).1 (List.of_mem_zip hv).1, if_pos hk]
    simp
  | p :: P, w :: vs, i + 1, m, nd, h1, h2, hk => by
    show bindL kindOf ((p, w) :: P.zip vs) m x = _
    unfold bindL
    exact BL (i := i) (List.nodup_cons.mp nd).2 (by simpa using h1) (by simpa using h2) hk
theorem BR {kindOf : Str → Option NameKind} {x : Str} {v : Value} : ∀ {P : List Str} {vs : List Value} {i : Nat} {m : Str → Option Value}, P.Nodup → P[i]? = some x → vs[i]? = some v → kindOf x ≠ some .local →
    bindC kindOf (P.zip vs) m x = some v
  | [], _, _, _, _, h, _, _ => by simp at h
  | _ :: _, [], _, _, _, _, h, _ => by simp at h
  | p :: P, w :: vs, 0, m, nd, h1, h2, hk => by
    simp at h1 h2; subst h1; subst h2
    show bindC kindOf ((p, w) :: P.zip vs) m p = _
    unfold bindC
    rw [BP fun v hv => (List.nodup_cons.mp nd).1 (List.of_mem_zip hv).1, if_neg hk]
    simp
  | p :: P, w :: vs, i + 1, m, nd, h1, h2, hk => by
    show bindC kindOf ((p, w) :: P.zip vs) m x = _
    unfold bindC
    exact BR (i := i) (List.nodup_cons.mp nd).2 (by simpa using h1) (by simpa using h2) hk
def start (N : List Str) (vs : List V) : St := vs.map some ++ List.replicate (N.length - vs.length) none
def Lk (CX : Y4) (P : Program) (w : World) (K : PySem.W.Frag) (mg : Str → Option Value) (base : Heap) (N : List Str) (qual : Str) (scope : Scope) (f : Addr) (cd : Value) (A : Around) (outer : List Env) (s : Shared) (H : Hp) (E : XK) : Cx where
  prog := P
  w := w
  K := K
  mg := mg
  base := base
  A := A.deeper (envOfC qual scope s.heap.objs.size f cd)
  N := N
  s₀ := s
  H₀ := H
  env := envOfC qual scope s.heap.objs.size f cd
  outer := outer
  stack := envOfC qual scope s.heap.objs.size f cd :: outer
  ex := []
  calm := true
  fn := fun _ => true
  pn := []
  xe := fun e s' => wpAny (model P w) (A.deeper (envOfC qual scope s.heap.objs.size f cd)) (leaving (envOfC qual scope s.heap.objs.size f cd) e) (fun _ s'' => CX outer H s E e s'') (fun e' s'' => CX outer H s E e' s'') s'
theorem Jo {sc : Scope} {n : Nat} {x : Str} (h : sc.names.lookup x = some .cell) : ∃ c, (cellsFrom n sc.names []).lookup x = some c := by
  have q := PySem.W.cellsFrom_some sc.names n [] (.inl h)
  exact Option.isSome_iff_exists.mp q
theorem PN {CX : Y4} {P : Program} {w : World} {K : PySem.W.Frag} {mg : Str → Option Value} {base : Heap} {N ps : List Str} {qual : Str} {scope : Scope} {f : Addr} {cd : Value} {A : Around} {outer : List Env} {s s1 : Shared} {H : Hp} {E : XK} {us : List Value} {vs : List V}
    (S : bG N ps scope) (hd : A.handled = none) (e0 : YZ P w K mg base A outer s H) (hl : vs.length = ps.length) (r : Vals vs us)
    (x : InCallC s s.heap.objs.size (bindL (envOfC qual scope s.heap.objs.size f cd).kindOf (ps.zip us) fun _ => none) (cellsFrom (s.heap.objs.size + 1) scope.names []) (bindC (envOfC qual scope s.heap.objs.size f cd).kindOf (ps.zip us) fun _ => none) s1) :
    Inv (Lk CX P w K mg base N qual scope f cd A outer s H E) [] (start N vs) H s1 := by
  have hpl : ps.length ≤ N.length := by have := congrArg List.length S.pre; rw [List.length_take] at this; omega
  obtain ⟨h1, tk, rfl, hk⟩ := x.done
  have noA : ∀ b : Addr, b ∉ (Lk CX P w K mg base N qual scope f cd A outer s H E).ex := fun b z => absurd (show b ∈ ([] : List Addr) from z) (by simp)
  refine ⟨⟨e0.mod, S.kind, rfl, rfl, Nat.le_refl _, fun y z c h1 h2 => ?_, fun y hy => ?_, fun y c _ h => ?_, fun _ => hd, Around.frames_deeper e0.frames, .inr ⟨rfl, rfl⟩, fun b z => absurd z (noA b), e0.bs, e0.ZK, fun b _ _ => noA b, fun b z => absurd z (noA b), e0.yS, e0.frf⟩,
    rfl, e0.bare, Un.kept hk, ⟨_, x.toInCall.ns, fun i y v h1 h2 h3 => ?_⟩, fun y c h => ⟨_, x.cell y c h⟩, e0.hok.fresh (Nat.le_refl _), fun y c h => ?_, fun p hp => absurd (show p ∈ ([] : List (Addr × Obj)) from hp) (by simp), e0.hok.kept hk, ?_⟩
  · exact name_of_addr x.apart (PySem.mem_of_lookup h1) (PySem.mem_of_lookup h2)
  · have hy : scope.names.lookup y = some .cell ∨ scope.names.lookup y = some .free := hy
    rcases hy with hy | hy
    · exact Jo hy
    · exact absurd rfl (S.abx _ (PySem.mem_of_lookup hy))
  · exact Nat.le_of_lt (x.above y c (PySem.mem_of_lookup h))
  · have hi : i < vs.length := by
      unfold start at h2
      by_cases hi : i < vs.length
      · exact hi
      · rw [List.getElem?_append_right (by simpa using hi)] at h2
        rw [List.getElem?_replicate] at h2
        split at h2 <;> cases h2
    have ha : vs[i]? = some v := by
      unfold start at h2
      rw [List.getElem?_append_left (by simpa using hi), List.getElem?_map] at h2
      cases e : vs[i]? with
      | none => rw [e] at h2; cases h2
      | some a => rw [e] at h2; cases h2; rfl
    obtain ⟨u, hu, rv⟩ := r.get ha
    have hp : ps[i]? = some y := by
      rw [← S.pre, List.getElem?_take_of_lt (by omega)]; exact h1
    have ndP : ps.Nodup := by rw [← S.pre]; exact S.nd.sublist (List.take_sublist _ _)
    refine ⟨u, rv, ?_⟩
    rcases S.par y (List.mem_of_getElem? hp) with k | k
    · exact .inl ⟨k, BL ndP hp hu k⟩
    · obtain ⟨c, e⟩ := Jo (n := s.heap.objs.size + 1) k
      refine .inr ⟨.inl k, c, e, ?_⟩
      have q := x.cell y c e
      rw [BR ndP hp hu (by show scope.names.lookup y ≠ _; rw [k]; decide)] at q
      exact q
  · exact e0.hok.fresh (Nat.le_of_lt (x.above y c (PySem.mem_of_lookup h)))
  · unfold start
    show _ = N.length
    rw [List.length_append, List.length_map, List.length_replicate]
    omega
theorem afW {CX : Y4} {P : Program} {w : World} {K : PySem.W.Frag} {mg : Str → Option Value} {base : Heap} {k : Nat} {f : Addr} {name qual : Str} {params : Arguments} {body : List Stmt} {scope : Scope} {dV kV doc pm cdv ct oc : Value} {an od : Option Addr}
    {osl : Array (Option Value)} {N ps : List Str} {sp : Sp} (lk : K.lookup f = some ⟨oc, od, .func (PySem.W.fnOf name qual params body scope dV kV doc pm an cdv ct), osl⟩) (hcd : PySem.W.codeIn K cdv qual = true) (S : bG N ps scope)
    (len : ∀ vs H Q E, sp vs H Q E → vs.length = ps.length)
    (hbody : ∀ (A : Around) (outer : List Env) (s : Shared) (H : Hp) (vs : List V) (Q : VK) (E : XK), gR k (A.deeper (envOfC qual scope s.heap.objs.size f cdv)) → sp vs H Q E →
      ∃ t, JD (Lk CX P w K mg base N qual scope f cdv A outer s H E) body t ∧ t { nx := fun _ H' => Q .non H', rt := Q } (start N vs) H) :
    pA P w K mg base CX (k + 1) f (PySem.W.fnOf name qual params body scope dV kV doc pm an cdv ct) ps sp := by
  refine ⟨len, fun A outer s H args us vs Q E hr e0 hb r hsp => ?_⟩
  have hl := len _ _ _ _ hsp
  have KX : K.In s.heap := e0.mod.QF.keeps fun b o e => (e0.bs b o e).1
  have lim : s.heap.NoLimit := e0.mod.nolimit.keeps fun b o e => (e0.bs b o e).1
  have hkind : ∀ y ∈ ps.zip us, scope.names.lookup y.1 = some .local ∨ (scope.names.lookup y.1 = some .cell ∧ ((cellsFrom (s.heap.objs.size + 1) scope.names []).lookup y.1).isSome = true) := fun ⟨n, v⟩ hy => by
    rcases S.par n (List.of_mem_zip hy).1 with q | q
    · exact .inl q
    · exact .inr ⟨q, PySem.W.cellsFrom_some _ _ _ (.inl q)⟩
  refine codeAny_call_function hr.depth (KX _ _ lk) rfl S.co S.gen rfl (PySem.W.codeRec_of KX hcd) (hb _ _ _ _ ?_)
  refine wpAny_newFunctionEnv_cells S.kind hkind fun env he s1 x => ?_
  subst he
  refine ⟨lim.keeps x.toInCall.keep, codeAny_func ?_⟩
  obtain ⟨t, ht, hq⟩ := hbody A outer s H vs Q E (hr.deeper _) hsp
  have I : Inv (Lk CX P w K mg base N qual scope f cdv A outer s H E) [] (start N vs) H s1 := PN S hr.hd e0 hl r x
  refine wpAny_mono (ht [] s1 (start N vs) H _ I hq) (fun fl s' hs => ?_) fun e s' hs => hs
  have fin : ∀ {σ' : St} {H' : Hp} {v : V} {u : Value}, Inv (Lk CX P w K mg base N qual scope f cdv A outer s H E) [] σ' H' s' → RelV v u → Q v H' → CE outer P w H s Q u s' :=
    fun {σ' H' v u} J rv q => ⟨v, H', J.os, J.bare, J.base, J.hok, rv, q⟩
  cases fl with
  | ret u =>
    obtain ⟨v, σ', H', J, rv, q⟩ := hs
    exact fin J rv q
  | next =>
    obtain ⟨σ', H', J, q⟩ := hs
    exact fin (v := V.non) (u := Value.none) J rfl q
  | brk =>
    obtain ⟨_, _, _, q⟩ := hs
    exact False.elim q
  | cont =>
    obtain ⟨_, _, _, q⟩ := hs
    exact False.elim q
end L2
namespace L2
open PySem PySem.Spec PyProof.Rows
section
variable {X : Cx} {x : Str} {p pos : Pos} {e : Expr} {es : List Expr} {t : TA} {id T : String} {r : List V → Hp → VK → Prop}
def tCB (r : List V → Hp → VK → Prop) (t : TA) : TE := fun σ H Q => t σ H fun vs H1 => r vs H1 Q
theorem yu (hc : gM X (.builtin id) r) (hg : Gl X x) (hm : X.mg x = none) (hv : bootBuiltins x = some (.builtin id)) (ha : PA X (e :: es) t) (hn : x ≠ "__name__" := by decide) (hdb : (x == ("__debug__" : Str)) = false := by decide)
    (he : starEach (e :: es) X.env = (false, eval e X.env) :: starEach es X.env := by rfl) (hpl : (backTo pos (starEach es X.env)).any (·.1) = false := by rfl) : PE X (.Call (.Name x p) (e :: es) [] pos) (tCB r t) := by
  intro pins s σ H Q I h
  refine wpAny_Call_Name_kw (yI I hg hm hv ?_ hn hdb)
  exact PyProof.Rows.callWith_builtin1 (il (ha pos pins s σ H _ I h) fun us s1 ⟨vs, H1, I1, r1, q1⟩ => hc pins s1 σ H1 vs us Q I1 r1 q1) he hpl
theorem Bl (hc : gM X (.type T) r) (hg : Gl X x) (hm : X.mg x = none) (hv : bootBuiltins x = some (.type T)) (ha : PA X (e :: es) t) (hn : x ≠ "__name__" := by decide) (hdb : (x == ("__debug__" : Str)) = false := by decide)
    (he : starEach (e :: es) X.env = (false, eval e X.env) :: starEach es X.env := by rfl) (hpl : (backTo pos (starEach es X.env)).any (·.1) = false := by rfl) : PE X (.Call (.Name x p) (e :: es) [] pos) (tCB r t) := by
  intro pins s σ H Q I h
  refine wpAny_Call_Name_kw (yI I hg hm hv ?_ hn hdb)
  exact PyProof.Rows.callWith_type1 (il (ha pos pins s σ H _ I h) fun us s1 ⟨vs, H1, I1, r1, q1⟩ => hc pins s1 σ H1 vs us Q I1 r1 q1) he hpl
end
end L2
namespace HT
open PySem PyProof.Rows
section
variable {prog : Program} {w : World} {A : Around} {E : Value → Shared → Prop} {s : Shared}
theorem YG {t b : Addr} {vs ws : List Value} {Q : Value → Shared → Prop} (ht : IsTup s.heap t vs.toArray) (hb : IsTup s.heap b ws.toArray) (hv : vs ≠ [])
    (h1 : ws = [] → Q (.ref t) s) (h2 : ws ≠ [] → Q (.ref s.heap.objs.size) { s with heap := s.heap.push { cls := .type "tuple", data := .seq (vs ++ ws).toArray } })
    (hsz : vs.length + ws.length ≤ sizeLine) : wpAny (model prog w) A (binaryOp .Add (.ref t) (.ref b)) Q E s := by
  obtain ⟨⟨cls, dd, data, sl⟩, ho, hc, n, hd⟩ := id ht
  obtain ⟨⟨cls2, dd2, data2, sl2⟩, ho2, hc2, n2, hd2⟩ := id hb
  simp only at hc hd hc2 hd2
  subst hc hd hc2 hd2
  have e : vs.toArray ++ ws.toArray = (vs ++ ws).toArray := by simp
  by_cases hw : ws = []
  · exact concat_meets ⟨_, ho, rfl⟩ ⟨_, ho2, rfl⟩ noFill_tuple_add seq_tuple_add PySem.F.slot_tuple_add PySem.F.entry_tuple_add (PySem.F.args_tuple_add_2 _ _)
      (tuple_addW1 t b vs.toArray ws.toArray n n2 dd dd2 sl sl2 (by simpa using hv) (by simp [hw])) ⟨ho, ho2, h1 hw⟩
  · refine concat_meets ⟨_, ho, rfl⟩ ⟨_, ho2, rfl⟩ noFill_tuple_add seq_tuple_add PySem.F.slot_tuple_add PySem.F.entry_tuple_add (PySem.F.args_tuple_add_2 _ _)
      (tuple_addW2 t b vs.toArray ws.toArray n n2 dd dd2 sl sl2 (by simpa using hv) (by simpa using hw) (by rw [List.size_toArray, List.size_toArray]; exact hsz)) ⟨ho, ho2, ?_⟩
    rw [e]
    exact h2 hw
def dJ (n d : Nat) : Option Int → Nat
  | none => d
  | some v => if v < 0 then (v + (n : Int)).toNat else min v.toNat n
theorem Wf (n d k : Nat) : dJ n d (some (k : Int)) = min k n := by
  show (if (k : Int) < 0 then ((k : Int) + (n : Int)).toNat else min (k : Int).toNat n) = min k n
  rw [if_neg (by omega), Int.toNat_natCast]
theorem CV (n d : Nat) (hd : d ≤ n) (o : Option Int) : dJ n d o ≤ n := by
  cases o with
  | none => exact hd
  | some v =>
    show (if v < 0 then (v + (n : Int)).toNat else min v.toNat n) ≤ n
    by_cases hv : v < 0
    · rw [if_pos hv]; omega
    · rw [if_neg hv]; exact Nat.min_le_right _ _
theorem NP (v : Int) (n d : Nat) : (if v < 0 then max (v + (n : Int)) 0 else min v (n : Int)) = ((dJ n d (some v) : Nat) : Int) := by
  show (if v < 0 then max (v + (n : Int)) 0 else min v (n : Int)) = (((if v < 0 then (v + (n : Int)).toNat else min v.toNat n) : Nat) : Int)
  by_cases hv : v < 0
  · simp only [if_pos hv]; omega
  · simp only [if_neg hv]; omega
theorem Mg (lo hi : Option Int) (n : Nat) : Builtin.Slice.sliceAdjust lo hi 1 (n : Int) = (((dJ n 0 lo : Nat) : Int), ((dJ n n hi : Nat) : Int)) := by
  have h1 : ¬ ((1 : Int) < 0) := by omega
  unfold Builtin.Slice.sliceAdjust
  simp only [h1, if_false]
  refine Prod.ext ?_ ?_
  · cases lo with
    | none => rfl
    | some v => exact NP v n 0
  · cases hi with
    | none => rfl
    | some v => exact NP v n n
theorem Kg (i j : Nat) : Builtin.Slice.slicePlaces (i : Int) (j : Int) 1 = j - i := by
  unfold Builtin.Slice.slicePlaces
  have h1 : (1 : Int) > 0 := by omega
  simp only [h1, if_true, Int.ediv_one]
  split <;> omega
theorem xZ {v : Value} {o : Option Int} {Q : Option Int → Shared → Prop} (p : IsPart v o) (h : Q o s) : wpAny (model prog w) A (Builtin.Slice.slicePartIndex v) Q E s := by
  cases p with
  | none => exact slicePart_none h
  | int i t => exact slicePart_int h
theorem nC {sl : Addr} {vl vu : Value} {lo hi : Option Int} {n : Nat} {Q : Int × Int × Nat → Shared → Prop} (hs : s.heap.IsSliceOf sl vl vu .none) (pl : IsPart vl lo) (pu : IsPart vu hi)
    (h : Q (((dJ n 0 lo : Nat) : Int), 1, dJ n n hi - dJ n 0 lo) s) : wpAny (model prog w) A (Builtin.Slice.sliceApplied (.ref sl) (pure (n : Int))) Q E s := by
  obtain ⟨os, hos, hcs, hds⟩ := id hs
  unfold Builtin.Slice.sliceApplied Builtin.Slice.sliceFields
  refine wpAny_bind (wpAny_bind (wpAny_field hos hds (x := vl) rfl (wpAny_bind (wpAny_field hos hds (x := vu) rfl (wpAny_bind (wpAny_field hos hds (x := .none) rfl (wpAny_pure ?_)))))))
  refine wpAny_bind (slicePart_none ?_)
  show wpAny _ _ (if ((1 : Int) == 0) = true then _ else _) _ _ s
  rw [if_neg (by decide)]
  refine wpAny_bind (xZ pl (wpAny_bind (xZ pu (wpAny_bind (wpAny_pure ?_)))))
  show wpAny _ _ (match Builtin.Slice.sliceAdjust lo hi 1 (n : Int) with | (lo, hi) => pure (lo, (1 : Int), Builtin.Slice.slicePlaces lo hi 1)) _ _ s
  rw [Mg lo hi n]
  show wpAny _ _ (pure (((dJ n 0 lo : Nat) : Int), (1 : Int), Builtin.Slice.slicePlaces ((dJ n 0 lo : Nat) : Int) ((dJ n n hi : Nat) : Int) 1)) _ _ s
  rw [Kg]
  exact wpAny_pure h
theorem RX (xs : Array Value) (i k : Nat) : ((List.range k).filterMap fun (m : Nat) => xs[((i : Int) + (m : Int) * 1).toNat]?).toArray = ((xs.toList.drop i).take k).toArray := by
  have e : (fun (m : Nat) => xs[((i : Int) + (m : Int) * 1).toNat]?) = fun m => xs[i + m]? := by
    funext m
    have : ((i : Int) + (m : Int) * 1).toNat = i + m := by omega
    rw [this]
  rw [e]
  have := pick_run xs i k
  rw [List.filterMap_map] at this
  have e2 : ((fun x => xs[x]?) ∘ fun x => i + x) = fun m => xs[i + m]? := rfl
  rw [e2] at this
  rw [this]
theorem uB {t sl : Addr} {items : Array Value} {vl vu : Value} {lo hi : Option Int} {Q : Value → Shared → Prop} (ht : IsTup s.heap t items) (hs : s.heap.IsSliceOf sl vl vu .none) (pl : IsPart vl lo) (pu : IsPart vu hi)
    (hw : ¬ (dJ items.size 0 lo = 0 ∧ dJ items.size items.size hi = items.size))
    (h : Q (.ref s.heap.objs.size) { s with heap := s.heap.push { cls := .type "tuple", data := .seq ((items.toList.drop (dJ items.size 0 lo)).take (dJ items.size items.size hi - dJ items.size 0 lo)).toArray } })
    (hsz : items.size ≤ sizeLine) : wpAny (model prog w) A (getItem (.ref t) (.ref sl)) Q E s := by
  have Nm : sizeOk (.seq ((items.toList.drop (dJ items.size 0 lo)).take (dJ items.size items.size hi - dJ items.size 0 lo)).toArray) := by
    show ((items.toList.drop (dJ items.size 0 lo)).take (dJ items.size items.size hi - dJ items.size 0 lo)).toArray.size ≤ sizeLine
    rw [List.size_toArray, List.length_take, List.length_drop, Array.length_toList]
    omega
  have hj : dJ items.size items.size hi ≤ items.size := CV _ _ (Nat.le_refl _) hi
  obtain ⟨os, hos, hcs, hds⟩ := id hs
  have hTs : s.TypeIs (.ref sl) "slice" := ⟨os, hos, hcs⟩
  unfold getItem
  try with_reducible refine wpAny_holding ?_
  first | refine wpAny_bind (wpAny_pure ?_) | skip
  refine wpAny_bind (wpAny_sequenceKey ht.typeIs (by decide) ?_)
  refine wpAny_bind (wpAny_callSpecial?_slot (name := Str.ofString "__getitem__") ht.typeIs PyProof.Rows.slot_tuple_getitem
    (wpAny_call_entry PyProof.Rows.slot_tuple_getitem ht.typeIs entry_tuple_getitem ?_ (args_tuple_getitem _ _)))
  show wpAny _ _ (Builtin.Tuple.tupleItemsOf (.ref t) >>= _) _ _ s
  refine wpAny_bind (tupleItemsOf_ ht ?_)
  refine wpAny_bind (wpAny_typeOf hTs ?_)
  rw [if_pos (by decide)]
  refine wpAny_bind (nC hs pl pu ?_)
  have hno : ¬ ((((dJ items.size 0 lo : Nat) : Int) == 0 && (1 : Int) == 1 && (dJ items.size items.size hi - dJ items.size 0 lo) == items.size) = true) := by
    intro q
    rw [Bool.and_eq_true, Bool.and_eq_true] at q
    have q1 : ((dJ items.size 0 lo : Nat) : Int) = 0 := eq_of_beq q.1.1
    have q2 : dJ items.size items.size hi - dJ items.size 0 lo = items.size := eq_of_beq q.2
    exact hw ⟨by omega, by omega⟩
  show wpAny _ _ (if (((dJ items.size 0 lo : Nat) : Int) == 0 && (1 : Int) == 1 && (dJ items.size items.size hi - dJ items.size 0 lo) == items.size) = true then _ else _) _ _ s
  rw [if_neg hno, RX]
  first
    | exact wpAny_bind (m := Builtin.Tuple.tupleExact _) (wpAny_newObj_type (wpAny_pure ⟨_, rfl, wpAny_pure h⟩) Nm)
    | exact wpAny_bind (m := Builtin.Tuple.tupleExact _) (wpAny_newObj_type (wpAny_bind (wpAny_pure (wpAny_pure ⟨_, rfl, wpAny_pure h⟩))) Nm)
    | exact wpAny_bind (wpAny_bind (m := Builtin.Tuple.tupleExact _) (wpAny_newObj_type (wpAny_pure (wpAny_pure ⟨_, rfl, wpAny_pure h⟩)) Nm))
    | exact wpAny_bind (wpAny_bind (m := Builtin.Tuple.tupleExact _) (wpAny_newObj_type (wpAny_pure ⟨_, rfl, wpAny_pure h⟩) Nm))
end
end HT
namespace L2
open PySem PySem.Spec PyProof.Rows
abbrev TO := St → Hp → (Option Int → Hp → Prop) → Prop
def PO (X : Cx) (e : Option Expr) (t : TO) : Prop :=
  ∀ (pins : List (Addr × Obj)) (s : Shared) (σ : St) (H : Hp) (Q : Option Int → Hp → Prop), Inv X pins σ H s → t σ H Q →
    wpAny (model X.prog X.w) X.A (evalPart e X.env) (fun u s' => ∃ o H', Inv X pins σ H' s' ∧ IsPart u o ∧ Q o H') X.xe s
def V2 : TO := fun _ H Q => Q none H
def adZ (t : TE) : TO := fun σ H Q => t σ H fun x H1 => ∃ i, x = .int i ∧ Q (some i) H1
section
variable {X : Cx} {e : Expr} {te : TE} {lo hi : Option Expr} {tl th : TO} {pos p2 : Pos}
theorem WN : PO X none V2 := by
  intro pins s σ H Q I h
  rw [evalPart_none]
  exact wpAny_pure ⟨none, H, I, .none, h⟩
theorem WM (h : PE X e te) : PO X (some e) (adZ te) := by
  intro pins s σ H Q I hw
  rw [evalPart_some]
  refine il (h pins s σ H _ I hw) fun u s1 ⟨x, H1, I1, r1, q1⟩ => ?_
  obtain ⟨i, rfl, q⟩ := q1
  obtain ⟨t, rfl⟩ := r1
  exact ⟨some i, H1, I1, .int i t, q⟩
def Mh (X : Cx) (r : V → Option Int → Option Int → Hp → VK → Prop) : Prop :=
  ∀ (pins : List (Addr × Obj)) (s : Shared) (σ : St) (H : Hp) (x : V) (v vl vu : Value) (lo hi : Option Int) (sl : Addr) (Q : VK), Inv X pins σ H s → RelV x v → s.heap.IsSliceOf sl vl vu .none → IsPart vl lo → IsPart vu hi → r x lo hi H Q →
    ∃ T id, typeLookup (.type T) "__getitem__" = pure (some (.builtin id)) ∧ s.TypeIs v T ∧ wpAny (model X.prog X.w) X.A (getItem v (.ref sl)) (EP X pins σ Q) X.xe s
theorem Mh.or {r r' : V → Option Int → Option Int → Hp → VK → Prop} (h : Mh X r) (h' : Mh X r') : Mh X (fun x lo hi H Q => r x lo hi H Q ∨ r' x lo hi H Q) := by
  intro pins s σ H x v vl vu lo hi sl Q I rx hs pl pu q
  rcases q with q | q
  · exact h pins s σ H x v vl vu lo hi sl Q I rx hs pl pu q
  · exact h' pins s σ H x v vl vu lo hi sl Q I rx hs pl pu q
def tSl (r : V → Option Int → Option Int → Hp → VK → Prop) (te : TE) (tl th : TO) : TE := fun σ H Q => te σ H fun x H1 => tl σ H1 fun l H2 => th σ H2 fun u H3 => r x l u H3 Q
theorem yt {r : V → Option Int → Option Int → Hp → VK → Prop} (hr : Mh X r) (he : PE X e te) (hl : PO X lo tl) (hu : PO X hi th) : PE X (.Subscript e (.Slice lo hi none p2) pos) (tSl r te tl th) := by
  intro pins s σ H Q I h
  refine Subscript_ (il (he pins s σ H _ I h) fun v s1 ⟨x, H1, I1, r1, q1⟩ => ?_)
  refine wpAny_Slice (il (hl pins s1 σ H1 _ I1 q1) fun vl s2 ⟨l, H2, I2, pl, q2⟩ => il (hu pins s2 σ H2 _ I2 q2) fun vu s3 ⟨u, H3, I3, pu, q3⟩ => ?_)
  rw [evalPart_none]
  refine wpAny_pure ?_
  have I4 : Inv X pins σ H3 { s3 with heap := s3.heap.push { cls := .type "slice", data := .fields #[vl, vu, .none] } } := I3.kept (t' := s3.toks) fun b ob q => Heap.get?_push_of_some _ q
  obtain ⟨T, id, hT, ht, hg⟩ := hr pins { s3 with heap := s3.heap.push { cls := .type "slice", data := .fields #[vl, vu, .none] } } σ H3 x v vl vu l u s3.heap.objs.size Q I4 r1 (Heap.IsSliceOf.new ..) pl pu q3
  show wpAny (model X.prog X.w) X.A (subscriptTail e (.Slice lo hi none p2) v (.ref s3.heap.objs.size)) (EP X pins σ Q) X.xe { s3 with heap := s3.heap.push { cls := .type "slice", data := .fields #[vl, vu, .none] } }
  exact tail_any (ops := [.ref s3.heap.objs.size, v]) ht hT hg (by with_unfolding_all rfl)
def xr (xs : List V) (lo hi : Option Int) : List V := (xs.drop (HT.dJ xs.length 0 lo)).take (HT.dJ xs.length xs.length hi - HT.dJ xs.length 0 lo)
theorem wR (xs : List V) (lo hi : Option Int) : (xr xs lo hi).length ≤ xs.length := by
  unfold xr
  rw [List.length_take, List.length_drop]
  omega
def aav (K : PySem.W.Frag) : V → Option Int → Option Int → Hp → VK → Prop := fun x lo hi H Q => ∃ a xs, x = .ref a ∧ nO K H a xs ∧
  ¬ (HT.dJ xs.length 0 lo = 0 ∧ HT.dJ xs.length xs.length hi = xs.length) ∧ ∀ p, H p = none → Q (.ref p) (upd H p (.tup (xr xs lo hi)))
theorem Cr : Mh X (aav X.K) := by
  intro pins s σ H x v vl vu lo hi sl Q I rx hs pl pu h
  obtain ⟨a, xs, rfl, hx, hw, q⟩ := h
  cases rx
  obtain ⟨its, r, ht, hz⟩ := I.tuple hx
  have hlen : its.toArray.size = xs.length := by rw [List.size_toArray]; exact r.length.symm
  refine ⟨"tuple", _, PyProof.Rows.slot_tuple_getitem.lookup, ht.typeIs, ?_⟩
  refine HT.uB ht hs pl pu (by rw [hlen]; exact hw) ?_ (by rw [hlen]; exact hz)
  rw [hlen]
  refine ⟨.ref s.heap.objs.size, _, I.laid (t' := s.toks) (o := .tup (xr xs lo hi)) (fun b ob q => Heap.get?_push_of_some _ q) (Nat.le_refl _) ?_, rfl, q _ (I.hok.fresh (Nat.le_refl _))⟩
  exact ⟨Nat.le_trans (wR xs lo hi) hz, _, (r.drop (HT.dJ xs.length 0 lo)).take (HT.dJ xs.length xs.length hi - HT.dJ xs.length 0 lo), Ao.new _ _⟩
def Zd (K : PySem.W.Frag) : R2 := fun x y H Q => ∃ a b xs ys, x = .ref a ∧ y = .ref b ∧ nO K H a xs ∧ nO K H b ys ∧ xs ≠ [] ∧ xs.length + ys.length ≤ sizeLine ∧
  (ys = [] → Q (.ref a) H) ∧ (ys ≠ [] → ∀ p, H p = none → Q (.ref p) (upd H p (.tup (xs ++ ys))))
theorem Vals.xC {xs : List V} {us : List Value} (r : Vals xs us) : us = [] ↔ xs = [] := by
  cases r with
  | nil => simp
  | cons _ _ => simp
theorem W8 : kh X (binaryOp .Add) (Zd X.K) := by
  intro pins s σ H x y v u Q I rx ry h
  obtain ⟨a, b, xs, ys, rfl, rfl, ha, hb, hx, hz, q1, q2⟩ := h
  cases rx
  cases ry
  obtain ⟨its, r1, p1, _⟩ := I.tuple ha
  obtain ⟨its2, r2, p2, _⟩ := I.tuple hb
  refine HT.YG p1 p2 (fun z => hx (r1.xC.mp z)) (fun z => ⟨.ref a, H, I, rfl, q1 (r2.xC.mp z)⟩) (fun z => ?_) (by rw [← r1.length, ← r2.length]; exact hz)
  refine ⟨.ref s.heap.objs.size, _, I.laid (t' := s.toks) (o := .tup (xs ++ ys)) (fun b ob q => Heap.get?_push_of_some _ q) (Nat.le_refl _) ?_, rfl, q2 (fun w => z (r2.xC.mpr w)) _ (I.hok.fresh (Nat.le_refl _))⟩
  exact ⟨by rw [List.length_append]; exact hz, _, r1.append r2, Ao.new _ _⟩
end
end L2
namespace L2
open PySem PySem.Spec PyProof.Rows
def XN (n : Nat) (i : Int) : Option Nat := if 0 ≤ i then (if i < n then some i.toNat else none) else if -(n : Int) ≤ i then some (i + n).toNat else none
def pq {α : Type} (xs : List α) (i : Int) : Option α := (XN xs.length i).bind fun j => xs[j]?
theorem Nf {n : Nat} {i : Int} {j : Nat} (h : XN n i = some j) : seqIndex? i n = some j ∧ j < n ∧ -(n : Int) ≤ i ∧ i < n := by
  unfold XN at h
  by_cases h0 : 0 ≤ i
  · rw [if_pos h0] at h
    by_cases h1 : i < n
    · rw [if_pos h1] at h
      have e : i.toNat = j := Option.some.inj h
      exact ⟨by rw [seqIndex_of h0 h1, e], by omega, by omega, h1⟩
    · rw [if_neg h1] at h; cases h
  · rw [if_neg h0] at h
    by_cases h1 : -(n : Int) ≤ i
    · rw [if_pos h1] at h
      have e : (i + n).toNat = j := Option.some.inj h
      exact ⟨by rw [seqIndex_neg (by omega) h1, e], by omega, h1, by omega⟩
    · rw [if_neg h1] at h; cases h
theorem Fz {α : Type} {xs : List α} {i : Int} {v : α} (h : pq xs i = some v) : ∃ j, seqIndex? i xs.length = some j ∧ xs[j]? = some v ∧ j < xs.length ∧ -(xs.length : Int) ≤ i ∧ i < xs.length := by
  unfold pq at h
  cases e : XN xs.length i with
  | none => rw [e] at h; cases h
  | some j =>
    rw [e] at h
    obtain ⟨h1, h2, h3, h4⟩ := Nf e
    exact ⟨j, h1, h, h2, h3, h4⟩
theorem oU {α : Type} {xs : List α} {j : Nat} {v : α} (h : xs[j]? = some v) : pq xs (j : Int) = some v := by
  have hj : j < xs.length := (List.getElem?_eq_some_iff.mp h).1
  have e : XN xs.length (j : Int) = some j := by
    unfold XN
    rw [if_pos (by omega), if_pos (by omega)]; simp
  unfold pq; rw [e]; exact h
def o5 (b : Expr) : Prop := ∀ o i, subscripted b false o i = operate [o, i] (getItem o i)
def YX (X : Cx) (r : R2) : Prop :=
  ∀ (value slice : Expr) (pins : List (Addr × Obj)) (s : Shared) (σ : St) (H : Hp) (x y : V) (v u : Value) (Q : VK), Inv X pins σ H s → RelV x v → RelV y u → r x y H Q →
    subscripted slice false v u = operate [v, u] (getItem v u) → wpAny (model X.prog X.w) X.A (subscriptTail value slice v u) (EP X pins σ Q) X.xe s
def MtR (X : Cx) (id : String) (r : V → List V → Hp → VK → Prop) : Prop :=
  ∀ (pins : List (Addr × Obj)) (s : Shared) (σ : St) (H : Hp) (x : V) (xs : List V) (v : Value) (us : List Value) (Q : VK), Inv X pins σ H s → RelV x v → Vals xs us → r x xs H Q →
    wpAny (model X.prog X.w) X.A (call (.builtin id) (v :: us)) (EP X pins σ Q) X.xe s
section
variable {X : Cx} {a b : Expr} {ta tb : TE} {pos : Pos}
theorem YX.or {r r' : R2} (h : YX X r) (h' : YX X r') : YX X (fun x y H Q => r x y H Q ∨ r' x y H Q) := by
  intro value slice pins s σ H x y v u Q I rx ry q hs
  rcases q with q | q
  · exact h value slice pins s σ H x y v u Q I rx ry q hs
  · exact h' value slice pins s σ H x y v u Q I rx ry q hs
theorem Zg {r : R2} (hr : YX X r) (ha : PE X a ta) (hb : PE X b tb) (hs : o5 b) : PE X (.Subscript a b pos) (tOp r ta tb) := by
  intro pins s σ H Q I h
  exact Subscript_ (adw ha hb I h fun v u s2 x y H2 I2 rx ry q => hr a b pins s2 σ H2 x y v u Q I2 rx ry q (hs _ _))
def ael (K : PySem.W.Frag) : R2 := fun x y H Q => ∃ p xs i v, x = .ref p ∧ y = .int i ∧ lN K H p xs ∧ pq xs i = some v ∧ Q v H
def aej (K : PySem.W.Frag) : R2 := fun x y H Q => ∃ p xs i v, x = .ref p ∧ y = .int i ∧ nO K H p xs ∧ pq xs i = some v ∧ Q v H
def aek : R2 := fun x y H Q => ∃ z i c, x = .str z ∧ y = .int i ∧ z.length ≤ sizeLine ∧ pq z.cps.toList i = some c ∧ Q (.str ⟨#[c]⟩) H
theorem XM : YX X (ael X.K) := by
  intro value slice pins s σ H x y v u Q I rx ry h hs
  obtain ⟨p, xs, i, z, rfl, rfl, hq, he, q⟩ := h
  cases rx
  obtain ⟨t, rfl⟩ := ry
  obtain ⟨its, r, pl, hz⟩ := I.list hq
  obtain ⟨j, h1, h2, h3, h4, h5⟩ := Fz he
  obtain ⟨w, ew, Wg⟩ := r.get h2
  have hl := r.length
  have hn := sO
  have fin : EP X pins σ Q w s := ⟨z, H, I, Wg, q⟩
  by_cases h0 : 0 ≤ i
  · have hj : i.toNat = j := by
      rw [seqIndex_of h0 h5] at h1
      exact Option.some.inj h1
    exact item_listR pl.isList h0 (by omega) (by rw [hj]; simpa using ew) fin hs
  · have hj : (i + (its.toArray.size : Int)).toNat = j := by
      rw [seqIndex_neg (by omega) h4] at h1
      rw [List.size_toArray, ← hl]
      exact Option.some.inj h1
    exact subscriptTail_builtinR (x := w) pl.isList.typeIs slot_list_getitem.lookup
      (wpAny_getItem_list_neg (Q := fun r s' => r = w ∧ EP X pins σ Q r s') pl.isList (by omega) (by rw [List.size_toArray] <;> omega) (by omega) (by rw [hj]; simpa using ew) ⟨rfl, fin⟩) hs
theorem acB : YX X (aej X.K) := by
  intro value slice pins s σ H x y v u Q I rx ry h hs
  obtain ⟨p, xs, i, z, rfl, rfl, hq, he, q⟩ := h
  cases rx
  obtain ⟨t, rfl⟩ := ry
  obtain ⟨its, r, pl, hz⟩ := I.tuple hq
  obtain ⟨j, h1, h2, h3, h4, h5⟩ := Fz he
  obtain ⟨w, ew, Wg⟩ := r.get h2
  have hl := r.length
  have hn := sO
  have fin : EP X pins σ Q w s := ⟨z, H, I, Wg, q⟩
  exact subscriptTail_builtinR (x := w) pl.typeIs slot_tuple_getitem.lookup
    (getItem_tuple (j := j) (Q := fun r s' => r = w ∧ EP X pins σ Q r s') pl (by omega) (by omega) (by rw [List.size_toArray, ← hl]; exact h1) (by simpa using ew) ⟨rfl, fin⟩) hs
theorem acC : YX X aek := by
  intro value slice pins s σ H x y v u Q I rx ry h hs
  obtain ⟨z, i, c, rfl, rfl, hz, he, q⟩ := h
  obtain ⟨t, rfl⟩ := rx
  obtain ⟨t', rfl⟩ := ry
  obtain ⟨j, h1, h2, h3, h4, h5⟩ := Fz he
  have hl : z.cps.toList.length = z.length := by simp [Str.length]
  rw [hl] at h1 h4 h5
  have hn := sO
  exact tail_any (typeIs_str s z t) slot_str_getitem.lookup (getItem_str (c := c) (by
    have e1 : decide (i < -(2 ^ 63 : Int)) = false := decide_eq_false (by omega)
    have e2 : decide (i ≥ 2 ^ 63) = false := decide_eq_false (by omega)
    rw [e1, e2, Bool.or_false]) (by rw [h1]; simpa using h2) ⟨.str ⟨#[c]⟩, H, I.tok _, ⟨_, rfl⟩, q⟩) hs
def rIx (K : PySem.W.Frag) : R2 := fun x y H Q => ael K x y H Q ∨ aej K x y H Q ∨ aek x y H Q
theorem T5 : YX X (rIx X.K) := XM.or (acB.or acC)
theorem KH (its : List Value) (n j : Nat) (u : Value) : Obj.mapSeq (·.setIfInBounds j u) { cls := .type "list", data := .seq its.toArray n } = { cls := .type "list", data := .seq (its.set j u).toArray n } := by
  simp [Obj.mapSeq]
theorem Inv.lst {pins : List (Addr × Obj)} {σ : St} {H : Hp} {s : Shared} {p : Addr} {xs : List V} (I : Inv X pins σ H s) (h : H p = some (.lst xs)) :
    ∃ (its : List Value) (n : Nat), Vals xs its ∧ s.heap.get? p = some { cls := .type "list", data := .seq its.toArray n } ∧ xs.length ≤ sizeLine := by
  obtain ⟨z, its, n, r, e⟩ := I.hok p _ h
  exact ⟨its, n, r, e, z⟩
theorem Inv.abC {pins : List (Addr × Obj)} {σ : St} {H : Hp} {s : Shared} {p : Addr} {xs ys : List V} {its its' : List Value} {n n' : Nat} {f : Obj → Obj} (I : Inv X pins σ H s) (h : H p = some (.lst xs))
    (ho : s.heap.get? p = some { cls := .type "list", data := .seq its.toArray n }) (hf : f { cls := .type "list", data := .seq its.toArray n } = { cls := .type "list", data := .seq its'.toArray n' }) (r : Vals ys its') (hz : ys.length ≤ sizeLine) (t : Nat) :
    Inv X pins σ (upd H p (.lst ys)) { s with heap := s.heap.update p f, toks := t } := by
  have e : (s.heap.update p f).get? p = some { cls := .type "list", data := .seq its'.toArray n' } := by
    rw [Heap.get?_update_self f ho (by rw [hf] <;> rfl), hf]
  refine I.write (x := p) (e := p) (by rw [h]; trivial) (.inl rfl) (fun b u hb q => (Heap.get?_update_other _ _ (Ne.symm hb)).trans q) ⟨_, e⟩ ?_
  exact ⟨hz, its', n', r, e⟩
def aee : V → V → V → Hp → (Hp → Prop) → Prop := fun o i v H Q => ∃ p xs k j, o = .ref p ∧ i = .int k ∧ H p = some (.lst xs) ∧ XN xs.length k = some j ∧ Q (upd H p (.lst (xs.set j v)))
theorem set_list : agb X aee := by
  intro pins s σ H o i v ov iv u Q I ro ri rv h
  obtain ⟨p, xs, k, j, rfl, rfl, hp, hj, q⟩ := h
  cases ro
  obtain ⟨t, rfl⟩ := ri
  obtain ⟨its, n, r, ho, hz⟩ := I.lst hp
  obtain ⟨h1, h2, h3, h4⟩ := Nf hj
  have hl := r.length
  have hn := sO
  have I' : Inv X pins σ (upd H p (.lst (xs.set j v))) { s with heap := s.heap.update p (Obj.mapSeq (·.setIfInBounds j u)) } :=
    I.abC hp ho (KH its n j u) (r.set rv j) (by rw [List.length_set]; exact hz) s.toks
  by_cases h0 : 0 ≤ k
  · have hk : k.toNat = j := by
      rw [seqIndex_of h0 h4] at h1
      exact Option.some.inj h1
    exact PySem.W.ki_setAt ho h0 (by omega) (by rw [List.size_toArray, ← hl]; exact h4) (by rw [hk]; exact ⟨_, I', q⟩)
  · have hk : (k + (its.toArray.size : Int)).toNat = j := by
      rw [seqIndex_neg (by omega) h3] at h1
      rw [List.size_toArray, ← hl]
      exact Option.some.inj h1
    exact PySem.W.ki_setBack ho (by omega) (by rw [List.size_toArray, ← hl]; exact h3) (by omega) (by rw [hk]; exact ⟨_, I', q⟩)
theorem Cq (lo hi : Option Int) (n : Nat) : (sliceBounds lo hi none n).1 = ((HT.dJ n 0 lo : Nat) : Int) ∧ (sliceBounds lo hi none n).2.1 = ((HT.dJ n n hi : Nat) : Int) ∧ (sliceBounds lo hi none n).2.2 = 1 := by
  refine ⟨?_, ?_, rfl⟩
  · cases lo with
    | none => simp [sliceBounds, HT.dJ]
    | some i =>
      simp only [sliceBounds, HT.dJ, Option.getD_none, show (1 : Int) > 0 by decide, if_true]
      by_cases h : i < 0
      · simp only [h, if_true] <;> omega
      · simp only [h, if_false] <;> omega
  · cases hi with
    | none => simp [sliceBounds, HT.dJ]
    | some i =>
      simp only [sliceBounds, HT.dJ, Option.getD_none, show (1 : Int) > 0 by decide, if_true]
      by_cases h : i < 0
      · simp only [h, if_true] <;> omega
      · simp only [h, if_false] <;> omega
theorem z7 (its : List Value) (lo hi : Option Int) : slicePick its.toArray lo hi none = ((its.drop (HT.dJ its.length 0 lo)).take (HT.dJ its.length its.length hi - HT.dJ its.length 0 lo)).toArray := by
  obtain ⟨h1, h2, h3⟩ := Cq lo hi its.toArray.size
  unfold slicePick
  rw [h1, h2, h3]
  simp only [sliceRange_one, pick_run, List.size_toArray] <;> rfl
def aed (K : PySem.W.Frag) : V → Option Int → Option Int → Hp → VK → Prop := fun x lo hi H Q => ∃ a xs, x = .ref a ∧ lN K H a xs ∧ ∀ p, H p = none → Q (.ref p) (upd H p (.lst (xr xs lo hi)))
theorem Mw : Mh X (aed X.K) := by
  intro pins s σ H x v vl vu lo hi sl Q I rx hs pl pu h
  obtain ⟨a, xs, rfl, hx, q⟩ := h
  cases rx
  obtain ⟨its, r, ht, hz⟩ := I.list hx
  have hlen := r.length
  refine ⟨"list", _, slot_list_getitem.lookup, ht.isList.typeIs, ?_⟩
  refine wpAny_getItem_list_slice ht.isList hs pl pu .none (by simp) ?_ (by rw [List.size_toArray] <;> omega)
  rw [z7, ← hlen]
  refine ⟨.ref s.heap.objs.size, _, I.laid (t' := s.toks) (o := .lst (xr xs lo hi)) (fun b ob q => Heap.get?_push_of_some _ q) (Nat.le_refl _) ?_, rfl, q _ (I.hok.fresh (Nat.le_refl _))⟩
  exact ⟨Nat.le_trans (wR xs lo hi) hz, _, 0, (r.drop (HT.dJ xs.length 0 lo)).take (HT.dJ xs.length xs.length hi - HT.dJ xs.length 0 lo), Heap.get?_push_size _ rfl⟩
theorem gM.or {f : Value} {r r' : List V → Hp → VK → Prop} (h : gM X f r) (h' : gM X f r') : gM X f (fun xs H Q => r xs H Q ∨ r' xs H Q) := by
  intro pins s σ H xs us Q I rs q
  rcases q with q | q
  · exact h pins s σ H xs us Q I rs q
  · exact h' pins s σ H xs us Q I rs q
theorem Fv : gM X (.type "list") (fun xs H Q => ∃ p ys, xs = [.ref p] ∧ (lN X.K H p ys ∨ nO X.K H p ys) ∧ ∀ l, H l = none → Q (.ref l) (upd H l (.lst ys))) := by
  intro pins s σ H xs us Q I r h
  obtain ⟨p, ys, rfl, hq, q⟩ := h
  obtain ⟨u, rfl, rx⟩ := vals1 r
  cases rx
  have fin : ∀ (its : List Value), Vals ys its → ys.length ≤ sizeLine → ∀ (h' : Heap) (c' : Nat), (∀ b o', s.heap.get? b = some o' → h'.get? b = some o') →
      h'.get? s.heap.objs.size = some { cls := .type "list", dict := none, data := .seq its.toArray c', slots := #[] } → EP X pins σ Q (.ref s.heap.objs.size) { s with heap := h' } := fun its r' hz h' c' kp e =>
    ⟨.ref s.heap.objs.size, _, I.laid (t' := s.toks) kp (Nat.le_refl _) (show f9 X.prog X.w _ h' _ (.lst ys) from ⟨hz, its, c', r', e⟩), rfl, q _ (I.hok.fresh (Nat.le_refl _))⟩
  rcases hq with hq | hq
  · obtain ⟨its, r', pl, hz⟩ := I.list hq
    have hlen := r'.length
    obtain ⟨o, ho, hc, n, hd⟩ := pl.isList
    exact call_list_seq p (.inl rfl) ho hc hd (fun h' c' kp e => fin its r' hz h' c' kp e) (by simp only [List.size_toArray] <;> omega)
  · obtain ⟨its, r', pl, hz⟩ := I.tuple hq
    have hlen := r'.length
    obtain ⟨o, ho, hc, n, hd⟩ := pl
    exact call_list_seq p (.inr rfl) ho hc hd (fun h' c' kp e => fin its r' hz h' c' kp e) (by simp only [List.size_toArray] <;> omega)
theorem Ak : gM X (.type "tuple") (fun xs H Q => ∃ p ys, xs = [.ref p] ∧ ((lN X.K H p ys ∧ ∀ l, H l = none → Q (.ref l) (upd H l (.tup ys))) ∨ (nO X.K H p ys ∧ Q (.ref p) H))) := by
  intro pins s σ H xs us Q I r h
  obtain ⟨p, ys, rfl, h⟩ := h
  obtain ⟨u, rfl, rx⟩ := vals1 r
  cases rx
  rcases h with ⟨hq, q⟩ | ⟨hq, q⟩
  · obtain ⟨its, r', pl, hz⟩ := I.list hq
    have hlen := r'.length
    refine call_tuple_list pl.isList (fun h' kp => ?_) (by simp only [List.size_toArray] <;> omega)
    have I1 : Inv X pins σ H { s with heap := h' } := I.kept (t' := s.toks) kp
    have I2 : Inv X pins σ (upd H h'.objs.size (.tup ys)) { s with heap := h'.push { cls := .type "tuple", data := .seq its.toArray } } :=
      I1.laid (t' := s.toks) (fun b o e => Heap.get?_push_of_some _ e) (Nat.le_refl _) (show f9 X.prog X.w _ _ _ (.tup ys) from ⟨hz, its, r', Ao.new _ _⟩)
    exact ⟨.ref h'.objs.size, _, I2, rfl, q _ (I1.hok.fresh (Nat.le_refl _))⟩
  · obtain ⟨its, r', pl, hz⟩ := I.tuple hq
    exact call_tuple_same pl ⟨.ref p, H, I, rfl, q⟩
def tyV (K : PySem.W.Frag) (T : String) (x : V) (H : Hp) : Prop := match x with
  | .str _ => T = "str"
  | .int _ => T = "int"
  | .ref p => (T = "list" ∧ ∃ xs, lN K H p xs) ∨ (T = "tuple" ∧ ∃ o, K.lookup p = some o ∧ o.cls = .type "tuple" ∧ o.dict = none) ∨
      (T = "dict" ∧ ((∃ kvs, H p = some (.dK kvs)) ∨ ∃ kvs, H p = some (.dT kvs))) ∨ (T = "set" ∧ ∃ S n, H p = some (.set S n))
  | _ => False
theorem Z9 {pins : List (Addr × Obj)} {σ : St} {H : Hp} {s : Shared} {T : String} {x : V} {v : Value} (I : Inv X pins σ H s) (r : RelV x v) (ty : tyV X.K T x H) :
    s.TypeIs v T ∧ ∀ a, v = .ref a → ∃ ob, s.heap.get? a = some ob ∧ ob.dict = none := by
  cases x with
  | str z =>
    obtain ⟨t, rfl⟩ := r
    cases (show T = "str" from ty)
    exact ⟨typeIs_str s z t, fun _ e => nomatch e⟩
  | int i =>
    obtain ⟨t, rfl⟩ := r
    cases (show T = "int" from ty)
    exact ⟨typeIs_int s i t, fun _ e => nomatch e⟩
  | ref p =>
    cases r
    rcases ty with ⟨rfl, xs, hq⟩ | ⟨rfl, o, hk, hc, hd⟩ | ⟨rfl, hk⟩ | ⟨rfl, S, n, hk⟩
    · obtain ⟨its, _, pl, _⟩ := I.list hq
      refine ⟨pl.isList.typeIs, fun a e => ?_⟩
      cases e
      obtain ⟨o, n, e, c, hd, _⟩ := pl
      exact ⟨o, e, hd⟩
    · refine ⟨⟨o, I.kIn p o hk, hc⟩, fun a e => ?_⟩
      cases e
      exact ⟨o, I.kIn _ o hk, hd⟩
    · have z : ∃ o, s.heap.get? p = some o ∧ o.ExactDict := by
        rcases hk with ⟨kvs, hk⟩ | ⟨kvs, hk⟩
        · obtain ⟨_, _, _, _, o, _, _, e, ex, _⟩ := I.hok p _ hk
          exact ⟨o, e, ex⟩
        · obtain ⟨_, _, _, _, o, _, _, e, ex, _⟩ := I.hok p _ hk
          exact ⟨o, e, ex⟩
      obtain ⟨o, e, ex⟩ := z
      refine ⟨⟨o, e, ex.1⟩, fun a e2 => ?_⟩
      cases e2
      exact ⟨o, e, ex.2.1⟩
    · obtain ⟨o, _, _, _, e, ex, _⟩ := I.hok p _ hk
      refine ⟨⟨o, e, ex.1⟩, fun a e2 => ?_⟩
      cases e2
      exact ⟨o, e, ex.2.1⟩
  | _ => exact False.elim ty
def tBM (K : PySem.W.Frag) (T : String) (r : V → List V → Hp → VK → Prop) (to : TE) (t : TA) : TE := fun σ H Q => to σ H fun x H1 => tyV K T x H1 ∧ t σ H1 fun xs H2 => r x xs H2 Q
variable {o e : Expr} {es : List Expr} {to : TE} {t : TA} {name : Str} {apos cpos : Pos} {T id : String} {r : V → List V → Hp → VK → Prop}
theorem Zh (pa : PlainAttrs T) (slot : Slot T name id) (hty : typeOf (.builtin id) = pure (.type "method_descriptor")) (hm : MtR X id r) (ho : PE X o to) (ha : PA X (e :: es) t)
    (hbase : attributeBase o name X.env (eval o X.env) = eval o X.env := by rfl)
    (hfew : ((backTo cpos (starEach (e :: es) X.env)).all (fun x => !x.1) && (backToKw cpos (keywordEach [] X.env)).all (fun x => x.1.isSome)
      && decide ((e :: es).length + ([] : List Keyword).length + (if ([] : List Keyword).isEmpty then 0 else 1) < 30)) = true := by rfl)
    (hline : (apos.endLine == cpos.line) = true := by rfl) (hs : starEach (e :: es) X.env = (false, eval e X.env) :: starEach es X.env := by rfl) (hplain : (backTo cpos (starEach es X.env)).any (·.1) = false := by rfl) :
    PE X (.Call (.Attribute o name apos) (e :: es) [] cpos) (tBM X.K T r to t) := by
  intro pins s σ H Q I h
  refine wpAny_Call_method_late hbase hfew hline rfl (il (ho pins s σ H _ I h) fun v s1 ⟨x, H1, I1, r1, ty, q1⟩ => ?_)
  obtain ⟨h1, h2⟩ := Z9 I1 r1 ty
  refine ⟨T, id, pa, slot, hty, h1, h2, ?_⟩
  have hA := ha cpos pins s1 σ H1 _ I1 q1
  rw [hs] at hA ⊢
  refine Calls.callWith_builtin (by show (false || (backTo cpos (starEach es X.env)).any (·.1)) = false; rw [hplain] <;> rfl) (Calls.evalArgs_plain ?_)
  exact il hA fun us s2 ⟨vs, H2, I2, r2, q2⟩ => hm pins s2 σ H2 x vs v us Q I2 r1 r2 q2
end
end L2
namespace L2
open PySem PySem.Spec PyProof.Rows
def MtM (X : Cx) (id : String) (r : V → List V → Hp → VK → Prop) : Prop :=
  ∀ (pins : List (Addr × Obj)) (s : Shared) (σ : St) (H : Hp) (x : V) (xs : List V) (v : Value) (us : List Value) (Q : VK), Inv X pins σ H s → RelV x v → Vals xs us → r x xs H Q →
    wpAny (model X.prog X.w) X.A (call (.builtin id) (v :: us)) (EP X pins σ Q) X.xe s
theorem Vals.one : ∀ {x : V} {us : List Value}, Vals [x] us → ∃ u, us = [u] ∧ RelV x u
  | _, _, .cons r .nil => ⟨_, rfl, r⟩
section
variable {X : Cx} {pins : List (Addr × Obj)} {σ : St} {H : Hp} {s : Shared} {l b : Addr} {xs ys zs : List V}
theorem Inv.ag2 {its its' : List Value} {n : Nat} {f : Array Value → Array Value} {t' : Nat} (I : Inv X pins σ H s) (hH : H l = some (.lst xs))
    (e : s.heap.get? l = some { cls := .type "list", data := .seq its.toArray n }) (hf : f its.toArray = its'.toArray) (hv : Vals ys its') (hz : ys.length ≤ sizeLine) :
    Inv X pins σ (upd H l (.lst ys)) { s with heap := s.heap.update l (Obj.mapSeq f), toks := t' } := by
  have q := PySem.IsL.update e f
  rw [hf] at q
  refine I.write (x := l) (e := l) (by rw [hH]; exact trivial) (.inl rfl) (fun b' u hb hu => (Heap.get?_update_other s.heap (Obj.mapSeq f) (Ne.symm hb)).trans hu) ⟨_, q⟩ ?_
  exact ⟨hz, its', _, hv, q⟩
theorem Inv.aeX {its : List Value} {t' : Nat} (I : Inv X pins σ H s) (hv : Vals ys its) (hz : ys.length ≤ sizeLine) :
    Inv X pins σ (upd H s.heap.objs.size (.lst ys)) { s with heap := s.heap.push { cls := .type "list", data := .seq its.toArray }, toks := t' } :=
  I.laid (fun _ _ q => Heap.get?_push_of_some _ q) (Nat.le_refl _) ⟨hz, its, 0, hv, Heap.get?_push_size _ rfl⟩
theorem Inv.fresh (I : Inv X pins σ H s) : H s.heap.objs.size = none := I.hok.fresh (Nat.le_refl _)
theorem Inv.abD (I : Inv X pins σ H s) (hH : H l = some (.lst xs)) : xs.length ≤ sizeLine ∧ ∃ (its : List Value) (n : Nat), Vals xs its ∧ xs.length = its.length ∧ s.heap.get? l = some { cls := .type "list", data := .seq its.toArray n } := by
  obtain ⟨z, its, n, r, e⟩ := I.hok l _ hH
  exact ⟨z, its, n, r, r.length, e⟩
theorem aeS {n : Nat} (h : n ≤ sizeLine) : Builtin.List.listTooLong n = false := by
  unfold Builtin.List.listTooLong
  exact decide_eq_false (by omega)
end
section
variable {X : Cx}
def Wn : V → List V → Hp → VK → Prop := fun x vs H Q => ∃ l xs y, x = .ref l ∧ vs = [y] ∧ H l = some (.lst xs) ∧ xs.length < sizeLine ∧ Q .non (upd H l (.lst (xs ++ [y])))
theorem Bp : MtM X "list.append" Wn := by
  intro pins s σ H x vs v us Q I rx rv h
  obtain ⟨l, xs, y, rfl, rfl, hH, hz, q⟩ := h
  cases rx
  obtain ⟨u, rfl, ru⟩ := rv.one
  obtain ⟨z, its, n, r, hl, e⟩ := I.abD hH
  refine call_meets F.slot_list_append ⟨_, e, rfl⟩ F.entry_list_append (F.args_list_append_2 _ _) (PySem.list_append l its.toArray n u (by rw [List.size_toArray]; omega)) ⟨e, ?_⟩
  refine ⟨.non, _, I.ag2 (its' := its ++ [u]) hH e (by simp) (r.append (.cons ru .nil)) ?_, rfl, q⟩
  rw [List.length_append, List.length_singleton]
  omega
def aer : R2 := fun x y H Q => ∃ l b xs zs, x = .ref l ∧ y = .ref b ∧ H l = some (.lst xs) ∧ H b = some (.lst zs) ∧ xs.length + zs.length ≤ sizeLine ∧ ∀ p, H p = none → Q (.ref p) (upd H p (.lst (xs ++ zs)))
theorem abb : kh X (binaryOp .Add) aer := by
  intro pins s σ H x y v u Q I rx ry h
  obtain ⟨l, b, xs, zs, rfl, rfl, hH, hB, hz, q⟩ := h
  cases rx
  cases ry
  obtain ⟨z, its, n, r, hl, e⟩ := I.abD hH
  obtain ⟨z2, its2, n2, r2, hl2, e2⟩ := I.abD hB
  refine PySem.P.add_list e e2 ?_ (by rw [List.size_toArray, List.size_toArray]; omega)
  have ea : its.toArray ++ its2.toArray = (its ++ its2).toArray := by simp
  rw [ea]
  exact ⟨.ref _, _, I.aeX (t' := s.toks) (r.append r2) (by rw [List.length_append]; omega), rfl, q _ I.fresh⟩
theorem len_rep {α : Type} (xs : List α) (k : Nat) : (List.replicate k xs).flatten.length = k * xs.length := by
  induction k with
  | zero => simp
  | succ k ih => rw [List.replicate_succ, List.flatten_cons, List.length_append, ih, Nat.succ_mul, Nat.add_comm]
end
section
variable {prog : Program} {w : World} {A : Around} {E : Value → Shared → Prop} {s : Shared}
set_option maxRecDepth 100000 in
end
end L2
namespace Att
open PySem PySem.W PySem.Calls PyProof.Rows
theorem xq {P : Params} {h : Heap} : ∀ (ns : List Int) (vs : List Value), WellAll P h vs (ns.map WData.int) → IntsAre vs ns := by
  intro ns
  induction ns with
  | nil =>
    intro vs w
    rw [List.map_nil] at w
    cases w
    exact .nil
  | cons n ns ih =>
    intro vs w
    rw [List.map_cons] at w
    cases w with
    | cons a b =>
      cases a
      exact .cons _ _ (ih _ b)
theorem Oz {l : OpenLaw} {n : Nat} (hn : l.most = some n) {P : Params} {h : Heap} {args : List WData} {vals : List Value}
    (hpre : l.row.toRowW.claim.pre args = true) (hwl : WellAll P h vals args) :
    ∃ a vs ns, vals = [Value.ref a] ∧ args = [WData.list (ns.map WData.int)] ∧ h.get? a = some { cls := .type "list", data := .seq vs.toArray } ∧ IntsAre vs ns ∧ ns.length ≤ n := by
  have hsh : WShape.hasAll [] args [.list .int] = true := (pre_splitW hpre).1
  have hc : l.pre.holds [] { args := args } = true := (pre_splitW hpre).2
  obtain ⟨d, r, rfl, h1, h2⟩ := hasAllW_cons hsh
  obtain rfl := hasAllW_nil h2
  obtain ⟨xs, rfl, h3⟩ := hasW_list h1
  obtain ⟨ns, rfl⟩ := items_int h3
  have hlen : ns.length ≤ n := by
    unfold OpenLaw.pre at hc
    have h4 : (WTm.not (.lt (.lit (.int (n : Int))) (.len (.arg 0)))).holds [] { args := [.list (ns.map .int)] } = true := by
      have h4 := (holds_andW hc).1
      rw [hn] at h4
      exact h4
    have h5 := condW_of h4 (w_not (w_lt w_lit (w_len_list (w_arg rfl))))
    rw [List.length_map] at h5
    refine Nat.le_of_not_lt fun q => ?_
    have q' : (n : Int) < ((ns.length : Nat) : Int) := by omega
    first
      | (rw [decide_eq_true q'] at h5; exact absurd h5 (by decide))
      | (simp at h5; omega)
  cases hwl with
  | cons w1 w2 =>
    cases w2
    cases w1 with
    | list ho hall => exact ⟨_, _, ns, rfl, rfl, ho, xq ns _ hall, hlen⟩
theorem O5 (l : OpenLaw) (args : List WData) : l.row.toRowW.claim.post args (.bool true) args = true :=
  postW_of (r := l.row.toRowW) (X := (true == true))
    (show WShape.has [] (.bool true) .bool = true by first | rfl | decide | simp [WShape.has, WShape.arms, WShape.armsAll])
    (show (WTm.eq .res (.lit (.bool true))).value [] { args := args, res := some (.bool true), after := args } = some (.bool (true == true)) from w_eq_bool (w_res rfl) w_lit) rfl
end Att
namespace L2
open PySem PySem.Spec PyProof.Rows
theorem Ay : ∀ {vs : List Value} {ns : List Int}, IntsAre vs ns → Vals (ns.map V.int) vs
  | _, _, .nil => .nil
  | _, _, .cons n t h => .cons ⟨t, rfl⟩ (Ay h)
def Only (H : Hp) : Prop := ∀ b, H b = none ∨ ∃ o xs, H b = some (.VJ o (.lst xs))
theorem SN {P : Program} {w : World} {K : PySem.W.Frag} {mg mb : Str → Option Value} {CX : Y4} {k : Nat} {fa a : Addr} {fd : FuncData} {x : Str} {sp : Sp} {s₁ : Shared} {vs : List Value} {ns : List Int}
    (KX : K.In s₁.heap) (hns : s₁.heap.Ns mainGlobals mg) (hb : s₁.heap.Ns builtinsNs mb) (hbb : ∀ x : Str, x ≠ "__name__" → mb x = bootBuiltins x) (hlim : s₁.heap.NoLimit) (hg : s₁.gens = #[])
    (ha : s₁.heap.get? a = some { cls := .type "list", data := .seq vs.toArray }) (hi : IntsAre vs ns) (hl : ns.length ≤ sizeLine) (hr : gR k callerA)
    (F : ∀ base : Heap, K.In base → base.Ns mainGlobals mg → pA P w K mg base CX k fa fd [x] sp) (hbind : ∀ (s : Shared) (u : Value), BindsTo s fd ⟨[u], []⟩ [(x, u)])
    (hsp : ∀ H : Hp, Only H → lN K H a (ns.map V.int) → sp [.ref a] H (fun v _ => v = .bl true) fun _ _ _ => False)
    (hCX : ∀ H e s', CX [] H s₁ (fun _ _ _ => False) e s' → False) :
    codeAny (model P w) callerA (.call (.ref fa) ⟨[.ref a], []⟩) (fun r s' => r = .ok (.ret (.bool true)) ∧ OldK s₁.heap s'.heap ∧ s'.os = s₁.os ∧ AllBare s'.gens) s₁ := by
  have rv := Ay hi
  have lenV := hi.length
  -- from an abstract heap in which nothing but the script may be tracked
  have core : ∀ H : Hp, Only H → lN K H a (ns.map V.int) → uQ P w H s₁.heap → (∀ b, H b ≠ none → b = a) → (H a ≠ none → K.lookup a = none) →
      codeAny (model P w) callerA (.call (.ref fa) ⟨[.ref a], []⟩) (fun r s' => r = .ok (.ret (.bool true)) ∧ OldK s₁.heap s'.heap ∧ s'.os = s₁.os ∧ AllBare s'.gens) s₁ := by
    intro H hO hS hok hA hK
    have NT : ∀ {b : Addr} {o : Obj}, s₁.heap.get? b = some o → H b = none → (Ej s₁.heap H).get? b = some o := fun e n => Ub e n
    have noA : ∀ {b : Addr} {o : Obj} {es : Array DictEntry} {ep : Nat}, s₁.heap.get? b = some o → o.data = .dict es ep → H b = none := fun {b o es ep} e d => by
      cases q : H b with
      | none => rfl
      | some u =>
        have e' : b = a := hA b (by rw [q]; simp)
        subst e'
        rw [ha] at e; cases e
        have d' : Data.seq vs.toArray _ = Data.dict es ep := d
        cases d'
    have nsK : ∀ {b : Addr} {m : Str → Option Value}, s₁.heap.Ns b m → (Ej s₁.heap H).Ns b m := fun {b m} ⟨o, es, ep, e, d, r⟩ => ⟨o, es, ep, NT e (noA e d), d, r⟩
    have hKb : K.In (Ej s₁.heap H) := fun b o e => NT (KX b o e) (by
      cases q : H b with
      | none => rfl
      | some u =>
        have e' : b = a := hA b (by rw [q]; simp)
        subst e'
        rw [hK (by rw [q]; simp)] at e; cases e)
    have hM : Mod K mg (Ej s₁.heap H) := ⟨hKb, nsK hns, ⟨mb, nsK hb, hbb⟩, let ⟨mc, h1, h2⟩ := hlim; ⟨mc, nsK h1, h2⟩⟩
    have e0 : YZ P w K mg (Ej s₁.heap H) callerA [] s₁ H := ⟨rfl, hM, fun b o e => Xa e, Nat.le_of_eq (Qa _ _), trivial, fun b hb => absurd (show b ∈ ([] : List Addr) from hb) (by simp), hok, .of_eq hg⟩
    refine codeAny_mono ((F _ hKb (nsK hns)).run callerA [] s₁ H ⟨[.ref a], []⟩ [.ref a] [.ref a] _ _ hr e0 (hbind s₁ (.ref a)) (.cons rfl .nil) (hsp H hO hS)) fun r s' h => ?_
    cases r with
    | error e => exact (hCX H e s' h).elim
    | ok fl =>
      cases fl with
      | next => exact False.elim h
      | brk => exact False.elim h
      | cont => exact False.elim h
      | ret u =>
        obtain ⟨v, H', os, bare, un, hok', r', q⟩ := h
        have q' : v = .bl true := q
        subst q'
        obtain rfl : u = Value.bool true := r'
        refine ⟨rfl, OldK.of_keep fun b o e => ?_, os, bare⟩
        cases q : H b with
        | none => exact un.keep b o e q (by intro z; exact absurd (show b ∈ ([] : List Addr) from z) (by simp)) (by simp)
        | some u =>
          rcases hO b with z | ⟨ob, xs, z⟩
          · rw [q] at z; cases z
          · have z2 := un.Et b ob _ z
            obtain ⟨e1, _⟩ := hok b _ z
            obtain ⟨e2, _⟩ := hok' b _ z2
            rw [e] at e1; cases e1
            exact e2
  cases hk : K.lookup a with
  | some o =>
    -- the script is one of the module's own objects
    have e := KX a o hk
    rw [ha] at e
    cases e
    refine core (fun _ => none) (fun _ => .inl rfl) (.inr ⟨_, vs.toArray, _, hk, rfl, rfl, rfl, by rw [List.size_toArray, lenV]; exact hl, by simpa using rv⟩) (fun b u z => by have z' : (none : Option HO) = some u := z; cases z') (fun b z => absurd rfl z) fun z => absurd rfl z
  | none =>
    refine core (fun b => if b = a then some (.VJ { cls := .type "list", data := .seq vs.toArray } (.lst (ns.map V.int))) else none) (fun b => ?_) (.inl (.inr ⟨{ cls := .type "list", data := .seq vs.toArray }, if_pos rfl⟩)) (fun b u z => ?_) (fun b z => ?_) fun _ => hk
    · by_cases hb : b = a
      · exact .inr ⟨_, _, if_pos hb⟩
      · exact .inl (if_neg hb)
    · by_cases hb : b = a
      · have z' := (if_pos hb).symm.trans z
        cases z'
        subst hb
        exact ⟨ha, by rw [List.length_map]; exact hl, vs, _, rv, ha⟩
      · have z' := (if_neg hb).symm.trans z
        cases z'
    · by_cases hb : b = a
      · exact hb
      · exact absurd (if_neg hb) z
end L2
namespace L2
open PySem PySem.Spec PyProof.Rows
def bK (s : Stmt) : Arguments := match s with
  | .FunctionDef _ a _ _ _ _ _ _ _ _ => a
  | _ => { posonlyargs := [], args := [], vararg := none, kwonlyargs := [], kw_defaults := [], kwarg := none, defaults := [] }
def bz (s : Stmt) : List Stmt := match s with
  | .FunctionDef _ _ b _ _ _ _ _ _ _ => b
  | _ => []
def aD (s : Stmt) : Scope := match s with
  | .FunctionDef _ _ _ _ _ _ sc _ _ _ => sc
  | _ => { kind := .function, names := [], isGenerator := false, isCoroutine := false }
abbrev JB : Y4 := fun _ _ _ _ _ _ => False
abbrev E0 : XK := fun _ _ _ => False
theorem R4 {X : Cx} : Passes JB X E0 := fun _ _ _ _ _ _ _ h => h.elim
structure VN (K : PySem.W.Frag) (x qual : Str) (st : Stmt) (f : Addr) (fd : FuncData) : Prop where
  ex : ∃ (oc : Value) (od : Option Addr) (kV doc pm : Value) (an : Option Addr) (cdv ct : Value) (osl : Array (Option Value)),
    fd = PySem.W.fnOf x qual (bK st) (bz st) (aD st) .none kV doc pm an cdv ct ∧ K.lookup f = some ⟨oc, od, .func fd, osl⟩ ∧ PySem.W.codeIn K cdv qual = true
  kp : PySem.W.keepIn K (.ref f) = true
section
variable {P : Program} {w : World} {K : PySem.W.Frag} {mg : Str → Option Value} {base : Heap}
theorem VN.ok {x qual : Str} {st : Stmt} {f : Addr} {fd : FuncData} {N ps : List Str} {k : Nat} {sp : Sp} (F : VN K x qual st f fd) (S : bG N ps (aD st)) (len : ∀ vs H Q E, sp vs H Q E → vs.length = ps.length)
    (hbody : ∀ (cdv : Value) (A : Around) (outer : List Env) (s : Shared) (H : Hp) (vs : List V) (Q : VK) (E : XK), gR k (A.deeper (envOfC qual (aD st) s.heap.objs.size f cdv)) → sp vs H Q E →
      ∃ t, JD (Lk JB P w K mg base N qual (aD st) f cdv A outer s H E).nox (bz st) t ∧ t { nx := fun _ H' => Q .non H', rt := Q } (start N vs) H) : pA P w K mg base JB (k + 1) f fd ps sp := by
  obtain ⟨oc, od, kV, doc, pm, an, cdv, ct, osl, rfl, lk, hcd⟩ := F.ex
  refine afW lk hcd S len fun A outer s H vs Q E hr hsp => ?_
  obtain ⟨t, h, q⟩ := hbody cdv A outer s H vs Q E hr hsp
  exact ⟨t, h.nox, q⟩
theorem VN.binds {x qual : Str} {st : Stmt} {f : Addr} {fd : FuncData} {ps : List Str} (F : VN K x qual st f fd)
    (h : ∀ (kV doc pm : Value) (an : Option Addr) (cdv ct : Value) (us : List Value), us.length = ps.length → bindArgs (PySem.W.fnOf x qual (bK st) (bz st) (aD st) .none kV doc pm an cdv ct) ⟨us, []⟩ = pure (ps.zip us)) : Binds K fd ps [] := by
  obtain ⟨oc, od, kV, doc, pm, an, cdv, ct, osl, rfl, lk, hcd⟩ := F.ex
  exact .all (h kV doc pm an cdv ct)
theorem Le {x qual : Str} {st : Stmt} {f : Addr} {oc : Value} {od an : Option Addr} {osl : Array (Option Value)} {kV doc pm cdv ct : Value} (l : K.lookup f = some ⟨oc, od, .func (PySem.W.fnOf x qual (bK st) (bz st) (aD st) .none kV doc pm an cdv ct), osl⟩)
    (c : PySem.W.codeIn K cdv qual = true) (k : PySem.W.keepIn K (.ref f) = true) : VN K x qual st f (PySem.W.fnOf x qual (bK st) (bz st) (aD st) .none kV doc pm an cdv ct) := ⟨⟨oc, od, kV, doc, pm, an, cdv, ct, osl, rfl, l, c⟩, k⟩
end
theorem aft {A B : Prop} (h : B) : if false = true then A else B := by
  rw [if_neg Bool.false_ne_true]
  exact h
theorem afs {A B : Prop} (h : A) : if true = true then A else B := by
  rw [if_pos rfl]
  exact h
def aH (H H' : Hp) : Prop := ∀ b o, H b = some o → H' b = some o
theorem aH.refl (H : Hp) : aH H H := fun _ _ h => h
theorem aH.trans {H H1 H2 : Hp} (a : aH H H1) (b : aH H1 H2) : aH H H2 := fun c o h => b c o (a c o h)
theorem aH.free {H H' : Hp} (e : aH H H') {l : Addr} (h : H' l = Option.none) : H l = Option.none := by
  cases q : H l with
  | none => rfl
  | some o =>
    rw [e l o q] at h
    cases h
theorem aH.seq {K : PySem.W.Frag} {H H' : Hp} {a : Addr} {xs : List V} (e : aH H H') (h : lN K H a xs) : lN K H' a xs := by
  rcases h with (h | ⟨o, h⟩) | h
  · exact .inl (.inl (e _ _ h))
  · exact .inl (.inr ⟨o, e _ _ h⟩)
  · exact .inr h
end L2
set_option maxHeartbeats 4000000
namespace L2
open PySem PySem.Spec PyProof.Rows
section
variable {κ : Type} [DecidableEq κ]
def xf (kvs : List (κ × V)) (k : κ) : Option V := (kvs.find? fun kv => decide (kv.1 = k)).map (·.2)
def putK (kvs : List (κ × V)) (k : κ) (v : V) : List (κ × V) :=
  if (kvs.any fun kv => decide (kv.1 = k)) = true then kvs.map (fun kv => if kv.1 = k then (kv.1, v) else kv) else kvs ++ [(k, v)]
theorem uf {p : κ × V} {r : List (κ × V)} {k : κ} (e : p.1 = k) : xf (p :: r) k = some p.2 := by simp [xf, List.find?_cons, e]
theorem ug {p : κ × V} {r : List (κ × V)} {k : κ} (e : ¬ p.1 = k) : xf (p :: r) k = xf r k := by simp [xf, List.find?_cons, e]
theorem xP (k : κ) : ∀ kvs : List (κ × V), (kvs.any fun kv => decide (kv.1 = k)) = (xf kvs k).isSome
  | [] => rfl
  | p :: r => by
    rw [List.any_cons]
    by_cases e : p.1 = k
    · simp only [uf e, decide_eq_true e, Bool.true_or, Option.isSome_some]
    · rw [ug e, decide_eq_false e, Bool.false_or]; exact xP k r
theorem wK (kvs : List (κ × V)) (k : κ) (v : V) : (putK kvs k v).length ≤ kvs.length + 1 := by
  unfold putK
  split
  · rw [List.length_map]; omega
  · rw [List.length_append, List.length_cons, List.length_nil]; omega
theorem Aq.PL {o : Option V} {u : Option Value} (r : Aq o u) : o.isSome = u.isSome := by
  cases o with
  | none => cases u with
    | none => rfl
    | some _ => exact (show False from r).elim
  | some _ => cases u with
    | none => exact (show False from r).elim
    | some _ => rfl
theorem KV.val {kvs : List (κ × V)} {vs : List (κ × Value)} (r : KV kvs vs) (k : κ) : Aq (xf kvs k) (valueAt vs k) := by
  unfold KV at r
  induction r with
  | nil => exact True.intro
  | @cons p q ps qs h t ih =>
    obtain ⟨h1, h2⟩ := h
    by_cases e : p.1 = k
    · have e' : q.1 = k := h1.symm.trans e
      have b : valueAt (q :: qs) k = some q.2 := by simp [valueAt, List.find?_cons, e']
      rw [uf e, b]; exact h2
    · have e' : ¬ q.1 = k := fun z => e (h1.trans z)
      have b : valueAt (q :: qs) k = valueAt qs k := by simp [valueAt, List.find?_cons, e']
      rw [ug e, b]; exact ih
theorem KV.any {kvs : List (κ × V)} {vs : List (κ × Value)} (r : KV kvs vs) (k : κ) : (kvs.any fun kv => decide (kv.1 = k)) = vs.any fun kv => decide (kv.1 = k) := by
  unfold KV at r
  induction r with
  | nil => rfl
  | cons h t ih => rw [List.any_cons, List.any_cons, ih, h.1]
theorem KV.repl {kvs : List (κ × V)} {vs : List (κ × Value)} (r : KV kvs vs) (k : κ) {y : V} {u : Value} (ry : RelV y u) :
    KV (kvs.map fun kv => if kv.1 = k then (kv.1, y) else kv) (vs.map fun kv => if kv.1 = k then (kv.1, u) else kv) := by
  unfold KV at r ⊢
  induction r with
  | nil => exact .nil
  | @cons p q ps qs h t ih =>
    rw [List.map_cons, List.map_cons]
    refine .cons ?_ ih
    obtain ⟨h1, h2⟩ := h
    by_cases e : p.1 = k
    · rw [if_pos e, if_pos (h1.symm.trans e)]; exact ⟨h1, ry⟩
    · rw [if_neg e, if_neg (fun z => e (h1.trans z))]; exact ⟨h1, h2⟩
theorem KV.put {kvs : List (κ × V)} {vs : List (κ × Value)} (r : KV kvs vs) (k : κ) {y : V} {u : Value} (ry : RelV y u) : KV (putK kvs k y) (stored vs k u) := by
  unfold putK stored
  rw [r.any k]
  by_cases e : (vs.any fun kv => decide (kv.1 = k)) = true
  · rw [if_pos e, if_pos e]; exact r.repl k ry
  · rw [if_neg e, if_neg e]; exact Paired.snoc r ⟨rfl, ry⟩
theorem KV.keys {kvs : List (κ × V)} {vs : List (κ × Value)} (r : KV kvs vs) : kvs.map (·.1) = vs.map (·.1) := by
  unfold KV at r
  induction r with
  | nil => rfl
  | cons h t ih => rw [List.map_cons, List.map_cons, ih, h.1]
theorem KV.length {kvs : List (κ × V)} {vs : List (κ × Value)} (r : KV kvs vs) : kvs.length = vs.length := Paired.length r
end
theorem Tf {P : Program} {w : World} {k : Key} {u : Value} (r : RelV (kV k) u) : (fY P w).is k u = true := by
  cases k with
  | inl i => obtain ⟨t, e⟩ := (show ∃ t, u = Value.int i t from r); subst e; exact Hy P w i t
  | inr x => obtain ⟨t, e⟩ := (show ∃ t, u = Value.str x t from r); subst e; exact Hx P w x t
theorem Bt {P : Program} {w : World} : ∀ {ks : List Key} {us : List Value}, Vals (ks.map kV) us → ItemsAre (fY P w) ks us
  | [], _, r => by rw [List.map_nil] at r; cases r; exact .nil
  | k :: ks, _, r => by
    rw [List.map_cons] at r
    cases r with
    | cons h t => exact .cons (Tf h) (Bt t)
abbrev KT (H : Hp) : List (List Key × V) → List (List Key × Addr × Value) → Prop := Paired fun p q => p.1 = q.1 ∧ H q.2.1 = some (.tup (p.1.map kV)) ∧ RelV p.2 q.2.2
theorem KT.val {H : Hp} {kvs : List (List Key × V)} {xs : List (List Key × Addr × Value)} (r : KT H kvs xs) (k : List Key) : Aq (xf kvs k) ((atKey xs k).map (·.2)) := by
  induction r with
  | nil => exact True.intro
  | @cons p q ps qs h t ih =>
    obtain ⟨h1, _, h2⟩ := h
    by_cases e : p.1 = k
    · have e' : q.1 = k := h1.symm.trans e
      have b : atKey (q :: qs) k = some q.2 := by simp [atKey, List.find?_cons, e']
      rw [uf e, b]; exact h2
    · have e' : ¬ q.1 = k := fun z => e (h1.trans z)
      have b : atKey (q :: qs) k = atKey qs k := by simp [atKey, List.find?_cons, e']
      rw [ug e, b]; exact ih
theorem KT.repl {H : Hp} {kvs : List (List Key × V)} {xs : List (List Key × Addr × Value)} (r : KT H kvs xs) (k : List Key) {y : V} {u : Value} (ry : RelV y u) :
    KT H (kvs.map fun kv => if kv.1 = k then (kv.1, y) else kv) (xs.map (putAt k u)) := by
  induction r with
  | nil => exact .nil
  | @cons p q ps qs h t ih =>
    rw [List.map_cons, List.map_cons]
    refine .cons ?_ ih
    obtain ⟨h1, h2, h3⟩ := h
    unfold putAt
    by_cases e : p.1 = k
    · rw [if_pos e, if_pos (h1.symm.trans e)]; exact ⟨h1, h2, ry⟩
    · rw [if_neg e, if_neg (fun z => e (h1.trans z))]; exact ⟨h1, h2, h3⟩
theorem KT.put {H : Hp} {kvs : List (List Key × V)} {xs : List (List Key × Addr × Value)} (r : KT H kvs xs) (k : List Key) {b : Addr} {y : V} {u : Value} (hb : H b = some (.tup (k.map kV))) (ry : RelV y u) :
    KT H (putK kvs k y) (storedH xs k b u) := by
  have e : (kvs.any fun kv => decide (kv.1 = k)) = (atKey xs k).isSome := by
    rw [xP, (r.val k).PL, Option.isSome_map]
  unfold putK storedH
  rw [e]
  by_cases q : (atKey xs k).isSome = true
  · rw [if_pos q, if_pos q]; exact r.repl k ry
  · rw [if_neg q, if_neg q]; exact Paired.snoc r ⟨rfl, hb, ry⟩
theorem KT.keeps {H H' : Hp} {kvs : List (List Key × V)} {xs : List (List Key × Addr × Value)} (r : KT H kvs xs) (ht : ∀ b ys, H b = some (.tup ys) → H' b = some (.tup ys)) : KT H' kvs xs :=
  Paired.aby r fun _ _ z => ⟨z.1, ht _ _ z.2.1, z.2.2⟩
section
variable {P : Program} {w : World} {H : Hp} {h : Heap} {a : Addr}
theorem Y8 {u : HO} (ok : uQ P w H h) (e : Rd H a u) : f9 P w H h a u := e.ok ok
theorem NB {kvs : List (Key × V)} (ok : uQ P w H h) (e : Rd H a (.dK kvs)) : kvs.length ≤ sizeLine ∧ (a == sysModules) = false ∧ ∃ vs, KV kvs vs ∧ h.DictOf (fY P w) a vs :=
  show f9 P w H h a (.dK kvs) from Y8 ok e
theorem af5 {kvs : List (Key × V)} (ok : uQ P w H h) (e : H a = some (.dK kvs)) : kvs.length ≤ sizeLine ∧ (a == sysModules) = false ∧ ∃ vs, KV kvs vs ∧ h.DictOf (fY P w) a vs := NB ok (.inl e)
theorem KQ {ks : List Key} (ok : uQ P w H h) (e : H a = some (.tup (ks.map kV))) : (tupleKind (fY P w)).is h ks a := by
  obtain ⟨_, its, r, o, h1, h2, ⟨n, h3⟩, _⟩ := (show f9 P w H h a (.tup (ks.map kV)) from ok a _ e)
  exact ⟨o, its.toArray, n, h1, h2, h3, by simpa using Bt r⟩
theorem U0 {kvs : List (List Key × V)} (ok : uQ P w H h) (e : Rd H a (.dT kvs)) : kvs.length ≤ sizeLine ∧ (a == sysModules) = false ∧
    ∃ xs, KT H kvs xs ∧ h.DictOfH (tupleKind (fY P w)) a xs := by
  obtain ⟨z, y, xs, r, o, es, ep, h1, h2, h3, h4, h5⟩ := (show f9 P w H h a (.dT kvs) from Y8 ok e)
  refine ⟨z, y, xs, r, o, es, ep, h1, h2, h3, h4, fun x hx => ?_, h5⟩
  have all : ∀ {l : List (List Key × V)} {m : List (List Key × Addr × Value)}, KT H l m → ∀ x ∈ m, (tupleKind (fY P w)).is h x.1 x.2.1 := by
    intro l m q
    induction q with
    | nil => intro x hx; exact nomatch hx
    | @cons p q ps qs hq t ih =>
      intro x hx
      rcases List.mem_cons.mp hx with e | hx
      · subst e
        exact KQ ok (by rw [← hq.1]; exact hq.2.1)
      · exact ih x hx
  exact all r x hx
theorem af4 {kvs : List (List Key × V)} (ok : uQ P w H h) (e : H a = some (.dT kvs)) : kvs.length ≤ sizeLine ∧ (a == sysModules) = false ∧
    ∃ xs, KT H kvs xs ∧ h.DictOfH (tupleKind (fY P w)) a xs := U0 ok (.inl e)
end
def Y0 (H : Hp) (a : Addr) (y : V) (r : Option V) : Prop :=
  (∃ kvs k, Rd H a (.dK kvs) ∧ y = kV k ∧ r = xf kvs k) ∨ ∃ kvs k b, Rd H a (.dT kvs) ∧ y = .ref b ∧ H b = some (.tup (k.map kV)) ∧ r = xf kvs k
def Vy (H : Hp) (a : Addr) (y v : V) (H' : Hp) : Prop :=
  (∃ kvs k, H a = some (.dK kvs) ∧ y = kV k ∧ kvs.length < sizeLine ∧ H' = upd H a (.dK (putK kvs k v))) ∨
  ∃ kvs k b, H a = some (.dT kvs) ∧ y = .ref b ∧ H b = some (.tup (k.map kV)) ∧ kvs.length < sizeLine ∧ H' = upd H a (.dT (putK kvs k v))
theorem Vy.k {H : Hp} {a : Addr} {kvs : List (Key × V)} {k : Key} {v : V} (e : H a = some (.dK kvs)) (hl : kvs.length < sizeLine) : Vy H a (kV k) v (upd H a (.dK (putK kvs k v))) := .inl ⟨kvs, k, e, rfl, hl, rfl⟩
section
variable {X : Cx} {pins : List (Addr × Obj)} {σ : St} {H : Hp} {s : Shared} {a : Addr} {y v : V} {u r : Value} {o : Option V} {A : Around} {E : Value → Shared → Prop}
theorem Inv.big (I : Inv X pins σ H s) : sysModules < s.heap.objs.size := by
  have h : mainGlobals < s.heap.objs.size := (I.mod.glob.keeps I.bk).lt
  exact Nat.lt_trans (by decide) h
theorem Qn {Q : Value → Shared → Prop} (hu : A.units + 1 < cLine) (I : Inv X pins σ H s) (g : Y0 H a y (some v)) (ry : RelV y u) (h : ∀ w' s', Inv X pins σ H s' → RelV v w' → Q w' s') :
    wpAny (model X.prog X.w) A (getItem (.ref a) u) Q E s := by
  rcases g with ⟨kvs, k, e, ey, l⟩ | ⟨kvs, k, b, e, ey, eb, l⟩
  · subst ey
    obtain ⟨z, hd, vs, rel, dd⟩ := NB I.hok e
    obtain ⟨w', hw, Wg⟩ := Aq.some_of (v := v) (o := valueAt vs k) (by rw [l]; exact rel.val k)
    exact wpAny_getItem_of (Tf ry) dd.mapOf hw (h w' _ (I.tok _) Wg)
  · subst ey
    cases (show u = Value.ref b from ry)
    obtain ⟨z, hd, xs, rel, dd⟩ := U0 I.hok e
    obtain ⟨w', hw, Wg⟩ := Aq.some_of (v := v) (o := (atKey xs k).map (·.2)) (by rw [l]; exact rel.val k)
    obtain ⟨p, hp, hp2⟩ := Option.map_eq_some_iff.mp hw
    refine wpAny_getItem_heap (tupleKind_room_in1 hu) (KQ I.hok eb) dd hp ?_
    rw [hp2]
    exact h w' _ (I.tok _) Wg
theorem NK {h' : Heap} {t' : Nat} {ob : HO} (I : Inv X pins σ H s) (mu : Mut (H a)) (hs : Heap.SameBut a s.heap h') (he : ∃ q, h'.get? a = some q) (new : f9 X.prog X.w (upd H a ob) h' a ob) :
    Inv X pins σ (upd H a ob) { s with heap := h', toks := t' } :=
  I.write (x := a) (e := a) mu (.inl rfl) (fun b q hb z => (hs.2 b hb).trans z) he new
theorem adh {P : Program} {w : World} {H' : Hp} {h' : Heap} {kvs : List (Key × V)} {vs : List (Key × Value)} (z : kvs.length ≤ sizeLine) (hd : (a == sysModules) = false) (rel : KV kvs vs) (dd : h'.DictOf (fY P w) a vs) :
    f9 P w H' h' a (.dK kvs) := ⟨z, hd, vs, rel, dd⟩
theorem Qm {H' : Hp} {Q : Unit → Shared → Prop} (hu : A.units + 1 < cLine) (I : Inv X pins σ H s) (g : Vy H a y v H') (ry : RelV y u) (rv : RelV v r) (h : ∀ s', Inv X pins σ H' s' → Q () s') :
    wpAny (model X.prog X.w) A (setItem (.ref a) u r) Q E s := by
  rcases g with ⟨kvs, k, e, ey, l, eH⟩ | ⟨kvs, k, b, e, ey, eb, l, eH⟩
  · subst ey eH
    obtain ⟨z, hd, vs, rel, dd⟩ := af5 I.hok e
    have hz : vs.length ≤ sizeLine := by rw [← rel.length]; exact z
    have hl : (putK kvs k v).length ≤ sizeLine := by have := wK kvs k v; omega
    refine wpAny_setItem_pairs (hsz := hz) (Tf ry) dd fun h' dd' hs => h _ ?_
    have he : ∃ q, h'.get? a = some q := let ⟨q, _, _, hq, _⟩ := dd'; ⟨q, hq⟩
    exact NK I (by rw [e]; exact True.intro) hs he (adh hl hd (rel.put k rv) dd')
  · subst ey eH
    cases (show u = Value.ref b from ry)
    obtain ⟨z, hd, xs, rel, dd⟩ := af4 I.hok e
    have hz : xs.length ≤ sizeLine := by rw [← Paired.length rel]; exact z
    have hl : (putK kvs k v).length ≤ sizeLine := by have := wK kvs k v; omega
    refine wpAny_setItem_heap (hsz := hz) (tupleKind_room_in1 hu) (KQ I.hok eb) dd fun h' dd' hs => h _ ?_
    obtain ⟨q, es, ep, hq, h2, h3, h4, _, h5⟩ := dd'
    refine NK I (by rw [e]; exact True.intro) hs ⟨q, hq⟩ ⟨hl, hd, _, (rel.put k eb rv).keeps fun c ys ec => ?_, q, es, ep, hq, h2, h3, h4, h5⟩
    rw [bJ (aeU ec e (fun z => nomatch z))]
    exact ec
end
def Vv (i : Expr) : Prop := ∀ ov iv, subscripted i false ov iv = operate [ov, iv] (getItem ov iv)
theorem V4 {prog : Program} {w : World} {A : Around} {E : Value → Shared → Prop} {s : Shared} {env : Env} {value slice : Expr} {pos : Pos} {T id : String} {Q : Value → Shared → Prop}
    (hl : typeLookup (.type T) "__getitem__" = pure (some (.builtin id))) (hs : Vv slice)
    (h : wpAny (model prog w) A (eval value env) (fun o s₁ => wpAny (model prog w) A (eval slice env) (fun i s₂ => s₂.TypeIs o T ∧ wpAny (model prog w) A (getItem o i) Q E s₂) E s₁) E s) :
    wpAny (model prog w) A (eval (.Subscript value slice pos) env) Q E s := by
  refine Subscript_ (wpAny_mono h (fun o s₁ h₁ => wpAny_mono h₁ (fun i s₂ h₂ => ?_) fun _ _ x => x) fun _ _ x => x)
  obtain ⟨hT, h₂⟩ := h₂
  unfold subscriptTail
  refine wpAny_bind ?_
  rw [getitemInPython_of_ne hT.not_modules]
  refine wpAny_bind (wpAny_specialOf hT hl ?_)
  have fin : wpAny (model prog w) A (subscripted slice false o i) (fun r s₃ => wpAny (model prog w) A (letTemporaryGo value o r >>= fun _ => pure r) Q E s₃) E s₂ := by
    rw [hs o i]
    exact wpAny_operating (wpAny_mono h₂ (fun r s₃ h₃ => wpAny_bind (wpAny_letTemporaryGo (wpAny_pure h₃))) fun _ _ x => x)
  first
    | exact wpAny_pure (wpAny_bind fin)
    | exact wpAny_bind (wpAny_pure (wpAny_bind fin))
    | exact wpAny_bind fin
theorem Ja {X : Cx} {pins : List (Addr × Obj)} {σ : St} {H : Hp} {s : Shared} {a : Addr} {y : V} {o : Option V} (I : Inv X pins σ H s) (g : Y0 H a y o) : s.TypeIs (.ref a) "dict" := by
  rcases g with ⟨kvs, k, e, _, _⟩ | ⟨kvs, k, b, e, _, _, _⟩
  · obtain ⟨_, _, vs, _, dd⟩ := NB I.hok e
    exact dd.typeIs
  · obtain ⟨_, _, xs, _, dd⟩ := U0 I.hok e
    exact dd.typeIs
def ad2 (td ty : TE) : TE := fun σ H Q => td σ H fun x H1 => ty σ H1 fun y H2 => ∃ a v, x = .ref a ∧ Y0 H2 a y (some v) ∧ Q v H2
def ad9 (td ty tv : TE) : TS := fun D σ H => tv σ H fun v H1 => td σ H1 fun x H2 => ty σ H2 fun y H3 => ∃ a H4, x = .ref a ∧ Vy H3 a y v H4 ∧ D.nx σ H4
section
variable {X : Cx} {o i e value : Expr} {pos pos' tpos : Pos} {td ty tv : TE}
theorem WY (hu : X.A.units + 1 < cLine) (ho : PE X o td) (hi : PE X i ty) (hs : Vv i) : PE X (.Subscript o i pos) (ad2 td ty) := by
  intro pins s σ H Q I h
  refine V4 PySem.F.slot_dict_getitem.lookup hs (il (ho pins s σ H _ I h) fun u s1 ⟨x, H1, I1, rx, q1⟩ => il (hi pins s1 σ H1 _ I1 q1) fun iv s2 ⟨y, H2, I2, ry, a, v, ex, g, q2⟩ => ?_)
  subst ex
  obtain rfl : u = Value.ref a := rx
  exact ⟨Ja I2 g, Qn hu I2 g ry fun w' s3 I3 Wg => ⟨v, H2, I3, Wg, q2⟩⟩
theorem WL (hu : X.A.units + 1 < cLine) (ho : PE X o td) (hi : PE X i ty) (hv : PE X value tv) (hs : swapsWith value (some (.Subscript o i pos')) pos.line X.env = pure false) :
    PS X (.Assign [.Subscript o i pos'] value pos) (ad9 td ty tv) := by
  intro pins s σ H D I h
  refine wpAny_Assign_Subscript (il (hv pins s σ H _ I h) fun r s1 ⟨v, H1, I1, rv, q1⟩ => il (ho pins s1 σ H1 _ I1 q1) fun u s2 ⟨x, H2, I2, rx, q2⟩ => il (hi pins s2 σ H2 _ I2 q2) fun iv s3 ⟨y, H3, I3, ry, a, H4, ex, g, q3⟩ => ?_) hs
  subst ex
  obtain rfl : u = Value.ref a := rx
  exact Qm hu I3 g ry rv fun s4 I4 => ⟨σ, H4, I4, q3⟩
end
theorem U3 {P : Program} {w : World} {H : Hp} (h : Heap) (hb : sysModules < h.objs.size) : f9 P w H (h.push { cls := .type "dict", data := .dict #[] }) h.objs.size (.dK []) :=
  ⟨Nat.zero_le _, beq_eq_false_iff_ne.mpr (Ne.symm (Nat.ne_of_lt hb)), [], .nil, Heap.DictOf.new h⟩
def aad : TE := fun _ H Q => ∀ p, H p = none → Q (.ref p) (upd H p (.dK []))
section
variable {X : Cx} {pos : Pos}
theorem R3 : PE X (.Dict [] [] pos) aad := fun pins s σ H Q I h =>
  wpAny_Dict_empty ⟨.ref s.heap.objs.size, _, I.laid (a := s.heap.objs.size) (o := .dK []) (t' := s.toks) (fun _ _ q => Heap.get?_push_of_some _ q) (Nat.le_refl _) (U3 s.heap I.big), rfl, h _ (I.hok.fresh (Nat.le_refl _))⟩
end
structure M1 (X : Cx) (o : Expr) (m : Str) (apos : Pos) (e : Expr) (cpos : Pos) : Prop where
  base : attributeBase o m X.env (eval o X.env) = eval o X.env
  few : ((backTo cpos (starEach [e] X.env)).all (fun x => !x.1) && (backToKw cpos (keywordEach [] X.env)).all (fun x => x.1.isSome)
    && decide (([e] : List Expr).length + ([] : List Keyword).length + (if ([] : List Keyword).isEmpty then 0 else 1) < 30)) = true
  line : (apos.endLine == cpos.line) = true
  trees : backTo cpos (starEach [e] X.env) = [(false, eval e X.env)]
structure M2 (X : Cx) (o : Expr) (m : Str) (apos : Pos) (e f : Expr) (cpos : Pos) : Prop where
  base : attributeBase o m X.env (eval o X.env) = eval o X.env
  few : ((backTo cpos (starEach [e, f] X.env)).all (fun x => !x.1) && (backToKw cpos (keywordEach [] X.env)).all (fun x => x.1.isSome)
    && decide (([e, f] : List Expr).length + ([] : List Keyword).length + (if ([] : List Keyword).isEmpty then 0 else 1) < 30)) = true
  line : (apos.endLine == cpos.line) = true
  trees : backTo cpos (starEach [e, f] X.env) = [(false, eval e X.env), (false, eval f X.env)]
end L2
namespace L2
open PySem PySem.Spec PyProof.Rows
def lV (env : Env) : List (Str × NameKind) → List (Str × Addr) → List (Str × Addr)
  | [], acc => acc
  | (n, k) :: r, acc => if k == .free then lV env r ((n, (env.cells.lookup n).getD 0) :: acc) else lV env r acc
theorem zz {env : Env} (f : Str × NameKind → List (Str × Addr) → Sem (ForInStep (List (Str × Addr))))
    (hf : ∀ n k cs, f (n, k) cs = if k == .free then (do let a ← cellOf env n; pure (.yield ((n, a) :: cs))) else pure (.yield cs)) :
    ∀ (names : List (Str × NameKind)) (acc : List (Str × Addr)), (∀ n, (n, NameKind.free) ∈ names → ∃ c, env.cells.lookup n = some c) → forIn names acc f = pure (lV env names acc)
  | [], acc, _ => by rw [List.forIn_nil]; rfl
  | (n, k) :: r, acc, h => by
    have ih := zz f hf r
    have hr : ∀ n, (n, NameKind.free) ∈ r → ∃ c, env.cells.lookup n = some c := fun m hm => h m (List.mem_cons_of_mem _ hm)
    rw [List.forIn_cons, hf]
    cases hk : k == NameKind.free with
    | true =>
      have hk' : k = .free := by simpa using hk
      obtain ⟨c, hc⟩ := h n (by rw [hk']; exact List.mem_cons_self)
      rw [if_pos rfl]
      unfold cellOf
      rw [hc]
      simp only [pure_bind]
      rw [ih _ hr]
      conv => rhs; unfold lV
      rw [if_pos hk, hc]
      rfl
    | false =>
      rw [if_neg (by simp)]
      simp only [pure_bind]
      rw [ih _ hr]
      conv => rhs; unfold lV
      rw [if_neg (by simp [hk])]
theorem zA {scope : Scope} {env : Env} (h : ∀ n, (n, NameKind.free) ∈ scope.names → ∃ c, env.cells.lookup n = some c) : closureFor scope env = pure (lV env scope.names []) := by
  simp only [closureFor]
  rw [zz (env := env) _ (fun n k cs => by cases hk : k == NameKind.free <;> simp [hk]) _ _ h]
  rfl
theorem uG {env : Env} : ∀ (names : List (Str × NameKind)) (acc : List (Str × Addr)) (x : Str) (c : Addr), (∀ n, (n, NameKind.free) ∈ names → ∃ c, env.cells.lookup n = some c) →
    (∀ y d, acc.lookup y = some d → env.cells.lookup y = some d) → (lV env names acc).lookup x = some c → env.cells.lookup x = some c
  | [], acc, x, c, _, ha, h => ha x c h
  | (n, k) :: r, acc, x, c, hn, ha, h => by
    have hr : ∀ n, (n, NameKind.free) ∈ r → ∃ c, env.cells.lookup n = some c := fun m hm => hn m (List.mem_cons_of_mem _ hm)
    unfold lV at h
    split at h
    · rename_i hk
      have hk' : k = .free := by simpa using hk
      obtain ⟨d, hd⟩ := hn n (by rw [hk']; exact List.mem_cons_self)
      refine uG r _ x c hr (fun y e he => ?_) h
      rw [List.lookup_cons] at he
      cases hy : y == n with
      | true =>
        rw [hy] at he
        have e1 : y = n := by simpa using hy
        rw [e1, hd]
        rw [hd] at he
        exact he
      | false =>
        rw [hy] at he
        exact ha y e he
    · exact uG r acc x c hr ha h
theorem wg {env : Env} : ∀ (names : List (Str × NameKind)) (acc : List (Str × Addr)) (x : Str), (acc.lookup x).isSome = true → ((lV env names acc).lookup x).isSome = true
  | [], acc, x, h => h
  | (n, k) :: r, acc, x, h => by
    unfold lV
    split
    · refine wg r _ x ?_
      rw [List.lookup_cons]
      split
      · rfl
      · exact h
    · exact wg r acc x h
theorem uF {env : Env} : ∀ (names : List (Str × NameKind)) (acc : List (Str × Addr)) (x : Str), (x, NameKind.free) ∈ names → ((lV env names acc).lookup x).isSome = true
  | [], acc, x, h => nomatch h
  | (n, k) :: r, acc, x, h => by
    unfold lV
    rcases List.mem_cons.mp h with e | h
    · obtain ⟨e1, e2⟩ := Prod.mk.inj e
      subst e1 e2
      rw [if_pos (by rfl)]
      refine wg r _ x ?_
      rw [List.lookup_cons]
      simp
    · split
      · exact uF r _ x h
      · exact uF r acc x h
theorem dX : ∀ (names : List (Str × NameKind)) (n : Nat) (acc : List (Str × Addr)), cellsFrom n names acc = cellsFrom n names [] ++ acc
  | [], n, acc => rfl
  | (x, k) :: r, n, acc => by
    unfold cellsFrom
    split
    · rw [dX r (n + 1) ((x, n) :: acc), dX r (n + 1) [(x, n)], List.append_assoc]
      rfl
    · exact dX r n acc
theorem mL : ∀ (names : List (Str × NameKind)) (n : Nat) (x : Str) (c : Addr), (x, c) ∈ cellsFrom n names [] → (x, NameKind.cell) ∈ names
  | [], n, x, c, h => nomatch h
  | (y, k) :: r, n, x, c, h => by
    unfold cellsFrom at h
    split at h
    · rename_i hk
      have hk' : k = .cell := by simpa using hk
      rw [dX] at h
      rcases List.mem_append.mp h with h | h
      · exact List.mem_cons_of_mem _ (mL r _ x c h)
      · have e := List.mem_singleton.mp h
        cases e
        rw [hk']
        exact List.mem_cons_self
    · exact List.mem_cons_of_mem _ (mL r _ x c h)
theorem nW {α : Type} : ∀ (l m : List (Str × α)) (x : Str), (l ++ m).lookup x = match l.lookup x with | some v => some v | none => m.lookup x
  | [], m, x => rfl
  | (k, v) :: r, m, x => by
    rw [List.cons_append, List.lookup_cons, List.lookup_cons]
    cases h : x == k with
    | true => rfl
    | false => exact nW r m x
theorem pL {α : Type} : ∀ (l : List (Str × α)) (x : Str), (∀ v, (x, v) ∉ l) → l.lookup x = none
  | [], x, _ => rfl
  | (k, v) :: r, x, h => by
    rw [List.lookup_cons]
    cases e : x == k with
    | true =>
      have e' : x = k := by simpa using e
      exact absurd (by rw [e']; exact List.mem_cons_self) (h v)
    | false => exact pL r x fun w hw => h w (List.mem_cons_of_mem _ hw)
theorem lookup_mem {α : Type} : ∀ (l : List (Str × α)) (x : Str) (v : α), l.lookup x = some v → (x, v) ∈ l
  | [], x, v, h => nomatch h
  | (k, w) :: r, x, v, h => by
    rw [List.lookup_cons] at h
    cases e : x == k with
    | true =>
      rw [e] at h
      cases h
      have e' : x = k := by simpa using e
      rw [e']
      exact List.mem_cons_self
    | false =>
      rw [e] at h
      exact List.mem_cons_of_mem _ (lookup_mem r x v h)
theorem ie {α : Type} : ∀ (l : List (Str × α)) (x : Str) (v : α), (l.map (·.1)).Nodup → (x, v) ∈ l → l.lookup x = some v
  | [], x, v, _, h => nomatch h
  | (k, w) :: r, x, v, nd, h => by
    rw [List.lookup_cons]
    have nd' := List.nodup_cons.mp nd
    rcases List.mem_cons.mp h with e | h
    · cases e
      simp
    · have hne : ¬ x = k := fun e => nd'.1 (by rw [← e]; exact List.mem_map.mpr ⟨(x, v), h, rfl⟩)
      have hb : (x == k) = false := by simpa using hne
      rw [hb]
      exact ie r x v nd'.2 h
theorem Hv {M : Model} {A : Around} {E : Value → Shared → Prop} {s : Shared} {scope : Scope} {globals : Addr} {cl : List (Str × Addr)} {qual : Str} {outer : Env} {Q : Env → Shared → Prop}
    (hQ : ∀ h', h'.Ns s.heap.objs.size (fun _ => none) → (∀ b o, s.heap.get? b = some o → h'.get? b = some o) → CellsOk h' (s.heap.objs.size + 1) (cellsFrom (s.heap.objs.size + 1) scope.names []) →
      Q { scope, locals := s.heap.objs.size, globals, cells := cellsFrom (s.heap.objs.size + 1) scope.names cl, qual, func := none, code := outer.code, frame := outer.frame, builtins := outer.builtins } { s with heap := h' }) :
    wpAny M A (newFunctionEnv scope globals cl [] qual none .none (some outer)) Q E s := by
  simp only [newFunctionEnv, Option.isSome_some, if_true]
  refine wpAny_bind (wpAny_alloc ?_)
  refine wpAny_bind (wpAny_layCells _ (fun name kind cells => by cases hkc : kind == NameKind.cell <;> simp [hkc]) _ _ _ _ ?_)
  have ok := cellsFrom_ok scope.names (s.heap.push { cls := .type "dict", data := .dict #[] }) (s.heap.objs.size + 1) [] ⟨fun _ _ hm => (nomatch hm), List.Pairwise.nil⟩ (by rw [Heap.size_push]; exact Nat.le_refl _)
  rw [Heap.size_push] at ok
  rw [show ({ s with heap := s.heap.push { cls := .type "dict", data := .dict #[] } } : Shared).heap.objs.size = s.heap.objs.size + 1 from Heap.size_push ..]
  refine wpAny_bind ?_
  rw [List.forIn_nil]
  refine wpAny_pure (wpAny_pure (hQ _ ?_ ?_ ?_))
  · exact (Heap.Ns.new s.heap (.type "dict")).keeps (pushCells_keeps _ _)
  · exact fun b o e => pushCells_keeps _ _ b o (Heap.get?_push_of_some _ e)
  · exact ok
end L2
namespace L2
open PySem PySem.Spec PyProof.Rows
def cxC (X : Cx) (scope : Scope) (N' : List Str) (cells : List (Str × Addr)) (C : Addr) (s0 : Shared) (H0 : Hp) (fp : List Addr) : Cx :=
  { X with N := N', s₀ := s0, H₀ := H0, env := compEnvC scope cells C X.env, outer := X.stack, stack := X.stack, ex := fp, fn := fun x => decide (scope.names.lookup x = some .cell), pn := [], xe := fun _ _ => False }
theorem pK {env : Env} : ∀ (names : List (Str × NameKind)) (x : Str),
    (names.map fun (n, k) => if (k == NameKind.free && env.scope.kind == .function && env.kindOf n == some .cell) then (n, NameKind.cell) else (n, k)).lookup x =
      (names.lookup x).map fun k => if (k == NameKind.free && env.scope.kind == .function && env.kindOf x == some .cell) then NameKind.cell else k
  | [], x => rfl
  | (n, k) :: r, x => by
    show List.lookup x ((if (k == NameKind.free && env.scope.kind == .function && env.kindOf n == some .cell) = true then (n, NameKind.cell) else (n, k)) :: _) = _
    cases hx : x == n with
    | true =>
      have e : x = n := by simpa using hx
      subst e
      simp only [List.lookup_cons, hx, Option.map_some]
      split <;> simp [List.lookup_cons]
    | false =>
      simp only [List.lookup_cons, hx]
      rw [← pK r x]
      split <;> simp only [List.lookup_cons, hx]
def U9 (names : List (Str × NameKind)) : List Str → List Str → Bool
  | _, [] => true
  | [], _ :: _ => false
  | x' :: N', x :: N => ((names.lookup x').isNone || (x' == x && names.lookup x' == some .free)) && U9 names N' N
theorem Jm {names : List (Str × NameKind)} : ∀ {N' N : List Str}, U9 names N' N = true → ∀ (i : Nat) (x : Str), i < N.length → N'[i]? = some x → (names.lookup x).isSome = true → N[i]? = some x ∧ names.lookup x = some .free
  | _, [], _, i, x, h, _, _ => absurd h (Nat.not_lt_zero _)
  | [], _ :: _, h, _, _, _, _, _ => by cases h
  | x' :: N', y :: N, h, i, x, hi, e, hs => by
    unfold U9 at h
    have h1 := (Bool.and_eq_true_iff.mp h).1
    have h2 := (Bool.and_eq_true_iff.mp h).2
    cases i with
    | zero =>
      have e' : x' = x := by simpa using e
      subst e'
      rcases Bool.or_eq_true_iff.mp h1 with q | q
      · cases z : names.lookup x' with
        | none => rw [z] at hs; cases hs
        | some k => rw [z] at q; cases q
      · have q1 := (Bool.and_eq_true_iff.mp q).1
        have q2 := (Bool.and_eq_true_iff.mp q).2
        have e1 : x' = y := by simpa using q1
        have e2 : names.lookup x' = some .free := by simpa using q2
        exact ⟨by rw [e1]; rfl, e2⟩
    | succ i => exact Jm h2 i x (by simpa using hi) (by simpa using e) hs
structure lM (X : Cx) (scope : Scope) (N' : List Str) : Prop where
  kind : scope.kind = .function
  nd : (scope.names.map (·.1)).Nodup
  free : ∀ x ∈ scope.names, x.2 = .free → X.env.kindOf x.1 = some .cell ∨ X.env.kindOf x.1 = some .free
  chk : U9 scope.names N' X.N = true
  len : X.N.length ≤ N'.length
def PIf (X : Cx) (ifs : List Expr) (t : TT) : Prop :=
  ∀ (pins : List (Addr × Obj)) (s : Shared) (σ : St) (H : Hp) (Q : Bool → Hp → Prop), Inv X pins σ H s → t σ H Q →
    wpAny (model X.prog X.w) X.A (forIn ifs true fun c r => if r = true then do let ok ← isTrue c X.env (eval c X.env); pure (ForInStep.yield ok) else pure (ForInStep.yield r)) (TP X pins σ Q) X.xe s
theorem WR {X : Cx} : PIf X [] (fun _ H Q => Q true H) := fun pins s σ H Q I h => by
  rw [List.forIn_nil]
  exact wpAny_pure ⟨H, I, h⟩
theorem WQ {X : Cx} {c : Expr} {t : TT} (h : PT X c t) : PIf X [c] t := fun pins s σ H Q I hw => by
  rw [List.forIn_cons, if_pos rfl]
  refine wpAny_bind (wpAny_bind (il (h pins s σ H Q I hw) fun b s' q => ?_))
  refine wpAny_pure ?_
  show wpAny _ _ (forIn [] b _) _ _ _
  rw [List.forIn_nil]
  exact wpAny_pure q
def ux (n : Nat) (σ : St) : St := σ ++ List.replicate n none
def tLC (n : Nat) (wi : TI) (g : TG) (tc : TT) (te : TE) : TE := fun σ H Q => wi σ H fun J H1 => ∀ d, H1 d = none → ∃ W : Nat → Nat → St → Hp → Prop, (∃ m, W 0 m (ux (n - σ.length) σ) (upd H1 d (.lst []))) ∧ ∀ i m σ' H', W i m σ' H' →
  (J.stop i H' ∧ Q (.ref d) H') ∨ (J.go i H' ∧ ∃ N : St → Hp → Prop, (∀ σ2 H2, N σ2 H2 → ∃ m', m' < m ∧ W (i + 1) m' σ2 H2) ∧ ∀ x H2, J.yld i H' x H2 → g x σ' H2 fun σ3 H3 => tc σ3 H3 fun b H4 =>
    if b = true then te σ3 H4 fun y H5 => ∃ ys, H5 d = some (.lst ys) ∧ ys.length < sizeLine ∧ N σ3 (upd H5 d (.lst (ys ++ [y]))) else N σ3 H4)
section
variable {prog : Program} {w : World} {A : Around} {R : Result → Shared → Prop} {s : Shared}
theorem Ft {elt target iter : Expr} {ifs : List Expr} {scope : Scope} {pos : Pos} {it acc : Value} {env : Env} (I : Nat → Shared → Prop)
    (turn : ∀ n s, I n s → wpAny (model prog w) A (pyNext it) (fun r s₁ => match r with
      | none => R (.ok .next) s₁
      | some v => wpAny (model prog w) A (letOwnedTupleGo target it v) (fun _ s₁' => wpAny (model prog w) A (assign target env v) (fun _ s₂ =>
          wpAny (model prog w) A (forIn ifs true fun c r => if r = true then do let ok ← isTrue c env (eval c env); pure (ForInStep.yield ok) else pure (ForInStep.yield r)) (fun ok s₃ =>
            if ok = true then wpAny (model prog w) A (eval elt env) (fun x s₄ =>
              wpAny (model prog w) A (call (.builtin "list.append") [acc, x]) (fun _ s₅ => ∃ m, m < n ∧ I m s₅) (fun _ _ => False) s₄) (fun _ _ => False) s₃
            else ∃ m, m < n ∧ I m s₃) (fun _ _ => False) s₂) (fun _ _ => False) s₁') (fun _ _ => False) s₁) (fun _ _ => False) s)
    (n : Nat) (h : I n s) :
    codeAny (model prog w) A (.compLoop (.ListComp elt [⟨target, iter, ifs, 0⟩] scope pos) 0 it acc env) R s := by
  refine codeAny_loop rfl I (fun n s hI => ?_) n h
  show wpAny _ A ((compTurn (.ListComp elt [⟨target, iter, ifs, 0⟩] scope pos) 0 it acc env).onRaise (fun x => do noteFrame x env; theTreesLotGoes x)) _ _ s
  refine wpAny_noted ?_
  rw [compTurn_list]
  refine wpAny_bind (wpAny_standAt (wpAny_bind (wpAny_mono (turn n s hI) (fun r s₁ h₁ => ?_) fun _ _ h' => h'.elim)))
  cases r with
  | none => exact wpAny_pure h₁
  | some v =>
    refine wpAny_bind (wpAny_mono h₁ (fun _ s₁' h₁' => ?_) fun _ _ h' => h'.elim)
    refine wpAny_bind (wpAny_mono h₁' (fun _ s₂ h₂ => wpAny_bind (wpAny_mono h₂ (fun ok s₃ h₃ => ?_) fun _ _ h' => h'.elim)) fun _ _ h' => h'.elim)
    cases ok with
    | false => exact wpAny_pure ⟨rfl, h₃⟩
    | true =>
      exact wpAny_bind (wpAny_bind (wpAny_mono h₃ (fun x s₄ h₄ => wpAny_bind (wpAny_mono h₄ (fun _ s₅ h₅ => wpAny_pure (wpAny_pure ⟨rfl, h₅⟩)) fun _ _ h' => h'.elim)) fun _ _ h' => h'.elim))
end
theorem T8 {X : Cx} {scope : Scope} {N' : List Str} {pins : List (Addr × Obj)} {σ : St} {H : Hp} {s : Shared} {h' : Heap} {fp : List Addr} (ok : lM X scope N') (I : Inv X pins σ H s) (hf : ∀ b ∈ fp, zT X pins H b) (hlt : ∀ b ∈ fp, b < s.heap.objs.size)
    (hn : h'.Ns s.heap.objs.size (fun _ => none)) (hk : ∀ b o, s.heap.get? b = some o → h'.get? b = some o) (co : CellsOk h' (s.heap.objs.size + 1) (cellsFrom (s.heap.objs.size + 1) scope.names [])) :
    Inv (cxC X scope N' (cellsFrom (s.heap.objs.size + 1) scope.names (lV X.env scope.names [])) s.heap.objs.size s H fp) [] (ux (N'.length - σ.length) σ) H { s with heap := h' } := by
  have hfree : ∀ n, (n, NameKind.free) ∈ scope.names → ∃ c, X.env.cells.lookup n = some c := fun n hm => I.ok.has n (ok.free _ hm rfl)
  -- the cells by name
  have oN : ∀ x c, (cellsFrom (s.heap.objs.size + 1) scope.names (lV X.env scope.names [])).lookup x = some c →
      ((x, c) ∈ cellsFrom (s.heap.objs.size + 1) scope.names [] ∧ (cellsFrom (s.heap.objs.size + 1) scope.names []).lookup x = some c) ∨ ((cellsFrom (s.heap.objs.size + 1) scope.names []).lookup x = none ∧ X.env.cells.lookup x = some c) := fun x c e => by
    rw [dX, nW] at e
    cases q : (cellsFrom (s.heap.objs.size + 1) scope.names []).lookup x with
    | some d => rw [q] at e; cases e; exact .inl ⟨lookup_mem _ _ _ q, rfl⟩
    | none => rw [q] at e; exact .inr ⟨rfl, uG _ _ x c hfree (fun y d h => by simp at h) e⟩
  have yw : ∀ x c, (x, c) ∈ cellsFrom (s.heap.objs.size + 1) scope.names [] → s.heap.objs.size + 1 ≤ c := fun x c h => (co.empty x c h).2
  have R5 : ∀ x c, X.env.cells.lookup x = some c → c < s.heap.objs.size := fun x c h => let ⟨v, q⟩ := I.cell x c h; q.lt
  have DX : ∀ x, (relabel scope X.env).names.lookup x = (scope.names.lookup x).map fun k => if (k == NameKind.free && X.env.scope.kind == .function && X.env.kindOf x == some .cell) then NameKind.cell else k := fun x => pK _ _
  have HX : ∀ x, (x, NameKind.cell) ∈ scope.names → ∃ c, (cellsFrom (s.heap.objs.size + 1) scope.names []).lookup x = some c := fun x hx => by
    have q := PySem.W.cellsFrom_some scope.names (s.heap.objs.size + 1) [] (.inl (ie _ _ _ ok.nd hx))
    exact Option.isSome_iff_exists.mp q
  have fpC : ∀ b ∈ fp, ∀ x c, (cellsFrom (s.heap.objs.size + 1) scope.names (lV X.env scope.names [])).lookup x = some c → c ≠ b := fun b hb x c e => by
    rcases oN x c e with ⟨h1, _⟩ | ⟨_, h2⟩
    · have h3 := yw x c h1
      have h4 := hlt b hb
      rintro rfl
      exact absurd (Nat.lt_of_lt_of_le h4 (Nat.le_of_succ_le h3)) (Nat.lt_irrefl _)
    · exact (hf b hb).2.2.2.2.1 x c h2
  refine ⟨⟨I.ok.mod, ok.kind, I.ok.glob, I.ok.blt, Nat.le_refl _, fun x y c h1 h2 => ?_, fun x hx => ?_, fun x c hx e => ?_, I.ok.hd, I.ok.frames, .inl rfl, fun b hb => ⟨Nat.ne_of_lt (hlt b hb), fun x c e => fpC b hb x c e⟩, I.bs, Nat.le_trans I.ok.ZK I.sz, fun b o e hb => ?_, fun b hb => ?_, I.stack, I.Mt⟩,
    rfl, I.bare, Un.kept hk, ⟨_, hn, fun i x v e1 e2 e3 => ?_⟩, fun x c e => ?_, I.hok.fresh (Nat.le_refl _), fun x c e => ?_, fun p hp => absurd (show p ∈ ([] : List (Addr × Obj)) from hp) (by simp), I.hok.kept hk, ?_⟩
  · -- one name a cell
    rcases oN x c h1 with ⟨p1, _⟩ | ⟨_, p2⟩
    · rcases oN y c h2 with ⟨q1, _⟩ | ⟨_, q2⟩
      · exact name_of_addr co.apart p1 q1
      · exact absurd (Nat.lt_of_lt_of_le (R5 y c q2) (Nat.le_of_succ_le (yw x c p1))) (Nat.lt_irrefl _)
    · rcases oN y c h2 with ⟨q1, _⟩ | ⟨_, q2⟩
      · exact absurd (Nat.lt_of_lt_of_le (R5 x c p2) (Nat.le_of_succ_le (yw y c q1))) (Nat.lt_irrefl _)
      · exact I.ok.inj x y c p2 q2
  · -- each cell name has one
    show ∃ c, (cellsFrom (s.heap.objs.size + 1) scope.names (lV X.env scope.names [])).lookup x = some c
    have hx : (relabel scope X.env).names.lookup x = some .cell ∨ (relabel scope X.env).names.lookup x = some .free := hx
    rw [DX] at hx
    cases q : scope.names.lookup x with
    | none => rw [q] at hx; rcases hx with hx | hx <;> cases hx
    | some k =>
      rw [q] at hx
      rw [dX, nW]
      cases z : (cellsFrom (s.heap.objs.size + 1) scope.names []).lookup x with
      | some d => exact ⟨d, rfl⟩
      | none =>
        have hkf : k = .free := by
          cases k with
          | free => rfl
          | cell => obtain ⟨c, hc⟩ := HX x (lookup_mem _ _ _ q); rw [hc] at z; cases z
          | _ => rcases hx with hx | hx <;> simp at hx
        subst hkf
        exact Option.isSome_iff_exists.mp (uF _ _ x (lookup_mem _ _ _ q))
  · -- its own cells are new
    have hx' : scope.names.lookup x = some .cell := of_decide_eq_true hx
    rcases oN x c e with ⟨p1, _⟩ | ⟨p1, _⟩
    · exact Nat.le_of_succ_le (yw x c p1)
    · obtain ⟨d, hd⟩ := HX x (lookup_mem _ _ _ hx')
      rw [hd] at p1; cases p1
  · rcases (hf b hb).2.2.2.1 with z | z
    · exact I.ok.Ss b o e z
    · have h1 := Heap.lt_size e
      have h2 := I.ok.ZK
      exact absurd (Nat.lt_of_lt_of_le h1 (Nat.le_trans h2 z)) (Nat.lt_irrefl _)
  · intro hm
    rcases List.mem_cons.mp (I.JW b hm) with z | z
    · exact (hf b hb).2.1 z
    · exact (hf b hb).2.2.1 z
  · -- the names
    have hiσ : i < σ.length := by
      by_cases hi : i < σ.length
      · exact hi
      · unfold ux at e2
        rw [List.getElem?_append_right (by omega), List.getElem?_replicate] at e2
        split at e2 <;> cases e2
    have e2' : σ[i]? = some (some v) := by
      unfold ux at e2
      rwa [List.getElem?_append_left hiσ] at e2
    have vis : (scope.names.lookup x).isSome = true := by
      have e3 : (relabel scope X.env).names.lookup x = some .local ∨ (relabel scope X.env).names.lookup x = some .cell ∨ (relabel scope X.env).names.lookup x = some .free := e3
      rw [DX] at e3
      cases q : scope.names.lookup x with
      | none => rw [q] at e3; rcases e3 with z | z | z <;> cases z
      | some k => rfl
    obtain ⟨hN, hfr⟩ := Jm ok.chk i x (by rw [← I.len]; exact hiσ) e1 vis
    have hm := lookup_mem _ _ _ hfr
    have hkk := ok.free _ hm rfl
    obtain ⟨m, hns, hl⟩ := I.loc
    obtain ⟨u, ru, lk⟩ := hl i x v hN e2' (hkk.elim (fun z => .inr (.inl z)) fun z => .inr (.inr z))
    refine ⟨u, ru, .inr ⟨?_, ?_⟩⟩
    · show (relabel scope X.env).names.lookup x = some .cell ∨ (relabel scope X.env).names.lookup x = some .free
      rw [DX, hfr]
      by_cases hc : (NameKind.free == NameKind.free && X.env.scope.kind == .function && X.env.kindOf x == some .cell) = true
      · left; rw [Option.map_some, if_pos hc]
      · right; rw [Option.map_some, if_neg hc]
    · rcases lk with ⟨hl1, _⟩ | ⟨_, c, hc, hcell⟩
      · rcases hkk with z | z <;> (rw [z] at hl1; cases hl1)
      · refine ⟨c, ?_, hcell.keeps hk⟩
        show (cellsFrom (s.heap.objs.size + 1) scope.names (lV X.env scope.names [])).lookup x = some c
        rw [dX, nW]
        have hno : (cellsFrom (s.heap.objs.size + 1) scope.names []).lookup x = none := pL _ _ fun d hd => by
          have h1 := ie _ _ _ ok.nd (mL _ _ _ _ hd)
          rw [hfr] at h1; cases h1
        rw [hno]
        obtain ⟨d, hd⟩ := Option.isSome_iff_exists.mp (uF (env := X.env) scope.names [] x hm)
        have h2 := uG _ _ x d hfree (fun y d h => by simp at h) hd
        rw [hc] at h2
        show (lV X.env scope.names []).lookup x = some c
        rw [hd, h2]
  · rcases oN x c e with ⟨p1, _⟩ | ⟨_, p2⟩
    · exact ⟨_, (co.empty x c p1).1⟩
    · obtain ⟨v, q⟩ := I.cell x c p2
      exact ⟨v, q.keeps hk⟩
  · rcases oN x c e with ⟨p1, _⟩ | ⟨_, p2⟩
    · exact I.hok.fresh (Nat.le_of_succ_le (yw x c p1))
    · exact I.qj x c p2
  · show (ux (N'.length - σ.length) σ).length = N'.length
    unfold ux
    rw [List.length_append, List.length_replicate]
    have h1 := ok.len
    have h2 := I.len
    omega
end L2
namespace L2
open PySem PySem.Spec PyProof.Rows
abbrev jg (X : Cx) (scope : Scope) (N' : List Str) (X' : Cx) : Prop :=
  ∃ (cells : List (Str × Addr)) (C : Addr) (s0 : Shared) (H0 : Hp) (fp : List Addr), X' = cxC X scope N' cells C s0 H0 fp
theorem By {X : Cx} {elt tg iter : Expr} {ifs : List Expr} {scope : Scope} {N' : List Str} {pos : Pos} {g : TG} {tc : TT} {te : TE} {use : Option (Value → Sem Unit)} {QQ : Value → Shared → Prop}
    (ok : lM X scope N') (hc : X.calm = true)
    (bg : ∀ X', jg X scope N' X' → PG X' tg g) (bc : ∀ X', jg X scope N' X' → PIf X' ifs tc) (be : ∀ X', jg X scope N' X' → PE X' elt te)
    {pins : List (Addr × Obj)} {s2 : Shared} {σ : St} {H2 : Hp} {Q : VK} {it : Addr} {fp : List Addr} {tn : Nat → Heap → Prop} {J : It} (I2 : Inv X pins σ H2 s2) (T : Turn X.prog X.w X.K tg J fp it tn) (st2 : tn 0 s2.heap) (f2 : ∀ b ∈ fp, zT X pins H2 b)
    (q : ∀ d, H2 d = none → ∃ W : Nat → Nat → St → Hp → Prop, (∃ m, W 0 m (ux (N'.length - σ.length) σ) (upd H2 d (.lst []))) ∧ ∀ i m σ' H', W i m σ' H' →
      (J.stop i H' ∧ Q (.ref d) H') ∨ (J.go i H' ∧ ∃ N : St → Hp → Prop, (∀ σ2 H2, N σ2 H2 → ∃ m', m' < m ∧ W (i + 1) m' σ2 H2) ∧ ∀ x H2, J.yld i H' x H2 → g x σ' H2 fun σ3 H3 => tc σ3 H3 fun b H4 =>
        if b = true then te σ3 H4 fun y H5 => ∃ ys, H5 d = some (.lst ys) ∧ ys.length < sizeLine ∧ N σ3 (upd H5 d (.lst (ys ++ [y]))) else N σ3 H4))
    (fin : ∀ d C m s' H', Inv X pins σ H' s' → Q (.ref d) H' → s'.heap.Ns C m → H' C = none → C ≠ X.env.locals → X.s₀.heap.objs.size ≤ C → (∀ x c, X.env.cells.lookup x = some c → c ≠ C) → (∀ p ∈ X.pn ++ pins, p.1 ≠ C) →
      compPost (model X.prog X.w) X.A X.xe use QQ (.ref d) C (.ok .next) s') :
    wpAny (model X.prog X.w) X.A (newList []) (fun acc s₃ => wpAny (model X.prog X.w) X.A (newFunctionEnv scope X.env.globals (lV X.env scope.names []) [] X.env.qual none .none (some X.env)) (fun cenv s₄ =>
      codeAny (model X.prog X.w) X.A (.compStart (.ListComp elt [⟨tg, iter, ifs, 0⟩] scope pos) 0 (.ref it) acc { cenv with scope := relabel scope X.env }) (compPost (model X.prog X.w) X.A X.xe use QQ acc cenv.locals) s₄) X.xe s₃) X.xe s2 := by
  have hd2 : H2 s2.heap.objs.size = none := I2.fresh
  refine wpAny_newObj_type (Hv fun h' hns hkeep hco => ?_)
  -- the state behind the list
  obtain ⟨W, ⟨m0, w0⟩, turn⟩ := q s2.heap.objs.size hd2
  have I3 : Inv X pins σ (upd H2 s2.heap.objs.size (.lst [])) { s2 with heap := s2.heap.push { cls := .type "list", data := .seq ([] : List Value).toArray } } := I2.aeX (t' := s2.toks) .nil (Nat.zero_le _)
  have lt2 : ∀ b ∈ fp, b < s2.heap.objs.size := fun b hb => by
    obtain ⟨o, e, _⟩ := T.obj _ _ st2 b hb
    exact Heap.lt_size e
  have f3 : ∀ b ∈ fp, zT X pins (upd H2 s2.heap.objs.size (.lst [])) b := fun b hb => by
    refine ⟨?_, (f2 b hb).2⟩
    rw [bJ (Nat.ne_of_lt (lt2 b hb))]
    exact (f2 b hb).1
  have lt3 : ∀ b ∈ fp, b < ({ s2 with heap := s2.heap.push { cls := .type "list", data := .seq ([] : List Value).toArray } } : Shared).heap.objs.size := fun b hb => by
    show b < (s2.heap.push _).objs.size
    rw [Heap.size_push]
    exact Nat.lt_succ_of_lt (lt2 b hb)
  have st3 : tn 0 h' := T.keep _ _ _ st2 fun b hb o e => hkeep b o (Heap.get?_push_of_some _ e)
  have I4 := T8 (fp := fp) ok I3 f3 lt3 hns hkeep hco
  generalize hs3 : ({ s2 with heap := s2.heap.push { cls := .type "list", data := .seq ([] : List Value).toArray } } : Shared) = s3 at *
  have sz3 : s3.heap.objs.size = s2.heap.objs.size + 1 := by rw [← hs3]; exact Heap.size_push ..
  generalize hX' : cxC X scope N' (cellsFrom (s3.heap.objs.size + 1) scope.names (lV X.env scope.names [])) s3.heap.objs.size s3 (upd H2 s2.heap.objs.size (.lst [])) fp = X' at I4
  have at' : jg X scope N' X' := ⟨_, _, _, _, _, hX'.symm⟩
  have hg := bg X' at'
  have hif := bc X' at'
  have he := be X' at'
  have eP : X'.prog = X.prog := by rw [← hX']; rfl
  have eW : X'.w = X.w := by rw [← hX']; rfl
  have eK : X'.K = X.K := by rw [← hX']; rfl
  have eA : X'.A = X.A := by rw [← hX']; rfl
  have eC : X'.calm = true := by rw [← hX']; exact hc
  have eX : X'.xe = fun _ _ => False := by rw [← hX']; rfl
  have ePn : X'.pn = [] := by rw [← hX']; rfl
  have eEx : X'.ex = fp := by rw [← hX']; rfl
  have eL : X'.env.locals = s3.heap.objs.size := by rw [← hX']; rfl
  have eFs : X'.fs = frs X.stack := by rw [← hX']; rfl
  have ahA : compEnvC scope (cellsFrom (s3.heap.objs.size + 1) scope.names (lV X.env scope.names [])) s3.heap.objs.size X.env = X'.env := by rw [← hX']; rfl
  have eS0 : X'.s₀ = s3 := by rw [← hX']; rfl
  have eH0 : X'.H₀ = upd H2 s2.heap.objs.size (.lst []) := by rw [← hX']; rfl
  -- what is true of the iterator's objects in the block
  have stat : ∀ {H' : Hp}, (∀ b ∈ fp, H' b = none) → ∀ b ∈ fp, zT X' [] H' b := fun {H'} hn b hb => by
    refine ⟨hn b hb, ?_, ?_, .inl (by rw [eEx]; exact hb), fun x c e => ?_, fun p hp => ?_⟩
    · rw [eL]; exact Nat.ne_of_lt (lt3 b hb)
    · have := I4.ok.Ur b (by rw [eEx]; exact hb)
      exact this
    · exact (I4.ok.exf b (by rw [eEx]; exact hb)).2 x c e
    · rw [ePn] at hp; exact absurd hp (by simp)
  -- the outer context again
  have back : ∀ σ' H' s', Inv X' [] σ' H' s' → Inv X pins σ H' s' := fun σ' H' s' J' => by
    have hb := J'.base
    rw [eFs, eEx, eS0, eH0] at hb
    have hos := J'.os
    rw [eS0] at hos
    have hok := J'.hok
    rw [eP, eW] at hok
    exact I3.call' (ch := fp) hos hb hok J'.bare fun b hbm => ⟨(f3 b hbm).2.2.2.1, (f3 b hbm).2.1, (f3 b hbm).2.2.2.2.1, (f3 b hbm).2.2.2.2.2⟩
  have loop : ∀ s4 : Shared, s4 = { s3 with heap := h' } → codeAny (model X.prog X.w) X.A (.compLoop (.ListComp elt [⟨tg, iter, ifs, 0⟩] scope pos) 0 (.ref it) (.ref s2.heap.objs.size) X'.env) (compPost (model X.prog X.w) X.A X.xe use QQ (.ref s2.heap.objs.size) s3.heap.objs.size) s4 := by
    rintro s4 rfl
    refine Ft (fun n s' => ∃ i σ' H', Inv X' [] σ' H' s' ∧ tn i s'.heap ∧ (∀ b ∈ fp, H' b = none) ∧ W i n σ' H') ?_ m0 ⟨0, _, _, I4, st3, fun b hb => (f3 b hb).1, w0⟩
    rintro n s5 ⟨i, σ5, H5, I5, st5, fr5, w5⟩
    rcases turn i n σ5 H5 w5 with ⟨stop, qn⟩ | ⟨go, N, hN, step⟩
    · have td := T.done X' eP eW eK eC i [] s5 σ5 H5 (fun _ _ => False) I5 (stat fr5) st5 stop
      rw [eA] at td
      refine il td fun r s6 ⟨hr, I6⟩ => ?_
      subst hr
      obtain ⟨mC, hnC, _⟩ := id I6.loc
      rw [eL] at hnC
      have lc : X.env.locals < s3.heap.objs.size := by
        have := I3.lt
        exact this
      refine fin _ _ mC s6 H5 (back _ _ _ I6) qn hnC ?_ (Nat.ne_of_gt lc) I3.sz (fun x c e => ?_) (fun p hp => ?_)
      · have := I6.free; rw [eL] at this; exact this
      · obtain ⟨v, z⟩ := I3.cell x c e
        exact Nat.ne_of_lt z.lt
      · exact Nat.ne_of_lt (Heap.lt_size (I3.pin p hp).1)
    · have ti := T.item X' eP eW eK eC i [] s5 σ5 H5 (fun _ _ => False) I5 (stat fr5) st5 go
      rw [eA] at ti
      refine il ti fun r s6 ⟨u, hr, h6⟩ => ?_
      subst hr
      refine il h6 fun _ s7 ⟨x, H7, I7, r7, y7, st7, fr7⟩ => ?_
      have I7' := I7.pinned (stat fr7) (T.obj _ _ st7)
      have hg' := hg _ s7 σ5 H7 x u _ I7' r7 (step x H7 y7)
      rw [eP, eW, eA, eX] at hg'
      refine il hg' fun _ s8 ⟨σ8, H8, I8, q8⟩ => ?_
      have afD := hif _ s8 σ8 H8 _ I8 q8
      rw [eP, eW, eA, eX] at afD
      refine il afD fun b s9 ⟨H9, I9, q9⟩ => ?_
      have again : ∀ {σz : St} {Hz : Hp} {sz : Shared}, Inv X' ([] ++ yr fp s7.heap) σz Hz sz → N σz Hz → ∃ m, m < n ∧ ∃ i σ' H', Inv X' [] σ' H' sz ∧ tn i sz.heap ∧ (∀ b ∈ fp, H' b = none) ∧ W i m σ' H' := fun {σz Hz sz} Iz nz => by
        obtain ⟨m', hm, wz⟩ := hN σz Hz nz
        refine ⟨m', hm, i + 1, σz, Hz, Iz.uh, T.keep _ _ _ st7 fun b hb o e => (Iz.pin (b, o) (List.mem_append_right _ (List.mem_append_right _ (nU hb e)))).1, fun b hb => ?_, wz⟩
        obtain ⟨o, e, d⟩ := T.obj _ _ st7 b hb
        exact (Iz.pin (b, o) (List.mem_append_right _ (List.mem_append_right _ (nU hb e)))).2.1
      cases b with
      | false =>
        rw [if_neg Bool.false_ne_true] at q9 ⊢
        exact again I9 q9
      | true =>
        rw [if_pos rfl] at q9 ⊢
        have he' := he _ s9 σ8 H9 _ I9 q9
        rw [eP, eW, eA, eX] at he'
        refine il he' fun y sa ⟨yv, Ha, Ia, ra, ys, hys, hlen, qa⟩ => ?_
        have ap := Bp (X := X') _ sa σ8 Ha (.ref s2.heap.objs.size) [yv] (.ref s2.heap.objs.size) [y] (fun v H' => v = .non ∧ N σ8 H') Ia rfl (.cons ra .nil) ⟨_, ys, yv, rfl, rfl, hys, hlen, rfl, qa⟩
        rw [eP, eW, eA, eX] at ap
        refine il ap fun _ sb ⟨vb, Hb, Ib, rb, _, nb⟩ => ?_
        exact again Ib nb
  show codeAny _ _ (.compStart _ 0 (.ref it) (.ref s2.heap.objs.size) (compEnvC scope (cellsFrom (s3.heap.objs.size + 1) scope.names (lV X.env scope.names [])) s3.heap.objs.size X.env)) (compPost (model X.prog X.w) X.A X.xe use QQ (.ref s2.heap.objs.size) s3.heap.objs.size) _
  rw [ahA]
  exact codeAny_compStart_list (loop _ rfl) (T.self X.A 0 _ _ _ st3 (loop _ rfl))
theorem aeB {X : Cx} {elt tg iter : Expr} {ifs : List Expr} {scope : Scope} {N' : List Str} {pos : Pos} {wi : TI} {g : TG} {tc : TT} {te : TE}
    (ok : lM X scope N') (hc : X.calm = true) (hi : PI X tg iter wi)
    (bg : ∀ X', jg X scope N' X' → PG X' tg g) (bc : ∀ X', jg X scope N' X' → PIf X' ifs tc) (be : ∀ X', jg X scope N' X' → PE X' elt te)
    (hs : ∀ x, foldedSetIterable iter X.env x = pure x := by intro _; rfl) :
    PE X (.ListComp elt [⟨tg, iter, ifs, 0⟩] scope pos) (tLC N'.length wi g tc te) := by
  intro pins s σ H Q I h
  rw [eval_ListComp]
  have hfree : ∀ n, (n, NameKind.free) ∈ scope.names → ∃ c, X.env.cells.lookup n = some c := fun n hm => I.ok.has n (ok.free _ hm rfl)
  refine wpAny_comprehension_free (use := none) rfl hs (zA hfree) ok.kind (fun x hx hl => ie _ _ _ ok.nd (by rw [← hl]; exact hx)) ?_
  refine il (hi pins s σ H _ I h) fun v s1 h1 => il h1 fun itv s2 h2 => ?_
  obtain ⟨it, fp, tn, J, H2, e, I2, T, st2, f2, q⟩ := h2
  subst e
  refine By ok hc bg bc be I2 T st2 f2 q fun d C m s' H' I' hq hn hC hL h0 hcell hpin => ?_
  refine ⟨m, hn, fun h' hs' => ?_⟩
  have I'' : Inv X pins σ H' { s' with heap := h', toks := s'.toks } := I'.turned (it := C) (fun b o hb e => (hs'.2 b hb).trans e) hC hL (.inr h0) hcell hpin
  exact ⟨.ref d, H', I'', rfl, hq⟩
theorem RK {X : Cx} {elt tg iter : Expr} {ifs : List Expr} {scope : Scope} {N' : List Str} {pos spos py : Pos} {wi : TI} {g : TG} {tc : TT} {te : TE} {i : Nat} {y : Str}
    (ok : lM X scope N') (hc : X.calm = true) (hi : PI X tg iter wi)
    (bg : ∀ X', jg X scope N' X' → PG X' tg g) (bc : ∀ X', jg X scope N' X' → PIf X' ifs tc) (be : ∀ X', jg X scope N' X' → PE X' elt te)
    (hN : X.N.Nodup) (hy : X.N[i]? = some y) (hx : Loc X.env.scope y)
    (hsw : swapsWith (.ListComp elt [⟨tg, iter, ifs, 0⟩] scope pos) (some (.Name y py)) spos.line X.env = pure true)
    (hf : X.fn y = true ∨ X.env.scope.names.lookup y = some .local := by first | exact .inl rfl | exact .inr rfl | assumption)
    (hs : ∀ x, foldedSetIterable iter X.env x = pure x := by intro _; rfl) :
    PS X (.Assign [.Name y py] (.ListComp elt [⟨tg, iter, ifs, 0⟩] scope pos) spos) (V3 (tLC N'.length wi g tc te) (Ii i)) := by
  intro pins s σ H D I h
  rw [exec_Assign_Name_used _ _ _ _ hsw]
  refine wpAny_bind (wpAny_standAt (wpAny_bind ?_))
  have hfree : ∀ n, (n, NameKind.free) ∈ scope.names → ∃ c, X.env.cells.lookup n = some c := fun n hm => I.ok.has n (ok.free _ hm rfl)
  show wpAny _ X.A (do let _ ← comprehension (.ListComp elt [⟨tg, iter, ifs, 0⟩] scope pos) scope X.env _ (newList []) false (eval iter X.env) (some (assign (.Name y py) X.env))) _ _ s
  refine wpAny_bind (wpAny_mono (wpAny_comprehension_free (use := some (assign (.Name y py) X.env)) (Q := fun _ s' => SP X pins D .next s') rfl hs (zA hfree) ok.kind (fun x hx hl => ie _ _ _ ok.nd (by rw [← hl]; exact hx)) ?_) (fun _ s' hq => wpAny_pure (wpAny_pure hq)) fun _ _ e => e)
  refine il (hi pins s σ H _ I h) fun v s1 h1 => il h1 fun itv s2 h2 => ?_
  obtain ⟨it, fp, tn, J, H2, e, I2, T, st2, f2, q⟩ := h2
  subst e
  refine By (Q := fun x H1 => Ii i x σ H1 D.nx) ok hc bg bc be I2 T st2 f2 q fun d C m s' H' I' hq hn hC hL h0 hcell hpin => ?_
  refine wpAny_assign_Name (Bc (v := .ref d) I' hN hy hx rfl (fun s'' I'' sb => ?_) hf)
  obtain ⟨a, hsb, ha⟩ := sb
  have haC : C ≠ a := by
    rcases ha with z | z
    · rw [z]; exact hL
    · exact (hcell y a z).symm
  refine ⟨m, hn.sameBut hsb haC, fun h' hs' => ?_⟩
  have I3 : Inv X pins (σ.set i (some (.ref d))) H' { s'' with heap := h', toks := s''.toks } := I''.turned (it := C) (fun b o hb e => (hs'.2 b hb).trans e) hC hL (.inr h0) hcell hpin
  exact ⟨_, H', I3, hq⟩
end L2
namespace Ev
open PySem PySem.Spec PyProof.Rows L2
inductive D where
  | non
  | bl (b : Bool)
  | int (i : Int)
  | str (x : List Nat)
  | tup (xs : List D)
  | lst (xs : List D)
  | arr (xs : List D)
  | dct (kvs : List (D × D))
  deriving Inhabited
abbrev Fg := PySem.W.Frag
def strOf (x : List Nat) : Str := ⟨x.toArray⟩
def vH : D → Option Key
  | .int i => some (.inl i)
  | .str x => some (.inr (strOf x))
  | _ => none
mutual
def Rep (K : Fg) (F : Hp) : D → V → Prop
  | .non, v => v = .non
  | .bl b, v => v = .bl b
  | .int i, v => v = .int i
  | .str x, v => v = .str (strOf x) ∧ x.length ≤ sizeLine
  | .tup xs, v => xs.length ≤ sizeLine ∧ ∃ a vs, v = .ref a ∧ nO K F a vs ∧ aW K F xs vs
  | .lst xs, v => xs.length ≤ sizeLine ∧ ∃ a vs, v = .ref a ∧ F a = some (.lst vs) ∧ aW K F xs vs
  | .arr xs, v => xs.length ≤ sizeLine ∧ ∃ a vs, v = .ref a ∧ lN K F a vs ∧ aW K F xs vs
  | .dct kvs, v => kvs.length ≤ sizeLine ∧ ∃ a ks, v = .ref a ∧ Rd F a (.dK ks) ∧ cI K F kvs ks
def aW (K : Fg) (F : Hp) : List D → List V → Prop
  | [], vs => vs = []
  | d :: ds, vs => ∃ v r, vs = v :: r ∧ Rep K F d v ∧ aW K F ds r
def cI (K : Fg) (F : Hp) : List (D × D) → List (Key × V) → Prop
  | [], vs => vs = []
  | (k, d) :: ds, vs => ∃ q v r, vs = (q, v) :: r ∧ vH k = some q ∧ Rep K F d v ∧ cI K F ds r
end
theorem aH.rd {F F' : Hp} {a : Addr} {u : HO} (e : aH F F') (h : Rd F a u) : Rd F' a u := by
  rcases h with h | ⟨o, h⟩
  · exact .inl (e _ _ h)
  · exact .inr ⟨o, e _ _ h⟩
theorem aH.tupK {K : Fg} {F F' : Hp} {a : Addr} {xs : List V} (e : aH F F') (h : nO K F a xs) : nO K F' a xs := by
  rcases h with h | h
  · exact .inl (aH.rd e h)
  · exact .inr h
mutual
theorem Rep.mono {K : Fg} {F F' : Hp} (e : aH F F') : ∀ (d : D) (v : V), Rep K F d v → Rep K F' d v
  | .non, _, h => h
  | .bl _, _, h => h
  | .int _, _, h => h
  | .str _, _, h => h
  | .tup xs, v, h => by
    obtain ⟨z, a, vs, rfl, h1, h2⟩ := h
    exact ⟨z, a, vs, rfl, aH.tupK e h1, aW.mono e xs vs h2⟩
  | .lst xs, v, h => by
    obtain ⟨z, a, vs, rfl, h1, h2⟩ := h
    exact ⟨z, a, vs, rfl, e _ _ h1, aW.mono e xs vs h2⟩
  | .arr xs, v, h => by
    obtain ⟨z, a, vs, rfl, h1, h2⟩ := h
    exact ⟨z, a, vs, rfl, e.seq h1, aW.mono e xs vs h2⟩
  | .dct kvs, v, h => by
    obtain ⟨z, a, ks, rfl, h1, h2⟩ := h
    exact ⟨z, a, ks, rfl, aH.rd e h1, cI.mono e kvs ks h2⟩
theorem aW.mono {K : Fg} {F F' : Hp} (e : aH F F') : ∀ (ds : List D) (vs : List V), aW K F ds vs → aW K F' ds vs
  | [], _, h => h
  | d :: ds, vs, h => by
    obtain ⟨v, r, rfl, h1, h2⟩ := h
    exact ⟨v, r, rfl, Rep.mono e d v h1, aW.mono e ds r h2⟩
theorem cI.mono {K : Fg} {F F' : Hp} (e : aH F F') : ∀ (ds : List (D × D)) (vs : List (Key × V)), cI K F ds vs → cI K F' ds vs
  | [], _, h => h
  | (k, d) :: ds, vs, h => by
    obtain ⟨q, v, r, rfl, h0, h1, h2⟩ := h
    exact ⟨q, v, r, rfl, h0, Rep.mono e d v h1, cI.mono e ds r h2⟩
end
theorem aW.length {K : Fg} {F : Hp} : ∀ {ds : List D} {vs : List V}, aW K F ds vs → vs.length = ds.length
  | [], _, h => by cases h; rfl
  | d :: ds, vs, h => by
    obtain ⟨v, r, rfl, _, h2⟩ := h
    rw [List.length_cons, List.length_cons, h2.length]
theorem aW.get {K : Fg} {F : Hp} : ∀ {ds : List D} {vs : List V} {i : Nat} {d : D}, aW K F ds vs → ds[i]? = some d → ∃ v, vs[i]? = some v ∧ Rep K F d v
  | [], _, _, _, _, e => by simp at e
  | c :: ds, vs, i, d, h, e => by
    obtain ⟨v, r, rfl, h1, h2⟩ := h
    cases i with
    | zero => simp at e; subst e; exact ⟨v, rfl, h1⟩
    | succ i => obtain ⟨u, e1, e2⟩ := aW.get h2 (i := i) (by simpa using e); exact ⟨u, by simpa using e1, e2⟩
theorem aW.append {K : Fg} {F : Hp} : ∀ {ds es : List D} {vs ws : List V}, aW K F ds vs → aW K F es ws → aW K F (ds ++ es) (vs ++ ws)
  | [], es, vs, ws, h, g => by cases h; exact g
  | d :: ds, es, vs, ws, h, g => by
    obtain ⟨v, r, rfl, h1, h2⟩ := h
    exact ⟨v, r ++ ws, rfl, h1, aW.append h2 g⟩
theorem aW.drop {K : Fg} {F : Hp} : ∀ (n : Nat) {ds : List D} {vs : List V}, aW K F ds vs → aW K F (ds.drop n) (vs.drop n)
  | 0, _, _, h => h
  | _ + 1, [], _, h => by cases h; exact rfl
  | n + 1, d :: ds, vs, h => by
    obtain ⟨v, r, rfl, _, h2⟩ := h
    exact aW.drop n h2
theorem aW.take {K : Fg} {F : Hp} : ∀ (n : Nat) {ds : List D} {vs : List V}, aW K F ds vs → aW K F (ds.take n) (vs.take n)
  | 0, _, _, _ => rfl
  | _ + 1, [], _, h => by cases h; exact rfl
  | n + 1, d :: ds, vs, h => by
    obtain ⟨v, r, rfl, h1, h2⟩ := h
    exact ⟨v, r.take n, rfl, h1, aW.take n h2⟩
theorem aW.set {K : Fg} {F : Hp} {d : D} {v : V} (hd : Rep K F d v) : ∀ (i : Nat) {ds : List D} {vs : List V}, aW K F ds vs → aW K F (ds.set i d) (vs.set i v)
  | _, [], _, h => by cases h; exact rfl
  | 0, c :: ds, vs, h => by
    obtain ⟨u, r, rfl, _, h2⟩ := h
    exact ⟨v, r, rfl, hd, h2⟩
  | i + 1, c :: ds, vs, h => by
    obtain ⟨u, r, rfl, h1, h2⟩ := h
    exact ⟨u, r.set i v, rfl, h1, aW.set hd i h2⟩
theorem aW.one {K : Fg} {F : Hp} {d : D} {v : V} (h : Rep K F d v) : aW K F [d] [v] := ⟨v, [], rfl, h, rfl⟩
abbrev Env := List (Option (Bool × D))
inductive R (α : Type) where
  | ok (a : α) (env : Env)
  | stuck
abbrev Ev := Env → R D
abbrev cO := Env → R Bool
abbrev cz := Env → R (List D)
structure Cfg where
  K : Fg
  fx : Nat → Option Addr
def jl (K : Fg) (F H : Hp) : D → Addr → Prop
  | .lst xs, a => xs.length ≤ sizeLine ∧ ∃ vs, H a = some (.lst vs) ∧ aW K F xs vs
  | .dct kvs, a => kvs.length ≤ sizeLine ∧ ∃ ks, H a = some (.dK ks) ∧ cI K F kvs ks
  | _, _ => False
theorem jl.mono {K : Fg} {F F' H H' : Hp} (e : aH F F') {d : D} {a : Addr} (k : H' a = H a) (h : jl K F H d a) : jl K F' H' d a := by
  cases d with
  | lst xs => obtain ⟨z, vs, h1, h2⟩ := h; exact ⟨z, vs, k.trans h1, aW.mono e _ _ h2⟩
  | dct kvs => obtain ⟨z, ks, h1, h2⟩ := h; exact ⟨z, ks, k.trans h1, cI.mono e _ _ h2⟩
  | _ => exact h
theorem jl.some {K : Fg} {F H : Hp} {d : D} {a : Addr} (h : jl K F H d a) : ∃ o, H a = some o := by
  cases d with
  | lst xs => obtain ⟨z, vs, h1, h2⟩ := h; exact ⟨_, h1⟩
  | dct kvs => obtain ⟨z, ks, h1, h2⟩ := h; exact ⟨_, h1⟩
  | _ => exact h.elim
def gJ (K : Fg) (F H : Hp) (d : D) (v : V) : Prop := Rep K F d v ∨ ∃ a, v = .ref a ∧ jl K F H d a
theorem gJ.rep {K : Fg} {F H : Hp} {d : D} {v : V} (s : aH F H) (h : gJ K F H d v) : Rep K H d v := by
  rcases h with h | ⟨a, rfl, h⟩
  · exact Rep.mono s d v h
  · cases d with
    | lst xs => obtain ⟨z, vs, h1, h2⟩ := h; exact ⟨z, a, vs, rfl, h1, aW.mono s _ _ h2⟩
    | dct kvs => obtain ⟨z, ks, h1, h2⟩ := h; exact ⟨z, a, ks, rfl, .inl h1, cI.mono s _ _ h2⟩
    | _ => exact h.elim
theorem gJ.lst {K : Fg} {F H : Hp} {xs : List D} {v : V} (s : aH F H) (h : gJ K F H (.lst xs) v) : xs.length ≤ sizeLine ∧ ∃ a vs, v = .ref a ∧ H a = some (.lst vs) ∧ aW K F xs vs := by
  rcases h with ⟨z, a, vs, rfl, h1, h2⟩ | ⟨a, rfl, z, vs, h1, h2⟩
  · exact ⟨z, a, vs, rfl, s _ _ h1, h2⟩
  · exact ⟨z, a, vs, rfl, h1, h2⟩
theorem gJ.arr {K : Fg} {F H : Hp} {xs : List D} {v : V} (s : aH F H) (h : gJ K F H (.arr xs) v) : xs.length ≤ sizeLine ∧ ∃ a vs, v = .ref a ∧ lN K H a vs ∧ aW K F xs vs := by
  rcases h with ⟨z, a, vs, rfl, h1, h2⟩ | ⟨a, rfl, h⟩
  · exact ⟨z, a, vs, rfl, s.seq h1, h2⟩
  · exact h.elim
theorem gJ.tup {K : Fg} {F H : Hp} {xs : List D} {v : V} (s : aH F H) (h : gJ K F H (.tup xs) v) : xs.length ≤ sizeLine ∧ ∃ a vs, v = .ref a ∧ nO K H a vs ∧ nO K F a vs ∧ aW K F xs vs := by
  rcases h with ⟨z, a, vs, rfl, h1, h2⟩ | ⟨a, rfl, h⟩
  · exact ⟨z, a, vs, rfl, aH.tupK s h1, h1, h2⟩
  · exact h.elim
theorem gJ.int {K : Fg} {F H : Hp} {i : Int} {v : V} (h : gJ K F H (.int i) v) : v = .int i := by
  rcases h with h | ⟨a, rfl, h⟩
  · exact h
  · exact h.elim
theorem gJ.bl {K : Fg} {F H : Hp} {i : Bool} {v : V} (h : gJ K F H (.bl i) v) : v = .bl i := by
  rcases h with h | ⟨a, rfl, h⟩
  · exact h
  · exact h.elim
theorem gJ.non {K : Fg} {F H : Hp} {v : V} (h : gJ K F H .non v) : v = .non := by
  rcases h with h | ⟨a, rfl, h⟩
  · exact h
  · exact h.elim
theorem gJ.str {K : Fg} {F H : Hp} {x : List Nat} {v : V} (h : gJ K F H (.str x) v) : v = .str (strOf x) ∧ x.length ≤ sizeLine := by
  rcases h with h | ⟨a, rfl, h⟩
  · exact h
  · exact h.elim
structure Rel (C : Cfg) (Pr F : Hp) (env : Env) (σ : L2.St) (H : Hp) : Prop where
  pr : aH Pr H
  fr : aH F H
  len : env.length = σ.length
  val : ∀ (i : Nat) (d : D), env[i]? = some (some (false, d)) → ∃ v, σ[i]? = some (some v) ∧ Rep C.K F d v
  own : ∀ (i : Nat) (d : D), env[i]? = some (some (true, d)) → ∃ a, σ[i]? = some (some (V.ref a)) ∧ jl C.K F H d a ∧ F a = none ∧ Pr a = none
  apart : ∀ (i j : Nat) (d e : D) (a : Addr), env[i]? = some (some (true, d)) → env[j]? = some (some (true, e)) → σ[i]? = some (some (V.ref a)) → σ[j]? = some (some (V.ref a)) → i = j
  dj : ∀ b o, F b = some o → Pr b = none
  fix : ∀ i a, C.fx i = some a → σ[i]? = some (some (V.ref a))
theorem kZ {H : Hp} {a : Addr} {o : HO} (h : H a = none) : aH H (upd H a o) := fun b u e => by
  rw [bJ (fu e h)]; exact e
theorem Rel.new {C : Cfg} {Pr F : Hp} {env : Env} {σ : L2.St} {H : Hp} {a : Addr} {o : HO} (r : Rel C Pr F env σ H) (h : H a = none) : Rel C Pr (upd F a o) env σ (upd H a o) ∧ aH F (upd F a o) := by
  have hF : F a = none := r.fr.free h
  have s1 : aH F (upd F a o) := kZ hF
  refine ⟨⟨r.pr.trans (kZ h), fun b u e => ?_, r.len, fun i d e1 => ?_, fun i d e1 => ?_, r.apart, fun b u e => ?_, r.fix⟩, s1⟩
  · by_cases hb : b = a
    · subst hb; rw [aQ] at e ⊢; exact e
    · rw [bJ hb] at e ⊢; exact r.fr b u e
  · obtain ⟨v, h1, h2⟩ := r.val i d e1
    exact ⟨v, h1, Rep.mono s1 d v h2⟩
  · obtain ⟨b, h1, h2, h3, h4⟩ := r.own i d e1
    obtain ⟨u, hu⟩ := h2.some
    have hb : b ≠ a := fu hu h
    exact ⟨b, h1, h2.mono s1 (bJ hb), by rw [bJ hb]; exact h3, h4⟩
  · by_cases hb : b = a
    · subst hb; exact r.pr.free h
    · rw [bJ hb] at e; exact r.dj b u e
theorem Rel.fresh {C : Cfg} {Pr F : Hp} {env : Env} {σ : L2.St} {H : Hp} {a : Addr} {o : HO} (r : Rel C Pr F env σ H) (h : H a = none) : Rel C Pr F env σ (upd H a o) := by
  refine ⟨r.pr.trans (kZ h), r.fr.trans (kZ h), r.len, r.val, fun i d e1 => ?_, r.apart, r.dj, r.fix⟩
  obtain ⟨b, h1, h2, h3, h4⟩ := r.own i d e1
  obtain ⟨u, hu⟩ := h2.some
  have hb : b ≠ a := fu hu h
  exact ⟨b, h1, h2.mono (aH.refl F) (bJ hb), h3, h4⟩
theorem Rel.aside {C : Cfg} {Pr F : Hp} {env : Env} {σ : L2.St} {H : Hp} {a : Addr} {o : HO} (r : Rel C Pr F env σ H) (h : H a = none) : Rel C (upd Pr a o) F env σ (upd H a o) := by
  have r' := r.fresh (o := o) h
  have hF : F a = none := r.fr.free h
  refine ⟨fun b u e => ?_, r'.fr, r.len, r.val, fun i d e1 => ?_, r.apart, fun b u e => ?_, r.fix⟩
  · by_cases hb : b = a
    · subst hb; rw [aQ] at e ⊢; exact e
    · rw [bJ hb] at e ⊢; exact r.pr b u e
  · obtain ⟨b, h1, h2, h3, h4⟩ := r'.own i d e1
    obtain ⟨b', h1', h2', _⟩ := r.own i d e1
    rw [h1] at h1'; cases h1'
    obtain ⟨u, hu⟩ := h2'.some
    have hb : b ≠ a := fu hu h
    exact ⟨b, h1, h2, h3, by rw [bJ hb]; exact h4⟩
  · have hb : b ≠ a := fun z => by rw [z, hF] at e; cases e
    rw [bJ hb]; exact r.dj b u e
theorem Rel.turn {C : Cfg} {Pr F : Hp} {env : Env} {σ : L2.St} {H : Hp} {a : Addr} {o u : HO} (r : Rel C Pr F env σ H) (h : Pr a = some o) : Rel C (upd Pr a u) F env σ (upd H a u) := by
  have hF : F a = none := by
    cases e : F a with
    | none => rfl
    | some w => have := r.dj a w e; rw [h] at this; cases this
  refine ⟨fun b w e => ?_, fun b w e => ?_, r.len, r.val, fun i d e1 => ?_, r.apart, fun b w e => ?_, r.fix⟩
  · by_cases hb : b = a
    · subst hb; rw [aQ] at e ⊢; exact e
    · rw [bJ hb] at e ⊢; exact r.pr b w e
  · have hb : b ≠ a := fun z => by rw [z, hF] at e; cases e
    rw [bJ hb]; exact r.fr b w e
  · obtain ⟨b, h1, h2, h3, h4⟩ := r.own i d e1
    have hb : b ≠ a := fun z => by rw [z, h] at h4; cases h4
    exact ⟨b, h1, h2.mono (aH.refl F) (bJ hb), h3, by rw [bJ hb]; exact h4⟩
  · have hb : b ≠ a := fun z => by rw [z, hF] at e; cases e
    rw [bJ hb]; exact r.dj b w e
theorem Rel.less {C : Cfg} {Pr Pr' F : Hp} {env : Env} {σ : L2.St} {H : Hp} (r : Rel C Pr F env σ H) (s : aH Pr' Pr) : Rel C Pr' F env σ H :=
  ⟨s.trans r.pr, r.fr, r.len, r.val, fun i d e => let ⟨b, h1, h2, h3, h4⟩ := r.own i d e; ⟨b, h1, h2, h3, s.free h4⟩, r.apart, fun b o e => s.free (r.dj b o e), r.fix⟩
theorem Rel.freeze {C : Cfg} {Pr F : Hp} {env : Env} {σ : L2.St} {H : Hp} (r : Rel C Pr F env σ H) {i : Nat} {d : D} (h : env[i]? = some (some (true, d))) :
    ∃ (F' : Hp) (v : V), Rel C Pr F' (env.set i (some (false, d))) σ H ∧ aH F F' ∧ σ[i]? = some (some v) ∧ Rep C.K F' d v := by
  obtain ⟨a, h1, h2, h3, h4⟩ := r.own i d h
  obtain ⟨o, ho⟩ := h2.some
  have s1 : aH F (upd F a o) := kZ h3
  have hi : i < env.length := (List.getElem?_eq_some_iff.mp h).1
  have rep : Rep C.K (upd F a o) d (.ref a) := by
    cases d with
    | lst xs => obtain ⟨z, vs, g1, g2⟩ := h2; rw [ho] at g1; cases g1; exact ⟨z, a, vs, rfl, aQ, aW.mono s1 _ _ g2⟩
    | dct kvs => obtain ⟨z, ks, g1, g2⟩ := h2; rw [ho] at g1; cases g1; exact ⟨z, a, ks, rfl, .inl aQ, cI.mono s1 _ _ g2⟩
    | _ => exact h2.elim
  refine ⟨upd F a o, .ref a, ⟨r.pr, fun b u e => ?_, by rw [List.length_set]; exact r.len, fun j e he => ?_, fun j e he => ?_, fun j k e f b hj hk g1 g2 => ?_, fun b u e => ?_, r.fix⟩, s1, h1, rep⟩
  · by_cases hb : b = a
    · subst hb; rw [aQ] at e; cases e; exact ho
    · rw [bJ hb] at e; exact r.fr b u e
  · by_cases hj : j = i
    · subst hj
      rw [List.getElem?_set_self hi] at he
      cases he
      exact ⟨_, h1, rep⟩
    · rw [List.getElem?_set_ne (Ne.symm hj)] at he
      obtain ⟨v, g1, g2⟩ := r.val j e he
      exact ⟨v, g1, Rep.mono s1 e v g2⟩
  · by_cases hj : j = i
    · subst hj
      rw [List.getElem?_set_self hi] at he
      cases he
    · rw [List.getElem?_set_ne (Ne.symm hj)] at he
      obtain ⟨b, g1, g2, g3, g4⟩ := r.own j e he
      have hb : b ≠ a := fun z => hj (r.apart j i e d a he h (by rw [← z]; exact g1) h1)
      exact ⟨b, g1, g2.mono s1 rfl, by rw [bJ hb]; exact g3, g4⟩
  · have nj : j ≠ i := fun z => by subst z; rw [List.getElem?_set_self hi] at hj; cases hj
    have nk : k ≠ i := fun z => by subst z; rw [List.getElem?_set_self hi] at hk; cases hk
    rw [List.getElem?_set_ne (Ne.symm nj)] at hj
    rw [List.getElem?_set_ne (Ne.symm nk)] at hk
    exact r.apart j k e f b hj hk g1 g2
  · by_cases hb : b = a
    · subst hb; exact h4
    · rw [bJ hb] at e; exact r.dj b u e
def tE (C : Cfg) (ev : Ev) : TE := fun σ H Q => ∃ (Pr F : Hp) (env env' : Env) (d : D), Rel C Pr F env σ H ∧ ev env = .ok d env' ∧
  ∀ v H' F', Rel C Pr F' env' σ H' → aH F F' → Rep C.K F' d v → Q v H'
def tRd (C : Cfg) (ev : Ev) : TE := fun σ H Q => ∃ (Pr F : Hp) (env env' : Env) (d : D), Rel C Pr F env σ H ∧ ev env = .ok d env' ∧
  ∀ v H' F', Rel C Pr F' env' σ H' → aH F F' → gJ C.K F' H' d v → Q v H'
def tT (C : Cfg) (ev : cO) : TT := fun σ H Q => ∃ (Pr F : Hp) (env env' : Env) (b : Bool), Rel C Pr F env σ H ∧ ev env = .ok b env' ∧
  ∀ H' F', Rel C Pr F' env' σ H' → aH F F' → Q b H'
def tA (C : Cfg) (ev : cz) : TA := fun σ H Q => ∃ (Pr F : Hp) (env env' : Env) (ds : List D), Rel C Pr F env σ H ∧ ev env = .ok ds env' ∧
  ∀ vs H' F', Rel C Pr F' env' σ H' → aH F F' → aW C.K F' ds vs → Q vs H'
def PX (X : Cx) (C : Cfg) (e : Expr) (ev : Ev) : Prop := PE X e (tE C ev)
def zQ (X : Cx) (C : Cfg) (e : Expr) (ev : Ev) : Prop := PE X e (tRd C ev)
def NZ (X : Cx) (C : Cfg) (e : Expr) (ev : cO) : Prop := PT X e (tT C ev)
def Jz (X : Cx) (C : Cfg) (es : List Expr) (ev : cz) : Prop := PA X es (tA C ev)
theorem _root_.L2.PE.imp {X : Cx} {e : Expr} {t t' : TE} (h : PE X e t) (i : ∀ σ H Q, t' σ H Q → t σ H Q) : PE X e t' := fun pins s σ H Q I q => h pins s σ H Q I (i σ H Q q)
theorem _root_.L2.PT.imp {X : Cx} {e : Expr} {t t' : TT} (h : PT X e t) (i : ∀ σ H Q, t' σ H Q → t σ H Q) : PT X e t' := fun pins s σ H Q I q => h pins s σ H Q I (i σ H Q q)
theorem _root_.L2.PW.imp {X : Cx} {e : Expr} {t t' : TT} (h : PW X e t) (i : ∀ σ H Q, t' σ H Q → t σ H Q) : PW X e t' := fun whole pins s σ H Q I q => h whole pins s σ H Q I (i σ H Q q)
theorem _root_.L2.PA.imp {X : Cx} {e : List Expr} {t t' : TA} (h : PA X e t) (i : ∀ σ H Q, t' σ H Q → t σ H Q) : PA X e t' := fun pos pins s σ H Q I q => h pos pins s σ H Q I (i σ H Q q)
theorem _root_.L2.PS.imp {X : Cx} {e : Stmt} {t t' : TS} (h : PS X e t) (i : ∀ D σ H, t' D σ H → t D σ H) : PS X e t' := fun pins s σ H D I q => h pins s σ H D I (i D σ H q)
theorem _root_.L2.JD.imp {X : Cx} {e : List Stmt} {t t' : TS} (h : JD X e t) (i : ∀ D σ H, t' D σ H → t D σ H) : JD X e t' := fun pins s σ H D I q => h pins s σ H D I (i D σ H q)
def bindR {α β : Type} (x : R α) (f : α → Env → R β) : R β := match x with
  | .ok a env => f a env
  | .stuck => .stuck
def cY {α : Type} (o : Option α) (env : Env) : R α := match o with
  | some a => .ok a env
  | none => .stuck
theorem aO {α β : Type} {x : R α} {f : α → Env → R β} {b : β} {env' : Env} (h : bindR x f = .ok b env') : ∃ a aB, x = .ok a aB ∧ f a aB = .ok b env' := by
  cases x with
  | ok a aB => exact ⟨a, aB, rfl, h⟩
  | stuck => cases h
theorem d8 {α : Type} {o : Option α} {env env' : Env} {a : α} (h : cY o env = .ok a env') : o = some a ∧ env' = env := by
  cases o with
  | some b => cases h; exact ⟨rfl, rfl⟩
  | none => cases h
section
variable {X : Cx} {C : Cfg} {pos : Pos}
def az (i : Nat) : Ev := fun env => match env[i]? with
  | some (some (false, d)) => .ok d env
  | some (some (true, d)) => .ok d (env.set i (some (false, d)))
  | _ => .stuck
theorem aay (i : Nat) {x : Str} (hN : X.N[i]? = some x) (hv : rO X.env.scope x) (hd : (x == ("__debug__" : Str)) = false := by decide) (hcd : (x == ("__classdict__" : Str)) = false := by decide) : PX X C (.Name x pos) (az i) := by
  refine (lu hN hv hd hcd).imp fun σ H Q h => ?_
  obtain ⟨Pr, F, env, env', d, r, e, q⟩ := h
  unfold az at e
  split at e
  · rename_i d' hd'
    cases e
    obtain ⟨v, h1, h2⟩ := r.val i d hd'
    exact ⟨v, h1, q v H F r (aH.refl F) h2⟩
  · rename_i d' hd'
    cases e
    obtain ⟨F', v, r', s', h1, h2⟩ := r.freeze hd'
    exact ⟨v, h1, q v H F' r' s' h2⟩
  · cases e
theorem PX.b {e : Expr} {ev : Ev} (h : PX X C e ev) : zQ X C e ev := PE.imp h fun σ H Q hq => by
  obtain ⟨Pr, F, env, env', d, r, e, q⟩ := hq
  exact ⟨Pr, F, env, env', d, r, e, fun v H' F' r' s' p' => q v H' F' r' s' (.inl p')⟩
def bw (i : Nat) : Ev := fun env => match env[i]? with
  | some (some (_, d)) => .ok d env
  | _ => .stuck
theorem Rel.rd {Pr F : Hp} {env : Env} {σ : L2.St} {H : Hp} (r : Rel C Pr F env σ H) {i : Nat} {o : Bool} {d : D} (h : env[i]? = some (some (o, d))) : ∃ v, σ[i]? = some (some v) ∧ gJ C.K F H d v := by
  cases o with
  | true => obtain ⟨a, h1, h2, _⟩ := r.own i d h; exact ⟨_, h1, .inr ⟨a, rfl, h2⟩⟩
  | false => obtain ⟨v, h1, h2⟩ := r.val i d h; exact ⟨v, h1, .inl h2⟩
theorem Wx (i : Nat) {x : Str} (hN : X.N[i]? = some x) (hv : rO X.env.scope x) (hd : (x == ("__debug__" : Str)) = false := by decide) (hcd : (x == ("__classdict__" : Str)) = false := by decide) : zQ X C (.Name x pos) (bw i) := by
  refine (lu hN hv hd hcd).imp fun σ H Q h => ?_
  obtain ⟨Pr, F, env, env', d, r, e, q⟩ := h
  unfold bw at e
  split at e
  · rename_i o' d' hd'
    cases e
    obtain ⟨v, h1, h2⟩ := r.rd hd'
    exact ⟨v, h1, q v H F r (aH.refl F) h2⟩
  · cases e
def aN (d : D) : Ev := fun env => .ok d env
theorem aL {i : Int} {j : Nat} : PX X C (.Constant (.int i) j pos) (aN (.int i)) := aaR.imp fun σ H Q h => by
  obtain ⟨Pr, F, env, env', d, r, e, q⟩ := h
  cases e
  exact q _ _ F r (aH.refl F) rfl
theorem fX {b : Bool} {j : Nat} : PX X C (.Constant (.bool b) j pos) (aN (.bl b)) := aeC.imp fun σ H Q h => by
  obtain ⟨Pr, F, env, env', d, r, e, q⟩ := h
  cases e
  exact q _ _ F r (aH.refl F) rfl
theorem fU {j : Nat} : PX X C (.Constant .none j pos) (aN .non) := aaP.imp fun σ H Q h => by
  obtain ⟨Pr, F, env, env', d, r, e, q⟩ := h
  cases e
  exact q _ _ F r (aH.refl F) rfl
theorem bH (z : List Nat) {x : Str} {j : Nat} (hz : x = strOf z) (hl : z.length ≤ sizeLine := by decide) : PX X C (.Constant (.str x) j pos) (aN (.str z)) := by
  subst hz
  refine aaN.imp fun σ H Q h => ?_
  obtain ⟨Pr, F, env, env', d, r, e, q⟩ := h
  cases e
  exact q _ _ F r (aH.refl F) ⟨rfl, hl⟩
theorem qZ {x : Str} {v : V} {u : Value} (d : D) (hg : Gl X x) (hm : X.mg x = some u) (rv : RelV v u) (hr : ∀ F, Rep C.K F d v) (hd : (x == ("__debug__" : Str)) = false := by decide) : PX X C (.Name x pos) (aN d) :=
  (WX hg hm rv hd).imp fun σ H Q h => by
    obtain ⟨Pr, F, env, env', d, r, e, q⟩ := h
    cases e
    exact q _ _ F r (aH.refl F) (hr F)
def ak : cz := fun env => .ok [] env
def aa (a : Ev) (r : cz) : cz := fun env => bindR (a env) fun d aB => bindR (r aB) fun ds cN => .ok (d :: ds) cN
theorem ao : Jz X C [] ak := sH.imp fun σ H Q h => by
  obtain ⟨Pr, F, env, env', d, r, e, q⟩ := h
  cases e
  exact q _ _ F r (aH.refl F) rfl
theorem aj {e : Expr} {es : List Expr} {a : Ev} {r : cz} (ha : PX X C e a) (hr : Jz X C es r) (hs : starEach (e :: es) X.env = (false, eval e X.env) :: starEach es X.env := by rfl) : Jz X C (e :: es) (aa a r) :=
  (jB ha hr hs).imp fun σ H Q h => by
    obtain ⟨Pr, F, env, env', ds, rl, e, q⟩ := h
    obtain ⟨d1, aB, e1, e2⟩ := aO e
    obtain ⟨ds2, cN, e3, e4⟩ := aO e2
    cases e4
    refine ⟨Pr, F, env, aB, d1, rl, e1, fun v H1 F1 r1 s1 p1 => ?_⟩
    refine ⟨Pr, F1, aB, env', ds2, r1, e3, fun vs H2 F2 r2 s2 p2 => ?_⟩
    exact q _ H2 F2 r2 (s1.trans s2) ⟨v, vs, rfl, Rep.mono s2 d1 v p1, p2⟩
def bC (r : cz) : Ev := fun env => bindR (r env) fun ds aB => if ds.length ≤ sizeLine then .ok (.tup ds) aB else .stuck
def cJ (r : cz) : Ev := fun env => bindR (r env) fun ds aB => if ds.length ≤ sizeLine then .ok (.lst ds) aB else .stuck
theorem bf {es : List Expr} {r : cz} {k : Nat} (h : Jz X C es r) : PX X C (.Tuple es k pos) (bC r) := (aaM h).imp fun σ H Q hq => by
  obtain ⟨Pr, F, env, env', d, rl, e, q⟩ := hq
  obtain ⟨ds, aB, e1, e2⟩ := aO e
  split at e2
  · rename_i hz
    cases e2
    refine ⟨Pr, F, env, env', ds, rl, e1, fun vs H1 F1 r1 s1 p1 => ⟨by rw [p1.length]; exact hz, fun p hp => ?_⟩⟩
    obtain ⟨r2, s2⟩ := r1.new (o := .tup vs) hp
    exact q _ _ _ r2 (s1.trans s2) ⟨hz, p, vs, rfl, nO.of aQ, aW.mono s2 _ _ p1⟩
  · cases e2
def aF (g : D → D → Option D) (a b : Ev) : Ev := fun env => bindR (a env) fun x aB => bindR (b aB) fun y cN => cY (g x y) cN
def oK (g : D → Option D) (a : Ev) : Ev := fun env => bindR (a env) fun x aB => cY (g x) aB
def nu (C : Cfg) (r : R2) (g : D → D → Option D) : Prop := ∀ (Pr F : Hp) (env : Env) (σ : L2.St) (H : Hp) (x y d : D) (vx vy : V) (Q : VK), Rel C Pr F env σ H → gJ C.K F H x vx → gJ C.K F H y vy → g x y = some d →
  (∀ v H' F', Rel C Pr F' env σ H' → aH F F' → Rep C.K F' d v → Q v H') → r vx vy H Q
theorem Fx {r : R2} {g : D → D → Option D} {a b : Ev} (o : nu C r g) (σ : L2.St) (H : Hp) (Q : VK) (h : tE C (aF g a b) σ H Q) : tOp r (tE C a) (tRd C b) σ H Q := by
  obtain ⟨Pr, F, env, env', d, rl, e, q⟩ := h
  obtain ⟨x, aB, e1, e2⟩ := aO e
  obtain ⟨y, cN, e3, e4⟩ := aO e2
  obtain ⟨e5, rfl⟩ := d8 e4
  refine ⟨Pr, F, env, aB, x, rl, e1, fun vx H1 F1 r1 s1 p1 => ⟨Pr, F1, aB, env', y, r1, e3, fun vy H2 F2 r2 s2 p2 => ?_⟩⟩
  exact o Pr F2 env' σ H2 x y d vx vy Q r2 (.inl (Rep.mono s2 x vx p1)) p2 e5 fun v H3 F3 r3 s3 p3 => q v H3 F3 r3 ((s1.trans s2).trans s3) p3
def aA (g : D → D → Option D) (i : Nat) (b : Ev) : Ev := fun env => match env[i]? with
  | some (some (_, _)) => bindR (b env) fun y cN => (match cN[i]? with
    | some (some (_, x)) => cY (g x y) cN
    | _ => .stuck)
  | _ => .stuck
theorem uN {r : R2} {g : D → D → Option D} {i : Nat} {b : Ev} (o : nu C r g) (σ : L2.St) (H : Hp) (Q : VK) (h : tE C (aA g i b) σ H Q) : tOp r (adX i) (tRd C b) σ H Q := by
  obtain ⟨Pr, F, env, env', d, rl, e, q⟩ := h
  unfold aA at e
  split at e
  · rename_i o0 d0 h0
    obtain ⟨v, hv, _⟩ := rl.rd h0
    obtain ⟨y, cN, e1, e2⟩ := aO e
    split at e2
    · rename_i o2 x h2
      obtain ⟨e5, rfl⟩ := d8 e2
      refine ⟨v, hv, Pr, F, env, env', y, rl, e1, fun vy H2 F2 r2 s2 p2 => ?_⟩
      obtain ⟨v', hv', p⟩ := r2.rd h2
      rw [hv] at hv'; cases hv'
      exact o Pr F2 env' σ H2 x y d v vy Q r2 p p2 e5 fun v H3 F3 r3 s3 p3 => q v H3 F3 r3 (s2.trans s3) p3
    · cases e2
  · cases e
theorem aev {op : Operator} {r : R2} {g : D → D → Option D} {x y : Expr} {a b : Ev} (ho : kh X (binaryOp op) r) (o : nu C r g) (ha : PX X C x a) (hb : zQ X C y b) : PX X C (.BinOp x op y pos) (aF g a b) :=
  (Zf ho ha hb).imp (Fx o)
theorem aaA {op : Operator} {r : R2} {g : D → D → Option D} {y : Expr} {b : Ev} {px : Pos} (i : Nat) {x : Str} (hN : X.N[i]? = some x) (hv : rO X.env.scope x) (ho : kh X (binaryOp op) r) (o : nu C r g) (hb : zQ X C y b)
    (hd : (x == ("__debug__" : Str)) = false := by decide) (hcd : (x == ("__classdict__" : Str)) = false := by decide) : PX X C (.BinOp (.Name x px) op y pos) (aA g i b) :=
  (Zf ho (lu hN hv hd hcd) hb).imp (uN o)
theorem aaC {op : CmpOp} {r : R2} {g : D → D → Option D} {x y : Expr} {a b : Ev} (ho : kh X (compareOp op) r) (o : nu C r g) (ha : PX X C x a) (hb : zQ X C y b) (hm : behindInMarks op y = false) : PX X C (.Compare x [op] [y] pos) (aF g a b) :=
  (M4 ho ha hb hm).imp (Fx o)
def jC (a : Ev) : cO := fun env => bindR (a env) fun d aB => match d with
  | .bl b => .ok b aB
  | _ => .stuck
theorem Q0 {a : Ev} {σ : L2.St} {H : Hp} {Q : Bool → Hp → Prop} (h : tT C (jC a) σ H Q) : tE C a σ H fun x H' => ∃ k, x = .bl k ∧ Q k H' := by
  obtain ⟨Pr, F, env, env', b, rl, e, q⟩ := h
  obtain ⟨d, aB, e1, e2⟩ := aO e
  refine ⟨Pr, F, env, aB, d, rl, e1, fun v H1 F1 r1 s1 p1 => ?_⟩
  cases d with
  | bl c => cases e2; exact ⟨_, p1, q H1 F1 r1 s1⟩
  | _ => cases e2
theorem Wo {op : CmpOp} {r : R2} {g : D → D → Option D} {x y : Expr} {a b : Ev} (ho : kh X (compareOp op) r) (o : nu C r g) (ha : PX X C x a) (hb : zQ X C y b) (hm : behindInMarks op y = false) : NZ X C (.Compare x [op] [y] pos) (jC (aF g a b)) :=
  (MP ho ha hb hm).imp fun σ H Q h => by
    have h1 := Q0 h
    exact Fx o σ H _ h1
theorem fj {e : Expr} {a : Ev} (h : PX X C e a) (he : ∀ whole, isTrue e X.env whole = (do let v ← whole; standAt e.pos; holding [v] (truthy v)) := by intro _; rfl) : NZ X C e (jC a) :=
  (aaD h he).imp fun σ H Q hq => Q0 hq
def fC (a : cO) : cO := fun env => bindR (a env) fun b aB => .ok (!b) aB
theorem fW {x : Expr} {a : cO} (h : NZ X C x a) : NZ X C (.UnaryOp .Not x pos) (fC a) := (aaE h).imp fun σ H Q hq => by
  obtain ⟨Pr, F, env, env', b, rl, e, q⟩ := hq
  obtain ⟨c, aB, e1, e2⟩ := aO e
  cases e2
  exact ⟨Pr, F, env, env', c, rl, e1, fun H1 F1 r1 s1 => q H1 F1 r1 s1⟩
def zg (a b : cO) : cO := fun env => bindR (a env) fun c aB => if c = true then b aB else .ok false aB
def o9 (a b : cO) : cO := fun env => bindR (a env) fun c aB => if c = true then .ok true aB else b aB
def VM (X : Cx) (C : Cfg) (e : Expr) (ev : cO) : Prop := PW X e (tT C ev)
theorem ym {x : Expr} {a : cO} (h : NZ X C x a) : VM X C (.BoolOp .And [x] pos) a := pw_and1 h
theorem nT {x : Expr} {a : cO} (h : NZ X C x a) : VM X C (.BoolOp .Or [x] pos) a := pw_or1 h
theorem Dd {x y : Expr} {rest : List Expr} {a b : cO} (ha : NZ X C x a) (hb : VM X C (.BoolOp .And (y :: rest) pos) b) : VM X C (.BoolOp .And (x :: y :: rest) pos) (zg a b) :=
  (pw_and ha hb).imp fun σ H Q hq => by
    obtain ⟨Pr, F, env, env', k, rl, e, q⟩ := hq
    obtain ⟨c, aB, e1, e2⟩ := aO e
    refine ⟨Pr, F, env, aB, c, rl, e1, fun H1 F1 r1 s1 => ?_⟩
    split at e2
    · rename_i hc; rw [if_pos hc]; exact ⟨Pr, F1, aB, env', k, r1, e2, fun H2 F2 r2 s2 => q H2 F2 r2 (s1.trans s2)⟩
    · rename_i hc; rw [if_neg hc]; cases e2; exact q H1 F1 r1 s1
theorem pH {x y : Expr} {rest : List Expr} {a b : cO} (ha : NZ X C x a) (hb : VM X C (.BoolOp .Or (y :: rest) pos) b) : VM X C (.BoolOp .Or (x :: y :: rest) pos) (o9 a b) :=
  (pw_or ha hb).imp fun σ H Q hq => by
    obtain ⟨Pr, F, env, env', k, rl, e, q⟩ := hq
    obtain ⟨c, aB, e1, e2⟩ := aO e
    refine ⟨Pr, F, env, aB, c, rl, e1, fun H1 F1 r1 s1 => ?_⟩
    split at e2
    · rename_i hc; rw [if_pos hc]; cases e2; exact q H1 F1 r1 s1
    · rename_i hc; rw [if_neg hc]; exact ⟨Pr, F1, aB, env', k, r1, e2, fun H2 F2 r2 s2 => q H2 F2 r2 (s1.trans s2)⟩
theorem VM.pt {e : Expr} {a : cO} (h : VM X C e a) : NZ X C e a := PW.pt h
def dY (a b : Ev) : Ev := fun env => bindR (a env) fun c aB => match c with
  | .bl true => b aB
  | .bl false => .ok (.bl false) aB
  | _ => .stuck
def IK (a b : Ev) : Ev := fun env => bindR (a env) fun c aB => match c with
  | .bl true => .ok (.bl true) aB
  | .bl false => b aB
  | _ => .stuck
def ZF (a : Ev) : Ev := fun env => bindR (a env) fun c aB => match c with
  | .bl b => .ok (.bl (!b)) aB
  | _ => .stuck
theorem lq {op : BoolOp} {x : Expr} {a : Ev} (h : PX X C x a) : PX X C (.BoolOp op [x] pos) a := aaO h
theorem jt {x y : Expr} {rest : List Expr} {a b : Ev} (ha : PX X C x a) (hb : PX X C (.BoolOp .And (y :: rest) pos) b) : PX X C (.BoolOp .And (x :: y :: rest) pos) (dY a b) :=
  (aaS ha hb).imp fun σ H Q hq => by
    obtain ⟨Pr, F, env, env', k, rl, e, q⟩ := hq
    obtain ⟨c, aB, e1, e2⟩ := aO e
    refine ⟨Pr, F, env, aB, c, rl, e1, fun v H1 F1 r1 s1 p1 => ?_⟩
    cases c with
    | bl z =>
      refine ⟨z, p1, ?_⟩
      cases z with
      | true => exact afs ⟨Pr, F1, aB, env', k, r1, e2, fun v2 H2 F2 r2 s2 p2 => q v2 H2 F2 r2 (s1.trans s2) p2⟩
      | false => cases e2; exact aft (q _ H1 F1 r1 s1 rfl)
    | _ => cases e2
theorem MN {x y : Expr} {rest : List Expr} {a b : Ev} (ha : PX X C x a) (hb : PX X C (.BoolOp .Or (y :: rest) pos) b) : PX X C (.BoolOp .Or (x :: y :: rest) pos) (IK a b) :=
  (aeA ha hb).imp fun σ H Q hq => by
    obtain ⟨Pr, F, env, env', k, rl, e, q⟩ := hq
    obtain ⟨c, aB, e1, e2⟩ := aO e
    refine ⟨Pr, F, env, aB, c, rl, e1, fun v H1 F1 r1 s1 p1 => ?_⟩
    cases c with
    | bl z =>
      refine ⟨z, p1, ?_⟩
      cases z with
      | true => cases e2; exact afs (q _ H1 F1 r1 s1 rfl)
      | false => exact aft ⟨Pr, F1, aB, env', k, r1, e2, fun v2 H2 F2 r2 s2 p2 => q v2 H2 F2 r2 (s1.trans s2) p2⟩
    | _ => cases e2
def ahy (t : cO) (a b : Ev) : Ev := fun env => bindR (t env) fun c aB => if c = true then a aB else b aB
end
end Ev
namespace Ev
open PySem PySem.Spec PyProof.Rows L2
def wQ (f : D → D → Option Bool) : List D → List D → Option Bool
  | [], [] => some true
  | x :: xs, y :: ys => match f x y, wQ f xs ys with
    | some a, some b => some (a && b)
    | _, _ => none
  | [], _ :: _ => some false
  | _ :: _, [] => some false
def aU : Nat → D → D → Option Bool
  | 0, _, _ => none
  | n + 1, .tup xs, .tup ys => wQ (aU n) xs ys
  | n + 1, .lst xs, .lst ys => wQ (aU n) xs ys
  | _ + 1, .dct _, _ => none
  | _ + 1, _, .dct _ => none
  | _ + 1, .arr _, _ => none
  | _ + 1, _, .arr _ => none
  | _ + 1, .non, .non => some true
  | _ + 1, .bl a, .bl b => some (a == b)
  | _ + 1, .bl a, .int b => some ((if a then 1 else 0) == b)
  | _ + 1, .int a, .bl b => some (a == (if b then 1 else 0))
  | _ + 1, .int a, .int b => some (a == b)
  | _ + 1, .str a, .str b => some (a == b)
  | _ + 1, _, _ => some false
mutual
def Sh (h : Heap) : D → Value → Prop
  | .non, u => u = .none
  | .bl b, u => u = .bool b
  | .int i, u => ∃ t, u = .int i t
  | .str x, u => ∃ t, u = .str (strOf x) t
  | .tup xs, u => ∃ a its, u = .ref a ∧ IsTup h a its.toArray ∧ rP h xs its
  | .lst xs, u => ∃ a its, u = .ref a ∧ PlainL h a its.toArray ∧ rP h xs its
  | .arr xs, u => ∃ a its, u = .ref a ∧ PlainL h a its.toArray ∧ rP h xs its
  | .dct _, u => ∃ a o, u = .ref a ∧ h.get? a = some o ∧ o.ExactDict
def rP (h : Heap) : List D → List Value → Prop
  | [], us => us = []
  | d :: ds, us => ∃ u r, us = u :: r ∧ Sh h d u ∧ rP h ds r
end
theorem rP.length {h : Heap} : ∀ {ds : List D} {us : List Value}, rP h ds us → us.length = ds.length
  | [], _, e => by cases e; rfl
  | d :: ds, us, e => by obtain ⟨u, r, rfl, _, h2⟩ := e; rw [List.length_cons, List.length_cons, h2.length]
section
variable {X : Cx} {pins : List (Addr × Obj)} {σ : L2.St} {H : Hp} {s : Shared}
mutual
theorem Rep.sh (I : Inv X pins σ H s) : ∀ (d : D) (v : V) (u : Value), Rep X.K H d v → RelV v u → Sh s.heap d u
  | .non, _, _, h, r => by cases h; exact r
  | .bl _, _, _, h, r => by cases h; exact r
  | .int _, _, _, h, r => by cases h; exact r
  | .str _, _, _, h, r => by obtain ⟨h, _⟩ := h; cases h; exact r
  | .tup xs, v, u, h, r => by
    obtain ⟨z, a, vs, rfl, h1, h2⟩ := h
    cases r
    obtain ⟨its, rv, p, _⟩ := I.tuple h1
    exact ⟨a, its, rfl, p, aW.sh I xs vs its h2 rv⟩
  | .lst xs, v, u, h, r => by
    obtain ⟨z, a, vs, rfl, h1, h2⟩ := h
    cases r
    obtain ⟨its, rv, p, _⟩ := I.list (lN.of h1)
    exact ⟨a, its, rfl, p, aW.sh I xs vs its h2 rv⟩
  | .arr xs, v, u, h, r => by
    obtain ⟨z, a, vs, rfl, h1, h2⟩ := h
    cases r
    obtain ⟨its, rv, p, _⟩ := I.list h1
    exact ⟨a, its, rfl, p, aW.sh I xs vs its h2 rv⟩
  | .dct kvs, v, u, h, r => by
    obtain ⟨z, a, ks, rfl, h1, h2⟩ := h
    cases r
    obtain ⟨_, _, vs, _, o, _, _, e, ex, _⟩ := h1.ok I.hok
    exact ⟨a, o, rfl, e, ex⟩
theorem aW.sh (I : Inv X pins σ H s) : ∀ (ds : List D) (vs : List V) (us : List Value), aW X.K H ds vs → Vals vs us → rP s.heap ds us
  | [], _, _, h, r => by cases h; cases r; exact rfl
  | d :: ds, vs, us, h, r => by
    obtain ⟨v, rr, rfl, h1, h2⟩ := h
    cases r with
    | cons q qs => exact ⟨_, _, rfl, Rep.sh I d v _ h1 q, aW.sh I ds rr _ h2 qs⟩
end
end
theorem Mr {h : Heap} {a : Addr} {xs ys : Array Value} (p : IsTup h a xs) (q : IsTup h a ys) : xs = ys := by
  obtain ⟨o, e, _, n, d⟩ := p
  obtain ⟨o', e', _, n', d'⟩ := q
  rw [e] at e'; cases e'
  rw [d] at d'; cases d'; rfl
theorem M9 {h : Heap} {a : Addr} {xs ys : Array Value} (p : PlainL h a xs) (q : PlainL h a ys) : xs = ys := by
  obtain ⟨o, e, _, n, d⟩ := p.isList
  obtain ⟨o', e', _, n', d'⟩ := q.isList
  rw [e] at e'; cases e'
  rw [d] at d'; cases d'; rfl
theorem xx {h : Heap} {a : Addr} {xs ys : Array Value} (p : IsTup h a xs) (q : PlainL h a ys) : False := by
  obtain ⟨o, e, c, n, d⟩ := p
  obtain ⟨o', e', c', n', d'⟩ := q.isList
  rw [e] at e'; cases e'
  rw [c] at c'
  simp at c'
theorem zj {h : Heap} : ∀ (n : Nat) (d e : D) (u : Value) (b : Bool), Sh h d u → Sh h e u → aU n d e = some b → b = true
  | 0, _, _, _, _, _, _, hb => by simp [aU] at hb
  | n + 1, d, e, u, b, hd, he, hb => by
    have all : ∀ (xs ys : List D) (us : List Value) (b : Bool), rP h xs us → rP h ys us → wQ (aU n) xs ys = some b → b = true := by
      intro xs
      induction xs with
      | nil =>
        intro ys us b h1 h2 hb
        cases h1
        cases ys with
        | nil => simp [wQ] at hb; exact hb
        | cons y ys => obtain ⟨u, r, q, _⟩ := h2; cases q
      | cons x xs ih =>
        intro ys us b h1 h2 hb
        obtain ⟨u, r, rfl, h3, h4⟩ := h1
        cases ys with
        | nil => cases h2
        | cons y ys =>
          obtain ⟨u', r', q, h5, h6⟩ := h2
          cases q
          unfold wQ at hb
          cases q1 : aU n x y with
          | none => rw [q1] at hb; simp at hb
          | some c =>
            cases q2 : wQ (aU n) xs ys with
            | none => rw [q1, q2] at hb; simp at hb
            | some c' =>
              rw [q1, q2] at hb
              have e1 := zj n x y u c h3 h5 q1
              have e2 := ih ys r c' h4 h6 q2
              subst e1 e2
              simp at hb
              exact hb
    cases d with
    | non => cases hd; cases e <;> simp [Sh] at he; simp [aU] at hb; exact hb
    | bl c => cases hd; cases e <;> simp [Sh] at he; subst he; simp [aU] at hb; exact hb
    | int i => obtain ⟨t, rfl⟩ := hd; cases e <;> simp [Sh] at he; subst he; simp [aU] at hb; exact hb
    | str x =>
      obtain ⟨t, rfl⟩ := hd
      cases e with
      | str y =>
        obtain ⟨t', q⟩ := he
        injection q with q1 _
        unfold strOf at q1
        injection q1 with q2
        have q3 := congrArg Array.toList q2
        simp at q3
        subst q3
        simp [aU] at hb
        exact hb
      | _ => simp [Sh] at he
    | tup xs =>
      obtain ⟨a, its, rfl, p, hs⟩ := hd
      cases e with
      | tup ys =>
        obtain ⟨a', its', q, p', hs'⟩ := he
        cases q
        have e2 : its = its' := by simpa using Mr p p'
        subst e2
        exact all xs ys its b hs hs' (by simpa only [aU] using hb)
      | lst ys =>
        obtain ⟨a', its', q, p', hs'⟩ := he
        cases q
        exact (xx p p').elim
      | dct kvs => simp [aU] at hb
      | arr kvs => simp [aU] at hb
      | _ => simp [Sh] at he
    | lst xs =>
      obtain ⟨a, its, rfl, p, hs⟩ := hd
      cases e with
      | lst ys =>
        obtain ⟨a', its', q, p', hs'⟩ := he
        cases q
        have e2 : its = its' := by simpa using M9 p p'
        subst e2
        exact all xs ys its b hs hs' (by simpa only [aU] using hb)
      | tup ys =>
        obtain ⟨a', its', q, p', hs'⟩ := he
        cases q
        exact (xx p' p).elim
      | dct kvs => simp [aU] at hb
      | arr kvs => simp [aU] at hb
      | _ => simp [Sh] at he
    | dct kvs => cases e <;> simp [aU] at hb
    | arr kvs => cases e <;> simp [aU] at hb
theorem Nz {h : Heap} : ∀ (n : Nat) (d d' e : D) (u : Value) (b b' : Bool), Sh h d u → Sh h d' u → aU n d e = some b → aU n d' e = some b' → b = b'
  | 0, _, _, _, _, _, _, _, _, hb, _ => by simp [aU] at hb
  | n + 1, d, d', e, u, b, b', hd, hd', hb, hb' => by
    have all : ∀ (xs xs' ys : List D) (us : List Value) (b b' : Bool), rP h xs us → rP h xs' us → wQ (aU n) xs ys = some b → wQ (aU n) xs' ys = some b' → b = b' := by
      intro xs
      induction xs with
      | nil =>
        intro xs' ys us b b' h1 h2 hb hb'
        cases h1
        cases xs' with
        | nil => rw [hb] at hb'; exact Option.some.inj hb'
        | cons y ys => obtain ⟨u, r, q, _⟩ := h2; cases q
      | cons x xs ih =>
        intro xs' ys us b b' h1 h2 hb hb'
        obtain ⟨u, r, rfl, h3, h4⟩ := h1
        cases xs' with
        | nil => cases h2
        | cons x' xs' =>
          obtain ⟨u', r', q, h5, h6⟩ := h2
          cases q
          cases ys with
          | nil => simp [wQ] at hb hb'; rw [hb, hb']
          | cons y ys =>
            unfold wQ at hb hb'
            cases q1 : aU n x y with
            | none => rw [q1] at hb; simp at hb
            | some c =>
              cases q2 : wQ (aU n) xs ys with
              | none => rw [q1, q2] at hb; simp at hb
              | some c2 =>
                cases q3 : aU n x' y with
                | none => rw [q3] at hb'; simp at hb'
                | some c3 =>
                  cases q4 : wQ (aU n) xs' ys with
                  | none => rw [q3, q4] at hb'; simp at hb'
                  | some c4 =>
                    rw [q1, q2] at hb
                    rw [q3, q4] at hb'
                    have e1 := Nz n x x' y u c c3 h3 h5 q1 q3
                    have e2 := ih xs' ys r c2 c4 h4 h6 q2 q4
                    subst e1 e2
                    simp at hb hb'
                    rw [← hb, ← hb']
    cases d with
    | non => cases hd; cases d' <;> simp [Sh] at hd'; rw [hb] at hb'; exact Option.some.inj hb'
    | bl c => cases hd; cases d' <;> simp [Sh] at hd'; subst hd'; rw [hb] at hb'; exact Option.some.inj hb'
    | int i => obtain ⟨t, rfl⟩ := hd; cases d' <;> simp [Sh] at hd'; subst hd'; rw [hb] at hb'; exact Option.some.inj hb'
    | str x =>
      obtain ⟨t, rfl⟩ := hd
      cases d' with
      | str y =>
        obtain ⟨t', q⟩ := hd'
        injection q with q1 _
        unfold strOf at q1
        injection q1 with q2
        have q3 := congrArg Array.toList q2
        simp at q3
        subst q3
        rw [hb] at hb'; exact Option.some.inj hb'
      | _ => simp [Sh] at hd'
    | tup xs =>
      obtain ⟨a, its, rfl, p, hs⟩ := hd
      cases d' with
      | tup xs' =>
        obtain ⟨a', its', q, p', hs'⟩ := hd'
        cases q
        have e2 : its = its' := by simpa using Mr p p'
        subst e2
        cases e with
        | tup ys => exact all xs xs' ys its b b' hs hs' (by simpa only [aU] using hb) (by simpa only [aU] using hb')
        | _ => first | (simp [aU] at hb; done) | (simp only [aU, Option.some.injEq] at hb hb'; rw [← hb, ← hb'])
      | lst ys =>
        obtain ⟨a', its', q, p', hs'⟩ := hd'
        cases q
        exact (xx p p').elim
      | dct kvs => cases e <;> simp [aU] at hb'
      | arr kvs => cases e <;> simp [aU] at hb'
      | _ => simp [Sh] at hd'
    | lst xs =>
      obtain ⟨a, its, rfl, p, hs⟩ := hd
      cases d' with
      | lst xs' =>
        obtain ⟨a', its', q, p', hs'⟩ := hd'
        cases q
        have e2 : its = its' := by simpa using M9 p p'
        subst e2
        cases e with
        | lst ys => exact all xs xs' ys its b b' hs hs' (by simpa only [aU] using hb) (by simpa only [aU] using hb')
        | _ => first | (simp [aU] at hb; done) | (simp only [aU, Option.some.injEq] at hb hb'; rw [← hb, ← hb'])
      | tup ys =>
        obtain ⟨a', its', q, p', hs'⟩ := hd'
        cases q
        exact (xx p' p).elim
      | dct kvs => cases e <;> simp [aU] at hb'
      | arr kvs => cases e <;> simp [aU] at hb'
      | _ => simp [Sh] at hd'
    | dct kvs => cases e <;> simp [aU] at hb
    | arr kvs => cases e <;> simp [aU] at hb
theorem uZ (x y : List Nat) : (strOf x == strOf y) = (x == y) := by
  rw [Bool.eq_iff_iff]
  simp only [beq_iff_eq]
  constructor
  · intro e
    unfold strOf at e
    injection e with e
    simpa using congrArg Array.toList e
  · intro e; rw [e]
theorem xH : ∀ {f : D → D → Option Bool} {xs ys : List D}, xs.length ≠ ys.length → ∀ b, wQ f xs ys = some b → b = false
  | f, [], [], h, b, e => absurd rfl h
  | f, [], _ :: _, _, b, e => by simp [wQ] at e; exact e
  | f, _ :: _, [], _, b, e => by simp [wQ] at e; exact e
  | f, x :: xs, y :: ys, h, b, e => by
    unfold wQ at e
    cases h1 : f x y with
    | none => rw [h1] at e; simp at e
    | some c =>
      cases h2 : wQ f xs ys with
      | none => rw [h1, h2] at e; simp at e
      | some d =>
        rw [h1, h2] at e
        have := xH (f := f) (xs := xs) (ys := ys) (by simpa using h) d h2
        subst this
        simp at e
        exact e
theorem tQ : ∀ {f : D → D → Option Bool} (xs ys : List D) (b : Bool), wQ f xs ys = some b → ∃ e : Nat → Bool, (∀ (j : Nat) (x y : D), xs[j]? = some x → ys[j]? = some y → f x y = some (e j)) ∧ b = ((List.range (min xs.length ys.length)).all e && xs.length == ys.length)
  | f, [], ys, b, h => by
    refine ⟨fun _ => true, fun j x y hx => by simp at hx, ?_⟩
    cases ys with
    | nil => simp [wQ] at h; simp [h.symm]
    | cons y ys => simp [wQ] at h; simp [h.symm]
  | f, x :: xs, [], b, h => by
    refine ⟨fun _ => true, fun j x y _ hy => by simp at hy, ?_⟩
    simp [wQ] at h
    simp [h.symm]
  | f, x :: xs, y :: ys, b, h => by
    unfold wQ at h
    cases h1 : f x y with
    | none => rw [h1] at h; simp at h
    | some c =>
      cases h2 : wQ f xs ys with
      | none => rw [h1, h2] at h; simp at h
      | some d =>
        rw [h1, h2] at h
        obtain ⟨e, he, hd⟩ := tQ xs ys d h2
        refine ⟨fun j => match j with | 0 => c | j + 1 => e j, fun j x' y' hx hy => ?_, ?_⟩
        · cases j with
          | zero => simp at hx hy; subst hx hy; exact h1
          | succ j => exact he j x' y' (by simpa using hx) (by simpa using hy)
        · have hb : b = (c && d) := by simpa using h.symm
          have hm : min (x :: xs).length (y :: ys).length = min xs.length ys.length + 1 := by simp only [List.length_cons]; omega
          rw [hb, hd, hm, List.range_succ_eq_map, List.all_cons, List.all_map, Bool.and_assoc]
          have hl : ((x :: xs).length == (y :: ys).length) = (xs.length == ys.length) := by simp
          rw [hl]
          rfl
theorem lW {h : Heap} : ∀ {ds : List D} {us : List Value} {j : Nat} {u : Value}, rP h ds us → us[j]? = some u → ∃ d, ds[j]? = some d ∧ Sh h d u
  | [], _, _, _, e, g => by cases e; simp at g
  | d :: ds, us, j, u, e, g => by
    obtain ⟨v, r, rfl, h1, h2⟩ := e
    cases j with
    | zero => simp at g; subst g; exact ⟨d, rfl, h1⟩
    | succ j => obtain ⟨c, e1, e2⟩ := lW h2 (j := j) (by simpa using g); exact ⟨c, by simpa using e1, e2⟩
theorem vW : ∀ (n : Nat) (d e : D) (u v : Value) (b : Bool) (A : Around) (s : Shared), Sh s.heap d u → Sh s.heap e v → aU n d e = some b → A.units + n < cLine → SeqAt.EqAt A s u v b
  | 0, _, _, _, _, _, _, _, _, _, h, _ => by simp [aU] at h
  | n + 1, d, e, u, v, b, A, s, hd, he, h, hu => by
    have hu0 : A.units < cLine := by omega
    have hin : A.in1.units + n < cLine := by show A.units + 1 + n < cLine; omega
    cases d with
    | non =>
      cases hd
      cases e with
      | non => cases he; simp [aU] at h; subst h; exact SeqAt.EqAt.same _
      | bl c => cases he; simp [aU] at h; subst h; exact SeqAt.EqAt.none_bool c
      | int i => obtain ⟨t, rfl⟩ := he; simp [aU] at h; subst h; exact SeqAt.EqAt.none_int i t
      | str x => obtain ⟨t, rfl⟩ := he; simp [aU] at h; subst h; exact SeqAt.EqAt.none_str _ t
      | tup ys => obtain ⟨a, its, rfl, p, _⟩ := he; simp [aU] at h; subst h; exact SeqAt.EqAt.none_tuple p hu0
      | lst ys => obtain ⟨a, its, rfl, p, _⟩ := he; simp [aU] at h; subst h; exact SeqAt.EqAt.none_list p.isList hu0
      | dct kvs => simp [aU] at h
      | arr kvs => simp [aU] at h
    | bl c =>
      cases hd
      cases e with
      | non => cases he; simp [aU] at h; subst h; exact SeqAt.EqAt.bool_none c
      | bl c' => cases he; simp only [aU, Option.some.injEq] at h; subst h; exact SeqAt.EqAt.bool_bool c c'
      | int i => obtain ⟨t, rfl⟩ := he; simp only [aU, Option.some.injEq] at h; subst h; exact SeqAt.EqAt.bool_int c i t
      | str x => obtain ⟨t, rfl⟩ := he; simp [aU] at h; subst h; exact SeqAt.EqAt.bool_str c _ t
      | tup ys => obtain ⟨a, its, rfl, p, _⟩ := he; simp [aU] at h; subst h; exact SeqAt.EqAt.bool_tuple c p hu0
      | lst ys => obtain ⟨a, its, rfl, p, _⟩ := he; simp [aU] at h; subst h; exact SeqAt.EqAt.bool_list c p.isList hu0
      | dct kvs => simp [aU] at h
      | arr kvs => simp [aU] at h
    | int i =>
      obtain ⟨t', rfl⟩ := hd
      cases e with
      | non => cases he; simp [aU] at h; subst h; exact SeqAt.EqAt.int_none i t'
      | bl c' => cases he; simp only [aU, Option.some.injEq] at h; subst h; exact SeqAt.EqAt.int_bool i t' c'
      | int j => obtain ⟨t, rfl⟩ := he; simp only [aU, Option.some.injEq] at h; subst h; exact SeqAt.EqAt.int_int i t' j t
      | str x => obtain ⟨t, rfl⟩ := he; simp [aU] at h; subst h; exact SeqAt.EqAt.int_str i t' _ t
      | tup ys => obtain ⟨a, its, rfl, p, _⟩ := he; simp [aU] at h; subst h; exact SeqAt.EqAt.int_tuple i t' p hu0
      | lst ys => obtain ⟨a, its, rfl, p, _⟩ := he; simp [aU] at h; subst h; exact SeqAt.EqAt.int_list i t' p.isList hu0
      | dct kvs => simp [aU] at h
      | arr kvs => simp [aU] at h
    | str x =>
      obtain ⟨t', rfl⟩ := hd
      cases e with
      | non => cases he; simp [aU] at h; subst h; exact SeqAt.EqAt.str_none _ t'
      | bl c' => cases he; simp [aU] at h; subst h; exact SeqAt.EqAt.str_bool _ t' c'
      | int j => obtain ⟨t, rfl⟩ := he; simp [aU] at h; subst h; exact SeqAt.EqAt.str_int _ t' j t
      | str y => obtain ⟨t, rfl⟩ := he; simp only [aU, Option.some.injEq] at h; subst h; rw [← uZ]; exact SeqAt.EqAt.str_str _ t' _ t
      | tup ys => obtain ⟨a, its, rfl, p, _⟩ := he; simp [aU] at h; subst h; exact SeqAt.EqAt.str_tuple _ t' p hu0
      | lst ys => obtain ⟨a, its, rfl, p, _⟩ := he; simp [aU] at h; subst h; exact SeqAt.EqAt.str_list _ t' p.isList hu0
      | dct kvs => simp [aU] at h
      | arr kvs => simp [aU] at h
    | tup xs =>
      obtain ⟨a, its, rfl, p, hs⟩ := hd
      cases e with
      | non => cases he; simp [aU] at h; subst h; exact SeqAt.EqAt.tuple_none p hu0
      | bl c' => cases he; simp [aU] at h; subst h; exact SeqAt.EqAt.tuple_bool c' p hu0
      | int j => obtain ⟨t, rfl⟩ := he; simp [aU] at h; subst h; exact SeqAt.EqAt.tuple_int j t p hu0
      | str y => obtain ⟨t, rfl⟩ := he; simp [aU] at h; subst h; exact SeqAt.EqAt.tuple_str _ t p hu0
      | tup ys =>
        obtain ⟨a', its', rfl, p', hs'⟩ := he
        by_cases haa : a = a'
        · subst haa
          have := zj (n + 1) (.tup xs) (.tup ys) (.ref a) b ⟨a, its, rfl, p, hs⟩ ⟨a, its', rfl, p', hs'⟩ h
          subst this
          exact SeqAt.EqAt.same _
        · simp only [aU] at h
          obtain ⟨f, hf, hb⟩ := tQ xs ys b h
          have l1 := hs.length
          have l2 := hs'.length
          refine SeqAt.EqAt.of_refs haa ?_
          have := SeqAt.RcAt.tuples (e := f) p p' hu0 fun j h1 h2 => ?_
          · rw [hb]
            simp only [List.size_toArray] at this
            rw [l1, l2] at this
            exact this
          · have g1 : its[j]? = some its.toArray[j] := by simp at h1 ⊢
            have g2 : its'[j]? = some its'.toArray[j] := by simp at h2 ⊢
            obtain ⟨x, q1, q2⟩ := lW hs g1
            obtain ⟨y, q3, q4⟩ := lW hs' g2
            exact vW n x y _ _ _ A.in1 s q2 q4 (hf j x y q1 q3) hin
      | lst ys => obtain ⟨a', its', rfl, p', _⟩ := he; simp [aU] at h; subst h; exact SeqAt.EqAt.tuple_list p p'.isList hu0
      | dct kvs => simp [aU] at h
      | arr kvs => simp [aU] at h
    | lst xs =>
      obtain ⟨a, its, rfl, p, hs⟩ := hd
      cases e with
      | non => cases he; simp [aU] at h; subst h; exact SeqAt.EqAt.list_none p.isList hu0
      | bl c' => cases he; simp [aU] at h; subst h; exact SeqAt.EqAt.list_bool c' p.isList hu0
      | int j => obtain ⟨t, rfl⟩ := he; simp [aU] at h; subst h; exact SeqAt.EqAt.list_int j t p.isList hu0
      | str y => obtain ⟨t, rfl⟩ := he; simp [aU] at h; subst h; exact SeqAt.EqAt.list_str _ t p.isList hu0
      | lst ys =>
        obtain ⟨a', its', rfl, p', hs'⟩ := he
        have l1 := hs.length
        have l2 := hs'.length
        by_cases haa : a = a'
        · subst haa
          have := zj (n + 1) (.lst xs) (.lst ys) (.ref a) b ⟨a, its, rfl, p, hs⟩ ⟨a, its', rfl, p', hs'⟩ h
          subst this
          exact SeqAt.EqAt.same _
        · simp only [aU] at h
          refine SeqAt.EqAt.of_refs haa ?_
          by_cases hl : xs.length = ys.length
          · obtain ⟨f, hf, hb⟩ := tQ xs ys b h
            have := SeqAt.RcAt.lists (e := f) p.isList p'.isList (by simp only [List.size_toArray]; omega) hu0 fun j h1 h2 => ?_
            · rw [hb, ← hl, Nat.min_self, beq_self_eq_true, Bool.and_true, ← l1]
              simp only [List.size_toArray] at this
              exact this
            · have g1 : its[j]? = some its.toArray[j] := by simp at h1 ⊢
              have g2 : its'[j]? = some its'.toArray[j] := by simp at h2 ⊢
              obtain ⟨x, q1, q2⟩ := lW hs g1
              obtain ⟨y, q3, q4⟩ := lW hs' g2
              exact vW n x y _ _ _ A.in1 s q2 q4 (hf j x y q1 q3) hin
          · have := xH hl b h
            subst this
            exact SeqAt.RcAt.lists_lengths p.isList p'.isList (by simp only [List.size_toArray]; rw [l1, l2]; simpa using hl) hu0
      | tup ys => obtain ⟨a', its', rfl, p', _⟩ := he; simp [aU] at h; subst h; exact SeqAt.EqAt.list_tuple p.isList p' hu0
      | dct kvs => simp [aU] at h
      | arr kvs => simp [aU] at h
    | dct kvs => cases e <;> simp [aU] at h
    | arr kvs => cases e <;> simp [aU] at h
end Ev
namespace Ev
open PySem PySem.Spec PyProof.Rows L2
theorem uz (n : Nat) (its its' : List Value) (xs ys : List D) (f : Nat → Bool) (A : Around) (s : Shared) (hs : rP s.heap xs its) (hs' : rP s.heap ys its') (hf : ∀ (j : Nat) (x y : D), xs[j]? = some x → ys[j]? = some y → aU n x y = some (f j)) (hin : A.in1.units + n < cLine)
    (j : Nat) (h1 : j < its.toArray.size) (h2 : j < its'.toArray.size) : SeqAt.EqAt A.in1 s its.toArray[j] its'.toArray[j] (f j) := by
  have g1 : its[j]? = some its.toArray[j] := by simp at h1 ⊢
  have g2 : its'[j]? = some its'.toArray[j] := by simp at h2 ⊢
  obtain ⟨x, q1, q2⟩ := lW hs g1
  obtain ⟨y, q3, q4⟩ := lW hs' g2
  exact vW n x y _ _ _ A.in1 s q2 q4 (hf j x y q1 q3) hin
theorem aeb (n : Nat) (d e : D) (u v : Value) (b : Bool) (A : Around) (s : Shared) (hd : Sh s.heap d u) (he : Sh s.heap e v) (h : aU (n + 1) d e = some b) (hu : A.units + (n + 1) < cLine) : SeqAt.RcAt A s u v b := by
  have hu0 : A.units < cLine := by omega
  have hin : A.in1.units + n < cLine := by show A.units + 1 + n < cLine; omega
  cases d with
  | non =>
    cases hd
    cases e with
    | non =>
      cases he
      simp [aU] at h; subst h; exact SeqAt.RcAt.none_none
    | bl c' =>
      cases he
      simp [aU] at h; subst h; exact SeqAt.RcAt.none_bool c'
    | int j =>
      obtain ⟨t, rfl⟩ := he
      simp [aU] at h; subst h; exact SeqAt.RcAt.none_int j t
    | str y =>
      obtain ⟨t, rfl⟩ := he
      simp [aU] at h; subst h; exact SeqAt.RcAt.none_str _ t
    | tup ys =>
      obtain ⟨a', its', rfl, p', hs'⟩ := he
      simp [aU] at h; subst h; exact SeqAt.RcAt.none_tuple p' hu0
    | lst ys =>
      obtain ⟨a', its', rfl, p', hs'⟩ := he
      simp [aU] at h; subst h; exact SeqAt.RcAt.none_list p'.isList hu0
    | arr kvs =>
      simp [aU] at h
    | dct kvs =>
      simp [aU] at h
  | bl c =>
    cases hd
    cases e with
    | non =>
      cases he
      simp [aU] at h; subst h; exact SeqAt.RcAt.bool_none c
    | bl c' =>
      cases he
      simp only [aU, Option.some.injEq] at h; subst h; exact SeqAt.RcAt.bool_bool c c'
    | int j =>
      obtain ⟨t, rfl⟩ := he
      simp only [aU, Option.some.injEq] at h; subst h; exact SeqAt.RcAt.bool_int c j t
    | str y =>
      obtain ⟨t, rfl⟩ := he
      simp [aU] at h; subst h; exact SeqAt.RcAt.bool_str c _ t
    | tup ys =>
      obtain ⟨a', its', rfl, p', hs'⟩ := he
      simp [aU] at h; subst h; exact SeqAt.RcAt.bool_tuple c p' hu0
    | lst ys =>
      obtain ⟨a', its', rfl, p', hs'⟩ := he
      simp [aU] at h; subst h; exact SeqAt.RcAt.bool_list c p'.isList hu0
    | arr kvs =>
      simp [aU] at h
    | dct kvs =>
      simp [aU] at h
  | int i =>
    obtain ⟨t', rfl⟩ := hd
    cases e with
    | non =>
      cases he
      simp [aU] at h; subst h; exact SeqAt.RcAt.int_none i t'
    | bl c' =>
      cases he
      simp only [aU, Option.some.injEq] at h; subst h; exact SeqAt.RcAt.int_bool i t' c'
    | int j =>
      obtain ⟨t, rfl⟩ := he
      simp only [aU, Option.some.injEq] at h; subst h; exact SeqAt.RcAt.int_int i t' j t
    | str y =>
      obtain ⟨t, rfl⟩ := he
      simp [aU] at h; subst h; exact SeqAt.RcAt.int_str i t' _ t
    | tup ys =>
      obtain ⟨a', its', rfl, p', hs'⟩ := he
      simp [aU] at h; subst h; exact SeqAt.RcAt.int_tuple i t' p' hu0
    | lst ys =>
      obtain ⟨a', its', rfl, p', hs'⟩ := he
      simp [aU] at h; subst h; exact SeqAt.RcAt.int_list i t' p'.isList hu0
    | arr kvs =>
      simp [aU] at h
    | dct kvs =>
      simp [aU] at h
  | str x =>
    obtain ⟨t', rfl⟩ := hd
    cases e with
    | non =>
      cases he
      simp [aU] at h; subst h; exact SeqAt.RcAt.str_none _ t'
    | bl c' =>
      cases he
      simp [aU] at h; subst h; exact SeqAt.RcAt.str_bool _ t' c'
    | int j =>
      obtain ⟨t, rfl⟩ := he
      simp [aU] at h; subst h; exact SeqAt.RcAt.str_int _ t' j t
    | str y =>
      obtain ⟨t, rfl⟩ := he
      simp only [aU, Option.some.injEq] at h; subst h; rw [← uZ]; exact SeqAt.RcAt.str_str _ t' _ t
    | tup ys =>
      obtain ⟨a', its', rfl, p', hs'⟩ := he
      simp [aU] at h; subst h; exact SeqAt.RcAt.str_tuple _ t' p' hu0
    | lst ys =>
      obtain ⟨a', its', rfl, p', hs'⟩ := he
      simp [aU] at h; subst h; exact SeqAt.RcAt.str_list _ t' p'.isList hu0
    | arr kvs =>
      simp [aU] at h
    | dct kvs =>
      simp [aU] at h
  | tup xs =>
    obtain ⟨a, its, rfl, p, hs⟩ := hd
    cases e with
    | non =>
      cases he
      simp [aU] at h; subst h; exact SeqAt.RcAt.tuple_none p hu0
    | bl c' =>
      cases he
      simp [aU] at h; subst h; exact SeqAt.RcAt.tuple_bool c' p hu0
    | int j =>
      obtain ⟨t, rfl⟩ := he
      simp [aU] at h; subst h; exact SeqAt.RcAt.tuple_int j t p hu0
    | str y =>
      obtain ⟨t, rfl⟩ := he
      simp [aU] at h; subst h; exact SeqAt.RcAt.tuple_str _ t p hu0
    | tup ys =>
      obtain ⟨a', its', rfl, p', hs'⟩ := he
      simp only [aU] at h
      have l1 := hs.length
      have l2 := hs'.length
      obtain ⟨f, hf, hb⟩ := tQ xs ys b h
      have := SeqAt.RcAt.tuples (e := f) p p' hu0 fun j h1 h2 => ?_
      · rw [hb]
        simp only [List.size_toArray] at this
        rw [l1, l2] at this
        exact this
      · exact uz n its its' xs ys f A s hs hs' hf hin j h1 h2
    | lst ys =>
      obtain ⟨a', its', rfl, p', hs'⟩ := he
      simp [aU] at h; subst h; exact SeqAt.RcAt.tuple_list p p'.isList hu0
    | arr kvs =>
      simp [aU] at h
    | dct kvs =>
      simp [aU] at h
  | lst xs =>
    obtain ⟨a, its, rfl, p, hs⟩ := hd
    cases e with
    | non =>
      cases he
      simp [aU] at h; subst h; exact SeqAt.RcAt.list_none p.isList hu0
    | bl c' =>
      cases he
      simp [aU] at h; subst h; exact SeqAt.RcAt.list_bool c' p.isList hu0
    | int j =>
      obtain ⟨t, rfl⟩ := he
      simp [aU] at h; subst h; exact SeqAt.RcAt.list_int j t p.isList hu0
    | str y =>
      obtain ⟨t, rfl⟩ := he
      simp [aU] at h; subst h; exact SeqAt.RcAt.list_str _ t p.isList hu0
    | tup ys =>
      obtain ⟨a', its', rfl, p', hs'⟩ := he
      simp [aU] at h; subst h; exact SeqAt.RcAt.list_tuple p.isList p' hu0
    | lst ys =>
      obtain ⟨a', its', rfl, p', hs'⟩ := he
      simp only [aU] at h
      have l1 := hs.length
      have l2 := hs'.length
      by_cases hl : xs.length = ys.length
      · obtain ⟨f, hf, hb⟩ := tQ xs ys b h
        have := SeqAt.RcAt.lists (e := f) p.isList p'.isList (by simp only [List.size_toArray]; omega) hu0 fun j h1 h2 => ?_
        · rw [hb, ← hl, Nat.min_self, beq_self_eq_true, Bool.and_true, ← l1]
          simp only [List.size_toArray] at this
          exact this
        · exact uz n its its' xs ys f A s hs hs' hf hin j h1 h2
      · have := xH hl b h
        subst this
        exact SeqAt.RcAt.lists_lengths p.isList p'.isList (by simp only [List.size_toArray]; rw [l1, l2]; simpa using hl) hu0
    | arr kvs =>
      simp [aU] at h
    | dct kvs =>
      simp [aU] at h
  | arr kvs =>
    cases e <;> simp [aU] at h
  | dct kvs =>
    cases e <;> simp [aU] at h
theorem Wm (n : Nat) (d e : D) (u v : Value) (b : Bool) (A : Around) (s : Shared) (hd : Sh s.heap d u) (he : Sh s.heap e v) (h : aU (n + 1) d e = some b) (hu : A.units + (n + 1) < cLine) : SeqAt.RcNeAt A s u v (!b) := by
  have hu0 : A.units < cLine := by omega
  have hin : A.in1.units + n < cLine := by show A.units + 1 + n < cLine; omega
  cases d with
  | non =>
    cases hd
    cases e with
    | non =>
      cases he
      simp [aU] at h; subst h; exact SeqAt.RcNeAt.none_none
    | bl c' =>
      cases he
      simp [aU] at h; subst h; exact SeqAt.RcNeAt.none_bool c'
    | int j =>
      obtain ⟨t, rfl⟩ := he
      simp [aU] at h; subst h; exact SeqAt.RcNeAt.none_int j t
    | str y =>
      obtain ⟨t, rfl⟩ := he
      simp [aU] at h; subst h; exact SeqAt.RcNeAt.none_str _ t
    | tup ys =>
      obtain ⟨a', its', rfl, p', hs'⟩ := he
      simp [aU] at h; subst h; exact SeqAt.RcNeAt.none_tuple p' hu0
    | lst ys =>
      obtain ⟨a', its', rfl, p', hs'⟩ := he
      simp [aU] at h; subst h; exact SeqAt.RcNeAt.none_list p'.isList hu0
    | arr kvs =>
      simp [aU] at h
    | dct kvs =>
      simp [aU] at h
  | bl c =>
    cases hd
    cases e with
    | non =>
      cases he
      simp [aU] at h; subst h; exact SeqAt.RcNeAt.bool_none c
    | bl c' =>
      cases he
      simp only [aU, Option.some.injEq] at h; subst h; exact SeqAt.RcNeAt.bool_bool c c'
    | int j =>
      obtain ⟨t, rfl⟩ := he
      simp only [aU, Option.some.injEq] at h; subst h; exact SeqAt.RcNeAt.bool_int c j t
    | str y =>
      obtain ⟨t, rfl⟩ := he
      simp [aU] at h; subst h; exact SeqAt.RcNeAt.bool_str c _ t
    | tup ys =>
      obtain ⟨a', its', rfl, p', hs'⟩ := he
      simp [aU] at h; subst h; exact SeqAt.RcNeAt.bool_tuple c p' hu0
    | lst ys =>
      obtain ⟨a', its', rfl, p', hs'⟩ := he
      simp [aU] at h; subst h; exact SeqAt.RcNeAt.bool_list c p'.isList hu0
    | arr kvs =>
      simp [aU] at h
    | dct kvs =>
      simp [aU] at h
  | int i =>
    obtain ⟨t', rfl⟩ := hd
    cases e with
    | non =>
      cases he
      simp [aU] at h; subst h; exact SeqAt.RcNeAt.int_none i t'
    | bl c' =>
      cases he
      simp only [aU, Option.some.injEq] at h; subst h; exact SeqAt.RcNeAt.int_bool i t' c'
    | int j =>
      obtain ⟨t, rfl⟩ := he
      simp only [aU, Option.some.injEq] at h; subst h; exact SeqAt.RcNeAt.int_int i t' j t
    | str y =>
      obtain ⟨t, rfl⟩ := he
      simp [aU] at h; subst h; exact SeqAt.RcNeAt.int_str i t' _ t
    | tup ys =>
      obtain ⟨a', its', rfl, p', hs'⟩ := he
      simp [aU] at h; subst h; exact SeqAt.RcNeAt.int_tuple i t' p' hu0
    | lst ys =>
      obtain ⟨a', its', rfl, p', hs'⟩ := he
      simp [aU] at h; subst h; exact SeqAt.RcNeAt.int_list i t' p'.isList hu0
    | arr kvs =>
      simp [aU] at h
    | dct kvs =>
      simp [aU] at h
  | str x =>
    obtain ⟨t', rfl⟩ := hd
    cases e with
    | non =>
      cases he
      simp [aU] at h; subst h; exact SeqAt.RcNeAt.str_none _ t'
    | bl c' =>
      cases he
      simp [aU] at h; subst h; exact SeqAt.RcNeAt.str_bool _ t' c'
    | int j =>
      obtain ⟨t, rfl⟩ := he
      simp [aU] at h; subst h; exact SeqAt.RcNeAt.str_int _ t' j t
    | str y =>
      obtain ⟨t, rfl⟩ := he
      simp only [aU, Option.some.injEq] at h; subst h; rw [← uZ]; exact SeqAt.RcNeAt.str_str _ t' _ t
    | tup ys =>
      obtain ⟨a', its', rfl, p', hs'⟩ := he
      simp [aU] at h; subst h; exact SeqAt.RcNeAt.str_tuple _ t' p' hu0
    | lst ys =>
      obtain ⟨a', its', rfl, p', hs'⟩ := he
      simp [aU] at h; subst h; exact SeqAt.RcNeAt.str_list _ t' p'.isList hu0
    | arr kvs =>
      simp [aU] at h
    | dct kvs =>
      simp [aU] at h
  | tup xs =>
    obtain ⟨a, its, rfl, p, hs⟩ := hd
    cases e with
    | non =>
      cases he
      simp [aU] at h; subst h; exact SeqAt.RcNeAt.tuple_none p hu0
    | bl c' =>
      cases he
      simp [aU] at h; subst h; exact SeqAt.RcNeAt.tuple_bool c' p hu0
    | int j =>
      obtain ⟨t, rfl⟩ := he
      simp [aU] at h; subst h; exact SeqAt.RcNeAt.tuple_int j t p hu0
    | str y =>
      obtain ⟨t, rfl⟩ := he
      simp [aU] at h; subst h; exact SeqAt.RcNeAt.tuple_str _ t p hu0
    | tup ys =>
      obtain ⟨a', its', rfl, p', hs'⟩ := he
      simp only [aU] at h
      have l1 := hs.length
      have l2 := hs'.length
      obtain ⟨f, hf, hb⟩ := tQ xs ys b h
      have := SeqAt.RcNeAt.tuples (e := f) p p' hu0 fun j h1 h2 => ?_
      · rw [hb]
        simp only [List.size_toArray] at this
        rw [l1, l2] at this
        exact this
      · exact uz n its its' xs ys f A s hs hs' hf hin j h1 h2
    | lst ys =>
      obtain ⟨a', its', rfl, p', hs'⟩ := he
      simp [aU] at h; subst h; exact SeqAt.RcNeAt.tuple_list p p'.isList hu0
    | arr kvs =>
      simp [aU] at h
    | dct kvs =>
      simp [aU] at h
  | lst xs =>
    obtain ⟨a, its, rfl, p, hs⟩ := hd
    cases e with
    | non =>
      cases he
      simp [aU] at h; subst h; exact SeqAt.RcNeAt.list_none p.isList hu0
    | bl c' =>
      cases he
      simp [aU] at h; subst h; exact SeqAt.RcNeAt.list_bool c' p.isList hu0
    | int j =>
      obtain ⟨t, rfl⟩ := he
      simp [aU] at h; subst h; exact SeqAt.RcNeAt.list_int j t p.isList hu0
    | str y =>
      obtain ⟨t, rfl⟩ := he
      simp [aU] at h; subst h; exact SeqAt.RcNeAt.list_str _ t p.isList hu0
    | tup ys =>
      obtain ⟨a', its', rfl, p', hs'⟩ := he
      simp [aU] at h; subst h; exact SeqAt.RcNeAt.list_tuple p.isList p' hu0
    | lst ys =>
      obtain ⟨a', its', rfl, p', hs'⟩ := he
      simp only [aU] at h
      have l1 := hs.length
      have l2 := hs'.length
      by_cases hl : xs.length = ys.length
      · obtain ⟨f, hf, hb⟩ := tQ xs ys b h
        have := SeqAt.RcNeAt.lists (e := f) p.isList p'.isList (by simp only [List.size_toArray]; omega) hu0 fun j h1 h2 => ?_
        · rw [hb, ← hl, Nat.min_self, beq_self_eq_true, Bool.and_true, ← l1]
          simp only [List.size_toArray] at this
          exact this
        · exact uz n its its' xs ys f A s hs hs' hf hin j h1 h2
      · have := xH hl b h
        subst this
        exact SeqAt.RcNeAt.lists_lengths p.isList p'.isList (by simp only [List.size_toArray]; rw [l1, l2]; simpa using hl) hu0
    | arr kvs =>
      simp [aU] at h
    | dct kvs =>
      simp [aU] at h
  | arr kvs =>
    cases e <;> simp [aU] at h
  | dct kvs =>
    cases e <;> simp [aU] at h
end Ev
namespace Ev
open PySem PySem.Spec PyProof.Rows L2
section
variable {X : Cx} {C : Cfg}
def aeq (K : Fg) : R2 := fun x y H Q => ∃ dx dy b, Rep K H dx x ∧ Rep K H dy y ∧ aU 60 dx dy = some b ∧ Q (.bl b) H
def aeg (K : Fg) : R2 := fun x y H Q => ∃ dx dy b, Rep K H dx x ∧ Rep K H dy y ∧ aU 60 dx dy = some b ∧ Q (.bl (!b)) H
theorem R7 (hu : X.A.units + 60 < cLine) : kh X (compareOp .Eq) (aeq X.K) := by
  intro pins s σ H x y v u Q I rx ry h
  obtain ⟨dx, dy, b, h1, h2, h3, q⟩ := h
  exact aeb 59 dx dy v u b X.A s (Rep.sh I dx x v h1 rx) (Rep.sh I dy y u h2 ry) h3 hu X.prog X.w X.xe _ ⟨.bl b, H, I, rfl, q⟩
theorem aa2 (hu : X.A.units + 60 < cLine) : kh X (compareOp .NotEq) (aeg X.K) := by
  intro pins s σ H x y v u Q I rx ry h
  obtain ⟨dx, dy, b, h1, h2, h3, q⟩ := h
  exact Wm 59 dx dy v u b X.A s (Rep.sh I dx x v h1 rx) (Rep.sh I dy y u h2 ry) h3 hu X.prog X.w X.xe _ ⟨.bl (!b), H, I, rfl, q⟩
def Im (x y : D) : Option D := (aU 60 x y).map .bl
def Uo (x y : D) : Option D := (aU 60 x y).map fun b => .bl (!b)
theorem Zk : nu C (aeq C.K) Im := by
  intro Pr F env σ H x y d vx vy Q r hx hy h q
  unfold Im at h
  cases e : aU 60 x y with
  | none => rw [e] at h; cases h
  | some b =>
    rw [e] at h
    cases h
    exact ⟨x, y, b, hx.rep r.fr, hy.rep r.fr, e, q _ H F r (aH.refl F) rfl⟩
theorem aeL : nu C (aeg C.K) Uo := by
  intro Pr F env σ H x y d vx vy Q r hx hy h q
  unfold Uo at h
  cases e : aU 60 x y with
  | none => rw [e] at h; cases h
  | some b =>
    rw [e] at h
    cases h
    exact ⟨x, y, b, hx.rep r.fr, hy.rep r.fr, e, q _ H F r (aH.refl F) rfl⟩
def zW (x : D) : List D → Option Bool
  | [] => some false
  | y :: ys => match aU 59 y x, zW x ys with
    | some a, some b => some (a || b)
    | _, _ => none
theorem Nj (x : D) : ∀ (ys : List D) (b : Bool), zW x ys = some b → (∀ y ∈ ys, ∃ c, aU 59 y x = some c) ∧ (b = true ↔ ∃ y ∈ ys, aU 59 y x = some true)
  | [], b, h => by simp [zW] at h; subst h; simp
  | y :: ys, b, h => by
    unfold zW at h
    cases h1 : aU 59 y x with
    | none => rw [h1] at h; simp at h
    | some c =>
      cases h2 : zW x ys with
      | none => rw [h1, h2] at h; simp at h
      | some d =>
        rw [h1, h2] at h
        obtain ⟨i1, i2⟩ := Nj x ys d h2
        have hb : b = (c || d) := by simpa using h.symm
        refine ⟨fun z hz => ?_, ?_⟩
        · rcases List.mem_cons.mp hz with rfl | hz
          · exact ⟨c, h1⟩
          · exact i1 z hz
        · rw [hb, Bool.or_eq_true]
          constructor
          · rintro (hc | hd)
            · exact ⟨y, List.mem_cons_self, by rw [h1, hc]⟩
            · obtain ⟨z, hz, e⟩ := i2.mp hd
              exact ⟨z, List.mem_cons_of_mem _ hz, e⟩
          · rintro ⟨z, hz, e⟩
            rcases List.mem_cons.mp hz with rfl | hz
            · rw [h1] at e; left; simpa using e
            · right; exact i2.mpr ⟨z, hz, e⟩
open Classical in
noncomputable def Al (h : Heap) (x : D) (u : Value) : Bool := decide (∃ y, Sh h y u ∧ aU 59 y x = some true)
open Classical in
theorem FJ {h : Heap} {x y : D} {u : Value} {c : Bool} (hy : Sh h y u) (e : aU 59 y x = some c) : Al h x u = c := by
  unfold Al
  cases c with
  | true => exact decide_eq_true ⟨y, hy, e⟩
  | false =>
    refine decide_eq_false ?_
    rintro ⟨z, hz, e'⟩
    have := Nz 59 z y x u true false hz hy e' e
    cases this
theorem vP {s : Shared} {A : Around} {x : D} {v : Value} {ys : List D} {us : List Value} {b : Bool} (hx : Sh s.heap x v) (hs : rP s.heap ys us) (h : zW x ys = some b) (hu : A.units + 59 < cLine) :
    (∀ w, w ∈ us.toArray → SeqAt.EqAt A s w v (Al s.heap x w)) ∧ us.toArray.any (Al s.heap x) = b := by
  obtain ⟨h1, h2⟩ := Nj x ys b h
  have item : ∀ w ∈ us, ∃ y ∈ ys, Sh s.heap y w := fun w hw => by
    obtain ⟨j, hj, e⟩ := List.mem_iff_getElem.mp hw
    obtain ⟨d, e1, e2⟩ := lW hs (show us[j]? = some w by rw [List.getElem?_eq_getElem hj, e])
    exact ⟨d, List.mem_of_getElem? e1, e2⟩
  have back : ∀ {ys : List D} {us : List Value}, rP s.heap ys us → ∀ y ∈ ys, ∃ w ∈ us, Sh s.heap y w := by
    intro ys
    induction ys with
    | nil => intro us _ y hy; cases hy
    | cons z zs ih =>
      intro us hs y hy
      obtain ⟨w, r, rfl, g1, g2⟩ := hs
      rcases List.mem_cons.mp hy with rfl | hy
      · exact ⟨w, List.mem_cons_self, g1⟩
      · obtain ⟨w', m, g⟩ := ih g2 y hy
        exact ⟨w', List.mem_cons_of_mem _ m, g⟩
  refine ⟨fun w hw => ?_, ?_⟩
  · obtain ⟨y, hy, sy⟩ := item w (by simpa using hw)
    obtain ⟨c, hc⟩ := h1 y hy
    rw [FJ sy hc]
    exact vW 59 y x w v c A s sy hx hc hu
  · rw [List.any_toArray, Bool.eq_iff_iff, h2, List.any_eq_true]
    constructor
    · rintro ⟨w, hw, e⟩
      obtain ⟨y, hy, sy⟩ := item w hw
      obtain ⟨c, hc⟩ := h1 y hy
      rw [FJ sy hc] at e
      subst e
      exact ⟨y, hy, hc⟩
    · rintro ⟨y, hy, e⟩
      obtain ⟨w, hw, sy⟩ := back hs y hy
      exact ⟨w, hw, FJ sy e⟩
def GX : D → Option (List D)
  | .tup xs => some xs
  | .lst xs => some xs
  | .arr xs => some xs
  | _ => none
def O1 (K : Fg) (neg : Bool) : R2 := fun x y H Q => ∃ dx dy ys b, Rep K H dx x ∧ Rep K H dy y ∧ GX dy = some ys ∧ zW dx ys = some b ∧ Q (.bl (if neg then !b else b)) H
theorem aa8 (hu : X.A.units + 61 < cLine) : kh X (compareOp .In) (O1 X.K false) := by
  intro pins s σ H x y v u Q I rx ry h
  obtain ⟨dx, dy, ys, b, h1, h2, h3, h4, q⟩ := h
  have hx := Rep.sh I dx x v h1 rx
  have hy := Rep.sh I dy y u h2 ry
  have hin : X.A.in1.units + 59 < cLine := by show X.A.units + 1 + 59 < cLine; omega
  cases dy with
  | tup zs =>
    cases h3
    obtain ⟨a, its, rfl, p, hs⟩ := hy
    obtain ⟨g1, g2⟩ := vP (A := X.A.in1) hx hs h4 hin
    refine SeqAt.in_tupleAt (Al s.heap dx) p g1 ⟨.bl _, H, I, rfl, ?_⟩
    rw [g2]; exact q
  | lst zs =>
    cases h3
    obtain ⟨a, its, rfl, p, hs⟩ := hy
    obtain ⟨g1, g2⟩ := vP (A := X.A.in1) hx hs h4 hin
    refine SeqAt.in_listAt (Al s.heap dx) p.isList g1 ⟨.bl _, H, I, rfl, ?_⟩
    rw [g2]; exact q
  | arr zs =>
    cases h3
    obtain ⟨a, its, rfl, p, hs⟩ := hy
    obtain ⟨g1, g2⟩ := vP (A := X.A.in1) hx hs h4 hin
    refine SeqAt.in_listAt (Al s.heap dx) p.isList g1 ⟨.bl _, H, I, rfl, ?_⟩
    rw [g2]; exact q
  | _ => cases h3
theorem Pb (hu : X.A.units + 61 < cLine) : kh X (compareOp .NotIn) (O1 X.K true) := by
  intro pins s σ H x y v u Q I rx ry h
  obtain ⟨dx, dy, ys, b, h1, h2, h3, h4, q⟩ := h
  have hx := Rep.sh I dx x v h1 rx
  have hy := Rep.sh I dy y u h2 ry
  have hin : X.A.in1.units + 59 < cLine := by show X.A.units + 1 + 59 < cLine; omega
  cases dy with
  | tup zs =>
    cases h3
    obtain ⟨a, its, rfl, p, hs⟩ := hy
    obtain ⟨g1, g2⟩ := vP (A := X.A.in1) hx hs h4 hin
    refine SeqAt.notIn_tupleAt (Al s.heap dx) p g1 ⟨.bl _, H, I, rfl, ?_⟩
    rw [g2]; exact q
  | lst zs =>
    cases h3
    obtain ⟨a, its, rfl, p, hs⟩ := hy
    obtain ⟨g1, g2⟩ := vP (A := X.A.in1) hx hs h4 hin
    refine SeqAt.notIn_listAt (Al s.heap dx) p.isList g1 ⟨.bl _, H, I, rfl, ?_⟩
    rw [g2]; exact q
  | arr zs =>
    cases h3
    obtain ⟨a, its, rfl, p, hs⟩ := hy
    obtain ⟨g1, g2⟩ := vP (A := X.A.in1) hx hs h4 hin
    refine SeqAt.notIn_listAt (Al s.heap dx) p.isList g1 ⟨.bl _, H, I, rfl, ?_⟩
    rw [g2]; exact q
  | _ => cases h3
end
end Ev
namespace Ev
open PySem PySem.Spec PyProof.Rows L2
theorem nu.or {C : Cfg} {r r' : R2} {g g' : D → D → Option D} (h : nu C r g) (h' : nu C r' g') : nu C (fun x y H Q => r x y H Q ∨ r' x y H Q) (fun x y => (g x y).or (g' x y)) := by
  intro Pr F env σ H x y d vx vy Q rl hx hy e q
  have e : (g x y).or (g' x y) = some d := e
  cases e1 : g x y with
  | some c =>
    rw [e1] at e
    cases e
    exact .inl (h Pr F env σ H x y d vx vy Q rl hx hy e1 q)
  | none =>
    rw [e1] at e
    exact .inr (h' Pr F env σ H x y d vx vy Q rl hx hy e q)
section
variable {X : Cx} {C : Cfg}
def Qg (x y : D) : Option D := match GX y with
  | some ys => (zW x ys).map .bl
  | none => none
def uD (x y : D) : Option D := match GX y with
  | some ys => (zW x ys).map fun b => .bl (!b)
  | none => none
theorem abr : nu C (O1 C.K false) Qg := by
  intro Pr F env σ H x y d vx vy Q r hx hy h q
  unfold Qg at h
  cases e1 : GX y with
  | none => rw [e1] at h; cases h
  | some ys =>
    rw [e1] at h
    cases e : zW x ys with
    | none => simp only [e, Option.map_none] at h; cases h
    | some b =>
      simp only [e, Option.map_some] at h
      cases h
      exact ⟨x, y, ys, b, hx.rep r.fr, hy.rep r.fr, e1, e, q _ H F r (aH.refl F) rfl⟩
theorem Pq : nu C (O1 C.K true) uD := by
  intro Pr F env σ H x y d vx vy Q r hx hy h q
  unfold uD at h
  cases e1 : GX y with
  | none => rw [e1] at h; cases h
  | some ys =>
    rw [e1] at h
    cases e : zW x ys with
    | none => simp only [e, Option.map_none] at h; cases h
    | some b =>
      simp only [e, Option.map_some] at h
      cases h
      exact ⟨x, y, ys, b, hx.rep r.fr, hy.rep r.fr, e1, e, q _ H F r (aH.refl F) rfl⟩
def ac0 (x y : D) : Option D := match x, y with
  | .str [c], .str z => some (.bl (decide (c ∈ z)))
  | _, _ => none
def Eo (x y : D) : Option D := match x, y with
  | .str [c], .str z => some (.bl (!decide (c ∈ z)))
  | _, _ => none
abbrev aen : R2 := fun x y H Q => ∃ i j, x = .str i ∧ y = .str j ∧ Q (.bl (!(Builtin.Str.occurrences j i 0 j.length 1).isEmpty)) H
abbrev MF : R2 := fun x y H Q => ∃ i j, x = .str i ∧ y = .str j ∧ Q (.bl (!(!(Builtin.Str.occurrences j i 0 j.length 1).isEmpty))) H
theorem one_sign (c : Nat) (z : List Nat) : (!(Builtin.Str.occurrences (strOf z) (strOf [c]) 0 (strOf z).length 1).isEmpty) = decide (c ∈ z) := by
  have := StrLaws.found_one (strOf z) c
  unfold strOf at this ⊢
  simpa using this
theorem abq : nu C aen ac0 := by
  intro Pr F env σ H x y d vx vy Q r hx hy h q
  unfold ac0 at h
  split at h
  · rename_i c z
    cases h
    obtain ⟨rfl, _⟩ := hx.str
    obtain ⟨rfl, _⟩ := hy.str
    refine ⟨_, _, rfl, rfl, ?_⟩
    rw [one_sign]
    exact q _ H F r (aH.refl F) rfl
  · cases h
theorem Pn : nu C MF Eo := by
  intro Pr F env σ H x y d vx vy Q r hx hy h q
  unfold Eo at h
  split at h
  · rename_i c z
    cases h
    obtain ⟨rfl, _⟩ := hx.str
    obtain ⟨rfl, _⟩ := hy.str
    refine ⟨_, _, rfl, rfl, ?_⟩
    rw [one_sign]
    exact q _ H F r (aH.refl F) rfl
  · cases h
def gIn (x y : D) : Option D := (Qg x y).or (ac0 x y)
def ou (x y : D) : Option D := (uD x y).or (Eo x y)
abbrev aeo (K : Fg) : R2 := fun x y H Q => O1 K false x y H Q ∨ aen x y H Q
abbrev MJ (K : Fg) : R2 := fun x y H Q => O1 K true x y H Q ∨ MF x y H Q
theorem aa9 (hu : X.A.units + 61 < cLine) : kh X (compareOp .In) (aeo X.K) := (aa8 hu).or Ph
theorem Bo (hu : X.A.units + 61 < cLine) : kh X (compareOp .NotIn) (MJ X.K) := (Pb hu).or Dp
theorem aeO : nu C (aeo C.K) gIn := abr.or abq
theorem Hk : nu C (MJ C.K) ou := Pq.or Pn
def isPlain (x : V) : Prop := x = .non ∨ ∃ b, x = .bl b
theorem aa6 : kh X (compareOp .Is) (fun x y H Q => isPlain y ∧ Q (.bl (decide (x = y))) H) := by
  intro pins s σ H x y v u Q I rx ry h
  obtain ⟨hp, q⟩ := h
  rcases hp with rfl | ⟨b, rfl⟩
  · exact aa5 pins s σ H x .non v u Q I rx ry ⟨rfl, q⟩
  · cases ry
    refine wpAny_is_plain ?_ (yX I q ?_)
    · cases x <;> first | (cases rx; rfl) | (obtain ⟨t, rfl⟩ := rx; rfl)
    · cases x with
      | bl c => cases rx; cases b <;> cases c <;> rfl
      | _ => first | (cases rx; rfl) | (obtain ⟨t, rfl⟩ := rx; rfl)
def isD : D → D → Option Bool
  | .non, .non => some true
  | .bl a, .bl b => some (a == b)
  | _, .non => some false
  | _, .bl _ => some false
  | _, _ => none
def gIs (x y : D) : Option D := (isD x y).map .bl
theorem afy {F H : Hp} {x y : D} {vx vy : V} {b : Bool} (hx : gJ C.K F H x vx) (hy : gJ C.K F H y vy) (h : isD x y = some b) : isPlain vy ∧ decide (vx = vy) = b := by
  have agT : ∀ a, ¬ (V.ref a = V.non) := fun a e => by cases e
  cases y with
  | non =>
    obtain rfl := hy.non
    refine ⟨.inl rfl, ?_⟩
    cases x with
    | non => obtain rfl := hx.non; simp [isD] at h; simp [h]
    | bl c => obtain rfl := hx.bl; simp [isD] at h; simp [h]
    | int i => obtain rfl := hx.int; simp [isD] at h; simp [h]
    | str z => obtain ⟨rfl, _⟩ := hx.str; simp [isD] at h; simp [h]
    | tup xs => rcases hx with ⟨_, a, _, rfl, _⟩ | ⟨a, rfl, _⟩ <;> (simp [isD] at h; simp [h])
    | lst xs => rcases hx with ⟨_, a, _, rfl, _⟩ | ⟨a, rfl, _⟩ <;> (simp [isD] at h; simp [h])
    | arr xs => rcases hx with ⟨_, a, _, rfl, _⟩ | ⟨a, rfl, _⟩ <;> (simp [isD] at h; simp [h])
    | dct xs => rcases hx with ⟨_, a, _, rfl, _⟩ | ⟨a, rfl, _⟩ <;> (simp [isD] at h; simp [h])
  | bl k =>
    obtain rfl := hy.bl
    refine ⟨.inr ⟨k, rfl⟩, ?_⟩
    cases x with
    | non => obtain rfl := hx.non; simp [isD] at h; simp [h]
    | bl c => obtain rfl := hx.bl; simp only [isD, Option.some.injEq] at h; rw [← h, adk]
    | int i => obtain rfl := hx.int; simp [isD] at h; simp [h]
    | str z => obtain ⟨rfl, _⟩ := hx.str; simp [isD] at h; simp [h]
    | tup xs => rcases hx with ⟨_, a, _, rfl, _⟩ | ⟨a, rfl, _⟩ <;> (simp [isD] at h; simp [h])
    | lst xs => rcases hx with ⟨_, a, _, rfl, _⟩ | ⟨a, rfl, _⟩ <;> (simp [isD] at h; simp [h])
    | arr xs => rcases hx with ⟨_, a, _, rfl, _⟩ | ⟨a, rfl, _⟩ <;> (simp [isD] at h; simp [h])
    | dct xs => rcases hx with ⟨_, a, _, rfl, _⟩ | ⟨a, rfl, _⟩ <;> (simp [isD] at h; simp [h])
  | _ => cases x <;> simp [isD] at h
theorem aeN : nu C (fun x y H Q => isPlain y ∧ Q (.bl (decide (x = y))) H) gIs := by
  intro Pr F env σ H x y d vx vy Q r hx hy h q
  unfold gIs at h
  cases e : isD x y with
  | none => rw [e] at h; cases h
  | some b =>
    rw [e] at h; cases h
    obtain ⟨h1, h2⟩ := afy hx hy e
    exact ⟨h1, by rw [h2]; exact q _ H F r (aH.refl F) rfl⟩
def gI (c : Int → Int → Bool) (f : Int → Int → D) (x y : D) : Option D := match x, y with
  | .int i, .int j => if c i j = true then some (f i j) else none
  | _, _ => none
theorem Sg {Cd : Int → Int → Prop} {c : Int → Int → Bool} {f : Int → Int → D} {g : Int → Int → V} (hc : ∀ i j, c i j = true → Cd i j) (hf : ∀ i j F, Rep C.K F (f i j) (g i j)) : nu C (rI Cd g) (gI c f) := by
  intro Pr F env σ H x y d vx vy Q r hx hy h q
  unfold gI at h
  split at h
  · rename_i i j
    split at h
    · rename_i hcc
      cases h
      obtain rfl := hx.int
      obtain rfl := hy.int
      exact ⟨i, j, rfl, rfl, hc i j hcc, q _ H F r (aH.refl F) (hf i j F)⟩
    · cases h
  · cases h
theorem M5 {f : Int → Int → D} {g : Int → Int → V} (hf : ∀ i j F, Rep C.K F (f i j) (g i j)) : nu C (MK g) (gI (fun _ _ => true) f) := by
  intro Pr F env σ H x y d vx vy Q r hx hy h q
  unfold gI at h
  split at h
  · rename_i i j
    rw [if_pos rfl] at h
    cases h
    obtain rfl := hx.int
    obtain rfl := hy.int
    exact ⟨i, j, rfl, rfl, q _ H F r (aH.refl F) (hf i j F)⟩
  · cases h
def iZ (i j : Int) : Bool := decide (Builtin.Int.intBits i + Builtin.Int.intBits j ≤ 134217728)
theorem W7 : kh X (binaryOp .Mult) (rI (fun i j => iZ i j = true) fun i j => .int (i * j)) :=
  opI fun i j _ _ _ _ _ hc q => mul_int q (mulOk_of_bits (Nat.le_refl _) (Nat.le_refl _) (of_decide_eq_true hc))
def lU : D → D → Option D := gI iZ fun i j => .int (i * j)
def El : D → D → Option D := gI (fun _ _ => true) fun i j => .int (i - j)
def Ld : D → D → Option D := gI (fun _ j => decide (0 < j)) fun i j => .int (i % j)
def Lb : D → D → Option D := gI (fun i j => decide (0 ≤ j ∧ j ≤ 1000000 ∧ i.natAbs < 2 ^ 64)) fun i j => .int (i ^ j.toNat)
def Qf : D → D → Option D := gI (fun i j => decide (0 ≤ j ∧ j ≤ 1000000 ∧ i.natAbs < 2 ^ 64)) fun i j => .int (i * 2 ^ j.toNat)
def Ag : D → D → Option D := gI (fun _ j => decide (0 ≤ j)) fun i j => .int (i / 2 ^ j.toNat)
def Es : D → D → Option D := gI (fun _ _ => true) fun i j => .int (Builtin.bitAnd i j)
theorem abk : nu C (rI (fun i j => iZ i j = true) fun i j => .int (i * j)) lU := Sg (fun _ _ h => h) fun _ _ _ => rfl
theorem abg : nu C (MK fun i j => .int (i - j)) El := M5 fun _ _ _ => rfl
theorem abl : nu C (rI (fun _ j => 0 < j) fun i j => .int (i % j)) Ld := Sg (fun _ _ h => of_decide_eq_true h) fun _ _ _ => rfl
theorem abj : nu C (rI Y5 fun i j => .int (i ^ j.toNat)) Lb := Sg (fun i j h => (show 0 ≤ j ∧ j ≤ 1000000 ∧ i.natAbs < 2 ^ 64 from of_decide_eq_true h)) fun _ _ _ => rfl
theorem abi : nu C (rI Y5 fun i j => .int (i * 2 ^ j.toNat)) Qf := Sg (fun i j h => (show 0 ≤ j ∧ j ≤ 1000000 ∧ i.natAbs < 2 ^ 64 from of_decide_eq_true h)) fun _ _ _ => rfl
theorem abh : nu C (rI (fun _ j => 0 ≤ j) fun i j => .int (i / 2 ^ j.toNat)) Ag := Sg (fun _ _ h => of_decide_eq_true h) fun _ _ _ => rfl
theorem abu : nu C (MK fun i j => .int (Builtin.bitAnd i j)) Es := M5 fun _ _ _ => rfl
abbrev aeh : R2 := fun x y H Q => ∃ i j, x = .str i ∧ y = .str j ∧ Q (.bl (decide (i.cps.toList < j.cps.toList))) H
def afN : D → D → Option D := gI (fun _ _ => true) fun i j => .bl (decide (i < j))
def acT (x y : D) : Option D := match x, y with
  | .str a, .str b => some (.bl (decide (a < b)))
  | _, _ => none
def gLt (x y : D) : Option D := (afN x y).or (acT x y)
def gLe : D → D → Option D := gI (fun _ _ => true) fun i j => .bl (decide (i ≤ j))
def gGt : D → D → Option D := gI (fun _ _ => true) fun i j => .bl (decide (j < i))
def gGe : D → D → Option D := gI (fun _ _ => true) fun i j => .bl (decide (j ≤ i))
theorem abm : nu C aeh acT := by
  intro Pr F env σ H x y d vx vy Q r hx hy h q
  unfold acT at h
  split at h
  · cases h
    obtain ⟨rfl, _⟩ := hx.str
    obtain ⟨rfl, _⟩ := hy.str
    exact ⟨_, _, rfl, rfl, q _ H F r (aH.refl F) (by show V.bl _ = V.bl _; congr)⟩
  · cases h
abbrev aei : R2 := fun x y H Q => MK (fun i j => .bl (decide (i < j))) x y H Q ∨ aeh x y H Q
theorem aa4 : kh X (compareOp .Lt) aei := aeE.or Pg
theorem abn : nu C (MK fun i j => .bl (decide (i < j))) afN := M5 fun _ _ _ => rfl
theorem aeM : nu C aei gLt := abn.or abm
theorem aeP : nu C (MK fun i j => .bl (decide (j < i))) gGt := M5 fun _ _ _ => rfl
end
end Ev
namespace Ev
open PySem PySem.Spec PyProof.Rows L2
section
variable {X : Cx} {C : Cfg}
def Rx (K : Fg) : R2 := fun x y H Q => ∃ a b ys, x = .ref a ∧ y = .ref b ∧ nO K H a [] ∧ nO K H b ys ∧ Q (.ref b) H
theorem R8 : kh X (binaryOp .Add) (Rx X.K) := by
  intro pins s σ H x y v u Q I rx ry h
  obtain ⟨a, b, ys, rfl, rfl, ha, hb, q⟩ := h
  cases rx
  cases ry
  obtain ⟨its, r1, p1, _⟩ := I.tuple ha
  obtain ⟨its2, r2, p2, _⟩ := I.tuple hb
  cases r1
  obtain ⟨⟨cls, dd, data, sl⟩, ho, hc, n, hd⟩ := id p1
  obtain ⟨⟨cls2, dd2, data2, sl2⟩, ho2, hc2, n2, hd2⟩ := id p2
  simp only at hc hd hc2 hd2
  subst hc hd hc2 hd2
  exact concat_meets ⟨_, ho, rfl⟩ ⟨_, ho2, rfl⟩ noFill_tuple_add seq_tuple_add PySem.F.slot_tuple_add PySem.F.entry_tuple_add (PySem.F.args_tuple_add_2 _ _)
    (tuple_addW0 a b ([] : List Value).toArray its2.toArray n n2 dd dd2 sl sl2 (by simp)) ⟨ho, ho2, ⟨.ref b, H, I, rfl, q⟩⟩
abbrev aes : R2 := fun x y H Q => ∃ i j, x = .str i ∧ y = .str j ∧ i.length + j.length ≤ sizeLine ∧ Q (.str (i ++ j)) H
abbrev aet (K : Fg) : R2 := fun x y H Q => MK (fun i j => .int (i + j)) x y H Q ∨ aes x y H Q ∨ aer x y H Q ∨ Zd K x y H Q ∨ Rx K x y H Q
theorem W9 : kh X (binaryOp .Add) (aet X.K) := abe.or (Kl.or (abb.or (W8.or R8)))
def bU (x y : D) : Option D := match x, y with
  | .int i, .int j => some (.int (i + j))
  | .str a, .str b => if a.length + b.length ≤ sizeLine then some (.str (a ++ b)) else none
  | .lst a, .lst b => if a.length + b.length ≤ sizeLine then some (.lst (a ++ b)) else none
  | .tup a, .tup b => if a.length + b.length ≤ sizeLine then some (.tup (a ++ b)) else none
  | _, _ => none
theorem Cj (a b : List Nat) : strOf a ++ strOf b = strOf (a ++ b) := by
  show (⟨(strOf a).cps ++ (strOf b).cps⟩ : Str) = _
  unfold strOf
  simp
theorem cD (a : List Nat) : (strOf a).length = a.length := by
  show a.toArray.size = a.length
  simp
theorem abv : nu C (aet C.K) bU := by
  intro Pr F env σ H x y d vx vy Q r hx hy h q
  unfold bU at h
  split at h
  · cases h
    obtain rfl := hx.int
    obtain rfl := hy.int
    exact .inl ⟨_, _, rfl, rfl, q _ H F r (aH.refl F) rfl⟩
  · split at h
    · rename_i hz
      cases h
      obtain ⟨rfl, _⟩ := hx.str
      obtain ⟨rfl, _⟩ := hy.str
      refine .inr (.inl ⟨_, _, rfl, rfl, by rw [cD, cD]; exact hz, ?_⟩)
      rw [Cj]
      exact q _ H F r (aH.refl F) ⟨rfl, by rw [List.length_append]; exact hz⟩
    · cases h
  · split at h
    · rename_i hz
      cases h
      obtain ⟨_, a, vs, rfl, h1, h2⟩ := hx.lst r.fr
      obtain ⟨_, b, ws, rfl, h3, h4⟩ := hy.lst r.fr
      refine .inr (.inr (.inl ⟨a, b, vs, ws, rfl, rfl, h1, h3, by rw [h2.length, h4.length]; exact hz, fun p hp => ?_⟩))
      obtain ⟨r2, s2⟩ := r.new (o := .lst (vs ++ ws)) hp
      exact q _ _ _ r2 s2 ⟨by rw [List.length_append]; exact hz, p, _, rfl, aQ, aW.mono s2 _ _ (h2.append h4)⟩
    · cases h
  · split at h
    · rename_i hz
      cases h
      obtain ⟨z1, a, vs, rfl, h1, f1, h2⟩ := hx.tup r.fr
      obtain ⟨z2, b, ws, rfl, h3, f3, h4⟩ := hy.tup r.fr
      by_cases hv : vs = []
      · subst hv
        have e1 : _ = 0 := h2.length.symm
        have e2 := List.eq_nil_of_length_eq_zero e1
        subst e2
        refine .inr (.inr (.inr (.inr ⟨a, b, ws, rfl, rfl, h1, h3, ?_⟩)))
        exact q _ H F r (aH.refl F) ⟨z2, b, ws, rfl, f3, h4⟩
      · refine .inr (.inr (.inr (.inl ⟨a, b, vs, ws, rfl, rfl, h1, h3, hv, by rw [h2.length, h4.length]; exact hz, fun hw => ?_, fun hw p hp => ?_⟩)))
        · subst hw
          have e1 : _ = 0 := h4.length.symm
          have e2 := List.eq_nil_of_length_eq_zero e1
          subst e2
          rw [List.append_nil] at q
          exact q _ H F r (aH.refl F) ⟨z1, a, vs, rfl, f1, h2⟩
        · obtain ⟨r2, s2⟩ := r.new (o := .tup (vs ++ ws)) hp
          exact q _ _ _ r2 s2 ⟨by rw [List.length_append]; exact hz, p, _, rfl, nO.of aQ, aW.mono s2 _ _ (h2.append h4)⟩
    · cases h
  · cases h
def JC (K : Fg) (F H : Hp) : List D → List V → Prop
  | [], vs => vs = []
  | d :: ds, vs => ∃ v r, vs = v :: r ∧ gJ K F H d v ∧ JC K F H ds r
def tAB (C : Cfg) (ev : cz) : TA := fun σ H Q => ∃ (Pr F : Hp) (env env' : Env) (ds : List D), Rel C Pr F env σ H ∧ ev env = .ok ds env' ∧
  ∀ vs H' F', Rel C Pr F' env' σ H' → aH F F' → JC C.K F' H' ds vs → Q vs H'
def rQ (X : Cx) (C : Cfg) (es : List Expr) (ev : cz) : Prop := PA X es (tAB C ev)
theorem aP {e : Expr} {a : Ev} (h : zQ X C e a) (hs : starEach [e] X.env = (false, eval e X.env) :: starEach [] X.env := by rfl) : rQ X C [e] (aa a ak) := (jB h sH hs).imp fun σ H Q hq => by
  obtain ⟨Pr, F, env, env', ds, rl, e, q⟩ := hq
  obtain ⟨d1, aB, e1, e2⟩ := aO e
  cases e2
  exact ⟨Pr, F, env, env', d1, rl, e1, fun v H1 F1 r1 s1 p1 => q _ H1 F1 r1 s1 ⟨v, [], rfl, p1, rfl⟩⟩
theorem nH {e : Expr} {es : List Expr} {a : Ev} {r : cz} (ha : PX X C e a) (hr : rQ X C es r) (hs : starEach (e :: es) X.env = (false, eval e X.env) :: starEach es X.env := by rfl) : rQ X C (e :: es) (aa a r) :=
  (jB ha hr hs).imp fun σ H Q h => by
    obtain ⟨Pr, F, env, env', ds, rl, e, q⟩ := h
    obtain ⟨d1, aB, e1, e2⟩ := aO e
    obtain ⟨ds2, cN, e3, e4⟩ := aO e2
    cases e4
    refine ⟨Pr, F, env, aB, d1, rl, e1, fun v H1 F1 r1 s1 p1 => ?_⟩
    refine ⟨Pr, F1, aB, env', ds2, r1, e3, fun vs H2 F2 r2 s2 p2 => ?_⟩
    exact q _ H2 F2 r2 (s1.trans s2) ⟨v, vs, rfl, .inl (Rep.mono s2 d1 v p1), p2⟩
def CallD (C : Cfg) (r : List V → Hp → VK → Prop) (g : List D → Option D) : Prop := ∀ (Pr F : Hp) (env : Env) (σ : L2.St) (H : Hp) (ds : List D) (d : D) (vs : List V) (Q : VK), Rel C Pr F env σ H → JC C.K F H ds vs → g ds = some d →
  (∀ v H' F', Rel C Pr F' env σ H' → aH F F' → Rep C.K F' d v → Q v H') → r vs H Q
def aq (g : List D → Option D) (a : cz) : Ev := fun env => bindR (a env) fun ds aB => cY (g ds) aB
theorem NQ {r : List V → Hp → VK → Prop} {g : List D → Option D} {a : cz} (o : CallD C r g) (σ : L2.St) (H : Hp) (Q : VK) (h : tE C (aq g a) σ H Q) : tCB r (tAB C a) σ H Q := by
  obtain ⟨Pr, F, env, env', d, rl, e, q⟩ := h
  obtain ⟨ds, aB, e1, e2⟩ := aO e
  obtain ⟨e3, rfl⟩ := d8 e2
  exact ⟨Pr, F, env, env', ds, rl, e1, fun vs H1 F1 r1 s1 p1 => o Pr F1 env' σ H1 ds d vs Q r1 p1 e3 fun v H2 F2 r2 s2 p2 => q v H2 F2 r2 (s1.trans s2) p2⟩
theorem lr {x : Str} {p pos : Pos} {e : Expr} {es : List Expr} {id : String} {r : List V → Hp → VK → Prop} {g : List D → Option D} {a : cz} (hc : gM X (.builtin id) r) (o : CallD C r g) (hg : Gl X x) (hm : X.mg x = none) (hv : bootBuiltins x = some (.builtin id)) (ha : rQ X C (e :: es) a)
    (hn : x ≠ "__name__" := by decide) (hdb : (x == ("__debug__" : Str)) = false := by decide) (he : starEach (e :: es) X.env = (false, eval e X.env) :: starEach es X.env := by rfl) (hpl : (backTo pos (starEach es X.env)).any (·.1) = false := by rfl) :
    PX X C (.Call (.Name x p) (e :: es) [] pos) (aq g a) := (yu hc hg hm hv ha hn hdb he hpl).imp (NQ o)
theorem Bk {x : Str} {p pos : Pos} {e : Expr} {es : List Expr} {T : String} {r : List V → Hp → VK → Prop} {g : List D → Option D} {a : cz} (hc : gM X (.type T) r) (o : CallD C r g) (hg : Gl X x) (hm : X.mg x = none) (hv : bootBuiltins x = some (.type T)) (ha : rQ X C (e :: es) a)
    (hn : x ≠ "__name__" := by decide) (hdb : (x == ("__debug__" : Str)) = false := by decide) (he : starEach (e :: es) X.env = (false, eval e X.env) :: starEach es X.env := by rfl) (hpl : (backTo pos (starEach es X.env)).any (·.1) = false := by rfl) :
    PX X C (.Call (.Name x p) (e :: es) [] pos) (aq g a) := (Bl hc hg hm hv ha hn hdb he hpl).imp (NQ o)
theorem lL {K : Fg} {F H : Hp} {d : D} {vs : List V} (h : JC K F H [d] vs) : ∃ v, vs = [v] ∧ gJ K F H d v := by
  obtain ⟨v, r, rfl, h1, h2⟩ := h
  cases h2
  exact ⟨v, rfl, h1⟩
theorem LC {K : Fg} {F H : Hp} {d e : D} {vs : List V} (h : JC K F H [d, e] vs) : ∃ v w, vs = [v, w] ∧ gJ K F H d v ∧ gJ K F H e w := by
  obtain ⟨v, r, rfl, h1, h2⟩ := h
  obtain ⟨w, rfl, h3⟩ := lL h2
  exact ⟨v, w, rfl, h1, h3⟩
def dG : List D → Option D
  | [.str x] => some (.int x.length)
  | [.tup xs] => some (.int xs.length)
  | [.lst xs] => some (.int xs.length)
  | [.arr xs] => some (.int xs.length)
  | _ => none
theorem adq : CallD C (fun xs H Q => ∃ x n, xs = [x] ∧ agd C.K x H n ∧ Q (.int n) H) dG := by
  intro Pr F env σ H ds d vs Q r hs h q
  unfold dG at h
  split at h
  · cases h
    obtain ⟨v, rfl, hv⟩ := lL hs
    obtain ⟨rfl, hz⟩ := hv.str
    exact ⟨_, _, rfl, ⟨by rw [cD]; exact hz, (cD _).symm⟩, q _ H F r (aH.refl F) rfl⟩
  · cases h
    obtain ⟨v, rfl, hv⟩ := lL hs
    obtain ⟨_, a, ws, rfl, h1, _, h2⟩ := hv.tup r.fr
    exact ⟨_, _, rfl, .inr ⟨ws, h1, h2.length.symm⟩, q _ H F r (aH.refl F) rfl⟩
  · cases h
    obtain ⟨v, rfl, hv⟩ := lL hs
    obtain ⟨_, a, ws, rfl, h1, h2⟩ := hv.lst r.fr
    exact ⟨_, _, rfl, .inl ⟨ws, lN.of h1, h2.length.symm⟩, q _ H F r (aH.refl F) rfl⟩
  · cases h
    obtain ⟨v, rfl, hv⟩ := lL hs
    obtain ⟨_, a, ws, rfl, h1, h2⟩ := hv.arr r.fr
    exact ⟨_, _, rfl, .inl ⟨ws, h1, h2.length.symm⟩, q _ H F r (aH.refl F) rfl⟩
  · cases h
def dN : List D → Option D
  | [.tup xs] => some (.tup xs)
  | [.lst xs] => some (.tup xs)
  | _ => none
abbrev Rq (K : Fg) : List V → Hp → VK → Prop := fun xs H Q => ∃ p ys, xs = [.ref p] ∧ ((lN K H p ys ∧ ∀ l, H l = none → Q (.ref l) (upd H l (.tup ys))) ∨ (nO K H p ys ∧ Q (.ref p) H))
theorem Vc : CallD C (Rq C.K) dN := by
  intro Pr F env σ H ds d vs Q r hs h q
  unfold dN at h
  split at h
  · cases h
    obtain ⟨v, rfl, hv⟩ := lL hs
    obtain ⟨z, a, ws, rfl, h1, f1, h2⟩ := hv.tup r.fr
    exact ⟨a, ws, rfl, .inr ⟨h1, q _ H F r (aH.refl F) ⟨z, a, ws, rfl, f1, h2⟩⟩⟩
  · cases h
    obtain ⟨v, rfl, hv⟩ := lL hs
    obtain ⟨z, a, ws, rfl, h1, h2⟩ := hv.lst r.fr
    refine ⟨a, ws, rfl, .inl ⟨lN.of h1, fun l hl => ?_⟩⟩
    obtain ⟨r2, s2⟩ := r.new (o := .tup ws) hl
    exact q _ _ _ r2 s2 ⟨z, l, ws, rfl, nO.of aQ, aW.mono s2 _ _ h2⟩
  · cases h
def signs (x : List Nat) : List D := x.map fun c => .str [c]
abbrev Ru : List V → Hp → VK → Prop := fun xs H Q => ∃ z, xs = [.str z] ∧ z.length ≤ sizeLine ∧ ∀ l, H l = none → Q (.ref l) (upd H l (.lst (z.cps.toList.map fun c => V.str ⟨#[c]⟩)))
theorem Ly (hh : X.calm = true) : gM X (.type "list") Ru := by
  intro pins s σ H xs us Q I r h
  obtain ⟨z, rfl, hz, q⟩ := h
  obtain ⟨u, rfl, ⟨t, rfl⟩⟩ := vals1 r
  refine call_list_str (I.ok.hd hh) z t (fun h' tk acc' c' kp e hacc => ?_) hz
  refine ⟨.ref s.heap.objs.size, _, I.laid kp (Nat.le_refl _) (show f9 X.prog X.w _ h' _ (.lst (z.cps.toList.map fun c => V.str ⟨#[c]⟩)) from ⟨?_, acc'.toList, c', ?_, by simpa using e⟩), rfl, q _ (I.hok.fresh (Nat.le_refl _))⟩
  · simpa [Str.length] using hz
  · obtain ⟨hsz, hit⟩ := hacc
    have go : ∀ (cs : List Nat) (vs : List Value), vs.length = cs.length → (∀ (j : Nat) (v : Value), vs[j]? = some v → ∃ (c : Nat) (u : Tok), cs[j]? = some c ∧ v = Value.str ⟨#[c]⟩ u) → Vals (cs.map fun c => V.str ⟨#[c]⟩) vs := by
      intro cs
      induction cs with
      | nil => intro vs hl _; rw [List.eq_nil_of_length_eq_zero hl]; exact .nil
      | cons c cs ih =>
        intro vs hl hv
        cases vs with
        | nil => simp at hl
        | cons v vs =>
          obtain ⟨c', u, e1, e2⟩ := hv 0 v rfl
          simp at e1
          subst e1 e2
          exact .cons ⟨u, rfl⟩ (ih vs (by simpa using hl) fun j w hw => by simpa using hv (j + 1) w (by simpa using hw))
    refine go _ _ (by simpa using hsz) fun j v hv => ?_
    obtain ⟨c, u, e1, e2⟩ := hit j v (by simpa using hv)
    exact ⟨c, u, by simpa using e1, e2⟩
def o8 : List D → Option D
  | [.tup xs] => some (.lst xs)
  | [.lst xs] => some (.lst xs)
  | [.str x] => some (.lst (signs x))
  | _ => none
abbrev Rv (K : Fg) : List V → Hp → VK → Prop := fun xs H Q => (∃ p ys, xs = [.ref p] ∧ (lN K H p ys ∨ nO K H p ys) ∧ ∀ l, H l = none → Q (.ref l) (upd H l (.lst ys))) ∨ Ru xs H Q
theorem Lz (hh : X.calm = true) : gM X (.type "list") (Rv X.K) := Fv.or (Ly hh)
theorem yl {K : Fg} {F : Hp} : ∀ x : List Nat, aW K F (signs x) (x.map fun c => V.str ⟨#[c]⟩)
  | [] => rfl
  | c :: x => ⟨_, _, rfl, ⟨rfl, by rw [sizeLine_eq]; simp⟩, yl x⟩
theorem YF : CallD C (Rv C.K) o8 := by
  intro Pr F env σ H ds d vs Q r hs h q
  unfold o8 at h
  split at h
  · cases h
    obtain ⟨v, rfl, hv⟩ := lL hs
    obtain ⟨z, a, ws, rfl, h1, f1, h2⟩ := hv.tup r.fr
    refine .inl ⟨a, ws, rfl, .inr h1, fun l hl => ?_⟩
    obtain ⟨r2, s2⟩ := r.new (o := .lst ws) hl
    exact q _ _ _ r2 s2 ⟨z, l, ws, rfl, aQ, aW.mono s2 _ _ h2⟩
  · cases h
    obtain ⟨v, rfl, hv⟩ := lL hs
    obtain ⟨z, a, ws, rfl, h1, h2⟩ := hv.lst r.fr
    refine .inl ⟨a, ws, rfl, .inl (lN.of h1), fun l hl => ?_⟩
    obtain ⟨r2, s2⟩ := r.new (o := .lst ws) hl
    exact q _ _ _ r2 s2 ⟨z, l, ws, rfl, aQ, aW.mono s2 _ _ h2⟩
  · rename_i x
    cases h
    obtain ⟨v, rfl, hv⟩ := lL hs
    obtain ⟨rfl, hz⟩ := hv.str
    refine .inr ⟨_, rfl, by rw [cD]; exact hz, fun l hl => ?_⟩
    obtain ⟨r2, s2⟩ := r.new (o := .lst ((strOf x).cps.toList.map fun c => V.str ⟨#[c]⟩)) hl
    refine q _ _ _ r2 s2 ⟨by simpa [signs] using hz, l, _, rfl, aQ, ?_⟩
    have e : (strOf x).cps.toList = x := by simp [strOf]
    rw [e]
    exact yl x
  · cases h
def Il : List D → Option D
  | [.int i, .int j] => some (.int (if j > i then j else i))
  | _ => none
def Ik : List D → Option D
  | [.int i, .int j] => some (.int (if j < i then j else i))
  | _ => none
theorem adp : CallD C (fun xs H Q => ∃ i j, xs = [.int i, .int j] ∧ Q (.int (if j > i then j else i)) H) Il := by
  intro Pr F env σ H ds d vs Q r hs h q
  unfold Il at h
  split at h
  · cases h
    obtain ⟨v, w, rfl, hv, hw⟩ := LC hs
    obtain rfl := hv.int
    obtain rfl := hw.int
    exact ⟨_, _, rfl, q _ H F r (aH.refl F) rfl⟩
  · cases h
theorem ado : CallD C (fun xs H Q => ∃ i j, xs = [.int i, .int j] ∧ Q (.int (if j < i then j else i)) H) Ik := by
  intro Pr F env σ H ds d vs Q r hs h q
  unfold Ik at h
  split at h
  · cases h
    obtain ⟨v, w, rfl, hv, hw⟩ := LC hs
    obtain rfl := hv.int
    obtain rfl := hw.int
    exact ⟨_, _, rfl, q _ H F r (aH.refl F) rfl⟩
  · cases h
def mz : List D → Option D
  | [.int i, .int j] => if 0 < j ∧ j < 1073741824 then some (.tup [.int (i / j), .int (i % j)]) else none
  | _ => none
theorem Qq : CallD C (fun xs H Q => ∃ i j, xs = [.int i, .int j] ∧ age i j ∧ ∀ p, H p = none → Q (.ref p) (upd H p (.tup [.int (i / j), .int (i % j)]))) mz := by
  intro Pr F env σ H ds d vs Q r hs h q
  unfold mz at h
  split at h
  · split at h
    · rename_i hj
      cases h
      obtain ⟨v, w, rfl, hv, hw⟩ := LC hs
      obtain rfl := hv.int
      obtain rfl := hw.int
      refine ⟨_, _, rfl, hj, fun p hp => ?_⟩
      obtain ⟨r2, s2⟩ := r.new (o := .tup [.int _, .int _]) hp
      exact q _ _ _ r2 s2 ⟨by rw [sizeLine_eq]; simp, p, _, rfl, nO.of aQ, ⟨_, _, rfl, rfl, _, _, rfl, rfl, rfl⟩⟩
    · cases h
  · cases h
end
end Ev
namespace Ev
open PySem PySem.Spec PyProof.Rows L2
section
variable {X : Cx} {C : Cfg}
def Mq : D → String
  | .non => "NoneType"
  | .bl _ => "bool"
  | .int _ => "int"
  | .str _ => "str"
  | .tup _ => "tuple"
  | .lst _ => "list"
  | .arr _ => "list"
  | .dct _ => "dict"
def jc (d : D) (T : String) : Bool := Mq d == T || (Mq d == "bool" && T == "int")
theorem acD {d : D} {u c : Value} {b : Bool} {s : Shared} {A : Around} {E : Value → Shared → Prop} {Q : Value → Shared → Prop} (QF : X.K.In s.heap) (h : Sh s.heap d u) (e : PySem.W.kitOne X.K (.type (Mq d)) c = some b) (q : ∀ tk, Q (.bool b) { s with toks := tk }) :
    wpAny (model X.prog X.w) A (call (.builtin "isinstance") [u, c]) Q E s := by
  cases d with
  | non => cases h; exact PySem.W.kia_one PySem.W.kitx_none QF True.intro e (fun z => nomatch z) q
  | bl y => cases h; exact PySem.W.kia_one PySem.W.kitx_bool QF True.intro e (fun z => nomatch z) q
  | int i => obtain ⟨t, rfl⟩ := h; exact PySem.W.kia_one PySem.W.kitx_int QF True.intro e (fun z => nomatch z) q
  | str y => obtain ⟨t, rfl⟩ := h; exact PySem.W.kia_one PySem.W.kitx_str QF True.intro e (fun z => nomatch z) q
  | tup xs =>
    obtain ⟨a, its, rfl, p, _⟩ := h
    obtain ⟨o, h1, h2, _⟩ := p
    exact PySem.W.kia_one PySem.W.kitx_tuple QF ⟨o, h1, h2⟩ e (fun z => nomatch z) q
  | lst xs =>
    obtain ⟨a, its, rfl, p, _⟩ := h
    obtain ⟨o, h1, h2, _⟩ := p.isList
    exact PySem.W.kia_one PySem.W.kitx_list QF ⟨o, h1, h2⟩ e (fun z => nomatch z) q
  | arr xs =>
    obtain ⟨a, its, rfl, p, _⟩ := h
    obtain ⟨o, h1, h2, _⟩ := p.isList
    exact PySem.W.kia_one PySem.W.kitx_list QF ⟨o, h1, h2⟩ e (fun z => nomatch z) q
  | dct kvs =>
    obtain ⟨a, o, rfl, h1, h2⟩ := h
    exact PySem.W.kia_one PySem.W.kitx_dict QF ⟨o, h1, h2.1⟩ e (fun z => nomatch z) q
def vQ (T : String) (d : D) : Option D := some (.bl (jc d T))
theorem Vh {T : String} (hk : ∀ d : D, PySem.W.kitOne X.K (.type (Mq d)) (.type T) = some (jc d T)) :
    gM X (.builtin "isinstance") (fun xs H Q => ∃ d x, xs = [x, .ty T] ∧ Rep X.K H d x ∧ Q (.bl (jc d T)) H) := by
  intro pins s σ H xs us Q I r h
  obtain ⟨d, x, rfl, hr, q⟩ := h
  obtain ⟨u, w, rfl, r1, r2⟩ := vals2 r
  cases r2
  exact acD (X := X) I.kIn (Rep.sh I d x u hr r1) (hk d) fun tk => ⟨.bl _, H, I.tok tk, rfl, q⟩
theorem pI {T : String} {xT : Str} {e : Expr} {a : Ev} {p q pos : Pos} (hg : Gl X "isinstance") (hm : X.mg "isinstance" = none) (hgT : Gl X xT) (hmT : X.mg xT = none) (hvT : bootBuiltins xT = some (.type T))
    (hk : ∀ d : D, PySem.W.kitOne X.K (.type (Mq d)) (.type T) = some (jc d T)) (hK : X.K = C.K) (ha : PX X C e a) (hn : xT ≠ "__name__" := by decide) (hd : (xT == ("__debug__" : Str)) = false := by decide)
    (he : starEach [e, .Name xT q] X.env = (false, eval e X.env) :: starEach [.Name xT q] X.env := by rfl) :
    PX X C (.Call (.Name "isinstance" p) [e, .Name xT q] [] pos) (oK (vQ T) a) := by
  refine (yu (Vh hk) hg hm boot_isinstance (jB ha (jB (W0 (v := .ty T) hgT hmT hvT rfl hn hd) sH) he) (by decide) (by decide) he rfl).imp fun σ H Q h => ?_
  obtain ⟨Pr, F, env, env', d, rl, e1, qq⟩ := h
  obtain ⟨d0, aB, e2, e3⟩ := aO e1
  obtain ⟨e4, rfl⟩ := d8 e3
  cases e4
  refine ⟨Pr, F, env, env', d0, rl, e2, fun v H1 F1 r1 s1 p1 => ⟨d0, v, rfl, ?_, qq _ H1 F1 r1 s1 rfl⟩⟩
  rw [hK]
  exact Rep.mono r1.fr d0 v p1
def qJ : List D → Option (List Bool)
  | [] => some []
  | .bl b :: r => (qJ r).map (b :: ·)
  | _ => none
theorem G9 {K : Fg} {F : Hp} : ∀ {ds : List D} {bs : List Bool} {vs : List V}, qJ ds = some bs → aW K F ds vs → vs = bs.map V.bl
  | [], bs, vs, h, hr => by simp [qJ] at h; subst h; cases hr; rfl
  | d :: ds, bs, vs, h, hr => by
    obtain ⟨v, r, rfl, h1, h2⟩ := hr
    cases d with
    | bl b =>
      simp only [qJ] at h
      cases e : qJ ds with
      | none => rw [e] at h; cases h
      | some cs =>
        rw [e] at h
        cases h
        cases h1
        rw [G9 e h2]
        rfl
    | _ => simp [qJ] at h
theorem Gh : ∀ {bs : List Bool} {us : List Value}, Vals (bs.map V.bl) us → us = bs.map Value.bool
  | [], _, .nil => rfl
  | b :: bs, _, .cons r t => by
    cases r
    rw [Gh t]
    rfl
theorem An (bs : List Bool) : (List.range bs.length).all (fun i => bs.getD i true) = bs.all id := by
  induction bs with
  | nil => rfl
  | cons b bs ih =>
    rw [List.length_cons, List.range_succ_eq_map, List.all_cons, List.all_map, List.all_cons]
    simp only [List.getD_cons_zero, id]
    congr 1
theorem Qu (hc : X.calm = true) : gM X (.builtin "all") (fun xs H Q => ∃ (p : Addr) (bs : List Bool), xs = [.ref p] ∧ lN X.K H p (bs.map V.bl) ∧ Q (.bl (bs.all id)) H) := by
  intro pins s σ H xs us Q I r h
  obtain ⟨p, bs, rfl, hq, q⟩ := h
  obtain ⟨u, rfl, rx⟩ := vals1 r
  cases rx
  obtain ⟨its, rv, pl, _⟩ := I.list hq
  have e := Gh rv
  subst e
  refine call_all_walk (wpAny_pyIter_list pl.isList ?_)
  have hlt : p < s.heap.objs.size := by obtain ⟨o, e, _⟩ := pl.isList; exact Heap.lt_size e
  refine ⟨s.heap.objs.size, _, _, _, _, _, fun i => bs.getD i true, rfl, Walks.list (A := X.A.in1) (show X.A.in1.handled = none from I.ok.hd hc) s.heap.objs.size p (Nat.ne_of_lt hlt) (bs.map Value.bool).toArray, ⟨⟨_, Heap.get?_push_size _ rfl, rfl, rfl⟩, by obtain ⟨o, e, rr⟩ := pl.isList; exact ⟨o, Heap.get?_push_of_some _ e, rr⟩⟩, ?_, fun h' tk hk => ?_⟩
  · intro i v s' Q' E' hv hq'
    have hv : (bs.map Value.bool).toArray[i]? = some v := hv
    rw [List.getElem?_toArray, List.getElem?_map] at hv
    cases hb : bs[i]? with
    | none => rw [hb] at hv; cases hv
    | some b =>
      rw [hb] at hv
      cases hv
      refine wpAny_truthy_bool ?_
      have this : bs.getD i true = b := by simp [List.getD_eq_getElem?_getD, hb]
      have hq' : Q' (bs.getD i true) s' := hq'
      rwa [this] at hq'
  · have I1 : Inv X pins σ H { s with heap := h', toks := tk } := I.kept fun b o e => hk b o (by simp; exact Nat.ne_of_lt (Heap.lt_size e)) (Heap.get?_push_of_some _ e)
    refine ⟨.bl _, H, I1, rfl, ?_⟩
    have e2 : (bs.map Value.bool).toArray.size = bs.length := by simp
    rw [e2, An]
    exact q
def ph : List D → Option D
  | [.lst ds] => (qJ ds).map fun bs => .bl (bs.all id)
  | _ => none
theorem adt : CallD C (fun xs H Q => ∃ (p : Addr) (bs : List Bool), xs = [.ref p] ∧ lN C.K H p (bs.map V.bl) ∧ Q (.bl (bs.all id)) H) ph := by
  intro Pr F env σ H ds d vs Q r hs h q
  unfold ph at h
  split at h
  · rename_i es
    cases e : qJ es with
    | none => rw [e] at h; cases h
    | some bs =>
      rw [e] at h
      cases h
      obtain ⟨v, rfl, hv⟩ := lL hs
      obtain ⟨z, a, ws, rfl, h1, h2⟩ := hv.lst r.fr
      have e2 := G9 e h2
      subst e2
      exact ⟨a, bs, rfl, lN.of h1, q _ H F r (aH.refl F) rfl⟩
  · cases h
def bZ : List D → Option (List (List Nat))
  | [] => some []
  | .str x :: r => (bZ r).map (x :: ·)
  | _ => none
def Bs (sep : List Nat) : List (List Nat) → List Nat
  | [] => []
  | x :: r => r.foldl (fun acc y => acc ++ sep ++ y) x
theorem TY (sep : List Nat) (xs : List (List Nat)) : Txt.join (strOf sep) (xs.map strOf) = strOf (Bs sep xs) := by
  unfold Txt.join
  unfold Builtin.Str.glued
  cases xs with
  | nil => rfl
  | cons x r =>
    show (⟨(r.map strOf).foldl (fun acc p => acc ++ (strOf sep).cps ++ p.cps) (strOf x).cps⟩ : Str) = strOf (r.foldl (fun acc y => acc ++ sep ++ y) x)
    have go : ∀ (r : List (List Nat)) (x : List Nat), (r.map strOf).foldl (fun acc p => acc ++ (strOf sep).cps ++ p.cps) (strOf x).cps = (strOf (r.foldl (fun acc y => acc ++ sep ++ y) x)).cps := by
      intro r
      induction r with
      | nil => intro x; rfl
      | cons y r ih =>
        intro x
        rw [List.map_cons, List.foldl_cons, List.foldl_cons]
        rw [← ih (x ++ sep ++ y)]
        congr 1
        simp [strOf]
    rw [go]
theorem qY {K : Fg} {F : Hp} : ∀ {ds : List D} {xs : List (List Nat)} {vs : List V}, bZ ds = some xs → aW K F ds vs → vs = xs.map fun x => V.str (strOf x)
  | [], bs, vs, h, hr => by simp [bZ] at h; subst h; cases hr; rfl
  | d :: ds, bs, vs, h, hr => by
    obtain ⟨v, r, rfl, h1, h2⟩ := hr
    cases d with
    | str b =>
      simp only [bZ] at h
      cases e : bZ ds with
      | none => rw [e] at h; cases h
      | some cs =>
        rw [e] at h
        cases h
        cases h1.1
        rw [qY e h2]
        rfl
    | _ => simp [bZ] at h
theorem qQ : ∀ {xs : List (List Nat)} {us : List Value}, Vals (xs.map fun x => V.str (strOf x)) us → StrsAre us (xs.map strOf)
  | [], _, .nil => .nil
  | x :: xs, _, .cons r t => by
    obtain ⟨k, rfl⟩ := r
    exact .cons _ k (qQ t)
def joinFits (sep : List Nat) (xs : List (List Nat)) : Bool := decide ((xs.map List.length).sum + xs.length * sep.length ≤ 16777216)
def rJoin (K : Fg) : V → List V → Hp → VK → Prop := fun x vs H Q => ∃ sep xs p, x = .str (strOf sep) ∧ vs = [.ref p] ∧ lN K H p (xs.map fun x => V.str (strOf x)) ∧ joinFits sep xs = true ∧ Q (.str (strOf (Bs sep xs))) H
theorem Xf : MtR X "str.join" (rJoin X.K) := by
  intro pins s σ H x vs v us Q I rx rv h
  obtain ⟨sep, xs, p, rfl, rfl, hq, hf, q⟩ := h
  obtain ⟨t, rfl⟩ := rx
  obtain ⟨u, rfl, ru⟩ := vals1 rv
  cases ru
  obtain ⟨its, r, pl, _⟩ := I.list hq
  have hs := qQ r
  refine join_list pl.isList (by simpa using hs) ?_ fun t' k => ?_
  · have hf' := of_decide_eq_true hf
    have e : ((xs.map strOf).map (·.length)) = xs.map List.length := by
      rw [List.map_map]
      apply List.map_congr_left
      intro z _
      exact cD z
    rw [e, cD, List.length_map]
    exact hf'
  · rw [TY]
    exact ⟨.str _, H, I.tok k, ⟨t', rfl⟩, q⟩
theorem Gv (sep : List Nat) : ∀ (r : List (List Nat)) (x : List Nat), (r.foldl (fun acc y => acc ++ sep ++ y) x).length = x.length + (r.map List.length).sum + r.length * sep.length
  | [], x => by simp
  | y :: r, x => by
    rw [List.foldl_cons, Gv sep r, List.length_append, List.length_append, List.map_cons, List.sum_cons, List.length_cons, Nat.add_mul]
    omega
theorem T4 {sep : List Nat} {xs : List (List Nat)} (h : joinFits sep xs = true) : (Bs sep xs).length ≤ sizeLine := by
  have h' := of_decide_eq_true h
  rw [sizeLine_eq]
  cases xs with
  | nil => simp [Bs]
  | cons x r =>
    show (r.foldl (fun acc y => acc ++ sep ++ y) x).length ≤ _
    rw [Gv]
    rw [List.map_cons, List.sum_cons, List.length_cons, Nat.add_mul] at h'
    omega
def qe (x y : D) : Option D := match x, y with
  | .str sep, .lst ds => (match bZ ds with
    | some xs => if joinFits sep xs = true then some (.str (Bs sep xs)) else none
    | none => none)
  | _, _ => none
theorem Wy {o e : Expr} {a b : Ev} {apos cpos : Pos} (hK : X.K = C.K) (ho : PX X C o a) (he : zQ X C e b) (hbase : attributeBase o "join" X.env (eval o X.env) = eval o X.env := by rfl)
    (hs : starEach [e] X.env = (false, eval e X.env) :: starEach [] X.env := by rfl)
    (hfew : ((backTo cpos (starEach [e] X.env)).all (fun x => !x.1) && (backToKw cpos (keywordEach [] X.env)).all (fun x => x.1.isSome)
      && decide ([e].length + ([] : List Keyword).length + (if ([] : List Keyword).isEmpty then 0 else 1) < 30)) = true := by rfl)
    (hline : (apos.endLine == cpos.line) = true := by rfl) (hplain : (backTo cpos (starEach [] X.env)).any (·.1) = false := by rfl) :
    PX X C (.Call (.Attribute o "join" apos) [e] [] cpos) (aF qe a b) := by
  refine (Zh PySem.F.plainAttrs_str PySem.F.slot_str_join PySem.F.type_str_join Xf ho (jB he sH hs) hbase hfew hline hs hplain).imp fun σ H Q h => ?_
  obtain ⟨Pr, F, env, env', d, rl, e0, q⟩ := h
  obtain ⟨x, aB, e1, e2⟩ := aO e0
  obtain ⟨y, cN, e3, e4⟩ := aO e2
  obtain ⟨e5, rfl⟩ := d8 e4
  unfold qe at e5
  split at e5
  · rename_i sep ds
    split at e5
    · rename_i xs hxs
      split at e5
      · rename_i hf
        cases e5
        refine ⟨Pr, F, env, aB, _, rl, e1, fun vx H1 F1 r1 s1 p1 => ?_⟩
        obtain ⟨rfl, _⟩ := p1
        refine ⟨rfl, Pr, F1, aB, env', _, r1, e3, fun vy H2 F2 r2 s2 p2 => ?_⟩
        obtain ⟨z, l, ws, rfl, h1, h2⟩ := p2.lst r2.fr
        have e6 := qY hxs h2
        subst e6
        exact ⟨sep, xs, l, rfl, rfl, lN.of h1, hf, q _ H2 F2 r2 (s1.trans s2) ⟨rfl, T4 hf⟩⟩
      · cases e5
    · cases e5
  · cases e5
end
end Ev
namespace Ev
open PySem PySem.Spec PyProof.Rows L2
theorem Rel.put {C : Cfg} {Pr F : Hp} {env : Env} {σ : L2.St} {H : Hp} (r : Rel C Pr F env σ H) {i : Nat} {d : D} {v : V} (hfx : C.fx i = none) (p : Rep C.K F d v) : Rel C Pr F (env.set i (some (false, d))) (σ.set i (some v)) H := by
  refine ⟨r.pr, r.fr, by rw [List.length_set, List.length_set]; exact r.len, fun j e he => ?_, fun j e he => ?_, fun j k e f b hj hk g1 g2 => ?_, r.dj, fun j a hj => ?_⟩
  · by_cases hji : j = i
    · subst hji
      have hl : j < env.length := by
        have := (List.getElem?_eq_some_iff.mp he).1
        rwa [List.length_set] at this
      rw [List.getElem?_set_self hl] at he
      cases he
      exact ⟨v, List.getElem?_set_self (by rw [← r.len]; exact hl), p⟩
    · rw [List.getElem?_set_ne (Ne.symm hji)] at he ⊢
      exact r.val j e he
  · by_cases hji : j = i
    · subst hji
      have hl : j < env.length := by
        have := (List.getElem?_eq_some_iff.mp he).1
        rwa [List.length_set] at this
      rw [List.getElem?_set_self hl] at he
      cases he
    · rw [List.getElem?_set_ne (Ne.symm hji)] at he ⊢
      exact r.own j e he
  · have nn : ∀ (j : Nat) (e : D), (env.set i (some (false, d)))[j]? = some (some (true, e)) → j ≠ i := fun j e he z => by
      subst z
      have hl : j < env.length := by
        have := (List.getElem?_eq_some_iff.mp he).1
        rwa [List.length_set] at this
      rw [List.getElem?_set_self hl] at he
      cases he
    have nj := nn j e hj
    have nk := nn k f hk
    rw [List.getElem?_set_ne (Ne.symm nj)] at hj g1
    rw [List.getElem?_set_ne (Ne.symm nk)] at hk g2
    exact r.apart j k e f b hj hk g1 g2
  · have hji : j ≠ i := fun z => by rw [z, hfx] at hj; cases hj
    rw [List.getElem?_set_ne (Ne.symm hji)]
    exact r.fix j a hj
structure Vw (K : Fg) (Pr F : Hp) (env : Env) (σ : L2.St) (H : Hp) (d : D) (a : Addr) : Prop where
  own : jl K F H d a
  nF : F a = none
  nP : Pr a = none
  ap : ∀ (j : Nat) (e : D), env[j]? = some (some (true, e)) → σ[j]? = some (some (V.ref a)) → False
theorem Vw.of {C : Cfg} {Pr F : Hp} {env : Env} {σ : L2.St} {H : Hp} {a : Addr} {o : HO} {d : D} (r : Rel C Pr F env σ H) (h : H a = none) (ho : jl C.K F (upd H a o) d a) : Vw C.K Pr F env σ (upd H a o) d a :=
  ⟨ho, r.fr.free h, r.pr.free h, fun j e he hs => by
    obtain ⟨b, h1, h2, _⟩ := r.own j e he
    rw [hs] at h1; cases h1
    obtain ⟨u, hu⟩ := h2.some
    rw [h] at hu; cases hu⟩
theorem Rel.RD {C : Cfg} {Pr F : Hp} {env : Env} {σ : L2.St} {H : Hp} (r : Rel C Pr F env σ H) {i : Nat} {d : D} {a : Addr} (hfx : C.fx i = none) (n : Vw C.K Pr F env σ H d a) : Rel C Pr F (env.set i (some (true, d))) (σ.set i (some (.ref a))) H := by
  have same : ∀ (j : Nat) (x : Bool × D), (env.set i (some (true, d)))[j]? = some (some x) → j = i → x = (true, d) ∧ j < env.length := fun j x he z => by
    subst z
    have hl : j < env.length := by
      have := (List.getElem?_eq_some_iff.mp he).1
      rwa [List.length_set] at this
    rw [List.getElem?_set_self hl] at he
    cases he
    exact ⟨rfl, hl⟩
  refine ⟨r.pr, r.fr, by rw [List.length_set, List.length_set]; exact r.len, fun j e he => ?_, fun j e he => ?_, fun j k e f b hj hk g1 g2 => ?_, r.dj, fun j a hj => ?_⟩
  · by_cases hji : j = i
    · have := (same j _ he hji).1; cases this
    · rw [List.getElem?_set_ne (Ne.symm hji)] at he ⊢
      exact r.val j e he
  · by_cases hji : j = i
    · obtain ⟨z, hl⟩ := same j _ he hji
      cases z
      subst hji
      exact ⟨a, List.getElem?_set_self (by rw [← r.len]; exact hl), n.own, n.nF, n.nP⟩
    · rw [List.getElem?_set_ne (Ne.symm hji)] at he ⊢
      exact r.own j e he
  · by_cases nj : j = i
    · by_cases nk : k = i
      · rw [nj, nk]
      · obtain ⟨z, hl⟩ := same j _ hj nj
        subst nj
        rw [List.getElem?_set_self (by rw [← r.len]; exact hl)] at g1
        cases g1
        rw [List.getElem?_set_ne (Ne.symm nk)] at hk g2
        exact (n.ap k f hk g2).elim
    · rw [List.getElem?_set_ne (Ne.symm nj)] at hj g1
      by_cases nk : k = i
      · obtain ⟨z, hl⟩ := same k _ hk nk
        subst nk
        rw [List.getElem?_set_self (by rw [← r.len]; exact hl)] at g2
        cases g2
        exact (n.ap j e hj g1).elim
      · rw [List.getElem?_set_ne (Ne.symm nk)] at hk g2
        exact r.apart j k e f b hj hk g1 g2
  · have hji : j ≠ i := fun z => by rw [z, hfx] at hj; cases hj
    rw [List.getElem?_set_ne (Ne.symm hji)]
    exact r.fix j a hj
theorem Rel.keep {C : Cfg} {Pr F : Hp} {env : Env} {σ : L2.St} {H : Hp} {d : D} {a : Addr} (r : Rel C Pr F env σ H) (n : Vw C.K Pr F env σ H d a) : ∃ F', Rel C Pr F' env σ H ∧ aH F F' ∧ Rep C.K F' d (.ref a) := by
  obtain ⟨o, ho⟩ := n.own.some
  have s1 : aH F (upd F a o) := kZ n.nF
  have rep : Rep C.K (upd F a o) d (.ref a) := by
    have h2 := n.own
    cases d with
    | lst xs => obtain ⟨z, vs, g1, g2⟩ := h2; rw [ho] at g1; cases g1; exact ⟨z, a, vs, rfl, aQ, aW.mono s1 _ _ g2⟩
    | dct kvs => obtain ⟨z, ks, g1, g2⟩ := h2; rw [ho] at g1; cases g1; exact ⟨z, a, ks, rfl, .inl aQ, cI.mono s1 _ _ g2⟩
    | _ => exact h2.elim
  refine ⟨upd F a o, ⟨r.pr, fun b u e => ?_, r.len, fun j e he => ?_, fun j e he => ?_, r.apart, fun b u e => ?_, r.fix⟩, s1, rep⟩
  · by_cases hb : b = a
    · subst hb; rw [aQ] at e; cases e; exact ho
    · rw [bJ hb] at e; exact r.fr b u e
  · obtain ⟨v, g1, g2⟩ := r.val j e he
    exact ⟨v, g1, Rep.mono s1 e v g2⟩
  · obtain ⟨b, g1, g2, g3, g4⟩ := r.own j e he
    have hb : b ≠ a := fun z => by subst z; exact n.ap j e he g1
    exact ⟨b, g1, g2.mono s1 rfl, by rw [bJ hb]; exact g3, g4⟩
  · by_cases hb : b = a
    · subst hb; exact n.nP
    · rw [bJ hb] at e; exact r.dj b u e
theorem Rel.write {C : Cfg} {Pr F : Hp} {env : Env} {σ : L2.St} {H : Hp} {i : Nat} {d d' : D} {a : Addr} {u : HO} (r : Rel C Pr F env σ H) (h : env[i]? = some (some (true, d))) (hs : σ[i]? = some (some (V.ref a))) (ho : jl C.K F (upd H a u) d' a) :
    Rel C Pr F (env.set i (some (true, d'))) σ (upd H a u) := by
  obtain ⟨a', h1, h2, h3, h4⟩ := r.own i d h
  rw [hs] at h1; cases h1
  have hi : i < env.length := (List.getElem?_eq_some_iff.mp h).1
  have ne : ∀ (j : Nat) (e : D) (b : Addr), j ≠ i → env[j]? = some (some (true, e)) → σ[j]? = some (some (V.ref b)) → b ≠ a := fun j e b hj he g z => hj (r.apart j i e d a he h (by rw [← z]; exact g) hs)
  refine ⟨fun b w e => ?_, fun b w e => ?_, by rw [List.length_set]; exact r.len, fun j e he => ?_, fun j e he => ?_, fun j k e f b hj hk g1 g2 => ?_, r.dj, r.fix⟩
  · have hb : b ≠ a := fun z => by rw [z, h4] at e; cases e
    rw [bJ hb]; exact r.pr b w e
  · have hb : b ≠ a := fun z => by rw [z, h3] at e; cases e
    rw [bJ hb]; exact r.fr b w e
  · by_cases hj : j = i
    · subst hj; rw [List.getElem?_set_self hi] at he; cases he
    · rw [List.getElem?_set_ne (Ne.symm hj)] at he; exact r.val j e he
  · by_cases hj : j = i
    · subst hj; rw [List.getElem?_set_self hi] at he; cases he; exact ⟨a, hs, ho, h3, h4⟩
    · rw [List.getElem?_set_ne (Ne.symm hj)] at he
      obtain ⟨b, g1, g2, g3, g4⟩ := r.own j e he
      exact ⟨b, g1, g2.mono (aH.refl F) (bJ (ne j e b hj he g1)), g3, g4⟩
  · have un : ∀ (j : Nat) (e : D), (env.set i (some (true, d')))[j]? = some (some (true, e)) → ∃ e', env[j]? = some (some (true, e')) := fun j e he => by
      by_cases hj : j = i
      · subst hj; exact ⟨d, h⟩
      · rw [List.getElem?_set_ne (Ne.symm hj)] at he; exact ⟨e, he⟩
    obtain ⟨e', hj'⟩ := un j e hj
    obtain ⟨f', hk'⟩ := un k f hk
    exact r.apart j k e' f' b hj' hk' g1 g2
def tN (C : Cfg) (ev : Ev) : TE := fun σ H Q => ∃ (Pr F : Hp) (env env' : Env) (d : D), Rel C Pr F env σ H ∧ ev env = .ok d env' ∧
  ∀ a H' F', Rel C Pr F' env' σ H' → aH F F' → Vw C.K Pr F' env' σ H' d a → Q (.ref a) H'
def N5 (X : Cx) (C : Cfg) (e : Expr) (ev : Ev) : Prop := PE X e (tN C ev)
section
variable {X : Cx} {C : Cfg} {pos : Pos}
theorem N5.px {e : Expr} {ev : Ev} (h : N5 X C e ev) : PX X C e ev := PE.imp h fun σ H Q hq => by
  obtain ⟨Pr, F, env, env', d, r, e, q⟩ := hq
  refine ⟨Pr, F, env, env', d, r, e, fun a H' F' r' s' n' => ?_⟩
  obtain ⟨F2, r2, s2, p2⟩ := r'.keep n'
  exact q _ _ F2 r2 (s'.trans s2) p2
theorem dZ {es : List Expr} {r : cz} (h : Jz X C es r) : N5 X C (.List es pos) (cJ r) := (aaQ h).imp fun σ H Q hq => by
  obtain ⟨Pr, F, env, env', d, rl, e, q⟩ := hq
  obtain ⟨ds, aB, e1, e2⟩ := aO e
  split at e2
  · rename_i hz
    cases e2
    refine ⟨Pr, F, env, env', ds, rl, e1, fun vs H1 F1 r1 s1 p1 => ⟨by rw [p1.length]; exact hz, fun p hp => ?_⟩⟩
    exact q _ _ F1 (r1.fresh hp) s1 (Vw.of r1 hp ⟨hz, vs, aQ, p1⟩)
  · cases e2
abbrev GV := D → Env → Option Env
abbrev N7 := List D → Env → Option Env
def tG (C : Cfg) (lo : Nat) (gv : GV) : TG := fun v σ H Q => ∃ (Pr F : Hp) (env env' : Env) (d : D), Rel C Pr F env σ H ∧ Rep C.K F d v ∧ gv d env = some env' ∧
  ∀ σ' H' F', Rel C Pr F' env' σ' H' → aH F F' → σ'.take lo = σ.take lo → Q σ' H'
def tGs (C : Cfg) (lo : Nat) (gv : N7) : YS := fun vs σ H Q => ∃ (Pr F : Hp) (env env' : Env) (ds : List D), Rel C Pr F env σ H ∧ aW C.K F ds vs ∧ gv ds env = some env' ∧
  ∀ σ' H' F', Rel C Pr F' env' σ' H' → aH F F' → σ'.take lo = σ.take lo → Q σ' H'
def Mj (X : Cx) (C : Cfg) (lo : Nat) (e : Expr) (gv : GV) : Prop := PG X e (tG C lo gv)
def QC (X : Cx) (C : Cfg) (lo : Nat) (es : List Expr) (gv : N7) : Prop := Z5 X es (tGs C lo gv)
theorem _root_.L2.PG.imp {X : Cx} {e : Expr} {t t' : TG} (h : PG X e t) (i : ∀ v σ H Q, t' v σ H Q → t v σ H Q) : PG X e t' := fun pins s σ H v u Q I r q => h pins s σ H v u Q I r (i v σ H Q q)
theorem _root_.L2.Z5.imp {X : Cx} {e : List Expr} {t t' : YS} (h : Z5 X e t) (i : ∀ v σ H Q, t' v σ H Q → t v σ H Q) : Z5 X e t' := fun pins s σ H v u Q I r q => h pins s σ H v u Q I r (i v σ H Q q)
def au (i : Nat) : GV := fun d env => some (env.set i (some (false, d)))
theorem Rz {lo i : Nat} {x : Str} (hN : X.N.Nodup) (hi : X.N[i]? = some x) (hx : Loc X.env.scope x) (hlo : lo ≤ i) (hfx : C.fx i = none) (hf : X.fn x = true ∨ X.env.scope.names.lookup x = some .local := by first | exact .inl rfl | exact .inr rfl | assumption) : Mj X C lo (.Name x pos) (au i) :=
  (WW hN hi hx hf).imp fun v σ H Q h => by
    obtain ⟨Pr, F, env, env', d, r, p, e, q⟩ := h
    cases e
    exact q _ _ F (r.put hfx p) (aH.refl F) (by rw [List.take_set_of_le hlo])
def gw : N7 := fun ds env => if ds.isEmpty then some env else none
def bu (g : GV) (gs : N7) : N7 := fun ds env => match ds with
  | d :: r => (g d env).bind fun e1 => gs r e1
  | [] => none
theorem gj {lo : Nat} : QC X C lo [] gw := WT.imp fun v σ H Q h => by
  obtain ⟨Pr, F, env, env', ds, r, p, e, q⟩ := h
  cases ds with
  | nil => cases e; cases p; exact ⟨rfl, q _ _ F r (aH.refl F) rfl⟩
  | cons d ds => cases e
theorem bI {lo : Nat} {e : Expr} {es : List Expr} {g : GV} {gs : N7} (h1 : Mj X C lo e g) (h2 : QC X C lo es gs)
    (hs : (assignEach (e :: es) X.env).map (·.2) = assign e X.env :: (assignEach es X.env).map (·.2) := by rfl) : QC X C lo (e :: es) (bu g gs) := (R0 h1 h2 hs).imp fun v σ H Q h => by
  obtain ⟨Pr, F, env, env', ds, r, p, e, q⟩ := h
  cases ds with
  | nil => cases e
  | cons d ds =>
    obtain ⟨u, w, rfl, p1, p2⟩ := p
    obtain ⟨aB, e1, e2⟩ := Option.bind_eq_some_iff.mp e
    refine ⟨u, w, rfl, Pr, F, env, aB, d, r, p1, e1, fun σ1 H1 F1 r1 s1 t1 => ?_⟩
    exact ⟨Pr, F1, aB, env', ds, r1, aW.mono s1 _ _ p2, e2, fun σ2 H2 F2 r2 s2 t2 => q σ2 H2 F2 r2 (s1.trans s2) (t2.trans t1)⟩
def fL (n : Nat) (gs : N7) : GV := fun d env => match d with
  | .tup ds => if ds.length = n then gs ds env else none
  | _ => none
theorem Ww {lo : Nat} {es : List Expr} {k : Nat} {gs : N7} {n : Nat} (hc : X.calm = true) (hK : X.K = C.K) (h : QC X C lo es gs)
    (hn : (assignEach es X.env).length = n := by rfl) (hst : (assignEach es X.env).findIdx? (·.1) = none := by rfl) : Mj X C lo (.Tuple es k pos) (fL n gs) := (aaK hc h hn hst).imp fun v σ H Q h => by
  obtain ⟨Pr, F, env, env', d, r, p, e, q⟩ := h
  cases d with
  | tup ds =>
    obtain ⟨z, a, vs, rfl, h1, h2⟩ := p
    unfold fL at e
    simp only at e
    split at e
    · rename_i hl
      rw [hK]
      exact ⟨a, vs, rfl, aH.tupK r.fr h1, by rw [h2.length]; exact hl, Pr, F, env, env', ds, r, h2, e, q⟩
    · cases e
  | _ => cases e
def HY (i : Nat) (ix : Ev) : GV := fun d env => match env[i]? with
  | some (some (_, _)) => (match ix env with
    | .ok (.int k) aB => (match aB[i]? with
      | some (some (true, .lst xs)) => (XN xs.length k).map fun j => aB.set i (some (true, .lst (xs.set j d)))
      | _ => none)
    | _ => none)
  | _ => none
theorem aax {lo i : Nat} {x : Str} {ix : Expr} {ev : Ev} {px : Pos} (hN : X.N[i]? = some x) (hv : rO X.env.scope x) (h : PX X C ix ev)
    (ha : ∀ v, assign (.Subscript (.Name x px) ix pos) X.env v = (do
      let ov ← holding [v] (eval (.Name x px) X.env)
      let iv ← holding [v, ov] (eval ix X.env)
      standAt pos
      holding [v, ov, iv] (setItem ov iv v)
      release [v, ov, iv] []) := by intro _; rfl)
    (hd : (x == ("__debug__" : Str)) = false := by decide) (hcd : (x == ("__classdict__" : Str)) = false := by decide) : Mj X C lo (.Subscript (.Name x px) ix pos) (HY i ev) :=
  (aaL (lu hN hv hd hcd) h set_list ha).imp fun v σ H Q hq => by
    obtain ⟨Pr, F, env, env', d, r, p, e, q⟩ := hq
    unfold HY at e
    split at e
    · rename_i o0 d0 h0
      obtain ⟨v0, hv0, _⟩ := r.rd h0
      split at e
      · rename_i k aB e1
        split at e
        · rename_i xs h2
          obtain ⟨j, hj, e3⟩ := Option.map_eq_some_iff.mp e
          subst e3
          refine ⟨v0, hv0, Pr, F, env, aB, .int k, r, e1, fun vi H1 F1 r1 s1 p1 => ?_⟩
          cases p1
          obtain ⟨a, g1, ⟨z, vs, g2, g3⟩, g4, g5⟩ := r1.own i _ h2
          rw [hv0] at g1; cases g1
          refine ⟨a, vs, k, j, rfl, rfl, g2, by rw [g3.length]; exact hj, ?_⟩
          refine q σ _ F1 (r1.write h2 hv0 ⟨by rw [List.length_set]; exact z, vs.set j v, aQ, aW.set (Rep.mono s1 d v p) j g3⟩) s1 rfl
        · cases e
      · cases e
    · cases e
end
inductive Out where
  | nx (env : Env)
  | rt (o : Bool) (d : D) (env : Env)
  | bk (env : Env)
  | ct (env : Env)
  | stuck
abbrev bN := Env → Out
def Fin (C : Cfg) (Pr F : Hp) (D : Ends) : Out → Prop
  | .nx env' => ∀ σ' H' F', Rel C Pr F' env' σ' H' → aH F F' → D.nx σ' H'
  | .rt false d env' => ∀ v σ' H' F', Rel C Pr F' env' σ' H' → aH F F' → Rep C.K F' d v → D.rt v H'
  | .rt true d env' => ∀ a σ' H' F', Rel C Pr F' env' σ' H' → aH F F' → Vw C.K Pr F' env' σ' H' d a → D.rt (.ref a) H'
  | .bk env' => ∀ σ' H' F', Rel C Pr F' env' σ' H' → aH F F' → D.bk σ' H'
  | .ct env' => ∀ σ' H' F', Rel C Pr F' env' σ' H' → aH F F' → D.ct σ' H'
  | .stuck => False
theorem Fin.mono {C : Cfg} {Pr F F1 : Hp} {D : Ends} (s : aH F F1) : ∀ {o : Out}, Fin C Pr F D o → Fin C Pr F1 D o
  | .nx _, h => fun σ' H' F' r t => h σ' H' F' r (s.trans t)
  | .rt false _ _, h => fun v σ' H' F' r t => h v σ' H' F' r (s.trans t)
  | .rt true _ _, h => fun v σ' H' F' r t => h v σ' H' F' r (s.trans t)
  | .bk _, h => fun σ' H' F' r t => h σ' H' F' r (s.trans t)
  | .ct _, h => fun σ' H' F' r t => h σ' H' F' r (s.trans t)
  | .stuck, h => h
def tS (C : Cfg) (ev : bN) : TS := fun D σ H => ∃ (Pr F : Hp) (env : Env), Rel C Pr F env σ H ∧ Fin C Pr F D (ev env)
def Gb (X : Cx) (C : Cfg) (st : Stmt) (ev : bN) : Prop := PS X st (tS C ev)
def uc (X : Cx) (C : Cfg) (st : List Stmt) (ev : bN) : Prop := JD X st (tS C ev)
def dm {α : Type} (x : R α) (f : α → Env → Out) : Out := match x with
  | .ok a env => f a env
  | .stuck => .stuck
theorem eO {C : Cfg} {Pr F : Hp} {D : Ends} {α : Type} {x : R α} {f : α → Env → Out} (h : Fin C Pr F D (dm x f)) : ∃ a aB, x = .ok a aB ∧ Fin C Pr F D (f a aB) := by
  cases x with
  | ok a aB => exact ⟨a, aB, rfl, h⟩
  | stuck => exact h.elim
section
variable {X : Cx} {C : Cfg} {pos : Pos}
def cG : bN := fun env => .nx env
def aK (a b : bN) : bN := fun env => match a env with
  | .nx e => b e
  | .rt o d e => .rt o d e
  | .bk e => .bk e
  | .ct e => .ct e
  | .stuck => .stuck
theorem cH : uc X C [] cG := WD.imp fun D σ H h => by
  obtain ⟨Pr, F, env, r, f⟩ := h
  exact f σ H F r (aH.refl F)
theorem aC {st : Stmt} {rest : List Stmt} {a b : bN} (h1 : Gb X C st a) (h2 : uc X C rest b) : uc X C (st :: rest) (aK a b) := (RJ h1 h2).imp fun D σ H h => by
  obtain ⟨Pr, F, env, r, f⟩ := h
  refine ⟨Pr, F, env, r, ?_⟩
  unfold aK at f
  cases e : a env with
  | nx e1 => rw [e] at f; exact fun σ' H' F' r' s' => ⟨Pr, F', e1, r', f.mono s'⟩
  | rt o d e1 => rw [e] at f; cases o <;> exact f
  | bk e1 => rw [e] at f; exact f
  | ct e1 => rw [e] at f; exact f
  | stuck => rw [e] at f; exact f
theorem aM {st : Stmt} {a : bN} (h1 : Gb X C st a) : uc X C [st] a := Wz h1
def jH (t : cO) (a b : bN) : bN := fun env => dm (t env) fun c aB => if c = true then a aB else b aB
theorem gh {c : Expr} {a b : List Stmt} {t : cO} {ea eb : bN} (hc : NZ X C c t) (ha : uc X C a ea) (hb : uc X C b eb) : Gb X C (.If c a b pos) (jH t ea eb) := (aez hc ha hb).imp fun D σ H h => by
  obtain ⟨Pr, F, env, r, f⟩ := h
  obtain ⟨k, aB, e1, f1⟩ := eO f
  refine ⟨Pr, F, env, aB, k, r, e1, fun H1 F1 r1 s1 => ?_⟩
  split at f1
  · rename_i hk; rw [if_pos hk]; exact ⟨Pr, F1, aB, r1, f1.mono s1⟩
  · rename_i hk; rw [if_neg hk]; exact ⟨Pr, F1, aB, r1, f1.mono s1⟩
def aV (a : Ev) : bN := fun env => dm (a env) fun d aB => .rt false d aB
theorem bh {e : Expr} {a : Ev} (h : PX X C e a) : Gb X C (.Return (some e) pos) (aV a) := (RM h).imp fun D σ H hq => by
  obtain ⟨Pr, F, env, r, f⟩ := hq
  obtain ⟨d, aB, e1, f1⟩ := eO f
  exact ⟨Pr, F, env, aB, d, r, e1, fun v H1 F1 r1 s1 p1 => f1 v σ H1 F1 r1 s1 p1⟩
def pF (a : Ev) : bN := fun env => dm (a env) fun d aB => .rt true d aB
theorem sG {e : Expr} {a : Ev} (h : N5 X C e a) : Gb X C (.Return (some e) pos) (pF a) := (RM h).imp fun D σ H hq => by
  obtain ⟨Pr, F, env, r, f⟩ := hq
  obtain ⟨d, aB, e1, f1⟩ := eO f
  exact ⟨Pr, F, env, aB, d, r, e1, fun v H1 F1 r1 s1 p1 => f1 v σ H1 F1 r1 s1 p1⟩
def aag : bN := fun env => .rt false .non env
def HD (o : Option Env) : Out := match o with
  | some e => .nx e
  | none => .stuck
def bj (a : Ev) (g : GV) : bN := fun env => dm (a env) fun d aB => HD (g d aB)
theorem adA {a : Ev} {g : GV} {D : Ends} {σ : L2.St} {H : Hp} (h : tS C (bj a g) D σ H) : V3 (tE C a) (tG C 0 g) D σ H := by
  obtain ⟨Pr, F, env, r, f⟩ := h
  obtain ⟨d, aB, e1, f1⟩ := eO f
  refine ⟨Pr, F, env, aB, d, r, e1, fun v H1 F1 r1 s1 p1 => ?_⟩
  cases e2 : g d aB with
  | none => rw [e2] at f1; exact f1.elim
  | some cN => rw [e2] at f1; exact ⟨Pr, F1, aB, cN, d, r1, p1, e2, fun σ2 H2 F2 r2 s2 _ => f1 σ2 H2 F2 r2 (s1.trans s2)⟩
theorem lY {tg e : Expr} {a : Ev} {g : GV} (he : PX X C e a) (hg : Mj X C 0 tg g) (hs : swapsWithSole [tg] e pos.line X.env = pure false := by rfl) (hw : swappedStores [tg] e X.env = pure none := by rfl)
    (h1 : (assignEach [tg] X.env).map (·.2) = [assign tg X.env] := by rfl) : Gb X C (.Assign [tg] e pos) (bj a g) := (aaG he hg hs hw h1).imp fun D σ H h => adA h
theorem Wq {i : Nat} {x : Str} {e : Expr} {a : Ev} {pos' : Pos} (hN : X.N.Nodup) (hi : X.N[i]? = some x) (hx : Loc X.env.scope x) (hfx : C.fx i = none) (he : PX X C e a) (hs : swapsWith e (some (.Name x pos')) pos.line X.env = pure false := by rfl) (hf : X.fn x = true ∨ X.env.scope.names.lookup x = some .local := by first | exact .inl rfl | exact .inr rfl | assumption) :
    Gb X C (.Assign [.Name x pos'] e pos) (bj a (au i)) := (RL hN hi hx he hs hf).imp fun D σ H h => by
  obtain ⟨Pr, F, env, r, f⟩ := h
  obtain ⟨d, aB, e1, f1⟩ := eO f
  exact ⟨Pr, F, env, aB, d, r, e1, fun v H1 F1 r1 s1 p1 => f1 _ H1 F1 (r1.put hfx p1) s1⟩
def kO (i : Nat) (a : Ev) : bN := fun env => dm (a env) fun d aB => .nx (aB.set i (some (true, d)))
theorem Wr {i : Nat} {x : Str} {e : Expr} {a : Ev} {pos' : Pos} (hN : X.N.Nodup) (hi : X.N[i]? = some x) (hx : Loc X.env.scope x) (hfx : C.fx i = none) (he : N5 X C e a) (hs : swapsWith e (some (.Name x pos')) pos.line X.env = pure false := by rfl) (hf : X.fn x = true ∨ X.env.scope.names.lookup x = some .local := by first | exact .inl rfl | exact .inr rfl | assumption) :
    Gb X C (.Assign [.Name x pos'] e pos) (kO i a) := (RL hN hi hx he hs hf).imp fun D σ H h => by
  obtain ⟨Pr, F, env, r, f⟩ := h
  obtain ⟨d, aB, e1, f1⟩ := eO f
  exact ⟨Pr, F, env, aB, d, r, e1, fun v H1 F1 r1 s1 p1 => f1 _ H1 F1 (r1.RD hfx p1) s1⟩
def nA (i : Nat) (a : Ev) : bN := fun env => match env[i]? with
  | some (some (true, .lst _)) => dm (a env) fun d aB => (match aB[i]? with
    | some (some (true, .lst xs)) => if xs.length < sizeLine then .nx (aB.set i (some (true, .lst (xs ++ [d])))) else .stuck
    | _ => .stuck)
  | _ => .stuck
theorem Wt {i : Nat} {x : Str} {e : Expr} {a : Ev} {px apos cpos : Pos} (hN : X.N[i]? = some x) (hv : rO X.env.scope x) (he : PX X C e a) (hK : X.K = C.K)
    (hs : swapsWith (.Call (.Attribute (.Name x px) "append" apos) [e] [] cpos) none pos.line X.env = pure false := by rfl)
    (hfew : ((backTo cpos (starEach [e] X.env)).all (fun x => !x.1) && (backToKw cpos (keywordEach [] X.env)).all (fun x => x.1.isSome)
      && decide (([e] : List Expr).length + ([] : List Keyword).length + (if ([] : List Keyword).isEmpty then 0 else 1) < 30)) = true := by rfl)
    (hbase : attributeBase (.Name x px) "append" X.env (eval (.Name x px) X.env) = eval (.Name x px) X.env := by rfl)
    (hline : (apos.endLine == cpos.line) = true := by rfl) (hst : starEach [e] X.env = (false, eval e X.env) :: starEach [] X.env := by rfl) (hplain : (backTo cpos (starEach [] X.env)).any (·.1) = false := by rfl)
    (hd : (x == ("__debug__" : Str)) = false := by decide) (hcd : (x == ("__classdict__" : Str)) = false := by decide) : Gb X C (.Expr (.Call (.Attribute (.Name x px) "append" apos) [e] [] cpos) pos) (nA i a) := by
  refine PS.imp (WK (Zh PySem.F.plainAttrs_list PySem.F.slot_list_append PySem.F.type_list_append Bp (lu hN hv hd hcd) (jB he sH hst) hbase hfew hline hst hplain) hs) fun D σ H h => ?_
  obtain ⟨Pr, F, env, r, f⟩ := h
  unfold nA at f
  split at f
  · rename_i xs0 h0
    obtain ⟨d, aB, e1, f1⟩ := eO f
    obtain ⟨a0, hv0, ⟨z0, vs0, g0, _⟩, _⟩ := r.own i _ h0
    refine ⟨_, hv0, .inl ⟨rfl, vs0, lN.of g0⟩, Pr, F, env, aB, d, r, e1, fun v H1 F1 r1 s1 p1 => ?_⟩
    split at f1
    · rename_i xs h1
      split at f1
      · rename_i hz
        obtain ⟨a, g1, ⟨z, vs, g2, g3⟩, g4, g5⟩ := r1.own i _ h1
        rw [hv0] at g1; cases g1
        refine ⟨a0, vs, v, rfl, rfl, g2, by rw [g3.length]; exact hz, ?_⟩
        exact f1 σ _ F1 (r1.write h1 hv0 ⟨by rw [List.length_append]; exact hz, vs ++ [v], aQ, g3.append (aW.one p1)⟩) s1
      · exact f1.elim
    · exact f1.elim
  · exact f.elim
def oX (K : Fg) (F : Hp) (ds : List D) (J : It) : Prop := ∀ (i : Nat) (H : Hp), aH F H → (ds[i]? = none → i = ds.length → J.stop i H) ∧ ∀ d, ds[i]? = some d → J.go i H ∧ ∀ x H', J.yld i H x H' →
  (H' = H ∧ Rep K F d x) ∨ ∃ p vs es, H p = none ∧ H' = upd H p (.tup vs) ∧ x = .ref p ∧ d = .tup es ∧ es.length ≤ sizeLine ∧ aW K F es vs
def tI (C : Cfg) (ev : cz) : TI := fun σ H R => ∃ (Pr F : Hp) (env env' : Env) (ds : List D), Rel C Pr F env σ H ∧ ev env = .ok ds env' ∧
  ∀ J H' F', Rel C Pr F' env' σ H' → aH F F' → oX C.K F' ds J → R J H'
def QB (X : Cx) (C : Cfg) (tg iter : Expr) (ev : cz) : Prop := PI X tg iter (tI C ev)
theorem _root_.L2.PI.imp {X : Cx} {tg e : Expr} {t t' : TI} (h : PI X tg e t) (i : ∀ σ H R, t' σ H R → t σ H R) : PI X tg e t' := fun pins s σ H R I q => h pins s σ H R I (i σ H R q)
theorem oX.item {Pr F F1 : Hp} {env : Env} {σ : L2.St} {H : Hp} {ds : List D} {J : It} {i : Nat} {d : D} {x : V} {H' : Hp} (r : Rel C Pr F1 env σ H) (s : aH F F1) (y : oX C.K F ds J) (hd : ds[i]? = some d) (hy : J.yld i H x H') :
    ∃ F2, Rel C Pr F2 env σ H' ∧ aH F1 F2 ∧ Rep C.K F2 d x := by
  rcases ((y i H (s.trans r.fr)).2 d hd).2 x H' hy with ⟨rfl, p⟩ | ⟨p, vs, es, hp, rfl, rfl, rfl, hz, q⟩
  · exact ⟨F1, r, aH.refl F1, Rep.mono s _ _ p⟩
  · obtain ⟨r2, s2⟩ := r.new (o := .tup vs) hp
    exact ⟨_, r2, s2, hz, p, vs, rfl, nO.of aQ, aW.mono (s.trans s2) _ _ q⟩
def iy (g : GV) (b : bN) : List D → bN
  | [], env => .nx env
  | d :: ds, env => (match g d env with
    | none => .stuck
    | some e1 => (match b e1 with
      | .nx e2 => iy g b ds e2
      | .ct e2 => iy g b ds e2
      | .bk e2 => .nx e2
      | .rt o d e2 => .rt o d e2
      | .stuck => .stuck))
def ji (it : cz) (g : GV) (b : bN) : bN := fun env => dm (it env) fun ds aB => iy g b ds aB
theorem Ws {tg iter : Expr} {body : List Stmt} {it : cz} {g : GV} {b : bN} (hp : PassesOwn (model X.prog X.w) X.A X.env X.xe) (hc : X.calm = true) (hi : QB X C tg iter it) (hg : Mj X C 0 tg g) (hb : uc X C body b)
    (hs : ∀ x, foldedSetIterable iter X.env x = pure x := by intro _; rfl) : Gb X C (.For tg iter body [] pos) (ji it g b) := (aaF hp hc hi hg hb hs).imp fun D σ H h => by
  obtain ⟨Pr, F, env, r, f⟩ := h
  obtain ⟨ds, aB, e1, f1⟩ := eO f
  refine ⟨Pr, F, env, aB, ds, r, e1, fun J H1 F1 r1 s1 y1 => ?_⟩
  refine ⟨fun i m σ' H' => m = ds.length - i ∧ i ≤ ds.length ∧ ∃ F' env', Rel C Pr F' env' σ' H' ∧ aH F1 F' ∧ Fin C Pr F' D (iy g b (ds.drop i) env'), ⟨ds.length, rfl, Nat.zero_le _, F1, aB, r1, aH.refl _, f1.mono s1⟩, ?_⟩
  rintro i m σ' H' ⟨rfl, hi, F', env', r', s', f'⟩
  by_cases hl : i < ds.length
  · have hd : ds[i]? = some ds[i] := List.getElem?_eq_getElem hl
    have hdr : ds.drop i = ds[i] :: ds.drop (i + 1) := List.drop_eq_getElem_cons hl
    have yy := y1 i H' (s'.trans r'.fr)
    refine .inr ⟨(yy.2 _ hd).1, fun σ2 H2 => ∃ F' env', Rel C Pr F' env' σ2 H2 ∧ aH F1 F' ∧ Fin C Pr F' D (iy g b (ds.drop (i + 1)) env'), fun σ2 H2 h2 => ⟨ds.length - (i + 1), by omega, rfl, hl, h2⟩, fun x H2 hy => ?_⟩
    obtain ⟨F2, r2, s2, p2⟩ := oX.item r' s' y1 hd hy
    rw [hdr] at f'
    have f2 := f'.mono s2
    unfold iy at f2
    cases eg : g ds[i] env' with
    | none => rw [eg] at f2; exact f2.elim
    | some e2 =>
      rw [eg] at f2
      refine ⟨Pr, F2, env', e2, ds[i], r2, p2, eg, fun σ3 H3 F3 r3 s3 _ => ⟨Pr, F3, e2, r3, ?_⟩⟩
      simp only at f2
      have s13 : aH F1 F3 := (s'.trans s2).trans s3
      cases eb : b e2 with
      | nx e3 => rw [eb] at f2; exact fun σ4 H4 F4 r4 s4 => ⟨F4, e3, r4, s13.trans s4, f2.mono (s3.trans s4)⟩
      | ct e3 => rw [eb] at f2; exact fun σ4 H4 F4 r4 s4 => ⟨F4, e3, r4, s13.trans s4, f2.mono (s3.trans s4)⟩
      | bk e3 => rw [eb] at f2; exact fun σ4 H4 F4 r4 s4 => f2 σ4 H4 F4 r4 (s3.trans s4)
      | rt o d e3 => rw [eb] at f2; cases o <;> exact fun v σ4 H4 F4 r4 s4 p4 => f2 v σ4 H4 F4 r4 (s3.trans s4) p4
      | stuck => rw [eb] at f2; exact f2.elim
  · have e : i = ds.length := by omega
    subst e
    rw [List.drop_length] at f'
    exact .inl ⟨(y1 _ H' (s'.trans r'.fr)).1 (List.getElem?_eq_none (Nat.le_refl _)) rfl, f' σ' H' F' r' (aH.refl F')⟩
def Ce (t : cO) (b : bN) : Nat → bN
  | 0, _ => .stuck
  | n + 1, env => dm (t env) fun c e1 => if c = true then (match b e1 with
      | .nx e2 => Ce t b n e2
      | .ct e2 => Ce t b n e2
      | .bk e2 => .nx e2
      | .rt o d e2 => .rt o d e2
      | .stuck => .stuck) else .nx e1
end
end Ev
namespace L2
open PySem PySem.Spec PyProof.Rows
def Its (z : Str) : It := ⟨fun i _ => i < z.cps.size, fun i H x H' => H' = H ∧ ∃ c, z.cps[i]? = some c ∧ x = .str ⟨#[c]⟩, fun i _ => z.cps.size ≤ i⟩
theorem Oe {P : Program} {w : World} {K : PySem.W.Frag} {tg : Expr} (it : Addr) (z : Str) (t : Tok) : Turn P w K tg (Its z) [it] it (fun i h => h.IsStrIter it "str_ascii_iterator" z t i ∧ i ≤ z.cps.size) where
  mem := by simp
  obj := fun i h st b hb => by
    have e : b = it := by simpa using hb
    subst e
    obtain ⟨⟨o, ho, hc, hd⟩, _⟩ := st
    exact ⟨o, ho, fun v z => by rw [hd] at z; cases z⟩
  keep := fun i h h' st k => let ⟨⟨o, ho, r⟩, l⟩ := st; ⟨⟨o, k it (by simp) o ho, r⟩, l⟩
  item := by
    intro X hP hw hK hc i pins s σ H E I hf st hg
    subst hP hw hK
    obtain ⟨f0, f1, f2, f3, f4, f5⟩ := hf it (by simp)
    have hg' : i < z.cps.size := hg
    refine wpAny_pyNext_ascii_item st.1 (c := z.cps[i]) (by simp [hg']) fun h' hit' hs' => ?_
    have I1 : Inv X pins σ H { s with heap := h', toks := s.toks + 1 } := I.turned (fun b o hb e => hs'.extBut b o hb e) f0 f1 f3 f4 f5
    obtain ⟨o, ho, hcl, hda⟩ := hit'
    refine ⟨_, rfl, Bu (s := { s with heap := h', toks := s.toks + 1 }) (n := "str_ascii_iterator") ho hcl hda (by decide) ⟨.str ⟨#[z.cps[i]]⟩, H, I1, ⟨_, rfl⟩, ⟨rfl, _, by simp [hg'], rfl⟩, ⟨⟨o, ho, hcl, hda⟩, hg'⟩, fun b hb => (hf b hb).1⟩⟩
  done := by
    intro X hP hw hK hc i pins s σ H E I hf st hg
    subst hP hw hK
    obtain ⟨f0, f1, f2, f3, f4, f5⟩ := hf it (by simp)
    have hg' : z.cps.size ≤ i := hg
    exact wpAny_pyNext_ascii_end (I.ok.hd hc) st.1 (by simp; omega) fun h' eb => ⟨rfl, I.turned (t' := s.toks) (fun b o hb e => eb b o hb e) f0 f1 f3 f4 f5⟩
  self := fun _ _ _ _ _ st h => wpAny_pyIter_striter_ascii st.1 h
theorem Od {P : Program} {w : World} {K : PySem.W.Frag} {tg : Expr} (it : Addr) (z : Str) (t : Tok) : Turn P w K tg (Its z) [it] it (fun i h => h.IsStrIter it "str_iterator" z t i ∧ i ≤ z.cps.size) where
  mem := by simp
  obj := fun i h st b hb => by
    have e : b = it := by simpa using hb
    subst e
    obtain ⟨⟨o, ho, hc, hd⟩, _⟩ := st
    exact ⟨o, ho, fun v z => by rw [hd] at z; cases z⟩
  keep := fun i h h' st k => let ⟨⟨o, ho, r⟩, l⟩ := st; ⟨⟨o, k it (by simp) o ho, r⟩, l⟩
  item := by
    intro X hP hw hK hc i pins s σ H E I hf st hg
    subst hP hw hK
    obtain ⟨f0, f1, f2, f3, f4, f5⟩ := hf it (by simp)
    have hg' : i < z.cps.size := hg
    refine wpAny_pyNext_wide_item st.1 (c := z.cps[i]) (by simp [hg']) fun h' hit' hs' => ?_
    have I1 : Inv X pins σ H { s with heap := h', toks := s.toks + 1 } := I.turned (fun b o hb e => hs'.extBut b o hb e) f0 f1 f3 f4 f5
    obtain ⟨o, ho, hcl, hda⟩ := hit'
    refine ⟨_, rfl, Bu (s := { s with heap := h', toks := s.toks + 1 }) (n := "str_iterator") ho hcl hda (by decide) ⟨.str ⟨#[z.cps[i]]⟩, H, I1, ⟨_, rfl⟩, ⟨rfl, _, by simp [hg'], rfl⟩, ⟨⟨o, ho, hcl, hda⟩, hg'⟩, fun b hb => (hf b hb).1⟩⟩
  done := by
    intro X hP hw hK hc i pins s σ H E I hf st hg
    subst hP hw hK
    obtain ⟨f0, f1, f2, f3, f4, f5⟩ := hf it (by simp)
    have hg' : z.cps.size ≤ i := hg
    exact wpAny_pyNext_wide_end (I.ok.hd hc) st.1 (by simp; omega) fun h' eb => ⟨rfl, I.turned (t' := s.toks) (fun b o hb e => eb b o hb e) f0 f1 f3 f4 f5⟩
  self := fun _ _ _ _ _ st h => wpAny_pyIter_striter_wide st.1 h
section
variable {X : Cx} {tg : Expr}
def ahi (K : PySem.W.Frag) (tl : TE) : TI := fun σ H R => tl σ H fun x H1 => (∃ a, x = .ref a ∧ (∃ xs, lN K H1 a xs) ∧ R (Itl K a) H1) ∨ (∃ a, x = .ref a ∧ (∃ xs, nO K H1 a xs) ∧ R (Itt K a) H1) ∨ ∃ z, x = .str z ∧ R (Its z) H1
theorem aaJ {l : Expr} {tl : TE} (hl : PE X l tl) : PI X tg l (ahi X.K tl) := by
  intro pins s σ H R I h
  refine il (hl pins s σ H _ I h) fun v s1 ⟨x, H1, I1, r1, q1⟩ => ?_
  have own : ∀ b ∈ [s1.heap.objs.size], zT X pins H1 b := fun b hb => by
    have e : b = s1.heap.objs.size := by simpa using hb
    subst e
    exact I1.ac3 (Nat.le_refl _) (I1.hok.fresh (Nat.le_refl _))
  rcases q1 with ⟨a, e, ⟨xs, hq⟩, q⟩ | ⟨a, e, ⟨xs, hq⟩, q⟩ | ⟨z, e, q⟩
  · subst e
    cases r1
    obtain ⟨its, rv, p, hz⟩ := I1.list hq
    refine wpAny_pyIter_list p.isList ?_
    exact ⟨s1.heap.objs.size, [s1.heap.objs.size], _, _, H1, rfl, I1.kept (t' := s1.toks) fun b o e => Heap.get?_push_of_some _ e, Og a _, ⟨_, Heap.get?_push_size _ rfl, rfl, rfl⟩, own, q⟩
  · subst e
    cases r1
    obtain ⟨its, rv, p, hz⟩ := I1.tuple hq
    refine wpAny_pyIter_tuple (show s1.heap.IsTuple a its.toArray from p) ?_
    exact ⟨s1.heap.objs.size, [s1.heap.objs.size], _, _, H1, rfl, I1.kept (t' := s1.toks) fun b o e => Heap.get?_push_of_some _ e, JN a _, ⟨_, Heap.get?_push_size _ rfl, rfl, rfl⟩, own, q⟩
  · subst e
    obtain ⟨t, rfl⟩ := r1
    cases ha : z.cps.all (· < 128)
    · exact wpAny_pyIter_wide ha ⟨s1.heap.objs.size, [s1.heap.objs.size], _, _, H1, rfl, I1.kept (t' := s1.toks) fun b o e => Heap.get?_push_of_some _ e, Od _ z t, ⟨⟨_, Heap.get?_push_size _ rfl, rfl, rfl⟩, Nat.zero_le _⟩, own, q⟩
    · exact wpAny_pyIter_ascii ha ⟨s1.heap.objs.size, [s1.heap.objs.size], _, _, H1, rfl, I1.kept (t' := s1.toks) fun b o e => Heap.get?_push_of_some _ e, Oe _ z t, ⟨⟨_, Heap.get?_push_size _ rfl, rfl, rfl⟩, Nat.zero_le _⟩, own, q⟩
def adE (lo c : Int) (n : Nat) : It := ⟨fun i _ => i < n, fun i H x H' => H' = H ∧ x = .int (lo + i * c), fun i _ => n ≤ i⟩
theorem Gk {P : Program} {w : World} {K : PySem.W.Frag} {tg : Expr} (it : Addr) (lo c : Int) (n : Nat) : Turn P w K tg (adE lo c n) [it] it (fun i h => IsRangeIter h it (lo + (i : Nat) * c) ((n : Int) - (i : Nat)) c) where
  mem := by simp
  obj := fun i h st b hb => by
    have e : b = it := by simpa using hb
    subst e
    exact ⟨_, st, fun v z => by
      have z' : Data.fields _ = Data.cell v := z
      cases z'⟩
  keep := fun i h h' st k => k it (by simp) _ st
  item := by
    intro X hP hw hK hc i pins s σ H E I hf st hg
    subst hP hw hK
    obtain ⟨f0, f1, f2, f3, f4, f5⟩ := hf it (by simp)
    have W := Walks.range (prog := X.prog) (w := X.w) (I.ok.hd hc) it lo c n
    refine W.item i s _ _ hg st fun v h' tk hv st' kk => ?_
    obtain ⟨t, rfl⟩ := hv
    have I1 : Inv X pins σ H { s with heap := h', toks := tk } := I.turned (fun b o hb e => kk b o (by simpa using hb) e) f0 f1 f3 f4 f5
    exact ⟨_, rfl, Bu (s := { s with heap := h', toks := tk }) (n := "range_iterator") st' rfl rfl (by decide) ⟨.int (lo + i * c), H, I1, ⟨t, rfl⟩, ⟨rfl, rfl⟩, st', fun b hb => (hf b hb).1⟩⟩
  done := by
    intro X hP hw hK hc i pins s σ H E I hf st hg
    subst hP hw hK
    obtain ⟨f0, f1, f2, f3, f4, f5⟩ := hf it (by simp)
    exact wpAny_pyNext_range_end (I.ok.hd hc) st (by have : n ≤ i := hg; omega) fun h' eb => ⟨rfl, I.turned (t' := s.toks) (fun b o hb e => eb b o hb e) f0 f1 f3 f4 f5⟩
  self := fun _ _ _ _ _ st h => wpAny_pyIter_rangeiter st h
def afA (ta : TA) : TI := fun σ H R => ta σ H fun vs H1 => ∃ i j c : Int, vs = [.int i, .int j, .int c] ∧ c ≠ 0 ∧ c.natAbs < 1073741824 ∧ Builtin.Range.small i j c = true ∧ R (adE i c (Builtin.Range.rangeSize i j c).toNat) H1
theorem O8 {a b c : Expr} {ta : TA} {p pos : Pos} (hg : Gl X "range") (hm : X.mg "range" = none) (ha : PA X [a, b, c] ta) (hs : starEach [a, b, c] X.env = [(false, eval a X.env), (false, eval b X.env), (false, eval c X.env)] := by rfl) (hs2 : starEach [b, c] X.env = [(false, eval b X.env), (false, eval c X.env)] := by rfl) :
    PI X tg (.Call (.Name "range" p) [a, b, c] [] pos) (afA ta) := by
  intro pins s σ H R I h
  refine Call_ (yI I hg hm boot_range (PyProof.Rows.callWith_type1 (il (ha pos pins s σ H _ I h) fun us s1 ⟨vs, H1, I1, r1, q1⟩ => ?_) (by rw [hs, hs2]) (by rw [hs2]; rfl)))
  obtain ⟨i, j, c, e, hc, hcs, hsm, q⟩ := q1
  subst e
  cases r1 with
  | cons r rr =>
    cases rr with
    | cons r' rr =>
      cases rr with
      | cons r'' rr =>
        cases rr
        obtain ⟨t, rfl⟩ := r
        obtain ⟨t', rfl⟩ := r'
        obtain ⟨t'', rfl⟩ := r''
        refine call_range_3 hc ?_ (.inl (PyProof.noPylong_small hcs))
        refine wpAny_pyIter_range (IsRange.new ..) hsm ?_
        generalize ho : ({ cls := .type "range", data := .fields #[.int i t, .int j t', .int c t''] } : Obj) = o
        have I2 : Inv X pins σ H1 { s1 with heap := s1.heap.push o, toks := s1.toks } := I1.kept fun b o e => Heap.get?_push_of_some _ e
        refine ⟨(s1.heap.push o).objs.size, [(s1.heap.push o).objs.size], _, _, H1, rfl, I2.kept (t' := s1.toks) fun b o e => Heap.get?_push_of_some _ e, Gk _ i c (Builtin.Range.rangeSize i j c).toNat, ?_, fun b hb => ?_, q⟩
        · have e1 : i + ((0 : Nat) : Int) * c = i := by simp
          have e2 : (((Builtin.Range.rangeSize i j c).toNat : Nat) : Int) - ((0 : Nat) : Int) = Builtin.Range.rangeSize i j c := by have := PyProof.Rows.rangeSize_toNat i j c; omega
          show IsRangeIter _ _ (i + ((0 : Nat) : Int) * c) (((Builtin.Range.rangeSize i j c).toNat : Int) - ((0 : Nat) : Int)) c
          rw [e1, e2]
          exact Heap.get?_push_size _ rfl
        · have e : b = (s1.heap.push o).objs.size := by simpa using hb
          subst e
          exact I2.ac3 (Nat.le_refl _) (I2.hok.fresh (Nat.le_refl _))
end
end L2
namespace Ev
open PySem PySem.Spec PyProof.Rows L2
section
variable {X : Cx} {C : Cfg} {pos : Pos} {tg : Expr}
def j5 (x : List Nat) : List D := x.map fun c => .str [c]
theorem JH {F : Hp} {a : Addr} {vs : List V} {ds : List D} (h : nO C.K F a vs) (p : aW C.K F ds vs) : oX C.K F ds (Itt C.K a) := fun i H s => by
  refine ⟨fun _ e => ⟨vs, aH.tupK s h, by rw [p.length, e]; exact Nat.le_refl _⟩, fun d hd => ?_⟩
  obtain ⟨v, h1, h2⟩ := p.get hd
  refine ⟨⟨vs, v, aH.tupK s h, h1⟩, fun x H' hy => .inl ⟨hy.1, ?_⟩⟩
  have := hy.2 vs (aH.tupK s h)
  rw [h1] at this; cases this
  exact h2
theorem JK {F : Hp} {x : List Nat} : oX C.K F (j5 x) (Its (strOf x)) := fun i H s => by
  refine ⟨fun _ e => ?_, fun d hd => ?_⟩
  · show x.toArray.size ≤ i
    rw [e]; simp [j5]
  · unfold j5 at hd
    rw [List.getElem?_map] at hd
    obtain ⟨c, hc, rfl⟩ := Option.map_eq_some_iff.mp hd
    refine ⟨?_, fun v H' hy => .inl ⟨hy.1, ?_⟩⟩
    · show i < x.toArray.size
      have := (List.getElem?_eq_some_iff.mp hc).1
      simpa using this
    · obtain ⟨c', h1, rfl⟩ := hy.2
      have h2 : x[i]? = some c' := by simpa [strOf] using h1
      rw [hc] at h2; cases h2
      exact ⟨rfl, by show 1 ≤ sizeLine; decide⟩
def itD : D → Option (List D)
  | .lst xs => some xs
  | .arr xs => some xs
  | .tup xs => some xs
  | .str x => some (j5 x)
  | _ => none
def ig (a : Ev) : cz := fun env => bindR (a env) fun d aB => cY (itD d) aB
theorem Wv {l : Expr} {a : Ev} (hK : X.K = C.K) (h : PX X C l a) : QB X C tg l (ig a) := (aaJ h).imp fun σ H R hq => by
  obtain ⟨Pr, F, env, env', ds, r, e, q⟩ := hq
  obtain ⟨d, aB, e1, e2⟩ := aO e
  obtain ⟨e3, rfl⟩ := d8 e2
  refine ⟨Pr, F, env, env', d, r, e1, fun v H1 F1 r1 s1 p1 => ?_⟩
  rw [hK]
  cases d with
  | lst xs =>
    cases e3
    obtain ⟨z, a, vs, rfl, g1, g2⟩ := p1
    refine .inl ⟨a, rfl, ⟨vs, lN.of (r1.fr _ _ g1)⟩, q _ H1 F1 r1 s1 fun i H s => ?_⟩
    refine ⟨fun _ e => ⟨vs, lN.of (s _ _ g1), by rw [g2.length, e]; exact Nat.le_refl _⟩, fun d hd => ?_⟩
    obtain ⟨v, h1, h2⟩ := g2.get hd
    refine ⟨⟨vs, v, lN.of (s _ _ g1), h1⟩, fun x H' hy => .inl ⟨hy.1, ?_⟩⟩
    have := hy.2 vs (lN.of (s _ _ g1))
    rw [h1] at this; cases this
    exact h2
  | arr xs =>
    cases e3
    obtain ⟨z, a, vs, rfl, g1, g2⟩ := p1
    refine .inl ⟨a, rfl, ⟨vs, r1.fr.seq g1⟩, q _ H1 F1 r1 s1 fun i H s => ?_⟩
    refine ⟨fun _ e => ⟨vs, s.seq g1, by rw [g2.length, e]; exact Nat.le_refl _⟩, fun d hd => ?_⟩
    obtain ⟨v, h1, h2⟩ := g2.get hd
    refine ⟨⟨vs, v, s.seq g1, h1⟩, fun x H' hy => .inl ⟨hy.1, ?_⟩⟩
    have := hy.2 vs (s.seq g1)
    rw [h1] at this; cases this
    exact h2
  | tup xs =>
    cases e3
    obtain ⟨z, a, vs, rfl, g1, g2⟩ := p1
    exact .inr (.inl ⟨a, rfl, ⟨vs, aH.tupK r1.fr g1⟩, q _ H1 F1 r1 s1 (JH g1 g2)⟩)
  | str x =>
    cases e3
    obtain ⟨rfl, z⟩ := p1
    exact .inr (.inr ⟨_, rfl, q _ H1 F1 r1 s1 JK⟩)
  | _ => cases e3
def iV (lo c : Int) (n : Nat) : List D := (List.range n).map fun (i : Nat) => .int (lo + i * c)
theorem sr (lo c : Int) (n : Nat) : (iV lo c n).length = n := by simp [iV]
theorem xR {lo c : Int} {n i : Nat} {d : D} (h : (iV lo c n)[i]? = some d) : i < n ∧ d = .int (lo + i * c) := by
  have hi : i < n := by
    have := (List.getElem?_eq_some_iff.mp h).1
    rwa [sr] at this
  refine ⟨hi, ?_⟩
  unfold iV at h
  rw [List.getElem?_map, List.getElem?_range hi] at h
  cases h; rfl
theorem JL {F : Hp} {lo : Int} {n : Nat} : oX C.K F (iV lo 1 n) (Itr lo n) := fun i H s => by
  refine ⟨fun _ e => by show n ≤ i; rw [e, sr]; exact Nat.le_refl _, fun d hd => ?_⟩
  obtain ⟨hi, rfl⟩ := xR hd
  refine ⟨hi, fun x H' hy => .inl ⟨hy.1, ?_⟩⟩
  show x = .int _
  rw [Int.mul_one]; exact hy.2
theorem Gf {F : Hp} {lo c : Int} {n : Nat} : oX C.K F (iV lo c n) (adE lo c n) := fun i H s => by
  refine ⟨fun _ e => by show n ≤ i; rw [e, sr]; exact Nat.le_refl _, fun d hd => ?_⟩
  obtain ⟨hi, rfl⟩ := xR hd
  exact ⟨hi, fun x H' hy => .inl ⟨hy.1, hy.2⟩⟩
def lX (j : Int) : Bool := decide (-(2 ^ 62) ≤ j) && decide (j < 2 ^ 62)
theorem J6 {j : Int} (h : lX j = true) : -(2 ^ 62) ≤ j ∧ j < 2 ^ 62 := by
  unfold lX at h
  rw [Bool.and_eq_true] at h
  exact ⟨of_decide_eq_true h.1, of_decide_eq_true h.2⟩
def yj : List D → Option (List D)
  | [.int j] => if lX j = true then some (iV 0 1 j.toNat) else none
  | [.int i, .int j] => if lX i = true ∧ lX j = true then some (iV i 1 (j - i).toNat) else none
  | [.int i, .int j, .int c] => if c ≠ 0 ∧ c.natAbs < 1073741824 ∧ Builtin.Range.small i j c = true then some (iV i c (Builtin.Range.rangeSize i j c).toNat) else none
  | _ => none
def eN (a : cz) : cz := fun env => bindR (a env) fun ds aB => cY (yj ds) aB
theorem aW.ahh {F : Hp} {i : Int} {vs : List V} (h : aW C.K F [.int i] vs) : vs = [.int i] := by
  obtain ⟨v, r, rfl, h1, h2⟩ := h
  cases h1; cases h2; rfl
theorem aW.ahg {F : Hp} {i j k : Int} {vs : List V} (h : aW C.K F [.int i, .int j, .int k] vs) : vs = [.int i, .int j, .int k] := by
  obtain ⟨v, r, rfl, h1, v', r', rfl, h2, v'', r'', rfl, h3, h4⟩ := h
  cases h1; cases h2; cases h3; cases h4; rfl
theorem Kc {a : Expr} {ea : cz} {p pos : Pos} (hg : Gl X "range") (hm : X.mg "range" = none) (ha : Jz X C [a] ea) (hl : ∀ env ds env', ea env = .ok ds env' → ds.length = 1) (hs : starEach [a] X.env = [(false, eval a X.env)] := by rfl) : QB X C tg (.Call (.Name "range" p) [a] [] pos) (eN ea) :=
  (O9 hg hm ha hs).imp fun σ H R hq => by
    obtain ⟨Pr, F, env, env', ds, r, e, q⟩ := hq
    obtain ⟨as, aB, e1, e2⟩ := aO e
    obtain ⟨e3, rfl⟩ := d8 e2
    refine ⟨Pr, F, env, env', as, r, e1, fun vs H1 F1 r1 s1 p1 => ?_⟩
    have := hl _ _ _ e1
    unfold yj at e3
    split at e3
    · split at e3
      · rename_i hf
        cases e3
        have hb := J6 hf
        exact ⟨_, p1.ahh, hb.1, hb.2, q _ H1 F1 r1 s1 JL⟩
      · cases e3
    · simp at this
    · simp at this
    · cases e3
theorem Ka {a b c : Expr} {ea : cz} {p pos : Pos} (hg : Gl X "range") (hm : X.mg "range" = none) (ha : Jz X C [a, b, c] ea) (hl : ∀ env ds env', ea env = .ok ds env' → ds.length = 3) (hs : starEach [a, b, c] X.env = [(false, eval a X.env), (false, eval b X.env), (false, eval c X.env)] := by rfl) (hs2 : starEach [b, c] X.env = [(false, eval b X.env), (false, eval c X.env)] := by rfl) : QB X C tg (.Call (.Name "range" p) [a, b, c] [] pos) (eN ea) :=
  (O8 hg hm ha hs hs2).imp fun σ H R hq => by
    obtain ⟨Pr, F, env, env', ds, r, e, q⟩ := hq
    obtain ⟨as, aB, e1, e2⟩ := aO e
    obtain ⟨e3, rfl⟩ := d8 e2
    refine ⟨Pr, F, env, env', as, r, e1, fun vs H1 F1 r1 s1 p1 => ?_⟩
    have := hl _ _ _ e1
    unfold yj at e3
    split at e3
    · simp at this
    · simp at this
    · split at e3
      · rename_i hf
        cases e3
        exact ⟨_, _, _, p1.ahg, hf.1, hf.2.1, hf.2.2, q _ H1 F1 r1 s1 Gf⟩
      · cases e3
    · cases e3
theorem Qi (env : Env) (ds : List D) (env' : Env) (h : ak env = .ok ds env') : ds.length = 0 := by cases h; rfl
theorem Lg {a : Ev} {r : cz} {n : Nat} (hr : ∀ env ds env', r env = .ok ds env' → ds.length = n) (env : Env) (ds : List D) (env' : Env) (h : aa a r env = .ok ds env') : ds.length = n + 1 := by
  obtain ⟨d, aB, e1, e2⟩ := aO h
  obtain ⟨ds2, cN, e3, e4⟩ := aO e2
  cases e4
  rw [List.length_cons, hr _ _ _ e3]
end
end Ev
namespace Ev
open PySem PySem.Spec PyProof.Rows L2
section
variable {X : Cx} {C : Cfg} {pos : Pos}
theorem aW.pq {F : Hp} {K : Fg} {ds : List D} {vs : List V} {k : Int} {d : D} (h : aW K F ds vs) (e : L2.pq ds k = some d) : ∃ v, L2.pq vs k = some v ∧ Rep K F d v := by
  unfold L2.pq at e ⊢
  rw [h.length]
  obtain ⟨j, h1, h2⟩ := Option.bind_eq_some_iff.mp e
  obtain ⟨v, h3, h4⟩ := h.get h2
  exact ⟨v, by rw [h1]; exact h3, h4⟩
def jk : D → D → Option D
  | .lst xs, .int k => pq xs k
  | .arr xs, .int k => pq xs k
  | .tup xs, .int k => pq xs k
  | .str x, .int k => (pq x k).map fun c => .str [c]
  | _, _ => none
theorem Zj : nu C (rIx C.K) jk := by
  intro Pr F env σ H x y d vx vy Q r px py e q
  unfold jk at e
  split at e
  · obtain ⟨z, a, vs, rfl, h1, h2⟩ := px.lst r.fr
    cases py.int
    obtain ⟨v, e1, p1⟩ := h2.pq e
    exact .inl ⟨a, vs, _, v, rfl, rfl, lN.of h1, e1, q _ _ F r (aH.refl F) p1⟩
  · obtain ⟨z, a, vs, rfl, h1, h2⟩ := px.arr r.fr
    cases py.int
    obtain ⟨v, e1, p1⟩ := h2.pq e
    exact .inl ⟨a, vs, _, v, rfl, rfl, h1, e1, q _ _ F r (aH.refl F) p1⟩
  · obtain ⟨z, a, vs, rfl, h1, _, h2⟩ := px.tup r.fr
    cases py.int
    obtain ⟨v, e1, p1⟩ := h2.pq e
    exact .inr (.inl ⟨a, vs, _, v, rfl, rfl, h1, e1, q _ _ F r (aH.refl F) p1⟩)
  · obtain ⟨rfl, z⟩ := px.str
    cases py.int
    obtain ⟨c, e1, rfl⟩ := Option.map_eq_some_iff.mp e
    exact .inr (.inr ⟨_, _, c, rfl, rfl, by simpa [strOf, Str.length] using z, by simpa [strOf] using e1, q _ _ F r (aH.refl F) ⟨rfl, by show 1 ≤ sizeLine; decide⟩⟩)
  · cases e
theorem aew {x y : Expr} {a b : Ev} (hK : X.K = C.K) (ha : PX X C x a) (hb : zQ X C y b) (hs : o5 y := by intro _ _; rfl) : PX X C (.Subscript x y pos) (aF jk a b) := by
  have h := (Zg (pos := pos) T5 ha hb hs)
  rw [hK] at h
  exact h.imp (Fx Zj)
theorem aaB {y : Expr} {b : Ev} {px : Pos} (i : Nat) {x : Str} (hK : X.K = C.K) (hN : X.N[i]? = some x) (hv : rO X.env.scope x) (hb : zQ X C y b) (hs : o5 y := by intro _ _; rfl)
    (hd : (x == ("__debug__" : Str)) = false := by decide) (hcd : (x == ("__classdict__" : Str)) = false := by decide) : PX X C (.Subscript (.Name x px) y pos) (aA jk i b) := by
  have h := (Zg (pos := pos) T5 (lu (pos := px) hN hv hd hcd) hb hs)
  rw [hK] at h
  exact h.imp (uN Zj)
def cutD {α : Type} (xs : List α) (lo hi : Option Int) : List α := (xs.drop (HT.dJ xs.length 0 lo)).take (HT.dJ xs.length xs.length hi - HT.dJ xs.length 0 lo)
theorem qw {α : Type} (xs : List α) (lo hi : Option Int) : (cutD xs lo hi).length ≤ xs.length := by
  unfold cutD
  rw [List.length_take, List.length_drop]
  omega
theorem aW.cut {F : Hp} {K : Fg} {ds : List D} {vs : List V} (h : aW K F ds vs) (lo hi : Option Int) : aW K F (cutD ds lo hi) (xr vs lo hi) := by
  unfold cutD xr
  rw [h.length]
  exact aW.take _ (aW.drop _ h)
abbrev xK := Env → R (Option Int)
def tP (C : Cfg) (ev : xK) : TO := fun σ H Q => ∃ (Pr F : Hp) (env env' : Env) (o : Option Int), Rel C Pr F env σ H ∧ ev env = .ok o env' ∧ ∀ H' F', Rel C Pr F' env' σ H' → aH F F' → Q o H'
def Vu (X : Cx) (C : Cfg) (e : Option Expr) (ev : xK) : Prop := PO X e (tP C ev)
theorem _root_.L2.PO.imp {X : Cx} {e : Option Expr} {t t' : TO} (h : PO X e t) (i : ∀ σ H Q, t' σ H Q → t σ H Q) : PO X e t' := fun pins s σ H Q I q => h pins s σ H Q I (i σ H Q q)
def qu : xK := fun env => .ok none env
def za (a : Ev) : xK := fun env => bindR (a env) fun d aB => match d with
  | .int i => .ok (some i) aB
  | _ => .stuck
theorem jK : Vu X C none qu := WN.imp fun σ H Q h => by
  obtain ⟨Pr, F, env, env', d, r, e, q⟩ := h
  cases e
  exact q H F r (aH.refl F)
theorem gW {e : Expr} {a : Ev} (h : PX X C e a) : Vu X C (some e) (za a) := (WM h).imp fun σ H Q hq => by
  obtain ⟨Pr, F, env, env', o, r, e, q⟩ := hq
  obtain ⟨d, aB, e1, e2⟩ := aO e
  refine ⟨Pr, F, env, aB, d, r, e1, fun v H1 F1 r1 s1 p1 => ?_⟩
  cases d with
  | int i => cases e2; exact ⟨i, p1, q H1 F1 r1 s1⟩
  | _ => cases e2
def gSl : D → Option Int → Option Int → Option D
  | .lst xs, lo, hi => some (.lst (cutD xs lo hi))
  | .arr xs, lo, hi => some (.lst (cutD xs lo hi))
  | .tup xs, lo, hi => if HT.dJ xs.length 0 lo = 0 ∧ HT.dJ xs.length xs.length hi = xs.length then none else some (.tup (cutD xs lo hi))
  | _, _, _ => none
def vU (a : Ev) (lo hi : xK) : Ev := fun env => bindR (a env) fun d aB => bindR (lo aB) fun l cN => bindR (hi cN) fun u Ah => cY (gSl d l u) Ah
theorem Rf {Pr F : Hp} {env : Env} {σ : L2.St} {H : Hp} {x d : D} {v : V} {lo hi : Option Int} {Q : VK} (r : Rel C Pr F env σ H) (p : gJ C.K F H x v) (e : gSl x lo hi = some d) (q : ∀ v H' F', Rel C Pr F' env σ H' → aH F F' → Rep C.K F' d v → Q v H') :
    aed C.K v lo hi H Q ∨ aav C.K v lo hi H Q := by
  unfold gSl at e
  split at e
  · cases e
    obtain ⟨z, a, vs, rfl, h1, h2⟩ := p.lst r.fr
    refine .inl ⟨a, vs, rfl, lN.of h1, fun b hb => ?_⟩
    obtain ⟨r2, s2⟩ := r.new (o := .lst (xr vs lo hi)) hb
    exact q _ _ _ r2 s2 ⟨Nat.le_trans (qw _ _ _) z, b, _, rfl, aQ, aW.mono s2 _ _ (h2.cut lo hi)⟩
  · cases e
    obtain ⟨z, a, vs, rfl, h1, h2⟩ := p.arr r.fr
    refine .inl ⟨a, vs, rfl, h1, fun b hb => ?_⟩
    obtain ⟨r2, s2⟩ := r.new (o := .lst (xr vs lo hi)) hb
    exact q _ _ _ r2 s2 ⟨Nat.le_trans (qw _ _ _) z, b, _, rfl, aQ, aW.mono s2 _ _ (h2.cut lo hi)⟩
  · obtain ⟨z, a, vs, rfl, h1, _, h2⟩ := p.tup r.fr
    split at e
    · cases e
    · rename_i hn
      cases e
      refine .inr ⟨a, vs, rfl, h1, by rw [h2.length]; exact hn, fun b hb => ?_⟩
      obtain ⟨r2, s2⟩ := r.new (o := .tup (xr vs lo hi)) hb
      exact q _ _ _ r2 s2 ⟨Nat.le_trans (qw _ _ _) z, b, _, rfl, nO.of aQ, aW.mono s2 _ _ (h2.cut lo hi)⟩
  · cases e
theorem aeu {x : Expr} {lo hi : Option Expr} {a : Ev} {el eh : xK} {p2 : Pos} (hK : X.K = C.K) (ha : PX X C x a) (hl : Vu X C lo el) (hh : Vu X C hi eh) : PX X C (.Subscript x (.Slice lo hi none p2) pos) (vU a el eh) := by
  have h := yt (pos := pos) (p2 := p2) (Mh.or Mw Cr) ha hl hh
  rw [hK] at h
  refine h.imp fun σ H Q hq => ?_
  obtain ⟨Pr, F, env, env', d, r, e, q⟩ := hq
  obtain ⟨x, aB, e1, e2⟩ := aO e
  obtain ⟨l, cN, e3, e4⟩ := aO e2
  obtain ⟨u, Ah, e5, e6⟩ := aO e4
  obtain ⟨e7, rfl⟩ := d8 e6
  refine ⟨Pr, F, env, aB, x, r, e1, fun v H1 F1 r1 s1 p1 => ⟨Pr, F1, aB, cN, l, r1, e3, fun H2 F2 r2 s2 => ⟨Pr, F2, cN, env', u, r2, e5, fun H3 F3 r3 s3 => ?_⟩⟩⟩
  exact Rf r3 (.inl (Rep.mono (s2.trans s3) _ _ p1)) e7 fun v H' F' r' s' p' => q v H' F' r' (((s1.trans s2).trans s3).trans s') p'
def uW (kvs : List (D × D)) (q : Key) : Option D := match kvs with
  | [] => none
  | (k, d) :: r => if vH k = some q then some d else uW r q
def xm (kvs : List (D × D)) (q : Key) (d : D) : List (D × D) := match kvs with
  | [] => []
  | (k, e) :: r => (if vH k = some q then (k, d) else (k, e)) :: xm r q d
def putD (kvs : List (D × D)) (k : D) (q : Key) (d : D) : List (D × D) := if (uW kvs q).isSome then xm kvs q d else kvs ++ [(k, d)]
theorem cI.length {K : Fg} {F : Hp} : ∀ {ds : List (D × D)} {vs : List (Key × V)}, cI K F ds vs → vs.length = ds.length
  | [], _, h => by cases h; rfl
  | (k, d) :: ds, vs, h => by
    obtain ⟨q, v, r, rfl, _, _, h2⟩ := h
    rw [List.length_cons, List.length_cons, h2.length]
theorem cI.val {K : Fg} {F : Hp} (q : Key) : ∀ {ds : List (D × D)} {vs : List (Key × V)}, cI K F ds vs → (uW ds q = none ∧ xf vs q = none) ∨ ∃ d v, uW ds q = some d ∧ xf vs q = some v ∧ Rep K F d v
  | [], _, h => by cases h; exact .inl ⟨rfl, rfl⟩
  | (k, d) :: ds, vs, h => by
    obtain ⟨q', v, r, rfl, hk, h1, h2⟩ := h
    unfold uW
    by_cases e : q' = q
    · subst e
      rw [if_pos hk]
      exact .inr ⟨d, v, rfl, uf rfl, h1⟩
    · rw [if_neg (fun z => e (Option.some.inj (hk.symm.trans z))), ug (p := (q', v)) e]
      exact cI.val q h2
theorem cI.set {K : Fg} {F : Hp} (q : Key) {d : D} {v : V} (hd : Rep K F d v) : ∀ {ds : List (D × D)} {vs : List (Key × V)}, cI K F ds vs → cI K F (xm ds q d) (vs.map fun kv => if kv.1 = q then (kv.1, v) else kv)
  | [], _, h => by cases h; exact rfl
  | (k, e) :: ds, vs, h => by
    obtain ⟨q', u, r, rfl, hk, h1, h2⟩ := h
    unfold xm
    by_cases e' : q' = q
    · subst e'
      rw [if_pos hk]
      refine ⟨q', v, _, ?_, hk, hd, cI.set q' hd h2⟩
      rw [List.map_cons, if_pos rfl]
    · rw [if_neg (fun z => e' (Option.some.inj (hk.symm.trans z)))]
      refine ⟨q', u, _, ?_, hk, h1, cI.set q hd h2⟩
      rw [List.map_cons, if_neg e']
theorem cI.append {K : Fg} {F : Hp} : ∀ {ds es : List (D × D)} {vs ws : List (Key × V)}, cI K F ds vs → cI K F es ws → cI K F (ds ++ es) (vs ++ ws)
  | [], es, vs, ws, h, g => by cases h; exact g
  | (k, d) :: ds, es, vs, ws, h, g => by
    obtain ⟨q, v, r, rfl, h0, h1, h2⟩ := h
    exact ⟨q, v, r ++ ws, rfl, h0, h1, cI.append h2 g⟩
theorem GR (q : Key) (d : D) : ∀ kvs : List (D × D), (xm kvs q d).length = kvs.length
  | [] => rfl
  | (k, e) :: r => by unfold xm; rw [List.length_cons, List.length_cons, GR q d r]
theorem RG (kvs : List (D × D)) (k : D) (q : Key) (d : D) : (putD kvs k q d).length ≤ kvs.length + 1 := by
  unfold putD
  split
  · rw [GR]; omega
  · rw [List.length_append]; exact Nat.le_refl _
theorem cI.put {K : Fg} {F : Hp} {ds : List (D × D)} {vs : List (Key × V)} {k : D} {q : Key} {d : D} {v : V} (h : cI K F ds vs) (hk : vH k = some q) (hd : Rep K F d v) : cI K F (putD ds k q d) (putK vs q v) := by
  unfold putD putK
  rw [xP]
  rcases h.val q with ⟨e1, e2⟩ | ⟨d', v', e1, e2, _⟩
  · rw [e1, e2]
    exact h.append ⟨q, v, [], rfl, hk, hd, rfl⟩
  · rw [e1, e2]
    exact cI.set q hd h
theorem abI {K : Fg} {F : Hp} {k : D} {q : Key} {v : V} (h : vH k = some q) (p : Rep K F k v) : v = kV q := by
  cases k with
  | int i => cases h; exact p
  | str x => cases h; exact p.1
  | _ => cases h
theorem abJ {K : Fg} {F H : Hp} {k : D} {q : Key} {v : V} (h : vH k = some q) (p : gJ K F H k v) : v = kV q := by
  cases k with
  | int i => cases h; exact p.int
  | str x => cases h; exact p.str.1
  | _ => cases h
theorem gJ.dct {K : Fg} {F H : Hp} {kvs : List (D × D)} {v : V} (s : aH F H) (h : gJ K F H (.dct kvs) v) : kvs.length ≤ sizeLine ∧ ∃ a ks, v = .ref a ∧ Rd H a (.dK ks) ∧ cI K F kvs ks := by
  rcases h with ⟨z, a, vs, rfl, h1, h2⟩ | ⟨a, rfl, z, vs, h1, h2⟩
  · exact ⟨z, a, vs, rfl, aH.rd s h1, h2⟩
  · exact ⟨z, a, vs, rfl, .inl h1, h2⟩
def Zc : R2 := fun x y H Q => ∃ a v, x = .ref a ∧ Y0 H a y (some v) ∧ Q v H
def rT : D → D → Option D
  | .dct kvs, k => (vH k).bind fun q => uW kvs q
  | _, _ => none
theorem Xd : nu C Zc rT := by
  intro Pr F env σ H x y d vx vy Q r px py e q
  unfold rT at e
  split at e
  · obtain ⟨z, a, ks, rfl, h1, h2⟩ := px.dct r.fr
    obtain ⟨k, hk, hv⟩ := Option.bind_eq_some_iff.mp e
    cases abJ hk py
    rcases h2.val k with ⟨e1, _⟩ | ⟨d', v', e1, e2, p2⟩
    · rw [e1] at hv; cases hv
    · rw [e1] at hv; cases hv
      exact ⟨a, v', rfl, .inl ⟨ks, k, h1, rfl, e2.symm⟩, q _ _ F r (aH.refl F) p2⟩
  · cases e
theorem RB {y : Expr} {b : Ev} {px : Pos} (i : Nat) {x : Str} (hu : X.A.units + 1 < cLine) (hN : X.N[i]? = some x) (hv : rO X.env.scope x) (hb : zQ X C y b) (hs : Vv y := by intro _ _; rfl)
    (hd : (x == ("__debug__" : Str)) = false := by decide) (hcd : (x == ("__classdict__" : Str)) = false := by decide) : PX X C (.Subscript (.Name x px) y pos) (aA rT i b) := by
  have h : PE X (.Subscript (.Name x px) y pos) (tOp Zc _ _) := WY (pos := pos) hu (lu (pos := px) hN hv hd hcd) hb hs
  exact h.imp (uN Xd)
def oM : Ev := fun env => .ok (.dct []) env
theorem lg : N5 X C (.Dict [] [] pos) oM := R3.imp fun σ H Q hq => by
  obtain ⟨Pr, F, env, env', d, r, e, q⟩ := hq
  cases e
  exact fun p hp => q _ _ F (r.fresh hp) (aH.refl F) (Vw.of r hp ⟨Nat.zero_le _, [], aQ, rfl⟩)
def su (i : Nat) (k a : Ev) : bN := fun env => dm (a env) fun d aB => match aB[i]? with
  | some (some (_, _)) => dm (k aB) fun kd cN => (match cN[i]?, vH kd with
    | some (some (true, .dct kvs)), some q => if kvs.length < sizeLine then .nx (cN.set i (some (true, .dct (putD kvs kd q d)))) else .stuck
    | _, _ => .stuck)
  | _ => .stuck
theorem Ry {i : Nat} {x : Str} {k e : Expr} {ek a : Ev} {px pos' : Pos} (hu : X.A.units + 1 < cLine) (hN : X.N[i]? = some x) (hv : rO X.env.scope x) (hk : PX X C k ek) (he : PX X C e a)
    (hs : swapsWith e (some (.Subscript (.Name x px) k pos')) pos.line X.env = pure false := by rfl)
    (hd : (x == ("__debug__" : Str)) = false := by decide) (hcd : (x == ("__classdict__" : Str)) = false := by decide) : Gb X C (.Assign [.Subscript (.Name x px) k pos'] e pos) (su i ek a) :=
  (WL hu (lu hN hv hd hcd) hk he hs).imp fun D σ H h => by
    obtain ⟨Pr, F, env, r, f⟩ := h
    obtain ⟨d, aB, e1, f1⟩ := eO f
    refine ⟨Pr, F, env, aB, d, r, e1, fun v H1 F1 r1 s1 p1 => ?_⟩
    split at f1
    · rename_i o0 d0 h0
      obtain ⟨v0, hv0, _⟩ := r1.rd h0
      obtain ⟨kd, cN, e2, f2⟩ := eO f1
      refine ⟨v0, hv0, Pr, F1, aB, cN, kd, r1, e2, fun vk H2 F2 r2 s2 p2 => ?_⟩
      split at f2
      · rename_i kvs q h2 hq
        split at f2
        · rename_i hz
          obtain ⟨b, g1, ⟨z, ks, g2, g3⟩, g4, g5⟩ := r2.own i _ h2
          rw [hv0] at g1; cases g1
          have hz' : ks.length < sizeLine := by rw [g3.length]; exact hz
          cases abI hq p2
          refine ⟨b, _, rfl, Vy.k g2 hz', ?_⟩
          refine f2 σ _ F2 (r2.write h2 hv0 ⟨Nat.le_trans (RG _ _ _ _) hz, _, aQ, g3.put hq (Rep.mono s2 _ _ p1)⟩) (s1.trans s2)
        · exact f2.elim
      · exact f2.elim
    · exact f1.elim
def PQ (x : List Nat) : List (List Nat) → List (List Nat)
  | [] => [x]
  | y :: r => if y < x then y :: PQ x r else x :: y :: r
def cB : List (List Nat) → List (List Nat)
  | [] => []
  | x :: r => PQ x (cB r)
theorem vN (x : List Nat) : ∀ l, (PQ x l).Perm (x :: l)
  | [] => .refl _
  | y :: r => by
    unfold PQ
    split
    · exact ((vN x r).cons y).trans (.swap x y r)
    · exact .refl _
theorem fc : ∀ l, (cB l).Perm l
  | [] => .refl _
  | x :: r => (vN x (cB r)).trans ((fc r).cons x)
theorem wN (x : List Nat) : ∀ l, l.Pairwise (fun a b => a ≤ b) → (PQ x l).Pairwise (fun a b => a ≤ b)
  | [], _ => List.pairwise_singleton _ _
  | y :: r, h => by
    unfold PQ
    have h1 := List.pairwise_cons.mp h
    split
    · rename_i hyx
      refine List.pairwise_cons.mpr ⟨fun z hz => ?_, wN x r h1.2⟩
      rcases List.mem_cons.mp ((vN x r).mem_iff.mp hz) with rfl | hz
      · exact List.le_of_lt hyx
      · exact h1.1 z hz
    · rename_i hyx
      have hxy : x ≤ y := List.not_lt.mp hyx
      refine List.pairwise_cons.mpr ⟨fun z hz => ?_, h⟩
      rcases List.mem_cons.mp hz with rfl | hz
      · exact hxy
      · exact List.le_trans hxy (h1.1 z hz)
theorem nR : ∀ l, (cB l).Pairwise (fun a b => a ≤ b)
  | [] => .nil
  | x :: r => wN x _ (nR r)
theorem Bg : ∀ (p : Str) (l : List Str), risingS p l = true → (p :: l).Pairwise (fun a b => a.cps.toList ≤ b.cps.toList)
  | p, [], _ => List.pairwise_singleton _ _
  | p, x :: r, h => by
    have h' : (!Spec.ltCps x.cps.toList p.cps.toList && risingS x r) = true := h
    rw [Bool.and_eq_true, PyProof.Rows.ltCps_eq] at h'
    have hxp : ¬ x.cps.toList < p.cps.toList := by
      have := h'.1
      simpa using this
    have ih := Bg x r h'.2
    refine List.pairwise_cons.mpr ⟨fun z hz => ?_, ih⟩
    have hpx : p.cps.toList ≤ x.cps.toList := List.not_lt.mp hxp
    rcases List.mem_cons.mp hz with rfl | hz
    · exact hpx
    · exact List.le_trans hpx ((List.pairwise_cons.mp ih).1 z hz)
theorem Ot : ∀ (l : List Str), sortedS l = true → l.Pairwise (fun a b => a.cps.toList ≤ b.cps.toList)
  | [], _ => .nil
  | x :: r, h => Bg x r h
theorem Oq (s : Str) : strOf s.cps.toList = s := by
  obtain ⟨c⟩ := s
  simp [strOf]
theorem Ck {xs : List (List Nat)} {ss ss' : List Str} (e : ss = xs.map strOf) (hp : ss'.Perm ss) (hs : sortedS ss' = true) : ss' = (cB xs).map strOf := by
  subst e
  have h1 : (ss'.map fun s => s.cps.toList).Perm xs := by
    have := hp.map (fun s : Str => s.cps.toList)
    rw [List.map_map] at this
    have e2 : xs.map ((fun s : Str => s.cps.toList) ∘ strOf) = xs := by
      rw [List.map_congr_left (g := id) (fun x _ => by simp [strOf])]; simp
    rwa [e2] at this
  have h2 : (ss'.map fun s => s.cps.toList) = cB xs := by
    refine List.Perm.eq_of_pairwise (le := fun a b => a ≤ b) (fun a b _ _ => List.le_antisymm) ?_ (nR xs) (h1.trans (fc xs).symm)
    exact List.pairwise_map.mpr (Ot ss' hs)
  rw [← h2, List.map_map]
  have e3 : ∀ l : List Str, l.map (strOf ∘ fun s => s.cps.toList) = l := fun l => by
    induction l with
    | nil => rfl
    | cons a r ih => rw [List.map_cons, ih]; show strOf a.cps.toList :: r = a :: r; rw [Oq]
  exact (e3 ss').symm
theorem ue : ∀ {us : List Value} {ss : List Str}, StrsAre us ss → Vals (ss.map V.str) us
  | _, _, .nil => .nil
  | _, _, .cons y t h => .cons ⟨t, rfl⟩ (ue h)
theorem uv {K : Fg} {F : Hp} : ∀ (xs : List (List Nat)), (∀ x ∈ xs, x.length ≤ sizeLine) → aW K F (xs.map D.str) (xs.map fun z => V.str (strOf z))
  | [], _ => rfl
  | x :: xs, h => ⟨_, _, rfl, ⟨rfl, h x (List.mem_cons_self ..)⟩, uv xs fun y hy => h y (List.mem_cons_of_mem _ hy)⟩
def Dc (K : Fg) : List V → Hp → VK → Prop := fun xs H Q => ∃ p zs, xs = [.ref p] ∧ (lN K H p (zs.map fun z => V.str (strOf z)) ∨ ∃ ks, Rd H p (.dK ks) ∧ ks.map (·.1) = zs.map fun z => Sum.inr (strOf z)) ∧ zs.length < 64 ∧ ∀ l, H l = none → Q (.ref l) (upd H l (.lst ((cB zs).map fun z => V.str (strOf z))))
theorem xY {pins : List (Addr × Obj)} {s : Shared} {σ : L2.St} {H : Hp} {Q : VK} {zs : List (List Nat)} {out : Array Value} {ss' : List Str} {a : Addr} {e : Nat} {h' : Heap} {tk : Nat} (I : Inv X pins σ H s) (hz : zs.length < 64) (q : ∀ l, H l = none → Q (.ref l) (upd H l (.lst ((cB zs).map fun z => V.str (strOf z)))))
    (a1 : StrsAre out.toList ss') (a2 : ss'.Perm (zs.map strOf)) (a3 : sortedS ss' = true) (hk : ∀ b o, s.heap.get? b = some o → h'.get? b = some o) (ha : s.heap.objs.size ≤ a) (ho : h'.get? a = some (seqObj "list" out e)) : EP X pins σ Q (.ref a) { s with heap := h', toks := tk } := by
  have e1 := Ck rfl a2 a3
  subst e1
  have rv := ue a1
  rw [List.map_map] at rv
  have hl : ((cB zs).map fun z => V.str (strOf z)).length ≤ sizeLine := by
    rw [List.length_map, (fc zs).length_eq]
    exact Nat.le_trans (Nat.le_of_lt hz) (by decide)
  exact ⟨.ref a, _, I.laid (t' := tk) hk ha (show f9 X.prog X.w _ h' a (.lst ((cB zs).map fun z => V.str (strOf z))) from ⟨hl, out.toList, e, rv, by simpa [seqObj] using ho⟩), rfl, q a (I.hok.fresh ha)⟩
theorem Jq (hc : X.calm = true) : gM X (.builtin "sorted") (Dc X.K) := by
  intro pins s σ H xs us Q I r h
  obtain ⟨p, zs, rfl, hq, hz, q⟩ := h
  obtain ⟨u, rfl, rx⟩ := vals1 r
  cases rx
  rcases hq with hq | ⟨ks, hq, hks⟩
  · obtain ⟨its, r', pl, hzz⟩ := I.list hq
    have hS : StrsAre its (zs.map strOf) := qQ r'
    refine sorted_strs pl.isList hS (by rw [← r'.length, List.length_map]; exact hz) fun out ss' a1 a2 a3 => ?_
    obtain ⟨e, he⟩ := sortedAll_at s.heap its out
    exact xY (tk := s.toks) I hz q a1 a2 a3 (fun b o e => sortedAll_old e) (Nat.le_succ _) he
  · obtain ⟨hz2, hsys, vs, rkv, hD⟩ := NB I.hok hq
    obtain ⟨ep, hat⟩ := hD.dictAt
    have hlen : vs.length = zs.length := by
      have e1 := rkv.length
      have e2 := congrArg List.length hks
      rw [List.length_map, List.length_map] at e2
      omega
    refine Calls.call_function_entry kind_sorted plain_sorted entry_sorted (args_sorted1 _) ?_
    unfold Builtin.«sorted»
    refine wpAny_bind (m := checkCount "sorted" 1 1 _) (wpAny_pure ?_)
    refine wpAny_bind (PySem.W.kdu_collect (A := X.A.in1) (PySem.W.kdl_dict (knd := fY X.prog X.w) (kvs := vs) (ep := ep) hsys) (I.ok.hd hc) hat (by rw [hlen]; exact Nat.le_trans (Nat.le_of_lt hz) (by decide)) fun h' tk acc hk hacc => ?_)
    have hl : acc.toList.length = vs.length := by rw [Array.length_toList]; exact hacc.1
    have hS : StrsAre acc.toList (zs.map strOf) := by
      have keys : ∀ j : Nat, j < vs.length → ∃ v t, acc.toList[j]? = some v ∧ v = Value.str (strOf (zs.getD j [])) t := fun j hj => by
        have hja : j < acc.size := by rw [hacc.1]; exact hj
        have e1 : acc[j]? = some acc[j] := by simp [hja]
        obtain ⟨k, x, hx, hkx⟩ := hacc.2 j _ e1
        have e2 : (vs.map (·.1))[j]? = some k := by rw [List.getElem?_map, hx]; rfl
        rw [← rkv.keys, hks, List.getElem?_map] at e2
        obtain ⟨z, hzj, rfl⟩ := Option.map_eq_some_iff.mp e2
        rcases cQ (k := Sum.inr (strOf z)) (v := acc[j]) hkx with ⟨i, t, z1, _⟩ | ⟨y, t, z1, z2⟩
        · cases z1
        · cases z1
          exact ⟨_, t, by rw [Array.getElem?_toList]; exact e1, by rw [z2, List.getD_eq_getElem?_getD, hzj]; rfl⟩
      have build : ∀ (us : List Value) (ys : List (List Nat)), us.length = ys.length → (∀ j : Nat, j < us.length → ∃ v t, us[j]? = some v ∧ v = Value.str (strOf (ys.getD j [])) t) → StrsAre us (ys.map strOf) := fun us => by
        induction us with
        | nil => intro ys hl _; cases ys with
          | nil => exact .nil
          | cons _ _ => cases hl
        | cons u us ih => intro ys hl hk; cases ys with
          | nil => cases hl
          | cons y ys =>
            obtain ⟨v, t, e1, e2⟩ := hk 0 (Nat.succ_pos _)
            cases e1
            rw [e2]
            exact .cons _ t (ih ys (by simpa using hl) fun j hj => by
              obtain ⟨v, t, e1, e2⟩ := hk (j + 1) (by simpa using hj)
              exact ⟨v, t, by simpa using e1, by simpa using e2⟩)
      exact build _ _ (by rw [hl, hlen]) fun j hj => keys j (by rw [← hl]; exact hj)
    refine wpAny_bind (wpAny_newList ?_ (by rw [hl, hlen]; exact Nat.le_trans (Nat.le_of_lt hz) (by decide)))
    have hoL : (h'.push (seqObj "list" acc.toList.toArray 0)).get? h'.objs.size = some (seqObj "list" acc.toList.toArray 0) := Heap.get?_push_size _ rfl
    show wpAny _ _ _ _ _ { s with heap := h'.push (seqObj "list" acc.toList.toArray 0), toks := tk }
    refine wpAny_bind (wpAny_holding (wpAny_call_entry slot_list_sort ⟨_, hoL, rfl⟩ entry_list_sort (list_sort_treeK strKind_oneLt hoL hS.keysOf (fun v₁ v₂ rest e => keyKind_strs (by rw [← e]; exact hS)) (by rw [hl, hlen]; exact hz) fun st' b1 b2 => ⟨_, rfl, ?_⟩) (args_list_sort _)))
    obtain ⟨ss', a1, a2, a3⟩ := sorted_out_str hS b1 b2
    obtain ⟨e, he⟩ := sortedHeap_at (out := (arrOf st').map (·.2)) hoL
    refine wpAny_pure ⟨_, rfl, ?_⟩
    have I1 : L2.Inv X pins σ H { s with heap := h', toks := tk } := I.kept hk
    refine xY (s := { s with heap := h', toks := tk }) (tk := tk) I1 hz q a1 a2 a3 (fun b o e => ?_) (Nat.le_refl _) he
    have lt' := Heap.lt_size e
    rw [sortedHeap_old (Nat.ne_of_lt lt') (by rw [size_push']; exact Nat.lt_succ_of_lt lt')]
    exact Heap.get?_push_of_some _ e
def je : List D → Option D
  | [.lst ds] => (bZ ds).bind fun zs => if zs.length < 64 ∧ (∀ z ∈ zs, z.length ≤ sizeLine) then some (.lst ((cB zs).map .str)) else none
  | [.dct kvs] => (bZ (kvs.map (·.1))).bind fun zs => if zs.length < 64 ∧ (∀ z ∈ zs, z.length ≤ sizeLine) then some (.lst ((cB zs).map .str)) else none
  | _ => none
theorem cI.keys {K : Fg} {F : Hp} : ∀ {kvs : List (D × D)} {ks : List (Key × V)} {zs : List (List Nat)}, cI K F kvs ks → bZ (kvs.map (·.1)) = some zs → ks.map (·.1) = zs.map fun z => Sum.inr (strOf z)
  | [], ks, zs, h, e => by cases h; simp [bZ] at e; subst e; rfl
  | (k, d) :: kvs, ks, zs, h, e => by
    obtain ⟨q, v, r, rfl, h0, h1, h2⟩ := h
    cases k with
    | str x =>
      cases h0
      have e' : (bZ (kvs.map (·.1))).map (x :: ·) = some zs := by simpa [bZ] using e
      obtain ⟨Z7, e1, rfl⟩ := Option.map_eq_some_iff.mp e'
      rw [List.map_cons, List.map_cons, cI.keys h2 e1]
    | _ => simp [bZ] at e
theorem xX {Pr F : Hp} {env : Env} {σ : L2.St} {H : Hp} {l : Addr} {zs : List (List Nat)} (r : Rel C Pr F env σ H) (hl : H l = none) (hz : zs.length < 64 ∧ ∀ z ∈ zs, z.length ≤ sizeLine) :
    jl C.K F (upd H l (.lst ((cB zs).map fun z => V.str (strOf z)))) (.lst ((cB zs).map .str)) l := by
  refine ⟨by rw [List.length_map, (fc zs).length_eq]; exact Nat.le_trans (Nat.le_of_lt hz.1) (by decide), _, aQ, uv _ fun z h => hz.2 z ((fc zs).mem_iff.mp h)⟩
theorem Qp : CallD C (Dc C.K) je := by
  intro Pr F env σ H ds d vs Q r p e q
  have fin : ∀ (zs : List (List Nat)) (l : Addr), (zs.length < 64 ∧ ∀ z ∈ zs, z.length ≤ sizeLine) → d = .lst ((cB zs).map .str) → H l = none → Q (.ref l) (upd H l (.lst ((cB zs).map fun z => V.str (strOf z)))) := fun zs l hz hd hl => by
    subst hd
    obtain ⟨F2, r2, s2, p2⟩ := (r.fresh (o := .lst ((cB zs).map fun z => V.str (strOf z))) hl).keep (Vw.of r hl (xX r hl hz))
    exact q _ _ F2 r2 s2 p2
  unfold je at e
  split at e
  · obtain ⟨v, w, rfl, p1, p2⟩ := p
    cases p2
    obtain ⟨zs, e1, e2⟩ := Option.bind_eq_some_iff.mp e
    split at e2
    · rename_i hz
      cases e2
      obtain ⟨z, a, ws, rfl, h1, h2⟩ := p1.lst r.fr
      have e6 := qY e1 h2
      subst e6
      exact ⟨a, zs, rfl, .inl (lN.of h1), hz.1, fun l hl => fin zs l hz rfl hl⟩
    · cases e2
  · obtain ⟨v, w, rfl, p1, p2⟩ := p
    cases p2
    obtain ⟨zs, e1, e2⟩ := Option.bind_eq_some_iff.mp e
    split at e2
    · rename_i hz
      cases e2
      obtain ⟨z, a, ks, rfl, h1, h2⟩ := p1.dct r.fr
      exact ⟨a, zs, rfl, .inr ⟨ks, h1, h2.keys e1⟩, hz.1, fun l hl => fin zs l hz rfl hl⟩
    · cases e2
  · cases e
theorem O3 {p : Pos} {e : Expr} {a : cz} (hK : X.K = C.K) (hc : X.calm = true) (hg : Gl X "sorted") (hm : X.mg "sorted" = none) (ha : rQ X C [e] a) (he : starEach [e] X.env = (false, eval e X.env) :: starEach [] X.env := by rfl) (hpl : (backTo pos (starEach [] X.env)).any (·.1) = false := by rfl) :
    PX X C (.Call (.Name "sorted" p) [e] [] pos) (aq je a) :=
  lr (X := X) (r := Dc C.K) (by rw [← hK]; exact Jq hc) Qp hg hm PyProof.Rows.boot_sorted ha (by decide) (by decide) he hpl
end
end Ev
namespace Ev
open PySem PySem.Spec PyProof.Rows L2
theorem Rel.pad {C : Cfg} {Pr F : Hp} {env : Env} {σ : L2.St} {H : Hp} (m : Nat) (r : Rel C Pr F env σ H) : Rel C Pr F (env ++ List.replicate m none) (ux m σ) H := by
  have un : ∀ (j : Nat) (x : Bool × D), (env ++ List.replicate m none)[j]? = some (some x) → env[j]? = some (some x) := fun j x he => by
    by_cases hj : j < env.length
    · rwa [List.getElem?_append_left hj] at he
    · rw [List.getElem?_append_right (by omega), List.getElem?_replicate] at he
      split at he <;> cases he
  have up : ∀ (j : Nat) (v : V), σ[j]? = some (some v) → (ux m σ)[j]? = some (some v) := fun j v h => by
    unfold ux
    rw [List.getElem?_append_left (List.getElem?_eq_some_iff.mp h).1]; exact h
  have dn : ∀ (j : Nat) (v : V), (ux m σ)[j]? = some (some v) → σ[j]? = some (some v) := fun j v he => by
    unfold ux at he
    by_cases hj : j < σ.length
    · rwa [List.getElem?_append_left hj] at he
    · rw [List.getElem?_append_right (by omega), List.getElem?_replicate] at he
      split at he <;> cases he
  refine ⟨r.pr, r.fr, by unfold ux; rw [List.length_append, List.length_append, List.length_replicate, List.length_replicate, r.len], fun j e he => ?_, fun j e he => ?_, fun j k e f b hj hk g1 g2 => r.apart j k e f b (un _ _ hj) (un _ _ hk) (dn _ _ g1) (dn _ _ g2), r.dj, fun j a h => up _ _ (r.fix j a h)⟩
  · obtain ⟨v, h1, h2⟩ := r.val j e (un _ _ he)
    exact ⟨v, up _ _ h1, h2⟩
  · obtain ⟨a, h1, h2⟩ := r.own j e (un _ _ he)
    exact ⟨a, up _ _ h1, h2⟩
theorem Rel.cut {C : Cfg} {Pr F : Hp} {env : Env} {σ σ0 : L2.St} {H : Hp} (r : Rel C Pr F env σ H) (h : σ.take σ0.length = σ0) (fix : ∀ i a, C.fx i = some a → σ0[i]? = some (some (V.ref a))) : Rel C Pr F (env.take σ0.length) σ0 H := by
  have hl : σ0.length ≤ σ.length := by
    have := congrArg List.length h
    rw [List.length_take] at this
    omega
  have un : ∀ (j : Nat) (x : Bool × D), (env.take σ0.length)[j]? = some (some x) → env[j]? = some (some x) ∧ j < σ0.length := fun j x he => by
    have hj : j < σ0.length := by
      have := (List.getElem?_eq_some_iff.mp he).1
      rw [List.length_take] at this
      omega
    rw [List.getElem?_take_of_lt hj] at he
    exact ⟨he, hj⟩
  have dn : ∀ (j : Nat), j < σ0.length → σ[j]? = σ0[j]? := fun j hj => by
    have := List.getElem?_take_of_lt (l := σ) hj
    rw [h] at this
    exact this.symm
  refine ⟨r.pr, r.fr, by rw [List.length_take, r.len]; omega, fun j e he => ?_, fun j e he => ?_, fun j k e f b hj hk g1 g2 => r.apart j k e f b (un _ _ hj).1 (un _ _ hk).1 (by rw [dn _ (un _ _ hj).2]; exact g1) (by rw [dn _ (un _ _ hk).2]; exact g2), r.dj, fix⟩
  · obtain ⟨e1, e2⟩ := un _ _ he
    rw [← dn j e2]
    exact r.val j e e1
  · obtain ⟨e1, e2⟩ := un _ _ he
    rw [← dn j e2]
    exact r.own j e e1
def zV (g : GV) (c : cO) (e : Ev) : List D → Env → R (List D)
  | [], env => .ok [] env
  | d :: ds, env => (match g d env with
    | none => .stuck
    | some e1 => bindR (c e1) fun b e2 => if b = true then bindR (e e2) fun y e3 => bindR (zV g c e ds e3) fun ys e4 => .ok (y :: ys) e4 else zV g c e ds e2)
def dW (lo n : Nat) (it : cz) (g : GV) (c : cO) (e : Ev) : Ev := fun env => bindR (it env) fun ds aB => if aB.length = lo then bindR (zV g c e ds (aB ++ List.replicate (n - lo) none)) fun ys cN => (if ys.length ≤ sizeLine then .ok (.lst ys) (cN.take lo) else .stuck) else .stuck
def Mi (X : Cx) (C : Cfg) (ifs : List Expr) (ev : cO) : Prop := PIf X ifs (tT C ev)
def bW : cO := fun env => .ok true env
theorem dD {X : Cx} {C : Cfg} : Mi X C [] bW := fun pins s σ H Q I h => by
  obtain ⟨Pr, F, env, env', b, r, e, q⟩ := h
  cases e
  exact WR pins s σ H Q I (q H F r (aH.refl F))
theorem nG {X : Cx} {C : Cfg} {c : Expr} {t : cO} (h : NZ X C c t) : Mi X C [c] t := WQ h
theorem Zq {C : Cfg} {lo n : Nat} {it : cz} {g : GV} {c : cO} {e : Ev} {σ : L2.St} {H : Hp} {Q : VK} (h : tN C (dW lo n it g c e) σ H Q) : tLC n (tI C it) (tG C lo g) (tT C c) (tE C e) σ H Q := by
  obtain ⟨Pr, F, env, env', d, r, ev, q⟩ := h
  obtain ⟨ds, aB, e1, e2⟩ := aO ev
  split at e2
  · rename_i hlo
    obtain ⟨ys, cN, e3, e4⟩ := aO e2
    split at e4
    · rename_i hz
      cases e4
      refine ⟨Pr, F, env, aB, ds, r, e1, fun J H1 F1 r1 s1 y1 a ha => ?_⟩
      have hσ : σ.length = lo := r1.len.symm.trans hlo
      have hPa : Pr a = none := r1.pr.free ha
      refine ⟨fun i m σ' H' => m = ds.length - i ∧ i ≤ ds.length ∧ ∃ F' IW acc ws rest, Rel C (upd Pr a (.lst ws)) F' IW σ' H' ∧ aH F1 F' ∧ aW C.K F' acc ws ∧ σ'.take lo = σ ∧ zV g c e (ds.drop i) IW = .ok rest cN ∧ acc ++ rest = ys,
        ⟨ds.length, rfl, Nat.zero_le _, F1, aB ++ List.replicate (n - lo) none, [], [], ys, ?_, aH.refl _, rfl, ?_, e3, rfl⟩, ?_⟩
      · rw [hσ]; exact (r1.aside (o := .lst []) ha).pad _
      · unfold ux
        rw [← hσ, List.take_left]
      rintro i m σ' H' ⟨rfl, hi, F', IW, acc, ws, rest, r', s', p', t', l', hacc⟩
      have hFa : F' a = none := by
        cases ez : F' a with
        | none => rfl
        | some w => have := r'.dj a w ez; rw [aQ] at this; cases this
      by_cases hl : i < ds.length
      · have hd : ds[i]? = some ds[i] := List.getElem?_eq_getElem hl
        have hdr : ds.drop i = ds[i] :: ds.drop (i + 1) := List.drop_eq_getElem_cons hl
        have yy := y1 i H' (s'.trans r'.fr)
        refine .inr ⟨(yy.2 _ hd).1, fun σ2 H2 => ∃ F' IW acc ws rest, Rel C (upd Pr a (.lst ws)) F' IW σ2 H2 ∧ aH F1 F' ∧ aW C.K F' acc ws ∧ σ2.take lo = σ ∧ zV g c e (ds.drop (i + 1)) IW = .ok rest cN ∧ acc ++ rest = ys,
          fun σ2 H2 h2 => ⟨ds.length - (i + 1), by omega, rfl, hl, h2⟩, fun x H2 hy => ?_⟩
        obtain ⟨F2, r2, s2, p2⟩ := oX.item r' s' y1 hd hy
        rw [hdr] at l'
        unfold zV at l'
        cases eg : g ds[i] IW with
        | none => rw [eg] at l'; cases l'
        | some e5 =>
          rw [eg] at l'
          obtain ⟨b, e6, c1, l2⟩ := aO l'
          refine ⟨_, F2, IW, e5, ds[i], r2, p2, eg, fun σ3 H3 F3 r3 s3 t3 => ⟨_, F3, e5, e6, b, r3, c1, fun H4 F4 r4 s4 => ?_⟩⟩
          have t3' : σ3.take lo = σ := t3.trans t'
          have s24 : aH F' F4 := (s2.trans s3).trans s4
          cases b with
          | false =>
            show if false = true then _ else _
            rw [if_neg Bool.false_ne_true]
            rw [if_neg Bool.false_ne_true] at l2
            exact ⟨F4, e6, acc, ws, rest, r4, s'.trans s24, aW.mono s24 _ _ p', t3', l2, hacc⟩
          | true =>
            show if true = true then _ else _
            rw [if_pos rfl]
            rw [if_pos rfl] at l2
            obtain ⟨y, e7, c2, l3⟩ := aO l2
            obtain ⟨ys2, e8, c3, l4⟩ := aO l3
            cases l4
            refine ⟨_, F4, e6, e7, y, r4, c2, fun v H5 F5 r5 s5 p5 => ?_⟩
            have hlen : acc.length + (ys2.length + 1) = ys.length := by rw [← hacc, List.length_append, List.length_cons]
            refine ⟨ws, r5.pr _ _ aQ, by rw [p'.length]; omega, F5, e7, acc ++ [y], ws ++ [v], ys2, ?_, s'.trans (s24.trans s5), (aW.mono (s24.trans s5) _ _ p').append (aW.one p5), t3', c3, by rw [List.append_assoc]; exact hacc⟩
            have r6 := r5.turn (u := .lst (ws ++ [v])) aQ
            rwa [VV] at r6
      · have ei : i = ds.length := by omega
        subst ei
        rw [List.drop_length] at l'
        cases l'
        rw [List.append_nil] at hacc
        subst hacc
        refine .inl ⟨(y1 _ H' (s'.trans r'.fr)).1 (List.getElem?_eq_none (Nat.le_refl _)) rfl, ?_⟩
        have sP : aH Pr (upd Pr a (.lst ws)) := kZ hPa
        have r7 : Rel C Pr F' (cN.take lo) σ H' := by
          have := (r'.less sP).cut (σ0 := σ) (by rw [hσ]; exact t') r1.fix
          rwa [hσ] at this
        refine q a H' F' r7 (s1.trans s') ⟨⟨hz, ws, r'.pr _ _ aQ, p'⟩, hFa, hPa, fun j e he hs => ?_⟩
        have hj : j < σ.length := (List.getElem?_eq_some_iff.mp hs).1
        have he' : cN[j]? = some (some (true, e)) := by
          rw [List.getElem?_take_of_lt (by rw [← hσ]; exact hj)] at he
          exact he
        obtain ⟨b, g1, _, _, g4⟩ := r'.own j e he'
        have : σ'[j]? = some (some (V.ref a)) := by
          rw [← t', List.getElem?_take_of_lt (by rw [← hσ]; exact hj)] at hs
          exact hs
        rw [this] at g1; cases g1
        rw [aQ] at g4; cases g4
    · cases e4
  · cases e2
section
variable {X : Cx} {C : Cfg} {pos : Pos}
theorem aaw {elt tg iter : Expr} {ifs : List Expr} {scope : Scope} (N' : List Str) {it : cz} {g : GV} {c : cO} {e : Ev} (lo : Nat) (ok : lM X scope N') (hc : X.calm = true) (hi : QB X C tg iter it)
    (bg : ∀ X', jg X scope N' X' → Mj X' C lo tg g) (bc : ∀ X', jg X scope N' X' → Mi X' C ifs c) (be : ∀ X', jg X scope N' X' → PX X' C elt e)
    (hs : ∀ x, foldedSetIterable iter X.env x = pure x := by intro _; rfl) : N5 X C (.ListComp elt [⟨tg, iter, ifs, 0⟩] scope pos) (dW lo N'.length it g c e) :=
  (aeB ok hc hi bg bc be hs).imp fun σ H Q h => Zq h
theorem O2 {elt tg iter : Expr} {ifs : List Expr} {scope : Scope} (N' : List Str) {spos py : Pos} {it : cz} {g : GV} {c : cO} {e : Ev} (lo : Nat) {i : Nat} {y : Str} (ok : lM X scope N') (hc : X.calm = true) (hi : QB X C tg iter it)
    (bg : ∀ X', jg X scope N' X' → Mj X' C lo tg g) (bc : ∀ X', jg X scope N' X' → Mi X' C ifs c) (be : ∀ X', jg X scope N' X' → PX X' C elt e)
    (hN : X.N.Nodup) (hy : X.N[i]? = some y) (hx : Loc X.env.scope y) (hfx : C.fx i = none)
    (hsw : swapsWith (.ListComp elt [⟨tg, iter, ifs, 0⟩] scope pos) (some (.Name y py)) spos.line X.env = pure true)
    (hf : X.fn y = true ∨ X.env.scope.names.lookup y = some .local := by first | exact .inl rfl | exact .inr rfl | assumption)
    (hs : ∀ x, foldedSetIterable iter X.env x = pure x := by intro _; rfl) : Gb X C (.Assign [.Name y py] (.ListComp elt [⟨tg, iter, ifs, 0⟩] scope pos) spos) (kO i (dW lo N'.length it g c e)) :=
  (RK ok hc hi bg bc be hN hy hx hsw hf hs).imp fun D σ H h => by
    obtain ⟨Pr, F, env, r, f⟩ := h
    obtain ⟨d, aB, e1, f1⟩ := eO f
    have : tN C (dW lo N'.length it g c e) σ H fun v H1 => Ii i v σ H1 D.nx := ⟨Pr, F, env, aB, d, r, e1, fun v H1 F1 r1 s1 p1 => f1 _ H1 F1 (r1.RD hfx p1) s1⟩
    exact Zq this
end
def mK (K : Fg) (n : Nat) (f : List D → Option D) : Sp := fun vs H Q _ => ∃ (F : Hp) (ds : List D) (d : D), ds.length = n ∧ aH F H ∧ aW K F ds vs ∧ f ds = some d ∧
  ∀ v H' F', aH H H' → aH F' H' → aH F F' → (∀ b o, F' b = some o → F b = some o ∨ H b = none) → Rep K F' d v → Q v H'
def Wc (K : Fg) (n : Nat) (f : List D → Option D) : Sp := fun vs H Q _ => ∃ (F : Hp) (ds : List D) (d : D), ds.length = n ∧ aH F H ∧ aW K F ds vs ∧ f ds = some d ∧
  ∀ a H' F', aH H H' → aH F' H' → aH F F' → (∀ b o, F' b = some o → F b = some o ∨ H b = none) → jl K F' H' d a → F' a = none → H a = none → Q (.ref a) H'
def jJ (K : Fg) (n : Nat) (f : List D → Option (D × D)) : Sp := fun vs H Q _ => ∃ (F : Hp) (a : Addr) (r : List V) (x : D) (ds : List D) (d x' : D), vs = .ref a :: r ∧ ds.length + 1 = n ∧ aH F H ∧ F a = none ∧ jl K F H x a ∧ aW K F ds r ∧ f (x :: ds) = some (d, x') ∧
  ∀ v H' F', (∀ b o, b ≠ a → H b = some o → H' b = some o) → aH F' H' → aH F F' → (∀ b o, F' b = some o → F b = some o ∨ H b = none) → jl K F' H' x' a → Rep K F' d v → Q v H'
theorem Rel.after {C : Cfg} {Pr F F' : Hp} {env : Env} {σ : L2.St} {H H' : Hp} (r : Rel C Pr F env σ H) (s : aH H H') (sF : aH F' H') (sF' : aH F F') (nw : ∀ b o, F' b = some o → F b = some o ∨ H b = none) : Rel C Pr F' env σ H' := by
  refine ⟨r.pr.trans s, sF, r.len, fun j e he => ?_, fun j e he => ?_, r.apart, fun b o e => ?_, r.fix⟩
  · obtain ⟨v, h1, h2⟩ := r.val j e he
    exact ⟨v, h1, Rep.mono sF' _ _ h2⟩
  · obtain ⟨a, h1, h2, h3, h4⟩ := r.own j e he
    obtain ⟨o, ho⟩ := h2.some
    refine ⟨a, h1, h2.mono sF' (by rw [ho, s _ _ ho]), ?_, h4⟩
    cases e : F' a with
    | none => rfl
    | some u =>
      rcases nw a u e with z | z
      · rw [h3] at z; cases z
      · rw [ho] at z; cases z
  · rcases nw b o e with z | z
    · exact r.dj b o z
    · exact r.pr.free z
theorem Rel.YQ {C : Cfg} {Pr F F' : Hp} {env : Env} {σ : L2.St} {H H' : Hp} {i : Nat} {a : Addr} {d d' : D} (r : Rel C Pr F env σ H) (h : env[i]? = some (some (true, d))) (hs : σ[i]? = some (some (V.ref a))) (s : ∀ b o, b ≠ a → H b = some o → H' b = some o) (sF : aH F' H') (sF' : aH F F') (nw : ∀ b o, F' b = some o → F b = some o ∨ H b = none) (ho : jl C.K F' H' d' a) : Rel C Pr F' (env.set i (some (true, d'))) σ H' := by
  obtain ⟨a', h1, h2, h3, h4⟩ := r.own i d h
  rw [hs] at h1; cases h1
  have hi : i < env.length := (List.getElem?_eq_some_iff.mp h).1
  obtain ⟨oa, hoa⟩ := h2.some
  have ne : ∀ (j : Nat) (e : D) (b : Addr), j ≠ i → env[j]? = some (some (true, e)) → σ[j]? = some (some (V.ref b)) → b ≠ a := fun j e b hj he g z => hj (r.apart j i e d a he h (by rw [← z]; exact g) hs)
  have nF : ∀ b u, F b = none → H b = some u → F' b = none := fun b u e1 e2 => by
    cases e : F' b with
    | none => rfl
    | some w =>
      rcases nw b w e with z | z
      · rw [e1] at z; cases z
      · rw [e2] at z; cases z
  refine ⟨fun b w e => ?_, sF, by rw [List.length_set]; exact r.len, fun j e he => ?_, fun j e he => ?_, fun j k e f b hj hk g1 g2 => ?_, fun b o e => ?_, r.fix⟩
  · have hb : b ≠ a := fun z => by rw [z, h4] at e; cases e
    exact s b w hb (r.pr b w e)
  · by_cases hj : j = i
    · subst hj; rw [List.getElem?_set_self hi] at he; cases he
    · rw [List.getElem?_set_ne (Ne.symm hj)] at he
      obtain ⟨v, g1, g2⟩ := r.val j e he
      exact ⟨v, g1, Rep.mono sF' _ _ g2⟩
  · by_cases hj : j = i
    · subst hj; rw [List.getElem?_set_self hi] at he; cases he; exact ⟨a, hs, ho, nF a oa h3 hoa, h4⟩
    · rw [List.getElem?_set_ne (Ne.symm hj)] at he
      obtain ⟨b, g1, g2, g3, g4⟩ := r.own j e he
      obtain ⟨ob, hob⟩ := g2.some
      exact ⟨b, g1, g2.mono sF' (by rw [hob, s b ob (ne j e b hj he g1) hob]), nF b ob g3 hob, g4⟩
  · have un : ∀ (j : Nat) (e : D), (env.set i (some (true, d')))[j]? = some (some (true, e)) → ∃ e', env[j]? = some (some (true, e')) := fun j e he => by
      by_cases hj : j = i
      · subst hj; exact ⟨d, h⟩
      · rw [List.getElem?_set_ne (Ne.symm hj)] at he; exact ⟨e, he⟩
    obtain ⟨e', hj'⟩ := un j e hj
    obtain ⟨f', hk'⟩ := un k f hk
    exact r.apart j k e' f' b hj' hk' g1 g2
  · rcases nw b o e with z | z
    · exact r.dj b o z
    · exact r.pr.free z
section
variable {X : Cx} {C : Cfg} {pos p : Pos} {k n : Nat} {f : Addr} {fd : FuncData} {ps : List Str} {x : Str} {e : Expr} {es : List Expr}
theorem zf {g : List D → Option D} {a : cz} {env env' : Env} {d : D} (h : aq g a env = .ok d env') : ∃ ds, a env = .ok ds env' ∧ g ds = some d := by
  obtain ⟨ds, aB, e1, e2⟩ := aO h
  obtain ⟨e3, rfl⟩ := d8 e2
  exact ⟨ds, e1, e3⟩
theorem aaz {g : List D → Option D} {a : cz} (G : pA X.prog X.w X.K X.mg X.base JB k f fd ps (mK C.K n g)) (hr : gR k X.A) (hg : Gl X x) (hm : X.mg x = some (.ref f)) (hk : PySem.W.keepIn X.K (.ref f) = true) (hb : Binds X.K fd ps [])
    (ha : Jz X C (e :: es) a) (hn : ∀ env ds env', a env = .ok ds env' → ds.length = n) (hdb : (x == ("__debug__" : Str)) = false := by decide) (he : starEach (e :: es) X.env = (false, eval e X.env) :: starEach es X.env := by rfl) (hpl : (backTo pos (starEach es X.env)).any (·.1) = false := by rfl) :
    PX X C (.Call (.Name x p) (e :: es) [] pos) (aq g a) := (Dl G hr hg hm hk hb .nil R4 ha hdb he hpl).imp fun σ H Q hq => by
  obtain ⟨Pr, F, env, env', d, r, e, q⟩ := hq
  obtain ⟨ds, e1, e2⟩ := zf e
  refine ⟨Pr, F, env, env', ds, r, e1, fun vs H1 F1 r1 s1 p1 => ?_⟩
  show mK C.K n g (vs ++ []) H1 Q E0
  rw [List.append_nil]
  exact ⟨F1, ds, d, hn _ _ _ e1, r1.fr, p1, e2, fun v H2 F2 t1 t2 t3 t4 p2 => q v H2 F2 (r1.after t1 t2 t3 t4) (s1.trans t3) p2⟩
theorem Wu {g : List D → Option D} {a : cz} (G : pA X.prog X.w X.K X.mg X.base JB k f fd ps (Wc C.K n g)) (hr : gR k X.A) (hg : Gl X x) (hm : X.mg x = some (.ref f)) (hk : PySem.W.keepIn X.K (.ref f) = true) (hb : Binds X.K fd ps [])
    (ha : Jz X C (e :: es) a) (hn : ∀ env ds env', a env = .ok ds env' → ds.length = n) (hdb : (x == ("__debug__" : Str)) = false := by decide) (he : starEach (e :: es) X.env = (false, eval e X.env) :: starEach es X.env := by rfl) (hpl : (backTo pos (starEach es X.env)).any (·.1) = false := by rfl) :
    N5 X C (.Call (.Name x p) (e :: es) [] pos) (aq g a) := (Dl G hr hg hm hk hb .nil R4 ha hdb he hpl).imp fun σ H Q hq => by
  obtain ⟨Pr, F, env, env', d, r, e, q⟩ := hq
  obtain ⟨ds, e1, e2⟩ := zf e
  refine ⟨Pr, F, env, env', ds, r, e1, fun vs H1 F1 r1 s1 p1 => ?_⟩
  show Wc C.K n g (vs ++ []) H1 Q E0
  rw [List.append_nil]
  refine ⟨F1, ds, d, hn _ _ _ e1, r1.fr, p1, e2, fun b H2 F2 t1 t2 t3 t4 ho hF hH => q b H2 F2 (r1.after t1 t2 t3 t4) (s1.trans t3) ⟨ho, hF, r1.pr.free hH, fun j e he hs => ?_⟩⟩
  obtain ⟨c, h1, h2, _⟩ := r1.own j e he
  rw [hs] at h1; cases h1
  obtain ⟨u, hu⟩ := h2.some
  rw [hH] at hu; cases hu
def cP (f : List D → Option (D × D)) (i : Nat) (a : cz) : Ev := fun env => match env[i]? with
  | some (some (true, _)) => bindR (a env) fun ds aB => (match aB[i]? with
    | some (some (true, x)) => (match f (x :: ds) with
      | some (d, x') => .ok d (aB.set i (some (true, x')))
      | none => .stuck)
    | _ => .stuck)
  | _ => .stuck
theorem aex {g : List D → Option (D × D)} {a : cz} {i : Nat} {y : Str} {py : Pos} (hN : X.N[i]? = some y) (hv : rO X.env.scope y) (G : pA X.prog X.w X.K X.mg X.base JB k f fd ps (jJ C.K n g)) (hr : gR k X.A) (hg : Gl X x) (hm : X.mg x = some (.ref f)) (hk : PySem.W.keepIn X.K (.ref f) = true) (hb : Binds X.K fd ps [])
    (ha : Jz X C es a) (hn : ∀ env ds env', a env = .ok ds env' → ds.length + 1 = n) (hdb : (x == ("__debug__" : Str)) = false := by decide) (he : starEach (.Name y py :: es) X.env = (false, eval (.Name y py) X.env) :: starEach es X.env := by rfl) (hpl : (backTo pos (starEach es X.env)).any (·.1) = false := by rfl)
    (hd : (y == ("__debug__" : Str)) = false := by decide) (hcd : (y == ("__classdict__" : Str)) = false := by decide) :
    PX X C (.Call (.Name x p) (.Name y py :: es) [] pos) (cP g i a) := (Dl G hr hg hm hk hb .nil R4 (jB (lu hN hv hd hcd) ha he) hdb he hpl).imp fun σ H Q hq => by
  obtain ⟨Pr, F, env, env', d, r, e, q⟩ := hq
  unfold cP at e
  split at e
  · rename_i d0 h0
    obtain ⟨ds, aB, e1, e2⟩ := aO e
    split at e2
    · rename_i z hz
      split at e2
      · rename_i d1 z' hg
        cases e2
        obtain ⟨a0, hs0, _⟩ := r.own i _ h0
        refine ⟨_, hs0, Pr, F, env, aB, ds, r, e1, fun vs H1 F1 r1 s1 p1 => ?_⟩
        obtain ⟨a1, hs1, ho1, hF1, hP1⟩ := r1.own i _ hz
        rw [hs0] at hs1; cases hs1
        show jJ C.K n g (_ :: vs ++ []) H1 Q E0
        rw [List.append_nil]
        exact ⟨F1, a0, vs, z, ds, d, z', rfl, hn _ _ _ e1, r1.fr, hF1, ho1, p1, hg, fun v H2 F2 t1 t2 t3 t4 t5 p2 => q v H2 F2 (r1.YQ hz hs0 t1 t2 t3 t4 t5) (s1.trans t3) p2⟩
      · cases e2
    · cases e2
  · cases e
end
def envOf (n : Nat) (ds : List D) : Env := ds.map (fun d => some (false, d)) ++ List.replicate (n - ds.length) none
def uE (n : Nat) (x : D) (ds : List D) : Env := some (true, x) :: (ds.map (fun d => some (false, d)) ++ List.replicate (n - (ds.length + 1)) none)
def gb (n : Nat) (ev : bN) (ds : List D) : Option D := match ev (envOf n ds) with
  | .rt false d _ => some d
  | .nx _ => some .non
  | _ => none
def runN (n : Nat) (ev : bN) (ds : List D) : Option D := match ev (envOf n ds) with
  | .rt true d _ => some d
  | _ => none
def gf (n : Nat) (ev : bN) (ds : List D) : Option (D × D) := match ds with
  | [] => none
  | x :: r => (match ev (uE n x r) with
    | .rt false d env => (match env[0]? with
      | some (some (true, x')) => some (d, x')
      | _ => none)
    | .nx env => (match env[0]? with
      | some (some (true, x')) => some (.non, x')
      | _ => none)
    | _ => none)
def C0 (K : Fg) : Cfg := ⟨K, fun _ => none⟩
def C1 (K : Fg) (a : Addr) : Cfg := ⟨K, fun i => if i = 0 then some a else none⟩
def DQ (H F : Hp) : Hp := fun b => if (F b).isSome then none else H b
theorem Hw {H F : Hp} {b : Addr} {o : HO} (h : DQ H F b = some o) : H b = some o ∧ F b = none := by
  unfold DQ at h
  split at h
  · cases h
  · rename_i z
    exact ⟨h, by cases e : F b with | none => rfl | some w => rw [e] at z; exact absurd rfl z⟩
theorem yH {H F : Hp} {b : Addr} (h : DQ H F b = none) : H b = none ∨ ∃ o, F b = some o := by
  unfold DQ at h
  split at h
  · rename_i z
    exact .inr (Option.isSome_iff_exists.mp z)
  · exact .inl h
theorem Bj {K : Fg} {F H : Hp} {ds : List D} {vs : List V} {N : List Str} (s : aH F H) (p : aW K F ds vs) : Rel (C0 K) (DQ H F) F (envOf N.length ds) (start N vs) H := by
  have un : ∀ (j : Nat) (x : Bool × D), (envOf N.length ds)[j]? = some (some x) → ∃ d, x = (false, d) ∧ ds[j]? = some d := fun j x he => by
    unfold envOf at he
    by_cases hj : j < (ds.map fun d => some (false, d)).length
    · rw [List.getElem?_append_left hj, List.getElem?_map] at he
      obtain ⟨d, h1, h2⟩ := Option.map_eq_some_iff.mp he
      cases h2
      exact ⟨d, rfl, h1⟩
    · rw [List.getElem?_append_right (by omega), List.getElem?_replicate] at he
      split at he <;> cases he
  refine ⟨fun b o e => (Hw e).1, s, ?_, fun j d he => ?_, fun j d he => ?_, fun j k d e a hj hk => ?_, fun b o e => ?_, fun i a h => by cases h⟩
  · unfold envOf L2.start
    rw [List.length_append, List.length_append, List.length_map, List.length_map, List.length_replicate, List.length_replicate, p.length]
  · obtain ⟨d', z, hd⟩ := un j _ he
    cases z
    obtain ⟨v, h1, h2⟩ := p.get hd
    refine ⟨v, ?_, h2⟩
    unfold L2.start
    rw [List.getElem?_append_left (by rw [List.length_map]; exact (List.getElem?_eq_some_iff.mp h1).1), List.getElem?_map, h1]
    rfl
  · obtain ⟨d', z, _⟩ := un j _ he; cases z
  · obtain ⟨d', z, _⟩ := un j _ hj; cases z
  · unfold DQ
    rw [e]; rfl
theorem aH.Km {H F F' H' : Hp} (s1 : aH (DQ H F) H') (s2 : aH F F') (s3 : aH F' H') (sF : aH F H) : aH H H' := fun b o e => by
  cases z : F b with
  | none => exact s1 b o (by unfold DQ; rw [z]; exact e)
  | some w =>
    have := sF b w z
    rw [e] at this; cases this
    exact s3 b o (s2 b o z)
theorem KC {H F F' : Hp} (s2 : aH F F') (dj : ∀ b o, F' b = some o → DQ H F b = none) (b : Addr) (o : HO) (h : F' b = some o) : F b = some o ∨ H b = none := by
  rcases yH (dj b o h) with z | ⟨w, z⟩
  · exact .inr z
  · have := s2 b w z
    rw [h] at this; cases this
    exact .inl z
section
variable {P : Program} {w : World} {K : Fg} {mg : Str → Option Value} {base : Heap} {x qual : Str} {st : Stmt} {f : Addr} {fd : FuncData} {N ps : List Str} {k : Nat} {ev : bN}
abbrev bx (P : Program) (w : World) (K : Fg) (mg : Str → Option Value) (base : Heap) (N : List Str) (qual : Str) (st : Stmt) (f : Addr) (cdv : Value) (A : Around) (outer : List PySem.Env) (s : Shared) (H : Hp) (E : XK) : Cx := (Lk JB P w K mg base N qual (aD st) f cdv A outer s H E).nox
theorem Jb (F : VN K x qual st f fd) (S : bG N ps (aD st))
    (hb : ∀ (cdv : Value) (A : Around) (outer : List PySem.Env) (s : Shared) (H : Hp) (E : XK), gR k (A.deeper (envOfC qual (aD st) s.heap.objs.size f cdv)) → uc (bx P w K mg base N qual st f cdv A outer s H E) (C0 K) (bz st) ev) :
    pA P w K mg base JB (k + 1) f fd ps (mK K ps.length (gb N.length ev)) := by
  refine F.ok S (fun vs H Q E h => ?_) (fun cdv A outer s H vs Q E hr h => ?_)
  · obtain ⟨F0, ds, d, hl, _, p, _⟩ := h
    rw [p.length, hl]
  · obtain ⟨F0, ds, d, hl, sF, p, e, q⟩ := h
    refine ⟨_, hb cdv A outer s H E hr, DQ H F0, F0, envOf N.length ds, Bj sF p, ?_⟩
    unfold gb at e
    split at e
    · rename_i d' env' h1
      cases e
      rw [h1]
      exact fun v σ' H' F' r' s' p' => q v H' F' (aH.Km r'.pr s' r'.fr sF) r'.fr s' (KC s' r'.dj) p'
    · rename_i env' h1
      cases e
      rw [h1]
      exact fun σ' H' F' r' s' => q .non H' F' (aH.Km r'.pr s' r'.fr sF) r'.fr s' (KC s' r'.dj) rfl
    · cases e
theorem Yz (F : VN K x qual st f fd) (S : bG N ps (aD st))
    (hb : ∀ (cdv : Value) (A : Around) (outer : List PySem.Env) (s : Shared) (H : Hp) (E : XK), gR k (A.deeper (envOfC qual (aD st) s.heap.objs.size f cdv)) → uc (bx P w K mg base N qual st f cdv A outer s H E) (C0 K) (bz st) ev) :
    pA P w K mg base JB (k + 1) f fd ps (Wc K ps.length (runN N.length ev)) := by
  refine F.ok S (fun vs H Q E h => ?_) (fun cdv A outer s H vs Q E hr h => ?_)
  · obtain ⟨F0, ds, d, hl, _, p, _⟩ := h
    rw [p.length, hl]
  · obtain ⟨F0, ds, d, hl, sF, p, e, q⟩ := h
    refine ⟨_, hb cdv A outer s H E hr, DQ H F0, F0, envOf N.length ds, Bj sF p, ?_⟩
    unfold runN at e
    split at e
    · rename_i d' env' h1
      cases e
      rw [h1]
      refine fun a σ' H' F' r' s' n' => q a H' F' (aH.Km r'.pr s' r'.fr sF) r'.fr s' (KC s' r'.dj) n'.own n'.nF ?_
      rcases yH n'.nP with z | ⟨u, z⟩
      · exact z
      · have := s' a u z
        rw [n'.nF] at this; cases this
    · cases e
theorem Hc {K : Fg} {F H : Hp} {y : D} {a : Addr} {ds : List D} {vs : List V} {N : List Str} (s : aH F H) (hF : F a = none) (ho : jl K F H y a) (p : aW K F ds vs) : Rel (C1 K a) (fun b => if b = a then none else DQ H F b) F (uE N.length y ds) (start N (.ref a :: vs)) H := by
  have un : ∀ (j : Nat) (x : Bool × D), (uE N.length y ds)[j]? = some (some x) → (j = 0 ∧ x = (true, y)) ∨ ∃ i d, j = i + 1 ∧ x = (false, d) ∧ ds[i]? = some d := fun j x he => by
    unfold uE at he
    cases j with
    | zero => cases he; exact .inl ⟨rfl, rfl⟩
    | succ i =>
      rw [List.getElem?_cons_succ] at he
      by_cases hj : i < (ds.map fun d => some (false, d)).length
      · rw [List.getElem?_append_left hj, List.getElem?_map] at he
        obtain ⟨d, h1, h2⟩ := Option.map_eq_some_iff.mp he
        cases h2
        exact .inr ⟨i, d, rfl, rfl, h1⟩
      · rw [List.getElem?_append_right (by omega), List.getElem?_replicate] at he
        split at he <;> cases he
  have z0 : (start N (.ref a :: vs))[0]? = some (some (V.ref a)) := rfl
  refine ⟨fun b o e => ?_, s, ?_, fun j d he => ?_, fun j d he => ?_, fun j k d e b hj hk _ _ => ?_, fun b o e => ?_, fun i b h => ?_⟩
  · have e' : (if b = a then none else DQ H F b) = some o := e
    split at e'
    · cases e'
    · exact (Hw e').1
  · unfold uE L2.start
    simp only [List.length_cons, List.length_append, List.length_map, List.length_replicate, p.length, List.map_cons]
    omega
  · rcases un j _ he with ⟨_, z⟩ | ⟨i, d', rfl, z, hd⟩
    · cases z
    · cases z
      obtain ⟨v, h1, h2⟩ := p.get hd
      refine ⟨v, ?_, h2⟩
      unfold L2.start
      rw [List.map_cons, List.cons_append, List.getElem?_cons_succ, List.getElem?_append_left (by rw [List.length_map]; exact (List.getElem?_eq_some_iff.mp h1).1), List.getElem?_map, h1]
      rfl
  · rcases un j _ he with ⟨rfl, z⟩ | ⟨i, d', rfl, z, hd⟩
    · cases z
      exact ⟨a, z0, ho, hF, if_pos rfl⟩
    · cases z
  · rcases un j _ hj with ⟨rfl, _⟩ | ⟨i, d', rfl, z, _⟩
    · rcases un k _ hk with ⟨rfl, _⟩ | ⟨i, d', rfl, z, _⟩
      · rfl
      · cases z
    · cases z
  · show (if b = a then none else DQ H F b) = none
    split
    · rfl
    · unfold DQ; rw [e]; rfl
  · have h' : (if i = 0 then some a else none) = some b := h
    split at h'
    · rename_i hi
      cases h'
      rw [hi]; exact z0
    · cases h'
theorem adi {y : Str} {qs : List Str} (F : VN K x qual st f fd) (S : bG N (y :: qs) (aD st))
    (hb : ∀ (cdv : Value) (A : Around) (outer : List PySem.Env) (s : Shared) (H : Hp) (E : XK) (a : Addr), gR k (A.deeper (envOfC qual (aD st) s.heap.objs.size f cdv)) → uc (bx P w K mg base N qual st f cdv A outer s H E) (C1 K a) (bz st) ev) :
    pA P w K mg base JB (k + 1) f fd (y :: qs) (jJ K (qs.length + 1) (gf N.length ev)) := by
  refine F.ok S (fun vs H Q E h => ?_) (fun cdv A outer s H vs Q E hr h => ?_)
  · obtain ⟨F0, a, r, z, ds, d, z', rfl, hl, _, _, _, p, _⟩ := h
    rw [List.length_cons, List.length_cons, p.length]
    exact hl
  · obtain ⟨F0, a, r, z, ds, d, z', rfl, hl, sF, hFa, ho, p, e, q⟩ := h
    refine ⟨_, hb cdv A outer s H E a hr, _, F0, uE N.length z ds, Hc sF hFa ho p, ?_⟩
    have fin : ∀ (env' : Env) (σ' : L2.St) (H' F' : Hp) (v : V) (d : D) (z' : D), env'[0]? = some (some (true, z')) → Rel (C1 K a) (fun b => if b = a then none else DQ H F0 b) F' env' σ' H' → aH F0 F' → Rep K F' d v → (∀ v H' F', (∀ b o, b ≠ a → H b = some o → H' b = some o) → aH F' H' → aH F0 F' → (∀ b o, F' b = some o → F0 b = some o ∨ H b = none) → jl K F' H' z' a → Rep K F' d v → Q v H') → Q v H' := fun env' σ' H' F' v d z' h0 r' s' p' q => by
      obtain ⟨b, g1, g2, g3, g4⟩ := r'.own 0 z' h0
      have g5 := r'.fix 0 a rfl
      rw [g1] at g5; cases g5
      refine q v H' F' (fun c o hc e => ?_) r'.fr s' (fun c o e => ?_) g2 p'
      · cases u : F0 c with
        | none => exact r'.pr c o (by show (if c = a then none else DQ H F0 c) = some o; rw [if_neg hc]; unfold DQ; rw [u]; exact e)
        | some w =>
          have := sF c w u
          rw [e] at this; cases this
          exact r'.fr c o (s' c o u)
      · by_cases hc : c = a
        · subst hc; rw [g3] at e; cases e
        · have h1 := r'.dj c o e
          have h1' : (if c = a then none else DQ H F0 c) = none := h1
          rw [if_neg hc] at h1'
          rcases yH h1' with u | ⟨w, u⟩
          · exact .inr u
          · have := s' c w u
            rw [e] at this; cases this
            exact .inl u
    unfold gf at e
    simp only at e
    split at e
    · rename_i d' env' h1
      split at e
      · rename_i z1 h0
        cases e
        rw [h1]
        exact fun v σ' H' F' r' s' p' => fin env' σ' H' F' v _ _ h0 r' s' p' q
      · cases e
    · rename_i env' h1
      split at e
      · rename_i z1 h0
        cases e
        rw [h1]
        exact fun σ' H' F' r' s' => fin env' σ' H' F' .non .non _ h0 r' s' rfl q
      · cases e
    · cases e
end
end Ev
namespace Ev
open PySem PySem.Spec PyProof.Rows L2
structure Good (X : Cx) (C : Cfg) : Prop where
  K : X.K = C.K
  calm : X.calm = true
  un : X.A.units + 64 < cLine
theorem Good.u1 {X : Cx} {C : Cfg} (G : Good X C) : X.A.units + 1 < cLine := Nat.lt_of_le_of_lt (Nat.add_le_add_left (by decide : 1 ≤ 64) _) G.un
theorem Good.u60 {X : Cx} {C : Cfg} (G : Good X C) : X.A.units + 60 < cLine := Nat.lt_of_le_of_lt (Nat.add_le_add_left (by decide : 60 ≤ 64) _) G.un
theorem Good.u61 {X : Cx} {C : Cfg} (G : Good X C) : X.A.units + 61 < cLine := Nat.lt_of_le_of_lt (Nat.add_le_add_left (by decide : 61 ≤ 64) _) G.un
theorem Good.at {X X' : Cx} {C : Cfg} {scope : Scope} {N' : List Str} (G : Good X C) (h : jg X scope N' X') : Good X' C := by
  obtain ⟨_, _, _, _, _, rfl⟩ := h
  exact ⟨G.K, G.calm, G.un⟩
def Own (P : Program) (w : World) (K : Fg) (mg : Str → Option Value) (base : Heap) (x : Str) (k : Nat) (ps : List Str) (sp : Sp) : Prop :=
  ∃ f fd, pA P w K mg base JB k f fd ps sp ∧ mg x = some (.ref f) ∧ PySem.W.keepIn K (.ref f) = true ∧ Binds K fd ps []
def Vx (K : Fg) (mg : Str → Option Value) (x : Str) (d : D) : Prop := ∃ v u, mg x = some u ∧ RelV v u ∧ ∀ F, Rep K F d v
def bL (K : Fg) (mg : Str → Option Value) (x : Str) (st : Stmt) (ps : List Str) : Prop := ∃ f fd, VN K x x st f fd ∧ mg x = some (.ref f) ∧ Binds K fd ps []
def jw : List Str → Bool
  | [] => true
  | x :: r => !(r.contains x) && jw r
theorem ju : ∀ {l : List Str}, jw l = true → l.Nodup
  | [], _ => .nil
  | x :: r, h => by
    have h' : (!(r.contains x) && jw r) = true := h
    rw [Bool.and_eq_true] at h'
    refine List.nodup_cons.mpr ⟨fun hm => ?_, ju h'.2⟩
    have : r.contains x = true := List.contains_iff_mem.mpr hm
    rw [this] at h'; exact absurd h'.1 (by decide)
def Nv (outer : List (Str × NameKind)) : List (Str × NameKind) → Bool
  | [] => true
  | (n, k) :: r => (!decide (k = .free) || decide (outer.lookup n = some .cell) || decide (outer.lookup n = some .free)) && Nv outer r
theorem Ip {outer : List (Str × NameKind)} : ∀ {l : List (Str × NameKind)}, Nv outer l = true → ∀ x ∈ l, x.2 = .free → outer.lookup x.1 = some .cell ∨ outer.lookup x.1 = some .free
  | [], _, x, hx, _ => by simp at hx
  | (n, k) :: r, h, x, hx, hf => by
    have h' : ((!decide (k = .free) || decide (outer.lookup n = some .cell) || decide (outer.lookup n = some .free)) && Nv outer r) = true := h
    rw [Bool.and_eq_true, Bool.or_eq_true, Bool.or_eq_true] at h'
    rcases List.mem_cons.mp hx with rfl | hx
    · rcases h'.1 with (z | z) | z
      · have hf' : k = .free := hf
        rw [decide_eq_true hf'] at z; exact absurd z (by decide)
      · exact .inl (of_decide_eq_true z)
      · exact .inr (of_decide_eq_true z)
    · exact Ip h'.2 x hx hf
theorem gQ {X : Cx} {scope : Scope} {N' : List Str} (h1 : scope.kind = .function := by rfl) (h2 : jw (scope.names.map (·.1)) = true := by rfl) (h3 : Nv X.env.scope.names scope.names = true := by rfl) (h4 : U9 scope.names N' X.N = true := by rfl) (h5 : Nat.ble X.N.length N'.length = true := by rfl) : lM X scope N' :=
  ⟨h1, ju h2, Ip h3, h4, Nat.le_of_ble_eq_true h5⟩
section
variable {X : Cx} {C : Cfg} {pos p px : Pos} {x y z : Expr} {a b c : Ev} {t u : cO} {i : Nat} {n : Str}
theorem aJ (i : Nat) (hN : X.N[i]? = some n := by rfl) (hv : rO X.env.scope n := by first | exact Or.inl rfl | exact Or.inr (Or.inl rfl) | exact Or.inr (Or.inr rfl)) (hd : (n == ("__debug__" : Str)) = false := by decide) (hcd : (n == ("__classdict__" : Str)) = false := by decide) : PX X C (.Name n pos) (az i) := aay i hN hv hd hcd
theorem eY (i : Nat) (hN : X.N[i]? = some n := by rfl) (hv : rO X.env.scope n := by first | exact Or.inl rfl | exact Or.inr (Or.inl rfl) | exact Or.inr (Or.inr rfl)) (hd : (n == ("__debug__" : Str)) = false := by decide) (hcd : (n == ("__classdict__" : Str)) = false := by decide) : zQ X C (.Name n pos) (bw i) := Wx i hN hv hd hcd
structure Bi (X : Cx) (C : Cfg) (op : Operator) (g : D → D → Option D) : Prop where
  ex : ∃ r, kh X (binaryOp op) r ∧ nu C r g
structure Cm (X : Cx) (C : Cfg) (op : CmpOp) (g : D → D → Option D) : Prop where
  ex : ∃ r, kh X (compareOp op) r ∧ nu C r g
theorem fZ (G : Good X C) : Bi X C .Add bU := ⟨_, W9, by rw [G.K]; exact abv⟩
theorem ZL : Bi X C .Sub El := ⟨_, aaY, abg⟩
theorem Jt : Bi X C .Mult lU := ⟨_, W7, abk⟩
theorem ZQ : Bi X C .Mod Ld := ⟨_, aa3, abl⟩
theorem ZP : Bi X C .Pow Lb := ⟨_, aa1, abj⟩
theorem af9 : Bi X C .LShift Qf := ⟨_, aa0, abi⟩
theorem ZM : Bi X C .RShift Ag := ⟨_, aaZ, abh⟩
theorem ZS : Bi X C .BitAnd Es := ⟨_, abd, abu⟩
theorem Vk (G : Good X C) : Cm X C .Eq Im := ⟨_, R7 G.u60, by rw [G.K]; exact Zk⟩
theorem adu (G : Good X C) : Cm X C .NotEq Uo := ⟨_, aa2 G.u60, by rw [G.K]; exact aeL⟩
theorem YH (G : Good X C) : Cm X C .NotIn ou := ⟨_, Bo G.u61, by rw [G.K]; exact Hk⟩
theorem ahG : Cm X C .Is gIs := ⟨_, aa6, aeN⟩
theorem ahF : Cm X C .Lt gLt := ⟨_, aa4, aeM⟩
theorem ahH : Cm X C .Gt gGt := ⟨_, aeF, aeP⟩
theorem eU {op : Operator} {g : D → D → Option D} (o : Bi X C op g) (ha : PX X C x a) (hb : zQ X C y b) : PX X C (.BinOp x op y pos) (aF g a b) := let ⟨_, h1, h2⟩ := o.ex; aev h1 h2 ha hb
theorem eZ {op : Operator} {g : D → D → Option D} (i : Nat) (o : Bi X C op g) (hb : zQ X C y b) (hN : X.N[i]? = some n := by rfl) (hv : rO X.env.scope n := by first | exact Or.inl rfl | exact Or.inr (Or.inl rfl) | exact Or.inr (Or.inr rfl)) (hd : (n == ("__debug__" : Str)) = false := by decide) (hcd : (n == ("__classdict__" : Str)) = false := by decide) : PX X C (.BinOp (.Name n px) op y pos) (aA g i b) := let ⟨_, h1, h2⟩ := o.ex; aaA i hN hv h1 h2 hb hd hcd
theorem Av {op : CmpOp} {g : D → D → Option D} (o : Cm X C op g) (ha : PX X C x a) (hb : zQ X C y b) (hm : behindInMarks op y = false := by rfl) : PX X C (.Compare x [op] [y] pos) (aF g a b) := let ⟨_, h1, h2⟩ := o.ex; aaC h1 h2 ha hb hm
theorem mJ {op : CmpOp} {g : D → D → Option D} (i : Nat) (o : Cm X C op g) (hb : zQ X C y b) (hN : X.N[i]? = some n := by rfl) (hv : rO X.env.scope n := by first | exact Or.inl rfl | exact Or.inr (Or.inl rfl) | exact Or.inr (Or.inr rfl)) (hm : behindInMarks op y = false := by rfl) (hd : (n == ("__debug__" : Str)) = false := by decide) (hcd : (n == ("__classdict__" : Str)) = false := by decide) : PX X C (.Compare (.Name n px) [op] [y] pos) (aA g i b) := by
  obtain ⟨r, h1, h2⟩ := o.ex
  exact (M4 h1 (lu hN hv hd hcd) hb hm).imp (uN h2)
theorem pC {op : CmpOp} {g : D → D → Option D} (o : Cm X C op g) (ha : PX X C x a) (hb : zQ X C y b) (hm : behindInMarks op y = false := by rfl) : NZ X C (.Compare x [op] [y] pos) (jC (aF g a b)) := let ⟨_, h1, h2⟩ := o.ex; Wo h1 h2 ha hb hm
theorem uX {op : CmpOp} {g : D → D → Option D} (i : Nat) (o : Cm X C op g) (hb : zQ X C y b) (hN : X.N[i]? = some n := by rfl) (hv : rO X.env.scope n := by first | exact Or.inl rfl | exact Or.inr (Or.inl rfl) | exact Or.inr (Or.inr rfl)) (hm : behindInMarks op y = false := by rfl) (hd : (n == ("__debug__" : Str)) = false := by decide) (hcd : (n == ("__classdict__" : Str)) = false := by decide) : NZ X C (.Compare (.Name n px) [op] [y] pos) (jC (aA g i b)) := by
  obtain ⟨r, h1, h2⟩ := o.ex
  exact (MP h1 (lu hN hv hd hcd) hb hm).imp fun σ H Q h => uN h2 σ H _ (Q0 h)
theorem N8 (G : Good X C) (ha : PX X C x a) (hb : zQ X C y b) (hs : o5 y := by intro _ _; rfl) : PX X C (.Subscript x y pos) (aF jk a b) := aew G.K ha hb hs
theorem gU (i : Nat) (G : Good X C) (hb : zQ X C y b) (hN : X.N[i]? = some n := by rfl) (hv : rO X.env.scope n := by first | exact Or.inl rfl | exact Or.inr (Or.inl rfl) | exact Or.inr (Or.inr rfl)) (hs : o5 y := by intro _ _; rfl) (hd : (n == ("__debug__" : Str)) = false := by decide) (hcd : (n == ("__classdict__" : Str)) = false := by decide) : PX X C (.Subscript (.Name n px) y pos) (aA jk i b) := aaB i G.K hN hv hb hs hd hcd
theorem Ca (i : Nat) (G : Good X C) (hb : zQ X C y b) (hN : X.N[i]? = some n := by rfl) (hv : rO X.env.scope n := by first | exact Or.inl rfl | exact Or.inr (Or.inl rfl) | exact Or.inr (Or.inr rfl)) (hs : Vv y := by intro _ _; rfl) (hd : (n == ("__debug__" : Str)) = false := by decide) (hcd : (n == ("__classdict__" : Str)) = false := by decide) : PX X C (.Subscript (.Name n px) y pos) (aA rT i b) := RB i G.u1 hN hv hb hs hd hcd
theorem VP {lo hi : Option Expr} {el eh : xK} {p2 : Pos} (G : Good X C) (ha : PX X C x a) (hl : Vu X C lo el) (hh : Vu X C hi eh) : PX X C (.Subscript x (.Slice lo hi none p2) pos) (vU a el eh) := aeu G.K ha hl hh
variable {e : Expr} {es : List Expr} {ea : cz}
theorem j4 (G : Good X C) (hm : X.mg "len" = none) (ha : rQ X C [e] ea) (hg : Gl X "len" := by rfl) (he : starEach [e] X.env = (false, eval e X.env) :: starEach [] X.env := by rfl) : PX X C (.Call (.Name "len" p) [e] [] pos) (aq dG ea) :=
  lr (by rw [← G.K]; exact Vg) adq hg hm PySem.boot_len ha (by decide) (by decide) he rfl
theorem wG (G : Good X C) (hm : X.mg "all" = none) (ha : rQ X C [e] ea) (hg : Gl X "all" := by rfl) (he : starEach [e] X.env = (false, eval e X.env) :: starEach [] X.env := by rfl) : PX X C (.Call (.Name "all" p) [e] [] pos) (aq ph ea) :=
  lr (by rw [← G.K]; exact Qu G.calm) adt hg hm (by decide +kernel) ha (by decide) (by decide) he rfl
theorem ud (G : Good X C) (hm : X.mg "sorted" = none) (ha : rQ X C [e] ea) (hg : Gl X "sorted" := by rfl) (he : starEach [e] X.env = (false, eval e X.env) :: starEach [] X.env := by rfl) : PX X C (.Call (.Name "sorted" p) [e] [] pos) (aq je ea) :=
  O3 G.K G.calm hg hm ha he rfl
theorem QV {e2 : Expr} (G : Good X C) (hm : X.mg "max" = none) (ha : rQ X C [e, e2] ea) (hg : Gl X "max" := by rfl) (he : starEach [e, e2] X.env = (false, eval e X.env) :: starEach [e2] X.env := by rfl) (hpl : (backTo pos (starEach [e2] X.env)).any (·.1) = false := by rfl) : PX X C (.Call (.Name "max" p) [e, e2] [] pos) (aq Il ea) :=
  lr (Qt G.calm) adp hg hm (by decide +kernel) ha (by decide) (by decide) he hpl
theorem QT {e2 : Expr} (G : Good X C) (hm : X.mg "min" = none) (ha : rQ X C [e, e2] ea) (hg : Gl X "min" := by rfl) (he : starEach [e, e2] X.env = (false, eval e X.env) :: starEach [e2] X.env := by rfl) (hpl : (backTo pos (starEach [e2] X.env)).any (·.1) = false := by rfl) : PX X C (.Call (.Name "min" p) [e, e2] [] pos) (aq Ik ea) :=
  lr (Qs G.calm) ado hg hm (by decide +kernel) ha (by decide) (by decide) he hpl
theorem xO {e2 : Expr} (G : Good X C) (hm : X.mg "divmod" = none) (ha : rQ X C [e, e2] ea) (hg : Gl X "divmod" := by rfl) (he : starEach [e, e2] X.env = (false, eval e X.env) :: starEach [e2] X.env := by rfl) (hpl : (backTo pos (starEach [e2] X.env)).any (·.1) = false := by rfl) : PX X C (.Call (.Name "divmod" p) [e, e2] [] pos) (aq mz ea) :=
  lr Jr Qq hg hm (by decide +kernel) ha (by decide) (by decide) he hpl
theorem j7 (G : Good X C) (hm : X.mg "tuple" = none) (ha : rQ X C [e] ea) (hg : Gl X "tuple" := by rfl) (he : starEach [e] X.env = (false, eval e X.env) :: starEach [] X.env := by rfl) : PX X C (.Call (.Name "tuple" p) [e] [] pos) (aq dN ea) :=
  Bk (T := "tuple") (r := Rq C.K) (by rw [← G.K]; exact Ak) Vc hg hm (by decide +kernel) ha (by decide) (by decide) he rfl
theorem uT (G : Good X C) (hm : X.mg "list" = none) (ha : rQ X C [e] ea) (hg : Gl X "list" := by rfl) (he : starEach [e] X.env = (false, eval e X.env) :: starEach [] X.env := by rfl) : PX X C (.Call (.Name "list" p) [e] [] pos) (aq o8 ea) :=
  Bk (T := "list") (r := Rv C.K) (by rw [← G.K]; exact Lz G.calm) YF hg hm (by decide +kernel) ha (by decide) (by decide) he rfl
theorem BZ {o : Expr} {apos cpos : Pos} (G : Good X C) (ho : PX X C o a) (he : zQ X C e b) (hbase : attributeBase o "join" X.env (eval o X.env) = eval o X.env := by rfl)
    (hs : starEach [e] X.env = (false, eval e X.env) :: starEach [] X.env := by rfl)
    (hfew : ((backTo cpos (starEach [e] X.env)).all (fun x => !x.1) && (backToKw cpos (keywordEach [] X.env)).all (fun x => x.1.isSome)
      && decide ([e].length + ([] : List Keyword).length + (if ([] : List Keyword).isEmpty then 0 else 1) < 30)) = true := by rfl)
    (hline : (apos.endLine == cpos.line) = true := by rfl) (hplain : (backTo cpos (starEach [] X.env)).any (·.1) = false := by rfl) :
    PX X C (.Call (.Attribute o "join" apos) [e] [] cpos) (aF qe a b) := Wy G.K ho he hbase hs hfew hline hplain
theorem cM {k k' : Nat} {m : Nat} {ps : List Str} {g : List D → Option D} (O : Own X.prog X.w X.K X.mg X.base n k ps (mK X.K m g)) (G : Good X C) (hr : gR k' X.A) (hk : Nat.ble k k' = true) (ha : Jz X C (e :: es) ea) (hn : ∀ env ds env', ea env = .ok ds env' → ds.length = m)
    (hg : Gl X n := by rfl) (hdb : (n == ("__debug__" : Str)) = false := by decide) (he : starEach (e :: es) X.env = (false, eval e X.env) :: starEach es X.env := by rfl) (hpl : (backTo pos (starEach es X.env)).any (·.1) = false := by rfl) : PX X C (.Call (.Name n p) (e :: es) [] pos) (aq g ea) := by
  obtain ⟨f, fd, h1, h2, h3, h4⟩ := O
  rw [G.K] at h1
  have h1' : pA X.prog X.w X.K X.mg X.base JB k f fd ps (mK C.K m g) := by rw [G.K]; exact h1
  exact aaz h1' (hr.mono (Nat.le_of_ble_eq_true hk)) hg h2 h3 h4 ha hn hdb he hpl
theorem Su {k k' : Nat} {m : Nat} {ps : List Str} {g : List D → Option D} (O : Own X.prog X.w X.K X.mg X.base n k ps (Wc X.K m g)) (G : Good X C) (hr : gR k' X.A) (hk : Nat.ble k k' = true) (ha : Jz X C (e :: es) ea) (hn : ∀ env ds env', ea env = .ok ds env' → ds.length = m)
    (hg : Gl X n := by rfl) (hdb : (n == ("__debug__" : Str)) = false := by decide) (he : starEach (e :: es) X.env = (false, eval e X.env) :: starEach es X.env := by rfl) (hpl : (backTo pos (starEach es X.env)).any (·.1) = false := by rfl) : N5 X C (.Call (.Name n p) (e :: es) [] pos) (aq g ea) := by
  obtain ⟨f, fd, h1, h2, h3, h4⟩ := O
  rw [G.K] at h1
  have h1' : pA X.prog X.w X.K X.mg X.base JB k f fd ps (Wc C.K m g) := by rw [G.K]; exact h1
  exact Wu h1' (hr.mono (Nat.le_of_ble_eq_true hk)) hg h2 h3 h4 ha hn hdb he hpl
theorem j8 {k k' : Nat} {m : Nat} {ps : List Str} {g : List D → Option (D × D)} {v : Str} {pv : Pos} (i : Nat) (O : Own X.prog X.w X.K X.mg X.base n k ps (jJ X.K m g)) (G : Good X C) (hr : gR k' X.A) (hk : Nat.ble k k' = true) (ha : Jz X C es ea) (hn : ∀ env ds env', ea env = .ok ds env' → ds.length + 1 = m)
    (hN : X.N[i]? = some v := by rfl) (hv : rO X.env.scope v := by first | exact Or.inl rfl | exact Or.inr (Or.inl rfl) | exact Or.inr (Or.inr rfl))
    (hg : Gl X n := by rfl) (hdb : (n == ("__debug__" : Str)) = false := by decide) (he : starEach (.Name v pv :: es) X.env = (false, eval (.Name v pv) X.env) :: starEach es X.env := by rfl) (hpl : (backTo pos (starEach es X.env)).any (·.1) = false := by rfl)
    (hd : (v == ("__debug__" : Str)) = false := by decide) (hcd : (v == ("__classdict__" : Str)) = false := by decide) : PX X C (.Call (.Name n p) (.Name v pv :: es) [] pos) (cP g i ea) := by
  obtain ⟨f, fd, h1, h2, h3, h4⟩ := O
  rw [G.K] at h1
  have h1' : pA X.prog X.w X.K X.mg X.base JB k f fd ps (jJ C.K m g) := by rw [G.K]; exact h1
  exact aex hN hv h1' (hr.mono (Nat.le_of_ble_eq_true hk)) hg h2 h3 h4 ha hn hdb he hpl hd hcd
theorem len0 : ∀ (env : Env) (ds : List D) (env' : Env), ak env = .ok ds env' → ds.length = 0 := Qi
theorem bD {a : Ev} {r : cz} {m : Nat} (hr : ∀ env ds env', r env = .ok ds env' → ds.length = m) : ∀ (env : Env) (ds : List D) (env' : Env), aa a r env = .ok ds env' → ds.length = m + 1 := Lg hr
theorem gK {r : cz} {m : Nat} (hr : ∀ env ds env', r env = .ok ds env' → ds.length = m) : ∀ (env : Env) (ds : List D) (env' : Env), r env = .ok ds env' → ds.length + 1 = m + 1 := fun env ds env' h => by rw [hr env ds env' h]
theorem bF {lo : Nat} (i : Nat) (hnd : jw X.N = true := by rfl) (hlo : Nat.ble lo i = true := by rfl) (hfx : C.fx i = none := by rfl) (hi : X.N[i]? = some n := by rfl) (hx : Loc X.env.scope n := by first | exact Or.inl rfl | exact Or.inr rfl) (hf : X.fn n = true ∨ X.env.scope.names.lookup n = some .local := by first | exact .inl rfl | exact .inr rfl) : Mj X C lo (.Name n pos) (au i) :=
  Rz (ju hnd) hi hx (Nat.le_of_ble_eq_true hlo) hfx hf
theorem qd {lo : Nat} {k : Nat} {gs : N7} {m : Nat} (G : Good X C) (h : QC X C lo es gs) (hn : (assignEach es X.env).length = m := by rfl) (hst : (assignEach es X.env).findIdx? (·.1) = none := by rfl) : Mj X C lo (.Tuple es k pos) (fL m gs) := Ww G.calm G.K h hn hst
theorem acK {lo : Nat} {ix : Expr} {ev : Ev} (i : Nat) (h : PX X C ix ev) (hN : X.N[i]? = some n := by rfl) (hv : rO X.env.scope n := by first | exact Or.inl rfl | exact Or.inr (Or.inl rfl) | exact Or.inr (Or.inr rfl))
    (ha : ∀ v, assign (.Subscript (.Name n px) ix pos) X.env v = (do
      let ov ← holding [v] (eval (.Name n px) X.env)
      let iv ← holding [v, ov] (eval ix X.env)
      standAt pos
      holding [v, ov, iv] (setItem ov iv v)
      release [v, ov, iv] []) := by intro _; rfl)
    (hd : (n == ("__debug__" : Str)) = false := by decide) (hcd : (n == ("__classdict__" : Str)) = false := by decide) : Mj X C lo (.Subscript (.Name n px) ix pos) (HY i ev) := aax hN hv h ha hd hcd
theorem dq {pos' : Pos} (i : Nat) (he : PX X C e a) (hnd : jw X.N = true := by rfl) (hfx : C.fx i = none := by rfl) (hi : X.N[i]? = some n := by rfl) (hx : Loc X.env.scope n := by first | exact Or.inl rfl | exact Or.inr rfl) (hs : swapsWith e (some (.Name n pos')) pos.line X.env = pure false := by rfl) (hf : X.fn n = true ∨ X.env.scope.names.lookup n = some .local := by first | exact .inl rfl | exact .inr rfl) :
    Gb X C (.Assign [.Name n pos'] e pos) (bj a (au i)) := Wq (ju hnd) hi hx hfx he hs hf
theorem Be {pos' : Pos} (i : Nat) (he : N5 X C e a) (hnd : jw X.N = true := by rfl) (hfx : C.fx i = none := by rfl) (hi : X.N[i]? = some n := by rfl) (hx : Loc X.env.scope n := by first | exact Or.inl rfl | exact Or.inr rfl) (hs : swapsWith e (some (.Name n pos')) pos.line X.env = pure false := by rfl) (hf : X.fn n = true ∨ X.env.scope.names.lookup n = some .local := by first | exact .inl rfl | exact .inr rfl) :
    Gb X C (.Assign [.Name n pos'] e pos) (kO i a) := Wr (ju hnd) hi hx hfx he hs hf
theorem Bf {apos cpos : Pos} (i : Nat) (G : Good X C) (he : PX X C e a) (hN : X.N[i]? = some n := by rfl) (hv : rO X.env.scope n := by first | exact Or.inl rfl | exact Or.inr (Or.inl rfl) | exact Or.inr (Or.inr rfl))
    (hs : swapsWith (.Call (.Attribute (.Name n px) "append" apos) [e] [] cpos) none pos.line X.env = pure false := by rfl)
    (hfew : ((backTo cpos (starEach [e] X.env)).all (fun x => !x.1) && (backToKw cpos (keywordEach [] X.env)).all (fun x => x.1.isSome)
      && decide (([e] : List Expr).length + ([] : List Keyword).length + (if ([] : List Keyword).isEmpty then 0 else 1) < 30)) = true := by rfl)
    (hbase : attributeBase (.Name n px) "append" X.env (eval (.Name n px) X.env) = eval (.Name n px) X.env := by rfl)
    (hline : (apos.endLine == cpos.line) = true := by rfl) (hst : starEach [e] X.env = (false, eval e X.env) :: starEach [] X.env := by rfl) (hplain : (backTo cpos (starEach [] X.env)).any (·.1) = false := by rfl)
    (hd : (n == ("__debug__" : Str)) = false := by decide) (hcd : (n == ("__classdict__" : Str)) = false := by decide) : Gb X C (.Expr (.Call (.Attribute (.Name n px) "append" apos) [e] [] cpos) pos) (nA i a) :=
  Wt hN hv he G.K hs hfew hbase hline hst hplain hd hcd
theorem J5 {k : Expr} {ek : Ev} {pos' : Pos} (i : Nat) (G : Good X C) (hk : PX X C k ek) (he : PX X C e a) (hN : X.N[i]? = some n := by rfl) (hv : rO X.env.scope n := by first | exact Or.inl rfl | exact Or.inr (Or.inl rfl) | exact Or.inr (Or.inr rfl))
    (hs : swapsWith e (some (.Subscript (.Name n px) k pos')) pos.line X.env = pure false := by rfl)
    (hd : (n == ("__debug__" : Str)) = false := by decide) (hcd : (n == ("__classdict__" : Str)) = false := by decide) : Gb X C (.Assign [.Subscript (.Name n px) k pos'] e pos) (su i ek a) := Ry G.u1 hN hv hk he hs hd hcd
theorem jj {tg : Expr} (G : Good X C) (h : PX X C x a) : QB X C tg x (ig a) := Wv G.K h
theorem n6 {tg : Expr} (hm : X.mg "range" = none) (ha : Jz X C [e] ea) (hl : ∀ env ds env', ea env = .ok ds env' → ds.length = 1) (hg : Gl X "range" := by rfl) (hs : starEach [e] X.env = [(false, eval e X.env)] := by rfl) : QB X C tg (.Call (.Name "range" p) [e] [] pos) (eN ea) := Kc hg hm ha hl hs
theorem K7 {tg e2 e3 : Expr} (hm : X.mg "range" = none) (ha : Jz X C [e, e2, e3] ea) (hl : ∀ env ds env', ea env = .ok ds env' → ds.length = 3) (hg : Gl X "range" := by rfl) (hs : starEach [e, e2, e3] X.env = [(false, eval e X.env), (false, eval e2 X.env), (false, eval e3 X.env)] := by rfl) (hs2 : starEach [e2, e3] X.env = [(false, eval e2 X.env), (false, eval e3 X.env)] := by rfl) : QB X C tg (.Call (.Name "range" p) [e, e2, e3] [] pos) (eN ea) := Ka hg hm ha hl hs hs2
theorem rR {tg iter : Expr} {body : List Stmt} {it : cz} {g : GV} {bs : bN} (G : Good X C) (hi : QB X C tg iter it) (hg : Mj X C 0 tg g) (hb : uc X C body bs) (hp : PassesOwn (model X.prog X.w) X.A X.env X.xe := by exact PassesOwn.never)
    (hs : ∀ x, foldedSetIterable iter X.env x = pure x := by intro _; rfl) : Gb X C (.For tg iter body [] pos) (ji it g bs) := Ws hp G.calm hi hg hb hs
theorem pJ {elt tg iter : Expr} {ifs : List Expr} {scope : Scope} (N' : List Str) {it : cz} {g : GV} {cc : cO} {ee : Ev} (lo : Nat) (ok : lM X scope N') (G : Good X C) (hi : QB X C tg iter it)
    (bg : ∀ X', jg X scope N' X' → Mj X' C lo tg g) (bc : ∀ X', jg X scope N' X' → Mi X' C ifs cc) (be : ∀ X', jg X scope N' X' → PX X' C elt ee)
    (hs : ∀ x, foldedSetIterable iter X.env x = pure x := by intro _; rfl) : N5 X C (.ListComp elt [⟨tg, iter, ifs, 0⟩] scope pos) (dW lo N'.length it g cc ee) := aaw N' lo ok G.calm hi bg bc be hs
theorem aap {elt tg iter : Expr} {ifs : List Expr} {scope : Scope} (N' : List Str) {spos py : Pos} {it : cz} {g : GV} {cc : cO} {ee : Ev} (lo : Nat) (i : Nat) (ok : lM X scope N') (G : Good X C) (hi : QB X C tg iter it)
    (bg : ∀ X', jg X scope N' X' → Mj X' C lo tg g) (bc : ∀ X', jg X scope N' X' → Mi X' C ifs cc) (be : ∀ X', jg X scope N' X' → PX X' C elt ee)
    (hnd : jw X.N = true := by rfl) (hfx : C.fx i = none := by rfl) (hy : X.N[i]? = some n := by rfl) (hx : Loc X.env.scope n := by first | exact Or.inl rfl | exact Or.inr rfl)
    (hsw : swapsWith (.ListComp elt [⟨tg, iter, ifs, 0⟩] scope pos) (some (.Name n py)) spos.line X.env = pure true := by rfl)
    (hf : X.fn n = true ∨ X.env.scope.names.lookup n = some .local := by first | exact .inl rfl | exact .inr rfl)
    (hs : ∀ x, foldedSetIterable iter X.env x = pure x := by intro _; rfl) : Gb X C (.Assign [.Name n py] (.ListComp elt [⟨tg, iter, ifs, 0⟩] scope pos) spos) (kO i (dW lo N'.length it g cc ee)) := O2 N' lo ok G.calm hi bg bc be (ju hnd) hy hx hfx hsw hf hs
end
section
variable {P : Program} {w : World} {K : Fg} {mg : Str → Option Value} {base : Heap} {x : Str} {st : Stmt} {N ps : List Str} {k : Nat} {ev : bN}
theorem xF {x : Str} {f : Addr} {cdv : Value} {A : Around} {outer : List PySem.Env} {s : Shared} {H : Hp} {E : XK} {C : Cfg} (hC : C.K = K) (hr : gR k (A.deeper (envOfC x (aD st) s.heap.objs.size f cdv))) : Good (bx P w K mg base N x st f cdv A outer s H E) C := ⟨hC.symm, rfl, hr.units⟩
theorem dF (F : bL K mg x st ps) (S : bG N ps (aD st))
    (hb : ∀ (f : Addr) (cdv : Value) (A : Around) (outer : List PySem.Env) (s : Shared) (H : Hp) (E : XK), gR k (A.deeper (envOfC x (aD st) s.heap.objs.size f cdv)) → Good (bx P w K mg base N x st f cdv A outer s H E) (C0 K) → uc (bx P w K mg base N x st f cdv A outer s H E) (C0 K) (bz st) ev) :
    Own P w K mg base x (k + 1) ps (mK K ps.length (gb N.length ev)) := by
  obtain ⟨f, fd, h1, h2, h3⟩ := F
  exact ⟨f, fd, Jb h1 S fun cdv A outer s H E hr => hb f cdv A outer s H E hr (xF rfl hr), h2, h1.kp, h3⟩
theorem W3 (F : bL K mg x st ps) (S : bG N ps (aD st))
    (hb : ∀ (f : Addr) (cdv : Value) (A : Around) (outer : List PySem.Env) (s : Shared) (H : Hp) (E : XK), gR k (A.deeper (envOfC x (aD st) s.heap.objs.size f cdv)) → Good (bx P w K mg base N x st f cdv A outer s H E) (C0 K) → uc (bx P w K mg base N x st f cdv A outer s H E) (C0 K) (bz st) ev) :
    Own P w K mg base x (k + 1) ps (Wc K ps.length (runN N.length ev)) := by
  obtain ⟨f, fd, h1, h2, h3⟩ := F
  exact ⟨f, fd, Yz h1 S fun cdv A outer s H E hr => hb f cdv A outer s H E hr (xF rfl hr), h2, h1.kp, h3⟩
theorem sI {y : Str} {qs : List Str} (F : bL K mg x st (y :: qs)) (S : bG N (y :: qs) (aD st))
    (hb : ∀ (f : Addr) (cdv : Value) (A : Around) (outer : List PySem.Env) (s : Shared) (H : Hp) (E : XK) (a : Addr), gR k (A.deeper (envOfC x (aD st) s.heap.objs.size f cdv)) → Good (bx P w K mg base N x st f cdv A outer s H E) (C1 K a) → uc (bx P w K mg base N x st f cdv A outer s H E) (C1 K a) (bz st) ev) :
    Own P w K mg base x (k + 1) (y :: qs) (jJ K (qs.length + 1) (gf N.length ev)) := by
  obtain ⟨f, fd, h1, h2, h3⟩ := F
  exact ⟨f, fd, adi h1 S fun cdv A outer s H E a hr => hb f cdv A outer s H E a hr (xF rfl hr), h2, h1.kp, h3⟩
theorem kY {sc : Scope} (h1 : sc.kind = .function := by rfl) (h2 : sc.isCoroutine = false := by rfl) (h3 : sc.isGenerator = false := by rfl) (h4 : jw N = true := by rfl) (h5 : N.take ps.length = ps := by rfl)
    (h6 : (ps.all fun x => decide (sc.names.lookup x = some .local) || decide (sc.names.lookup x = some .cell)) = true := by rfl) (h7 : (sc.names.all fun y => !decide (y.2 = .free)) = true := by rfl) : bG N ps sc := by
  refine ⟨h1, h2, h3, ju h4, h5, fun x hx => ?_, fun y hy z => ?_⟩
  · have := List.all_eq_true.mp h6 x hx
    rw [Bool.or_eq_true] at this
    rcases this with z | z
    · exact .inl (of_decide_eq_true z)
    · exact .inr (of_decide_eq_true z)
  · have := List.all_eq_true.mp h7 y hy
    rw [decide_eq_true z] at this
    exact absurd this (by decide)
end
end Ev
namespace Ev
open PySem PySem.Spec PySem.W PySem.Calls PyProof.Rows L2
theorem wH : ∀ (ns : List Int) (i : Int), i ∈ ns → Builtin.Int.intBits i ≤ WData.weightAll (ns.map WData.int)
  | [], _, h => by simp at h
  | n :: ns, i, h => by
    rw [List.map_cons, WData.weightAll]
    rcases List.mem_cons.mp h with rfl | h
    · have e : WData.weight (.int i) = Builtin.Int.intBits i := by rw [WData.weight]; rfl
      rw [e]; omega
    · have := wH ns i h
      omega
def Mm (ns : List Int) : Prop := ∀ i ∈ ns, Builtin.Int.intBits i ≤ 2 ^ 20
theorem Fy {l : OpenLaw} {n : Nat} {q : Program} {loose : List Str} {XP : (Str → Option Value) → Heap → Prop} {YP : World → Heap → Prop} {d : DefRec}
    (hn : l.most = some n) (hdf : d.params.defaults = [])
    (call : ∀ (w : World) (s₀ s₁ : Shared) (mg mb : Str → Option Value) (fa : Addr) (o : Obj) (pm cd doc : Value) (a : Addr) (vs : List Value) (ns : List Int),
      Ground q loose [] XP w s₀ mg mb s₁.heap → YP w s₁.heap →
      s₁.heap.get? fa = some o → o.data = .func (docDef d.name d.params d.body d.scope pm cd doc) → s₁.heap.CodeRec cd d.name → mg d.name = some (.ref fa) →
      s₁.heap.get? a = some { cls := .type "list", data := .seq vs.toArray } → IntsAre vs ns → ns.length ≤ n → Mm ns → s₁.gens = #[] →
      codeAny (model l.prog w) callerA (.call (.ref fa) ⟨[.ref a], []⟩) (fun r s' => r = .ok (.ret (.bool true)) ∧ OldK s₁.heap s'.heap ∧ s'.os = s₁.os ∧ AllBare s'.gens) s₁) :
    WalkO q loose XP YP l.row.toRowW d [] (fun f vs => PySem.call f vs) := by
  intro w s₀ s₁ mg mb G Y fa o pm cd doc dV kV ho hd hcd hD hmg hg args vals as hpre hlay hrd hwl hlo
  obtain rfl : dV = .none := Dflts.none hD hdf
  obtain rfl : kV = .none := Dflts.noKw hD
  obtain ⟨a, vs, ns, rfl, rfl, hobj, hints, hlen⟩ := Att.Oz hn hpre hwl
  have Np : Mm ns := fun i hi => by
    have h1 := (layableW_iff.mp (layableW_arg hlay _ (List.mem_singleton.mpr rfl))).2.2
    rw [WData.weight] at h1
    exact Nat.le_trans (wH ns i hi) h1
  refine enter_call (codeAny_mono (call w s₀ s₁ mg mb fa o pm cd doc a vs ns G Y ho (fd_plain hd) hcd hmg hobj hints hlen Np hg) fun r s' hq => ?_)
  obtain ⟨rfl, h2, h3, h4⟩ := hq
  exact ⟨.inl ⟨.bool true, .bool true, [], rfl, fun _ => rfl, .bool true, Att.O5 l _, fun _ => ⟨List.Pairwise.nil, fun _ hm => (nomatch hm)⟩⟩, h2, h3, h4⟩
theorem adT {l : PySem.W.OpenLaw} {n k : Nat} {q : Program} {loose : List Str} {XP : (Str → Option Value) → Heap → Prop} {YP : World → Heap → Prop} {d : DefRec} {K : Params → PySem.W.Frag} {x : Str} {f : List D → Option D}
    (hn : l.most = some n) (hn2 : n ≤ sizeLine) (hdf : d.params.defaults = []) (hr : gR k callerA)
    (hY : ∀ (w : World) (h : Heap), YP w h → (K w.params).In h)
    (hf : ∀ ns : List Int, ns.length ≤ n → Mm ns → f [.arr (ns.map .int)] = some (.bl true))
    (F : ∀ (w : World) (mg : Str → Option Value) (fa : Addr) (h : Heap), (K w.params).In h → h.Ns mainGlobals mg → mg d.name = some (.ref fa) →
      ∃ fd : FuncData, (∀ (s : Shared) (u : Value), BindsTo s fd ⟨[u], []⟩ [(x, u)]) ∧
        ∀ base : Heap, (K w.params).In base → base.Ns mainGlobals mg → pA l.prog w (K w.params) mg base JB k fa fd [x] (mK (K w.params) 1 f)) :
    PySem.W.WalkO q loose XP YP l.row.toRowW d [] (fun f vs => PySem.call f vs) := by
  refine Fy hn hdf fun w s₀ s₁ mg mb fa o pm cd doc a vs ns G Y ho hd hcd hmg hobj hints hlen Np hg => ?_
  have KX := hY w _ Y
  obtain ⟨fd, hb, hF⟩ := F w mg fa _ KX G.T.g hmg
  refine SN KX G.T.g G.T.b G.T.builtins G.T.nolimit hg hobj hints (Nat.le_trans hlen hn2) hr hF hb (fun H hO hS => ?_) fun H e s' z => z
  refine ⟨H, [.arr (ns.map .int)], .bl true, rfl, aH.refl H, ⟨_, _, rfl, ⟨by rw [List.length_map]; exact Nat.le_trans hlen hn2, a, _, rfl, hS, ?_⟩, rfl⟩, hf ns hlen Np, fun v H' F' _ _ _ _ p => p⟩
  clear hints hlen Np hS
  induction ns with
  | nil => exact rfl
  | cons m ns ih => exact ⟨_, _, rfl, rfl, ih⟩
section
variable {K : Fg} {h : Heap} {mg : Str → Option Value}
theorem funAt {x : Str} {st : Stmt} {ps : List Str} {f : Addr} {oc : Value} {od an : Option Addr} {osl : Array (Option Value)} {kV doc pm cdv ct : Value} (X : K.In h) (G : h.Ns mainGlobals mg)
    (a : PySem.W.nsIn K mainGlobals x = some (some (.ref f))) (l : K.lookup f = some ⟨oc, od, .func (PySem.W.fnOf x x (bK st) (bz st) (aD st) .none kV doc pm an cdv ct), osl⟩)
    (c : PySem.W.codeIn K cdv x = true) (k : PySem.W.keepIn K (.ref f) = true)
    (b : ∀ (kV doc pm : Value) (an : Option Addr) (cdv ct : Value) (us : List Value), us.length = ps.length → bindArgs (PySem.W.fnOf x x (bK st) (bz st) (aD st) .none kV doc pm an cdv ct) ⟨us, []⟩ = pure (ps.zip us)) : bL K mg x st ps :=
  ⟨f, _, Le l c k, PySem.W.mg_of X G a, (Le (st := st) l c k).binds b⟩
theorem X4 {x s : Str} {z : List Nat} {t : Tok} (X : K.In h) (G : h.Ns mainGlobals mg) (a : PySem.W.nsIn K mainGlobals x = some (some (.str s t))) (hs : s = strOf z) (hz : z.length ≤ sizeLine) : Vx K mg x (.str z) :=
  ⟨.str s, _, PySem.W.mg_of X G a, ⟨t, rfl⟩, fun F => ⟨by rw [hs], hz⟩⟩
inductive Z6 (K : Fg) : D → V → Value → Prop where
  | str {s : Str} {z : List Nat} {t : Tok} (hs : s = strOf z) (hz : z.length ≤ sizeLine) : Z6 K (.str z) (.str s) (.str s t)
  | int {i : Int} {t : Tok} : Z6 K (.int i) (.int i) (.int i t)
theorem Z6.rel {d : D} {v : V} {u : Value} (c : Z6 K d v u) : RelV v u := by cases c <;> exact ⟨_, rfl⟩
theorem Z6.rep {d : D} {v : V} {u : Value} (c : Z6 K d v u) (F : Hp) : Rep K F d v := by
  cases c with
  | str hs hz => exact ⟨by rw [hs], hz⟩
  | int => exact rfl
theorem Ig {x : Str} {a : Addr} {n : Nat} {sl : Array (Option Value)} {u1 u2 : Value} {d1 d2 : D} {v1 v2 : V} (X : K.In h) (G : h.Ns mainGlobals mg) (e : PySem.W.nsIn K mainGlobals x = some (some (.ref a)))
    (l : K.lookup a = some ⟨.type "tuple", none, .seq #[u1, u2] n, sl⟩) (c1 : Z6 K d1 v1 u1) (c2 : Z6 K d2 v2 u2) : Vx K mg x (.tup [d1, d2]) :=
  ⟨.ref a, _, PySem.W.mg_of X G e, rfl, fun F => ⟨by show 2 ≤ sizeLine; decide, a, [v1, v2], rfl, .inr ⟨_, _, _, l, rfl, rfl, rfl, by show 2 ≤ sizeLine; decide, .cons c1.rel (.cons c2.rel .nil)⟩, _, _, rfl, c1.rep F, _, _, rfl, c2.rep F, rfl⟩⟩
theorem xn {x : Str} (X : K.In h) (G : h.Ns mainGlobals mg) (e : PySem.W.nsIn K mainGlobals x = some none) : mg x = none := PySem.W.mg_none_of X G e
end
end Ev
namespace Ev
open PySem L2
theorem yU {g : GV} {b : bN} (P : Env → Prop) : ∀ (ds : List D), (∀ d ∈ ds, ∀ env, P env → ∃ e1 e2, g d env = some e1 ∧ b e1 = .nx e2 ∧ P e2) → ∀ env, P env → ∃ e', iy g b ds env = .nx e' ∧ P e'
  | [], _, env, hp => ⟨env, rfl, hp⟩
  | d :: ds, h, env, hp => by
    obtain ⟨e1, e2, h1, h2, h3⟩ := h d (List.mem_cons_self ..) env hp
    obtain ⟨e', h4, h5⟩ := yU P ds (fun d' hd => h d' (List.mem_cons_of_mem _ hd)) e2 h3
    refine ⟨e', ?_, h5⟩
    unfold iy
    rw [h1]
    simp only
    rw [h2]
    exact h4
theorem Nx {g : GV} {b : bN} {all : List D} (P : List D → Env → Prop) (h : ∀ done d rest, all = done ++ d :: rest → ∀ env, P done env → ∃ e1 e2, g d env = some e1 ∧ b e1 = .nx e2 ∧ P (done ++ [d]) e2) : ∀ (ds done : List D), all = done ++ ds → ∀ env, P done env → ∃ e', iy g b ds env = .nx e' ∧ P all e'
  | [], done, ha, env, hp => ⟨env, rfl, by rw [ha, List.append_nil]; exact hp⟩
  | d :: ds, done, ha, env, hp => by
    obtain ⟨e1, e2, h1, h2, h3⟩ := h done d ds ha env hp
    obtain ⟨e', h4, h5⟩ := Nx P h ds (done ++ [d]) (by rw [List.append_assoc]; exact ha) e2 h3
    refine ⟨e', ?_, h5⟩
    unfold iy
    rw [h1]
    simp only
    rw [h2]
    exact h4
theorem Bv {g : GV} {b : bN} (all : List D) (P : List D → Env → Prop) (h : ∀ done d rest, all = done ++ d :: rest → ∀ env, P done env → ∃ e1 e2, g d env = some e1 ∧ b e1 = .nx e2 ∧ P (done ++ [d]) e2) (env : Env) (h0 : P [] env) : ∃ e', iy g b all env = .nx e' ∧ P all e' := Nx P h all [] rfl env h0
theorem gV {a b : bN} {env e : Env} (h : a env = .nx e) : aK a b env = b e := by unfold aK; rw [h]
theorem xV {it : cz} {g : GV} {b : bN} {env e : Env} {ds : List D} (h : it env = .ok ds e) : ji it g b env = iy g b ds e := by unfold ji; rw [h]; rfl
theorem Gz {a : Ev} {g : GV} {env e e' : Env} {d : D} (h : a env = .ok d e) (h' : g d e = some e') : bj a g env = .nx e' := by unfold bj; rw [h]; show HD (g d e) = _; rw [h']; rfl
theorem xU {a : Ev} {env e : Env} {d : D} (h : a env = .ok d e) : aV a env = .rt false d e := by unfold aV; rw [h]; rfl
theorem vV {g : List D → Option D} {a : cz} {env e : Env} {ds : List D} {d : D} (h : a env = .ok ds e) (h' : g ds = some d) : aq g a env = .ok d e := by unfold aq; rw [h]; show cY (g ds) e = _; rw [h']; rfl
theorem jO {g : D → D → Option D} {a b : Ev} {env e1 e2 : Env} {x y d : D} (h1 : a env = .ok x e1) (h2 : b e1 = .ok y e2) (h3 : g x y = some d) : aF g a b env = .ok d e2 := by
  unfold aF
  rw [h1]
  show bindR (b e1) _ = _
  rw [h2]
  show cY (g x y) e2 = _
  rw [h3]
  rfl
theorem rn {g : D → D → Option D} {i : Nat} {b : Ev} {env e2 : Env} {x y d : D} {o o' : Bool} {x0 : D} (h1 : env[i]? = some (some (o', x0))) (h2 : b env = .ok y e2) (h4 : e2[i]? = some (some (o, x))) (h3 : g x y = some d) : aA g i b env = .ok d e2 := by
  unfold aA
  rw [h1]
  show bindR (b env) _ = _
  rw [h2]
  show (match e2[i]? with | some (some (_, x)) => cY (g x y) e2 | _ => .stuck) = _
  rw [h4]
  show cY (g x y) e2 = _
  rw [h3]
  rfl
theorem jA {a : Ev} {r : cz} {env e1 e2 : Env} {d : D} {ds : List D} (h1 : a env = .ok d e1) (h2 : r e1 = .ok ds e2) : aa a r env = .ok (d :: ds) e2 := by
  unfold aa
  rw [h1]
  show bindR (r e1) _ = _
  rw [h2]
  rfl
theorem zc {env : Env} : ak env = .ok [] env := rfl
theorem Uv {r : cz} {env e : Env} {ds : List D} (h : r env = .ok ds e) (hz : ds.length ≤ sizeLine) : cJ r env = .ok (.lst ds) e := by
  unfold cJ
  rw [h]
  show (if ds.length ≤ sizeLine then _ else _) = _
  rw [if_pos hz]
theorem Yv {f : List D → Option (D × D)} {i : Nat} {a : cz} {env e1 : Env} {ds : List D} {x0 x d x' : D} (h0 : env[i]? = some (some (true, x0))) (h1 : a env = .ok ds e1) (h2 : e1[i]? = some (some (true, x))) (h3 : f (x :: ds) = some (d, x')) : cP f i a env = .ok d (e1.set i (some (true, x'))) := by
  unfold cP
  rw [h0]
  show bindR (a env) _ = _
  rw [h1]
  show (match e1[i]? with | some (some (true, x)) => (match f (x :: ds) with | some (d, x') => R.ok d (e1.set i (some (true, x'))) | none => R.stuck) | _ => R.stuck) = _
  rw [h2]
  show (match f (x :: ds) with | some (d, x') => R.ok d (e1.set i (some (true, x'))) | none => .stuck) = _
  rw [h3]
theorem Ep {i j : Int} (h : iZ i j = true) : lU (.int i) (.int j) = some (.int (i * j)) := by
  show gI iZ (fun i j => D.int (i * j)) (.int i) (.int j) = _
  unfold gI
  simp only
  rw [if_pos h]
theorem Up {a b : List D} (h : a.length + b.length ≤ sizeLine) : bU (.lst a) (.lst b) = some (.lst (a ++ b)) := by
  show (if a.length + b.length ≤ sizeLine then _ else _) = _
  rw [if_pos h]
theorem G6 {n : Nat} {ev : bN} {x d x' : D} {r : List D} {env : Env} (h : ev (uE n x r) = .rt false d env) (h0 : env[0]? = some (some (true, x'))) : gf n ev (x :: r) = some (d, x') := by
  unfold gf
  simp only
  rw [h]
  simp only
  rw [h0]
theorem Wh {n : Nat} {ev : bN} {d : D} {ds : List D} {env : Env} (h : ev (envOf n ds) = .rt false d env) : gb n ev ds = some d := by
  unfold gb
  rw [h]
theorem xG {lo n : Nat} {it : cz} {g : GV} {c : cO} {e : Ev} {env aB cN : Env} {ds ys : List D} (h1 : it env = .ok ds aB) (hl : aB.length = lo) (h2 : zV g c e ds (aB ++ List.replicate (n - lo) none) = .ok ys cN) (hz : ys.length ≤ sizeLine) : dW lo n it g c e env = .ok (.lst ys) (cN.take lo) := by
  unfold dW
  rw [h1]
  show (if aB.length = lo then _ else _) = _
  rw [if_pos hl, h2]
  show (if ys.length ≤ sizeLine then _ else _) = _
  rw [if_pos hz]
theorem dig (n : Int) (m : Nat) (hm : 0 < m) : ∃ d : Nat, d < m ∧ n % (m : Int) = (d : Int) := by
  have h1 : 0 ≤ n % (m : Int) := Int.emod_nonneg n (by omega)
  have h2 : n % (m : Int) < m := Int.emod_lt_of_pos n (by omega)
  exact ⟨(n % (m : Int)).toNat, by omega, by omega⟩
theorem LK {α : Type} {xs : List α} {d : Nat} (h : d < xs.length) : pq xs (d : Int) = some xs[d] := oU (List.getElem?_eq_getElem h)
end Ev
namespace L2
open PySem PySem.Spec PyProof.Rows PySem.Builtin PySem.Builtin.Str
section
variable {X : Cx} {o e : Expr} {to te : TE} {name : Str} {apos cpos : Pos} {id : String} {r : V → List V → Hp → VK → Prop} {t : TA}
def Zb : R2 := fun x y H Q => ∃ z k, x = .str z ∧ y = .int (k : Nat) ∧ 2 ≤ k ∧ 0 < z.length ∧ z.length * k ≤ sizeLine ∧ Q (.str ⟨(List.replicate k z.cps.toList).flatten.toArray⟩) H
theorem Ir (c : Array Nat) : ∀ (k : Nat) (acc : Array Nat), (List.replicate k c).foldl (· ++ ·) acc = ⟨acc.toList ++ (List.replicate k c.toList).flatten⟩
  | 0, acc => by simp
  | k + 1, acc => by
    rw [List.replicate_succ, List.foldl_cons, Ir c k, List.replicate_succ]
    simp
theorem W6 : kh X (binaryOp .Mult) Zb := by
  intro pins s σ H x y v u Q I rx ry h
  obtain ⟨z, k, rfl, rfl, hk2, hz0, hz, q⟩ := h
  obtain ⟨t, rfl⟩ := rx
  obtain ⟨t', rfl⟩ := ry
  have hn := sO
  have ai1 : k ≤ sizeLine := Nat.le_trans (Nat.le_mul_of_pos_left k hz0) hz
  have c1 : ¬ ((k : Int) < 1) := by omega
  have c2 : ((k : Int) == 1 || z.length == 0) = false := by
    rw [Bool.or_eq_false_iff]
    exact ⟨by rw [beq_eq_false_iff_ne]; omega, by rw [beq_eq_false_iff_ne]; omega⟩
  have ahz : (⟨(List.replicate k z.cps.toList).flatten.toArray⟩ : Str).length = z.length * k := by
    show (List.replicate k z.cps.toList).flatten.toArray.size = _
    rw [List.size_toArray, len_rep, Array.length_toList]
    exact Nat.mul_comm _ _
  refine PySem.P.mul_str ?_ (fun _ _ => ?_) (fun _ _ => ?_) ?_
  · have h1 : ¬ ((k : Int) < -(2 ^ 63 : Int)) := by omega
    have h2 : ¬ ((k : Int) ≥ 2 ^ 63) := by omega
    rw [decide_eq_false h1, decide_eq_false h2]; rfl
  · intro hgt
    have : (z.length : Int) ≤ (2 ^ 63 - 1) / (k : Int) := by
      refine Int.le_ediv_of_mul_le (by omega) ?_
      have : ((z.length * k : Nat) : Int) ≤ 2 ^ 63 - 1 := by omega
      rwa [Int.natCast_mul] at this
    omega
  · rw [Int.toNat_natCast]
    show decide (_ > _) = false
    exact decide_eq_false (Nat.not_lt.mpr hz)
  · rw [if_neg c1, if_neg (by rw [c2]; exact Bool.false_ne_true), Int.toNat_natCast, Ir]
    have e0 : (⟨(#[] : Array Nat).toList ++ (List.replicate k z.cps.toList).flatten⟩ : Array Nat) = (List.replicate k z.cps.toList).flatten.toArray := by simp
    rw [e0]
    exact ⟨by rw [ahz]; exact hz, ⟨.str ⟨(List.replicate k z.cps.toList).flatten.toArray⟩, H, I.tok _, ⟨_, rfl⟩, q⟩⟩
end
end L2
namespace Ev
open PySem PySem.Spec PyProof.Rows L2 PySem.Builtin
section
variable {X : Cx} {C : Cfg} {pos : Pos} {e x y : Expr} {a b : Ev}
def ahv : D → Option D
  | .int i => some (.int (-i))
  | _ => none
def Nt : D → D → Option D
  | .str z, .int i => if 2 ≤ i ∧ 0 < z.length ∧ z.length * i.toNat ≤ sizeLine then some (.str (List.replicate i.toNat z).flatten) else none
  | _, _ => none
theorem Xc : nu C Zb Nt := by
  intro Pr F env σ H x y d vx vy Q r px py e q
  unfold Nt at e
  split at e
  · rename_i z i
    split at e
    · rename_i hc
      cases e
      obtain ⟨rfl, _⟩ := px.str
      cases py.int
      have hl : (strOf z).length = z.length := cD z
      refine ⟨strOf z, i.toNat, rfl, by rw [Int.toNat_of_nonneg (by omega)], by omega, by rw [hl]; exact hc.2.1, by rw [hl]; exact hc.2.2, ?_⟩
      refine q _ H F r (aH.refl F) ⟨by simp [strOf], ?_⟩
      have : (List.replicate i.toNat z).flatten.length = i.toNat * z.length := len_rep z i.toNat
      rw [this, Nat.mul_comm]
      exact hc.2.2
    · cases e
  · cases e
theorem ady : Bi X C .Mult Nt := ⟨_, W6, Xc⟩
def acR : D → Option D
  | .str z => some (.str z.reverse)
  | _ => none
def afY (a : Ev) : Ev := fun env => bindR (a env) fun d aB => cY (acR d) aB
def ZG (x : List Nat) : List D := x.zipIdx.map fun p => .tup [.int (p.2 : Nat), .str [p.1]]
end
end Ev
namespace Ev
open PySem PySem.Spec PyProof.Rows L2 PySem.Builtin
structure Pr where
  p : Addr
  k : Key
  kv : Value
  v : Value
end Ev
namespace L2
open PySem PySem.Spec PyProof.Rows PySem.Builtin PySem.Builtin.Str
section
variable {X : Cx}
theorem Jl (v : Int) (n d : Nat) : max 0 (min (if v < 0 then v + (n : Int) else v) (n : Int)) = ((HT.dJ n d (some v) : Nat) : Int) := by
  show _ = (((if v < 0 then (v + (n : Int)).toNat else min v.toNat n) : Nat) : Int)
  by_cases hv : v < 0
  · simp only [if_pos hv]; omega
  · simp only [if_neg hv]; omega
theorem range_one (a b : Nat) : sliceRange (a : Int) (b : Int) 1 = List.range' a (b - a) := by
  unfold sliceRange
  have h1 : (1 : Int) > 0 := by decide
  simp only [if_pos h1]
  have hc : (if (a : Int) < (b : Int) then ((b : Int) - (a : Int) + 1 - 1) / 1 else 0).toNat = b - a := by
    by_cases h : (a : Int) < (b : Int)
    · rw [if_pos h, Int.ediv_one]; omega
    · rw [if_neg h]; omega
  rw [hc, List.range'_eq_map_range]
  apply List.map_congr_left
  intro k _
  omega
theorem RV (lo hi : Option Int) (n : Nat) : strSliceIndices lo hi 1 n = List.range' (HT.dJ n 0 lo) (HT.dJ n n hi - HT.dJ n 0 lo) := by
  have h1 : (1 : Int) > 0 := by decide
  unfold strSliceIndices
  simp only [if_pos h1]
  rw [← range_one]
  congr 1
  · cases lo with
    | none => rfl
    | some v => exact Jl v n 0
  · cases hi with
    | none => rfl
    | some v => exact Jl v n n
theorem Iu (c : List Nat) : ∀ (m a : Nat), a + m ≤ c.length → (List.range' a m).filterMap (c.toArray[·]?) = (c.drop a).take m
  | 0, a, _ => by simp
  | m + 1, a, h => by
    rw [List.range'_succ, List.filterMap_cons]
    have e : c.toArray[a]? = some c[a] := by simp
    rw [e, Iu c m (a + 1) (by omega), List.drop_eq_getElem_cons (l := c) (i := a) (by omega), List.take_succ_cons]
def zr (z : List Nat) (lo hi : Option Int) : List Nat := (z.drop (HT.dJ z.length 0 lo)).take (HT.dJ z.length z.length hi - HT.dJ z.length 0 lo)
def agU : V → Option Int → Option Int → Hp → VK → Prop := fun x lo hi H Q => ∃ z : List Nat, x = .str ⟨z.toArray⟩ ∧ z.length ≤ sizeLine ∧ Q (.str ⟨(zr z lo hi).toArray⟩) H
theorem part_of {v : Value} {o : Option Int} (p : IsPart v o) : ∃ l : Option (Int × Tok), v = partValue l ∧ l.map (·.1) = o := by
  cases p with
  | none => exact ⟨none, rfl, rfl⟩
  | int i t => exact ⟨some (i, t), rfl, rfl⟩
theorem aaj : Mh X agU := by
  intro pins s σ H x v vl vu lo hi sl Q I rx hs pl pu h
  obtain ⟨z, rfl, hz, q⟩ := h
  obtain ⟨t, rfl⟩ := rx
  obtain ⟨l, rfl, el⟩ := part_of pl
  obtain ⟨u, rfl, eu⟩ := part_of pu
  refine ⟨"str", _, PySem.F.slot_str_getitem.lookup, typeIs_str s _ t, ?_⟩
  obtain ⟨o, h1, h2, h3⟩ := hs
  refine wpAny_getItem_str_slice (l := l) (u := u) (st := none) ⟨o, h1, h2, h3⟩ rfl ?_
  have hp : slicePicked ⟨z.toArray⟩ l u none = List.range' (HT.dJ z.length 0 lo) (HT.dJ z.length z.length hi - HT.dJ z.length 0 lo) := by
    unfold slicePicked
    rw [el, eu]
    show strSliceIndices lo hi 1 z.toArray.size = _
    rw [List.size_toArray, RV]
  have hle : HT.dJ z.length 0 lo + (HT.dJ z.length z.length hi - HT.dJ z.length 0 lo) ≤ z.length ∨ HT.dJ z.length z.length hi - HT.dJ z.length 0 lo = 0 := by
    have a1 := HT.CV z.length 0 (Nat.zero_le _) lo
    have a2 := HT.CV z.length z.length (Nat.le_refl _) hi
    omega
  have XS : ((slicePicked ⟨z.toArray⟩ l u none).filterMap ((⟨z.toArray⟩ : Str).cps[·]?)) = zr z lo hi := by
    rw [hp]
    unfold zr
    rcases hle with hle | hle
    · exact Iu z _ _ hle
    · rw [hle]; simp
  unfold sliceMade
  split
  · rename_i hc
    have hlen : (slicePicked ⟨z.toArray⟩ l u none).length = z.length := by
      have := (Bool.and_eq_true_iff.mp hc).2
      have := eq_of_beq this
      simpa [Str.length] using this
    have hw : zr z lo hi = z := by
      rw [hp, List.length_range'] at hlen
      unfold zr
      have a2 := HT.CV z.length z.length (Nat.le_refl _) hi
      have a0 : HT.dJ z.length 0 lo = 0 ∨ z.length = 0 := by omega
      rcases a0 with a0 | a0
      · rw [a0, List.drop_zero, List.take_of_length_le (by omega)]
      · have : z = [] := List.eq_nil_of_length_eq_zero a0
        subst this; simp
    rw [hw] at q
    exact ⟨.str ⟨z.toArray⟩, H, I, ⟨t, rfl⟩, q⟩
  · rw [XS]
    refine ⟨?_, ⟨.str ⟨(zr z lo hi).toArray⟩, H, I.tok _, ⟨_, rfl⟩, q⟩⟩
    show (zr z lo hi).toArray.size ≤ sizeLine
    rw [List.size_toArray]
    unfold zr
    rw [List.length_take, List.length_drop]
    omega
end
end L2
namespace Ev
open PySem PySem.Spec PyProof.Rows L2 PySem.Builtin
section
variable {X : Cx} {C : Cfg} {pos : Pos} {x y : Expr} {a b : Ev}
def acN : D → Option Int → Option Int → Option D
  | .str z, lo, hi => some (.str (zr z lo hi))
  | _, _, _ => none
def afX (a : Ev) (lo hi : xK) : Ev := fun env => bindR (a env) fun d aB => bindR (lo aB) fun l cN => bindR (hi cN) fun u Ah => cY (acN d l u) Ah
theorem U6 (z : List Nat) (lo hi : Option Int) : (zr z lo hi).length ≤ z.length := by
  unfold zr
  rw [List.length_take, List.length_drop]
  omega
def ahw : D → D → Option D
  | .lst a, .lst b => if a.length + b.length ≤ sizeLine then some (.lst (a ++ b)) else none
  | _, _ => none
end
end Ev
namespace HT
open PySem PySem.Spec PyProof PyProof.Rows PySem.Builtin
section
variable {prog : Program} {w : World} {A : Around} {E : Value → Shared → Prop} {s : Shared}
theorem rJ {t sl : Addr} {items : Array Value} {vl vu : Value} {lo hi : Option Int} {Q : Value → Shared → Prop} (ht : IsTup s.heap t items) (hs : s.heap.IsSliceOf sl vl vu .none) (pl : IsPart vl lo) (pu : IsPart vu hi)
    (hw : dJ items.size 0 lo = 0 ∧ dJ items.size items.size hi = items.size)
    (h : Q (.ref t) s) : wpAny (model prog w) A (getItem (.ref t) (.ref sl)) Q E s := by
  obtain ⟨os, hos, hcs, hds⟩ := id hs
  have hTs : s.TypeIs (.ref sl) "slice" := ⟨os, hos, hcs⟩
  unfold getItem
  try with_reducible refine wpAny_holding ?_
  first | refine wpAny_bind (wpAny_pure ?_) | skip
  refine wpAny_bind (wpAny_sequenceKey ht.typeIs (by decide) ?_)
  refine wpAny_bind (wpAny_callSpecial?_slot (name := Str.ofString "__getitem__") ht.typeIs PyProof.Rows.slot_tuple_getitem
    (wpAny_call_entry PyProof.Rows.slot_tuple_getitem ht.typeIs entry_tuple_getitem ?_ (args_tuple_getitem _ _)))
  show wpAny _ _ (Builtin.Tuple.tupleItemsOf (.ref t) >>= _) _ _ s
  refine wpAny_bind (tupleItemsOf_ ht ?_)
  refine wpAny_bind (wpAny_typeOf hTs ?_)
  rw [if_pos (by decide)]
  refine wpAny_bind (nC hs pl pu ?_)
  have ahj : (((dJ items.size 0 lo : Nat) : Int) == 0 && (1 : Int) == 1 && (dJ items.size items.size hi - dJ items.size 0 lo) == items.size) = true := by
    rw [hw.1, hw.2]
    simp
  show wpAny _ _ (if (((dJ items.size 0 lo : Nat) : Int) == 0 && (1 : Int) == 1 && (dJ items.size items.size hi - dJ items.size 0 lo) == items.size) = true then _ else _) _ _ s
  rw [if_pos ahj]
  refine wpAny_bind (m := Builtin.Tuple.tupleIsExact (.ref t)) ?_
  unfold Builtin.Tuple.tupleIsExact
  refine wpAny_bind (wpAny_typeOf ht.typeIs ?_)
  refine wpAny_pure ?_
  rw [if_pos (by decide)]
  exact wpAny_bind (wpAny_rule (wpAny_pure ⟨_, rfl, wpAny_pure h⟩))
end
end HT
namespace L2
open PySem PySem.Spec PyProof.Rows
section
variable {X : Cx}
def aec (K : PySem.W.Frag) : V → Option Int → Option Int → Hp → VK → Prop := fun x lo hi H Q => ∃ a xs, x = .ref a ∧ nO K H a xs ∧ (HT.dJ xs.length 0 lo = 0 ∧ HT.dJ xs.length xs.length hi = xs.length) ∧ Q (.ref a) H
theorem GC : Mh X (aec X.K) := by
  intro pins s σ H x v vl vu lo hi sl Q I rx hs pl pu h
  obtain ⟨a, xs, rfl, hx, hw, q⟩ := h
  cases rx
  obtain ⟨its, r, ht, hz⟩ := I.tuple hx
  have hlen : its.toArray.size = xs.length := by rw [List.size_toArray]; exact r.length.symm
  refine ⟨"tuple", _, PyProof.Rows.slot_tuple_getitem.lookup, ht.typeIs, ?_⟩
  refine HT.rJ ht hs pl pu (by rw [hlen]; exact hw) ?_
  exact ⟨.ref a, H, I, rfl, q⟩
end
end L2
namespace Ev
open PySem PySem.Spec PyProof.Rows L2
section
variable {X : Cx} {C : Cfg} {pos : Pos} {x : Expr} {a : Ev}
def La : D → Option Int → Option Int → Option D
  | .tup xs, lo, hi => if HT.dJ xs.length 0 lo = 0 ∧ HT.dJ xs.length xs.length hi = xs.length then some (.tup xs) else some (.tup (cutD xs lo hi))
  | _, _, _ => none
def Iw (a : Ev) (lo hi : xK) : Ev := fun env => bindR (a env) fun d aB => bindR (lo aB) fun l cN => bindR (hi cN) fun u Ah => cY (La d l u) Ah
theorem Rg {Pr F : Hp} {env : Env} {σ : L2.St} {H : Hp} {x d : D} {v : V} {lo hi : Option Int} {Q : VK} (r : Rel C Pr F env σ H) (p : Rep C.K F x v) (e : La x lo hi = some d) (q : ∀ v H' F', Rel C Pr F' env σ H' → aH F F' → Rep C.K F' d v → Q v H') :
    aav C.K v lo hi H Q ∨ aec C.K v lo hi H Q := by
  unfold La at e
  split at e
  · obtain ⟨z, a, vs, rfl, h1, _, h2⟩ := gJ.tup r.fr (.inl p)
    split at e
    · rename_i hn
      cases e
      exact .inr ⟨a, vs, rfl, h1, by rw [h2.length]; exact hn, q _ H F r (aH.refl F) p⟩
    · rename_i hn
      cases e
      refine .inl ⟨a, vs, rfl, h1, by rw [h2.length]; exact hn, fun b hb => ?_⟩
      obtain ⟨r2, s2⟩ := r.new (o := .tup (xr vs lo hi)) hb
      exact q _ _ _ r2 s2 ⟨Nat.le_trans (qw _ _ _) z, b, _, rfl, nO.of aQ, aW.mono s2 _ _ (h2.cut lo hi)⟩
  · cases e
theorem Mp {lo hi : Option Expr} {el eh : xK} {p2 : Pos} (G : Good X C) (ha : PX X C x a) (hl : Vu X C lo el) (hh : Vu X C hi eh) : PX X C (.Subscript x (.Slice lo hi none p2) pos) (Iw a el eh) := by
  have h := yt (pos := pos) (p2 := p2) (Mh.or Cr GC) ha hl hh
  rw [G.K] at h
  refine h.imp fun σ H Q hq => ?_
  obtain ⟨Pr, F, env, env', d, r, e, q⟩ := hq
  obtain ⟨x, aB, e1, e2⟩ := aO e
  obtain ⟨l, cN, e3, e4⟩ := aO e2
  obtain ⟨u, Ah, e5, e6⟩ := aO e4
  obtain ⟨e7, rfl⟩ := d8 e6
  refine ⟨Pr, F, env, aB, x, r, e1, fun v H1 F1 r1 s1 p1 => ⟨Pr, F1, aB, cN, l, r1, e3, fun H2 F2 r2 s2 => ⟨Pr, F2, cN, env', u, r2, e5, fun H3 F3 r3 s3 => ?_⟩⟩⟩
  exact Rg r3 (Rep.mono (s2.trans s3) _ _ p1) e7 fun v H' F' r' s' p' => q v H' F' r' (((s1.trans s2).trans s3).trans s') p'
end
end Ev
namespace Ev
open PySem PySem.Spec PyProof.Rows L2
section
variable {X : Cx} {C : Cfg} {pos : Pos} {x y z : Expr} {a b c : Ev}
def Ny (g g' : D → D → Option D) (a b c : Ev) : Ev := fun env => bindR (a env) fun u e1 => bindR (b e1) fun v e2 => match g u v with
  | some (.bl k) => if k = true then bindR (c e2) fun t e3 => cY (g' v t) e3 else .ok (.bl false) e2
  | _ => .stuck
end
end Ev
namespace Ev
open PySem PySem.Spec PyProof.Rows L2 PySem.Builtin
section
variable {X : Cx} {C : Cfg} {pos : Pos} {e e2 : Expr}
def Z8 (x y : List D) : List D := (x.zip y).map fun p => .tup [p.1, p.2]
end
end Ev
namespace L2
open PySem PySem.Spec PyProof.Rows PySem.Builtin
section
variable {X : Cx}
def Rt : R2 := fun x y H Q => ∃ (z : Str) (b : Bool), x = .str z ∧ y = .int (if b then 1 else 0) ∧ z.length ≤ sizeLine ∧ Q (.str (if b then z else ⟨#[]⟩)) H
theorem R6 : kh X (binaryOp .Mult) Rt := by
  intro pins s σ H x y v u Q I rx ry h
  obtain ⟨z, b, rfl, rfl, hz, q⟩ := h
  obtain ⟨t, rfl⟩ := rx
  obtain ⟨t', rfl⟩ := ry
  have hn := sO
  cases b with
  | false =>
    refine PySem.P.mul_str (by decide) (fun h _ => absurd (by decide) h) (fun h _ => absurd (by decide) h) ?_
    exact ⟨by show 0 ≤ sizeLine; decide, ⟨.str ⟨#[]⟩, H, I.tok _, ⟨_, rfl⟩, q⟩⟩
  | true =>
    refine PySem.P.mul_str (by decide) (fun _ h => absurd h (by simp)) (fun _ h => absurd h (by simp)) ?_
    exact ⟨.str z, H, I, ⟨_, rfl⟩, q⟩
end
end L2
namespace Ev
open PySem PySem.Spec PyProof.Rows L2 PySem.Builtin
section
variable {X : Cx} {C : Cfg}
def Er : D → D → Option D
  | .str z, .int i => if i = 0 then some (.str []) else if i = 1 then some (.str z) else none
  | _, _ => none
theorem Sd : nu C Rt Er := by
  intro Pr F env σ H x y d vx vy Q r px py e q
  unfold Er at e
  split at e
  · rename_i z i
    obtain ⟨rfl, hz⟩ := px.str
    cases py.int
    split at e
    · rename_i h0
      cases e
      subst h0
      exact ⟨strOf z, false, rfl, rfl, by rw [cD]; exact hz, q _ H F r (aH.refl F) ⟨rfl, Nat.zero_le _⟩⟩
    · split at e
      · rename_i h1
        cases e
        subst h1
        exact ⟨strOf z, true, rfl, rfl, by rw [cD]; exact hz, q _ H F r (aH.refl F) ⟨rfl, hz⟩⟩
      · cases e
  · cases e
theorem YJ : Bi X C .Mult Er := ⟨_, R6, Sd⟩
end
end Ev
namespace Ev
open PySem PySem.Spec PyProof.Rows L2
def af0 (f : List D → Option (D × D)) (c : Ev) (a : cz) : Ev := fun env => bindR (c env) fun x aB => bindR (a aB) fun ds cN => match f (x :: ds) with
  | some (d, _) => .ok d cN
  | none => .stuck
end Ev
namespace Ev
open PySem PySem.Spec PyProof.Rows L2
section
variable {X : Cx} {C : Cfg} {pos : Pos}
theorem X5 {K : Fg} {h : Heap} {mg : Str → Option Value} {x : Str} {i : Int} {t : Tok} (X : K.In h) (G : h.Ns mainGlobals mg) (a : PySem.W.nsIn K mainGlobals x = some (some (.int i t))) : Vx K mg x (.int i) :=
  ⟨.int i, _, PySem.W.mg_of X G a, ⟨t, rfl⟩, fun F => rfl⟩
end
end Ev
namespace Ev
open PySem PySem.Spec PyProof.Rows L2
section
variable {X : Cx} {C : Cfg} {pos : Pos} {n : Str}
def Y6 (i : Nat) (a : Ev) : bN := fun env => match env[i]? with
  | some (some (true, .lst _)) => dm (a env) fun d aB => (match aB[i]?, d with
    | some (some (true, .lst xs)), .lst zs => if xs.length + zs.length ≤ sizeLine then .nx (aB.set i (some (true, .lst (xs ++ zs)))) else .stuck
    | _, _ => .stuck)
  | _ => .stuck
end
end Ev
namespace SX
open PySem PySem.Spec PyProof.Rows L2 PySem.Builtin
def uP (ys : List Str) (x : Str) : List Str := if x ∈ ys then ys else ys ++ [x]
def wI (zs : List Str) : List Str := zs.foldl uP []
theorem Vq (ys : List Str) (x : Str) : (uP ys x).length ≤ ys.length + 1 := by
  unfold uP; split
  · omega
  · simp
theorem Gi (zs : List Str) : ∀ ys : List Str, (zs.foldl uP ys).length ≤ ys.length + zs.length := by
  induction zs with
  | nil => intro ys; exact Nat.le_refl _
  | cons z zs ih => intro ys; rw [List.foldl_cons, List.length_cons]; have := ih (uP ys z); have := Vq ys z; omega
def led (w : World) : Bool := !(w.params.followText "set-order")
structure TOk (P : Program) (w : World) (es : Array (Int × Value)) (t : SetTable) (ys : List Str) : Prop where
  el : ElemsOf (strKind P w) es.toList
  tx : ∃ ss : List Str, StrsAre (es.toList.map (·.2)) ss ∧ ss.Perm ys
  fit : t.fits es.size = true
  ld : t.led = led w
  pl : es.size ≠ 0 → t.plain = false
def oY (P : Program) (w : World) (h : Heap) (a : Addr) (ys : List Str) : Prop :=
  ∃ o es ep t, h.get? a = some o ∧ o.ExactSet ∧ o.data = .set es ep t ∧ TOk P w es t ys
theorem oY.keep {P : Program} {w : World} {h h' : Heap} {a : Addr} {ys : List Str} (x : oY P w h a ys) (k : ∀ o, h.get? a = some o → h'.get? a = some o) : oY P w h' a ys :=
  let ⟨o, es, ep, t, e, r⟩ := x; ⟨o, es, ep, t, k o e, r⟩
theorem Gw {vs : List Value} {ss : List Str} (h : StrsAre vs ss) : vs.length = ss.length := by
  induction h with
  | nil => rfl
  | cons _ _ _ ih => simp [ih]
theorem Q3 {vs : List Value} {ss : List Str} (h : StrsAre vs ss) : ∀ v ∈ vs, ∃ x t, v = .str x t ∧ x ∈ ss := by
  induction h with
  | nil => intro v hv; cases hv
  | cons y t _ ih =>
    intro v hv
    rcases List.mem_cons.mp hv with rfl | hv
    · exact ⟨y, t, rfl, List.mem_cons_self⟩
    · obtain ⟨x, t, e, m⟩ := ih v hv; exact ⟨x, t, e, List.mem_cons_of_mem _ m⟩
theorem Om {vs : List Value} {ss : List Str} (h : StrsAre vs ss) : ∀ x ∈ ss, ∃ t, Value.str x t ∈ vs := by
  induction h with
  | nil => intro x hx; cases hx
  | cons y t _ ih =>
    intro x hx
    rcases List.mem_cons.mp hx with rfl | hx
    · exact ⟨t, List.mem_cons_self⟩
    · obtain ⟨t, m⟩ := ih x hx; exact ⟨t, List.mem_cons_of_mem _ m⟩
theorem Q4 {vs us : List Value} {ss rs : List Str} (h : StrsAre vs ss) (g : StrsAre us rs) : StrsAre (vs ++ us) (ss ++ rs) := by
  induction h with
  | nil => exact g
  | cons y t _ ih => exact .cons y t ih
theorem qR {vs us : List Value} (p : us.Perm vs) : ∀ {ss : List Str}, StrsAre vs ss → ∃ rs, StrsAre us rs ∧ rs.Perm ss := by
  induction p with
  | nil => intro ss h; exact ⟨ss, h, .rfl⟩
  | cons x _ ih =>
    intro ss h
    cases h with
    | cons y t h =>
      obtain ⟨rs, h1, h2⟩ := ih h
      exact ⟨y :: rs, .cons y t h1, h2.cons y⟩
  | swap x y l =>
    intro ss h
    cases h with
    | cons a t h => cases h with
      | cons b u h => exact ⟨b :: a :: _, .cons b u (.cons a t h), .swap _ _ _⟩
  | trans _ _ ih1 ih2 =>
    intro ss h
    obtain ⟨rs, h1, h2⟩ := ih2 h
    obtain ⟨qs, h3, h4⟩ := ih1 h1
    exact ⟨qs, h3, h4.trans h2⟩
theorem TOk.size {P : Program} {w : World} {es : Array (Int × Value)} {t : SetTable} {ys : List Str} (x : TOk P w es t ys) : es.size = ys.length := by
  obtain ⟨ss, h1, h2⟩ := x.tx
  rw [← h2.length_eq, ← Gw h1, List.length_map, Array.length_toList]
theorem aaX (t : SetTable) (n : Nat) : (t.orStandIn n).led = t.led ∧ (t.plain = false → (t.orStandIn n).plain = false) := by
  unfold SetTable.orStandIn
  split
  · exact ⟨rfl, id⟩
  · exact ⟨rfl, fun _ => rfl⟩
theorem Xh (t : SetTable) (es : Array (Int × Value)) (h : Int) (x : Value) : (layNew t es h x).2.1.led = t.led ∧ (t.plain = false → (layNew t es h x).2.1.plain = false) := by
  unfold layNew
  split
  · exact aaX _ _
  · exact ⟨rfl, fun _ => rfl⟩
theorem S5 {mask finger moves : Nat} {l p : Bool} {hs : Array Int} {t : SetTable} {o : Array Nat} (h : SetTable.laid mask finger moves l p hs = some (t, o)) : t.led = l ∧ t.plain = p := by
  unfold SetTable.laid at h
  cases h1 : SetTable.layClean mask hs with
  | none => rw [h1] at h; cases h
  | some ow => rw [h1] at h; injection h with h; injection h with h _; subst h; exact ⟨rfl, rfl⟩
theorem OJ (t : SetTable) (es : Array (Int × Value)) (n : Nat) : (relayAll t es n).2.1.led = t.led ∧ (t.plain = false → (relayAll t es n).2.1.plain = false) := by
  unfold relayAll
  split
  · rename_i t' order e
    obtain ⟨h1, h2⟩ := S5 e
    dsimp only
    split
    · exact ⟨h1, fun z => h2.trans z⟩
    · exact ⟨rfl, fun _ => rfl⟩
  · exact ⟨rfl, fun _ => rfl⟩
section
variable {P : Program} {w : World} {A : Around} {E : Value → Shared → Prop} {s : Shared} {a : Addr}
theorem QW (b : Bool) {n : String} {s₁ : Shared} {Q : Unit → Shared → Prop} (h : Q () s₁) : wpAny (model P w) A (match b with | true => rule n | false => pure ()) Q E s₁ := by
  cases b
  · exact wpAny_pure h
  · exact wpAny_rule h
theorem store {o : Obj} {es es' : Array (Int × Value)} {ep : Nat} {t t' : SetTable} {ys : List Str} {Q : Unit → Shared → Prop} (ho : s.heap.get? a = some o) (hx : o.ExactSet) (hd : o.data = .set es ep t) (k : TOk P w es' t' ys) (hz : ys.length < scanBound)
    (h : ∀ g o', Heap.SameBut a s.heap g → g.get? a = some o' → o'.ExactSet → o'.data = .set es' (ep + 1) t' → Q () { s with heap := g }) : wpAny (model P w) A (storeSet a es' t') Q E s := by
  have hb : es'.size < scanBound := by rw [k.size]; exact hz
  refine wpAny_storeSet_of ho hd ?_ (fits_of_scanBound hb)
  have e := Heap.get?_update_self (Obj.putSet es' t') ho (by rw [putSet_of es' t' hd]; rfl)
  rw [putSet_of es' t' hd] at e
  exact h _ _ (Heap.SameBut.update s.heap a _) e hx rfl
theorem Qw {k : Str} {tk : Tok} {o : Obj} {es : Array (Int × Value)} {ep : Nat} {t : SetTable} {ys : List Str} {Q : Bool → Shared → Prop} (ho : s.heap.get? a = some o) (hx : o.ExactSet) (hd : o.data = .set es ep t) (x : TOk P w es t ys) (hz : ys.length + 1 < scanBound)
    (h : ∀ g b, Heap.SameBut a s.heap g → oY P w g a (uP ys k) → Q b { s with heap := g }) : wpAny (model P w) A (setAddHashed a (.str k tk) ((strKind P w).hash k)) Q E s := by
  have hk : (strKind P w).is k (.str k tk) = true := strKind_is P w k tk
  have hsc : (Value.str k tk).scannable = true := rfl
  have hb : es.size < scanBound := by rw [x.size]; omega
  unfold setAddHashed setAddHashedIn
  refine wpAny_holding (wpAny_bind (wpAny_setState_of ho hd x.fit ?_))
  dsimp only
  rw [if_pos (byScan_of hsc hb x.el)]
  unfold setAddByScan
  refine wpAny_bind (wpAny_bind (wpAny_rule (wpAny_bind (wpAny_setScan_of hk ho hd x.fit x.el ?_))))
  obtain ⟨ss, s1, s2⟩ := x.tx
  cases hr : es.toList.findIdx? (fun e => (strKind P w).is k e.2) with
  | some j =>
    dsimp only
    obtain ⟨hj, hpj, _⟩ := List.findIdx?_eq_some_iff_getElem.mp hr
    refine wpAny_pure (wpAny_pure ?_)
    have hm : k ∈ ys := by
      obtain ⟨y, u, e1, e2⟩ := Q3 s1 (es.toList[j].2) (List.mem_map.mpr ⟨_, List.getElem_mem hj, rfl⟩)
      rw [e1] at hpj
      have : k = y := (strKind P w).inj _ _ _ hpj (strKind_is P w y u)
      subst this
      exact s2.mem_iff.mp e2
    have := h s.heap false (Heap.SameBut.refl a s.heap) (by rw [uP, if_pos hm]; exact ⟨o, es, ep, t, ho, hx, hd, x⟩)
    cases s; exact this
  | none =>
    dsimp only
    have hm : k ∉ ys := fun z => by
      obtain ⟨u, hu⟩ := Om s1 k (s2.mem_iff.mpr z)
      obtain ⟨e, he, e2⟩ := List.mem_map.mp hu
      have := List.findIdx?_eq_none_iff.mp hr e he
      rw [e2, strKind_is] at this
      cases this
    have hp := layNew_perm t es ((strKind P w).hash k) (.str k tk)
    have hf := layNew_fits t es ((strKind P w).hash k) (.str k tk)
    have hl := Xh t es ((strKind P w).hash k) (.str k tk)
    generalize layNew t es ((strKind P w).hash k) (.str k tk) = L at hp hf hl ⊢
    obtain ⟨e1, t1, wd, gv⟩ := L
    dsimp only at hp hf hl ⊢
    rw [Array.toList_push] at hp
    have hel : ElemsOf (strKind P w) e1.toList := (x.el.push hk hsc).perm hp
    have htx : ∃ ss : List Str, StrsAre (e1.toList.map (·.2)) ss ∧ ss.Perm (ys ++ [k]) := by
      have h1 := Q4 s1 (.cons k tk .nil)
      obtain ⟨rs, h2, h3⟩ := qR (hp.map (·.2)) (by rw [List.map_append]; exact h1)
      exact ⟨rs, h2, h3.trans (s2.append_right [k])⟩
    have hxy : uP ys k = ys ++ [k] := by rw [uP, if_neg hm]
    have hyz : (ys ++ [k]).length < scanBound := by rw [List.length_append]; exact hz
    refine wpAny_bind (QW _ ?_)
    /- the table that is laid down -/
    have hend : ∀ t2 : SetTable, t2.fits e1.size = true → t2.led = led w → t2.plain = false → wpAny (model P w) A (do
        storeSet a e1 t2
        if (!wd && t2.tooFull) = true then do
            (match (relayAll t2 e1 (SetTable.grown e1.size)).2.2 with | true => rule "set.scan.the-table-gave-way" | false => pure ())
            storeSet a (relayAll t2 e1 (SetTable.grown e1.size)).1 (relayAll t2 e1 (SetTable.grown e1.size)).2.1
            pure (some true)
          else pure (some true)) (fun r s' => wpAny (model P w) A (match r with | some added => pure added | none => setAddHashedIn a (.str k tk) ((strKind P w).hash k) 99999) Q E s') E s := by
      intro t2 f2 l2 p2
      have k2 : TOk P w e1 t2 (ys ++ [k]) := ⟨hel, htx, f2, l2, fun _ => p2⟩
      refine wpAny_bind (store ho hx hd k2 hyz fun g o1 sb go gx gd => ?_)
      split
      · have rp := relayAll_perm t2 e1 (SetTable.grown e1.size)
        have rf := relayAll_fits t2 e1 (SetTable.grown e1.size)
        have rl := OJ t2 e1 (SetTable.grown e1.size)
        generalize relayAll t2 e1 (SetTable.grown e1.size) = L at rp rf rl ⊢
        obtain ⟨e3, t3, gv3⟩ := L
        dsimp only at rp rf rl ⊢
        obtain ⟨r1, q1, q2⟩ := htx
        obtain ⟨rs, h2, h3⟩ := qR (rp.map (·.2)) q1
        have k3 : TOk P w e3 t3 (ys ++ [k]) := ⟨hel.perm rp, ⟨rs, h2, h3.trans q2⟩, rf, rl.1.trans l2, fun _ => rl.2 p2⟩
        refine wpAny_bind (QW _ ?_)
        refine wpAny_bind (store (s := { s with heap := g }) go gx gd k3 hyz fun g2 o2 sb2 go2 gx2 gd2 => ?_)
        refine wpAny_pure (wpAny_pure ?_)
        exact h g2 true (sb.trans sb2) (by rw [hxy]; exact ⟨o2, _, _, _, go2, gx2, gd2, k3⟩)
      · refine wpAny_pure (wpAny_pure ?_)
        exact h g true sb (by rw [hxy]; exact ⟨o1, _, _, _, go, gx, gd, k2⟩)
    split
    · rename_i hpl
      refine wpAny_bind ?_
      rw [hashByValue_scannable 8 hsc]
      refine wpAny_pure ?_
      exact hend _ (SetTable.fits_plain_off hf) (hl.1.trans x.ld) rfl
    · rename_i hpl
      refine wpAny_bind (wpAny_pure ?_)
      simp only [↓reduceIte]
      exact hend _ hf (hl.1.trans x.ld) (by simpa using hpl)
end
end SX
namespace SX
open PySem PySem.Spec PyProof.Rows L2 PySem.Builtin
section
variable {P : Program} {w : World} {A : Around} {E : Value → Shared → Prop} {s : Shared}
def seen (val : Nat → Str) (i : Nat) : List Str := ((List.range i).map val).foldl uP []
theorem Ow (val : Nat → Str) (i : Nat) : seen val (i + 1) = uP (seen val i) (val i) := by
  unfold seen
  rw [List.range_succ, List.map_append, List.foldl_append]
  rfl
theorem Ri (val : Nat → Str) (i : Nat) : (seen val i).length ≤ i := by
  have := Gi ((List.range i).map val) []
  simpa [seen] using this
theorem fill {R : Result → Shared → Prop} {I : Addr} {fp wr : List Addr} {G : Array GenState → Array GenState → Prop} {n : Nat} {Pi : Nat → Value → Prop} {St : Nat → Shared → Prop} (W : WalksS P w A.in1 I fp wr G n Pi St) {a : Addr} (ha : a ∉ fp) {val : Nat → Str}
    (hv : ∀ i v, Pi i v → ∃ t, v = .str (val i) t) (hb : n + 1 < scanBound) (d : Nat) : ∀ (i : Nat) (s : Shared), i + d = n → St i s → oY P w s.heap a (seen val i) → (∀ s', Moved (a :: wr) G s s' → oY P w s'.heap a (seen val n) → R (.ok (.ret .none)) s') →
    codeAny (model P w) A (.builtin "set.update.loop" ⟨[.ref a, .ref I], []⟩) R s := by
  have hw : a ∉ wr := fun z => ha (W.sub _ z)
  have up : ∀ b ∈ wr, b ∈ a :: wr := fun b z => List.mem_cons_of_mem _ z
  induction d with
  | zero =>
    intro i s e st x hR
    obtain rfl : i = n := e
    refine codeAny_builtin PyProof.Rows.F.entry_set_update_loop ?_
    rw [Around.under_plainId PyProof.Rows.F.plain_set_update_loop _]
    show wpAny _ _ (pyNext (.ref I) >>= _) _ _ _
    refine wpAny_bind (W.done s _ _ st fun s' m => ?_)
    show wpAny _ _ (ret .none) _ _ _
    exact wpAny_pure (hR s' (m.mono up) (x.keep fun o z => m.heap a o hw z))
  | succ d ih =>
    intro i s e st x hR
    refine codeAny_builtin PyProof.Rows.F.entry_set_update_loop ?_
    rw [Around.under_plainId PyProof.Rows.F.plain_set_update_loop _]
    show wpAny _ _ (pyNext (.ref I) >>= _) _ _ _
    refine wpAny_bind (W.item i s _ _ (by omega) st fun v s' pv st' m => ?_)
    obtain ⟨t, rfl⟩ := hv i v pv
    show wpAny _ _ (holding _ (setAdd a _) >>= _) _ _ _
    unfold setAdd
    refine wpAny_bind (wpAny_holding (wpAny_holding (wpAny_bind ((strKind P w).pyHash (strKind_is P w (val i) t) ?_))))
    obtain ⟨o, es, ep, tb, ho, hx, hd, k⟩ := x.keep fun o z => m.heap a o hw z
    refine Qw (s := { s' with toks := s'.toks + 1 }) ho hx hd k (by have := Ri val i; omega) fun g b sb y => ?_
    rw [← Ow] at y
    refine wpAny_pure ⟨plainId_quiet PyProof.Rows.F.plain_set_update_loop _, ih (i + 1) _ (by omega) (W.frame _ s' _ _ st' (Nat.le_succ _) fun c hc u z => ?_) y fun s2 m2 x2 => ?_⟩
    · exact (sb.2 c (fun q => ha (q ▸ hc))).trans z
    · refine hR s2 (Moved.trans W.gtrans ((m.mono up).then_heap (Nat.le_succ _) fun c u hc z => ?_) m2) x2
      exact (sb.2 c (fun q => hc (q ▸ List.mem_cons_self))).trans z
theorem Xe (v : Value) {Q : Value → Shared → Prop} (h : Q (.ref s.heap.objs.size) { s with heap := s.heap.push { cls := .type "set", dict := none, data := .set #[] 0 (.fresh 0 0 (led w)) } }) :
    codeAny (model P w) A (.call (.builtin "set.__new__") ⟨[.type "set", v], []⟩) (wants Q E) s := by
  refine codeAny_of_tree ?_
  show wpAny _ _ (checkBuiltinCall "set.__new__" ⟨[.type "set", v], []⟩ >>= fun _ => again (.builtin "set.__new__" ⟨[.type "set", v], []⟩)) _ _ s
  refine wpAny_bind (wpAny_of_eq (PySem.F.newCall_set_1 v) (wpAny_pure ⟨plainId_quiet PySem.F.plain_set_new _, codeAny_builtin PySem.F.entry_set_new ?_⟩))
  rw [Around.under_plainId PySem.F.plain_set_new _]
  unfold Builtin.«set.__new__» Builtin.Frozenset.newClass
  have hs := sub_set_self
  obtain ⟨_, _, _, _, _⟩ := s
  dsimp only
  wp_walk
  refine wpAny_askSetting (wpAny_pure ?_)
  dsimp only
  simp only [newObj]
  exact wpAny_bind (wpAny_alloc (wpAny_pure (wpAny_pure h)))
def fresh (w : World) : Obj := { cls := .type "set", dict := none, data := .set #[] 0 (.fresh 0 0 (led w)) }
theorem Uq (h : Heap) {a : Addr} (e : h.get? a = some (fresh w)) : oY P w h a [] :=
  ⟨_, #[], 0, _, e, ⟨rfl, rfl, rfl⟩, rfl, ⟨fun _ z => by simp at z, ⟨[], .nil, .rfl⟩, rfl, rfl, fun z => absurd rfl z⟩⟩
theorem aan {l : Addr} {its : Array Value} {zs : List Str} {Q : Value → Shared → Prop} (hh : A.handled = none) (hl : s.heap.IsList l its) (hi : StrsAre its.toList zs) (hb : zs.length + 1 < scanBound)
    (h : ∀ (g : Heap) (tk : Nat), oY P w g s.heap.objs.size (wI zs) → (∀ b o, s.heap.get? b = some o → g.get? b = some o) → Q (.ref s.heap.objs.size) { s with heap := g, toks := tk }) :
    wpAny (model P w) A (call (.type "set") [.ref l]) Q E s := by
  obtain ⟨c, tl, mro⟩ := PySem.F.called_set.mro
  have made := PySem.F.called_set.made
  have sub := PySem.F.called_set.sub
  refine wpAny_call (codeAny_of_tree ?_)
  show wpAny _ _ (callAny (.type "set") _) _ _ _
  refine wpAny_pure ⟨Code.quiet_builtin _ (by decide +kernel), codeAny_builtin PySem.F.entry_type_call ?_⟩
  rw [Around.under_plain (weight_type_call_type "set" [.ref l] []) rfl]
  have c1 := PySem.F.called_set.notType
  have c2 := PySem.F.called_set.canCreate
  have c3 := PySem.F.typeCall_set_1 (.ref l)
  repeat (any_goals (first | assumption | wp_step))
  refine codeAny_mono (Xe (.ref l) (E := E) (Q := fun v s1 => v = .ref s.heap.objs.size ∧ s1 = { s with heap := s.heap.push (fresh w) }) ⟨rfl, rfl⟩) fun r s1 hr => ?_
  have hlen : its.size = zs.length := by rw [← Array.length_toList]; exact Gw hi
  cases r with
  | error e => exact hr
  | ok fl =>
    cases fl with
    | ret v =>
      obtain ⟨rfl, rfl⟩ := hr
      have e0 : (s.heap.push (fresh w)).get? s.heap.objs.size = some (fresh w) := Heap.get?_push_size _ rfl
      have hT : Shared.TypeIs { s with heap := s.heap.push (fresh w) } (.ref s.heap.objs.size) "set" := ⟨_, e0, rfl⟩
      have c4 := PySem.F.called_set.init.lookup
      have c5 := PySem.F.called_set.init.bind (.ref s.heap.objs.size)
      repeat (any_goals (first | assumption | wp_step))
      refine codeAny_mono (codeAny_call_builtin (R := wants (fun r s2 => r = .none ∧ ∃ g tk, s2 = { s with heap := g, toks := tk } ∧ oY P w g s.heap.objs.size (wI zs) ∧ (∀ b o, s.heap.get? b = some o → g.get? b = some o)) E)
        PySem.F.called_set.init.plain PySem.F.entry_set_init (check_set_init_1 hT ?_)) fun r2 s2 hr2 => ?_
      · obtain ⟨ol, hol, hcl, nl, hdl⟩ := hl
        obtain ⟨ocls, odict, odata, oslots⟩ := ol
        simp only at hcl hdl
        subst hcl; subst hdl
        have hol' : (s.heap.push (fresh w)).get? l = some { cls := .type "list", dict := odict, data := .seq its nl, slots := oslots } := Heap.get?_push_of_some _ hol
        have l1 : (s.heap.push (fresh w)).IsList l its := ⟨_, hol', rfl, nl, rfl⟩
        have n1 := PySem.F.sub_list_set
        have n2 := PySem.F.sub_list_frozenset
        have n3 : (Value.type "list" == Value.type "dict") = false := by decide
        have e1 : (s.heap.push (fresh w)).get? s.heap.objs.size = some { cls := .type "set", dict := none, data := .set #[] 0 (.fresh 0 0 (led w)) } := e0
        unfold Builtin.«set.__init__» noKeywords Builtin.Frozenset.updateFrom
        generalize hPI : pyIter = PI
        wp_walk
        subst hPI
        refine wpAny_pyIter_list l1 (wpAny_bind (wpAny_runValue ?_))
        have lt : l < s.heap.objs.size := Heap.lt_size hol
        have sz : (s.heap.push (fresh w)).objs.size = s.heap.objs.size + 1 := Heap.size_push _ _
        have hh3 : A.in1.in1.in1.handled = none := by simp [hh]
        have a1 : l ≠ (s.heap.push (fresh w)).objs.size := by rw [sz]; exact Nat.ne_of_lt (Nat.lt_succ_of_lt lt)
        have a2 : s.heap.objs.size ∉ [(s.heap.push (fresh w)).objs.size, l] := by
          rw [sz]
          simp only [List.mem_cons, List.not_mem_nil, or_false, not_or]
          exact ⟨Nat.ne_of_lt (Nat.lt_succ_self _), Nat.ne_of_gt lt⟩
        have hv : ∀ (i : Nat) (v : Value), its[i]? = some v → ∃ t, v = .str (zs.getD i ⟨#[]⟩) t := by
          have : ∀ {vs : List Value} {ss : List Str}, StrsAre vs ss → ∀ (i : Nat) (v : Value), vs[i]? = some v → ∃ t, v = .str (ss.getD i ⟨#[]⟩) t := by
            intro vs ss q
            induction q with
            | nil => intro i v z; simp at z
            | cons y t _ ih =>
              intro i v z
              cases i with
              | zero => simp at z; exact ⟨t, z.symm⟩
              | succ i => simpa using ih i v (by simpa using z)
          exact fun i v z => this hi i v (by rw [Array.getElem?_toList]; exact z)
        refine fill ((Walks.list hh3 _ l a1 its).toS) a2 (val := fun i => zs.getD i ⟨#[]⟩) hv (by omega) its.size 0 _ (by omega) ⟨⟨_, Heap.get?_push_size _ rfl, rfl, rfl⟩, l1.push _⟩ (Uq _ (Heap.get?_push_of_some _ e0)) fun s' m x => ?_
        have es : seen (fun i => zs.getD i ⟨#[]⟩) its.size = wI zs := by
          unfold seen wI
          congr 1
          rw [hlen]
          apply List.ext_getElem
          · simp
          · intro i h1 h2; simp [List.getD_eq_getElem?_getD, h2]
        rw [es] at x
        obtain ⟨g, gn, dr, tk, os⟩ := s'
        have q1 : gn = s.gens := m.gens
        have q2 : dr = s.drawn := m.drawn
        have q3 : os = s.os := m.os
        subst q1 q2 q3
        refine wpAny_pure ?_
        show wpAny _ _ (ret .none) _ _ _
        refine wpAny_pure ⟨rfl, g, tk, rfl, x, fun b o e => ?_⟩
        have hb1 : b < s.heap.objs.size := Heap.lt_size e
        refine m.heap b o ?_ (Heap.get?_push_of_some _ (Heap.get?_push_of_some _ e))
        rw [sz]
        simp only [List.mem_cons, List.not_mem_nil, or_false, not_or]
        exact ⟨Nat.ne_of_lt hb1, Nat.ne_of_lt (Nat.lt_succ_of_lt hb1)⟩
      · cases r2 with
        | error e => exact hr2
        | ok fl2 =>
          cases fl2 with
          | ret r =>
            obtain ⟨rfl, g, tk, rfl, x, k⟩ := hr2
            repeat (any_goals (first | assumption | wp_step))
            exact h _ _ x k
          | _ => exact hr2.elim
    | _ => exact hr.elim
end
end SX
namespace SX
open PySem PySem.Spec PyProof.Rows L2 PySem.Builtin
theorem qW : Slot "set_iterator" "__next__" "set_iterator.__next__" :=
  .of (owner := "set_iterator") (n := "__next__") (by rw [typeLookup_type, builtinLookup_eq_fast]; kernel_rfl) (by decide +kernel) (by decide +kernel) (by decide +kernel) (by first | exact .inl (by decide +kernel) | exact .inr (by decide +kernel)) (by rw [isSubtype_type]; kernel_rfl)
theorem UT : entryFor table "set_iterator.__next__" = some Builtin.«set_iterator.__next__» := entryFor_of_tree (by kernel_rfl)
theorem Hj : Manifest.owners.lookup (String.ofList ['r', 'o', 't', 'a', 'r', 'e', 't', 'i', '_', 't', 'e', 's'].reverse) = some Manifest.sig_set_iterator := by kernel_rfl
theorem YL (a : Value) : argsOk "set_iterator.__next__" ⟨[a], []⟩ := by
  unfold argsOk
  rw [signature?_of (id := "set_iterator.__next__") (n := ['_', '_', 't', 'x', 'e', 'n', '_', '_']) (o := ['r', 'o', 't', 'a', 'r', 'e', 't', 'i', '_', 't', 'e', 's']) (by kernel_rfl) Hj]
  kernel_rfl
theorem Mv : Slot "set_iterator" "__iter__" "set_iterator.__iter__" :=
  .of (owner := "set_iterator") (n := "__iter__") (by rw [typeLookup_type, builtinLookup_eq_fast]; kernel_rfl) (by decide +kernel) (by decide +kernel) (by decide +kernel) (by first | exact .inl (by decide +kernel) | exact .inr (by decide +kernel)) (by rw [isSubtype_type]; kernel_rfl)
theorem UW : entryFor table "set.__iter__" = some Builtin.«frozenset.__iter__» :=
  entryFor_alias (id' := "frozenset.__iter__") (by kernel_rfl) rfl (by decide +kernel) (by kernel_rfl)
theorem UL : entryFor table "set_iterator.__iter__" = some Builtin.«dict_keyiterator.__iter__» :=
  entryFor_alias (id' := "dict_keyiterator.__iter__") (by kernel_rfl) rfl (by decide +kernel) (by kernel_rfl)
theorem YK (a : Value) : argsOk "set_iterator.__iter__" ⟨[a], []⟩ := by
  unfold argsOk
  rw [signature?_of (id := "set_iterator.__iter__") (n := ['_', '_', 'r', 'e', 't', 'i', '_', '_']) (o := ['r', 'o', 't', 'a', 'r', 'e', 't', 'i', '_', 't', 'e', 's']) (by kernel_rfl) Hj]
  kernel_rfl
def Ng (first : Value) (i : Nat) (a : Addr) (n ep : Nat) : Obj := { cls := .type "set_iterator", data := .fields #[first, .int i 0, .ref a, .int n 0, .int ep 0] }
section
variable {P : Program} {w : World} {A : Around} {E : Value → Shared → Prop} {s : Shared}
theorem M7 {I a : Addr} {first : Value} {i n ep : Nat} {o : Obj} {es : Array (Int × Value)} {t : SetTable} {Q : Value → Shared → Prop} (hI : s.heap.get? I = some (Ng first i a n ep)) (ho : s.heap.get? a = some o) (hd : o.data = .set es ep t) (hf : t.fits es.size = true) (hn : es.size = n)
    (h : wpAny (model P w) A (match first with
      | .int slot _ => (do match ← setNext a slot.toNat i ep with
          | some (x, next) => (do setField (.ref I) 0 (rawInt next); setField (.ref I) 1 (rawInt (i + 1)); ret x)
          | none => (do setField (.ref I) 2 .none; raiseNew (← newExc (.type "StopIteration") [])))
      | v => (do let some places ← seqItems? v | unsupported "internal:set_iterator"
                 match places[i]? with
                 | some (.int place _) => (do let x ← setNextDrawn a place.toNat ep; setField (.ref I) 1 (rawInt (i + 1)); ret x)
                 | some _ => unsupported "internal:set_iterator"
                 | none => (do setField (.ref I) 0 (rawInt 0); setField (.ref I) 2 .none; raiseNew (← newExc (.type "StopIteration") [])))) (fun fin s' => ∃ v, fin = .done (.ret v) ∧ Q v s') E s) :
    wpAny (model P w) A (Builtin.«set_iterator.__next__» ⟨[.ref I], []⟩) (fun fin s' => ∃ v, fin = .done (.ret v) ∧ Q v s') E s := by
  unfold Builtin.«set_iterator.__next__» slotArgs
  refine wpAny_bind (wpAny_pure ?_)
  refine wpAny_bind (wpAny_fieldsOf hI rfl ?_)
  dsimp only [Ng]
  refine wpAny_bind (wpAny_setEntries_of ho hd hf ?_)
  rw [if_neg (by rw [hn]; simp)]
  cases first <;> first | exact h | (simpa using h)
theorem My {I a : Addr} {first : Value} {i n ep : Nat} {Q : Value → Shared → Prop} (hI : s.heap.get? I = some (Ng first i a n ep)) (h : Q (.ref I) s) : wpAny (model P w) A (pyIter (.ref I)) Q E s := by
  have hT : s.TypeIs (.ref I) "set_iterator" := ⟨_, hI, rfl⟩
  refine wpAny_pyIter_slot hT Mv (wpAny_call_entry Mv hT UL ?_ (YK _))
  show wpAny _ _ (ret (.ref I)) _ _ s
  exact wpAny_pure ⟨_, rfl, "set_iterator", _, hT, qW.lookup, h⟩
theorem stop {Q : Fin → Shared → Prop} (hh : A.handled = none) (q : ∀ g e, (∀ b o, s.heap.get? b = some o → g.get? b = some o) → (∃ o, g.get? e = some o ∧ o.cls = .type "StopIteration") → E (.ref e) { s with heap := g }) :
    wpAny (model P w) A (do raiseNew (← newExc (.type "StopIteration") [])) Q E s := by
  refine wpAny_bind ?_
  simp only [newExc, newTuple]
  refine wpAny_bind (wpAny_newObj_type ?_ (by size_fits))
  refine wpAny_bind (m := firstArgMember _ _) (wpAny_of_eq (a := Value.none) (by first | rfl | (simp only [firstArgMember]; rfl)) ?_)
  refine wpAny_newObj_type ?_ (by size_fits)
  simp only [raiseNew]
  refine wpAny_bind (wpAny_handled ?_)
  rw [hh]
  refine wpAny_bind (wpAny_pure (wpAny_throw ?_))
  exact q _ _ (fun b o e => Heap.get?_push_of_some _ (Heap.get?_push_of_some _ e)) ⟨_, Heap.get?_push_size _ rfl, rfl⟩
theorem M6 {I a : Addr} {first : Value} {i n ep : Nat} {Q : Option Value → Shared → Prop} (hI : s.heap.get? I = some (Ng first i a n ep))
    (h : wpAny (model P w) A.in1 (Builtin.«set_iterator.__next__» ⟨[.ref I], []⟩) (fun fin s' => ∃ v, fin = .done (.ret v) ∧ Q (some v) s') (fun e s' => ∃ b, e = .ref b ∧ s'.TypeIs (.ref b) "StopIteration" ∧ Q none s') s) : wpAny (model P w) A (pyNext (.ref I)) Q E s := by
  have hT : s.TypeIs (.ref I) "set_iterator" := ⟨_, hI, rfl⟩
  unfold pyNext
  refine wpAny_bind (wpAny_attempt (wpAny_callSpecial?_slot (name := Str.ofString "__next__") hT qW (wpAny_call_entry qW hT UT ?_ (YL _))))
  refine wpAny_mono h (fun fin s' x => ?_) fun e s' x => ?_
  · obtain ⟨v, rfl, y⟩ := x
    exact ⟨v, rfl, wpAny_pure y⟩
  · obtain ⟨b, rfl, ty, y⟩ := x
    refine wpAny_bind (wpAny_isInstance (T := "StopIteration") (b := true) ty isSubtype_stop ?_)
    exact wpAny_pure y
structure Ml (P : Program) (w : World) (a : Addr) (o : Obj) (ep : Nat) (sl : Nat → Nat) (os : List Value) : Prop where
  step : ∀ (A : Around) (E : Value → Shared → Prop) (s : Shared) (i : Nat) (v : Value) (Q : Option (Value × Nat) → Shared → Prop), s.heap.get? a = some o → os[i]? = some v → Q (some (v, sl (i + 1))) s → wpAny (model P w) A (setNext a (sl i) i ep) Q E s
  stop : ∀ (A : Around) (E : Value → Shared → Prop) (s : Shared) (Q : Option (Value × Nat) → Shared → Prop), s.heap.get? a = some o → Q none s → wpAny (model P w) A (setNext a (sl os.length) os.length ep) Q E s
theorem Aw {I a : Addr} {o : Obj} {es : Array (Int × Value)} {ep : Nat} {t : SetTable} {sl : Nat → Nat} {os : List Value} (hh : A.handled = none) (hia : a ≠ I) (hd : o.data = .set es ep t) (hf : t.fits es.size = true) (hn : es.size = os.length) (B : Ml P w a o ep sl os) :
    WalksS P w A I [I, a] [I] (fun g g' => g' = g) os.length (fun i v => os[i]? = some v) (fun i s => s.heap.get? I = some (Ng (.int (sl i) 0) i a os.length ep) ∧ s.heap.get? a = some o) where
  sub := fun b z => by simp at z; simp [z]
  grefl := fun _ => rfl
  gtrans := fun _ _ _ x y => y.trans x
  frame := fun i s g tk st _ k => ⟨k I (by simp) _ st.1, k a (by simp) _ st.2⟩
  item := fun i s Q E hi st hQ => by
    obtain ⟨v, hv⟩ : ∃ v, os[i]? = some v := ⟨os[i], by simp [hi]⟩
    refine M6 st.1 (M7 st.1 st.2 hd hf hn ?_)
    dsimp only
    refine wpAny_bind ?_
    rw [Int.toNat_natCast]
    refine B.step _ _ s i v _ st.2 hv ?_
    dsimp only
    refine wpAny_bind (wpAny_setField_rec st.1 (by simp) fun g1 h1 e1 => ?_)
    refine wpAny_bind (wpAny_setField_rec h1 (by simp) fun g2 h2 e2 => ?_)
    have kp : ∀ b u, b ≠ I → s.heap.get? b = some u → g2.get? b = some u := fun b u hb z => (e2.2 b hb).trans ((e1.2 b hb).trans z)
    refine wpAny_pure ⟨v, rfl, hQ v _ hv ⟨?_, kp a _ hia st.2⟩ ⟨fun b u hb z => kp b u (fun q => hb (by simp [q])) z, rfl, rfl, rfl, Nat.le_refl _⟩⟩
    rw [h2]
    simp [Ng, rawInt]
  done := fun s Q E st hQ => by
    refine M6 st.1 (M7 st.1 st.2 hd hf hn ?_)
    dsimp only
    refine wpAny_bind ?_
    rw [Int.toNat_natCast]
    refine B.stop _ _ s _ st.2 ?_
    dsimp only
    refine wpAny_bind (wpAny_setField_rec st.1 (by simp) fun g1 h1 e1 => ?_)
    refine stop (s := { s with heap := g1 }) (by simpa using hh) fun g e k he => ⟨e, rfl, he, ?_⟩
    exact hQ _ ⟨fun b u hb z => k b u ((e1.2 b (fun q => hb (by simp [q]))).trans z), rfl, rfl, rfl, Nat.le_refl _⟩
  self := fun i s Q E st hQ => My st.1 hQ
theorem Ob {I a T : Addr} {o oT : Obj} {es : Array (Int × Value)} {ep : Nat} {t : SetTable} {ps : List Nat} {os : List Value} (hh : A.handled = none) (hia : a ≠ I) (hit : T ≠ I) (hd : o.data = .set es ep t) (hf : t.fits es.size = true) (hn : es.size = os.length)
    {k : Nat} (hT : oT.data = .seq (ps.map fun (i : Nat) => rawInt i).toArray k) (hp : ps.length = os.length) (ho : ∀ (i p : Nat) (v : Value), ps[i]? = some p → os[i]? = some v → ∃ h, es[p]? = some (h, v)) :
    WalksS P w A I [I, a, T] [I] (fun g g' => g' = g) os.length (fun i v => os[i]? = some v) (fun i s => s.heap.get? I = some (Ng (.ref T) i a os.length ep) ∧ s.heap.get? a = some o ∧ s.heap.get? T = some oT) where
  sub := fun b z => by simp at z; simp [z]
  grefl := fun _ => rfl
  gtrans := fun _ _ _ x y => y.trans x
  frame := fun i s g tk st _ k => ⟨k I (by simp) _ st.1, k a (by simp) _ st.2.1, k T (by simp) _ st.2.2⟩
  item := fun i s Q E hi st hQ => by
    obtain ⟨v, hv⟩ : ∃ v, os[i]? = some v := ⟨os[i], by simp [hi]⟩
    obtain ⟨p, hpi⟩ : ∃ p, ps[i]? = some p := ⟨ps[i]'(by omega), by simp [hp, hi]⟩
    obtain ⟨hs, hes⟩ := ho i p v hpi hv
    refine M6 st.1 (M7 st.1 st.2.1 hd hf hn ?_)
    dsimp only
    refine wpAny_bind (wpAny_seqItems st.2.2 hT ?_)
    dsimp only
    have hx : (ps.map fun (i : Nat) => rawInt i).toArray[i]? = some (rawInt p) := by simp [hpi]
    rw [hx]
    dsimp only [rawInt]
    refine wpAny_bind ?_
    rw [Int.toNat_natCast]
    unfold setNextDrawn
    refine wpAny_bind (wpAny_setState_of st.2.1 hd hf ?_)
    dsimp only
    rw [if_neg (by simp), hes]
    refine wpAny_pure ?_
    refine wpAny_bind (wpAny_setField_rec st.1 (by simp) fun g1 h1 e1 => ?_)
    have kp : ∀ b u, b ≠ I → s.heap.get? b = some u → g1.get? b = some u := fun b u hb z => (e1.2 b hb).trans z
    refine wpAny_pure ⟨v, rfl, hQ v _ hv ⟨?_, kp a _ hia st.2.1, kp T _ hit st.2.2⟩ ⟨fun b u hb z => kp b u (fun q => hb (by simp [q])) z, rfl, rfl, rfl, Nat.le_refl _⟩⟩
    rw [h1]
    simp [Ng]
  done := fun s Q E st hQ => by
    refine M6 st.1 (M7 st.1 st.2.1 hd hf hn ?_)
    dsimp only
    refine wpAny_bind (wpAny_seqItems st.2.2 hT ?_)
    dsimp only
    have hx : (ps.map fun (i : Nat) => rawInt i).toArray[os.length]? = none := by simp [hp]
    rw [hx]
    dsimp only
    refine wpAny_bind (wpAny_setField_rec st.1 (by simp) fun g1 h1 e1 => ?_)
    refine wpAny_bind (wpAny_setField_rec h1 (by simp) fun g2 h2 e2 => ?_)
    refine stop (s := { s with heap := g2 }) (by simpa using hh) fun g e k he => ⟨e, rfl, he, ?_⟩
    exact hQ _ ⟨fun b u hb z => k b u ((e2.2 b (fun q => hb (by simp [q]))).trans ((e1.2 b (fun q => hb (by simp [q]))).trans z)), rfl, rfl, rfl, Nat.le_refl _⟩
  self := fun i s Q E st hQ => My st.1 hQ
end
end SX
namespace SX
open PySem PySem.Spec PyProof.Rows L2 PySem.Builtin
theorem tO {α : Type} : ∀ {l : List α} {i : Nat} (h : i < l.length), (l[i] :: l.eraseIdx i).Perm l
  | x :: l, 0, h => by simp
  | x :: l, i + 1, h => by
    have ih := tO (l := l) (i := i) (by simpa using h)
    rw [List.getElem_cons_succ, List.eraseIdx_cons_succ]
    exact (List.Perm.swap _ _ _).trans (ih.cons x)
theorem M3 {α : Type} (next : Nat → Nat) : ∀ (n k : Nat) (left : List α) (out : Array α), left.length = n → (pickOrder.go next n k left out).toList.Perm (out.toList ++ left)
  | 0, k, left, out, h => by
    have : left = [] := List.length_eq_zero_iff.mp h
    subst this
    simp [pickOrder.go]
  | n + 1, k, left, out, h => by
    have hl : next k % left.length < left.length := Nat.mod_lt _ (by omega)
    have hx : left[next k % left.length]? = some left[next k % left.length] := by simp [hl]
    unfold pickOrder.go
    rw [hx]
    refine (M3 next n (k + 1) _ _ (by rw [List.length_eraseIdx_of_lt hl]; omega)).trans ?_
    rw [Array.toList_push, List.append_assoc]
    refine List.Perm.append_left _ ?_
    exact tO hl
theorem O7 {α : Type} (next : Nat → Nat) (xs : Array α) : (pickOrder next xs).toList.Perm xs.toList := by
  unfold pickOrder
  simpa using M3 next xs.size 0 xs.toList #[] (by simp)
section
variable {P : Program} {w : World} {A : Around} {E : Value → Shared → Prop} {s : Shared}
theorem wp_choose {src : Source} {n : Nat} {Q : Nat → Shared → Prop} (hn : n ≠ 0) (h : ∀ i d, i < n → Q i { s with drawn := d }) : wpAny (model P w) A (choose src n) Q E s := by
  intro Γ p _
  show Sem.wp _ _ (.choose src n .pure) _ _ _ _
  rw [Sem.wp]
  exact ⟨hn, h _ _ (Nat.mod_lt _ (Nat.pos_of_ne_zero hn))⟩
theorem Bx {α : Type} : ∀ (n : Nat) (xs : List α) (s : Shared) (Q : List α → Shared → Prop), xs.length = n → (∀ ys d, ys.Perm xs → Q ys { s with drawn := d }) → wpAny (model P w) A (drawOrder n xs) Q E s
  | 0, xs, s, Q, h, q => by
    have : xs = [] := List.length_eq_zero_iff.mp h
    subst this
    unfold drawOrder
    refine wpAny_pure ?_
    have := q [] s.drawn .rfl
    cases s; exact this
  | n + 1, x :: xs, s, Q, h, q => by
    unfold drawOrder
    refine wpAny_bind (wp_choose (by simp) fun i d hi => ?_)
    have hx : (x :: xs)[i]? = some ((x :: xs)[i]) := by simp only [List.getElem?_eq_getElem hi]
    rw [hx]
    dsimp only
    refine wpAny_bind (Bx n _ { s with drawn := d } _ (by rw [List.length_eraseIdx_of_lt hi]; simpa using h) fun ys d' p => wpAny_pure ?_)
    exact q _ d' ((p.cons _).trans (tO hi))
theorem Vl {p : Array Nat} (h : p.size = 1) (j : Nat) : SetTable.below p j = if p.getD 0 j < j then 1 else 0 := by
  unfold SetTable.below
  rw [h]
  unfold SetTable.below.go
  rw [if_pos (by decide)]
  dsimp only
  have : (0 + 1) / 2 = 0 := rfl
  rw [this]
  split <;> rfl
theorem byText {Q : Bool → Shared → Prop} (h : Q (!led w) s) : wpAny (model P w) A setsByText Q E s := by
  unfold setsByText
  refine wpAny_bind (wpAny_askSetting (wpAny_pure ?_))
  rw [led, Bool.not_not] at h
  exact h
theorem Ou {a : Addr} {o : Obj} {es : Array (Int × Value)} {ep : Nat} {t : SetTable} (hd : o.data = .set es ep t) (hf : t.fits es.size = true) (hl : led w = false) :
    Ml P w a o ep (fun _ => 0) ((pickOrder (w.params.setOrder a ep) es).toList.map (·.2)) := by
  have go : ∀ (A : Around) (E : Value → Shared → Prop) (s : Shared) (i : Nat) (Q : Option (Value × Nat) → Shared → Prop), s.heap.get? a = some o → Q (((pickOrder (w.params.setOrder a ep) es)[i]?).map fun e => (e.2, 0)) s → wpAny (model P w) A (setNext a 0 i ep) Q E s := by
    intro A E s i Q ho h
    unfold setNext
    refine wpAny_bind (wpAny_setState_of ho hd hf ?_)
    dsimp only
    refine wpAny_bind (byText ?_)
    rw [hl]
    rw [if_pos (show (!false) = true from rfl), if_neg (by simp)]
    refine wpAny_bind ?_
    unfold setWalk
    refine wpAny_bind (wpAny_setState_of ho hd hf ?_)
    dsimp only
    refine wpAny_bind (byText ?_)
    rw [hl, if_pos (show (!false) = true from rfl)]
    exact wpAny_bind (wpAny_askSetting (wpAny_pure (wpAny_pure h)))
  refine ⟨fun A E s i v Q ho hv h => go A E s i Q ho ?_, fun A E s Q ho h => go A E s _ Q ho ?_⟩
  · rw [List.getElem?_map, Array.getElem?_toList] at hv
    obtain ⟨e, he, rfl⟩ := Option.map_eq_some_iff.mp hv
    rw [he]
    exact h
  · have : (pickOrder (w.params.setOrder a ep) es)[((pickOrder (w.params.setOrder a ep) es).toList.map (·.2)).length]? = none := by simp
    rw [this]
    exact h
theorem Rb {a : Addr} {o : Obj} {es : Array (Int × Value)} {ep : Nat} {t : SetTable} (hd : o.data = .set es ep t) (hf : t.fits es.size = true) (hw : led w = true) (hl : t.led = led w) (hz : ¬ es.size > 1) :
    Ml P w a o ep (fun i => if i = 0 then 0 else t.place.getD 0 0 + 1) (es.toList.map (·.2)) := by
  have hp : t.place.size = es.size := by
    simp only [SetTable.fits, Bool.and_eq_true, beq_iff_eq] at hf
    exact hf.1
  have go : ∀ (A : Around) (E : Value → Shared → Prop) (s : Shared) (j i : Nat) (Q : Option (Value × Nat) → Shared → Prop), s.heap.get? a = some o →
      Q (match es[SetTable.below t.place j]?, t.place[SetTable.below t.place j]? with | some (_, x), some k => some (x, k + 1) | _, _ => none) s → wpAny (model P w) A (setNext a j i ep) Q E s := by
    intro A E s j i Q ho h
    unfold setNext
    refine wpAny_bind (wpAny_setState_of ho hd hf ?_)
    dsimp only
    refine wpAny_bind (byText ?_)
    rw [hw, if_neg (by simp)]
    show wpAny _ _ (if (!t.plain && decide (es.size > 1)) = true then _ else _) _ _ _
    rw [if_neg (by rw [decide_eq_false hz]; simp)]
    refine wpAny_bind ?_
    show wpAny _ _ (if (!t.led && !es.isEmpty) = true then _ else _) _ _ _
    rw [if_neg (by rw [hl, hw]; simp)]
    exact wpAny_pure (wpAny_pure h)
  have hc : es.size = 0 ∨ es.size = 1 := by omega
  refine ⟨fun A E s i v Q ho hv h => go A E s _ i Q ho ?_, fun A E s Q ho h => go A E s _ _ Q ho ?_⟩
  · rcases hc with hc | hc
    · have : es = #[] := Array.size_eq_zero_iff.mp hc
      subst this
      simp at hv
    · obtain ⟨e, rfl⟩ : ∃ e, es = #[e] := Array.size_eq_one_iff.mp hc
      obtain ⟨p, pe⟩ : ∃ p, t.place = #[p] := Array.size_eq_one_iff.mp hp
      have hi : i = 0 := by
        rcases Nat.eq_zero_or_pos i with z | z
        · exact z
        · rw [List.getElem?_eq_none (by simp; omega)] at hv; cases hv
      subst hi
      simp at hv
      subst hv
      have hb : SetTable.below t.place 0 = 0 := by rw [Vl (by rw [pe]; rfl)]; simp
      simp only [if_pos]
      rw [hb, pe]
      simpa [pe] using h
  · rcases hc with hc | hc
    · have : es = #[] := Array.size_eq_zero_iff.mp hc
      subst this
      simpa using h
    · obtain ⟨e, rfl⟩ : ∃ e, es = #[e] := Array.size_eq_one_iff.mp hc
      obtain ⟨p, pe⟩ : ∃ p, t.place = #[p] := Array.size_eq_one_iff.mp hp
      have hb : SetTable.below t.place (p + 1) = 1 := by rw [Vl (by rw [pe]; rfl), pe]; simp
      have hs : (if ([e].map (·.2)).length = 0 then 0 else t.place.getD 0 0 + 1) = p + 1 := by simp [pe]
      have hs' : (if ((#[e] : Array (Int × Value)).toList.map (·.2)).length = 0 then 0 else t.place.getD 0 0 + 1) = p + 1 := hs
      rw [hs', hb]
      simpa using h
end
end SX
namespace SX
open PySem PySem.Spec PyProof.Rows L2 PySem.Builtin
section
variable {P : Program} {w : World} {A : Around} {E : Value → Shared → Prop} {s : Shared}
theorem T6 {a : Addr} {ys : List Str} {Q : Value → Shared → Prop} (x : oY P w s.heap a ys) (hz : ys.length < 64)
    (h : ∀ (g : Heap) (d : Drawn) (I : Addr) (fp : List Addr) (os : List Value) (St : Nat → Shared → Prop), (∀ A' : Around, A'.handled = none → WalksS P w A' I fp [I] (fun g g' => g' = g) os.length (fun i v => os[i]? = some v) St) → St 0 { s with heap := g, drawn := d } →
      (∀ b ∈ fp, b = a ∨ s.heap.objs.size ≤ b) → s.heap.objs.size ≤ I → os.length = ys.length → (∃ ss, StrsAre os ss ∧ ss.Perm ys) → (∀ b o, s.heap.get? b = some o → g.get? b = some o) → Q (.ref I) { s with heap := g, drawn := d }) :
    wpAny (model P w) A (pyIter (.ref a)) Q E s := by
  obtain ⟨o, es, ep, t, ho, hx, hd, k⟩ := x
  have hT : s.TypeIs (.ref a) "set" := ⟨o, ho, hx.1⟩
  have hlt : a < s.heap.objs.size := Heap.lt_size ho
  have hn : es.size = ys.length := k.size
  obtain ⟨ss, s1, s2⟩ := k.tx
  refine wpAny_pyIter_slot hT PySem.F.slot_set_iter (wpAny_call_entry PySem.F.slot_set_iter hT UW ?_ (PySem.F.args_set_iter_1 _))
  unfold Builtin.«frozenset.__iter__» Builtin.Frozenset.slot0 slotArgs
  simp only [List.isEmpty_nil, Bool.not_true, Bool.false_eq_true, ↓reduceIte, bind_assoc, List.length_nil, bne_self_eq_false]
  unfold Builtin.Frozenset.addrOf Builtin.Frozenset.sizeOf
  refine wpAny_bind (wpAny_pure ?_)
  dsimp only
  refine wpAny_bind (wpAny_pure ?_)
  refine wpAny_bind (wpAny_bind (wpAny_setEntries_of ho hd k.fit (wpAny_pure ?_)))
  refine wpAny_bind ?_
  unfold setDrawn
  refine wpAny_bind (wpAny_setState_of ho hd k.fit ?_)
  dsimp only
  refine wpAny_bind (byText (wpAny_pure ?_))
  show wpAny _ _ (if (!(!led w) && (!t.plain && decide (es.size > 1))) = true then _ else _) _ _ _
  by_cases hl : led w = true
  · by_cases hz1 : es.size > 1
    · have hp : t.plain = false := k.pl (by omega)
      rw [if_pos (by rw [hl, hp, decide_eq_true hz1]; rfl)]
      refine wpAny_bind (Bx _ _ s _ (by simp) fun ps d pp => ?_)
      refine wpAny_bind (wpAny_newTuple ?_ (by rw [List.length_map, pp.length_eq, List.length_range, hn]; exact Nat.le_trans (Nat.le_of_lt hz) (by decide)))
      refine wpAny_bind (wpAny_setEpoch_of (Heap.get?_push_of_some _ ho) hd k.fit ?_)
      refine wpAny_bind (wpAny_newObj_type (wpAny_pure ⟨_, rfl, "set_iterator", _, ⟨_, Heap.get?_push_size _ rfl, rfl⟩, qW.lookup, ?_⟩))
      let f : Nat → Value := fun p => ((es[p]?).map (·.2)).getD .none
      have ef : (List.range es.size).map f = es.toList.map (·.2) := by
        apply List.ext_getElem
        · simp
        · intro i h1 h2
          have hi : i < es.size := by simpa using h1
          simp [f, hi]
      have hos : (ps.map f).length = es.size := by rw [List.length_map, pp.length_eq, List.length_range]
      have hperm : (ps.map f).Perm (es.toList.map (·.2)) := by rw [← ef]; exact pp.map f
      obtain ⟨rs, q1, q2⟩ := qR hperm s1
      have sz : (s.heap.push { cls := .type "tuple", data := .seq (ps.map fun (i : Nat) => rawInt i).toArray }).objs.size = s.heap.objs.size + 1 := Heap.size_push _ _
      have e1 : ((s.heap.push { cls := .type "tuple", data := .seq (ps.map fun (i : Nat) => rawInt i).toArray }).push (Ng (.ref s.heap.objs.size) 0 a es.size ep)).get? s.heap.objs.size = some { cls := .type "tuple", data := .seq (ps.map fun (i : Nat) => rawInt i).toArray } :=
        Heap.get?_push_of_some _ (Heap.get?_push_size _ rfl)
      have a1 : a ≠ (s.heap.push { cls := .type "tuple", data := .seq (ps.map fun (i : Nat) => rawInt i).toArray }).objs.size := by rw [sz]; exact Nat.ne_of_lt (Nat.lt_succ_of_lt hlt)
      have a2 : s.heap.objs.size ≠ (s.heap.push { cls := .type "tuple", data := .seq (ps.map fun (i : Nat) => rawInt i).toArray }).objs.size := by rw [sz]; exact Nat.ne_of_lt (Nat.lt_succ_self _)
      refine h _ d _ [_, a, s.heap.objs.size] (ps.map f) _ (fun A' hA => Ob (ps := ps) hA a1 a2 hd k.fit hos.symm rfl (by rw [List.length_map]) fun i p v h1 h2 => ?_) ⟨?_, Heap.get?_push_of_some _ (Heap.get?_push_of_some _ ho), e1⟩ (fun b hb => ?_) (by rw [sz]; exact Nat.le_succ _) (hos.trans hn) ⟨rs, q1, q2.trans s2⟩ fun b u e => Heap.get?_push_of_some _ (Heap.get?_push_of_some _ e)
      · rw [List.getElem?_map, h1] at h2
        simp only [Option.map_some, Option.some.injEq] at h2
        have hm : p ∈ List.range es.size := pp.mem_iff.mp (List.mem_of_getElem? h1)
        have hp : p < es.size := List.mem_range.mp hm
        refine ⟨es[p].1, ?_⟩
        rw [← h2]
        simp [f, hp]
      · have := Heap.get?_push_size (s.heap.push { cls := .type "tuple", data := .seq (ps.map fun (i : Nat) => rawInt i).toArray }) (o := Ng (.ref s.heap.objs.size) 0 a (ps.map f).length ep) rfl
        rw [hos] at this ⊢
        exact this
      · simp only [List.mem_cons, List.not_mem_nil, or_false] at hb
        rcases hb with rfl | rfl | rfl
        · exact .inr (by rw [sz]; exact Nat.le_succ _)
        · exact .inl rfl
        · exact .inr (Nat.le_refl _)
    · rw [if_neg (by rw [decide_eq_false hz1]; simp)]
      refine wpAny_bind (wpAny_pure ?_)
      refine wpAny_bind (wpAny_setEpoch_of ho hd k.fit ?_)
      refine wpAny_bind (wpAny_newObj_type (wpAny_pure ⟨_, rfl, "set_iterator", _, ⟨_, Heap.get?_push_size _ rfl, rfl⟩, qW.lookup, ?_⟩))
      have hos : (es.toList.map (·.2)).length = es.size := by simp
      have e0 := Heap.get?_push_size s.heap (o := Ng (.int 0 0) 0 a (es.toList.map (·.2)).length ep) rfl
      have := h (s.heap.push (Ng (.int 0 0) 0 a (es.toList.map (·.2)).length ep)) s.drawn s.heap.objs.size [s.heap.objs.size, a] (es.toList.map (·.2)) _ (fun A' hA => Aw hA (Nat.ne_of_lt hlt) hd k.fit hos.symm (Rb hd k.fit hl k.ld hz1)) ⟨e0, Heap.get?_push_of_some _ ho⟩ (fun b hb => by
        simp only [List.mem_cons, List.not_mem_nil, or_false] at hb
        rcases hb with rfl | rfl
        · exact .inr (Nat.le_refl _)
        · exact .inl rfl) (Nat.le_refl _) (hos.trans hn) ⟨ss, s1, s2⟩ fun b u e => Heap.get?_push_of_some _ e
      rw [hos] at this
      cases s
      exact this
  · have hl : led w = false := by simpa using hl
    rw [if_neg (by rw [hl]; simp)]
    refine wpAny_bind (wpAny_pure ?_)
    refine wpAny_bind (wpAny_setEpoch_of ho hd k.fit ?_)
    refine wpAny_bind (wpAny_newObj_type (wpAny_pure ⟨_, rfl, "set_iterator", _, ⟨_, Heap.get?_push_size _ rfl, rfl⟩, qW.lookup, ?_⟩))
    have pk := O7 (w.params.setOrder a ep) es
    have hos : ((pickOrder (w.params.setOrder a ep) es).toList.map (·.2)).length = es.size := by rw [List.length_map, pk.length_eq]; simp
    obtain ⟨rs, q1, q2⟩ := qR (pk.map (·.2)) s1
    have e0 := Heap.get?_push_size s.heap (o := Ng (.int 0 0) 0 a ((pickOrder (w.params.setOrder a ep) es).toList.map (·.2)).length ep) rfl
    have := h (s.heap.push (Ng (.int 0 0) 0 a ((pickOrder (w.params.setOrder a ep) es).toList.map (·.2)).length ep)) s.drawn s.heap.objs.size [s.heap.objs.size, a] ((pickOrder (w.params.setOrder a ep) es).toList.map (·.2)) _ (fun A' hA => Aw hA (Nat.ne_of_lt hlt) hd k.fit hos.symm (Ou hd k.fit hl)) ⟨e0, Heap.get?_push_of_some _ ho⟩ (fun b hb => by
      simp only [List.mem_cons, List.not_mem_nil, or_false] at hb
      rcases hb with rfl | rfl
      · exact .inr (Nat.le_refl _)
      · exact .inl rfl) (Nat.le_refl _) (hos.trans hn) ⟨rs, q1, q2.trans s2⟩ fun b u e => Heap.get?_push_of_some _ e
    rw [hos] at this
    cases s
    exact this
end
end SX
namespace SX
open PySem PySem.Spec PyProof.Rows L2 PySem.Builtin
section
variable {P : Program} {w : World} {A : Around} {E : Value → Shared → Prop} {s : Shared}
theorem Ua {r : Addr} {Q : Bool → Shared → Prop} (hT : s.TypeIs (.ref r) "set") (h : Q false s) : wpAny (model P w) A (Builtin.List.listLengthHint (.ref r)) Q E s := by
  unfold Builtin.List.listLengthHint
  refine wpAny_bind (wpAny_specialOf hT PySem.F.slot_set_len.lookup ?_)
  generalize hid : ("set.__len__" : String) = id0
  wp_delta
  rw [show splitId id0 = some ("set", "__len__") from by subst hid; decide +kernel]
  subst hid
  refine wpAny_bind (wpAny_isInstance (T := "set") (b := true) hT (by rw [isSubtype_type]; kernel_rfl) ?_)
  refine wpAny_ite_split (fun z => absurd z (by decide)) (fun _ => ?_)
  refine wpAny_ite_split (fun _ => ?_) (fun z => absurd (by decide +kernel) z)
  exact wpAny_bind (wpAny_typeOf hT (wpAny_pure h))
theorem T7 {os : List Value} {acc : Array Value} (h : ItemsOf (fun i v => os[i]? = some v) acc os.length) : acc.toList = os := by
  apply List.ext_getElem?
  intro i
  rw [Array.getElem?_toList]
  by_cases hi : i < acc.size
  · have e : acc[i]? = some acc[i] := by simp [hi]
    rw [e, h.2 i _ e]
  · have h1 : acc[i]? = none := by simp; omega
    have h2 : os[i]? = none := by simp; rw [← h.1]; omega
    rw [h1, h2]
theorem Jk {a : Addr} {ys : List Str} {Q : List Value → Shared → Prop} (hh : A.handled = none) (x : oY P w s.heap a ys) (hz : ys.length < 64)
    (h : ∀ (g : Heap) (d : Drawn) (tk : Nat) (os : List Value), (∃ ss, StrsAre os ss ∧ ss.Perm ys) → os.length = ys.length → (∀ b o, s.heap.get? b = some o → g.get? b = some o) → Q os { s with heap := g, drawn := d, toks := tk }) :
    wpAny (model P w) A (collect (.ref a)) Q E s := by
  have hT : ∀ h' : Heap, oY P w h' a ys → Shared.TypeIs { s with heap := h' } (.ref a) "set" := fun h' ⟨o, _, _, _, e, r, _⟩ => ⟨o, e, r.1⟩
  have hlt : a < s.heap.objs.size := let ⟨o, _, _, _, e, _⟩ := x; Heap.lt_size e
  unfold collect
  refine wpAny_bind (wpAny_runValue (codeAny_builtin PySem.F.entry_proto_collect ?_))
  rw [Around.under_plainId PySem.F.plain_proto_collect _]
  show wpAny _ A.in1 (newList [] >>= fun l => again (.builtin "list.__iadd__" ⟨[l, .ref a], []⟩)) _ _ s
  refine wpAny_bind (wpAny_newObj_type (wpAny_pure ⟨plainId_quiet PySem.F.plain_list_iadd _, codeAny_builtin PySem.F.entry_list_iadd ?_⟩))
  rw [Around.under_plainId PySem.F.plain_list_iadd _]
  have l0 : (s.heap.push { cls := .type "list", data := .seq ([] : List Value).toArray }).get? s.heap.objs.size = some { cls := .type "list", data := .seq #[] } := Heap.get?_push_size _ rfl
  have x0 : oY P w (s.heap.push { cls := .type "list", data := .seq ([] : List Value).toArray }) a ys := x.keep fun o e => Heap.get?_push_of_some _ e
  show wpAny _ A.in1 (Builtin.List.listExtendWith (.ref s.heap.objs.size) (.ref a) (.ref s.heap.objs.size)) _ _ _
  unfold Builtin.List.listExtendWith
  refine wpAny_bind (wpAny_typeOf (T := "set") (hT _ x0) ?_)
  have n1 : Builtin.List.listSameRef (.ref s.heap.objs.size) (.ref a) = false := by simp [Builtin.List.listSameRef, Nat.ne_of_gt hlt]
  rw [if_neg (by rw [n1]; decide)]
  refine wpAny_bind (T6 (s := { s with heap := s.heap.push { cls := .type "list", data := .seq ([] : List Value).toArray } }) x0 hz fun g d I fp os St W st hfp hI hos hss kp => ?_)
  have sz : (s.heap.push { cls := .type "list", data := .seq ([] : List Value).toArray }).objs.size = s.heap.objs.size + 1 := Heap.size_push _ _
  have kp0 : ∀ b o, s.heap.get? b = some o → g.get? b = some o := fun b o e => kp b o (Heap.get?_push_of_some _ e)
  have l1 : g.get? s.heap.objs.size = some { cls := .type "list", data := .seq #[] } := kp _ _ l0
  have hSf : s.heap.objs.size ∉ fp := fun z => by
    rcases hfp _ z with e | e
    · exact absurd e (Nat.ne_of_gt hlt)
    · dsimp only at e; rw [sz] at e; exact absurd e (Nat.not_succ_le_self _)
  refine wpAny_bind (wpAny_holding (Ua (s := { s with heap := g, drawn := d }) (let ⟨o, _, _, _, e, r, _⟩ := x.keep fun o e => kp0 _ o e; ⟨o, e, r.1⟩) ?_))
  have W' := W A.in1 (by simpa using hh)
  have hn : os.length ≤ sizeLine := by rw [hos]; exact Nat.le_trans (Nat.le_of_lt hz) (by decide)
  have key : ∀ (g1 : Heap) (c : Nat), St 0 { s with heap := g1, drawn := d } → (∀ b o, s.heap.get? b = some o → g1.get? b = some o) → g1.get? s.heap.objs.size = some { cls := .type "list", data := .seq #[] c } →
      codeAny (model P w) A (.builtin "list.extend.loop" ⟨[.ref s.heap.objs.size, .ref I, .ref s.heap.objs.size], []⟩) (fun r s' => wants (fun v s2 => wpAny (model P w) A ((match v with
        | .ref a => do match (← load a).data with
          | .seq xs _ => pure xs.toList
          | _ => unsupported "internal:collect"
        | _ => unsupported "internal:collect") : Sem (List Value)) Q E s2) E r s') { s with heap := g1, drawn := d } := by
    intro g1 c st1 k1 l2
    refine codeAny_extend_loopS W' hn s.heap.objs.size hSf (.ref s.heap.objs.size) os.length 0 _ #[] c rfl (Nat.zero_le _) st1 l2 (ItemsOf.nil _) fun s' acc c' m hS hacc => ?_
    show wpAny _ _ (load s.heap.objs.size >>= _) _ _ _
    refine wpAny_bind (wpAny_load hS (wpAny_pure ?_))
    rw [T7 hacc, Moved.eq_with m]
    refine h s'.heap d s'.toks os hss hos fun b o e => m.heap b o (fun z => ?_) (k1 b o e)
    rcases List.mem_cons.mp z with z | z
    · exact absurd (Heap.lt_size e) (by rw [z]; exact Nat.lt_irrefl _)
    · rw [List.mem_singleton.mp z] at e
      have := Heap.lt_size e
      dsimp only at hI
      rw [sz] at hI
      exact absurd (Nat.lt_of_lt_of_le this (Nat.le_of_succ_le hI)) (Nat.lt_irrefl _)
  dsimp only
  split
  · refine wpAny_bind (wpAny_rule (wpAny_bind ?_))
    show wpAny _ _ (updateSeq s.heap.objs.size (·.push .none) >>= fun _ => updateSeq s.heap.objs.size (·.pop)) _ _ _
    refine wpAny_bind (wpAny_updateSeq l1 rfl ?_)
    have l2 := Heap.get?_update_self (Obj.mapSeq (·.push Value.none)) l1 rfl
    refine wpAny_updateSeq (hz := by seq_fits) l2 rfl ?_
    have l3 := Heap.get?_update_self (Obj.mapSeq (·.pop)) l2 rfl
    have oth : ∀ b o, b ≠ s.heap.objs.size → g.get? b = some o → ((g.update s.heap.objs.size (Obj.mapSeq (·.push Value.none))).update s.heap.objs.size (Obj.mapSeq (·.pop))).get? b = some o := fun b o hb e =>
      (Heap.get?_update_other _ _ (Ne.symm hb)).trans ((Heap.get?_update_other _ _ (Ne.symm hb)).trans e)
    refine wpAny_pure ⟨plainId_quiet PySem.F.plain_extend_loop _, key _ _ ?_ (fun b o e => oth b o (Nat.ne_of_lt (Heap.lt_size e)) (kp0 b o e)) l3⟩
    exact W'.frame 0 { s with heap := g, drawn := d } _ _ st (Nat.le_refl _) fun b hb o e => oth b o (fun z => hSf (z ▸ hb)) e
  · exact wpAny_pure ⟨plainId_quiet PySem.F.plain_extend_loop _, key g _ st kp0 l1⟩
end
end SX
namespace SX
open PySem PySem.Spec PyProof.Rows L2 PySem.Builtin Ev
theorem _root_.L2.Inv.dr {X : Cx} {pins : List (Addr × Obj)} {σ : L2.St} {H : Hp} {s : Shared} (I : L2.Inv X pins σ H s) (d : Drawn) : L2.Inv X pins σ H { s with drawn := d } :=
  ⟨I.ok, I.os, I.bare, I.base, I.loc, I.cell, I.free, I.qj, I.pin, I.hok, I.len⟩
def Vt (P : Program) (w : World) (a : Addr) (ys : List Str) : HO := .ext fun h => oY P w h a ys
def aef (X : Cx) : List V → Hp → VK → Prop := fun xs H Q => ∃ (p : Addr) (zs : List (List Nat)), xs = [.ref p] ∧ lN X.K H p (zs.map fun z => V.str (Ev.strOf z)) ∧ zs.length < 64 ∧ ∀ l, H l = none → Q (.ref l) (upd H l (Vt X.prog X.w l (wI (zs.map Ev.strOf))))
def Rr (X : Cx) : List V → Hp → VK → Prop := fun xs H Q => ∃ (p : Addr) (zs : List (List Nat)), xs = [.ref p] ∧ H p = some (Vt X.prog X.w p (zs.map Ev.strOf)) ∧ zs.length < 64 ∧ ∀ l, H l = none → Q (.ref l) (upd H l (.lst ((cB zs).map fun z => V.str (Ev.strOf z))))
section
variable {X : Cx} {C : Cfg} {pos : Pos}
theorem Vf (hc : X.calm = true) : gM X (.type "set") (aef X) := by
  intro pins s σ H xs us Q I r h
  obtain ⟨p, zs, rfl, hq, hz, q⟩ := h
  obtain ⟨u, rfl, rx⟩ := vals1 r
  cases rx
  obtain ⟨its, r', pl, _⟩ := I.list hq
  have hS : StrsAre its (zs.map Ev.strOf) := qQ r'
  refine aan (I.ok.hd hc) pl.isList (zs := zs.map Ev.strOf) (by simpa using hS) (by rw [List.length_map]; exact Nat.lt_of_le_of_lt (Nat.succ_le_of_lt hz) (by decide)) fun g tk x k => ?_
  refine ⟨.ref s.heap.objs.size, _, I.laid (t' := tk) k (Nat.le_refl _) (o := Vt X.prog X.w s.heap.objs.size (wI (zs.map Ev.strOf))) ⟨x, ?_, fun h1 h2 y kk => y.keep kk⟩, rfl, q _ (I.hok.fresh (Nat.le_refl _))⟩
  obtain ⟨o, _, _, _, e, _⟩ := x
  exact ⟨o, e⟩
theorem Lx (hc : X.calm = true) : gM X (.builtin "sorted") (Rr X) := by
  intro pins s σ H xs us Q I r h
  obtain ⟨p, zs, rfl, hq, hz, q⟩ := h
  obtain ⟨u, rfl, rx⟩ := vals1 r
  cases rx
  have x : oY X.prog X.w s.heap p (zs.map Ev.strOf) := (I.hok p _ hq).1
  refine Calls.call_function_entry kind_sorted plain_sorted entry_sorted (args_sorted1 _) ?_
  unfold Builtin.«sorted»
  refine wpAny_bind (m := checkCount "sorted" 1 1 _) (wpAny_pure ?_)
  refine wpAny_bind (Jk (A := X.A.in1) (I.ok.hd hc) x (by rw [List.length_map]; exact hz) fun h' d tk os hss hlen hk => ?_)
  obtain ⟨ss, hS, pS⟩ := hss
  rw [List.length_map] at hlen
  refine wpAny_bind (wpAny_newList ?_ (by rw [hlen]; exact Nat.le_trans (Nat.le_of_lt hz) (by decide)))
  have hoL : (h'.push (seqObj "list" os.toArray 0)).get? h'.objs.size = some (seqObj "list" os.toArray 0) := Heap.get?_push_size _ rfl
  show wpAny _ _ _ _ _ { s with heap := h'.push (seqObj "list" os.toArray 0), drawn := d, toks := tk }
  refine wpAny_bind (wpAny_holding (wpAny_call_entry slot_list_sort ⟨_, hoL, rfl⟩ entry_list_sort (list_sort_treeK strKind_oneLt hoL hS.keysOf (fun v₁ v₂ rest e => keyKind_strs (by rw [← e]; exact hS)) (by rw [hlen]; exact hz) fun st' b1 b2 => ⟨_, rfl, ?_⟩) (args_list_sort _)))
  obtain ⟨ss', a1, a2, a3⟩ := sorted_out_str hS b1 b2
  obtain ⟨e, he⟩ := sortedHeap_at (out := (arrOf st').map (·.2)) hoL
  refine wpAny_pure ⟨_, rfl, ?_⟩
  have I1 : L2.Inv X pins σ H { s with heap := h', drawn := d, toks := tk } := (I.kept hk).dr d
  refine xY (s := { s with heap := h', drawn := d, toks := tk }) (tk := tk) I1 hz q a1 (a2.trans pS) a3 (fun b o e => ?_) (Nat.le_refl _) he
  have lt' := Heap.lt_size e
  rw [sortedHeap_old (Nat.ne_of_lt lt') (by rw [size_push']; exact Nat.lt_succ_of_lt lt')]
  exact Heap.get?_push_of_some _ e
end
def Qx (ys : List (List Nat)) (x : List Nat) : List (List Nat) := if x ∈ ys then ys else ys ++ [x]
def wJ (zs : List (List Nat)) : List (List Nat) := zs.foldl Qx []
theorem qT {x y : List Nat} (h : Ev.strOf x = Ev.strOf y) : x = y := by
  have := congrArg (fun s : Str => s.cps.toList) h
  simpa [Ev.strOf] using this
theorem Vr (ys : List (List Nat)) (x : List Nat) : (Qx ys x).map Ev.strOf = uP (ys.map Ev.strOf) (Ev.strOf x) := by
  unfold Qx uP
  by_cases h : x ∈ ys
  · rw [if_pos h, if_pos (List.mem_map.mpr ⟨x, h, rfl⟩)]
  · rw [if_neg h, if_neg (fun z => h (by obtain ⟨y, hy, e⟩ := List.mem_map.mp z; rw [← qT e]; exact hy)), List.map_append]
    rfl
theorem Gj : ∀ (zs ys : List (List Nat)), (zs.foldl Qx ys).map Ev.strOf = (zs.map Ev.strOf).foldl uP (ys.map Ev.strOf)
  | [], ys => rfl
  | z :: zs, ys => by rw [List.foldl_cons, Gj zs, Vr, List.map_cons, List.foldl_cons]
theorem Bb (zs : List (List Nat)) : (wJ zs).map Ev.strOf = wI (zs.map Ev.strOf) := Gj zs []
theorem Ba : ∀ (zs ys : List (List Nat)) (x : List Nat), x ∈ zs.foldl Qx ys ↔ x ∈ ys ∨ x ∈ zs
  | [], ys, x => by simp
  | z :: zs, ys, x => by
    rw [List.foldl_cons, Ba zs]
    unfold Qx
    by_cases h : z ∈ ys
    · rw [if_pos h, List.mem_cons]
      constructor
      · rintro (a | a)
        · exact .inl a
        · exact .inr (.inr a)
      · rintro (a | rfl | a)
        · exact .inl a
        · exact .inl h
        · exact .inr a
    · rw [if_neg h, List.mem_append, List.mem_singleton, List.mem_cons, or_assoc]
theorem Oc (zs : List (List Nat)) : (wJ zs).length ≤ zs.length := by
  have h := Gi (zs.map Ev.strOf) []
  have e := congrArg List.length (Bb zs)
  rw [List.length_map] at e
  rw [e]
  simpa [wI] using h
end SX
namespace Ev
open PySem PySem.Spec PyProof.Rows L2 PySem.Builtin
def lG : D → Option D
  | .lst ds => (bZ ds).bind fun zs => if zs.length < 64 ∧ (∀ z ∈ zs, z.length ≤ sizeLine) then some (.lst ((cB (SX.wJ zs)).map .str)) else none
  | _ => none
section
variable {X : Cx} {C : Cfg} {pos p p2 pos2 : Pos} {e : Expr} {a : Ev}
theorem uR (G : Good X C) (h1 : X.mg "sorted" = none) (h2 : X.mg "set" = none) (ha : PX X C e a) (g1 : Gl X "sorted" := by rfl) (g2 : Gl X "set" := by rfl)
    (he : starEach [e] X.env = (false, eval e X.env) :: starEach [] X.env := by rfl)
    (he2 : starEach [.Call (.Name "set" p2) [e] [] pos2] X.env = (false, eval (.Call (.Name "set" p2) [e] [] pos2) X.env) :: starEach [] X.env := by rfl) :
    PX X C (.Call (.Name "sorted" p) [.Call (.Name "set" p2) [e] [] pos2] [] pos) (oK lG a) := by
  have i1 : PE X (.Call (.Name "set" p2) [e] [] pos2) _ := Bl (T := "set") (SX.Vf G.calm) g2 h2 (by decide +kernel) (jB ha sH he) (by decide) (by decide) he rfl
  have i2 : PE X (.Call (.Name "sorted" p) [.Call (.Name "set" p2) [e] [] pos2] [] pos) _ := yu (SX.Lx G.calm) g1 h1 PyProof.Rows.boot_sorted (jB i1 sH he2) (by decide) (by decide) he2 rfl
  refine i2.imp fun σ H Q hq => ?_
  obtain ⟨Pr, F, env, env', d, r, e0, q⟩ := hq
  obtain ⟨x, aB, e1, e2⟩ := aO e0
  obtain ⟨e3, rfl⟩ := d8 e2
  refine ⟨Pr, F, env, env', x, r, e1, fun v H1 F1 r1 s1 p1 => ?_⟩
  unfold lG at e3
  split at e3
  · obtain ⟨zs, e4, e5⟩ := Option.bind_eq_some_iff.mp e3
    split at e5
    · rename_i hz
      cases e5
      obtain ⟨z, b, ws, rfl, k1, k2⟩ := gJ.lst (K := C.K) r1.fr (.inl p1)
      have e6 := qY e4 k2
      subst e6
      show SX.aef X [.ref b] H1 fun x H2 => SX.Rr X [x] H2 Q
      refine ⟨b, zs, rfl, by rw [G.K]; exact lN.of k1, hz.1, fun l hl => ?_⟩
      rw [← SX.Bb]
      have r2 := r1.fresh (o := SX.Vt X.prog X.w l ((SX.wJ zs).map strOf)) hl
      have hz2 : (SX.wJ zs).length < 64 ∧ ∀ z ∈ SX.wJ zs, z.length ≤ sizeLine :=
        ⟨Nat.lt_of_le_of_lt (SX.Oc zs) hz.1, fun z hm => hz.2 z ((SX.Ba zs [] z).mp hm |>.resolve_left (by simp))⟩
      refine ⟨l, SX.wJ zs, rfl, aQ, hz2.1, fun l2 hl2 => ?_⟩
      obtain ⟨F2, r3, s2, p3⟩ := (r2.fresh (o := .lst ((cB (SX.wJ zs)).map fun z => V.str (strOf z))) hl2).keep (Vw.of r2 hl2 (xX r2 hl2 hz2))
      exact q _ _ F2 r3 (s1.trans s2) p3
    · cases e5
  · cases e3
end
end Ev
namespace Ev
open PySem PySem.Spec PyProof.Rows L2 PySem.Builtin
section
variable {X : Cx} {C : Cfg} {pos : Pos}
structure PXL (X : Cx) (C : Cfg) (es : List Expr) (ev : cz) : Prop where
  go : Jz X C es ev
theorem uw : PXL X C [] ak := ⟨ao⟩
theorem aX {e : Expr} {es : List Expr} {a : Ev} {r : cz} (ha : PX X C e a) (hr : PXL X C es r) (hs : starEach (e :: es) X.env = (false, eval e X.env) :: starEach es X.env := by rfl) : PXL X C (e :: es) (aa a r) := ⟨aj ha hr.go hs⟩
theorem yG {es : List Expr} {a : cz} (h : PXL X C es a) : N5 X C (.List es pos) (cJ a) := dZ h.go
end
end Ev
namespace Ev
open PySem PySem.Spec PyProof.Rows L2 PySem.Builtin
section
variable {X : Cx} {C : Cfg} {pos : Pos} {x : Expr} {a : Ev}
def afI : D → Option D
  | .tup xs => some (.tup xs.reverse)
  | _ => none
end
end Ev
namespace Ev
open PySem L2
theorem nr {α : Type} {a b : α} (h : a = b) : a = b := h
theorem bR {α β : Type} (a : α) (e : Env) (f : α → Env → R β) : bindR (.ok a e) f = f a e := nr rfl
theorem bO {α : Type} (a : α) (e : Env) (f : α → Env → Out) : dm (.ok a e) f = f a e := nr rfl
theorem lR {α : Type} (a : α) (e : Env) : cY (some a) e = .ok a e := nr rfl
theorem lO (e : Env) : HD (some e) = .nx e := nr rfl
def VB {α : Type} (_ : Env) : R α := .stuck
def Rh (o : Out) (b : bN) : Out := match o with
  | .nx e => b e
  | .rt o d e => .rt o d e
  | .bk e => .bk e
  | .ct e => .ct e
  | .stuck => .stuck
theorem V5 (a b : bN) (env : Env) : aK a b env = Rh (a env) b := nr rfl
theorem sNx (e : Env) (b : bN) : Rh (.nx e) b = b e := nr rfl
theorem sRt (o : Bool) (d : D) (e : Env) (b : bN) : Rh (.rt o d e) b = .rt o d e := nr rfl
theorem sBk (e : Env) (b : bN) : Rh (.bk e) b = .bk e := nr rfl
theorem sCt (e : Env) (b : bN) : Rh (.ct e) b = .ct e := nr rfl
def Nk {α : Type} (c : Bool) (a b : Env → α) (env : Env) : α := if c = true then a env else b env
theorem iT {α : Type} (a b : Env → α) (env : Env) : Nk true a b env = a env := nr rfl
theorem iF {α : Type} (a b : Env → α) (env : Env) : Nk false a b env = b env := nr rfl
def kIf {α : Type} (a b : Env → α) (c : Bool) (e : Env) : α := Nk c a b e
theorem afh {α : Type} (a b : Env → α) (c : Bool) (e : Env) : kIf a b c e = Nk c a b e := nr rfl
theorem aah (t : cO) (a b : bN) (env : Env) : jH t a b env = dm (t env) (kIf a b) := nr rfl
theorem adb (t : cO) (a b : Ev) (env : Env) : ahy t a b env = bindR (t env) (kIf a b) := nr rfl
def okT (b : Bool) : cO := fun e => .ok b e
theorem aeI (b : Bool) (e : Env) : okT b e = .ok b e := nr rfl
theorem UG (a b : cO) (env : Env) : zg a b env = bindR (a env) (kIf b (okT false)) := nr rfl
theorem Yp (a b : cO) (env : Env) : o9 a b env = bindR (a env) (kIf (okT true) b) := nr rfl
def blR {α : Type} (d : D) (f : Bool → R α) : R α := match d with
  | .bl b => f b
  | _ => .stuck
theorem bB {α : Type} (b : Bool) (f : Bool → R α) : blR (.bl b) f = f b := nr rfl
def okB (b : Bool) : Ev := fun e => .ok (.bl b) e
theorem aeJ (b : Bool) (e : Env) : okB b e = .ok (.bl b) e := nr rfl
def HW (a b : Ev) (d : D) (e : Env) : R D := blR d (K3 a b e)
where K3 (a b : Ev) (e : Env) (c : Bool) : R D := Nk c a b e
theorem XC (a b : Ev) (d : D) (e : Env) : HW a b d e = blR d (HW.K3 a b e) := nr rfl
theorem Tz (a b : Ev) (e : Env) (c : Bool) : HW.K3 a b e c = Nk c a b e := nr rfl
theorem Yy (a b : Ev) (env : Env) : dY a b env = bindR (a env) (HW b (okB false)) := by
  unfold dY
  congr 1
  funext d e
  cases d with
  | bl b => cases b <;> rfl
  | _ => rfl
theorem ac9 (a b : Ev) (env : Env) : IK a b env = bindR (a env) (HW (okB true) b) := by
  unfold IK
  congr 1
  funext d e
  cases d with
  | bl b => cases b <;> rfl
  | _ => rfl
def Tg (e : Env) (c : Bool) : R D := .ok (.bl (!c)) e
def afc (d : D) (e : Env) : R D := blR d (Tg e)
theorem Xo (e : Env) (c : Bool) : Tg e c = .ok (.bl (!c)) e := nr rfl
theorem abT (d : D) (e : Env) : afc d e = blR d (Tg e) := nr rfl
theorem Yq (a : Ev) (env : Env) : ZF a env = bindR (a env) afc := by
  unfold ZF
  congr 1
def kB2 (e : Env) (c : Bool) : R Bool := .ok c e
def kB (d : D) (e : Env) : R Bool := blR d (kB2 e)
theorem afp (e : Env) (c : Bool) : kB2 e c = .ok c e := nr rfl
theorem ahb (d : D) (e : Env) : kB d e = blR d (kB2 e) := nr rfl
theorem af2 (a : Ev) (env : Env) : jC a env = bindR (a env) kB := by
  unfold jC
  congr 1
def J8 {α : Type} (o : Option (Option (Bool × D))) (f : Bool → D → R α) : R α := match o with
  | some (some (o, d)) => f o d
  | _ => .stuck
theorem rS {α : Type} (o : Bool) (d : D) (f : Bool → D → R α) : J8 (some (some (o, d))) f = f o d := nr rfl
def kRd (env : Env) (_ : Bool) (d : D) : R D := .ok d env
theorem ae9 (env : Env) (o : Bool) (d : D) : kRd env o d = .ok d env := nr rfl
theorem ac8 (i : Nat) (env : Env) : bw i env = J8 env[i]? (kRd env) := by
  unfold bw J8; rfl
def ae2 (i : Nat) (env : Env) (o : Bool) (d : D) : R D := .ok d (bif o then env.set i (some (false, d)) else env)
theorem abL (i : Nat) (env : Env) (o : Bool) (d : D) : ae2 i env o d = .ok d (bif o then env.set i (some (false, d)) else env) := nr rfl
theorem Yh (i : Nat) (env : Env) : az i env = J8 env[i]? (ae2 i env) := by
  unfold az J8
  cases env[i]? with
  | none => rfl
  | some o =>
    cases o with
    | none => rfl
    | some p => obtain ⟨b, d⟩ := p; cases b <;> rfl
def K4 (g : D → D → Option D) (y : D) (e : Env) (_ : Bool) (x : D) : R D := cY (g x y) e
def K5 (g : D → D → Option D) (i : Nat) (y : D) (e : Env) : R D := J8 e[i]? (K4 g y e)
def Zw (g : D → D → Option D) (i : Nat) (b : Ev) (env : Env) (_ : Bool) (_ : D) : R D := bindR (b env) (K5 g i)
theorem TF (g : D → D → Option D) (y : D) (e : Env) (o : Bool) (x : D) : K4 g y e o x = cY (g x y) e := nr rfl
theorem TJ (g : D → D → Option D) (i : Nat) (y : D) (e : Env) : K5 g i y e = J8 e[i]? (K4 g y e) := nr rfl
theorem XD (g : D → D → Option D) (i : Nat) (b : Ev) (env : Env) (o : Bool) (d : D) : Zw g i b env o d = bindR (b env) (K5 g i) := nr rfl
theorem Uz (g : D → D → Option D) (i : Nat) (b : Ev) (env : Env) : aA g i b env = J8 env[i]? (Zw g i b env) := by
  unfold aA J8; rfl
def ioR {α : Type} (o : Option (D × D)) (f : D → D → R α) : R α := match o with
  | some (d, x) => f d x
  | none => .stuck
theorem oS {α : Type} (d x : D) (f : D → D → R α) : ioR (some (d, x)) f = f d x := nr rfl
def ab5 (i : Nat) (e : Env) (d x' : D) : R D := .ok d (e.set i (some (true, x')))
def ab7 (f : List D → Option (D × D)) (i : Nat) (x : D) (ds : List D) (e : Env) : R D := ioR (f (x :: ds)) (ab5 i e)
def Tp (f : List D → Option (D × D)) (i : Nat) (ds : List D) (e : Env) (o : Bool) (x : D) : R D := Nk o (ab7 f i x ds) VB e
def aca (f : List D → Option (D × D)) (i : Nat) (ds : List D) (e : Env) : R D := J8 e[i]? (Tp f i ds e)
def acd (f : List D → Option (D × D)) (i : Nat) (a : cz) (env : Env) : R D := bindR (a env) (aca f i)
def kIO (f : List D → Option (D × D)) (i : Nat) (a : cz) (env : Env) (o : Bool) (_ : D) : R D := Nk o (acd f i a) VB env
theorem ab4 (i : Nat) (e : Env) (d x' : D) : ab5 i e d x' = .ok d (e.set i (some (true, x'))) := nr rfl
theorem ab6 (f : List D → Option (D × D)) (i : Nat) (x : D) (ds : List D) (e : Env) : ab7 f i x ds e = ioR (f (x :: ds)) (ab5 i e) := nr rfl
theorem ab8 (f : List D → Option (D × D)) (i : Nat) (ds : List D) (e : Env) (o : Bool) (x : D) : Tp f i ds e o x = Nk o (ab7 f i x ds) VB e := nr rfl
theorem ab9 (f : List D → Option (D × D)) (i : Nat) (ds : List D) (e : Env) : aca f i ds e = J8 e[i]? (Tp f i ds e) := nr rfl
theorem acb (f : List D → Option (D × D)) (i : Nat) (a : cz) (env : Env) : acd f i a env = bindR (a env) (aca f i) := nr rfl
theorem afj (f : List D → Option (D × D)) (i : Nat) (a : cz) (env : Env) (o : Bool) (d : D) : kIO f i a env o d = Nk o (acd f i a) VB env := nr rfl
theorem ade (f : List D → Option (D × D)) (i : Nat) (a : cz) (env : Env) : cP f i a env = J8 env[i]? (kIO f i a env) := by
  unfold cP J8 kIO Nk
  cases env[i]? with
  | none => rfl
  | some o =>
    cases o with
    | none => rfl
    | some p =>
      obtain ⟨b, d⟩ := p
      cases b with
      | false => rfl
      | true =>
        show bindR (a env) _ = bindR (a env) _
        congr 1
        funext ds e
        show _ = J8 e[i]? (Tp f i ds e)
        unfold J8 Tp Nk
        cases e[i]? with
        | none => rfl
        | some o =>
          cases o with
          | none => rfl
          | some p => obtain ⟨b, d⟩ := p; cases b <;> rfl
def Tj (e : Env) (d _ : D) : R D := .ok d e
def Tn (f : List D → Option (D × D)) (x : D) (ds : List D) (e : Env) : R D := ioR (f (x :: ds)) (Tj e)
def afi (f : List D → Option (D × D)) (a : cz) (x : D) (e : Env) : R D := bindR (a e) (Tn f x)
theorem Xq (e : Env) (d x : D) : Tj e d x = .ok d e := nr rfl
theorem Xr (f : List D → Option (D × D)) (x : D) (ds : List D) (e : Env) : Tn f x ds e = ioR (f (x :: ds)) (Tj e) := nr rfl
theorem ab3 (f : List D → Option (D × D)) (a : cz) (x : D) (e : Env) : afi f a x e = bindR (a e) (Tn f x) := nr rfl
theorem Yu (f : List D → Option (D × D)) (c : Ev) (a : cz) (env : Env) : af0 f c a env = bindR (c env) (afi f a) := nr rfl
def acI {α : Type} (d : D) (f : Int → R α) : R α := match d with
  | .int i => f i
  | _ => .stuck
theorem nS {α : Type} (i : Int) (f : Int → R α) : acI (.int i) f = f i := nr rfl
def kP2 (e : Env) (i : Int) : R (Option Int) := .ok (some i) e
def kP (d : D) (e : Env) : R (Option Int) := acI d (kP2 e)
theorem afa (e : Env) (i : Int) : kP2 e i = .ok (some i) e := nr rfl
theorem ag8 (d : D) (e : Env) : kP d e = acI d (kP2 e) := nr rfl
theorem afZ (a : Ev) (env : Env) : za a env = bindR (a env) kP := nr rfl
def obR {α : Type} (o : Option D) (f : Bool → R α) : R α := match o with
  | some (.bl k) => f k
  | _ => .stuck
theorem obS {α : Type} (k : Bool) (f : Bool → R α) : obR (some (.bl k)) f = f k := nr rfl
def acs (g' : D → D → Option D) (v t : D) (e : Env) : R D := cY (g' v t) e
def acv (g' : D → D → Option D) (c : Ev) (v : D) (e : Env) : R D := bindR (c e) (acs g' v)
def Tw (g' : D → D → Option D) (c : Ev) (v : D) (e : Env) (k : Bool) : R D := Nk k (acv g' c v) (okB false) e
def acx (g g' : D → D → Option D) (c : Ev) (u v : D) (e : Env) : R D := obR (g u v) (Tw g' c v e)
def kCh (g g' : D → D → Option D) (b c : Ev) (u : D) (e : Env) : R D := bindR (b e) (acx g g' c u)
theorem acr (g' : D → D → Option D) (v t : D) (e : Env) : acs g' v t e = cY (g' v t) e := nr rfl
theorem acu (g' : D → D → Option D) (c : Ev) (v : D) (e : Env) : acv g' c v e = bindR (c e) (acs g' v) := nr rfl
theorem Xz (g' : D → D → Option D) (c : Ev) (v : D) (e : Env) (k : Bool) : Tw g' c v e k = Nk k (acv g' c v) (okB false) e := nr rfl
theorem acw (g g' : D → D → Option D) (c : Ev) (u v : D) (e : Env) : acx g g' c u v e = obR (g u v) (Tw g' c v e) := nr rfl
theorem afn (g g' : D → D → Option D) (b c : Ev) (u : D) (e : Env) : kCh g g' b c u e = bindR (b e) (acx g g' c u) := nr rfl
theorem Qk (g g' : D → D → Option D) (a b c : Ev) (env : Env) : Ny g g' a b c env = bindR (a env) (kCh g g' b c) := by
  unfold Ny
  congr 1
def o6 (o : Out) (k : bN) : Out := match o with
  | .nx e => k e
  | .ct e => k e
  | .bk e => .nx e
  | .rt o d e => .rt o d e
  | .stuck => .stuck
theorem kNx (e : Env) (b : bN) : o6 (.nx e) b = b e := nr rfl
theorem kRt (o : Bool) (d : D) (e : Env) (b : bN) : o6 (.rt o d e) b = .rt o d e := nr rfl
theorem kBk (e : Env) (b : bN) : o6 (.bk e) b = .nx e := nr rfl
theorem kCt (e : Env) (b : bN) : o6 (.ct e) b = b e := nr rfl
def gvK (o : Option Env) (b : bN) : Out := match o with
  | none => .stuck
  | some e => b e
theorem vS (e : Env) (b : bN) : gvK (some e) b = b e := nr rfl
def kFor (g : GV) (b : bN) (ds : List D) (e : Env) : Out := o6 (b e) (iy g b ds)
theorem ace (g : GV) (b : bN) (ds : List D) (e : Env) : kFor g b ds e = o6 (b e) (iy g b ds) := nr rfl
theorem ac4 (g : GV) (b : bN) (env : Env) : iy g b [] env = .nx env := nr rfl
theorem Eu (g : GV) (b : bN) (d : D) (ds : List D) (env : Env) : iy g b (d :: ds) env = gvK (g d env) (kFor g b ds) := by
  rw [iy]
  cases g d env with
  | none => rfl
  | some e =>
    show (match b e with | .nx e2 => iy g b ds e2 | .ct e2 => iy g b ds e2 | .bk e2 => .nx e2 | .rt o d e2 => .rt o d e2 | .stuck => .stuck) = o6 (b e) (iy g b ds)
    cases b e <;> rfl
def kWh (t : cO) (b : bN) (n : Nat) : bN := fun e => o6 (b e) (Ce t b n)
theorem ae1 (t : cO) (b : bN) (n : Nat) (e : Env) : kWh t b n e = o6 (b e) (Ce t b n) := nr rfl
def gvR {α : Type} (o : Option Env) (b : Env → R α) : R α := match o with
  | none => .stuck
  | some e => b e
theorem wS {α : Type} (e : Env) (b : Env → R α) : gvR (some e) b = b e := nr rfl
def abW (y : D) (ys : List D) (e : Env) : R (List D) := .ok (y :: ys) e
def abY (g : GV) (c : cO) (el : Ev) (ds : List D) (y : D) (e : Env) : R (List D) := bindR (zV g c el ds e) (abW y)
def ab0 (g : GV) (c : cO) (el : Ev) (ds : List D) (e : Env) : R (List D) := bindR (el e) (abY g c el ds)
def kLc (g : GV) (c : cO) (el : Ev) (ds : List D) (e : Env) : R (List D) := bindR (c e) (kIf (ab0 g c el ds) (zV g c el ds))
theorem abV (y : D) (ys : List D) (e : Env) : abW y ys e = .ok (y :: ys) e := nr rfl
theorem abX (g : GV) (c : cO) (el : Ev) (ds : List D) (y : D) (e : Env) : abY g c el ds y e = bindR (zV g c el ds e) (abW y) := nr rfl
theorem abZ (g : GV) (c : cO) (el : Ev) (ds : List D) (e : Env) : ab0 g c el ds e = bindR (el e) (abY g c el ds) := nr rfl
theorem afe (g : GV) (c : cO) (el : Ev) (ds : List D) (e : Env) : kLc g c el ds e = bindR (c e) (kIf (ab0 g c el ds) (zV g c el ds)) := nr rfl
theorem aeY (g : GV) (c : cO) (e : Ev) (env : Env) : zV g c e [] env = .ok [] env := nr rfl
theorem aeZ (g : GV) (c : cO) (e : Ev) (d : D) (ds : List D) (env : Env) : zV g c e (d :: ds) env = gvR (g d env) (kLc g c e ds) := by
  rw [zV]
  cases g d env <;> rfl
def Wk (o : Out) : Option D := match o with
  | .rt false d _ => some d
  | .nx _ => some .non
  | _ => none
theorem aar (n : Nat) (ev : bN) (ds : List D) : gb n ev ds = Wk (ev (envOf n ds)) := nr rfl
theorem dRt (d : D) (e : Env) : Wk (.rt false d e) = some d := nr rfl
theorem dNx (e : Env) : Wk (.nx e) = some .non := nr rfl
def szR {α : Type} (n : Nat) (x : R α) : R α := if n ≤ sizeLine then x else .stuck
theorem zR {α : Type} {n : Nat} {x : R α} (h : n ≤ sizeLine) : szR n x = x := if_pos h
def ae4 (ds : List D) (e : Env) : R D := szR ds.length (.ok (.tup ds) e)
theorem abM (ds : List D) (e : Env) : ae4 ds e = szR ds.length (.ok (.tup ds) e) := nr rfl
theorem Yj (r : cz) (env : Env) : bC r env = bindR (r env) ae4 := nr rfl
def afd (ds : List D) (e : Env) : R D := szR ds.length (.ok (.lst ds) e)
theorem abU (ds : List D) (e : Env) : afd ds e = szR ds.length (.ok (.lst ds) e) := nr rfl
theorem Yt (r : cz) (env : Env) : cJ r env = bindR (r env) afd := nr rfl
def VG (o : Option (Option (Bool × D))) (f : List D → Out) : Out := match o with
  | some (some (true, .lst xs)) => f xs
  | _ => .stuck
theorem lS (xs : List D) (f : List D → Out) : VG (some (some (true, .lst xs))) f = f xs := nr rfl
def szO (n : Nat) (x : Out) : Out := if n ≤ sizeLine then x else .stuck
theorem zO {n : Nat} {x : Out} (h : n ≤ sizeLine) : szO n x = x := if_pos h
def TV (i : Nat) (d : D) (e : Env) (xs : List D) : Out := szO (xs.length + 1) (.nx (e.set i (some (true, .lst (xs ++ [d])))))
def TX (i : Nat) (d : D) (e : Env) : Out := VG e[i]? (TV i d e)
def afr (i : Nat) (a : Ev) (env : Env) (_ : List D) : Out := dm (a env) (TX i)
theorem XH (i : Nat) (d : D) (e : Env) (xs : List D) : TV i d e xs = szO (xs.length + 1) (.nx (e.set i (some (true, .lst (xs ++ [d]))))) := nr rfl
theorem XJ (i : Nat) (d : D) (e : Env) : TX i d e = VG e[i]? (TV i d e) := nr rfl
theorem acA (i : Nat) (a : Ev) (env : Env) (xs : List D) : afr i a env xs = dm (a env) (TX i) := nr rfl
theorem Wb (i : Nat) (a : Ev) (env : Env) : nA i a env = VG env[i]? (afr i a env) := nr rfl
def ldO (d : D) (f : List D → Out) : Out := match d with
  | .lst xs => f xs
  | _ => .stuck
theorem eS (xs : List D) (f : List D → Out) : ldO (.lst xs) f = f xs := nr rfl
def Tq (i : Nat) (e : Env) (xs zs : List D) : Out := szO (xs.length + zs.length) (.nx (e.set i (some (true, .lst (xs ++ zs)))))
def HS (i : Nat) (d : D) (e : Env) (xs : List D) : Out := ldO d (Tq i e xs)
def Tr (i : Nat) (d : D) (e : Env) : Out := VG e[i]? (HS i d e)
def acg (i : Nat) (a : Ev) (env : Env) (_ : List D) : Out := dm (a env) (Tr i)
theorem Xu (i : Nat) (e : Env) (xs zs : List D) : Tq i e xs zs = szO (xs.length + zs.length) (.nx (e.set i (some (true, .lst (xs ++ zs))))) := nr rfl
theorem Xv (i : Nat) (d : D) (e : Env) (xs : List D) : HS i d e xs = ldO d (Tq i e xs) := nr rfl
theorem Xw (i : Nat) (d : D) (e : Env) : Tr i d e = VG e[i]? (HS i d e) := nr rfl
theorem acf (i : Nat) (a : Ev) (env : Env) (xs : List D) : acg i a env xs = dm (a env) (Tr i) := nr rfl
theorem V9 (i : Nat) (a : Ev) (env : Env) : Y6 i a env = VG env[i]? (acg i a env) := by
  unfold Y6 VG acg
  cases env[i]? with
  | none => rfl
  | some o =>
    cases o with
    | none => rfl
    | some p =>
      obtain ⟨b, d⟩ := p
      cases b with
      | false => rfl
      | true =>
        cases d with
        | lst xs =>
          show dm (a env) _ = dm (a env) _
          congr 1
          funext d e
          show _ = VG e[i]? (HS i d e)
          unfold VG HS
          cases e[i]? with
          | none => rfl
          | some o =>
            cases o with
            | none => rfl
            | some p =>
              obtain ⟨b, u⟩ := p
              cases b with
              | false => rfl
              | true =>
                cases u with
                | lst ys => cases d <;> rfl
                | _ => rfl
        | _ => rfl
theorem Nu {a b : List Nat} (h : a.length + b.length ≤ sizeLine) : bU (.str a) (.str b) = some (.str (a ++ b)) := if_pos h
theorem Yd {a b : List D} (h : a.length + b.length ≤ sizeLine) : bU (.tup a) (.tup b) = some (.tup (a ++ b)) := if_pos h
theorem Ye {a b : List D} (h : a.length + b.length ≤ sizeLine) : bU (.lst a) (.lst b) = some (.lst (a ++ b)) := if_pos h
theorem Yc {a b : List D} (h : a.length + b.length ≤ sizeLine) : ahw (.lst a) (.lst b) = some (.lst (a ++ b)) := if_pos h
theorem afG (xs : List D) (lo hi : Option Int) : gSl (.lst xs) lo hi = some (.lst (cutD xs lo hi)) := nr rfl
theorem afH (xs : List D) (lo hi : Option Int) : gSl (.arr xs) lo hi = some (.lst (cutD xs lo hi)) := nr rfl
theorem acM (x : List Nat) (lo hi : Option Int) : acN (.str x) lo hi = some (.str (cutD x lo hi)) := nr rfl
theorem acQ (x : List Nat) : acR (.str x) = some (.str x.reverse) := nr rfl
theorem X6 (x : List D) : afI (.tup x) = some (.tup x.reverse) := nr rfl
theorem afw (xs : List D) : itD (.lst xs) = some xs := nr rfl
theorem afx (xs : List D) : itD (.arr xs) = some xs := nr rfl
theorem afu (xs : List D) : itD (.tup xs) = some xs := nr rfl
theorem afv (x : List Nat) : itD (.str x) = some (j5 x) := nr rfl
theorem uC (xs : List D) (lo hi : Option Int) : La (.tup xs) lo hi = some (.tup (cutD xs lo hi)) := by
  show (if HT.dJ xs.length 0 lo = 0 ∧ HT.dJ xs.length xs.length hi = xs.length then some (D.tup xs) else some (D.tup (cutD xs lo hi))) = _
  split
  · rename_i h
    unfold cutD
    rw [h.1, h.2]
    simp
  · rfl
theorem Ff {α : Type} (xs : List α) (k : Nat) : cutD xs none (some (k : Int)) = xs.take k := by
  unfold cutD
  rw [HT.Wf]
  have : HT.dJ xs.length 0 none = 0 := rfl
  rw [this, List.drop_zero, Nat.sub_zero]
  by_cases h : k ≤ xs.length
  · rw [Nat.min_eq_left h]
  · rw [Nat.min_eq_right (by omega), List.take_of_length_le (Nat.le_refl _), List.take_of_length_le (by omega)]
theorem Zz (xs : List D) (k : Int) : jk (.tup xs) (.int k) = pq xs k := nr rfl
theorem ZC (xs : List D) (k : Int) : jk (.lst xs) (.int k) = pq xs k := nr rfl
theorem afP (x : List Nat) (k : Int) : jk (.str x) (.int k) = (pq x k).map fun c => .str [c] := nr rfl
theorem at0 {α : Type} (x : α) (r : List α) : pq (x :: r) 0 = some x := oU (j := 0) rfl
theorem at1 {α : Type} (x y : α) (r : List α) : pq (x :: y :: r) 1 = some y := oU (j := 1) rfl
theorem at2 {α : Type} (x y z : α) (r : List α) : pq (x :: y :: z :: r) 2 = some z := oU (j := 2) rfl
theorem at3 {α : Type} (x y z u : α) (r : List α) : pq (x :: y :: z :: u :: r) 3 = some u := oU (j := 3) rfl
theorem atN {α : Type} (xs : List α) (k : Nat) : pq xs (k : Int) = xs[k]? := by
  cases h : xs[k]? with
  | some x => exact oU h
  | none =>
    have hl : xs.length ≤ k := List.getElem?_eq_none_iff.mp h
    unfold pq XN
    rw [if_pos (Int.natCast_nonneg k), if_neg (by omega)]
    rfl
theorem ac2 (i j : Int) : bU (.int i) (.int j) = some (.int (i + j)) := nr rfl
theorem acV (x : List Nat) : dG [.str x] = some (.int x.length) := nr rfl
theorem acU (x : List D) : dG [.tup x] = some (.int x.length) := nr rfl
theorem acW (x : List D) : dG [.lst x] = some (.int x.length) := nr rfl
theorem acX (x : List D) : dG [.arr x] = some (.int x.length) := nr rfl
theorem Uk (x : List D) : dN [.lst x] = some (.tup x) := nr rfl
theorem Uj (x : List D) : dN [.tup x] = some (.tup x) := nr rfl
theorem X7 (x : List D) : o8 [.tup x] = some (.lst x) := nr rfl
theorem Yb (x : List D) : o8 [.lst x] = some (.lst x) := nr rfl
theorem X8 (x : List Nat) : o8 [.str x] = some (.lst (signs x)) := nr rfl
theorem afT (a b : List Nat) : Im (.str a) (.str b) = some (.bl (a == b)) := nr rfl
theorem afJ (a b : List Nat) : Uo (.str a) (.str b) = some (.bl (!(a == b))) := nr rfl
theorem afU (a b : Int) : Im (.int a) (.int b) = some (.bl (a == b)) := nr rfl
theorem afK (a b : Int) : Uo (.int a) (.int b) = some (.bl (!(a == b))) := nr rfl
theorem afO (a b : Int) : gLe (.int a) (.int b) = some (.bl (decide (a ≤ b))) := nr rfl
theorem afM (a b : Int) : gLt (.int a) (.int b) = some (.bl (decide (a < b))) := nr rfl
theorem afR (a b : Int) : gGt (.int a) (.int b) = some (.bl (decide (b < a))) := nr rfl
theorem afS (a b : Int) : gGe (.int a) (.int b) = some (.bl (decide (b ≤ a))) := nr rfl
theorem afL (a b : List Nat) : gLt (.str a) (.str b) = some (.bl (decide (a < b))) := nr rfl
theorem acL (a b : Int) : El (.int a) (.int b) = some (.int (a - b)) := nr rfl
theorem afQ (c : Nat) (z : List Nat) : gIn (.str [c]) (.str z) = some (.bl (decide (c ∈ z))) := nr rfl
theorem af8 {α : Type} (p : α → Bool) : ∀ l : List α, qJ (l.map fun a => D.bl (p a)) = some (l.map p)
  | [] => rfl
  | a :: l => by
    rw [List.map_cons]
    unfold qJ
    rw [af8 p l]
    rfl
theorem Io {α : Type} (p : α → Bool) (l : List α) : ph [.lst (l.map fun a => D.bl (p a))] = some (.bl (l.all p)) := by
  show (qJ _).map _ = _
  rw [af8]
  simp [List.all_map]
theorem acY (T : String) (d : D) : vQ T d = some (.bl (jc d T)) := nr rfl
theorem aaf (n : Nat) : iV 0 1 n = (List.range n).map fun (i : Nat) => D.int (i : Int) := by
  unfold iV
  apply List.map_congr_left
  intro i _
  congr 1
  omega
theorem Rk {n : Nat} (h : n < 2 ^ 62) : yj [.int (n : Int)] = some ((List.range n).map fun (i : Nat) => D.int (i : Int)) := by
  have hf : lX (n : Int) = true := by
    unfold lX
    simp only [Bool.and_eq_true, decide_eq_true_eq]
    omega
  show (if lX (n : Int) = true then some (iV 0 1 (n : Int).toNat) else none) = _
  rw [if_pos hf, Int.toNat_natCast, aaf]
theorem ahs (n : Nat) (gs : N7) (xs : List D) (env : Env) (h : xs.length = n) : fL n gs (.tup xs) env = gs xs env := if_pos h
def gvB (o : Option Env) (f : Env → Option Env) : Option Env := o.bind f
theorem gB (e : Env) (f : Env → Option Env) : gvB (some e) f = f e := nr rfl
theorem Ud (g : GV) (gs : N7) (d : D) (ds : List D) (env : Env) : bu g gs (d :: ds) env = gvB (g d env) (gs ds) := nr rfl
theorem XX (env : Env) : gw [] env = some env := nr rfl
def ae8 (d : D) (e : Env) : Out := .rt false d e
theorem abR (d : D) (e : Env) : ae8 d e = .rt false d e := nr rfl
theorem V6 (a : Ev) (env : Env) : aV a env = dm (a env) ae8 := nr rfl
theorem Q6 (env : Env) : aag env = .rt false .non env := nr rfl
def afq (g : GV) (d : D) (e : Env) : Out := HD (g d e)
theorem acz (g : GV) (d : D) (e : Env) : afq g d e = HD (g d e) := nr rfl
theorem Wa (a : Ev) (g : GV) (env : Env) : bj a g env = dm (a env) (afq g) := nr rfl
def kOwn (i : Nat) (d : D) (e : Env) : Out := .nx (e.set i (some (true, d)))
theorem abS (i : Nat) (d : D) (e : Env) : kOwn i d e = .nx (e.set i (some (true, d))) := nr rfl
theorem V7 (i : Nat) (a : Ev) (env : Env) : kO i a env = dm (a env) (kOwn i) := nr rfl
theorem Q7 (env : Env) : cG env = .nx env := nr rfl
theorem V8 (it : cz) (g : GV) (b : bN) (env : Env) : ji it g b env = dm (it env) (iy g b) := nr rfl
theorem af1 (d : D) (env : Env) : aN d env = .ok d env := nr rfl
theorem Uw (env : Env) : oM env = .ok (.dct []) env := nr rfl
theorem Ys (env : Env) : ak env = .ok [] env := nr rfl
theorem Us (env : Env) : bW env = .ok true env := nr rfl
theorem Yr (env : Env) : qu env = .ok none env := nr rfl
def K1 (d : D) (ds : List D) (e : Env) : R (List D) := .ok (d :: ds) e
def Zv (r : cz) (d : D) (e : Env) : R (List D) := bindR (r e) (K1 d)
theorem Tv (d : D) (ds : List D) (e : Env) : K1 d ds e = .ok (d :: ds) e := nr rfl
theorem Xy (r : cz) (d : D) (e : Env) : Zv r d e = bindR (r e) (K1 d) := nr rfl
theorem Ux (a : Ev) (r : cz) (env : Env) : aa a r env = bindR (a env) (Zv r) := nr rfl
def TQ (g : D → D → Option D) (x y : D) (e : Env) : R D := cY (g x y) e
def afo (g : D → D → Option D) (b : Ev) (x : D) (e : Env) : R D := bindR (b e) (TQ g x)
theorem XF (g : D → D → Option D) (x y : D) (e : Env) : TQ g x y e = cY (g x y) e := nr rfl
theorem acy (g : D → D → Option D) (b : Ev) (x : D) (e : Env) : afo g b x e = bindR (b e) (TQ g x) := nr rfl
theorem Yx (g : D → D → Option D) (a b : Ev) (env : Env) : aF g a b env = bindR (a env) (afo g b) := nr rfl
def kUn {α β : Type} (g : α → Option β) (x : α) (e : Env) : R β := cY (g x) e
theorem ae3 {α β : Type} (g : α → Option β) (x : α) (e : Env) : kUn g x e = cY (g x) e := nr rfl
theorem ac6 (g : D → Option D) (a : Ev) (env : Env) : oK g a env = bindR (a env) (kUn g) := nr rfl
theorem Uy (g : List D → Option D) (a : cz) (env : Env) : aq g a env = bindR (a env) (kUn g) := nr rfl
def Zu (b : Bool) (e : Env) : R Bool := .ok (!b) e
theorem Xn (b : Bool) (e : Env) : Zu b e = .ok (!b) e := nr rfl
theorem Uu (a : cO) (env : Env) : fC a env = bindR (a env) Zu := nr rfl
def abO (s : D → Option Int → Option Int → Option D) (d : D) (l u : Option Int) (e : Env) : R D := cY (s d l u) e
def abQ (s : D → Option Int → Option Int → Option D) (hi : xK) (d : D) (l : Option Int) (e : Env) : R D := bindR (hi e) (abO s d l)
def kSl (s : D → Option Int → Option Int → Option D) (lo hi : xK) (d : D) (e : Env) : R D := bindR (lo e) (abQ s hi d)
theorem abN (s : D → Option Int → Option Int → Option D) (d : D) (l u : Option Int) (e : Env) : abO s d l u e = cY (s d l u) e := nr rfl
theorem abP (s : D → Option Int → Option Int → Option D) (hi : xK) (d : D) (l : Option Int) (e : Env) : abQ s hi d l e = bindR (hi e) (abO s d l) := nr rfl
theorem ae6 (s : D → Option Int → Option Int → Option D) (lo hi : xK) (d : D) (e : Env) : kSl s lo hi d e = bindR (lo e) (abQ s hi d) := nr rfl
theorem ac7 (a : Ev) (lo hi : xK) (env : Env) : vU a lo hi env = bindR (a env) (kSl gSl lo hi) := nr rfl
theorem Yl (a : Ev) (lo hi : xK) (env : Env) : afX a lo hi env = bindR (a env) (kSl acN lo hi) := nr rfl
theorem Yk (a : Ev) (lo hi : xK) (env : Env) : Iw a lo hi env = bindR (a env) (kSl La lo hi) := nr rfl
theorem Yo (a : Ev) (env : Env) : afY a env = bindR (a env) (kUn acR) := nr rfl
theorem ada (a : Ev) (env : Env) : ig a env = bindR (a env) (kUn itD) := nr rfl
theorem Yn (a : cz) (env : Env) : eN a env = bindR (a env) (kUn yj) := nr rfl
theorem Uc (i : Nat) (d : D) (env : Env) : au i d env = some (env.set i (some (false, d))) := nr rfl
theorem gt0 {α : Type} (a : α) (l : List α) : (a :: l)[0]? = some a := nr rfl
theorem gtS {α : Type} (a : α) (l : List α) (i : Nat) : (a :: l)[i + 1]? = l[i]? := nr rfl
theorem st0 {α : Type} (a b : α) (l : List α) : (a :: l).set 0 b = b :: l := nr rfl
theorem stS {α : Type} (a b : α) (l : List α) (i : Nat) : (a :: l).set (i + 1) b = a :: l.set i b := nr rfl
theorem cdT {α : Type} (a b : α) : (bif true then a else b) = a := nr rfl
theorem cdF {α : Type} (a b : α) : (bif false then a else b) = b := nr rfl
end Ev
namespace Ev
open PySem L2
theorem Zr {α : Type} {g : GV} {c : cO} {e : Ev} (enc : α → D) (ext : α → Env) (p : α → Bool) (out : α → D) (env : Env) (k : Nat) : ∀ (l : List α) (vs : Env), vs.length = k →
    (∀ a ∈ l, (ext a).length = k ∧ (∀ vs : Env, vs.length = k → g (enc a) (env ++ vs) = some (env ++ ext a)) ∧ c (env ++ ext a) = .ok (p a) (env ++ ext a) ∧ (p a = true → e (env ++ ext a) = .ok (out a) (env ++ ext a))) →
    ∃ vs', vs'.length = k ∧ zV g c e (l.map enc) (env ++ vs) = .ok ((l.filter p).map out) (env ++ vs')
  | [], vs, hv, _ => ⟨vs, hv, rfl⟩
  | a :: l, vs, hv, h => by
    obtain ⟨h1, h2, h3, h4⟩ := h a List.mem_cons_self
    obtain ⟨vs', h5, h6⟩ := Zr enc ext p out env k l (ext a) h1 fun b hb => h b (List.mem_cons_of_mem _ hb)
    refine ⟨vs', h5, ?_⟩
    rw [List.map_cons]
    unfold zV
    rw [h2 vs hv]
    show bindR (c (env ++ ext a)) _ = _
    rw [h3, bR]
    cases hp : p a with
    | true => rw [if_pos rfl, h4 hp, bR, h6, bR, List.filter_cons_of_pos hp, List.map_cons]
    | false => rw [if_neg Bool.false_ne_true, h6, List.filter_cons_of_neg (by rw [hp]; exact Bool.false_ne_true)]
theorem Ew {α : Type} {lo n : Nat} {it : cz} {g : GV} {c : cO} {e : Ev} {env aB : Env} (l : List α) (enc : α → D) (ext : α → Env) (p : α → Bool) (out : α → D) (hit : it env = .ok (l.map enc) aB) (hlo : aB.length = lo)
    (h : ∀ a ∈ l, (ext a).length = n - lo ∧ (∀ vs : Env, vs.length = n - lo → g (enc a) (aB ++ vs) = some (aB ++ ext a)) ∧ c (aB ++ ext a) = .ok (p a) (aB ++ ext a) ∧ (p a = true → e (aB ++ ext a) = .ok (out a) (aB ++ ext a)))
    (hz : l.length ≤ sizeLine) : dW lo n it g c e env = .ok (.lst ((l.filter p).map out)) aB := by
  obtain ⟨vs', h5, h6⟩ := Zr enc ext p out aB (n - lo) l (List.replicate (n - lo) none) List.length_replicate h
  have := xG hit hlo h6 (Nat.le_trans (by rw [List.length_map]; exact List.length_filter_le _ _) hz)
  rw [this, ← hlo, List.take_left]
theorem tM {α : Type} {lo n : Nat} {it : cz} {e : Ev} {env aB : Env} (l : List α) (enc : α → D) (out : α → D) (hit : it env = .ok (l.map enc) aB) (hlo : aB.length = lo) (hn : n = lo + 1)
    (h : ∀ a ∈ l, e (aB ++ [some (false, enc a)]) = .ok (out a) (aB ++ [some (false, enc a)])) (hz : l.length ≤ sizeLine) : dW lo n it (au lo) bW e env = .ok (.lst (l.map out)) aB := by
  subst hn hlo
  have := Ew (lo := aB.length) (n := aB.length + 1) (it := it) (g := au aB.length) (c := bW) (e := e) (env := env) l enc (fun a => [some (false, enc a)]) (fun _ => true) out hit rfl (fun a ha => ⟨by simp, fun vs hv => ?_, rfl, fun _ => h a ha⟩) hz
  · rw [this, List.filter_eq_self.mpr (fun _ _ => rfl)]
  · have hv : vs.length = 1 := by omega
    obtain ⟨v, rfl⟩ := List.length_eq_one_iff.mp hv
    unfold au
    rw [List.set_append_right _ _ (Nat.le_refl _), Nat.sub_self]
    rfl
theorem Ex {α : Type} {lo n : Nat} {it : cz} {c : cO} {e : Ev} {env aB : Env} (l : List α) (enc : α → D) (p : α → Bool) (out : α → D) (hit : it env = .ok (l.map enc) aB) (hlo : aB.length = lo) (hn : n = lo + 1)
    (hc : ∀ a ∈ l, c (aB ++ [some (false, enc a)]) = .ok (p a) (aB ++ [some (false, enc a)]))
    (h : ∀ a ∈ l, p a = true → e (aB ++ [some (false, enc a)]) = .ok (out a) (aB ++ [some (false, enc a)])) (hz : l.length ≤ sizeLine) : dW lo n it (au lo) c e env = .ok (.lst ((l.filter p).map out)) aB := by
  subst hn hlo
  refine Ew (lo := aB.length) (n := aB.length + 1) l enc (fun a => [some (false, enc a)]) p out hit rfl (fun a ha => ⟨by simp, fun vs hv => ?_, hc a ha, fun hp => h a ha hp⟩) hz
  have hv : vs.length = 1 := by omega
  obtain ⟨v, rfl⟩ := List.length_eq_one_iff.mp hv
  unfold au
  rw [List.set_append_right _ _ (Nat.le_refl _), Nat.sub_self]
  rfl
end Ev
namespace HT
open PySem PySem.Spec PyProof PyProof.Rows PySem.Builtin
theorem jG (b : Str) (u : Tok) (l : Addr) (es : Array DictEntry) (ep : Nat) (dd : Option Addr) (sl : Array (Option Value)) :
    Meets (Builtin.«str.__eq__» ⟨[.str b u, .ref l], []⟩) (fun _ R s => s.heap.get? l = some { cls := .type "dict", dict := dd, data := .dict es ep, slots := sl } ∧ R (.ok (.ret .notImplemented)) s) :=
  .of_wp fun prog w A R s h => by obtain ⟨hp, g, d, tk, os⟩ := s; obtain ⟨hl, h⟩ := h; wp_walk using wpAny_loadPart' hl, wpAny_load hl; exact ⟨_, rfl, h⟩
theorem jP (b : Str) (u : Tok) (l : Addr) (es : Array DictEntry) (ep : Nat) (dd : Option Addr) (sl : Array (Option Value)) :
    Meets (Builtin.«dict.__eq__» ⟨[.ref l, .str b u], []⟩) (fun _ R s => s.heap.get? l = some { cls := .type "dict", dict := dd, data := .dict es ep, slots := sl } ∧ R (.ok (.ret .notImplemented)) s) :=
  .of_wp fun prog w A R s h => by obtain ⟨hp, g, d, tk, os⟩ := s; obtain ⟨hl, h⟩ := h; have f1 := F.sub_str_dict; wp_walk using wpAny_loadPart' hl, wpAny_load hl; exact ⟨_, rfl, h⟩
section
variable {A : Around} {s : Shared}
def N6 (h : Heap) (l : Addr) : Prop := ∃ o es ep, h.get? l = some o ∧ o.ExactDict ∧ o.data = .dict es ep
theorem Aa {l : Addr} (b : Str) (u : Tok) (hl : N6 s.heap l) (hu : A.units < cLine) : SeqAt.RcAt A s (.str b u) (.ref l) false := fun prog w E Q h => by
  obtain ⟨⟨cls, dd, data, sl⟩, es, ep, ho, ⟨hc, hn, hs⟩, hd⟩ := id hl
  simp only at hc hd
  subst hc hd
  exact SeqAt.rc_eq_decline_or (k := false) (typeIs_str s b u) ⟨_, ho, rfl⟩ (by decide) F.sub_dict_str F.slot_str_eq F.slot_dict_eq_refl
    (fun _ hq => call_meets F.slot_str_eq (typeIs_str s b u) F.entry_str_eq (F.args_str_eq_2 _ _) (jG b u l es ep dd sl) ⟨ho, hq⟩)
    (fun _ hq => call_meets F.slot_dict_eq_refl ⟨_, ho, rfl⟩ F.entry_dict_eq (F.args_dict_eq_2 _ _) (jP b u l es ep dd sl) ⟨ho, hq⟩)
    (fun _ hq => wpAny_of_eq (rfl : isSame (.str b u) (.ref l) = pure false) hq) (.inr hu) h
theorem Ab {l : Addr} (b : Str) (u : Tok) (hl : N6 s.heap l) (hu : A.units < cLine) : SeqAt.RcAt A s (.ref l) (.str b u) false := fun prog w E Q h => by
  obtain ⟨⟨cls, dd, data, sl⟩, es, ep, ho, ⟨hc, hn, hs⟩, hd⟩ := id hl
  simp only at hc hd
  subst hc hd
  exact SeqAt.rc_eq_decline_or (k := false) ⟨_, ho, rfl⟩ (typeIs_str s b u) (by decide) F.sub_str_dict F.slot_dict_eq F.slot_str_eq_refl
    (fun _ hq => call_meets F.slot_dict_eq ⟨_, ho, rfl⟩ F.entry_dict_eq (F.args_dict_eq_2 _ _) (jP b u l es ep dd sl) ⟨ho, hq⟩)
    (fun _ hq => call_meets F.slot_str_eq_refl (typeIs_str s b u) F.entry_str_eq (F.args_str_eq_2 _ _) (jG b u l es ep dd sl) ⟨ho, hq⟩)
    (fun _ hq => wpAny_of_eq (rfl : isSame (.ref l) (.str b u) = pure false) hq) (.inr hu) h
theorem rU {l : Addr} (b : Str) (u : Tok) (hl : N6 s.heap l) (hu : A.units < cLine) : SeqAt.EqAt A s (.str b u) (.ref l) false := fun prog w E Q h => by
  unfold eqBool
  refine wpAny_holding ?_
  refine wpAny_ite_split (fun hab => absurd (eq_of_beq hab) nofun) (fun _ => ?_)
  exact wpAny_bind (Aa b u hl hu prog w E _ (wpAny_truthy_bool h))
end
end HT
namespace Ev
open PySem PySem.Spec PyProof.Rows L2
section
variable {X : Cx} {C : Cfg}
theorem dct_is {pins : List (Addr × Obj)} {σ : L2.St} {H : Hp} {s : Shared} (I : Inv X pins σ H s) {a : Addr} {ks : List (Key × V)} (h : Rd H a (.dK ks)) : HT.N6 s.heap a := by
  obtain ⟨_, _, vs, _, o, es, ep, e, ex, hd, _⟩ := h.ok I.hok
  exact ⟨o, es, ep, e, ex, hd⟩
def aem (K : Fg) : R2 := fun x y H Q => ∃ (a : Addr) (ks : List (Key × V)) (b : Addr) (zs : List (List Nat)), x = .ref a ∧ Rd H a (.dK ks) ∧ y = .ref b ∧ nO K H b (zs.map fun z => V.str (strOf z)) ∧ Q (.bl false) H
theorem rY : ∀ {zs : List (List Nat)} {us : List Value}, Vals (zs.map fun z => V.str (strOf z)) us → ∀ u ∈ us, ∃ z t, u = .str (strOf z) t
  | [], us, h, u, hu => by cases h; cases hu
  | z :: zs, us, h, u, hu => by
    cases h with
    | cons q qs =>
      rcases List.mem_cons.mp hu with rfl | hu
      · obtain ⟨t, rfl⟩ := q; exact ⟨z, t, rfl⟩
      · exact rY qs u hu
theorem aa7 (hu : X.A.units + 61 < cLine) : kh X (compareOp .In) (aem X.K) := by
  intro pins s σ H x y v u Q I rx ry h
  obtain ⟨a, ks, b, zs, rfl, h1, rfl, h2, q⟩ := h
  cases rx
  cases ry
  obtain ⟨its, rv, p, _⟩ := I.tuple h2
  have hd := dct_is I h1
  refine SeqAt.in_tupleAt (fun _ => false) p (fun w hw => ?_) ⟨.bl _, H, I, rfl, ?_⟩
  · obtain ⟨z, t, rfl⟩ := rY rv w (by simpa using hw)
    exact HT.rU _ _ hd (by show X.A.units + 1 < cLine; omega)
  · have : its.toArray.any (fun _ => false) = false := by simp
    rw [this]
    exact q
def aep : R2 := fun x y H Q => ∃ a ks z, x = .ref a ∧ Rd H a (.dK ks) ∧ y = .str z ∧ Q (.bl false) H
theorem aba (hu : X.A.units + 60 < cLine) : kh X (compareOp .Eq) aep := by
  intro pins s σ H x y v u Q I rx ry h
  obtain ⟨a, ks, z, rfl, h1, rfl, q⟩ := h
  cases rx
  obtain ⟨t, rfl⟩ := ry
  exact HT.Ab z t (dct_is I h1) (by omega) X.prog X.w X.xe _ ⟨.bl false, H, I, rfl, q⟩
def acZ : D → D → Option D
  | .dct _, .tup ys => if (bZ ys).isSome then some (.bl false) else none
  | _, _ => none
def ac1 : D → D → Option D
  | .dct _, .str _ => some (.bl false)
  | _, _ => none
theorem gJ.adl {K : Fg} {F H : Hp} {kvs : List (D × D)} {v : V} (s : aH F H) (h : gJ K F H (.dct kvs) v) : ∃ a ks, v = .ref a ∧ Rd H a (.dK ks) := by
  obtain ⟨_, a, ks, rfl, h1, _⟩ := h.rep s
  exact ⟨a, ks, rfl, h1⟩
theorem sE {K : Fg} {F : Hp} : ∀ {ds : List D} {zs : List (List Nat)} {vs : List V}, bZ ds = some zs → aW K F ds vs → vs = zs.map fun z => V.str (strOf z)
  | [], zs, vs, h, r => by simp [bZ] at h; subst h; cases r; rfl
  | d :: ds, zs, vs, h, r => by
    cases d with
    | str x =>
      have h' : (bZ ds).map (x :: ·) = some zs := by simpa [bZ] using h
      obtain ⟨z, e1, rfl⟩ := Option.map_eq_some_iff.mp h'
      obtain ⟨v, w, rfl, ⟨rfl, _⟩, r2⟩ := r
      rw [sE e1 r2]
      rfl
    | _ => simp [bZ] at h
theorem abp : nu C (aem C.K) acZ := by
  intro Pr F env σ H x y d vx vy Q r px py e q
  unfold acZ at e
  split at e
  · rename_i kvs ys
    split at e
    · rename_i hs
      cases e
      obtain ⟨zs, hz⟩ := Option.isSome_iff_exists.mp hs
      obtain ⟨a, ks, rfl, h1⟩ := px.adl r.fr
      obtain ⟨_, b, vs, rfl, h2, _, h3⟩ := py.tup r.fr
      rw [sE hz h3] at h2
      exact ⟨a, ks, b, zs, rfl, h1, rfl, h2, q _ H F r (aH.refl F) rfl⟩
    · cases e
  · cases e
theorem abt : nu C aep ac1 := by
  intro Pr F env σ H x y d vx vy Q r px py e q
  unfold ac1 at e
  split at e
  · cases e
    obtain ⟨a, ks, rfl, h1⟩ := px.adl r.fr
    obtain ⟨rfl, _⟩ := py.str
    exact ⟨a, ks, _, rfl, h1, rfl, q _ H F r (aH.refl F) rfl⟩
  · cases e
theorem nc0 : ((0 : Nat) : Int) = 0 := nr rfl
theorem nc1 : ((1 : Nat) : Int) = 1 := nr rfl
theorem nc2 : ((2 : Nat) : Int) = 2 := nr rfl
theorem nc3 : ((3 : Nat) : Int) = 3 := nr rfl
theorem nc4 : ((4 : Nat) : Int) = 4 := nr rfl
theorem nc5 : ((5 : Nat) : Int) = 5 := nr rfl
theorem nc6 : ((6 : Nat) : Int) = 6 := nr rfl
theorem nc7 : ((7 : Nat) : Int) = 7 := nr rfl
theorem nc8 : ((8 : Nat) : Int) = 8 := nr rfl
def qg (x y : D) : Option D := (gIn x y).or (acZ x y)
def qi (x y : D) : Option D := (Im x y).or (ac1 x y)
theorem Js (G : Good X C) : Cm X C .In qg := ⟨_, (aa9 G.u61).or (aa7 G.u61), by rw [G.K]; exact aeO.or abp⟩
theorem zH (G : Good X C) : Cm X C .Eq qi := ⟨_, (R7 G.u60).or (aba G.u60), by rw [G.K]; exact Zk.or abt⟩
end
end Ev
namespace Ev
open PySem L2
def Ro (o : Out) : Option (D × D) := match o with
  | .rt false d env => (match env[0]? with
    | some (some (true, x')) => some (d, x')
    | _ => none)
  | .nx env => (match env[0]? with
    | some (some (true, x')) => some (.non, x')
    | _ => none)
  | _ => none
theorem Wi (n : Nat) (ev : bN) (x : D) (r : List D) : gf n ev (x :: r) = Ro (ev (uE n x r)) := nr rfl
theorem ahe (d x : D) (e : Env) : Ro (.rt false d (some (true, x) :: e)) = some (d, x) := nr rfl
theorem ahf (x : D) (e : Env) : Ro (.nx (some (true, x) :: e)) = some (.non, x) := nr rfl
def aea (o : Out) : Option D := match o with
  | .rt true d _ => some d
  | _ => none
theorem aas (n : Nat) (ev : bN) (ds : List D) : runN n ev ds = aea (ev (envOf n ds)) := nr rfl
theorem nRt (d : D) (e : Env) : aea (.rt true d e) = some d := nr rfl
def Zt (d : D) (e : Env) : Out := .rt true d e
theorem Xm (d : D) (e : Env) : Zt d e = .rt true d e := nr rfl
theorem JX (a : Ev) (env : Env) : pF a env = dm (a env) Zt := nr rfl
def Wl (o : Option (Option (Bool × D))) (f : Bool → D → Out) : Out := match o with
  | some (some (o, d)) => f o d
  | _ => .stuck
theorem pS (o : Bool) (d : D) (f : Bool → D → Out) : Wl (some (some (o, d))) f = f o d := nr rfl
def dcO (o : Bool) (d : D) (f : List (D × D) → Out) : Out := match o, d with
  | true, .dct kvs => f kvs
  | _, _ => .stuck
theorem cS (kvs : List (D × D)) (f : List (D × D) → Out) : dcO true (.dct kvs) f = f kvs := nr rfl
def kyO (d : D) (f : Key → Out) : Out := match vH d with
  | some q => f q
  | none => .stuck
theorem ae5 (z : List Nat) (f : Key → Out) : kyO (.str z) f = f (.inr (strOf z)) := nr rfl
theorem afg (i : Int) (f : Key → Out) : kyO (.int i) f = f (.inl i) := nr rfl
def acj (i : Nat) (d kd : D) (e : Env) (kvs : List (D × D)) (q : Key) : Out := szO (kvs.length + 1) (.nx (e.set i (some (true, .dct (putD kvs kd q d)))))
def Xx (i : Nat) (d kd : D) (e : Env) (kvs : List (D × D)) : Out := kyO kd (acj i d kd e kvs)
def Tt (i : Nat) (d kd : D) (e : Env) (o : Bool) (x : D) : Out := dcO o x (Xx i d kd e)
def acp (i : Nat) (d kd : D) (e : Env) : Out := Wl e[i]? (Tt i d kd e)
def Tu (i : Nat) (k : Ev) (d : D) (e : Env) (_ : Bool) (_ : D) : Out := dm (k e) (acp i d)
def kDp (i : Nat) (k : Ev) (d : D) (e : Env) : Out := Wl e[i]? (Tu i k d e)
theorem aci (i : Nat) (d kd : D) (e : Env) (kvs : List (D × D)) (q : Key) : acj i d kd e kvs q = szO (kvs.length + 1) (.nx (e.set i (some (true, .dct (putD kvs kd q d))))) := nr rfl
theorem ack (i : Nat) (d kd : D) (e : Env) (kvs : List (D × D)) : Xx i d kd e kvs = kyO kd (acj i d kd e kvs) := nr rfl
theorem acn (i : Nat) (d kd : D) (e : Env) (o : Bool) (x : D) : Tt i d kd e o x = dcO o x (Xx i d kd e) := nr rfl
theorem aco (i : Nat) (d kd : D) (e : Env) : acp i d kd e = Wl e[i]? (Tt i d kd e) := nr rfl
theorem acq (i : Nat) (k : Ev) (d : D) (e : Env) (o : Bool) (x : D) : Tu i k d e o x = dm (k e) (acp i d) := nr rfl
theorem afl (i : Nat) (k : Ev) (d : D) (e : Env) : kDp i k d e = Wl e[i]? (Tu i k d e) := nr rfl
theorem Q8 (i : Nat) (k a : Ev) (env : Env) : su i k a env = dm (a env) (kDp i k) := by
  unfold su
  congr 1
  funext d e1
  show _ = Wl e1[i]? (Tu i k d e1)
  unfold Wl Tu
  cases e1[i]? with
  | none => rfl
  | some o =>
    cases o with
    | none => rfl
    | some p =>
      obtain ⟨b, x⟩ := p
      show dm (k e1) _ = dm (k e1) _
      congr 1
      funext kd e2
      show _ = Wl e2[i]? (Tt i d kd e2)
      unfold Wl Tt dcO Xx
      cases e2[i]? with
      | none => rfl
      | some o =>
        cases o with
        | none => rfl
        | some p =>
          obtain ⟨b, u⟩ := p
          cases b with
          | false => rfl
          | true =>
            cases u with
            | dct kvs =>
              show _ = kyO kd _
              unfold kyO
              cases vH kd <;> rfl
            | _ => rfl
end Ev
namespace Ev
open PySem PySem.Spec PyProof.Rows L2
section
variable {X : Cx} {C : Cfg} {pos : Pos} {x : Expr} {a : Ev}
def Em : D → Option Int → Option Int → Option D
  | .str z, lo, hi => some (.str (cutD z lo hi))
  | .tup xs, lo, hi => some (.tup (cutD xs lo hi))
  | .lst xs, lo, hi => some (.lst (cutD xs lo hi))
  | .arr xs, lo, hi => some (.lst (cutD xs lo hi))
  | _, _, _ => none
def Bw (a : Ev) (lo hi : xK) : Ev := fun env => bindR (a env) fun d aB => bindR (lo aB) fun l cN => bindR (hi cN) fun u Ah => cY (Em d l u) Ah
theorem Gg {lo hi : Option Expr} {el eh : xK} {p2 : Pos} (G : Good X C) (ha : PX X C x a) (hl : Vu X C lo el) (hh : Vu X C hi eh) : PX X C (.Subscript x (.Slice lo hi none p2) pos) (Bw a el eh) := by
  have h := yt (pos := pos) (p2 := p2) (Mh.or (Mh.or Mw Cr) (Mh.or (Mh.or Cr GC) aaj)) ha hl hh
  rw [G.K] at h
  refine h.imp fun σ H Q hq => ?_
  obtain ⟨Pr, F, env, env', d, r, e, q⟩ := hq
  obtain ⟨x, aB, e1, e2⟩ := aO e
  obtain ⟨l, cN, e3, e4⟩ := aO e2
  obtain ⟨u, Ah, e5, e6⟩ := aO e4
  obtain ⟨e7, rfl⟩ := d8 e6
  refine ⟨Pr, F, env, aB, x, r, e1, fun v H1 F1 r1 s1 p1 => ⟨Pr, F1, aB, cN, l, r1, e3, fun H2 F2 r2 s2 => ⟨Pr, F2, cN, env', u, r2, e5, fun H3 F3 r3 s3 => ?_⟩⟩⟩
  have p3 := Rep.mono (s2.trans s3) _ _ p1
  have q3 : ∀ v H' F', Rel C Pr F' env' σ H' → aH F3 F' → Rep C.K F' d v → Q v H' := fun v H' F' r' s' p' => q v H' F' r' (((s1.trans s2).trans s3).trans s') p'
  cases x with
  | str z =>
    cases e7
    obtain ⟨rfl, hz⟩ := p1
    exact .inr (.inr ⟨z, rfl, hz, q3 _ H3 F3 r3 (aH.refl _) ⟨rfl, Nat.le_trans (U6 _ _ _) hz⟩⟩)
  | tup xs =>
    exact .inr (.inl (Rg r3 p3 (by rw [uC]; exact e7) q3))
  | lst xs => exact .inl (Rf r3 (.inl p3) e7 q3)
  | arr xs => exact .inl (Rf r3 (.inl p3) e7 q3)
  | _ => cases e7
theorem Um (z : List Nat) (lo hi : Option Int) : Em (.str z) lo hi = some (.str (cutD z lo hi)) := nr rfl
theorem Ul (z : List D) (lo hi : Option Int) : Em (.tup z) lo hi = some (.tup (cutD z lo hi)) := nr rfl
theorem acO (z : List D) (lo hi : Option Int) : Em (.lst z) lo hi = some (.lst (cutD z lo hi)) := nr rfl
theorem acP (z : List D) (lo hi : Option Int) : Em (.arr z) lo hi = some (.lst (cutD z lo hi)) := nr rfl
theorem Ym (a : Ev) (lo hi : xK) (env : Env) : Bw a lo hi env = bindR (a env) (kSl Em lo hi) := nr rfl
end
end Ev
namespace Ev
open PySem PySem.Spec PyProof.Rows L2 PySem.Builtin
namespace S
structure SX (X : Cx) (C : Cfg) (e : Expr) (ev : Ev) : Prop where
  u : Ev.PX X C e ev
structure Qz (X : Cx) (C : Cfg) (e : Expr) (ev : Ev) : Prop where
  u : Ev.zQ X C e ev
structure ZX (X : Cx) (C : Cfg) (e : Expr) (ev : Ev) : Prop where
  u : Ev.N5 X C e ev
structure QG (X : Cx) (C : Cfg) (e : Expr) (ev : cO) : Prop where
  u : Ev.NZ X C e ev
structure SXW (X : Cx) (C : Cfg) (e : Expr) (ev : cO) : Prop where
  u : Ev.VM X C e ev
structure VL (X : Cx) (C : Cfg) (e : List Expr) (ev : cz) : Prop where
  u : Ev.Jz X C e ev
structure xu (X : Cx) (C : Cfg) (e : List Expr) (ev : cz) : Prop where
  u : Ev.rQ X C e ev
structure SXL (X : Cx) (C : Cfg) (e : List Expr) (ev : cz) : Prop where
  u : Ev.PXL X C e ev
structure QH (X : Cx) (C : Cfg) (e : Stmt) (ev : bN) : Prop where
  u : Ev.Gb X C e ev
structure iU (X : Cx) (C : Cfg) (e : List Stmt) (ev : bN) : Prop where
  u : Ev.uc X C e ev
structure YT (X : Cx) (C : Cfg) (e : List Expr) (ev : cO) : Prop where
  u : Ev.Mi X C e ev
structure ZW (X : Cx) (C : Cfg) (e : Option Expr) (ev : xK) : Prop where
  u : Ev.Vu X C e ev
structure SXI (X : Cx) (C : Cfg) (tg e : Expr) (ev : cz) : Prop where
  u : Ev.QB X C tg e ev
structure Z4 (X : Cx) (C : Cfg) (lo : Nat) (e : Expr) (ev : GV) : Prop where
  u : Ev.Mj X C lo e ev
structure YW (X : Cx) (C : Cfg) (lo : Nat) (e : List Expr) (ev : N7) : Prop where
  u : Ev.QC X C lo e ev
section
variable {X : Cx} {C : Cfg} {pos : Pos}
theorem aj {e : Expr} {es : List Expr} {a : Ev} {r : cz} (ha : SX X C e a) (hr : VL X C es r) (hs : starEach (e :: es) X.env = (false, eval e X.env) :: starEach es X.env := by rfl) : VL X C (e :: es) (aa a r) := ⟨Ev.aj ha.u hr.u hs⟩
end
section
variable {X : Cx} {C : Cfg} {pos p px : Pos} {x y z : Expr} {a b c : Ev} {t u : cO} {i : Nat} {n : Str}
theorem aJ (i : Nat) (hN : X.N[i]? = some n := by rfl) (hv : rO X.env.scope n := by first | exact Or.inl rfl | exact Or.inr (Or.inl rfl) | exact Or.inr (Or.inr rfl)) (hd : (n == ("__debug__" : Str)) = false := by decide) (hcd : (n == ("__classdict__" : Str)) = false := by decide) : SX X C (.Name n pos) (az i) := ⟨Ev.aJ i hN hv hd hcd⟩
end
section
variable {X : Cx} {C : Cfg} {pos : Pos}
theorem ao  : VL X C [] ak := ⟨Ev.ao ⟩
end
section
variable {X : Cx} {C : Cfg} {pos : Pos}
theorem bA {e : Expr} {ev : Ev} (h : SX X C e ev) : Qz X C e ev := ⟨Ev.PX.b h.u⟩
end
section
variable {X : Cx} {C : Cfg} {pos : Pos}
theorem aL {i : Int} {j : Nat} : SX X C (.Constant (.int i) j pos) (aN (.int i)) := ⟨Ev.aL ⟩
end
section
variable {X : Cx} {C : Cfg} {pos : Pos}
theorem aC {st : Stmt} {rest : List Stmt} {a b : bN} (h1 : QH X C st a) (h2 : iU X C rest b) : iU X C (st :: rest) (aK a b) := ⟨Ev.aC h1.u h2.u⟩
end
section
variable {X : Cx} {C : Cfg} {pos : Pos}
theorem aM {st : Stmt} {a : bN} (h1 : QH X C st a) : iU X C [st] a := ⟨Ev.aM h1.u⟩
end
section
variable {X : Cx} {C : Cfg} {pos p px : Pos} {x y z : Expr} {a b c : Ev} {t u : cO} {i : Nat} {n : Str}
variable {e : Expr} {es : List Expr} {ea : cz}
theorem bF {lo : Nat} (i : Nat) (hnd : jw X.N = true := by rfl) (hlo : Nat.ble lo i = true := by rfl) (hfx : C.fx i = none := by rfl) (hi : X.N[i]? = some n := by rfl) (hx : Loc X.env.scope n := by first | exact Or.inl rfl | exact Or.inr rfl) (hf : X.fn n = true ∨ X.env.scope.names.lookup n = some .local := by first | exact .inl rfl | exact .inr rfl) : Z4 X C lo (.Name n pos) (au i) := ⟨Ev.bF i hnd hlo hfx hi hx hf⟩
end
section
variable {X : Cx} {C : Cfg} {pos : Pos}
theorem bH (z : List Nat) {x : Str} {j : Nat} (hz : x = strOf z) (hl : z.length ≤ sizeLine := by decide) : SX X C (.Constant (.str x) j pos) (aN (.str z)) := ⟨Ev.bH z hz hl⟩
end
section
variable {X : Cx} {C : Cfg} {pos p px : Pos} {x y z : Expr} {a b c : Ev} {t u : cO} {i : Nat} {n : Str}
theorem eY (i : Nat) (hN : X.N[i]? = some n := by rfl) (hv : rO X.env.scope n := by first | exact Or.inl rfl | exact Or.inr (Or.inl rfl) | exact Or.inr (Or.inr rfl)) (hd : (n == ("__debug__" : Str)) = false := by decide) (hcd : (n == ("__classdict__" : Str)) = false := by decide) : Qz X C (.Name n pos) (bw i) := ⟨Ev.eY i hN hv hd hcd⟩
end
section
variable {X : Cx} {C : Cfg} {pos p px : Pos} {x y z : Expr} {a b c : Ev} {t u : cO} {i : Nat} {n : Str}
variable {e : Expr} {es : List Expr} {ea : cz}
theorem dq {pos' : Pos} (i : Nat) (he : SX X C e a) (hnd : jw X.N = true := by rfl) (hfx : C.fx i = none := by rfl) (hi : X.N[i]? = some n := by rfl) (hx : Loc X.env.scope n := by first | exact Or.inl rfl | exact Or.inr rfl) (hs : swapsWith e (some (.Name n pos')) pos.line X.env = pure false := by rfl) (hf : X.fn n = true ∨ X.env.scope.names.lookup n = some .local := by first | exact .inl rfl | exact .inr rfl) : QH X C (.Assign [.Name n pos'] e pos) (bj a (au i)) := ⟨Ev.dq i he.u hnd hfx hi hx hs hf⟩
end
section
variable {X : Cx} {C : Cfg} {pos : Pos}
theorem bh {e : Expr} {a : Ev} (h : SX X C e a) : QH X C (.Return (some e) pos) (aV a) := ⟨Ev.bh h.u⟩
end
section
variable {X : Cx} {C : Cfg}
theorem aP {e : Expr} {a : Ev} (h : Qz X C e a) (hs : starEach [e] X.env = (false, eval e X.env) :: starEach [] X.env := by rfl) : xu X C [e] (aa a ak) := ⟨Ev.aP h.u hs⟩
end
section
variable {X : Cx} {C : Cfg} {pos p px : Pos} {x y z : Expr} {a b c : Ev} {t u : cO} {i : Nat} {n : Str}
variable {e : Expr} {es : List Expr} {ea : cz}
theorem cM {k k' : Nat} {m : Nat} {ps : List Str} {g : List D → Option D} (O : Own X.prog X.w X.K X.mg X.base n k ps (mK X.K m g)) (G : Good X C) (hr : gR k' X.A) (hk : Nat.ble k k' = true) (ha : VL X C (e :: es) ea) (hn : ∀ env ds env', ea env = .ok ds env' → ds.length = m) (hg : Gl X n := by rfl) (hdb : (n == ("__debug__" : Str)) = false := by decide) (he : starEach (e :: es) X.env = (false, eval e X.env) :: starEach es X.env := by rfl) (hpl : (backTo pos (starEach es X.env)).any (·.1) = false := by rfl) : SX X C (.Call (.Name n p) (e :: es) [] pos) (aq g ea) := ⟨Ev.cM O G hr hk ha.u hn hg hdb he hpl⟩
end
section
variable {X : Cx} {C : Cfg} {pos : Pos}
theorem bf {es : List Expr} {r : cz} {k : Nat} (h : VL X C es r) : SX X C (.Tuple es k pos) (bC r) := ⟨Ev.bf h.u⟩
end
section
variable {X : Cx} {C : Cfg} {pos : Pos}
theorem bI {lo : Nat} {e : Expr} {es : List Expr} {g : GV} {gs : N7} (h1 : Z4 X C lo e g) (h2 : YW X C lo es gs) (hs : (assignEach (e :: es) X.env).map (·.2) = assign e X.env :: (assignEach es X.env).map (·.2) := by rfl) : YW X C lo (e :: es) (bu g gs) := ⟨Ev.bI h1.u h2.u hs⟩
end
section
variable {X : Cx} {C : Cfg} {pos : Pos}
theorem bT {e : Expr} {ev : Ev} (h : ZX X C e ev) : SX X C e ev := ⟨Ev.N5.px h.u⟩
end
section
variable {X : Cx} {C : Cfg} {pos p px : Pos} {x y z : Expr} {a b c : Ev} {t u : cO} {i : Nat} {n : Str}
theorem gU (i : Nat) (G : Good X C) (hb : Qz X C y b) (hN : X.N[i]? = some n := by rfl) (hv : rO X.env.scope n := by first | exact Or.inl rfl | exact Or.inr (Or.inl rfl) | exact Or.inr (Or.inr rfl)) (hs : o5 y := by intro _ _; rfl) (hd : (n == ("__debug__" : Str)) = false := by decide) (hcd : (n == ("__classdict__" : Str)) = false := by decide) : SX X C (.Subscript (.Name n px) y pos) (aA jk i b) := ⟨Ev.gU i G hb.u hN hv hs hd hcd⟩
end
section
variable {X : Cx} {C : Cfg} {pos p px : Pos} {x y z : Expr} {a b c : Ev} {t u : cO} {i : Nat} {n : Str}
variable {e : Expr} {es : List Expr} {ea : cz}
theorem j8 {k k' : Nat} {m : Nat} {ps : List Str} {g : List D → Option (D × D)} {v : Str} {pv : Pos} (i : Nat) (O : Own X.prog X.w X.K X.mg X.base n k ps (jJ X.K m g)) (G : Good X C) (hr : gR k' X.A) (hk : Nat.ble k k' = true) (ha : VL X C es ea) (hn : ∀ env ds env', ea env = .ok ds env' → ds.length + 1 = m) (hN : X.N[i]? = some v := by rfl) (hv : rO X.env.scope v := by first | exact Or.inl rfl | exact Or.inr (Or.inl rfl) | exact Or.inr (Or.inr rfl)) (hg : Gl X n := by rfl) (hdb : (n == ("__debug__" : Str)) = false := by decide) (he : starEach (.Name v pv :: es) X.env = (false, eval (.Name v pv) X.env) :: starEach es X.env := by rfl) (hpl : (backTo pos (starEach es X.env)).any (·.1) = false := by rfl) (hd : (v == ("__debug__" : Str)) = false := by decide) (hcd : (v == ("__classdict__" : Str)) = false := by decide) : SX X C (.Call (.Name n p) (.Name v pv :: es) [] pos) (cP g i ea) := ⟨Ev.j8 i O G hr hk ha.u hn hN hv hg hdb he hpl hd hcd⟩
end
section
variable {X : Cx} {C : Cfg} {pos p px : Pos} {x y z : Expr} {a b c : Ev} {t u : cO} {i : Nat} {n : Str}
theorem eU {op : Operator} {g : D → D → Option D} (o : Bi X C op g) (ha : SX X C x a) (hb : Qz X C y b) : SX X C (.BinOp x op y pos) (aF g a b) := ⟨Ev.eU o ha.u hb.u⟩
end
section
variable {X : Cx} {C : Cfg} {pos : Pos}
theorem aX {e : Expr} {es : List Expr} {a : Ev} {r : cz} (ha : SX X C e a) (hr : SXL X C es r) (hs : starEach (e :: es) X.env = (false, eval e X.env) :: starEach es X.env := by rfl) : SXL X C (e :: es) (aa a r) := ⟨Ev.aX ha.u hr.u hs⟩
end
section
variable {X : Cx} {C : Cfg} {pos p px : Pos} {x y z : Expr} {a b c : Ev} {t u : cO} {i : Nat} {n : Str}
theorem eZ {op : Operator} {g : D → D → Option D} (i : Nat) (o : Bi X C op g) (hb : Qz X C y b) (hN : X.N[i]? = some n := by rfl) (hv : rO X.env.scope n := by first | exact Or.inl rfl | exact Or.inr (Or.inl rfl) | exact Or.inr (Or.inr rfl)) (hd : (n == ("__debug__" : Str)) = false := by decide) (hcd : (n == ("__classdict__" : Str)) = false := by decide) : SX X C (.BinOp (.Name n px) op y pos) (aA g i b) := ⟨Ev.eZ i o hb.u hN hv hd hcd⟩
end
section
variable {X : Cx} {C : Cfg} {pos : Pos}
theorem gh {c : Expr} {a b : List Stmt} {t : cO} {ea eb : bN} (hc : QG X C c t) (ha : iU X C a ea) (hb : iU X C b eb) : QH X C (.If c a b pos) (jH t ea eb) := ⟨Ev.gh hc.u ha.u hb.u⟩
end
section
variable {X : Cx} {C : Cfg} {pos : Pos}
theorem dZ {es : List Expr} {r : cz} (h : VL X C es r) : ZX X C (.List es pos) (cJ r) := ⟨Ev.dZ h.u⟩
end
section
variable {X : Cx} {C : Cfg} {pos : Pos}
theorem cH  : iU X C [] cG := ⟨Ev.cH ⟩
end
section
variable {X : Cx} {C : Cfg} {pos p px : Pos} {x y z : Expr} {a b c : Ev} {t u : cO} {i : Nat} {n : Str}
variable {e : Expr} {es : List Expr} {ea : cz}
theorem jj {tg : Expr} (G : Good X C) (h : SX X C x a) : SXI X C tg x (ig a) := ⟨Ev.jj G h.u⟩
end
section
variable {X : Cx} {C : Cfg} {pos : Pos}
theorem fX {b : Bool} {j : Nat} : SX X C (.Constant (.bool b) j pos) (aN (.bl b)) := ⟨Ev.fX ⟩
end
section
variable {X : Cx} {C : Cfg} {pos p px : Pos} {x y z : Expr} {a b c : Ev} {t u : cO} {i : Nat} {n : Str}
variable {e : Expr} {es : List Expr} {ea : cz}
theorem pJ {elt tg iter : Expr} {ifs : List Expr} {scope : Scope} (N' : List Str) {it : cz} {g : GV} {cc : cO} {ee : Ev} (lo : Nat) (ok : lM X scope N') (G : Good X C) (hi : SXI X C tg iter it) (bg : ∀ X', jg X scope N' X' → Z4 X' C lo tg g) (bc : ∀ X', jg X scope N' X' → YT X' C ifs cc) (be : ∀ X', jg X scope N' X' → SX X' C elt ee) (hs : ∀ x, foldedSetIterable iter X.env x = pure x := by intro _; rfl) : ZX X C (.ListComp elt [⟨tg, iter, ifs, 0⟩] scope pos) (dW lo N'.length it g cc ee) := ⟨Ev.pJ N' lo ok G hi.u (fun X1 h1 => (bg X1 h1).u) (fun X1 h1 => (bc X1 h1).u) (fun X1 h1 => (be X1 h1).u) hs⟩
end
section
variable {X : Cx} {C : Cfg} {pos p px : Pos} {x y z : Expr} {a b c : Ev} {t u : cO} {i : Nat} {n : Str}
variable {e : Expr} {es : List Expr} {ea : cz}
theorem j4 (G : Good X C) (hm : X.mg "len" = none) (ha : xu X C [e] ea) (hg : Gl X "len" := by rfl) (he : starEach [e] X.env = (false, eval e X.env) :: starEach [] X.env := by rfl) : SX X C (.Call (.Name "len" p) [e] [] pos) (aq dG ea) := ⟨Ev.j4 G hm ha.u hg he⟩
end
section
variable {X : Cx} {C : Cfg} {pos : Pos}
theorem fj {e : Expr} {a : Ev} (h : SX X C e a) (he : ∀ whole, isTrue e X.env whole = (do let v ← whole; standAt e.pos; holding [v] (truthy v)) := by intro _; rfl) : QG X C e (jC a) := ⟨Ev.fj h.u he⟩
end
section
variable {X : Cx} {C : Cfg} {pos : Pos}
theorem gj {lo : Nat} : YW X C lo [] gw := ⟨Ev.gj ⟩
end
section
variable {X : Cx} {C : Cfg} {pos p px : Pos} {x y z : Expr} {a b c : Ev} {t u : cO} {i : Nat} {n : Str}
variable {e : Expr} {es : List Expr} {ea : cz}
theorem qd {lo : Nat} {k : Nat} {gs : N7} {m : Nat} (G : Good X C) (h : YW X C lo es gs) (hn : (assignEach es X.env).length = m := by rfl) (hst : (assignEach es X.env).findIdx? (·.1) = none := by rfl) : Z4 X C lo (.Tuple es k pos) (fL m gs) := ⟨Ev.qd G h.u hn hst⟩
end
section
theorem dD {X : Cx} {C : Cfg} : YT X C [] bW := ⟨Ev.dD ⟩
end
section
variable {X : Cx} {C : Cfg} {pos p px : Pos} {x y z : Expr} {a b c : Ev} {t u : cO} {i : Nat} {n : Str}
variable {e : Expr} {es : List Expr} {ea : cz}
theorem rR {tg iter : Expr} {body : List Stmt} {it : cz} {g : GV} {bs : bN} (G : Good X C) (hi : SXI X C tg iter it) (hg : Z4 X C 0 tg g) (hb : iU X C body bs) (hp : PassesOwn (model X.prog X.w) X.A X.env X.xe := by exact PassesOwn.never) (hs : ∀ x, foldedSetIterable iter X.env x = pure x := by intro _; rfl) : QH X C (.For tg iter body [] pos) (ji it g bs) := ⟨Ev.rR G hi.u hg.u hb.u hp hs⟩
end
section
variable {X : Cx} {C : Cfg} {pos p px : Pos} {x y z : Expr} {a b c : Ev} {t u : cO} {i : Nat} {n : Str}
theorem pC {op : CmpOp} {g : D → D → Option D} (o : Cm X C op g) (ha : SX X C x a) (hb : Qz X C y b) (hm : behindInMarks op y = false := by rfl) : QG X C (.Compare x [op] [y] pos) (jC (aF g a b)) := ⟨Ev.pC o ha.u hb.u hm⟩
end
section
variable {X : Cx} {C : Cfg} {pos p px : Pos} {x y z : Expr} {a b c : Ev} {t u : cO} {i : Nat} {n : Str}
variable {e : Expr} {es : List Expr} {ea : cz}
theorem Be {pos' : Pos} (i : Nat) (he : ZX X C e a) (hnd : jw X.N = true := by rfl) (hfx : C.fx i = none := by rfl) (hi : X.N[i]? = some n := by rfl) (hx : Loc X.env.scope n := by first | exact Or.inl rfl | exact Or.inr rfl) (hs : swapsWith e (some (.Name n pos')) pos.line X.env = pure false := by rfl) (hf : X.fn n = true ∨ X.env.scope.names.lookup n = some .local := by first | exact .inl rfl | exact .inr rfl) : QH X C (.Assign [.Name n pos'] e pos) (kO i a) := ⟨Ev.Be i he.u hnd hfx hi hx hs hf⟩
end
section
variable {X : Cx} {C : Cfg} {pos p px : Pos} {x y z : Expr} {a b c : Ev} {t u : cO} {i : Nat} {n : Str}
variable {e : Expr} {es : List Expr} {ea : cz}
theorem j7 (G : Good X C) (hm : X.mg "tuple" = none) (ha : xu X C [e] ea) (hg : Gl X "tuple" := by rfl) (he : starEach [e] X.env = (false, eval e X.env) :: starEach [] X.env := by rfl) : SX X C (.Call (.Name "tuple" p) [e] [] pos) (aq dN ea) := ⟨Ev.j7 G hm ha.u hg he⟩
end
section
variable {X : Cx} {C : Cfg} {pos p px : Pos} {x y z : Expr} {a b c : Ev} {t u : cO} {i : Nat} {n : Str}
theorem N8 (G : Good X C) (ha : SX X C x a) (hb : Qz X C y b) (hs : o5 y := by intro _ _; rfl) : SX X C (.Subscript x y pos) (aF jk a b) := ⟨Ev.N8 G ha.u hb.u hs⟩
end
section
variable {X : Cx} {C : Cfg} {pos p px : Pos} {x y z : Expr} {a b c : Ev} {t u : cO} {i : Nat} {n : Str}
theorem uX {op : CmpOp} {g : D → D → Option D} (i : Nat) (o : Cm X C op g) (hb : Qz X C y b) (hN : X.N[i]? = some n := by rfl) (hv : rO X.env.scope n := by first | exact Or.inl rfl | exact Or.inr (Or.inl rfl) | exact Or.inr (Or.inr rfl)) (hm : behindInMarks op y = false := by rfl) (hd : (n == ("__debug__" : Str)) = false := by decide) (hcd : (n == ("__classdict__" : Str)) = false := by decide) : QG X C (.Compare (.Name n px) [op] [y] pos) (jC (aA g i b)) := ⟨Ev.uX i o hb.u hN hv hm hd hcd⟩
end
section
variable {X : Cx} {C : Cfg} {pos : Pos}
theorem lY {tg e : Expr} {a : Ev} {g : GV} (he : SX X C e a) (hg : Z4 X C 0 tg g) (hs : swapsWithSole [tg] e pos.line X.env = pure false := by rfl) (hw : swappedStores [tg] e X.env = pure none := by rfl) (h1 : (assignEach [tg] X.env).map (·.2) = [assign tg X.env] := by rfl) : QH X C (.Assign [tg] e pos) (bj a g) := ⟨Ev.lY he.u hg.u hs hw h1⟩
end
section
variable {X : Cx} {C : Cfg} {pos : Pos}
theorem gW {e : Expr} {a : Ev} (h : SX X C e a) : ZW X C (some e) (za a) := ⟨Ev.gW h.u⟩
end
section
variable {X : Cx} {C : Cfg} {pos : Pos}
theorem fW {x : Expr} {a : cO} (h : QG X C x a) : QG X C (.UnaryOp .Not x pos) (fC a) := ⟨Ev.fW h.u⟩
end
section
variable {X : Cx} {C : Cfg} {pos : Pos}
theorem wF {e : Expr} {a : cO} (h : SXW X C e a) : QG X C e a := ⟨Ev.VM.pt h.u⟩
end
section
variable {X : Cx} {C : Cfg} {pos p px : Pos} {x y z : Expr} {a b c : Ev} {t u : cO} {i : Nat} {n : Str}
variable {e : Expr} {es : List Expr} {ea : cz}
theorem n6 {tg : Expr} (hm : X.mg "range" = none) (ha : VL X C [e] ea) (hl : ∀ env ds env', ea env = .ok ds env' → ds.length = 1) (hg : Gl X "range" := by rfl) (hs : starEach [e] X.env = [(false, eval e X.env)] := by rfl) : SXI X C tg (.Call (.Name "range" p) [e] [] pos) (eN ea) := ⟨Ev.n6 hm ha.u hl hg hs⟩
end
section
variable {X : Cx} {C : Cfg} {pos p px : Pos} {x y z : Expr} {a b c : Ev} {t u : cO} {i : Nat} {n : Str}
theorem mJ {op : CmpOp} {g : D → D → Option D} (i : Nat) (o : Cm X C op g) (hb : Qz X C y b) (hN : X.N[i]? = some n := by rfl) (hv : rO X.env.scope n := by first | exact Or.inl rfl | exact Or.inr (Or.inl rfl) | exact Or.inr (Or.inr rfl)) (hm : behindInMarks op y = false := by rfl) (hd : (n == ("__debug__" : Str)) = false := by decide) (hcd : (n == ("__classdict__" : Str)) = false := by decide) : SX X C (.Compare (.Name n px) [op] [y] pos) (aA g i b) := ⟨Ev.mJ i o hb.u hN hv hm hd hcd⟩
end
section
variable {X : Cx} {C : Cfg} {pos : Pos}
theorem fU {j : Nat} : SX X C (.Constant .none j pos) (aN .non) := ⟨Ev.fU ⟩
end
section
variable {X : Cx} {C : Cfg}
theorem nH {e : Expr} {es : List Expr} {a : Ev} {r : cz} (ha : SX X C e a) (hr : xu X C es r) (hs : starEach (e :: es) X.env = (false, eval e X.env) :: starEach es X.env := by rfl) : xu X C (e :: es) (aa a r) := ⟨Ev.nH ha.u hr.u hs⟩
end
section
variable {X : Cx} {C : Cfg} {pos : Pos}
theorem lq {op : BoolOp} {x : Expr} {a : Ev} (h : SX X C x a) : SX X C (.BoolOp op [x] pos) a := ⟨Ev.lq h.u⟩
end
section
variable {X : Cx} {C : Cfg} {pos p px : Pos} {x y z : Expr} {a b c : Ev} {t u : cO} {i : Nat} {n : Str}
variable {e : Expr} {es : List Expr} {ea : cz}
theorem Bf {apos cpos : Pos} (i : Nat) (G : Good X C) (he : SX X C e a) (hN : X.N[i]? = some n := by rfl) (hv : rO X.env.scope n := by first | exact Or.inl rfl | exact Or.inr (Or.inl rfl) | exact Or.inr (Or.inr rfl)) (hs : swapsWith (.Call (.Attribute (.Name n px) "append" apos) [e] [] cpos) none pos.line X.env = pure false := by rfl) (hfew : ((backTo cpos (starEach [e] X.env)).all (fun x => !x.1) && (backToKw cpos (keywordEach [] X.env)).all (fun x => x.1.isSome)
      && decide (([e] : List Expr).length + ([] : List Keyword).length + (if ([] : List Keyword).isEmpty then 0 else 1) < 30)) = true := by rfl) (hbase : attributeBase (.Name n px) "append" X.env (eval (.Name n px) X.env) = eval (.Name n px) X.env := by rfl) (hline : (apos.endLine == cpos.line) = true := by rfl) (hst : starEach [e] X.env = (false, eval e X.env) :: starEach [] X.env := by rfl) (hplain : (backTo cpos (starEach [] X.env)).any (·.1) = false := by rfl) (hd : (n == ("__debug__" : Str)) = false := by decide) (hcd : (n == ("__classdict__" : Str)) = false := by decide) : QH X C (.Expr (.Call (.Attribute (.Name n px) "append" apos) [e] [] cpos) pos) (nA i a) := ⟨Ev.Bf i G he.u hN hv hs hfew hbase hline hst hplain hd hcd⟩
end
section
variable {X : Cx} {C : Cfg} {pos : Pos}
theorem jK  : ZW X C none qu := ⟨Ev.jK ⟩
end
section
variable {X : Cx} {C : Cfg} {pos : Pos}
theorem jt {x y : Expr} {rest : List Expr} {a b : Ev} (ha : SX X C x a) (hb : SX X C (.BoolOp .And (y :: rest) pos) b) : SX X C (.BoolOp .And (x :: y :: rest) pos) (dY a b) := ⟨Ev.jt ha.u hb.u⟩
end
section
variable {X : Cx} {C : Cfg} {pos : Pos}
theorem pH {x y : Expr} {rest : List Expr} {a b : cO} (ha : QG X C x a) (hb : SXW X C (.BoolOp .Or (y :: rest) pos) b) : SXW X C (.BoolOp .Or (x :: y :: rest) pos) (o9 a b) := ⟨Ev.pH ha.u hb.u⟩
end
section
variable {X : Cx} {C : Cfg} {pos p px : Pos} {x y z : Expr} {a b c : Ev} {t u : cO} {i : Nat} {n : Str}
variable {e : Expr} {es : List Expr} {ea : cz}
theorem wG (G : Good X C) (hm : X.mg "all" = none) (ha : xu X C [e] ea) (hg : Gl X "all" := by rfl) (he : starEach [e] X.env = (false, eval e X.env) :: starEach [] X.env := by rfl) : SX X C (.Call (.Name "all" p) [e] [] pos) (aq ph ea) := ⟨Ev.wG G hm ha.u hg he⟩
end
section
variable {X : Cx} {C : Cfg} {pos : Pos}
theorem nT {x : Expr} {a : cO} (h : QG X C x a) : SXW X C (.BoolOp .Or [x] pos) a := ⟨Ev.nT h.u⟩
end
section
variable {X : Cx} {C : Cfg}
theorem pI {T : String} {xT : Str} {e : Expr} {a : Ev} {p q pos : Pos} (hg : Gl X "isinstance") (hm : X.mg "isinstance" = none) (hgT : Gl X xT) (hmT : X.mg xT = none) (hvT : bootBuiltins xT = some (.type T)) (hk : ∀ d : D, PySem.W.kitOne X.K (.type (Mq d)) (.type T) = some (jc d T)) (hK : X.K = C.K) (ha : SX X C e a) (hn : xT ≠ "__name__" := by decide) (hd : (xT == ("__debug__" : Str)) = false := by decide) (he : starEach [e, .Name xT q] X.env = (false, eval e X.env) :: starEach [.Name xT q] X.env := by rfl) : SX X C (.Call (.Name "isinstance" p) [e, .Name xT q] [] pos) (oK (vQ T) a) := ⟨Ev.pI hg hm hgT hmT hvT hk hK ha.u hn hd he⟩
end
section
theorem nG {X : Cx} {C : Cfg} {c : Expr} {t : cO} (h : QG X C c t) : YT X C [c] t := ⟨Ev.nG h.u⟩
end
section
variable {X : Cx} {C : Cfg} {pos p px : Pos} {x y z : Expr} {a b c : Ev} {t u : cO} {i : Nat} {n : Str}
variable {e : Expr} {es : List Expr} {ea : cz}
theorem Su {k k' : Nat} {m : Nat} {ps : List Str} {g : List D → Option D} (O : Own X.prog X.w X.K X.mg X.base n k ps (Wc X.K m g)) (G : Good X C) (hr : gR k' X.A) (hk : Nat.ble k k' = true) (ha : VL X C (e :: es) ea) (hn : ∀ env ds env', ea env = .ok ds env' → ds.length = m) (hg : Gl X n := by rfl) (hdb : (n == ("__debug__" : Str)) = false := by decide) (he : starEach (e :: es) X.env = (false, eval e X.env) :: starEach es X.env := by rfl) (hpl : (backTo pos (starEach es X.env)).any (·.1) = false := by rfl) : ZX X C (.Call (.Name n p) (e :: es) [] pos) (aq g ea) := ⟨Ev.Su O G hr hk ha.u hn hg hdb he hpl⟩
end
section
variable {X : Cx} {C : Cfg} {pos : Pos}
theorem Dd {x y : Expr} {rest : List Expr} {a b : cO} (ha : QG X C x a) (hb : SXW X C (.BoolOp .And (y :: rest) pos) b) : SXW X C (.BoolOp .And (x :: y :: rest) pos) (zg a b) := ⟨Ev.Dd ha.u hb.u⟩
end
section
variable {X : Cx} {C : Cfg} {pos : Pos}
theorem qZ {x : Str} {v : V} {u : Value} (d : D) (hg : Gl X x) (hm : X.mg x = some u) (rv : RelV v u) (hr : ∀ F, Rep C.K F d v) (hd : (x == ("__debug__" : Str)) = false := by decide) : SX X C (.Name x pos) (aN d) := ⟨Ev.qZ d hg hm rv hr hd⟩
end
section
variable {X : Cx} {C : Cfg} {pos p px : Pos} {x y z : Expr} {a b c : Ev} {t u : cO} {i : Nat} {n : Str}
variable {e : Expr} {es : List Expr} {ea : cz}
theorem BZ {o : Expr} {apos cpos : Pos} (G : Good X C) (ho : SX X C o a) (he : Qz X C e b) (hbase : attributeBase o "join" X.env (eval o X.env) = eval o X.env := by rfl) (hs : starEach [e] X.env = (false, eval e X.env) :: starEach [] X.env := by rfl) (hfew : ((backTo cpos (starEach [e] X.env)).all (fun x => !x.1) && (backToKw cpos (keywordEach [] X.env)).all (fun x => x.1.isSome)
      && decide ([e].length + ([] : List Keyword).length + (if ([] : List Keyword).isEmpty then 0 else 1) < 30)) = true := by rfl) (hline : (apos.endLine == cpos.line) = true := by rfl) (hplain : (backTo cpos (starEach [] X.env)).any (·.1) = false := by rfl) : SX X C (.Call (.Attribute o "join" apos) [e] [] cpos) (aF qe a b) := ⟨Ev.BZ G ho.u he.u hbase hs hfew hline hplain⟩
end
section
variable {X : Cx} {C : Cfg} {pos p px : Pos} {x y z : Expr} {a b c : Ev} {t u : cO} {i : Nat} {n : Str}
theorem VP {lo hi : Option Expr} {el eh : xK} {p2 : Pos} (G : Good X C) (ha : SX X C x a) (hl : ZW X C lo el) (hh : ZW X C hi eh) : SX X C (.Subscript x (.Slice lo hi none p2) pos) (vU a el eh) := ⟨Ev.VP G ha.u hl.u hh.u⟩
end
section
variable {X : Cx} {C : Cfg} {pos : Pos}
theorem ym {x : Expr} {a : cO} (h : QG X C x a) : SXW X C (.BoolOp .And [x] pos) a := ⟨Ev.ym h.u⟩
end
section
variable {X : Cx} {C : Cfg} {pos p px : Pos} {x y z : Expr} {a b c : Ev} {t u : cO} {i : Nat} {n : Str}
theorem Av {op : CmpOp} {g : D → D → Option D} (o : Cm X C op g) (ha : SX X C x a) (hb : Qz X C y b) (hm : behindInMarks op y = false := by rfl) : SX X C (.Compare x [op] [y] pos) (aF g a b) := ⟨Ev.Av o ha.u hb.u hm⟩
end
section
variable {X : Cx} {C : Cfg} {pos : Pos}
theorem uw  : SXL X C [] ak := ⟨Ev.uw ⟩
end
section
variable {X : Cx} {C : Cfg} {pos : Pos}
theorem yG {es : List Expr} {a : cz} (h : SXL X C es a) : ZX X C (.List es pos) (cJ a) := ⟨Ev.yG h.u⟩
end
section
variable {X : Cx} {C : Cfg} {pos p px : Pos} {x y z : Expr} {a b c : Ev} {t u : cO} {i : Nat} {n : Str}
theorem Ca (i : Nat) (G : Good X C) (hb : Qz X C y b) (hN : X.N[i]? = some n := by rfl) (hv : rO X.env.scope n := by first | exact Or.inl rfl | exact Or.inr (Or.inl rfl) | exact Or.inr (Or.inr rfl)) (hs : Vv y := by intro _ _; rfl) (hd : (n == ("__debug__" : Str)) = false := by decide) (hcd : (n == ("__classdict__" : Str)) = false := by decide) : SX X C (.Subscript (.Name n px) y pos) (aA rT i b) := ⟨Ev.Ca i G hb.u hN hv hs hd hcd⟩
end
section
variable {X : Cx} {C : Cfg} {pos p px : Pos} {x y z : Expr} {a b c : Ev} {t u : cO} {i : Nat} {n : Str}
variable {e : Expr} {es : List Expr} {ea : cz}
theorem QV {e2 : Expr} (G : Good X C) (hm : X.mg "max" = none) (ha : xu X C [e, e2] ea) (hg : Gl X "max" := by rfl) (he : starEach [e, e2] X.env = (false, eval e X.env) :: starEach [e2] X.env := by rfl) (hpl : (backTo pos (starEach [e2] X.env)).any (·.1) = false := by rfl) : SX X C (.Call (.Name "max" p) [e, e2] [] pos) (aq Il ea) := ⟨Ev.QV G hm ha.u hg he hpl⟩
end
section
variable {X : Cx} {C : Cfg} {pos : Pos}
theorem lg  : ZX X C (.Dict [] [] pos) oM := ⟨Ev.lg ⟩
end
section
variable {X : Cx} {C : Cfg} {pos p px : Pos} {x y z : Expr} {a b c : Ev} {t u : cO} {i : Nat} {n : Str}
variable {e : Expr} {es : List Expr} {ea : cz}
theorem QT {e2 : Expr} (G : Good X C) (hm : X.mg "min" = none) (ha : xu X C [e, e2] ea) (hg : Gl X "min" := by rfl) (he : starEach [e, e2] X.env = (false, eval e X.env) :: starEach [e2] X.env := by rfl) (hpl : (backTo pos (starEach [e2] X.env)).any (·.1) = false := by rfl) : SX X C (.Call (.Name "min" p) [e, e2] [] pos) (aq Ik ea) := ⟨Ev.QT G hm ha.u hg he hpl⟩
end
section
variable {X : Cx} {C : Cfg} {pos p px : Pos} {x y z : Expr} {a b c : Ev} {t u : cO} {i : Nat} {n : Str}
variable {e : Expr} {es : List Expr} {ea : cz}
theorem ud (G : Good X C) (hm : X.mg "sorted" = none) (ha : xu X C [e] ea) (hg : Gl X "sorted" := by rfl) (he : starEach [e] X.env = (false, eval e X.env) :: starEach [] X.env := by rfl) : SX X C (.Call (.Name "sorted" p) [e] [] pos) (aq je ea) := ⟨Ev.ud G hm ha.u hg he⟩
end
section
variable {X : Cx} {C : Cfg} {pos : Pos}
theorem MN {x y : Expr} {rest : List Expr} {a b : Ev} (ha : SX X C x a) (hb : SX X C (.BoolOp .Or (y :: rest) pos) b) : SX X C (.BoolOp .Or (x :: y :: rest) pos) (IK a b) := ⟨Ev.MN ha.u hb.u⟩
end
section
variable {X : Cx} {C : Cfg} {pos p px : Pos} {x y z : Expr} {a b c : Ev} {t u : cO} {i : Nat} {n : Str}
variable {e : Expr} {es : List Expr} {ea : cz}
theorem K7 {tg e2 e3 : Expr} (hm : X.mg "range" = none) (ha : VL X C [e, e2, e3] ea) (hl : ∀ env ds env', ea env = .ok ds env' → ds.length = 3) (hg : Gl X "range" := by rfl) (hs : starEach [e, e2, e3] X.env = [(false, eval e X.env), (false, eval e2 X.env), (false, eval e3 X.env)] := by rfl) (hs2 : starEach [e2, e3] X.env = [(false, eval e2 X.env), (false, eval e3 X.env)] := by rfl) : SXI X C tg (.Call (.Name "range" p) [e, e2, e3] [] pos) (eN ea) := ⟨Ev.K7 hm ha.u hl hg hs hs2⟩
end
section
variable {X : Cx} {C : Cfg} {pos p px : Pos} {x y z : Expr} {a b c : Ev} {t u : cO} {i : Nat} {n : Str}
variable {e : Expr} {es : List Expr} {ea : cz}
theorem uT (G : Good X C) (hm : X.mg "list" = none) (ha : xu X C [e] ea) (hg : Gl X "list" := by rfl) (he : starEach [e] X.env = (false, eval e X.env) :: starEach [] X.env := by rfl) : SX X C (.Call (.Name "list" p) [e] [] pos) (aq o8 ea) := ⟨Ev.uT G hm ha.u hg he⟩
end
section
variable {X : Cx} {C : Cfg} {pos p px : Pos} {x y z : Expr} {a b c : Ev} {t u : cO} {i : Nat} {n : Str}
variable {e : Expr} {es : List Expr} {ea : cz}
theorem aap {elt tg iter : Expr} {ifs : List Expr} {scope : Scope} (N' : List Str) {spos py : Pos} {it : cz} {g : GV} {cc : cO} {ee : Ev} (lo : Nat) (i : Nat) (ok : lM X scope N') (G : Good X C) (hi : SXI X C tg iter it) (bg : ∀ X', jg X scope N' X' → Z4 X' C lo tg g) (bc : ∀ X', jg X scope N' X' → YT X' C ifs cc) (be : ∀ X', jg X scope N' X' → SX X' C elt ee) (hnd : jw X.N = true := by rfl) (hfx : C.fx i = none := by rfl) (hy : X.N[i]? = some n := by rfl) (hx : Loc X.env.scope n := by first | exact Or.inl rfl | exact Or.inr rfl) (hsw : swapsWith (.ListComp elt [⟨tg, iter, ifs, 0⟩] scope pos) (some (.Name n py)) spos.line X.env = pure true := by rfl) (hf : X.fn n = true ∨ X.env.scope.names.lookup n = some .local := by first | exact .inl rfl | exact .inr rfl) (hs : ∀ x, foldedSetIterable iter X.env x = pure x := by intro _; rfl) : QH X C (.Assign [.Name n py] (.ListComp elt [⟨tg, iter, ifs, 0⟩] scope pos) spos) (kO i (dW lo N'.length it g cc ee)) := ⟨Ev.aap N' lo i ok G hi.u (fun X1 h1 => (bg X1 h1).u) (fun X1 h1 => (bc X1 h1).u) (fun X1 h1 => (be X1 h1).u) hnd hfx hy hx hsw hf hs⟩
end
section
variable {X : Cx} {C : Cfg} {pos p px : Pos} {x y z : Expr} {a b c : Ev} {t u : cO} {i : Nat} {n : Str}
variable {e : Expr} {es : List Expr} {ea : cz}
theorem xO {e2 : Expr} (G : Good X C) (hm : X.mg "divmod" = none) (ha : xu X C [e, e2] ea) (hg : Gl X "divmod" := by rfl) (he : starEach [e, e2] X.env = (false, eval e X.env) :: starEach [e2] X.env := by rfl) (hpl : (backTo pos (starEach [e2] X.env)).any (·.1) = false := by rfl) : SX X C (.Call (.Name "divmod" p) [e, e2] [] pos) (aq mz ea) := ⟨Ev.xO G hm ha.u hg he hpl⟩
end
section
variable {X : Cx} {C : Cfg} {pos : Pos}
theorem sG {e : Expr} {a : Ev} (h : ZX X C e a) : QH X C (.Return (some e) pos) (pF a) := ⟨Ev.sG h.u⟩
end
section
variable {X : Cx} {C : Cfg} {pos p px : Pos} {x y z : Expr} {a b c : Ev} {t u : cO} {i : Nat} {n : Str}
variable {e : Expr} {es : List Expr} {ea : cz}
theorem acK {lo : Nat} {ix : Expr} {ev : Ev} (i : Nat) (h : SX X C ix ev) (hN : X.N[i]? = some n := by rfl) (hv : rO X.env.scope n := by first | exact Or.inl rfl | exact Or.inr (Or.inl rfl) | exact Or.inr (Or.inr rfl)) (ha : ∀ v, assign (.Subscript (.Name n px) ix pos) X.env v = (do
      let ov ← holding [v] (eval (.Name n px) X.env)
      let iv ← holding [v, ov] (eval ix X.env)
      standAt pos
      holding [v, ov, iv] (setItem ov iv v)
      release [v, ov, iv] []) := by intro _; rfl) (hd : (n == ("__debug__" : Str)) = false := by decide) (hcd : (n == ("__classdict__" : Str)) = false := by decide) : Z4 X C lo (.Subscript (.Name n px) ix pos) (HY i ev) := ⟨Ev.acK i h.u hN hv ha hd hcd⟩
end
section
variable {X : Cx} {C : Cfg} {pos p px : Pos} {x y z : Expr} {a b c : Ev} {t u : cO} {i : Nat} {n : Str}
variable {e : Expr} {es : List Expr} {ea : cz}
theorem J5 {k : Expr} {ek : Ev} {pos' : Pos} (i : Nat) (G : Good X C) (hk : SX X C k ek) (he : SX X C e a) (hN : X.N[i]? = some n := by rfl) (hv : rO X.env.scope n := by first | exact Or.inl rfl | exact Or.inr (Or.inl rfl) | exact Or.inr (Or.inr rfl)) (hs : swapsWith e (some (.Subscript (.Name n px) k pos')) pos.line X.env = pure false := by rfl) (hd : (n == ("__debug__" : Str)) = false := by decide) (hcd : (n == ("__classdict__" : Str)) = false := by decide) : QH X C (.Assign [.Subscript (.Name n px) k pos'] e pos) (su i ek a) := ⟨Ev.J5 i G hk.u he.u hN hv hs hd hcd⟩
end
section
variable {X : Cx} {C : Cfg} {pos : Pos} {x : Expr} {a : Ev}
theorem Mp {lo hi : Option Expr} {el eh : xK} {p2 : Pos} (G : Good X C) (ha : SX X C x a) (hl : ZW X C lo el) (hh : ZW X C hi eh) : SX X C (.Subscript x (.Slice lo hi none p2) pos) (Iw a el eh) := ⟨Ev.Mp G ha.u hl.u hh.u⟩
end
section
variable {X : Cx} {C : Cfg} {pos : Pos} {x : Expr} {a : Ev}
theorem Gg {lo hi : Option Expr} {el eh : xK} {p2 : Pos} (G : Good X C) (ha : SX X C x a) (hl : ZW X C lo el) (hh : ZW X C hi eh) : SX X C (.Subscript x (.Slice lo hi none p2) pos) (Bw a el eh) := ⟨Ev.Gg G ha.u hl.u hh.u⟩
end
section
variable {X : Cx} {C : Cfg} {pos p p2 pos2 : Pos} {e : Expr} {a : Ev}
theorem uR (G : Good X C) (h1 : X.mg "sorted" = none) (h2 : X.mg "set" = none) (ha : SX X C e a) (g1 : Gl X "sorted" := by rfl) (g2 : Gl X "set" := by rfl) (he : starEach [e] X.env = (false, eval e X.env) :: starEach [] X.env := by rfl) (he2 : starEach [.Call (.Name "set" p2) [e] [] pos2] X.env = (false, eval (.Call (.Name "set" p2) [e] [] pos2) X.env) :: starEach [] X.env := by rfl) : SX X C (.Call (.Name "sorted" p) [.Call (.Name "set" p2) [e] [] pos2] [] pos) (oK lG a) := ⟨Ev.uR G h1 h2 ha.u g1 g2 he he2⟩
end
end S
end Ev
namespace Ev
open PySem PySem.Spec PyProof.Rows L2 PySem.Builtin
section
variable {X : Cx} {C : Cfg} {pos : Pos} {e : Expr}
def UJ (xs : List D) : List D := xs.zipIdx.map fun p => .tup [.int (p.2 : Nat), p.1]
def Yw (a : cz) : cz := fun env => bindR (a env) fun ds aB => match ds with
  | [.str x] => .ok (ZG x) aB
  | [.tup xs] => .ok (UJ xs) aB
  | _ => .stuck
end
end Ev
namespace Ev
open PySem PySem.Spec PyProof.Rows L2 PySem.Builtin
section
variable {X : Cx} {C : Cfg} {pos : Pos} {e e2 : Expr}
def Yg (a : cz) : cz := fun env => bindR (a env) fun ds aB => match ds with
  | [.lst x, .lst y] => .ok (Z8 x y) aB
  | _ => .stuck
end
end Ev
namespace Ev
open PySem PySem.Spec PyProof.Rows L2
section
variable {X : Cx} {C : Cfg}
def Zy (x y : D) : Option D := ((lU x y).or (Nt x y)).or (Er x y)
theorem adz : Bi X C .Mult Zy := by
  obtain ⟨r, h1, h2⟩ := (Jt (X := X) (C := C)).ex
  obtain ⟨r', h1', h2'⟩ := (ady (X := X) (C := C)).ex
  obtain ⟨r'', ahr, ahq⟩ := (YJ (X := X) (C := C)).ex
  exact ⟨_, (h1.or h1').or ahr, (h2.or h2').or ahq⟩
end
end Ev
namespace Ev
open PySem L2
def afk (ds : List D) (e : Env) : R (List D) := match ds with
  | [.str x] => .ok (ZG x) e
  | [.tup xs] => .ok (UJ xs) e
  | _ => .stuck
theorem ach (xs : List D) (e : Env) : afk [.tup xs] e = .ok (UJ xs) e := nr rfl
theorem Qj (a : cz) (env : Env) : Yw a env = bindR (a env) afk := nr rfl
def ae0 (ds : List D) (e : Env) : R (List D) := match ds with
  | [.lst x, .lst y] => .ok (Z8 x y) e
  | _ => .stuck
theorem abK (x y : List D) (e : Env) : ae0 [.lst x, .lst y] e = .ok (Z8 x y) e := nr rfl
theorem Qh (a : cz) (env : Env) : Yg a env = bindR (a env) ae0 := nr rfl
theorem acS : ahv (.int 1) = some (.int (-1)) := nr rfl
end Ev
namespace L2
open PySem PySem.Spec PyProof.Rows
theorem vA : fillsNumberSlot (.type "tuple") "mul" = pure false :=
  PySem.fillsNumberSlot_seq (id := "tuple.__mul__") (r := some (.builtin "tuple.__rmul__")) PySem.F.slot_tuple_mul.lookup (by decide +kernel) PySem.F.slot_tuple_rmul.lookup (by decide +kernel)
theorem CZ : seqRepeat? (.type "tuple") = pure (some (.builtin "tuple.__mul__")) := by
  unfold seqRepeat?
  rw [PySem.seqSlot_of (T := "tuple") (name := "__mul__") (id := "tuple.__mul__") PySem.F.slot_tuple_mul.lookup (by decide +kernel), PySem.seqSlot_of (T := "tuple") (name := "__rmul__") (id := "tuple.__rmul__") PySem.F.slot_tuple_rmul.lookup (by decide +kernel)]
  rfl
theorem Rm (a : Int) (t : Tok) (l : Addr) (items : Array Value) (n : Nat) (dd : Option Addr) (sl : Array (Option Value)) :
    Meets (Builtin.«int.__rmul__» ⟨[.int a t, .ref l], []⟩) (fun _ R s => s.heap.get? l = some { cls := .type "tuple", dict := dd, data := .seq items n, slots := sl } ∧ R (.ok (.ret Value.notImplemented)) s) :=
  .of_wp fun prog w A R s h => by obtain ⟨hp, g, d, tk, os⟩ := s; obtain ⟨hl, h⟩ := h; wp_walk; exact ⟨_, rfl, h⟩
theorem JQ (l : Addr) (items : Array Value) (n : Nat) (dd : Option Addr) (sl : Array (Option Value)) (x : Int) (u : Tok) (h0 : ¬items.isEmpty = true) (h2 : 2 ≤ x) (hx : x ≤ 1000) (hsz : items.size * x.toNat ≤ sizeLine) :
    Meets (Builtin.«tuple.__mul__» ⟨[.ref l, .int x u], []⟩) (fun _ R s => s.heap.get? l = some { cls := .type "tuple", dict := dd, data := .seq items n, slots := sl } ∧ R (.ok (.ret (Value.ref s.heap.objs.size))) { s with heap := s.heap.push { cls := Value.type "tuple", data := Data.seq (List.foldl (fun x1 x2 => x1 ++ x2) #[] (List.replicate x.toNat items)) }, toks := s.toks }) :=
  .of_wp fun prog w A R s h => by
    obtain ⟨hp, g, d, tk, os⟩ := s; obtain ⟨hl, h⟩ := h
    have f1 := AutoSeq1.idx_int
    have hj : (List.foldl (fun x1 x2 => x1 ++ x2) #[] (List.replicate x.toNat items)).size ≤ sizeLine := by
      rw [AutoListH.size_joined]
      simp only [Array.size_empty, Nat.zero_add]
      rw [Nat.mul_comm]; exact hsz
    have e1 : (decide (x < -(2 ^ 63)) || decide (x ≥ 2 ^ 63)) = false := by
      rw [Bool.or_eq_false_iff]
      exact ⟨decide_eq_false (by omega), decide_eq_false (by omega)⟩
    have e2 : (items.isEmpty || x == 1) = false := by
      rw [Bool.or_eq_false_iff]
      exact ⟨by simpa using h0, by rw [beq_eq_false_iff_ne]; omega⟩
    have e3 : (decide (x ≤ 0) || items.isEmpty) = false := by
      rw [Bool.or_eq_false_iff]
      exact ⟨decide_eq_false (by omega), by simpa using h0⟩
    have hsz' : ((items.size : Int)) * x ≤ (sizeLine : Int) := by
      have : ((items.size * x.toNat : Nat) : Int) ≤ (sizeLine : Int) := by exact_mod_cast hsz
      rwa [Int.natCast_mul, Int.toNat_of_nonneg (by omega)] at this
    have e5 : Builtin.Tuple.tupleTooMany (items.size * x) = false := decide_eq_false (by omega)
    have hl2 : (sizeLine : Int) ≤ 2 ^ 24 := by decide
    wp_walk using wpAny_loadPart' hl
    refine wpAny_ite_false (by rw [e1]; decide) ?_
    wp_walk using wpAny_loadPart' hl
    refine wpAny_ite_false (by rw [e2]; decide) ?_
    wp_walk using wpAny_loadPart' hl
    refine wpAny_ite_false (by rw [e3]; decide) ?_
    wp_walk using wpAny_loadPart' hl
    refine wpAny_ite_false (decide_eq_false (by omega)) ?_
    wp_walk using wpAny_loadPart' hl
    exact ⟨_, rfl, h⟩
theorem ZD (c : Array Value) : ∀ (k : Nat) (acc : Array Value), (List.replicate k c).foldl (fun x1 x2 => x1 ++ x2) acc = ⟨acc.toList ++ (List.replicate k c.toList).flatten⟩
  | 0, acc => by simp
  | k + 1, acc => by
    rw [List.replicate_succ, List.foldl_cons, ZD c k, List.replicate_succ]
    simp
theorem DR {α : Type} (xs : List α) : ∀ k : Nat, (List.replicate k xs).flatten.length = xs.length * k
  | 0 => rfl
  | k + 1 => by rw [List.replicate_succ, List.flatten_cons, List.length_append, DR xs k, Nat.mul_succ]; omega
theorem Vals.flat {xs : List V} {us : List Value} (r : Vals xs us) : ∀ k : Nat, Vals (List.replicate k xs).flatten (List.replicate k us).flatten
  | 0 => .nil
  | k + 1 => by rw [List.replicate_succ, List.replicate_succ]; exact r.append (Vals.flat r k)
section
variable {X : Cx}
def Za (K : PySem.W.Frag) : R2 := fun x y H Q => ∃ a xs, ∃ k : Nat, x = .ref a ∧ y = .int (k : Int) ∧ 2 ≤ k ∧ k ≤ 1000 ∧ nO K H a xs ∧ xs ≠ [] ∧ xs.length * k ≤ sizeLine ∧ ∀ p, H p = none → Q (.ref p) (upd H p (.tup (List.replicate k xs).flatten))
theorem W5 : kh X (binaryOp .Mult) (Za X.K) := by
  intro pins s σ H x y v u Q I rx ry h
  obtain ⟨a, xs, k, rfl, rfl, h2, h3, ha, hx, hz, q⟩ := h
  cases rx
  obtain ⟨t', rfl⟩ := ry
  obtain ⟨its, r1, p1, _⟩ := I.tuple ha
  obtain ⟨⟨cls, dd, data, sl⟩, ho, hc, n, hd⟩ := id p1
  simp only at hc hd
  subst hc hd
  have hne : ¬ its.toArray.isEmpty = true := by
    intro e
    have e2 : its = [] := by simpa using e
    exact hx (r1.xC.mp e2)
  have hsz : its.toArray.size * (k : Int).toNat ≤ sizeLine := by
    rw [List.size_toArray, ← r1.length, Int.toNat_natCast]
    exact hz
  refine wpAny_binaryOp_repeat_ref (T := "tuple") (U := "int") (by decide) ⟨_, ho, rfl⟩ (fun s' => typeIs_int s' k t') vA PySem.F.fills_int_mul PySem.F.slot_int_rmul CZ PySem.F.slot_int_index.lookup
    (call_meets PySem.F.slot_int_rmul (typeIs_int s k t') PySem.F.entry_int_rmul (PySem.F.args_int_rmul_2 _ _) (Rm k t' a its.toArray n dd sl)
      ⟨ho, rfl, ⟨_, ho, rfl⟩, call_meets PySem.F.slot_tuple_mul ⟨_, ho, rfl⟩ PySem.F.entry_tuple_mul (PySem.F.args_tuple_mul_2 _ _) (JQ a its.toArray n dd sl k t' hne (by omega) (by omega) hsz) ⟨ho, ?_⟩⟩)
  refine ⟨.ref s.heap.objs.size, _, I.laid (t' := s.toks) (o := .tup (List.replicate k xs).flatten) (fun b ob q => Heap.get?_push_of_some _ q) (Nat.le_refl _) ?_, rfl, q _ (I.hok.fresh (Nat.le_refl _))⟩
  rw [ZD, Int.toNat_natCast]
  exact ⟨by rw [DR]; exact hz, _, r1.flat k, Ao.new _ _⟩
end
end L2
namespace Ev
open PySem PySem.Spec PyProof.Rows L2
section
variable {X : Cx} {C : Cfg}
theorem aW.flat {K : Fg} {F : Hp} {ds : List D} {vs : List V} (h : aW K F ds vs) : ∀ k : Nat, aW K F (List.replicate k ds).flatten (List.replicate k vs).flatten
  | 0 => rfl
  | k + 1 => by rw [List.replicate_succ, List.replicate_succ]; exact h.append (aW.flat h k)
def Nr : D → D → Option D
  | .tup z, .int i => if 2 ≤ i ∧ i ≤ 1000 ∧ 0 < z.length ∧ z.length * i.toNat ≤ sizeLine then some (.tup (List.replicate i.toNat z).flatten) else none
  | _, _ => none
theorem Xb : nu C (Za C.K) Nr := by
  intro Pr F env σ H x y d vx vy Q r px py e q
  unfold Nr at e
  split at e
  · rename_i z i
    split at e
    · rename_i hc
      cases e
      cases py.int
      obtain ⟨z1, a, vs, rfl, h1, f1, h2⟩ := px.tup r.fr
      refine ⟨a, vs, i.toNat, rfl, by rw [Int.toNat_of_nonneg (by omega)], by omega, by omega, h1, ?_, by rw [h2.length]; exact hc.2.2.2, fun p hp => ?_⟩
      · intro hv
        subst hv
        have : z.length = 0 := h2.length.symm
        omega
      · obtain ⟨r2, s2⟩ := r.new (o := .tup (List.replicate i.toNat vs).flatten) hp
        exact q _ _ _ r2 s2 ⟨by rw [DR]; exact hc.2.2.2, p, _, rfl, nO.of aQ, aW.mono s2 _ _ (h2.flat _)⟩
    · cases e
  · cases e
theorem adx (G : Good X C) : Bi X C .Mult Nr := ⟨_, W5, by rw [G.K]; exact Xb⟩
def Ij (x y : D) : Option D := (Zy x y).or (Nr x y)
theorem Vm (G : Good X C) : Bi X C .Mult Ij := by
  obtain ⟨r, h1, h2⟩ := (adz (X := X) (C := C)).ex
  obtain ⟨r', h1', h2'⟩ := (adx G).ex
  exact ⟨_, h1.or h1', h2.or h2'⟩
end
end Ev
namespace Ev
open PySem PySem.W PySem.Calls PyProof.Rows
def eQ (N : Nat) (lt : Nat → Nat → Bool) {α : Type} (R : α → Prop) : KasT α → Prop
  | .ret a => R a
  | .ask i j k => i < N ∧ j < N ∧ eQ N lt R (k (lt i j))
theorem eQ.bind {N : Nat} {lt : Nat → Nat → Bool} {α β : Type} {R : β → Prop} {f : α → KasT β} : ∀ (t : KasT α), eQ N lt (fun a => eQ N lt R (f a)) t → eQ N lt R (t.bind f)
  | .ret _, h => h
  | .ask i j k, h => ⟨h.1, h.2.1, eQ.bind (k (lt i j)) h.2.2⟩
theorem eQ.wp {N : Nat} {lt : Nat → Nat → Bool} {α : Type} {R : α → Prop} {cmp : Nat → Nat → (Bool → Shared → Prop) → Shared → Prop} {I : Shared → Prop}
    (hc : ∀ i j C s, i < N → j < N → I s → (∀ s', I s' → C (lt i j) s') → cmp i j C s) : ∀ (t : KasT α) (s : Shared), eQ N lt R t → I s → t.kasWp cmp (fun a s' => R a ∧ I s') s
  | .ret _, _, h, hi => ⟨h, hi⟩
  | .ask i j k, s, h, hi => hc i j _ s h.1 h.2.1 hi fun s' hi' => eQ.wp hc (k (lt i j)) s' h.2.2 hi'
theorem HH {N : Nat} {lt : Nat → Nat → Bool} {α : Type} {R : α → Prop} {b : Bool} {x y : KasT α} (h1 : b = true → eQ N lt R x) (h2 : b = false → eQ N lt R y) : eQ N lt R (if b = true then x else y) := by
  cases b with
  | true => rw [if_pos rfl]; exact h1 rfl
  | false => rw [if_neg (by simp)]; exact h2 rfl
section
variable {N : Nat} {r : Nat → Nat}
abbrev kL (r : Nat → Nat) (i j : Nat) : Bool := decide (r i < r j)
abbrev kK (r : Nat → Nat) (p : Array Nat) (i : Nat) : Nat := r (p.getD i 0)
def VH (r : Nat → Nat) (p : Array Nat) (k : Nat) : Prop := ∀ i j, i ≤ j → j < k → kK r p i ≤ kK r p j
def kDn (r : Nat → Nat) (p : Array Nat) (k : Nat) : Prop := ∀ i j, i ≤ j → j < k → kK r p j ≤ kK r p i
structure KB (N : Nat) (p : Array Nat) : Prop where
  pos : 1 ≤ N
  perm : p.Perm (List.range N).toArray
theorem KB.size {p : Array Nat} (h : KB N p) : p.size = N := by have := h.perm.size_eq; simpa using this
theorem KB.lt {p : Array Nat} (h : KB N p) (k : Nat) : p.getD k 0 < N := by
  by_cases hk : k < p.size
  · have e : p.getD k 0 = p[k] := by simp [Array.getD, hk]
    rw [e]
    have hm : p[k] ∈ p.toList := by simp
    have := (Array.perm_iff_toList_perm.mp h.perm).mem_iff.mp hm
    simpa using this
  · have e : p.getD k 0 = 0 := by simp [Array.getD, hk]
    rw [e]; exact h.pos
theorem p8 {p q : Array Nat} {i j : Nat} (h : p[i]? = q[j]?) : kK r p i = kK r q j := by
  have e : p.getD i 0 = q.getD j 0 := by rw [Array.getD_eq_getD_getElem?, Array.getD_eq_getD_getElem?, h]
  unfold kK; rw [e]
theorem yR {p : Array Nat} {i j : Nat} (hj : j ≤ p.size) (k : Nat) : kK r (kas_rev p i j) k = if i ≤ k ∧ k < j then kK r p (i + j - 1 - k) else kK r p k := by
  have e := getElem?_mirror_all (i := i) hj k
  unfold kas_rev
  by_cases c : i ≤ k ∧ k < j
  · rw [if_pos c] at e ⊢; exact p8 e
  · rw [if_neg c] at e ⊢; exact p8 e
theorem KB.rev {p : Array Nat} (h : KB N p) (i j : Nat) : KB N (kas_rev p i j) := ⟨h.pos, (mirror_perm _ _ _ _).trans h.perm⟩
theorem Ti {p : Array Nat} {k d : Nat} (hs : k < p.size) (hd : d ≤ k) (i : Nat) : kK r (bubble p k d) i = if i = k - d then kK r p k else if k - d < i ∧ i ≤ k then kK r p (i - 1) else kK r p i := by
  have e := getElem?_bubble hs d hd i
  by_cases c : i = k - d
  · rw [if_pos c] at e ⊢; exact p8 e
  · rw [if_neg c] at e ⊢
    by_cases c2 : k - d < i ∧ i ≤ k
    · rw [if_pos c2] at e ⊢; exact p8 e
    · rw [if_neg c2] at e ⊢; exact p8 e
theorem Xp {i j : Nat} (h : kL r i j = true) : r i < r j := of_decide_eq_true h
theorem Th {i j : Nat} (h : kL r i j = false) : r j ≤ r i := Nat.le_of_not_lt (of_decide_eq_false h)
theorem KN {p : Array Nat} (B : KB N p) {R : Nat → Prop} : ∀ (f n : Nat), 1 ≤ n → n + f ≤ N → VH r p n →
    (∀ m, n ≤ m → m ≤ n + f → VH r p m → (m < n + f → kK r p m < kK r p (m - 1)) → R m) → eQ N (kL r) R (kas_asc p f n)
  | 0, n, _, _, hu, h => h n (Nat.le_refl _) (Nat.le_refl _) hu (fun c => absurd c (by omega))
  | f + 1, n, h1, hn, hu, h => by
    refine ⟨B.lt _, B.lt _, ?_⟩
    refine HH (fun c => ?_) (fun c => ?_)
    · exact h n (Nat.le_refl _) (by omega) hu (fun _ => Xp c)
    · have c' : kK r p (n - 1) ≤ kK r p n := Th c
      refine KN B f (n + 1) (by omega) (by omega) (fun i j hij hj => ?_) (fun m a b d e => h m (by omega) (by omega) d (fun q => e (by omega)))
      by_cases q : j < n
      · exact hu i j hij q
      · have q' : j = n := by omega
        subst q'
        by_cases w : i = j
        · subst w; exact Nat.le_refl _
        · exact Nat.le_trans (hu i (j - 1) (by omega) (by omega)) c'
theorem HF {p : Array Nat} (B : KB N p) {R : Nat × Array Nat → Prop} {n : Nat} (h1 : 1 ≤ n) (hn : n ≤ N) (hd : kDn r p n) (h : ∀ m q, KB N q → n ≤ m → m ≤ N → VH r q m → R (m, q)) :
    eQ N (kL r) R (kas_tail3 n N p) := by
  unfold kas_tail3
  refine eQ.bind _ (KN (B.rev 0 n) (N - n) n h1 (by omega) ?_ fun m a b c _ => h m _ (B.rev 0 n) a (by omega) c)
  intro i j hij hj
  rw [yR (by rw [B.size]; exact hn), yR (by rw [B.size]; exact hn), if_pos (by omega), if_pos (by omega)]
  exact hd _ _ (by omega) (by omega)
theorem xD {R : Array Nat × Nat × Nat → Prop} : ∀ (f : Nat) (p : Array Nat) (n q : Nat), KB N p → 1 ≤ n → n + f ≤ N → kDn r p n → q + 1 ≤ n → (∀ i, n - (q + 1) ≤ i → i < n → kK r p i = kK r p (n - 1)) →
    (∀ p' m q', KB N p' → n ≤ m → m ≤ N → kDn r p' m → q' + 1 ≤ m → (∀ i, m - (q' + 1) ≤ i → i < m → kK r p' i = kK r p' (m - 1)) → R (p', m, q')) → eQ N (kL r) R (kas_desc f p n q)
  | 0, p, n, q, B, h1, hn, hd, hq, he, h => h p n q B (Nat.le_refl _) (by omega) hd hq he
  | f + 1, p, n, q, B, h1, hn, hd, hq, he, h => by
    refine ⟨B.lt _, B.lt _, ?_⟩
    have one : ∀ p' : Array Nat, (∀ k, kK r p' k = kK r p k) → kK r p n < kK r p (n - 1) → kDn r p' (n + 1) := by
      intro p' hk c i j hij hj
      rw [hk, hk]
      by_cases w : j < n
      · exact hd i j hij w
      · have w' : j = n := by omega
        subst w'
        by_cases v : i = j
        · subst v; exact Nat.le_refl _
        · exact Nat.le_trans (Nat.le_of_lt c) (hd i (j - 1) (by omega) (by omega))
    refine HH (fun c => ?_) (fun c => ?_)
    · by_cases g : q > 0
      · rw [if_pos g]
        refine xD f _ (n + 1) 0 (B.rev _ _) (by omega) (by omega) (one _ (fun k => ?_) (Xp c)) (by omega) (fun i a b => by rw [show i = n + 1 - 1 by omega]) (fun p' m q' x1 x2 x3 x4 x5 x6 => h p' m q' x1 (by omega) x3 x4 x5 x6)
        rw [yR (by rw [B.size]; omega)]
        split
        · rename_i w
          rw [he _ (by omega) (by omega), he k w.1 w.2]
        · rfl
      · rw [if_neg g]
        exact xD f _ (n + 1) 0 B (by omega) (by omega) (one _ (fun k => rfl) (Xp c)) (by omega) (fun i a b => by rw [show i = n + 1 - 1 by omega]) (fun p' m q' x1 x2 x3 x4 x5 x6 => h p' m q' x1 (by omega) x3 x4 x5 x6)
    · refine ⟨B.lt _, B.lt _, ?_⟩
      refine HH (fun d => h p n q B (Nat.le_refl _) (by omega) hd hq he) (fun d => ?_)
      have eq : kK r p n = kK r p (n - 1) := Nat.le_antisymm (Th d) (Th c)
      refine xD f p (n + 1) (q + 1) B (by omega) (by omega) (fun i j hij hj => ?_) (by omega) (fun i a b => ?_) (fun p' m q' x1 x2 x3 x4 x5 x6 => h p' m q' x1 (by omega) x3 x4 x5 x6)
      · by_cases w : j < n
        · exact hd i j hij w
        · have w' : j = n := by omega
          subst w'
          by_cases v : i = j
          · subst v; exact Nat.le_refl _
          · rw [eq]; exact hd i (j - 1) (by omega) (by omega)
      · rw [show n + 1 - 1 = n by omega]
        by_cases v : i = n
        · subst v; rfl
        · rw [eq]; exact he i (by omega) (by omega)
theorem wL {p : Array Nat} (B : KB N p) {R : Nat × Array Nat → Prop} {n : Nat} (hn : n + 1 ≤ N) (hd : kDn r p (n + 1)) (h : ∀ m q, KB N q → 1 ≤ m → m ≤ N → VH r q m → R (m, q)) :
    eQ N (kL r) R (kas_descPart n N p) := by
  unfold kas_descPart
  refine eQ.bind _ (xD (N - (n + 1)) p (n + 1) 0 B (by omega) (by omega) hd (by omega) (fun i a b => by rw [show i = n + 1 - 1 by omega]) fun p' m q B' x2 x3 x4 x5 x6 => ?_)
  dsimp only
  split
  · refine HF (B'.rev _ _) (by omega) x3 (fun i j hij hj => ?_) fun m' q' y1 y2 y3 y4 => h m' q' y1 (by omega) y3 y4
    have e : ∀ k, kK r (kas_rev p' (m - (q + 1)) m) k = kK r p' k := fun k => by
      rw [yR (by rw [B'.size]; exact x3)]
      split
      · rename_i w; rw [x6 _ (by omega) (by omega), x6 k w.1 w.2]
      · rfl
    rw [e, e]; exact x4 i j hij hj
  · exact HF B' (by omega) x3 x4 fun m' q' y1 y2 y3 y4 => h m' q' y1 (by omega) y3 y4
theorem S8 {p : Array Nat} (B : KB N p) {R : Nat × Array Nat → Prop} (h : ∀ m q, KB N q → 1 ≤ m → m ≤ N → VH r q m → R (m, q)) : eQ N (kL r) R (kas_count N p) := by
  unfold kas_count
  have hp := B.pos
  refine eQ.bind _ (KN B (N - 1) 1 (by omega) (by omega) (fun i j a b => by rw [show i = j by omega]; exact Nat.le_refl _) fun n a b u c => ?_)
  by_cases e : n = N
  · rw [if_pos (by simpa using e)]; exact h n p B a (by omega) u
  · rw [if_neg (by simpa using e)]
    have c' := c (by omega)
    by_cases g : n > 1
    · rw [if_pos g]
      refine ⟨B.lt _, B.lt _, ?_⟩
      refine HH (fun d => ?_) (fun d => ?_)
      · exact h n p B a (by omega) u
      · have d' : kK r p (n - 1) ≤ kK r p 0 := Th d
        have al : ∀ k, k < n → kK r p k = kK r p 0 := fun k hk => Nat.le_antisymm (Nat.le_trans (u k (n - 1) (by omega) (by omega)) d') (u 0 k (by omega) hk)
        have e : ∀ k, kK r (kas_rev p 0 n) k = kK r p k := fun k => by
          rw [yR (by rw [B.size]; omega)]
          split
          · rename_i w; rw [al _ (by omega), al k w.2]
          · rfl
        refine wL (B.rev _ _) (by omega) (fun i j hij hj => ?_) h
        rw [e, e]
        by_cases w : j < n
        · rw [al i (by omega), al j w]; exact Nat.le_refl _
        · have w' : j = n := by omega
          subst w'
          by_cases v : i = j
          · subst v; exact Nat.le_refl _
          · rw [al i (by omega)]; have := al (j - 1) (by omega); omega
    · rw [if_neg g]
      have n1 : n = 1 := by omega
      subst n1
      refine wL B (by omega) (fun i j hij hj => ?_) h
      by_cases v : i = j
      · subst v; exact Nat.le_refl _
      · have : i = 0 := by omega
        have : j = 1 := by omega
        subst i j; exact Nat.le_of_lt c'
theorem yM {p : Array Nat} (B : KB N p) {R : Nat → Prop} {k : Nat} (u : VH r p k) : ∀ (f l h : Nat), l ≤ h → h ≤ k → h - l ≤ f → (∀ i, i < l → kK r p i ≤ kK r p k) → (∀ i, h ≤ i → i < k → kK r p k ≤ kK r p i) →
    (∀ m, m ≤ k → (∀ i, i < m → kK r p i ≤ kK r p k) → (∀ i, m ≤ i → i < k → kK r p k ≤ kK r p i) → R m) → eQ N (kL r) R (kas_place p k f l h)
  | 0, l, h, a, b, c, lo, hi, hR => hR l (by omega) lo (fun i x y => hi i (by omega) y)
  | f + 1, l, h, a, b, c, lo, hi, hR => by
    show eQ N (kL r) R (if l ≥ h then _ else _)
    by_cases g : l ≥ h
    · rw [if_pos g]; exact hR l (by omega) lo (fun i x y => hi i (by omega) y)
    · rw [if_neg g]
      refine ⟨B.lt _, B.lt _, ?_⟩
      refine HH (fun d => ?_) (fun d => ?_)
      · have d' : kK r p k < kK r p ((l + h) / 2) := Xp d
        exact yM B u f l _ (by omega) (by omega) (by omega) lo (fun i x y => Nat.le_trans (Nat.le_of_lt d') (u _ i x y)) hR
      · have d' : kK r p ((l + h) / 2) ≤ kK r p k := Th d
        exact yM B u f _ h (by omega) b (by omega) (fun i x => Nat.le_trans (u i _ (by omega) (by omega)) d') hi hR
theorem S9 {R : Array Nat → Prop} : ∀ (f : Nat) (p : Array Nat) (k : Nat), KB N p → k + f = N → VH r p k → (∀ q, KB N q → VH r q N → R q) → eQ N (kL r) R (kas_bin f p k)
  | 0, p, k, B, e, u, h => h p B (by rw [← e]; exact u)
  | f + 1, p, k, B, e, u, h => by
    refine eQ.bind _ (yM B u k 0 k (by omega) (Nat.le_refl _) (by omega) (fun i x => absurd x (by omega)) (fun i x y => absurd y (by omega)) fun m hm lo hi => ?_)
    refine S9 f _ (k + 1) ⟨B.pos, (bubble_perm _ _ _).trans B.perm⟩ (by omega) (fun i j hij hj => ?_) h
    rw [Ti (by rw [B.size]; omega) (by omega), Ti (by rw [B.size]; omega) (by omega)]
    have e1 : k - (k - m) = m := by omega
    rw [e1]
    by_cases i1 : i = m
    · rw [if_pos i1]
      by_cases j1 : j = m
      · rw [if_pos j1]; exact Nat.le_refl _
      · rw [if_neg j1, if_pos (by omega)]; exact hi _ (by omega) (by omega)
    · rw [if_neg i1]
      by_cases i2 : m < i ∧ i ≤ k
      · rw [if_pos i2, if_neg (by omega), if_pos (by omega)]; exact u _ _ (by omega) (by omega)
      · rw [if_neg i2]
        by_cases j1 : j = m
        · rw [if_pos j1]; exact lo i (by omega)
        · rw [if_neg j1]
          by_cases j2 : m < j ∧ j ≤ k
          · rw [if_pos j2]; exact u _ _ (by omega) (by omega)
          · rw [if_neg j2]; exact u _ _ hij (by omega)
theorem Xl (hN : 1 ≤ N) : eQ N (kL r) (fun q => KB N q ∧ VH r q N) (kas_sort N) := by
  unfold kas_sort
  refine eQ.bind _ (S8 ⟨hN, .refl _⟩ fun m q B h1 h2 u => ?_)
  dsimp only
  split
  · exact S9 _ q (max m 1) B (by omega) (by rw [show max m 1 = m by omega]; exact u) fun q' B' u' => ⟨B', u'⟩
  · exact ⟨B, by rw [show N = m by omega]; exact u⟩
end
end Ev
namespace Ev
open PySem PySem.Spec PyProof.Rows PySem.Calls PySem.W L2
def ltA : D → D → Option Bool
  | .int a, .int b => some (decide (a < b))
  | .str a, .str b => some (decide (a < b))
  | _, _ => none
def VF : List D → List D → Option Bool
  | [], [] => some false
  | [], _ :: _ => some true
  | _ :: _, [] => some false
  | x :: xs, y :: ys => match aU 57 x y with
    | some true => VF xs ys
    | some false => ltA x y
    | none => none
def mO : D → D → Option Bool
  | .tup xs, .tup ys => VF xs ys
  | _, _ => none
def acF : D → Bool
  | .tup (.int _ :: _) => true
  | _ => false
def acE : D → Bool
  | .tup (.str _ :: _) => true
  | _ => false
def P0 (x : D) : List D → List D
  | [] => [x]
  | y :: r => if mO y x = some true then y :: P0 x r else x :: y :: r
def kW : List D → List D
  | [] => []
  | x :: r => P0 x (kW r)
def oZ (ds : List D) : Prop := ds.length < 2 ∨ (ds.length < 64 ∧ ((∀ d ∈ ds, acF d = true) ∨ ∀ d ∈ ds, acE d = true) ∧ (∀ x ∈ ds, mO x x = some false) ∧
  (∀ x ∈ ds, ∀ y ∈ ds, mO x y ≠ none) ∧ (∀ x ∈ ds, ∀ y ∈ ds, ∀ z ∈ ds, mO x y = some true → mO y z = some true → mO x z = some true) ∧ ds.Pairwise fun x y => mO x y = some true ∨ mO y x = some true)
instance (ds : List D) : Decidable (oZ ds) := by unfold oZ; exact inferInstance
theorem vO (x : D) : ∀ l, (P0 x l).Perm (x :: l)
  | [] => .refl _
  | y :: r => by
    unfold P0
    split
    · exact ((vO x r).cons y).trans (.swap x y r)
    · exact .refl _
theorem jm : ∀ l, (kW l).Perm l
  | [] => .refl _
  | x :: r => (vO x (kW r)).trans ((jm r).cons x)
structure mH (S : D → Prop) : Prop where
  irr : ∀ x, S x → mO x x = some false
  tr : ∀ x y z, S x → S y → S z → mO x y = some true → mO y z = some true → mO x z = some true
  tot : ∀ x y, S x → S y → x = y ∨ mO x y = some true ∨ mO y x = some true
theorem mH.ahI {S : D → Prop} (o : mH S) {x y : D} (hx : S x) (hy : S y) (h : mO x y = some true) : mO y x ≠ some true := fun h' => by
  have := o.tr x y x hx hy hx h h'
  rw [o.irr x hx] at this
  cases this
theorem mH.ahJ {S : D → Prop} (o : mH S) {x y : D} (hx : S x) (hy : S y) (h : mO y x ≠ some true) (h' : mO x y ≠ some true) : x = y := by
  rcases o.tot x y hx hy with e | e | e
  · exact e
  · exact absurd e h'
  · exact absurd e h
theorem mH.ag3 {S : D → Prop} (o : mH S) {x y z : D} (hx : S x) (hy : S y) (hz : S z) (h : mO y x ≠ some true) (h' : mO z y ≠ some true) : mO z x ≠ some true := fun c => by
  rcases o.tot x y hx hy with e | e | e
  · subst e; exact h' c
  · exact h' (o.tr z x y hz hx hy c e)
  · exact h e
theorem wO {S : D → Prop} (o : mH S) {x : D} (hx : S x) : ∀ l, (∀ y ∈ l, S y) → l.Pairwise (fun a b => mO b a ≠ some true) → (P0 x l).Pairwise (fun a b => mO b a ≠ some true)
  | [], _, _ => List.pairwise_singleton _ _
  | y :: r, hl, h => by
    unfold P0
    have h1 := List.pairwise_cons.mp h
    have hy := hl y (List.mem_cons_self ..)
    have hr : ∀ z ∈ r, S z := fun z hz => hl z (List.mem_cons_of_mem _ hz)
    split
    · rename_i c
      refine List.pairwise_cons.mpr ⟨fun z hz => ?_, wO o hx r hr h1.2⟩
      rcases List.mem_cons.mp ((vO x r).mem_iff.mp hz) with rfl | hz
      · exact o.ahI hy hx c
      · exact h1.1 z hz
    · rename_i c
      refine List.pairwise_cons.mpr ⟨fun z hz => ?_, h⟩
      rcases List.mem_cons.mp hz with rfl | hz
      · exact c
      · exact o.ag3 hx hy (hr z hz) c (h1.1 z hz)
theorem um {S : D → Prop} (o : mH S) : ∀ l, (∀ y ∈ l, S y) → (kW l).Pairwise (fun a b => mO b a ≠ some true)
  | [], _ => .nil
  | x :: r, h => wO o (h x (List.mem_cons_self ..)) _ (fun y hy => h y (List.mem_cons_of_mem _ ((jm r).mem_iff.mp hy))) (um o r fun y hy => h y (List.mem_cons_of_mem _ hy))
theorem Cp {S : D → Prop} (o : mH S) {l l' : List D} (h : ∀ y ∈ l, S y) (p : l'.Perm l) (s : l'.Pairwise (fun a b => mO b a ≠ some true)) : l' = kW l := by
  refine List.Perm.eq_of_pairwise (le := fun a b => mO b a ≠ some true) (fun a b ha hb x y => o.ahJ (h a (p.mem_iff.mp ha)) (h b ((jm l).mem_iff.mp hb)) x y) s (um o l h) (p.trans (jm l).symm)
theorem mH.of {ds : List D} (h1 : ∀ x ∈ ds, mO x x = some false) (h2 : ∀ x ∈ ds, ∀ y ∈ ds, ∀ z ∈ ds, mO x y = some true → mO y z = some true → mO x z = some true)
    (h3 : ds.Pairwise fun x y => mO x y = some true ∨ mO y x = some true) : mH (· ∈ ds) := by
  refine ⟨h1, fun x y z a b c => h2 x a y b z c, fun x y hx hy => ?_⟩
  obtain ⟨i, hi, rfl⟩ := List.mem_iff_getElem.mp hx
  obtain ⟨j, hj, rfl⟩ := List.mem_iff_getElem.mp hy
  have hp := List.pairwise_iff_getElem.mp h3
  rcases Nat.lt_trichotomy i j with c | c | c
  · exact .inr (hp i j hi hj c)
  · subst c; exact .inl rfl
  · exact .inr ((hp j i hj hi c).symm)
theorem v9 {α : Type} {p q : α → Bool} : ∀ (l : List α), (∀ x ∈ l, p x = true → q x = true) → (∃ x ∈ l, q x = true ∧ p x = false) → l.countP p < l.countP q
  | [], _, h => by obtain ⟨x, hx, _⟩ := h; cases hx
  | a :: l, h, e => by
    have ha := h a (List.mem_cons_self ..)
    have hl : ∀ x ∈ l, p x = true → q x = true := fun x hx => h x (List.mem_cons_of_mem _ hx)
    obtain ⟨x, hx, e1, e2⟩ := e
    rw [List.countP_cons, List.countP_cons]
    rcases List.mem_cons.mp hx with rfl | hx
    · have := List.countP_mono_left hl
      rw [e1, e2]; simp; omega
    · have := v9 l hl ⟨x, hx, e1, e2⟩
      cases c : p a with
      | true => rw [ha c]; simp; omega
      | false => simp; omega
def rkT (ds : List D) (i : Nat) : Nat := ds.countP fun y => mO y (ds.getD i .non) == some true
theorem Rn {ds : List D} (o : mH (· ∈ ds)) {i j : Nat} (hi : i < ds.length) (hj : j < ds.length) : (mO (ds.getD i .non) (ds.getD j .non) = some true) ↔ rkT ds i < rkT ds j := by
  have mi : ds.getD i .non ∈ ds := by rw [List.getD_eq_getElem?_getD, List.getElem?_eq_getElem hi]; exact List.getElem_mem ..
  have mj : ds.getD j .non ∈ ds := by rw [List.getD_eq_getElem?_getD, List.getElem?_eq_getElem hj]; exact List.getElem_mem ..
  constructor
  · intro h
    refine v9 ds (fun x hx e => ?_) ⟨_, mi, ?_, ?_⟩
    · simp only [beq_iff_eq] at e ⊢; exact o.tr _ _ _ hx mi mj e h
    · simpa using h
    · rw [o.irr _ mi]; rfl
  · intro h
    rcases o.tot _ _ mi mj with e | e | e
    · unfold rkT at h; rw [e] at h; exact absurd h (Nat.lt_irrefl _)
    · exact e
    · have := v9 (p := fun y => mO y (ds.getD j .non) == some true) (q := fun y => mO y (ds.getD i .non) == some true) ds (fun x hx c => by simp only [beq_iff_eq] at c ⊢; exact o.tr _ _ _ hx mj mi c e) ⟨_, mj, by simpa using e, by rw [o.irr _ mj]; rfl⟩
      unfold rkT at h; omega
end Ev
namespace Ev
open PySem PySem.Spec PyProof.Rows PySem.Calls PySem.W L2
mutual
theorem Sh.kept {h h' : Heap} (k : ∀ b o, h.get? b = some o → h'.get? b = some o) : ∀ (d : D) (u : Value), Sh h d u → Sh h' d u
  | .non, _, e => e
  | .bl _, _, e => e
  | .int _, _, e => e
  | .str _, _, e => e
  | .tup xs, u, e => by obtain ⟨a, its, rfl, ⟨o, e1, e2, e3⟩, h2⟩ := e; exact ⟨a, its, rfl, ⟨o, k _ _ e1, e2, e3⟩, rP.kept k xs its h2⟩
  | .lst xs, u, e => by obtain ⟨a, its, rfl, ⟨o, n, e1, e2⟩, h2⟩ := e; exact ⟨a, its, rfl, ⟨o, n, k _ _ e1, e2⟩, rP.kept k xs its h2⟩
  | .arr xs, u, e => by obtain ⟨a, its, rfl, ⟨o, n, e1, e2⟩, h2⟩ := e; exact ⟨a, its, rfl, ⟨o, n, k _ _ e1, e2⟩, rP.kept k xs its h2⟩
  | .dct _, u, e => by obtain ⟨a, o, rfl, e1, e2⟩ := e; exact ⟨a, o, rfl, k _ _ e1, e2⟩
theorem rP.kept {h h' : Heap} (k : ∀ b o, h.get? b = some o → h'.get? b = some o) : ∀ (ds : List D) (us : List Value), rP h ds us → rP h' ds us
  | [], _, e => e
  | d :: ds, us, e => by obtain ⟨u, r, rfl, e1, e2⟩ := e; exact ⟨u, r, rfl, Sh.kept k d u e1, rP.kept k ds r e2⟩
end
section
variable {P : Program} {w : World} {A : Around} {E : Value → Shared → Prop} {s : Shared} {Q : Bool → Shared → Prop}
theorem abB {x y : D} {u v : Value} {b c : Bool} (hx : Sh s.heap x u) (hy : Sh s.heap y v) (h : ltA x y = some b) (q : Q b s) : wpAny (model P w) A (oneLt' c u v) Q E s := by
  cases x <;> cases y <;> simp only [ltA, reduceCtorEq, Option.some.injEq] at h
  · obtain ⟨t, rfl⟩ := hx
    obtain ⟨t', rfl⟩ := hy
    subst h
    cases c with
    | true => exact oneLt_int q
    | false => exact kat_one _ _ (lt_int q)
  · obtain ⟨t, rfl⟩ := hx
    obtain ⟨t', rfl⟩ := hy
    subst h
    cases c with
    | true => exact oneLt_str q
    | false => exact kat_one _ _ (lt_str q)
theorem Sx (hu : A.units + 57 < cLine) : ∀ (xs ys : List D) (us vs : List Value) (i : Nat) (b fin c : Bool), rP s.heap xs us → rP s.heap ys vs → VF xs ys = some b → fin = decide (us.length < vs.length) → Q b s → KatLex P w A c fin Q (us.zip vs) i s
  | [], [], us, vs, i, b, fin, c, hx, hy, h, hf, q => by
    cases hx; cases hy; cases h; cases hf; exact q
  | [], y :: ys, us, vs, i, b, fin, c, hx, hy, h, hf, q => by
    obtain ⟨v, r, rfl, _, _⟩ := hy
    cases hx; cases h; subst hf
    show Q (decide (0 < r.length + 1)) s
    rw [decide_eq_true (by omega)]; exact q
  | x :: xs, [], us, vs, i, b, fin, c, hx, hy, h, hf, q => by
    obtain ⟨v, r, rfl, _, _⟩ := hx
    cases hy; cases h; subst hf
    show Q (decide (r.length + 1 < 0)) s
    rw [decide_eq_false (by omega)]; exact q
  | x :: xs, y :: ys, us, vs, i, b, fin, c, hx, hy, h, hf, q => by
    obtain ⟨u, us, rfl, hx1, hx2⟩ := hx
    obtain ⟨v, vs, rfl, hy1, hy2⟩ := hy
    rw [List.zip_cons_cons]
    unfold VF at h
    split at h
    · rename_i e
      refine kat_cons (vW 57 x y u v true A s hx1 hy1 e hu P w _ _ (kat_yes (Sx hu xs ys us vs (i + 1) b fin c hx2 hy2 h ?_ q)))
      rw [hf, List.length_cons, List.length_cons]
      simp
    · rename_i e
      exact kat_cons (vW 57 x y u v false A s hx1 hy1 e hu P w _ _ (kat_no (abB hx1 hy1 h q)))
    · cases h
theorem abA (hu : A.units + 57 < cLine) {x y : D} {u v : Value} {b c : Bool} (hx : Sh s.heap x u) (hy : Sh s.heap y v) (h : mO x y = some b) (q : Q b s) : wpAny (model P w) A (keyLt' (tuples' c) u v) Q E s := by
  cases x <;> cases y <;> simp only [mO, reduceCtorEq] at h
  rename_i xs ys
  obtain ⟨a, its, rfl, ⟨o, e1, _, n, e2⟩, h2⟩ := hx
  obtain ⟨a', its', rfl, ⟨o', e1', _, n', e2'⟩, h2'⟩ := hy
  exact kat_lt e1 e2 e1' e2' (Sx hu xs ys its its' 0 b _ c h2 h2' h (by simp) q)
theorem rP.getD {h : Heap} : ∀ {ds : List D} {us : List Value} {i : Nat}, rP h ds us → i < ds.length → Sh h (ds.getD i .non) (us.getD i .none)
  | [], _, _, _, c => absurd c (Nat.not_lt_zero _)
  | d :: ds, us, i, e, c => by
    obtain ⟨u, r, rfl, e1, e2⟩ := e
    cases i with
    | zero => exact e1
    | succ i => simpa using rP.getD e2 (i := i) (by simpa using c)
theorem yW {h : Heap} : ∀ {ds : List D} {us : List Value}, rP h ds us → (∀ d ∈ ds, acF d = true) → ∃ fs, KatTups h us fs ∧ fs.length = us.length ∧ ∀ v ∈ fs, ∃ i t, v = .int i t
  | [], _, e, _ => by cases e; exact ⟨[], trivial, rfl, fun v hv => by cases hv⟩
  | d :: ds, us, e, hd => by
    obtain ⟨u, r, rfl, e1, e2⟩ := e
    obtain ⟨fs, k1, k2, k3⟩ := yW e2 fun x hx => hd x (List.mem_cons_of_mem _ hx)
    have hd1 := hd d (List.mem_cons_self ..)
    cases d with
    | tup xs => cases xs with
      | nil => cases hd1
      | cons x xs => cases x with
        | int i =>
          obtain ⟨a, its, rfl, ⟨o, g1, g2, n, g3⟩, g4⟩ := e1
          obtain ⟨v, its', rfl, ⟨t, rfl⟩, _⟩ := g4
          refine ⟨.int i t :: fs, KatTups.cons g1 g2 g3 (by simp) k1, by simp [k2], fun v hv => ?_⟩
          rcases List.mem_cons.mp hv with rfl | hv
          · exact ⟨i, t, rfl⟩
          · exact k3 v hv
        | _ => cases hd1
    | _ => cases hd1
theorem yV {h : Heap} : ∀ {ds : List D} {us : List Value}, rP h ds us → (∀ d ∈ ds, acE d = true) → ∃ fs, KatTups h us fs ∧ fs.length = us.length ∧ ∀ v ∈ fs, ∃ i t, v = .str i t
  | [], _, e, _ => by cases e; exact ⟨[], trivial, rfl, fun v hv => by cases hv⟩
  | d :: ds, us, e, hd => by
    obtain ⟨u, r, rfl, e1, e2⟩ := e
    obtain ⟨fs, k1, k2, k3⟩ := yV e2 fun x hx => hd x (List.mem_cons_of_mem _ hx)
    have hd1 := hd d (List.mem_cons_self ..)
    cases d with
    | tup xs => cases xs with
      | nil => cases hd1
      | cons x xs => cases x with
        | str i =>
          obtain ⟨a, its, rfl, ⟨o, g1, g2, n, g3⟩, g4⟩ := e1
          obtain ⟨v, its', rfl, ⟨t, rfl⟩, _⟩ := g4
          refine ⟨.str (strOf i) t :: fs, KatTups.cons g1 g2 g3 (by simp) k1, by simp [k2], fun v hv => ?_⟩
          rcases List.mem_cons.mp hv with rfl | hv
          · exact ⟨_, t, rfl⟩
          · exact k3 v hv
        | _ => cases hd1
    | _ => cases hd1
theorem Xk {ds : List D} {us : List Value} {Q : SortKind → Shared → Prop} (hs : rP s.heap ds us) (h2 : 2 ≤ ds.length) (hk : (∀ d ∈ ds, acF d = true) ∨ ∀ d ∈ ds, acE d = true) (h : ∀ c, Q (tuples' c) s) :
    wpAny (model P w) A (keyKind' us.toArray) Q E s := by
  rcases hk with hk | hk
  · obtain ⟨fs, k1, k2, k3⟩ := yW hs hk
    refine kat_kind (T := .type "int") k1 (by rw [k2, hs.length]; omega) (fun v hv => ?_) (by decide) (h _)
    obtain ⟨i, t, rfl⟩ := k3 v hv
    exact Looks.of_pure rfl
  · obtain ⟨fs, k1, k2, k3⟩ := yV hs hk
    refine kat_kind (T := .type "str") k1 (by rw [k2, hs.length]; omega) (fun v hv => ?_) (by decide) (h _)
    obtain ⟨i, t, rfl⟩ := k3 v hv
    exact Looks.of_pure rfl
def Laid (ds : List D) (p : List Nat) : Prop := p.Perm (List.range ds.length) ∧ kW ds = p.map fun i => ds.getD i .non
theorem Xj {ds : List D} (o : mH (· ∈ ds)) {p : Array Nat} (B : KB ds.length p) (u : VH (rkT ds) p ds.length) : Laid ds p.toList := by
  have hp : p.toList.Perm (List.range ds.length) := by simpa using Array.perm_iff_toList_perm.mp B.perm
  have hl : p.toList.length = ds.length := by rw [hp.length_eq, List.length_range]
  refine ⟨hp, (Cp o (fun y h => h) ?_ ?_).symm⟩
  · have := hp.map fun i => ds.getD i D.non
    refine this.trans (.of_eq ?_)
    refine List.ext_getElem (by simp) fun i h1 h2 => ?_
    simp [List.getD_eq_getElem?_getD, h2]
  · refine List.pairwise_map.mpr (List.pairwise_iff_getElem.mpr fun i j hi hj hij => ?_)
    have hi' : i < ds.length := by omega
    have hj' : j < ds.length := by omega
    have e1 : p.getD i 0 = p.toList[i] := by simp [Array.getD, show i < p.size by rw [B.size]; exact hi']
    have e2 : p.getD j 0 = p.toList[j] := by simp [Array.getD, show j < p.size by rw [B.size]; exact hj']
    have := u i j (Nat.le_of_lt hij) hj'
    unfold kK at this
    rw [e1, e2] at this
    intro c
    have c' := (Rn o (by have := B.lt j; rw [e2] at this; exact this) (by have := B.lt i; rw [e1] at this; exact this)).mp c
    omega
theorem Ra {ds : List D} (h : ds.length < 2) : kW ds = ds := by
  match ds, h with
  | [], _ => rfl
  | [_], _ => rfl
theorem S6 {ds : List D} (h : ds.length < 2) : Laid ds (List.range ds.length) := by
  refine ⟨.refl _, ?_⟩
  rw [Ra h]
  refine List.ext_getElem (by simp) fun i h1 h2 => ?_
  simp [List.getD_eq_getElem?_getD, h1]
theorem HB {a : Addr} {ds : List D} {vs : List Value} {n : Nat} {h₀ : Heap} {R : PySem.Fin → Shared → Prop} (ho : s.heap.get? a = some (seqObj "list" vs.toArray n)) (k₀ : ∀ b o, h₀.get? b = some o → b < a ∧ s.heap.get? b = some o)
    (hs : rP h₀ ds vs) (ok : oZ ds) (hu : A.units + 57 < cLine)
    (h : ∀ p : List Nat, Laid ds p → R (.done (.ret .none)) { s with heap := sortedHeap s.heap a vs (p.map fun i => vs.getD i Value.none).toArray }) :
    wpAny (model P w) A (Builtin.«list.sort» ⟨[.ref a], []⟩) R E s := by
  have hlen := hs.length
  have h64 : vs.length < 64 := by rcases ok with q | q <;> omega
  rw [list_sort_plain]
  have ha : a < s.heap.objs.size := Heap.lt_size ho
  refine wpAny_bind (listItems_at ho rfl ?_)
  refine wpAny_bind (listUpdate_at ho rfl ?_ (by rw [List.size_toArray, sizeLine_eq]; omega) (Nat.zero_le _))
  obtain ⟨e1, ho1⟩ : ∃ e1, (s.heap.update a (Obj.mapSeq fun _ => (#[] : Array Value))).get? a = some (seqObj "list" #[] e1) := ⟨_, get?_update_seq ho fun _ => #[]⟩
  refine wpAny_bind (seqEpoch_at ho1 rfl ?_)
  refine wpAny_bind (wpAny_newTuple ?_ (by show vs.length ≤ _; rw [sizeLine_eq]; omega))
  refine wpAny_bind (wpAny_newList ?_ (Nat.zero_le _))
  refine wpAny_holding ?_
  have ho6 : (((s.heap.update a (Obj.mapSeq fun _ => (#[] : Array Value))).push (seqObj "tuple" vs.toArray 0)).push (seqObj "list" #[] 0)).get? a = some (seqObj "list" #[] e1) := by
    rw [Heap.get?_push_ne _ _ _ (by rw [size_push', Heap.size_update]; exact Nat.ne_of_lt (Nat.lt_succ_of_lt ha)), Heap.get?_push_ne _ _ _ (by rw [Heap.size_update]; exact Nat.ne_of_lt ha)]
    exact ho1
  have kept : ∀ b o, h₀.get? b = some o → (((s.heap.update a (Obj.mapSeq fun _ => (#[] : Array Value))).push (seqObj "tuple" vs.toArray 0)).push (seqObj "list" #[] 0)).get? b = some o := fun b o e => by
    obtain ⟨q1, q2⟩ := k₀ b o e
    refine Heap.get?_push_of_some _ (Heap.get?_push_of_some _ ?_)
    rw [Heap.get?_update_ne _ _ _ _ (Nat.ne_of_lt q1)]; exact q2
  have hs' := hs.kept kept
  show wpAny (model P w) A _ R E { s with heap := ((s.heap.update a (Obj.mapSeq fun _ => (#[] : Array Value))).push (seqObj "tuple" vs.toArray 0)).push (seqObj "list" #[] 0) }
  dsimp only
  have fin : ∀ (st' : SortSt) (p : List Nat), (arrOf st').map (·.2) = (p.map fun i => vs.getD i Value.none).toArray → failedOf st' = none → Laid ds p →
      wpAny (model P w) A (do
        let touched := (← seqEpoch a) != e1
        Builtin.List.listUpdate (.ref a) fun _ => (arrOf st').map (·.2)
        if let some e := failedOf st' then rule "list.sort.comparison-raised"; throw e
        if touched then rule "list.sort.modified"; raiseError "ValueError" "list modified during sort"
        ret .none) R E { s with heap := ((s.heap.update a (Obj.mapSeq fun _ => (#[] : Array Value))).push (seqObj "tuple" vs.toArray 0)).push (seqObj "list" #[] 0) } := by
    intro st' p he hf lp
    have lp1 := lp.1.length_eq
    rw [List.length_range] at lp1
    refine wpAny_bind (seqEpoch_at ho6 rfl ?_)
    rw [he]
    refine wpAny_bind (listUpdate_at ho6 rfl ?_ (Nat.zero_le _) (by rw [List.size_toArray, List.length_map, lp1, sizeLine_eq]; omega))
    rw [hf]
    simp only [bne_self_eq_false, Bool.false_eq_true, if_false]
    exact wpAny_pure (h p lp)
  by_cases h2 : vs.toArray.size < 2
  · rw [if_pos h2, if_pos h2]
    refine wpAny_bind (wpAny_pure ?_)
    rw [StateT.run_pure]
    refine wpAny_bind (wpAny_pure ?_)
    have h2' : ds.length < 2 := by rw [List.size_toArray] at h2; omega
    refine fin (SortSt.mk' general' (vs.toArray.zip vs.toArray) #[] 7 none) _ ?_ rfl (S6 h2')
    show (vs.toArray.zip vs.toArray).map (·.2) = _
    rw [← hlen]
    apply Array.toList_inj.mp
    rw [Array.toList_map, Array.toList_zip]
    refine List.ext_getElem (by simp) fun i q1 q2 => ?_
    have q3 : i < vs.length := by simpa using q2
    simp [List.getD_eq_getElem?_getD, q3]
  · rw [if_neg h2, if_neg h2]
    have h2' : 2 ≤ vs.length := by rw [List.size_toArray] at h2; omega
    rcases ok with q | ⟨_, hk, o1, o2, o3, o4⟩
    · omega
    have o := mH.of o1 o3 o4
    refine wpAny_bind (Xk hs' (by omega) hk fun c => ?_)
    refine wpAny_bind (wpAny_mono (kat_run (ks := vs) (Q := fun st' s' => ∃ p : Array Nat, arrOf st' = p.map (kas_item (vs.toArray.zip vs.toArray)) ∧ failedOf st' = none ∧ Laid ds p.toList ∧ s' = { s with heap := ((s.heap.update a (Obj.mapSeq fun _ => (#[] : Array Value))).push (seqObj "tuple" vs.toArray 0)).push (seqObj "list" #[] 0) })
      (G := fun p s' => Laid ds p.toList ∧ s' = { s with heap := ((s.heap.update a (Obj.mapSeq fun _ => (#[] : Array Value))).push (seqObj "tuple" vs.toArray 0)).push (seqObj "list" #[] 0) })
      rfl h2' h64 (fun p' st' s' a1 a2 a3 a4 => ⟨p', a2, a3, a4.1, a4.2⟩) ?_) ?_ fun _ _ e => e)
    · have g := eQ.wp (N := ds.length) (lt := kL (rkT ds)) (cmp := kas_ask P w A (tuples' c) vs) (I := fun s' => s' = { s with heap := ((s.heap.update a (Obj.mapSeq fun _ => (#[] : Array Value))).push (seqObj "tuple" vs.toArray 0)).push (seqObj "list" #[] 0) })
        (fun i j C s' hi hj hI hC => by
          subst hI
          have mi : ds.getD i .non ∈ ds := by rw [List.getD_eq_getElem?_getD, List.getElem?_eq_getElem hi]; exact List.getElem_mem ..
          have mj : ds.getD j .non ∈ ds := by rw [List.getD_eq_getElem?_getD, List.getElem?_eq_getElem hj]; exact List.getElem_mem ..
          have e : mO (ds.getD i .non) (ds.getD j .non) = some (kL (rkT ds) i j) := by
            cases c : mO (ds.getD i .non) (ds.getD j .non) with
            | none => exact absurd c (o2 _ mi _ mj)
            | some b =>
              have r := Rn o hi hj
              rw [c] at r
              unfold kL
              cases b with
              | true => rw [decide_eq_true (r.mp rfl)]
              | false => rw [decide_eq_false (fun z => by cases r.mpr z)]
          exact abA hu (hs'.getD hi) (hs'.getD hj) e (hC _ rfl))
        (kas_sort ds.length) _ (Xl (by omega)) rfl
      rw [hlen]
      rw [kat_ask_eq rfl] at g ⊢
      exact kas_wp_mono g fun p s' hp => ⟨Xj o hp.1.1 hp.1.2, hp.2⟩
    · rintro ⟨⟨⟩, st'⟩ s' ⟨p, har, hf, lp, rfl⟩
      exact fin st' p.toList (kat_snds rfl har) hf lp
end
end Ev
namespace Ev
open PySem PySem.Spec PyProof.Rows PySem.Calls PySem.W L2
theorem aW.getD {K : Fg} {F : Hp} : ∀ {ds : List D} {vs : List V} {i : Nat}, aW K F ds vs → i < ds.length → Rep K F (ds.getD i .non) (vs.getD i .non)
  | [], _, _, _, c => absurd c (Nat.not_lt_zero _)
  | d :: ds, us, i, e, c => by
    obtain ⟨u, r, rfl, e1, e2⟩ := e
    cases i with
    | zero => exact e1
    | succ i => simpa using aW.getD e2 (i := i) (by simpa using c)
theorem Az : ∀ {vs : List V} {us : List Value} {i : Nat}, Vals vs us → i < vs.length → RelV (vs.getD i .non) (us.getD i .none)
  | _, _, _, .nil, c => absurd c (Nat.not_lt_zero _)
  | _, _, 0, .cons h _, _ => h
  | _, _, i + 1, .cons _ h, c => by simpa using Az h (i := i) (by simpa using c)
theorem Bh {K : Fg} {F : Hp} {ds : List D} {vs : List V} (h : aW K F ds vs) : ∀ (p : List Nat), (∀ i ∈ p, i < ds.length) → aW K F (p.map fun i => ds.getD i .non) (p.map fun i => vs.getD i .non)
  | [], _ => rfl
  | i :: p, hp => ⟨_, _, rfl, h.getD (hp i (List.mem_cons_self ..)), Bh h p fun j hj => hp j (List.mem_cons_of_mem _ hj)⟩
theorem Ax {vs : List V} {us : List Value} (h : Vals vs us) : ∀ (p : List Nat), (∀ i ∈ p, i < vs.length) → Vals (p.map fun i => vs.getD i .non) (p.map fun i => us.getD i .none)
  | [], _ => .nil
  | i :: p, hp => .cons (Az h (hp i (List.mem_cons_self ..))) (Ax h p fun j hj => hp j (List.mem_cons_of_mem _ hj))
section
variable {X : Cx}
def J9 (K : Fg) : List V → Hp → VK → Prop := fun xs H Q => ∃ F p vs ds, aH F H ∧ xs = [.ref p] ∧ (lN K H p vs ∨ nO K H p vs) ∧ aW K F ds vs ∧ oZ ds ∧ ∀ l vs', H l = none → aW K F (kW ds) vs' → Q (.ref l) (upd H l (.lst vs'))
theorem Lw (hu : X.A.units + 60 < cLine) : gM X (.builtin "sorted") (J9 X.K) := by
  intro pins s σ H xs us Q I r h
  obtain ⟨F, p, vs, ds, hF, rfl, hq, hr, ok, q⟩ := h
  obtain ⟨u, rfl, rx⟩ := vals1 r
  cases rx
  obtain ⟨its, rv, T, o, n, hT, ho, hc, hd⟩ : ∃ (its : List Value), Vals vs its ∧ ∃ (T : String) (o : Obj) (n : Nat), (T = "list" ∨ T = "tuple") ∧ s.heap.get? p = some o ∧ o.cls = .type T ∧ o.data = .seq its.toArray n := by
    rcases hq with hq | hq
    · obtain ⟨its, rv, ⟨o, n, e1, e2, _, e3⟩, _⟩ := I.list hq
      exact ⟨its, rv, "list", o, n, .inl rfl, e1, e2, e3⟩
    · obtain ⟨its, rv, ⟨o, e1, e2, n, e3⟩, _⟩ := I.tuple hq
      exact ⟨its, rv, "tuple", o, n, .inr rfl, e1, e2, e3⟩
  have hs : rP s.heap ds its := aW.sh I ds vs its (aW.mono hF _ _ hr) rv
  have hlen := hs.length
  have h64 : its.length < 64 := by rcases ok with z | z <;> omega
  have hvl : vs.length = its.length := rv.length
  refine Calls.call_function_entry kind_sorted plain_sorted entry_sorted (args_sorted1 _) ?_
  unfold Builtin.«sorted»
  refine wpAny_bind (m := checkCount "sorted" 1 1 _) (wpAny_pure ?_)
  refine wpAny_bind (wpAny_collect_seq p hT ho hc hd (fun h' hk => ?_) (by rw [List.size_toArray, sizeLine_eq]; omega))
  refine wpAny_bind (wpAny_newList ?_ (by rw [sizeLine_eq]; simp; omega))
  have hoL : (h'.push (seqObj "list" its.toArray 0)).get? h'.objs.size = some (seqObj "list" its.toArray 0) := Heap.get?_push_size _ rfl
  show wpAny _ _ _ _ _ { s with heap := h'.push (seqObj "list" its.toArray 0) }
  refine wpAny_bind (wpAny_holding (wpAny_call_entry slot_list_sort ⟨_, hoL, rfl⟩ entry_list_sort (HB hoL (h₀ := h') (fun b o e => ⟨Heap.lt_size e, Heap.get?_push_of_some _ e⟩) (hs.kept hk) ok (by show X.A.units + 1 + 1 + 57 < cLine; omega) fun pp lp => ⟨_, rfl, ?_⟩) (args_list_sort _)))
  obtain ⟨e, he⟩ := sortedHeap_at (out := (pp.map fun i => its.getD i Value.none).toArray) hoL
  refine wpAny_pure ⟨_, rfl, ?_⟩
  have I1 : L2.Inv X pins σ H { s with heap := h' } := I.kept hk
  have hin : ∀ i ∈ pp, i < ds.length := fun i hi => by have := lp.1.mem_iff.mp hi; simpa using this
  have hpl : pp.length = ds.length := by rw [lp.1.length_eq, List.length_range]
  have rv2 := Ax rv pp fun i hi => by rw [hvl, hlen]; exact hin i hi
  have rr2 := Bh hr pp hin
  rw [← lp.2] at rr2
  refine ⟨.ref h'.objs.size, _, I1.laid (t' := s.toks) (fun b o e => ?_) (Nat.le_refl _) (o := .lst (pp.map fun i => vs.getD i .non)) (show f9 X.prog X.w _ _ h'.objs.size _ from ⟨?_, _, e, rv2, by simpa [seqObj] using he⟩), rfl, q _ _ (I1.hok.fresh (Nat.le_refl _)) rr2⟩
  · have lt' := Heap.lt_size e
    rw [sortedHeap_old (Nat.ne_of_lt lt') (by rw [size_push']; exact Nat.lt_succ_of_lt lt')]
    exact Heap.get?_push_of_some _ e
  · rw [List.length_map, hpl]; exact Nat.le_trans (by omega : ds.length ≤ 64) (by decide)
end
section
variable {C : Cfg}
def tD : List D → Option D
  | [.lst ds] => if oZ ds then some (.lst (kW ds)) else none
  | [.tup ds] => if oZ ds then some (.lst (kW ds)) else none
  | _ => none
theorem Vd : CallD C (J9 C.K) tD := by
  intro Pr F env σ H ds d vs Q r p e q
  have fin : ∀ (zs : List D) (l : Addr) (vs' : List V), oZ zs → aW C.K F (kW zs) vs' → d = .lst (kW zs) → H l = none → Q (.ref l) (upd H l (.lst vs')) := fun zs l vs' hz hv hd hl => by
    subst hd
    have hlen : (kW zs).length < 64 := by rw [(jm zs).length_eq]; rcases hz with z | z <;> omega
    obtain ⟨F2, r2, s2, p2⟩ := (r.fresh (o := .lst vs') hl).keep (Vw.of r hl (show jl C.K F (upd H l (.lst vs')) (.lst (kW zs)) l from ⟨Nat.le_trans (Nat.le_of_lt hlen) (by decide), vs', aQ, hv⟩))
    exact q _ _ F2 r2 s2 p2
  unfold tD at e
  split at e
  · obtain ⟨v, w, rfl, p1, p2⟩ := p
    cases p2
    split at e
    · rename_i hz
      cases e
      obtain ⟨z, a, ws, rfl, h1, h2⟩ := p1.lst r.fr
      exact ⟨F, a, ws, _, r.fr, rfl, .inl (lN.of h1), h2, hz, fun l vs' hl hv => fin _ l vs' hz hv rfl hl⟩
    · cases e
  · obtain ⟨v, w, rfl, p1, p2⟩ := p
    cases p2
    split at e
    · rename_i hz
      cases e
      obtain ⟨z, a, ws, rfl, h1, _, h2⟩ := p1.tup r.fr
      exact ⟨F, a, ws, _, r.fr, rfl, .inr h1, h2, hz, fun l vs' hl hv => fin _ l vs' hz hv rfl hl⟩
    · cases e
  · cases e
end
section
variable {X : Cx} {C : Cfg} {p pos : Pos} {e : Expr} {ea : cz}
theorem BX (G : Good X C) (hm : X.mg "sorted" = none) (ha : rQ X C [e] ea) (hg : Gl X "sorted" := by rfl) (he : starEach [e] X.env = (false, eval e X.env) :: starEach [] X.env := by rfl) : PX X C (.Call (.Name "sorted" p) [e] [] pos) (aq tD ea) :=
  lr (X := X) (r := J9 C.K) (by rw [← G.K]; exact Lw G.u60) Vd hg hm PyProof.Rows.boot_sorted ha (by decide) (by decide) he rfl
end
namespace S
variable {X : Cx} {C : Cfg} {p pos : Pos} {e : Expr} {ea : cz}
theorem BX (G : Good X C) (hm : X.mg "sorted" = none) (ha : xu X C [e] ea) (hg : Gl X "sorted" := by rfl) (he : starEach [e] X.env = (false, eval e X.env) :: starEach [] X.env := by rfl) : SX X C (.Call (.Name "sorted" p) [e] [] pos) (aq tD ea) := ⟨Ev.BX G hm ha.u hg he⟩
end S
end Ev
namespace Ev
open PySem PySem.Spec PyProof.Rows L2
section
variable {X : Cx} {C : Cfg}
def Y9 (K : Fg) : R2 := fun x y H Q => ∃ (a : Addr) (ks : List (Key × V)) (b : Addr) (zs : List (List Nat)), x = .ref a ∧ Rd H a (.dK ks) ∧ y = .ref b ∧ nO K H b (zs.map fun z => V.str (strOf z)) ∧ Q (.bl true) H
theorem Pa (hu : X.A.units + 61 < cLine) : kh X (compareOp .NotIn) (Y9 X.K) := by
  intro pins s σ H x y v u Q I rx ry h
  obtain ⟨a, ks, b, zs, rfl, h1, rfl, h2, q⟩ := h
  cases rx
  cases ry
  obtain ⟨its, rv, p, _⟩ := I.tuple h2
  have hd := dct_is I h1
  refine SeqAt.notIn_tupleAt (fun _ => false) p (fun w hw => ?_) ⟨.bl _, H, I, rfl, ?_⟩
  · obtain ⟨z, t, rfl⟩ := rY rv w (by simpa using hw)
    exact HT.rU _ _ hd (by show X.A.units + 1 < cLine; omega)
  · have : its.toArray.any (fun _ => false) = false := by simp
    rw [this]
    exact q
def En : D → D → Option D
  | .dct _, .tup ys => if (bZ ys).isSome then some (.bl true) else none
  | _, _ => none
theorem Pk : nu C (Y9 C.K) En := by
  intro Pr F env σ H x y d vx vy Q r px py e q
  unfold En at e
  split at e
  · rename_i kvs ys
    split at e
    · rename_i hs
      cases e
      obtain ⟨zs, hz⟩ := Option.isSome_iff_exists.mp hs
      obtain ⟨a, ks, rfl, h1⟩ := px.adl r.fr
      obtain ⟨_, b, vs, rfl, h2, _, h3⟩ := py.tup r.fr
      rw [sE hz h3] at h2
      exact ⟨a, ks, b, zs, rfl, h1, rfl, h2, q _ H F r (aH.refl F) rfl⟩
    · cases e
  · cases e
def j9 (x y : D) : Option D := (ou x y).or (En x y)
theorem Vi (G : Good X C) : Cm X C .NotIn j9 := ⟨_, (Bo G.u61).or (Pa G.u61), by rw [G.K]; exact Hk.or Pk⟩
end
end Ev
namespace wZ
open Ev
def lC : Ev := dW 1 2 (eN (aa (aF El (aq dG (aa (bw 0) ak)) (aN (.int 1))) (ak))) (au 1) (bW) (aF gLt (aA jk 0 (bw 1)) (aA jk 0 (aA bU 1 (aN (.int 1)))))
def xJ : bN := aV (aq ph (aa (lC) ak))
def gH : List D → Option D := gb 1 xJ
def rB : bN := aV (dY (oK (vQ "tuple") (az 0)) (aF qi (aq dG (aa (bw 0) ak)) (aN (.int 2))))
def cA : List D → Option D := gb 1 rB
def cZ : Ev := dW 1 3 (ig (az 0)) (fL 2 (bu (au 1) (bu (au 2) (gw)))) (bW) (az 1)
def mD : bN := aV (aq dN (aa (cZ) ak))
def cR : List D → Option D := gb 1 mD
def ir : bN := aK (jH (fC (jC (aq cA (aa (az 1) (ak))))) (aV (aN (.bl false))) (cG)) (aK (bj (az 1) (fL 2 (bu (au 2) (bu (au 3) (gw))))) (aV (dY (aA qg 2 (bw 0)) (dY (IK (aA qg 3 (bw 0)) (aA qi 3 (aN (.str [])))) (aA Uo 2 (bw 3))))))
def cL : List D → Option D := gb 4 ir
def jE : bN := aV (dY (aq cA (aa (az 1) (ak))) (dY (aF qi (aA jk 1 (aN (.int 0))) (aN (.str []))) (aF qg (aA jk 1 (aN (.int 1))) (bw 0))))
def dO : List D → Option D := gb 2 jE
def cj : Ev := dW 2 3 (ig (az 1)) (au 2) (bW) (aq cL (aa (az 0) (aa (az 2) (ak))))
def cg : Ev := dW 2 4 (ig (az 1)) (fL 2 (bu (au 2) (bu (au 3) (gw)))) (bW) (az 2)
def jF : bN := aK (jH (o9 (fC (jC (oK (vQ "tuple") (az 1)))) (jC (aF qi (aq dG (aa (bw 1) ak)) (aN (.int 0))))) (aV (aN (.bl false))) (cG)) (aK (jH (zg (jC (aF qi (aq dG (aa (bw 1) ak)) (aN (.int 1)))) (jC (aq dO (aa (az 0) (aa (aA jk 1 (aN (.int 0))) (ak)))))) (aV (aN (.bl true))) (cG)) (aV (dY (aq ph (aa (cj) ak)) (aq gH (aa (cg) (ak))))))
def dU : List D → Option D := gb 2 jF
def gr : Ev := dW 2 3 (ig (az 1)) (au 2) (bW) (IK (aA qi 2 (aN (.str [35]))) (aA qg 2 (bw 0)))
def mF : bN := aK (jH (jC (aA gIs 1 (aN .non))) (aV (aN (.bl true))) (cG)) (aK (jH (o9 (fC (jC (oK (vQ "tuple") (az 1)))) (jC (aF qi (aq dG (aa (bw 1) ak)) (aN (.int 0))))) (aV (aN (.bl false))) (cG)) (aV (dY (aq ph (aa (gr) ak)) (aq gH (aa (az 1) (ak))))))
def dI : List D → Option D := gb 2 mF
def rA : bN := aK (jH (o9 (fC (jC (oK (vQ "tuple") (az 1)))) (jC (aF Uo (aq dG (aa (bw 1) ak)) (aN (.int 4))))) (aV (aN (.bl false))) (cG)) (aK (bj (az 1) (fL 4 (bu (au 2) (bu (au 3) (bu (au 4) (bu (au 5) (gw))))))) (aK (bj (aq cR (aa (az 0) (ak))) (au 6)) (aV (dY (aA qg 2 (aN (.tup [(.str [111, 110, 99, 101]), (.str [97, 108, 111, 110, 103])]))) (dY (aq dU (aa (az 6) (aa (az 3) (ak)))) (dY (aq dI (aa (az 6) (aa (az 4) (ak)))) (aq dI (aa (az 6) (aa (az 5) (ak))))))))))
def dC : List D → Option D := gb 7 rA
def mQ : Ev := dW 4 5 (ig (az 3)) (au 4) (bW) (aq dC (aa (az 0) (aa (az 4) (ak))))
def zJ : bN := aK (jH (fC (jC (aq cA (aa (az 1) (ak))))) (aV (aN (.bl false))) (cG)) (aK (bj (az 1) (fL 2 (bu (au 2) (bu (au 3) (gw))))) (aK (jH (o9 (jC (aA j9 2 (aN (.tup [(.str [108, 101, 102, 116]), (.str [114, 105, 103, 104, 116])])))) (o9 (fC (jC (oK (vQ "tuple") (az 3)))) (jC (aF gGt (aq dG (aa (bw 3) ak)) (aN (.int 4)))))) (aV (aN (.bl false))) (cG)) (aV (aq ph (aa (mQ) ak)))))
def gC : List D → Option D := gb 4 zJ
def gF : bN := aV (aF Ld (aA lU 0 (aN (.int 262406895267124108351839057402211873468251940277165213587343))) (aF Lb (aN (.int 10)) (aN (.int 60))))
def dH : List D → Option D := gb 1 gF
def mR : bN := bj (aF bU (aA lU 2 (aF Lb (aN (.int 10)) (aN (.int 60)))) (aq dH (aa (aF jk (aF bU (vU (az 0) (za (az 3)) (za (aA bU 3 (aN (.int 1))))) (cJ (aa (aF bU (aF lU (aN (.int 7919)) (bw 3)) (aN (.int 61))) (ak)))) (aN (.int 0))) (ak)))) (au 2)
def fH : bN := aK (bj (aN (.int 0)) (au 2)) (aK (ji (ig (cJ (aa (aA bU 1 (aN (.int 1))) (aa (az 1) (ak))))) (au 3) (mR)) (pF (cJ (aa (az 2) (ak)))))
def dR : List D → Option D := runN 4 fH
def fD : bN := aK (bj (aq mz (aa (aA jk 0 (aN (.int 0))) (aa (bw 1) ak))) (fL 2 (bu (HY 0 (aN (.int 0))) (bu (au 2) (gw))))) (aV (az 2))
def aG : List D → Option (D × D) := gf 3 fD
def fV : Ev := dW 4 5 (eN (aa (aF bU (aN (.int 1)) (cP aG 0 (aa (aN (.int 4)) (ak)))) (ak))) (au 4) (bW) (aA jk 1 (aF Ld (aA bU 2 (aA lU 3 (bw 4))) (aN (.int 26))))
def bY : bN := aK (bj (aN (.str [97, 98, 99, 100, 101, 102, 103, 104, 105, 106, 107, 108, 109, 110, 111, 112, 113, 114, 115, 116, 117, 118, 119, 120, 121, 122])) (au 1)) (aK (bj (bC (aa (cP aG 0 (aa (aN (.int 26)) (ak))) (aa (aF bU (aN (.int 1)) (cP aG 0 (aa (aN (.int 25)) (ak)))) (ak)))) (fL 2 (bu (au 2) (bu (au 3) (gw))))) (aV (aF qe (aN (.str [])) (oK lG (fV)))))
def bV : List D → Option (D × D) := gf 4 bY
def lD : Ev := dW 7 8 (eN (aa (aN (.int 5)) (ak))) (au 7) (jC (aF Im (aF Es (aA Ag 5 (bw 7)) (aN (.int 1))) (aN (.int 1)))) (aA jk 2 (bw 7))
def lF : bN := aK (bj (cP aG 0 (aa (aN (.int 32)) (ak))) (au 5)) (aK (bj (aq je (aa (lD) ak)) (au 6)) (nA 3 (bC (aa (az 4) (aa (aq dN (aa (vU (az 6) (qu) (za (aN (.int 4)))) ak)) (ak))))))
def gD : bN := aK (bj (cP bV 0 (ak)) (au 1)) (aK (bj (cJ (aa (aN (.str [115, 116, 111, 112])) (aa (aN (.str [115, 116, 111, 112, 115])) (aa (aN (.str [115])) (aa (aN (.str [111, 112, 101, 110])) (aa (aN (.str [97, 98, 99, 100, 101, 102, 103, 104])) (ak))))))) (au 2)) (aK (kO 3 (cJ (ak))) (aK (ji (ig (az 1)) (au 4) (lF)) (aV (aq dN (aa (bw 3) ak))))))
def cT : List D → Option (D × D) := gf 7 gD
def o7 : Ev := wZ.cZ
def fG : bN := aV (aF qe (aN (.str [])) (o7))
def cF : List D → Option D := gb 1 fG
def gq : Ev := dW 4 5 (eN (aa (aq dG (aa (bw 3) ak)) (ak))) (au 4) (jC (aF Im (aF Es (aA Ag 2 (bw 4)) (aN (.int 1))) (aN (.int 1)))) (aA jk 3 (bw 4))
def jQ : bN := aK (jH (jC (aF Im (cP aG 0 (aa (aN (.int 2)) (ak))) (aN (.int 0)))) (aV (aN .non)) (cG)) (aK (bj (aF bU (aN (.int 1)) (cP aG 0 (aa (aF El (aF Qf (aN (.int 2)) (aq dG (aa (bw 1) ak))) (aN (.int 1))) (ak)))) (au 2)) (aK (bj (aF bU (aN (.str [35])) (bw 1)) (au 3)) (aV (aq dN (aa (gq) ak)))))
def cU : List D → Option (D × D) := gf 4 jQ
def eE : Ev := dW 6 7 (ig (aF bU (aq o8 (aa (bw 1) ak)) (cJ (aa (aN (.str [])) (ak))))) (au 6) (jC (aA Uo 6 (bw 4))) (az 6)
def cW : bN := aK (bj (aA jk 1 (cP aG 0 (aa (aq dG (aa (bw 1) ak)) (ak)))) (au 4)) (aK (kO 5 (eE)) (su 2 (az 4) (aA jk 5 (cP aG 0 (aa (aq dG (aa (bw 5) ak)) (ak))))))
def d9 : Ev := dW 6 7 (ig (aq je (aa (bw 2) ak))) (au 6) (bW) (bC (aa (az 6) (aa (aA rT 2 (bw 6)) (ak))))
def ik : bN := aK (jH (jC (aF Im (cP aG 0 (aa (aN (.int 5)) (ak))) (aN (.int 0)))) (aV (bC (aa (bC (aa (aN (.str [])) (aa (aA jk 1 (cP aG 0 (aa (aq dG (aa (bw 1) ak)) (ak)))) (ak)))) (ak)))) (cG)) (aK (kO 2 (oM)) (aK (ji (eN (aa (aF bU (aN (.int 1)) (cP aG 0 (aa (aN (.int 3)) (ak)))) (ak))) (au 3) (cW)) (aV (aq dN (aa (d9) ak)))))
def cV : List D → Option (D × D) := gf 6 ik
def oR : bN := aK (bj (aF jk (cJ (aa (aN (.str [111, 110, 99, 101])) (aa (aN (.str [97, 108, 111, 110, 103])) (ak)))) (cP aG 0 (aa (aN (.int 2)) (ak)))) (au 2)) (aK (bj (cP cV 0 (aa (az 1) (ak))) (au 3)) (aV (bC (aa (az 2) (aa (az 3) (aa (cP cU 0 (aa (az 1) (ak))) (aa (cP cU 0 (aa (az 1) (ak))) (ak))))))))
def fB : List D → Option (D × D) := gf 4 oR
def lE : Ev := dW 4 5 (eN (aa (cP aG 0 (aa (aA bU 2 (aN (.int 1))) (ak))) (ak))) (au 4) (bW) (cP fB 0 (aa (az 1) (ak)))
def wY : bN := aK (bj (aF jk (cJ (aa (aN (.str [108, 101, 102, 116])) (aa (aN (.str [114, 105, 103, 104, 116])) (ak)))) (cP aG 0 (aa (aN (.int 2)) (ak)))) (au 3)) (aV (bC (aa (az 3) (aa (aq dN (aa (lE) ak)) (ak)))))
def eV : List D → Option (D × D) := gf 4 wY
def uO : bN := aV (dY (oK (vQ "bool") (az 0)) (aA Im 0 (bw 1)))
def eG : List D → Option D := gb 2 uO
def jb : Ev := dW 1 2 (ig (aN (.str [113, 118, 109, 101, 104, 97, 98, 99, 100, 102, 103]))) (au 1) (jC (aA ou 1 (bw 0))) (az 1)
def rz : bN := aV (aF jk (jb) (aN (.int 0)))
def eF : List D → Option D := gb 1 rz
def di : bN := nA 6 (bC (aa (az 7) (aa (az 3) (ak))))
def dh : bN := nA 6 (bC (aa (az 2) (aa (az 7) (ak))))
def dg : bN := nA 6 (bC (aa (az 2) (aa (aF bU (Bw (az 3) (qu) (za (aN (.int 3)))) (bC (aa (az 7) (ak)))) (ak))))
def pg : bN := aK (bj (az 0) (fL 2 (bu (au 2) (bu (au 3) (gw))))) (aK (bj (aq eF (aa (az 1) (ak))) (au 4)) (aK (bj (bC (aa (aN (.str [111, 110, 99, 101])) (aa (bC (aa (bC (aa (aA jk 1 (aN (.int 0))) (aa (aN (.str [])) (ak)))) (ak))) (aa (aN .non) (aa (aN .non) (ak)))))) (au 5)) (aK (kO 6 (cJ (aa (aN .non) (aa (aN (.int 7)) (aa (aN (.bl true)) (aa (aN (.str [108, 101, 102, 116])) (aa (bC (ak)) (aa (oM) (aa (aq o8 (aa (bw 0) ak)) (aa (bC (aa (az 2) (ak))) (aa (aA bU 0 (bC (aa (bC (ak)) (ak)))) (aa (bC (aa (az 0) (ak))) (aa (az 3) (aa (bC (aa (az 3) (aa (az 2) (ak)))) (aa (az 2) (ak)))))))))))))))) (aK (ji (ig (cJ (aa (aN (.str [])) (aa (aN (.str [76, 101, 102, 116])) (aa (aN (.str [98, 111, 116, 104])) (aa (aN (.str [111, 110, 99, 101])) (aa (aN .non) (aa (aN (.int 7)) (aa (aN (.bl true)) (aa (bC (aa (aN (.str [108, 101, 102, 116])) (ak))) (aa (cJ (aa (aN (.str [108, 101, 102, 116])) (ak))) (aa (oM) (aa (cJ (aa (oM) (ak))) (ak)))))))))))))) (au 7) (di)) (aK (bj (cJ (aa (aq o8 (aa (bw 3) ak)) (aa (aN .non) (aa (aN (.str [])) (aa (aN (.int 7)) (aa (oM) (aa (aA bU 3 (bC (aa (aN .non) (ak)))) (aa (aA bU 3 (bC (aa (bC (ak)) (ak)))) (aa (aF Ij (bC (aa (az 5) (ak))) (aN (.int 5))) (aa (az 5) (ak))))))))))) (au 8)) (aK (bj (aA bU 8 (cJ (aa (aA bU 3 (bC (aa (aq o8 (aa (bw 5) ak)) (ak)))) (ak)))) (au 8)) (aK (ji (ig (az 8)) (au 7) (dh)) (aK (bj (cJ (aa (bC (aa (aN (.str [111, 110, 99, 101])) (aa (bC (aa (bC (aa (az 4) (aa (aN (.str [])) (ak)))) (ak))) (aa (aN .non) (aa (aN .non) (ak)))))) (aa (bC (aa (aN (.str [111, 110, 99, 101])) (aa (bC (aa (bC (aa (aN (.str [])) (aa (aA jk 1 (aN (.int 0))) (ak)))) (ak))) (aa (bC (aa (az 4) (ak))) (aa (aN .non) (ak)))))) (aa (Bw (az 5) (qu) (za (aN (.int 3)))) (ak))))) (au 8)) (aK (bj (aA bU 8 (cJ (aa (aA bU 5 (bC (aa (aN .non) (ak)))) (ak)))) (au 8)) (aK (ji (ig (az 8)) (au 7) (dg)) (aV (az 6))))))))))))
def dB : List D → Option D := gb 9 pg
def uy : bN := jH (fC (jC (aq eG (aa (aq gC (aa (az 3) (aa (bC (aa (aA jk 5 (aN (.int 0))) (aa (Iw (aA jk 5 (aN (.int 1))) (qu) (za (az 6))) (ak)))) (ak)))) (aa (aN (.bl true)) (ak)))))) (aV (aN (.bl false))) (cG)
def yK : Ev := dW 12 13 (ig (aq dB (aa (az 5) (aa (az 4) (ak))))) (au 12) (bW) (aq eG (aa (aq gC (aa (az 3) (aa (az 12) (ak)))) (aa (aN (.bl false)) (ak))))
def yJ : Ev := dW 12 13 (ig (aA jk 9 (aN (.int 1)))) (au 12) (bW) (aq eG (aa (aq dC (aa (az 8) (aa (az 12) (ak)))) (aa (aN (.bl true)) (ak))))
def pM : bN := aK (kO 2 (aq dR (aa (az 0) (aa (az 1) (ak))))) (aK (bj (cP cT 2 (ak)) (au 3)) (aK (bj (aq cF (aa (az 3) (ak))) (au 4)) (aK (bj (cP eV 2 (aa (az 4) (aa (aN (.int 4)) (ak)))) (au 5)) (aK (ji (eN (aa (aF bU (aq dG (aa (aA jk 5 (aN (.int 1))) ak)) (aN (.int 1))) (ak))) (au 6) (uy)) (aK (jH (fC (jC (aq ph (aa (yK) ak)))) (aV (aN (.bl false))) (cG)) (aK (bj (aq eF (aa (az 4) (ak))) (au 7)) (aK (bj (aq dN (aa (aq tD (aa (aF bU (Iw (az 3) (qu) (za (aN (.int 3)))) (bC (aa (bC (aa (az 7) (aa (bC (ak)) (ak)))) (ak)))) ak)) ak)) (au 8)) (aK (bj (cP eV 2 (aa (Bw (az 4) (qu) (za (aN (.int 3)))) (aa (aN (.int 3)) (ak)))) (au 9)) (aK (jH (fC (jC (aq eG (aa (aq gC (aa (az 8) (aa (az 9) (ak)))) (aa (aN (.bl true)) (ak)))))) (aV (aN (.bl false))) (cG)) (aK (jH (fC (jC (aq ph (aa (yJ) ak)))) (aV (aN (.bl false))) (cG)) (aK (bj (bC (aa (aN (.str [111, 110, 99, 101])) (aa (bC (aa (bC (aa (az 7) (aa (aA jk 4 (aN (.int 0))) (ak)))) (ak))) (aa (aN .non) (aa (aN .non) (ak)))))) (au 10)) (jH (o9 (fC (jC (aq eG (aa (aq dC (aa (az 8) (aa (az 10) (ak)))) (aa (aN (.bl true)) (ak)))))) (fC (jC (aq eG (aa (aq dC (aa (az 3) (aa (az 10) (ak)))) (aa (aN (.bl false)) (ak))))))) (aV (aN (.bl false))) (cG)))))))))))))
def ZR : bN := aK (ji (eN (aa (aN (.int 0)) (aa (aq Il (aa (aN (.int 1)) (aa (aq Ik (aa (aq dG (aa (bw 0) ak)) (aa (aN (.int 12)) ak))) ak))) (aa (aN (.int 2)) (ak))))) (au 1) (pM)) (aK (bj (bC (aa (aN (.str [111, 110, 99, 101])) (aa (bC (aa (bC (aa (aN (.str [97])) (aa (aN (.str [])) (ak)))) (ak))) (aa (aN .non) (aa (aN .non) (ak)))))) (au 11)) (aV (aq eG (aa (aq gC (aa (bC (aa (bC (aa (aN (.str [97])) (aa (bC (ak)) (ak)))) (ak))) (aa (bC (aa (aN (.str [108, 101, 102, 116])) (aa (aF Ij (bC (aa (az 11) (ak))) (aN (.int 4))) (ak)))) (ak)))) (aa (aN (.bl true)) (ak))))))
def Iv : List D → Option D := gb 12 ZR
end wZ
namespace wZ
open PySem PySem.Spec PyProof.Rows L2 Ev
def top (i : Nat) : Stmt := PySem.Challenge.pw_soundrules_k05_orders_of_any_things.main.body.getD i (.Pass ⟨0, 0, 0, 0⟩)
abbrev qX : Stmt := top 2
abbrev kI : Stmt := top 3
abbrev iC : Stmt := top 4
abbrev dw : Stmt := top 9
abbrev fM : Stmt := top 10
abbrev fP : Stmt := top 11
abbrev iJ : Stmt := top 12
abbrev kE : Stmt := top 13
abbrev jr : Stmt := top 14
abbrev iI : Stmt := top 16
abbrev jq : Stmt := top 17
abbrev jn : Stmt := top 18
abbrev cC : Stmt := top 19
abbrev iD : Stmt := top 20
abbrev gG : Stmt := top 21
abbrev iG : Stmt := top 22
abbrev fO : Stmt := top 23
abbrev jo : Stmt := top 24
abbrev iH : Stmt := top 25
abbrev nD : Stmt := top 26
abbrev km : Stmt := top 27
abbrev du : Stmt := top 28
abbrev uo : Stmt := top 29
section
variable {P : Program} {w : World} {K : Fg} {mg : Str → Option Value} {base : Heap}
theorem Rj : bG ["things"] ["things"] (aD qX) := kY
theorem mq (F : bL K mg "rises" qX ["things"]) (gO : mg "all" = none) (bQ : mg "len" = none) (bM : mg "range" = none) : Own P w K mg base "rises" 1 ["things"] (mK K 1 gH) := by
  exact dF (k := 0) F Rj (fun f cdv A outer s H E hr G => (S.iU.u (S.aM (S.bh (S.wG G gO (S.aP (S.bA (S.bT (S.pJ ["things", "at"] 1 gQ G (S.n6 bM (S.aj (S.eU ZL (S.j4 G bQ (S.aP (S.eY 0))) (S.bA S.aL)) S.ao) (bD len0)) (fun X1 h1 => by have G := G.at h1; obtain ⟨_, _, _, _, _, rfl⟩ := h1; exact (S.bF 1)) (fun X1 h1 => by have G := G.at h1; obtain ⟨_, _, _, _, _, rfl⟩ := h1; exact S.dD) (fun X1 h1 => by have G := G.at h1; obtain ⟨_, _, _, _, _, rfl⟩ := h1; exact (S.Av ahF (S.gU 0 G (S.eY 1)) (S.bA (S.gU 0 G (S.bA (S.eZ 1 (fZ G) (S.bA S.aL))))))))))))))))
theorem J4 : bG ["thing"] ["thing"] (aD kI) := kY
theorem d7 (F : bL K mg "is_pair" kI ["thing"]) (aZ : mg "isinstance" = none) (bQ : mg "len" = none) (aY : mg "tuple" = none) (cu : ∀ d : D, PySem.W.kitOne K (.type (Mq d)) (.type "tuple") = some (jc d "tuple")) : Own P w K mg base "is_pair" 1 ["thing"] (mK K 1 cA) := by
  exact dF (k := 0) F J4 (fun f cdv A outer s H E hr G => (S.iU.u (S.aM (S.bh (S.jt (S.pI (T := "tuple") rfl aZ rfl aY (by decide +kernel) cu G.K (S.aJ 0)) (S.lq (S.Av (zH G) (S.j4 G bQ (S.aP (S.eY 0))) (S.bA S.aL))))))))
theorem CJ : bG ["stock"] ["stock"] (aD iC) := kY
theorem jL (F : bL K mg "sounds_of" iC ["stock"]) (aY : mg "tuple" = none) : Own P w K mg base "sounds_of" 1 ["stock"] (mK K 1 cR) := by
  exact dF (k := 0) F CJ (fun f cdv A outer s H E hr G => (S.iU.u (S.aM (S.bh (S.j7 G aY (S.aP (S.bA (S.bT (S.pJ ["stock", "sound", "marks"] 1 gQ G (S.jj G (S.aJ 0)) (fun X1 h1 => by have G := G.at h1; obtain ⟨_, _, _, _, _, rfl⟩ := h1; exact (S.qd G (S.bI (S.bF 1) (S.bI (S.bF 2) S.gj)))) (fun X1 h1 => by have G := G.at h1; obtain ⟨_, _, _, _, _, rfl⟩ := h1; exact S.dD) (fun X1 h1 => by have G := G.at h1; obtain ⟨_, _, _, _, _, rfl⟩ := h1; exact (S.aJ 1)))))))))))
theorem vf : bG ["sounds", "thing", "old", "new"] ["sounds", "thing"] (aD dw) := kY
theorem fK (F : bL K mg "changes_sound" dw ["sounds", "thing"]) (d7 : Own P w K mg base "is_pair" 1 ["thing"] (mK K 1 cA)) : Own P w K mg base "changes_sound" 2 ["sounds", "thing"] (mK K 2 cL) := by
  exact dF (k := 1) F vf (fun f cdv A outer s H E hr G => (S.iU.u (S.aC (S.gh (S.fW (S.fj (S.cM d7 G hr (by rfl) (S.aj (S.aJ 1) S.ao) (bD len0)))) (S.aM (S.bh S.fX)) S.cH)
      (S.aC (S.lY (S.aJ 1) (S.qd G (S.bI (S.bF 2) (S.bI (S.bF 3) S.gj))))
      (S.aM (S.bh (S.jt (S.mJ 2 (Js G) (S.eY 0)) (S.jt (S.MN (S.mJ 3 (Js G) (S.eY 0)) (S.lq (S.mJ 3 (zH G) (S.bA (S.bH [] (by decide +kernel)))))) (S.lq (S.mJ 2 (adu G) (S.eY 3)))))))))))
theorem yf : bG ["sounds", "thing"] ["sounds", "thing"] (aD fM) := kY
theorem gY (F : bL K mg "puts_one_in" fM ["sounds", "thing"]) (d7 : Own P w K mg base "is_pair" 1 ["thing"] (mK K 1 cA)) : Own P w K mg base "puts_one_in" 2 ["sounds", "thing"] (mK K 2 dO) := by
  exact dF (k := 1) F yf (fun f cdv A outer s H E hr G => (S.iU.u (S.aM (S.bh (S.jt (S.cM d7 G hr (by rfl) (S.aj (S.aJ 1) S.ao) (bD len0)) (S.jt (S.Av (zH G) (S.gU 1 G (S.bA S.aL)) (S.bA (S.bH [] (by decide +kernel)))) (S.lq (S.Av (Js G) (S.gU 1 G (S.bA S.aL)) (S.eY 0)))))))))
theorem yh : bG ["sounds", "thing"] ["sounds", "thing"] (aD fP) := kY
theorem g8 (F : bL K mg "are_changes" fP ["sounds", "thing"]) (gO : mg "all" = none) (aZ : mg "isinstance" = none) (bQ : mg "len" = none) (aY : mg "tuple" = none) (cu : ∀ d : D, PySem.W.kitOne K (.type (Mq d)) (.type "tuple") = some (jc d "tuple")) (fK : Own P w K mg base "changes_sound" 2 ["sounds", "thing"] (mK K 2 cL)) (gY : Own P w K mg base "puts_one_in" 2 ["sounds", "thing"] (mK K 2 dO)) (mq : Own P w K mg base "rises" 1 ["things"] (mK K 1 gH)) : Own P w K mg base "are_changes" 3 ["sounds", "thing"] (mK K 2 dU) := by
  exact dF (k := 2) F yh (fun f cdv A outer s H E hr G => (S.iU.u (S.aC (S.gh (S.wF (S.pH (S.fW (S.fj (S.pI (T := "tuple") rfl aZ rfl aY (by decide +kernel) cu G.K (S.aJ 1)))) (S.nT (S.pC (zH G) (S.j4 G bQ (S.aP (S.eY 1))) (S.bA S.aL))))) (S.aM (S.bh S.fX)) S.cH)
      (S.aC (S.gh (S.wF (S.Dd (S.pC (zH G) (S.j4 G bQ (S.aP (S.eY 1))) (S.bA S.aL)) (S.ym (S.fj (S.cM gY G hr (by rfl) (S.aj (S.aJ 0) (S.aj (S.gU 1 G (S.bA S.aL)) S.ao)) (bD (bD len0))))))) (S.aM (S.bh S.fX)) S.cH)
      (S.aM (S.bh (S.jt (S.wG G gO (S.aP (S.bA (S.bT (S.pJ ["sounds", "thing", "change"] 2 gQ G (S.jj G (S.aJ 1)) (fun X1 h1 => by have G := G.at h1; obtain ⟨_, _, _, _, _, rfl⟩ := h1; exact (S.bF 2)) (fun X1 h1 => by have G := G.at h1; obtain ⟨_, _, _, _, _, rfl⟩ := h1; exact S.dD) (fun X1 h1 => by have G := G.at h1; obtain ⟨_, _, _, _, _, rfl⟩ := h1; exact (S.cM fK G hr (by rfl) (S.aj (S.aJ 0) (S.aj (S.aJ 2) S.ao)) (bD (bD len0))))))))) (S.lq (S.cM mq G hr (by rfl) (S.aj (S.bT (S.pJ ["sounds", "thing", "old", "new"] 2 gQ G (S.jj G (S.aJ 1)) (fun X1 h1 => by have G := G.at h1; obtain ⟨_, _, _, _, _, rfl⟩ := h1; exact (S.qd G (S.bI (S.bF 2) (S.bI (S.bF 3) S.gj)))) (fun X1 h1 => by have G := G.at h1; obtain ⟨_, _, _, _, _, rfl⟩ := h1; exact S.dD) (fun X1 h1 => by have G := G.at h1; obtain ⟨_, _, _, _, _, rfl⟩ := h1; exact (S.aJ 2)))) S.ao) (bD len0))))))))))
theorem CT : bG ["sounds", "thing"] ["sounds", "thing"] (aD iJ) := kY
theorem iR (F : bL K mg "are_signs" iJ ["sounds", "thing"]) (gO : mg "all" = none) (aZ : mg "isinstance" = none) (bQ : mg "len" = none) (aY : mg "tuple" = none) (cu : ∀ d : D, PySem.W.kitOne K (.type (Mq d)) (.type "tuple") = some (jc d "tuple")) (n8 : Vx K mg "EDGE" (.str [35])) (mq : Own P w K mg base "rises" 1 ["things"] (mK K 1 gH)) : Own P w K mg base "are_signs" 2 ["sounds", "thing"] (mK K 2 dI) := by
  obtain ⟨agA, agC, n8⟩ := n8
  exact dF (k := 1) F CT (fun f cdv A outer s H E hr G => (S.iU.u (S.aC (S.gh (S.uX 1 ahG (S.bA S.fU)) (S.aM (S.bh S.fX)) S.cH)
      (S.aC (S.gh (S.wF (S.pH (S.fW (S.fj (S.pI (T := "tuple") rfl aZ rfl aY (by decide +kernel) cu G.K (S.aJ 1)))) (S.nT (S.pC (zH G) (S.j4 G bQ (S.aP (S.eY 1))) (S.bA S.aL))))) (S.aM (S.bh S.fX)) S.cH)
      (S.aM (S.bh (S.jt (S.wG G gO (S.aP (S.bA (S.bT (S.pJ ["sounds", "thing", "sign"] 2 gQ G (S.jj G (S.aJ 1)) (fun X1 h1 => by have G := G.at h1; obtain ⟨_, _, _, _, _, rfl⟩ := h1; exact (S.bF 2)) (fun X1 h1 => by have G := G.at h1; obtain ⟨_, _, _, _, _, rfl⟩ := h1; exact S.dD) (fun X1 h1 => by have G := G.at h1; obtain ⟨_, _, _, _, _, rfl⟩ := h1; exact (S.MN (S.mJ 2 (zH G) (S.bA (S.qZ (.str [35]) rfl n8.1 n8.2.1 (fun F => n8.2.2 F)))) (S.lq (S.mJ 2 (Js G) (S.eY 0)))))))))) (S.lq (S.cM mq G hr (by rfl) (S.aj (S.aJ 1) S.ao) (bD len0))))))))))
theorem J3 : bG ["stock", "thing", "way", "changes", "left", "right", "sounds"] ["stock", "thing"] (aD kE) := kY
theorem fQ (F : bL K mg "is_rule" kE ["stock", "thing"]) (aZ : mg "isinstance" = none) (bQ : mg "len" = none) (aY : mg "tuple" = none) (cu : ∀ d : D, PySem.W.kitOne K (.type (Mq d)) (.type "tuple") = some (jc d "tuple")) (jd : Vx K mg "WAYS" (.tup [(.str [111, 110, 99, 101]), (.str [97, 108, 111, 110, 103])])) (g8 : Own P w K mg base "are_changes" 3 ["sounds", "thing"] (mK K 2 dU)) (iR : Own P w K mg base "are_signs" 2 ["sounds", "thing"] (mK K 2 dI)) (jL : Own P w K mg base "sounds_of" 1 ["stock"] (mK K 1 cR)) : Own P w K mg base "is_rule" 4 ["stock", "thing"] (mK K 2 dC) := by
  obtain ⟨agz, agB, jd⟩ := jd
  exact dF (k := 3) F J3 (fun f cdv A outer s H E hr G => (S.iU.u (S.aC (S.gh (S.wF (S.pH (S.fW (S.fj (S.pI (T := "tuple") rfl aZ rfl aY (by decide +kernel) cu G.K (S.aJ 1)))) (S.nT (S.pC (adu G) (S.j4 G bQ (S.aP (S.eY 1))) (S.bA S.aL))))) (S.aM (S.bh S.fX)) S.cH)
      (S.aC (S.lY (S.aJ 1) (S.qd G (S.bI (S.bF 2) (S.bI (S.bF 3) (S.bI (S.bF 4) (S.bI (S.bF 5) S.gj))))))
      (S.aC (S.dq 6 (S.cM jL G hr (by rfl) (S.aj (S.aJ 0) S.ao) (bD len0)))
      (S.aM (S.bh (S.jt (S.mJ 2 (Js G) (S.bA (S.qZ (.tup [(.str [111, 110, 99, 101]), (.str [97, 108, 111, 110, 103])]) rfl jd.1 jd.2.1 (fun F => jd.2.2 F)))) (S.jt (S.cM g8 G hr (by rfl) (S.aj (S.aJ 6) (S.aj (S.aJ 3) S.ao)) (bD (bD len0))) (S.jt (S.cM iR G hr (by rfl) (S.aj (S.aJ 6) (S.aj (S.aJ 4) S.ao)) (bD (bD len0))) (S.lq (S.cM iR G hr (by rfl) (S.aj (S.aJ 6) (S.aj (S.aJ 5) S.ao)) (bD (bD len0))))))))))))))
theorem G5 : bG ["stock", "thing", "side", "rules"] ["stock", "thing"] (aD jr) := kY
theorem gm (F : bL K mg "is_order" jr ["stock", "thing"]) (gO : mg "all" = none) (aZ : mg "isinstance" = none) (bQ : mg "len" = none) (aY : mg "tuple" = none) (cu : ∀ d : D, PySem.W.kitOne K (.type (Mq d)) (.type "tuple") = some (jc d "tuple")) (dM : Vx K mg "MOST_RULES" (.int 4)) (gA : Vx K mg "SIDES" (.tup [(.str [108, 101, 102, 116]), (.str [114, 105, 103, 104, 116])])) (d7 : Own P w K mg base "is_pair" 1 ["thing"] (mK K 1 cA)) (fQ : Own P w K mg base "is_rule" 4 ["stock", "thing"] (mK K 2 dC)) : Own P w K mg base "is_order" 5 ["stock", "thing"] (mK K 2 gC) := by
  obtain ⟨VR, V0, dM⟩ := dM
  obtain ⟨agf, agh, gA⟩ := gA
  exact dF (k := 4) F G5 (fun f cdv A outer s H E hr G => (S.iU.u (S.aC (S.gh (S.fW (S.fj (S.cM d7 G hr (by rfl) (S.aj (S.aJ 1) S.ao) (bD len0)))) (S.aM (S.bh S.fX)) S.cH)
      (S.aC (S.lY (S.aJ 1) (S.qd G (S.bI (S.bF 2) (S.bI (S.bF 3) S.gj))))
      (S.aC (S.gh (S.wF (S.pH (S.uX 2 (Vi G) (S.bA (S.qZ (.tup [(.str [108, 101, 102, 116]), (.str [114, 105, 103, 104, 116])]) rfl gA.1 gA.2.1 (fun F => gA.2.2 F)))) (S.pH (S.fW (S.fj (S.pI (T := "tuple") rfl aZ rfl aY (by decide +kernel) cu G.K (S.aJ 3)))) (S.nT (S.pC ahH (S.j4 G bQ (S.aP (S.eY 3))) (S.bA (S.qZ (.int 4) rfl dM.1 dM.2.1 (fun F => dM.2.2 F)))))))) (S.aM (S.bh S.fX)) S.cH)
      (S.aM (S.bh (S.wG G gO (S.aP (S.bA (S.bT (S.pJ ["stock", "thing", "side", "rules", "rule"] 4 gQ G (S.jj G (S.aJ 3)) (fun X1 h1 => by have G := G.at h1; obtain ⟨_, _, _, _, _, rfl⟩ := h1; exact (S.bF 4)) (fun X1 h1 => by have G := G.at h1; obtain ⟨_, _, _, _, _, rfl⟩ := h1; exact S.dD) (fun X1 h1 => by have G := G.at h1; obtain ⟨_, _, _, _, _, rfl⟩ := h1; exact (S.cM fQ G hr (by rfl) (S.aj (S.aJ 0) (S.aj (S.aJ 4) S.ao)) (bD (bD len0))))))))))))))))
theorem CQ : bG ["_law_cell"] ["_law_cell"] (aD iI) := kY
theorem jN (F : bL K mg "_law_mixed" iI ["_law_cell"]) : Own P w K mg base "_law_mixed" 1 ["_law_cell"] (mK K 1 dH) := by
  exact dF (k := 0) F CQ (fun f cdv A outer s H E hr G => (S.iU.u (S.aM (S.bh (S.eU ZQ (S.eZ 0 Jt (S.bA S.aL)) (S.bA (S.eU ZP S.aL (S.bA S.aL))))))))
theorem G4 : bG ["_law_script", "_law_k", "_law_found", "_law_at"] ["_law_script", "_law_k"] (aD jq) := kY
theorem lB (F : bL K mg "_law_pack" jq ["_law_script", "_law_k"]) (jN : Own P w K mg base "_law_mixed" 1 ["_law_cell"] (mK K 1 dH)) : Own P w K mg base "_law_pack" 2 ["_law_script", "_law_k"] (Wc K 2 dR) := by
  exact W3 (k := 1) F G4 (fun f cdv A outer s H E hr G => (S.iU.u (S.aC (S.dq 2 S.aL)
      (S.aC (S.rR G (S.jj G (S.bT (S.dZ (S.aj (S.eZ 1 (fZ G) (S.bA S.aL)) (S.aj (S.aJ 1) S.ao))))) (S.bF 3) (S.aM (S.dq 2 (S.eU (fZ G) (S.eZ 2 Jt (S.bA (S.eU ZP S.aL (S.bA S.aL)))) (S.bA (S.cM jN G hr (by rfl) (S.aj (S.N8 G (S.eU (fZ G) (S.VP G (S.aJ 0) (S.gW (S.aJ 3)) (S.gW (S.eZ 3 (fZ G) (S.bA S.aL)))) (S.bA (S.bT (S.dZ (S.aj (S.eU (fZ G) (S.eU Jt S.aL (S.eY 3)) (S.bA S.aL)) S.ao))))) (S.bA S.aL)) S.ao) (bD len0)))))))
      (S.aM (S.sG (S.dZ (S.aj (S.aJ 2) S.ao))))))))
theorem GZ : bG ["_law_pack_here", "_law_size", "_law_digit"] ["_law_pack_here", "_law_size"] (aD jn) := kY
theorem aR (F : bL K mg "_law_take" jn ["_law_pack_here", "_law_size"]) (vB : mg "divmod" = none) : Own P w K mg base "_law_take" 1 ["_law_pack_here", "_law_size"] (jJ K 2 aG) := by
  exact sI (k := 0) F GZ (fun f cdv A outer s H E a hr G => (S.iU.u (S.aC (S.lY (S.xO G vB (S.nH (S.gU 0 G (S.bA S.aL)) (S.aP (S.eY 1)))) (S.qd G (S.bI (S.acK 0 S.aL) (S.bI (S.bF 2) S.gj))))
      (S.aM (S.bh (S.aJ 2))))))
theorem rD : bG ["_law_pack_here", "_law_letters", "_law_at", "_law_by"] ["_law_pack_here"] (aD cC) := kY
theorem cX (F : bL K mg "_law_drawn_sounds" cC ["_law_pack_here"]) (bM : mg "range" = none) (Kw : mg "set" = none) (dz : mg "sorted" = none) (aR : Own P w K mg base "_law_take" 1 ["_law_pack_here", "_law_size"] (jJ K 2 aG)) : Own P w K mg base "_law_drawn_sounds" 2 ["_law_pack_here"] (jJ K 1 bV) := by
  exact sI (k := 1) F rD (fun f cdv A outer s H E a hr G => (S.iU.u (S.aC (S.dq 1 (S.bH [97, 98, 99, 100, 101, 102, 103, 104, 105, 106, 107, 108, 109, 110, 111, 112, 113, 114, 115, 116, 117, 118, 119, 120, 121, 122] (by decide +kernel)))
      (S.aC (S.lY (S.bf (S.aj (S.j8 0 aR G hr (by rfl) (S.aj S.aL S.ao) (gK (bD len0))) (S.aj (S.eU (fZ G) S.aL (S.bA (S.j8 0 aR G hr (by rfl) (S.aj S.aL S.ao) (gK (bD len0))))) S.ao))) (S.qd G (S.bI (S.bF 2) (S.bI (S.bF 3) S.gj))))
      (S.aM (S.bh (S.BZ G (S.bH [] (by decide +kernel)) (S.bA (S.uR G dz Kw (S.bT (S.pJ ["_law_pack_here", "_law_letters", "_law_at", "_law_by", "_law_k"] 4 gQ G (S.n6 bM (S.aj (S.eU (fZ G) S.aL (S.bA (S.j8 0 aR G hr (by rfl) (S.aj S.aL S.ao) (gK (bD len0))))) S.ao) (bD len0)) (fun X1 h1 => by have G := G.at h1; obtain ⟨_, _, _, _, _, rfl⟩ := h1; exact (S.bF 4)) (fun X1 h1 => by have G := G.at h1; obtain ⟨_, _, _, _, _, rfl⟩ := h1; exact S.dD) (fun X1 h1 => by have G := G.at h1; obtain ⟨_, _, _, _, _, rfl⟩ := h1; exact (S.gU 1 G (S.bA (S.eU ZQ (S.eZ 2 (fZ G) (S.bA (S.eZ 3 Jt (S.eY 4)))) (S.bA S.aL))))))))))))))))
theorem CK : bG ["_law_pack_here", "_law_sounds_here", "_law_known", "_law_found", "_law_sound", "_law_number", "_law_marks"] ["_law_pack_here"] (aD iD) := kY
theorem jM (F : bL K mg "_law_stock" iD ["_law_pack_here"]) (bM : mg "range" = none) (dz : mg "sorted" = none) (aY : mg "tuple" = none) (cX : Own P w K mg base "_law_drawn_sounds" 2 ["_law_pack_here"] (jJ K 1 bV)) (aR : Own P w K mg base "_law_take" 1 ["_law_pack_here", "_law_size"] (jJ K 2 aG)) : Own P w K mg base "_law_stock" 3 ["_law_pack_here"] (jJ K 1 cT) := by
  exact sI (k := 2) F CK (fun f cdv A outer s H E a hr G => (S.iU.u (S.aC (S.dq 1 (S.j8 0 cX G hr (by rfl) S.ao (gK len0)))
      (S.aC (S.dq 2 (S.bT (S.dZ (S.aj (S.bH [115, 116, 111, 112] (by decide +kernel)) (S.aj (S.bH [115, 116, 111, 112, 115] (by decide +kernel)) (S.aj (S.bH [115] (by decide +kernel)) (S.aj (S.bH [111, 112, 101, 110] (by decide +kernel)) (S.aj (S.bH [97, 98, 99, 100, 101, 102, 103, 104] (by decide +kernel)) S.ao))))))))
      (S.aC (S.Be 3 (S.dZ S.ao))
      (S.aC (S.rR G (S.jj G (S.aJ 1)) (S.bF 4) (S.aC (S.dq 5 (S.j8 0 aR G hr (by rfl) (S.aj S.aL S.ao) (gK (bD len0))))
      (S.aC (S.dq 6 (S.ud G dz (S.aP (S.bA (S.bT (S.pJ ["_law_pack_here", "_law_sounds_here", "_law_known", "_law_found", "_law_sound", "_law_number", "_law_marks", "_law_k"] 7 gQ G (S.n6 bM (S.aj S.aL S.ao) (bD len0)) (fun X1 h1 => by have G := G.at h1; obtain ⟨_, _, _, _, _, rfl⟩ := h1; exact (S.bF 7)) (fun X1 h1 => by have G := G.at h1; obtain ⟨_, _, _, _, _, rfl⟩ := h1; exact (S.nG (S.pC (Vk G) (S.eU ZS (S.eZ 5 ZM (S.eY 7)) (S.bA S.aL)) (S.bA S.aL)))) (fun X1 h1 => by have G := G.at h1; obtain ⟨_, _, _, _, _, rfl⟩ := h1; exact (S.gU 2 G (S.eY 7)))))))))
      (S.aM (S.Bf 3 G (S.bf (S.aj (S.aJ 4) (S.aj (S.j7 G aY (S.aP (S.bA (S.VP G (S.aJ 6) S.jK (S.gW S.aL))))) S.ao))))))))
      (S.aM (S.bh (S.j7 G aY (S.aP (S.eY 3)))))))))))
theorem z9 : bG ["_law_stock_here"] ["_law_stock_here"] (aD gG) := kY
theorem iY (F : bL K mg "_law_sounds" gG ["_law_stock_here"]) : Own P w K mg base "_law_sounds" 1 ["_law_stock_here"] (mK K 1 cF) := by
  exact dF (k := 0) F z9 (fun f cdv A outer s H E hr G => (S.iU.u (S.aM (S.bh (S.BZ G (S.bH [] (by decide +kernel)) (S.bA (S.bT (S.pJ ["_law_stock_here", "_law_sound", "_law_marks"] 1 gQ G (S.jj G (S.aJ 0)) (fun X1 h1 => by have G := G.at h1; obtain ⟨_, _, _, _, _, rfl⟩ := h1; exact (S.qd G (S.bI (S.bF 1) (S.bI (S.bF 2) S.gj)))) (fun X1 h1 => by have G := G.at h1; obtain ⟨_, _, _, _, _, rfl⟩ := h1; exact S.dD) (fun X1 h1 => by have G := G.at h1; obtain ⟨_, _, _, _, _, rfl⟩ := h1; exact (S.aJ 1))))))))))
theorem CN : bG ["_law_pack_here", "_law_sounds_here", "_law_number", "_law_signs_here"] ["_law_pack_here", "_law_sounds_here"] (aD iG) := kY
theorem iK (F : bL K mg "_law_signs" iG ["_law_pack_here", "_law_sounds_here"]) (bQ : mg "len" = none) (bM : mg "range" = none) (aY : mg "tuple" = none) (aR : Own P w K mg base "_law_take" 1 ["_law_pack_here", "_law_size"] (jJ K 2 aG)) : Own P w K mg base "_law_signs" 2 ["_law_pack_here", "_law_sounds_here"] (jJ K 2 cU) := by
  exact sI (k := 1) F CN (fun f cdv A outer s H E a hr G => (S.iU.u (S.aC (S.gh (S.pC (Vk G) (S.j8 0 aR G hr (by rfl) (S.aj S.aL S.ao) (gK (bD len0))) (S.bA S.aL)) (S.aM (S.bh S.fU)) S.cH)
      (S.aC (S.dq 2 (S.eU (fZ G) S.aL (S.bA (S.j8 0 aR G hr (by rfl) (S.aj (S.eU ZL (S.eU af9 S.aL (S.bA (S.j4 G bQ (S.aP (S.eY 1))))) (S.bA S.aL)) S.ao) (gK (bD len0))))))
      (S.aC (S.dq 3 (S.eU (fZ G) (S.bH [35] (by decide +kernel)) (S.eY 1)))
      (S.aM (S.bh (S.j7 G aY (S.aP (S.bA (S.bT (S.pJ ["_law_pack_here", "_law_sounds_here", "_law_number", "_law_signs_here", "_law_k"] 4 gQ G (S.n6 bM (S.aj (S.j4 G bQ (S.aP (S.eY 3))) S.ao) (bD len0)) (fun X1 h1 => by have G := G.at h1; obtain ⟨_, _, _, _, _, rfl⟩ := h1; exact (S.bF 4)) (fun X1 h1 => by have G := G.at h1; obtain ⟨_, _, _, _, _, rfl⟩ := h1; exact (S.nG (S.pC (Vk G) (S.eU ZS (S.eZ 2 ZM (S.eY 4)) (S.bA S.aL)) (S.bA S.aL)))) (fun X1 h1 => by have G := G.at h1; obtain ⟨_, _, _, _, _, rfl⟩ := h1; exact (S.gU 3 G (S.eY 4)))))))))))))))
theorem yg : bG ["_law_pack_here", "_law_sounds_here", "_law_found", "_law_turn", "_law_one", "_law_others"] ["_law_pack_here", "_law_sounds_here"] (aD fO) := kY
theorem gZ (F : bL K mg "_law_changes" fO ["_law_pack_here", "_law_sounds_here"]) (bQ : mg "len" = none) (my : mg "list" = none) (bM : mg "range" = none) (dz : mg "sorted" = none) (aY : mg "tuple" = none) (aR : Own P w K mg base "_law_take" 1 ["_law_pack_here", "_law_size"] (jJ K 2 aG)) : Own P w K mg base "_law_changes" 2 ["_law_pack_here", "_law_sounds_here"] (jJ K 2 cV) := by
  exact sI (k := 1) F yg (fun f cdv A outer s H E a hr G => (S.iU.u (S.aC (S.gh (S.pC (Vk G) (S.j8 0 aR G hr (by rfl) (S.aj S.aL S.ao) (gK (bD len0))) (S.bA S.aL)) (S.aM (S.bh (S.bf (S.aj (S.bf (S.aj (S.bH [] (by decide +kernel)) (S.aj (S.gU 1 G (S.bA (S.j8 0 aR G hr (by rfl) (S.aj (S.j4 G bQ (S.aP (S.eY 1))) S.ao) (gK (bD len0))))) S.ao))) S.ao)))) S.cH)
      (S.aC (S.Be 2 S.lg)
      (S.aC (S.rR G (S.n6 bM (S.aj (S.eU (fZ G) S.aL (S.bA (S.j8 0 aR G hr (by rfl) (S.aj S.aL S.ao) (gK (bD len0))))) S.ao) (bD len0)) (S.bF 3) (S.aC (S.dq 4 (S.gU 1 G (S.bA (S.j8 0 aR G hr (by rfl) (S.aj (S.j4 G bQ (S.aP (S.eY 1))) S.ao) (gK (bD len0))))))
      (S.aC (S.aap ["_law_pack_here", "_law_sounds_here", "_law_found", "_law_turn", "_law_one", "_law_others", "_law_sound"] 6 5 gQ G (S.jj G (S.eU (fZ G) (S.uT G my (S.aP (S.eY 1))) (S.bA (S.bT (S.dZ (S.aj (S.bH [] (by decide +kernel)) S.ao)))))) (fun X1 h1 => by have G := G.at h1; obtain ⟨_, _, _, _, _, rfl⟩ := h1; exact (S.bF 6)) (fun X1 h1 => by have G := G.at h1; obtain ⟨_, _, _, _, _, rfl⟩ := h1; exact (S.nG (S.uX 6 (adu G) (S.eY 4)))) (fun X1 h1 => by have G := G.at h1; obtain ⟨_, _, _, _, _, rfl⟩ := h1; exact (S.aJ 6)))
      (S.aM (S.J5 2 G (S.aJ 4) (S.gU 5 G (S.bA (S.j8 0 aR G hr (by rfl) (S.aj (S.j4 G bQ (S.aP (S.eY 5))) S.ao) (gK (bD len0))))))))))
      (S.aM (S.bh (S.j7 G aY (S.aP (S.bA (S.bT (S.pJ ["_law_pack_here", "_law_sounds_here", "_law_found", "_law_turn", "%4", "_law_others", "_law_one"] 6 gQ G (S.jj G (S.ud G dz (S.aP (S.eY 2)))) (fun X1 h1 => by have G := G.at h1; obtain ⟨_, _, _, _, _, rfl⟩ := h1; exact (S.bF 6)) (fun X1 h1 => by have G := G.at h1; obtain ⟨_, _, _, _, _, rfl⟩ := h1; exact S.dD) (fun X1 h1 => by have G := G.at h1; obtain ⟨_, _, _, _, _, rfl⟩ := h1; exact (S.bf (S.aj (S.aJ 6) (S.aj (S.Ca 2 G (S.eY 6)) S.ao))))))))))))))))
theorem G3 : bG ["_law_pack_here", "_law_sounds_here", "_law_how", "_law_changes_here"] ["_law_pack_here", "_law_sounds_here"] (aD jo) := kY
theorem lA (F : bL K mg "_law_rule" jo ["_law_pack_here", "_law_sounds_here"]) (gZ : Own P w K mg base "_law_changes" 2 ["_law_pack_here", "_law_sounds_here"] (jJ K 2 cV)) (iK : Own P w K mg base "_law_signs" 2 ["_law_pack_here", "_law_sounds_here"] (jJ K 2 cU)) (aR : Own P w K mg base "_law_take" 1 ["_law_pack_here", "_law_size"] (jJ K 2 aG)) : Own P w K mg base "_law_rule" 3 ["_law_pack_here", "_law_sounds_here"] (jJ K 2 fB) := by
  exact sI (k := 2) F G3 (fun f cdv A outer s H E a hr G => (S.iU.u (S.aC (S.dq 2 (S.N8 G (S.bT (S.dZ (S.aj (S.bH [111, 110, 99, 101] (by decide +kernel)) (S.aj (S.bH [97, 108, 111, 110, 103] (by decide +kernel)) S.ao)))) (S.bA (S.j8 0 aR G hr (by rfl) (S.aj S.aL S.ao) (gK (bD len0))))))
      (S.aC (S.dq 3 (S.j8 0 gZ G hr (by rfl) (S.aj (S.aJ 1) S.ao) (gK (bD len0))))
      (S.aM (S.bh (S.bf (S.aj (S.aJ 2) (S.aj (S.aJ 3) (S.aj (S.j8 0 iK G hr (by rfl) (S.aj (S.aJ 1) S.ao) (gK (bD len0))) (S.aj (S.j8 0 iK G hr (by rfl) (S.aj (S.aJ 1) S.ao) (gK (bD len0))) S.ao)))))))))))
theorem CP : bG ["_law_pack_here", "_law_sounds_here", "_law_most", "_law_side"] ["_law_pack_here", "_law_sounds_here", "_law_most"] (aD iH) := kY
theorem iQ (F : bL K mg "_law_order" iH ["_law_pack_here", "_law_sounds_here", "_law_most"]) (bM : mg "range" = none) (aY : mg "tuple" = none) (lA : Own P w K mg base "_law_rule" 3 ["_law_pack_here", "_law_sounds_here"] (jJ K 2 fB)) (aR : Own P w K mg base "_law_take" 1 ["_law_pack_here", "_law_size"] (jJ K 2 aG)) : Own P w K mg base "_law_order" 4 ["_law_pack_here", "_law_sounds_here", "_law_most"] (jJ K 3 eV) := by
  exact sI (k := 3) F CP (fun f cdv A outer s H E a hr G => (S.iU.u (S.aC (S.dq 3 (S.N8 G (S.bT (S.dZ (S.aj (S.bH [108, 101, 102, 116] (by decide +kernel)) (S.aj (S.bH [114, 105, 103, 104, 116] (by decide +kernel)) S.ao)))) (S.bA (S.j8 0 aR G hr (by rfl) (S.aj S.aL S.ao) (gK (bD len0))))))
      (S.aM (S.bh (S.bf (S.aj (S.aJ 3) (S.aj (S.j7 G aY (S.aP (S.bA (S.bT (S.pJ ["_law_pack_here", "_law_sounds_here", "_law_most", "_law_side", "_law_turn"] 4 gQ G (S.n6 bM (S.aj (S.j8 0 aR G hr (by rfl) (S.aj (S.eZ 2 (fZ G) (S.bA S.aL)) S.ao) (gK (bD len0))) S.ao) (bD len0)) (fun X1 h1 => by have G := G.at h1; obtain ⟨_, _, _, _, _, rfl⟩ := h1; exact (S.bF 4)) (fun X1 h1 => by have G := G.at h1; obtain ⟨_, _, _, _, _, rfl⟩ := h1; exact S.dD) (fun X1 h1 => by have G := G.at h1; obtain ⟨_, _, _, _, _, rfl⟩ := h1; exact (S.j8 0 lA G hr (by rfl) (S.aj (S.aJ 1) S.ao) (gK (bD len0))))))))) S.ao))))))))
theorem OD : bG ["_law_found", "_law_due"] ["_law_found", "_law_due"] (aD nD) := kY
theorem gk (F : bL K mg "_law_is" nD ["_law_found", "_law_due"]) (DP : mg "bool" = none) (aZ : mg "isinstance" = none) (qb : ∀ d : D, PySem.W.kitOne K (.type (Mq d)) (.type "bool") = some (jc d "bool")) : Own P w K mg base "_law_is" 1 ["_law_found", "_law_due"] (mK K 2 eG) := by
  exact dF (k := 0) F OD (fun f cdv A outer s H E hr G => (S.iU.u (S.aM (S.bh (S.jt (S.pI (T := "bool") rfl aZ rfl DP (by decide +kernel) qb G.K (S.aJ 0)) (S.lq (S.mJ 0 (Vk G) (S.eY 1))))))))
theorem J2 : bG ["_law_sounds_here"] ["_law_sounds_here"] (aD km) := kY
theorem iM (F : bL K mg "_law_out" km ["_law_sounds_here"]) : Own P w K mg base "_law_out" 1 ["_law_sounds_here"] (mK K 1 eF) := by
  exact dF (k := 0) F J2 (fun f cdv A outer s H E hr G => (S.iU.u (S.aM (S.bh (S.N8 G (S.bT (S.pJ ["_law_sounds_here", "_law_letter"] 1 gQ G (S.jj G (S.bH [113, 118, 109, 101, 104, 97, 98, 99, 100, 102, 103] (by decide +kernel))) (fun X1 h1 => by have G := G.at h1; obtain ⟨_, _, _, _, _, rfl⟩ := h1; exact (S.bF 1)) (fun X1 h1 => by have G := G.at h1; obtain ⟨_, _, _, _, _, rfl⟩ := h1; exact (S.nG (S.uX 1 (YH G) (S.eY 0)))) (fun X1 h1 => by have G := G.at h1; obtain ⟨_, _, _, _, _, rfl⟩ := h1; exact (S.aJ 1)))) (S.bA S.aL))))))
theorem vd : bG ["_law_order_here", "_law_sounds_here", "_law_side", "_law_rules", "_law_out_here", "_law_good", "_law_found", "_law_odd", "_law_odds"] ["_law_order_here", "_law_sounds_here"] (aD du) := kY
theorem fJ (F : bL K mg "_law_no_orders" du ["_law_order_here", "_law_sounds_here"]) (my : mg "list" = none) (iM : Own P w K mg base "_law_out" 1 ["_law_sounds_here"] (mK K 1 eF)) : Own P w K mg base "_law_no_orders" 2 ["_law_order_here", "_law_sounds_here"] (mK K 2 dB) := by
  exact dF (k := 1) F vd (fun f cdv A outer s H E hr G => (S.iU.u (S.aC (S.lY (S.aJ 0) (S.qd G (S.bI (S.bF 2) (S.bI (S.bF 3) S.gj))))
      (S.aC (S.dq 4 (S.cM iM G hr (by rfl) (S.aj (S.aJ 1) S.ao) (bD len0)))
      (S.aC (S.dq 5 (S.bf (S.aj (S.bH [111, 110, 99, 101] (by decide +kernel)) (S.aj (S.bf (S.aj (S.bf (S.aj (S.gU 1 G (S.bA S.aL)) (S.aj (S.bH [] (by decide +kernel)) S.ao))) S.ao)) (S.aj S.fU (S.aj S.fU S.ao))))))
      (S.aC (S.Be 6 (S.yG (S.aX S.fU (S.aX S.aL (S.aX S.fX (S.aX (S.bH [108, 101, 102, 116] (by decide +kernel)) (S.aX (S.bf S.ao) (S.aX (S.bT S.lg) (S.aX (S.uT G my (S.aP (S.eY 0))) (S.aX (S.bf (S.aj (S.aJ 2) S.ao)) (S.aX (S.eZ 0 (fZ G) (S.bA (S.bf (S.aj (S.bf S.ao) S.ao)))) (S.aX (S.bf (S.aj (S.aJ 0) S.ao)) (S.aX (S.aJ 3) (S.aX (S.bf (S.aj (S.aJ 3) (S.aj (S.aJ 2) S.ao))) (S.aX (S.aJ 2) S.uw)))))))))))))))
      (S.aC (S.rR G (S.jj G (S.bT (S.yG (S.aX (S.bH [] (by decide +kernel)) (S.aX (S.bH [76, 101, 102, 116] (by decide +kernel)) (S.aX (S.bH [98, 111, 116, 104] (by decide +kernel)) (S.aX (S.bH [111, 110, 99, 101] (by decide +kernel)) (S.aX S.fU (S.aX S.aL (S.aX S.fX (S.aX (S.bf (S.aj (S.bH [108, 101, 102, 116] (by decide +kernel)) S.ao)) (S.aX (S.bT (S.dZ (S.aj (S.bH [108, 101, 102, 116] (by decide +kernel)) S.ao))) (S.aX (S.bT S.lg) (S.aX (S.bT (S.dZ (S.aj (S.bT S.lg) S.ao))) S.uw)))))))))))))) (S.bF 7) (S.aM (S.Bf 6 G (S.bf (S.aj (S.aJ 7) (S.aj (S.aJ 3) S.ao))))))
      (S.aC (S.dq 8 (S.bT (S.yG (S.aX (S.uT G my (S.aP (S.eY 3))) (S.aX S.fU (S.aX (S.bH [] (by decide +kernel)) (S.aX S.aL (S.aX (S.bT S.lg) (S.aX (S.eZ 3 (fZ G) (S.bA (S.bf (S.aj S.fU S.ao)))) (S.aX (S.eZ 3 (fZ G) (S.bA (S.bf (S.aj (S.bf S.ao) S.ao)))) (S.aX (S.eU (Vm G) (S.bf (S.aj (S.aJ 5) S.ao)) (S.bA S.aL)) (S.aX (S.aJ 5) S.uw))))))))))))
      (S.aC (S.dq 8 (S.eZ 8 (fZ G) (S.bA (S.bT (S.dZ (S.aj (S.eZ 3 (fZ G) (S.bA (S.bf (S.aj (S.uT G my (S.aP (S.eY 5))) S.ao)))) S.ao))))))
      (S.aC (S.rR G (S.jj G (S.aJ 8)) (S.bF 7) (S.aM (S.Bf 6 G (S.bf (S.aj (S.aJ 2) (S.aj (S.aJ 7) S.ao))))))
      (S.aC (S.dq 8 (S.bT (S.dZ (S.aj (S.bf (S.aj (S.bH [111, 110, 99, 101] (by decide +kernel)) (S.aj (S.bf (S.aj (S.bf (S.aj (S.aJ 4) (S.aj (S.bH [] (by decide +kernel)) S.ao))) S.ao)) (S.aj S.fU (S.aj S.fU S.ao))))) (S.aj (S.bf (S.aj (S.bH [111, 110, 99, 101] (by decide +kernel)) (S.aj (S.bf (S.aj (S.bf (S.aj (S.bH [] (by decide +kernel)) (S.aj (S.gU 1 G (S.bA S.aL)) S.ao))) S.ao)) (S.aj (S.bf (S.aj (S.aJ 4) S.ao)) (S.aj S.fU S.ao))))) (S.aj (S.Gg G (S.aJ 5) S.jK (S.gW S.aL)) S.ao))))))
      (S.aC (S.dq 8 (S.eZ 8 (fZ G) (S.bA (S.bT (S.dZ (S.aj (S.eZ 5 (fZ G) (S.bA (S.bf (S.aj S.fU S.ao)))) S.ao))))))
      (S.aC (S.rR G (S.jj G (S.aJ 8)) (S.bF 7) (S.aM (S.Bf 6 G (S.bf (S.aj (S.aJ 2) (S.aj (S.eU (fZ G) (S.Gg G (S.aJ 3) S.jK (S.gW S.aL)) (S.bA (S.bf (S.aj (S.aJ 7) S.ao)))) S.ao))))))
      (S.aM (S.bh (S.aJ 6))))))))))))))))
theorem aao : bG ["_law_script", "_law_k", "_law_pack_here", "_law_stock_here", "_law_sounds_here", "_law_order_here", "_law_size", "_law_out_here", "_law_greater", "_law_small", "_law_more", "_law_good"] ["_law_script"] (aD uo) := kY
theorem ac5 {f : Addr} {fd : FuncData} (F : VN K "law" "law" uo f fd) (gO : mg "all" = none) (bQ : mg "len" = none) (Kz : mg "max" = none) (Ky : mg "min" = none) (bM : mg "range" = none) (dz : mg "sorted" = none) (aY : mg "tuple" = none) (gk : Own P w K mg base "_law_is" 1 ["_law_found", "_law_due"] (mK K 2 eG)) (fJ : Own P w K mg base "_law_no_orders" 2 ["_law_order_here", "_law_sounds_here"] (mK K 2 dB)) (iQ : Own P w K mg base "_law_order" 4 ["_law_pack_here", "_law_sounds_here", "_law_most"] (jJ K 3 eV)) (iM : Own P w K mg base "_law_out" 1 ["_law_sounds_here"] (mK K 1 eF)) (lB : Own P w K mg base "_law_pack" 2 ["_law_script", "_law_k"] (Wc K 2 dR)) (iY : Own P w K mg base "_law_sounds" 1 ["_law_stock_here"] (mK K 1 cF)) (jM : Own P w K mg base "_law_stock" 3 ["_law_pack_here"] (jJ K 1 cT)) (gm : Own P w K mg base "is_order" 5 ["stock", "thing"] (mK K 2 gC)) (fQ : Own P w K mg base "is_rule" 4 ["stock", "thing"] (mK K 2 dC)) : pA P w K mg base JB 6 f fd ["_law_script"] (mK K 1 Iv) := by
  exact Jb (k := 5) F aao (fun cdv A outer s H E hr => by
    have G := xF (P := P) (w := w) (K := K) (mg := mg) (base := base) (N := ["_law_script", "_law_k", "_law_pack_here", "_law_stock_here", "_law_sounds_here", "_law_order_here", "_law_size", "_law_out_here", "_law_greater", "_law_small", "_law_more", "_law_good"]) (outer := outer) (H := H) (E := E) (C := C0 K) rfl hr
    exact (S.iU.u (S.aC (S.rR G (S.K7 bM (S.aj S.aL (S.aj (S.QV G Kz (S.nH S.aL (S.aP (S.bA (S.QT G Ky (S.nH (S.j4 G bQ (S.aP (S.eY 0))) (S.aP (S.bA S.aL)))))))) (S.aj S.aL S.ao))) (bD (bD (bD len0)))) (S.bF 1) (S.aC (S.Be 2 (S.Su lB G hr (by rfl) (S.aj (S.aJ 0) (S.aj (S.aJ 1) S.ao)) (bD (bD len0))))
      (S.aC (S.dq 3 (S.j8 2 jM G hr (by rfl) S.ao (gK len0)))
      (S.aC (S.dq 4 (S.cM iY G hr (by rfl) (S.aj (S.aJ 3) S.ao) (bD len0)))
      (S.aC (S.dq 5 (S.j8 2 iQ G hr (by rfl) (S.aj (S.aJ 4) (S.aj S.aL S.ao)) (gK (bD (bD len0)))))
      (S.aC (S.rR G (S.n6 bM (S.aj (S.eU (fZ G) (S.j4 G bQ (S.aP (S.bA (S.gU 5 G (S.bA S.aL))))) (S.bA S.aL)) S.ao) (bD len0)) (S.bF 6) (S.aM (S.gh (S.fW (S.fj (S.cM gk G hr (by rfl) (S.aj (S.cM gm G hr (by rfl) (S.aj (S.aJ 3) (S.aj (S.bf (S.aj (S.gU 5 G (S.bA S.aL)) (S.aj (S.Mp G (S.gU 5 G (S.bA S.aL)) S.jK (S.gW (S.aJ 6))) S.ao))) S.ao)) (bD (bD len0))) (S.aj S.fX S.ao)) (bD (bD len0))))) (S.aM (S.bh S.fX)) S.cH)))
      (S.aC (S.gh (S.fW (S.fj (S.wG G gO (S.aP (S.bA (S.bT (S.pJ ["_law_script", "_law_k", "_law_pack_here", "_law_stock_here", "_law_sounds_here", "_law_order_here", "_law_size", "_law_out_here", "_law_greater", "_law_small", "_law_more", "_law_good", "_law_thing"] 12 gQ G (S.jj G (S.cM fJ G hr (by rfl) (S.aj (S.aJ 5) (S.aj (S.aJ 4) S.ao)) (bD (bD len0)))) (fun X1 h1 => by have G := G.at h1; obtain ⟨_, _, _, _, _, rfl⟩ := h1; exact (S.bF 12)) (fun X1 h1 => by have G := G.at h1; obtain ⟨_, _, _, _, _, rfl⟩ := h1; exact S.dD) (fun X1 h1 => by have G := G.at h1; obtain ⟨_, _, _, _, _, rfl⟩ := h1; exact (S.cM gk G hr (by rfl) (S.aj (S.cM gm G hr (by rfl) (S.aj (S.aJ 3) (S.aj (S.aJ 12) S.ao)) (bD (bD len0))) (S.aj S.fX S.ao)) (bD (bD len0))))))))))) (S.aM (S.bh S.fX)) S.cH)
      (S.aC (S.dq 7 (S.cM iM G hr (by rfl) (S.aj (S.aJ 4) S.ao) (bD len0)))
      (S.aC (S.dq 8 (S.j7 G aY (S.aP (S.bA (S.BX G dz (S.aP (S.bA (S.eU (fZ G) (S.Mp G (S.aJ 3) S.jK (S.gW S.aL)) (S.bA (S.bf (S.aj (S.bf (S.aj (S.aJ 7) (S.aj (S.bf S.ao) S.ao))) S.ao)))))))))))
      (S.aC (S.dq 9 (S.j8 2 iQ G hr (by rfl) (S.aj (S.Gg G (S.aJ 4) S.jK (S.gW S.aL)) (S.aj S.aL S.ao)) (gK (bD (bD len0)))))
      (S.aC (S.gh (S.fW (S.fj (S.cM gk G hr (by rfl) (S.aj (S.cM gm G hr (by rfl) (S.aj (S.aJ 8) (S.aj (S.aJ 9) S.ao)) (bD (bD len0))) (S.aj S.fX S.ao)) (bD (bD len0))))) (S.aM (S.bh S.fX)) S.cH)
      (S.aC (S.gh (S.fW (S.fj (S.wG G gO (S.aP (S.bA (S.bT (S.pJ ["_law_script", "_law_k", "_law_pack_here", "_law_stock_here", "_law_sounds_here", "_law_order_here", "_law_size", "_law_out_here", "_law_greater", "_law_small", "_law_more", "_law_good", "_law_rule_here"] 12 gQ G (S.jj G (S.gU 9 G (S.bA S.aL))) (fun X1 h1 => by have G := G.at h1; obtain ⟨_, _, _, _, _, rfl⟩ := h1; exact (S.bF 12)) (fun X1 h1 => by have G := G.at h1; obtain ⟨_, _, _, _, _, rfl⟩ := h1; exact S.dD) (fun X1 h1 => by have G := G.at h1; obtain ⟨_, _, _, _, _, rfl⟩ := h1; exact (S.cM gk G hr (by rfl) (S.aj (S.cM fQ G hr (by rfl) (S.aj (S.aJ 8) (S.aj (S.aJ 12) S.ao)) (bD (bD len0))) (S.aj S.fX S.ao)) (bD (bD len0))))))))))) (S.aM (S.bh S.fX)) S.cH)
      (S.aC (S.dq 10 (S.bf (S.aj (S.bH [111, 110, 99, 101] (by decide +kernel)) (S.aj (S.bf (S.aj (S.bf (S.aj (S.aJ 7) (S.aj (S.gU 4 G (S.bA S.aL)) S.ao))) S.ao)) (S.aj S.fU (S.aj S.fU S.ao))))))
      (S.aM (S.gh (S.wF (S.pH (S.fW (S.fj (S.cM gk G hr (by rfl) (S.aj (S.cM fQ G hr (by rfl) (S.aj (S.aJ 8) (S.aj (S.aJ 10) S.ao)) (bD (bD len0))) (S.aj S.fX S.ao)) (bD (bD len0))))) (S.nT (S.fW (S.fj (S.cM gk G hr (by rfl) (S.aj (S.cM fQ G hr (by rfl) (S.aj (S.aJ 3) (S.aj (S.aJ 10) S.ao)) (bD (bD len0))) (S.aj S.fX S.ao)) (bD (bD len0)))))))) (S.aM (S.bh S.fX)) S.cH)))))))))))))))
      (S.aC (S.dq 11 (S.bf (S.aj (S.bH [111, 110, 99, 101] (by decide +kernel)) (S.aj (S.bf (S.aj (S.bf (S.aj (S.bH [97] (by decide +kernel)) (S.aj (S.bH [] (by decide +kernel)) S.ao))) S.ao)) (S.aj S.fU (S.aj S.fU S.ao))))))
      (S.aM (S.bh (S.cM gk G hr (by rfl) (S.aj (S.cM gm G hr (by rfl) (S.aj (S.bf (S.aj (S.bf (S.aj (S.bH [97] (by decide +kernel)) (S.aj (S.bf S.ao) S.ao))) S.ao)) (S.aj (S.bf (S.aj (S.bH [108, 101, 102, 116] (by decide +kernel)) (S.aj (S.eU (Vm G) (S.bf (S.aj (S.aJ 11) S.ao)) (S.bA S.aL)) S.ao))) S.ao)) (bD (bD len0))) (S.aj S.fX S.ao)) (bD (bD len0)))))))))
end
end wZ
namespace QD
open Ev
def gF : bN := wZ.gF
def dH : List D → Option D := gb 1 gF
def fH : bN := aK (bj (aN (.int 0)) (au 2)) (aK (ji (ig (cJ (aa (aA bU 1 (aN (.int 1))) (aa (az 1) (ak))))) (au 3) (bj (aF bU (aA lU 2 (aF Lb (aN (.int 10)) (aN (.int 60)))) (aq dH (aa (aF jk (aF bU (vU (az 0) (za (az 3)) (za (aA bU 3 (aN (.int 1))))) (cJ (aa (aF bU (aF lU (aN (.int 7919)) (bw 3)) (aN (.int 61))) (ak)))) (aN (.int 0))) (ak)))) (au 2))) (pF (cJ (aa (az 2) (ak)))))
def dR : List D → Option D := runN 4 fH
def fD : bN := aK (bj (aq mz (aa (aA jk 0 (aN (.int 0))) (aa (bw 1) ak))) (fL 2 (bu (HY 0 (aN (.int 0))) (bu (au 2) (gw))))) (aV (az 2))
def aG : List D → Option (D × D) := gf 3 fD
end QD
namespace QD
open Ev PySem L2
theorem jD {i : Int} {b : Nat} (h : i.natAbs < 2 ^ b) : Builtin.Int.intBits i ≤ b := by
  unfold Builtin.Int.intBits
  split
  · exact Nat.zero_le _
  · rename_i h0
    have hz : i.natAbs ≠ 0 := fun z => h0 (by rw [Int.natAbs_eq_zero.mp z]; rfl)
    exact (Nat.log2_lt hz).mpr h
theorem jx {i j : Int} {a b : Nat} (h1 : Builtin.Int.intBits i ≤ a) (h2 : Builtin.Int.intBits j ≤ b) (h : a + b ≤ 134217728) : iZ i j = true :=
  decide_eq_true (by omega)
def KD (i : Int) : Int := i * 262406895267124108351839057402211873468251940277165213587343 % 10 ^ 60
theorem Xg (i : Int) : (KD i).natAbs < 2 ^ 200 := by
  unfold KD
  have h1 : 0 ≤ i * 262406895267124108351839057402211873468251940277165213587343 % 10 ^ 60 := Int.emod_nonneg _ (by decide)
  have h2 : i * 262406895267124108351839057402211873468251940277165213587343 % 10 ^ 60 < 10 ^ 60 := Int.emod_lt_of_pos _ (by decide)
  have h3 : (10 : Int) ^ 60 ≤ 2 ^ 200 := by decide
  omega
theorem mixed {i : Int} (h : Builtin.Int.intBits i ≤ 2 ^ 20) : dH [.int i] = some (.int (KD i)) := by
  have hm : iZ i 262406895267124108351839057402211873468251940277165213587343 = true := jx h (jD (b := 198) (by decide)) (by decide)
  have e1 : aA lU 0 (aN (.int 262406895267124108351839057402211873468251940277165213587343)) [some (false, .int i)] = .ok (.int (i * 262406895267124108351839057402211873468251940277165213587343)) [some (false, .int i)] := by
    show cY (gI iZ (fun i j => D.int (i * j)) (.int i) (.int _)) _ = _
    unfold gI
    simp only
    rw [if_pos hm]
    rfl
  show (match aV _ [some (false, .int i)] with | .rt false d _ => some d | .nx _ => some .non | _ => none) = _
  rw [xU (d := .int (KD i)) (e := [some (false, .int i)])]
  unfold aF
  rw [e1]
  rfl
theorem YB {α : Type} {xs : List α} {lo hi : Option Int} {x : α} (h : x ∈ cutD xs lo hi) : x ∈ xs := List.mem_of_mem_drop (List.mem_of_mem_take h)
theorem zK {α : Type} (x : α) (r : List α) : pq (x :: r) 0 = some x := oU (j := 0) rfl
def lz : bN := bj (aF bU (aA lU 2 (aF Lb (aN (.int 10)) (aN (.int 60)))) (aq dH (aa (aF jk (aF bU (vU (az 0) (za (az 3)) (za (aA bU 3 (aN (.int 1))))) (cJ (aa (aF bU (aF lU (aN (.int 7919)) (bw 3)) (aN (.int 61))) (ak)))) (aN (.int 0))) (ak)))) (au 2)
theorem Bm (ns : List Int) (hl : ns.length ≤ 63) (hb : Mm ns) (k a f : Int) (ha : a.natAbs < 2 ^ 10) (hf : Builtin.Int.intBits f ≤ 2 ^ 20) :
    ∃ f' : Int, lz [some (false, .arr (ns.map .int)), some (false, .int k), some (false, .int f), some (false, .int a)] = .nx [some (false, .arr (ns.map .int)), some (false, .int k), some (false, .int f'), some (false, .int a)] ∧ (f = 0 → f'.natAbs < 2 ^ 200) := by
  generalize hE : ([some (false, .arr (ns.map .int)), some (false, .int k), some (false, .int f), some (false, .int a)] : Ev.Env) = env
  have m1 : iZ 7919 a = true := jx (a := 20) (b := 10) (jD (by decide)) (jD ha) (by decide)
  have m2 : iZ f (10 ^ (60 : Int).toNat) = true := jx (b := 200) hf (jD (by decide)) (by decide)
  have e1 : vU (az 0) (za (az 3)) (za (aA bU 3 (aN (.int 1)))) env = .ok (.lst (cutD (ns.map .int) (some a) (some (a + 1)))) env := by rw [← hE]; rfl
  have e2 : cJ (aa (aF bU (aF lU (aN (.int 7919)) (bw 3)) (aN (.int 61))) (ak)) env = .ok (.lst [.int (7919 * a + 61)]) env := by
    refine Uv (jA (jO (jO (x := .int 7919) (y := .int a) (e1 := env) (e2 := env) rfl (by rw [← hE]; rfl) (Ep m1)) (y := .int 61) rfl rfl) zc) (by show 1 ≤ sizeLine; decide)
  generalize hL : cutD (ns.map D.int) (some a) (some (a + 1)) = L at e1
  have hLl : L.length ≤ 63 := by
    rw [← hL]; exact Nat.le_trans (qw _ _ _) (by rw [List.length_map]; exact hl)
  have e3 : aF bU (vU (az 0) (za (az 3)) (za (aA bU 3 (aN (.int 1))))) (cJ (aa (aF bU (aF lU (aN (.int 7919)) (bw 3)) (aN (.int 61))) (ak))) env = .ok (.lst (L ++ [.int (7919 * a + 61)])) env := by
    exact jO e1 e2 (Up (by show L.length + 1 ≤ sizeLine; exact Nat.le_trans (Nat.succ_le_succ hLl) (by decide)))
  obtain ⟨c, hc, hcb⟩ : ∃ c : Int, pq (L ++ [.int (7919 * a + 61)]) 0 = some (.int c) ∧ Builtin.Int.intBits c ≤ 2 ^ 20 := by
    cases hLc : L with
    | nil =>
      refine ⟨7919 * a + 61, rfl, Nat.le_trans (jD (b := 30) ?_) (by decide)⟩
      omega
    | cons y r =>
      have hy : y ∈ ns.map D.int := YB (lo := some a) (hi := some (a + 1)) (by rw [hL, hLc]; exact List.mem_cons_self ..)
      obtain ⟨i, hi, rfl⟩ := List.mem_map.mp hy
      exact ⟨i, zK _ _, hb i hi⟩
  have e4 : aq dH (aa (aF jk (aF bU (vU (az 0) (za (az 3)) (za (aA bU 3 (aN (.int 1))))) (cJ (aa (aF bU (aF lU (aN (.int 7919)) (bw 3)) (aN (.int 61))) (ak)))) (aN (.int 0))) (ak)) env = .ok (.int (KD c)) env := by
    exact vV (jA (jO (y := .int 0) e3 rfl hc) zc) (mixed hcb)
  refine ⟨f * 10 ^ (60 : Int).toNat + KD c, ?_, fun h0 => ?_⟩
  · unfold lz
    refine Gz (d := .int (f * 10 ^ (60 : Int).toNat + KD c)) (e := env) ?_ (by rw [← hE]; rfl)
    have e5 : aA lU 2 (aF Lb (aN (.int 10)) (aN (.int 60))) env = .ok (.int (f * 10 ^ (60 : Int).toNat)) env := by
      rw [← hE]
      exact rn (o := false) (o' := false) (x := .int f) (x0 := .int f) rfl rfl rfl (Ep m2)
    exact jO e5 e4 rfl
  · rw [h0, Int.zero_mul, Int.zero_add]
    exact Xg c
theorem pack (ns : List Int) (hl : ns.length ≤ 63) (hb : Mm ns) (k : Int) (h0 : 0 ≤ k) (h1 : k ≤ 500) : ∃ p : Int, dR [.arr (ns.map .int), .int k] = some (.lst [.int p]) := by
  obtain ⟨f1, e1, b1⟩ := Bm ns hl hb k (k + 1) 0 (by omega) (by decide)
  obtain ⟨f2, e2, _⟩ := Bm ns hl hb k k f1 (by omega) (Nat.le_trans (jD (b1 rfl)) (by decide))
  refine ⟨f2, ?_⟩
  have h : fH [some (false, .arr (ns.map .int)), some (false, .int k), none, none] = .rt true (.lst [.int f2]) [some (false, .arr (ns.map .int)), some (false, .int k), some (false, .int f2), some (false, .int k)] := by
    unfold fH
    refine (gV (e := [some (false, .arr (ns.map .int)), some (false, .int k), some (false, .int 0), none]) (by rfl)).trans ?_
    refine (gV (e := [some (false, .arr (ns.map .int)), some (false, .int k), some (false, .int f2), some (false, .int k)]) ?_).trans rfl
    refine (xV (ds := [.int (k + 1), .int k]) (e := [some (false, .arr (ns.map .int)), some (false, .int k), some (false, .int 0), none]) (by rfl)).trans ?_
    show iy (au 3) lz [.int (k + 1), .int k] _ = _
    unfold iy
    show (match lz [some (false, .arr (ns.map .int)), some (false, .int k), some (false, .int 0), some (false, .int (k + 1))] with | .nx e2 => iy (au 3) lz [.int k] e2 | .ct e2 => _ | .bk e2 => _ | .rt o d e2 => _ | .stuck => _) = _
    rw [e1]
    simp only
    unfold iy
    show (match lz [some (false, .arr (ns.map .int)), some (false, .int k), some (false, .int f1), some (false, .int k)] with | .nx e2 => iy (au 3) lz [] e2 | .ct e2 => _ | .bk e2 => _ | .rt o d e2 => _ | .stuck => _) = _
    rw [e2]
    rfl
  show (match fH _ with | .rt true d _ => some d | _ => none) = _
  have e : envOf 4 [D.arr (ns.map .int), .int k] = [some (false, .arr (ns.map .int)), some (false, .int k), none, none] := rfl
  rw [e, h]
def known : D := .lst [.str [115, 116, 111, 112], .str [115, 116, 111, 112, 115], .str [115], .str [111, 112, 101, 110], .str [97, 98, 99, 100, 101, 102, 103, 104]]
def qU : bN := bj (aq je (aa (dW 7 8 (eN (aa (aN (.int 5)) (ak))) (au 7) (jC (aF Im (aF Es (aA Ag 5 (bw 7)) (aN (.int 1))) (aN (.int 1)))) (aA jk 2 (bw 7))) ak)) (au 6)
def mk (d : Nat) : D := match qU [none, none, some (false, known), none, none, some (false, .int d), none] with
  | .nx e => (match e[6]? with | some (some (_, z)) => z | _ => .non)
  | _ => .non
def AllB (P : Nat → Prop) : Nat → Prop
  | 0 => True
  | n + 1 => AllB P n ∧ P n
theorem Vp {P : Nat → Prop} : ∀ {n : Nat}, AllB P n → ∀ d, d < n → P d
  | 0, _, d, h => absurd h (Nat.not_lt_zero d)
  | n + 1, ⟨a, b⟩, d, h => by
    by_cases e : d = n
    · subst e; exact b
    · exact Vp a d (by omega)
theorem marks (d : Nat) (hd : d < 32) (a b c e f : Option (Bool × D)) : qU [a, b, some (false, known), c, e, some (false, .int d), f] = .nx [a, b, some (false, known), c, e, some (false, .int d), some (false, mk d)] := by
  refine Vp (P := fun d => qU [a, b, some (false, known), c, e, some (false, .int (d : Nat)), f] = .nx [a, b, some (false, known), c, e, some (false, .int (d : Nat)), some (false, mk d)]) (n := 32) ?_ d hd
  refine ⟨⟨⟨⟨⟨⟨⟨⟨⟨⟨⟨⟨⟨⟨⟨⟨⟨⟨⟨⟨⟨⟨⟨⟨⟨⟨⟨⟨⟨⟨⟨⟨trivial, ?_⟩, ?_⟩, ?_⟩, ?_⟩, ?_⟩, ?_⟩, ?_⟩, ?_⟩, ?_⟩, ?_⟩, ?_⟩, ?_⟩, ?_⟩, ?_⟩, ?_⟩, ?_⟩, ?_⟩, ?_⟩, ?_⟩, ?_⟩, ?_⟩, ?_⟩, ?_⟩, ?_⟩, ?_⟩, ?_⟩, ?_⟩, ?_⟩, ?_⟩, ?_⟩, ?_⟩, ?_⟩ <;> kernel_rfl
theorem xW {i : Nat} {a : Ev} {env e : Ev.Env} {d : D} {xs x0 : List D} (h0 : env[i]? = some (some (true, .lst x0))) (h1 : a env = .ok d e) (h2 : e[i]? = some (some (true, .lst xs))) (hz : xs.length < sizeLine) : nA i a env = .nx (e.set i (some (true, .lst (xs ++ [d])))) := by
  unfold nA
  rw [h0]
  show dm (a env) _ = _
  rw [h1]
  show (match e[i]? with | some (some (true, .lst xs)) => if xs.length < sizeLine then Out.nx (e.set i (some (true, .lst (xs ++ [d])))) else .stuck | _ => .stuck) = _
  rw [h2]
  show (if xs.length < sizeLine then _ else _) = _
  rw [if_pos hz]
def kj : bN := aK (bj (cP aG 0 (aa (aN (.int 32)) (ak))) (au 5)) (aK qU (nA 3 (bC (aa (az 4) (aa (aq dN (aa (vU (az 6) (qu) (za (aN (.int 4)))) ak)) (ak))))))
end QD
namespace QD
open Ev PySem L2
def M (x : List Nat) : Nat := 2 * 2 ^ x.length - 1
def aam : bN := aK (bj (aF bU (aN (.str [35])) (bw 1)) (au 3)) (aV (aq dN (aa (dW 4 5 (eN (aa (aq dG (aa (bw 3) ak)) (ak))) (au 4) (jC (aF Im (aF Es (aA Ag 2 (bw 4)) (aN (.int 1))) (aN (.int 1)))) (aA jk 3 (bw 4))) ak)))
def sgR (x : List Nat) (d : Nat) : D := match aam [none, some (false, .str x), some (false, .int (1 + (d : Int))), none] with
  | .rt _ r _ => r
  | _ => .non
def SG (x : List Nat) : List D := .non :: (List.range (M x)).map (sgR x)
end QD
namespace QD
open Ev PySem L2
def oth (x : List Nat) (c : Nat) : List D := ((x.map (fun a => [a]) ++ [[]]).filter fun z => z != [c]).map .str
def PV (x : List Nat) : List (Nat × D) := x.flatMap fun c => (oth x c).map fun v => (c, v)
def O4 (kvs : List (D × D)) (p : Nat × D) : List (D × D) := putD kvs (.str [p.1]) (.inr (strOf [p.1])) p.2
structure Ar (x : List Nat) (kvs : List (D × D)) (zs : List Nat) : Prop where
  keys : kvs.map (·.1) = zs.map fun c => D.str [c]
  nd : zs.Nodup
  mem : ∀ c ∈ zs, c ∈ x
  vals : ∀ k v, (k, v) ∈ kvs → ∃ c, k = .str [c] ∧ (c, v) ∈ PV x
theorem qT {a b : List Nat} (h : strOf a = strOf b) : a = b := by
  have := congrArg (fun s : Str => s.cps.toList) h
  simpa [strOf] using this
theorem u9 (q : Key) (d : D) : ∀ kvs : List (D × D), (xm kvs q d).map (·.1) = kvs.map (·.1)
  | [] => rfl
  | (k, e) :: r => by
    unfold xm
    rw [List.map_cons, List.map_cons, u9 q d r]
    split <;> rfl
theorem GQ {q : Key} {d : D} : ∀ {kvs : List (D × D)} {k v : D}, (k, v) ∈ xm kvs q d → (k, v) ∈ kvs ∨ (vH k = some q ∧ v = d)
  | [], _, _, h => by simp [xm] at h
  | (k', e) :: r, k, v, h => by
    unfold xm at h
    rcases List.mem_cons.mp h with h | h
    · split at h
      · rename_i hk
        cases h
        exact .inr ⟨hk, rfl⟩
      · cases h
        exact .inl (List.mem_cons_self ..)
    · rcases GQ h with h | h
      · exact .inl (List.mem_cons_of_mem _ h)
      · exact .inr h
theorem uV {q : Key} : ∀ {kvs : List (D × D)}, uW kvs q = none → ∀ k v, (k, v) ∈ kvs → vH k ≠ some q
  | [], _, k, v, hm => by simp at hm
  | (k', e) :: r, h, k, v, hm => by
    unfold uW at h
    split at h
    · cases h
    · rename_i hk
      rcases List.mem_cons.mp hm with hm | hm
      · cases hm; exact hk
      · exact uV h k v hm
theorem uU {q : Key} {d : D} : ∀ {kvs : List (D × D)}, uW kvs q = some d → ∃ k, (k, d) ∈ kvs ∧ vH k = some q
  | [], h => by simp [uW] at h
  | (k', e) :: r, h => by
    unfold uW at h
    split at h
    · rename_i hk
      cases h
      exact ⟨k', List.mem_cons_self .., hk⟩
    · obtain ⟨k, h1, h2⟩ := uU h
      exact ⟨k, List.mem_cons_of_mem _ h1, h2⟩
theorem Ar.put {x : List Nat} {kvs : List (D × D)} {zs : List Nat} (h : Ar x kvs zs) {p : Nat × D} (hp : p ∈ PV x) (hx : p.1 ∈ x) : ∃ Z7, Ar x (O4 kvs p) Z7 ∧ 0 < Z7.length ∧ Z7.length ≤ zs.length + 1 := by
  unfold O4 putD
  cases e : uW kvs (.inr (strOf [p.1])) with
  | none =>
    simp only [Option.isSome_none, Bool.false_eq_true, if_false]
    refine ⟨zs ++ [p.1], ⟨?_, ?_, fun c hc => ?_, fun k v hm => ?_⟩, by simp, by simp⟩
    · rw [List.map_append, List.map_append, h.keys]; rfl
    · refine List.nodup_append.mpr ⟨h.nd, List.nodup_cons.mpr ⟨List.not_mem_nil, .nil⟩, fun a ha b hb => ?_⟩
      rcases List.mem_singleton.mp hb with rfl
      rintro rfl
      have hm : D.str [p.1] ∈ kvs.map (·.1) := by rw [h.keys]; exact List.mem_map.mpr ⟨p.1, ha, rfl⟩
      obtain ⟨⟨k, v⟩, h1, h2⟩ := List.mem_map.mp hm
      have h2' : k = .str [p.1] := h2
      subst h2'
      exact uV e _ _ h1 rfl
    · rcases List.mem_append.mp hc with hc | hc
      · exact h.mem c hc
      · rw [List.mem_singleton.mp hc]; exact hx
    · rcases List.mem_append.mp hm with hm | hm
      · exact h.vals k v hm
      · have := List.mem_singleton.mp hm
        cases this
        exact ⟨p.1, rfl, hp⟩
  | some w =>
    simp only [Option.isSome_some, if_true]
    obtain ⟨k0, hk0, _⟩ := uU e
    have hne : 0 < zs.length := by
      have := congrArg List.length h.keys
      rw [List.length_map, List.length_map] at this
      rw [← this]
      exact List.length_pos_of_mem hk0
    refine ⟨zs, ⟨by rw [u9]; exact h.keys, h.nd, h.mem, fun k v hm => ?_⟩, hne, Nat.le_succ _⟩
    rcases GQ hm with hm | ⟨hk, rfl⟩
    · exact h.vals k v hm
    · have hin : k ∈ (xm kvs (.inr (strOf [p.1])) p.2).map (·.1) := List.mem_map.mpr ⟨_, hm, rfl⟩
      rw [u9, h.keys] at hin
      obtain ⟨c, hc, rfl⟩ := List.mem_map.mp hin
      have : strOf [c] = strOf [p.1] := by
        have := Option.some.inj hk
        exact Sum.inr.inj this
      have e2 := qT this
      cases e2
      exact ⟨p.1, rfl, hp⟩
theorem Oo (zs : List (List Nat)) : bZ (zs.map D.str) = some zs := by
  induction zs with
  | nil => rfl
  | cons z r ih =>
    rw [List.map_cons]
    unfold bZ
    rw [ih]
    rfl
theorem Bd {x : List Nat} {kvs : List (D × D)} {zs : List Nat} (h : Ar x kvs zs) (h4 : zs.length ≤ 3) : je [.dct kvs] = some (.lst ((cB (zs.map fun c => [c])).map .str)) := by
  have e : kvs.map (·.1) = (zs.map fun c => [c]).map D.str := by rw [h.keys, List.map_map]; rfl
  show (bZ (kvs.map (·.1))).bind _ = _
  rw [e, Oo]
  show (if _ then _ else _) = _
  rw [if_pos]
  refine ⟨by rw [List.length_map]; omega, fun z hz => ?_⟩
  obtain ⟨c, _, rfl⟩ := List.mem_map.mp hz
  show 1 ≤ sizeLine
  decide
def prs (kvs : List (D × D)) (ks : List D) : List D := ks.map fun k => .tup [k, (rT (.dct kvs) k).getD .non]
theorem DY {x : List Nat} {kvs : List (D × D)} {zs : List Nat} (h : Ar x kvs zs) (k : D) (hk : k ∈ (cB (zs.map fun c => [c])).map D.str) : ∃ c v, k = .str [c] ∧ rT (.dct kvs) k = some v ∧ (c, v) ∈ PV x := by
  obtain ⟨z, hz, rfl⟩ := List.mem_map.mp hk
  obtain ⟨c, hc, rfl⟩ := List.mem_map.mp ((fc _).mem_iff.mp hz)
  have hm : D.str [c] ∈ kvs.map (·.1) := by rw [h.keys]; exact List.mem_map.mpr ⟨c, hc, rfl⟩
  obtain ⟨⟨k, v⟩, h1, h2⟩ := List.mem_map.mp hm
  have h2' : k = .str [c] := h2
  subst h2'
  cases e : uW kvs (.inr (strOf [c])) with
  | none => exact absurd rfl (uV e _ _ h1)
  | some w =>
    obtain ⟨k', h3, h4⟩ := uU e
    obtain ⟨c', rfl, h5⟩ := h.vals k' w h3
    have e2 : strOf [c'] = strOf [c] := Sum.inr.inj (Option.some.inj h4)
    cases qT e2
    exact ⟨c, w, rfl, e, h5⟩
end QD
namespace K20
open Ev PySem L2
theorem SM {g : GV} {e : Ev} (P : Ev.Env → Prop) (R : D → Prop) : ∀ (ds : List D) (env : Ev.Env), P env → (∀ d ∈ ds, ∀ env, P env → ∃ y e1 e2, g d env = some e1 ∧ e e1 = .ok y e2 ∧ P e2 ∧ R y) → ∃ ys env', zV g bW e ds env = .ok ys env' ∧ P env' ∧ (∀ y ∈ ys, R y) ∧ ys.length = ds.length
  | [], env, hp, _ => ⟨[], env, rfl, hp, fun y hy => by simp at hy, rfl⟩
  | d :: ds, env, hp, h => by
    obtain ⟨y, e1, e2, h1, h2, h3, h4⟩ := h d (List.mem_cons_self ..) env hp
    obtain ⟨ys, e3, h5, h6, h7, h8⟩ := SM P R ds e2 h3 fun d' hd => h d' (List.mem_cons_of_mem _ hd)
    refine ⟨y :: ys, e3, ?_, h6, fun z hz => ?_, by rw [List.length_cons, List.length_cons, h8]⟩
    · unfold zV
      rw [h1]
      show bindR (e e1) _ = _
      rw [h2]
      show bindR (zV g bW e ds e2) _ = _
      rw [h5]
      rfl
    · rcases List.mem_cons.mp hz with rfl | hz
      · exact h4
      · exact h7 z hz
def texts (x : List Nat) : List (List Nat) := [[], [x.headD 0], [x.getLastD 0], [x.headD 0, x.headD 0], [x.headD 0, x.getLastD 0]]
end K20
namespace Gd
open Ev
def fD : bN := wZ.fD
def aG : List D → Option (D × D) := gf 3 fD
def bY : bN := aK (bj (aN (.str [97, 98, 99, 100, 101, 102, 103, 104, 105, 106, 107, 108, 109, 110, 111, 112, 113, 114, 115, 116, 117, 118, 119, 120, 121, 122])) (au 1)) (aK (bj (bC (aa (cP aG 0 (aa (aN (.int 26)) (ak))) (aa (aF bU (aN (.int 1)) (cP aG 0 (aa (aN (.int 25)) (ak)))) (ak)))) (fL 2 (bu (au 2) (bu (au 3) (gw))))) (aV (aF qe (aN (.str [])) (oK lG (dW 4 5 (eN (aa (aF bU (aN (.int 1)) (cP aG 0 (aa (aN (.int 4)) (ak)))) (ak))) (au 4) (bW) (aA jk 1 (aF Ld (aA bU 2 (aA lU 3 (bw 4))) (aN (.int 26)))))))))
def bV : List D → Option (D × D) := gf 4 bY
def gD : bN := aK (bj (cP bV 0 (ak)) (au 1)) (aK (bj (cJ (aa (aN (.str [115, 116, 111, 112])) (aa (aN (.str [115, 116, 111, 112, 115])) (aa (aN (.str [115])) (aa (aN (.str [111, 112, 101, 110])) (aa (aN (.str [97, 98, 99, 100, 101, 102, 103, 104])) (ak))))))) (au 2)) (aK (kO 3 (cJ (ak))) (aK (ji (ig (az 1)) (au 4) (aK (bj (cP aG 0 (aa (aN (.int 32)) (ak))) (au 5)) (aK (bj (aq je (aa (dW 7 8 (eN (aa (aN (.int 5)) (ak))) (au 7) (jC (aF Im (aF Es (aA Ag 5 (bw 7)) (aN (.int 1))) (aN (.int 1)))) (aA jk 2 (bw 7))) ak)) (au 6)) (nA 3 (bC (aa (az 4) (aa (aq dN (aa (vU (az 6) (qu) (za (aN (.int 4)))) ak)) (ak)))))))) (aV (aq dN (aa (bw 3) ak))))))
def cT : List D → Option (D × D) := gf 7 gD
def fG : bN := aV (aF qe (aN (.str [])) (dW 1 3 (ig (az 0)) (fL 2 (bu (au 1) (bu (au 2) (gw)))) (bW) (az 1)))
def cF : List D → Option D := gb 1 fG
end Gd
namespace Gd
open Ev PySem L2
open QD (jx jD zK known qU mk marks kj xW)
theorem lcE {α : Type} {g : GV} {e : Ev} (P : Ev.Env → Prop) (enc out : α → D) : ∀ (l : List α) (env : Ev.Env), P env → (∀ a ∈ l, ∀ env, P env → ∃ e1 e2, g (enc a) env = some e1 ∧ e e1 = .ok (out a) e2 ∧ P e2) → ∃ env', zV g bW e (l.map enc) env = .ok (l.map out) env' ∧ P env'
  | [], env, hp, _ => ⟨env, rfl, hp⟩
  | d :: ds, env, hp, h => by
    obtain ⟨e1, e2, h1, h2, h3⟩ := h d (List.mem_cons_self ..) env hp
    obtain ⟨e3, h4, h5⟩ := lcE P enc out ds e2 h3 fun d' hd => h d' (List.mem_cons_of_mem _ hd)
    refine ⟨e3, ?_, h5⟩
    rw [List.map_cons]
    unfold zV
    rw [h1]
    show bindR (e e1) _ = _
    rw [h2]
    show bindR (zV g bW e (ds.map enc) e2) _ = _
    rw [h4]
    rfl
theorem Gx : ∀ {ds : List D} {zs : List (List Nat)}, bZ ds = some zs → ds = zs.map .str
  | [], zs, h => by simp [bZ] at h; subst h; rfl
  | d :: ds, zs, h => by
    cases d with
    | str x =>
      have h' : (bZ ds).map (x :: ·) = some zs := by simpa [bZ] using h
      obtain ⟨z, e1, rfl⟩ := Option.map_eq_some_iff.mp h'
      rw [Gx e1]
      rfl
    | _ => simp [bZ] at h
theorem Yi {g : D → Option D} {a : Ev} {env e : Ev.Env} {x d : D} (h : a env = .ok x e) (h' : g x = some d) : oK g a env = .ok d e := by
  unfold oK
  rw [h]
  show cY (g x) e = _
  rw [h']
  rfl
theorem Ut {a : cz} {env e : Ev.Env} {ds ys : List D} (h : a env = .ok ds e) (h' : yj ds = some ys) : eN a env = .ok ys e := by
  unfold eN
  rw [h]
  show cY (yj ds) e = _
  rw [h']
  rfl
def ABC : List Nat := [97, 98, 99, 100, 101, 102, 103, 104, 105, 106, 107, 108, 109, 110, 111, 112, 113, 114, 115, 116, 117, 118, 119, 120, 121, 122]
def lt (a b k : Nat) : Nat := 97 + (a + (1 + b) * k) % 26
theorem adB : ∀ m : Nat, m < 26 → pq ABC (m : Int) = some (97 + m) := by
  have h : ((List.range 26).all fun (m : Nat) => pq ABC (m : Int) == some (97 + m)) = true := by decide +kernel
  intro m hm
  exact eq_of_beq (List.all_eq_true.mp h m (List.mem_range.mpr hm))
def af3 : Ev := aA jk 1 (aF Ld (aA bU 2 (aA lU 3 (bw 4))) (aN (.int 26)))
theorem elt (a b k : Nat) (hb : b < 25) (hk : k < 4) (v : Option (Bool × D)) : af3 [v, (some (false, .str ABC)), (some (false, .int (a : Int))), (some (false, .int (1 + (b : Int)))), (some (false, .int (k : Int)))] = .ok (.str [lt a b k]) [v, (some (false, .str ABC)), (some (false, .int (a : Int))), (some (false, .int (1 + (b : Int)))), (some (false, .int (k : Int)))] := by
  generalize hE : ([v, (some (false, .str ABC)), (some (false, .int (a : Int))), (some (false, .int (1 + (b : Int)))), (some (false, .int (k : Int)))] : Ev.Env) = env
  have m1 : iZ (1 + (b : Int)) (k : Int) = true := jx (a := 8) (b := 8) (jD (by omega)) (jD (by omega)) (by decide)
  have e1 : aA lU 3 (bw 4) env = .ok (.int ((1 + (b : Int)) * (k : Int))) env := rn (o := false) (o' := false) (x := .int (1 + (b : Int))) (x0 := .int (1 + (b : Int))) (by rw [← hE]; rfl) (by rw [← hE]; rfl) (by rw [← hE]; rfl) (Ep m1)
  have e2 : aA bU 2 (aA lU 3 (bw 4)) env = .ok (.int ((a : Int) + (1 + (b : Int)) * (k : Int))) env := rn (o := false) (o' := false) (x := .int (a : Int)) (x0 := .int (a : Int)) (by rw [← hE]; rfl) e1 (by rw [← hE]; rfl) rfl
  have e3 : aF Ld (aA bU 2 (aA lU 3 (bw 4))) (aN (.int 26)) env = .ok (.int (((a : Int) + (1 + (b : Int)) * (k : Int)) % 26)) env := jO e2 (y := .int 26) rfl rfl
  have e4 : ((a : Int) + (1 + (b : Int)) * (k : Int)) % 26 = (((a + (1 + b) * k) % 26 : Nat) : Int) := by push_cast; rfl
  rw [e4] at e3
  refine rn (o := false) (o' := false) (x := .str ABC) (x0 := .str ABC) (by rw [← hE]; rfl) e3 (by rw [← hE]; rfl) ?_
  show (pq ABC _).map _ = _
  rw [adB _ (Nat.mod_lt _ (by decide))]
  rfl
def QJ (a b m : Nat) : List (List Nat) := (List.range m).map fun k => [lt a b k]
def xB : List Nat → Bool
  | [] => true
  | [_] => true
  | x :: y :: r => decide (x < y) && xB (y :: r)
def good (x : List Nat) : Bool := decide (1 ≤ x.length) && decide (x.length ≤ 4) && x.all (fun c => decide (97 ≤ c) && decide (c ≤ 122)) && xB x
def chk (a b m : Nat) : Bool := match (lG (.lst ((QJ a b m).map .str))) with
  | some l => (match qe (.str []) l with
    | some (.str x) => good x
    | _ => false)
  | none => false
theorem YC : ((List.range 26).all fun a => (List.range 25).all fun b => (List.range 4).all fun m => chk a b (m + 1)) = true := by decide +kernel
theorem adn {a b m : Nat} (ha : a < 26) (hb : b < 25) (hm : m < 4) : ∃ l x, lG (.lst ((QJ a b (m + 1)).map .str)) = some l ∧ qe (.str []) l = some (.str x) ∧ good x = true := by
  have h := List.all_eq_true.mp (List.all_eq_true.mp (List.all_eq_true.mp YC a (List.mem_range.mpr ha)) b (List.mem_range.mpr hb)) m (List.mem_range.mpr hm)
  unfold chk at h
  split at h
  · rename_i l e
    split at h
    · rename_i x e2
      exact ⟨l, x, e, e2, h⟩
    · cases h
  · cases h
theorem drawn (n : Int) : ∃ x n', bV [.lst [.int n]] = some (.str x, .lst [.int n']) ∧ good x = true := by
  obtain ⟨a, ha, ea⟩ := dig n 26 (by decide)
  obtain ⟨b, hb, eb⟩ := dig (n / 26) 25 (by decide)
  obtain ⟨m, hm, em⟩ := dig (n / 26 / 25) 4 (by decide)
  obtain ⟨l, x, h1, h2, h3⟩ := adn ha hb hm
  refine ⟨x, n / 26 / 25 / 4, G6 (env := [(some (true, .lst [.int (n / 26 / 25 / 4)])), (some (false, .str ABC)), (some (false, .int (a : Int))), (some (false, .int (1 + (b : Int))))]) ?_ rfl, h3⟩
  unfold bY
  refine (gV (e := [(some (true, .lst [.int n])), (some (false, .str ABC)), none, none]) (by rfl)).trans ?_
  refine (gV (e := [(some (true, .lst [.int (n / 26 / 25)])), (some (false, .str ABC)), (some (false, .int (n % (26 : Nat)))), (some (false, .int (1 + n / 26 % (25 : Nat))))]) (by rfl)).trans ?_
  rw [ea, eb]
  have hr : eN (aa (aF bU (aN (.int 1)) (cP aG 0 (aa (aN (.int 4)) (ak)))) (ak)) [(some (true, .lst [.int (n / 26 / 25)])), (some (false, .str ABC)), (some (false, .int (a : Int))), (some (false, .int (1 + (b : Int))))] = .ok ((List.range (m + 1)).map fun (k : Nat) => D.int (k : Int)) [(some (true, .lst [.int (n / 26 / 25 / 4)])), (some (false, .str ABC)), (some (false, .int (a : Int))), (some (false, .int (1 + (b : Int))))] := by
    refine Ut (ds := [.int (1 + n / 26 / 25 % (4 : Nat))]) (by rfl) ?_
    rw [em]
    have hc : m = 0 ∨ m = 1 ∨ m = 2 ∨ m = 3 := by omega
    rcases hc with rfl | rfl | rfl | rfl <;> rfl
  obtain ⟨e', f1, v4, rfl⟩ := lcE (g := au 4) (e := af3) (fun env => ∃ v, env = [(some (true, .lst [.int (n / 26 / 25 / 4)])), (some (false, .str ABC)), (some (false, .int (a : Int))), (some (false, .int (1 + (b : Int)))), v]) (fun (k : Nat) => D.int (k : Int)) (fun k => .str [lt a b k]) (List.range (m + 1)) [(some (true, .lst [.int (n / 26 / 25 / 4)])), (some (false, .str ABC)), (some (false, .int (a : Int))), (some (false, .int (1 + (b : Int)))), none] ⟨_, rfl⟩
    (fun k hk env ⟨v, he⟩ => by
      subst he
      exact ⟨_, _, rfl, elt a b k hb (by have := List.mem_range.mp hk; omega) _, _, rfl⟩)
  have hz : (List.range (m + 1)).map (fun k => D.str [lt a b k]) = (QJ a b (m + 1)).map .str := by unfold QJ; rw [List.map_map]; rfl
  rw [hz] at f1
  have hl := xG (lo := 4) (n := 5) hr rfl f1 (by unfold QJ; rw [List.length_map, List.length_map, List.length_range]; exact Nat.le_trans (Nat.succ_le_of_lt hm) (by decide))
  exact xU (jO (x := .str []) rfl (Yi hl h1) h2)
end Gd
namespace Gd
open Ev PySem L2
open QD (jx jD zK known qU mk marks kj xW)
def ow (d : Nat) : List (List Nat) := match mk d with
  | .lst zs => (bZ (cutD zs none (some 4))).getD []
  | _ => []
def owB (d : Nat) : Bool := match mk d with
  | .lst zs => (bZ (cutD zs none (some 4))).isSome
  | _ => false
theorem aeD {d : Nat} (hd : d < 32) : ∃ zs, mk d = .lst zs ∧ cutD zs none (some 4) = (ow d).map .str := by
  have h : ((List.range 32).all owB) = true := by decide +kernel
  have h1 := List.all_eq_true.mp h d (List.mem_range.mpr hd)
  unfold owB at h1
  split at h1
  · rename_i zs e
    refine ⟨zs, e, ?_⟩
    obtain ⟨ws, hw⟩ := Option.isSome_iff_exists.mp h1
    have : ow d = ws := by unfold ow; rw [e]; show (bZ _).getD [] = _; rw [hw]; rfl
    rw [this]
    exact Gx hw
  · cases h1
def MKS : List (List (List Nat)) := (List.range 32).map ow
abbrev Rw := Nat × List (List Nat)
def row (p : Rw) : D := .tup [.str [p.1], .tup (p.2.map .str)]
def snd (p : Rw) : D := .str [p.1]
theorem body (n : Int) (b v5 v6 : Option (Bool × D)) (acc : List D) (s : D) (ha : acc.length ≤ 10) : ∃ ws v5' v6', ws ∈ MKS ∧ kj [(some (true, .lst [.int n])), b, (some (false, known)), (some (true, .lst acc)), (some (false, s)), v5, v6] = .nx [(some (true, .lst [.int (n / 32)])), b, (some (false, known)), (some (true, .lst (acc ++ [.tup [s, .tup (ws.map .str)]]))), (some (false, s)), v5', v6'] := by
  obtain ⟨d, hd, e⟩ := dig n 32 (by decide)
  obtain ⟨zs, hz, hw⟩ := aeD hd
  refine ⟨ow d, (some (false, .int d)), (some (false, .lst zs)), List.mem_map.mpr ⟨d, List.mem_range.mpr hd, rfl⟩, ?_⟩
  unfold kj
  refine (gV (e := [(some (true, .lst [.int (n / 32)])), b, (some (false, known)), (some (true, .lst acc)), (some (false, s)), (some (false, .int (n % (32 : Nat)))), v6]) (by rfl)).trans ?_
  rw [e]
  refine (gV (marks d hd _ _ _ _ _)).trans ?_
  rw [hz, ← hw]
  exact xW (x0 := acc) (xs := acc) (e := [(some (true, .lst [.int (n / 32)])), b, (some (false, known)), (some (true, .lst acc)), (some (false, s)), (some (false, .int d)), (some (false, .lst zs))]) rfl rfl rfl (Nat.lt_of_le_of_lt ha (by decide))
theorem Ie {x : List Nat} (h : good x = true) : 1 ≤ x.length ∧ x.length ≤ 4 := by
  unfold good at h
  simp only [Bool.and_eq_true, decide_eq_true_eq] at h
  exact ⟨h.1.1.1, h.1.1.2⟩
structure ZV (L : List Rw) : Prop where
  ad7 : good (L.map (·.1)) = true
  mks : ∀ p ∈ L, p.2 ∈ MKS
theorem ZV.len {L : List Rw} (h : ZV L) : 1 ≤ L.length ∧ L.length ≤ 4 := by simpa using Ie h.ad7
theorem Mu : ∀ {x : List Nat} {L : List Rw}, j5 x = L.map snd → x = L.map (·.1)
  | [], [], _ => rfl
  | [], p :: L, h => by cases h
  | c :: x, [], h => by cases h
  | c :: x, p :: L, h => by
    have h' : D.str [c] :: j5 x = D.str [p.1] :: L.map snd := h
    injection h' with h1 h2
    injection h1 with h1
    injection h1 with h1
    rw [List.map_cons, ← Mu h2, h1]
theorem Q5 {x : List Nat} (hx : good x = true) (n : Int) (e0 : Option (Bool × D)) : ∃ L n' v4 v5 v6, ZV L ∧ x = L.map (·.1) ∧
    iy (au 4) kj (j5 x) [(some (true, .lst [.int n])), e0, (some (false, known)), (some (true, .lst [])), none, none, none] = .nx [(some (true, .lst [.int n'])), e0, (some (false, known)), (some (true, .lst (L.map row))), v4, v5, v6] := by
  have hxl := Ie hx
  obtain ⟨e', f1, n', L, v4, v5, v6, rfl, hs, hm⟩ := Bv (g := au 4) (b := kj) (j5 x) (fun done env => ∃ (n : Int) (L : List Rw) (v4 v5 v6 : Option (Bool × D)), env = [(some (true, .lst [.int n])), e0, (some (false, known)), (some (true, .lst (L.map row))), v4, v5, v6] ∧ done = L.map snd ∧ ∀ p ∈ L, p.2 ∈ MKS)
    (fun done s rest hall env ⟨n, L, v4, v5, v6, he, hd, hm⟩ => by
      subst he
      have hl : L.length ≤ 4 := by
        have := congrArg List.length hall
        unfold j5 at this
        rw [List.length_map, List.length_append, List.length_cons, hd, List.length_map] at this
        omega
      obtain ⟨c, hc⟩ : ∃ c, s = .str [c] := by
        have : s ∈ j5 x := by rw [hall]; simp
        unfold j5 at this
        obtain ⟨c, _, e⟩ := List.mem_map.mp this
        exact ⟨c, e.symm⟩
      subst hc
      obtain ⟨ws, w5, w6, hw, hb⟩ := body n e0 v5 v6 (L.map row) (.str [c]) (by rw [List.length_map]; omega)
      refine ⟨_, _, rfl, hb, n / 32, L ++ [(c, ws)], (some (false, .str [c])), w5, w6, ?_, ?_, ?_⟩
      · rw [List.map_append]; rfl
      · rw [hd, List.map_append]; rfl
      · intro p hp
        rcases List.mem_append.mp hp with hp | hp
        · exact hm p hp
        · rw [List.mem_singleton.mp hp]; exact hw)
    [(some (true, .lst [.int n])), e0, (some (false, known)), (some (true, .lst [])), none, none, none] ⟨n, [], _, _, _, rfl, rfl, by simp⟩
  have e := Mu hs
  exact ⟨L, n', v4, v5, v6, ⟨by rw [← e]; exact hx, hm⟩, e, f1⟩
theorem stock (n : Int) : ∃ L n', ZV L ∧ cT [.lst [.int n]] = some (.tup (L.map row), .lst [.int n']) := by
  obtain ⟨x, n1, h1, hx⟩ := drawn n
  obtain ⟨L, n', v4, v5, v6, hL, e, f1⟩ := Q5 hx n1 (some (false, .str x))
  refine ⟨L, n', hL, G6 (env := [(some (true, .lst [.int n'])), (some (false, .str x)), (some (false, known)), (some (true, .lst (L.map row))), v4, v5, v6]) ?_ rfl⟩
  unfold gD
  refine (gV (e := [(some (true, .lst [.int n1])), (some (false, .str x)), none, none, none, none, none]) ?_).trans ?_
  · exact Gz (d := .str x) (e := [(some (true, .lst [.int n1])), none, none, none, none, none, none]) (Yv (x := .lst [.int n]) (x0 := .lst [.int n]) (ds := []) (e1 := [(some (true, .lst [.int n])), none, none, none, none, none, none]) (by rfl) (by rfl) (by rfl) h1) (by rfl)
  refine (gV (e := [(some (true, .lst [.int n1])), (some (false, .str x)), (some (false, known)), none, none, none, none]) (by rfl)).trans ?_
  refine (gV (e := [(some (true, .lst [.int n1])), (some (false, .str x)), (some (false, known)), (some (true, .lst [])), none, none, none]) (by rfl)).trans ?_
  refine (gV (e := [(some (true, .lst [.int n'])), (some (false, .str x)), (some (false, known)), (some (true, .lst (L.map row))), v4, v5, v6]) ?_).trans ?_
  · exact (xV (ds := j5 x) (by rfl)).trans f1
  · rfl
def has (ms : List (List Nat)) (p : Rw) : Bool := ms.all fun m => p.2.contains m
def kp (ms : List (List Nat)) (L : List Rw) : List D := (L.filter (has ms)).map snd
theorem T3 (L : List Rw) (hL : L.length ≤ 4) : qe (.str []) (.lst (L.map snd)) = some (.str (L.map (·.1))) := by
  have e : bZ (L.map snd) = some (L.map fun p => [p.1]) := by
    induction L with
    | nil => rfl
    | cons p L ih =>
      rw [List.map_cons]
      show (bZ (L.map snd)).map _ = _
      rw [ih (by simp at hL; omega)]
      rfl
  show (match bZ (L.map snd) with | some xs => if joinFits [] xs = true then some (D.str (Bs [] xs)) else none | none => none) = _
  rw [e]
  have hf : joinFits [] (L.map fun p => [p.1]) = true := by
    unfold joinFits
    have : ((L.map fun p => [p.1]).map List.length).sum = L.length := by
      rw [List.map_map]
      clear e hL
      induction L with
      | nil => rfl
      | cons p L ih => rw [List.map_cons, List.sum_cons, ih]; simp; omega
    rw [this]
    exact decide_eq_true (by simp; omega)
  show (if joinFits [] (L.map fun p => [p.1]) = true then _ else _) = _
  rw [if_pos hf]
  congr 2
  match L with
  | [] => rfl
  | p :: L =>
    show (L.map fun q => [q.1]).foldl (fun acc y => acc ++ [] ++ y) [p.1] = _
    have go : ∀ (L : List Rw) (acc : List Nat), (L.map fun q => [q.1]).foldl (fun acc y => acc ++ [] ++ y) acc = acc ++ L.map (·.1) := by
      intro L
      induction L with
      | nil => intro acc; simp
      | cons q L ih => intro acc; rw [List.map_cons, List.foldl_cons, ih]; simp
    rw [go]
    rfl
theorem KJ (L : List Rw) (hL : L.length ≤ 4) : cF [.tup (L.map row)] = some (.str (L.map (·.1))) := by
  obtain ⟨e', f1, v1, v2, rfl⟩ := lcE (g := fL 2 (bu (au 1) (bu (au 2) (gw)))) (e := az 1) (fun env => ∃ v1 v2, env = [(some (false, .tup (L.map row))), v1, v2]) row snd L [(some (false, .tup (L.map row))), none, none] ⟨_, _, rfl⟩
    (fun p hp env ⟨v1, v2, he⟩ => by
      subst he
      exact ⟨_, _, rfl, rfl, _, _, rfl⟩)
  have hl : dW 1 3 (ig (az 0)) (fL 2 (bu (au 1) (bu (au 2) (gw)))) bW (az 1) [(some (false, .tup (L.map row)))] = .ok (.lst (L.map snd)) [(some (false, .tup (L.map row)))] :=
    xG (lo := 1) (n := 3) (ds := L.map row) (ys := L.map snd) (aB := [(some (false, .tup (L.map row)))]) (cN := [(some (false, .tup (L.map row))), v1, v2]) (by rfl) rfl f1 (by rw [List.length_map]; exact Nat.le_trans hL (by decide))
  refine Wh (env := [(some (false, .tup (L.map row)))]) ?_
  unfold fG
  exact xU (jO (x := .str []) rfl hl (T3 L hL))
end Gd
namespace Gd
open Ev PySem L2
theorem turns {env : Ev.Env} {ns : List Int} (hlen : aq dG (aa (bw 0) ak) env = .ok (.int (ns.length : Int)) env) (cap : Nat) (h1 : 1 ≤ cap) (h2 : cap ≤ 20) :
    ∃ ds, eN (aa (aN (.int 0)) (aa (aq Il (aa (aN (.int 1)) (aa (aq Ik (aa (aq dG (aa (bw 0) ak)) (aa (aN (.int (cap : Int))) ak))) ak))) (aa (aN (.int 2)) (ak)))) env = .ok ds env ∧ ∀ d ∈ ds, ∃ k : Int, d = .int k ∧ 0 ≤ k ∧ k ≤ 100 := by
  have a1 : aa (aN (.int 0)) (aa (aq Il (aa (aN (.int 1)) (aa (aq Ik (aa (aq dG (aa (bw 0) ak)) (aa (aN (.int (cap : Int))) ak))) ak))) (aa (aN (.int 2)) (ak))) env = .ok [.int 0, .int (if (if (cap : Int) < ns.length then (cap : Int) else (ns.length : Int)) > 1 then (if (cap : Int) < ns.length then (cap : Int) else (ns.length : Int)) else 1), .int 2] env :=
    jA (d := .int 0) (by rfl) (jA (vV (ds := [.int 1, .int (if (cap : Int) < ns.length then (cap : Int) else (ns.length : Int))]) (jA (d := .int 1) (by rfl) (jA (vV (ds := [.int (ns.length : Int), .int (cap : Int)]) (jA hlen (by rfl)) (by rfl)) zc)) (by rfl)) (by rfl))
  generalize hm : (if (if (cap : Int) < ns.length then (cap : Int) else (ns.length : Int)) > 1 then (if (cap : Int) < ns.length then (cap : Int) else (ns.length : Int)) else 1) = m at a1
  have hm1 : 1 ≤ m ∧ m ≤ 20 := by
    rw [← hm]
    split <;> split <;> omega
  obtain ⟨j, rfl⟩ : ∃ j : Nat, m = (j : Int) := ⟨m.toNat, by omega⟩
  have hsm : (2 : Int) ≠ 0 ∧ (2 : Int).natAbs < 1073741824 ∧ Builtin.Range.small 0 (j : Int) 2 = true := by
    refine ⟨by decide, by decide, ?_⟩
    have hall : ((List.range 21).all fun (j : Nat) => Builtin.Range.small 0 (j : Int) 2) = true := by decide +kernel
    exact List.all_eq_true.mp hall j (List.mem_range.mpr (by omega))
  have hsz : (Builtin.Range.rangeSize 0 (j : Int) 2).toNat ≤ 20 := by
    have hall : ((List.range 21).all fun (j : Nat) => decide ((Builtin.Range.rangeSize 0 (j : Int) 2).toNat ≤ 20)) = true := by decide +kernel
    exact of_decide_eq_true (List.all_eq_true.mp hall j (List.mem_range.mpr (by omega)))
  have hrg : yj [.int 0, .int (j : Int), .int 2] = some (iV 0 2 (Builtin.Range.rangeSize 0 (j : Int) 2).toNat) := by
    unfold yj
    simp only
    rw [if_pos hsm]
  refine ⟨_, Ut a1 hrg, fun d hd => ?_⟩
  unfold iV at hd
  obtain ⟨i, hi, rfl⟩ := List.mem_map.mp hd
  have := List.mem_range.mp hi
  exact ⟨0 + (i : Int) * 2, rfl, by omega, by omega⟩
end Gd
namespace jh
open Ev
def lC : Ev := dW 1 2 (eN (aa (aF El (aq dG (aa (bw 0) ak)) (aN (.int 1))) (ak))) (au 1) (bW) (aF gLt (aA jk 0 (bw 1)) (aA jk 0 (aA bU 1 (aN (.int 1)))))
def xJ : bN := aV (aq ph (aa (lC) ak))
def gH : List D → Option D := gb 1 xJ
def rB : bN := aV (dY (oK (vQ "tuple") (az 0)) (aF qi (aq dG (aa (bw 0) ak)) (aN (.int 2))))
def cA : List D → Option D := gb 1 rB
def cZ : Ev := dW 1 3 (ig (az 0)) (fL 2 (bu (au 1) (bu (au 2) (gw)))) (bW) (az 1)
def mD : bN := aV (aq dN (aa (cZ) ak))
def cR : List D → Option D := gb 1 mD
def ir : bN := aK (jH (fC (jC (aq cA (aa (az 1) (ak))))) (aV (aN (.bl false))) (cG)) (aK (bj (az 1) (fL 2 (bu (au 2) (bu (au 3) (gw))))) (aV (dY (aA qg 2 (bw 0)) (dY (IK (aA qg 3 (bw 0)) (aA qi 3 (aN (.str [])))) (aA Uo 2 (bw 3))))))
def cL : List D → Option D := gb 4 ir
def jE : bN := aV (dY (aq cA (aa (az 1) (ak))) (dY (aF qi (aA jk 1 (aN (.int 0))) (aN (.str []))) (aF qg (aA jk 1 (aN (.int 1))) (bw 0))))
def dO : List D → Option D := gb 2 jE
def cj : Ev := dW 2 3 (ig (az 1)) (au 2) (bW) (aq cL (aa (az 0) (aa (az 2) (ak))))
def cg : Ev := dW 2 4 (ig (az 1)) (fL 2 (bu (au 2) (bu (au 3) (gw)))) (bW) (az 2)
def jF : bN := aK (jH (o9 (fC (jC (oK (vQ "tuple") (az 1)))) (jC (aF qi (aq dG (aa (bw 1) ak)) (aN (.int 0))))) (aV (aN (.bl false))) (cG)) (aK (jH (zg (jC (aF qi (aq dG (aa (bw 1) ak)) (aN (.int 1)))) (jC (aq dO (aa (az 0) (aa (aA jk 1 (aN (.int 0))) (ak)))))) (aV (aN (.bl true))) (cG)) (aV (dY (aq ph (aa (cj) ak)) (aq gH (aa (cg) (ak))))))
def dU : List D → Option D := gb 2 jF
def gr : Ev := dW 2 3 (ig (az 1)) (au 2) (bW) (IK (aA qi 2 (aN (.str [35]))) (aA qg 2 (bw 0)))
def mF : bN := aK (jH (jC (aA gIs 1 (aN .non))) (aV (aN (.bl true))) (cG)) (aK (jH (o9 (fC (jC (oK (vQ "tuple") (az 1)))) (jC (aF qi (aq dG (aa (bw 1) ak)) (aN (.int 0))))) (aV (aN (.bl false))) (cG)) (aV (dY (aq ph (aa (gr) ak)) (aq gH (aa (az 1) (ak))))))
def dI : List D → Option D := gb 2 mF
def rA : bN := aK (jH (o9 (fC (jC (oK (vQ "tuple") (az 1)))) (jC (aF Uo (aq dG (aa (bw 1) ak)) (aN (.int 4))))) (aV (aN (.bl false))) (cG)) (aK (bj (az 1) (fL 4 (bu (au 2) (bu (au 3) (bu (au 4) (bu (au 5) (gw))))))) (aK (bj (aq cR (aa (az 0) (ak))) (au 6)) (aV (dY (aA qg 2 (aN (.tup [(.str [111, 110, 99, 101]), (.str [97, 108, 111, 110, 103])]))) (dY (aq dU (aa (az 6) (aa (az 3) (ak)))) (dY (aq dI (aa (az 6) (aa (az 4) (ak)))) (aq dI (aa (az 6) (aa (az 5) (ak))))))))))
def dC : List D → Option D := gb 7 rA
def gF : bN := wZ.gF
def dH : List D → Option D := gb 1 gF
def mR : bN := wZ.mR
def fH : bN := wZ.fH
def dR : List D → Option D := runN 4 fH
def fD : bN := aK (bj (aq mz (aa (aA jk 0 (aN (.int 0))) (aa (bw 1) ak))) (fL 2 (bu (HY 0 (aN (.int 0))) (bu (au 2) (gw))))) (aV (az 2))
def aG : List D → Option (D × D) := gf 3 fD
def fV : Ev := wZ.fV
def bY : bN := wZ.bY
def bV : List D → Option (D × D) := gf 4 bY
def lD : Ev := wZ.lD
def lF : bN := wZ.lF
def gD : bN := wZ.gD
def cT : List D → Option (D × D) := gf 7 gD
def o7 : Ev := wZ.cZ
def fG : bN := wZ.fG
def cF : List D → Option D := gb 1 fG
def gq : Ev := dW 4 5 (eN (aa (aq dG (aa (bw 3) ak)) (ak))) (au 4) (jC (aF Im (aF Es (aA Ag 2 (bw 4)) (aN (.int 1))) (aN (.int 1)))) (aA jk 3 (bw 4))
def jQ : bN := aK (jH (jC (aF Im (cP aG 0 (aa (aN (.int 2)) (ak))) (aN (.int 0)))) (aV (aN .non)) (cG)) (aK (bj (aF bU (aN (.int 1)) (cP aG 0 (aa (aF El (aF Qf (aN (.int 2)) (aq dG (aa (bw 1) ak))) (aN (.int 1))) (ak)))) (au 2)) (aK (bj (aF bU (aN (.str [35])) (bw 1)) (au 3)) (aV (aq dN (aa (gq) ak)))))
def cU : List D → Option (D × D) := gf 4 jQ
def eE : Ev := dW 6 7 (ig (aF bU (aq o8 (aa (bw 1) ak)) (cJ (aa (aN (.str [])) (ak))))) (au 6) (jC (aA Uo 6 (bw 4))) (az 6)
def cW : bN := aK (bj (aA jk 1 (cP aG 0 (aa (aq dG (aa (bw 1) ak)) (ak)))) (au 4)) (aK (kO 5 (eE)) (su 2 (az 4) (aA jk 5 (cP aG 0 (aa (aq dG (aa (bw 5) ak)) (ak))))))
def d9 : Ev := dW 6 7 (ig (aq je (aa (bw 2) ak))) (au 6) (bW) (bC (aa (az 6) (aa (aA rT 2 (bw 6)) (ak))))
def ik : bN := aK (jH (jC (aF Im (cP aG 0 (aa (aN (.int 5)) (ak))) (aN (.int 0)))) (aV (bC (aa (bC (aa (aN (.str [])) (aa (aA jk 1 (cP aG 0 (aa (aq dG (aa (bw 1) ak)) (ak)))) (ak)))) (ak)))) (cG)) (aK (kO 2 (oM)) (aK (ji (eN (aa (aF bU (aN (.int 1)) (cP aG 0 (aa (aN (.int 3)) (ak)))) (ak))) (au 3) (cW)) (aV (aq dN (aa (d9) ak)))))
def cV : List D → Option (D × D) := gf 6 ik
def oR : bN := aK (bj (aF jk (cJ (aa (aN (.str [111, 110, 99, 101])) (aa (aN (.str [97, 108, 111, 110, 103])) (ak)))) (cP aG 0 (aa (aN (.int 2)) (ak)))) (au 2)) (aK (bj (cP cV 0 (aa (az 1) (ak))) (au 3)) (aV (bC (aa (az 2) (aa (az 3) (aa (cP cU 0 (aa (az 1) (ak))) (aa (cP cU 0 (aa (az 1) (ak))) (ak))))))))
def fB : List D → Option (D × D) := gf 4 oR
def uO : bN := wZ.uO
def eG : List D → Option D := gb 2 uO
def jb : Ev := dW 1 2 (ig (aN (.str [113, 118, 109, 101, 104, 97, 98, 99, 100, 102, 103]))) (au 1) (jC (aA ou 1 (bw 0))) (az 1)
def rz : bN := aV (aF jk (jb) (aN (.int 0)))
def eF : List D → Option D := gb 1 rz
end jh
section
open Ev PySem L2
local macro_rules | `(tactic| ac_rfl) => `(tactic| simp (maxSteps := 2000000) (disch := (first | ((try simp only [List.length_cons, List.length_nil, List.length_append, List.length_map, List.length_range, sizeLine, Nat.reducePow]) <;> omega) | fail)) only [↓sNx, ↓sRt, ↓bR, ↓bO, ↓lR, ↓lO, ↓iT, ↓iF, ↓rS, ↓bB, ↓oS, ↓nS, ↓obS, ↓kNx, ↓vS, ↓wS, ↓lS, ↓eS, ↓pS, ↓cS, ↓ae5, ↓afg, V5, zR, zO, Yj, Yt, lS, Wb, V9, Nu, Yd, Ye, Yc, uC, afG, afH, acM, acQ, X6, sNx, sRt, sBk, sCt, aah, adb, iT, iF, bR, bO, lR, lO, V6, Wa, V7, Q7, Q6, af1, Ys, Ux, Yx, ac6, Uy, Yh, ac8, Uz, rS, Yy, ac9, Yq, af2, bB, UG, Yp, Uu, ade, oS, Yu, Qk, obS, afZ, nS, Yr, ac7, Yl, Yk, Yo, Uw, V8, Uc, ahs, Ud, gB, XX, ada, Yn, afw, afx, afu, afv, eS, Eu, ac4, vS, kNx, kRt, kBk, kCt, aeZ, aeY, wS, Us, aar, dRt, dNx, envOf, Zz, ZC, afP, at0, at1, at2, at3, ac2, acV, acU, acW, acX, Uk, Uj, X7, Yb, X8, afT, afJ, afU, afK, acY, afO, afM, afR, afS, afL, acL, afQ, gt0, gtS, st0, stS, cdT, cdF, Option.map_some, Option.bind_some, List.map_cons, List.map_nil, List.replicate_succ, List.replicate_zero, Nat.reduceAdd, Nat.reduceSub, List.length_cons, List.length_nil, List.cons_append, List.nil_append, Bool.not_true, Bool.not_false, nc0, nc1, nc2, nc3, nc4, nc5, nc6, nc7, nc8, Int.reduceBEq, Nat.reduceBEq, Int.reduceLE, Int.reduceLT, Nat.reduceLeDiff, Nat.reduceLT, Int.reduceAdd, Int.reduceSub, decide_true, decide_false, beq_self_eq_true, Wi, uE, ahe, ahf, aas, nRt, JX, pS, cS, ae5, afg, Q8, Um, Ul, acO, acP, Ym, ach, Qj, abK, Qh, acS, aeI, aeJ, VB, XJ, XH, acA, acz, afp, ahb, XF, TJ, TF, XD, acy, Tz, XC, acw, Xz, acu, acr, afn, Tv, Xy, acq, aco, acn, ack, aci, afl, Xw, Xv, Xu, acf, ace, acb, ab9, ab8, ab6, ab4, afj, Xr, Xq, ab3, afh, abZ, abX, abV, afe, abU, Xo, Xn, abT, abS, afa, ag8, ae9, Xm, abR, abP, abN, ae6, abM, ae3, abL, ae1, *] <;> try rfl)
namespace jh
open Ev PySem L2
def lQ (z : List Nat) : D → Bool
  | .str w => w == z
  | _ => false
def xE (x : List Nat) : D → Bool
  | .str [c] => decide (c ∈ x)
  | _ => false
def pl : Nat → D → Bool
  | _, .arr _ => false
  | 0, _ => true
  | n + 1, .tup xs => xs.all (pl n)
  | _ + 1, _ => true
theorem pl0 {n : Nat} {d : D} (h : pl n d = true) : pl 0 d = true := by
  cases d with
  | arr xs => cases n <;> cases h
  | _ => rfl
theorem iW {n : Nat} {xs : List D} (h : pl (n + 1) (.tup xs) = true) : ∀ d ∈ xs, pl n d = true := List.all_eq_true.mp h
theorem strs_map (zs : List (List Nat)) : bZ (zs.map D.str) = some zs := by
  induction zs with
  | nil => rfl
  | cons z r ih => rw [List.map_cons]; show (bZ _).map _ = _; rw [ih]; rfl
theorem Mx (x : List Nat) : j5 x = (x.map fun c => [c]).map .str := by unfold j5; rw [List.map_map]; rfl
theorem Ei (w : List Nat) : ∀ zs : List (List Nat), zW (.str w) (zs.map .str) = some (zs.any (· == w))
  | [] => rfl
  | z :: zs => by
    rw [List.map_cons]
    unfold zW
    rw [Ei w zs]
    rfl
theorem K6 {d : D} (h : ∀ z, aU 59 (.str z) d = some false) : ∀ zs : List (List Nat), zW d (zs.map .str) = some false
  | [] => rfl
  | z :: zs => by
    rw [List.map_cons]
    unfold zW
    rw [K6 h zs, h z]
    rfl
theorem Ni (zs : List (List Nat)) (d : D) (h : pl 0 d = true) : qg d (.tup (zs.map .str)) = some (.bl (zs.any fun z => lQ z d)) := by
  have no : (∀ z, aU 59 (.str z) d = some false) → (∀ z, lQ z d = false) → qg d (.tup (zs.map .str)) = some (.bl (zs.any fun z => lQ z d)) := fun h1 h2 => by
    unfold qg gIn Qg
    show ((Option.map D.bl (zW d (zs.map .str))).or _).or _ = _
    rw [K6 h1]
    have : (zs.any fun z => lQ z d) = false := by
      rw [List.any_eq_false]
      intro z _
      rw [h2]; exact Bool.false_ne_true
    rw [this]
    rfl
  cases d with
  | str w =>
    unfold qg gIn Qg
    show ((Option.map D.bl (zW (.str w) (zs.map .str))).or _).or _ = _
    rw [Ei]
    show some (D.bl _) = _
    congr 3
    funext z
    show (z == w) = (w == z)
    rw [Bool.eq_iff_iff, beq_iff_eq, beq_iff_eq]
    exact eq_comm
  | dct kvs =>
    unfold qg gIn Qg
    have e1 : zW (.dct kvs) (zs.map .str) = none ∨ zs = [] := by
      cases zs with
      | nil => exact .inr rfl
      | cons z r => exact .inl (by rw [List.map_cons]; unfold zW; rfl)
    rcases e1 with e1 | rfl
    · show ((Option.map D.bl (zW (.dct kvs) (zs.map .str))).or none).or (if (bZ (zs.map .str)).isSome then some (.bl false) else none) = _
      rw [e1, strs_map]
      have : (zs.any fun z => lQ z (.dct kvs)) = false := by
        rw [List.any_eq_false]
        intro z _
        exact Bool.false_ne_true
      rw [this]
      rfl
    · rfl
  | arr xs => cases h
  | non => exact no (fun _ => rfl) (fun _ => rfl)
  | bl b => exact no (fun _ => rfl) (fun _ => rfl)
  | int i => exact no (fun _ => rfl) (fun _ => rfl)
  | tup xs => exact no (fun _ => rfl) (fun _ => rfl)
  | lst xs => exact no (fun _ => rfl) (fun _ => rfl)
theorem XQ (x : List Nat) (d : D) (h : pl 0 d = true) : qg d (.tup (j5 x)) = some (.bl (xE x d)) := by
  rw [Mx, Ni _ _ h]
  congr 2
  rw [List.any_map]
  cases d with
  | str w =>
    match w with
    | [] => show (x.any fun c => ([] : List Nat) == [c]) = false; simp
    | [b] =>
      show (x.any fun c => [b] == [c]) = decide (b ∈ x)
      rw [Bool.eq_iff_iff]
      simp
    | a :: b :: r => show (x.any fun c => a :: b :: r == [c]) = false; simp
  | _ => show (x.any fun _ => false) = false; simp
theorem eq_str (z : List Nat) (d : D) (h : pl 0 d = true) : qi d (.str z) = some (.bl (lQ z d)) := by
  cases d with
  | arr xs => cases h
  | _ => rfl
theorem eq_int (i j : Int) : qi (.int i) (.int j) = some (.bl (i == j)) := rfl
def neS : D → D → Bool
  | .str z, .str w => !(z == w)
  | _, _ => true
def RN : D → Bool
  | .tup [_, _] => true
  | _ => false
theorem is_pair (d : D) : cA [d] = some (.bl (RN d)) := by
  unfold cA rB
  have he := eq_int
  cases d with
  | tup ds =>
    have h1 : jc (.tup ds) "tuple" = true := rfl
    match ds with
    | [a, b] => rfl
    | [] => rfl
    | [_] => rfl
    | a :: b :: c :: r =>
      have h2 : (((r.length + 1 + 1 + 1 : Nat) : Int) == 2) = false := by rw [beq_eq_false_iff_ne]; omega
      ac_rfl
  | _ => rfl
def tR (x : List Nat) : D → Bool
  | .tup [a, b] => xE x a && ((xE x b || lQ [] b) && neS a b)
  | _ => false
theorem rm {x : List Nat} {d : D} (h : xE x d = true) : ∃ c, d = .str [c] ∧ c ∈ x := by
  unfold xE at h
  split at h
  · rename_i c
    exact ⟨c, rfl, of_decide_eq_true h⟩
  · cases h
theorem Nh {z : List Nat} {d : D} (h : lQ z d = true) : d = .str z := by
  unfold lQ at h
  split at h
  · rename_i w
    rw [eq_of_beq h]
  · cases h
theorem aaH {d : D} (h : RN d = false) (x : List Nat) : tR x d = false := by
  unfold tR
  split
  · cases h
  · rfl
theorem changes_sound (x : List Nat) (d : D) (h : pl 1 d = true) : cL [.tup (j5 x), d] = some (.bl (tR x d)) := by
  unfold cL ir
  have h1 := is_pair d
  cases hp : RN d with
  | false =>
    rw [hp] at h1
    have h2 := aaH hp x
    ac_rfl
  | true =>
    rw [hp] at h1
    obtain ⟨a, b, rfl⟩ : ∃ a b, d = .tup [a, b] := by
      unfold RN at hp
      split at hp
      · exact ⟨_, _, rfl⟩
      · cases hp
    have pa := iW h a (by simp)
    have pb := iW h b (by simp)
    have h3 := XQ x a pa
    have h4 := XQ x b pb
    have h5 := eq_str [] b pb
    have h6 : tR x (.tup [a, b]) = (xE x a && ((xE x b || lQ [] b) && neS a b)) := rfl
    rw [h6]
    clear h6 pa pb h hp
    cases ea : xE x a with
    | false => rw [ea] at h3; ac_rfl
    | true =>
      rw [ea] at h3
      cases eb : xE x b with
      | false =>
        rw [eb] at h4
        cases ec : lQ [] b with
        | false => rw [ec] at h5; ac_rfl
        | true =>
          rw [ec] at h5
          obtain ⟨c, rfl, _⟩ := rm ea
          obtain rfl := Nh ec
          ac_rfl
      | true =>
        rw [eb] at h4
        obtain ⟨c, rfl, _⟩ := rm ea
        obtain ⟨c', rfl, _⟩ := rm eb
        clear h5
        ac_rfl
def Dk (x : List Nat) : D → Bool
  | .tup [a, b] => lQ [] a && xE x b
  | _ => false
theorem puts_one_in (x : List Nat) (d : D) (h : pl 1 d = true) : dO [.tup (j5 x), d] = some (.bl (Dk x d)) := by
  unfold dO jE
  have h1 := is_pair d
  cases hp : RN d with
  | false =>
    rw [hp] at h1
    have h2 : Dk x d = false := by
      unfold Dk
      split
      · cases hp
      · rfl
    ac_rfl
  | true =>
    rw [hp] at h1
    obtain ⟨a, b, rfl⟩ : ∃ a b, d = .tup [a, b] := by
      unfold RN at hp
      split at hp
      · exact ⟨_, _, rfl⟩
      · cases hp
    have h4 := XQ x b (iW h b (by simp))
    have h5 := eq_str [] a (iW h a (by simp))
    have h6 : Dk x (.tup [a, b]) = (lQ [] a && xE x b) := rfl
    rw [h6]
    clear h6 h hp
    cases ea : lQ [] a with
    | false => rw [ea] at h5; ac_rfl
    | true => rw [ea] at h5; ac_rfl
open Ev PySem L2
def CW : List (List Nat) → Bool
  | [] => true
  | [_] => true
  | x :: y :: r => decide (x < y) && CW (y :: r)
theorem Mz : ∀ zs : List (List Nat), ((List.range (zs.length - 1)).all fun i => decide (zs.getD i [] < zs.getD (i + 1) [])) = CW zs
  | [] => rfl
  | [_] => rfl
  | x :: y :: r => by
    have ih := Mz (y :: r)
    have e : (x :: y :: r).length - 1 = (y :: r).length - 1 + 1 := by simp
    rw [e, List.range_succ_eq_map, List.all_cons, List.all_map]
    show _ = (decide (x < y) && CW (y :: r))
    rw [← ih]
    rfl
theorem rises (t : List D → D) (ht : t = .tup ∨ t = .lst) (zs : List (List Nat)) (hz : zs.length ≤ 1000) : gH [t (zs.map .str)] = some (.bl (CW zs)) := by
  unfold gH xJ
  have hlen : dG [t (zs.map .str)] = some (.int zs.length) := by rcases ht with rfl | rfl <;> simp [dG]
  have hr : yj [.int ((zs.length : Int) - 1)] = some ((List.range (zs.length - 1)).map fun (i : Nat) => D.int (i : Int)) := by
    cases zs with
    | nil => rfl
    | cons z r =>
      have e : (((z :: r).length : Int) - 1) = ((r.length : Nat) : Int) := by rw [List.length_cons]; omega
      rw [e, Rk (by simp at hz; omega)]
      rfl
  have h4 : lC [(some (false, t (zs.map .str)))] = .ok (.lst ((List.range (zs.length - 1)).map fun i => .bl (decide (zs.getD i [] < zs.getD (i + 1) [])))) [(some (false, t (zs.map .str)))] := by
    unfold lC
    refine tM (List.range (zs.length - 1)) (fun i => .int (i : Nat)) (fun i => .bl (decide (zs.getD i [] < zs.getD (i + 1) []))) (by ac_rfl) rfl rfl (fun i hi => ?_) (by rw [List.length_range]; exact Nat.le_trans (show zs.length - 1 ≤ 1000 by omega) (by decide))
    have hi := List.mem_range.mp hi
    have g : ∀ j : Nat, j < zs.length → jk (t (zs.map .str)) (.int (j : Int)) = some (.str (zs.getD j [])) := fun j hj => by
      rcases ht with rfl | rfl <;> simp [Zz, ZC, atN, hj]
    have g1 := g i (by omega)
    have g2 := g (i + 1) (by omega)
    rw [show (((i + 1 : Nat) : Int)) = (i : Int) + 1 from rfl] at g2
    ac_rfl
  have h5 := Io (fun i => decide (zs.getD i [] < zs.getD (i + 1) [])) (List.range (zs.length - 1))
  rw [Mz] at h5
  ac_rfl
def ur (ds : List D) : Bool := match bZ ds with
  | some zs => CW zs
  | none => false
theorem uq (zs : List (List Nat)) : ur (zs.map .str) = CW zs := by unfold ur; rw [strs_map]
def fst : D → D
  | .tup (a :: _) => a
  | d => d
theorem all_strs {p : D → Bool} (f : D → D) (hp : ∀ d, p d = true → ∃ z, f d = .str z) : ∀ {ds : List D}, ds.all p = true → ∃ zs : List (List Nat), ds.map f = zs.map .str
  | [], _ => ⟨[], rfl⟩
  | d :: ds, h => by
    rw [List.all_cons, Bool.and_eq_true] at h
    obtain ⟨zs, hz⟩ := all_strs f hp h.2
    obtain ⟨z, e⟩ := hp d h.1
    exact ⟨z :: zs, by rw [List.map_cons, List.map_cons, hz, e]⟩
theorem YD {x : List Nat} {d : D} (h : tR x d = true) : ∃ z, fst d = .str z := by
  unfold tR at h
  split at h
  · rename_i a b
    rw [Bool.and_eq_true] at h
    obtain ⟨c, rfl, _⟩ := rm h.1
    exact ⟨[c], rfl⟩
  · cases h
theorem Va {x : List Nat} {d : D} (h : tR x d = true) : ∃ a b, d = .tup [a, b] := by
  unfold tR at h
  split at h
  · exact ⟨_, _, rfl⟩
  · cases h
def zX (x : List Nat) : D → Bool
  | .tup ds => !ds.isEmpty && ((ds.length == 1 && Dk x (ds.headD .non)) || (ds.all (tR x) && ur (ds.map fst)))
  | _ => false
theorem are_changes (x : List Nat) (d : D) (h : pl 2 d = true) (hz : ∀ ds, d = .tup ds → ds.length ≤ 1000) : dU [.tup (j5 x), d] = some (.bl (zX x d)) := by
  unfold dU jF
  have he := eq_int
  cases d with
  | tup ds =>
    have hz := hz ds rfl
    have h1 : jc (.tup ds) "tuple" = true := rfl
    have h6 : zX x (.tup ds) = (!ds.isEmpty && ((ds.length == 1 && Dk x (ds.headD .non)) || (ds.all (tR x) && ur (ds.map fst)))) := rfl
    rw [h6]
    clear h6
    have c1 : cj [(some (false, .tup (j5 x))), (some (false, .tup ds))] = .ok (.lst (ds.map fun d => .bl (tR x d))) [(some (false, .tup (j5 x))), (some (false, .tup ds))] := by
      unfold cj
      refine tM ds id (fun d => .bl (tR x d)) (by rw [List.map_id]; ac_rfl) rfl rfl (fun d hd => ?_) (Nat.le_trans hz (by decide))
      have := changes_sound x d (iW h d hd)
      simp only [id]
      ac_rfl
    have h5 := Io (tR x) ds
    have rest : Wk (aV (dY (aq ph (aa (cj) ak)) (aq gH (aa (cg) (ak)))) [(some (false, .tup (j5 x))), (some (false, .tup ds))]) = some (.bl (ds.all (tR x) && ur (ds.map fst))) := by
      cases hn : ds.all (tR x) with
      | false => rw [hn] at h5; ac_rfl
      | true =>
        rw [hn] at h5
        obtain ⟨zs, e⟩ := all_strs fst (fun d => YD) hn
        have hl := congrArg List.length e
        rw [List.length_map, List.length_map] at hl
        have c2 : cg [(some (false, .tup (j5 x))), (some (false, .tup ds))] = .ok (.lst (ds.map fst)) [(some (false, .tup (j5 x))), (some (false, .tup ds))] := by
          unfold cg
          have := Ew (lo := 2) (n := 4) (it := ig (az 1)) (g := fL 2 (bu (au 2) (bu (au 3) (gw)))) (c := bW) (e := az 2) (env := [(some (false, .tup (j5 x))), (some (false, .tup ds))]) ds id (fun d => match d with | .tup [a, b] => [(some (false, a)), (some (false, b))] | _ => [none, none]) (fun _ => true) fst (by rw [List.map_id]; ac_rfl) rfl (fun d hd => by
            obtain ⟨a, b, rfl⟩ := Va (List.all_eq_true.mp hn d hd)
            refine ⟨rfl, fun vs hv => ?_, rfl, fun _ => rfl⟩
            match vs, hv with
            | [_, _], _ => rfl) (Nat.le_trans hz (by decide))
          rw [List.filter_eq_self.mpr (fun _ _ => rfl)] at this
          exact this
        rw [e] at c2
        have h6 := rises .lst (.inr rfl) zs (by omega)
        rw [e, uq]
        clear hl e
        ac_rfl
    match ds with
    | [] => rfl
    | [a] =>
      have h7 := puts_one_in x a (iW h a (by simp))
      show _ = some (D.bl (true && ((true && Dk x a) || _)))
      cases hp : Dk x a with
      | true => rw [hp] at h7; clear rest c1 h5; ac_rfl
      | false =>
        rw [hp] at h7
        generalize hR : (aV (dY (aq ph (aa (cj) ak)) (aq gH (aa (cg) (ak))))) = R at rest ⊢
        generalize hB : ([a].all (tR x) && ur (List.map fst [a])) = B at rest ⊢
        clear c1 h5 hz
        ac_rfl
    | a :: b :: r =>
      have h7 : (((r.length + 1 + 1 : Nat) : Int) == 1) = false := by rw [beq_eq_false_iff_ne]; omega
      have h8 : (((r.length + 1 + 1 : Nat) : Int) == 0) = false := by rw [beq_eq_false_iff_ne]; omega
      have h9 : ((a :: b :: r).length == 1) = false := by rw [beq_eq_false_iff_ne, List.length_cons, List.length_cons]; omega
      rw [h9]
      generalize hR : (aV (dY (aq ph (aa (cj) ak)) (aq gH (aa (cg) (ak))))) = R at rest ⊢
      generalize hB : ((a :: b :: r).all (tR x) && ur (List.map fst (a :: b :: r))) = B at rest ⊢
      clear c1 h5 hz h9
      ac_rfl
  | _ => rfl
def pG (x : List Nat) (d : D) : Bool := lQ [35] d || xE x d
theorem We {x : List Nat} {d : D} (h : pG x d = true) : ∃ z, id d = .str z := by
  unfold pG at h
  rw [Bool.or_eq_true] at h
  rcases h with h | h
  · exact ⟨_, Nh h⟩
  · obtain ⟨c, rfl, _⟩ := rm h
    exact ⟨[c], rfl⟩
def zU (x : List Nat) : D → Bool
  | .non => true
  | .tup ds => !ds.isEmpty && (ds.all (pG x) && ur ds)
  | _ => false
theorem are_signs (x : List Nat) (d : D) (h : pl 1 d = true) (hz : ∀ ds, d = .tup ds → ds.length ≤ 1000) : dI [.tup (j5 x), d] = some (.bl (zU x d)) := by
  unfold dI mF
  have he := eq_int
  cases d with
  | tup ds =>
    have hz := hz ds rfl
    have h1 : jc (.tup ds) "tuple" = true := rfl
    have h6 : zU x (.tup ds) = (!ds.isEmpty && (ds.all (pG x) && ur ds)) := rfl
    have h0 : gIs (.tup ds) .non = some (.bl false) := rfl
    rw [h6]
    clear h6
    have c1 : gr [(some (false, .tup (j5 x))), (some (false, .tup ds))] = .ok (.lst (ds.map fun d => .bl (pG x d))) [(some (false, .tup (j5 x))), (some (false, .tup ds))] := by
      unfold gr
      refine tM ds id (fun d => .bl (pG x d)) (by rw [List.map_id]; ac_rfl) rfl rfl (fun d hd => ?_) (Nat.le_trans hz (by decide))
      have e1 := eq_str [35] d (iW h d hd)
      have e2 := XQ x d (iW h d hd)
      simp only [id, pG]
      cases hs : lQ [35] d with
      | true => rw [hs] at e1; ac_rfl
      | false => rw [hs] at e1; ac_rfl
    have h5 := Io (pG x) ds
    cases ds with
    | nil => rfl
    | cons a r =>
      have h8 : (((r.length + 1 : Nat) : Int) == 0) = false := by rw [beq_eq_false_iff_ne]; omega
      cases hn : (a :: r).all (pG x) with
      | false =>
        rw [hn] at h5
        generalize List.map (fun d => D.bl (pG x d)) (a :: r) = T at c1 h5
        ac_rfl
      | true =>
        rw [hn] at h5
        obtain ⟨zs, e⟩ := all_strs id (fun d => We) hn
        rw [List.map_id] at e
        generalize List.map (fun d => D.bl (pG x d)) (a :: r) = T at c1 h5
        have hl := congrArg List.length e
        rw [List.length_map] at hl
        have h6 := rises .tup (.inl rfl) zs (by omega)
        rw [← e] at h6
        rw [e, uq, ← e]
        clear hl e hn
        ac_rfl
  | _ => rfl
def Oa (d : D) : Bool := lQ [111, 110, 99, 101] d || lQ [97, 108, 111, 110, 103] d
def vg (x : List Nat) : D → Bool
  | .tup [w, c, l, r] => Oa w && (zX x c && (zU x l && zU x r))
  | _ => false
def sz (d : D) : Prop := ∀ ds, d = .tup ds → ds.length ≤ 1000
theorem is_rule (S : D) (x : List Nat) (hS : cR [S] = some (.tup (j5 x))) (d : D) (h : pl 3 d = true) (hz : ∀ ds, d = .tup ds → ∀ e ∈ ds, sz e) : dC [S, d] = some (.bl (vg x d)) := by
  unfold dC rA
  cases d with
  | tup ds =>
    have h1 : jc (.tup ds) "tuple" = true := rfl
    match ds with
    | [w, c, l, r] =>
      have hz := hz _ rfl
      have h6 : vg x (.tup [w, c, l, r]) = (Oa w && (zX x c && (zU x l && zU x r))) := rfl
      rw [h6]
      have p := iW h
      have mono : ∀ {d : D}, pl 2 d = true → pl 1 d = true := fun {d} hd => by
        cases d with
        | tup xs => exact List.all_eq_true.mpr fun e he => pl0 (List.all_eq_true.mp hd e he)
        | arr xs => cases hd
        | _ => rfl
      have i1 := Ni [[111, 110, 99, 101], [97, 108, 111, 110, 103]] w (pl0 (p w (by simp)))
      have ew : ([[111, 110, 99, 101], [97, 108, 111, 110, 103]].any fun z => lQ z w) = Oa w := by
        show (lQ _ w || (lQ _ w || false)) = (lQ _ w || lQ _ w)
        rw [Bool.or_false]
      rw [ew, List.map_cons, List.map_cons, List.map_nil] at i1
      have i2 := are_changes x c (p c (by simp)) (hz c (by simp))
      have i3 := are_signs x l (mono (p l (by simp))) (hz l (by simp))
      have i4 := are_signs x r (mono (p r (by simp))) (hz r (by simp))
      clear h6 ew p mono h hz
      cases hw : Oa w with
      | false => rw [hw] at i1; ac_rfl
      | true =>
        rw [hw] at i1
        cases hc : zX x c with
        | false => rw [hc] at i2; ac_rfl
        | true =>
          rw [hc] at i2
          cases hl : zU x l with
          | false => rw [hl] at i3; ac_rfl
          | true => rw [hl] at i3; ac_rfl
    | [] => rfl
    | [_] => rfl
    | [_, _] => rfl
    | [_, _, _] => rfl
    | a :: b :: c :: e :: f :: r =>
      have h7 : (((r.length + 1 + 1 + 1 + 1 + 1 : Nat) : Int) == 4) = false := by rw [beq_eq_false_iff_ne]; omega
      clear hz h
      ac_rfl
  | _ => rfl
open Ev PySem L2
open Gd (good)
structure Jy (x : List Nat) : Prop where
  pos : 1 ≤ x.length
  few : x.length ≤ 4
  ltr : ∀ c ∈ x, 97 ≤ c ∧ c ≤ 122
  ris : x.Pairwise (· < ·)
theorem aai {x : List Nat} (h : good x = true) : Jy x := by
  unfold good at h
  simp only [Bool.and_eq_true, decide_eq_true_eq, List.all_eq_true] at h
  refine ⟨h.1.1.1, h.1.1.2, h.1.2, ?_⟩
  have go : ∀ x : List Nat, Gd.xB x = true → x.Pairwise (· < ·) := by
    intro x
    induction x with
    | nil => intro _; exact .nil
    | cons a r ih =>
      intro hr
      cases r with
      | nil => exact List.pairwise_singleton _ _
      | cons b r =>
        have hr' : (decide (a < b) && Gd.xB (b :: r)) = true := hr
        rw [Bool.and_eq_true, decide_eq_true_eq] at hr'
        have ih := ih hr'.2
        refine List.Pairwise.cons (fun z hz => ?_) ih
        rcases List.mem_cons.mp hz with rfl | hz
        · exact hr'.1
        · exact Nat.lt_trans hr'.1 ((List.pairwise_cons.mp ih).1 z hz)
  exact go _ h.2
theorem tk (n m : Int) (h : 0 < m ∧ m < 1073741824) : aG [.lst [.int n], .int m] = some (.int (n % m), .lst [.int (n / m)]) := by
  unfold aG fD
  have e : mz [.int n, .int m] = some (.tup [.int (n / m), .int (n % m)]) := if_pos h
  have g : ∀ (d : D) (a b : Option (Bool × D)), HY 0 (aN (.int 0)) d [(some (true, .lst [.int n])), a, b] = some [(some (true, .lst [d])), a, b] := fun _ _ _ => rfl
  ac_rfl
def pb (n k : Nat) : Bool := Builtin.bitAnd ((n : Int) / 2 ^ k) 1 == 1
theorem Sy (z : List Nat) (hz : z.length ≤ 100) (n : Nat) (a b : Option (Bool × D)) : gq [a, b, (some (false, .int (n : Int))), (some (false, .str z))] = .ok (.lst (((List.range z.length).filter (pb n)).map fun k => .str [z.getD k 0])) [a, b, (some (false, .int (n : Int))), (some (false, .str z))] := by
  unfold gq
  refine Ex (List.range z.length) (fun k => .int (k : Nat)) (pb n) (fun k => .str [z.getD k 0]) ?_ rfl rfl (fun k hk => ?_) (fun k hk _ => ?_) (by rw [List.length_range]; exact Nat.le_trans hz (by decide))
  · have := Rk (n := z.length) (by omega)
    ac_rfl
  · have h1 : Ag (.int (n : Int)) (.int (k : Int)) = some (.int ((n : Int) / 2 ^ k)) := by
      unfold Ag gI
      simp only
      rw [if_pos (decide_eq_true (Int.natCast_nonneg k)), Int.toNat_natCast]
    have h2 : Es (.int ((n : Int) / 2 ^ k)) (.int 1) = some (.int (Builtin.bitAnd ((n : Int) / 2 ^ k) 1)) := rfl
    unfold pb
    ac_rfl
  · have hk := List.mem_range.mp hk
    have h1 : pq z (k : Int) = some (z.getD k 0) := by rw [atN]; simp [hk]
    ac_rfl
theorem RT (z : List Nat) (n : Nat) : ∃ u : List Nat, u.Sublist z ∧ ((List.range z.length).filter (pb n)).map (fun k => D.str [z.getD k 0]) = j5 u := by
  refine ⟨((List.range z.length).filter (pb n)).map fun k => z.getD k 0, ?_, ?_⟩
  · have e : (List.range z.length).map (fun k => z.getD k 0) = z := by
      apply List.ext_getElem
      · simp
      · intro i h1 h2
        simp [h2]
    have := (List.filter_sublist (p := pb n) (l := List.range z.length)).map fun k => z.getD k 0
    rw [e] at this
    exact this
  · unfold j5
    rw [List.map_map]
    rfl
theorem RW : ∀ m, 2 ≤ m → m ≤ 5 → ∀ n, 1 ≤ n → n < 2 ^ m → (List.range m).filter (pb n) ≠ [] := by
  have h : ((List.range 6).all fun m => (List.range (2 ^ m)).all fun n => decide (n = 0) || !((List.range m).filter (pb n)).isEmpty) = true := by decide +kernel
  intro m h1 h2 n h3 h4
  have := List.all_eq_true.mp (List.all_eq_true.mp h m (List.mem_range.mpr (by omega))) n (List.mem_range.mpr h4)
  rw [Bool.or_eq_true] at this
  rcases this with e | e
  · have := of_decide_eq_true e; omega
  · intro z
    rw [z] at e
    cases e
inductive Qy (x : List Nat) : D → Prop
  | non : Qy x .non
  | some (u : List Nat) : u ≠ [] → u.Sublist (35 :: x) → Qy x (.tup (j5 u))
theorem signs (n : Int) (x : List Nat) (hx : Jy x) : ∃ r n', cU [.lst [.int n], .str x] = some (r, .lst [.int n']) ∧ Qy x r := by
  have ht := tk
  obtain ⟨d, hd, e⟩ := dig n 2 (by decide)
  have e' : n % 2 = (d : Int) := e
  have h1 := hx.pos
  have h2 := hx.few
  by_cases h0 : d = 0
  · subst h0
    refine ⟨.non, n / 2, ?_, .non⟩
    unfold cU jQ
    clear hx
    ac_rfl
  · have h0' : ((d : Int) == 0) = false := by rw [beq_eq_false_iff_ne]; omega
    have hp : 2 ^ (x.length + 1) = 2 * 2 ^ x.length := by rw [Nat.pow_succ]; omega
    have hpp : 0 < 2 ^ x.length := Nat.pow_pos (by decide)
    have hl : 2 ^ x.length ≤ 16 := Nat.le_trans (Nat.pow_le_pow_right (by decide) h2) (by decide)
    obtain ⟨m, hm, em⟩ := dig (n / 2) (2 * 2 ^ x.length - 1) (by omega)
    have ec : (((2 * 2 ^ x.length - 1 : Nat)) : Int) = 2 * 2 ^ x.length - 1 := by
      rw [Int.natCast_sub (by omega)]
      push_cast
      rfl
    rw [ec] at em
    have hs : Qf (.int 2) (.int (x.length : Int)) = some (.int (2 * 2 ^ x.length)) := by
      unfold Qf gI
      simp only
      rw [if_pos (decide_eq_true ⟨by omega, by omega, by decide⟩), Int.toNat_natCast]
    obtain ⟨u, hu, eu⟩ := RT (35 :: x) (1 + m)
    have hlc := Sy (35 :: x) (by rw [List.length_cons]; omega) (1 + m) (some (true, .lst [.int (n / 2 / (2 * 2 ^ x.length - 1))])) (some (false, .str x))
    rw [eu] at hlc
    have e1 : (((1 + m : Nat)) : Int) = 1 + (m : Int) := by push_cast; rfl
    rw [e1] at hlc
    have hb : (0 : Int) < 2 * 2 ^ x.length - 1 ∧ (2 : Int) * 2 ^ x.length - 1 < 1073741824 := by
      have hI : (2 : Int) ^ x.length = ((2 ^ x.length : Nat) : Int) := by push_cast; rfl
      rw [hI]
      clear em hs ec hp hlc eu e1 hm
      generalize 2 ^ x.length = j at hpp hl ⊢
      omega
    have ht2 := tk (n / 2) (2 * 2 ^ x.length - 1) hb
    rw [em] at ht2
    have hadd : bU (.str [35]) (.str x) = some (.str (35 :: x)) := Nu (a := [35]) (Nat.le_trans (show 1 + x.length ≤ 100 by omega) (by decide))
    refine ⟨.tup (j5 u), n / 2 / (2 * 2 ^ x.length - 1), ?_, .some u (fun z => ?_) hu⟩
    · unfold cU jQ
      clear hx em eu hb ec hp e hd
      ac_rfl
    · subst z
      have hn := RW (x.length + 1) (by omega) (by omega) (1 + m) (by omega) (by omega)
      rw [List.length_cons] at eu
      exact hn (List.map_eq_nil_iff.mp eu)
open QD (Ar PV oth prs O4 DY Bd)
theorem Pz (x : List Nat) (hx : x.length ≤ 4) (c : Nat) (a b v3 v5 : Option (Bool × D)) : eE [a, (some (false, .str x)), b, v3, (some (false, .str [c])), v5] = .ok (.lst (oth x c)) [a, (some (false, .str x)), b, v3, (some (false, .str [c])), v5] := by
  unfold eE oth
  refine Ex (x.map (fun a => [a]) ++ [[]]) .str (fun z => z != [c]) .str ?_ rfl rfl (fun z hz => ?_) (fun z hz _ => ?_) ?_
  · have e : Ev.signs x = (x.map fun a => [a]).map .str := by unfold Ev.signs; rw [List.map_map]; rfl
    have e2 : (x.map (fun a => [a]) ++ [[]]).map D.str = (x.map fun a => [a]).map .str ++ [.str []] := by rw [List.map_append]; rfl
    rw [e2]
    ac_rfl
  · have : (z != [c]) = !(z == [c]) := rfl
    rw [this]
    ac_rfl
  · ac_rfl
  · rw [List.length_append, List.length_map]
    exact Nat.le_trans (show x.length + 1 ≤ 10 by omega) (by decide)
theorem aaV (x : List Nat) (c : Nat) : 0 < (oth x c).length := by
  unfold oth
  rw [List.length_map]
  refine List.length_pos_of_mem (a := []) ?_
  rw [List.mem_filter]
  exact ⟨by simp, by simp⟩
theorem aaW (x : List Nat) (hx : x.length ≤ 4) (c : Nat) : (oth x c).length ≤ 10 := by
  unfold oth
  rw [List.length_map]
  refine Nat.le_trans (List.length_filter_le _ _) ?_
  rw [List.length_append, List.length_map]
  show x.length + 1 ≤ 10
  omega
theorem atD {xs : List D} {d : Nat} (h : d < xs.length) : pq xs (d : Int) = some xs[d] := LK h
theorem round (n : Int) (x : List Nat) (hx : Jy x) (kvs : List (D × D)) (hk : kvs.length ≤ 10) (v3 v4 v5 : Option (Bool × D)) : ∃ p n' v4' v5', p ∈ PV x ∧ p.1 ∈ x ∧ cW [(some (true, .lst [.int n])), (some (false, .str x)), (some (true, .dct kvs)), v3, v4, v5] = .nx [(some (true, .lst [.int n'])), (some (false, .str x)), (some (true, .dct (O4 kvs p))), v3, v4', v5'] := by
  have h1 := hx.pos
  have h2 := hx.few
  obtain ⟨i, hi, ei⟩ := dig n x.length (by omega)
  have hat := LK hi
  have hmem : x[i] ∈ x := List.getElem_mem hi
  generalize x[i] = c at hat hmem
  have o1 := aaV x c
  have o2 := aaW x h2 c
  obtain ⟨j, hj, ej⟩ := dig (n / (x.length : Int)) (oth x c).length o1
  have ahp := atD hj
  have hv : (c, (oth x c)[j]) ∈ PV x := List.mem_flatMap.mpr ⟨c, hmem, List.mem_map.mpr ⟨_, List.getElem_mem hj, rfl⟩⟩
  generalize (oth x c)[j] = v at ahp hv
  have t1 := tk n (x.length : Int) (by omega)
  rw [ei] at t1
  have t2 := tk (n / (x.length : Int)) ((oth x c).length : Int) (by omega)
  rw [ej] at t2
  have hl := Pz x h2 c (some (true, .lst [.int (n / (x.length : Int))])) (some (true, .dct kvs)) v3 v5
  refine ⟨(c, v), n / (x.length : Int) / ((oth x c).length : Int), (some (false, .str [c])), (some (true, .lst (oth x c))), hv, hmem, ?_⟩
  have afC : O4 kvs (c, v) = putD kvs (.str [c]) (.inr (strOf [c])) v := rfl
  rw [afC]
  unfold cW
  clear hx ei ej hmem hv afC o1 o2
  ac_rfl
inductive Vz (x : List Nat) : D → Prop
  | put (c : Nat) : c ∈ x → Vz x (.tup [.tup [.str [], .str [c]]])
  | chs (kvs : List (D × D)) (zs : List Nat) : Ar x kvs zs → 0 < zs.length → zs.length ≤ 3 → Vz x (.tup (prs kvs ((cB (zs.map fun c => [c])).map D.str)))
theorem SJ {x : List Nat} {kvs : List (D × D)} {zs : List Nat} (h : Ar x kvs zs) (h4 : zs.length ≤ 3) (a b v3 v4 v5 : Option (Bool × D)) : d9 [a, b, (some (true, .dct kvs)), v3, v4, v5] = .ok (.lst (prs kvs ((cB (zs.map fun c => [c])).map D.str))) [a, b, (some (true, .dct kvs)), v3, v4, v5] := by
  unfold d9 prs
  have hs := Bd h h4
  refine tM ((cB (zs.map fun c => [c])).map D.str) id _ ?_ rfl rfl (fun k hk => ?_) ?_
  · rw [List.map_id]
    ac_rfl
  · obtain ⟨c, v, rfl, hv, _⟩ := DY h k hk
    simp only [id]
    rw [hv]
    clear hk h hs
    ac_rfl
  · rw [List.length_map, (fc _).length_eq, List.length_map]
    exact Nat.le_trans h4 (by decide)
theorem changes (n : Int) (x : List Nat) (hx : Jy x) : ∃ ch n', cV [.lst [.int n], .str x] = some (ch, .lst [.int n']) ∧ Vz x ch := by
  have h1 := hx.pos
  have h2 := hx.few
  have t0 := tk n 5 (by decide)
  obtain ⟨d, hd, e⟩ := dig n 5 (by decide)
  have e' : n % 5 = (d : Int) := e
  rw [e'] at t0
  by_cases h0 : d = 0
  · subst h0
    obtain ⟨i, hi, ei⟩ := dig (n / 5) x.length (by omega)
    have hat := LK hi
    have hmem : x[i] ∈ x := List.getElem_mem hi
    generalize x[i] = c at hat hmem
    have t1 := tk (n / 5) (x.length : Int) (by omega)
    rw [ei] at t1
    refine ⟨_, n / 5 / (x.length : Int), ?_, .put c hmem⟩
    unfold cV ik
    clear hx e e' ei hmem
    ac_rfl
  · have h0' : ((d : Int) == 0) = false := by rw [beq_eq_false_iff_ne]; omega
    obtain ⟨m, hm, em⟩ := dig (n / 5) 3 (by decide)
    have t1 := tk (n / 5) 3 (by decide)
    have em' : n / 5 % 3 = (m : Int) := em
    rw [em'] at t1
    have hr : yj [.int (1 + (m : Int))] = some ((List.range (1 + m)).map fun (i : Nat) => D.int (i : Int)) := by
      have := Rk (n := 1 + m) (by omega)
      push_cast at this
      exact this
    obtain ⟨e1, f1, n', kvs, zs, v3, v4, v5, rfl, hk, hz, hkl⟩ := Bv (g := au 3) (b := cW) ((List.range (1 + m)).map fun (i : Nat) => D.int (i : Int)) (fun done env => ∃ (n : Int) (kvs : List (D × D)) (zs : List Nat) (v3 v4 v5 : Option (Bool × D)), env = [(some (true, .lst [.int n])), (some (false, .str x)), (some (true, .dct kvs)), v3, v4, v5] ∧ Ar x kvs zs ∧ zs.length ≤ done.length ∧ (0 < done.length → 0 < zs.length))
      (fun done s rest hall env ⟨n, kvs, zs, v3, v4, v5, he, hk, hl, hp⟩ => by
        subst he
        have hdl : done.length ≤ 3 := by
          have := congrArg List.length hall
          rw [List.length_map, List.length_range, List.length_append, List.length_cons] at this
          omega
        have hkl : kvs.length ≤ 10 := by
          have := congrArg List.length hk.keys
          rw [List.length_map, List.length_map] at this
          omega
        obtain ⟨p, n', v4', v5', hp1, hp2, hb⟩ := round n x hx kvs hkl (some (false, s)) v4 v5
        obtain ⟨Z7, hk', hz1, hz2⟩ := hk.put hp1 hp2
        refine ⟨_, _, rfl, hb, n', O4 kvs p, Z7, _, _, _, rfl, hk', ?_, fun _ => hz1⟩
        rw [List.length_append]
        show Z7.length ≤ done.length + 1
        omega)
      [(some (true, .lst [.int (n / 5 / 3)])), (some (false, .str x)), (some (true, .dct [])), none, none, none] ⟨_, [], [], _, _, _, rfl, ⟨rfl, .nil, by simp, by simp⟩, by simp, by simp⟩
    rw [List.length_map, List.length_range] at hz hkl
    have hz3 : zs.length ≤ 3 := by omega
    have hc := SJ hk hz3 (some (true, .lst [.int n'])) (some (false, .str x)) v3 v4 v5
    refine ⟨_, n', ?_, .chs kvs zs hk (hkl (by omega)) hz3⟩
    unfold cV ik
    clear hx e e' em em' hkl hk
    ac_rfl
inductive t8 (x : List Nat) : D → Prop
  | mk (w ch l r : D) : w = .str [111, 110, 99, 101] ∨ w = .str [97, 108, 111, 110, 103] → Vz x ch → Qy x l → Qy x r → t8 x (.tup [w, ch, l, r])
theorem rule (n : Int) (x : List Nat) (hx : Jy x) : ∃ R n', fB [.lst [.int n], .str x] = some (R, .lst [.int n']) ∧ t8 x R := by
  have t0 := tk n 2 (by decide)
  obtain ⟨d, hd, e⟩ := dig n 2 (by decide)
  have e' : n % 2 = (d : Int) := e
  rw [e'] at t0
  obtain ⟨ch, n1, h1, hc⟩ := changes (n / 2) x hx
  obtain ⟨l, n2, h2, hl⟩ := signs n1 x hx
  obtain ⟨r, n3, h3, hr⟩ := signs n2 x hx
  obtain ⟨w, hw, hw2⟩ : ∃ w, pq [D.str [111, 110, 99, 101], .str [97, 108, 111, 110, 103]] (d : Int) = some w ∧ (w = .str [111, 110, 99, 101] ∨ w = .str [97, 108, 111, 110, 103]) := by
    have : d = 0 ∨ d = 1 := by omega
    rcases this with rfl | rfl
    · exact ⟨_, rfl, .inl rfl⟩
    · exact ⟨_, rfl, .inr rfl⟩
  refine ⟨_, n3, ?_, .mk w ch l r hw2 hc hl hr⟩
  unfold fB oR
  clear hx e e' hc hl hr hw2
  ac_rfl
end jh
set_option maxHeartbeats 8000000
namespace jh
open Ev PySem L2
def OUT : List Nat := [113, 118, 109, 101, 104, 97, 98, 99, 100, 102, 103]
theorem aaT (x : List Nat) (hx : x.length ≤ 4) : ∃ o r, OUT.filter (fun c => !decide (c ∈ x)) = o :: r ∧ o ∉ x ∧ 97 ≤ o := by
  cases h : OUT.filter (fun c => !decide (c ∈ x)) with
  | nil =>
    exfalso
    have hs : OUT ⊆ x := fun c hc => by
      have := List.filter_eq_nil_iff.mp h c hc
      simpa using this
    have hn : OUT.Nodup := by decide
    have := List.Nodup.length_le_of_subset hn hs
    have e : OUT.length = 11 := rfl
    omega
  | cons o r =>
    refine ⟨o, r, rfl, ?_⟩
    have : o ∈ OUT.filter (fun c => !decide (c ∈ x)) := by rw [h]; exact List.mem_cons_self
    have h1 := List.mem_filter.mp this
    have h2 : ∀ c ∈ OUT, 97 ≤ c := by decide
    exact ⟨by simpa using h1.2, h2 o h1.1⟩
theorem Xi (x : List Nat) (hx : x.length ≤ 4) : ∃ o, o ∉ x ∧ 97 ≤ o ∧ eF [.str x] = some (.str [o]) := by
  obtain ⟨o, r, ho, hn, h97⟩ := aaT x hx
  refine ⟨o, hn, h97, ?_⟩
  have hl : jb [(some (false, .str x))] = .ok (.lst ((OUT.filter (fun c => !decide (c ∈ x))).map fun c => .str [c])) [(some (false, .str x))] := by
    unfold jb
    refine Ex OUT (fun c => .str [c]) (fun c => !decide (c ∈ x)) (fun c => .str [c]) (by rfl) rfl rfl (fun c _ => ?_) (fun c _ _ => ?_) (by decide)
    · have : ou (.str [c]) (.str x) = some (.bl (!decide (c ∈ x))) := rfl
      ac_rfl
    · ac_rfl
  rw [ho] at hl
  unfold eF rz
  ac_rfl
def S1 (c o : Nat) : List D := [.tup [], .str [], .str [c], .str [35], .lst [.str [c]], .lst [], .tup [.str [c], .str [c]], .tup [.str [c], .str [35]], .tup [.str [35], .str [35]], .tup [.str [o]], .tup [.non], .tup [.int 7], .tup [.str []], .tup [.bl true], .dct []]
def S2 (c : Nat) : List Nat → List D
  | [] => []
  | b :: _ => [.tup [.str [b], .str [c]], .tup [.str [b], .str [35]], .tup [.str [c, b]]]
abbrev p1 (a b : D) : D := .tup [.tup [a, b]]
abbrev p2 (a b c d : D) : D := .tup [.tup [a, b], .tup [c, d]]
open Ev PySem L2
def ODD : List D := [.str [], .str [79, 110, 99, 101], .str [98, 111, 116, 104], .str [108, 101, 102, 116], .non, .int 7, .bl true, .tup [.str [111, 110, 99, 101]], .lst [.str [111, 110, 99, 101]], .dct [], .lst [.dct []]]
def T0 (w ch l r : D) : List D := [.non, .int 7, .str [111, 110, 99, 101], .tup [], .dct [], .lst [w, ch, l, r], .tup [w, ch, l], .tup [w, ch, l, r, .non], .tup [.tup [w, ch, l, r]], .tup [ch, l, r], .tup [r, l, ch, w]]
def T (w ch l r : D) (CH SG : List D) : List D := T0 w ch l r ++ (ODD.map fun o => .tup [o, ch, l, r]) ++ (CH.map fun o => .tup [w, o, l, r]) ++ SG.flatMap fun o => [.tup [w, ch, o, r], .tup [w, ch, l, o]]
open Ev PySem L2
open QD (Ar PV oth prs DY)
theorem aal (n : Nat) (u : List Nat) : pl (n + 1) (.tup (j5 u)) = true := by
  show (j5 u).all (pl n) = true
  unfold j5
  rw [List.all_map, List.all_eq_true]
  intro c _
  cases n <;> rfl
theorem lt1 {a b : Nat} : ([a] : List Nat) < [b] ↔ a < b := by
  rw [List.cons_lt_cons_iff]
  exact ⟨fun h => h.elim id fun h => absurd h.2 (List.lt_irrefl _), .inl⟩
theorem J7 : ∀ {zs : List (List Nat)}, zs.Pairwise (· < ·) → CW zs = true
  | [], _ => rfl
  | [_], _ => rfl
  | x :: y :: r, h => by
    have h' := List.pairwise_cons.mp h
    show (decide (x < y) && CW (y :: r)) = true
    rw [J7 h'.2, decide_eq_true (h'.1 y (by simp))]
    rfl
theorem Wj {u : List Nat} (h : u.Pairwise (· < ·)) : ur (j5 u) = true := by
  rw [Mx, uq]
  refine J7 ?_
  rw [List.pairwise_map]
  exact h.imp fun h => lt1.mpr h
theorem Y7 {x : List Nat} (hx : Jy x) {d : D} (h : Qy x d) : zU x d = true ∧ pl 2 d = true ∧ sz d ∧ Oa d = false := by
  cases h with
  | non => exact ⟨rfl, rfl, (fun ds e => by cases e), rfl⟩
  | some u hu hs =>
    refine ⟨?_, aal 1 u, fun ds e => ?_, rfl⟩
    · show (!(j5 u).isEmpty && ((j5 u).all (pG x) && ur (j5 u))) = true
      have e1 : (j5 u).isEmpty = false := by cases u with | nil => exact absurd rfl hu | cons a r => rfl
      have e2 : (j5 u).all (pG x) = true := by
        unfold j5
        rw [List.all_map, List.all_eq_true]
        intro c hc
        show (([c] == [35]) || decide (c ∈ x)) = true
        rcases List.mem_cons.mp (hs.subset hc) with rfl | h
        · rfl
        · rw [decide_eq_true h, Bool.or_true]
      have e3 : ur (j5 u) = true := Wj (List.Pairwise.sublist hs (List.pairwise_cons.mpr ⟨fun c hc => by have := hx.ltr c hc; omega, hx.ris⟩))
      rw [e1, e2, e3]
      rfl
    · cases e
      have := hs.length_le
      have h4 := hx.few
      unfold j5
      rw [List.length_map]
      rw [List.length_cons] at this
      omega
theorem RC {x : List Nat} {c : Nat} {v : D} (h : (c, v) ∈ PV x) : c ∈ x ∧ ∃ z, v = .str z ∧ z ≠ [c] ∧ (z = [] ∨ ∃ b ∈ x, z = [b]) := by
  unfold PV at h
  obtain ⟨c', hc, h2⟩ := List.mem_flatMap.mp h
  obtain ⟨v', h3, h4⟩ := List.mem_map.mp h2
  cases h4
  unfold oth at h3
  obtain ⟨z, h5, rfl⟩ := List.mem_map.mp h3
  obtain ⟨h6, h7⟩ := List.mem_filter.mp h5
  refine ⟨hc, z, rfl, by simpa using h7, ?_⟩
  rcases List.mem_append.mp h6 with h | h
  · obtain ⟨b, hb, rfl⟩ := List.mem_map.mp h
    exact .inr ⟨b, hb, rfl⟩
  · exact .inl (by simpa using h)
theorem aey {x : List Nat} {c : Nat} {v : D} (h : (c, v) ∈ PV x) : tR x (.tup [.str [c], v]) = true := by
  obtain ⟨hc, z, rfl, hz, h2⟩ := RC h
  show (decide (c ∈ x) && ((xE x (.str z) || lQ [] (.str z)) && !([c] == z))) = true
  have e1 : ([c] == z) = false := by rw [beq_eq_false_iff_ne]; exact fun e => hz e.symm
  rw [decide_eq_true hc, e1]
  rcases h2 with rfl | ⟨b, hb, rfl⟩
  · rfl
  · show (true && ((decide (b ∈ x) || _) && true)) = true
    rw [decide_eq_true hb]
    rfl
theorem le1 {a b : Nat} (h : ([a] : List Nat) ≤ [b]) : a ≤ b := by
  apply Nat.le_of_not_lt
  intro hl
  exact h (lt1.mpr hl)
theorem Q9 {zs : List Nat} (hn : zs.Nodup) : CW (cB (zs.map fun c => [c])) = true := by
  have hp := fc (zs.map fun c => [c])
  have hs := nR (zs.map fun c => [c])
  have hnd : (cB (zs.map fun c => [c])).Nodup := hp.nodup_iff.mpr (List.pairwise_map.mpr (hn.imp fun h e => h (by simpa using e)))
  refine J7 ?_
  have hall : ∀ z ∈ cB (zs.map fun c => [c]), ∃ c, z = [c] := fun z hz => by
    obtain ⟨c, _, e⟩ := List.mem_map.mp (hp.mem_iff.mp hz)
    exact ⟨c, e.symm⟩
  have := List.Pairwise.and hs hnd
  refine List.Pairwise.imp_of_mem ?_ this
  intro a b ha hb h
  obtain ⟨c, rfl⟩ := hall a ha
  obtain ⟨d, rfl⟩ := hall b hb
  have h1 := le1 h.1
  have h2 : c ≠ d := fun e => h.2 (by rw [e])
  exact lt1.mpr (by omega)
theorem af6 {x : List Nat} {d : D} (h : Vz x d) : zX x d = true ∧ pl 2 d = true ∧ sz d := by
  cases h with
  | put c hc =>
    refine ⟨?_, rfl, fun ds e => by cases e; show 1 ≤ 1000; omega⟩
    show (true && ((true && (true && decide (c ∈ x))) || _)) = true
    rw [decide_eq_true hc]
    rfl
  | chs kvs zs hk h0 h3 =>
    have hl : (prs kvs ((cB (zs.map fun c => [c])).map D.str)).length = zs.length := by
      unfold prs
      rw [List.length_map, List.length_map, (fc _).length_eq, List.length_map]
    have hall : ∀ d ∈ prs kvs ((cB (zs.map fun c => [c])).map D.str), ∃ c v, d = .tup [.str [c], v] ∧ (c, v) ∈ PV x := fun d hd => by
      unfold prs at hd
      obtain ⟨k, hk2, rfl⟩ := List.mem_map.mp hd
      obtain ⟨c, v, rfl, hv, hp⟩ := DY hk k hk2
      exact ⟨c, v, by rw [hv]; rfl, hp⟩
    have hf : (prs kvs ((cB (zs.map fun c => [c])).map D.str)).map fst = (cB (zs.map fun c => [c])).map D.str := by
      unfold prs
      rw [List.map_map]
      have : (fst ∘ fun k => D.tup [k, (rT (.dct kvs) k).getD .non]) = id := rfl
      rw [this, List.map_id]
    refine ⟨?_, ?_, fun ds e => by cases e; rw [hl]; omega⟩
    · show (!(prs kvs ((cB (zs.map fun c => [c])).map D.str)).isEmpty && ((_ && _) || ((prs kvs ((cB (zs.map fun c => [c])).map D.str)).all (tR x) && ur ((prs kvs ((cB (zs.map fun c => [c])).map D.str)).map fst)))) = true
      have e1 : (prs kvs ((cB (zs.map fun c => [c])).map D.str)).isEmpty = false := by
        cases h : prs kvs ((cB (zs.map fun c => [c])).map D.str) with
        | nil => rw [h] at hl; simp at hl; omega
        | cons a r => rfl
      have e2 : (prs kvs ((cB (zs.map fun c => [c])).map D.str)).all (tR x) = true := List.all_eq_true.mpr fun d hd => by
        obtain ⟨c, v, rfl, hp⟩ := hall d hd
        exact aey hp
      rw [e1, e2, hf, uq, Q9 hk.nd]
      simp
    · refine List.all_eq_true.mpr fun d hd => ?_
      obtain ⟨c, v, rfl, hp⟩ := hall d hd
      obtain ⟨_, z, rfl, _⟩ := RC hp
      rfl
theorem G7 {x : List Nat} (hx : Jy x) {d : D} (h : t8 x d) : vg x d = true ∧ pl 3 d = true ∧ ∀ ds, d = .tup ds → ∀ e ∈ ds, sz e := by
  cases h with
  | mk w ch l r hw hc hl hr =>
    obtain ⟨c1, c2, c3⟩ := af6 hc
    obtain ⟨l1, l2, l3, _⟩ := Y7 hx hl
    obtain ⟨r1, r2, r3, _⟩ := Y7 hx hr
    have w1 : Oa w = true := by rcases hw with rfl | rfl <;> rfl
    have w2 : pl 2 w = true := by rcases hw with rfl | rfl <;> rfl
    have w3 : sz w := by rcases hw with rfl | rfl <;> exact fun ds e => by cases e
    refine ⟨?_, ?_, ?_⟩
    · show (Oa w && (zX x ch && (zU x l && zU x r))) = true
      rw [w1, c1, l1, r1]; rfl
    · show (pl 2 w && (pl 2 ch && (pl 2 l && (pl 2 r && true)))) = true
      rw [w2, c2, l2, r2]; rfl
    · intro ds e
      cases e
      intro e he
      simp only [List.mem_cons, List.not_mem_nil, or_false] at he
      rcases he with rfl | rfl | rfl | rfl
      · exact w3
      · exact c3
      · exact l3
      · exact r3
open Ev PySem L2
open Gd (good Rw row snd ZV)
theorem Dm : dR = QD.dR := rfl
theorem xQ : cT = Gd.cT := rfl
theorem u0 : cF = Gd.cF := rfl
theorem sounds_of (L : List Rw) (hL : L.length ≤ 4) : cR [.tup (L.map row)] = some (.tup (j5 (L.map (·.1)))) := by
  unfold cR mD
  have h4 : cZ [(some (false, .tup (L.map row)))] = .ok (.lst (j5 (L.map (·.1)))) [(some (false, .tup (L.map row)))] := by
    unfold cZ
    have := Ew (lo := 1) (n := 3) (it := ig (az 0)) (g := fL 2 (bu (au 1) (bu (au 2) (gw)))) (c := bW) (e := az 1) (env := [(some (false, .tup (L.map row)))]) L row (fun p => [(some (false, .str [p.1])), (some (false, .tup (p.2.map .str)))]) (fun _ => true) (fun p => .str [p.1]) (by ac_rfl) rfl (fun p hp => by
      refine ⟨rfl, fun vs hv => ?_, rfl, fun _ => rfl⟩
      match vs, hv with
      | [_, _], _ => rfl) (Nat.le_trans hL (by decide))
    rw [List.filter_eq_self.mpr (fun _ _ => rfl)] at this
    unfold j5
    rw [List.map_map]
    exact this
  ac_rfl
theorem wM (b : Bool) : eG [.bl b, .bl b] = some (.bl true) := by cases b <;> rfl
theorem all_true {α : Type} (l : List α) : ph [.lst (l.map fun _ => D.bl true)] = some (.bl true) := by
  rw [Io (fun _ => true)]
  simp
open Ev PySem L2
open Gd (good Rw row snd ZV)
end jh
namespace wZ
open Ev PySem L2
open jh (lQ xE pl pl0 iW vg sz Jy t8 RN Oa zX zU tR Dk)
theorem xA : dC = jh.dC := rfl
theorem W2 : cA = jh.cA := rfl
theorem Sv : fB = jh.fB := rfl
theorem Ms : aG = jh.aG := rfl
def Ox (d : D) : Bool := lQ [108, 101, 102, 116] d || lQ [114, 105, 103, 104, 116] d
theorem Kv (zs : List (List Nat)) (d : D) (h : pl 0 d = true) : j9 d (.tup (zs.map .str)) = some (.bl (!(zs.any fun z => lQ z d))) := by
  have no : (∀ z, aU 59 (.str z) d = some false) → (∀ z, lQ z d = false) → j9 d (.tup (zs.map .str)) = some (.bl (!(zs.any fun z => lQ z d))) := fun h1 h2 => by
    unfold j9 ou uD
    show ((Option.map (fun b => D.bl (!b)) (zW d (zs.map .str))).or _).or _ = _
    rw [jh.K6 h1]
    have : (zs.any fun z => lQ z d) = false := by
      rw [List.any_eq_false]
      intro z _
      rw [h2]; exact Bool.false_ne_true
    rw [this]
    rfl
  cases d with
  | str w =>
    unfold j9 ou uD
    show ((Option.map (fun b => D.bl (!b)) (zW (.str w) (zs.map .str))).or _).or _ = _
    rw [jh.Ei]
    show some (D.bl (!(zs.any (· == w)))) = some (.bl (!(zs.any fun z => w == z)))
    congr 3
    congr 1
    funext z
    exact Bool.beq_comm
  | dct kvs =>
    cases zs with
    | nil => rfl
    | cons z zs =>
      have e1 : ou (.dct kvs) (.tup ((z :: zs).map .str)) = none := rfl
      unfold j9
      rw [e1]
      show (if (bZ ((z :: zs).map D.str)).isSome then some (D.bl true) else none) = _
      rw [jh.strs_map]
      have : ((z :: zs).any fun z => lQ z (D.dct kvs)) = false := by
        rw [List.any_eq_false]
        intro z _
        exact Bool.false_ne_true
      rw [this]
      rfl
  | arr xs => cases h
  | non => exact no (fun _ => rfl) (fun _ => rfl)
  | bl b => exact no (fun _ => rfl) (fun _ => rfl)
  | int i => exact no (fun _ => rfl) (fun _ => rfl)
  | tup xs => exact no (fun _ => rfl) (fun _ => rfl)
  | lst xs => exact no (fun _ => rfl) (fun _ => rfl)
def Ge (x : List Nat) : D → Bool
  | .tup [s, .tup rs] => Ox s && (decide (rs.length ≤ 4) && rs.all (vg x))
  | _ => false
structure Ask (d : D) : Prop where
  side : ∀ s r, d = .tup [s, r] → pl 0 s = true
  rules : ∀ s rs, d = .tup [s, .tup rs] → Ox s = true → rs.length ≤ 4 → ∀ r ∈ rs, pl 3 r = true ∧ ∀ ds, r = .tup ds → ∀ e ∈ ds, sz e
theorem is_order (S : D) (x : List Nat) (hS : jh.cR [S] = some (.tup (j5 x))) (d : D) (h : Ask d) : gC [S, d] = some (.bl (Ge x d)) := by
  unfold gC zJ
  have hp := jh.is_pair d
  rw [← W2] at hp
  cases d with
  | tup ds =>
    match ds with
    | [s, r] =>
      have i1 := Kv [[108, 101, 102, 116], [114, 105, 103, 104, 116]] s (h.side s r rfl)
      have ew : ([[108, 101, 102, 116], [114, 105, 103, 104, 116]].any fun z => lQ z s) = Ox s := by
        show (lQ _ s || (lQ _ s || false)) = (lQ _ s || lQ _ s)
        rw [Bool.or_false]
      rw [ew, List.map_cons, List.map_cons, List.map_nil] at i1
      replace hp : cA [.tup [s, r]] = some (.bl true) := hp
      cases hs : Ox s with
      | false =>
        rw [hs] at i1
        replace i1 : j9 s (.tup [.str [108, 101, 102, 116], .str [114, 105, 103, 104, 116]]) = some (.bl true) := i1
        have e : Ge x (.tup [s, r]) = false := by
          unfold Ge
          split
          · rename_i e; cases e; rw [hs]; rfl
          · rfl
        rw [e]
        clear h e hs ew
        ac_rfl
      | true =>
        rw [hs] at i1
        replace i1 : j9 s (.tup [.str [108, 101, 102, 116], .str [114, 105, 103, 104, 116]]) = some (.bl false) := i1
        cases r with
        | tup rs =>
          have e : Ge x (.tup [s, .tup rs]) = (decide (rs.length ≤ 4) && rs.all (vg x)) := by
            show (Ox s && _) = _
            rw [hs]; rfl
          rw [e]
          have h1 : jc (.tup rs) "tuple" = true := rfl
          by_cases h4 : rs.length ≤ 4
          · have hr := h.rules s rs rfl hs h4
            rw [decide_eq_true h4]
            have c1 : mQ [(some (false, S)), (some (false, .tup [s, .tup rs])), (some (false, s)), (some (false, .tup rs))] = .ok (.lst (rs.map fun d => .bl (vg x d))) [(some (false, S)), (some (false, .tup [s, .tup rs])), (some (false, s)), (some (false, .tup rs))] := by
              unfold mQ
              refine tM rs id (fun d => .bl (vg x d)) (by rw [List.map_id]; rfl) rfl rfl (fun d hd => ?_) (Nat.le_trans h4 (by decide))
              have := jh.is_rule S x hS d (hr d hd).1 (hr d hd).2
              rw [← xA] at this
              simp only [id]
              clear hr hp i1 h hS
              ac_rfl
            have h5 := Io (vg x) rs
            generalize hB : rs.all (vg x) = B at h5 ⊢
            generalize hT : (rs.map fun d => D.bl (vg x d)) = T at c1 h5
            have h6 : gGt (.int (rs.length : Int)) (.int 4) = some (.bl false) := by
              show some (D.bl (decide ((4 : Int) < (rs.length : Int)))) = _
              rw [decide_eq_false (by omega)]
            have h7 : dG [.tup rs] = some (.int (rs.length : Int)) := rfl
            clear h hr e hs hS hB hT ew
            rw [Bool.true_and]
            ac_rfl
          · rw [decide_eq_false h4]
            have h6 : gGt (.int (rs.length : Int)) (.int 4) = some (.bl true) := by
              show some (D.bl (decide ((4 : Int) < (rs.length : Int)))) = _
              rw [decide_eq_true (by omega)]
            have h7 : dG [.tup rs] = some (.int (rs.length : Int)) := rfl
            clear h e hs hS ew h4
            rw [Bool.false_and]
            ac_rfl
        | _ =>
          clear h hs hS ew
          show _ = some (D.bl false)
          ac_rfl
    | [] => rfl
    | [_] => rfl
    | a :: b :: c :: r =>
      replace hp : cA [.tup (a :: b :: c :: r)] = some (.bl false) := hp
      have e : Ge x (.tup (a :: b :: c :: r)) = false := by
        unfold Ge
        split
        · rename_i e; cases e
        · rfl
      rw [e]
      clear h hS e
      ac_rfl
  | _ => rfl
theorem Bq (n : Int) (x : List Nat) (hx : Jy x) (m : Nat) (hm : m = 4 ∨ m = 3) : ∃ s Rs n', eV [.lst [.int n], .str x, .int (m : Int)] = some (.tup [s, .tup Rs], .lst [.int n']) ∧ Ox s = true ∧ pl 0 s = true ∧ (∃ z, s = .str z) ∧ (∀ R ∈ Rs, t8 x R) ∧ Rs.length ≤ m := by
  obtain ⟨d, hd, e⟩ := dig n 2 (by decide)
  have t0 := jh.tk n 2 (by decide)
  have e' : n % 2 = (d : Int) := e
  rw [e', ← Ms] at t0
  obtain ⟨s, hs, h1⟩ : ∃ s, pq [D.str [108, 101, 102, 116], .str [114, 105, 103, 104, 116]] (d : Int) = some s ∧ (s = .str [108, 101, 102, 116] ∨ s = .str [114, 105, 103, 104, 116]) := by
    have : d = 0 ∨ d = 1 := by omega
    rcases this with rfl | rfl
    · exact ⟨_, rfl, .inl rfl⟩
    · exact ⟨_, rfl, .inr rfl⟩
  obtain ⟨j, hj, ej⟩ := dig (n / 2) (m + 1) (by omega)
  have t1 := jh.tk (n / 2) ((m + 1 : Nat) : Int) (by rcases hm with rfl | rfl <;> decide)
  rw [ej, ← Ms] at t1
  generalize n / 2 / ((m + 1 : Nat) : Int) = n2 at t1
  obtain ⟨Rs, env', g1, ⟨n', v4, rfl⟩, g3, g4⟩ := K20.SM (g := au 4) (e := cP fB 0 (aa (az 1) (ak))) (fun env => ∃ n v4, env = [(some (true, .lst [.int n])), (some (false, .str x)), (some (false, .int (m : Int))), (some (false, s)), v4]) (t8 x) ((List.range j).map fun (i : Nat) => D.int (i : Int))
    [(some (true, .lst [.int n2])), (some (false, .str x)), (some (false, .int (m : Int))), (some (false, s)), none] ⟨_, _, rfl⟩
    (fun t _ env ⟨n, v4, he⟩ => by
      subst he
      obtain ⟨R, n', h2, h3⟩ := jh.rule n x hx
      rw [← Sv] at h2
      refine ⟨R, _, [(some (true, .lst [.int n'])), (some (false, .str x)), (some (false, .int (m : Int))), (some (false, s)), (some (false, t))], rfl, ?_, ⟨_, _, rfl⟩, h3⟩
      clear h1 hs t0 t1 h3 hx
      ac_rfl)
  have hl : Rs.length = j := by rw [List.length_map, List.length_range] at g4; exact g4
  refine ⟨s, Rs, n', ?_, by rcases h1 with rfl | rfl <;> rfl, by rcases h1 with rfl | rfl <;> rfl, by rcases h1 with rfl | rfl <;> exact ⟨_, rfl⟩, g3, by omega⟩
  have em : ((m + 1 : Nat) : Int) = (m : Int) + 1 := by omega
  rw [em] at t1
  have hm4 : m + 1 ≤ 5 := by omega
  have hr := Rk (n := j) (Nat.lt_of_lt_of_le hj (Nat.le_trans hm4 (by decide)))
  have c1 : lE [(some (true, .lst [.int (n / 2)])), (some (false, .str x)), (some (false, .int (m : Int))), (some (false, s))] = .ok (.lst Rs) [(some (true, .lst [.int n'])), (some (false, .str x)), (some (false, .int (m : Int))), (some (false, s))] := by
    unfold lE
    refine xG (lo := 4) (n := 5) (ds := (List.range j).map fun (i : Nat) => D.int (i : Int)) (aB := [(some (true, .lst [.int n2])), (some (false, .str x)), (some (false, .int (m : Int))), (some (false, s))]) (cN := [(some (true, .lst [.int n'])), (some (false, .str x)), (some (false, .int (m : Int))), (some (false, s)), v4]) ?_ rfl g1 (by rw [hl]; exact Nat.le_trans (Nat.le_of_lt hj) (Nat.le_trans (by omega : m + 1 ≤ 5) (by decide)))
    generalize (List.range j).map (fun (i : Nat) => D.int (i : Int)) = L at hr
    clear g1 g3 g4 hx h1 hs t0 e e'
    ac_rfl
  unfold eV wY
  clear g1 g3 g4 hx h1 t1 hr e e' em ej
  ac_rfl
open Ev PySem L2
open jh (lQ xE pl pl0 iW vg sz Jy t8 RN Oa zX zU tR Dk)
section
variable (a0 a1 a4 a5 : Option (Bool × D)) (s : D) (rs : List D)
theorem Zo (u : Option (Bool × D)) : ∀ (T acc : List D) (v : Option (Bool × D)), acc.length + T.length ≤ 1000 → ∃ v', iy (au 7) di T [a0, a1, (some (false, s)), (some (false, .tup rs)), a4, a5, (some (true, .lst (acc))), v, u] = .nx [a0, a1, (some (false, s)), (some (false, .tup rs)), a4, a5, (some (true, .lst (acc ++ T.map fun o => .tup [o, .tup rs]))), v', u]
  | [], acc, v, _ => ⟨v, by rw [List.map_nil, List.append_nil]; rfl⟩
  | t :: T, acc, v, h => by
    rw [List.length_cons] at h
    obtain ⟨v', ih⟩ := Zo u T (acc ++ [.tup [t, .tup rs]]) (some (false, t)) (by rw [List.length_append]; show acc.length + 1 + T.length ≤ 1000; omega)
    refine ⟨v', ?_⟩
    rw [List.append_assoc] at ih
    rw [List.map_cons]
    have h1 : di [a0, a1, (some (false, s)), (some (false, .tup rs)), a4, a5, (some (true, .lst (acc))), (some (false, t)), u] = .nx [a0, a1, (some (false, s)), (some (false, .tup rs)), a4, a5, (some (true, .lst (acc ++ [.tup [t, .tup rs]]))), (some (false, t)), u] := by
      unfold di
      clear ih
      ac_rfl
    rw [Eu]
    show o6 (di [a0, a1, (some (false, s)), (some (false, .tup rs)), a4, a5, (some (true, .lst (acc))), (some (false, t)), u]) _ = _
    rw [h1, kNx, ih]
    rfl
theorem Zn (u : Option (Bool × D)) : ∀ (T acc : List D) (v : Option (Bool × D)), acc.length + T.length ≤ 1000 → ∃ v', iy (au 7) dh T [a0, a1, (some (false, s)), (some (false, .tup rs)), a4, a5, (some (true, .lst (acc))), v, u] = .nx [a0, a1, (some (false, s)), (some (false, .tup rs)), a4, a5, (some (true, .lst (acc ++ T.map fun o => .tup [s, o]))), v', u]
  | [], acc, v, _ => ⟨v, by rw [List.map_nil, List.append_nil]; rfl⟩
  | t :: T, acc, v, h => by
    rw [List.length_cons] at h
    obtain ⟨v', ih⟩ := Zn u T (acc ++ [.tup [s, t]]) (some (false, t)) (by rw [List.length_append]; show acc.length + 1 + T.length ≤ 1000; omega)
    refine ⟨v', ?_⟩
    rw [List.append_assoc] at ih
    rw [List.map_cons]
    have h1 : dh [a0, a1, (some (false, s)), (some (false, .tup rs)), a4, a5, (some (true, .lst (acc))), (some (false, t)), u] = .nx [a0, a1, (some (false, s)), (some (false, .tup rs)), a4, a5, (some (true, .lst (acc ++ [.tup [s, t]]))), (some (false, t)), u] := by
      unfold dh
      clear ih
      ac_rfl
    rw [Eu]
    show o6 (dh [a0, a1, (some (false, s)), (some (false, .tup rs)), a4, a5, (some (true, .lst (acc))), (some (false, t)), u]) _ = _
    rw [h1, kNx, ih]
    rfl
theorem Zm (hr : rs.length ≤ 4) (u : Option (Bool × D)) : ∀ (T acc : List D) (v : Option (Bool × D)), acc.length + T.length ≤ 1000 → ∃ v', iy (au 7) dg T [a0, a1, (some (false, s)), (some (false, .tup rs)), a4, a5, (some (true, .lst (acc))), v, u] = .nx [a0, a1, (some (false, s)), (some (false, .tup rs)), a4, a5, (some (true, .lst (acc ++ T.map fun o => .tup [s, .tup (rs.take 3 ++ [o])]))), v', u]
  | [], acc, v, _ => ⟨v, by rw [List.map_nil, List.append_nil]; rfl⟩
  | t :: T, acc, v, h => by
    rw [List.length_cons] at h
    obtain ⟨v', ih⟩ := Zm hr u T (acc ++ [.tup [s, .tup (rs.take 3 ++ [t])]]) (some (false, t)) (by rw [List.length_append]; show acc.length + 1 + T.length ≤ 1000; omega)
    refine ⟨v', ?_⟩
    rw [List.append_assoc] at ih
    rw [List.map_cons]
    have h1 : dg [a0, a1, (some (false, s)), (some (false, .tup rs)), a4, a5, (some (true, .lst (acc))), (some (false, t)), u] = .nx [a0, a1, (some (false, s)), (some (false, .tup rs)), a4, a5, (some (true, .lst (acc ++ [.tup [s, .tup (rs.take 3 ++ [t])]]))), (some (false, t)), u] := by
      unfold dg
      have hs : Em (.tup rs) none (some 3) = some (.tup (rs.take 3)) := by rw [Ul]; congr 2; exact Ff rs 3
      have hl : (rs.take 3).length ≤ 3 := by rw [List.length_take]; omega
      generalize rs.take 3 = q at hs hl ih ⊢
      clear ih
      ac_rfl
    rw [Eu]
    show o6 (dg [a0, a1, (some (false, s)), (some (false, .tup rs)), a4, a5, (some (true, .lst (acc))), (some (false, t)), u]) _ = _
    rw [h1, kNx, ih]
    rfl
end
def GOOD (c : Nat) : D := .tup [.str [111, 110, 99, 101], .tup [.tup [.str [c], .str []]], .non, .non]
def GL (c : Nat) : D := .lst [.str [111, 110, 99, 101], .tup [.tup [.str [c], .str []]], .non, .non]
def Z0 (s : D) (rs : List D) : List D := [.non, .int 7, .bl true, .str [108, 101, 102, 116], .tup [], .dct [], .lst [s, .tup rs], .tup [s], .tup [s, .tup rs, .tup []], .tup [.tup [s, .tup rs]], .tup rs, .tup [.tup rs, s], s]
def Z1 : List D := [.str [], .str [76, 101, 102, 116], .str [98, 111, 116, 104], .str [111, 110, 99, 101], .non, .int 7, .bl true, .tup [.str [108, 101, 102, 116]], .lst [.str [108, 101, 102, 116]], .dct [], .lst [.dct []]]
def Z2 (c : Nat) (rs : List D) : List D := [.lst rs, .non, .str [], .int 7, .dct [], .tup (rs ++ [.non]), .tup (rs ++ [.tup []]), .tup [GOOD c, GOOD c, GOOD c, GOOD c, GOOD c], GOOD c, .tup (rs ++ [GL c])]
def Z3 (c o : Nat) : List D := [.tup [.str [111, 110, 99, 101], .tup [.tup [.str [o], .str []]], .non, .non], .tup [.str [111, 110, 99, 101], .tup [.tup [.str [], .str [c]]], .tup [.str [o]], .non], .tup [.str [111, 110, 99, 101], .tup [.tup [.str [c], .str []]], .non], .tup [.str [111, 110, 99, 101], .tup [.tup [.str [c], .str []]], .non, .non, .non]]
def Z (s : D) (rs : List D) (c o : Nat) : List D := Z0 s rs ++ (Z1.map fun o => .tup [o, .tup rs]) ++ ((Z2 c rs).map fun o => .tup [s, o]) ++ (Z3 c o).map fun o => .tup [s, .tup (rs.take 3 ++ [o])]
theorem aeW (d : D) : Ij (.tup [d]) (.int 5) = some (.tup [d, d, d, d, d]) := rfl
theorem Py (s : D) (rs : List D) (hr : rs.length ≤ 4) (c : Nat) (r : List Nat) (o : Nat) (ho : eF [.str (c :: r)] = some (.str [o])) :
    dB [.tup [s, .tup rs], .str (c :: r)] = some (.lst (Z s rs c o)) := by
  obtain ⟨v1, f1⟩ := Zo (some (false, .tup [s, .tup rs])) (some (false, .str (c :: r))) (some (false, .str [o])) (some (false, GOOD c)) s rs none Z1 (Z0 s rs) none (by show 13 + 11 ≤ 1000; omega)
  obtain ⟨v2, f2⟩ := Zn (some (false, .tup [s, .tup rs])) (some (false, .str (c :: r))) (some (false, .str [o])) (some (false, GOOD c)) s rs (some (false, .lst (Z2 c rs))) (Z2 c rs) (Z0 s rs ++ Z1.map fun o => .tup [o, .tup rs]) v1 (by rw [List.length_append, List.length_map]; show 13 + 11 + 10 ≤ 1000; omega)
  obtain ⟨v3, f3⟩ := Zm (some (false, .tup [s, .tup rs])) (some (false, .str (c :: r))) (some (false, .str [o])) (some (false, GOOD c)) s rs hr (some (false, .lst (Z3 c o))) (Z3 c o) (Z0 s rs ++ (Z1.map fun o => .tup [o, .tup rs]) ++ (Z2 c rs).map fun o => .tup [s, o]) v2 (by rw [List.length_append, List.length_append, List.length_map, List.length_map]; show 13 + 11 + 10 + 4 ≤ 1000; omega)
  have h5 := aeW
  show dB [.tup [s, .tup rs], .str (c :: r)] = some (.lst (Z0 s rs ++ (Z1.map fun o => .tup [o, .tup rs]) ++ ((Z2 c rs).map fun o => .tup [s, o]) ++ (Z3 c o).map fun o => .tup [s, .tup (rs.take 3 ++ [o])]))
  generalize hA : Z0 s rs ++ (Z1.map fun o => .tup [o, .tup rs]) ++ ((Z2 c rs).map fun o => .tup [s, o]) ++ ((Z3 c o).map fun o => .tup [s, .tup (rs.take 3 ++ [o])]) = A3 at f3 ⊢
  generalize hB : Z0 s rs ++ (Z1.map fun o => .tup [o, .tup rs]) ++ ((Z2 c rs).map fun o => .tup [s, o]) = A2 at f2 f3
  generalize hC : Z0 s rs ++ (Z1.map fun o => .tup [o, .tup rs]) = A1 at f1 f2
  clear hA hB hC
  unfold Z0 Z1 GOOD at f1
  unfold Z2 GOOD GL at f2
  unfold Z3 GOOD at f3
  have g1 : Em (.tup [.str [111, 110, 99, 101], .tup [.tup [.str [c], .str []]], .non, .non]) none (some 3) = some (.tup [.str [111, 110, 99, 101], .tup [.tup [.str [c], .str []]], .non]) := rfl
  unfold dB pg
  ac_rfl
open Ev PySem L2
open jh (lQ xE pl pl0 iW vg sz Jy t8 RN Oa zX zU tR Dk)
theorem rl4 (x : List Nat) (w c l r : D) : vg x (.tup [w, c, l, r]) = (Oa w && (zX x c && (zU x l && zU x r))) := rfl
theorem jf {d : D} (h : ∀ s r, d ≠ .tup [s, r]) : Ask d := ⟨fun s r e => absurd e (h s r), fun s rs e => absurd e (h s (.tup rs))⟩
theorem lZ {x : List Nat} {d : D} (h : ∀ s r, d ≠ .tup [s, r]) : Ge x d = false := by
  unfold Ge
  split
  · exact absurd rfl (h _ _)
  · rfl
theorem jR {s r : D} (h : pl 0 s = true) (h2 : ∀ rs, r = .tup rs → Ox s = true → rs.length ≤ 4 → ∀ r ∈ rs, pl 3 r = true ∧ ∀ ds, r = .tup ds → ∀ e ∈ ds, sz e) : Ask (.tup [s, r]) :=
  ⟨fun s' r' e => by cases e; exact h, fun s' rs e => by cases e; exact h2 rs rfl⟩
theorem Dn {x : List Nat} {s r : D} (h : Ox s = false) : Ge x (.tup [s, r]) = false := by
  unfold Ge
  split
  · rename_i e; cases e; rw [h]; rfl
  · rfl
theorem W4 {x : List Nat} {s r : D} (h : ∀ rs, r ≠ .tup rs) : Ge x (.tup [s, r]) = false := by
  unfold Ge
  split
  · rename_i e; cases e; exact absurd rfl (h _)
  · rfl
theorem Kh {x : List Nat} {s : D} {rs : List D} (h : rs.length ≤ 4 → ∃ r ∈ rs, vg x r = false) : Ge x (.tup [s, .tup rs]) = false := by
  show (Ox s && (decide (rs.length ≤ 4) && rs.all (vg x))) = false
  by_cases h4 : rs.length ≤ 4
  · obtain ⟨r, hr, e⟩ := h h4
    have : rs.all (vg x) = false := by rw [List.all_eq_false]; exact ⟨r, hr, by rw [e]; exact Bool.false_ne_true⟩
    rw [this, Bool.and_false, Bool.and_false]
  · rw [decide_eq_false h4, Bool.false_and, Bool.and_false]
def mG (r : D) : Prop := pl 3 r = true ∧ ∀ ds, r = .tup ds → ∀ e ∈ ds, sz e
theorem Hd {x : List Nat} (hx : Jy x) {r : D} (h : t8 x r) : mG r := ⟨(jh.G7 hx h).2.1, (jh.G7 hx h).2.2⟩
theorem aat {x : List Nat} {r : D} (h : t8 x r) : ∃ a b c d, r = .tup [a, b, c, d] := by cases h with | mk w ch l r _ _ _ _ => exact ⟨_, _, _, _, rfl⟩
theorem oV {s : D} {rs : List D} {q : D} (hp : pl 0 s = true) (hr : ∀ r ∈ rs, mG r) (hq : mG q) : Ask (.tup [s, .tup (rs ++ [q])]) := jR hp fun rs' e _ _ r hm => by
  cases e
  rcases List.mem_append.mp hm with hm | hm
  · exact hr r hm
  · rw [List.mem_singleton.mp hm]; exact hq
theorem sJ {x : List Nat} {s : D} {rs : List D} {q : D} (h : vg x q = false) : Ge x (.tup [s, .tup (rs ++ [q])]) = false := Kh fun _ => ⟨q, by simp, h⟩
theorem ra4 (w p l r : D) (hw : pl 2 w = true) (h1 : pl 2 p = true) (h2 : pl 2 l = true) (h3 : pl 2 r = true) (zw : sz w) (z1 : sz p) (z2 : sz l) (z3 : sz r) : mG (.tup [w, p, l, r]) := by
  refine ⟨?_, fun ds e => ?_⟩
  · show (pl 2 w && (pl 2 p && (pl 2 l && (pl 2 r && true)))) = true
    rw [hw, h1, h2, h3]; rfl
  · cases e
    intro e he
    simp only [List.mem_cons, List.not_mem_nil, or_false] at he
    rcases he with rfl | rfl | rfl | rfl
    · exact zw
    · exact z1
    · exact z2
    · exact z3
theorem uY (z : List Nat) : sz (.str z) := fun ds e => by cases e
theorem kJ : sz .non := fun ds e => by cases e
theorem pD {ds : List D} (h : ds.length ≤ 1000) : sz (.tup ds) := fun ds e => by cases e; exact h
theorem adS {x : List Nat} (hx : Jy x) {s : D} (hs : ∃ z, s = .str z) (hp : pl 0 s = true) {rs : List D} (hr : ∀ r ∈ rs, t8 x r) (h4 : rs.length ≤ 4) {c o : Nat} (hc : c ∈ x) (ho : o ∉ x) (h97 : 97 ≤ o) : ∀ t ∈ Z s rs c o, Ge x t = false ∧ Ask t := by
  have hra : ∀ r ∈ rs, mG r := fun r h => Hd hx (hr r h)
  intro t ht
  unfold Z at ht
  rcases List.mem_append.mp ht with ht | ht
  · rcases List.mem_append.mp ht with ht | ht
    · rcases List.mem_append.mp ht with ht | ht
      · simp only [Z0, List.mem_cons, List.not_mem_nil, or_false] at ht
        rcases ht with rfl | rfl | rfl | rfl | rfl | rfl | rfl | rfl | rfl | rfl | rfl | rfl | rfl
        · exact ⟨lZ (fun _ _ e => by cases e), jf (fun _ _ e => by cases e)⟩
        · exact ⟨lZ (fun _ _ e => by cases e), jf (fun _ _ e => by cases e)⟩
        · exact ⟨lZ (fun _ _ e => by cases e), jf (fun _ _ e => by cases e)⟩
        · exact ⟨lZ (fun _ _ e => by cases e), jf (fun _ _ e => by cases e)⟩
        · exact ⟨lZ (fun _ _ e => by cases e), jf (fun _ _ e => by cases e)⟩
        · exact ⟨lZ (fun _ _ e => by cases e), jf (fun _ _ e => by cases e)⟩
        · exact ⟨lZ (fun _ _ e => by cases e), jf (fun _ _ e => by cases e)⟩
        · exact ⟨lZ (fun _ _ e => by cases e), jf (fun _ _ e => by cases e)⟩
        · exact ⟨lZ (fun _ _ e => by cases e), jf (fun _ _ e => by cases e)⟩
        · exact ⟨lZ (fun _ _ e => by cases e), jf (fun _ _ e => by cases e)⟩
        · match rs, hr with
          | [], _ => exact ⟨lZ (fun _ _ e => by cases e), jf (fun _ _ e => by cases e)⟩
          | [_], _ => exact ⟨lZ (fun _ _ e => by cases e), jf (fun _ _ e => by cases e)⟩
          | [a, b], hr =>
            obtain ⟨a1, a2, a3, a4, rfl⟩ := aat (hr a (by simp))
            exact ⟨Dn rfl, jR rfl fun rs e q => by cases q⟩
          | _ :: _ :: _ :: _, _ => exact ⟨lZ (fun _ _ e => by cases e), jf (fun _ _ e => by cases e)⟩
        · obtain ⟨z, rfl⟩ := hs
          exact ⟨Dn rfl, jR rfl fun rs e => by cases e⟩
        · obtain ⟨z, rfl⟩ := hs
          exact ⟨lZ (fun _ _ e => by cases e), jf (fun _ _ e => by cases e)⟩
      · obtain ⟨q, hq, rfl⟩ := List.mem_map.mp ht
        have hb : Ox q = false ∧ pl 0 q = true := by
          simp only [Z1, List.mem_cons, List.not_mem_nil, or_false] at hq
          rcases hq with rfl | rfl | rfl | rfl | rfl | rfl | rfl | rfl | rfl | rfl | rfl
          all_goals exact ⟨by rfl, by rfl⟩
        exact ⟨Dn hb.1, jR hb.2 fun rs' e q => by rw [hb.1] at q; cases q⟩
    · obtain ⟨q, hq, rfl⟩ := List.mem_map.mp ht
      have no : ∀ {q : D}, (∀ rs, q ≠ .tup rs) → Ge x (.tup [s, q]) = false ∧ Ask (.tup [s, q]) := fun h => ⟨W4 h, jR hp fun rs e => absurd e (h rs)⟩
      simp only [Z2, List.mem_cons, List.not_mem_nil, or_false] at hq
      rcases hq with rfl | rfl | rfl | rfl | rfl | rfl | rfl | rfl | rfl | rfl
      · exact no fun _ e => by cases e
      · exact no fun _ e => by cases e
      · exact no fun _ e => by cases e
      · exact no fun _ e => by cases e
      · exact no fun _ e => by cases e
      · exact ⟨sJ rfl, oV hp hra ⟨rfl, fun ds e => by cases e⟩⟩
      · exact ⟨sJ rfl, oV hp hra ⟨rfl, fun ds e => by cases e; intro e he; cases he⟩⟩
      · exact ⟨Kh fun h => absurd h (by simp), jR hp fun rs' e _ h => by cases e; exact absurd h (by simp)⟩
      · refine ⟨Kh fun _ => ⟨_, List.mem_cons_self .., rfl⟩, jR hp fun rs' e _ _ r hm => ?_⟩
        cases e
        simp only [List.mem_cons, List.not_mem_nil, or_false] at hm
        rcases hm with rfl | rfl | rfl | rfl
        · exact ⟨rfl, fun ds e => by cases e⟩
        · refine ⟨rfl, fun ds e => ?_⟩
          cases e
          intro e he
          rw [List.mem_singleton.mp he]
          exact pD (by simp)
        · exact ⟨rfl, fun ds e => by cases e⟩
        · exact ⟨rfl, fun ds e => by cases e⟩
      · exact ⟨sJ rfl, oV hp hra ⟨rfl, fun ds e => by cases e⟩⟩
  · obtain ⟨q, hq, rfl⟩ := List.mem_map.mp ht
    have XR : ∀ r ∈ rs.take 3, mG r := fun r h => hra r (List.mem_of_mem_take h)
    have h35 : o ≠ 35 := by omega
    simp only [Z3, List.mem_cons, List.not_mem_nil, or_false] at hq
    rcases hq with rfl | rfl | rfl | rfl
    · refine ⟨sJ ?_, oV hp XR (ra4 _ _ _ _ rfl rfl rfl rfl (uY _) (pD (by simp)) kJ kJ)⟩
      have e : zX x (.tup [.tup [.str [o], .str []]]) = false := by
        simp [zX, Dk, tR, lQ, xE, ho]
      rw [rl4]
      rw [e, Bool.false_and, Bool.and_false]
    · refine ⟨sJ ?_, oV hp XR (ra4 _ _ _ _ rfl rfl rfl rfl (uY _) (pD (by simp)) (pD (by simp)) kJ)⟩
      have e : zU x (.tup [.str [o]]) = false := by
        simp [zU, jh.pG, lQ, xE, ho, h35]
      rw [rl4]
      rw [e, Bool.false_and, Bool.and_false, Bool.and_false]
    · refine ⟨sJ rfl, oV hp XR ⟨rfl, fun ds e => ?_⟩⟩
      cases e
      intro e he
      simp only [List.mem_cons, List.not_mem_nil, or_false] at he
      rcases he with rfl | rfl | rfl
      · exact uY _
      · exact pD (by simp)
      · exact kJ
    · refine ⟨sJ rfl, oV hp XR ⟨rfl, fun ds e => ?_⟩⟩
      cases e
      intro e he
      simp only [List.mem_cons, List.not_mem_nil, or_false] at he
      rcases he with rfl | rfl | rfl | rfl | rfl
      · exact uY _
      · exact pD (by simp)
      · exact kJ
      · exact kJ
      · exact kJ
theorem Zi {x : List Nat} {s : D} {rs : List D} (hs : Ox s = true) (h4 : rs.length ≤ 4) (h : ∀ r ∈ rs, vg x r = true) : Ge x (.tup [s, .tup rs]) = true := by
  show (Ox s && (decide (rs.length ≤ 4) && rs.all (vg x))) = true
  rw [hs, decide_eq_true h4, List.all_eq_true.mpr h]; rfl
theorem LQ {s : D} {rs : List D} (hp : pl 0 s = true) (h : ∀ r ∈ rs, mG r) : Ask (.tup [s, .tup rs]) := jR hp fun rs' e _ _ r hm => by cases e; exact h r hm
open Ev PySem L2
open jh (lQ xE pl pl0 iW vg sz Jy t8 RN Oa zX zU tR Dk pG)
open Gd (good Rw row snd ZV)
section
variable {x y : List Nat} (h : ∀ c ∈ x, c ∈ y)
include h
theorem uA {d : D} (e : xE x d = true) : xE y d = true := by
  obtain ⟨c, rfl, hc⟩ := jh.rm e
  exact decide_eq_true (h c hc)
theorem RZ {d : D} (e : Dk x d = true) : Dk y d = true := by
  unfold Dk at e ⊢
  split at e
  · rw [Bool.and_eq_true] at e ⊢
    exact ⟨e.1, uA h e.2⟩
  · cases e
theorem Vb {d : D} (e : tR x d = true) : tR y d = true := by
  unfold tR at e ⊢
  split at e
  · rw [Bool.and_eq_true, Bool.and_eq_true, Bool.or_eq_true] at e ⊢
    exact ⟨uA h e.1, e.2.1.imp (uA h) id, e.2.2⟩
  · cases e
theorem Ve {d : D} (e : zX x d = true) : zX y d = true := by
  unfold zX at e ⊢
  split at e
  · rw [Bool.and_eq_true, Bool.or_eq_true, Bool.and_eq_true, Bool.and_eq_true] at e ⊢
    refine ⟨e.1, e.2.imp (fun q => ⟨q.1, RZ h q.2⟩) fun q => ⟨?_, q.2⟩⟩
    rw [List.all_eq_true] at q ⊢
    exact fun z hz => Vb h (q.1 z hz)
  · cases e
theorem GP {d : D} (e : zU x d = true) : zU y d = true := by
  unfold zU at e ⊢
  split at e
  · rfl
  · rw [Bool.and_eq_true, Bool.and_eq_true] at e ⊢
    refine ⟨e.1, ?_, e.2.2⟩
    have q := e.2.1
    rw [List.all_eq_true] at q ⊢
    intro z hz
    have := q z hz
    unfold pG at this ⊢
    rw [Bool.or_eq_true] at this ⊢
    exact this.imp id (uA h)
  · cases e
theorem G8 {d : D} (e : vg x d = true) : vg y d = true := by
  unfold vg at e ⊢
  split at e
  · rw [Bool.and_eq_true, Bool.and_eq_true, Bool.and_eq_true] at e ⊢
    exact ⟨e.1, Ve h e.2.1, GP h e.2.2.1, GP h e.2.2.2⟩
  · cases e
end
theorem R1 {α β : Type} {f : α → β} {l' m : List β} (p : l'.Perm m) : ∀ l : List α, m = l.map f → ∃ l2 : List α, l' = l2.map f ∧ l2.Perm l := by
  induction p with
  | nil => intro l e; exact ⟨l, e, .refl _⟩
  | cons a _ ih =>
    intro l e
    cases l with
    | nil => cases e
    | cons b l =>
      rw [List.map_cons] at e
      injection e with e1 e2
      obtain ⟨l2, e3, p3⟩ := ih l e2
      exact ⟨b :: l2, by rw [List.map_cons, e1, e3], p3.cons b⟩
  | swap a b l0 =>
    intro l e
    match l, e with
    | b1 :: b2 :: l, e =>
      rw [List.map_cons, List.map_cons] at e
      injection e with e1 e2
      injection e2 with e2 e3
      exact ⟨b2 :: b1 :: l, by rw [List.map_cons, List.map_cons, e1, e2, e3], .swap b1 b2 l⟩
    | [], e => cases e
    | [_], e => cases e
  | trans _ _ ih1 ih2 =>
    intro l e
    obtain ⟨l2, e2, p2⟩ := ih2 l e
    obtain ⟨l3, e3, p3⟩ := ih1 l2 e2
    exact ⟨l3, e3, p3.trans p2⟩
theorem IV (n : Nat) : ∀ zs : List (List Nat), wQ (aU (n + 1)) (zs.map .str) (zs.map .str) = some true
  | [] => rfl
  | z :: zs => by
    rw [List.map_cons]
    unfold wQ
    rw [IV n zs]
    show (match aU (n + 1) (.str z) (.str z), some true with | some a, some b => some (a && b) | _, _ => none) = _
    have : aU (n + 1) (.str z) (.str z) = some true := by show some (z == z) = _; rw [beq_self_eq_true]
    rw [this]
    rfl
theorem M8 (p : Rw) : mO (row p) (row p) = some false := by
  show VF [.str [p.1], .tup (p.2.map .str)] [.str [p.1], .tup (p.2.map .str)] = _
  have e1 : aU 57 (.str [p.1]) (.str [p.1]) = some true := by show some ([p.1] == [p.1]) = _; rw [beq_self_eq_true]
  have e2 : aU 57 (.tup (p.2.map .str)) (.tup (p.2.map .str)) = some true := IV 55 p.2
  unfold VF
  rw [e1]
  show VF [.tup (p.2.map .str)] [.tup (p.2.map .str)] = _
  unfold VF
  rw [e2]
  rfl
theorem abz {p q : Rw} (h : p.1 ≠ q.1) : mO (row p) (row q) = some (decide (p.1 < q.1)) := by
  show VF [.str [p.1], .tup (p.2.map .str)] [.str [q.1], .tup (q.2.map .str)] = _
  have e1 : aU 57 (.str [p.1]) (.str [q.1]) = some false := by
    show some ([p.1] == [q.1]) = _
    congr 1
    simpa using h
  unfold VF
  rw [e1]
  show some (decide ([p.1] < [q.1])) = _
  congr 1
  rw [decide_eq_decide]
  exact jh.lt1
theorem Wd {L : List Rw} (hl : L.length ≤ 4) (hn : (L.map (·.1)).Nodup) : oZ (L.map row) := by
  have inj : ∀ p ∈ L, ∀ q ∈ L, p.1 = q.1 → p = q := fun p hp q hq e => by
    obtain ⟨i, hi, rfl⟩ := List.mem_iff_getElem.mp hp
    obtain ⟨j, hj, rfl⟩ := List.mem_iff_getElem.mp hq
    have hp := List.pairwise_iff_getElem.mp (List.pairwise_map.mp hn)
    rcases Nat.lt_trichotomy i j with c | c | c
    · exact absurd e (hp i j hi hj c)
    · subst c; rfl
    · exact absurd e.symm (hp j i hj hi c)
  have lt : ∀ p ∈ L, ∀ q ∈ L, mO (row p) (row q) = some (decide (p.1 < q.1)) := fun p hp q hq => by
    by_cases e : p.1 = q.1
    · rw [inj p hp q hq e, M8, decide_eq_false (Nat.lt_irrefl _)]
    · exact abz e
  refine .inr ⟨by rw [List.length_map]; omega, .inr fun d hd => ?_, fun d hd => ?_, fun d hd e he => ?_, fun a ha b hb c hc x y => ?_, ?_⟩
  · obtain ⟨p, _, rfl⟩ := List.mem_map.mp hd; rfl
  · obtain ⟨p, _, rfl⟩ := List.mem_map.mp hd; exact M8 p
  · obtain ⟨p, hp, rfl⟩ := List.mem_map.mp hd
    obtain ⟨q, hq, rfl⟩ := List.mem_map.mp he
    rw [lt p hp q hq]; exact fun z => by cases z
  · obtain ⟨p, hp, rfl⟩ := List.mem_map.mp ha
    obtain ⟨q, hq, rfl⟩ := List.mem_map.mp hb
    obtain ⟨r, hr, rfl⟩ := List.mem_map.mp hc
    rw [lt p hp q hq] at x
    rw [lt q hq r hr] at y
    rw [lt p hp r hr]
    simp only [Option.some.injEq, decide_eq_true_eq] at x y ⊢
    omega
  · refine List.pairwise_map.mpr ?_
    have hp := List.pairwise_map.mp hn
    refine List.Pairwise.imp_of_mem (fun {p q} hp hq e => ?_) hp
    rw [lt p hp q hq, lt q hq p hp]
    simp only [Option.some.injEq, decide_eq_true_eq]
    omega
theorem greater {L : List Rw} (hl : L.length ≤ 4) (hn : (L.map (·.1)).Nodup) : ∃ L' : List Rw, tD [.tup (L.map row)] = some (.lst (L'.map row)) ∧ L'.length ≤ 4 ∧ ∀ c, c ∈ L'.map (·.1) ↔ c ∈ L.map (·.1) := by
  obtain ⟨L', e, p⟩ := R1 (jm (L.map row)) L rfl
  refine ⟨L', ?_, by rw [p.length_eq]; exact hl, fun c => (p.map _).mem_iff⟩
  show (if oZ (L.map row) then some (D.lst (kW (L.map row))) else none) = _
  rw [if_pos (Wd hl hn), e]
end wZ
set_option maxHeartbeats 800000
namespace wZ
open Ev PySem L2
open jh (lQ xE pl pl0 iW vg sz Jy t8 RN Oa zX zU tR Dk pG)
open Gd (good Rw row snd ZV)
theorem Dm : dR = jh.dR := rfl
theorem xQ : cT = jh.cT := rfl
theorem u0 : cF = jh.cF := rfl
theorem aaU : eF = jh.eF := rfl
theorem wM : eG = jh.eG := rfl
theorem Ln (rs : List D) (k : Nat) : cutD rs none (some (k : Int)) = rs.take k := Ff rs k
theorem firsts {x : List Nat} (hx : Jy x) (S : D) (hS : jh.cR [S] = some (.tup (j5 x))) {s : D} {rs : List D} (hs : Ox s = true) (hp : pl 0 s = true) (h4 : rs.length ≤ 4) (hr : ∀ r ∈ rs, t8 x r)
    (a0 a1 a2 a4 v6 a7 a8 a9 a10 a11 : Option (Bool × D)) : ∃ v6', iy (au 6) uy ((List.range (rs.length + 1)).map fun (i : Nat) => D.int (i : Int)) [a0, a1, a2, (some (false, S)), a4, (some (false, .tup [s, .tup rs])), v6, a7, a8, a9, a10, a11] = .nx [a0, a1, a2, (some (false, S)), a4, (some (false, .tup [s, .tup rs])), v6', a7, a8, a9, a10, a11] := by
  obtain ⟨e', f1, v6', rfl⟩ := yU (g := au 6) (b := uy) (fun env => ∃ v6, env = [a0, a1, a2, (some (false, S)), a4, (some (false, .tup [s, .tup rs])), v6, a7, a8, a9, a10, a11]) ((List.range (rs.length + 1)).map fun (i : Nat) => D.int (i : Int))
    (fun d hd env ⟨v6, he⟩ => by
      subst he
      obtain ⟨k, _, rfl⟩ := List.mem_map.mp hd
      refine ⟨_, [a0, a1, a2, (some (false, S)), a4, (some (false, .tup [s, .tup rs])), (some (false, .int (k : Int))), a7, a8, a9, a10, a11], rfl, ?_, _, rfl⟩
      have i1 := jh.wM true
      rw [← wM] at i1
      have hsl : La (.tup rs) none (some (k : Int)) = some (.tup (rs.take k)) := by rw [uC, Ln]
      have hm : ∀ r ∈ rs.take k, t8 x r := fun r h => hr r (List.mem_of_mem_take h)
      have hl : (rs.take k).length ≤ 4 := by rw [List.length_take]; omega
      have i2 := is_order S x hS (.tup [s, .tup (rs.take k)]) (LQ hp fun r h => Hd hx (hm r h))
      rw [Zi hs hl fun r h => (jh.G7 hx (hm r h)).1] at i2
      generalize rs.take k = q at hsl i2
      unfold uy
      clear hm hl hr hS hs hp h4 hx
      ac_rfl)
    [a0, a1, a2, (some (false, S)), a4, (some (false, .tup [s, .tup rs])), v6, a7, a8, a9, a10, a11] ⟨_, rfl⟩
  exact ⟨v6', f1⟩
theorem SQ (ns : List Int) (hl : ns.length ≤ 63) (hb : Mm ns) (k : Int) (h0 : 0 ≤ k) (h1 : k ≤ 400) (a2 a3 a4 a5 a6 a7 a8 a9 a10 a11 : Option (Bool × D)) : ∃ b2 b3 b4 b5 b6 b7 b8 b9 b10,
    pM [(some (false, .arr (ns.map .int))), (some (false, .int k)), a2, a3, a4, a5, a6, a7, a8, a9, a10, a11] = .nx [(some (false, .arr (ns.map .int))), (some (false, .int k)), b2, b3, b4, b5, b6, b7, b8, b9, b10, a11] := by
  obtain ⟨p, hp⟩ := QD.pack ns hl hb k h0 (by omega)
  rw [← jh.Dm, ← Dm] at hp
  obtain ⟨L, n0, S, hs⟩ := Gd.stock p
  rw [← jh.xQ, ← xQ] at hs
  have hL := S.len.2
  have hsd := Gd.KJ L hL
  rw [← jh.u0, ← u0] at hsd
  have hso := jh.sounds_of L hL
  have hx := jh.aai S.ad7
  have hnd : (L.map (·.1)).Nodup := hx.ris.imp fun h => Nat.ne_of_lt h
  have h4 := hx.few
  obtain ⟨o, ho, h97, hout⟩ := jh.Xi (L.map (·.1)) h4
  rw [← aaU] at hout
  -- the greater stock
  have XS : cutD (L.map row) none (some 3) ++ [row (o, [])] = (L.take 3 ++ [(o, [])]).map row := by
    have := Ln (L.map row) 3
    rw [show ((3 : Nat) : Int) = 3 from rfl] at this
    rw [this, List.map_append, List.map_take]; rfl
  have hn2 : ((L.take 3 ++ [((o, []) : Rw)]).map (fun p : Rw => p.1)).Nodup := by
    rw [List.map_append, List.nodup_append]
    refine ⟨?_, by simp, fun a ha b hb => ?_⟩
    · rw [List.map_take]; exact (List.take_sublist _ _).nodup hnd
    · simp only [List.map_cons, List.map_nil, List.mem_singleton] at hb
      rw [hb]
      rintro rfl
      rw [List.map_take] at ha
      exact ho (List.mem_of_mem_take ha)
  obtain ⟨L', hg, hL', hm'⟩ := greater (L := L.take 3 ++ [((o, []) : Rw)]) (by rw [List.length_append, List.length_take]; show min 3 L.length + 1 ≤ 4; omega) hn2
  have hso' := jh.sounds_of L' hL'
  have hin : ∀ c ∈ (L.map (·.1)).take 3, c ∈ L'.map (·.1) := fun c hc => (hm' c).mpr (by rw [List.map_append, List.map_take]; exact List.mem_append_left _ hc)
  have acJ : o ∈ L'.map (·.1) := (hm' o).mpr (by rw [List.map_append]; exact List.mem_append_right _ (by simp))
  rw [← XS] at hg
  generalize ex : L.map (·.1) = x at hsd hso hx hin h4 ho hout
  generalize ey : L'.map (·.1) = y at hso' hin acJ
  generalize hG : L'.map row = G at hg hso'
  generalize hC : cutD (L.map row) none (some 3) = CC at hg
  have hC' : La (.tup (L.map row)) none (some 3) = some (.tup CC) := by rw [uC, hC]
  have hCl : CC.length ≤ 3 := by
    rw [← hC, show (3 : Int) = ((3 : Nat) : Int) from rfl, Ln, List.length_take]; omega
  generalize hST : D.tup (L.map row) = ST at hs hsd hso hC'
  obtain ⟨c, r, rfl⟩ : ∃ c r, x = c :: r := by
    cases x with
    | nil => have := hx.pos; simp at this
    | cons c r => exact ⟨c, r, rfl⟩
  have Zx : Jy ((c :: r).take 3) := ⟨by rw [List.length_take, List.length_cons]; omega, by rw [List.length_take]; omega, fun z hz => hx.ltr z (List.mem_of_mem_take hz), hx.ris.sublist (List.take_sublist _ _)⟩
  have afE : c ∈ y := hin c (by simp)
  have hoc : o ≠ c := fun e => ho (by rw [e]; simp)
  obtain ⟨s, rs, n1, d1, ds1, dp1, dz1, dr1, dl1⟩ := Bq n0 (c :: r) hx 4 (.inl rfl)
  obtain ⟨s2, VD, n2, d2, ds2, dp2, dz2, dr2, dl2⟩ := Bq n1 ((c :: r).take 3) Zx 3 (.inr rfl)
  have T9 : Em (.str (c :: r)) none (some 3) = some (.str ((c :: r).take 3)) := by rw [Um]; congr 2; exact Ff (c :: r) 3
  generalize hx' : (c :: r).take 3 = x3 at T9 d2 dr2 Zx hin
  replace d1 : eV [.lst [.int n0], .str (c :: r), .int 4] = some (.tup [s, .tup rs], .lst [.int n1]) := d1
  replace d2 : eV [.lst [.int n1], .str x3, .int 3] = some (.tup [s2, .tup VD], .lst [.int n2]) := d2
  generalize ha0 : ((some (false, .arr (ns.map .int))) : Option (Bool × D)) = a0
  obtain ⟨v6, f1⟩ := firsts hx ST hso ds1 dp1 dl1 dr1 a0 (some (false, .int k)) (some (true, .lst [.int n1])) (some (false, .str (c :: r))) a6 a7 a8 a9 a10 a11
  have hz := Py s rs dl1 c r o hout
  have zb := adS hx dz1 dp1 dr1 dl1 (List.mem_cons_self ..) ho h97
  have zl : (Z s rs c o).length ≤ 1000 := by
    unfold Z
    rw [List.length_append, List.length_append, List.length_append, List.length_map, List.length_map, List.length_map]
    show 13 + 11 + 10 + 4 ≤ 1000
    omega
  generalize hZ : Z s rs c o = ZZ at hz zb zl
  have iT := jh.wM true
  have iF := jh.wM false
  rw [← wM] at iT iF
  have c1 : yK [a0, (some (false, .int k)), (some (true, .lst [.int n1])), (some (false, ST)), (some (false, .str (c :: r))), (some (false, .tup [s, .tup rs])), v6, a7, a8, a9, a10, a11] = .ok (.lst (ZZ.map fun _ => .bl true)) [a0, (some (false, .int k)), (some (true, .lst [.int n1])), (some (false, ST)), (some (false, .str (c :: r))), (some (false, .tup [s, .tup rs])), v6, a7, a8, a9, a10, a11] := by
    unfold yK
    refine tM ZZ id (fun _ => .bl true) ?_ rfl rfl (fun d hd => ?_) (Nat.le_trans zl (by decide))
    · rw [List.map_id]
      clear hp hs hsd hso hx f1 zb d1 d2 hso' hout hg hC' T9
      ac_rfl
    · have i2 := is_order ST (c :: r) hso d (zb d hd).2
      rw [(zb d hd).1] at i2
      simp only [id]
      clear hp hs hsd hso hx f1 zb d1 d2 hso' hout hg hC' T9 hz
      ac_rfl
  have g1 := jh.all_true ZZ
  have i3 := is_order (.tup G) y hso' (.tup [s2, .tup VD]) (LQ dp2 fun r h => Hd Zx (dr2 r h))
  rw [Zi ds2 (by omega) fun r h => G8 hin (jh.G7 Zx (dr2 r h)).1] at i3
  have c2 : ∀ v7, yJ [a0, (some (false, .int k)), (some (true, .lst [.int n2])), (some (false, ST)), (some (false, .str (c :: r))), (some (false, .tup [s, .tup rs])), v6, v7, (some (false, .tup G)), (some (false, .tup [s2, .tup VD])), a10, a11] = .ok (.lst (VD.map fun _ => .bl true)) [a0, (some (false, .int k)), (some (true, .lst [.int n2])), (some (false, ST)), (some (false, .str (c :: r))), (some (false, .tup [s, .tup rs])), v6, v7, (some (false, .tup G)), (some (false, .tup [s2, .tup VD])), a10, a11] := fun v7 => by
    unfold yJ
    refine tM VD id (fun _ => .bl true) ?_ rfl rfl (fun d hd => ?_) (Nat.le_trans (show VD.length ≤ 3 from dl2) (by decide))
    · rw [List.map_id]
      clear hp hs hsd hso hx f1 zb d1 d2 hso' hout hg hC' T9 c1 hz i3
      ac_rfl
    · have i2 := jh.is_rule (.tup G) y hso' d (Hd Zx (dr2 d hd)).1 (Hd Zx (dr2 d hd)).2
      rw [G8 hin (jh.G7 Zx (dr2 d hd)).1, ← xA] at i2
      simp only [id]
      clear hp hs hsd hso hx f1 zb d1 d2 hso' hout hg hC' T9 hz c1 i3
      ac_rfl
  have g2 := jh.all_true VD
  -- one rule more
  have more : mG (.tup [.str [111, 110, 99, 101], .tup [.tup [.str [o], .str [c]]], .non, .non]) := ra4 _ _ _ _ rfl rfl rfl rfl (uY _) (pD (by simp)) kJ kJ
  have m1 := jh.is_rule (.tup G) y hso' _ more.1 more.2
  have m2 := jh.is_rule ST (c :: r) hso _ more.1 more.2
  have e1 : vg y (.tup [.str [111, 110, 99, 101], .tup [.tup [.str [o], .str [c]]], .non, .non]) = true := by
    rw [rl4]
    have : zX y (.tup [.tup [.str [o], .str [c]]]) = true := by
      have q : ([o] == [c]) = false := by simpa using hoc
      have r1 : jh.ur [jh.fst (.tup [.str [o], .str [c]])] = true := rfl
      simp [zX, Dk, tR, lQ, xE, acJ, afE, jh.neS, q, r1]
    rw [this]; rfl
  have e2 : vg (c :: r) (.tup [.str [111, 110, 99, 101], .tup [.tup [.str [o], .str [c]]], .non, .non]) = false := by
    rw [rl4]
    have : zX (c :: r) (.tup [.tup [.str [o], .str [c]]]) = false := by
      have hor : o ∉ r := fun z => ho (List.mem_cons_of_mem _ z)
      simp [zX, Dk, tR, lQ, xE, hoc, hor]
    rw [this]; rfl
  rw [e1, ← xA] at m1
  rw [e2, ← xA] at m2
  have hg' : tD [.tup (CC ++ [.tup [.str [o], .tup []]])] = some (.lst G) := hg
  have hgt : dN [.lst G] = some (.tup G) := rfl
  have hr := Rk (n := rs.length + 1) (Nat.lt_of_le_of_lt (show rs.length + 1 ≤ 5 by omega) (by decide))
  rw [show (((rs.length + 1 : Nat) : Nat) : Int) = (rs.length : Int) + 1 from rfl] at hr
  have c2' := c2 (some (false, .str [o]))
  refine ⟨(some (true, .lst [.int n2])), (some (false, ST)), (some (false, .str (c :: r))), (some (false, .tup [s, .tup rs])), v6, (some (false, .str [o])), (some (false, .tup G)), (some (false, .tup [s2, .tup VD])), (some (false, .tup [.str [111, 110, 99, 101], .tup [.tup [.str [o], .str [c]]], .non, .non])), ?_⟩
  subst ha0
  generalize (List.range (rs.length + 1)).map (fun (i : Nat) => D.int (i : Int)) = RR at f1 hr
  generalize ZZ.map (fun _ => D.bl true) = M1 at c1 g1
  generalize VD.map (fun _ => D.bl true) = M2 at c2' g2
  have hlen : dG [.tup rs] = some (.int (rs.length : Int)) := rfl
  unfold pM
  clear hl hb h0 h1 S hL hnd h97 XS hn2 hL' hm' ey acJ hG hso' hC hST ex hx h4 ho hin hso zb ds1 dp1 dz1 dr1 ds2 dp2 dz2 dr2 Zx hx' afE hoc hz hZ zl c2 more e1 e2 hg
  ac_rfl
theorem QX (ns : List Int) (hl : ns.length ≤ 63) (hb : Mm ns) : Iv [.arr (ns.map .int)] = some (.bl true) := by
  have hlen : aq dG (aa (bw 0) ak) [(some (false, .arr (ns.map .int))), none, none, none, none, none, none, none, none, none, none, none] = .ok (.int (ns.length : Int)) [(some (false, .arr (ns.map .int))), none, none, none, none, none, none, none, none, none, none, none] := by
    show R.ok (D.int ((ns.map D.int).length : Int)) _ = _
    rw [List.length_map]
  obtain ⟨ds, hds, hk⟩ := Gd.turns hlen 12 (by decide) (by decide)
  obtain ⟨e', f1, b1, b2, b3, b4, b5, b6, b7, b8, b9, b10, b11, rfl⟩ := yU (g := au 1) (b := pM) (fun env => ∃ b1 b2 b3 b4 b5 b6 b7 b8 b9 b10 b11, env = [(some (false, .arr (ns.map .int))), b1, b2, b3, b4, b5, b6, b7, b8, b9, b10, b11]) ds
    (fun d hd env ⟨b1, b2, b3, b4, b5, b6, b7, b8, b9, b10, b11, he⟩ => by
      subst he
      obtain ⟨k, rfl, h0, h1⟩ := hk d hd
      obtain ⟨c2, c3, c4, c5, c6, c7, c8, c9, c10, hb⟩ := SQ ns hl hb k h0 (by omega) b2 b3 b4 b5 b6 b7 b8 b9 b10 b11
      exact ⟨_, _, rfl, hb, _, _, _, _, _, _, _, _, _, _, _, rfl⟩)
    [(some (false, .arr (ns.map .int))), none, none, none, none, none, none, none, none, none, none, none] ⟨_, _, _, _, _, _, _, _, _, _, _, rfl⟩
  have hS := jh.sounds_of [(97, [])] (by decide)
  have i1 := is_order (.tup [.tup [.str [97], .tup []]]) [97] hS (.tup [.str [108, 101, 102, 116], .tup [GOOD 97, GOOD 97, GOOD 97, GOOD 97]]) (LQ rfl fun r h => by
    have : r = GOOD 97 := by simpa using h
    rw [this]
    exact ra4 _ _ _ _ rfl rfl rfl rfl (uY _) (pD (by simp)) kJ kJ)
  have e1 : Ge [97] (.tup [.str [108, 101, 102, 116], .tup [GOOD 97, GOOD 97, GOOD 97, GOOD 97]]) = true := by rfl
  rw [e1] at i1
  have iT := jh.wM true
  rw [← wM] at iT
  unfold GOOD at i1
  have hm4 : ∀ d : D, Ij (.tup [d]) (.int 4) = some (.tup [d, d, d, d]) := fun d => rfl
  have f2 := (xV hds).trans f1
  generalize hW : ji (eN (aa (aN (.int 0)) (aa (aq Il (aa (aN (.int 1)) (aa (aq Ik (aa (aq dG (aa (bw 0) ak)) (aa (aN (.int 12)) ak))) ak))) (aa (aN (.int 2)) (ak))))) (au 1) pM = W at f2
  unfold Iv ZR
  rw [hW]
  clear hlen hds hk f1 hl hb hW hS e1
  ac_rfl
end wZ
end
namespace wZ
open PySem PySem.Spec PyProof.Rows L2 Ev
theorem all_mk {P : Program} {w : World} {K : Fg} {h : Heap} {mg : Str → Option Value} {fa : Addr} (X : K.In h) (G : h.Ns mainGlobals mg) (hfa : mg "law" = some (.ref fa))
    {yZ : Addr} {Sq Td U4 RP Jp U7 : Value} {R9 Vn : Option Addr} {Rc : Array (Option Value)}
    {tL : Addr} {Ku KZ Lj Kf zF Lr : Value} {Kq Mf : Option Addr} {J1 : Array (Option Value)}
    {oA : Addr} {Dw Eb Ey De uH Fi : Value} {Dq FN : Option Addr} {Cu : Array (Option Value)}
    {jz : Addr} {vz vM vY vm nM v8 : Value} {vp wA : Option Addr} {u6 : Array (Option Value)}
    {lH : Addr} {yD yO zm yo qx zu : Value} {yx zL : Option Addr} {yc : Array (Option Value)}
    {lK : Addr} {yF yQ zq yq qz zy : Value} {yC zN : Option Addr} {ye : Array (Option Value)}
    {oJ : Addr} {DN Eh Fe Dj uM Fq : Value} {Dv FZ : Option Addr} {CG : Array (Option Value)}
    {tK : Addr} {Ks KY Li Ke zE Lq : Value} {Kp Ma : Option Addr} {J0 : Array (Option Value)}
    {qt : Addr} {Ht HR Jf Hi wX Jj : Value} {Ho Jx : Option Addr} {GK : Array (Option Value)}
    {oH : Addr} {DK Eg Fd Di uL Fp : Value} {Du FW : Option Addr} {Cz : Array (Option Value)}
    {qp : Addr} {Hs HQ Je Hh wW Ji : Value} {Hn Jw : Option Addr} {GJ : Array (Option Value)}
    {ql : Addr} {Hq HJ Jc Hf wU Jg : Value} {Hl Ju : Option Addr} {GD : Array (Option Value)}
    {gP : Addr} {rG rH rK rE j6 rM : Value} {rF rN : Option Addr} {rC : Array (Option Value)}
    {oE : Addr} {Dy Ec Ez Df uI Fj : Value} {Dr FP : Option Addr} {Cv : Array (Option Value)}
    {m5 : Addr} {Ae Af Ai Ac rW Aj : Value} {Ad Am : Option Addr} {z8 : Array (Option Value)}
    {oF : Addr} {Dz Ed EY Dg uJ Fl : Value} {Ds FQ : Option Addr} {Cw : Array (Option Value)}
    {lJ : Addr} {yE yP zp yp qy zx : Value} {yz zM : Option Addr} {yd : Array (Option Value)}
    {qm : Addr} {Hr HN Jd Hg wV Jh : Value} {Hm Jv : Option Addr} {GF : Array (Option Value)}
    {oG : Addr} {DG Ef Fb Dh uK Fo : Value} {Dt FT : Option Addr} {Cy : Array (Option Value)}
    {vR : Addr} {Px PK Ql O6 BJ Qo : Value} {Pu Qv : Option Addr} {Ov : Array (Option Value)}
    {tH : Addr} {Kr KR Lh Kd zB Lp : Value} {Ko LR : Option Addr} {JZ : Array (Option Value)}
    {jy : Addr} {vq vL vX vh nJ vZ : Value} {vo wy : Option Addr} {u5 : Array (Option Value)}
    {Lf : Addr} {abw Te U5 RQ Ls U8 : Value} {abo Vo : Option Addr} {aak : Array (Option Value)}
    {aab : Tok}
    {Ci : Tok}
    {Ih : Addr} {Ui : Nat} {Qe : Array (Option Value)} {Qd Qc : Tok}
    {Nq : Addr} {X3 : Nat} {Uh : Array (Option Value)} {Ug Ue : Tok}
    (Ga : PySem.W.nsIn K mainGlobals "rises" = some (some (.ref yZ)))
    (DW : K.lookup yZ = some ⟨Sq, R9, .func (PySem.W.fnOf "rises" "rises" (bK qX) (bz qX) (aD qX) .none Td U4 RP Vn Jp U7), Rc⟩)
    (Fw : PySem.W.codeIn K Jp "rises" = true)
    (Ea : PySem.W.keepIn K (.ref yZ) = true)
    (wD : PySem.W.nsIn K mainGlobals "is_pair" = some (some (.ref tL)))
    (vG : K.lookup tL = some ⟨Ku, Kq, .func (PySem.W.fnOf "is_pair" "is_pair" (bK kI) (bz kI) (aD kI) .none KZ Lj Kf Mf zF Lr), J1⟩)
    (wu : PySem.W.codeIn K zF "is_pair" = true)
    (vK : PySem.W.keepIn K (.ref tL) = true)
    (qK : PySem.W.nsIn K mainGlobals "sounds_of" = some (some (.ref oA)))
    (pN : K.lookup oA = some ⟨Dw, Dq, .func (PySem.W.fnOf "sounds_of" "sounds_of" (bK iC) (bz iC) (aD iC) .none Eb Ey De FN uH Fi), Cu⟩)
    (qC : PySem.W.codeIn K uH "sounds_of" = true)
    (pW : PySem.W.keepIn K (.ref oA) = true)
    (j0 : PySem.W.nsIn K mainGlobals "changes_sound" = some (some (.ref jz)))
    (jU : K.lookup jz = some ⟨vz, vp, .func (PySem.W.fnOf "changes_sound" "changes_sound" (bK dw) (bz dw) (aD dw) .none vM vY vm wA nM v8), u6⟩)
    (jY : PySem.W.codeIn K nM "changes_sound" = true)
    (jW : PySem.W.keepIn K (.ref jz) = true)
    (m9 : PySem.W.nsIn K mainGlobals "puts_one_in" = some (some (.ref lH)))
    (mU : K.lookup lH = some ⟨yD, yx, .func (PySem.W.fnOf "puts_one_in" "puts_one_in" (bK fM) (bz fM) (aD fM) .none yO zm yo zL qx zu), yc⟩)
    (m6 : PySem.W.codeIn K qx "puts_one_in" = true)
    (mX : PySem.W.keepIn K (.ref lH) = true)
    (nq : PySem.W.nsIn K mainGlobals "are_changes" = some (some (.ref lK)))
    (mW : K.lookup lK = some ⟨yF, yC, .func (PySem.W.fnOf "are_changes" "are_changes" (bK fP) (bz fP) (aD fP) .none yQ zq yq zN qz zy), ye⟩)
    (m8 : PySem.W.codeIn K qz "are_changes" = true)
    (mZ : PySem.W.keepIn K (.ref lK) = true)
    (qP : PySem.W.nsIn K mainGlobals "are_signs" = some (some (.ref oJ)))
    (pU : K.lookup oJ = some ⟨DN, Dv, .func (PySem.W.fnOf "are_signs" "are_signs" (bK iJ) (bz iJ) (aD iJ) .none Eh Fe Dj FZ uM Fq), CG⟩)
    (qI : PySem.W.codeIn K uM "are_signs" = true)
    (p7 : PySem.W.keepIn K (.ref oJ) = true)
    (wC : PySem.W.nsIn K mainGlobals "is_rule" = some (some (.ref tK)))
    (vD : K.lookup tK = some ⟨Ks, Kp, .func (PySem.W.fnOf "is_rule" "is_rule" (bK kE) (bz kE) (aD kE) .none KY Li Ke Ma zE Lq), J0⟩)
    (wk : PySem.W.codeIn K zE "is_rule" = true)
    (vJ : PySem.W.keepIn K (.ref tK) = true)
    (t7 : PySem.W.nsIn K mainGlobals "is_order" = some (some (.ref qt)))
    (sW : K.lookup qt = some ⟨Ht, Ho, .func (PySem.W.fnOf "is_order" "is_order" (bK jr) (bz jr) (aD jr) .none HR Jf Hi Jx wX Jj), GK⟩)
    (tX : PySem.W.codeIn K wX "is_order" = true)
    (tu : PySem.W.keepIn K (.ref qt) = true)
    (qO : PySem.W.nsIn K mainGlobals "_law_mixed" = some (some (.ref oH)))
    (pR : K.lookup oH = some ⟨DK, Du, .func (PySem.W.fnOf "_law_mixed" "_law_mixed" (bK iI) (bz iI) (aD iI) .none Eg Fd Di FW uL Fp), Cz⟩)
    (qH : PySem.W.codeIn K uL "_law_mixed" = true)
    (p6 : PySem.W.keepIn K (.ref oH) = true)
    (t6 : PySem.W.nsIn K mainGlobals "_law_pack" = some (some (.ref qp)))
    (sV : K.lookup qp = some ⟨Hs, Hn, .func (PySem.W.fnOf "_law_pack" "_law_pack" (bK jq) (bz jq) (aD jq) .none HQ Je Hh Jw wW Ji), GJ⟩)
    (tW : PySem.W.codeIn K wW "_law_pack" = true)
    (sZ : PySem.W.keepIn K (.ref qp) = true)
    (tY : PySem.W.nsIn K mainGlobals "_law_take" = some (some (.ref ql)))
    (sS : K.lookup ql = some ⟨Hq, Hl, .func (PySem.W.fnOf "_law_take" "_law_take" (bK jn) (bz jn) (aD jn) .none HJ Jc Hf Ju wU Jg), GD⟩)
    (tU : PySem.W.codeIn K wU "_law_take" = true)
    (sX : PySem.W.keepIn K (.ref ql) = true)
    (iB : PySem.W.nsIn K mainGlobals "_law_drawn_sounds" = some (some (.ref gP)))
    (iu : K.lookup gP = some ⟨rG, rF, .func (PySem.W.fnOf "_law_drawn_sounds" "_law_drawn_sounds" (bK cC) (bz cC) (aD cC) .none rH rK rE rN j6 rM), rC⟩)
    (iz : PySem.W.codeIn K j6 "_law_drawn_sounds" = true)
    (iw : PySem.W.keepIn K (.ref gP) = true)
    (qL : PySem.W.nsIn K mainGlobals "_law_stock" = some (some (.ref oE)))
    (pO : K.lookup oE = some ⟨Dy, Dr, .func (PySem.W.fnOf "_law_stock" "_law_stock" (bK iD) (bz iD) (aD iD) .none Ec Ez Df FP uI Fj), Cv⟩)
    (qD : PySem.W.codeIn K uI "_law_stock" = true)
    (pX : PySem.W.keepIn K (.ref oE) = true)
    (oW : PySem.W.nsIn K mainGlobals "_law_sounds" = some (some (.ref m5)))
    (nY : K.lookup m5 = some ⟨Ae, Ad, .func (PySem.W.fnOf "_law_sounds" "_law_sounds" (bK gG) (bz gG) (aD gG) .none Af Ai Ac Am rW Aj), z8⟩)
    (oO : PySem.W.codeIn K rW "_law_sounds" = true)
    (nZ : PySem.W.keepIn K (.ref m5) = true)
    (qM : PySem.W.nsIn K mainGlobals "_law_signs" = some (some (.ref oF)))
    (pP : K.lookup oF = some ⟨Dz, Ds, .func (PySem.W.fnOf "_law_signs" "_law_signs" (bK iG) (bz iG) (aD iG) .none Ed EY Dg FQ uJ Fl), Cw⟩)
    (qF : PySem.W.codeIn K uJ "_law_signs" = true)
    (pY : PySem.W.keepIn K (.ref oF) = true)
    (ni : PySem.W.nsIn K mainGlobals "_law_changes" = some (some (.ref lJ)))
    (mV : K.lookup lJ = some ⟨yE, yz, .func (PySem.W.fnOf "_law_changes" "_law_changes" (bK fO) (bz fO) (aD fO) .none yP zp yp zM qy zx), yd⟩)
    (m7 : PySem.W.codeIn K qy "_law_changes" = true)
    (mY : PySem.W.keepIn K (.ref lJ) = true)
    (tZ : PySem.W.nsIn K mainGlobals "_law_rule" = some (some (.ref qm)))
    (sU : K.lookup qm = some ⟨Hr, Hm, .func (PySem.W.fnOf "_law_rule" "_law_rule" (bK jo) (bz jo) (aD jo) .none HN Jd Hg Jv wV Jh), GF⟩)
    (tV : PySem.W.codeIn K wV "_law_rule" = true)
    (sY : PySem.W.keepIn K (.ref qm) = true)
    (qN : PySem.W.nsIn K mainGlobals "_law_order" = some (some (.ref oG)))
    (pQ : K.lookup oG = some ⟨DG, Dt, .func (PySem.W.fnOf "_law_order" "_law_order" (bK iH) (bz iH) (aD iH) .none Ef Fb Dh FT uK Fo), Cy⟩)
    (qG : PySem.W.codeIn K uK "_law_order" = true)
    (pZ : PySem.W.keepIn K (.ref oG) = true)
    (zP : PySem.W.nsIn K mainGlobals "_law_is" = some (some (.ref vR)))
    (yL : K.lookup vR = some ⟨Px, Pu, .func (PySem.W.fnOf "_law_is" "_law_is" (bK nD) (bz nD) (aD nD) .none PK Ql O6 Qv BJ Qo), Ov⟩)
    (zG : PySem.W.codeIn K BJ "_law_is" = true)
    (yN : PySem.W.keepIn K (.ref vR) = true)
    (wB : PySem.W.nsIn K mainGlobals "_law_out" = some (some (.ref tH)))
    (vC : K.lookup tH = some ⟨Kr, Ko, .func (PySem.W.fnOf "_law_out" "_law_out" (bK km) (bz km) (aD km) .none KR Lh Kd LR zB Lp), JZ⟩)
    (wj : PySem.W.codeIn K zB "_law_out" = true)
    (vI : PySem.W.keepIn K (.ref tH) = true)
    (jZ : PySem.W.nsIn K mainGlobals "_law_no_orders" = some (some (.ref jy)))
    (jT : K.lookup jy = some ⟨vq, vo, .func (PySem.W.fnOf "_law_no_orders" "_law_no_orders" (bK du) (bz du) (aD du) .none vL vX vh wy nJ vZ), u5⟩)
    (jX : PySem.W.codeIn K nJ "_law_no_orders" = true)
    (jV : PySem.W.keepIn K (.ref jy) = true)
    (Vs : PySem.W.nsIn K mainGlobals "law" = some (some (.ref Lf)))
    (S7 : K.lookup Lf = some ⟨abw, abo, .func (PySem.W.fnOf "law" "law" (bK uo) (bz uo) (aD uo) .none Te U5 RQ Vo Ls U8), aak⟩)
    (Vj : PySem.W.codeIn K Ls "law" = true)
    (Tc : PySem.W.keepIn K (.ref Lf) = true)
    (QS : PySem.W.nsIn K mainGlobals "all" = some none)
    (JG : PySem.W.nsIn K mainGlobals "bool" = some none)
    (xN : PySem.W.nsIn K mainGlobals "divmod" = some none)
    (nQ : PySem.W.nsIn K mainGlobals "isinstance" = some none)
    (QR : PySem.W.nsIn K mainGlobals "len" = some none)
    (JF : PySem.W.nsIn K mainGlobals "list" = some none)
    (QM : PySem.W.nsIn K mainGlobals "max" = some none)
    (QL : PySem.W.nsIn K mainGlobals "min" = some none)
    (BW : PySem.W.nsIn K mainGlobals "range" = some none)
    (QK : PySem.W.nsIn K mainGlobals "set" = some none)
    (xM : PySem.W.nsIn K mainGlobals "sorted" = some none)
    (BV : PySem.W.nsIn K mainGlobals "tuple" = some none)
    (qb : ∀ d : D, PySem.W.kitOne K (.type (Mq d)) (.type "bool") = some (jc d "bool"))
    (cu : ∀ d : D, PySem.W.kitOne K (.type (Mq d)) (.type "tuple") = some (jc d "tuple"))
    (K9 : PySem.W.nsIn K mainGlobals "EDGE" = some (some (.str "#" aab)))
    (oh : PySem.W.nsIn K mainGlobals "MOST_RULES" = some (some (.int 4 Ci)))
    (Ek : PySem.W.nsIn K mainGlobals "SIDES" = some (some (.ref Ih)))
    (gA : K.lookup Ih = some ⟨.type "tuple", none, .seq #[.str "left" Qd, .str "right" Qc] Ui, Qe⟩)
    (K8 : PySem.W.nsIn K mainGlobals "WAYS" = some (some (.ref Nq)))
    (jd : K.lookup Nq = some ⟨.type "tuple", none, .seq #[.str "once" Ug, .str "along" Ue] X3, Uh⟩) :
    ∃ fd : FuncData, (∀ (s : Shared) (v : Value), BindsTo s fd ⟨[v], []⟩ [("_law_script", v)]) ∧ ∀ base : Heap, K.In base → base.Ns mainGlobals mg → pA P w K mg base JB 6 fa fd ["_law_script"] (mK K 1 Iv) := by
  have e := hfa.symm.trans (PySem.W.mg_of X G Vs)
  cases e
  have gO := xn X G QS
  have DP := xn X G JG
  have vB := xn X G xN
  have aZ := xn X G nQ
  have bQ := xn X G QR
  have my := xn X G JF
  have Kz := xn X G QM
  have Ky := xn X G QL
  have bM := xn X G BW
  have Kw := xn X G QK
  have dz := xn X G xM
  have aY := xn X G BV
  have n8 : Vx K mg "EDGE" (.str [35]) := X4 X G K9 (by decide +kernel) (by decide)
  have dM : Vx K mg "MOST_RULES" (.int 4) := X5 X G oh
  have gA : Vx K mg "SIDES" (.tup [(.str [108, 101, 102, 116]), (.str [114, 105, 103, 104, 116])]) := Ig X G Ek gA (.str (by decide +kernel) (by decide)) (.str (by decide +kernel) (by decide))
  have jd : Vx K mg "WAYS" (.tup [(.str [111, 110, 99, 101]), (.str [97, 108, 111, 110, 103])]) := Ig X G K8 jd (.str (by decide +kernel) (by decide)) (.str (by decide +kernel) (by decide))
  refine ⟨PySem.W.fnOf "law" "law" (bK uo) (bz uo) (aD uo) .none Te U5 RQ Vo Ls U8, fun s v => .of_eq rfl, fun base _ _ => ?_⟩
  have V1 : bL K mg "rises" qX ["things"] := funAt X G Ga DW Fw Ea (fun _ _ _ _ _ _ us hl => match us, hl with | [_], _ => rfl)
  have mq := mq (P := P) (w := w) (base := base) V1 gO bQ bM
  have Ol : bL K mg "is_pair" kI ["thing"] := funAt X G wD vG wu vK (fun _ _ _ _ _ _ us hl => match us, hl with | [_], _ => rfl)
  have d7 := d7 (P := P) (w := w) (base := base) Ol aZ bQ aY cu
  have Gn : bL K mg "sounds_of" iC ["stock"] := funAt X G qK pN qC pW (fun _ _ _ _ _ _ us hl => match us, hl with | [_], _ => rfl)
  have jL := jL (P := P) (w := w) (base := base) Gn aY
  have xj : bL K mg "changes_sound" dw ["sounds", "thing"] := funAt X G j0 jU jY jW (fun _ _ _ _ _ _ us hl => match us, hl with | [_, _], _ => rfl)
  have fK := fK (P := P) (w := w) (base := base) xj d7
  have zY : bL K mg "puts_one_in" fM ["sounds", "thing"] := funAt X G m9 mU m6 mX (fun _ _ _ _ _ _ us hl => match us, hl with | [_, _], _ => rfl)
  have gY := gY (P := P) (w := w) (base := base) zY d7
  have z6 : bL K mg "are_changes" fP ["sounds", "thing"] := funAt X G nq mW m8 mZ (fun _ _ _ _ _ _ us hl => match us, hl with | [_, _], _ => rfl)
  have g8 := g8 (P := P) (w := w) (base := base) z6 gO aZ bQ aY cu fK gY mq
  have Gu : bL K mg "are_signs" iJ ["sounds", "thing"] := funAt X G qP pU qI p7 (fun _ _ _ _ _ _ us hl => match us, hl with | [_, _], _ => rfl)
  have iR := iR (P := P) (w := w) (base := base) Gu gO aZ bQ aY cu n8 mq
  have Oj : bL K mg "is_rule" kE ["stock", "thing"] := funAt X G wC vD wk vJ (fun _ _ _ _ _ _ us hl => match us, hl with | [_, _], _ => rfl)
  have fQ := fQ (P := P) (w := w) (base := base) Oj aZ bQ aY cu jd g8 iR jL
  have JV : bL K mg "is_order" jr ["stock", "thing"] := funAt X G t7 sW tX tu (fun _ _ _ _ _ _ us hl => match us, hl with | [_, _], _ => rfl)
  have gm := gm (P := P) (w := w) (base := base) JV gO aZ bQ aY cu dM gA d7 fQ
  have Gs : bL K mg "_law_mixed" iI ["_law_cell"] := funAt X G qO pR qH p6 (fun _ _ _ _ _ _ us hl => match us, hl with | [_], _ => rfl)
  have jN := jN (P := P) (w := w) (base := base) Gs 
  have JT : bL K mg "_law_pack" jq ["_law_script", "_law_k"] := funAt X G t6 sV tW sZ (fun _ _ _ _ _ _ us hl => match us, hl with | [_, _], _ => rfl)
  have lB := lB (P := P) (w := w) (base := base) JT jN
  have JR : bL K mg "_law_take" jn ["_law_pack_here", "_law_size"] := funAt X G tY sS tU sX (fun _ _ _ _ _ _ us hl => match us, hl with | [_, _], _ => rfl)
  have aR := aR (P := P) (w := w) (base := base) JR vB
  have rZ : bL K mg "_law_drawn_sounds" cC ["_law_pack_here"] := funAt X G iB iu iz iw (fun _ _ _ _ _ _ us hl => match us, hl with | [_], _ => rfl)
  have cX := cX (P := P) (w := w) (base := base) rZ bM Kw dz aR
  have Gp : bL K mg "_law_stock" iD ["_law_pack_here"] := funAt X G qL pO qD pX (fun _ _ _ _ _ _ us hl => match us, hl with | [_], _ => rfl)
  have jM := jM (P := P) (w := w) (base := base) Gp bM dz aY cX aR
  have Cg : bL K mg "_law_sounds" gG ["_law_stock_here"] := funAt X G oW nY oO nZ (fun _ _ _ _ _ _ us hl => match us, hl with | [_], _ => rfl)
  have iY := iY (P := P) (w := w) (base := base) Cg 
  have Gq : bL K mg "_law_signs" iG ["_law_pack_here", "_law_sounds_here"] := funAt X G qM pP qF pY (fun _ _ _ _ _ _ us hl => match us, hl with | [_, _], _ => rfl)
  have iK := iK (P := P) (w := w) (base := base) Gq bQ bM aY aR
  have zZ : bL K mg "_law_changes" fO ["_law_pack_here", "_law_sounds_here"] := funAt X G ni mV m7 mY (fun _ _ _ _ _ _ us hl => match us, hl with | [_, _], _ => rfl)
  have gZ := gZ (P := P) (w := w) (base := base) zZ bQ my bM dz aY aR
  have JS : bL K mg "_law_rule" jo ["_law_pack_here", "_law_sounds_here"] := funAt X G tZ sU tV sY (fun _ _ _ _ _ _ us hl => match us, hl with | [_, _], _ => rfl)
  have lA := lA (P := P) (w := w) (base := base) JS gZ iK aR
  have Gr : bL K mg "_law_order" iH ["_law_pack_here", "_law_sounds_here", "_law_most"] := funAt X G qN pQ qG pZ (fun _ _ _ _ _ _ us hl => match us, hl with | [_, _, _], _ => rfl)
  have iQ := iQ (P := P) (w := w) (base := base) Gr bM aY lA aR
  have QZ : bL K mg "_law_is" nD ["_law_found", "_law_due"] := funAt X G zP yL zG yN (fun _ _ _ _ _ _ us hl => match us, hl with | [_, _], _ => rfl)
  have gk := gk (P := P) (w := w) (base := base) QZ DP aZ qb
  have Oi : bL K mg "_law_out" km ["_law_sounds_here"] := funAt X G wB vC wj vI (fun _ _ _ _ _ _ us hl => match us, hl with | [_], _ => rfl)
  have iM := iM (P := P) (w := w) (base := base) Oi 
  have xg : bL K mg "_law_no_orders" du ["_law_order_here", "_law_sounds_here"] := funAt X G jZ jT jX jV (fun _ _ _ _ _ _ us hl => match us, hl with | [_, _], _ => rfl)
  have fJ := fJ (P := P) (w := w) (base := base) xg my iM
  exact ac5 (Le (st := uo) S7 Vj Tc) gO bQ Kz Ky bM dz aY gk fJ iQ iM lB iY jM gm fQ
end wZ
theorem PySem.W.Fast.tw2033171538199470691:True:=trivial
theorem PySem.W.Fast.tw717802600996060673:True:=trivial
theorem PySem.W.Fast.tw17227301426063493406:True:=trivial
theorem PySem.W.Fast.tw11505491946598385861:True:=trivial
theorem PySem.W.Fast.tw16521741076709002874:True:=trivial
theorem PySem.W.Fast.tw3865734072451820792:True:=trivial
theorem PySem.W.Fast.tw18385390728172940154:True:=trivial
theorem PySem.W.Fast.tw4895815772711235696:True:=trivial
theorem PySem.W.Fast.tw5308640626098780858:True:=trivial
theorem PySem.W.Fast.tw11854101554619152133:True:=trivial
theorem PySem.W.Fast.tw8500529156109698167:True:=trivial
theorem PySem.W.Fast.tw9295206900021091066:True:=trivial
theorem PySem.W.Fast.tw2056881850670279121:True:=trivial
theorem PySem.W.Fast.tw4542315665265488561:True:=trivial
theorem PySem.W.Fast.tw14457828393264051254:True:=trivial
theorem PySem.W.Fast.tw7719404990931922206:True:=trivial
theorem PySem.W.Fast.tw16881505383415948206:True:=trivial
theorem PySem.W.Fast.tw3576910567754350143:True:=trivial
theorem PySem.W.Fast.tw11995129276862739597:True:=trivial
theorem PySem.W.Fast.tw4561112294836427022:True:=trivial
theorem PySem.W.Fast.tw573050556269670272:True:=trivial
theorem PySem.W.Fast.tw3158844528616029484:True:=trivial
theorem PySem.W.Fast.tw2387502676801575898:True:=trivial
theorem PySem.W.Fast.tw14427836452690658767:True:=trivial
theorem PySem.W.Fast.tw4831268965634675337:True:=trivial
theorem PySem.W.Fast.tw375531281554315432:True:=trivial
theorem PySem.W.Fast.tw15713025161775883623:True:=trivial
theorem PySem.W.Fast.tw12010283814191364847:True:=trivial
theorem PySem.W.Fast.tw508304033514816939:True:=trivial
theorem PySem.W.Fast.tw5377519166639620693:True:=trivial
theorem PySem.W.Fast.tw722259505269096943:True:=trivial
open PySem PySem.W PyProof.Rows
set_option maxRecDepth 100000 in
set_option maxHeartbeats 0 in
theorem PySem.Challenge.cw_soundrules_k05_orders_of_any_things_holds : PySem.Challenge.rw_soundrules_k05_orders_of_any_things.Holds := by
  w_on; o_law; k_head; (case hw => w_witness2)
  k_fill
  refine Ev.adT (l := PySem.Challenge.rw_soundrules_k05_orders_of_any_things) (k := 6) (x := "_law_script") (f := wZ.Iv) rfl (by decide) rfl ⟨rfl, by decide, by decide⟩ (fun w h Y => PySem.W.kIn_of Y) wZ.QX ?F
  case F =>
    intro w mg fa h KX G hmg
    refine' wZ.all_mk KX G hmg ?Ga ?DW ?Fw ?Ea ?wD ?vG ?wu ?vK ?qK ?pN ?qC ?pW ?j0 ?jU ?jY ?jW ?m9 ?mU ?m6 ?mX ?nq ?mW ?m8 ?mZ ?qP ?pU ?qI ?p7 ?wC ?vD ?wk ?vJ ?t7 ?sW ?tX ?tu ?qO ?pR ?qH ?p6 ?t6 ?sV ?tW ?sZ ?tY ?sS ?tU ?sX ?iB ?iu ?iz ?iw ?qL ?pO ?qD ?pX ?oW ?nY ?oO ?nZ ?qM ?pP ?qF ?pY ?ni ?mV ?m7 ?mY ?tZ ?sU ?tV ?sY ?qN ?pQ ?qG ?pZ ?zP ?yL ?zG ?yN ?wB ?vC ?wj ?vI ?jZ ?jT ?jX ?jV ?Vs ?S7 ?Vj ?Tc ?QS ?JG ?xN ?nQ ?QR ?JF ?QM ?QL ?BW ?QK ?xM ?BV ?qb ?cu ?K9 ?oh ?Ek ?gA ?K8 ?jd
    (case Ga => k_is)
    (case DW => k_is)
    (case Fw => k_is)
    (case Ea => k_is)
    (case wD => k_is)
    (case vG => k_is)
    (case wu => k_is)
    (case vK => k_is)
    (case qK => k_is)
    (case pN => k_is)
    (case qC => k_is)
    (case pW => k_is)
    (case j0 => k_is)
    (case jU => k_is)
    (case jY => k_is)
    (case jW => k_is)
    (case m9 => k_is)
    (case mU => k_is)
    (case m6 => k_is)
    (case mX => k_is)
    (case nq => k_is)
    (case mW => k_is)
    (case m8 => k_is)
    (case mZ => k_is)
    (case qP => k_is)
    (case pU => k_is)
    (case qI => k_is)
    (case p7 => k_is)
    (case wC => k_is)
    (case vD => k_is)
    (case wk => k_is)
    (case vJ => k_is)
    (case t7 => k_is)
    (case sW => k_is)
    (case tX => k_is)
    (case tu => k_is)
    (case qO => k_is)
    (case pR => k_is)
    (case qH => k_is)
    (case p6 => k_is)
    (case t6 => k_is)
    (case sV => k_is)
    (case tW => k_is)
    (case sZ => k_is)
    (case tY => k_is)
    (case sS => k_is)
    (case tU => k_is)
    (case sX => k_is)
    (case iB => k_is)
    (case iu => k_is)
    (case iz => k_is)
    (case iw => k_is)
    (case qL => k_is)
    (case pO => k_is)
    (case qD => k_is)
    (case pX => k_is)
    (case oW => k_is)
    (case nY => k_is)
    (case oO => k_is)
    (case nZ => k_is)
    (case qM => k_is)
    (case pP => k_is)
    (case qF => k_is)
    (case pY => k_is)
    (case ni => k_is)
    (case mV => k_is)
    (case m7 => k_is)
    (case mY => k_is)
    (case tZ => k_is)
    (case sU => k_is)
    (case tV => k_is)
    (case sY => k_is)
    (case qN => k_is)
    (case pQ => k_is)
    (case qG => k_is)
    (case pZ => k_is)
    (case zP => k_is)
    (case yL => k_is)
    (case zG => k_is)
    (case yN => k_is)
    (case wB => k_is)
    (case vC => k_is)
    (case wj => k_is)
    (case vI => k_is)
    (case jZ => k_is)
    (case jT => k_is)
    (case jX => k_is)
    (case jV => k_is)
    (case Vs => k_is)
    (case S7 => k_is)
    (case Vj => k_is)
    (case Tc => k_is)
    (case QS => k_is)
    (case JG => k_is)
    (case xN => k_is)
    (case nQ => k_is)
    (case QR => k_is)
    (case JF => k_is)
    (case QM => k_is)
    (case QL => k_is)
    (case BW => k_is)
    (case QK => k_is)
    (case xM => k_is)
    (case BV => k_is)
    (case qb => (intro d; cases d with | non => (show PySem.W.kitOne _ (.type "NoneType") (.type "bool") = some false; kit_is) | bl => (show PySem.W.kitOne _ (.type "bool") (.type "bool") = some true; kit_is) | int => (show PySem.W.kitOne _ (.type "int") (.type "bool") = some false; kit_is) | str => (show PySem.W.kitOne _ (.type "str") (.type "bool") = some false; kit_is) | tup => (show PySem.W.kitOne _ (.type "tuple") (.type "bool") = some false; kit_is) | lst => (show PySem.W.kitOne _ (.type "list") (.type "bool") = some false; kit_is) | arr => (show PySem.W.kitOne _ (.type "list") (.type "bool") = some false; kit_is) | dct => (show PySem.W.kitOne _ (.type "dict") (.type "bool") = some false; kit_is)))
    (case cu => (intro d; cases d with | non => (show PySem.W.kitOne _ (.type "NoneType") (.type "tuple") = some false; kit_is) | bl => (show PySem.W.kitOne _ (.type "bool") (.type "tuple") = some false; kit_is) | int => (show PySem.W.kitOne _ (.type "int") (.type "tuple") = some false; kit_is) | str => (show PySem.W.kitOne _ (.type "str") (.type "tuple") = some false; kit_is) | tup => (show PySem.W.kitOne _ (.type "tuple") (.type "tuple") = some true; kit_is) | lst => (show PySem.W.kitOne _ (.type "list") (.type "tuple") = some false; kit_is) | arr => (show PySem.W.kitOne _ (.type "list") (.type "tuple") = some false; kit_is) | dct => (show PySem.W.kitOne _ (.type "dict") (.type "tuple") = some false; kit_is)))
    (case K9 => k_is)
    (case oh => k_is)
    (case Ek => k_is)
    (case gA => k_is)
    (case K8 => k_is)
    (case jd => k_is)
