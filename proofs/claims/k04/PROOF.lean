import PyProof.Rows.All
import Wide.All
import OpenK.AllK
import Wide.FinOn
import Lean
import PyProof.EqAt
import PyProof.EqKinds
import PyProof.TupleCall
import PySem.Challenge.RW_soundrules_k04_rules_of_any_things
set_option Elab.async false
set_option linter.all false
set_option maxRecDepth 100000
namespace L2
open PySem PySem.Spec PyProof.Rows
abbrev Key := Sum Int Str
def keyIs : Key → Value → Bool
  | .inl k, v => Value.isInt k v
  | .inr x, v => Value.isStrOf x v
def keyH (w : World) : Key → Int
  | .inl k => hashInt k
  | .inr x => hashStr w x
theorem keyIs_shape : ∀ {k : Key} {v : Value}, keyIs k v = true → (∃ i t, k = Sum.inl i ∧ v = Value.int i t) ∨ (∃ x t, k = Sum.inr x ∧ v = Value.str x t)
  | .inl i, v, h => by
    obtain ⟨t, e⟩ := Value.isInt_shape (k := i) (v := v) h
    exact .inl ⟨i, t, rfl, e⟩
  | .inr x, v, h => by
    obtain ⟨t, e⟩ := Value.isStrOf_shape (x := x) (v := v) h
    exact .inr ⟨x, t, rfl, e⟩
theorem keyIs_int (i : Int) (t : Tok) : keyIs (.inl i) (.int i t) = true := by simp [keyIs, Value.isInt]
theorem keyIs_str (x : Str) (t : Tok) : keyIs (.inr x) (.str x t) = true := by simp [keyIs, Value.isStrOf]
theorem key_ll (a b : Int) : decide ((Sum.inl a : Key) = Sum.inl b) = (a == b) := by
  by_cases e : a = b
  · subst e; simp
  · have h : ¬ (Sum.inl a : Key) = Sum.inl b := fun q => e (Sum.inl.inj q)
    rw [decide_eq_false h]
    exact (beq_eq_false_iff_ne.mpr e).symm
theorem key_rr (a b : Str) : decide ((Sum.inr a : Key) = Sum.inr b) = decide (a = b) := by
  by_cases e : a = b
  · subst e; simp
  · have h : ¬ (Sum.inr a : Key) = Sum.inr b := fun q => e (Sum.inr.inj q)
    rw [decide_eq_false h, decide_eq_false e]
theorem key_lr (a : Int) (b : Str) : decide ((Sum.inl a : Key) = Sum.inr b) = false := decide_eq_false (fun q => nomatch q)
theorem key_rl (a : Str) (b : Int) : decide ((Sum.inr a : Key) = Sum.inl b) = false := decide_eq_false (fun q => nomatch q)
def mixKind (prog : Program) (w : World) : PySem.KeyKind prog w Key where
  is := keyIs
  hash := keyH w
  inj := fun v a b ha hb => by
    rcases keyIs_shape ha with ⟨i, t, rfl, rfl⟩ | ⟨x, t, rfl, rfl⟩
    · rcases keyIs_shape hb with ⟨j, u, rfl, e⟩ | ⟨y, u, rfl, e⟩
      · injection e with e1 _; rw [e1]
      · exact nomatch e
    · rcases keyIs_shape hb with ⟨j, u, rfl, e⟩ | ⟨y, u, rfl, e⟩
      · exact nomatch e
      · injection e with e1 _; rw [e1]
  byValue := fun k v h => by
    rcases keyIs_shape h with ⟨i, t, rfl, rfl⟩ | ⟨x, t, rfl, rfl⟩ <;> rfl
  pyHash := fun hv h => by
    rcases keyIs_shape hv with ⟨i, t, rfl, rfl⟩ | ⟨x, t, rfl, rfl⟩
    · exact wpAny_pyHash_int h
    · exact wpAny_pyHash_str h
  eqBool := fun hu hv h => by
    rcases keyIs_shape hu with ⟨i, t, rfl, rfl⟩ | ⟨x, t, rfl, rfl⟩
    · rcases keyIs_shape hv with ⟨j, u, rfl, rfl⟩ | ⟨y, u, rfl, rfl⟩
      · rw [key_ll] at h; exact wpAny_eqBool_int h
      · rw [key_lr] at h; exact SeqAt.EqAt.int_str i t y u _ _ _ _ h
    · rcases keyIs_shape hv with ⟨j, u, rfl, rfl⟩ | ⟨y, u, rfl, rfl⟩
      · rw [key_rl] at h; exact SeqAt.EqAt.str_int x t j u _ _ _ _ h
      · rw [key_rr] at h; exact wpAny_eqBool_str h
  «strs» := fun k x t v h => by
    rcases keyIs_shape h with ⟨i, u, rfl, e⟩ | ⟨y, u, rfl, e⟩
    · exact nomatch e
    · injection e with e1 _
      subst e1
      cases v <;> rfl
theorem mixKind_int (prog : Program) (w : World) (i : Int) (t : Tok) : (mixKind prog w).is (.inl i) (.int i t) = true := keyIs_int i t
theorem mixKind_str (prog : Program) (w : World) (x : Str) (t : Tok) : (mixKind prog w).is (.inr x) (.str x t) = true := keyIs_str x t
end L2
namespace L2
open PySem PySem.Spec PyProof.Rows
inductive V where
  | non | bl (b : Bool) | int (i : Int) | str (x : Str) | byt (b : Array UInt8) | flt (b : UInt64) | ref (a : Addr) | ty (n : String)
  deriving DecidableEq
def RelV : V → Value → Prop
  | .non, u => u = Value.none
  | .bl b, u => u = Value.bool b
  | .int i, u => ∃ t, u = Value.int i t
  | .str x, u => ∃ t, u = Value.str x t
  | .byt b, u => ∃ t, u = Value.bytes b t
  | .flt b, u => ∃ t, u = Value.float b t
  | .ref a, u => u = Value.ref a
  | .ty n, u => u = Value.type n
abbrev Vals : List V → List Value → Prop := Paired RelV
theorem Vals.length {xs : List V} {us : List Value} (r : Vals xs us) : xs.length = us.length := Paired.length r
theorem Vals.get : ∀ {xs : List V} {us : List Value} {i : Nat} {x : V}, Vals xs us → xs[i]? = some x → ∃ u, us[i]? = some u ∧ RelV x u
  | _, _, _, _, .nil, e => by simp at e
  | _, _, 0, _, .cons r _, e => by simp at e; subst e; exact ⟨_, rfl, r⟩
  | _, _, i + 1, x, .cons _ t, e => by
    obtain ⟨u, h1, h2⟩ := Vals.get (i := i) (x := x) t (by simpa using e)
    exact ⟨u, by simpa using h1, h2⟩
theorem Vals.set {x : V} {u : Value} (r : RelV x u) : ∀ {xs : List V} {us : List Value} (i : Nat), Vals xs us → Vals (xs.set i x) (us.set i u)
  | _, _, _, .nil => .nil
  | _, _, 0, .cons _ t => .cons r t
  | _, _, i + 1, .cons q t => .cons q (Vals.set r i t)
theorem Vals.append : ∀ {xs ys : List V} {us ws : List Value}, Vals xs us → Vals ys ws → Vals (xs ++ ys) (us ++ ws)
  | _, _, _, _, .nil, s => s
  | _, _, _, _, .cons r t, s => .cons r (Vals.append t s)
theorem Vals.take : ∀ {xs : List V} {us : List Value} (n : Nat), Vals xs us → Vals (xs.take n) (us.take n)
  | _, _, 0, _ => .nil
  | _, _, _ + 1, .nil => .nil
  | _, _, n + 1, .cons r t => .cons r (Vals.take n t)
theorem Vals.drop : ∀ {xs : List V} {us : List Value} (n : Nat), Vals xs us → Vals (xs.drop n) (us.drop n)
  | _, _, 0, r => r
  | _, _, _ + 1, .nil => .nil
  | _, _, n + 1, .cons _ t => Vals.drop n t
def RelO : Option V → Option Value → Prop
  | some v, some u => RelV v u
  | none, none => True
  | _, _ => False
def KV {κ : Type} : List (κ × V) → List (κ × Value) → Prop := Paired fun (p : κ × V) (q : κ × Value) => p.1 = q.1 ∧ RelV p.2 q.2
def kV : Key → V
  | .inl i => .int i
  | .inr x => .str x
inductive HO where
  /-- a list -/
  | lst (xs : List V)
  /-- a tuple (never changes) -/
  | tup (xs : List V)
  /-- a dict whose keys are ints and texts; one whose keys are tuples of ints and texts (the empty one is both) -/
  | dK (kvs : List (Key × V)) | dT (kvs : List (List Key × V))
  /-- a set of ints: its members, its size -/
  | set (S : Int → Bool) (n : Nat)
  /-- an instance of the class at C, its dict at dx, its attributes -/
  | ins (C dx : Addr) (fs : List (Str × V))
  /-- the dict of the instance at x -/
  | own (x : Addr)
  /-- the dict of an exception -/
  | xd (fs : List (Str × V))
  /-- a bound method, f of x -/
  | met (f x : Addr)
  /-- a range object lo, lo + 1, .. below hi -/
  | rng (lo hi : Int)
  /-- a thing that is known to the object (the script; a dict while a loop walks it): read, never written while it is so -/
  | frz (o : Obj) (u : HO)
  /-- a code object's table -/
  | tbl (ps : Array Value)
  /-- any other thing, by what is true of its one object (a def of one's own: SetO a S n := HO.ext fun h => ..) -/
  | ext (φ : Heap → Prop)
abbrev Hp := Addr → Option HO
def upd (H : Hp) (a : Addr) (o : HO) : Hp := fun b => if b = a then some o else H b
theorem upd_same {H : Hp} {a : Addr} {o : HO} : upd H a o a = some o := by unfold upd; rw [if_pos rfl]
theorem upd_ne {H : Hp} {a b : Addr} {o : HO} (h : b ≠ a) : upd H a o b = H b := by unfold upd; rw [if_neg h]
theorem upd_upd {H : Hp} {a : Addr} {o u : HO} : upd (upd H a o) a u = upd H a u := by
  funext b; unfold upd; split <;> rfl
theorem ne_of {H : Hp} {a b : Addr} {o u : HO} (h : H a = some o) (h' : H b = some u) (d : o ≠ u) : a ≠ b := by
  intro e; subst e; rw [h] at h'; exact d (Option.some.inj h')
theorem ne_of_none {H : Hp} {a b : Addr} {o : HO} (h : H a = some o) (h' : H b = none) : a ≠ b := by
  intro e; subst e; rw [h] at h'; cases h'
def TupD (h : Heap) (a : Addr) (items : Array Value) : Prop := ∃ o, h.get? a = some o ∧ o.cls = .type "tuple" ∧ (∃ n, o.data = .seq items n) ∧ o.dict = none
theorem TupD.is {h : Heap} {a : Addr} {items : Array Value} (x : TupD h a items) : IsTup h a items := let ⟨o, h1, h2, h3, _⟩ := x; ⟨o, h1, h2, h3⟩
theorem TupD.new (h : Heap) (items : Array Value) : TupD (h.push { cls := .type "tuple", data := .seq items }) h.objs.size items := ⟨_, Heap.get?_push_size _ rfl, rfl, ⟨_, rfl⟩, rfl⟩
section
variable (P : Program) (w : World)
def ObjOk (H : Hp) (h : Heap) (a : Addr) : HO → Prop
  | .lst xs => xs.length ≤ sizeLine ∧ ∃ (its : List Value) (n : Nat), Vals xs its ∧ h.get? a = some { cls := .type "list", data := .seq its.toArray n }
  | .tup xs => xs.length ≤ sizeLine ∧ ∃ its : List Value, Vals xs its ∧ TupD h a its.toArray
  | .dK kvs => kvs.length ≤ sizeLine ∧ (a == sysModules) = false ∧ ∃ vs, KV kvs vs ∧ h.DictOf (mixKind P w) a vs
  | .dT kvs => kvs.length ≤ sizeLine ∧ (a == sysModules) = false ∧ ∃ xs : List (List Key × Addr × Value),
      Paired (fun (p : List Key × V) (q : List Key × Addr × Value) => p.1 = q.1 ∧ H q.2.1 = some (.tup (p.1.map kV)) ∧ RelV p.2 q.2.2) kvs xs ∧
      ∃ o es ep, h.get? a = some o ∧ o.ExactDict ∧ o.data = .dict es ep ∧ es.toList = xs.map (entryOfKey (tupleKind (mixKind P w))) ∧ (xs.map (·.1)).Nodup
  | .set S n => h.SetOf (intKind P w) a S n
  | .ins C dx fs => H dx = some (.own a) ∧ fs.length ≤ 1000 ∧ dx ≠ a ∧ h.get? a = some (PySem.W.instObj C dx) ∧
      ∃ mA, h.Ns1 dx mA ∧ (∀ f, RelO (fs.lookup f) (mA f)) ∧ PySem.Within mA (fs.map (·.1))
  | .own _ => ∃ o, h.get? a = some o
  | .xd fs => ∃ mA, h.Ns1 a mA ∧ ∀ f, RelO (fs.lookup f) (mA f)
  | .rng lo hi => ∃ t u v, h.get? a = some { cls := .type "range", data := .fields #[.int lo t, .int hi u, .int 1 v] }
  | .frz o u => h.get? a = some o ∧ ObjOk H h a u
  | .tbl ps => h.get? a = some { cls := .none, data := .fields ps }
  | .met f x => h.get? a = some (PySem.W.methodObj (.ref f) (.ref x))
  | .ext φ => φ h ∧ (∃ o, h.get? a = some o) ∧ ∀ h1 h2 : Heap, φ h1 → (∀ o, h1.get? a = some o → h2.get? a = some o) → φ h2
def HOk (H : Hp) (h : Heap) : Prop := ∀ a o, H a = some o → ObjOk P w H h a o
end
section
variable {P : Program} {w : World} {H H' : Hp} {h h' : Heap} {a : Addr} {o : HO}
theorem ObjOk.lt (x : ObjOk P w H h a o) : a < h.objs.size := by
  cases o with
  | lst xs => obtain ⟨_, _, _, _, e⟩ := x; exact Heap.lt_size e
  | tup xs => obtain ⟨_, _, _, p⟩ := x; exact p.is.lt
  | dK kvs => obtain ⟨_, _, _, _, o, _, _, e, _⟩ := x; exact Heap.lt_size e
  | dT kvs => obtain ⟨_, _, _, _, o, _, _, e, _⟩ := x; exact Heap.lt_size e
  | set S n => obtain ⟨o, _, _, _, e, _⟩ := x; exact Heap.lt_size e
  | ins C dx fs => obtain ⟨_, _, _, e, _⟩ := x; exact Heap.lt_size e
  | own y => obtain ⟨_, e⟩ := x; exact Heap.lt_size e
  | xd fs => obtain ⟨_, ⟨_, _, _, e, _⟩, _⟩ := x; exact Heap.lt_size e
  | rng lo hi => obtain ⟨_, _, _, e⟩ := x; exact Heap.lt_size e
  | frz ob u => obtain ⟨e, _⟩ := x; exact Heap.lt_size e
  | tbl ps => exact Heap.lt_size (show h.get? a = some _ from x)
  | met f y => exact Heap.lt_size (show h.get? a = some _ from x)
  | ext φ => obtain ⟨_, ⟨_, e⟩, _⟩ := x; exact Heap.lt_size e
theorem Paired.mapP {α β : Type} {F G : α → β → Prop} : ∀ {l₁ : List α} {l₂ : List β}, Paired F l₁ l₂ → (∀ a b, F a b → G a b) → Paired G l₁ l₂
  | _, _, .nil, _ => .nil
  | _, _, .cons r t, f => .cons (f _ _ r) (Paired.mapP t f)
theorem ObjOk.stay (x : ObjOk P w H h a o) (k : ∀ b u, (b = a ∨ H b = some (.own a)) → h.get? b = some u → h'.get? b = some u)
    (ho : ∀ b, H b = some (.own a) → H' b = some (.own a)) (ht : ∀ b xs, H b = some (.tup xs) → H' b = some (.tup xs)) : ObjOk P w H' h' a o := by
  induction o with
  | lst xs => obtain ⟨z, its, n, r, e⟩ := x; exact ⟨z, its, n, r, k _ _ (.inl rfl) e⟩
  | tup xs => obtain ⟨z, its, r, ob, e, c⟩ := x; exact ⟨z, its, r, ob, k _ _ (.inl rfl) e, c⟩
  | dK kvs => obtain ⟨z, y, vs, r, ob, es, ep, e, c⟩ := x; exact ⟨z, y, vs, r, ob, es, ep, k _ _ (.inl rfl) e, c⟩
  | dT kvs =>
    obtain ⟨z, y, xs, r, ob, es, ep, e, c⟩ := x
    exact ⟨z, y, xs, Paired.mapP r fun p q z => ⟨z.1, ht _ _ z.2.1, z.2.2⟩, ob, es, ep, k _ _ (.inl rfl) e, c⟩
  | set S n => obtain ⟨ob, es, ep, t, e, c⟩ := x; exact ⟨ob, es, ep, t, k _ _ (.inl rfl) e, c⟩
  | ins C dx fs =>
    obtain ⟨d, z, ne, e, mA, ⟨od, es, ep, e2, c⟩, r⟩ := x
    exact ⟨ho _ d, z, ne, k _ _ (.inl rfl) e, mA, ⟨od, es, ep, k _ _ (.inr d) e2, c⟩, r⟩
  | own y => obtain ⟨ob, e⟩ := x; exact ⟨ob, k _ _ (.inl rfl) e⟩
  | xd fs => obtain ⟨mA, ⟨od, es, ep, e, c⟩, r⟩ := x; exact ⟨mA, ⟨od, es, ep, k _ _ (.inl rfl) e, c⟩, r⟩
  | rng lo hi => obtain ⟨t, u, v, e⟩ := x; exact ⟨t, u, v, k _ _ (.inl rfl) e⟩
  | frz ob u ih => obtain ⟨e, q⟩ := x; exact ⟨k _ _ (.inl rfl) e, ih q⟩
  | tbl ps =>
    have e : h.get? a = some { cls := .none, data := .fields ps } := x
    show h'.get? a = some { cls := .none, data := .fields ps }
    exact k a _ (.inl rfl) e
  | met f y =>
    have e : h.get? a = some (PySem.W.methodObj (.ref f) (.ref y)) := x
    show h'.get? a = some (PySem.W.methodObj (.ref f) (.ref y))
    exact k a _ (.inl rfl) e
  | ext φ => obtain ⟨p, ⟨o, e⟩, st⟩ := x; exact ⟨st _ _ p fun o q => k _ _ (.inl rfl) q, ⟨o, k _ _ (.inl rfl) e⟩, st⟩
theorem HOk.lt (x : HOk P w H h) (e : H a = some o) : a < h.objs.size := (x a o e).lt
theorem HOk.fresh (x : HOk P w H h) (e : h.objs.size ≤ a) : H a = none := by
  cases q : H a with
  | none => rfl
  | some u => exact absurd (Nat.lt_of_lt_of_le (x.lt q) e) (Nat.lt_irrefl _)
theorem HOk.kept (x : HOk P w H h) (k : ∀ b u, h.get? b = some u → h'.get? b = some u) : HOk P w H h' := fun a o e =>
  (x a o e).stay (fun b u _ q => k b u q) (fun _ q => q) fun _ _ q => q
theorem HOk.laid (x : HOk P w H h) (k : ∀ b u, h.get? b = some u → h'.get? b = some u) (hp : h.objs.size ≤ a) (new : ObjOk P w (upd H a o) h' a o) : HOk P w (upd H a o) h' := fun b u e => by
  have hn := x.fresh hp
  by_cases hb : b = a
  · subst hb; rw [upd_same] at e; cases e; exact new
  · rw [upd_ne hb] at e
    exact (x b u e).stay (fun c v _ q => k c v q) (fun c q => by rw [upd_ne (ne_of_none q hn)]; exact q) fun c xs q => by rw [upd_ne (ne_of_none q hn)]; exact q
end
def Rd (H : Hp) (a : Addr) (u : HO) : Prop := H a = some u ∨ ∃ o, H a = some (.frz o u)
theorem Rd.ok {P : Program} {w : World} {H : Hp} {h : Heap} {a : Addr} {u : HO} (r : Rd H a u) (x : HOk P w H h) : ObjOk P w H h a u := by
  rcases r with r | ⟨o, r⟩
  · exact x a u r
  · obtain ⟨_, q⟩ := x a _ r
    exact q
def Mut : Option HO → Prop
  | some (.lst _) => True
  | some (.dK _) => True
  | some (.dT _) => True
  | some (.set _ _) => True
  | some (.ins _ _ _) => True
  | some (.ext _) => True
  | _ => False
section
variable {P : Program} {w : World} {H : Hp} {h h' : Heap} {x e : Addr} {o' : HO}
theorem HOk.write (ok : HOk P w H h) (mu : Mut (H x)) (he : e = x ∨ H e = some (.own x)) (k : ∀ b u, b ≠ e → h.get? b = some u → h'.get? b = some u) (heo : ∃ u, h'.get? e = some u)
    (new : ObjOk P w (upd H x o') h' x o') : HOk P w (upd H x o') h' := fun b u q => by
  have nown : ∀ c y, H c = some (.own y) → c ≠ x := fun c y r z => by subst z; rw [r] at mu; exact mu
  have ntup : ∀ c xs, H c = some (.tup xs) → c ≠ x := fun c xs r z => by subst z; rw [r] at mu; exact mu
  by_cases hb : b = x
  · subst hb; rw [upd_same] at q; cases q; exact new
  · rw [upd_ne hb] at q
    by_cases hbe : b = e
    · have q' : H b = some (.own x) := by
        rcases he with z | z
        · exact absurd (hbe.trans z) hb
        · rw [hbe]; exact z
      rw [q] at q'; cases q'
      obtain ⟨v, hv⟩ := heo
      exact ⟨v, by rw [hbe]; exact hv⟩
    · refine (ok b u q).stay (fun c v hc r => k c v ?_ r) (fun c r => by rw [upd_ne (nown c b r)]; exact r) fun c xs r => by rw [upd_ne (ntup c xs r)]; exact r
      rcases hc with rfl | hc
      · exact hbe
      · rintro rfl
        rcases he with z | z
        · exact nown c b hc z
        · rw [hc] at z; cases z; exact hb rfl
end
structure Un (fs ex : List Addr) (H H' : Hp) (h h' : Heap) : Prop where
  keep : ∀ b o, h.get? b = some o → H b = none → b ∉ fs → b ∉ ex → h'.get? b = some o
  slot : ∀ b o, h.get? b = some o → H b = none → b ∈ fs → b ∉ ex → ∃ sl, h'.get? b = some { o with slots := sl }
  free : ∀ b o, h.get? b = some o → H b = none → b ∉ ex → H' b = none
  there : ∀ b o, h.get? b = some o → b ∉ ex → ∃ o', h'.get? b = some o'
  tups : ∀ b xs, H b = some (.tup xs) → H' b = some (.tup xs)
  frzs : ∀ b o u, H b = some (.frz o u) → H' b = some (.frz o u)
  tbls : ∀ b ps, H b = some (.tbl ps) → ∃ more, H' b = some (.tbl (ps ++ more))
section
variable {fs fs' ex ex' : List Addr} {H H1 H2 : Hp} {h h1 h2 h' : Heap} {a x e : Addr} {o : HO}
theorem Un.any (u : Un fs ex H H1 h h1) {b : Addr} {ob : Obj} (q : h.get? b = some ob) (n : H b = none) (hx : b ∉ ex) : ∃ sl, h1.get? b = some { ob with slots := sl } := by
  by_cases hb : b ∈ fs
  · exact u.slot b ob q n hb hx
  · exact ⟨ob.slots, u.keep b ob q n hb hx⟩
theorem Un.kept (k : ∀ b u, h.get? b = some u → h'.get? b = some u) : Un fs ex H H h h' :=
  ⟨fun b ob q _ _ _ => k b ob q, fun b ob q _ _ _ => ⟨ob.slots, k b ob q⟩, fun _ _ _ n _ => n, fun b ob q _ => ⟨ob, k b ob q⟩, fun _ _ q => q, fun _ _ _ q => q, fun _ ps q => ⟨#[], by rw [q]; simp⟩⟩
theorem Un.refl : Un fs ex H H h h := Un.kept fun _ _ q => q
theorem Un.laid (k : ∀ b u, h.get? b = some u → h'.get? b = some u) (hp : h.objs.size ≤ a) (hn : H a = none) : Un fs ex H (upd H a o) h h' where
  keep := fun b u q _ _ _ => k b u q
  slot := fun b u q _ _ _ => ⟨u.slots, k b u q⟩
  free := fun b u q n _ => by rw [upd_ne (Nat.ne_of_lt (Nat.lt_of_lt_of_le (Heap.lt_size q) hp))]; exact n
  there := fun b u q _ => ⟨u, k b u q⟩
  tups := fun b xs q => by rw [upd_ne (ne_of_none q hn)]; exact q
  frzs := fun b u xs q => by rw [upd_ne (ne_of_none q hn)]; exact q
  tbls := fun b ps q => ⟨#[], by rw [upd_ne (ne_of_none q hn), q]; simp⟩
theorem Un.write (mu : Mut (H x)) (he : e = x ∨ H e = some (.own x)) (k : ∀ b u, b ≠ e → h.get? b = some u → h'.get? b = some u) (heo : ∃ u, h'.get? e = some u) : Un fs ex H (upd H x o) h h' := by
  have hx : ∀ b, H b = none → b ≠ x := fun b n z => by subst z; rw [n] at mu; exact mu
  have hb : ∀ b, H b = none → b ≠ e := fun b n z => by
    subst z
    rcases he with r | r
    · exact hx b n r
    · rw [n] at r; cases r
  have hm : ∀ b u, H b = some u → ¬ Mut (some u) → b ≠ x := fun b u q nm z => by subst z; rw [q] at mu; exact nm mu
  refine ⟨fun b u q n _ _ => k b u (hb b n) q, fun b u q n _ _ => ⟨u.slots, k b u (hb b n) q⟩, fun b u q n _ => by rw [upd_ne (hx b n)]; exact n, fun b u q _ => ?_,
    fun b xs q => by rw [upd_ne (hm b _ q fun z => z)]; exact q, fun b u xs q => by rw [upd_ne (hm b _ q fun z => z)]; exact q, fun b ps q => ⟨#[], by rw [upd_ne (hm b _ q fun z => z), q]; simp⟩⟩
  by_cases hbe : b = e
  · subst hbe; exact heo
  · exact ⟨u, k b u hbe q⟩
end
def trk (h : Heap) (H : Hp) : List Addr := (List.range h.objs.size).filter fun a => (H a).isSome
def hidT (h : Heap) (H : Hp) : Heap := PySem.W.hideAll h (trk h H)
theorem hidT_size (h : Heap) (H : Hp) : (hidT h H).objs.size = h.objs.size := PySem.W.hideAll_size _ _
theorem hidT_get {h : Heap} {H : Hp} {b : Addr} {o : Obj} (e : h.get? b = some o) (n : H b = none) : (hidT h H).get? b = some o :=
  PySem.W.hideAll_get _ e fun hm => by
    have q : (H b).isSome = true := (List.mem_filter.mp hm).2
    rw [n] at q; simp at q
theorem of_hidT {h : Heap} {H : Hp} {b : Addr} {o : Obj} (e : (hidT h H).get? b = some o) : h.get? b = some o ∧ H b = none := by
  have e' : h.get? b = some o := PySem.W.of_hideAll (trk h H) e
  refine ⟨e', ?_⟩
  cases q : H b with
  | none => rfl
  | some x =>
    have hm : b ∈ trk h H := List.mem_filter.mpr ⟨List.mem_range.mpr (Heap.lt_size e'), by simp [q]⟩
    have z : (hidT h H).get? b = none := PySem.W.hideAll_none (trk h H) hm
    rw [z] at e; cases e
def allNews (g h : Heap) (L : Addr) : List (Addr × Obj) := (List.range h.objs.size).filterMap fun a => if a = L ∨ (g.get? a).isSome = true then none else (h.get? a).map fun o => (a, o)
def rest (g h : Heap) (L d : Addr) : List (Addr × Obj) := (allNews g h L).filter fun p => decide (p.1 ≠ d)
end L2
namespace L2
open PySem PySem.Spec PyProof.Rows
structure Mod (K : PySem.W.Frag) (mg : Str → Option Value) (base : Heap) : Prop where
  kin : K.In base
  glob : base.Ns mainGlobals mg
  blt : ∃ mb, base.Ns builtinsNs mb ∧ ∀ x : Str, x ≠ "__name__" → mb x = bootBuiltins x
  nolimit : base.NoLimit
structure Cx where
  prog : Program
  w : World
  K : PySem.W.Frag
  mg : Str → Option Value
  base : Heap
  A : Around
  N : List Str
  s₀ : Shared
  H₀ : Hp
  env : Env
  outer : List Env
  stack : List Env
  ex : List Addr
  fn : Str → Bool
  calm : Bool
  pn : List (Addr × Obj)
  xe : Value → Shared → Prop
def frs (l : List Env) : List Addr := l.filterMap (·.frame)
abbrev Cx.fs (X : Cx) : List Addr := frs X.outer
def Vis (sc : Scope) (x : Str) : Prop := sc.names.lookup x = some .local ∨ sc.names.lookup x = some .cell ∨ sc.names.lookup x = some .free
def Loc (sc : Scope) (x : Str) : Prop := sc.names.lookup x = some .local ∨ sc.names.lookup x = some .cell
def Look (env : Env) (h : Heap) (m : Str → Option Value) (x : Str) (u : Value) : Prop :=
  (env.kindOf x = some .local ∧ m x = some u) ∨ ((env.kindOf x = some .cell ∨ env.kindOf x = some .free) ∧ ∃ c, env.cells.lookup x = some c ∧ h.IsCell c (some u))
structure Cx.Ok (X : Cx) : Prop where
  mod : Mod X.K X.mg X.base
  kind : X.env.scope.kind = .function
  glob : X.env.globals = mainGlobals
  blt : X.env.builtins = builtinsNs
  above : X.s₀.heap.objs.size ≤ X.env.locals
  inj : ∀ x y c, X.env.cells.lookup x = some c → X.env.cells.lookup y = some c → x = y
  has : ∀ x, (X.env.kindOf x = some .cell ∨ X.env.kindOf x = some .free) → ∃ c, X.env.cells.lookup x = some c
  cab : ∀ x c, X.fn x = true → X.env.cells.lookup x = some c → X.s₀.heap.objs.size ≤ c
  hd : X.calm = true → X.A.handled = none
  frames : X.A.frames = some X.stack
  stk : X.stack = X.outer ∨ (X.stack = X.env :: X.outer ∧ X.env.frame = some X.env.locals)
  exf : ∀ b ∈ X.ex, b ≠ X.env.locals ∧ ∀ x c, X.env.cells.lookup x = some c → c ≠ b
  bs : ∀ b o, X.base.get? b = some o → X.s₀.heap.get? b = some o ∧ X.H₀ b = none
  bsz : X.base.objs.size ≤ X.s₀.heap.objs.size
  noex : ∀ b o, X.base.get? b = some o → b ∉ X.ex
  exfs : ∀ b ∈ X.ex, b ∉ X.fs
  funs : X.s₀.heap.FunFrames X.base X.outer
  frf : ∀ b ∈ X.fs, X.H₀ b = none
structure Inv (X : Cx) (pins : List (Addr × Obj)) (σ : List (Option V)) (H : Hp) (s : Shared) : Prop where
  ok : X.Ok
  os : s.os = X.s₀.os
  bare : AllBare s.gens
  base : Un X.fs X.ex X.H₀ H X.s₀.heap s.heap
  loc : ∃ m, s.heap.Ns X.env.locals m ∧ ∀ (i : Nat) (x : Str) (v : V), X.N[i]? = some x → σ[i]? = some (some v) → Vis X.env.scope x → ∃ u, RelV v u ∧ Look X.env s.heap m x u
  cell : ∀ x c, X.env.cells.lookup x = some c → ∃ v, s.heap.IsCell c v
  free : H X.env.locals = none
  freeC : ∀ x c, X.env.cells.lookup x = some c → H c = none
  pin : ∀ p ∈ X.pn ++ pins, s.heap.get? p.1 = some p.2 ∧ H p.1 = none ∧ p.1 ≠ X.env.locals ∧ p.1 ∉ X.fs ∧ ∀ v, p.2.data ≠ .cell v
  hok : HOk X.prog X.w H s.heap
  len : σ.length = X.N.length
section
variable {X : Cx} {pins : List (Addr × Obj)} {σ : List (Option V)} {H H' : Hp} {s : Shared} {h' : Heap}
theorem Cx.Ok.nofr (ok : X.Ok) {b : Addr} {o : Obj} (e : X.base.get? b = some o) : b ∉ X.fs := fun hb => by
  have := (ok.funs.mem hb).1
  rw [e] at this; cases this
theorem Inv.bs (I : Inv X pins σ H s) : ∀ b o, X.base.get? b = some o → s.heap.get? b = some o ∧ H b = none := fun b o e =>
  ⟨I.base.keep b o (I.ok.bs b o e).1 (I.ok.bs b o e).2 (I.ok.nofr e) (I.ok.noex b o e), I.base.free b o (I.ok.bs b o e).1 (I.ok.bs b o e).2 (I.ok.noex b o e)⟩
theorem Inv.bk (I : Inv X pins σ H s) : ∀ b o, X.base.get? b = some o → s.heap.get? b = some o := fun b o e => (I.bs b o e).1
theorem Inv.mod (I : Inv X pins σ H s) : Mod X.K X.mg X.base := I.ok.mod
theorem Inv.kIn (I : Inv X pins σ H s) : X.K.In s.heap := I.ok.mod.kin.keeps I.bk
theorem Inv.lt (I : Inv X pins σ H s) : X.env.locals < s.heap.objs.size := let ⟨_, hn, _⟩ := I.loc; hn.lt
theorem Inv.sz (I : Inv X pins σ H s) : X.s₀.heap.objs.size ≤ s.heap.objs.size := Nat.le_trans I.ok.above (Nat.le_of_lt I.lt)
theorem Inv.nofs (I : Inv X pins σ H s) {a : Addr} (h : s.heap.objs.size ≤ a) : a ∉ X.fs := fun hb => by
  obtain ⟨_, o, ho, _⟩ := I.ok.funs.mem hb
  exact absurd (Nat.lt_of_lt_of_le (Heap.lt_size ho) (Nat.le_trans I.sz h)) (Nat.lt_irrefl _)
theorem Inv.cne (I : Inv X pins σ H s) : ∀ x c, X.env.cells.lookup x = some c → c ≠ X.env.locals := fun x c e z => by
  obtain ⟨v, o, ho, hd⟩ := I.cell x c e
  obtain ⟨m, ⟨o', es, ep, ho', hd', _⟩, _⟩ := I.loc
  rw [z, ho'] at ho; cases ho; rw [hd'] at hd; cases hd
theorem Inv.funs (I : Inv X pins σ H s) : s.heap.FunFrames X.base X.outer := by
  have all : ∀ (l : List Env), (∀ b ∈ frs l, b ∈ X.fs) → X.s₀.heap.FunFrames X.base l → s.heap.FunFrames X.base l := by
    intro l
    induction l with
    | nil => intro _ _; trivial
    | cons env r ih =>
      intro hs hl
      obtain ⟨hk, ⟨L, o, hf, hn, ho, hd⟩, hr⟩ := hl
      have hL : L ∈ X.fs := hs L (by unfold frs; rw [List.filterMap_cons, hf]; exact List.mem_cons_self)
      obtain ⟨sl, e⟩ := I.base.slot L o ho (I.ok.frf L hL) hL fun z => I.ok.exfs L z hL
      exact ⟨hk, ⟨L, _, hf, hn, e, hd⟩, ih (fun b hb => hs b (by unfold frs; rw [List.filterMap_cons, hf]; exact List.mem_cons_of_mem _ hb)) hr⟩
  exact all X.outer (fun _ hb => hb) I.ok.funs
theorem Inv.stack (I : Inv X pins σ H s) : s.heap.FunFrames X.base X.stack := by
  rcases I.ok.stk with e | ⟨e, hf⟩
  · rw [e]; exact I.funs
  · rw [e]
    obtain ⟨m, hn, _⟩ := I.loc
    refine .cons (by rw [I.ok.kind]; decide) hf hn ?_ I.funs
    exact Heap.get?_none_of_le (Nat.le_trans I.ok.bsz I.ok.above)
theorem Inv.stkSub (I : Inv X pins σ H s) : ∀ b ∈ frs X.stack, b ∈ X.env.locals :: X.fs := fun b hb => by
  rcases I.ok.stk with e | ⟨e, hf⟩
  · rw [e] at hb; exact List.mem_cons_of_mem _ hb
  · rw [e] at hb
    unfold frs at hb
    rw [List.filterMap_cons, hf] at hb
    exact hb
theorem Inv.stkFree (I : Inv X pins σ H s) : ∀ b ∈ frs X.stack, H b = none := fun b hb => by
  rcases List.mem_cons.mp (I.stkSub b hb) with e | hb
  · rw [e]; exact I.free
  · obtain ⟨_, o, ho, _⟩ := I.ok.funs.mem hb
    exact I.base.free b o ho (I.ok.frf b hb) fun z => I.ok.exfs b z hb
theorem Inv.step {g' : Array GenState} {t' : Nat} {d' : Drawn} {ch : List Addr} (I : Inv X pins σ H s)
    (hch : ∀ b ∈ ch, (b ∈ X.ex ∨ X.s₀.heap.objs.size ≤ b) ∧ b ≠ X.env.locals ∧ (∀ x c, X.env.cells.lookup x = some c → c ≠ b) ∧ ∀ p ∈ X.pn ++ pins, p.1 ≠ b)
    (keep : ∀ b o, b ≠ X.env.locals → b ∉ X.fs → b ∉ ch → s.heap.get? b = some o → H b = none → h'.get? b = some o)
    (slot : ∀ b o, b ≠ X.env.locals → b ∈ X.fs → b ∉ ch → s.heap.get? b = some o → H b = none → ∃ sl, h'.get? b = some { o with slots := sl }) (free : ∀ b o, b ∉ ch → s.heap.get? b = some o → H b = none → H' b = none)
    (there : ∀ b o, b ∉ ch → s.heap.get? b = some o → ∃ o', h'.get? b = some o')
    (tups : ∀ b xs, H b = some (.tup xs) → H' b = some (.tup xs)) (frzs : ∀ b o u, H b = some (.frz o u) → H' b = some (.frz o u)) (tbls : ∀ b ps, H b = some (.tbl ps) → ∃ more, H' b = some (.tbl (ps ++ more)))
    (ns : ∀ m, s.heap.Ns X.env.locals m → h'.Ns X.env.locals m) (hok : HOk X.prog X.w H' h') (hg : AllBare g') :
    Inv X pins σ H' { s with heap := h', gens := g', drawn := d', toks := t' } := by
  have neL : ∀ b o, X.s₀.heap.get? b = some o → b ≠ X.env.locals := fun b o e => Nat.ne_of_lt (Nat.lt_of_lt_of_le (Heap.lt_size e) I.ok.above)
  have neC : ∀ b o, X.s₀.heap.get? b = some o → b ∉ X.ex → b ∉ ch := fun b o e hx hb => by
    rcases (hch b hb).1 with z | z
    · exact hx z
    · exact absurd (Nat.lt_of_lt_of_le (Heap.lt_size e) z) (Nat.lt_irrefl _)
  have cellK : ∀ x c, X.env.cells.lookup x = some c → ∀ v, s.heap.IsCell c v → h'.IsCell c v := fun x c e v ⟨o, ho, hd⟩ => by
    have nch : c ∉ ch := fun z => (hch c z).2.2.1 x c e rfl
    by_cases hc : c ∈ X.fs
    · obtain ⟨sl, q⟩ := slot c o (I.cne x c e) hc nch ho (I.freeC x c e)
      exact ⟨_, q, hd⟩
    · exact ⟨o, keep c o (I.cne x c e) hc nch ho (I.freeC x c e), hd⟩
  refine ⟨I.ok, I.os, hg, ⟨fun b o e n hb hx => ?_, fun b o e n hb hx => ?_, fun b o e n hx => ?_, fun b o e hx => ?_, fun b xs e => tups b xs (I.base.tups b xs e), fun b o xs e => frzs b o xs (I.base.frzs b o xs e), fun b ps e => ?_⟩, ?_, fun x c e => ?_, ?_, fun x c e => ?_, fun p hp => ?_, hok, I.len⟩
  · exact keep b o (neL b o e) hb (neC b o e hx) (I.base.keep b o e n hb hx) (I.base.free b o e n hx)
  · obtain ⟨sl, e1⟩ := I.base.slot b o e n hb hx
    obtain ⟨sl', e2⟩ := slot b _ (neL b o e) hb (neC b o e hx) e1 (I.base.free b o e n hx)
    exact ⟨sl', e2⟩
  · obtain ⟨o', e1⟩ := I.base.there b o e hx
    exact free b o' (neC b o e hx) e1 (I.base.free b o e n hx)
  · obtain ⟨o', e1⟩ := I.base.there b o e hx
    exact there b o' (neC b o e hx) e1
  · obtain ⟨m1, e1⟩ := I.base.tbls b ps e
    obtain ⟨m2, e2⟩ := tbls b _ e1
    exact ⟨m1 ++ m2, by rw [e2, Array.append_assoc]⟩
  · obtain ⟨m, hn, hl⟩ := I.loc
    refine ⟨m, ns m hn, fun i x v e1 e2 e3 => ?_⟩
    obtain ⟨u, r, l⟩ := hl i x v e1 e2 e3
    refine ⟨u, r, ?_⟩
    rcases l with l | ⟨k, c, e, z⟩
    · exact .inl l
    · exact .inr ⟨k, c, e, cellK x c e _ z⟩
  · obtain ⟨v, z⟩ := I.cell x c e
    exact ⟨v, cellK x c e v z⟩
  · obtain ⟨m, ⟨o, _, _, ho, _⟩, _⟩ := I.loc
    exact free _ o (fun z => (hch _ z).2.1 rfl) ho I.free
  · obtain ⟨v, o, ho, hd⟩ := I.cell x c e
    exact free c o (fun z => (hch c z).2.2.1 x c e rfl) ho (I.freeC x c e)
  · obtain ⟨e, n, ne, nf, d⟩ := I.pin p hp
    have nch : p.1 ∉ ch := fun z => (hch p.1 z).2.2.2 p hp rfl
    exact ⟨keep p.1 p.2 ne nf nch e n, free p.1 p.2 nch e n, ne, nf, d⟩
theorem Inv.un {t' : Nat} (I : Inv X pins σ H s) (u : Un X.fs [] H H' s.heap h') (hok : HOk X.prog X.w H' h') : Inv X pins σ H' { s with heap := h', toks := t' } := by
  obtain ⟨m, ⟨o, es, ep, ho, r⟩, _⟩ := id I.loc
  obtain ⟨sl, hL⟩ := u.any ho I.free (by simp)
  exact I.step (g' := s.gens) (d' := s.drawn) (ch := []) (fun _ z => nomatch z) (fun b o _ hb _ e n => u.keep b o e n hb (by simp)) (fun b o _ hb _ e n => u.slot b o e n hb (by simp)) (fun b o _ e n => u.free b o e n (by simp)) (fun b o _ e => u.there b o e (by simp)) u.tups u.frzs u.tbls (fun m' hm => by
    obtain ⟨o', es', ep', ho', r'⟩ := hm
    rw [ho] at ho'; cases ho'
    exact ⟨_, es', ep', hL, r'⟩) hok I.bare
theorem Inv.call {g' : Array GenState} {t' : Nat} {d' : Drawn} {ch : List Addr} (I : Inv X pins σ H s) (u : Un (frs X.stack) ch H H' s.heap h') (hok : HOk X.prog X.w H' h') (hg : AllBare g')
    (hch : ∀ b ∈ ch, (b ∈ X.ex ∨ X.s₀.heap.objs.size ≤ b) ∧ b ≠ X.env.locals ∧ (∀ x c, X.env.cells.lookup x = some c → c ≠ b) ∧ ∀ p ∈ X.pn ++ pins, p.1 ≠ b) :
    Inv X pins σ H' { s with heap := h', gens := g', drawn := d', toks := t' } := by
  obtain ⟨m, ⟨o, es, ep, ho, r⟩, _⟩ := id I.loc
  obtain ⟨sl, hL⟩ := u.any ho I.free fun z => (hch _ z).2.1 rfl
  exact I.step (ch := ch) hch (fun b o hL hb hc e n => u.keep b o e n (fun z => (List.mem_cons.mp (I.stkSub b z)).elim hL hb) hc) (fun b o _ _ hc e n => u.any e n hc) (fun b o hc e n => u.free b o e n hc) (fun b o hc e => u.there b o e hc) u.tups u.frzs u.tbls (fun m' hm => by
    obtain ⟨o', es', ep', ho', r'⟩ := hm
    rw [ho] at ho'; cases ho'
    exact ⟨_, es', ep', hL, r'⟩) hok hg
theorem Inv.turned {t' : Nat} {it : Addr} (I : Inv X pins σ H s) (k : ∀ b o, b ≠ it → s.heap.get? b = some o → h'.get? b = some o) (hn : H it = none) (hL : it ≠ X.env.locals)
    (h1 : it ∈ X.ex ∨ X.s₀.heap.objs.size ≤ it) (h2 : ∀ x c, X.env.cells.lookup x = some c → c ≠ it) (h3 : ∀ p ∈ X.pn ++ pins, p.1 ≠ it) : Inv X pins σ H { s with heap := h', toks := t' } := by
  have nit : ∀ b u, H b = some u → b ≠ it := fun b u e z => by rw [z, hn] at e; cases e
  refine I.step (g' := s.gens) (d' := s.drawn) (ch := [it]) (fun b hb => ?_) (fun b o _ _ hc e _ => k b o (fun z => hc (by simp [z])) e) (fun b o _ _ hc e _ => ⟨o.slots, k b o (fun z => hc (by simp [z])) e⟩) (fun _ _ _ _ n => n)
    (fun b o hc e => ⟨o, k b o (fun z => hc (by simp [z])) e⟩) (fun _ _ e => e) (fun _ _ _ e => e) (fun b ps e => ⟨#[], by rw [e]; simp⟩) (fun m hm => ?_) (fun b u e => ?_) I.bare
  · have e : b = it := by simpa using hb
    subst e
    exact ⟨h1, hL, h2, h3⟩
  · obtain ⟨o, es, ep, ho, r⟩ := hm
    exact ⟨o, es, ep, k _ o (Ne.symm hL) ho, r⟩
  · refine (I.hok b u e).stay (fun c v hc q => k c v ?_ q) (fun _ q => q) fun _ _ q => q
    rcases hc with z | z
    · rw [z]; exact nit b u e
    · exact nit c _ z
theorem Inv.tok (I : Inv X pins σ H s) (t : Nat) : Inv X pins σ H { s with toks := t } := I.un (h' := s.heap) (t' := t) Un.refl I.hok
theorem Inv.kept {t' : Nat} (I : Inv X pins σ H s) (k : ∀ b u, s.heap.get? b = some u → h'.get? b = some u) : Inv X pins σ H { s with heap := h', toks := t' } := I.un (Un.kept k) (I.hok.kept k)
theorem Inv.laid {a : Addr} {o : HO} {t' : Nat} (I : Inv X pins σ H s) (k : ∀ b u, s.heap.get? b = some u → h'.get? b = some u) (hp : s.heap.objs.size ≤ a) (new : ObjOk X.prog X.w (upd H a o) h' a o) :
    Inv X pins σ (upd H a o) { s with heap := h', toks := t' } := I.un (Un.laid k hp (I.hok.fresh hp)) (I.hok.laid k hp new)
theorem Inv.write {x e : Addr} {o : HO} {t' : Nat} (I : Inv X pins σ H s) (mu : Mut (H x)) (he : e = x ∨ H e = some (.own x)) (k : ∀ b u, b ≠ e → s.heap.get? b = some u → h'.get? b = some u) (heo : ∃ u, h'.get? e = some u)
    (new : ObjOk X.prog X.w (upd H x o) h' x o) : Inv X pins σ (upd H x o) { s with heap := h', toks := t' } := I.un (Un.write mu he k heo) (I.hok.write mu he k heo new)
theorem Inv.pins_of {pins' : List (Addr × Obj)} (I : Inv X pins σ H s) (h : ∀ p ∈ pins', s.heap.get? p.1 = some p.2 ∧ H p.1 = none ∧ p.1 ≠ X.env.locals ∧ p.1 ∉ X.fs ∧ ∀ v, p.2.data ≠ .cell v) : Inv X pins' σ H s :=
  ⟨I.ok, I.os, I.bare, I.base, I.loc, I.cell, I.free, I.freeC, fun p hp => (List.mem_append.mp hp).elim (fun z => I.pin p (List.mem_append_left _ z)) (h p), I.hok, I.len⟩
theorem nodup_ix {N : List Str} (hN : N.Nodup) {i j : Nat} {x : Str} (a : N[i]? = some x) (b : N[j]? = some x) : i = j := by
  obtain ⟨h1, e1⟩ := List.getElem?_eq_some_iff.mp a
  obtain ⟨h2, e2⟩ := List.getElem?_eq_some_iff.mp b
  exact (List.getElem_inj hN).mp (e1.trans e2.symm)
theorem store_ok2 {M : Model} {A : Around} {E : Value → Shared → Prop} {i : Nat} {x : Str} {v : V} {u : Value} {Q : Unit → Shared → Prop} (I : Inv X pins σ H s) (hN : X.N.Nodup) (hi : X.N[i]? = some x) (hx : Loc X.env.scope x) (r : RelV v u)
    (h : ∀ s', Inv X pins (σ.set i (some v)) H s' → (∃ a, Heap.SameBut a s.heap s'.heap ∧ (a = X.env.locals ∨ X.env.cells.lookup x = some a)) → Q () s') (hf : X.fn x = true ∨ X.env.scope.names.lookup x = some .local := by first | exact .inl rfl | exact .inr rfl | assumption) : wpAny M A (storeName X.env x u) Q E s := by
  obtain ⟨m, hn, hl⟩ := id I.loc
  have hcls : (X.env.scope.kind == .class || (X.env.scope.kind == .module && X.env.locals != X.env.globals)) = false := by rw [I.ok.kind]; rfl
  have hiσ : i < σ.length := by rw [I.len]; exact (List.getElem?_eq_some_iff.mp hi).1
  have cne := I.cne
  have tracked : ∀ {a : Addr} {h' : Heap}, (∃ o, s.heap.get? a = some o ∧ H a = none) → Heap.SameBut a s.heap h' → HOk X.prog X.w H h' := fun {a h'} ha hs b ob e => by
    obtain ⟨_, _, hfree⟩ := ha
    refine (I.hok b ob e).stay (fun c w' hc q => (hs.2 c ?_).trans q) (fun _ q => q) fun _ _ q => q
    rintro rfl
    rcases hc with rfl | hc
    · rw [hfree] at e; cases e
    · rw [hfree] at hc; cases hc
  rcases hx with hk | hk
  · refine wpAny_storeName_local hk hn (fun h' hn' hs => ?_) hcls
    obtain ⟨oL, _, _, hoL, _⟩ := id hn
    refine h _ ⟨I.ok, I.os, I.bare, ⟨fun b o e n hb hx => ?_, fun b o e n hb hx => ?_, I.base.free, fun b o e hx => ?_, I.base.tups, I.base.frzs, I.base.tbls⟩, ⟨_, hn', fun j y v' e1 e2 e3 => ?_⟩, fun y c e => ?_, I.free, I.freeC, fun p hp => ?_, tracked ⟨oL, hoL, I.free⟩ hs, by simpa using I.len⟩ ⟨_, hs, .inl rfl⟩
    · exact (hs.2 b (Nat.ne_of_lt (Nat.lt_of_lt_of_le (Heap.lt_size e) I.ok.above))).trans (I.base.keep b o e n hb hx)
    · obtain ⟨sl, e1⟩ := I.base.slot b o e n hb hx
      exact ⟨sl, (hs.2 b (Nat.ne_of_lt (Nat.lt_of_lt_of_le (Heap.lt_size e) I.ok.above))).trans e1⟩
    · obtain ⟨o', e1⟩ := I.base.there b o e hx
      exact ⟨o', (hs.2 b (Nat.ne_of_lt (Nat.lt_of_lt_of_le (Heap.lt_size e) I.ok.above))).trans e1⟩
    · by_cases hj : j = i
      · subst hj
        rw [hi] at e1; cases e1
        rw [List.getElem?_set_self hiσ] at e2
        cases e2
        exact ⟨u, r, .inl ⟨hk, by simp⟩⟩
      · rw [List.getElem?_set_ne (Ne.symm hj)] at e2
        obtain ⟨u', r', q⟩ := hl j y v' e1 e2 e3
        refine ⟨u', r', ?_⟩
        rcases q with ⟨k, e⟩ | ⟨k, c, e, z⟩
        · refine .inl ⟨k, ?_⟩
          have : y ≠ x := fun e => hj (nodup_ix hN e1 (e ▸ hi))
          simp [this, e]
        · exact .inr ⟨k, c, e, z.sameBut hs (cne y c e)⟩
    · obtain ⟨w', z⟩ := I.cell y c e
      exact ⟨w', z.sameBut hs (cne y c e)⟩
    · obtain ⟨e, n, ne, nf, d⟩ := I.pin p hp
      exact ⟨(hs.2 p.1 ne).trans e, n, ne, nf, d⟩
  · have hfn : X.fn x = true := by
      rcases hf with z | z
      · exact z
      · rw [z] at hk; cases hk
    obtain ⟨c, hc⟩ := I.ok.has x (.inl hk)
    obtain ⟨w', z⟩ := I.cell x c hc
    refine wpAny_storeName_cell I.ok.kind hk hc z (fun h' hc' hs => ?_)
    obtain ⟨oc, hoc, hocd⟩ := id z
    refine h { s with heap := h' } ⟨I.ok, I.os, I.bare, ⟨fun b o e n hb hx => ?_, fun b o e n hb hx => ?_, I.base.free, fun b o e hx => ?_, I.base.tups, I.base.frzs, I.base.tbls⟩, ⟨m, hn.sameBut hs (Ne.symm (cne x c hc)), fun j y v' e1 e2 e3 => ?_⟩, fun y c' e => ?_, I.free, I.freeC, fun p hp => ?_, tracked ⟨oc, hoc, I.freeC x c hc⟩ hs, by simpa using I.len⟩ ⟨c, hs, .inr hc⟩
    · exact (hs.2 b (Nat.ne_of_lt (Nat.lt_of_lt_of_le (Heap.lt_size e) (I.ok.cab x c hfn hc)))).trans (I.base.keep b o e n hb hx)
    · obtain ⟨sl, e1⟩ := I.base.slot b o e n hb hx
      exact ⟨sl, (hs.2 b (Nat.ne_of_lt (Nat.lt_of_lt_of_le (Heap.lt_size e) (I.ok.cab x c hfn hc)))).trans e1⟩
    · obtain ⟨o', e1⟩ := I.base.there b o e hx
      exact ⟨o', (hs.2 b (Nat.ne_of_lt (Nat.lt_of_lt_of_le (Heap.lt_size e) (I.ok.cab x c hfn hc)))).trans e1⟩
    · by_cases hj : j = i
      · subst hj
        rw [hi] at e1; cases e1
        rw [List.getElem?_set_self hiσ] at e2
        cases e2
        exact ⟨u, r, .inr ⟨.inl hk, c, hc, hc'⟩⟩
      · rw [List.getElem?_set_ne (Ne.symm hj)] at e2
        obtain ⟨u', r', q⟩ := hl j y v' e1 e2 e3
        refine ⟨u', r', ?_⟩
        rcases q with q | ⟨k, c', e, z'⟩
        · exact .inl q
        · refine .inr ⟨k, c', e, z'.sameBut hs ?_⟩
          rintro rfl
          exact hj (nodup_ix hN e1 (I.ok.inj _ _ _ e hc ▸ hi))
    · by_cases hcc : c' = c
      · subst hcc; exact ⟨_, hc'⟩
      · obtain ⟨w2, z2⟩ := I.cell y c' e
        exact ⟨w2, z2.sameBut hs hcc⟩
    · obtain ⟨e, n, ne, nf, d⟩ := I.pin p hp
      refine ⟨(hs.2 p.1 ?_).trans e, n, ne, nf, d⟩
      intro q
      rw [q, hoc] at e
      have q' : oc = p.2 := Option.some.inj e
      exact d w' (by rw [← q']; exact hocd)
theorem store_ok {M : Model} {A : Around} {E : Value → Shared → Prop} {i : Nat} {x : Str} {v : V} {u : Value} {Q : Unit → Shared → Prop} (I : Inv X pins σ H s) (hN : X.N.Nodup) (hi : X.N[i]? = some x) (hx : Loc X.env.scope x) (r : RelV v u)
    (h : ∀ s', Inv X pins (σ.set i (some v)) H s' → Q () s') (hf : X.fn x = true ∨ X.env.scope.names.lookup x = some .local := by first | exact .inl rfl | exact .inr rfl | assumption) : wpAny M A (storeName X.env x u) Q E s :=
  store_ok2 I hN hi hx r (fun s' I' _ => h s' I') hf
theorem Inv.call' {s' : Shared} {ch : List Addr} (I : Inv X pins σ H s) (ho : s'.os = s.os) (u : Un (frs X.stack) ch H H' s.heap s'.heap) (hok : HOk X.prog X.w H' s'.heap) (hg : AllBare s'.gens)
    (hch : ∀ b ∈ ch, (b ∈ X.ex ∨ X.s₀.heap.objs.size ≤ b) ∧ b ≠ X.env.locals ∧ (∀ x c, X.env.cells.lookup x = some c → c ≠ b) ∧ ∀ p ∈ X.pn ++ pins, p.1 ≠ b) : Inv X pins σ H' s' := by
  obtain ⟨h', g', d', t', o'⟩ := s'
  have e : o' = s.os := ho
  subst e
  exact I.call (g' := g') (t' := t') (d' := d') u hok hg hch
end
abbrev XK := Value → Option Addr → Hp → Prop
abbrev St := List (Option V)
abbrev VK := V → Hp → Prop
abbrev TE := St → Hp → VK → Prop
abbrev TT := St → Hp → (Bool → Hp → Prop) → Prop
abbrev TA := St → Hp → (List V → Hp → Prop) → Prop
structure Ends where
  nx : St → Hp → Prop
  rt : VK
  bk : St → Hp → Prop := fun _ _ => False
  ct : St → Hp → Prop := fun _ _ => False
abbrev TS := Ends → St → Hp → Prop
def EP (X : Cx) (pins : List (Addr × Obj)) (σ : St) (Q : VK) (u : Value) (s' : Shared) : Prop := ∃ v H', Inv X pins σ H' s' ∧ RelV v u ∧ Q v H'
def TP (X : Cx) (pins : List (Addr × Obj)) (σ : St) (Q : Bool → Hp → Prop) (b : Bool) (s' : Shared) : Prop := ∃ H', Inv X pins σ H' s' ∧ Q b H'
def AP (X : Cx) (pins : List (Addr × Obj)) (σ : St) (Q : List V → Hp → Prop) (us : List Value) (s' : Shared) : Prop := ∃ vs H', Inv X pins σ H' s' ∧ Vals vs us ∧ Q vs H'
def SP (X : Cx) (pins : List (Addr × Obj)) (D : Ends) (f : Flow) (s' : Shared) : Prop :=
  match f with
  | .next => ∃ σ' H', Inv X pins σ' H' s' ∧ D.nx σ' H'
  | .brk => ∃ σ' H', Inv X pins σ' H' s' ∧ D.bk σ' H'
  | .cont => ∃ σ' H', Inv X pins σ' H' s' ∧ D.ct σ' H'
  | .ret u => ∃ v σ' H', Inv X pins σ' H' s' ∧ RelV v u ∧ D.rt v H'
def PE (X : Cx) (e : Expr) (t : TE) : Prop :=
  ∀ (pins : List (Addr × Obj)) (s : Shared) (σ : St) (H : Hp) (Q : VK), Inv X pins σ H s → t σ H Q → wpAny (model X.prog X.w) X.A (eval e X.env) (EP X pins σ Q) X.xe s
def PT (X : Cx) (e : Expr) (t : TT) : Prop :=
  ∀ (pins : List (Addr × Obj)) (s : Shared) (σ : St) (H : Hp) (Q : Bool → Hp → Prop), Inv X pins σ H s → t σ H Q → wpAny (model X.prog X.w) X.A (isTrue e X.env (eval e X.env)) (TP X pins σ Q) X.xe s
def PW (X : Cx) (e : Expr) (t : TT) : Prop :=
  ∀ (whole : Sem Value) (pins : List (Addr × Obj)) (s : Shared) (σ : St) (H : Hp) (Q : Bool → Hp → Prop), Inv X pins σ H s → t σ H Q → wpAny (model X.prog X.w) X.A (isTrue e X.env whole) (TP X pins σ Q) X.xe s
theorem PW.pt {X : Cx} {e : Expr} {t : TT} (h : PW X e t) : PT X e t := h _
def PA (X : Cx) (es : List Expr) (t : TA) : Prop :=
  ∀ (pos : Pos) (pins : List (Addr × Obj)) (s : Shared) (σ : St) (H : Hp) (Q : List V → Hp → Prop), Inv X pins σ H s → t σ H Q → wpAny (model X.prog X.w) X.A (spliced (backTo pos (starEach es X.env))) (AP X pins σ Q) X.xe s
def PS (X : Cx) (st : Stmt) (t : TS) : Prop :=
  ∀ (pins : List (Addr × Obj)) (s : Shared) (σ : St) (H : Hp) (D : Ends), Inv X pins σ H s → t D σ H → wpAny (model X.prog X.w) X.A (exec st X.env) (SP X pins D) X.xe s
def PSs (X : Cx) (st : List Stmt) (t : TS) : Prop :=
  ∀ (pins : List (Addr × Obj)) (s : Shared) (σ : St) (H : Hp) (D : Ends), Inv X pins σ H s → t D σ H → wpAny (model X.prog X.w) X.A (execs st X.env) (SP X pins D) X.xe s
theorem thn {α : Type} {t : Sem α} {Q Q' : α → Shared → Prop} {M : Model} {A : Around} {E : Value → Shared → Prop} {s : Shared} (h : wpAny M A t Q E s) (hQ : ∀ a s, Q a s → Q' a s) : wpAny M A t Q' E s := wpAny_mono h hQ fun _ _ x => x
end L2
namespace L2
open PySem PySem.Spec PyProof.Rows
section
variable {X : Cx}
def tVar (i : Nat) : TE := fun σ H Q => ∃ v, σ[i]? = some (some v) ∧ Q v H
def tC (v : V) : TE := fun _ H Q => Q v H
theorem pe_var {i : Nat} {x : Str} {pos : Pos} (hN : X.N[i]? = some x) (hv : Vis X.env.scope x) (hd : (x == ("__debug__" : Str)) = false := by decide) (hcd : (x == ("__classdict__" : Str)) = false := by decide) : PE X (.Name x pos) (tVar i) := by
  intro pins s σ H Q I h
  obtain ⟨v, e, h⟩ := h
  obtain ⟨m, hn, hl⟩ := I.loc
  obtain ⟨u, r, l⟩ := hl i x v hN e hv
  have fin : EP X pins σ Q u s := ⟨v, H, I, r, h⟩
  rcases l with ⟨hk, hm⟩ | ⟨hk, c, hc, hcell⟩
  · exact wpAny_Name (wpAny_loadName_local I.ok.kind hk hn hm fin) hd
  · rcases hk with hk | hk
    · exact wpAny_Name (wpAny_loadName_cell I.ok.kind hk hc hcell fin) hd
    · exact wpAny_Name (wpAny_loadName_free I.ok.kind hk hc hcell fin hcd) hd
theorem pe_int {i j pos} : PE X (.Constant (.int i) j pos) (tC (.int i)) := fun _ _ _ H _ I h => wpAny_Constant_int ⟨.int i, H, I.tok _, ⟨_, rfl⟩, h⟩
theorem pe_bl {b j pos} : PE X (.Constant (.bool b) j pos) (tC (.bl b)) := fun _ _ _ H _ I h => Constant_bool ⟨.bl b, H, I, rfl, h⟩
theorem pe_non {j pos} : PE X (.Constant .none j pos) (tC .non) := fun _ _ _ H _ I h => Constant_none ⟨.non, H, I, rfl, h⟩
theorem pe_str {x j pos} : PE X (.Constant (.str x) j pos) (tC (.str x)) := fun _ _ _ H _ I h => Calls.Constant_str ⟨.str x, H, I.tok _, ⟨_, rfl⟩, h⟩
def Gl (X : Cx) (x : Str) : Prop := X.env.kindOf x = some .globalImplicit
theorem ld_glob {E : Value → Shared → Prop} {pins : List (Addr × Obj)} {s : Shared} {σ : St} {H : Hp} {x : Str} {u : Value} {pos : Pos} {Q : Value → Shared → Prop} (I : Inv X pins σ H s) (hg : Gl X x) (hm : X.mg x = some u) (h : Q u s)
    (hd : (x == ("__debug__" : Str)) = false := by decide) : wpAny (model X.prog X.w) X.A (eval (.Name x pos) X.env) Q E s :=
  Calls.Name_function_global I.ok.kind hg (Calls.loadGlobal_global (by rw [I.ok.glob]; exact I.mod.glob.keeps I.bk) hm h) hd
theorem ld_blt {E : Value → Shared → Prop} {pins : List (Addr × Obj)} {s : Shared} {σ : St} {H : Hp} {x : Str} {u : Value} {pos : Pos} {Q : Value → Shared → Prop} (I : Inv X pins σ H s) (hg : Gl X x) (hm : X.mg x = none) (hv : bootBuiltins x = some u) (h : Q u s)
    (hn : x ≠ "__name__" := by decide) (hd : (x == ("__debug__" : Str)) = false := by decide) : wpAny (model X.prog X.w) X.A (eval (.Name x pos) X.env) Q E s := by
  obtain ⟨mb, h1, h2⟩ := I.mod.blt
  exact Calls.Name_function_global I.ok.kind hg (Calls.loadGlobal_builtin (by rw [I.ok.glob]; exact I.mod.glob.keeps I.bk) hm (by rw [I.ok.blt]; exact h1.keeps I.bk) ((h2 x hn).trans hv) h) hd
theorem pe_glob {x : Str} {v : V} {u : Value} {pos : Pos} (hg : Gl X x) (hm : X.mg x = some u) (r : RelV v u) (hd : (x == ("__debug__" : Str)) = false := by decide) : PE X (.Name x pos) (tC v) :=
  fun _ _ _ H _ I h => ld_glob I hg hm ⟨v, H, I, r, h⟩ hd
theorem pe_bltn {x : Str} {v : V} {u : Value} {pos : Pos} (hg : Gl X x) (hm : X.mg x = none) (hv : bootBuiltins x = some u) (r : RelV v u) (hn : x ≠ "__name__" := by decide) (hd : (x == ("__debug__" : Str)) = false := by decide) : PE X (.Name x pos) (tC v) :=
  fun _ _ _ H _ I h => ld_blt I hg hm hv ⟨v, H, I, r, h⟩ hn hd
variable {a b : Expr} {ta tb : TE} {pos : Pos}
def tB (t : TE) : TT := fun σ H Q => t σ H fun x H1 => ∃ c, x = .bl c ∧ Q c H1
theorem pt_val {e : Expr} {t : TE} (h : PE X e t) (he : ∀ whole, isTrue e X.env whole = (do let v ← whole; standAt e.pos; holding [v] (truthy v)) := by intro _; rfl) : PT X e (tB t) := by
  intro pins s σ H Q I hw
  refine isTrue_plain (thn (h pins s σ H _ I hw) fun v s1 ⟨x, H1, I1, r1, q1⟩ => ?_) (he _)
  obtain ⟨d, rfl, q⟩ := q1
  cases r1
  exact wpAny_truthy_bool ⟨H1, I1, q⟩
variable {tA tB' : TT} {rest : List Expr}
def tAnd (t u : TT) : TT := fun σ H Q => t σ H fun c H1 => if c = true then u σ H1 Q else Q false H1
def tOr (t u : TT) : TT := fun σ H Q => t σ H fun c H1 => if c = true then Q true H1 else u σ H1 Q
def tNot (t : TT) : TT := fun σ H Q => t σ H fun c H1 => Q (!c) H1
theorem pw_and1 (ha : PT X a tA) : PW X (.BoolOp .And [a] pos) tA := by
  intro wh pins s σ H Q I h
  refine isTrue_and (thn (ha pins s σ H Q I h) fun c s1 e => ?_)
  cases c with
  | true => exact isTrue_and_nil e
  | false => exact e
theorem pw_or1 (ha : PT X a tA) : PW X (.BoolOp .Or [a] pos) tA := by
  intro wh pins s σ H Q I h
  refine isTrue_or (thn (ha pins s σ H Q I h) fun c s1 e => ?_)
  cases c with
  | false => exact isTrue_or_nil e
  | true => exact e
theorem pw_and (ha : PT X a tA) (hb : PW X (.BoolOp .And (b :: rest) pos) tB') : PW X (.BoolOp .And (a :: b :: rest) pos) (tAnd tA tB') := by
  intro wh pins s σ H Q I h
  refine isTrue_and (thn (ha pins s σ H _ I h) fun c s1 ⟨H1, I1, q1⟩ => ?_)
  cases c with
  | true => exact hb wh pins s1 σ H1 Q I1 q1
  | false => exact ⟨H1, I1, q1⟩
theorem pw_or (ha : PT X a tA) (hb : PW X (.BoolOp .Or (b :: rest) pos) tB') : PW X (.BoolOp .Or (a :: b :: rest) pos) (tOr tA tB') := by
  intro wh pins s σ H Q I h
  refine isTrue_or (thn (ha pins s σ H _ I h) fun c s1 ⟨H1, I1, q1⟩ => ?_)
  cases c with
  | true => exact ⟨H1, I1, q1⟩
  | false => exact hb wh pins s1 σ H1 Q I1 q1
theorem pt_not (ha : PT X a tA) : PT X (.UnaryOp .Not a pos) (tNot tA) := by
  intro pins s σ H Q I h
  exact isTrue_not (ha pins s σ H (fun c H1 => Q (!c) H1) I h)
def tAndV (ta tb : TE) : TE := fun σ H Q => ta σ H fun x H1 => ∃ c, x = .bl c ∧ if c = true then tb σ H1 Q else Q (.bl false) H1
def tOrV (ta tb : TE) : TE := fun σ H Q => ta σ H fun x H1 => ∃ c, x = .bl c ∧ if c = true then Q (.bl true) H1 else tb σ H1 Q
theorem pe_one {op} {t : TE} (h : PE X a t) : PE X (.BoolOp op [a] pos) t := fun pins s σ H Q I hw => BoolOp_one (h pins s σ H Q I hw)
theorem pe_and (ha : PE X a ta) (hb : PE X (.BoolOp .And (b :: rest) pos) tb) : PE X (.BoolOp .And (a :: b :: rest) pos) (tAndV ta tb) := by
  intro pins s σ H Q I h
  refine BoolOp_and (thn (ha pins s σ H _ I h) fun v s1 ⟨x, H1, I1, r1, q1⟩ => ?_)
  obtain ⟨c, rfl, q1⟩ := q1
  cases r1
  refine wpAny_truthy_bool ?_
  cases c with
  | true => exact hb pins s1 σ H1 Q I1 q1
  | false => exact ⟨.bl false, H1, I1, rfl, q1⟩
theorem pe_or (ha : PE X a ta) (hb : PE X (.BoolOp .Or (b :: rest) pos) tb) : PE X (.BoolOp .Or (a :: b :: rest) pos) (tOrV ta tb) := by
  intro pins s σ H Q I h
  refine BoolOp_or (thn (ha pins s σ H _ I h) fun v s1 ⟨x, H1, I1, r1, q1⟩ => ?_)
  obtain ⟨c, rfl, q1⟩ := q1
  cases r1
  refine wpAny_truthy_bool ?_
  cases c with
  | false => exact hb pins s1 σ H1 Q I1 q1
  | true => exact ⟨.bl true, H1, I1, rfl, q1⟩
end
end L2
namespace L2
open PySem PySem.Spec PyProof.Rows
def SqL (K : PySem.W.Frag) (H : Hp) (a : Addr) (xs : List V) : Prop :=
  Rd H a (.lst xs) ∨
    ∃ (o : Obj) (its : Array Value) (n : Nat), K.lookup a = some o ∧ o.cls = .type "list" ∧ o.dict = none ∧ o.data = .seq its n ∧ its.size ≤ sizeLine ∧ Vals xs its.toList
def SqT (K : PySem.W.Frag) (H : Hp) (a : Addr) (xs : List V) : Prop :=
  Rd H a (.tup xs) ∨
    ∃ (o : Obj) (its : Array Value) (n : Nat), K.lookup a = some o ∧ o.cls = .type "tuple" ∧ o.dict = none ∧ o.data = .seq its n ∧ its.size ≤ sizeLine ∧ Vals xs its.toList
def absV : Value → Option V
  | .none => some .non
  | .bool b => some (.bl b)
  | .int i _ => some (.int i)
  | .str x _ => some (.str x)
  | .bytes b _ => some (.byt b)
  | .float b _ => some (.flt b)
  | .ref a => some (.ref a)
  | .type n => some (.ty n)
  | _ => none
theorem RelV.abs {x : V} {u : Value} (r : RelV x u) : absV u = some x := by
  cases x with
  | non => cases r; rfl
  | bl _ => cases r; rfl
  | int _ => obtain ⟨t, rfl⟩ := r; rfl
  | str _ => obtain ⟨t, rfl⟩ := r; rfl
  | byt _ => obtain ⟨t, rfl⟩ := r; rfl
  | flt _ => obtain ⟨t, rfl⟩ := r; rfl
  | ref _ => cases r; rfl
  | ty _ => cases r; rfl
theorem RelV.inj {x y : V} {u : Value} (r : RelV x u) (q : RelV y u) : x = y := Option.some.inj (r.abs.symm.trans q.abs)
theorem Vals.inj : ∀ {xs ys : List V} {us : List Value}, Vals xs us → Vals ys us → xs = ys
  | _, _, _, .nil, .nil => rfl
  | _, _, _, .cons r t, .cons r' t' => by rw [r.inj r', Vals.inj t t']
section
variable {X : Cx} {pins : List (Addr × Obj)} {σ : St} {H : Hp} {s : Shared} {a : Addr} {xs ys : List V}
theorem SqL.of {K : PySem.W.Frag} (h : H a = some (.lst xs)) : SqL K H a xs := .inl (.inl h)
theorem SqT.of {K : PySem.W.Frag} (h : H a = some (.tup xs)) : SqT K H a xs := .inl (.inl h)
theorem Inv.list (I : Inv X pins σ H s) (h : SqL X.K H a xs) : ∃ its : List Value, Vals xs its ∧ PlainL s.heap a its.toArray ∧ xs.length ≤ sizeLine := by
  rcases h with h | ⟨o, its, n, hk, hc, hd, hs, hz, r⟩
  · obtain ⟨z, its, n, r, e⟩ := h.ok I.hok
    exact ⟨its, r, ⟨_, n, e, rfl, rfl, rfl⟩, z⟩
  · refine ⟨its.toList, r, ⟨o, n, I.kIn a o hk, hc, hd, by simpa using hs⟩, ?_⟩
    have e := r.length
    simp only [Array.length_toList] at e
    omega
theorem Inv.tuple (I : Inv X pins σ H s) (h : SqT X.K H a xs) : ∃ its : List Value, Vals xs its ∧ IsTup s.heap a its.toArray ∧ xs.length ≤ sizeLine := by
  rcases h with h | ⟨o, its, n, hk, hc, hdn, hs, hz, r⟩
  · obtain ⟨z, its, r, p⟩ := h.ok I.hok
    exact ⟨its, r, p.is, z⟩
  · refine ⟨its.toList, r, ⟨o, I.kIn a o hk, hc, n, by simpa using hs⟩, ?_⟩
    have e := r.length
    simp only [Array.length_toList] at e
    omega
theorem Inv.list_inj (I : Inv X pins σ H s) (h : SqL X.K H a xs) (h' : SqL X.K H a ys) : xs = ys := by
  obtain ⟨its, r, ⟨o, n, e, _, _, d⟩, _⟩ := I.list h
  obtain ⟨its', r', ⟨o', n', e', _, _, d'⟩, _⟩ := I.list h'
  rw [e] at e'; cases e'
  rw [d] at d'
  injection d' with d1 _
  have : its = its' := by simpa using congrArg Array.toList d1
  subst this
  exact r.inj r'
theorem Inv.tuple_inj (I : Inv X pins σ H s) (h : SqT X.K H a xs) (h' : SqT X.K H a ys) : xs = ys := by
  obtain ⟨its, r, ⟨o, e, _, n, d⟩, _⟩ := I.tuple h
  obtain ⟨its', r', ⟨o', e', _, n', d'⟩, _⟩ := I.tuple h'
  rw [e] at e'; cases e'
  rw [d] at d'
  injection d' with d1 _
  have : its = its' := by simpa using congrArg Array.toList d1
  subst this
  exact r.inj r'
end
abbrev Cx.wish (X : Cx) (E : Value → Shared → Prop) : Cx := { X with xe := E }
abbrev Cx.nox (X : Cx) : Cx := X.wish fun _ _ => False
theorem Cx.Ok.wish {X : Cx} (ok : X.Ok) (E : Value → Shared → Prop) : (X.wish E).Ok :=
  ⟨ok.mod, ok.kind, ok.glob, ok.blt, ok.above, ok.inj, ok.has, ok.cab, ok.hd, ok.frames, ok.stk, ok.exf, ok.bs, ok.bsz, ok.noex, ok.exfs, ok.funs, ok.frf⟩
theorem Cx.Ok.unwish {X : Cx} {E : Value → Shared → Prop} (ok : (X.wish E).Ok) : X.Ok :=
  ⟨ok.mod, ok.kind, ok.glob, ok.blt, ok.above, ok.inj, ok.has, ok.cab, ok.hd, ok.frames, ok.stk, ok.exf, ok.bs, ok.bsz, ok.noex, ok.exfs, ok.funs, ok.frf⟩
section
variable {X : Cx} {pins : List (Addr × Obj)} {σ : St} {H : Hp} {s : Shared} {E : Value → Shared → Prop}
theorem Inv.wish (I : Inv X pins σ H s) (E : Value → Shared → Prop) : Inv (X.wish E) pins σ H s := ⟨I.ok.wish E, I.os, I.bare, I.base, I.loc, I.cell, I.free, I.freeC, I.pin, I.hok, I.len⟩
theorem Inv.unwish (I : Inv (X.wish E) pins σ H s) : Inv X pins σ H s := ⟨I.ok.unwish, I.os, I.bare, I.base, I.loc, I.cell, I.free, I.freeC, I.pin, I.hok, I.len⟩
theorem SP.unwish {D : Ends} {f : Flow} {s' : Shared} (h : SP (X.wish E) pins D f s') : SP X pins D f s' := by
  cases f with
  | next => obtain ⟨σ', H', I, q⟩ := h; exact ⟨σ', H', I.unwish, q⟩
  | brk => obtain ⟨σ', H', I, q⟩ := h; exact ⟨σ', H', I.unwish, q⟩
  | cont => obtain ⟨σ', H', I, q⟩ := h; exact ⟨σ', H', I.unwish, q⟩
  | ret u => obtain ⟨v, σ', H', I, r, q⟩ := h; exact ⟨v, σ', H', I.unwish, r, q⟩
theorem PSs.nox {st : List Stmt} {t : TS} (h : PSs X.nox st t) : PSs X st t := fun pins s σ H D I hw =>
  wpAny_mono (h pins s σ H D (I.wish _) hw) (fun _ _ q => q.unwish) fun _ _ z => False.elim z
end
section
variable {X : Cx} {st : Stmt} {rest : List Stmt} {t u : TS} {e : Expr} {te : TE} {pos : Pos}
def tNext : TS := fun D σ H => D.nx σ H
def tSeq (t u : TS) : TS := fun D σ H => t { D with nx := u D } σ H
theorem pss_nil : PSs X [] tNext := fun _ _ σ H _ I h => wpAny_execs_nil ⟨σ, H, I, h⟩
theorem pss_cons (h1 : PS X st t) (h2 : PSs X rest u) : PSs X (st :: rest) (tSeq t u) := by
  intro pins s σ H D I h
  refine wpAny_execs_cons (thn (h1 pins s σ H { D with nx := u D } I h) fun f s1 q => ?_)
  cases f with
  | next =>
    obtain ⟨σ', H', I', q⟩ := q
    exact h2 pins s1 σ' H' D I' q
  | ret v => exact q
  | brk => exact q
  | cont => exact q
theorem pss_one (h1 : PS X st t) : PSs X [st] t := by
  intro pins s σ H D I h
  refine wpAny_execs_cons (thn (h1 pins s σ H D I h) fun f s1 q => ?_)
  cases f with
  | next => exact wpAny_execs_nil q
  | ret v => exact q
  | brk => exact q
  | cont => exact q
theorem Inv.quiet {pins : List (Addr × Obj)} {σ : St} {H : Hp} {s : Shared} (I : Inv X pins σ H s) : interactive X.env = false := by simp [interactive, I.ok.kind]
def tDrop (te : TE) : TS := fun D σ H => te σ H fun _ H1 => D.nx σ H1
theorem ps_expr (he : PE X e te) (hs : swapsWith e none pos.line X.env = pure false := by rfl) : PS X (.Expr e pos) (tDrop te) := by
  intro pins s σ H D I h
  exact wpAny_Expr_any (thn (he pins s σ H _ I h) fun v s1 ⟨x, H1, I1, r1, q1⟩ => ⟨σ, H1, I1, q1⟩) I.quiet hs
def tRet (te : TE) : TS := fun D σ H => te σ H D.rt
theorem ps_ret (he : PE X e te) : PS X (.Return (some e) pos) (tRet te) := by
  intro pins s σ H D I h
  exact wpAny_Return_some (thn (he pins s σ H _ I h) fun v s1 ⟨x, H1, I1, r1, q1⟩ => ⟨x, σ, H1, I1, r1, q1⟩)
def tIfS (c : TT) (t u : TS) : TS := fun D σ H => c σ H fun b H1 => if b = true then t D σ H1 else u D σ H1
theorem ps_if {c : Expr} {a b : List Stmt} {tc : TT} (hc : PT X c tc) (ha : PSs X a t) (hb : PSs X b u) : PS X (.If c a b pos) (tIfS tc t u) := by
  intro pins s σ H D I h
  refine wpAny_If (thn (hc pins s σ H _ I h) fun d s1 ⟨H1, I1, q1⟩ => ?_)
  cases d with
  | true => exact ha pins s1 σ H1 D I1 q1
  | false => exact hb pins s1 σ H1 D I1 q1
end
abbrev TG := V → St → Hp → (St → Hp → Prop) → Prop
abbrev TGs := List V → St → Hp → (St → Hp → Prop) → Prop
def PG (X : Cx) (target : Expr) (t : TG) : Prop :=
  ∀ (pins : List (Addr × Obj)) (s : Shared) (σ : St) (H : Hp) (v : V) (u : Value) (Q : St → Hp → Prop), Inv X pins σ H s → RelV v u → t v σ H Q →
    wpAny (model X.prog X.w) X.A (assign target X.env u) (fun _ s' => ∃ σ' H', Inv X pins σ' H' s' ∧ Q σ' H') X.xe s
def PGs (X : Cx) (ts : List Expr) (t : TGs) : Prop :=
  ∀ (pins : List (Addr × Obj)) (s : Shared) (σ : St) (H : Hp) (vs : List V) (us : List Value) (Q : St → Hp → Prop), Inv X pins σ H s → Vals vs us → t vs σ H Q →
    wpAny (model X.prog X.w) X.A (assignInOrder ((assignEach ts X.env).map (·.2)) us) (fun _ s' => ∃ σ' H', Inv X pins σ' H' s' ∧ Q σ' H') X.xe s
abbrev TSet := V → V → V → Hp → (Hp → Prop) → Prop
def PSet (X : Cx) (t : TSet) : Prop :=
  ∀ (pins : List (Addr × Obj)) (s : Shared) (σ : St) (H : Hp) (o i v : V) (ov iv u : Value) (Q : Hp → Prop), Inv X pins σ H s → RelV o ov → RelV i iv → RelV v u → t o i v H Q →
    wpAny (model X.prog X.w) X.A (setItem ov iv u) (fun _ s' => ∃ H', Inv X pins σ H' s' ∧ Q H') X.xe s
section
variable {X : Cx} {pos : Pos}
def gName (i : Nat) : TG := fun v σ H Q => Q (σ.set i (some v)) H
theorem pg_name {i : Nat} {x : Str} (hN : X.N.Nodup) (hi : X.N[i]? = some x) (hx : Loc X.env.scope x) (hf : X.fn x = true ∨ X.env.scope.names.lookup x = some .local := by first | exact .inl rfl | exact .inr rfl | assumption) : PG X (.Name x pos) (gName i) := by
  intro pins s σ H v u Q I r h
  exact wpAny_assign_Name (store_ok I hN hi hx r (fun s' I' => ⟨_, H, I', h⟩) hf)
def gNil : TGs := fun vs σ H Q => vs = [] ∧ Q σ H
def gCons (t : TG) (u : TGs) : TGs := fun vs σ H Q => ∃ v r, vs = v :: r ∧ t v σ H fun σ' H' => u r σ' H' Q
theorem pgs_nil : PGs X [] gNil := by
  intro pins s σ H vs us Q I r h
  obtain ⟨e, h⟩ := h
  subst e
  cases r
  exact assignInOrder_nil ⟨σ, H, I, h⟩
theorem pgs_cons {e : Expr} {es : List Expr} {t : TG} {u : TGs} (h1 : PG X e t) (h2 : PGs X es u)
    (hs : (assignEach (e :: es) X.env).map (·.2) = assign e X.env :: (assignEach es X.env).map (·.2) := by rfl) : PGs X (e :: es) (gCons t u) := by
  intro pins s σ H vs us Q I r h
  obtain ⟨v, vr, e1, h⟩ := h
  subst e1
  cases r with
  | cons r rr =>
    rw [hs]
    refine assignInOrder_cons (thn (h1 pins s σ H _ _ _ I r h) fun _ s1 ⟨σ1, H1, I1, q1⟩ => ?_)
    exact h2 pins s1 σ1 H1 _ _ Q I1 rr q1
def gTup (K : PySem.W.Frag) (n : Nat) (t : TGs) : TG := fun v σ H Q => ∃ a xs, v = .ref a ∧ SqT K H a xs ∧ xs.length = n ∧ t xs σ H Q
theorem pg_tup {es : List Expr} {k : Nat} {t : TGs} {n : Nat} (hc : X.calm = true) (h : PGs X es t)
    (hn : (assignEach es X.env).length = n := by rfl) (hst : (assignEach es X.env).findIdx? (·.1) = none := by rfl) : PG X (.Tuple es k pos) (gTup X.K n t) := by
  intro pins s σ H v u Q I r hw
  obtain ⟨a, xs, e1, hq, hl, hw⟩ := hw
  subst e1
  cases r
  obtain ⟨its, rv, ht, hz⟩ := I.tuple hq
  refine assign_Tuple_tuple (I.ok.hd hc) ht (by simp [hn, ← hl, rv.length]) hst fun h' hx => ?_
  have I1 : Inv X pins σ H { s with heap := h' } := I.kept (t' := s.toks) fun b o e => hx b o (Nat.ne_of_lt (Heap.lt_size e)) e
  exact h pins _ σ H xs _ Q I1 (by simpa using rv) hw
def gSub (to ti : TE) (t : TSet) : TG := fun v σ H Q => to σ H fun o H1 => ti σ H1 fun i H2 => t o i v H2 fun H3 => Q σ H3
theorem pg_sub {o i : Expr} {to ti : TE} {t : TSet} (ho : PE X o to) (hi : PE X i ti) (hs : PSet X t)
    (ha : ∀ v, assign (.Subscript o i pos) X.env v = (do
      let ov ← holding [v] (eval o X.env)
      let iv ← holding [v, ov] (eval i X.env)
      standAt pos
      holding [v, ov, iv] (setItem ov iv v)
      release [v, ov, iv] []) := by intro _; rfl) : PG X (.Subscript o i pos) (gSub to ti t) := by
  intro pins s σ H v u Q I r h
  rw [ha]
  refine wpAny_bind (wpAny_holding (thn (ho pins s σ H _ I h) fun ov s1 ⟨x, H1, I1, r1, q1⟩ => ?_))
  refine wpAny_bind (wpAny_holding (thn (hi pins s1 σ H1 _ I1 q1) fun iv s2 ⟨y, H2, I2, r2, q2⟩ => ?_))
  refine wpAny_bind (wpAny_standAt (wpAny_bind (wpAny_holding (thn (hs pins s2 σ H2 x y v ov iv u _ I2 r1 r2 r q2) fun _ s3 ⟨H3, I3, q3⟩ => ?_))))
  exact wpAny_release ⟨σ, H3, I3, q3⟩
def tAsg (te : TE) (g : TG) : TS := fun D σ H => te σ H fun x H1 => g x σ H1 D.nx
theorem ps_asg {tg e : Expr} {te : TE} {g : TG} (he : PE X e te) (hg : PG X tg g) (hs : swapsWithSole [tg] e pos.line X.env = pure false := by rfl) (hw : swappedStores [tg] e X.env = pure none := by rfl)
    (h1 : (assignEach [tg] X.env).map (·.2) = [assign tg X.env] := by rfl) : PS X (.Assign [tg] e pos) (tAsg te g) := by
  intro pins s σ H D I h
  refine wpAny_Assign_stores (thn (he pins s σ H _ I h) fun v s1 ⟨x, H1, I1, r1, q1⟩ => ?_) hs hw
  rw [h1]
  exact thn (hg pins s1 σ H1 x v _ I1 r1 q1) fun _ s2 q => q
theorem ps_set {i : Nat} {x : Str} {e : Expr} {te : TE} {pos' : Pos} (hN : X.N.Nodup) (hi : X.N[i]? = some x) (hx : Loc X.env.scope x) (he : PE X e te) (hs : swapsWith e (some (.Name x pos')) pos.line X.env = pure false := by rfl) (hf : X.fn x = true ∨ X.env.scope.names.lookup x = some .local := by first | exact .inl rfl | exact .inr rfl | assumption) :
    PS X (.Assign [.Name x pos'] e pos) (tAsg te (gName i)) := by
  intro pins s σ H D I h
  refine wpAny_Assign_Name (thn (he pins s σ H _ I h) fun v s1 ⟨y, H1, I1, r1, q1⟩ => ?_) hs
  exact store_ok I1 hN hi hx r1 (fun s2 I2 => ⟨_, H1, I2, q1⟩) hf
end
structure It where
  go : Nat → Hp → Prop
  yld : Nat → Hp → V → Hp → Prop
  stop : Nat → Hp → Prop
def FpOk (X : Cx) (pins : List (Addr × Obj)) (H : Hp) (b : Addr) : Prop :=
  H b = none ∧ b ≠ X.env.locals ∧ b ∉ X.fs ∧ (b ∈ X.ex ∨ X.s₀.heap.objs.size ≤ b) ∧ (∀ x c, X.env.cells.lookup x = some c → c ≠ b) ∧ ∀ p ∈ X.pn ++ pins, p.1 ≠ b
theorem Inv.fpOk {X : Cx} {pins : List (Addr × Obj)} {σ : St} {H H' : Hp} {s : Shared} {b : Addr} (I : Inv X pins σ H s) (hb : s.heap.objs.size ≤ b) (hn : H' b = none) : FpOk X pins H' b := by
  refine ⟨hn, Nat.ne_of_gt (Nat.lt_of_lt_of_le I.lt hb), I.nofs hb, .inr (Nat.le_trans I.sz hb), fun x c e z => ?_, fun p hp z => ?_⟩
  · obtain ⟨v, q⟩ := I.cell x c e
    exact absurd (Nat.lt_of_lt_of_le q.lt (by rw [z]; exact hb)) (Nat.lt_irrefl _)
  · exact absurd (Nat.lt_of_lt_of_le (Heap.lt_size (I.pin p hp).1) (by rw [z]; exact hb)) (Nat.lt_irrefl _)
structure Turn (P : Program) (w : World) (K : PySem.W.Frag) (tg : Expr) (J : It) (fp : List Addr) (it : Addr) (tn : Nat → Heap → Prop) : Prop where
  mem : it ∈ fp
  obj : ∀ i h, tn i h → ∀ b ∈ fp, ∃ o, h.get? b = some o ∧ ∀ v, o.data ≠ .cell v
  keep : ∀ i h h', tn i h → (∀ b ∈ fp, ∀ o, h.get? b = some o → h'.get? b = some o) → tn i h'
  item : ∀ (X : Cx), X.prog = P → X.w = w → X.K = K → X.calm = true → ∀ (i : Nat) (pins : List (Addr × Obj)) (s : Shared) (σ : St) (H : Hp) (E : Value → Shared → Prop), Inv X pins σ H s → (∀ b ∈ fp, FpOk X pins H b) → tn i s.heap → J.go i H →
    wpAny (model P w) X.A (pyNext (.ref it)) (fun r s1 => ∃ u, r = some u ∧
      wpAny (model P w) X.A (letOwnedTupleGo tg (.ref it) u) (fun _ s2 => ∃ x H', Inv X pins σ H' s2 ∧ RelV x u ∧ J.yld i H x H' ∧ tn (i + 1) s2.heap ∧ ∀ b ∈ fp, H' b = none) E s1) E s
  done : ∀ (X : Cx), X.prog = P → X.w = w → X.K = K → X.calm = true → ∀ (i : Nat) (pins : List (Addr × Obj)) (s : Shared) (σ : St) (H : Hp) (E : Value → Shared → Prop), Inv X pins σ H s → (∀ b ∈ fp, FpOk X pins H b) → tn i s.heap → J.stop i H →
    wpAny (model P w) X.A (pyNext (.ref it)) (fun r s1 => r = none ∧ Inv X pins σ H s1) E s
  self : ∀ (A : Around) (i : Nat) (s : Shared) (Q : Value → Shared → Prop) (E : Value → Shared → Prop), tn i s.heap → Q (.ref it) s → wpAny (model P w) A (pyIter (.ref it)) Q E s
abbrev TI := St → Hp → (It → Hp → Prop) → Prop
def PIE (X : Cx) (pins : List (Addr × Obj)) (σ : St) (tg : Expr) (R : It → Hp → Prop) (itv : Value) (s2 : Shared) : Prop :=
  ∃ (it : Addr) (fp : List Addr) (tn : Nat → Heap → Prop) (J : It) (H' : Hp), itv = .ref it ∧ Inv X pins σ H' s2 ∧ Turn X.prog X.w X.K tg J fp it tn ∧ tn 0 s2.heap ∧ (∀ b ∈ fp, FpOk X pins H' b) ∧ R J H'
def PI (X : Cx) (tg iter : Expr) (wi : TI) : Prop :=
  ∀ (pins : List (Addr × Obj)) (s : Shared) (σ : St) (H : Hp) (R : It → Hp → Prop), Inv X pins σ H s → wi σ H R →
    wpAny (model X.prog X.w) X.A (eval iter X.env) (fun v s1 => wpAny (model X.prog X.w) X.A (pyIter v) (PIE X pins σ tg R) X.xe s1) X.xe s
theorem go_of {M : Model} {A : Around} {E : Value → Shared → Prop} {s : Shared} {tg : Expr} {it : Addr} {u : Value} {o : Obj} {n : String} {vs : Array Value} {Q : Unit → Shared → Prop} (ho : s.heap.get? it = some o) (hc : o.cls = .type n) (hd : o.data = .fields vs)
    (hn : ["enumerate", "zip", "dict_itemiterator", "dict_reverseitemiterator", "odict_iterator", "itertools.zip_longest", "itertools.pairwise"].contains n = false) (hQ : Q () s) : wpAny M A (letOwnedTupleGo tg (.ref it) u) Q E s := by
  unfold letOwnedTupleGo
  cases tg <;> first
    | exact wpAny_pure hQ
    | (cases u <;> first
        | exact wpAny_pure hQ
        | (refine wpAny_bind (wpAny_load ho ?_)
           rw [hc, hd]
           show wpAny M A (if (["enumerate", "zip", "dict_itemiterator", "dict_reverseitemiterator", "odict_iterator", "itertools.zip_longest", "itertools.pairwise"].contains n && vs[0]? == some (rawInt _)) = true then _ else _) Q E s
           rw [if_neg (by intro h; rw [hn, Bool.false_and] at h; cases h)]
           exact wpAny_pure hQ))
def Itl (K : PySem.W.Frag) (a : Addr) : It :=
  ⟨fun i H => ∃ xs x, SqL K H a xs ∧ xs[i]? = some x, fun i H x H' => H' = H ∧ ∀ xs, SqL K H a xs → xs[i]? = some x, fun i H => ∃ xs, SqL K H a xs ∧ xs.length ≤ i⟩
def Itt (K : PySem.W.Frag) (a : Addr) : It :=
  ⟨fun i H => ∃ xs x, SqT K H a xs ∧ xs[i]? = some x, fun i H x H' => H' = H ∧ ∀ xs, SqT K H a xs → xs[i]? = some x, fun i H => ∃ xs, SqT K H a xs ∧ xs.length ≤ i⟩
def Itr (lo : Int) (n : Nat) : It := ⟨fun i _ => i < n, fun i H x H' => H' = H ∧ x = .int (lo + i), fun i _ => n ≤ i⟩
theorem turn_list {P : Program} {w : World} {K : PySem.W.Frag} {tg : Expr} (a it : Addr) : Turn P w K tg (Itl K a) [it] it (fun i h => h.IsListIter it a i) where
  mem := by simp
  obj := fun i h st b hb => by
    have e : b = it := by simpa using hb
    subst e
    obtain ⟨o, e, c, d⟩ := st
    exact ⟨o, e, fun v z => by rw [d] at z; cases z⟩
  keep := fun i h h' st k => st.at fun o e => k it (by simp) o e
  item := by
    intro X hP hw hK hc i pins s σ H E I hf st hg
    subst hP hw hK
    obtain ⟨xs, x, hq, hx⟩ := hg
    obtain ⟨its, rv, p, hz⟩ := I.list hq
    obtain ⟨u, hu, ru⟩ := rv.get hx
    obtain ⟨f0, f1, f2, f3, f4, f5⟩ := hf it (by simp)
    refine wpAny_pyNext_list_item st p.isList (x := u) (by simpa using hu) fun h' st' sb => ?_
    have I1 : Inv X pins σ H { s with heap := h' } := I.turned (t' := s.toks) (fun b o hb e => (sb.2 b hb).trans e) f0 f1 f3 f4 f5
    obtain ⟨o, e, c, d⟩ := id st'
    exact ⟨u, rfl, go_of (s := { s with heap := h' }) e c d (by decide) ⟨x, H, I1, ru, ⟨rfl, fun ys hy => by rw [I.list_inj hy hq]; exact hx⟩, st', fun b hb => (hf b hb).1⟩⟩
  done := by
    intro X hP hw hK hc i pins s σ H E I hf st hg
    subst hP hw hK
    obtain ⟨xs, hq, hx⟩ := hg
    obtain ⟨its, rv, p, hz⟩ := I.list hq
    obtain ⟨f0, f1, f2, f3, f4, f5⟩ := hf it (by simp)
    have hl := rv.length
    exact wpAny_pyNext_list_end (I.ok.hd hc) st p.isList (by simp; omega) fun h' eb => ⟨rfl, I.turned (t' := s.toks) (fun b o hb e => eb b o hb e) f0 f1 f3 f4 f5⟩
  self := fun _ _ _ _ _ st h => wpAny_pyIter_listiter st h
theorem turn_tuple {P : Program} {w : World} {K : PySem.W.Frag} {tg : Expr} (a it : Addr) : Turn P w K tg (Itt K a) [it] it (fun i h => h.IsTupleIter it a i) where
  mem := by simp
  obj := fun i h st b hb => by
    have e : b = it := by simpa using hb
    subst e
    obtain ⟨o, e, c, d⟩ := st
    exact ⟨o, e, fun v z => by rw [d] at z; cases z⟩
  keep := fun i h h' st k => st.at fun o e => k it (by simp) o e
  item := by
    intro X hP hw hK hc i pins s σ H E I hf st hg
    subst hP hw hK
    obtain ⟨xs, x, hq, hx⟩ := hg
    obtain ⟨its, rv, p, hz⟩ := I.tuple hq
    obtain ⟨u, hu, ru⟩ := rv.get hx
    obtain ⟨f0, f1, f2, f3, f4, f5⟩ := hf it (by simp)
    refine wpAny_pyNext_tuple_item st (show s.heap.IsTuple a its.toArray from p) (x := u) (by simpa using hu) fun h' st' sb => ?_
    have I1 : Inv X pins σ H { s with heap := h' } := I.turned (t' := s.toks) (fun b o hb e => (sb.2 b hb).trans e) f0 f1 f3 f4 f5
    obtain ⟨o, e, c, d⟩ := id st'
    exact ⟨u, rfl, go_of (s := { s with heap := h' }) e c d (by decide) ⟨x, H, I1, ru, ⟨rfl, fun ys hy => by rw [I.tuple_inj hy hq]; exact hx⟩, st', fun b hb => (hf b hb).1⟩⟩
  done := by
    intro X hP hw hK hc i pins s σ H E I hf st hg
    subst hP hw hK
    obtain ⟨xs, hq, hx⟩ := hg
    obtain ⟨its, rv, p, hz⟩ := I.tuple hq
    obtain ⟨f0, f1, f2, f3, f4, f5⟩ := hf it (by simp)
    have hl := rv.length
    exact wpAny_pyNext_tuple_end (I.ok.hd hc) st (show s.heap.IsTuple a its.toArray from p) (by simp; omega) fun h' eb => ⟨rfl, I.turned (t' := s.toks) (fun b o hb e => eb b o hb e) f0 f1 f3 f4 f5⟩
  self := fun _ _ _ _ _ st h => wpAny_pyIter_tupleiter st h
theorem turn_range {P : Program} {w : World} {K : PySem.W.Frag} {tg : Expr} (it : Addr) (lo : Int) (n : Nat) : Turn P w K tg (Itr lo n) [it] it (fun i h => IsRangeIter h it (lo + (i : Nat) * 1) ((n : Int) - (i : Nat)) 1) where
  mem := by simp
  obj := fun i h st b hb => by
    have e : b = it := by simpa using hb
    subst e
    exact ⟨_, st, fun v z => by
      have z' : Data.fields _ = Data.cell v := z
      cases z'⟩
  keep := fun i h h' st k => k it (by simp) _ st
  item := by
    intro X hP hw hK hc i pins s σ H E I hf st hg
    subst hP hw hK
    obtain ⟨f0, f1, f2, f3, f4, f5⟩ := hf it (by simp)
    have W := Walks.range (prog := X.prog) (w := X.w) (I.ok.hd hc) it lo 1 n
    refine W.item i s _ _ hg st fun v h' tk hv st' kk => ?_
    obtain ⟨t, rfl⟩ := hv
    have I1 : Inv X pins σ H { s with heap := h', toks := tk } := I.turned (fun b o hb e => kk b o (by simpa using hb) e) f0 f1 f3 f4 f5
    refine ⟨_, rfl, go_of (s := { s with heap := h', toks := tk }) (n := "range_iterator") st' rfl rfl (by decide) ⟨.int (lo + i), H, I1, ⟨t, ?_⟩, ⟨rfl, rfl⟩, st', fun b hb => (hf b hb).1⟩⟩
    rw [Int.mul_one]
  done := by
    intro X hP hw hK hc i pins s σ H E I hf st hg
    subst hP hw hK
    obtain ⟨f0, f1, f2, f3, f4, f5⟩ := hf it (by simp)
    exact wpAny_pyNext_range_end (I.ok.hd hc) st (by have : n ≤ i := hg; omega) fun h' eb => ⟨rfl, I.turned (t' := s.toks) (fun b o hb e => eb b o hb e) f0 f1 f3 f4 f5⟩
  self := fun _ _ _ _ _ st h => wpAny_pyIter_rangeiter st h
end L2
namespace L2
open PySem PySem.Spec PyProof.Rows
section
variable {X : Cx} {tg : Expr}
theorem range_it {pins : List (Addr × Obj)} {σ : St} {H : Hp} {s : Shared} {R : It → Hp → Prop} {E : Value → Shared → Prop} {lo hi : Int} {t u v : Tok} {tk : Nat} (I : Inv X pins σ H s) (h1 : -(2 ^ 62) ≤ lo) (h2 : lo < 2 ^ 62) (h3 : -(2 ^ 62) ≤ hi) (h4 : hi < 2 ^ 62)
    (q : R (Itr lo (hi - lo).toNat) H) : wpAny (model X.prog X.w) X.A (pyIter (.ref s.heap.objs.size)) (PIE X pins σ tg R) E { s with heap := s.heap.push { cls := .type "range", data := .fields #[.int lo t, .int hi u, .int 1 v] }, toks := tk } := by
  refine wpAny_pyIter_range (IsRange.new ..) (small_one h1 h2 h3 h4) ?_
  have I1 : Inv X pins σ H { s with heap := s.heap.push { cls := .type "range", data := .fields #[.int lo t, .int hi u, .int 1 v] }, toks := tk } := I.kept fun b o e => Heap.get?_push_of_some _ e
  refine ⟨(s.heap.push { cls := .type "range", data := .fields #[.int lo t, .int hi u, .int 1 v] }).objs.size, [(s.heap.push { cls := .type "range", data := .fields #[.int lo t, .int hi u, .int 1 v] }).objs.size], _, _, H, rfl,
    I1.kept (t' := tk) fun b o e => Heap.get?_push_of_some _ e, turn_range _ lo (hi - lo).toNat, ?_, fun b hb => ?_, q⟩
  · have e1 : lo + ((0 : Nat) : Int) * 1 = lo := by simp
    have e2 : (((hi - lo).toNat : Nat) : Int) - ((0 : Nat) : Int) = Builtin.Range.rangeSize lo hi 1 := by rw [rangeSize_one]; split <;> omega
    show IsRangeIter _ _ (lo + ((0 : Nat) : Int) * 1) ((((hi - lo).toNat : Nat) : Int) - ((0 : Nat) : Int)) 1
    rw [e1, e2]
    exact Heap.get?_push_size _ rfl
  · have e : b = (s.heap.push { cls := .type "range", data := .fields #[.int lo t, .int hi u, .int 1 v] }).objs.size := by simpa using hb
    subst e
    exact I1.fpOk (Nat.le_refl _) (I1.hok.fresh (Nat.le_refl _))
def iRng1 (ta : TA) : TI := fun σ H R => ta σ H fun vs H1 => ∃ j : Int, vs = [.int j] ∧ -(2 ^ 62) ≤ j ∧ j < 2 ^ 62 ∧ R (Itr 0 j.toNat) H1
theorem pi_range1 {a : Expr} {ta : TA} {p pos : Pos} (hg : Gl X "range") (hm : X.mg "range" = none) (ha : PA X [a] ta) (hs : starEach [a] X.env = [(false, eval a X.env)] := by rfl) : PI X tg (.Call (.Name "range" p) [a] [] pos) (iRng1 ta) := by
  intro pins s σ H R I h
  refine Call_ (ld_blt I hg hm boot_range (PyProof.Rows.callWith_type1 (thn (ha pos pins s σ H _ I h) fun us s1 ⟨vs, H1, I1, r1, q1⟩ => ?_) hs rfl))
  obtain ⟨j, e, q1, q2, q⟩ := q1
  subst e
  cases r1 with
  | cons r rr =>
    cases rr
    obtain ⟨t, rfl⟩ := r
    exact call_range_1 (range_it I1 (by omega) (by omega) q1 q2 (by simpa using q))
def tFor (wi : TI) (g : TG) (tb : TS) : TS := fun D σ H => wi σ H fun J H1 => ∃ W : Nat → Nat → St → Hp → Prop, (∃ m, W 0 m σ H1) ∧ ∀ i m σ H, W i m σ H →
  (J.stop i H ∧ D.nx σ H) ∨ (J.go i H ∧ ∃ N : St → Hp → Prop, (∀ σ' H', N σ' H' → ∃ m', m' < m ∧ W (i + 1) m' σ' H') ∧ ∀ x H', J.yld i H x H' → g x σ H' fun σ2 H2 => tb { D with nx := N, ct := N, bk := D.nx } σ2 H2)
def pinsAt (fp : List Addr) (h : Heap) : List (Addr × Obj) := fp.filterMap fun b => (h.get? b).map fun o => (b, o)
theorem mem_pinsAt {fp : List Addr} {h : Heap} {b : Addr} {o : Obj} (hb : b ∈ fp) (e : h.get? b = some o) : (b, o) ∈ pinsAt fp h := List.mem_filterMap.mpr ⟨b, hb, by rw [e]; rfl⟩
theorem of_pinsAt {fp : List Addr} {h : Heap} {p : Addr × Obj} (hp : p ∈ pinsAt fp h) : p.1 ∈ fp ∧ h.get? p.1 = some p.2 := by
  obtain ⟨b, hb, e⟩ := List.mem_filterMap.mp hp
  cases q : h.get? b with
  | none => rw [q] at e; cases e
  | some o =>
    rw [q] at e
    have e' : (b, o) = p := Option.some.inj e
    subst e'
    exact ⟨hb, q⟩
theorem Inv.pinned {pins : List (Addr × Obj)} {σ : St} {H : Hp} {s : Shared} {fp : List Addr} (I : Inv X pins σ H s) (hf : ∀ b ∈ fp, FpOk X pins H b) (ho : ∀ b ∈ fp, ∃ o, s.heap.get? b = some o ∧ ∀ v, o.data ≠ .cell v) : Inv X (pins ++ pinsAt fp s.heap) σ H s :=
  I.pins_of fun p hp => (List.mem_append.mp hp).elim (fun z => I.pin p (List.mem_append_right _ z)) fun z => by
    obtain ⟨hb, e⟩ := of_pinsAt z
    obtain ⟨f0, f1, f2, _⟩ := hf p.1 hb
    obtain ⟨o, e', d⟩ := ho p.1 hb
    rw [e] at e'; cases e'
    exact ⟨e, f0, f1, f2, d⟩
theorem Inv.unpinned {pins pl : List (Addr × Obj)} {σ : St} {H : Hp} {s : Shared} (I : Inv X (pins ++ pl) σ H s) : Inv X pins σ H s := I.pins_of fun p hp => I.pin p (List.mem_append_right _ (List.mem_append_left _ hp))
theorem ps_for {iter : Expr} {body : List Stmt} {wi : TI} {g : TG} {tb : TS} {pos : Pos} (hp : PassesOwn (model X.prog X.w) X.A X.env X.xe) (hc : X.calm = true) (hi : PI X tg iter wi) (hg : PG X tg g) (hb : PSs X body tb)
    (hs : ∀ x, foldedSetIterable iter X.env x = pure x := by intro _; rfl) : PS X (.For tg iter body [] pos) (tFor wi g tb) := by
  intro pins s σ H D I h
  refine wpAny_For (thn (hi pins s σ H _ I h) fun v s1 h1 => thn h1 fun itv s2 h2 => ?_) hs
  obtain ⟨it, fp, tn, J, H2, e, I2, T, st2, f2, W, ⟨m0, w0⟩, turn⟩ := h2
  subst e
  -- what stays true of the iterator's objects through the loop
  have stat : ∀ {H' : Hp}, (∀ b ∈ fp, H' b = none) → ∀ b ∈ fp, FpOk X pins H' b := fun hn b hb => ⟨hn b hb, (f2 b hb).2⟩
  refine codeAny_forLoop_any (fun n s' => ∃ i σ' H', Inv X pins σ' H' s' ∧ tn i s'.heap ∧ (∀ b ∈ fp, H' b = none) ∧ W i n σ' H') ?_ m0 ⟨0, σ, H2, I2, st2, fun b hb => (f2 b hb).1, w0⟩
  rintro n s3 ⟨i, σ3, H3, I3, st3, fr3, w3⟩
  rcases turn i n σ3 H3 w3 with ⟨stop, qn⟩ | ⟨go, N, hN, step⟩
  · refine wpAny_passesOwn hp (thn (T.done X rfl rfl rfl hc i pins s3 σ3 H3 X.xe I3 (stat fr3) st3 stop) fun r s4 ⟨hr, I4⟩ => ?_)
    subst hr
    exact wpAny_execs_nil ⟨σ3, H3, I4, qn⟩
  · refine wpAny_passesOwn hp (thn (T.item X rfl rfl rfl hc i pins s3 σ3 H3 X.xe I3 (stat fr3) st3 go) fun r s4 ⟨u, hr, h4⟩ => ?_)
    subst hr
    refine wpAny_passesOwn hp (thn h4 fun _ s5 ⟨x, H5, I5, r5, y5, st5, fr5⟩ => ?_)
    have I5' := I5.pinned (stat fr5) (T.obj _ _ st5)
    refine wpAny_passesOwn hp (thn (hg _ s5 σ3 H5 x u _ I5' r5 (step x H5 y5)) fun _ s6 ⟨σ6, H6, I6, q6⟩ => ?_)
    refine wpAny_passesOwn hp (thn (hb _ s6 σ6 H6 _ I6 q6) fun f s7 q7 => ?_)
    have again : ∀ {σ7 : St} {H7 : Hp}, Inv X (pins ++ pinsAt fp s5.heap) σ7 H7 s7 → N σ7 H7 → ∃ m, m < n ∧ ∃ i σ' H', Inv X pins σ' H' s7 ∧ tn i s7.heap ∧ (∀ b ∈ fp, H' b = none) ∧ W i m σ' H' := fun {σ7 H7} I7 n7 => by
      obtain ⟨m', hm, w7⟩ := hN σ7 H7 n7
      refine ⟨m', hm, i + 1, σ7, H7, I7.unpinned, T.keep _ _ _ st5 fun b hb o e => (I7.pin (b, o) (List.mem_append_right _ (List.mem_append_right _ (mem_pinsAt hb e)))).1, fun b hb => ?_, w7⟩
      obtain ⟨o, e, d⟩ := T.obj _ _ st5 b hb
      exact (I7.pin (b, o) (List.mem_append_right _ (List.mem_append_right _ (mem_pinsAt hb e)))).2.1
    cases f with
    | next => obtain ⟨σ7, H7, I7, n7⟩ := q7; exact again I7 n7
    | cont => obtain ⟨σ7, H7, I7, n7⟩ := q7; exact again I7 n7
    | brk => obtain ⟨σ7, H7, I7, q7⟩ := q7; exact ⟨σ7, H7, I7.unpinned, q7⟩
    | ret v => obtain ⟨x7, σ7, H7, I7, r7, q7⟩ := q7; exact ⟨x7, σ7, H7, I7.unpinned, r7, q7⟩
end
end L2
namespace L2
open PySem PySem.Spec PyProof.Rows
abbrev R2 := V → V → Hp → VK → Prop
def OpR (X : Cx) (f : Value → Value → Sem Value) (r : R2) : Prop :=
  ∀ (pins : List (Addr × Obj)) (s : Shared) (σ : St) (H : Hp) (x y : V) (v u : Value) (Q : VK), Inv X pins σ H s → RelV x v → RelV y u → r x y H Q →
    wpAny (model X.prog X.w) X.A (f v u) (EP X pins σ Q) X.xe s
def UnR (X : Cx) (f : Value → Sem Value) (r : V → Hp → VK → Prop) : Prop :=
  ∀ (pins : List (Addr × Obj)) (s : Shared) (σ : St) (H : Hp) (x : V) (v : Value) (Q : VK), Inv X pins σ H s → RelV x v → r x H Q →
    wpAny (model X.prog X.w) X.A (f v) (EP X pins σ Q) X.xe s
def CallR (X : Cx) (f : Value) (r : List V → Hp → VK → Prop) : Prop :=
  ∀ (pins : List (Addr × Obj)) (s : Shared) (σ : St) (H : Hp) (xs : List V) (us : List Value) (Q : VK), Inv X pins σ H s → Vals xs us → r xs H Q →
    wpAny (model X.prog X.w) X.A (call f us) (EP X pins σ Q) X.xe s
def tOp (r : R2) (ta tb : TE) : TE := fun σ H Q => ta σ H fun x H1 => tb σ H1 fun y H2 => r x y H2 Q
def tUn (r : V → Hp → VK → Prop) (ta : TE) : TE := fun σ H Q => ta σ H fun x H1 => r x H1 Q
def rI (C : Int → Int → Prop) (g : Int → Int → V) : R2 := fun x y H Q => ∃ i j, x = .int i ∧ y = .int j ∧ C i j ∧ Q (g i j) H
def rI0 (g : Int → Int → V) : R2 := fun x y H Q => ∃ i j, x = .int i ∧ y = .int j ∧ Q (g i j) H
def rU (g : Int → V) : V → Hp → VK → Prop := fun x H Q => ∃ i, x = .int i ∧ Q (g i) H
section
variable {X : Cx} {a b c : Expr} {ta tb tc : TE} {pos : Pos}
theorem binT (ha : PE X a ta) (hb : PE X b tb) {pins : List (Addr × Obj)} {s : Shared} {σ : St} {H : Hp} {R : V → V → Hp → Prop} (I : Inv X pins σ H s)
    (h : ta σ H fun x H1 => tb σ H1 fun y H2 => R x y H2) {Q : Value → Shared → Prop} {f : Value → Value → Sem Value}
    (hf : ∀ v u s2 x y H2, Inv X pins σ H2 s2 → RelV x v → RelV y u → R x y H2 → wpAny (model X.prog X.w) X.A (f v u) Q X.xe s2) :
    wpAny (model X.prog X.w) X.A (eval a X.env) (fun v s₁ => wpAny (model X.prog X.w) X.A (eval b X.env) (fun u s₂ => wpAny (model X.prog X.w) X.A (f v u) Q X.xe s₂) X.xe s₁) X.xe s := by
  refine thn (ha pins s σ H _ I h) fun v s1 ⟨x, H1, I1, r1, q1⟩ => ?_
  refine thn (hb pins s1 σ H1 _ I1 q1) fun u s2 ⟨y, H2, I2, r2, q2⟩ => ?_
  exact hf v u s2 x y H2 I2 r1 r2 q2
theorem pe_op {op : Operator} {r : R2} (ho : OpR X (binaryOp op) r) (ha : PE X a ta) (hb : PE X b tb) : PE X (.BinOp a op b pos) (tOp r ta tb) := by
  intro pins s σ H Q I h
  exact wpAny_BinOp (binT ha hb I h fun v u s2 x y H2 I2 rx ry q => ho pins s2 σ H2 x y v u Q I2 rx ry q)
theorem pe_un {op : UnaryOp} {r : V → Hp → VK → Prop} (ho : UnR X (unaryOp op) r) (ha : PE X a ta) : PE X (.UnaryOp op a pos) (tUn r ta) := by
  intro pins s σ H Q I h
  exact UnaryOp_ (thn (ha pins s σ H _ I h) fun v s1 ⟨x, H1, I1, r1, q1⟩ => ho pins s1 σ H1 x v Q I1 r1 q1)
theorem opI {f : Value → Value → Sem Value} {C : Int → Int → Prop} {g : Int → Int → Int}
    (rule : ∀ (i j : Int) (t u : Tok) (s : Shared) (Q : Value → Shared → Prop) (E : Value → Shared → Prop), C i j → Q (.int (g i j) s.toks) { s with toks := s.toks + 1 } → wpAny (model X.prog X.w) X.A (f (.int i t) (.int j u)) Q E s) :
    OpR X f (rI C fun i j => .int (g i j)) := by
  intro pins s σ H x y v u Q I rx ry h
  obtain ⟨i, j, rfl, rfl, hc, q⟩ := h
  obtain ⟨t, rfl⟩ := rx
  obtain ⟨t', rfl⟩ := ry
  exact rule i j t t' s _ _ hc ⟨.int (g i j), H, I.tok _, ⟨_, rfl⟩, q⟩
theorem opI0 {f : Value → Value → Sem Value} {g : Int → Int → Int}
    (rule : ∀ (i j : Int) (t u : Tok) (s : Shared) (Q : Value → Shared → Prop) (E : Value → Shared → Prop), Q (.int (g i j) s.toks) { s with toks := s.toks + 1 } → wpAny (model X.prog X.w) X.A (f (.int i t) (.int j u)) Q E s) :
    OpR X f (rI0 fun i j => .int (g i j)) := by
  intro pins s σ H x y v u Q I rx ry h
  obtain ⟨i, j, rfl, rfl, q⟩ := h
  obtain ⟨t, rfl⟩ := rx
  obtain ⟨t', rfl⟩ := ry
  exact rule i j t t' s _ _ ⟨.int (g i j), H, I.tok _, ⟨_, rfl⟩, q⟩
theorem opB0 {f : Value → Value → Sem Value} {g : Int → Int → Bool}
    (rule : ∀ (i j : Int) (t u : Tok) (s : Shared) (Q : Value → Shared → Prop) (E : Value → Shared → Prop), Q (.bool (g i j)) s → wpAny (model X.prog X.w) X.A (f (.int i t) (.int j u)) Q E s) :
    OpR X f (rI0 fun i j => .bl (g i j)) := by
  intro pins s σ H x y v u Q I rx ry h
  obtain ⟨i, j, rfl, rfl, q⟩ := h
  obtain ⟨t, rfl⟩ := rx
  obtain ⟨t', rfl⟩ := ry
  exact rule i j t t' s _ _ ⟨.bl (g i j), H, I, rfl, q⟩
def CDiv (i j : Int) : Prop := 0 < j ∧ j < 1073741824
def CPow (i j : Int) : Prop := 0 ≤ j ∧ j ≤ 1000000 ∧ i.natAbs < 2 ^ 64
theorem two_pow_nn (k : Nat) : (0 : Int) ≤ 2 ^ k := by
  rw [two_pow_cast]
  exact Int.natCast_nonneg _
theorem op_add : OpR X (binaryOp .Add) (rI0 fun i j => .int (i + j)) := opI0 fun _ _ _ _ _ _ _ q => add_int q
theorem op_sub : OpR X (binaryOp .Sub) (rI0 fun i j => .int (i - j)) := opI0 fun _ _ _ _ _ _ _ q => sub_int q
theorem op_mod : OpR X (binaryOp .Mod) (rI (fun _ j => 0 < j) fun i j => .int (i % j)) := opI fun i j _ _ _ _ _ hc q => by
  have h1 : (0 : Int) < j := hc
  exact mod_int' (by omega) (by rw [Int.fmod_eq_emod_of_nonneg i (by omega)]; exact q)
theorem op_pow : OpR X (binaryOp .Pow) (rI CPow fun i j => .int (i ^ j.toNat)) := opI fun _ _ _ _ _ _ _ hc q => pow_int_small hc.1 hc.2.1 hc.2.2 q
theorem op_shl : OpR X (binaryOp .LShift) (rI CPow fun i j => .int (i * 2 ^ j.toNat)) := opI fun _ _ _ _ _ _ _ hc q => lshift_int_small hc.1 hc.2.1 hc.2.2 q
theorem op_shr : OpR X (binaryOp .RShift) (rI (fun _ j => 0 ≤ j) fun i j => .int (i / 2 ^ j.toNat)) := opI fun i j _ _ _ _ _ hc q =>
  rshift_int hc (by rw [Int.fdiv_eq_ediv_of_nonneg i (two_pow_nn _)]; exact q)
theorem op_and : OpR X (binaryOp .BitAnd) (rI0 fun i j => .int (Builtin.bitAnd i j)) := opI0 fun _ _ _ _ _ _ _ q => and_int q
theorem unI {f : Value → Sem Value} {g : Int → Int}
    (rule : ∀ (i : Int) (t : Tok) (s : Shared) (Q : Value → Shared → Prop) (E : Value → Shared → Prop), Q (.int (g i) s.toks) { s with toks := s.toks + 1 } → wpAny (model X.prog X.w) X.A (f (.int i t)) Q E s) :
    UnR X f (rU fun i => .int (g i)) := by
  intro pins s σ H x v Q I rx h
  obtain ⟨i, rfl, q⟩ := h
  obtain ⟨t, rfl⟩ := rx
  exact rule i t s _ _ ⟨.int (g i), H, I.tok _, ⟨_, rfl⟩, q⟩
theorem un_neg : UnR X (unaryOp .USub) (rU fun i => .int (-i)) := unI fun _ _ _ _ _ q => neg_int q
end
theorem dec_bl {i j : Bool} : decide (V.bl i = V.bl j) = (i == j) := by
  rw [Bool.eq_iff_iff]
  simp
section
variable {X : Cx} {a b c : Expr} {ta tb tc : TE} {pos : Pos}
theorem fin_bl {pins : List (Addr × Obj)} {σ : St} {H : Hp} {s : Shared} {Q : VK} {k k' : Bool} (I : Inv X pins σ H s) (q : Q (.bl k) H) (e : k = k') : EP X pins σ Q (.bool k') s := by
  subst e
  exact ⟨.bl k, H, I, rfl, q⟩
theorem op_lt : OpR X (compareOp .Lt) (rI0 fun i j => .bl (decide (i < j))) := opB0 fun _ _ _ _ _ _ _ q => lt_int q
theorem op_gt : OpR X (compareOp .Gt) (rI0 fun i j => .bl (decide (j < i))) := opB0 fun _ _ _ _ _ _ _ q => gt_int q
theorem op_lt_str : OpR X (compareOp .Lt) (fun x y H Q => ∃ i j, x = .str i ∧ y = .str j ∧ Q (.bl (decide (i.cps.toList < j.cps.toList))) H) := by
  intro pins s σ H x y v u Q I rx ry h
  obtain ⟨i, j, rfl, rfl, q⟩ := h
  obtain ⟨t, rfl⟩ := rx
  obtain ⟨t', rfl⟩ := ry
  exact lt_str (fin_bl I q rfl)
theorem op_in_str : OpR X (compareOp .In) (fun x y H Q => ∃ i j, x = .str i ∧ y = .str j ∧ Q (.bl (!(Builtin.Str.occurrences j i 0 j.length 1).isEmpty)) H) := by
  intro pins s σ H x y v u Q I rx ry h
  obtain ⟨i, j, rfl, rfl, q⟩ := h
  obtain ⟨t, rfl⟩ := rx
  obtain ⟨t', rfl⟩ := ry
  exact in_str (fin_bl I q rfl)
theorem op_isN : OpR X (compareOp .Is) (fun x y H Q => y = .non ∧ Q (.bl (decide (x = .non))) H) := by
  intro pins s σ H x y v u Q I rx ry h
  obtain ⟨rfl, q⟩ := h
  cases ry
  refine is_none_gen (fin_bl I q ?_)
  cases x <;> first
    | (cases rx; rfl)
    | (obtain ⟨t, rfl⟩ := rx; rfl)
theorem op_notin_str : OpR X (compareOp .NotIn) (fun x y H Q => ∃ i j, x = .str i ∧ y = .str j ∧ Q (.bl (!(!(Builtin.Str.occurrences j i 0 j.length 1).isEmpty))) H) := by
  intro pins s σ H x y v u Q I rx ry h
  obtain ⟨i, j, rfl, rfl, q⟩ := h
  obtain ⟨t, rfl⟩ := rx
  obtain ⟨t', rfl⟩ := ry
  exact notIn_str (fin_bl I q rfl)
theorem OpR.or {f : Value → Value → Sem Value} {r r' : R2} (h : OpR X f r) (h' : OpR X f r') : OpR X f (fun x y H Q => r x y H Q ∨ r' x y H Q) := by
  intro pins s σ H x y v u Q I rx ry q
  rcases q with q | q
  · exact h pins s σ H x y v u Q I rx ry q
  · exact h' pins s σ H x y v u Q I rx ry q
theorem pe_cmpR {op : CmpOp} {r : R2} (ho : OpR X (compareOp op) r) (ha : PE X a ta) (hb : PE X b tb) (hm : behindInMarks op b = false) : PE X (.Compare a [op] [b] pos) (tOp r ta tb) := by
  intro pins s σ H Q I h
  exact wpAny_Compare1 (binT ha hb I h fun v u s2 x y H2 I2 rx ry q => ho pins s2 σ H2 x y v u Q I2 rx ry q) hm
def tTest (t : TE) : TT := fun σ H Q => t σ H fun x H' => ∃ k, x = .bl k ∧ Q k H'
theorem pt_cmpR {op : CmpOp} {r : R2} (ho : OpR X (compareOp op) r) (ha : PE X a ta) (hb : PE X b tb) (hm : behindInMarks op b = false) : PT X (.Compare a [op] [b] pos) (tTest (tOp r ta tb)) := by
  intro pins s σ H Q I h
  refine wpAny_isTrue_Compare1 (thn (ha pins s σ H _ I h) fun v s1 ⟨x, H1, I1, r1, q1⟩ => thn (hb pins s1 σ H1 _ I1 q1) fun u s2 ⟨y, H2, I2, r2, q2⟩ =>
    thn (ho pins s2 σ H2 x y v u _ I2 r1 r2 q2) fun c s3 ⟨z, H3, I3, r3, k, e, q3⟩ => ?_) hm
  subst e
  cases r3
  exact wpAny_truthy_bool ⟨H3, I3, q3⟩
theorem isEmpty_kv {κ : Type} {kvs : List (κ × V)} {vs : List (κ × Value)} (r : KV kvs vs) : (!vs.isEmpty) = !kvs.isEmpty := by
  cases r <;> rfl
theorem isEmpty_of {xs : List V} {its : List Value} (r : Vals xs its) : (!its.toArray.isEmpty) = !xs.isEmpty := by
  cases r <;> simp
theorem line63 : (sizeLine : Nat) < 2 ^ 63 := by rw [sizeLine_eq]; decide
theorem op_add_str : OpR X (binaryOp .Add) (fun x y H Q => ∃ i j, x = .str i ∧ y = .str j ∧ i.length + j.length ≤ sizeLine ∧ Q (.str (i ++ j)) H) := by
  intro pins s σ H x y v u Q I rx ry h
  obtain ⟨i, j, rfl, rfl, hz, q⟩ := h
  obtain ⟨t, rfl⟩ := rx
  obtain ⟨t', rfl⟩ := ry
  exact add_str (fun t' tk => ⟨.str (i ++ j), H, I.tok _, ⟨_, rfl⟩, q⟩) hz
theorem vals1 {x : V} {us : List Value} (r : Vals [x] us) : ∃ u, us = [u] ∧ RelV x u := by
  cases r with
  | cons r1 r2 => cases r2; exact ⟨_, rfl, r1⟩
theorem vals2 {x y : V} {us : List Value} (r : Vals [x, y] us) : ∃ u w', us = [u, w'] ∧ RelV x u ∧ RelV y w' := by
  cases r with
  | cons r1 r2 =>
    cases r2 with
    | cons r3 r4 => cases r4; exact ⟨_, _, rfl, r1, r3⟩
theorem call_max2 (hc : X.calm = true) : CallR X (.builtin "max") (fun xs H Q => ∃ i j, xs = [.int i, .int j] ∧ Q (.int (if j > i then j else i)) H) := by
  intro pins s σ H xs us Q I r h
  obtain ⟨i, j, rfl, q⟩ := h
  obtain ⟨u, w', rfl, ⟨t, rfl⟩, ⟨t', rfl⟩⟩ := vals2 r
  refine max_two_ints (I.ok.hd hc) fun h' tk k => ⟨_, H, I.kept k, ?_, q⟩
  by_cases hj : j > i
  · rw [if_pos hj, if_pos hj]; exact ⟨_, rfl⟩
  · rw [if_neg hj, if_neg hj]; exact ⟨_, rfl⟩
theorem call_min2 (hc : X.calm = true) : CallR X (.builtin "min") (fun xs H Q => ∃ i j, xs = [.int i, .int j] ∧ Q (.int (if j < i then j else i)) H) := by
  intro pins s σ H xs us Q I r h
  obtain ⟨i, j, rfl, q⟩ := h
  obtain ⟨u, w', rfl, ⟨t, rfl⟩, ⟨t', rfl⟩⟩ := vals2 r
  refine min_two_ints (I.ok.hd hc) fun h' tk k => ⟨_, H, I.kept k, ?_, q⟩
  by_cases hj : j < i
  · rw [if_pos hj, if_pos hj]; exact ⟨_, rfl⟩
  · rw [if_neg hj, if_neg hj]; exact ⟨_, rfl⟩
def LenV (K : PySem.W.Frag) (x : V) (H : Hp) (n : Nat) : Prop :=
  match x with
  | .str y => y.length ≤ sizeLine ∧ n = y.length
  | .byt y => y.size ≤ sizeLine ∧ n = y.size
  | .ref p => (∃ xs, SqL K H p xs ∧ n = xs.length) ∨ ∃ xs, SqT K H p xs ∧ n = xs.length
  | _ => False
theorem call_len : CallR X (.builtin "len") (fun xs H Q => ∃ x n, xs = [x] ∧ LenV X.K x H n ∧ Q (.int n) H) := by
  intro pins s σ H xs us Q I r h
  obtain ⟨x, n, rfl, e, q⟩ := h
  obtain ⟨u, rfl, rx⟩ := vals1 r
  have hl := line63
  have hs : sizeLine = 16777216 := sizeLine_eq
  cases x with
  | str y =>
    obtain ⟨t, rfl⟩ := rx
    obtain ⟨hy, e'⟩ : y.length ≤ sizeLine ∧ n = y.length := e
    subst e'
    exact len_str (by omega) ⟨.int _, H, I.tok _, ⟨_, rfl⟩, q⟩
  | byt y =>
    obtain ⟨t, rfl⟩ := rx
    obtain ⟨hy, e'⟩ : y.size ≤ sizeLine ∧ n = y.size := e
    subst e'
    exact PySem.W.len_bytes (by omega) ⟨.int _, H, I.tok _, ⟨_, rfl⟩, q⟩
  | ref p =>
    cases rx
    have e' : (∃ xs, SqL X.K H p xs ∧ n = xs.length) ∨ ∃ xs, SqT X.K H p xs ∧ n = xs.length := e
    rcases e' with ⟨xs, hx, e'⟩ | ⟨xs, hx, e'⟩
    · subst e'
      obtain ⟨its, r', pl, hz⟩ := I.list hx
      have hlen := r'.length
      exact Calls.call_len_list pl.isList (by simp only [List.size_toArray]; omega) ⟨.int xs.length, H, I.tok _, ⟨_, by simp only [List.size_toArray]; rw [hlen]⟩, q⟩
    · subst e'
      obtain ⟨its, r', pl, hz⟩ := I.tuple hx
      have hlen := r'.length
      exact len_tuple pl (by simp only [List.size_toArray]; omega) ⟨.int xs.length, H, I.tok _, ⟨_, by simp only [List.size_toArray]; rw [hlen]⟩, q⟩
  | _ => exact (show False from e).elim
theorem call_divmod : CallR X (.builtin "divmod") (fun xs H Q => ∃ i j, xs = [.int i, .int j] ∧ CDiv i j ∧ ∀ p, H p = none → Q (.ref p) (upd H p (.tup [.int (i / j), .int (i % j)]))) := by
  intro pins s σ H xs us Q I r h
  obtain ⟨i, j, rfl, ⟨h1, h2⟩, q⟩ := h
  obtain ⟨u, w', rfl, ⟨t, rfl⟩, ⟨t', rfl⟩⟩ := vals2 r
  refine divmod_int (by omega) ?_ (.inl (PyProof.noPylong_small (by omega)))
  rw [Int.fdiv_eq_ediv_of_nonneg i (by omega), Int.fmod_eq_emod_of_nonneg i (by omega)]
  have hn : H s.heap.objs.size = none := I.hok.fresh (Nat.le_refl _)
  refine ⟨.ref s.heap.objs.size, _, ?_, rfl, q _ hn⟩
  refine I.laid (fun b o e => Heap.get?_push_of_some _ e) (Nat.le_refl _) ⟨by simp only [List.length_cons, List.length_nil]; rw [sizeLine_eq]; decide, [.int (i / j) s.toks, .int (i % j) (s.toks + 1)], .cons ⟨_, rfl⟩ (.cons ⟨_, rfl⟩ .nil), ?_⟩
  exact ⟨_, Heap.get?_push_size s.heap rfl, rfl, ⟨0, rfl⟩, rfl⟩
end
end L2
namespace L2
open PySem PySem.Spec PyProof.Rows
theorem RelO.some_of {v : V} {o : Option Value} (r : RelO (some v) o) : ∃ u, o = some u ∧ RelV v u := by
  cases o with
  | none => exact (show False from r).elim
  | some u => exact ⟨u, rfl, r⟩
end L2
namespace L2
open PySem PySem.Spec PyProof.Rows
structure Room (k : Nat) (A : Around) : Prop where
  hd : A.handled = none
  dp : A.depth + 3 * k + 5 < recursionLimit
  un : A.units + 16 * k + 200 < cLine
theorem Room.mono {j k : Nat} {A : Around} (r : Room k A) (h : j ≤ k) : Room j A := ⟨r.hd, by have := r.dp; omega, by have := r.un; omega⟩
theorem Room.deeper {k : Nat} {A : Around} (r : Room (k + 1) A) (env : Env) : Room k (A.deeper env) :=
  ⟨r.hd, by have := r.dp; show A.depth + 1 + 3 * k + 5 < _; omega, by have := r.un; show A.units + 3 + 16 * k + 200 < _; omega⟩
theorem Room.depth {k : Nat} {A : Around} (r : Room k A) : A.depth < recursionLimit := by have := r.dp; omega
theorem Room.units {k : Nat} {A : Around} (r : Room k A) : A.units + 64 < cLine := by have := r.un; omega
def tNil : TA := fun _ H Q => Q [] H
def tCons (ta : TE) (tr : TA) : TA := fun σ H Q => ta σ H fun x H1 => tr σ H1 fun xs H2 => Q (x :: xs) H2
section
variable {X : Cx} {e : Expr} {es : List Expr} {te : TE} {t : TA} {pos : Pos}
theorem pa_nil : PA X [] tNil := fun _ _ _ _ H Q I h => Calls.spliced_nil ⟨[], H, I, .nil, h⟩
theorem pa_cons (ha : PE X e te) (hr : PA X es t) (hs : starEach (e :: es) X.env = (false, eval e X.env) :: starEach es X.env := by rfl) : PA X (e :: es) (tCons te t) := by
  intro pos pins s σ H Q I h
  rw [hs]
  show wpAny _ _ (spliced ((false, eval e X.env) :: backTo pos (starEach es X.env))) _ _ s
  refine Calls.spliced_cons (thn (ha pins s σ H _ I h) fun u s1 ⟨x, H1, I1, r1, q1⟩ => ?_)
  exact thn (hr pos pins s1 σ H1 _ I1 q1) fun us s2 ⟨xs, H2, I2, r2, q2⟩ => ⟨x :: xs, H2, I2, .cons r1 r2, q2⟩
def tTup (t : TA) : TE := fun σ H Q => t σ H fun xs H1 => xs.length ≤ sizeLine ∧ ∀ p, H1 p = none → Q (.ref p) (upd H1 p (.tup xs))
def tLst (t : TA) : TE := fun σ H Q => t σ H fun xs H1 => xs.length ≤ sizeLine ∧ ∀ p, H1 p = none → Q (.ref p) (upd H1 p (.lst xs))
theorem pe_tup {x1} (h : PA X es t) : PE X (.Tuple es x1 pos) (tTup t) := by
  intro pins s σ H Q I hq
  refine wpAny_Tuple_spliced (thn (h pos pins s σ H _ I hq) fun us s1 ⟨xs, H1, I1, r, z, q⟩ => ⟨by rw [← r.length]; exact z, ?_⟩)
  have hf : H1 s1.heap.objs.size = none := I1.hok.fresh (Nat.le_refl _)
  refine ⟨.ref s1.heap.objs.size, upd H1 s1.heap.objs.size (.tup xs), I1.laid (t' := s1.toks) (fun b u e => Heap.get?_push_of_some _ e) (Nat.le_refl _) ?_, rfl, q _ hf⟩
  exact ⟨z, us, r, TupD.new _ _⟩
theorem pe_lst (h : PA X es t) : PE X (.List es pos) (tLst t) := by
  intro pins s σ H Q I hq
  refine wpAny_List_spliced (thn (h pos pins s σ H _ I hq) fun us s1 ⟨xs, H1, I1, r, z, q⟩ => ⟨by rw [← r.length]; exact z, ?_⟩)
  have hf : H1 s1.heap.objs.size = none := I1.hok.fresh (Nat.le_refl _)
  refine ⟨.ref s1.heap.objs.size, upd H1 s1.heap.objs.size (.lst xs), I1.laid (t' := s1.toks) (fun b u e => Heap.get?_push_of_some _ e) (Nat.le_refl _) ?_, rfl, q _ hf⟩
  exact ⟨z, us, 0, r, Heap.get?_push_size _ rfl⟩
end
abbrev Sp := List V → Hp → VK → XK → Prop
abbrev CXT := List Env → Hp → Shared → XK → Value → Shared → Prop
structure Env0 (P : Program) (w : World) (K : PySem.W.Frag) (mg : Str → Option Value) (base : Heap) (A : Around) (outer : List Env) (s : Shared) (H : Hp) : Prop where
  frames : A.frames = some outer
  mod : Mod K mg base
  bs : ∀ b o, base.get? b = some o → s.heap.get? b = some o ∧ H b = none
  bsz : base.objs.size ≤ s.heap.objs.size
  funs : s.heap.FunFrames base outer
  frf : ∀ b ∈ frs outer, H b = none
  hok : HOk P w H s.heap
  bare : AllBare s.gens
def CE (outer : List Env) (P : Program) (w : World) (H : Hp) (s : Shared) (Q : VK) (u : Value) (s' : Shared) : Prop :=
  ∃ v H', s'.os = s.os ∧ AllBare s'.gens ∧ Un (frs outer) [] H H' s.heap s'.heap ∧ HOk P w H' s'.heap ∧ RelV v u ∧ Q v H'
def CR (CX : CXT) (outer : List Env) (P : Program) (w : World) (H : Hp) (s : Shared) (Q : VK) (E : XK) (r : Result) (s' : Shared) : Prop :=
  match r with
  | .ok (.ret u) => CE outer P w H s Q u s'
  | .ok _ => False
  | .error e => CX outer H s E e s'
structure FnOk (P : Program) (w : World) (K : PySem.W.Frag) (mg : Str → Option Value) (base : Heap) (CX : CXT) (k : Nat) (f : Addr) (fd : FuncData) (ps : List Str) (sp : Sp) : Prop where
  len : ∀ vs H Q E, sp vs H Q E → vs.length = ps.length
  run : ∀ (A : Around) (outer : List Env) (s : Shared) (H : Hp) (args : Args) (us : List Value) (vs : List V) (Q : VK) (E : XK), Room k A → Env0 P w K mg base A outer s H → BindsTo s fd args (ps.zip us) → Vals vs us → sp vs H Q E →
    codeAny (model P w) A (.call (.ref f) args) (CR CX outer P w H s Q E) s
section
variable {X : Cx} {pins : List (Addr × Obj)} {σ : St} {H : Hp} {s s' : Shared}
theorem Inv.env0 (I : Inv X pins σ H s) : Env0 X.prog X.w X.K X.mg X.base X.A X.stack s H :=
  ⟨I.ok.frames, I.ok.mod, I.bs, Nat.le_trans I.ok.bsz I.sz, I.stack, I.stkFree, I.hok, I.bare⟩
theorem Inv.after {Q : VK} {u : Value} (I : Inv X pins σ H s) (h : CE X.stack X.prog X.w H s Q u s') : EP X pins σ Q u s' := by
  obtain ⟨v, H', os, bare, un, hok, r, q⟩ := h
  obtain ⟨hh, g, d, t, os'⟩ := s'
  obtain rfl : os' = s.os := os
  exact ⟨v, H', I.call (h' := hh) (g' := g) (d' := d) (t' := t) (ch := []) un hok bare (fun b z => absurd z (by simp)), r, q⟩
end
def tCall (sp : Sp) (dvs : List V) (E : XK) (t : TA) : TE := fun σ H Q => t σ H fun vs H1 => sp (vs ++ dvs) H1 Q E
def Binds (K : PySem.W.Frag) (fd : FuncData) (ps : List Str) (ds : List Value) : Prop :=
  ∀ (s : Shared) (us : List Value), K.In s.heap → (us ++ ds).length = ps.length → BindsTo s fd ⟨us, []⟩ (ps.zip (us ++ ds))
theorem Binds.all {K : PySem.W.Frag} {fd : FuncData} {ps : List Str} (h : ∀ us : List Value, us.length = ps.length → bindArgs fd ⟨us, []⟩ = pure (ps.zip us)) : Binds K fd ps [] := fun s us _ hl => by
  rw [List.append_nil] at hl ⊢
  exact .of_eq (h us hl)
def Passes (CX : CXT) (X : Cx) (E : XK) : Prop := ∀ (pins : List (Addr × Obj)) (σ : St) (H : Hp) (s : Shared) (e : Value) (s' : Shared), Inv X pins σ H s → CX X.stack H s E e s' → X.xe e s'
section
variable {X : Cx} {CX : CXT} {k : Nat} {f C : Addr} {fd : FuncData} {ps : List Str} {sp : Sp} {dvs : List V} {ds : List Value} {E : XK} {x m : Str} {p pos apos : Pos} {e o : Expr} {es : List Expr} {ta : TE} {t : TA}
theorem run_fn {pins : List (Addr × Obj)} {σ : St} {H : Hp} {s : Shared} {Q : VK} {us : List Value} {vs : List V} (F : FnOk X.prog X.w X.K X.mg X.base CX k f fd ps sp) (hr : Room k X.A) (hb : Binds X.K fd ps ds) (hd : Vals dvs ds) (hx : Passes CX X E)
    (I : Inv X pins σ H s) (r : Vals vs us) (h : sp (vs ++ dvs) H Q E) : wpAny (model X.prog X.w) X.A (call (.ref f) us) (EP X pins σ Q) X.xe s := by
  have r2 : Vals (vs ++ dvs) (us ++ ds) := r.append hd
  have hl : (us ++ ds).length = ps.length := by rw [← r2.length]; exact F.len _ _ _ _ h
  refine wpAny_call (codeAny_mono (F.run X.A X.stack s H ⟨us, []⟩ (us ++ ds) (vs ++ dvs) Q E hr I.env0 (hb s us I.kIn hl) r2 h) fun r s' hq => ?_)
  cases r with
  | error e => exact hx pins σ H s e s' I hq
  | ok fl =>
    cases fl with
    | ret u => exact I.after hq
    | next => exact False.elim hq
    | brk => exact False.elim hq
    | cont => exact False.elim hq
theorem pe_call (F : FnOk X.prog X.w X.K X.mg X.base CX k f fd ps sp) (hr : Room k X.A) (hg : Gl X x) (hm : X.mg x = some (.ref f)) (hk : PySem.W.keepIn X.K (.ref f) = true) (hb : Binds X.K fd ps ds) (hd : Vals dvs ds) (hx : Passes CX X E)
    (ha : PA X (e :: es) t) (hdb : (x == ("__debug__" : Str)) = false := by decide) (he : starEach (e :: es) X.env = (false, eval e X.env) :: starEach es X.env := by rfl) (hpl : (backTo pos (starEach es X.env)).any (·.1) = false := by rfl) :
    PE X (.Call (.Name x p) (e :: es) [] pos) (tCall sp dvs E t) := by
  intro pins s σ H Q I h
  refine wpAny_Call_Name_kw (ld_glob I hg hm ?_ hdb)
  refine PySem.W.callWith_K (h₀ := X.base) I.ok.mod.kin hk (thn (ha pos pins s σ H _ I h) fun us s1 ⟨vs, H1, I1, r, q⟩ => ⟨I1.kIn, ?_⟩) he hpl
  exact run_fn F hr hb hd hx I1 r q
end
structure FnScope (N P : List Str) (sc : Scope) : Prop where
  kind : sc.kind = .function
  co : sc.isCoroutine = false
  gen : sc.isGenerator = false
  nd : N.Nodup
  pre : N.take P.length = P
  par : ∀ x ∈ P, sc.names.lookup x = some .local ∨ sc.names.lookup x = some .cell
  nofree : ∀ y ∈ sc.names, y.2 ≠ .free
theorem bindL_out {kindOf : Str → Option NameKind} {x : Str} : ∀ {binds : List (Str × Value)} {m : Str → Option Value}, (∀ v, (x, v) ∉ binds) → bindL kindOf binds m x = m x
  | [], _, _ => rfl
  | (n, v) :: r, m, h => by
    unfold bindL
    rw [bindL_out fun w hw => h w (List.mem_cons_of_mem _ hw)]
    split
    · have : x ≠ n := by rintro rfl; exact h v List.mem_cons_self
      simp [this]
    · rfl
theorem bindC_out {kindOf : Str → Option NameKind} {x : Str} : ∀ {binds : List (Str × Value)} {m : Str → Option Value}, (∀ v, (x, v) ∉ binds) → bindC kindOf binds m x = m x
  | [], _, _ => rfl
  | (n, v) :: r, m, h => by
    unfold bindC
    rw [bindC_out fun w hw => h w (List.mem_cons_of_mem _ hw)]
    split
    · rfl
    · have : x ≠ n := by rintro rfl; exact h v List.mem_cons_self
      simp [this]
theorem bindL_get {kindOf : Str → Option NameKind} {x : Str} {v : Value} : ∀ {P : List Str} {vs : List Value} {i : Nat} {m : Str → Option Value}, P.Nodup → P[i]? = some x → vs[i]? = some v → kindOf x = some .local →
    bindL kindOf (P.zip vs) m x = some v
  | [], _, _, _, _, h, _, _ => by simp at h
  | _ :: _, [], _, _, _, _, h, _ => by simp at h
  | p :: P, w :: vs, 0, m, nd, h1, h2, hk => by
    simp at h1 h2; subst h1; subst h2
    show bindL kindOf ((p, w) :: P.zip vs) m p = _
    unfold bindL
    rw [bindL_out fun v hv => (List.nodup_cons.mp nd).1 (List.of_mem_zip hv).1, if_pos hk]
    simp
  | p :: P, w :: vs, i + 1, m, nd, h1, h2, hk => by
    show bindL kindOf ((p, w) :: P.zip vs) m x = _
    unfold bindL
    exact bindL_get (i := i) (List.nodup_cons.mp nd).2 (by simpa using h1) (by simpa using h2) hk
theorem bindC_get {kindOf : Str → Option NameKind} {x : Str} {v : Value} : ∀ {P : List Str} {vs : List Value} {i : Nat} {m : Str → Option Value}, P.Nodup → P[i]? = some x → vs[i]? = some v → kindOf x ≠ some .local →
    bindC kindOf (P.zip vs) m x = some v
  | [], _, _, _, _, h, _, _ => by simp at h
  | _ :: _, [], _, _, _, _, h, _ => by simp at h
  | p :: P, w :: vs, 0, m, nd, h1, h2, hk => by
    simp at h1 h2; subst h1; subst h2
    show bindC kindOf ((p, w) :: P.zip vs) m p = _
    unfold bindC
    rw [bindC_out fun v hv => (List.nodup_cons.mp nd).1 (List.of_mem_zip hv).1, if_neg hk]
    simp
  | p :: P, w :: vs, i + 1, m, nd, h1, h2, hk => by
    show bindC kindOf ((p, w) :: P.zip vs) m x = _
    unfold bindC
    exact bindC_get (i := i) (List.nodup_cons.mp nd).2 (by simpa using h1) (by simpa using h2) hk
def start (N : List Str) (vs : List V) : St := vs.map some ++ List.replicate (N.length - vs.length) none
def cxOf (CX : CXT) (P : Program) (w : World) (K : PySem.W.Frag) (mg : Str → Option Value) (base : Heap) (N : List Str) (qual : Str) (scope : Scope) (f : Addr) (cd : Value) (A : Around) (outer : List Env) (s : Shared) (H : Hp) (E : XK) : Cx where
  prog := P
  w := w
  K := K
  mg := mg
  base := base
  A := A.deeper (envOfC qual scope s.heap.objs.size f cd)
  N := N
  s₀ := s
  H₀ := H
  env := envOfC qual scope s.heap.objs.size f cd
  outer := outer
  stack := envOfC qual scope s.heap.objs.size f cd :: outer
  ex := []
  calm := true
  fn := fun _ => true
  pn := []
  xe := fun e s' => wpAny (model P w) (A.deeper (envOfC qual scope s.heap.objs.size f cd)) (leaving (envOfC qual scope s.heap.objs.size f cd) e) (fun _ s'' => CX outer H s E e s'') (fun e' s'' => CX outer H s E e' s'') s'
theorem cell_has {sc : Scope} {n : Nat} {x : Str} (h : sc.names.lookup x = some .cell) : ∃ c, (cellsFrom n sc.names []).lookup x = some c := by
  have q := PySem.W.cellsFrom_some sc.names n [] (.inl h)
  exact Option.isSome_iff_exists.mp q
theorem inv_start {CX : CXT} {P : Program} {w : World} {K : PySem.W.Frag} {mg : Str → Option Value} {base : Heap} {N ps : List Str} {qual : Str} {scope : Scope} {f : Addr} {cd : Value} {A : Around} {outer : List Env} {s s1 : Shared} {H : Hp} {E : XK} {us : List Value} {vs : List V}
    (S : FnScope N ps scope) (hd : A.handled = none) (e0 : Env0 P w K mg base A outer s H) (hl : vs.length = ps.length) (r : Vals vs us)
    (x : InCallC s s.heap.objs.size (bindL (envOfC qual scope s.heap.objs.size f cd).kindOf (ps.zip us) fun _ => none) (cellsFrom (s.heap.objs.size + 1) scope.names []) (bindC (envOfC qual scope s.heap.objs.size f cd).kindOf (ps.zip us) fun _ => none) s1) :
    Inv (cxOf CX P w K mg base N qual scope f cd A outer s H E) [] (start N vs) H s1 := by
  have hpl : ps.length ≤ N.length := by have := congrArg List.length S.pre; rw [List.length_take] at this; omega
  obtain ⟨h1, tk, rfl, hk⟩ := x.done
  have noA : ∀ b : Addr, b ∉ (cxOf CX P w K mg base N qual scope f cd A outer s H E).ex := fun b z => absurd (show b ∈ ([] : List Addr) from z) (by simp)
  refine ⟨⟨e0.mod, S.kind, rfl, rfl, Nat.le_refl _, fun y z c h1 h2 => ?_, fun y hy => ?_, fun y c _ h => ?_, fun _ => hd, Around.frames_deeper e0.frames, .inr ⟨rfl, rfl⟩, fun b z => absurd z (noA b), e0.bs, e0.bsz, fun b _ _ => noA b, fun b z => absurd z (noA b), e0.funs, e0.frf⟩,
    rfl, e0.bare, Un.kept hk, ⟨_, x.toInCall.ns, fun i y v h1 h2 h3 => ?_⟩, fun y c h => ⟨_, x.cell y c h⟩, e0.hok.fresh (Nat.le_refl _), fun y c h => ?_, fun p hp => absurd (show p ∈ ([] : List (Addr × Obj)) from hp) (by simp), e0.hok.kept hk, ?_⟩
  · exact name_of_addr x.apart (PySem.mem_of_lookup h1) (PySem.mem_of_lookup h2)
  · have hy : scope.names.lookup y = some .cell ∨ scope.names.lookup y = some .free := hy
    rcases hy with hy | hy
    · exact cell_has hy
    · exact absurd rfl (S.nofree _ (PySem.mem_of_lookup hy))
  · exact Nat.le_of_lt (x.above y c (PySem.mem_of_lookup h))
  · have hi : i < vs.length := by
      unfold start at h2
      by_cases hi : i < vs.length
      · exact hi
      · rw [List.getElem?_append_right (by simpa using hi)] at h2
        rw [List.getElem?_replicate] at h2
        split at h2 <;> cases h2
    have ha : vs[i]? = some v := by
      unfold start at h2
      rw [List.getElem?_append_left (by simpa using hi), List.getElem?_map] at h2
      cases e : vs[i]? with
      | none => rw [e] at h2; cases h2
      | some a => rw [e] at h2; cases h2; rfl
    obtain ⟨u, hu, rv⟩ := r.get ha
    have hp : ps[i]? = some y := by
      rw [← S.pre, List.getElem?_take_of_lt (by omega)]; exact h1
    have ndP : ps.Nodup := by rw [← S.pre]; exact S.nd.sublist (List.take_sublist _ _)
    refine ⟨u, rv, ?_⟩
    rcases S.par y (List.mem_of_getElem? hp) with k | k
    · exact .inl ⟨k, bindL_get ndP hp hu k⟩
    · obtain ⟨c, e⟩ := cell_has (n := s.heap.objs.size + 1) k
      refine .inr ⟨.inl k, c, e, ?_⟩
      have q := x.cell y c e
      rw [bindC_get ndP hp hu (by show scope.names.lookup y ≠ _; rw [k]; decide)] at q
      exact q
  · exact e0.hok.fresh (Nat.le_of_lt (x.above y c (PySem.mem_of_lookup h)))
  · unfold start
    show _ = N.length
    rw [List.length_append, List.length_map, List.length_replicate]
    omega
theorem fn_of {CX : CXT} {P : Program} {w : World} {K : PySem.W.Frag} {mg : Str → Option Value} {base : Heap} {k : Nat} {f : Addr} {name qual : Str} {params : Arguments} {body : List Stmt} {scope : Scope} {dV kV doc pm cdv ct oc : Value} {an od : Option Addr}
    {osl : Array (Option Value)} {N ps : List Str} {sp : Sp} (lk : K.lookup f = some ⟨oc, od, .func (PySem.W.fnOf name qual params body scope dV kV doc pm an cdv ct), osl⟩) (hcd : PySem.W.codeIn K cdv qual = true) (S : FnScope N ps scope)
    (len : ∀ vs H Q E, sp vs H Q E → vs.length = ps.length)
    (hbody : ∀ (A : Around) (outer : List Env) (s : Shared) (H : Hp) (vs : List V) (Q : VK) (E : XK), Room k (A.deeper (envOfC qual scope s.heap.objs.size f cdv)) → sp vs H Q E →
      ∃ t, PSs (cxOf CX P w K mg base N qual scope f cdv A outer s H E) body t ∧ t { nx := fun _ H' => Q .non H', rt := Q } (start N vs) H) :
    FnOk P w K mg base CX (k + 1) f (PySem.W.fnOf name qual params body scope dV kV doc pm an cdv ct) ps sp := by
  refine ⟨len, fun A outer s H args us vs Q E hr e0 hb r hsp => ?_⟩
  have hl := len _ _ _ _ hsp
  have KX : K.In s.heap := e0.mod.kin.keeps fun b o e => (e0.bs b o e).1
  have lim : s.heap.NoLimit := e0.mod.nolimit.keeps fun b o e => (e0.bs b o e).1
  have hkind : ∀ y ∈ ps.zip us, scope.names.lookup y.1 = some .local ∨ (scope.names.lookup y.1 = some .cell ∧ ((cellsFrom (s.heap.objs.size + 1) scope.names []).lookup y.1).isSome = true) := fun ⟨n, v⟩ hy => by
    rcases S.par n (List.of_mem_zip hy).1 with q | q
    · exact .inl q
    · exact .inr ⟨q, PySem.W.cellsFrom_some _ _ _ (.inl q)⟩
  refine codeAny_call_function hr.depth (KX _ _ lk) rfl S.co S.gen rfl (PySem.W.codeRec_of KX hcd) (hb _ _ _ _ ?_)
  refine wpAny_newFunctionEnv_cells S.kind hkind fun env he s1 x => ?_
  subst he
  refine ⟨lim.keeps x.toInCall.keep, codeAny_func ?_⟩
  obtain ⟨t, ht, hq⟩ := hbody A outer s H vs Q E (hr.deeper _) hsp
  have I : Inv (cxOf CX P w K mg base N qual scope f cdv A outer s H E) [] (start N vs) H s1 := inv_start S hr.hd e0 hl r x
  refine wpAny_mono (ht [] s1 (start N vs) H _ I hq) (fun fl s' hs => ?_) fun e s' hs => hs
  have fin : ∀ {σ' : St} {H' : Hp} {v : V} {u : Value}, Inv (cxOf CX P w K mg base N qual scope f cdv A outer s H E) [] σ' H' s' → RelV v u → Q v H' → CE outer P w H s Q u s' :=
    fun {σ' H' v u} J rv q => ⟨v, H', J.os, J.bare, J.base, J.hok, rv, q⟩
  cases fl with
  | ret u =>
    obtain ⟨v, σ', H', J, rv, q⟩ := hs
    exact fin J rv q
  | next =>
    obtain ⟨σ', H', J, q⟩ := hs
    exact fin (v := V.non) (u := Value.none) J rfl q
  | brk =>
    obtain ⟨_, _, _, q⟩ := hs
    exact False.elim q
  | cont =>
    obtain ⟨_, _, _, q⟩ := hs
    exact False.elim q
end L2
namespace L2
open PySem PySem.Spec PyProof.Rows
section
variable {X : Cx} {x : Str} {p pos : Pos} {e : Expr} {es : List Expr} {t : TA} {id T : String} {r : List V → Hp → VK → Prop}
def tCB (r : List V → Hp → VK → Prop) (t : TA) : TE := fun σ H Q => t σ H fun vs H1 => r vs H1 Q
theorem pe_callB (hc : CallR X (.builtin id) r) (hg : Gl X x) (hm : X.mg x = none) (hv : bootBuiltins x = some (.builtin id)) (ha : PA X (e :: es) t) (hn : x ≠ "__name__" := by decide) (hdb : (x == ("__debug__" : Str)) = false := by decide)
    (he : starEach (e :: es) X.env = (false, eval e X.env) :: starEach es X.env := by rfl) (hpl : (backTo pos (starEach es X.env)).any (·.1) = false := by rfl) : PE X (.Call (.Name x p) (e :: es) [] pos) (tCB r t) := by
  intro pins s σ H Q I h
  refine wpAny_Call_Name_kw (ld_blt I hg hm hv ?_ hn hdb)
  exact PyProof.Rows.callWith_builtin1 (thn (ha pos pins s σ H _ I h) fun us s1 ⟨vs, H1, I1, r1, q1⟩ => hc pins s1 σ H1 vs us Q I1 r1 q1) he hpl
theorem pe_callTy (hc : CallR X (.type T) r) (hg : Gl X x) (hm : X.mg x = none) (hv : bootBuiltins x = some (.type T)) (ha : PA X (e :: es) t) (hn : x ≠ "__name__" := by decide) (hdb : (x == ("__debug__" : Str)) = false := by decide)
    (he : starEach (e :: es) X.env = (false, eval e X.env) :: starEach es X.env := by rfl) (hpl : (backTo pos (starEach es X.env)).any (·.1) = false := by rfl) : PE X (.Call (.Name x p) (e :: es) [] pos) (tCB r t) := by
  intro pins s σ H Q I h
  refine wpAny_Call_Name_kw (ld_blt I hg hm hv ?_ hn hdb)
  exact PyProof.Rows.callWith_type1 (thn (ha pos pins s σ H _ I h) fun us s1 ⟨vs, H1, I1, r1, q1⟩ => hc pins s1 σ H1 vs us Q I1 r1 q1) he hpl
end
end L2
namespace HT
open PySem PyProof.Rows
section
variable {prog : Program} {w : World} {A : Around} {E : Value → Shared → Prop} {s : Shared}
theorem cat_tup {t b : Addr} {vs ws : List Value} {Q : Value → Shared → Prop} (ht : IsTup s.heap t vs.toArray) (hb : IsTup s.heap b ws.toArray) (hv : vs ≠ [])
    (h1 : ws = [] → Q (.ref t) s) (h2 : ws ≠ [] → Q (.ref s.heap.objs.size) { s with heap := s.heap.push { cls := .type "tuple", data := .seq (vs ++ ws).toArray } })
    (hsz : vs.length + ws.length ≤ sizeLine) : wpAny (model prog w) A (binaryOp .Add (.ref t) (.ref b)) Q E s := by
  obtain ⟨⟨cls, dd, data, sl⟩, ho, hc, n, hd⟩ := id ht
  obtain ⟨⟨cls2, dd2, data2, sl2⟩, ho2, hc2, n2, hd2⟩ := id hb
  simp only at hc hd hc2 hd2
  subst hc hd hc2 hd2
  have e : vs.toArray ++ ws.toArray = (vs ++ ws).toArray := by simp
  by_cases hw : ws = []
  · exact concat_meets ⟨_, ho, rfl⟩ ⟨_, ho2, rfl⟩ noFill_tuple_add seq_tuple_add PySem.F.slot_tuple_add PySem.F.entry_tuple_add (PySem.F.args_tuple_add_2 _ _)
      (tuple_addW1 t b vs.toArray ws.toArray n n2 dd dd2 sl sl2 (by simpa using hv) (by simp [hw])) ⟨ho, ho2, h1 hw⟩
  · refine concat_meets ⟨_, ho, rfl⟩ ⟨_, ho2, rfl⟩ noFill_tuple_add seq_tuple_add PySem.F.slot_tuple_add PySem.F.entry_tuple_add (PySem.F.args_tuple_add_2 _ _)
      (tuple_addW2 t b vs.toArray ws.toArray n n2 dd dd2 sl sl2 (by simpa using hv) (by simpa using hw) (by rw [List.size_toArray, List.size_toArray]; exact hsz)) ⟨ho, ho2, ?_⟩
    rw [e]
    exact h2 hw
def sIx (n d : Nat) : Option Int → Nat
  | none => d
  | some v => if v < 0 then (v + (n : Int)).toNat else min v.toNat n
theorem sIx_le (n d : Nat) (hd : d ≤ n) (o : Option Int) : sIx n d o ≤ n := by
  cases o with
  | none => exact hd
  | some v =>
    show (if v < 0 then (v + (n : Int)).toNat else min v.toNat n) ≤ n
    by_cases hv : v < 0
    · rw [if_pos hv]; omega
    · rw [if_neg hv]; exact Nat.min_le_right _ _
theorem clip_eq (v : Int) (n d : Nat) : (if v < 0 then max (v + (n : Int)) 0 else min v (n : Int)) = ((sIx n d (some v) : Nat) : Int) := by
  show (if v < 0 then max (v + (n : Int)) 0 else min v (n : Int)) = (((if v < 0 then (v + (n : Int)).toNat else min v.toNat n) : Nat) : Int)
  by_cases hv : v < 0
  · simp only [if_pos hv]; omega
  · simp only [if_neg hv]; omega
theorem adjust_gen (lo hi : Option Int) (n : Nat) : Builtin.Slice.sliceAdjust lo hi 1 (n : Int) = (((sIx n 0 lo : Nat) : Int), ((sIx n n hi : Nat) : Int)) := by
  have h1 : ¬ ((1 : Int) < 0) := by omega
  unfold Builtin.Slice.sliceAdjust
  simp only [h1, if_false]
  refine Prod.ext ?_ ?_
  · cases lo with
    | none => rfl
    | some v => exact clip_eq v n 0
  · cases hi with
    | none => rfl
    | some v => exact clip_eq v n n
theorem places_gen (i j : Nat) : Builtin.Slice.slicePlaces (i : Int) (j : Int) 1 = j - i := by
  unfold Builtin.Slice.slicePlaces
  have h1 : (1 : Int) > 0 := by omega
  simp only [h1, if_true, Int.ediv_one]
  split <;> omega
theorem slicePart_ {v : Value} {o : Option Int} {Q : Option Int → Shared → Prop} (p : IsPart v o) (h : Q o s) : wpAny (model prog w) A (Builtin.Slice.slicePartIndex v) Q E s := by
  cases p with
  | none => exact slicePart_none h
  | int i t => exact slicePart_int h
theorem sliceApplied_gen {sl : Addr} {vl vu : Value} {lo hi : Option Int} {n : Nat} {Q : Int × Int × Nat → Shared → Prop} (hs : s.heap.IsSliceOf sl vl vu .none) (pl : IsPart vl lo) (pu : IsPart vu hi)
    (h : Q (((sIx n 0 lo : Nat) : Int), 1, sIx n n hi - sIx n 0 lo) s) : wpAny (model prog w) A (Builtin.Slice.sliceApplied (.ref sl) (pure (n : Int))) Q E s := by
  obtain ⟨os, hos, hcs, hds⟩ := id hs
  unfold Builtin.Slice.sliceApplied Builtin.Slice.sliceFields
  refine wpAny_bind (wpAny_bind (wpAny_field hos hds (x := vl) rfl (wpAny_bind (wpAny_field hos hds (x := vu) rfl (wpAny_bind (wpAny_field hos hds (x := .none) rfl (wpAny_pure ?_)))))))
  refine wpAny_bind (slicePart_none ?_)
  show wpAny _ _ (if ((1 : Int) == 0) = true then _ else _) _ _ s
  rw [if_neg (by decide)]
  refine wpAny_bind (slicePart_ pl (wpAny_bind (slicePart_ pu (wpAny_bind (wpAny_pure ?_)))))
  show wpAny _ _ (match Builtin.Slice.sliceAdjust lo hi 1 (n : Int) with | (lo, hi) => pure (lo, (1 : Int), Builtin.Slice.slicePlaces lo hi 1)) _ _ s
  rw [adjust_gen lo hi n]
  show wpAny _ _ (pure (((sIx n 0 lo : Nat) : Int), (1 : Int), Builtin.Slice.slicePlaces ((sIx n 0 lo : Nat) : Int) ((sIx n n hi : Nat) : Int) 1)) _ _ s
  rw [places_gen]
  exact wpAny_pure h
theorem pick_gen (xs : Array Value) (i k : Nat) : ((List.range k).filterMap fun (m : Nat) => xs[((i : Int) + (m : Int) * 1).toNat]?).toArray = ((xs.toList.drop i).take k).toArray := by
  have e : (fun (m : Nat) => xs[((i : Int) + (m : Int) * 1).toNat]?) = fun m => xs[i + m]? := by
    funext m
    have : ((i : Int) + (m : Int) * 1).toNat = i + m := by omega
    rw [this]
  rw [e]
  have := pick_run xs i k
  rw [List.filterMap_map] at this
  have e2 : ((fun x => xs[x]?) ∘ fun x => i + x) = fun m => xs[i + m]? := rfl
  rw [e2] at this
  rw [this]
theorem getItem_tuple_cut {t sl : Addr} {items : Array Value} {vl vu : Value} {lo hi : Option Int} {Q : Value → Shared → Prop} (ht : IsTup s.heap t items) (hs : s.heap.IsSliceOf sl vl vu .none) (pl : IsPart vl lo) (pu : IsPart vu hi)
    (hw : ¬ (sIx items.size 0 lo = 0 ∧ sIx items.size items.size hi = items.size))
    (h : Q (.ref s.heap.objs.size) { s with heap := s.heap.push { cls := .type "tuple", data := .seq ((items.toList.drop (sIx items.size 0 lo)).take (sIx items.size items.size hi - sIx items.size 0 lo)).toArray } })
    (hsz : items.size ≤ sizeLine) : wpAny (model prog w) A (getItem (.ref t) (.ref sl)) Q E s := by
  have htake : sizeOk (.seq ((items.toList.drop (sIx items.size 0 lo)).take (sIx items.size items.size hi - sIx items.size 0 lo)).toArray) := by
    show ((items.toList.drop (sIx items.size 0 lo)).take (sIx items.size items.size hi - sIx items.size 0 lo)).toArray.size ≤ sizeLine
    rw [List.size_toArray, List.length_take, List.length_drop, Array.length_toList]
    omega
  have hj : sIx items.size items.size hi ≤ items.size := sIx_le _ _ (Nat.le_refl _) hi
  obtain ⟨os, hos, hcs, hds⟩ := id hs
  have hTs : s.TypeIs (.ref sl) "slice" := ⟨os, hos, hcs⟩
  unfold getItem
  try with_reducible refine wpAny_holding ?_
  first | refine wpAny_bind (wpAny_pure ?_) | skip
  refine wpAny_bind (wpAny_sequenceKey ht.typeIs (by decide) ?_)
  refine wpAny_bind (wpAny_callSpecial?_slot (name := Str.ofString "__getitem__") ht.typeIs PyProof.Rows.slot_tuple_getitem
    (wpAny_call_entry PyProof.Rows.slot_tuple_getitem ht.typeIs entry_tuple_getitem ?_ (args_tuple_getitem _ _)))
  show wpAny _ _ (Builtin.Tuple.tupleItemsOf (.ref t) >>= _) _ _ s
  refine wpAny_bind (tupleItemsOf_ ht ?_)
  refine wpAny_bind (wpAny_typeOf hTs ?_)
  rw [if_pos (by decide)]
  refine wpAny_bind (sliceApplied_gen hs pl pu ?_)
  have hno : ¬ ((((sIx items.size 0 lo : Nat) : Int) == 0 && (1 : Int) == 1 && (sIx items.size items.size hi - sIx items.size 0 lo) == items.size) = true) := by
    intro q
    rw [Bool.and_eq_true, Bool.and_eq_true] at q
    have q1 : ((sIx items.size 0 lo : Nat) : Int) = 0 := eq_of_beq q.1.1
    have q2 : sIx items.size items.size hi - sIx items.size 0 lo = items.size := eq_of_beq q.2
    exact hw ⟨by omega, by omega⟩
  show wpAny _ _ (if (((sIx items.size 0 lo : Nat) : Int) == 0 && (1 : Int) == 1 && (sIx items.size items.size hi - sIx items.size 0 lo) == items.size) = true then _ else _) _ _ s
  rw [if_neg hno, pick_gen]
  first
    | exact wpAny_bind (m := Builtin.Tuple.tupleExact _) (wpAny_newObj_type (wpAny_pure ⟨_, rfl, wpAny_pure h⟩) htake)
    | exact wpAny_bind (m := Builtin.Tuple.tupleExact _) (wpAny_newObj_type (wpAny_bind (wpAny_pure (wpAny_pure ⟨_, rfl, wpAny_pure h⟩))) htake)
    | exact wpAny_bind (wpAny_bind (m := Builtin.Tuple.tupleExact _) (wpAny_newObj_type (wpAny_pure (wpAny_pure ⟨_, rfl, wpAny_pure h⟩)) htake))
    | exact wpAny_bind (wpAny_bind (m := Builtin.Tuple.tupleExact _) (wpAny_newObj_type (wpAny_pure ⟨_, rfl, wpAny_pure h⟩) htake))
end
end HT
namespace L2
open PySem PySem.Spec PyProof.Rows
abbrev TO := St → Hp → (Option Int → Hp → Prop) → Prop
def PO (X : Cx) (e : Option Expr) (t : TO) : Prop :=
  ∀ (pins : List (Addr × Obj)) (s : Shared) (σ : St) (H : Hp) (Q : Option Int → Hp → Prop), Inv X pins σ H s → t σ H Q →
    wpAny (model X.prog X.w) X.A (evalPart e X.env) (fun u s' => ∃ o H', Inv X pins σ H' s' ∧ IsPart u o ∧ Q o H') X.xe s
def tNoPart : TO := fun _ H Q => Q none H
def tPart (t : TE) : TO := fun σ H Q => t σ H fun x H1 => ∃ i, x = .int i ∧ Q (some i) H1
section
variable {X : Cx} {e : Expr} {te : TE} {lo hi : Option Expr} {tl th : TO} {pos p2 : Pos}
theorem po_none : PO X none tNoPart := by
  intro pins s σ H Q I h
  rw [evalPart_none]
  exact wpAny_pure ⟨none, H, I, .none, h⟩
theorem po_some (h : PE X e te) : PO X (some e) (tPart te) := by
  intro pins s σ H Q I hw
  rw [evalPart_some]
  refine thn (h pins s σ H _ I hw) fun u s1 ⟨x, H1, I1, r1, q1⟩ => ?_
  obtain ⟨i, rfl, q⟩ := q1
  obtain ⟨t, rfl⟩ := r1
  exact ⟨some i, H1, I1, .int i t, q⟩
def SlR (X : Cx) (r : V → Option Int → Option Int → Hp → VK → Prop) : Prop :=
  ∀ (pins : List (Addr × Obj)) (s : Shared) (σ : St) (H : Hp) (x : V) (v vl vu : Value) (lo hi : Option Int) (sl : Addr) (Q : VK), Inv X pins σ H s → RelV x v → s.heap.IsSliceOf sl vl vu .none → IsPart vl lo → IsPart vu hi → r x lo hi H Q →
    ∃ T id, typeLookup (.type T) "__getitem__" = pure (some (.builtin id)) ∧ s.TypeIs v T ∧ wpAny (model X.prog X.w) X.A (getItem v (.ref sl)) (EP X pins σ Q) X.xe s
theorem SlR.or {r r' : V → Option Int → Option Int → Hp → VK → Prop} (h : SlR X r) (h' : SlR X r') : SlR X (fun x lo hi H Q => r x lo hi H Q ∨ r' x lo hi H Q) := by
  intro pins s σ H x v vl vu lo hi sl Q I rx hs pl pu q
  rcases q with q | q
  · exact h pins s σ H x v vl vu lo hi sl Q I rx hs pl pu q
  · exact h' pins s σ H x v vl vu lo hi sl Q I rx hs pl pu q
def tSl (r : V → Option Int → Option Int → Hp → VK → Prop) (te : TE) (tl th : TO) : TE := fun σ H Q => te σ H fun x H1 => tl σ H1 fun l H2 => th σ H2 fun u H3 => r x l u H3 Q
theorem pe_slice {r : V → Option Int → Option Int → Hp → VK → Prop} (hr : SlR X r) (he : PE X e te) (hl : PO X lo tl) (hu : PO X hi th) : PE X (.Subscript e (.Slice lo hi none p2) pos) (tSl r te tl th) := by
  intro pins s σ H Q I h
  refine Subscript_ (thn (he pins s σ H _ I h) fun v s1 ⟨x, H1, I1, r1, q1⟩ => ?_)
  refine wpAny_Slice (thn (hl pins s1 σ H1 _ I1 q1) fun vl s2 ⟨l, H2, I2, pl, q2⟩ => thn (hu pins s2 σ H2 _ I2 q2) fun vu s3 ⟨u, H3, I3, pu, q3⟩ => ?_)
  rw [evalPart_none]
  refine wpAny_pure ?_
  have I4 : Inv X pins σ H3 { s3 with heap := s3.heap.push { cls := .type "slice", data := .fields #[vl, vu, .none] } } := I3.kept (t' := s3.toks) fun b ob q => Heap.get?_push_of_some _ q
  obtain ⟨T, id, hT, ht, hg⟩ := hr pins { s3 with heap := s3.heap.push { cls := .type "slice", data := .fields #[vl, vu, .none] } } σ H3 x v vl vu l u s3.heap.objs.size Q I4 r1 (Heap.IsSliceOf.new ..) pl pu q3
  show wpAny (model X.prog X.w) X.A (subscriptTail e (.Slice lo hi none p2) v (.ref s3.heap.objs.size)) (EP X pins σ Q) X.xe { s3 with heap := s3.heap.push { cls := .type "slice", data := .fields #[vl, vu, .none] } }
  exact tail_any (ops := [.ref s3.heap.objs.size, v]) ht hT hg (by with_unfolding_all rfl)
def cutV (xs : List V) (lo hi : Option Int) : List V := (xs.drop (HT.sIx xs.length 0 lo)).take (HT.sIx xs.length xs.length hi - HT.sIx xs.length 0 lo)
theorem cutV_length (xs : List V) (lo hi : Option Int) : (cutV xs lo hi).length ≤ xs.length := by
  unfold cutV
  rw [List.length_take, List.length_drop]
  omega
def rSlT (K : PySem.W.Frag) : V → Option Int → Option Int → Hp → VK → Prop := fun x lo hi H Q => ∃ a xs, x = .ref a ∧ SqT K H a xs ∧
  ¬ (HT.sIx xs.length 0 lo = 0 ∧ HT.sIx xs.length xs.length hi = xs.length) ∧ ∀ p, H p = none → Q (.ref p) (upd H p (.tup (cutV xs lo hi)))
theorem sl_tup : SlR X (rSlT X.K) := by
  intro pins s σ H x v vl vu lo hi sl Q I rx hs pl pu h
  obtain ⟨a, xs, rfl, hx, hw, q⟩ := h
  cases rx
  obtain ⟨its, r, ht, hz⟩ := I.tuple hx
  have hlen : its.toArray.size = xs.length := by rw [List.size_toArray]; exact r.length.symm
  refine ⟨"tuple", _, PyProof.Rows.slot_tuple_getitem.lookup, ht.typeIs, ?_⟩
  refine HT.getItem_tuple_cut ht hs pl pu (by rw [hlen]; exact hw) ?_ (by rw [hlen]; exact hz)
  rw [hlen]
  refine ⟨.ref s.heap.objs.size, _, I.laid (t' := s.toks) (o := .tup (cutV xs lo hi)) (fun b ob q => Heap.get?_push_of_some _ q) (Nat.le_refl _) ?_, rfl, q _ (I.hok.fresh (Nat.le_refl _))⟩
  exact ⟨Nat.le_trans (cutV_length xs lo hi) hz, _, (r.drop (HT.sIx xs.length 0 lo)).take (HT.sIx xs.length xs.length hi - HT.sIx xs.length 0 lo), TupD.new _ _⟩
def rCatT (K : PySem.W.Frag) : R2 := fun x y H Q => ∃ a b xs ys, x = .ref a ∧ y = .ref b ∧ SqT K H a xs ∧ SqT K H b ys ∧ xs ≠ [] ∧ xs.length + ys.length ≤ sizeLine ∧
  (ys = [] → Q (.ref a) H) ∧ (ys ≠ [] → ∀ p, H p = none → Q (.ref p) (upd H p (.tup (xs ++ ys))))
theorem Vals.nil_iff {xs : List V} {us : List Value} (r : Vals xs us) : us = [] ↔ xs = [] := by
  cases r with
  | nil => simp
  | cons _ _ => simp
theorem op_catT : OpR X (binaryOp .Add) (rCatT X.K) := by
  intro pins s σ H x y v u Q I rx ry h
  obtain ⟨a, b, xs, ys, rfl, rfl, ha, hb, hx, hz, q1, q2⟩ := h
  cases rx
  cases ry
  obtain ⟨its, r1, p1, _⟩ := I.tuple ha
  obtain ⟨its2, r2, p2, _⟩ := I.tuple hb
  refine HT.cat_tup p1 p2 (fun z => hx (r1.nil_iff.mp z)) (fun z => ⟨.ref a, H, I, rfl, q1 (r2.nil_iff.mp z)⟩) (fun z => ?_) (by rw [← r1.length, ← r2.length]; exact hz)
  refine ⟨.ref s.heap.objs.size, _, I.laid (t' := s.toks) (o := .tup (xs ++ ys)) (fun b ob q => Heap.get?_push_of_some _ q) (Nat.le_refl _) ?_, rfl, q2 (fun w => z (r2.nil_iff.mpr w)) _ (I.hok.fresh (Nat.le_refl _))⟩
  exact ⟨by rw [List.length_append]; exact hz, _, r1.append r2, TupD.new _ _⟩
end
end L2
namespace L2
open PySem PySem.Spec PyProof.Rows
def ixN (n : Nat) (i : Int) : Option Nat := if 0 ≤ i then (if i < n then some i.toNat else none) else if -(n : Int) ≤ i then some (i + n).toNat else none
def atI {α : Type} (xs : List α) (i : Int) : Option α := (ixN xs.length i).bind fun j => xs[j]?
theorem ixN_seq {n : Nat} {i : Int} {j : Nat} (h : ixN n i = some j) : seqIndex? i n = some j ∧ j < n ∧ -(n : Int) ≤ i ∧ i < n := by
  unfold ixN at h
  by_cases h0 : 0 ≤ i
  · rw [if_pos h0] at h
    by_cases h1 : i < n
    · rw [if_pos h1] at h
      have e : i.toNat = j := Option.some.inj h
      exact ⟨by rw [seqIndex_of h0 h1, e], by omega, by omega, h1⟩
    · rw [if_neg h1] at h; cases h
  · rw [if_neg h0] at h
    by_cases h1 : -(n : Int) ≤ i
    · rw [if_pos h1] at h
      have e : (i + n).toNat = j := Option.some.inj h
      exact ⟨by rw [seqIndex_neg (by omega) h1, e], by omega, h1, by omega⟩
    · rw [if_neg h1] at h; cases h
theorem atI_get {α : Type} {xs : List α} {i : Int} {v : α} (h : atI xs i = some v) : ∃ j, seqIndex? i xs.length = some j ∧ xs[j]? = some v ∧ j < xs.length ∧ -(xs.length : Int) ≤ i ∧ i < xs.length := by
  unfold atI at h
  cases e : ixN xs.length i with
  | none => rw [e] at h; cases h
  | some j =>
    rw [e] at h
    obtain ⟨h1, h2, h3, h4⟩ := ixN_seq e
    exact ⟨j, h1, h, h2, h3, h4⟩
theorem atI_nat {α : Type} {xs : List α} {j : Nat} {v : α} (h : xs[j]? = some v) : atI xs (j : Int) = some v := by
  have hj : j < xs.length := (List.getElem?_eq_some_iff.mp h).1
  have e : ixN xs.length (j : Int) = some j := by
    unfold ixN
    rw [if_pos (by omega), if_pos (by omega)]; simp
  unfold atI; rw [e]; exact h
def PlainIx (b : Expr) : Prop := ∀ o i, subscripted b false o i = operate [o, i] (getItem o i)
def IxR (X : Cx) (r : R2) : Prop :=
  ∀ (value slice : Expr) (pins : List (Addr × Obj)) (s : Shared) (σ : St) (H : Hp) (x y : V) (v u : Value) (Q : VK), Inv X pins σ H s → RelV x v → RelV y u → r x y H Q →
    subscripted slice false v u = operate [v, u] (getItem v u) → wpAny (model X.prog X.w) X.A (subscriptTail value slice v u) (EP X pins σ Q) X.xe s
def MtR (X : Cx) (id : String) (r : V → List V → Hp → VK → Prop) : Prop :=
  ∀ (pins : List (Addr × Obj)) (s : Shared) (σ : St) (H : Hp) (x : V) (xs : List V) (v : Value) (us : List Value) (Q : VK), Inv X pins σ H s → RelV x v → Vals xs us → r x xs H Q →
    wpAny (model X.prog X.w) X.A (call (.builtin id) (v :: us)) (EP X pins σ Q) X.xe s
section
variable {X : Cx} {a b : Expr} {ta tb : TE} {pos : Pos}
theorem IxR.or {r r' : R2} (h : IxR X r) (h' : IxR X r') : IxR X (fun x y H Q => r x y H Q ∨ r' x y H Q) := by
  intro value slice pins s σ H x y v u Q I rx ry q hs
  rcases q with q | q
  · exact h value slice pins s σ H x y v u Q I rx ry q hs
  · exact h' value slice pins s σ H x y v u Q I rx ry q hs
theorem pe_ix {r : R2} (hr : IxR X r) (ha : PE X a ta) (hb : PE X b tb) (hs : PlainIx b) : PE X (.Subscript a b pos) (tOp r ta tb) := by
  intro pins s σ H Q I h
  exact Subscript_ (binT ha hb I h fun v u s2 x y H2 I2 rx ry q => hr a b pins s2 σ H2 x y v u Q I2 rx ry q (hs _ _))
def rIxL (K : PySem.W.Frag) : R2 := fun x y H Q => ∃ p xs i v, x = .ref p ∧ y = .int i ∧ SqL K H p xs ∧ atI xs i = some v ∧ Q v H
def rIxT (K : PySem.W.Frag) : R2 := fun x y H Q => ∃ p xs i v, x = .ref p ∧ y = .int i ∧ SqT K H p xs ∧ atI xs i = some v ∧ Q v H
def rIxS : R2 := fun x y H Q => ∃ z i c, x = .str z ∧ y = .int i ∧ z.length ≤ sizeLine ∧ atI z.cps.toList i = some c ∧ Q (.str ⟨#[c]⟩) H
theorem ix_list : IxR X (rIxL X.K) := by
  intro value slice pins s σ H x y v u Q I rx ry h hs
  obtain ⟨p, xs, i, z, rfl, rfl, hq, he, q⟩ := h
  cases rx
  obtain ⟨t, rfl⟩ := ry
  obtain ⟨its, r, pl, hz⟩ := I.list hq
  obtain ⟨j, h1, h2, h3, h4, h5⟩ := atI_get he
  obtain ⟨w, ew, rw'⟩ := r.get h2
  have hl := r.length
  have hn := line63
  have fin : EP X pins σ Q w s := ⟨z, H, I, rw', q⟩
  by_cases h0 : 0 ≤ i
  · have hj : i.toNat = j := by
      rw [seqIndex_of h0 h5] at h1
      exact Option.some.inj h1
    exact item_listR pl.isList h0 (by omega) (by rw [hj]; simpa using ew) fin hs
  · have hj : (i + (its.toArray.size : Int)).toNat = j := by
      rw [seqIndex_neg (by omega) h4] at h1
      rw [List.size_toArray, ← hl]
      exact Option.some.inj h1
    exact subscriptTail_builtinR (x := w) pl.isList.typeIs slot_list_getitem.lookup
      (wpAny_getItem_list_neg (Q := fun r s' => r = w ∧ EP X pins σ Q r s') pl.isList (by omega) (by rw [List.size_toArray] <;> omega) (by omega) (by rw [hj]; simpa using ew) ⟨rfl, fin⟩) hs
theorem ix_tup : IxR X (rIxT X.K) := by
  intro value slice pins s σ H x y v u Q I rx ry h hs
  obtain ⟨p, xs, i, z, rfl, rfl, hq, he, q⟩ := h
  cases rx
  obtain ⟨t, rfl⟩ := ry
  obtain ⟨its, r, pl, hz⟩ := I.tuple hq
  obtain ⟨j, h1, h2, h3, h4, h5⟩ := atI_get he
  obtain ⟨w, ew, rw'⟩ := r.get h2
  have hl := r.length
  have hn := line63
  have fin : EP X pins σ Q w s := ⟨z, H, I, rw', q⟩
  exact subscriptTail_builtinR (x := w) pl.typeIs slot_tuple_getitem.lookup
    (getItem_tuple (j := j) (Q := fun r s' => r = w ∧ EP X pins σ Q r s') pl (by omega) (by omega) (by rw [List.size_toArray, ← hl]; exact h1) (by simpa using ew) ⟨rfl, fin⟩) hs
theorem ix_str : IxR X rIxS := by
  intro value slice pins s σ H x y v u Q I rx ry h hs
  obtain ⟨z, i, c, rfl, rfl, hz, he, q⟩ := h
  obtain ⟨t, rfl⟩ := rx
  obtain ⟨t', rfl⟩ := ry
  obtain ⟨j, h1, h2, h3, h4, h5⟩ := atI_get he
  have hl : z.cps.toList.length = z.length := by simp [Str.length]
  rw [hl] at h1 h4 h5
  have hn := line63
  exact tail_any (typeIs_str s z t) slot_str_getitem.lookup (getItem_str (c := c) (by
    have e1 : decide (i < -(2 ^ 63 : Int)) = false := decide_eq_false (by omega)
    have e2 : decide (i ≥ 2 ^ 63) = false := decide_eq_false (by omega)
    rw [e1, e2, Bool.or_false]) (by rw [h1]; simpa using h2) ⟨.str ⟨#[c]⟩, H, I.tok _, ⟨_, rfl⟩, q⟩) hs
def rIx (K : PySem.W.Frag) : R2 := fun x y H Q => rIxL K x y H Q ∨ rIxT K x y H Q ∨ rIxS x y H Q
theorem ix_seq : IxR X (rIx X.K) := ix_list.or (ix_tup.or ix_str)
theorem mapSeq_set (its : List Value) (n j : Nat) (u : Value) : Obj.mapSeq (·.setIfInBounds j u) { cls := .type "list", data := .seq its.toArray n } = { cls := .type "list", data := .seq (its.set j u).toArray n } := by
  simp [Obj.mapSeq]
theorem Inv.lst {pins : List (Addr × Obj)} {σ : St} {H : Hp} {s : Shared} {p : Addr} {xs : List V} (I : Inv X pins σ H s) (h : H p = some (.lst xs)) :
    ∃ (its : List Value) (n : Nat), Vals xs its ∧ s.heap.get? p = some { cls := .type "list", data := .seq its.toArray n } ∧ xs.length ≤ sizeLine := by
  obtain ⟨z, its, n, r, e⟩ := I.hok p _ h
  exact ⟨its, n, r, e, z⟩
theorem Inv.lstUpd {pins : List (Addr × Obj)} {σ : St} {H : Hp} {s : Shared} {p : Addr} {xs ys : List V} {its its' : List Value} {n n' : Nat} {f : Obj → Obj} (I : Inv X pins σ H s) (h : H p = some (.lst xs))
    (ho : s.heap.get? p = some { cls := .type "list", data := .seq its.toArray n }) (hf : f { cls := .type "list", data := .seq its.toArray n } = { cls := .type "list", data := .seq its'.toArray n' }) (r : Vals ys its') (hz : ys.length ≤ sizeLine) (t : Nat) :
    Inv X pins σ (upd H p (.lst ys)) { s with heap := s.heap.update p f, toks := t } := by
  have e : (s.heap.update p f).get? p = some { cls := .type "list", data := .seq its'.toArray n' } := by
    rw [Heap.get?_update_self f ho (by rw [hf] <;> rfl), hf]
  refine I.write (x := p) (e := p) (by rw [h]; trivial) (.inl rfl) (fun b u hb q => (Heap.get?_update_other _ _ (Ne.symm hb)).trans q) ⟨_, e⟩ ?_
  exact ⟨hz, its', n', r, e⟩
def rSetL : V → V → V → Hp → (Hp → Prop) → Prop := fun o i v H Q => ∃ p xs k j, o = .ref p ∧ i = .int k ∧ H p = some (.lst xs) ∧ ixN xs.length k = some j ∧ Q (upd H p (.lst (xs.set j v)))
theorem set_list : PSet X rSetL := by
  intro pins s σ H o i v ov iv u Q I ro ri rv h
  obtain ⟨p, xs, k, j, rfl, rfl, hp, hj, q⟩ := h
  cases ro
  obtain ⟨t, rfl⟩ := ri
  obtain ⟨its, n, r, ho, hz⟩ := I.lst hp
  obtain ⟨h1, h2, h3, h4⟩ := ixN_seq hj
  have hl := r.length
  have hn := line63
  have I' : Inv X pins σ (upd H p (.lst (xs.set j v))) { s with heap := s.heap.update p (Obj.mapSeq (·.setIfInBounds j u)) } :=
    I.lstUpd hp ho (mapSeq_set its n j u) (r.set rv j) (by rw [List.length_set]; exact hz) s.toks
  by_cases h0 : 0 ≤ k
  · have hk : k.toNat = j := by
      rw [seqIndex_of h0 h4] at h1
      exact Option.some.inj h1
    exact PySem.W.ki_setAt ho h0 (by omega) (by rw [List.size_toArray, ← hl]; exact h4) (by rw [hk]; exact ⟨_, I', q⟩)
  · have hk : (k + (its.toArray.size : Int)).toNat = j := by
      rw [seqIndex_neg (by omega) h3] at h1
      rw [List.size_toArray, ← hl]
      exact Option.some.inj h1
    exact PySem.W.ki_setBack ho (by omega) (by rw [List.size_toArray, ← hl]; exact h3) (by omega) (by rw [hk]; exact ⟨_, I', q⟩)
theorem slice_bounds (lo hi : Option Int) (n : Nat) : (sliceBounds lo hi none n).1 = ((HT.sIx n 0 lo : Nat) : Int) ∧ (sliceBounds lo hi none n).2.1 = ((HT.sIx n n hi : Nat) : Int) ∧ (sliceBounds lo hi none n).2.2 = 1 := by
  refine ⟨?_, ?_, rfl⟩
  · cases lo with
    | none => simp [sliceBounds, HT.sIx]
    | some i =>
      simp only [sliceBounds, HT.sIx, Option.getD_none, show (1 : Int) > 0 by decide, if_true]
      by_cases h : i < 0
      · simp only [h, if_true] <;> omega
      · simp only [h, if_false] <;> omega
  · cases hi with
    | none => simp [sliceBounds, HT.sIx]
    | some i =>
      simp only [sliceBounds, HT.sIx, Option.getD_none, show (1 : Int) > 0 by decide, if_true]
      by_cases h : i < 0
      · simp only [h, if_true] <;> omega
      · simp only [h, if_false] <;> omega
theorem slicePick_cut (its : List Value) (lo hi : Option Int) : slicePick its.toArray lo hi none = ((its.drop (HT.sIx its.length 0 lo)).take (HT.sIx its.length its.length hi - HT.sIx its.length 0 lo)).toArray := by
  obtain ⟨h1, h2, h3⟩ := slice_bounds lo hi its.toArray.size
  unfold slicePick
  rw [h1, h2, h3]
  simp only [sliceRange_one, pick_run, List.size_toArray] <;> rfl
def rSlL (K : PySem.W.Frag) : V → Option Int → Option Int → Hp → VK → Prop := fun x lo hi H Q => ∃ a xs, x = .ref a ∧ SqL K H a xs ∧ ∀ p, H p = none → Q (.ref p) (upd H p (.lst (cutV xs lo hi)))
theorem sl_list : SlR X (rSlL X.K) := by
  intro pins s σ H x v vl vu lo hi sl Q I rx hs pl pu h
  obtain ⟨a, xs, rfl, hx, q⟩ := h
  cases rx
  obtain ⟨its, r, ht, hz⟩ := I.list hx
  have hlen := r.length
  refine ⟨"list", _, slot_list_getitem.lookup, ht.isList.typeIs, ?_⟩
  refine wpAny_getItem_list_slice ht.isList hs pl pu .none (by simp) ?_ (by rw [List.size_toArray] <;> omega)
  rw [slicePick_cut, ← hlen]
  refine ⟨.ref s.heap.objs.size, _, I.laid (t' := s.toks) (o := .lst (cutV xs lo hi)) (fun b ob q => Heap.get?_push_of_some _ q) (Nat.le_refl _) ?_, rfl, q _ (I.hok.fresh (Nat.le_refl _))⟩
  exact ⟨Nat.le_trans (cutV_length xs lo hi) hz, _, 0, (r.drop (HT.sIx xs.length 0 lo)).take (HT.sIx xs.length xs.length hi - HT.sIx xs.length 0 lo), Heap.get?_push_size _ rfl⟩
theorem CallR.or {f : Value} {r r' : List V → Hp → VK → Prop} (h : CallR X f r) (h' : CallR X f r') : CallR X f (fun xs H Q => r xs H Q ∨ r' xs H Q) := by
  intro pins s σ H xs us Q I rs q
  rcases q with q | q
  · exact h pins s σ H xs us Q I rs q
  · exact h' pins s σ H xs us Q I rs q
theorem call_list_of : CallR X (.type "list") (fun xs H Q => ∃ p ys, xs = [.ref p] ∧ (SqL X.K H p ys ∨ SqT X.K H p ys) ∧ ∀ l, H l = none → Q (.ref l) (upd H l (.lst ys))) := by
  intro pins s σ H xs us Q I r h
  obtain ⟨p, ys, rfl, hq, q⟩ := h
  obtain ⟨u, rfl, rx⟩ := vals1 r
  cases rx
  have fin : ∀ (its : List Value), Vals ys its → ys.length ≤ sizeLine → ∀ (h' : Heap) (c' : Nat), (∀ b o', s.heap.get? b = some o' → h'.get? b = some o') →
      h'.get? s.heap.objs.size = some { cls := .type "list", dict := none, data := .seq its.toArray c', slots := #[] } → EP X pins σ Q (.ref s.heap.objs.size) { s with heap := h' } := fun its r' hz h' c' kp e =>
    ⟨.ref s.heap.objs.size, _, I.laid (t' := s.toks) kp (Nat.le_refl _) (show ObjOk X.prog X.w _ h' _ (.lst ys) from ⟨hz, its, c', r', e⟩), rfl, q _ (I.hok.fresh (Nat.le_refl _))⟩
  rcases hq with hq | hq
  · obtain ⟨its, r', pl, hz⟩ := I.list hq
    have hlen := r'.length
    obtain ⟨o, ho, hc, n, hd⟩ := pl.isList
    exact call_list_seq p (.inl rfl) ho hc hd (fun h' c' kp e => fin its r' hz h' c' kp e) (by simp only [List.size_toArray] <;> omega)
  · obtain ⟨its, r', pl, hz⟩ := I.tuple hq
    have hlen := r'.length
    obtain ⟨o, ho, hc, n, hd⟩ := pl
    exact call_list_seq p (.inr rfl) ho hc hd (fun h' c' kp e => fin its r' hz h' c' kp e) (by simp only [List.size_toArray] <;> omega)
theorem call_tuple_of : CallR X (.type "tuple") (fun xs H Q => ∃ p ys, xs = [.ref p] ∧ ((SqL X.K H p ys ∧ ∀ l, H l = none → Q (.ref l) (upd H l (.tup ys))) ∨ (SqT X.K H p ys ∧ Q (.ref p) H))) := by
  intro pins s σ H xs us Q I r h
  obtain ⟨p, ys, rfl, h⟩ := h
  obtain ⟨u, rfl, rx⟩ := vals1 r
  cases rx
  rcases h with ⟨hq, q⟩ | ⟨hq, q⟩
  · obtain ⟨its, r', pl, hz⟩ := I.list hq
    have hlen := r'.length
    refine call_tuple_list pl.isList (fun h' kp => ?_) (by simp only [List.size_toArray] <;> omega)
    have I1 : Inv X pins σ H { s with heap := h' } := I.kept (t' := s.toks) kp
    have I2 : Inv X pins σ (upd H h'.objs.size (.tup ys)) { s with heap := h'.push { cls := .type "tuple", data := .seq its.toArray } } :=
      I1.laid (t' := s.toks) (fun b o e => Heap.get?_push_of_some _ e) (Nat.le_refl _) (show ObjOk X.prog X.w _ _ _ (.tup ys) from ⟨hz, its, r', TupD.new _ _⟩)
    exact ⟨.ref h'.objs.size, _, I2, rfl, q _ (I1.hok.fresh (Nat.le_refl _))⟩
  · obtain ⟨its, r', pl, hz⟩ := I.tuple hq
    exact call_tuple_same pl ⟨.ref p, H, I, rfl, q⟩
def tyV (K : PySem.W.Frag) (T : String) (x : V) (H : Hp) : Prop := match x with
  | .str _ => T = "str"
  | .int _ => T = "int"
  | .ref p => (T = "list" ∧ ∃ xs, SqL K H p xs) ∨ (T = "tuple" ∧ ∃ o, K.lookup p = some o ∧ o.cls = .type "tuple" ∧ o.dict = none) ∨
      (T = "dict" ∧ ((∃ kvs, H p = some (.dK kvs)) ∨ ∃ kvs, H p = some (.dT kvs))) ∨ (T = "set" ∧ ∃ S n, H p = some (.set S n))
  | _ => False
theorem tyV_is {pins : List (Addr × Obj)} {σ : St} {H : Hp} {s : Shared} {T : String} {x : V} {v : Value} (I : Inv X pins σ H s) (r : RelV x v) (ty : tyV X.K T x H) :
    s.TypeIs v T ∧ ∀ a, v = .ref a → ∃ ob, s.heap.get? a = some ob ∧ ob.dict = none := by
  cases x with
  | str z =>
    obtain ⟨t, rfl⟩ := r
    cases (show T = "str" from ty)
    exact ⟨typeIs_str s z t, fun _ e => nomatch e⟩
  | int i =>
    obtain ⟨t, rfl⟩ := r
    cases (show T = "int" from ty)
    exact ⟨typeIs_int s i t, fun _ e => nomatch e⟩
  | ref p =>
    cases r
    rcases ty with ⟨rfl, xs, hq⟩ | ⟨rfl, o, hk, hc, hd⟩ | ⟨rfl, hk⟩ | ⟨rfl, S, n, hk⟩
    · obtain ⟨its, _, pl, _⟩ := I.list hq
      refine ⟨pl.isList.typeIs, fun a e => ?_⟩
      cases e
      obtain ⟨o, n, e, c, hd, _⟩ := pl
      exact ⟨o, e, hd⟩
    · refine ⟨⟨o, I.kIn p o hk, hc⟩, fun a e => ?_⟩
      cases e
      exact ⟨o, I.kIn _ o hk, hd⟩
    · have z : ∃ o, s.heap.get? p = some o ∧ o.ExactDict := by
        rcases hk with ⟨kvs, hk⟩ | ⟨kvs, hk⟩
        · obtain ⟨_, _, _, _, o, _, _, e, ex, _⟩ := I.hok p _ hk
          exact ⟨o, e, ex⟩
        · obtain ⟨_, _, _, _, o, _, _, e, ex, _⟩ := I.hok p _ hk
          exact ⟨o, e, ex⟩
      obtain ⟨o, e, ex⟩ := z
      refine ⟨⟨o, e, ex.1⟩, fun a e2 => ?_⟩
      cases e2
      exact ⟨o, e, ex.2.1⟩
    · obtain ⟨o, _, _, _, e, ex, _⟩ := I.hok p _ hk
      refine ⟨⟨o, e, ex.1⟩, fun a e2 => ?_⟩
      cases e2
      exact ⟨o, e, ex.2.1⟩
  | _ => exact False.elim ty
def tBM0 (K : PySem.W.Frag) (T : String) (r : V → List V → Hp → VK → Prop) (to : TE) : TE := fun σ H Q => to σ H fun x H1 => tyV K T x H1 ∧ r x [] H1 Q
def tBM (K : PySem.W.Frag) (T : String) (r : V → List V → Hp → VK → Prop) (to : TE) (t : TA) : TE := fun σ H Q => to σ H fun x H1 => tyV K T x H1 ∧ t σ H1 fun xs H2 => r x xs H2 Q
variable {o e : Expr} {es : List Expr} {to : TE} {t : TA} {name : Str} {apos cpos : Pos} {T id : String} {r : V → List V → Hp → VK → Prop}
theorem pe_bm0 (pa : PlainAttrs T) (slot : Slot T name id) (hty : typeOf (.builtin id) = pure (.type "method_descriptor")) (hm : MtR X id r) (ho : PE X o to)
    (hbase : attributeBase o name X.env (eval o X.env) = eval o X.env := by rfl) (hline : (apos.endLine == cpos.line) = true := by rfl) : PE X (.Call (.Attribute o name apos) [] [] cpos) (tBM0 X.K T r to) := by
  intro pins s σ H Q I h
  refine wpAny_Call_method0_late hbase hline (thn (ho pins s σ H _ I h) fun v s1 ⟨x, H1, I1, r1, ty, q1⟩ => ?_)
  obtain ⟨h1, h2⟩ := tyV_is I1 r1 ty
  exact ⟨T, id, pa, slot, hty, h1, h2, Calls.callWith_builtin rfl (PySem.evalArgs_none (hm pins s1 σ H1 x [] v [] Q I1 r1 .nil q1))⟩
theorem pe_bm (pa : PlainAttrs T) (slot : Slot T name id) (hty : typeOf (.builtin id) = pure (.type "method_descriptor")) (hm : MtR X id r) (ho : PE X o to) (ha : PA X (e :: es) t)
    (hbase : attributeBase o name X.env (eval o X.env) = eval o X.env := by rfl)
    (hfew : ((backTo cpos (starEach (e :: es) X.env)).all (fun x => !x.1) && (backToKw cpos (keywordEach [] X.env)).all (fun x => x.1.isSome)
      && decide ((e :: es).length + ([] : List Keyword).length + (if ([] : List Keyword).isEmpty then 0 else 1) < 30)) = true := by rfl)
    (hline : (apos.endLine == cpos.line) = true := by rfl) (hs : starEach (e :: es) X.env = (false, eval e X.env) :: starEach es X.env := by rfl) (hplain : (backTo cpos (starEach es X.env)).any (·.1) = false := by rfl) :
    PE X (.Call (.Attribute o name apos) (e :: es) [] cpos) (tBM X.K T r to t) := by
  intro pins s σ H Q I h
  refine wpAny_Call_method_late hbase hfew hline rfl (thn (ho pins s σ H _ I h) fun v s1 ⟨x, H1, I1, r1, ty, q1⟩ => ?_)
  obtain ⟨h1, h2⟩ := tyV_is I1 r1 ty
  refine ⟨T, id, pa, slot, hty, h1, h2, ?_⟩
  have hA := ha cpos pins s1 σ H1 _ I1 q1
  rw [hs] at hA ⊢
  refine Calls.callWith_builtin (by show (false || (backTo cpos (starEach es X.env)).any (·.1)) = false; rw [hplain] <;> rfl) (Calls.evalArgs_plain ?_)
  exact thn hA fun us s2 ⟨vs, H2, I2, r2, q2⟩ => hm pins s2 σ H2 x vs v us Q I2 r1 r2 q2
end
end L2
namespace L2
open PySem PySem.Spec PyProof.Rows
def MtM (X : Cx) (id : String) (r : V → List V → Hp → VK → Prop) : Prop :=
  ∀ (pins : List (Addr × Obj)) (s : Shared) (σ : St) (H : Hp) (x : V) (xs : List V) (v : Value) (us : List Value) (Q : VK), Inv X pins σ H s → RelV x v → Vals xs us → r x xs H Q →
    wpAny (model X.prog X.w) X.A (call (.builtin id) (v :: us)) (EP X pins σ Q) X.xe s
theorem Vals.one : ∀ {x : V} {us : List Value}, Vals [x] us → ∃ u, us = [u] ∧ RelV x u
  | _, _, .cons r .nil => ⟨_, rfl, r⟩
section
variable {X : Cx} {pins : List (Addr × Obj)} {σ : St} {H : Hp} {s : Shared} {l b : Addr} {xs ys zs : List V}
theorem Inv.lset {its its' : List Value} {n : Nat} {f : Array Value → Array Value} {t' : Nat} (I : Inv X pins σ H s) (hH : H l = some (.lst xs))
    (e : s.heap.get? l = some { cls := .type "list", data := .seq its.toArray n }) (hf : f its.toArray = its'.toArray) (hv : Vals ys its') (hz : ys.length ≤ sizeLine) :
    Inv X pins σ (upd H l (.lst ys)) { s with heap := s.heap.update l (Obj.mapSeq f), toks := t' } := by
  have q := PySem.IsL.update e f
  rw [hf] at q
  refine I.write (x := l) (e := l) (by rw [hH]; exact trivial) (.inl rfl) (fun b' u hb hu => (Heap.get?_update_other s.heap (Obj.mapSeq f) (Ne.symm hb)).trans hu) ⟨_, q⟩ ?_
  exact ⟨hz, its', _, hv, q⟩
theorem Inv.lnew {its : List Value} {t' : Nat} (I : Inv X pins σ H s) (hv : Vals ys its) (hz : ys.length ≤ sizeLine) :
    Inv X pins σ (upd H s.heap.objs.size (.lst ys)) { s with heap := s.heap.push { cls := .type "list", data := .seq its.toArray }, toks := t' } :=
  I.laid (fun _ _ q => Heap.get?_push_of_some _ q) (Nat.le_refl _) ⟨hz, its, 0, hv, Heap.get?_push_size _ rfl⟩
theorem Inv.fresh (I : Inv X pins σ H s) : H s.heap.objs.size = none := I.hok.fresh (Nat.le_refl _)
theorem Inv.lstM (I : Inv X pins σ H s) (hH : H l = some (.lst xs)) : xs.length ≤ sizeLine ∧ ∃ (its : List Value) (n : Nat), Vals xs its ∧ xs.length = its.length ∧ s.heap.get? l = some { cls := .type "list", data := .seq its.toArray n } := by
  obtain ⟨z, its, n, r, e⟩ := I.hok l _ hH
  exact ⟨z, its, n, r, r.length, e⟩
theorem notLongL {n : Nat} (h : n ≤ sizeLine) : Builtin.List.listTooLong n = false := by
  unfold Builtin.List.listTooLong
  exact decide_eq_false (by omega)
end
section
variable {X : Cx}
def rAppend : V → List V → Hp → VK → Prop := fun x vs H Q => ∃ l xs y, x = .ref l ∧ vs = [y] ∧ H l = some (.lst xs) ∧ xs.length < sizeLine ∧ Q .non (upd H l (.lst (xs ++ [y])))
theorem mt_append : MtM X "list.append" rAppend := by
  intro pins s σ H x vs v us Q I rx rv h
  obtain ⟨l, xs, y, rfl, rfl, hH, hz, q⟩ := h
  cases rx
  obtain ⟨u, rfl, ru⟩ := rv.one
  obtain ⟨z, its, n, r, hl, e⟩ := I.lstM hH
  refine call_meets F.slot_list_append ⟨_, e, rfl⟩ F.entry_list_append (F.args_list_append_2 _ _) (PySem.list_append l its.toArray n u (by rw [List.size_toArray]; omega)) ⟨e, ?_⟩
  refine ⟨.non, _, I.lset (its' := its ++ [u]) hH e (by simp) (r.append (.cons ru .nil)) ?_, rfl, q⟩
  rw [List.length_append, List.length_singleton]
  omega
def rCat : R2 := fun x y H Q => ∃ l b xs zs, x = .ref l ∧ y = .ref b ∧ H l = some (.lst xs) ∧ H b = some (.lst zs) ∧ xs.length + zs.length ≤ sizeLine ∧ ∀ p, H p = none → Q (.ref p) (upd H p (.lst (xs ++ zs)))
theorem op_cat : OpR X (binaryOp .Add) rCat := by
  intro pins s σ H x y v u Q I rx ry h
  obtain ⟨l, b, xs, zs, rfl, rfl, hH, hB, hz, q⟩ := h
  cases rx
  cases ry
  obtain ⟨z, its, n, r, hl, e⟩ := I.lstM hH
  obtain ⟨z2, its2, n2, r2, hl2, e2⟩ := I.lstM hB
  refine PySem.P.add_list e e2 ?_ (by rw [List.size_toArray, List.size_toArray]; omega)
  have ea : its.toArray ++ its2.toArray = (its ++ its2).toArray := by simp
  rw [ea]
  exact ⟨.ref _, _, I.lnew (t' := s.toks) (r.append r2) (by rw [List.length_append]; omega), rfl, q _ I.fresh⟩
end
section
variable {prog : Program} {w : World} {A : Around} {E : Value → Shared → Prop} {s : Shared}
set_option maxRecDepth 100000 in
end
end L2
namespace Att
open PySem PySem.W PySem.Calls PyProof.Rows
theorem ints_of_wellAll {P : Params} {h : Heap} : ∀ (ns : List Int) (vs : List Value), WellAll P h vs (ns.map WData.int) → IntsAre vs ns := by
  intro ns
  induction ns with
  | nil =>
    intro vs w
    rw [List.map_nil] at w
    cases w
    exact .nil
  | cons n ns ih =>
    intro vs w
    rw [List.map_cons] at w
    cases w with
    | cons a b =>
      cases a
      exact .cons _ _ (ih _ b)
theorem script_of {l : OpenLaw} {n : Nat} (hn : l.most = some n) {P : Params} {h : Heap} {args : List WData} {vals : List Value}
    (hpre : l.row.toRowW.claim.pre args = true) (hwl : WellAll P h vals args) :
    ∃ a vs ns, vals = [Value.ref a] ∧ args = [WData.list (ns.map WData.int)] ∧ h.get? a = some { cls := .type "list", data := .seq vs.toArray } ∧ IntsAre vs ns ∧ ns.length ≤ n := by
  have hsh : WShape.hasAll [] args [.list .int] = true := (pre_splitW hpre).1
  have hc : l.pre.holds [] { args := args } = true := (pre_splitW hpre).2
  obtain ⟨d, r, rfl, h1, h2⟩ := hasAllW_cons hsh
  obtain rfl := hasAllW_nil h2
  obtain ⟨xs, rfl, h3⟩ := hasW_list h1
  obtain ⟨ns, rfl⟩ := items_int h3
  have hlen : ns.length ≤ n := by
    unfold OpenLaw.pre at hc
    have h4 : (WTm.not (.lt (.lit (.int (n : Int))) (.len (.arg 0)))).holds [] { args := [.list (ns.map .int)] } = true := by
      have h4 := (holds_andW hc).1
      rw [hn] at h4
      exact h4
    have h5 := condW_of h4 (w_not (w_lt w_lit (w_len_list (w_arg rfl))))
    rw [List.length_map] at h5
    refine Nat.le_of_not_lt fun q => ?_
    have q' : (n : Int) < ((ns.length : Nat) : Int) := by omega
    first
      | (rw [decide_eq_true q'] at h5; exact absurd h5 (by decide))
      | (simp at h5; omega)
  cases hwl with
  | cons w1 w2 =>
    cases w2
    cases w1 with
    | list ho hall => exact ⟨_, _, ns, rfl, rfl, ho, ints_of_wellAll ns _ hall, hlen⟩
theorem post_true (l : OpenLaw) (args : List WData) : l.row.toRowW.claim.post args (.bool true) args = true :=
  postW_of (r := l.row.toRowW) (X := (true == true))
    (show WShape.has [] (.bool true) .bool = true by first | rfl | decide | simp [WShape.has, WShape.arms, WShape.armsAll])
    (show (WTm.eq .res (.lit (.bool true))).value [] { args := args, res := some (.bool true), after := args } = some (.bool (true == true)) from w_eq_bool (w_res rfl) w_lit) rfl
end Att
namespace L2
open PySem PySem.Spec PyProof.Rows
theorem vals_ints : ∀ {vs : List Value} {ns : List Int}, IntsAre vs ns → Vals (ns.map V.int) vs
  | _, _, .nil => .nil
  | _, _, .cons n t h => .cons ⟨t, rfl⟩ (vals_ints h)
def Only (H : Hp) : Prop := ∀ b, H b = none ∨ ∃ o xs, H b = some (.frz o (.lst xs))
theorem law_call {P : Program} {w : World} {K : PySem.W.Frag} {mg mb : Str → Option Value} {CX : CXT} {k : Nat} {fa a : Addr} {fd : FuncData} {x : Str} {sp : Sp} {s₁ : Shared} {vs : List Value} {ns : List Int}
    (KX : K.In s₁.heap) (hns : s₁.heap.Ns mainGlobals mg) (hb : s₁.heap.Ns builtinsNs mb) (hbb : ∀ x : Str, x ≠ "__name__" → mb x = bootBuiltins x) (hlim : s₁.heap.NoLimit) (hg : s₁.gens = #[])
    (ha : s₁.heap.get? a = some { cls := .type "list", data := .seq vs.toArray }) (hi : IntsAre vs ns) (hl : ns.length ≤ sizeLine) (hr : Room k callerA)
    (F : ∀ base : Heap, K.In base → base.Ns mainGlobals mg → FnOk P w K mg base CX k fa fd [x] sp) (hbind : ∀ (s : Shared) (u : Value), BindsTo s fd ⟨[u], []⟩ [(x, u)])
    (hsp : ∀ H : Hp, Only H → SqL K H a (ns.map V.int) → sp [.ref a] H (fun v _ => v = .bl true) fun _ _ _ => False)
    (hCX : ∀ H e s', CX [] H s₁ (fun _ _ _ => False) e s' → False) :
    codeAny (model P w) callerA (.call (.ref fa) ⟨[.ref a], []⟩) (fun r s' => r = .ok (.ret (.bool true)) ∧ OldK s₁.heap s'.heap ∧ s'.os = s₁.os ∧ AllBare s'.gens) s₁ := by
  have rv := vals_ints hi
  have lenV := hi.length
  -- from an abstract heap in which nothing but the script may be tracked
  have core : ∀ H : Hp, Only H → SqL K H a (ns.map V.int) → HOk P w H s₁.heap → (∀ b, H b ≠ none → b = a) → (H a ≠ none → K.lookup a = none) →
      codeAny (model P w) callerA (.call (.ref fa) ⟨[.ref a], []⟩) (fun r s' => r = .ok (.ret (.bool true)) ∧ OldK s₁.heap s'.heap ∧ s'.os = s₁.os ∧ AllBare s'.gens) s₁ := by
    intro H hO hS hok hA hK
    have base_of : ∀ {b : Addr} {o : Obj}, s₁.heap.get? b = some o → H b = none → (hidT s₁.heap H).get? b = some o := fun e n => hidT_get e n
    have noA : ∀ {b : Addr} {o : Obj} {es : Array DictEntry} {ep : Nat}, s₁.heap.get? b = some o → o.data = .dict es ep → H b = none := fun {b o es ep} e d => by
      cases q : H b with
      | none => rfl
      | some u =>
        have e' : b = a := hA b (by rw [q]; simp)
        subst e'
        rw [ha] at e; cases e
        have d' : Data.seq vs.toArray _ = Data.dict es ep := d
        cases d'
    have nsK : ∀ {b : Addr} {m : Str → Option Value}, s₁.heap.Ns b m → (hidT s₁.heap H).Ns b m := fun {b m} ⟨o, es, ep, e, d, r⟩ => ⟨o, es, ep, base_of e (noA e d), d, r⟩
    have hKb : K.In (hidT s₁.heap H) := fun b o e => base_of (KX b o e) (by
      cases q : H b with
      | none => rfl
      | some u =>
        have e' : b = a := hA b (by rw [q]; simp)
        subst e'
        rw [hK (by rw [q]; simp)] at e; cases e)
    have hM : Mod K mg (hidT s₁.heap H) := ⟨hKb, nsK hns, ⟨mb, nsK hb, hbb⟩, let ⟨mc, h1, h2⟩ := hlim; ⟨mc, nsK h1, h2⟩⟩
    have e0 : Env0 P w K mg (hidT s₁.heap H) callerA [] s₁ H := ⟨rfl, hM, fun b o e => of_hidT e, Nat.le_of_eq (hidT_size _ _), trivial, fun b hb => absurd (show b ∈ ([] : List Addr) from hb) (by simp), hok, .of_eq hg⟩
    refine codeAny_mono ((F _ hKb (nsK hns)).run callerA [] s₁ H ⟨[.ref a], []⟩ [.ref a] [.ref a] _ _ hr e0 (hbind s₁ (.ref a)) (.cons rfl .nil) (hsp H hO hS)) fun r s' h => ?_
    cases r with
    | error e => exact (hCX H e s' h).elim
    | ok fl =>
      cases fl with
      | next => exact False.elim h
      | brk => exact False.elim h
      | cont => exact False.elim h
      | ret u =>
        obtain ⟨v, H', os, bare, un, hok', r', q⟩ := h
        have q' : v = .bl true := q
        subst q'
        obtain rfl : u = Value.bool true := r'
        refine ⟨rfl, OldK.of_keep fun b o e => ?_, os, bare⟩
        cases q : H b with
        | none => exact un.keep b o e q (by intro z; exact absurd (show b ∈ ([] : List Addr) from z) (by simp)) (by simp)
        | some u =>
          rcases hO b with z | ⟨ob, xs, z⟩
          · rw [q] at z; cases z
          · have z2 := un.frzs b ob _ z
            obtain ⟨e1, _⟩ := hok b _ z
            obtain ⟨e2, _⟩ := hok' b _ z2
            rw [e] at e1; cases e1
            exact e2
  cases hk : K.lookup a with
  | some o =>
    -- the script is one of the module's own objects
    have e := KX a o hk
    rw [ha] at e
    cases e
    refine core (fun _ => none) (fun _ => .inl rfl) (.inr ⟨_, vs.toArray, _, hk, rfl, rfl, rfl, by rw [List.size_toArray, lenV]; exact hl, by simpa using rv⟩) (fun b u z => by have z' : (none : Option HO) = some u := z; cases z') (fun b z => absurd rfl z) fun z => absurd rfl z
  | none =>
    refine core (fun b => if b = a then some (.frz { cls := .type "list", data := .seq vs.toArray } (.lst (ns.map V.int))) else none) (fun b => ?_) (.inl (.inr ⟨{ cls := .type "list", data := .seq vs.toArray }, if_pos rfl⟩)) (fun b u z => ?_) (fun b z => ?_) fun _ => hk
    · by_cases hb : b = a
      · exact .inr ⟨_, _, if_pos hb⟩
      · exact .inl (if_neg hb)
    · by_cases hb : b = a
      · have z' := (if_pos hb).symm.trans z
        cases z'
        subst hb
        exact ⟨ha, by rw [List.length_map]; exact hl, vs, _, rv, ha⟩
      · have z' := (if_neg hb).symm.trans z
        cases z'
    · by_cases hb : b = a
      · exact hb
      · exact absurd (if_neg hb) z
end L2
namespace L2
open PySem PySem.Spec PyProof.Rows
def defArgs (s : Stmt) : Arguments := match s with
  | .FunctionDef _ a _ _ _ _ _ _ _ _ => a
  | _ => { posonlyargs := [], args := [], vararg := none, kwonlyargs := [], kw_defaults := [], kwarg := none, defaults := [] }
def defBody (s : Stmt) : List Stmt := match s with
  | .FunctionDef _ _ b _ _ _ _ _ _ _ => b
  | _ => []
def defScope (s : Stmt) : Scope := match s with
  | .FunctionDef _ _ _ _ _ _ sc _ _ _ => sc
  | _ => { kind := .function, names := [], isGenerator := false, isCoroutine := false }
abbrev CX0 : CXT := fun _ _ _ _ _ _ => False
abbrev E0 : XK := fun _ _ _ => False
theorem pass0 {X : Cx} : Passes CX0 X E0 := fun _ _ _ _ _ _ _ h => h.elim
structure Fun (K : PySem.W.Frag) (x qual : Str) (st : Stmt) (f : Addr) (fd : FuncData) : Prop where
  ex : ∃ (oc : Value) (od : Option Addr) (kV doc pm : Value) (an : Option Addr) (cdv ct : Value) (osl : Array (Option Value)),
    fd = PySem.W.fnOf x qual (defArgs st) (defBody st) (defScope st) .none kV doc pm an cdv ct ∧ K.lookup f = some ⟨oc, od, .func fd, osl⟩ ∧ PySem.W.codeIn K cdv qual = true
  kp : PySem.W.keepIn K (.ref f) = true
section
variable {P : Program} {w : World} {K : PySem.W.Frag} {mg : Str → Option Value} {base : Heap}
theorem Fun.ok {x qual : Str} {st : Stmt} {f : Addr} {fd : FuncData} {N ps : List Str} {k : Nat} {sp : Sp} (F : Fun K x qual st f fd) (S : FnScope N ps (defScope st)) (len : ∀ vs H Q E, sp vs H Q E → vs.length = ps.length)
    (hbody : ∀ (cdv : Value) (A : Around) (outer : List Env) (s : Shared) (H : Hp) (vs : List V) (Q : VK) (E : XK), Room k (A.deeper (envOfC qual (defScope st) s.heap.objs.size f cdv)) → sp vs H Q E →
      ∃ t, PSs (cxOf CX0 P w K mg base N qual (defScope st) f cdv A outer s H E).nox (defBody st) t ∧ t { nx := fun _ H' => Q .non H', rt := Q } (start N vs) H) : FnOk P w K mg base CX0 (k + 1) f fd ps sp := by
  obtain ⟨oc, od, kV, doc, pm, an, cdv, ct, osl, rfl, lk, hcd⟩ := F.ex
  refine fn_of lk hcd S len fun A outer s H vs Q E hr hsp => ?_
  obtain ⟨t, h, q⟩ := hbody cdv A outer s H vs Q E hr hsp
  exact ⟨t, h.nox, q⟩
theorem Fun.binds {x qual : Str} {st : Stmt} {f : Addr} {fd : FuncData} {ps : List Str} (F : Fun K x qual st f fd)
    (h : ∀ (kV doc pm : Value) (an : Option Addr) (cdv ct : Value) (us : List Value), us.length = ps.length → bindArgs (PySem.W.fnOf x qual (defArgs st) (defBody st) (defScope st) .none kV doc pm an cdv ct) ⟨us, []⟩ = pure (ps.zip us)) : Binds K fd ps [] := by
  obtain ⟨oc, od, kV, doc, pm, an, cdv, ct, osl, rfl, lk, hcd⟩ := F.ex
  exact .all (h kV doc pm an cdv ct)
theorem fun_mk {x qual : Str} {st : Stmt} {f : Addr} {oc : Value} {od an : Option Addr} {osl : Array (Option Value)} {kV doc pm cdv ct : Value} (l : K.lookup f = some ⟨oc, od, .func (PySem.W.fnOf x qual (defArgs st) (defBody st) (defScope st) .none kV doc pm an cdv ct), osl⟩)
    (c : PySem.W.codeIn K cdv qual = true) (k : PySem.W.keepIn K (.ref f) = true) : Fun K x qual st f (PySem.W.fnOf x qual (defArgs st) (defBody st) (defScope st) .none kV doc pm an cdv ct) := ⟨⟨oc, od, kV, doc, pm, an, cdv, ct, osl, rfl, l, c⟩, k⟩
end
theorem iteF {A B : Prop} (h : B) : if false = true then A else B := by
  rw [if_neg Bool.false_ne_true]
  exact h
theorem iteT {A B : Prop} (h : A) : if true = true then A else B := by
  rw [if_pos rfl]
  exact h
def Same (H H' : Hp) : Prop := ∀ b o, H b = some o → H' b = some o
theorem Same.refl (H : Hp) : Same H H := fun _ _ h => h
theorem Same.trans {H H1 H2 : Hp} (a : Same H H1) (b : Same H1 H2) : Same H H2 := fun c o h => b c o (a c o h)
theorem Same.free {H H' : Hp} (e : Same H H') {l : Addr} (h : H' l = Option.none) : H l = Option.none := by
  cases q : H l with
  | none => rfl
  | some o =>
    rw [e l o q] at h
    cases h
theorem Same.seq {K : PySem.W.Frag} {H H' : Hp} {a : Addr} {xs : List V} (e : Same H H') (h : SqL K H a xs) : SqL K H' a xs := by
  rcases h with (h | ⟨o, h⟩) | h
  · exact .inl (.inl (e _ _ h))
  · exact .inl (.inr ⟨o, e _ _ h⟩)
  · exact .inr h
end L2
set_option maxHeartbeats 4000000
namespace L2
open PySem PySem.Spec PyProof.Rows
section
variable {κ : Type} [DecidableEq κ]
def valV (kvs : List (κ × V)) (k : κ) : Option V := (kvs.find? fun kv => decide (kv.1 = k)).map (·.2)
def putK (kvs : List (κ × V)) (k : κ) (v : V) : List (κ × V) :=
  if (kvs.any fun kv => decide (kv.1 = k)) = true then kvs.map (fun kv => if kv.1 = k then (kv.1, v) else kv) else kvs ++ [(k, v)]
theorem valV_pos {p : κ × V} {r : List (κ × V)} {k : κ} (e : p.1 = k) : valV (p :: r) k = some p.2 := by simp [valV, List.find?_cons, e]
theorem valV_neg {p : κ × V} {r : List (κ × V)} {k : κ} (e : ¬ p.1 = k) : valV (p :: r) k = valV r k := by simp [valV, List.find?_cons, e]
theorem valV_any (k : κ) : ∀ kvs : List (κ × V), (kvs.any fun kv => decide (kv.1 = k)) = (valV kvs k).isSome
  | [] => rfl
  | p :: r => by
    rw [List.any_cons]
    by_cases e : p.1 = k
    · simp only [valV_pos e, decide_eq_true e, Bool.true_or, Option.isSome_some]
    · rw [valV_neg e, decide_eq_false e, Bool.false_or]; exact valV_any k r
theorem length_putK (kvs : List (κ × V)) (k : κ) (v : V) : (putK kvs k v).length ≤ kvs.length + 1 := by
  unfold putK
  split
  · rw [List.length_map]; omega
  · rw [List.length_append, List.length_cons, List.length_nil]; omega
theorem RelO.isSome_eq {o : Option V} {u : Option Value} (r : RelO o u) : o.isSome = u.isSome := by
  cases o with
  | none => cases u with
    | none => rfl
    | some _ => exact (show False from r).elim
  | some _ => cases u with
    | none => exact (show False from r).elim
    | some _ => rfl
theorem KV.val {kvs : List (κ × V)} {vs : List (κ × Value)} (r : KV kvs vs) (k : κ) : RelO (valV kvs k) (valueAt vs k) := by
  unfold KV at r
  induction r with
  | nil => exact True.intro
  | @cons p q ps qs h t ih =>
    obtain ⟨h1, h2⟩ := h
    by_cases e : p.1 = k
    · have e' : q.1 = k := h1.symm.trans e
      have b : valueAt (q :: qs) k = some q.2 := by simp [valueAt, List.find?_cons, e']
      rw [valV_pos e, b]; exact h2
    · have e' : ¬ q.1 = k := fun z => e (h1.trans z)
      have b : valueAt (q :: qs) k = valueAt qs k := by simp [valueAt, List.find?_cons, e']
      rw [valV_neg e, b]; exact ih
theorem KV.any {kvs : List (κ × V)} {vs : List (κ × Value)} (r : KV kvs vs) (k : κ) : (kvs.any fun kv => decide (kv.1 = k)) = vs.any fun kv => decide (kv.1 = k) := by
  unfold KV at r
  induction r with
  | nil => rfl
  | cons h t ih => rw [List.any_cons, List.any_cons, ih, h.1]
theorem KV.repl {kvs : List (κ × V)} {vs : List (κ × Value)} (r : KV kvs vs) (k : κ) {y : V} {u : Value} (ry : RelV y u) :
    KV (kvs.map fun kv => if kv.1 = k then (kv.1, y) else kv) (vs.map fun kv => if kv.1 = k then (kv.1, u) else kv) := by
  unfold KV at r ⊢
  induction r with
  | nil => exact .nil
  | @cons p q ps qs h t ih =>
    rw [List.map_cons, List.map_cons]
    refine .cons ?_ ih
    obtain ⟨h1, h2⟩ := h
    by_cases e : p.1 = k
    · rw [if_pos e, if_pos (h1.symm.trans e)]; exact ⟨h1, ry⟩
    · rw [if_neg e, if_neg (fun z => e (h1.trans z))]; exact ⟨h1, h2⟩
theorem KV.put {kvs : List (κ × V)} {vs : List (κ × Value)} (r : KV kvs vs) (k : κ) {y : V} {u : Value} (ry : RelV y u) : KV (putK kvs k y) (stored vs k u) := by
  unfold putK stored
  rw [r.any k]
  by_cases e : (vs.any fun kv => decide (kv.1 = k)) = true
  · rw [if_pos e, if_pos e]; exact r.repl k ry
  · rw [if_neg e, if_neg e]; exact Paired.snoc r ⟨rfl, ry⟩
theorem KV.keys {kvs : List (κ × V)} {vs : List (κ × Value)} (r : KV kvs vs) : kvs.map (·.1) = vs.map (·.1) := by
  unfold KV at r
  induction r with
  | nil => rfl
  | cons h t ih => rw [List.map_cons, List.map_cons, ih, h.1]
theorem KV.length {kvs : List (κ × V)} {vs : List (κ × Value)} (r : KV kvs vs) : kvs.length = vs.length := Paired.length r
end
theorem kV_is {P : Program} {w : World} {k : Key} {u : Value} (r : RelV (kV k) u) : (mixKind P w).is k u = true := by
  cases k with
  | inl i => obtain ⟨t, e⟩ := (show ∃ t, u = Value.int i t from r); subst e; exact mixKind_int P w i t
  | inr x => obtain ⟨t, e⟩ := (show ∃ t, u = Value.str x t from r); subst e; exact mixKind_str P w x t
theorem items_are {P : Program} {w : World} : ∀ {ks : List Key} {us : List Value}, Vals (ks.map kV) us → ItemsAre (mixKind P w) ks us
  | [], _, r => by rw [List.map_nil] at r; cases r; exact .nil
  | k :: ks, _, r => by
    rw [List.map_cons] at r
    cases r with
    | cons h t => exact .cons (kV_is h) (items_are t)
abbrev KT (H : Hp) : List (List Key × V) → List (List Key × Addr × Value) → Prop := Paired fun p q => p.1 = q.1 ∧ H q.2.1 = some (.tup (p.1.map kV)) ∧ RelV p.2 q.2.2
theorem KT.val {H : Hp} {kvs : List (List Key × V)} {xs : List (List Key × Addr × Value)} (r : KT H kvs xs) (k : List Key) : RelO (valV kvs k) ((atKey xs k).map (·.2)) := by
  induction r with
  | nil => exact True.intro
  | @cons p q ps qs h t ih =>
    obtain ⟨h1, _, h2⟩ := h
    by_cases e : p.1 = k
    · have e' : q.1 = k := h1.symm.trans e
      have b : atKey (q :: qs) k = some q.2 := by simp [atKey, List.find?_cons, e']
      rw [valV_pos e, b]; exact h2
    · have e' : ¬ q.1 = k := fun z => e (h1.trans z)
      have b : atKey (q :: qs) k = atKey qs k := by simp [atKey, List.find?_cons, e']
      rw [valV_neg e, b]; exact ih
theorem KT.repl {H : Hp} {kvs : List (List Key × V)} {xs : List (List Key × Addr × Value)} (r : KT H kvs xs) (k : List Key) {y : V} {u : Value} (ry : RelV y u) :
    KT H (kvs.map fun kv => if kv.1 = k then (kv.1, y) else kv) (xs.map (putAt k u)) := by
  induction r with
  | nil => exact .nil
  | @cons p q ps qs h t ih =>
    rw [List.map_cons, List.map_cons]
    refine .cons ?_ ih
    obtain ⟨h1, h2, h3⟩ := h
    unfold putAt
    by_cases e : p.1 = k
    · rw [if_pos e, if_pos (h1.symm.trans e)]; exact ⟨h1, h2, ry⟩
    · rw [if_neg e, if_neg (fun z => e (h1.trans z))]; exact ⟨h1, h2, h3⟩
theorem KT.put {H : Hp} {kvs : List (List Key × V)} {xs : List (List Key × Addr × Value)} (r : KT H kvs xs) (k : List Key) {b : Addr} {y : V} {u : Value} (hb : H b = some (.tup (k.map kV))) (ry : RelV y u) :
    KT H (putK kvs k y) (storedH xs k b u) := by
  have e : (kvs.any fun kv => decide (kv.1 = k)) = (atKey xs k).isSome := by
    rw [valV_any, (r.val k).isSome_eq, Option.isSome_map]
  unfold putK storedH
  rw [e]
  by_cases q : (atKey xs k).isSome = true
  · rw [if_pos q, if_pos q]; exact r.repl k ry
  · rw [if_neg q, if_neg q]; exact Paired.snoc r ⟨rfl, hb, ry⟩
theorem KT.keeps {H H' : Hp} {kvs : List (List Key × V)} {xs : List (List Key × Addr × Value)} (r : KT H kvs xs) (ht : ∀ b ys, H b = some (.tup ys) → H' b = some (.tup ys)) : KT H' kvs xs :=
  Paired.mapP r fun _ _ z => ⟨z.1, ht _ _ z.2.1, z.2.2⟩
section
variable {P : Program} {w : World} {H : Hp} {h : Heap} {a : Addr}
theorem rd_of {u : HO} (ok : HOk P w H h) (e : Rd H a u) : ObjOk P w H h a u := e.ok ok
theorem dk_rd {kvs : List (Key × V)} (ok : HOk P w H h) (e : Rd H a (.dK kvs)) : kvs.length ≤ sizeLine ∧ (a == sysModules) = false ∧ ∃ vs, KV kvs vs ∧ h.DictOf (mixKind P w) a vs :=
  show ObjOk P w H h a (.dK kvs) from rd_of ok e
theorem dk_of {kvs : List (Key × V)} (ok : HOk P w H h) (e : H a = some (.dK kvs)) : kvs.length ≤ sizeLine ∧ (a == sysModules) = false ∧ ∃ vs, KV kvs vs ∧ h.DictOf (mixKind P w) a vs := dk_rd ok (.inl e)
theorem key_of {ks : List Key} (ok : HOk P w H h) (e : H a = some (.tup (ks.map kV))) : (tupleKind (mixKind P w)).is h ks a := by
  obtain ⟨_, its, r, o, h1, h2, ⟨n, h3⟩, _⟩ := (show ObjOk P w H h a (.tup (ks.map kV)) from ok a _ e)
  exact ⟨o, its.toArray, n, h1, h2, h3, by simpa using items_are r⟩
theorem dt_rd {kvs : List (List Key × V)} (ok : HOk P w H h) (e : Rd H a (.dT kvs)) : kvs.length ≤ sizeLine ∧ (a == sysModules) = false ∧
    ∃ xs, KT H kvs xs ∧ h.DictOfH (tupleKind (mixKind P w)) a xs := by
  obtain ⟨z, y, xs, r, o, es, ep, h1, h2, h3, h4, h5⟩ := (show ObjOk P w H h a (.dT kvs) from rd_of ok e)
  refine ⟨z, y, xs, r, o, es, ep, h1, h2, h3, h4, fun x hx => ?_, h5⟩
  have all : ∀ {l : List (List Key × V)} {m : List (List Key × Addr × Value)}, KT H l m → ∀ x ∈ m, (tupleKind (mixKind P w)).is h x.1 x.2.1 := by
    intro l m q
    induction q with
    | nil => intro x hx; exact nomatch hx
    | @cons p q ps qs hq t ih =>
      intro x hx
      rcases List.mem_cons.mp hx with e | hx
      · subst e
        exact key_of ok (by rw [← hq.1]; exact hq.2.1)
      · exact ih x hx
  exact all r x hx
theorem dt_of {kvs : List (List Key × V)} (ok : HOk P w H h) (e : H a = some (.dT kvs)) : kvs.length ≤ sizeLine ∧ (a == sysModules) = false ∧
    ∃ xs, KT H kvs xs ∧ h.DictOfH (tupleKind (mixKind P w)) a xs := dt_rd ok (.inl e)
end
def DGet (H : Hp) (a : Addr) (y : V) (r : Option V) : Prop :=
  (∃ kvs k, Rd H a (.dK kvs) ∧ y = kV k ∧ r = valV kvs k) ∨ ∃ kvs k b, Rd H a (.dT kvs) ∧ y = .ref b ∧ H b = some (.tup (k.map kV)) ∧ r = valV kvs k
def DPut (H : Hp) (a : Addr) (y v : V) (H' : Hp) : Prop :=
  (∃ kvs k, H a = some (.dK kvs) ∧ y = kV k ∧ kvs.length < sizeLine ∧ H' = upd H a (.dK (putK kvs k v))) ∨
  ∃ kvs k b, H a = some (.dT kvs) ∧ y = .ref b ∧ H b = some (.tup (k.map kV)) ∧ kvs.length < sizeLine ∧ H' = upd H a (.dT (putK kvs k v))
theorem DPut.k {H : Hp} {a : Addr} {kvs : List (Key × V)} {k : Key} {v : V} (e : H a = some (.dK kvs)) (hl : kvs.length < sizeLine) : DPut H a (kV k) v (upd H a (.dK (putK kvs k v))) := .inl ⟨kvs, k, e, rfl, hl, rfl⟩
section
variable {X : Cx} {pins : List (Addr × Obj)} {σ : St} {H : Hp} {s : Shared} {a : Addr} {y v : V} {u r : Value} {o : Option V} {A : Around} {E : Value → Shared → Prop}
theorem Inv.big (I : Inv X pins σ H s) : sysModules < s.heap.objs.size := by
  have h : mainGlobals < s.heap.objs.size := (I.mod.glob.keeps I.bk).lt
  exact Nat.lt_trans (by decide) h
theorem d_getItem {Q : Value → Shared → Prop} (hu : A.units + 1 < cLine) (I : Inv X pins σ H s) (g : DGet H a y (some v)) (ry : RelV y u) (h : ∀ w' s', Inv X pins σ H s' → RelV v w' → Q w' s') :
    wpAny (model X.prog X.w) A (getItem (.ref a) u) Q E s := by
  rcases g with ⟨kvs, k, e, ey, l⟩ | ⟨kvs, k, b, e, ey, eb, l⟩
  · subst ey
    obtain ⟨z, hd, vs, rel, dd⟩ := dk_rd I.hok e
    obtain ⟨w', hw, rw'⟩ := RelO.some_of (v := v) (o := valueAt vs k) (by rw [l]; exact rel.val k)
    exact wpAny_getItem_of (kV_is ry) dd.mapOf hw (h w' _ (I.tok _) rw')
  · subst ey
    cases (show u = Value.ref b from ry)
    obtain ⟨z, hd, xs, rel, dd⟩ := dt_rd I.hok e
    obtain ⟨w', hw, rw'⟩ := RelO.some_of (v := v) (o := (atKey xs k).map (·.2)) (by rw [l]; exact rel.val k)
    obtain ⟨p, hp, hp2⟩ := Option.map_eq_some_iff.mp hw
    refine wpAny_getItem_heap (tupleKind_room_in1 hu) (key_of I.hok eb) dd hp ?_
    rw [hp2]
    exact h w' _ (I.tok _) rw'
theorem d_write {h' : Heap} {t' : Nat} {ob : HO} (I : Inv X pins σ H s) (mu : Mut (H a)) (hs : Heap.SameBut a s.heap h') (he : ∃ q, h'.get? a = some q) (new : ObjOk X.prog X.w (upd H a ob) h' a ob) :
    Inv X pins σ (upd H a ob) { s with heap := h', toks := t' } :=
  I.write (x := a) (e := a) mu (.inl rfl) (fun b q hb z => (hs.2 b hb).trans z) he new
theorem dk_new {P : Program} {w : World} {H' : Hp} {h' : Heap} {kvs : List (Key × V)} {vs : List (Key × Value)} (z : kvs.length ≤ sizeLine) (hd : (a == sysModules) = false) (rel : KV kvs vs) (dd : h'.DictOf (mixKind P w) a vs) :
    ObjOk P w H' h' a (.dK kvs) := ⟨z, hd, vs, rel, dd⟩
theorem d_setItem {H' : Hp} {Q : Unit → Shared → Prop} (hu : A.units + 1 < cLine) (I : Inv X pins σ H s) (g : DPut H a y v H') (ry : RelV y u) (rv : RelV v r) (h : ∀ s', Inv X pins σ H' s' → Q () s') :
    wpAny (model X.prog X.w) A (setItem (.ref a) u r) Q E s := by
  rcases g with ⟨kvs, k, e, ey, l, eH⟩ | ⟨kvs, k, b, e, ey, eb, l, eH⟩
  · subst ey eH
    obtain ⟨z, hd, vs, rel, dd⟩ := dk_of I.hok e
    have hz : vs.length ≤ sizeLine := by rw [← rel.length]; exact z
    have hl : (putK kvs k v).length ≤ sizeLine := by have := length_putK kvs k v; omega
    refine wpAny_setItem_pairs (hsz := hz) (kV_is ry) dd fun h' dd' hs => h _ ?_
    have he : ∃ q, h'.get? a = some q := let ⟨q, _, _, hq, _⟩ := dd'; ⟨q, hq⟩
    exact d_write I (by rw [e]; exact True.intro) hs he (dk_new hl hd (rel.put k rv) dd')
  · subst ey eH
    cases (show u = Value.ref b from ry)
    obtain ⟨z, hd, xs, rel, dd⟩ := dt_of I.hok e
    have hz : xs.length ≤ sizeLine := by rw [← Paired.length rel]; exact z
    have hl : (putK kvs k v).length ≤ sizeLine := by have := length_putK kvs k v; omega
    refine wpAny_setItem_heap (hsz := hz) (tupleKind_room_in1 hu) (key_of I.hok eb) dd fun h' dd' hs => h _ ?_
    obtain ⟨q, es, ep, hq, h2, h3, h4, _, h5⟩ := dd'
    refine d_write I (by rw [e]; exact True.intro) hs ⟨q, hq⟩ ⟨hl, hd, _, (rel.put k eb rv).keeps fun c ys ec => ?_, q, es, ep, hq, h2, h3, h4, h5⟩
    rw [upd_ne (ne_of ec e (fun z => nomatch z))]
    exact ec
end
def NoSl (i : Expr) : Prop := ∀ ov iv, subscripted i false ov iv = operate [ov, iv] (getItem ov iv)
theorem subD_of {prog : Program} {w : World} {A : Around} {E : Value → Shared → Prop} {s : Shared} {env : Env} {value slice : Expr} {pos : Pos} {T id : String} {Q : Value → Shared → Prop}
    (hl : typeLookup (.type T) "__getitem__" = pure (some (.builtin id))) (hs : NoSl slice)
    (h : wpAny (model prog w) A (eval value env) (fun o s₁ => wpAny (model prog w) A (eval slice env) (fun i s₂ => s₂.TypeIs o T ∧ wpAny (model prog w) A (getItem o i) Q E s₂) E s₁) E s) :
    wpAny (model prog w) A (eval (.Subscript value slice pos) env) Q E s := by
  refine Subscript_ (wpAny_mono h (fun o s₁ h₁ => wpAny_mono h₁ (fun i s₂ h₂ => ?_) fun _ _ x => x) fun _ _ x => x)
  obtain ⟨hT, h₂⟩ := h₂
  unfold subscriptTail
  refine wpAny_bind ?_
  rw [getitemInPython_of_ne hT.not_modules]
  refine wpAny_bind (wpAny_specialOf hT hl ?_)
  have fin : wpAny (model prog w) A (subscripted slice false o i) (fun r s₃ => wpAny (model prog w) A (letTemporaryGo value o r >>= fun _ => pure r) Q E s₃) E s₂ := by
    rw [hs o i]
    exact wpAny_operating (wpAny_mono h₂ (fun r s₃ h₃ => wpAny_bind (wpAny_letTemporaryGo (wpAny_pure h₃))) fun _ _ x => x)
  first
    | exact wpAny_pure (wpAny_bind fin)
    | exact wpAny_bind (wpAny_pure (wpAny_bind fin))
    | exact wpAny_bind fin
theorem dict_typeIs {X : Cx} {pins : List (Addr × Obj)} {σ : St} {H : Hp} {s : Shared} {a : Addr} {y : V} {o : Option V} (I : Inv X pins σ H s) (g : DGet H a y o) : s.TypeIs (.ref a) "dict" := by
  rcases g with ⟨kvs, k, e, _, _⟩ | ⟨kvs, k, b, e, _, _, _⟩
  · obtain ⟨_, _, vs, _, dd⟩ := dk_rd I.hok e
    exact dd.typeIs
  · obtain ⟨_, _, xs, _, dd⟩ := dt_rd I.hok e
    exact dd.typeIs
def tDGet (td ty : TE) : TE := fun σ H Q => td σ H fun x H1 => ty σ H1 fun y H2 => ∃ a v, x = .ref a ∧ DGet H2 a y (some v) ∧ Q v H2
def sDPut (td ty tv : TE) : TS := fun D σ H => tv σ H fun v H1 => td σ H1 fun x H2 => ty σ H2 fun y H3 => ∃ a H4, x = .ref a ∧ DPut H3 a y v H4 ∧ D.nx σ H4
section
variable {X : Cx} {o i e value : Expr} {pos pos' tpos : Pos} {td ty tv : TE}
theorem pe_dget (hu : X.A.units + 1 < cLine) (ho : PE X o td) (hi : PE X i ty) (hs : NoSl i) : PE X (.Subscript o i pos) (tDGet td ty) := by
  intro pins s σ H Q I h
  refine subD_of PySem.F.slot_dict_getitem.lookup hs (thn (ho pins s σ H _ I h) fun u s1 ⟨x, H1, I1, rx, q1⟩ => thn (hi pins s1 σ H1 _ I1 q1) fun iv s2 ⟨y, H2, I2, ry, a, v, ex, g, q2⟩ => ?_)
  subst ex
  obtain rfl : u = Value.ref a := rx
  exact ⟨dict_typeIs I2 g, d_getItem hu I2 g ry fun w' s3 I3 rw' => ⟨v, H2, I3, rw', q2⟩⟩
theorem ps_dput (hu : X.A.units + 1 < cLine) (ho : PE X o td) (hi : PE X i ty) (hv : PE X value tv) (hs : swapsWith value (some (.Subscript o i pos')) pos.line X.env = pure false) :
    PS X (.Assign [.Subscript o i pos'] value pos) (sDPut td ty tv) := by
  intro pins s σ H D I h
  refine wpAny_Assign_Subscript (thn (hv pins s σ H _ I h) fun r s1 ⟨v, H1, I1, rv, q1⟩ => thn (ho pins s1 σ H1 _ I1 q1) fun u s2 ⟨x, H2, I2, rx, q2⟩ => thn (hi pins s2 σ H2 _ I2 q2) fun iv s3 ⟨y, H3, I3, ry, a, H4, ex, g, q3⟩ => ?_) hs
  subst ex
  obtain rfl : u = Value.ref a := rx
  exact d_setItem hu I3 g ry rv fun s4 I4 => ⟨σ, H4, I4, q3⟩
end
theorem dk_empty {P : Program} {w : World} {H : Hp} (h : Heap) (hb : sysModules < h.objs.size) : ObjOk P w H (h.push { cls := .type "dict", data := .dict #[] }) h.objs.size (.dK []) :=
  ⟨Nat.zero_le _, beq_eq_false_iff_ne.mpr (Ne.symm (Nat.ne_of_lt hb)), [], .nil, Heap.DictOf.new h⟩
def tDNewK : TE := fun _ H Q => ∀ p, H p = none → Q (.ref p) (upd H p (.dK []))
section
variable {X : Cx} {pos : Pos}
theorem pe_dnewK : PE X (.Dict [] [] pos) tDNewK := fun pins s σ H Q I h =>
  wpAny_Dict_empty ⟨.ref s.heap.objs.size, _, I.laid (a := s.heap.objs.size) (o := .dK []) (t' := s.toks) (fun _ _ q => Heap.get?_push_of_some _ q) (Nat.le_refl _) (dk_empty s.heap I.big), rfl, h _ (I.hok.fresh (Nat.le_refl _))⟩
end
end L2
namespace L2
open PySem PySem.Spec PyProof.Rows
def clOf (env : Env) : List (Str × NameKind) → List (Str × Addr) → List (Str × Addr)
  | [], acc => acc
  | (n, k) :: r, acc => if k == .free then clOf env r ((n, (env.cells.lookup n).getD 0) :: acc) else clOf env r acc
theorem closure_go {env : Env} (f : Str × NameKind → List (Str × Addr) → Sem (ForInStep (List (Str × Addr))))
    (hf : ∀ n k cs, f (n, k) cs = if k == .free then (do let a ← cellOf env n; pure (.yield ((n, a) :: cs))) else pure (.yield cs)) :
    ∀ (names : List (Str × NameKind)) (acc : List (Str × Addr)), (∀ n, (n, NameKind.free) ∈ names → ∃ c, env.cells.lookup n = some c) → forIn names acc f = pure (clOf env names acc)
  | [], acc, _ => by rw [List.forIn_nil]; rfl
  | (n, k) :: r, acc, h => by
    have ih := closure_go f hf r
    have hr : ∀ n, (n, NameKind.free) ∈ r → ∃ c, env.cells.lookup n = some c := fun m hm => h m (List.mem_cons_of_mem _ hm)
    rw [List.forIn_cons, hf]
    cases hk : k == NameKind.free with
    | true =>
      have hk' : k = .free := by simpa using hk
      obtain ⟨c, hc⟩ := h n (by rw [hk']; exact List.mem_cons_self)
      rw [if_pos rfl]
      unfold cellOf
      rw [hc]
      simp only [pure_bind]
      rw [ih _ hr]
      conv => rhs; unfold clOf
      rw [if_pos hk, hc]
      rfl
    | false =>
      rw [if_neg (by simp)]
      simp only [pure_bind]
      rw [ih _ hr]
      conv => rhs; unfold clOf
      rw [if_neg (by simp [hk])]
theorem closure_eq {scope : Scope} {env : Env} (h : ∀ n, (n, NameKind.free) ∈ scope.names → ∃ c, env.cells.lookup n = some c) : closureFor scope env = pure (clOf env scope.names []) := by
  simp only [closureFor]
  rw [closure_go (env := env) _ (fun n k cs => by cases hk : k == NameKind.free <;> simp [hk]) _ _ h]
  rfl
theorem clOf_acc {env : Env} : ∀ (names : List (Str × NameKind)) (acc : List (Str × Addr)) (x : Str) (c : Addr), (∀ n, (n, NameKind.free) ∈ names → ∃ c, env.cells.lookup n = some c) →
    (∀ y d, acc.lookup y = some d → env.cells.lookup y = some d) → (clOf env names acc).lookup x = some c → env.cells.lookup x = some c
  | [], acc, x, c, _, ha, h => ha x c h
  | (n, k) :: r, acc, x, c, hn, ha, h => by
    have hr : ∀ n, (n, NameKind.free) ∈ r → ∃ c, env.cells.lookup n = some c := fun m hm => hn m (List.mem_cons_of_mem _ hm)
    unfold clOf at h
    split at h
    · rename_i hk
      have hk' : k = .free := by simpa using hk
      obtain ⟨d, hd⟩ := hn n (by rw [hk']; exact List.mem_cons_self)
      refine clOf_acc r _ x c hr (fun y e he => ?_) h
      rw [List.lookup_cons] at he
      cases hy : y == n with
      | true =>
        rw [hy] at he
        have e1 : y = n := by simpa using hy
        rw [e1, hd]
        rw [hd] at he
        exact he
      | false =>
        rw [hy] at he
        exact ha y e he
    · exact clOf_acc r acc x c hr ha h
theorem clOf_keep {env : Env} : ∀ (names : List (Str × NameKind)) (acc : List (Str × Addr)) (x : Str), (acc.lookup x).isSome = true → ((clOf env names acc).lookup x).isSome = true
  | [], acc, x, h => h
  | (n, k) :: r, acc, x, h => by
    unfold clOf
    split
    · refine clOf_keep r _ x ?_
      rw [List.lookup_cons]
      split
      · rfl
      · exact h
    · exact clOf_keep r acc x h
theorem clOf_has {env : Env} : ∀ (names : List (Str × NameKind)) (acc : List (Str × Addr)) (x : Str), (x, NameKind.free) ∈ names → ((clOf env names acc).lookup x).isSome = true
  | [], acc, x, h => nomatch h
  | (n, k) :: r, acc, x, h => by
    unfold clOf
    rcases List.mem_cons.mp h with e | h
    · obtain ⟨e1, e2⟩ := Prod.mk.inj e
      subst e1 e2
      rw [if_pos (by rfl)]
      refine clOf_keep r _ x ?_
      rw [List.lookup_cons]
      simp
    · split
      · exact clOf_has r _ x h
      · exact clOf_has r acc x h
theorem cellsFrom_app : ∀ (names : List (Str × NameKind)) (n : Nat) (acc : List (Str × Addr)), cellsFrom n names acc = cellsFrom n names [] ++ acc
  | [], n, acc => rfl
  | (x, k) :: r, n, acc => by
    unfold cellsFrom
    split
    · rw [cellsFrom_app r (n + 1) ((x, n) :: acc), cellsFrom_app r (n + 1) [(x, n)], List.append_assoc]
      rfl
    · exact cellsFrom_app r n acc
theorem mem_cellsFrom : ∀ (names : List (Str × NameKind)) (n : Nat) (x : Str) (c : Addr), (x, c) ∈ cellsFrom n names [] → (x, NameKind.cell) ∈ names
  | [], n, x, c, h => nomatch h
  | (y, k) :: r, n, x, c, h => by
    unfold cellsFrom at h
    split at h
    · rename_i hk
      have hk' : k = .cell := by simpa using hk
      rw [cellsFrom_app] at h
      rcases List.mem_append.mp h with h | h
      · exact List.mem_cons_of_mem _ (mem_cellsFrom r _ x c h)
      · have e := List.mem_singleton.mp h
        cases e
        rw [hk']
        exact List.mem_cons_self
    · exact List.mem_cons_of_mem _ (mem_cellsFrom r _ x c h)
theorem lookup_app {α : Type} : ∀ (l m : List (Str × α)) (x : Str), (l ++ m).lookup x = match l.lookup x with | some v => some v | none => m.lookup x
  | [], m, x => rfl
  | (k, v) :: r, m, x => by
    rw [List.cons_append, List.lookup_cons, List.lookup_cons]
    cases h : x == k with
    | true => rfl
    | false => exact lookup_app r m x
theorem lookup_none_of {α : Type} : ∀ (l : List (Str × α)) (x : Str), (∀ v, (x, v) ∉ l) → l.lookup x = none
  | [], x, _ => rfl
  | (k, v) :: r, x, h => by
    rw [List.lookup_cons]
    cases e : x == k with
    | true =>
      have e' : x = k := by simpa using e
      exact absurd (by rw [e']; exact List.mem_cons_self) (h v)
    | false => exact lookup_none_of r x fun w hw => h w (List.mem_cons_of_mem _ hw)
theorem lookup_mem {α : Type} : ∀ (l : List (Str × α)) (x : Str) (v : α), l.lookup x = some v → (x, v) ∈ l
  | [], x, v, h => nomatch h
  | (k, w) :: r, x, v, h => by
    rw [List.lookup_cons] at h
    cases e : x == k with
    | true =>
      rw [e] at h
      cases h
      have e' : x = k := by simpa using e
      rw [e']
      exact List.mem_cons_self
    | false =>
      rw [e] at h
      exact List.mem_cons_of_mem _ (lookup_mem r x v h)
theorem lookup_of_mem {α : Type} : ∀ (l : List (Str × α)) (x : Str) (v : α), (l.map (·.1)).Nodup → (x, v) ∈ l → l.lookup x = some v
  | [], x, v, _, h => nomatch h
  | (k, w) :: r, x, v, nd, h => by
    rw [List.lookup_cons]
    have nd' := List.nodup_cons.mp nd
    rcases List.mem_cons.mp h with e | h
    · cases e
      simp
    · have hne : ¬ x = k := fun e => nd'.1 (by rw [← e]; exact List.mem_map.mpr ⟨(x, v), h, rfl⟩)
      have hb : (x == k) = false := by simpa using hne
      rw [hb]
      exact lookup_of_mem r x v nd'.2 h
theorem newEnv_comp {M : Model} {A : Around} {E : Value → Shared → Prop} {s : Shared} {scope : Scope} {globals : Addr} {cl : List (Str × Addr)} {qual : Str} {outer : Env} {Q : Env → Shared → Prop}
    (hQ : ∀ h', h'.Ns s.heap.objs.size (fun _ => none) → (∀ b o, s.heap.get? b = some o → h'.get? b = some o) → CellsOk h' (s.heap.objs.size + 1) (cellsFrom (s.heap.objs.size + 1) scope.names []) →
      Q { scope, locals := s.heap.objs.size, globals, cells := cellsFrom (s.heap.objs.size + 1) scope.names cl, qual, func := none, code := outer.code, frame := outer.frame, builtins := outer.builtins } { s with heap := h' }) :
    wpAny M A (newFunctionEnv scope globals cl [] qual none .none (some outer)) Q E s := by
  simp only [newFunctionEnv, Option.isSome_some, if_true]
  refine wpAny_bind (wpAny_alloc ?_)
  refine wpAny_bind (wpAny_layCells _ (fun name kind cells => by cases hkc : kind == NameKind.cell <;> simp [hkc]) _ _ _ _ ?_)
  have ok := cellsFrom_ok scope.names (s.heap.push { cls := .type "dict", data := .dict #[] }) (s.heap.objs.size + 1) [] ⟨fun _ _ hm => (nomatch hm), List.Pairwise.nil⟩ (by rw [Heap.size_push]; exact Nat.le_refl _)
  rw [Heap.size_push] at ok
  rw [show ({ s with heap := s.heap.push { cls := .type "dict", data := .dict #[] } } : Shared).heap.objs.size = s.heap.objs.size + 1 from Heap.size_push ..]
  refine wpAny_bind ?_
  rw [List.forIn_nil]
  refine wpAny_pure (wpAny_pure (hQ _ ?_ ?_ ?_))
  · exact (Heap.Ns.new s.heap (.type "dict")).keeps (pushCells_keeps _ _)
  · exact fun b o e => pushCells_keeps _ _ b o (Heap.get?_push_of_some _ e)
  · exact ok
end L2
namespace L2
open PySem PySem.Spec PyProof.Rows
def cxC (X : Cx) (scope : Scope) (N' : List Str) (cells : List (Str × Addr)) (C : Addr) (s0 : Shared) (H0 : Hp) (fp : List Addr) : Cx :=
  { X with N := N', s₀ := s0, H₀ := H0, env := compEnvC scope cells C X.env, outer := X.stack, stack := X.stack, ex := fp, fn := fun x => decide (scope.names.lookup x = some .cell), pn := [], xe := fun _ _ => False }
theorem lookup_relabel {env : Env} : ∀ (names : List (Str × NameKind)) (x : Str),
    (names.map fun (n, k) => if (k == NameKind.free && env.scope.kind == .function && env.kindOf n == some .cell) then (n, NameKind.cell) else (n, k)).lookup x =
      (names.lookup x).map fun k => if (k == NameKind.free && env.scope.kind == .function && env.kindOf x == some .cell) then NameKind.cell else k
  | [], x => rfl
  | (n, k) :: r, x => by
    show List.lookup x ((if (k == NameKind.free && env.scope.kind == .function && env.kindOf n == some .cell) = true then (n, NameKind.cell) else (n, k)) :: _) = _
    cases hx : x == n with
    | true =>
      have e : x = n := by simpa using hx
      subst e
      simp only [List.lookup_cons, hx, Option.map_some]
      split <;> simp [List.lookup_cons]
    | false =>
      simp only [List.lookup_cons, hx]
      rw [← lookup_relabel r x]
      split <;> simp only [List.lookup_cons, hx]
def chkC (names : List (Str × NameKind)) : List Str → List Str → Bool
  | _, [] => true
  | [], _ :: _ => false
  | x' :: N', x :: N => ((names.lookup x').isNone || (x' == x && names.lookup x' == some .free)) && chkC names N' N
theorem chkC_get {names : List (Str × NameKind)} : ∀ {N' N : List Str}, chkC names N' N = true → ∀ (i : Nat) (x : Str), i < N.length → N'[i]? = some x → (names.lookup x).isSome = true → N[i]? = some x ∧ names.lookup x = some .free
  | _, [], _, i, x, h, _, _ => absurd h (Nat.not_lt_zero _)
  | [], _ :: _, h, _, _, _, _, _ => by cases h
  | x' :: N', y :: N, h, i, x, hi, e, hs => by
    unfold chkC at h
    have h1 := (Bool.and_eq_true_iff.mp h).1
    have h2 := (Bool.and_eq_true_iff.mp h).2
    cases i with
    | zero =>
      have e' : x' = x := by simpa using e
      subst e'
      rcases Bool.or_eq_true_iff.mp h1 with q | q
      · cases z : names.lookup x' with
        | none => rw [z] at hs; cases hs
        | some k => rw [z] at q; cases q
      · have q1 := (Bool.and_eq_true_iff.mp q).1
        have q2 := (Bool.and_eq_true_iff.mp q).2
        have e1 : x' = y := by simpa using q1
        have e2 : names.lookup x' = some .free := by simpa using q2
        exact ⟨by rw [e1]; rfl, e2⟩
    | succ i => exact chkC_get h2 i x (by simpa using hi) (by simpa using e) hs
structure CompOk (X : Cx) (scope : Scope) (N' : List Str) : Prop where
  kind : scope.kind = .function
  nd : (scope.names.map (·.1)).Nodup
  free : ∀ x ∈ scope.names, x.2 = .free → X.env.kindOf x.1 = some .cell ∨ X.env.kindOf x.1 = some .free
  chk : chkC scope.names N' X.N = true
  len : X.N.length ≤ N'.length
def PIf (X : Cx) (ifs : List Expr) (t : TT) : Prop :=
  ∀ (pins : List (Addr × Obj)) (s : Shared) (σ : St) (H : Hp) (Q : Bool → Hp → Prop), Inv X pins σ H s → t σ H Q →
    wpAny (model X.prog X.w) X.A (forIn ifs true fun c r => if r = true then do let ok ← isTrue c X.env (eval c X.env); pure (ForInStep.yield ok) else pure (ForInStep.yield r)) (TP X pins σ Q) X.xe s
theorem pif_nil {X : Cx} : PIf X [] (fun _ H Q => Q true H) := fun pins s σ H Q I h => by
  rw [List.forIn_nil]
  exact wpAny_pure ⟨H, I, h⟩
theorem pif_one {X : Cx} {c : Expr} {t : TT} (h : PT X c t) : PIf X [c] t := fun pins s σ H Q I hw => by
  rw [List.forIn_cons, if_pos rfl]
  refine wpAny_bind (wpAny_bind (thn (h pins s σ H Q I hw) fun b s' q => ?_))
  refine wpAny_pure ?_
  show wpAny _ _ (forIn [] b _) _ _ _
  rw [List.forIn_nil]
  exact wpAny_pure q
def padS (n : Nat) (σ : St) : St := σ ++ List.replicate n none
def tLC (n : Nat) (wi : TI) (g : TG) (tc : TT) (te : TE) : TE := fun σ H Q => wi σ H fun J H1 => ∀ d, H1 d = none → ∃ W : Nat → Nat → St → Hp → Prop, (∃ m, W 0 m (padS (n - σ.length) σ) (upd H1 d (.lst []))) ∧ ∀ i m σ' H', W i m σ' H' →
  (J.stop i H' ∧ Q (.ref d) H') ∨ (J.go i H' ∧ ∃ N : St → Hp → Prop, (∀ σ2 H2, N σ2 H2 → ∃ m', m' < m ∧ W (i + 1) m' σ2 H2) ∧ ∀ x H2, J.yld i H' x H2 → g x σ' H2 fun σ3 H3 => tc σ3 H3 fun b H4 =>
    if b = true then te σ3 H4 fun y H5 => ∃ ys, H5 d = some (.lst ys) ∧ ys.length < sizeLine ∧ N σ3 (upd H5 d (.lst (ys ++ [y]))) else N σ3 H4)
section
variable {prog : Program} {w : World} {A : Around} {R : Result → Shared → Prop} {s : Shared}
theorem compLoop_any {elt target iter : Expr} {ifs : List Expr} {scope : Scope} {pos : Pos} {it acc : Value} {env : Env} (I : Nat → Shared → Prop)
    (turn : ∀ n s, I n s → wpAny (model prog w) A (pyNext it) (fun r s₁ => match r with
      | none => R (.ok .next) s₁
      | some v => wpAny (model prog w) A (letOwnedTupleGo target it v) (fun _ s₁' => wpAny (model prog w) A (assign target env v) (fun _ s₂ =>
          wpAny (model prog w) A (forIn ifs true fun c r => if r = true then do let ok ← isTrue c env (eval c env); pure (ForInStep.yield ok) else pure (ForInStep.yield r)) (fun ok s₃ =>
            if ok = true then wpAny (model prog w) A (eval elt env) (fun x s₄ =>
              wpAny (model prog w) A (call (.builtin "list.append") [acc, x]) (fun _ s₅ => ∃ m, m < n ∧ I m s₅) (fun _ _ => False) s₄) (fun _ _ => False) s₃
            else ∃ m, m < n ∧ I m s₃) (fun _ _ => False) s₂) (fun _ _ => False) s₁') (fun _ _ => False) s₁) (fun _ _ => False) s)
    (n : Nat) (h : I n s) :
    codeAny (model prog w) A (.compLoop (.ListComp elt [⟨target, iter, ifs, 0⟩] scope pos) 0 it acc env) R s := by
  refine codeAny_loop rfl I (fun n s hI => ?_) n h
  show wpAny _ A ((compTurn (.ListComp elt [⟨target, iter, ifs, 0⟩] scope pos) 0 it acc env).onRaise (fun x => do noteFrame x env; theTreesLotGoes x)) _ _ s
  refine wpAny_noted ?_
  rw [compTurn_list]
  refine wpAny_bind (wpAny_standAt (wpAny_bind (wpAny_mono (turn n s hI) (fun r s₁ h₁ => ?_) fun _ _ h' => h'.elim)))
  cases r with
  | none => exact wpAny_pure h₁
  | some v =>
    refine wpAny_bind (wpAny_mono h₁ (fun _ s₁' h₁' => ?_) fun _ _ h' => h'.elim)
    refine wpAny_bind (wpAny_mono h₁' (fun _ s₂ h₂ => wpAny_bind (wpAny_mono h₂ (fun ok s₃ h₃ => ?_) fun _ _ h' => h'.elim)) fun _ _ h' => h'.elim)
    cases ok with
    | false => exact wpAny_pure ⟨rfl, h₃⟩
    | true =>
      exact wpAny_bind (wpAny_bind (wpAny_mono h₃ (fun x s₄ h₄ => wpAny_bind (wpAny_mono h₄ (fun _ s₅ h₅ => wpAny_pure (wpAny_pure ⟨rfl, h₅⟩)) fun _ _ h' => h'.elim)) fun _ _ h' => h'.elim))
end
theorem inv_comp {X : Cx} {scope : Scope} {N' : List Str} {pins : List (Addr × Obj)} {σ : St} {H : Hp} {s : Shared} {h' : Heap} {fp : List Addr} (ok : CompOk X scope N') (I : Inv X pins σ H s) (hf : ∀ b ∈ fp, FpOk X pins H b) (hlt : ∀ b ∈ fp, b < s.heap.objs.size)
    (hn : h'.Ns s.heap.objs.size (fun _ => none)) (hk : ∀ b o, s.heap.get? b = some o → h'.get? b = some o) (co : CellsOk h' (s.heap.objs.size + 1) (cellsFrom (s.heap.objs.size + 1) scope.names [])) :
    Inv (cxC X scope N' (cellsFrom (s.heap.objs.size + 1) scope.names (clOf X.env scope.names [])) s.heap.objs.size s H fp) [] (padS (N'.length - σ.length) σ) H { s with heap := h' } := by
  have hfree : ∀ n, (n, NameKind.free) ∈ scope.names → ∃ c, X.env.cells.lookup n = some c := fun n hm => I.ok.has n (ok.free _ hm rfl)
  -- the cells by name
  have cell_of : ∀ x c, (cellsFrom (s.heap.objs.size + 1) scope.names (clOf X.env scope.names [])).lookup x = some c →
      ((x, c) ∈ cellsFrom (s.heap.objs.size + 1) scope.names [] ∧ (cellsFrom (s.heap.objs.size + 1) scope.names []).lookup x = some c) ∨ ((cellsFrom (s.heap.objs.size + 1) scope.names []).lookup x = none ∧ X.env.cells.lookup x = some c) := fun x c e => by
    rw [cellsFrom_app, lookup_app] at e
    cases q : (cellsFrom (s.heap.objs.size + 1) scope.names []).lookup x with
    | some d => rw [q] at e; cases e; exact .inl ⟨lookup_mem _ _ _ q, rfl⟩
    | none => rw [q] at e; exact .inr ⟨rfl, clOf_acc _ _ x c hfree (fun y d h => by simp at h) e⟩
  have own_ge : ∀ x c, (x, c) ∈ cellsFrom (s.heap.objs.size + 1) scope.names [] → s.heap.objs.size + 1 ≤ c := fun x c h => (co.empty x c h).2
  have out_lt : ∀ x c, X.env.cells.lookup x = some c → c < s.heap.objs.size := fun x c h => let ⟨v, q⟩ := I.cell x c h; q.lt
  have kind_of : ∀ x, (relabel scope X.env).names.lookup x = (scope.names.lookup x).map fun k => if (k == NameKind.free && X.env.scope.kind == .function && X.env.kindOf x == some .cell) then NameKind.cell else k := fun x => lookup_relabel _ _
  have has_cell : ∀ x, (x, NameKind.cell) ∈ scope.names → ∃ c, (cellsFrom (s.heap.objs.size + 1) scope.names []).lookup x = some c := fun x hx => by
    have q := PySem.W.cellsFrom_some scope.names (s.heap.objs.size + 1) [] (.inl (lookup_of_mem _ _ _ ok.nd hx))
    exact Option.isSome_iff_exists.mp q
  have fpC : ∀ b ∈ fp, ∀ x c, (cellsFrom (s.heap.objs.size + 1) scope.names (clOf X.env scope.names [])).lookup x = some c → c ≠ b := fun b hb x c e => by
    rcases cell_of x c e with ⟨h1, _⟩ | ⟨_, h2⟩
    · have h3 := own_ge x c h1
      have h4 := hlt b hb
      rintro rfl
      exact absurd (Nat.lt_of_lt_of_le h4 (Nat.le_of_succ_le h3)) (Nat.lt_irrefl _)
    · exact (hf b hb).2.2.2.2.1 x c h2
  refine ⟨⟨I.ok.mod, ok.kind, I.ok.glob, I.ok.blt, Nat.le_refl _, fun x y c h1 h2 => ?_, fun x hx => ?_, fun x c hx e => ?_, I.ok.hd, I.ok.frames, .inl rfl, fun b hb => ⟨Nat.ne_of_lt (hlt b hb), fun x c e => fpC b hb x c e⟩, I.bs, Nat.le_trans I.ok.bsz I.sz, fun b o e hb => ?_, fun b hb => ?_, I.stack, I.stkFree⟩,
    rfl, I.bare, Un.kept hk, ⟨_, hn, fun i x v e1 e2 e3 => ?_⟩, fun x c e => ?_, I.hok.fresh (Nat.le_refl _), fun x c e => ?_, fun p hp => absurd (show p ∈ ([] : List (Addr × Obj)) from hp) (by simp), I.hok.kept hk, ?_⟩
  · -- one name a cell
    rcases cell_of x c h1 with ⟨p1, _⟩ | ⟨_, p2⟩
    · rcases cell_of y c h2 with ⟨q1, _⟩ | ⟨_, q2⟩
      · exact name_of_addr co.apart p1 q1
      · exact absurd (Nat.lt_of_lt_of_le (out_lt y c q2) (Nat.le_of_succ_le (own_ge x c p1))) (Nat.lt_irrefl _)
    · rcases cell_of y c h2 with ⟨q1, _⟩ | ⟨_, q2⟩
      · exact absurd (Nat.lt_of_lt_of_le (out_lt x c p2) (Nat.le_of_succ_le (own_ge y c q1))) (Nat.lt_irrefl _)
      · exact I.ok.inj x y c p2 q2
  · -- each cell name has one
    show ∃ c, (cellsFrom (s.heap.objs.size + 1) scope.names (clOf X.env scope.names [])).lookup x = some c
    have hx : (relabel scope X.env).names.lookup x = some .cell ∨ (relabel scope X.env).names.lookup x = some .free := hx
    rw [kind_of] at hx
    cases q : scope.names.lookup x with
    | none => rw [q] at hx; rcases hx with hx | hx <;> cases hx
    | some k =>
      rw [q] at hx
      rw [cellsFrom_app, lookup_app]
      cases z : (cellsFrom (s.heap.objs.size + 1) scope.names []).lookup x with
      | some d => exact ⟨d, rfl⟩
      | none =>
        have hkf : k = .free := by
          cases k with
          | free => rfl
          | cell => obtain ⟨c, hc⟩ := has_cell x (lookup_mem _ _ _ q); rw [hc] at z; cases z
          | _ => rcases hx with hx | hx <;> simp at hx
        subst hkf
        exact Option.isSome_iff_exists.mp (clOf_has _ _ x (lookup_mem _ _ _ q))
  · -- its own cells are new
    have hx' : scope.names.lookup x = some .cell := of_decide_eq_true hx
    rcases cell_of x c e with ⟨p1, _⟩ | ⟨p1, _⟩
    · exact Nat.le_of_succ_le (own_ge x c p1)
    · obtain ⟨d, hd⟩ := has_cell x (lookup_mem _ _ _ hx')
      rw [hd] at p1; cases p1
  · rcases (hf b hb).2.2.2.1 with z | z
    · exact I.ok.noex b o e z
    · have h1 := Heap.lt_size e
      have h2 := I.ok.bsz
      exact absurd (Nat.lt_of_lt_of_le h1 (Nat.le_trans h2 z)) (Nat.lt_irrefl _)
  · intro hm
    rcases List.mem_cons.mp (I.stkSub b hm) with z | z
    · exact (hf b hb).2.1 z
    · exact (hf b hb).2.2.1 z
  · -- the names
    have hiσ : i < σ.length := by
      by_cases hi : i < σ.length
      · exact hi
      · unfold padS at e2
        rw [List.getElem?_append_right (by omega), List.getElem?_replicate] at e2
        split at e2 <;> cases e2
    have e2' : σ[i]? = some (some v) := by
      unfold padS at e2
      rwa [List.getElem?_append_left hiσ] at e2
    have vis : (scope.names.lookup x).isSome = true := by
      have e3 : (relabel scope X.env).names.lookup x = some .local ∨ (relabel scope X.env).names.lookup x = some .cell ∨ (relabel scope X.env).names.lookup x = some .free := e3
      rw [kind_of] at e3
      cases q : scope.names.lookup x with
      | none => rw [q] at e3; rcases e3 with z | z | z <;> cases z
      | some k => rfl
    obtain ⟨hN, hfr⟩ := chkC_get ok.chk i x (by rw [← I.len]; exact hiσ) e1 vis
    have hm := lookup_mem _ _ _ hfr
    have hkk := ok.free _ hm rfl
    obtain ⟨m, hns, hl⟩ := I.loc
    obtain ⟨u, ru, lk⟩ := hl i x v hN e2' (hkk.elim (fun z => .inr (.inl z)) fun z => .inr (.inr z))
    refine ⟨u, ru, .inr ⟨?_, ?_⟩⟩
    · show (relabel scope X.env).names.lookup x = some .cell ∨ (relabel scope X.env).names.lookup x = some .free
      rw [kind_of, hfr]
      by_cases hc : (NameKind.free == NameKind.free && X.env.scope.kind == .function && X.env.kindOf x == some .cell) = true
      · left; rw [Option.map_some, if_pos hc]
      · right; rw [Option.map_some, if_neg hc]
    · rcases lk with ⟨hl1, _⟩ | ⟨_, c, hc, hcell⟩
      · rcases hkk with z | z <;> (rw [z] at hl1; cases hl1)
      · refine ⟨c, ?_, hcell.keeps hk⟩
        show (cellsFrom (s.heap.objs.size + 1) scope.names (clOf X.env scope.names [])).lookup x = some c
        rw [cellsFrom_app, lookup_app]
        have hno : (cellsFrom (s.heap.objs.size + 1) scope.names []).lookup x = none := lookup_none_of _ _ fun d hd => by
          have h1 := lookup_of_mem _ _ _ ok.nd (mem_cellsFrom _ _ _ _ hd)
          rw [hfr] at h1; cases h1
        rw [hno]
        obtain ⟨d, hd⟩ := Option.isSome_iff_exists.mp (clOf_has (env := X.env) scope.names [] x hm)
        have h2 := clOf_acc _ _ x d hfree (fun y d h => by simp at h) hd
        rw [hc] at h2
        show (clOf X.env scope.names []).lookup x = some c
        rw [hd, h2]
  · rcases cell_of x c e with ⟨p1, _⟩ | ⟨_, p2⟩
    · exact ⟨_, (co.empty x c p1).1⟩
    · obtain ⟨v, q⟩ := I.cell x c p2
      exact ⟨v, q.keeps hk⟩
  · rcases cell_of x c e with ⟨p1, _⟩ | ⟨_, p2⟩
    · exact I.hok.fresh (Nat.le_of_succ_le (own_ge x c p1))
    · exact I.freeC x c p2
  · show (padS (N'.length - σ.length) σ).length = N'.length
    unfold padS
    rw [List.length_append, List.length_replicate]
    have h1 := ok.len
    have h2 := I.len
    omega
end L2
namespace L2
open PySem PySem.Spec PyProof.Rows
abbrev CxAt (X : Cx) (scope : Scope) (N' : List Str) (X' : Cx) : Prop :=
  ∃ (cells : List (Str × Addr)) (C : Addr) (s0 : Shared) (H0 : Hp) (fp : List Addr), X' = cxC X scope N' cells C s0 H0 fp
theorem comp_core {X : Cx} {elt tg iter : Expr} {ifs : List Expr} {scope : Scope} {N' : List Str} {pos : Pos} {g : TG} {tc : TT} {te : TE} {use : Option (Value → Sem Unit)} {QQ : Value → Shared → Prop}
    (ok : CompOk X scope N') (hc : X.calm = true)
    (bg : ∀ X', CxAt X scope N' X' → PG X' tg g) (bc : ∀ X', CxAt X scope N' X' → PIf X' ifs tc) (be : ∀ X', CxAt X scope N' X' → PE X' elt te)
    {pins : List (Addr × Obj)} {s2 : Shared} {σ : St} {H2 : Hp} {Q : VK} {it : Addr} {fp : List Addr} {tn : Nat → Heap → Prop} {J : It} (I2 : Inv X pins σ H2 s2) (T : Turn X.prog X.w X.K tg J fp it tn) (st2 : tn 0 s2.heap) (f2 : ∀ b ∈ fp, FpOk X pins H2 b)
    (q : ∀ d, H2 d = none → ∃ W : Nat → Nat → St → Hp → Prop, (∃ m, W 0 m (padS (N'.length - σ.length) σ) (upd H2 d (.lst []))) ∧ ∀ i m σ' H', W i m σ' H' →
      (J.stop i H' ∧ Q (.ref d) H') ∨ (J.go i H' ∧ ∃ N : St → Hp → Prop, (∀ σ2 H2, N σ2 H2 → ∃ m', m' < m ∧ W (i + 1) m' σ2 H2) ∧ ∀ x H2, J.yld i H' x H2 → g x σ' H2 fun σ3 H3 => tc σ3 H3 fun b H4 =>
        if b = true then te σ3 H4 fun y H5 => ∃ ys, H5 d = some (.lst ys) ∧ ys.length < sizeLine ∧ N σ3 (upd H5 d (.lst (ys ++ [y]))) else N σ3 H4))
    (fin : ∀ d C m s' H', Inv X pins σ H' s' → Q (.ref d) H' → s'.heap.Ns C m → H' C = none → C ≠ X.env.locals → X.s₀.heap.objs.size ≤ C → (∀ x c, X.env.cells.lookup x = some c → c ≠ C) → (∀ p ∈ X.pn ++ pins, p.1 ≠ C) →
      compPost (model X.prog X.w) X.A X.xe use QQ (.ref d) C (.ok .next) s') :
    wpAny (model X.prog X.w) X.A (newList []) (fun acc s₃ => wpAny (model X.prog X.w) X.A (newFunctionEnv scope X.env.globals (clOf X.env scope.names []) [] X.env.qual none .none (some X.env)) (fun cenv s₄ =>
      codeAny (model X.prog X.w) X.A (.compStart (.ListComp elt [⟨tg, iter, ifs, 0⟩] scope pos) 0 (.ref it) acc { cenv with scope := relabel scope X.env }) (compPost (model X.prog X.w) X.A X.xe use QQ acc cenv.locals) s₄) X.xe s₃) X.xe s2 := by
  have hd2 : H2 s2.heap.objs.size = none := I2.fresh
  refine wpAny_newObj_type (newEnv_comp fun h' hns hkeep hco => ?_)
  -- the state behind the list
  obtain ⟨W, ⟨m0, w0⟩, turn⟩ := q s2.heap.objs.size hd2
  have I3 : Inv X pins σ (upd H2 s2.heap.objs.size (.lst [])) { s2 with heap := s2.heap.push { cls := .type "list", data := .seq ([] : List Value).toArray } } := I2.lnew (t' := s2.toks) .nil (Nat.zero_le _)
  have lt2 : ∀ b ∈ fp, b < s2.heap.objs.size := fun b hb => by
    obtain ⟨o, e, _⟩ := T.obj _ _ st2 b hb
    exact Heap.lt_size e
  have f3 : ∀ b ∈ fp, FpOk X pins (upd H2 s2.heap.objs.size (.lst [])) b := fun b hb => by
    refine ⟨?_, (f2 b hb).2⟩
    rw [upd_ne (Nat.ne_of_lt (lt2 b hb))]
    exact (f2 b hb).1
  have lt3 : ∀ b ∈ fp, b < ({ s2 with heap := s2.heap.push { cls := .type "list", data := .seq ([] : List Value).toArray } } : Shared).heap.objs.size := fun b hb => by
    show b < (s2.heap.push _).objs.size
    rw [Heap.size_push]
    exact Nat.lt_succ_of_lt (lt2 b hb)
  have st3 : tn 0 h' := T.keep _ _ _ st2 fun b hb o e => hkeep b o (Heap.get?_push_of_some _ e)
  have I4 := inv_comp (fp := fp) ok I3 f3 lt3 hns hkeep hco
  generalize hs3 : ({ s2 with heap := s2.heap.push { cls := .type "list", data := .seq ([] : List Value).toArray } } : Shared) = s3 at *
  have sz3 : s3.heap.objs.size = s2.heap.objs.size + 1 := by rw [← hs3]; exact Heap.size_push ..
  generalize hX' : cxC X scope N' (cellsFrom (s3.heap.objs.size + 1) scope.names (clOf X.env scope.names [])) s3.heap.objs.size s3 (upd H2 s2.heap.objs.size (.lst [])) fp = X' at I4
  have at' : CxAt X scope N' X' := ⟨_, _, _, _, _, hX'.symm⟩
  have hg := bg X' at'
  have hif := bc X' at'
  have he := be X' at'
  have eP : X'.prog = X.prog := by rw [← hX']; rfl
  have eW : X'.w = X.w := by rw [← hX']; rfl
  have eK : X'.K = X.K := by rw [← hX']; rfl
  have eA : X'.A = X.A := by rw [← hX']; rfl
  have eC : X'.calm = true := by rw [← hX']; exact hc
  have eX : X'.xe = fun _ _ => False := by rw [← hX']; rfl
  have ePn : X'.pn = [] := by rw [← hX']; rfl
  have eEx : X'.ex = fp := by rw [← hX']; rfl
  have eL : X'.env.locals = s3.heap.objs.size := by rw [← hX']; rfl
  have eFs : X'.fs = frs X.stack := by rw [← hX']; rfl
  have eEnv : compEnvC scope (cellsFrom (s3.heap.objs.size + 1) scope.names (clOf X.env scope.names [])) s3.heap.objs.size X.env = X'.env := by rw [← hX']; rfl
  have eS0 : X'.s₀ = s3 := by rw [← hX']; rfl
  have eH0 : X'.H₀ = upd H2 s2.heap.objs.size (.lst []) := by rw [← hX']; rfl
  -- what is true of the iterator's objects in the block
  have stat : ∀ {H' : Hp}, (∀ b ∈ fp, H' b = none) → ∀ b ∈ fp, FpOk X' [] H' b := fun {H'} hn b hb => by
    refine ⟨hn b hb, ?_, ?_, .inl (by rw [eEx]; exact hb), fun x c e => ?_, fun p hp => ?_⟩
    · rw [eL]; exact Nat.ne_of_lt (lt3 b hb)
    · have := I4.ok.exfs b (by rw [eEx]; exact hb)
      exact this
    · exact (I4.ok.exf b (by rw [eEx]; exact hb)).2 x c e
    · rw [ePn] at hp; exact absurd hp (by simp)
  -- the outer context again
  have back : ∀ σ' H' s', Inv X' [] σ' H' s' → Inv X pins σ H' s' := fun σ' H' s' J' => by
    have hb := J'.base
    rw [eFs, eEx, eS0, eH0] at hb
    have hos := J'.os
    rw [eS0] at hos
    have hok := J'.hok
    rw [eP, eW] at hok
    exact I3.call' (ch := fp) hos hb hok J'.bare fun b hbm => ⟨(f3 b hbm).2.2.2.1, (f3 b hbm).2.1, (f3 b hbm).2.2.2.2.1, (f3 b hbm).2.2.2.2.2⟩
  have loop : ∀ s4 : Shared, s4 = { s3 with heap := h' } → codeAny (model X.prog X.w) X.A (.compLoop (.ListComp elt [⟨tg, iter, ifs, 0⟩] scope pos) 0 (.ref it) (.ref s2.heap.objs.size) X'.env) (compPost (model X.prog X.w) X.A X.xe use QQ (.ref s2.heap.objs.size) s3.heap.objs.size) s4 := by
    rintro s4 rfl
    refine compLoop_any (fun n s' => ∃ i σ' H', Inv X' [] σ' H' s' ∧ tn i s'.heap ∧ (∀ b ∈ fp, H' b = none) ∧ W i n σ' H') ?_ m0 ⟨0, _, _, I4, st3, fun b hb => (f3 b hb).1, w0⟩
    rintro n s5 ⟨i, σ5, H5, I5, st5, fr5, w5⟩
    rcases turn i n σ5 H5 w5 with ⟨stop, qn⟩ | ⟨go, N, hN, step⟩
    · have td := T.done X' eP eW eK eC i [] s5 σ5 H5 (fun _ _ => False) I5 (stat fr5) st5 stop
      rw [eA] at td
      refine thn td fun r s6 ⟨hr, I6⟩ => ?_
      subst hr
      obtain ⟨mC, hnC, _⟩ := id I6.loc
      rw [eL] at hnC
      have lc : X.env.locals < s3.heap.objs.size := by
        have := I3.lt
        exact this
      refine fin _ _ mC s6 H5 (back _ _ _ I6) qn hnC ?_ (Nat.ne_of_gt lc) I3.sz (fun x c e => ?_) (fun p hp => ?_)
      · have := I6.free; rw [eL] at this; exact this
      · obtain ⟨v, z⟩ := I3.cell x c e
        exact Nat.ne_of_lt z.lt
      · exact Nat.ne_of_lt (Heap.lt_size (I3.pin p hp).1)
    · have ti := T.item X' eP eW eK eC i [] s5 σ5 H5 (fun _ _ => False) I5 (stat fr5) st5 go
      rw [eA] at ti
      refine thn ti fun r s6 ⟨u, hr, h6⟩ => ?_
      subst hr
      refine thn h6 fun _ s7 ⟨x, H7, I7, r7, y7, st7, fr7⟩ => ?_
      have I7' := I7.pinned (stat fr7) (T.obj _ _ st7)
      have hg' := hg _ s7 σ5 H7 x u _ I7' r7 (step x H7 y7)
      rw [eP, eW, eA, eX] at hg'
      refine thn hg' fun _ s8 ⟨σ8, H8, I8, q8⟩ => ?_
      have hif' := hif _ s8 σ8 H8 _ I8 q8
      rw [eP, eW, eA, eX] at hif'
      refine thn hif' fun b s9 ⟨H9, I9, q9⟩ => ?_
      have again : ∀ {σz : St} {Hz : Hp} {sz : Shared}, Inv X' ([] ++ pinsAt fp s7.heap) σz Hz sz → N σz Hz → ∃ m, m < n ∧ ∃ i σ' H', Inv X' [] σ' H' sz ∧ tn i sz.heap ∧ (∀ b ∈ fp, H' b = none) ∧ W i m σ' H' := fun {σz Hz sz} Iz nz => by
        obtain ⟨m', hm, wz⟩ := hN σz Hz nz
        refine ⟨m', hm, i + 1, σz, Hz, Iz.unpinned, T.keep _ _ _ st7 fun b hb o e => (Iz.pin (b, o) (List.mem_append_right _ (List.mem_append_right _ (mem_pinsAt hb e)))).1, fun b hb => ?_, wz⟩
        obtain ⟨o, e, d⟩ := T.obj _ _ st7 b hb
        exact (Iz.pin (b, o) (List.mem_append_right _ (List.mem_append_right _ (mem_pinsAt hb e)))).2.1
      cases b with
      | false =>
        rw [if_neg Bool.false_ne_true] at q9 ⊢
        exact again I9 q9
      | true =>
        rw [if_pos rfl] at q9 ⊢
        have he' := he _ s9 σ8 H9 _ I9 q9
        rw [eP, eW, eA, eX] at he'
        refine thn he' fun y sa ⟨yv, Ha, Ia, ra, ys, hys, hlen, qa⟩ => ?_
        have ap := mt_append (X := X') _ sa σ8 Ha (.ref s2.heap.objs.size) [yv] (.ref s2.heap.objs.size) [y] (fun v H' => v = .non ∧ N σ8 H') Ia rfl (.cons ra .nil) ⟨_, ys, yv, rfl, rfl, hys, hlen, rfl, qa⟩
        rw [eP, eW, eA, eX] at ap
        refine thn ap fun _ sb ⟨vb, Hb, Ib, rb, _, nb⟩ => ?_
        exact again Ib nb
  show codeAny _ _ (.compStart _ 0 (.ref it) (.ref s2.heap.objs.size) (compEnvC scope (cellsFrom (s3.heap.objs.size + 1) scope.names (clOf X.env scope.names [])) s3.heap.objs.size X.env)) (compPost (model X.prog X.w) X.A X.xe use QQ (.ref s2.heap.objs.size) s3.heap.objs.size) _
  rw [eEnv]
  exact codeAny_compStart_list (loop _ rfl) (T.self X.A 0 _ _ _ st3 (loop _ rfl))
theorem pe_lc {X : Cx} {elt tg iter : Expr} {ifs : List Expr} {scope : Scope} {N' : List Str} {pos : Pos} {wi : TI} {g : TG} {tc : TT} {te : TE}
    (ok : CompOk X scope N') (hc : X.calm = true) (hi : PI X tg iter wi)
    (bg : ∀ X', CxAt X scope N' X' → PG X' tg g) (bc : ∀ X', CxAt X scope N' X' → PIf X' ifs tc) (be : ∀ X', CxAt X scope N' X' → PE X' elt te)
    (hs : ∀ x, foldedSetIterable iter X.env x = pure x := by intro _; rfl) :
    PE X (.ListComp elt [⟨tg, iter, ifs, 0⟩] scope pos) (tLC N'.length wi g tc te) := by
  intro pins s σ H Q I h
  rw [eval_ListComp]
  have hfree : ∀ n, (n, NameKind.free) ∈ scope.names → ∃ c, X.env.cells.lookup n = some c := fun n hm => I.ok.has n (ok.free _ hm rfl)
  refine wpAny_comprehension_free (use := none) rfl hs (closure_eq hfree) ok.kind (fun x hx hl => lookup_of_mem _ _ _ ok.nd (by rw [← hl]; exact hx)) ?_
  refine thn (hi pins s σ H _ I h) fun v s1 h1 => thn h1 fun itv s2 h2 => ?_
  obtain ⟨it, fp, tn, J, H2, e, I2, T, st2, f2, q⟩ := h2
  subst e
  refine comp_core ok hc bg bc be I2 T st2 f2 q fun d C m s' H' I' hq hn hC hL h0 hcell hpin => ?_
  refine ⟨m, hn, fun h' hs' => ?_⟩
  have I'' : Inv X pins σ H' { s' with heap := h', toks := s'.toks } := I'.turned (it := C) (fun b o hb e => (hs'.2 b hb).trans e) hC hL (.inr h0) hcell hpin
  exact ⟨.ref d, H', I'', rfl, hq⟩
theorem ps_setLC {X : Cx} {elt tg iter : Expr} {ifs : List Expr} {scope : Scope} {N' : List Str} {pos spos py : Pos} {wi : TI} {g : TG} {tc : TT} {te : TE} {i : Nat} {y : Str}
    (ok : CompOk X scope N') (hc : X.calm = true) (hi : PI X tg iter wi)
    (bg : ∀ X', CxAt X scope N' X' → PG X' tg g) (bc : ∀ X', CxAt X scope N' X' → PIf X' ifs tc) (be : ∀ X', CxAt X scope N' X' → PE X' elt te)
    (hN : X.N.Nodup) (hy : X.N[i]? = some y) (hx : Loc X.env.scope y)
    (hsw : swapsWith (.ListComp elt [⟨tg, iter, ifs, 0⟩] scope pos) (some (.Name y py)) spos.line X.env = pure true)
    (hf : X.fn y = true ∨ X.env.scope.names.lookup y = some .local := by first | exact .inl rfl | exact .inr rfl | assumption)
    (hs : ∀ x, foldedSetIterable iter X.env x = pure x := by intro _; rfl) :
    PS X (.Assign [.Name y py] (.ListComp elt [⟨tg, iter, ifs, 0⟩] scope pos) spos) (tAsg (tLC N'.length wi g tc te) (gName i)) := by
  intro pins s σ H D I h
  rw [exec_Assign_Name_used _ _ _ _ hsw]
  refine wpAny_bind (wpAny_standAt (wpAny_bind ?_))
  have hfree : ∀ n, (n, NameKind.free) ∈ scope.names → ∃ c, X.env.cells.lookup n = some c := fun n hm => I.ok.has n (ok.free _ hm rfl)
  show wpAny _ X.A (do let _ ← comprehension (.ListComp elt [⟨tg, iter, ifs, 0⟩] scope pos) scope X.env _ (newList []) false (eval iter X.env) (some (assign (.Name y py) X.env))) _ _ s
  refine wpAny_bind (wpAny_mono (wpAny_comprehension_free (use := some (assign (.Name y py) X.env)) (Q := fun _ s' => SP X pins D .next s') rfl hs (closure_eq hfree) ok.kind (fun x hx hl => lookup_of_mem _ _ _ ok.nd (by rw [← hl]; exact hx)) ?_) (fun _ s' hq => wpAny_pure (wpAny_pure hq)) fun _ _ e => e)
  refine thn (hi pins s σ H _ I h) fun v s1 h1 => thn h1 fun itv s2 h2 => ?_
  obtain ⟨it, fp, tn, J, H2, e, I2, T, st2, f2, q⟩ := h2
  subst e
  refine comp_core (Q := fun x H1 => gName i x σ H1 D.nx) ok hc bg bc be I2 T st2 f2 q fun d C m s' H' I' hq hn hC hL h0 hcell hpin => ?_
  refine wpAny_assign_Name (store_ok2 (v := .ref d) I' hN hy hx rfl (fun s'' I'' sb => ?_) hf)
  obtain ⟨a, hsb, ha⟩ := sb
  have haC : C ≠ a := by
    rcases ha with z | z
    · rw [z]; exact hL
    · exact (hcell y a z).symm
  refine ⟨m, hn.sameBut hsb haC, fun h' hs' => ?_⟩
  have I3 : Inv X pins (σ.set i (some (.ref d))) H' { s'' with heap := h', toks := s''.toks } := I''.turned (it := C) (fun b o hb e => (hs'.2 b hb).trans e) hC hL (.inr h0) hcell hpin
  exact ⟨_, H', I3, hq⟩
end L2
namespace Ev
open PySem PySem.Spec PyProof.Rows L2
inductive D where
  | non
  | bl (b : Bool)
  | int (i : Int)
  | str (x : List Nat)
  | tup (xs : List D)
  | lst (xs : List D)
  | arr (xs : List D)
  | dct (kvs : List (D × D))
  deriving Inhabited
abbrev Fg := PySem.W.Frag
def strOf (x : List Nat) : Str := ⟨x.toArray⟩
def keyD : D → Option Key
  | .int i => some (.inl i)
  | .str x => some (.inr (strOf x))
  | _ => none
mutual
def Rep (K : Fg) (F : Hp) : D → V → Prop
  | .non, v => v = .non
  | .bl b, v => v = .bl b
  | .int i, v => v = .int i
  | .str x, v => v = .str (strOf x) ∧ x.length ≤ sizeLine
  | .tup xs, v => xs.length ≤ sizeLine ∧ ∃ a vs, v = .ref a ∧ SqT K F a vs ∧ Reps K F xs vs
  | .lst xs, v => xs.length ≤ sizeLine ∧ ∃ a vs, v = .ref a ∧ F a = some (.lst vs) ∧ Reps K F xs vs
  | .arr xs, v => xs.length ≤ sizeLine ∧ ∃ a vs, v = .ref a ∧ SqL K F a vs ∧ Reps K F xs vs
  | .dct kvs, v => kvs.length ≤ sizeLine ∧ ∃ a ks, v = .ref a ∧ Rd F a (.dK ks) ∧ RepKs K F kvs ks
def Reps (K : Fg) (F : Hp) : List D → List V → Prop
  | [], vs => vs = []
  | d :: ds, vs => ∃ v r, vs = v :: r ∧ Rep K F d v ∧ Reps K F ds r
def RepKs (K : Fg) (F : Hp) : List (D × D) → List (Key × V) → Prop
  | [], vs => vs = []
  | (k, d) :: ds, vs => ∃ q v r, vs = (q, v) :: r ∧ keyD k = some q ∧ Rep K F d v ∧ RepKs K F ds r
end
theorem Same.rd {F F' : Hp} {a : Addr} {u : HO} (e : Same F F') (h : Rd F a u) : Rd F' a u := by
  rcases h with h | ⟨o, h⟩
  · exact .inl (e _ _ h)
  · exact .inr ⟨o, e _ _ h⟩
theorem Same.tupK {K : Fg} {F F' : Hp} {a : Addr} {xs : List V} (e : Same F F') (h : SqT K F a xs) : SqT K F' a xs := by
  rcases h with h | h
  · exact .inl (Same.rd e h)
  · exact .inr h
mutual
theorem Rep.mono {K : Fg} {F F' : Hp} (e : Same F F') : ∀ (d : D) (v : V), Rep K F d v → Rep K F' d v
  | .non, _, h => h
  | .bl _, _, h => h
  | .int _, _, h => h
  | .str _, _, h => h
  | .tup xs, v, h => by
    obtain ⟨z, a, vs, rfl, h1, h2⟩ := h
    exact ⟨z, a, vs, rfl, Same.tupK e h1, Reps.mono e xs vs h2⟩
  | .lst xs, v, h => by
    obtain ⟨z, a, vs, rfl, h1, h2⟩ := h
    exact ⟨z, a, vs, rfl, e _ _ h1, Reps.mono e xs vs h2⟩
  | .arr xs, v, h => by
    obtain ⟨z, a, vs, rfl, h1, h2⟩ := h
    exact ⟨z, a, vs, rfl, e.seq h1, Reps.mono e xs vs h2⟩
  | .dct kvs, v, h => by
    obtain ⟨z, a, ks, rfl, h1, h2⟩ := h
    exact ⟨z, a, ks, rfl, Same.rd e h1, RepKs.mono e kvs ks h2⟩
theorem Reps.mono {K : Fg} {F F' : Hp} (e : Same F F') : ∀ (ds : List D) (vs : List V), Reps K F ds vs → Reps K F' ds vs
  | [], _, h => h
  | d :: ds, vs, h => by
    obtain ⟨v, r, rfl, h1, h2⟩ := h
    exact ⟨v, r, rfl, Rep.mono e d v h1, Reps.mono e ds r h2⟩
theorem RepKs.mono {K : Fg} {F F' : Hp} (e : Same F F') : ∀ (ds : List (D × D)) (vs : List (Key × V)), RepKs K F ds vs → RepKs K F' ds vs
  | [], _, h => h
  | (k, d) :: ds, vs, h => by
    obtain ⟨q, v, r, rfl, h0, h1, h2⟩ := h
    exact ⟨q, v, r, rfl, h0, Rep.mono e d v h1, RepKs.mono e ds r h2⟩
end
theorem Reps.length {K : Fg} {F : Hp} : ∀ {ds : List D} {vs : List V}, Reps K F ds vs → vs.length = ds.length
  | [], _, h => by cases h; rfl
  | d :: ds, vs, h => by
    obtain ⟨v, r, rfl, _, h2⟩ := h
    rw [List.length_cons, List.length_cons, h2.length]
theorem Reps.get {K : Fg} {F : Hp} : ∀ {ds : List D} {vs : List V} {i : Nat} {d : D}, Reps K F ds vs → ds[i]? = some d → ∃ v, vs[i]? = some v ∧ Rep K F d v
  | [], _, _, _, _, e => by simp at e
  | c :: ds, vs, i, d, h, e => by
    obtain ⟨v, r, rfl, h1, h2⟩ := h
    cases i with
    | zero => simp at e; subst e; exact ⟨v, rfl, h1⟩
    | succ i => obtain ⟨u, e1, e2⟩ := Reps.get h2 (i := i) (by simpa using e); exact ⟨u, by simpa using e1, e2⟩
theorem Reps.append {K : Fg} {F : Hp} : ∀ {ds es : List D} {vs ws : List V}, Reps K F ds vs → Reps K F es ws → Reps K F (ds ++ es) (vs ++ ws)
  | [], es, vs, ws, h, g => by cases h; exact g
  | d :: ds, es, vs, ws, h, g => by
    obtain ⟨v, r, rfl, h1, h2⟩ := h
    exact ⟨v, r ++ ws, rfl, h1, Reps.append h2 g⟩
theorem Reps.drop {K : Fg} {F : Hp} : ∀ (n : Nat) {ds : List D} {vs : List V}, Reps K F ds vs → Reps K F (ds.drop n) (vs.drop n)
  | 0, _, _, h => h
  | _ + 1, [], _, h => by cases h; exact rfl
  | n + 1, d :: ds, vs, h => by
    obtain ⟨v, r, rfl, _, h2⟩ := h
    exact Reps.drop n h2
theorem Reps.take {K : Fg} {F : Hp} : ∀ (n : Nat) {ds : List D} {vs : List V}, Reps K F ds vs → Reps K F (ds.take n) (vs.take n)
  | 0, _, _, _ => rfl
  | _ + 1, [], _, h => by cases h; exact rfl
  | n + 1, d :: ds, vs, h => by
    obtain ⟨v, r, rfl, h1, h2⟩ := h
    exact ⟨v, r.take n, rfl, h1, Reps.take n h2⟩
theorem Reps.reverse {K : Fg} {F : Hp} : ∀ {ds : List D} {vs : List V}, Reps K F ds vs → Reps K F ds.reverse vs.reverse
  | [], _, h => by cases h; exact rfl
  | d :: ds, vs, h => by
    obtain ⟨v, r, rfl, h1, h2⟩ := h
    rw [List.reverse_cons, List.reverse_cons]
    exact Reps.append (Reps.reverse h2) ⟨v, [], rfl, h1, rfl⟩
theorem Reps.set {K : Fg} {F : Hp} {d : D} {v : V} (hd : Rep K F d v) : ∀ (i : Nat) {ds : List D} {vs : List V}, Reps K F ds vs → Reps K F (ds.set i d) (vs.set i v)
  | _, [], _, h => by cases h; exact rfl
  | 0, c :: ds, vs, h => by
    obtain ⟨u, r, rfl, _, h2⟩ := h
    exact ⟨v, r, rfl, hd, h2⟩
  | i + 1, c :: ds, vs, h => by
    obtain ⟨u, r, rfl, h1, h2⟩ := h
    exact ⟨u, r.set i v, rfl, h1, Reps.set hd i h2⟩
theorem Reps.one {K : Fg} {F : Hp} {d : D} {v : V} (h : Rep K F d v) : Reps K F [d] [v] := ⟨v, [], rfl, h, rfl⟩
abbrev Env := List (Option (Bool × D))
inductive R (α : Type) where
  | ok (a : α) (env : Env)
  | stuck
abbrev Ev := Env → R D
abbrev EvT := Env → R Bool
abbrev EvA := Env → R (List D)
structure Cfg where
  K : Fg
  fx : Nat → Option Addr
def OwnAt (K : Fg) (F H : Hp) : D → Addr → Prop
  | .lst xs, a => xs.length ≤ sizeLine ∧ ∃ vs, H a = some (.lst vs) ∧ Reps K F xs vs
  | .dct kvs, a => kvs.length ≤ sizeLine ∧ ∃ ks, H a = some (.dK ks) ∧ RepKs K F kvs ks
  | _, _ => False
theorem OwnAt.mono {K : Fg} {F F' H H' : Hp} (e : Same F F') {d : D} {a : Addr} (k : H' a = H a) (h : OwnAt K F H d a) : OwnAt K F' H' d a := by
  cases d with
  | lst xs => obtain ⟨z, vs, h1, h2⟩ := h; exact ⟨z, vs, k.trans h1, Reps.mono e _ _ h2⟩
  | dct kvs => obtain ⟨z, ks, h1, h2⟩ := h; exact ⟨z, ks, k.trans h1, RepKs.mono e _ _ h2⟩
  | _ => exact h
theorem OwnAt.some {K : Fg} {F H : Hp} {d : D} {a : Addr} (h : OwnAt K F H d a) : ∃ o, H a = some o := by
  cases d with
  | lst xs => obtain ⟨z, vs, h1, h2⟩ := h; exact ⟨_, h1⟩
  | dct kvs => obtain ⟨z, ks, h1, h2⟩ := h; exact ⟨_, h1⟩
  | _ => exact h.elim
def BRep (K : Fg) (F H : Hp) (d : D) (v : V) : Prop := Rep K F d v ∨ ∃ a, v = .ref a ∧ OwnAt K F H d a
theorem BRep.rep {K : Fg} {F H : Hp} {d : D} {v : V} (s : Same F H) (h : BRep K F H d v) : Rep K H d v := by
  rcases h with h | ⟨a, rfl, h⟩
  · exact Rep.mono s d v h
  · cases d with
    | lst xs => obtain ⟨z, vs, h1, h2⟩ := h; exact ⟨z, a, vs, rfl, h1, Reps.mono s _ _ h2⟩
    | dct kvs => obtain ⟨z, ks, h1, h2⟩ := h; exact ⟨z, a, ks, rfl, .inl h1, RepKs.mono s _ _ h2⟩
    | _ => exact h.elim
theorem BRep.lst {K : Fg} {F H : Hp} {xs : List D} {v : V} (s : Same F H) (h : BRep K F H (.lst xs) v) : xs.length ≤ sizeLine ∧ ∃ a vs, v = .ref a ∧ H a = some (.lst vs) ∧ Reps K F xs vs := by
  rcases h with ⟨z, a, vs, rfl, h1, h2⟩ | ⟨a, rfl, z, vs, h1, h2⟩
  · exact ⟨z, a, vs, rfl, s _ _ h1, h2⟩
  · exact ⟨z, a, vs, rfl, h1, h2⟩
theorem BRep.arr {K : Fg} {F H : Hp} {xs : List D} {v : V} (s : Same F H) (h : BRep K F H (.arr xs) v) : xs.length ≤ sizeLine ∧ ∃ a vs, v = .ref a ∧ SqL K H a vs ∧ Reps K F xs vs := by
  rcases h with ⟨z, a, vs, rfl, h1, h2⟩ | ⟨a, rfl, h⟩
  · exact ⟨z, a, vs, rfl, s.seq h1, h2⟩
  · exact h.elim
theorem BRep.tup {K : Fg} {F H : Hp} {xs : List D} {v : V} (s : Same F H) (h : BRep K F H (.tup xs) v) : xs.length ≤ sizeLine ∧ ∃ a vs, v = .ref a ∧ SqT K H a vs ∧ SqT K F a vs ∧ Reps K F xs vs := by
  rcases h with ⟨z, a, vs, rfl, h1, h2⟩ | ⟨a, rfl, h⟩
  · exact ⟨z, a, vs, rfl, Same.tupK s h1, h1, h2⟩
  · exact h.elim
theorem BRep.int {K : Fg} {F H : Hp} {i : Int} {v : V} (h : BRep K F H (.int i) v) : v = .int i := by
  rcases h with h | ⟨a, rfl, h⟩
  · exact h
  · exact h.elim
theorem BRep.bl {K : Fg} {F H : Hp} {i : Bool} {v : V} (h : BRep K F H (.bl i) v) : v = .bl i := by
  rcases h with h | ⟨a, rfl, h⟩
  · exact h
  · exact h.elim
theorem BRep.non {K : Fg} {F H : Hp} {v : V} (h : BRep K F H .non v) : v = .non := by
  rcases h with h | ⟨a, rfl, h⟩
  · exact h
  · exact h.elim
theorem BRep.str {K : Fg} {F H : Hp} {x : List Nat} {v : V} (h : BRep K F H (.str x) v) : v = .str (strOf x) ∧ x.length ≤ sizeLine := by
  rcases h with h | ⟨a, rfl, h⟩
  · exact h
  · exact h.elim
structure Rel (C : Cfg) (Pr F : Hp) (env : Env) (σ : L2.St) (H : Hp) : Prop where
  pr : Same Pr H
  fr : Same F H
  len : env.length = σ.length
  val : ∀ (i : Nat) (d : D), env[i]? = some (some (false, d)) → ∃ v, σ[i]? = some (some v) ∧ Rep C.K F d v
  own : ∀ (i : Nat) (d : D), env[i]? = some (some (true, d)) → ∃ a, σ[i]? = some (some (V.ref a)) ∧ OwnAt C.K F H d a ∧ F a = none ∧ Pr a = none
  apart : ∀ (i j : Nat) (d e : D) (a : Addr), env[i]? = some (some (true, d)) → env[j]? = some (some (true, e)) → σ[i]? = some (some (V.ref a)) → σ[j]? = some (some (V.ref a)) → i = j
  dj : ∀ b o, F b = some o → Pr b = none
  fix : ∀ i a, C.fx i = some a → σ[i]? = some (some (V.ref a))
theorem same_upd {H : Hp} {a : Addr} {o : HO} (h : H a = none) : Same H (upd H a o) := fun b u e => by
  rw [upd_ne (ne_of_none e h)]; exact e
theorem Rel.new {C : Cfg} {Pr F : Hp} {env : Env} {σ : L2.St} {H : Hp} {a : Addr} {o : HO} (r : Rel C Pr F env σ H) (h : H a = none) : Rel C Pr (upd F a o) env σ (upd H a o) ∧ Same F (upd F a o) := by
  have hF : F a = none := r.fr.free h
  have s1 : Same F (upd F a o) := same_upd hF
  refine ⟨⟨r.pr.trans (same_upd h), fun b u e => ?_, r.len, fun i d e1 => ?_, fun i d e1 => ?_, r.apart, fun b u e => ?_, r.fix⟩, s1⟩
  · by_cases hb : b = a
    · subst hb; rw [upd_same] at e ⊢; exact e
    · rw [upd_ne hb] at e ⊢; exact r.fr b u e
  · obtain ⟨v, h1, h2⟩ := r.val i d e1
    exact ⟨v, h1, Rep.mono s1 d v h2⟩
  · obtain ⟨b, h1, h2, h3, h4⟩ := r.own i d e1
    obtain ⟨u, hu⟩ := h2.some
    have hb : b ≠ a := ne_of_none hu h
    exact ⟨b, h1, h2.mono s1 (upd_ne hb), by rw [upd_ne hb]; exact h3, h4⟩
  · by_cases hb : b = a
    · subst hb; exact r.pr.free h
    · rw [upd_ne hb] at e; exact r.dj b u e
theorem Rel.fresh {C : Cfg} {Pr F : Hp} {env : Env} {σ : L2.St} {H : Hp} {a : Addr} {o : HO} (r : Rel C Pr F env σ H) (h : H a = none) : Rel C Pr F env σ (upd H a o) := by
  refine ⟨r.pr.trans (same_upd h), r.fr.trans (same_upd h), r.len, r.val, fun i d e1 => ?_, r.apart, r.dj, r.fix⟩
  obtain ⟨b, h1, h2, h3, h4⟩ := r.own i d e1
  obtain ⟨u, hu⟩ := h2.some
  have hb : b ≠ a := ne_of_none hu h
  exact ⟨b, h1, h2.mono (Same.refl F) (upd_ne hb), h3, h4⟩
theorem Rel.aside {C : Cfg} {Pr F : Hp} {env : Env} {σ : L2.St} {H : Hp} {a : Addr} {o : HO} (r : Rel C Pr F env σ H) (h : H a = none) : Rel C (upd Pr a o) F env σ (upd H a o) := by
  have r' := r.fresh (o := o) h
  have hF : F a = none := r.fr.free h
  refine ⟨fun b u e => ?_, r'.fr, r.len, r.val, fun i d e1 => ?_, r.apart, fun b u e => ?_, r.fix⟩
  · by_cases hb : b = a
    · subst hb; rw [upd_same] at e ⊢; exact e
    · rw [upd_ne hb] at e ⊢; exact r.pr b u e
  · obtain ⟨b, h1, h2, h3, h4⟩ := r'.own i d e1
    obtain ⟨b', h1', h2', _⟩ := r.own i d e1
    rw [h1] at h1'; cases h1'
    obtain ⟨u, hu⟩ := h2'.some
    have hb : b ≠ a := ne_of_none hu h
    exact ⟨b, h1, h2, h3, by rw [upd_ne hb]; exact h4⟩
  · have hb : b ≠ a := fun z => by rw [z, hF] at e; cases e
    rw [upd_ne hb]; exact r.dj b u e
theorem Rel.turn {C : Cfg} {Pr F : Hp} {env : Env} {σ : L2.St} {H : Hp} {a : Addr} {o u : HO} (r : Rel C Pr F env σ H) (h : Pr a = some o) : Rel C (upd Pr a u) F env σ (upd H a u) := by
  have hF : F a = none := by
    cases e : F a with
    | none => rfl
    | some w => have := r.dj a w e; rw [h] at this; cases this
  refine ⟨fun b w e => ?_, fun b w e => ?_, r.len, r.val, fun i d e1 => ?_, r.apart, fun b w e => ?_, r.fix⟩
  · by_cases hb : b = a
    · subst hb; rw [upd_same] at e ⊢; exact e
    · rw [upd_ne hb] at e ⊢; exact r.pr b w e
  · have hb : b ≠ a := fun z => by rw [z, hF] at e; cases e
    rw [upd_ne hb]; exact r.fr b w e
  · obtain ⟨b, h1, h2, h3, h4⟩ := r.own i d e1
    have hb : b ≠ a := fun z => by rw [z, h] at h4; cases h4
    exact ⟨b, h1, h2.mono (Same.refl F) (upd_ne hb), h3, by rw [upd_ne hb]; exact h4⟩
  · have hb : b ≠ a := fun z => by rw [z, hF] at e; cases e
    rw [upd_ne hb]; exact r.dj b w e
theorem Rel.less {C : Cfg} {Pr Pr' F : Hp} {env : Env} {σ : L2.St} {H : Hp} (r : Rel C Pr F env σ H) (s : Same Pr' Pr) : Rel C Pr' F env σ H :=
  ⟨s.trans r.pr, r.fr, r.len, r.val, fun i d e => let ⟨b, h1, h2, h3, h4⟩ := r.own i d e; ⟨b, h1, h2, h3, s.free h4⟩, r.apart, fun b o e => s.free (r.dj b o e), r.fix⟩
theorem Rel.freeze {C : Cfg} {Pr F : Hp} {env : Env} {σ : L2.St} {H : Hp} (r : Rel C Pr F env σ H) {i : Nat} {d : D} (h : env[i]? = some (some (true, d))) :
    ∃ (F' : Hp) (v : V), Rel C Pr F' (env.set i (some (false, d))) σ H ∧ Same F F' ∧ σ[i]? = some (some v) ∧ Rep C.K F' d v := by
  obtain ⟨a, h1, h2, h3, h4⟩ := r.own i d h
  obtain ⟨o, ho⟩ := h2.some
  have s1 : Same F (upd F a o) := same_upd h3
  have hi : i < env.length := (List.getElem?_eq_some_iff.mp h).1
  have rep : Rep C.K (upd F a o) d (.ref a) := by
    cases d with
    | lst xs => obtain ⟨z, vs, g1, g2⟩ := h2; rw [ho] at g1; cases g1; exact ⟨z, a, vs, rfl, upd_same, Reps.mono s1 _ _ g2⟩
    | dct kvs => obtain ⟨z, ks, g1, g2⟩ := h2; rw [ho] at g1; cases g1; exact ⟨z, a, ks, rfl, .inl upd_same, RepKs.mono s1 _ _ g2⟩
    | _ => exact h2.elim
  refine ⟨upd F a o, .ref a, ⟨r.pr, fun b u e => ?_, by rw [List.length_set]; exact r.len, fun j e he => ?_, fun j e he => ?_, fun j k e f b hj hk g1 g2 => ?_, fun b u e => ?_, r.fix⟩, s1, h1, rep⟩
  · by_cases hb : b = a
    · subst hb; rw [upd_same] at e; cases e; exact ho
    · rw [upd_ne hb] at e; exact r.fr b u e
  · by_cases hj : j = i
    · subst hj
      rw [List.getElem?_set_self hi] at he
      cases he
      exact ⟨_, h1, rep⟩
    · rw [List.getElem?_set_ne (Ne.symm hj)] at he
      obtain ⟨v, g1, g2⟩ := r.val j e he
      exact ⟨v, g1, Rep.mono s1 e v g2⟩
  · by_cases hj : j = i
    · subst hj
      rw [List.getElem?_set_self hi] at he
      cases he
    · rw [List.getElem?_set_ne (Ne.symm hj)] at he
      obtain ⟨b, g1, g2, g3, g4⟩ := r.own j e he
      have hb : b ≠ a := fun z => hj (r.apart j i e d a he h (by rw [← z]; exact g1) h1)
      exact ⟨b, g1, g2.mono s1 rfl, by rw [upd_ne hb]; exact g3, g4⟩
  · have nj : j ≠ i := fun z => by subst z; rw [List.getElem?_set_self hi] at hj; cases hj
    have nk : k ≠ i := fun z => by subst z; rw [List.getElem?_set_self hi] at hk; cases hk
    rw [List.getElem?_set_ne (Ne.symm nj)] at hj
    rw [List.getElem?_set_ne (Ne.symm nk)] at hk
    exact r.apart j k e f b hj hk g1 g2
  · by_cases hb : b = a
    · subst hb; exact h4
    · rw [upd_ne hb] at e; exact r.dj b u e
def tE (C : Cfg) (ev : Ev) : TE := fun σ H Q => ∃ (Pr F : Hp) (env env' : Env) (d : D), Rel C Pr F env σ H ∧ ev env = .ok d env' ∧
  ∀ v H' F', Rel C Pr F' env' σ H' → Same F F' → Rep C.K F' d v → Q v H'
def tRd (C : Cfg) (ev : Ev) : TE := fun σ H Q => ∃ (Pr F : Hp) (env env' : Env) (d : D), Rel C Pr F env σ H ∧ ev env = .ok d env' ∧
  ∀ v H' F', Rel C Pr F' env' σ H' → Same F F' → BRep C.K F' H' d v → Q v H'
def tT (C : Cfg) (ev : EvT) : TT := fun σ H Q => ∃ (Pr F : Hp) (env env' : Env) (b : Bool), Rel C Pr F env σ H ∧ ev env = .ok b env' ∧
  ∀ H' F', Rel C Pr F' env' σ H' → Same F F' → Q b H'
def tA (C : Cfg) (ev : EvA) : TA := fun σ H Q => ∃ (Pr F : Hp) (env env' : Env) (ds : List D), Rel C Pr F env σ H ∧ ev env = .ok ds env' ∧
  ∀ vs H' F', Rel C Pr F' env' σ H' → Same F F' → Reps C.K F' ds vs → Q vs H'
def PX (X : Cx) (C : Cfg) (e : Expr) (ev : Ev) : Prop := PE X e (tE C ev)
def PXB (X : Cx) (C : Cfg) (e : Expr) (ev : Ev) : Prop := PE X e (tRd C ev)
def PXT (X : Cx) (C : Cfg) (e : Expr) (ev : EvT) : Prop := PT X e (tT C ev)
def PXA (X : Cx) (C : Cfg) (es : List Expr) (ev : EvA) : Prop := PA X es (tA C ev)
theorem _root_.L2.PE.imp {X : Cx} {e : Expr} {t t' : TE} (h : PE X e t) (i : ∀ σ H Q, t' σ H Q → t σ H Q) : PE X e t' := fun pins s σ H Q I q => h pins s σ H Q I (i σ H Q q)
theorem _root_.L2.PT.imp {X : Cx} {e : Expr} {t t' : TT} (h : PT X e t) (i : ∀ σ H Q, t' σ H Q → t σ H Q) : PT X e t' := fun pins s σ H Q I q => h pins s σ H Q I (i σ H Q q)
theorem _root_.L2.PW.imp {X : Cx} {e : Expr} {t t' : TT} (h : PW X e t) (i : ∀ σ H Q, t' σ H Q → t σ H Q) : PW X e t' := fun whole pins s σ H Q I q => h whole pins s σ H Q I (i σ H Q q)
theorem _root_.L2.PA.imp {X : Cx} {e : List Expr} {t t' : TA} (h : PA X e t) (i : ∀ σ H Q, t' σ H Q → t σ H Q) : PA X e t' := fun pos pins s σ H Q I q => h pos pins s σ H Q I (i σ H Q q)
theorem _root_.L2.PS.imp {X : Cx} {e : Stmt} {t t' : TS} (h : PS X e t) (i : ∀ D σ H, t' D σ H → t D σ H) : PS X e t' := fun pins s σ H D I q => h pins s σ H D I (i D σ H q)
theorem _root_.L2.PSs.imp {X : Cx} {e : List Stmt} {t t' : TS} (h : PSs X e t) (i : ∀ D σ H, t' D σ H → t D σ H) : PSs X e t' := fun pins s σ H D I q => h pins s σ H D I (i D σ H q)
def bindR {α β : Type} (x : R α) (f : α → Env → R β) : R β := match x with
  | .ok a env => f a env
  | .stuck => .stuck
def liftR {α : Type} (o : Option α) (env : Env) : R α := match o with
  | some a => .ok a env
  | none => .stuck
theorem bindR_ok {α β : Type} {x : R α} {f : α → Env → R β} {b : β} {env' : Env} (h : bindR x f = .ok b env') : ∃ a env1, x = .ok a env1 ∧ f a env1 = .ok b env' := by
  cases x with
  | ok a env1 => exact ⟨a, env1, rfl, h⟩
  | stuck => cases h
theorem liftR_ok {α : Type} {o : Option α} {env env' : Env} {a : α} (h : liftR o env = .ok a env') : o = some a ∧ env' = env := by
  cases o with
  | some b => cases h; exact ⟨rfl, rfl⟩
  | none => cases h
section
variable {X : Cx} {C : Cfg} {pos : Pos}
def evVar (i : Nat) : Ev := fun env => match env[i]? with
  | some (some (false, d)) => .ok d env
  | some (some (true, d)) => .ok d (env.set i (some (false, d)))
  | _ => .stuck
theorem px_var (i : Nat) {x : Str} (hN : X.N[i]? = some x) (hv : Vis X.env.scope x) (hd : (x == ("__debug__" : Str)) = false := by decide) (hcd : (x == ("__classdict__" : Str)) = false := by decide) : PX X C (.Name x pos) (evVar i) := by
  refine (pe_var hN hv hd hcd).imp fun σ H Q h => ?_
  obtain ⟨Pr, F, env, env', d, r, e, q⟩ := h
  unfold evVar at e
  split at e
  · rename_i d' hd'
    cases e
    obtain ⟨v, h1, h2⟩ := r.val i d hd'
    exact ⟨v, h1, q v H F r (Same.refl F) h2⟩
  · rename_i d' hd'
    cases e
    obtain ⟨F', v, r', s', h1, h2⟩ := r.freeze hd'
    exact ⟨v, h1, q v H F' r' s' h2⟩
  · cases e
theorem PX.b {e : Expr} {ev : Ev} (h : PX X C e ev) : PXB X C e ev := PE.imp h fun σ H Q hq => by
  obtain ⟨Pr, F, env, env', d, r, e, q⟩ := hq
  exact ⟨Pr, F, env, env', d, r, e, fun v H' F' r' s' p' => q v H' F' r' s' (.inl p')⟩
def evRd (i : Nat) : Ev := fun env => match env[i]? with
  | some (some (_, d)) => .ok d env
  | _ => .stuck
theorem Rel.rd {Pr F : Hp} {env : Env} {σ : L2.St} {H : Hp} (r : Rel C Pr F env σ H) {i : Nat} {o : Bool} {d : D} (h : env[i]? = some (some (o, d))) : ∃ v, σ[i]? = some (some v) ∧ BRep C.K F H d v := by
  cases o with
  | true => obtain ⟨a, h1, h2, _⟩ := r.own i d h; exact ⟨_, h1, .inr ⟨a, rfl, h2⟩⟩
  | false => obtain ⟨v, h1, h2⟩ := r.val i d h; exact ⟨v, h1, .inl h2⟩
theorem pxb_var (i : Nat) {x : Str} (hN : X.N[i]? = some x) (hv : Vis X.env.scope x) (hd : (x == ("__debug__" : Str)) = false := by decide) (hcd : (x == ("__classdict__" : Str)) = false := by decide) : PXB X C (.Name x pos) (evRd i) := by
  refine (pe_var hN hv hd hcd).imp fun σ H Q h => ?_
  obtain ⟨Pr, F, env, env', d, r, e, q⟩ := h
  unfold evRd at e
  split at e
  · rename_i o' d' hd'
    cases e
    obtain ⟨v, h1, h2⟩ := r.rd hd'
    exact ⟨v, h1, q v H F r (Same.refl F) h2⟩
  · cases e
def evC (d : D) : Ev := fun env => .ok d env
theorem px_int {i : Int} {j : Nat} : PX X C (.Constant (.int i) j pos) (evC (.int i)) := pe_int.imp fun σ H Q h => by
  obtain ⟨Pr, F, env, env', d, r, e, q⟩ := h
  cases e
  exact q _ _ F r (Same.refl F) rfl
theorem px_bl {b : Bool} {j : Nat} : PX X C (.Constant (.bool b) j pos) (evC (.bl b)) := pe_bl.imp fun σ H Q h => by
  obtain ⟨Pr, F, env, env', d, r, e, q⟩ := h
  cases e
  exact q _ _ F r (Same.refl F) rfl
theorem px_non {j : Nat} : PX X C (.Constant .none j pos) (evC .non) := pe_non.imp fun σ H Q h => by
  obtain ⟨Pr, F, env, env', d, r, e, q⟩ := h
  cases e
  exact q _ _ F r (Same.refl F) rfl
theorem px_str (z : List Nat) {x : Str} {j : Nat} (hz : x = strOf z) (hl : z.length ≤ sizeLine := by decide) : PX X C (.Constant (.str x) j pos) (evC (.str z)) := by
  subst hz
  refine pe_str.imp fun σ H Q h => ?_
  obtain ⟨Pr, F, env, env', d, r, e, q⟩ := h
  cases e
  exact q _ _ F r (Same.refl F) ⟨rfl, hl⟩
theorem px_glob {x : Str} {v : V} {u : Value} (d : D) (hg : Gl X x) (hm : X.mg x = some u) (rv : RelV v u) (hr : ∀ F, Rep C.K F d v) (hd : (x == ("__debug__" : Str)) = false := by decide) : PX X C (.Name x pos) (evC d) :=
  (pe_glob hg hm rv hd).imp fun σ H Q h => by
    obtain ⟨Pr, F, env, env', d, r, e, q⟩ := h
    cases e
    exact q _ _ F r (Same.refl F) (hr F)
def evNil : EvA := fun env => .ok [] env
def evCons (a : Ev) (r : EvA) : EvA := fun env => bindR (a env) fun d env1 => bindR (r env1) fun ds env2 => .ok (d :: ds) env2
theorem pxa_nil : PXA X C [] evNil := pa_nil.imp fun σ H Q h => by
  obtain ⟨Pr, F, env, env', d, r, e, q⟩ := h
  cases e
  exact q _ _ F r (Same.refl F) rfl
theorem pxa_cons {e : Expr} {es : List Expr} {a : Ev} {r : EvA} (ha : PX X C e a) (hr : PXA X C es r) (hs : starEach (e :: es) X.env = (false, eval e X.env) :: starEach es X.env := by rfl) : PXA X C (e :: es) (evCons a r) :=
  (pa_cons ha hr hs).imp fun σ H Q h => by
    obtain ⟨Pr, F, env, env', ds, rl, e, q⟩ := h
    obtain ⟨d1, env1, e1, e2⟩ := bindR_ok e
    obtain ⟨ds2, env2, e3, e4⟩ := bindR_ok e2
    cases e4
    refine ⟨Pr, F, env, env1, d1, rl, e1, fun v H1 F1 r1 s1 p1 => ?_⟩
    refine ⟨Pr, F1, env1, env', ds2, r1, e3, fun vs H2 F2 r2 s2 p2 => ?_⟩
    exact q _ H2 F2 r2 (s1.trans s2) ⟨v, vs, rfl, Rep.mono s2 d1 v p1, p2⟩
def evTup (r : EvA) : Ev := fun env => bindR (r env) fun ds env1 => if ds.length ≤ sizeLine then .ok (.tup ds) env1 else .stuck
def evLst (r : EvA) : Ev := fun env => bindR (r env) fun ds env1 => if ds.length ≤ sizeLine then .ok (.lst ds) env1 else .stuck
theorem px_tup {es : List Expr} {r : EvA} {k : Nat} (h : PXA X C es r) : PX X C (.Tuple es k pos) (evTup r) := (pe_tup h).imp fun σ H Q hq => by
  obtain ⟨Pr, F, env, env', d, rl, e, q⟩ := hq
  obtain ⟨ds, env1, e1, e2⟩ := bindR_ok e
  split at e2
  · rename_i hz
    cases e2
    refine ⟨Pr, F, env, env', ds, rl, e1, fun vs H1 F1 r1 s1 p1 => ⟨by rw [p1.length]; exact hz, fun p hp => ?_⟩⟩
    obtain ⟨r2, s2⟩ := r1.new (o := .tup vs) hp
    exact q _ _ _ r2 (s1.trans s2) ⟨hz, p, vs, rfl, SqT.of upd_same, Reps.mono s2 _ _ p1⟩
  · cases e2
def evBin (g : D → D → Option D) (a b : Ev) : Ev := fun env => bindR (a env) fun x env1 => bindR (b env1) fun y env2 => liftR (g x y) env2
def evUn (g : D → Option D) (a : Ev) : Ev := fun env => bindR (a env) fun x env1 => liftR (g x) env1
def OpD (C : Cfg) (r : R2) (g : D → D → Option D) : Prop := ∀ (Pr F : Hp) (env : Env) (σ : L2.St) (H : Hp) (x y d : D) (vx vy : V) (Q : VK), Rel C Pr F env σ H → BRep C.K F H x vx → BRep C.K F H y vy → g x y = some d →
  (∀ v H' F', Rel C Pr F' env σ H' → Same F F' → Rep C.K F' d v → Q v H') → r vx vy H Q
def UnD (C : Cfg) (r : V → Hp → VK → Prop) (g : D → Option D) : Prop := ∀ (Pr F : Hp) (env : Env) (σ : L2.St) (H : Hp) (x d : D) (vx : V) (Q : VK), Rel C Pr F env σ H → BRep C.K F H x vx → g x = some d →
  (∀ v H' F', Rel C Pr F' env σ H' → Same F F' → Rep C.K F' d v → Q v H') → r vx H Q
theorem bin_go {r : R2} {g : D → D → Option D} {a b : Ev} (o : OpD C r g) (σ : L2.St) (H : Hp) (Q : VK) (h : tE C (evBin g a b) σ H Q) : tOp r (tE C a) (tRd C b) σ H Q := by
  obtain ⟨Pr, F, env, env', d, rl, e, q⟩ := h
  obtain ⟨x, env1, e1, e2⟩ := bindR_ok e
  obtain ⟨y, env2, e3, e4⟩ := bindR_ok e2
  obtain ⟨e5, rfl⟩ := liftR_ok e4
  refine ⟨Pr, F, env, env1, x, rl, e1, fun vx H1 F1 r1 s1 p1 => ⟨Pr, F1, env1, env', y, r1, e3, fun vy H2 F2 r2 s2 p2 => ?_⟩⟩
  exact o Pr F2 env' σ H2 x y d vx vy Q r2 (.inl (Rep.mono s2 x vx p1)) p2 e5 fun v H3 F3 r3 s3 p3 => q v H3 F3 r3 ((s1.trans s2).trans s3) p3
def evBinO (g : D → D → Option D) (i : Nat) (b : Ev) : Ev := fun env => match env[i]? with
  | some (some (_, _)) => bindR (b env) fun y env2 => (match env2[i]? with
    | some (some (_, x)) => liftR (g x y) env2
    | _ => .stuck)
  | _ => .stuck
theorem binO_go {r : R2} {g : D → D → Option D} {i : Nat} {b : Ev} (o : OpD C r g) (σ : L2.St) (H : Hp) (Q : VK) (h : tE C (evBinO g i b) σ H Q) : tOp r (tVar i) (tRd C b) σ H Q := by
  obtain ⟨Pr, F, env, env', d, rl, e, q⟩ := h
  unfold evBinO at e
  split at e
  · rename_i o0 d0 h0
    obtain ⟨v, hv, _⟩ := rl.rd h0
    obtain ⟨y, env2, e1, e2⟩ := bindR_ok e
    split at e2
    · rename_i o2 x h2
      obtain ⟨e5, rfl⟩ := liftR_ok e2
      refine ⟨v, hv, Pr, F, env, env', y, rl, e1, fun vy H2 F2 r2 s2 p2 => ?_⟩
      obtain ⟨v', hv', p⟩ := r2.rd h2
      rw [hv] at hv'; cases hv'
      exact o Pr F2 env' σ H2 x y d v vy Q r2 p p2 e5 fun v H3 F3 r3 s3 p3 => q v H3 F3 r3 (s2.trans s3) p3
    · cases e2
  · cases e
theorem px_op {op : Operator} {r : R2} {g : D → D → Option D} {x y : Expr} {a b : Ev} (ho : OpR X (binaryOp op) r) (o : OpD C r g) (ha : PX X C x a) (hb : PXB X C y b) : PX X C (.BinOp x op y pos) (evBin g a b) :=
  (pe_op ho ha hb).imp (bin_go o)
theorem px_opO {op : Operator} {r : R2} {g : D → D → Option D} {y : Expr} {b : Ev} {px : Pos} (i : Nat) {x : Str} (hN : X.N[i]? = some x) (hv : Vis X.env.scope x) (ho : OpR X (binaryOp op) r) (o : OpD C r g) (hb : PXB X C y b)
    (hd : (x == ("__debug__" : Str)) = false := by decide) (hcd : (x == ("__classdict__" : Str)) = false := by decide) : PX X C (.BinOp (.Name x px) op y pos) (evBinO g i b) :=
  (pe_op ho (pe_var hN hv hd hcd) hb).imp (binO_go o)
theorem px_cmp {op : CmpOp} {r : R2} {g : D → D → Option D} {x y : Expr} {a b : Ev} (ho : OpR X (compareOp op) r) (o : OpD C r g) (ha : PX X C x a) (hb : PXB X C y b) (hm : behindInMarks op y = false) : PX X C (.Compare x [op] [y] pos) (evBin g a b) :=
  (pe_cmpR ho ha hb hm).imp (bin_go o)
theorem px_un {op : UnaryOp} {r : V → Hp → VK → Prop} {g : D → Option D} {x : Expr} {a : Ev} (ho : UnR X (unaryOp op) r) (o : UnD C r g) (ha : PX X C x a) : PX X C (.UnaryOp op x pos) (evUn g a) :=
  (pe_un ho ha).imp fun σ H Q h => by
    obtain ⟨Pr, F, env, env', d, rl, e, q⟩ := h
    obtain ⟨x, env1, e1, e2⟩ := bindR_ok e
    obtain ⟨e3, rfl⟩ := liftR_ok e2
    exact ⟨Pr, F, env, env', x, rl, e1, fun vx H1 F1 r1 s1 p1 => o Pr F1 env' σ H1 x d vx Q r1 (.inl p1) e3 fun v H3 F3 r3 s3 p3 => q v H3 F3 r3 (s1.trans s3) p3⟩
def evB (a : Ev) : EvT := fun env => bindR (a env) fun d env1 => match d with
  | .bl b => .ok b env1
  | _ => .stuck
theorem tB_go {a : Ev} {σ : L2.St} {H : Hp} {Q : Bool → Hp → Prop} (h : tT C (evB a) σ H Q) : tE C a σ H fun x H' => ∃ k, x = .bl k ∧ Q k H' := by
  obtain ⟨Pr, F, env, env', b, rl, e, q⟩ := h
  obtain ⟨d, env1, e1, e2⟩ := bindR_ok e
  refine ⟨Pr, F, env, env1, d, rl, e1, fun v H1 F1 r1 s1 p1 => ?_⟩
  cases d with
  | bl c => cases e2; exact ⟨_, p1, q H1 F1 r1 s1⟩
  | _ => cases e2
theorem pxt_cmp {op : CmpOp} {r : R2} {g : D → D → Option D} {x y : Expr} {a b : Ev} (ho : OpR X (compareOp op) r) (o : OpD C r g) (ha : PX X C x a) (hb : PXB X C y b) (hm : behindInMarks op y = false) : PXT X C (.Compare x [op] [y] pos) (evB (evBin g a b)) :=
  (pt_cmpR ho ha hb hm).imp fun σ H Q h => by
    have h1 := tB_go h
    exact bin_go o σ H _ h1
theorem pxt_val {e : Expr} {a : Ev} (h : PX X C e a) (he : ∀ whole, isTrue e X.env whole = (do let v ← whole; standAt e.pos; holding [v] (truthy v)) := by intro _; rfl) : PXT X C e (evB a) :=
  (pt_val h he).imp fun σ H Q hq => tB_go hq
def evNotT (a : EvT) : EvT := fun env => bindR (a env) fun b env1 => .ok (!b) env1
theorem pxt_not {x : Expr} {a : EvT} (h : PXT X C x a) : PXT X C (.UnaryOp .Not x pos) (evNotT a) := (pt_not h).imp fun σ H Q hq => by
  obtain ⟨Pr, F, env, env', b, rl, e, q⟩ := hq
  obtain ⟨c, env1, e1, e2⟩ := bindR_ok e
  cases e2
  exact ⟨Pr, F, env, env', c, rl, e1, fun H1 F1 r1 s1 => q H1 F1 r1 s1⟩
def evAndT (a b : EvT) : EvT := fun env => bindR (a env) fun c env1 => if c = true then b env1 else .ok false env1
def evOrT (a b : EvT) : EvT := fun env => bindR (a env) fun c env1 => if c = true then .ok true env1 else b env1
def PXW (X : Cx) (C : Cfg) (e : Expr) (ev : EvT) : Prop := PW X e (tT C ev)
theorem pxw_and1 {x : Expr} {a : EvT} (h : PXT X C x a) : PXW X C (.BoolOp .And [x] pos) a := pw_and1 h
theorem pxw_or1 {x : Expr} {a : EvT} (h : PXT X C x a) : PXW X C (.BoolOp .Or [x] pos) a := pw_or1 h
theorem pxw_and {x y : Expr} {rest : List Expr} {a b : EvT} (ha : PXT X C x a) (hb : PXW X C (.BoolOp .And (y :: rest) pos) b) : PXW X C (.BoolOp .And (x :: y :: rest) pos) (evAndT a b) :=
  (pw_and ha hb).imp fun σ H Q hq => by
    obtain ⟨Pr, F, env, env', k, rl, e, q⟩ := hq
    obtain ⟨c, env1, e1, e2⟩ := bindR_ok e
    refine ⟨Pr, F, env, env1, c, rl, e1, fun H1 F1 r1 s1 => ?_⟩
    split at e2
    · rename_i hc; rw [if_pos hc]; exact ⟨Pr, F1, env1, env', k, r1, e2, fun H2 F2 r2 s2 => q H2 F2 r2 (s1.trans s2)⟩
    · rename_i hc; rw [if_neg hc]; cases e2; exact q H1 F1 r1 s1
theorem pxw_or {x y : Expr} {rest : List Expr} {a b : EvT} (ha : PXT X C x a) (hb : PXW X C (.BoolOp .Or (y :: rest) pos) b) : PXW X C (.BoolOp .Or (x :: y :: rest) pos) (evOrT a b) :=
  (pw_or ha hb).imp fun σ H Q hq => by
    obtain ⟨Pr, F, env, env', k, rl, e, q⟩ := hq
    obtain ⟨c, env1, e1, e2⟩ := bindR_ok e
    refine ⟨Pr, F, env, env1, c, rl, e1, fun H1 F1 r1 s1 => ?_⟩
    split at e2
    · rename_i hc; rw [if_pos hc]; cases e2; exact q H1 F1 r1 s1
    · rename_i hc; rw [if_neg hc]; exact ⟨Pr, F1, env1, env', k, r1, e2, fun H2 F2 r2 s2 => q H2 F2 r2 (s1.trans s2)⟩
theorem PXW.pt {e : Expr} {a : EvT} (h : PXW X C e a) : PXT X C e a := PW.pt h
def evAnd (a b : Ev) : Ev := fun env => bindR (a env) fun c env1 => match c with
  | .bl true => b env1
  | .bl false => .ok (.bl false) env1
  | _ => .stuck
def evOr (a b : Ev) : Ev := fun env => bindR (a env) fun c env1 => match c with
  | .bl true => .ok (.bl true) env1
  | .bl false => b env1
  | _ => .stuck
def evNot (a : Ev) : Ev := fun env => bindR (a env) fun c env1 => match c with
  | .bl b => .ok (.bl (!b)) env1
  | _ => .stuck
theorem px_one {op : BoolOp} {x : Expr} {a : Ev} (h : PX X C x a) : PX X C (.BoolOp op [x] pos) a := pe_one h
theorem px_and {x y : Expr} {rest : List Expr} {a b : Ev} (ha : PX X C x a) (hb : PX X C (.BoolOp .And (y :: rest) pos) b) : PX X C (.BoolOp .And (x :: y :: rest) pos) (evAnd a b) :=
  (pe_and ha hb).imp fun σ H Q hq => by
    obtain ⟨Pr, F, env, env', k, rl, e, q⟩ := hq
    obtain ⟨c, env1, e1, e2⟩ := bindR_ok e
    refine ⟨Pr, F, env, env1, c, rl, e1, fun v H1 F1 r1 s1 p1 => ?_⟩
    cases c with
    | bl z =>
      refine ⟨z, p1, ?_⟩
      cases z with
      | true => exact iteT ⟨Pr, F1, env1, env', k, r1, e2, fun v2 H2 F2 r2 s2 p2 => q v2 H2 F2 r2 (s1.trans s2) p2⟩
      | false => cases e2; exact iteF (q _ H1 F1 r1 s1 rfl)
    | _ => cases e2
theorem px_or {x y : Expr} {rest : List Expr} {a b : Ev} (ha : PX X C x a) (hb : PX X C (.BoolOp .Or (y :: rest) pos) b) : PX X C (.BoolOp .Or (x :: y :: rest) pos) (evOr a b) :=
  (pe_or ha hb).imp fun σ H Q hq => by
    obtain ⟨Pr, F, env, env', k, rl, e, q⟩ := hq
    obtain ⟨c, env1, e1, e2⟩ := bindR_ok e
    refine ⟨Pr, F, env, env1, c, rl, e1, fun v H1 F1 r1 s1 p1 => ?_⟩
    cases c with
    | bl z =>
      refine ⟨z, p1, ?_⟩
      cases z with
      | true => cases e2; exact iteT (q _ H1 F1 r1 s1 rfl)
      | false => exact iteF ⟨Pr, F1, env1, env', k, r1, e2, fun v2 H2 F2 r2 s2 p2 => q v2 H2 F2 r2 (s1.trans s2) p2⟩
    | _ => cases e2
def evIf (t : EvT) (a b : Ev) : Ev := fun env => bindR (t env) fun c env1 => if c = true then a env1 else b env1
end
end Ev
namespace Ev
open PySem PySem.Spec PyProof.Rows L2
def eqL (f : D → D → Option Bool) : List D → List D → Option Bool
  | [], [] => some true
  | x :: xs, y :: ys => match f x y, eqL f xs ys with
    | some a, some b => some (a && b)
    | _, _ => none
  | [], _ :: _ => some false
  | _ :: _, [] => some false
def eqN : Nat → D → D → Option Bool
  | 0, _, _ => none
  | n + 1, .tup xs, .tup ys => eqL (eqN n) xs ys
  | n + 1, .lst xs, .lst ys => eqL (eqN n) xs ys
  | _ + 1, .dct _, _ => none
  | _ + 1, _, .dct _ => none
  | _ + 1, .arr _, _ => none
  | _ + 1, _, .arr _ => none
  | _ + 1, .non, .non => some true
  | _ + 1, .bl a, .bl b => some (a == b)
  | _ + 1, .bl a, .int b => some ((if a then 1 else 0) == b)
  | _ + 1, .int a, .bl b => some (a == (if b then 1 else 0))
  | _ + 1, .int a, .int b => some (a == b)
  | _ + 1, .str a, .str b => some (a == b)
  | _ + 1, _, _ => some false
mutual
def Sh (h : Heap) : D → Value → Prop
  | .non, u => u = .none
  | .bl b, u => u = .bool b
  | .int i, u => ∃ t, u = .int i t
  | .str x, u => ∃ t, u = .str (strOf x) t
  | .tup xs, u => ∃ a its, u = .ref a ∧ IsTup h a its.toArray ∧ Shs h xs its
  | .lst xs, u => ∃ a its, u = .ref a ∧ PlainL h a its.toArray ∧ Shs h xs its
  | .arr xs, u => ∃ a its, u = .ref a ∧ PlainL h a its.toArray ∧ Shs h xs its
  | .dct _, u => ∃ a o, u = .ref a ∧ h.get? a = some o ∧ o.ExactDict
def Shs (h : Heap) : List D → List Value → Prop
  | [], us => us = []
  | d :: ds, us => ∃ u r, us = u :: r ∧ Sh h d u ∧ Shs h ds r
end
theorem Shs.length {h : Heap} : ∀ {ds : List D} {us : List Value}, Shs h ds us → us.length = ds.length
  | [], _, e => by cases e; rfl
  | d :: ds, us, e => by obtain ⟨u, r, rfl, _, h2⟩ := e; rw [List.length_cons, List.length_cons, h2.length]
section
variable {X : Cx} {pins : List (Addr × Obj)} {σ : L2.St} {H : Hp} {s : Shared}
mutual
theorem Rep.sh (I : Inv X pins σ H s) : ∀ (d : D) (v : V) (u : Value), Rep X.K H d v → RelV v u → Sh s.heap d u
  | .non, _, _, h, r => by cases h; exact r
  | .bl _, _, _, h, r => by cases h; exact r
  | .int _, _, _, h, r => by cases h; exact r
  | .str _, _, _, h, r => by obtain ⟨h, _⟩ := h; cases h; exact r
  | .tup xs, v, u, h, r => by
    obtain ⟨z, a, vs, rfl, h1, h2⟩ := h
    cases r
    obtain ⟨its, rv, p, _⟩ := I.tuple h1
    exact ⟨a, its, rfl, p, Reps.sh I xs vs its h2 rv⟩
  | .lst xs, v, u, h, r => by
    obtain ⟨z, a, vs, rfl, h1, h2⟩ := h
    cases r
    obtain ⟨its, rv, p, _⟩ := I.list (SqL.of h1)
    exact ⟨a, its, rfl, p, Reps.sh I xs vs its h2 rv⟩
  | .arr xs, v, u, h, r => by
    obtain ⟨z, a, vs, rfl, h1, h2⟩ := h
    cases r
    obtain ⟨its, rv, p, _⟩ := I.list h1
    exact ⟨a, its, rfl, p, Reps.sh I xs vs its h2 rv⟩
  | .dct kvs, v, u, h, r => by
    obtain ⟨z, a, ks, rfl, h1, h2⟩ := h
    cases r
    obtain ⟨_, _, vs, _, o, _, _, e, ex, _⟩ := h1.ok I.hok
    exact ⟨a, o, rfl, e, ex⟩
theorem Reps.sh (I : Inv X pins σ H s) : ∀ (ds : List D) (vs : List V) (us : List Value), Reps X.K H ds vs → Vals vs us → Shs s.heap ds us
  | [], _, _, h, r => by cases h; cases r; exact rfl
  | d :: ds, vs, us, h, r => by
    obtain ⟨v, rr, rfl, h1, h2⟩ := h
    cases r with
    | cons q qs => exact ⟨_, _, rfl, Rep.sh I d v _ h1 q, Reps.sh I ds rr _ h2 qs⟩
end
end
theorem tup_inj {h : Heap} {a : Addr} {xs ys : Array Value} (p : IsTup h a xs) (q : IsTup h a ys) : xs = ys := by
  obtain ⟨o, e, _, n, d⟩ := p
  obtain ⟨o', e', _, n', d'⟩ := q
  rw [e] at e'; cases e'
  rw [d] at d'; cases d'; rfl
theorem lst_inj {h : Heap} {a : Addr} {xs ys : Array Value} (p : PlainL h a xs) (q : PlainL h a ys) : xs = ys := by
  obtain ⟨o, e, _, n, d⟩ := p.isList
  obtain ⟨o', e', _, n', d'⟩ := q.isList
  rw [e] at e'; cases e'
  rw [d] at d'; cases d'; rfl
theorem tup_lst {h : Heap} {a : Addr} {xs ys : Array Value} (p : IsTup h a xs) (q : PlainL h a ys) : False := by
  obtain ⟨o, e, c, n, d⟩ := p
  obtain ⟨o', e', c', n', d'⟩ := q.isList
  rw [e] at e'; cases e'
  rw [c] at c'
  simp at c'
theorem eqN_same {h : Heap} : ∀ (n : Nat) (d e : D) (u : Value) (b : Bool), Sh h d u → Sh h e u → eqN n d e = some b → b = true
  | 0, _, _, _, _, _, _, hb => by simp [eqN] at hb
  | n + 1, d, e, u, b, hd, he, hb => by
    have all : ∀ (xs ys : List D) (us : List Value) (b : Bool), Shs h xs us → Shs h ys us → eqL (eqN n) xs ys = some b → b = true := by
      intro xs
      induction xs with
      | nil =>
        intro ys us b h1 h2 hb
        cases h1
        cases ys with
        | nil => simp [eqL] at hb; exact hb
        | cons y ys => obtain ⟨u, r, q, _⟩ := h2; cases q
      | cons x xs ih =>
        intro ys us b h1 h2 hb
        obtain ⟨u, r, rfl, h3, h4⟩ := h1
        cases ys with
        | nil => cases h2
        | cons y ys =>
          obtain ⟨u', r', q, h5, h6⟩ := h2
          cases q
          unfold eqL at hb
          cases q1 : eqN n x y with
          | none => rw [q1] at hb; simp at hb
          | some c =>
            cases q2 : eqL (eqN n) xs ys with
            | none => rw [q1, q2] at hb; simp at hb
            | some c' =>
              rw [q1, q2] at hb
              have e1 := eqN_same n x y u c h3 h5 q1
              have e2 := ih ys r c' h4 h6 q2
              subst e1 e2
              simp at hb
              exact hb
    cases d with
    | non => cases hd; cases e <;> simp [Sh] at he; simp [eqN] at hb; exact hb
    | bl c => cases hd; cases e <;> simp [Sh] at he; subst he; simp [eqN] at hb; exact hb
    | int i => obtain ⟨t, rfl⟩ := hd; cases e <;> simp [Sh] at he; subst he; simp [eqN] at hb; exact hb
    | str x =>
      obtain ⟨t, rfl⟩ := hd
      cases e with
      | str y =>
        obtain ⟨t', q⟩ := he
        injection q with q1 _
        unfold strOf at q1
        injection q1 with q2
        have q3 := congrArg Array.toList q2
        simp at q3
        subst q3
        simp [eqN] at hb
        exact hb
      | _ => simp [Sh] at he
    | tup xs =>
      obtain ⟨a, its, rfl, p, hs⟩ := hd
      cases e with
      | tup ys =>
        obtain ⟨a', its', q, p', hs'⟩ := he
        cases q
        have e2 : its = its' := by simpa using tup_inj p p'
        subst e2
        exact all xs ys its b hs hs' (by simpa only [eqN] using hb)
      | lst ys =>
        obtain ⟨a', its', q, p', hs'⟩ := he
        cases q
        exact (tup_lst p p').elim
      | dct kvs => simp [eqN] at hb
      | arr kvs => simp [eqN] at hb
      | _ => simp [Sh] at he
    | lst xs =>
      obtain ⟨a, its, rfl, p, hs⟩ := hd
      cases e with
      | lst ys =>
        obtain ⟨a', its', q, p', hs'⟩ := he
        cases q
        have e2 : its = its' := by simpa using lst_inj p p'
        subst e2
        exact all xs ys its b hs hs' (by simpa only [eqN] using hb)
      | tup ys =>
        obtain ⟨a', its', q, p', hs'⟩ := he
        cases q
        exact (tup_lst p' p).elim
      | dct kvs => simp [eqN] at hb
      | arr kvs => simp [eqN] at hb
      | _ => simp [Sh] at he
    | dct kvs => cases e <;> simp [eqN] at hb
    | arr kvs => cases e <;> simp [eqN] at hb
theorem eqN_det {h : Heap} : ∀ (n : Nat) (d d' e : D) (u : Value) (b b' : Bool), Sh h d u → Sh h d' u → eqN n d e = some b → eqN n d' e = some b' → b = b'
  | 0, _, _, _, _, _, _, _, _, hb, _ => by simp [eqN] at hb
  | n + 1, d, d', e, u, b, b', hd, hd', hb, hb' => by
    have all : ∀ (xs xs' ys : List D) (us : List Value) (b b' : Bool), Shs h xs us → Shs h xs' us → eqL (eqN n) xs ys = some b → eqL (eqN n) xs' ys = some b' → b = b' := by
      intro xs
      induction xs with
      | nil =>
        intro xs' ys us b b' h1 h2 hb hb'
        cases h1
        cases xs' with
        | nil => rw [hb] at hb'; exact Option.some.inj hb'
        | cons y ys => obtain ⟨u, r, q, _⟩ := h2; cases q
      | cons x xs ih =>
        intro xs' ys us b b' h1 h2 hb hb'
        obtain ⟨u, r, rfl, h3, h4⟩ := h1
        cases xs' with
        | nil => cases h2
        | cons x' xs' =>
          obtain ⟨u', r', q, h5, h6⟩ := h2
          cases q
          cases ys with
          | nil => simp [eqL] at hb hb'; rw [hb, hb']
          | cons y ys =>
            unfold eqL at hb hb'
            cases q1 : eqN n x y with
            | none => rw [q1] at hb; simp at hb
            | some c =>
              cases q2 : eqL (eqN n) xs ys with
              | none => rw [q1, q2] at hb; simp at hb
              | some c2 =>
                cases q3 : eqN n x' y with
                | none => rw [q3] at hb'; simp at hb'
                | some c3 =>
                  cases q4 : eqL (eqN n) xs' ys with
                  | none => rw [q3, q4] at hb'; simp at hb'
                  | some c4 =>
                    rw [q1, q2] at hb
                    rw [q3, q4] at hb'
                    have e1 := eqN_det n x x' y u c c3 h3 h5 q1 q3
                    have e2 := ih xs' ys r c2 c4 h4 h6 q2 q4
                    subst e1 e2
                    simp at hb hb'
                    rw [← hb, ← hb']
    cases d with
    | non => cases hd; cases d' <;> simp [Sh] at hd'; rw [hb] at hb'; exact Option.some.inj hb'
    | bl c => cases hd; cases d' <;> simp [Sh] at hd'; subst hd'; rw [hb] at hb'; exact Option.some.inj hb'
    | int i => obtain ⟨t, rfl⟩ := hd; cases d' <;> simp [Sh] at hd'; subst hd'; rw [hb] at hb'; exact Option.some.inj hb'
    | str x =>
      obtain ⟨t, rfl⟩ := hd
      cases d' with
      | str y =>
        obtain ⟨t', q⟩ := hd'
        injection q with q1 _
        unfold strOf at q1
        injection q1 with q2
        have q3 := congrArg Array.toList q2
        simp at q3
        subst q3
        rw [hb] at hb'; exact Option.some.inj hb'
      | _ => simp [Sh] at hd'
    | tup xs =>
      obtain ⟨a, its, rfl, p, hs⟩ := hd
      cases d' with
      | tup xs' =>
        obtain ⟨a', its', q, p', hs'⟩ := hd'
        cases q
        have e2 : its = its' := by simpa using tup_inj p p'
        subst e2
        cases e with
        | tup ys => exact all xs xs' ys its b b' hs hs' (by simpa only [eqN] using hb) (by simpa only [eqN] using hb')
        | _ => first | (simp [eqN] at hb; done) | (simp only [eqN, Option.some.injEq] at hb hb'; rw [← hb, ← hb'])
      | lst ys =>
        obtain ⟨a', its', q, p', hs'⟩ := hd'
        cases q
        exact (tup_lst p p').elim
      | dct kvs => cases e <;> simp [eqN] at hb'
      | arr kvs => cases e <;> simp [eqN] at hb'
      | _ => simp [Sh] at hd'
    | lst xs =>
      obtain ⟨a, its, rfl, p, hs⟩ := hd
      cases d' with
      | lst xs' =>
        obtain ⟨a', its', q, p', hs'⟩ := hd'
        cases q
        have e2 : its = its' := by simpa using lst_inj p p'
        subst e2
        cases e with
        | lst ys => exact all xs xs' ys its b b' hs hs' (by simpa only [eqN] using hb) (by simpa only [eqN] using hb')
        | _ => first | (simp [eqN] at hb; done) | (simp only [eqN, Option.some.injEq] at hb hb'; rw [← hb, ← hb'])
      | tup ys =>
        obtain ⟨a', its', q, p', hs'⟩ := hd'
        cases q
        exact (tup_lst p' p).elim
      | dct kvs => cases e <;> simp [eqN] at hb'
      | arr kvs => cases e <;> simp [eqN] at hb'
      | _ => simp [Sh] at hd'
    | dct kvs => cases e <;> simp [eqN] at hb
    | arr kvs => cases e <;> simp [eqN] at hb
theorem strOf_beq (x y : List Nat) : (strOf x == strOf y) = (x == y) := by
  rw [Bool.eq_iff_iff]
  simp only [beq_iff_eq]
  constructor
  · intro e
    unfold strOf at e
    injection e with e
    simpa using congrArg Array.toList e
  · intro e; rw [e]
theorem eqL_len : ∀ {f : D → D → Option Bool} {xs ys : List D}, xs.length ≠ ys.length → ∀ b, eqL f xs ys = some b → b = false
  | f, [], [], h, b, e => absurd rfl h
  | f, [], _ :: _, _, b, e => by simp [eqL] at e; exact e
  | f, _ :: _, [], _, b, e => by simp [eqL] at e; exact e
  | f, x :: xs, y :: ys, h, b, e => by
    unfold eqL at e
    cases h1 : f x y with
    | none => rw [h1] at e; simp at e
    | some c =>
      cases h2 : eqL f xs ys with
      | none => rw [h1, h2] at e; simp at e
      | some d =>
        rw [h1, h2] at e
        have := eqL_len (f := f) (xs := xs) (ys := ys) (by simpa using h) d h2
        subst this
        simp at e
        exact e
theorem eqL_at : ∀ {f : D → D → Option Bool} (xs ys : List D) (b : Bool), eqL f xs ys = some b → ∃ e : Nat → Bool, (∀ (j : Nat) (x y : D), xs[j]? = some x → ys[j]? = some y → f x y = some (e j)) ∧ b = ((List.range (min xs.length ys.length)).all e && xs.length == ys.length)
  | f, [], ys, b, h => by
    refine ⟨fun _ => true, fun j x y hx => by simp at hx, ?_⟩
    cases ys with
    | nil => simp [eqL] at h; simp [h.symm]
    | cons y ys => simp [eqL] at h; simp [h.symm]
  | f, x :: xs, [], b, h => by
    refine ⟨fun _ => true, fun j x y _ hy => by simp at hy, ?_⟩
    simp [eqL] at h
    simp [h.symm]
  | f, x :: xs, y :: ys, b, h => by
    unfold eqL at h
    cases h1 : f x y with
    | none => rw [h1] at h; simp at h
    | some c =>
      cases h2 : eqL f xs ys with
      | none => rw [h1, h2] at h; simp at h
      | some d =>
        rw [h1, h2] at h
        obtain ⟨e, he, hd⟩ := eqL_at xs ys d h2
        refine ⟨fun j => match j with | 0 => c | j + 1 => e j, fun j x' y' hx hy => ?_, ?_⟩
        · cases j with
          | zero => simp at hx hy; subst hx hy; exact h1
          | succ j => exact he j x' y' (by simpa using hx) (by simpa using hy)
        · have hb : b = (c && d) := by simpa using h.symm
          have hm : min (x :: xs).length (y :: ys).length = min xs.length ys.length + 1 := by simp only [List.length_cons]; omega
          rw [hb, hd, hm, List.range_succ_eq_map, List.all_cons, List.all_map, Bool.and_assoc]
          have hl : ((x :: xs).length == (y :: ys).length) = (xs.length == ys.length) := by simp
          rw [hl]
          rfl
theorem shs_get {h : Heap} : ∀ {ds : List D} {us : List Value} {j : Nat} {u : Value}, Shs h ds us → us[j]? = some u → ∃ d, ds[j]? = some d ∧ Sh h d u
  | [], _, _, _, e, g => by cases e; simp at g
  | d :: ds, us, j, u, e, g => by
    obtain ⟨v, r, rfl, h1, h2⟩ := e
    cases j with
    | zero => simp at g; subst g; exact ⟨d, rfl, h1⟩
    | succ j => obtain ⟨c, e1, e2⟩ := shs_get h2 (j := j) (by simpa using g); exact ⟨c, by simpa using e1, e2⟩
theorem eqN_at : ∀ (n : Nat) (d e : D) (u v : Value) (b : Bool) (A : Around) (s : Shared), Sh s.heap d u → Sh s.heap e v → eqN n d e = some b → A.units + n < cLine → SeqAt.EqAt A s u v b
  | 0, _, _, _, _, _, _, _, _, _, h, _ => by simp [eqN] at h
  | n + 1, d, e, u, v, b, A, s, hd, he, h, hu => by
    have hu0 : A.units < cLine := by omega
    have hin : A.in1.units + n < cLine := by show A.units + 1 + n < cLine; omega
    cases d with
    | non =>
      cases hd
      cases e with
      | non => cases he; simp [eqN] at h; subst h; exact SeqAt.EqAt.same _
      | bl c => cases he; simp [eqN] at h; subst h; exact SeqAt.EqAt.none_bool c
      | int i => obtain ⟨t, rfl⟩ := he; simp [eqN] at h; subst h; exact SeqAt.EqAt.none_int i t
      | str x => obtain ⟨t, rfl⟩ := he; simp [eqN] at h; subst h; exact SeqAt.EqAt.none_str _ t
      | tup ys => obtain ⟨a, its, rfl, p, _⟩ := he; simp [eqN] at h; subst h; exact SeqAt.EqAt.none_tuple p hu0
      | lst ys => obtain ⟨a, its, rfl, p, _⟩ := he; simp [eqN] at h; subst h; exact SeqAt.EqAt.none_list p.isList hu0
      | dct kvs => simp [eqN] at h
      | arr kvs => simp [eqN] at h
    | bl c =>
      cases hd
      cases e with
      | non => cases he; simp [eqN] at h; subst h; exact SeqAt.EqAt.bool_none c
      | bl c' => cases he; simp only [eqN, Option.some.injEq] at h; subst h; exact SeqAt.EqAt.bool_bool c c'
      | int i => obtain ⟨t, rfl⟩ := he; simp only [eqN, Option.some.injEq] at h; subst h; exact SeqAt.EqAt.bool_int c i t
      | str x => obtain ⟨t, rfl⟩ := he; simp [eqN] at h; subst h; exact SeqAt.EqAt.bool_str c _ t
      | tup ys => obtain ⟨a, its, rfl, p, _⟩ := he; simp [eqN] at h; subst h; exact SeqAt.EqAt.bool_tuple c p hu0
      | lst ys => obtain ⟨a, its, rfl, p, _⟩ := he; simp [eqN] at h; subst h; exact SeqAt.EqAt.bool_list c p.isList hu0
      | dct kvs => simp [eqN] at h
      | arr kvs => simp [eqN] at h
    | int i =>
      obtain ⟨t', rfl⟩ := hd
      cases e with
      | non => cases he; simp [eqN] at h; subst h; exact SeqAt.EqAt.int_none i t'
      | bl c' => cases he; simp only [eqN, Option.some.injEq] at h; subst h; exact SeqAt.EqAt.int_bool i t' c'
      | int j => obtain ⟨t, rfl⟩ := he; simp only [eqN, Option.some.injEq] at h; subst h; exact SeqAt.EqAt.int_int i t' j t
      | str x => obtain ⟨t, rfl⟩ := he; simp [eqN] at h; subst h; exact SeqAt.EqAt.int_str i t' _ t
      | tup ys => obtain ⟨a, its, rfl, p, _⟩ := he; simp [eqN] at h; subst h; exact SeqAt.EqAt.int_tuple i t' p hu0
      | lst ys => obtain ⟨a, its, rfl, p, _⟩ := he; simp [eqN] at h; subst h; exact SeqAt.EqAt.int_list i t' p.isList hu0
      | dct kvs => simp [eqN] at h
      | arr kvs => simp [eqN] at h
    | str x =>
      obtain ⟨t', rfl⟩ := hd
      cases e with
      | non => cases he; simp [eqN] at h; subst h; exact SeqAt.EqAt.str_none _ t'
      | bl c' => cases he; simp [eqN] at h; subst h; exact SeqAt.EqAt.str_bool _ t' c'
      | int j => obtain ⟨t, rfl⟩ := he; simp [eqN] at h; subst h; exact SeqAt.EqAt.str_int _ t' j t
      | str y => obtain ⟨t, rfl⟩ := he; simp only [eqN, Option.some.injEq] at h; subst h; rw [← strOf_beq]; exact SeqAt.EqAt.str_str _ t' _ t
      | tup ys => obtain ⟨a, its, rfl, p, _⟩ := he; simp [eqN] at h; subst h; exact SeqAt.EqAt.str_tuple _ t' p hu0
      | lst ys => obtain ⟨a, its, rfl, p, _⟩ := he; simp [eqN] at h; subst h; exact SeqAt.EqAt.str_list _ t' p.isList hu0
      | dct kvs => simp [eqN] at h
      | arr kvs => simp [eqN] at h
    | tup xs =>
      obtain ⟨a, its, rfl, p, hs⟩ := hd
      cases e with
      | non => cases he; simp [eqN] at h; subst h; exact SeqAt.EqAt.tuple_none p hu0
      | bl c' => cases he; simp [eqN] at h; subst h; exact SeqAt.EqAt.tuple_bool c' p hu0
      | int j => obtain ⟨t, rfl⟩ := he; simp [eqN] at h; subst h; exact SeqAt.EqAt.tuple_int j t p hu0
      | str y => obtain ⟨t, rfl⟩ := he; simp [eqN] at h; subst h; exact SeqAt.EqAt.tuple_str _ t p hu0
      | tup ys =>
        obtain ⟨a', its', rfl, p', hs'⟩ := he
        by_cases haa : a = a'
        · subst haa
          have := eqN_same (n + 1) (.tup xs) (.tup ys) (.ref a) b ⟨a, its, rfl, p, hs⟩ ⟨a, its', rfl, p', hs'⟩ h
          subst this
          exact SeqAt.EqAt.same _
        · simp only [eqN] at h
          obtain ⟨f, hf, hb⟩ := eqL_at xs ys b h
          have l1 := hs.length
          have l2 := hs'.length
          refine SeqAt.EqAt.of_refs haa ?_
          have := SeqAt.RcAt.tuples (e := f) p p' hu0 fun j h1 h2 => ?_
          · rw [hb]
            simp only [List.size_toArray] at this
            rw [l1, l2] at this
            exact this
          · have g1 : its[j]? = some its.toArray[j] := by simp at h1 ⊢
            have g2 : its'[j]? = some its'.toArray[j] := by simp at h2 ⊢
            obtain ⟨x, q1, q2⟩ := shs_get hs g1
            obtain ⟨y, q3, q4⟩ := shs_get hs' g2
            exact eqN_at n x y _ _ _ A.in1 s q2 q4 (hf j x y q1 q3) hin
      | lst ys => obtain ⟨a', its', rfl, p', _⟩ := he; simp [eqN] at h; subst h; exact SeqAt.EqAt.tuple_list p p'.isList hu0
      | dct kvs => simp [eqN] at h
      | arr kvs => simp [eqN] at h
    | lst xs =>
      obtain ⟨a, its, rfl, p, hs⟩ := hd
      cases e with
      | non => cases he; simp [eqN] at h; subst h; exact SeqAt.EqAt.list_none p.isList hu0
      | bl c' => cases he; simp [eqN] at h; subst h; exact SeqAt.EqAt.list_bool c' p.isList hu0
      | int j => obtain ⟨t, rfl⟩ := he; simp [eqN] at h; subst h; exact SeqAt.EqAt.list_int j t p.isList hu0
      | str y => obtain ⟨t, rfl⟩ := he; simp [eqN] at h; subst h; exact SeqAt.EqAt.list_str _ t p.isList hu0
      | lst ys =>
        obtain ⟨a', its', rfl, p', hs'⟩ := he
        have l1 := hs.length
        have l2 := hs'.length
        by_cases haa : a = a'
        · subst haa
          have := eqN_same (n + 1) (.lst xs) (.lst ys) (.ref a) b ⟨a, its, rfl, p, hs⟩ ⟨a, its', rfl, p', hs'⟩ h
          subst this
          exact SeqAt.EqAt.same _
        · simp only [eqN] at h
          refine SeqAt.EqAt.of_refs haa ?_
          by_cases hl : xs.length = ys.length
          · obtain ⟨f, hf, hb⟩ := eqL_at xs ys b h
            have := SeqAt.RcAt.lists (e := f) p.isList p'.isList (by simp only [List.size_toArray]; omega) hu0 fun j h1 h2 => ?_
            · rw [hb, ← hl, Nat.min_self, beq_self_eq_true, Bool.and_true, ← l1]
              simp only [List.size_toArray] at this
              exact this
            · have g1 : its[j]? = some its.toArray[j] := by simp at h1 ⊢
              have g2 : its'[j]? = some its'.toArray[j] := by simp at h2 ⊢
              obtain ⟨x, q1, q2⟩ := shs_get hs g1
              obtain ⟨y, q3, q4⟩ := shs_get hs' g2
              exact eqN_at n x y _ _ _ A.in1 s q2 q4 (hf j x y q1 q3) hin
          · have := eqL_len hl b h
            subst this
            exact SeqAt.RcAt.lists_lengths p.isList p'.isList (by simp only [List.size_toArray]; rw [l1, l2]; simpa using hl) hu0
      | tup ys => obtain ⟨a', its', rfl, p', _⟩ := he; simp [eqN] at h; subst h; exact SeqAt.EqAt.list_tuple p.isList p' hu0
      | dct kvs => simp [eqN] at h
      | arr kvs => simp [eqN] at h
    | dct kvs => cases e <;> simp [eqN] at h
    | arr kvs => cases e <;> simp [eqN] at h
end Ev
namespace Ev
open PySem PySem.Spec PyProof.Rows L2
theorem items_at (n : Nat) (its its' : List Value) (xs ys : List D) (f : Nat → Bool) (A : Around) (s : Shared) (hs : Shs s.heap xs its) (hs' : Shs s.heap ys its') (hf : ∀ (j : Nat) (x y : D), xs[j]? = some x → ys[j]? = some y → eqN n x y = some (f j)) (hin : A.in1.units + n < cLine)
    (j : Nat) (h1 : j < its.toArray.size) (h2 : j < its'.toArray.size) : SeqAt.EqAt A.in1 s its.toArray[j] its'.toArray[j] (f j) := by
  have g1 : its[j]? = some its.toArray[j] := by simp at h1 ⊢
  have g2 : its'[j]? = some its'.toArray[j] := by simp at h2 ⊢
  obtain ⟨x, q1, q2⟩ := shs_get hs g1
  obtain ⟨y, q3, q4⟩ := shs_get hs' g2
  exact eqN_at n x y _ _ _ A.in1 s q2 q4 (hf j x y q1 q3) hin
theorem rc_at (n : Nat) (d e : D) (u v : Value) (b : Bool) (A : Around) (s : Shared) (hd : Sh s.heap d u) (he : Sh s.heap e v) (h : eqN (n + 1) d e = some b) (hu : A.units + (n + 1) < cLine) : SeqAt.RcAt A s u v b := by
  have hu0 : A.units < cLine := by omega
  have hin : A.in1.units + n < cLine := by show A.units + 1 + n < cLine; omega
  cases d with
  | non =>
    cases hd
    cases e with
    | non =>
      cases he
      simp [eqN] at h; subst h; exact SeqAt.RcAt.none_none
    | bl c' =>
      cases he
      simp [eqN] at h; subst h; exact SeqAt.RcAt.none_bool c'
    | int j =>
      obtain ⟨t, rfl⟩ := he
      simp [eqN] at h; subst h; exact SeqAt.RcAt.none_int j t
    | str y =>
      obtain ⟨t, rfl⟩ := he
      simp [eqN] at h; subst h; exact SeqAt.RcAt.none_str _ t
    | tup ys =>
      obtain ⟨a', its', rfl, p', hs'⟩ := he
      simp [eqN] at h; subst h; exact SeqAt.RcAt.none_tuple p' hu0
    | lst ys =>
      obtain ⟨a', its', rfl, p', hs'⟩ := he
      simp [eqN] at h; subst h; exact SeqAt.RcAt.none_list p'.isList hu0
    | arr kvs =>
      simp [eqN] at h
    | dct kvs =>
      simp [eqN] at h
  | bl c =>
    cases hd
    cases e with
    | non =>
      cases he
      simp [eqN] at h; subst h; exact SeqAt.RcAt.bool_none c
    | bl c' =>
      cases he
      simp only [eqN, Option.some.injEq] at h; subst h; exact SeqAt.RcAt.bool_bool c c'
    | int j =>
      obtain ⟨t, rfl⟩ := he
      simp only [eqN, Option.some.injEq] at h; subst h; exact SeqAt.RcAt.bool_int c j t
    | str y =>
      obtain ⟨t, rfl⟩ := he
      simp [eqN] at h; subst h; exact SeqAt.RcAt.bool_str c _ t
    | tup ys =>
      obtain ⟨a', its', rfl, p', hs'⟩ := he
      simp [eqN] at h; subst h; exact SeqAt.RcAt.bool_tuple c p' hu0
    | lst ys =>
      obtain ⟨a', its', rfl, p', hs'⟩ := he
      simp [eqN] at h; subst h; exact SeqAt.RcAt.bool_list c p'.isList hu0
    | arr kvs =>
      simp [eqN] at h
    | dct kvs =>
      simp [eqN] at h
  | int i =>
    obtain ⟨t', rfl⟩ := hd
    cases e with
    | non =>
      cases he
      simp [eqN] at h; subst h; exact SeqAt.RcAt.int_none i t'
    | bl c' =>
      cases he
      simp only [eqN, Option.some.injEq] at h; subst h; exact SeqAt.RcAt.int_bool i t' c'
    | int j =>
      obtain ⟨t, rfl⟩ := he
      simp only [eqN, Option.some.injEq] at h; subst h; exact SeqAt.RcAt.int_int i t' j t
    | str y =>
      obtain ⟨t, rfl⟩ := he
      simp [eqN] at h; subst h; exact SeqAt.RcAt.int_str i t' _ t
    | tup ys =>
      obtain ⟨a', its', rfl, p', hs'⟩ := he
      simp [eqN] at h; subst h; exact SeqAt.RcAt.int_tuple i t' p' hu0
    | lst ys =>
      obtain ⟨a', its', rfl, p', hs'⟩ := he
      simp [eqN] at h; subst h; exact SeqAt.RcAt.int_list i t' p'.isList hu0
    | arr kvs =>
      simp [eqN] at h
    | dct kvs =>
      simp [eqN] at h
  | str x =>
    obtain ⟨t', rfl⟩ := hd
    cases e with
    | non =>
      cases he
      simp [eqN] at h; subst h; exact SeqAt.RcAt.str_none _ t'
    | bl c' =>
      cases he
      simp [eqN] at h; subst h; exact SeqAt.RcAt.str_bool _ t' c'
    | int j =>
      obtain ⟨t, rfl⟩ := he
      simp [eqN] at h; subst h; exact SeqAt.RcAt.str_int _ t' j t
    | str y =>
      obtain ⟨t, rfl⟩ := he
      simp only [eqN, Option.some.injEq] at h; subst h; rw [← strOf_beq]; exact SeqAt.RcAt.str_str _ t' _ t
    | tup ys =>
      obtain ⟨a', its', rfl, p', hs'⟩ := he
      simp [eqN] at h; subst h; exact SeqAt.RcAt.str_tuple _ t' p' hu0
    | lst ys =>
      obtain ⟨a', its', rfl, p', hs'⟩ := he
      simp [eqN] at h; subst h; exact SeqAt.RcAt.str_list _ t' p'.isList hu0
    | arr kvs =>
      simp [eqN] at h
    | dct kvs =>
      simp [eqN] at h
  | tup xs =>
    obtain ⟨a, its, rfl, p, hs⟩ := hd
    cases e with
    | non =>
      cases he
      simp [eqN] at h; subst h; exact SeqAt.RcAt.tuple_none p hu0
    | bl c' =>
      cases he
      simp [eqN] at h; subst h; exact SeqAt.RcAt.tuple_bool c' p hu0
    | int j =>
      obtain ⟨t, rfl⟩ := he
      simp [eqN] at h; subst h; exact SeqAt.RcAt.tuple_int j t p hu0
    | str y =>
      obtain ⟨t, rfl⟩ := he
      simp [eqN] at h; subst h; exact SeqAt.RcAt.tuple_str _ t p hu0
    | tup ys =>
      obtain ⟨a', its', rfl, p', hs'⟩ := he
      simp only [eqN] at h
      have l1 := hs.length
      have l2 := hs'.length
      obtain ⟨f, hf, hb⟩ := eqL_at xs ys b h
      have := SeqAt.RcAt.tuples (e := f) p p' hu0 fun j h1 h2 => ?_
      · rw [hb]
        simp only [List.size_toArray] at this
        rw [l1, l2] at this
        exact this
      · exact items_at n its its' xs ys f A s hs hs' hf hin j h1 h2
    | lst ys =>
      obtain ⟨a', its', rfl, p', hs'⟩ := he
      simp [eqN] at h; subst h; exact SeqAt.RcAt.tuple_list p p'.isList hu0
    | arr kvs =>
      simp [eqN] at h
    | dct kvs =>
      simp [eqN] at h
  | lst xs =>
    obtain ⟨a, its, rfl, p, hs⟩ := hd
    cases e with
    | non =>
      cases he
      simp [eqN] at h; subst h; exact SeqAt.RcAt.list_none p.isList hu0
    | bl c' =>
      cases he
      simp [eqN] at h; subst h; exact SeqAt.RcAt.list_bool c' p.isList hu0
    | int j =>
      obtain ⟨t, rfl⟩ := he
      simp [eqN] at h; subst h; exact SeqAt.RcAt.list_int j t p.isList hu0
    | str y =>
      obtain ⟨t, rfl⟩ := he
      simp [eqN] at h; subst h; exact SeqAt.RcAt.list_str _ t p.isList hu0
    | tup ys =>
      obtain ⟨a', its', rfl, p', hs'⟩ := he
      simp [eqN] at h; subst h; exact SeqAt.RcAt.list_tuple p.isList p' hu0
    | lst ys =>
      obtain ⟨a', its', rfl, p', hs'⟩ := he
      simp only [eqN] at h
      have l1 := hs.length
      have l2 := hs'.length
      by_cases hl : xs.length = ys.length
      · obtain ⟨f, hf, hb⟩ := eqL_at xs ys b h
        have := SeqAt.RcAt.lists (e := f) p.isList p'.isList (by simp only [List.size_toArray]; omega) hu0 fun j h1 h2 => ?_
        · rw [hb, ← hl, Nat.min_self, beq_self_eq_true, Bool.and_true, ← l1]
          simp only [List.size_toArray] at this
          exact this
        · exact items_at n its its' xs ys f A s hs hs' hf hin j h1 h2
      · have := eqL_len hl b h
        subst this
        exact SeqAt.RcAt.lists_lengths p.isList p'.isList (by simp only [List.size_toArray]; rw [l1, l2]; simpa using hl) hu0
    | arr kvs =>
      simp [eqN] at h
    | dct kvs =>
      simp [eqN] at h
  | arr kvs =>
    cases e <;> simp [eqN] at h
  | dct kvs =>
    cases e <;> simp [eqN] at h
theorem rcne_at (n : Nat) (d e : D) (u v : Value) (b : Bool) (A : Around) (s : Shared) (hd : Sh s.heap d u) (he : Sh s.heap e v) (h : eqN (n + 1) d e = some b) (hu : A.units + (n + 1) < cLine) : SeqAt.RcNeAt A s u v (!b) := by
  have hu0 : A.units < cLine := by omega
  have hin : A.in1.units + n < cLine := by show A.units + 1 + n < cLine; omega
  cases d with
  | non =>
    cases hd
    cases e with
    | non =>
      cases he
      simp [eqN] at h; subst h; exact SeqAt.RcNeAt.none_none
    | bl c' =>
      cases he
      simp [eqN] at h; subst h; exact SeqAt.RcNeAt.none_bool c'
    | int j =>
      obtain ⟨t, rfl⟩ := he
      simp [eqN] at h; subst h; exact SeqAt.RcNeAt.none_int j t
    | str y =>
      obtain ⟨t, rfl⟩ := he
      simp [eqN] at h; subst h; exact SeqAt.RcNeAt.none_str _ t
    | tup ys =>
      obtain ⟨a', its', rfl, p', hs'⟩ := he
      simp [eqN] at h; subst h; exact SeqAt.RcNeAt.none_tuple p' hu0
    | lst ys =>
      obtain ⟨a', its', rfl, p', hs'⟩ := he
      simp [eqN] at h; subst h; exact SeqAt.RcNeAt.none_list p'.isList hu0
    | arr kvs =>
      simp [eqN] at h
    | dct kvs =>
      simp [eqN] at h
  | bl c =>
    cases hd
    cases e with
    | non =>
      cases he
      simp [eqN] at h; subst h; exact SeqAt.RcNeAt.bool_none c
    | bl c' =>
      cases he
      simp only [eqN, Option.some.injEq] at h; subst h; exact SeqAt.RcNeAt.bool_bool c c'
    | int j =>
      obtain ⟨t, rfl⟩ := he
      simp only [eqN, Option.some.injEq] at h; subst h; exact SeqAt.RcNeAt.bool_int c j t
    | str y =>
      obtain ⟨t, rfl⟩ := he
      simp [eqN] at h; subst h; exact SeqAt.RcNeAt.bool_str c _ t
    | tup ys =>
      obtain ⟨a', its', rfl, p', hs'⟩ := he
      simp [eqN] at h; subst h; exact SeqAt.RcNeAt.bool_tuple c p' hu0
    | lst ys =>
      obtain ⟨a', its', rfl, p', hs'⟩ := he
      simp [eqN] at h; subst h; exact SeqAt.RcNeAt.bool_list c p'.isList hu0
    | arr kvs =>
      simp [eqN] at h
    | dct kvs =>
      simp [eqN] at h
  | int i =>
    obtain ⟨t', rfl⟩ := hd
    cases e with
    | non =>
      cases he
      simp [eqN] at h; subst h; exact SeqAt.RcNeAt.int_none i t'
    | bl c' =>
      cases he
      simp only [eqN, Option.some.injEq] at h; subst h; exact SeqAt.RcNeAt.int_bool i t' c'
    | int j =>
      obtain ⟨t, rfl⟩ := he
      simp only [eqN, Option.some.injEq] at h; subst h; exact SeqAt.RcNeAt.int_int i t' j t
    | str y =>
      obtain ⟨t, rfl⟩ := he
      simp [eqN] at h; subst h; exact SeqAt.RcNeAt.int_str i t' _ t
    | tup ys =>
      obtain ⟨a', its', rfl, p', hs'⟩ := he
      simp [eqN] at h; subst h; exact SeqAt.RcNeAt.int_tuple i t' p' hu0
    | lst ys =>
      obtain ⟨a', its', rfl, p', hs'⟩ := he
      simp [eqN] at h; subst h; exact SeqAt.RcNeAt.int_list i t' p'.isList hu0
    | arr kvs =>
      simp [eqN] at h
    | dct kvs =>
      simp [eqN] at h
  | str x =>
    obtain ⟨t', rfl⟩ := hd
    cases e with
    | non =>
      cases he
      simp [eqN] at h; subst h; exact SeqAt.RcNeAt.str_none _ t'
    | bl c' =>
      cases he
      simp [eqN] at h; subst h; exact SeqAt.RcNeAt.str_bool _ t' c'
    | int j =>
      obtain ⟨t, rfl⟩ := he
      simp [eqN] at h; subst h; exact SeqAt.RcNeAt.str_int _ t' j t
    | str y =>
      obtain ⟨t, rfl⟩ := he
      simp only [eqN, Option.some.injEq] at h; subst h; rw [← strOf_beq]; exact SeqAt.RcNeAt.str_str _ t' _ t
    | tup ys =>
      obtain ⟨a', its', rfl, p', hs'⟩ := he
      simp [eqN] at h; subst h; exact SeqAt.RcNeAt.str_tuple _ t' p' hu0
    | lst ys =>
      obtain ⟨a', its', rfl, p', hs'⟩ := he
      simp [eqN] at h; subst h; exact SeqAt.RcNeAt.str_list _ t' p'.isList hu0
    | arr kvs =>
      simp [eqN] at h
    | dct kvs =>
      simp [eqN] at h
  | tup xs =>
    obtain ⟨a, its, rfl, p, hs⟩ := hd
    cases e with
    | non =>
      cases he
      simp [eqN] at h; subst h; exact SeqAt.RcNeAt.tuple_none p hu0
    | bl c' =>
      cases he
      simp [eqN] at h; subst h; exact SeqAt.RcNeAt.tuple_bool c' p hu0
    | int j =>
      obtain ⟨t, rfl⟩ := he
      simp [eqN] at h; subst h; exact SeqAt.RcNeAt.tuple_int j t p hu0
    | str y =>
      obtain ⟨t, rfl⟩ := he
      simp [eqN] at h; subst h; exact SeqAt.RcNeAt.tuple_str _ t p hu0
    | tup ys =>
      obtain ⟨a', its', rfl, p', hs'⟩ := he
      simp only [eqN] at h
      have l1 := hs.length
      have l2 := hs'.length
      obtain ⟨f, hf, hb⟩ := eqL_at xs ys b h
      have := SeqAt.RcNeAt.tuples (e := f) p p' hu0 fun j h1 h2 => ?_
      · rw [hb]
        simp only [List.size_toArray] at this
        rw [l1, l2] at this
        exact this
      · exact items_at n its its' xs ys f A s hs hs' hf hin j h1 h2
    | lst ys =>
      obtain ⟨a', its', rfl, p', hs'⟩ := he
      simp [eqN] at h; subst h; exact SeqAt.RcNeAt.tuple_list p p'.isList hu0
    | arr kvs =>
      simp [eqN] at h
    | dct kvs =>
      simp [eqN] at h
  | lst xs =>
    obtain ⟨a, its, rfl, p, hs⟩ := hd
    cases e with
    | non =>
      cases he
      simp [eqN] at h; subst h; exact SeqAt.RcNeAt.list_none p.isList hu0
    | bl c' =>
      cases he
      simp [eqN] at h; subst h; exact SeqAt.RcNeAt.list_bool c' p.isList hu0
    | int j =>
      obtain ⟨t, rfl⟩ := he
      simp [eqN] at h; subst h; exact SeqAt.RcNeAt.list_int j t p.isList hu0
    | str y =>
      obtain ⟨t, rfl⟩ := he
      simp [eqN] at h; subst h; exact SeqAt.RcNeAt.list_str _ t p.isList hu0
    | tup ys =>
      obtain ⟨a', its', rfl, p', hs'⟩ := he
      simp [eqN] at h; subst h; exact SeqAt.RcNeAt.list_tuple p.isList p' hu0
    | lst ys =>
      obtain ⟨a', its', rfl, p', hs'⟩ := he
      simp only [eqN] at h
      have l1 := hs.length
      have l2 := hs'.length
      by_cases hl : xs.length = ys.length
      · obtain ⟨f, hf, hb⟩ := eqL_at xs ys b h
        have := SeqAt.RcNeAt.lists (e := f) p.isList p'.isList (by simp only [List.size_toArray]; omega) hu0 fun j h1 h2 => ?_
        · rw [hb, ← hl, Nat.min_self, beq_self_eq_true, Bool.and_true, ← l1]
          simp only [List.size_toArray] at this
          exact this
        · exact items_at n its its' xs ys f A s hs hs' hf hin j h1 h2
      · have := eqL_len hl b h
        subst this
        exact SeqAt.RcNeAt.lists_lengths p.isList p'.isList (by simp only [List.size_toArray]; rw [l1, l2]; simpa using hl) hu0
    | arr kvs =>
      simp [eqN] at h
    | dct kvs =>
      simp [eqN] at h
  | arr kvs =>
    cases e <;> simp [eqN] at h
  | dct kvs =>
    cases e <;> simp [eqN] at h
end Ev
namespace Ev
open PySem PySem.Spec PyProof.Rows L2
section
variable {X : Cx} {C : Cfg}
def rEqD (K : Fg) : R2 := fun x y H Q => ∃ dx dy b, Rep K H dx x ∧ Rep K H dy y ∧ eqN 60 dx dy = some b ∧ Q (.bl b) H
def rNeD (K : Fg) : R2 := fun x y H Q => ∃ dx dy b, Rep K H dx x ∧ Rep K H dy y ∧ eqN 60 dx dy = some b ∧ Q (.bl (!b)) H
theorem op_eqD (hu : X.A.units + 60 < cLine) : OpR X (compareOp .Eq) (rEqD X.K) := by
  intro pins s σ H x y v u Q I rx ry h
  obtain ⟨dx, dy, b, h1, h2, h3, q⟩ := h
  exact rc_at 59 dx dy v u b X.A s (Rep.sh I dx x v h1 rx) (Rep.sh I dy y u h2 ry) h3 hu X.prog X.w X.xe _ ⟨.bl b, H, I, rfl, q⟩
theorem op_neD (hu : X.A.units + 60 < cLine) : OpR X (compareOp .NotEq) (rNeD X.K) := by
  intro pins s σ H x y v u Q I rx ry h
  obtain ⟨dx, dy, b, h1, h2, h3, q⟩ := h
  exact rcne_at 59 dx dy v u b X.A s (Rep.sh I dx x v h1 rx) (Rep.sh I dy y u h2 ry) h3 hu X.prog X.w X.xe _ ⟨.bl (!b), H, I, rfl, q⟩
def gEq (x y : D) : Option D := (eqN 60 x y).map .bl
def gNe (x y : D) : Option D := (eqN 60 x y).map fun b => .bl (!b)
theorem od_eq : OpD C (rEqD C.K) gEq := by
  intro Pr F env σ H x y d vx vy Q r hx hy h q
  unfold gEq at h
  cases e : eqN 60 x y with
  | none => rw [e] at h; cases h
  | some b =>
    rw [e] at h
    cases h
    exact ⟨x, y, b, hx.rep r.fr, hy.rep r.fr, e, q _ H F r (Same.refl F) rfl⟩
theorem od_ne : OpD C (rNeD C.K) gNe := by
  intro Pr F env σ H x y d vx vy Q r hx hy h q
  unfold gNe at h
  cases e : eqN 60 x y with
  | none => rw [e] at h; cases h
  | some b =>
    rw [e] at h
    cases h
    exact ⟨x, y, b, hx.rep r.fr, hy.rep r.fr, e, q _ H F r (Same.refl F) rfl⟩
def inL (x : D) : List D → Option Bool
  | [] => some false
  | y :: ys => match eqN 59 y x, inL x ys with
    | some a, some b => some (a || b)
    | _, _ => none
theorem inL_any (x : D) : ∀ (ys : List D) (b : Bool), inL x ys = some b → (∀ y ∈ ys, ∃ c, eqN 59 y x = some c) ∧ (b = true ↔ ∃ y ∈ ys, eqN 59 y x = some true)
  | [], b, h => by simp [inL] at h; subst h; simp
  | y :: ys, b, h => by
    unfold inL at h
    cases h1 : eqN 59 y x with
    | none => rw [h1] at h; simp at h
    | some c =>
      cases h2 : inL x ys with
      | none => rw [h1, h2] at h; simp at h
      | some d =>
        rw [h1, h2] at h
        obtain ⟨i1, i2⟩ := inL_any x ys d h2
        have hb : b = (c || d) := by simpa using h.symm
        refine ⟨fun z hz => ?_, ?_⟩
        · rcases List.mem_cons.mp hz with rfl | hz
          · exact ⟨c, h1⟩
          · exact i1 z hz
        · rw [hb, Bool.or_eq_true]
          constructor
          · rintro (hc | hd)
            · exact ⟨y, List.mem_cons_self, by rw [h1, hc]⟩
            · obtain ⟨z, hz, e⟩ := i2.mp hd
              exact ⟨z, List.mem_cons_of_mem _ hz, e⟩
          · rintro ⟨z, hz, e⟩
            rcases List.mem_cons.mp hz with rfl | hz
            · rw [h1] at e; left; simpa using e
            · right; exact i2.mpr ⟨z, hz, e⟩
open Classical in
noncomputable def ansU (h : Heap) (x : D) (u : Value) : Bool := decide (∃ y, Sh h y u ∧ eqN 59 y x = some true)
open Classical in
theorem ansU_eq {h : Heap} {x y : D} {u : Value} {c : Bool} (hy : Sh h y u) (e : eqN 59 y x = some c) : ansU h x u = c := by
  unfold ansU
  cases c with
  | true => exact decide_eq_true ⟨y, hy, e⟩
  | false =>
    refine decide_eq_false ?_
    rintro ⟨z, hz, e'⟩
    have := eqN_det 59 z y x u true false hz hy e' e
    cases this
theorem in_ans {s : Shared} {A : Around} {x : D} {v : Value} {ys : List D} {us : List Value} {b : Bool} (hx : Sh s.heap x v) (hs : Shs s.heap ys us) (h : inL x ys = some b) (hu : A.units + 59 < cLine) :
    (∀ w, w ∈ us.toArray → SeqAt.EqAt A s w v (ansU s.heap x w)) ∧ us.toArray.any (ansU s.heap x) = b := by
  obtain ⟨h1, h2⟩ := inL_any x ys b h
  have item : ∀ w ∈ us, ∃ y ∈ ys, Sh s.heap y w := fun w hw => by
    obtain ⟨j, hj, e⟩ := List.mem_iff_getElem.mp hw
    obtain ⟨d, e1, e2⟩ := shs_get hs (show us[j]? = some w by rw [List.getElem?_eq_getElem hj, e])
    exact ⟨d, List.mem_of_getElem? e1, e2⟩
  have back : ∀ {ys : List D} {us : List Value}, Shs s.heap ys us → ∀ y ∈ ys, ∃ w ∈ us, Sh s.heap y w := by
    intro ys
    induction ys with
    | nil => intro us _ y hy; cases hy
    | cons z zs ih =>
      intro us hs y hy
      obtain ⟨w, r, rfl, g1, g2⟩ := hs
      rcases List.mem_cons.mp hy with rfl | hy
      · exact ⟨w, List.mem_cons_self, g1⟩
      · obtain ⟨w', m, g⟩ := ih g2 y hy
        exact ⟨w', List.mem_cons_of_mem _ m, g⟩
  refine ⟨fun w hw => ?_, ?_⟩
  · obtain ⟨y, hy, sy⟩ := item w (by simpa using hw)
    obtain ⟨c, hc⟩ := h1 y hy
    rw [ansU_eq sy hc]
    exact eqN_at 59 y x w v c A s sy hx hc hu
  · rw [List.any_toArray, Bool.eq_iff_iff, h2, List.any_eq_true]
    constructor
    · rintro ⟨w, hw, e⟩
      obtain ⟨y, hy, sy⟩ := item w hw
      obtain ⟨c, hc⟩ := h1 y hy
      rw [ansU_eq sy hc] at e
      subst e
      exact ⟨y, hy, hc⟩
    · rintro ⟨y, hy, e⟩
      obtain ⟨w, hw, sy⟩ := back hs y hy
      exact ⟨w, hw, ansU_eq sy e⟩
def seqOf : D → Option (List D)
  | .tup xs => some xs
  | .lst xs => some xs
  | .arr xs => some xs
  | _ => none
def rInD (K : Fg) (neg : Bool) : R2 := fun x y H Q => ∃ dx dy ys b, Rep K H dx x ∧ Rep K H dy y ∧ seqOf dy = some ys ∧ inL dx ys = some b ∧ Q (.bl (if neg then !b else b)) H
theorem op_inD (hu : X.A.units + 61 < cLine) : OpR X (compareOp .In) (rInD X.K false) := by
  intro pins s σ H x y v u Q I rx ry h
  obtain ⟨dx, dy, ys, b, h1, h2, h3, h4, q⟩ := h
  have hx := Rep.sh I dx x v h1 rx
  have hy := Rep.sh I dy y u h2 ry
  have hin : X.A.in1.units + 59 < cLine := by show X.A.units + 1 + 59 < cLine; omega
  cases dy with
  | tup zs =>
    cases h3
    obtain ⟨a, its, rfl, p, hs⟩ := hy
    obtain ⟨g1, g2⟩ := in_ans (A := X.A.in1) hx hs h4 hin
    refine SeqAt.in_tupleAt (ansU s.heap dx) p g1 ⟨.bl _, H, I, rfl, ?_⟩
    rw [g2]; exact q
  | lst zs =>
    cases h3
    obtain ⟨a, its, rfl, p, hs⟩ := hy
    obtain ⟨g1, g2⟩ := in_ans (A := X.A.in1) hx hs h4 hin
    refine SeqAt.in_listAt (ansU s.heap dx) p.isList g1 ⟨.bl _, H, I, rfl, ?_⟩
    rw [g2]; exact q
  | arr zs =>
    cases h3
    obtain ⟨a, its, rfl, p, hs⟩ := hy
    obtain ⟨g1, g2⟩ := in_ans (A := X.A.in1) hx hs h4 hin
    refine SeqAt.in_listAt (ansU s.heap dx) p.isList g1 ⟨.bl _, H, I, rfl, ?_⟩
    rw [g2]; exact q
  | _ => cases h3
theorem op_notInD (hu : X.A.units + 61 < cLine) : OpR X (compareOp .NotIn) (rInD X.K true) := by
  intro pins s σ H x y v u Q I rx ry h
  obtain ⟨dx, dy, ys, b, h1, h2, h3, h4, q⟩ := h
  have hx := Rep.sh I dx x v h1 rx
  have hy := Rep.sh I dy y u h2 ry
  have hin : X.A.in1.units + 59 < cLine := by show X.A.units + 1 + 59 < cLine; omega
  cases dy with
  | tup zs =>
    cases h3
    obtain ⟨a, its, rfl, p, hs⟩ := hy
    obtain ⟨g1, g2⟩ := in_ans (A := X.A.in1) hx hs h4 hin
    refine SeqAt.notIn_tupleAt (ansU s.heap dx) p g1 ⟨.bl _, H, I, rfl, ?_⟩
    rw [g2]; exact q
  | lst zs =>
    cases h3
    obtain ⟨a, its, rfl, p, hs⟩ := hy
    obtain ⟨g1, g2⟩ := in_ans (A := X.A.in1) hx hs h4 hin
    refine SeqAt.notIn_listAt (ansU s.heap dx) p.isList g1 ⟨.bl _, H, I, rfl, ?_⟩
    rw [g2]; exact q
  | arr zs =>
    cases h3
    obtain ⟨a, its, rfl, p, hs⟩ := hy
    obtain ⟨g1, g2⟩ := in_ans (A := X.A.in1) hx hs h4 hin
    refine SeqAt.notIn_listAt (ansU s.heap dx) p.isList g1 ⟨.bl _, H, I, rfl, ?_⟩
    rw [g2]; exact q
  | _ => cases h3
end
end Ev
namespace Ev
open PySem PySem.Spec PyProof.Rows L2
theorem OpD.or {C : Cfg} {r r' : R2} {g g' : D → D → Option D} (h : OpD C r g) (h' : OpD C r' g') : OpD C (fun x y H Q => r x y H Q ∨ r' x y H Q) (fun x y => (g x y).or (g' x y)) := by
  intro Pr F env σ H x y d vx vy Q rl hx hy e q
  have e : (g x y).or (g' x y) = some d := e
  cases e1 : g x y with
  | some c =>
    rw [e1] at e
    cases e
    exact .inl (h Pr F env σ H x y d vx vy Q rl hx hy e1 q)
  | none =>
    rw [e1] at e
    exact .inr (h' Pr F env σ H x y d vx vy Q rl hx hy e q)
section
variable {X : Cx} {C : Cfg}
def gInS (x y : D) : Option D := match seqOf y with
  | some ys => (inL x ys).map .bl
  | none => none
def gNotInS (x y : D) : Option D := match seqOf y with
  | some ys => (inL x ys).map fun b => .bl (!b)
  | none => none
theorem od_inS : OpD C (rInD C.K false) gInS := by
  intro Pr F env σ H x y d vx vy Q r hx hy h q
  unfold gInS at h
  cases e1 : seqOf y with
  | none => rw [e1] at h; cases h
  | some ys =>
    rw [e1] at h
    cases e : inL x ys with
    | none => simp only [e, Option.map_none] at h; cases h
    | some b =>
      simp only [e, Option.map_some] at h
      cases h
      exact ⟨x, y, ys, b, hx.rep r.fr, hy.rep r.fr, e1, e, q _ H F r (Same.refl F) rfl⟩
theorem od_notInS : OpD C (rInD C.K true) gNotInS := by
  intro Pr F env σ H x y d vx vy Q r hx hy h q
  unfold gNotInS at h
  cases e1 : seqOf y with
  | none => rw [e1] at h; cases h
  | some ys =>
    rw [e1] at h
    cases e : inL x ys with
    | none => simp only [e, Option.map_none] at h; cases h
    | some b =>
      simp only [e, Option.map_some] at h
      cases h
      exact ⟨x, y, ys, b, hx.rep r.fr, hy.rep r.fr, e1, e, q _ H F r (Same.refl F) rfl⟩
def gInT (x y : D) : Option D := match x, y with
  | .str [c], .str z => some (.bl (decide (c ∈ z)))
  | _, _ => none
def gNotInT (x y : D) : Option D := match x, y with
  | .str [c], .str z => some (.bl (!decide (c ∈ z)))
  | _, _ => none
abbrev rInT : R2 := fun x y H Q => ∃ i j, x = .str i ∧ y = .str j ∧ Q (.bl (!(Builtin.Str.occurrences j i 0 j.length 1).isEmpty)) H
abbrev rNotInT : R2 := fun x y H Q => ∃ i j, x = .str i ∧ y = .str j ∧ Q (.bl (!(!(Builtin.Str.occurrences j i 0 j.length 1).isEmpty))) H
theorem one_sign (c : Nat) (z : List Nat) : (!(Builtin.Str.occurrences (strOf z) (strOf [c]) 0 (strOf z).length 1).isEmpty) = decide (c ∈ z) := by
  have := StrLaws.found_one (strOf z) c
  unfold strOf at this ⊢
  simpa using this
theorem od_inT : OpD C rInT gInT := by
  intro Pr F env σ H x y d vx vy Q r hx hy h q
  unfold gInT at h
  split at h
  · rename_i c z
    cases h
    obtain ⟨rfl, _⟩ := hx.str
    obtain ⟨rfl, _⟩ := hy.str
    refine ⟨_, _, rfl, rfl, ?_⟩
    rw [one_sign]
    exact q _ H F r (Same.refl F) rfl
  · cases h
theorem od_notInT : OpD C rNotInT gNotInT := by
  intro Pr F env σ H x y d vx vy Q r hx hy h q
  unfold gNotInT at h
  split at h
  · rename_i c z
    cases h
    obtain ⟨rfl, _⟩ := hx.str
    obtain ⟨rfl, _⟩ := hy.str
    refine ⟨_, _, rfl, rfl, ?_⟩
    rw [one_sign]
    exact q _ H F r (Same.refl F) rfl
  · cases h
def gIn (x y : D) : Option D := (gInS x y).or (gInT x y)
def gNotIn (x y : D) : Option D := (gNotInS x y).or (gNotInT x y)
abbrev rIn2 (K : Fg) : R2 := fun x y H Q => rInD K false x y H Q ∨ rInT x y H Q
abbrev rNotIn2 (K : Fg) : R2 := fun x y H Q => rInD K true x y H Q ∨ rNotInT x y H Q
theorem op_in2 (hu : X.A.units + 61 < cLine) : OpR X (compareOp .In) (rIn2 X.K) := (op_inD hu).or op_in_str
theorem op_notIn2 (hu : X.A.units + 61 < cLine) : OpR X (compareOp .NotIn) (rNotIn2 X.K) := (op_notInD hu).or op_notin_str
theorem od_in : OpD C (rIn2 C.K) gIn := od_inS.or od_inT
theorem od_notIn : OpD C (rNotIn2 C.K) gNotIn := od_notInS.or od_notInT
def isPlain (x : V) : Prop := x = .non ∨ ∃ b, x = .bl b
theorem op_is2 : OpR X (compareOp .Is) (fun x y H Q => isPlain y ∧ Q (.bl (decide (x = y))) H) := by
  intro pins s σ H x y v u Q I rx ry h
  obtain ⟨hp, q⟩ := h
  rcases hp with rfl | ⟨b, rfl⟩
  · exact op_isN pins s σ H x .non v u Q I rx ry ⟨rfl, q⟩
  · cases ry
    refine wpAny_is_plain ?_ (fin_bl I q ?_)
    · cases x <;> first | (cases rx; rfl) | (obtain ⟨t, rfl⟩ := rx; rfl)
    · cases x with
      | bl c => cases rx; cases b <;> cases c <;> rfl
      | _ => first | (cases rx; rfl) | (obtain ⟨t, rfl⟩ := rx; rfl)
def isD : D → D → Option Bool
  | .non, .non => some true
  | .bl a, .bl b => some (a == b)
  | _, .non => some false
  | _, .bl _ => some false
  | _, _ => none
def gIs (x y : D) : Option D := (isD x y).map .bl
theorem isD_v {F H : Hp} {x y : D} {vx vy : V} {b : Bool} (hx : BRep C.K F H x vx) (hy : BRep C.K F H y vy) (h : isD x y = some b) : isPlain vy ∧ decide (vx = vy) = b := by
  have ref_no : ∀ a, ¬ (V.ref a = V.non) := fun a e => by cases e
  cases y with
  | non =>
    obtain rfl := hy.non
    refine ⟨.inl rfl, ?_⟩
    cases x with
    | non => obtain rfl := hx.non; simp [isD] at h; simp [h]
    | bl c => obtain rfl := hx.bl; simp [isD] at h; simp [h]
    | int i => obtain rfl := hx.int; simp [isD] at h; simp [h]
    | str z => obtain ⟨rfl, _⟩ := hx.str; simp [isD] at h; simp [h]
    | tup xs => rcases hx with ⟨_, a, _, rfl, _⟩ | ⟨a, rfl, _⟩ <;> (simp [isD] at h; simp [h])
    | lst xs => rcases hx with ⟨_, a, _, rfl, _⟩ | ⟨a, rfl, _⟩ <;> (simp [isD] at h; simp [h])
    | arr xs => rcases hx with ⟨_, a, _, rfl, _⟩ | ⟨a, rfl, _⟩ <;> (simp [isD] at h; simp [h])
    | dct xs => rcases hx with ⟨_, a, _, rfl, _⟩ | ⟨a, rfl, _⟩ <;> (simp [isD] at h; simp [h])
  | bl k =>
    obtain rfl := hy.bl
    refine ⟨.inr ⟨k, rfl⟩, ?_⟩
    cases x with
    | non => obtain rfl := hx.non; simp [isD] at h; simp [h]
    | bl c => obtain rfl := hx.bl; simp only [isD, Option.some.injEq] at h; rw [← h, dec_bl]
    | int i => obtain rfl := hx.int; simp [isD] at h; simp [h]
    | str z => obtain ⟨rfl, _⟩ := hx.str; simp [isD] at h; simp [h]
    | tup xs => rcases hx with ⟨_, a, _, rfl, _⟩ | ⟨a, rfl, _⟩ <;> (simp [isD] at h; simp [h])
    | lst xs => rcases hx with ⟨_, a, _, rfl, _⟩ | ⟨a, rfl, _⟩ <;> (simp [isD] at h; simp [h])
    | arr xs => rcases hx with ⟨_, a, _, rfl, _⟩ | ⟨a, rfl, _⟩ <;> (simp [isD] at h; simp [h])
    | dct xs => rcases hx with ⟨_, a, _, rfl, _⟩ | ⟨a, rfl, _⟩ <;> (simp [isD] at h; simp [h])
  | _ => cases x <;> simp [isD] at h
theorem od_is : OpD C (fun x y H Q => isPlain y ∧ Q (.bl (decide (x = y))) H) gIs := by
  intro Pr F env σ H x y d vx vy Q r hx hy h q
  unfold gIs at h
  cases e : isD x y with
  | none => rw [e] at h; cases h
  | some b =>
    rw [e] at h; cases h
    obtain ⟨h1, h2⟩ := isD_v hx hy e
    exact ⟨h1, by rw [h2]; exact q _ H F r (Same.refl F) rfl⟩
def gI (c : Int → Int → Bool) (f : Int → Int → D) (x y : D) : Option D := match x, y with
  | .int i, .int j => if c i j = true then some (f i j) else none
  | _, _ => none
theorem od_I {Cd : Int → Int → Prop} {c : Int → Int → Bool} {f : Int → Int → D} {g : Int → Int → V} (hc : ∀ i j, c i j = true → Cd i j) (hf : ∀ i j F, Rep C.K F (f i j) (g i j)) : OpD C (rI Cd g) (gI c f) := by
  intro Pr F env σ H x y d vx vy Q r hx hy h q
  unfold gI at h
  split at h
  · rename_i i j
    split at h
    · rename_i hcc
      cases h
      obtain rfl := hx.int
      obtain rfl := hy.int
      exact ⟨i, j, rfl, rfl, hc i j hcc, q _ H F r (Same.refl F) (hf i j F)⟩
    · cases h
  · cases h
theorem od_I0 {f : Int → Int → D} {g : Int → Int → V} (hf : ∀ i j F, Rep C.K F (f i j) (g i j)) : OpD C (rI0 g) (gI (fun _ _ => true) f) := by
  intro Pr F env σ H x y d vx vy Q r hx hy h q
  unfold gI at h
  split at h
  · rename_i i j
    rw [if_pos rfl] at h
    cases h
    obtain rfl := hx.int
    obtain rfl := hy.int
    exact ⟨i, j, rfl, rfl, q _ H F r (Same.refl F) (hf i j F)⟩
  · cases h
def mulFits (i j : Int) : Bool := decide (Builtin.Int.intBits i + Builtin.Int.intBits j ≤ 134217728)
theorem op_mulB : OpR X (binaryOp .Mult) (rI (fun i j => mulFits i j = true) fun i j => .int (i * j)) :=
  opI fun i j _ _ _ _ _ hc q => mul_int q (mulOk_of_bits (Nat.le_refl _) (Nat.le_refl _) (of_decide_eq_true hc))
def gMul : D → D → Option D := gI mulFits fun i j => .int (i * j)
def gSub : D → D → Option D := gI (fun _ _ => true) fun i j => .int (i - j)
def gMod : D → D → Option D := gI (fun _ j => decide (0 < j)) fun i j => .int (i % j)
def gPow : D → D → Option D := gI (fun i j => decide (0 ≤ j ∧ j ≤ 1000000 ∧ i.natAbs < 2 ^ 64)) fun i j => .int (i ^ j.toNat)
def gShl : D → D → Option D := gI (fun i j => decide (0 ≤ j ∧ j ≤ 1000000 ∧ i.natAbs < 2 ^ 64)) fun i j => .int (i * 2 ^ j.toNat)
def gShr : D → D → Option D := gI (fun _ j => decide (0 ≤ j)) fun i j => .int (i / 2 ^ j.toNat)
def gAnd : D → D → Option D := gI (fun _ _ => true) fun i j => .int (Builtin.bitAnd i j)
theorem od_mul : OpD C (rI (fun i j => mulFits i j = true) fun i j => .int (i * j)) gMul := od_I (fun _ _ h => h) fun _ _ _ => rfl
theorem od_sub : OpD C (rI0 fun i j => .int (i - j)) gSub := od_I0 fun _ _ _ => rfl
theorem od_mod : OpD C (rI (fun _ j => 0 < j) fun i j => .int (i % j)) gMod := od_I (fun _ _ h => of_decide_eq_true h) fun _ _ _ => rfl
theorem od_pow : OpD C (rI CPow fun i j => .int (i ^ j.toNat)) gPow := od_I (fun i j h => (show 0 ≤ j ∧ j ≤ 1000000 ∧ i.natAbs < 2 ^ 64 from of_decide_eq_true h)) fun _ _ _ => rfl
theorem od_shl : OpD C (rI CPow fun i j => .int (i * 2 ^ j.toNat)) gShl := od_I (fun i j h => (show 0 ≤ j ∧ j ≤ 1000000 ∧ i.natAbs < 2 ^ 64 from of_decide_eq_true h)) fun _ _ _ => rfl
theorem od_shr : OpD C (rI (fun _ j => 0 ≤ j) fun i j => .int (i / 2 ^ j.toNat)) gShr := od_I (fun _ _ h => of_decide_eq_true h) fun _ _ _ => rfl
theorem od_and : OpD C (rI0 fun i j => .int (Builtin.bitAnd i j)) gAnd := od_I0 fun _ _ _ => rfl
abbrev rLtT : R2 := fun x y H Q => ∃ i j, x = .str i ∧ y = .str j ∧ Q (.bl (decide (i.cps.toList < j.cps.toList))) H
def gLtI : D → D → Option D := gI (fun _ _ => true) fun i j => .bl (decide (i < j))
def gLtS (x y : D) : Option D := match x, y with
  | .str a, .str b => some (.bl (decide (a < b)))
  | _, _ => none
def gLt (x y : D) : Option D := (gLtI x y).or (gLtS x y)
def gLe : D → D → Option D := gI (fun _ _ => true) fun i j => .bl (decide (i ≤ j))
def gGt : D → D → Option D := gI (fun _ _ => true) fun i j => .bl (decide (j < i))
def gGe : D → D → Option D := gI (fun _ _ => true) fun i j => .bl (decide (j ≤ i))
theorem od_ltS : OpD C rLtT gLtS := by
  intro Pr F env σ H x y d vx vy Q r hx hy h q
  unfold gLtS at h
  split at h
  · cases h
    obtain ⟨rfl, _⟩ := hx.str
    obtain ⟨rfl, _⟩ := hy.str
    exact ⟨_, _, rfl, rfl, q _ H F r (Same.refl F) (by show V.bl _ = V.bl _; congr)⟩
  · cases h
abbrev rLt2 : R2 := fun x y H Q => rI0 (fun i j => .bl (decide (i < j))) x y H Q ∨ rLtT x y H Q
theorem op_lt2 : OpR X (compareOp .Lt) rLt2 := op_lt.or op_lt_str
theorem od_ltI : OpD C (rI0 fun i j => .bl (decide (i < j))) gLtI := od_I0 fun _ _ _ => rfl
theorem od_lt : OpD C rLt2 gLt := od_ltI.or od_ltS
theorem od_gt : OpD C (rI0 fun i j => .bl (decide (j < i))) gGt := od_I0 fun _ _ _ => rfl
end
end Ev
namespace Ev
open PySem PySem.Spec PyProof.Rows L2
section
variable {X : Cx} {C : Cfg}
def rCatT0 (K : Fg) : R2 := fun x y H Q => ∃ a b ys, x = .ref a ∧ y = .ref b ∧ SqT K H a [] ∧ SqT K H b ys ∧ Q (.ref b) H
theorem op_catT0 : OpR X (binaryOp .Add) (rCatT0 X.K) := by
  intro pins s σ H x y v u Q I rx ry h
  obtain ⟨a, b, ys, rfl, rfl, ha, hb, q⟩ := h
  cases rx
  cases ry
  obtain ⟨its, r1, p1, _⟩ := I.tuple ha
  obtain ⟨its2, r2, p2, _⟩ := I.tuple hb
  cases r1
  obtain ⟨⟨cls, dd, data, sl⟩, ho, hc, n, hd⟩ := id p1
  obtain ⟨⟨cls2, dd2, data2, sl2⟩, ho2, hc2, n2, hd2⟩ := id p2
  simp only at hc hd hc2 hd2
  subst hc hd hc2 hd2
  exact concat_meets ⟨_, ho, rfl⟩ ⟨_, ho2, rfl⟩ noFill_tuple_add seq_tuple_add PySem.F.slot_tuple_add PySem.F.entry_tuple_add (PySem.F.args_tuple_add_2 _ _)
    (tuple_addW0 a b ([] : List Value).toArray its2.toArray n n2 dd dd2 sl sl2 (by simp)) ⟨ho, ho2, ⟨.ref b, H, I, rfl, q⟩⟩
abbrev rAddS : R2 := fun x y H Q => ∃ i j, x = .str i ∧ y = .str j ∧ i.length + j.length ≤ sizeLine ∧ Q (.str (i ++ j)) H
abbrev rAdd (K : Fg) : R2 := fun x y H Q => rI0 (fun i j => .int (i + j)) x y H Q ∨ rAddS x y H Q ∨ rCat x y H Q ∨ rCatT K x y H Q ∨ rCatT0 K x y H Q
theorem op_add2 : OpR X (binaryOp .Add) (rAdd X.K) := op_add.or (op_add_str.or (op_cat.or (op_catT.or op_catT0)))
def gAdd (x y : D) : Option D := match x, y with
  | .int i, .int j => some (.int (i + j))
  | .str a, .str b => if a.length + b.length ≤ sizeLine then some (.str (a ++ b)) else none
  | .lst a, .lst b => if a.length + b.length ≤ sizeLine then some (.lst (a ++ b)) else none
  | .tup a, .tup b => if a.length + b.length ≤ sizeLine then some (.tup (a ++ b)) else none
  | _, _ => none
theorem strOf_append (a b : List Nat) : strOf a ++ strOf b = strOf (a ++ b) := by
  show (⟨(strOf a).cps ++ (strOf b).cps⟩ : Str) = _
  unfold strOf
  simp
theorem strOf_length (a : List Nat) : (strOf a).length = a.length := by
  show a.toArray.size = a.length
  simp
theorem od_add : OpD C (rAdd C.K) gAdd := by
  intro Pr F env σ H x y d vx vy Q r hx hy h q
  unfold gAdd at h
  split at h
  · cases h
    obtain rfl := hx.int
    obtain rfl := hy.int
    exact .inl ⟨_, _, rfl, rfl, q _ H F r (Same.refl F) rfl⟩
  · split at h
    · rename_i hz
      cases h
      obtain ⟨rfl, _⟩ := hx.str
      obtain ⟨rfl, _⟩ := hy.str
      refine .inr (.inl ⟨_, _, rfl, rfl, by rw [strOf_length, strOf_length]; exact hz, ?_⟩)
      rw [strOf_append]
      exact q _ H F r (Same.refl F) ⟨rfl, by rw [List.length_append]; exact hz⟩
    · cases h
  · split at h
    · rename_i hz
      cases h
      obtain ⟨_, a, vs, rfl, h1, h2⟩ := hx.lst r.fr
      obtain ⟨_, b, ws, rfl, h3, h4⟩ := hy.lst r.fr
      refine .inr (.inr (.inl ⟨a, b, vs, ws, rfl, rfl, h1, h3, by rw [h2.length, h4.length]; exact hz, fun p hp => ?_⟩))
      obtain ⟨r2, s2⟩ := r.new (o := .lst (vs ++ ws)) hp
      exact q _ _ _ r2 s2 ⟨by rw [List.length_append]; exact hz, p, _, rfl, upd_same, Reps.mono s2 _ _ (h2.append h4)⟩
    · cases h
  · split at h
    · rename_i hz
      cases h
      obtain ⟨z1, a, vs, rfl, h1, f1, h2⟩ := hx.tup r.fr
      obtain ⟨z2, b, ws, rfl, h3, f3, h4⟩ := hy.tup r.fr
      by_cases hv : vs = []
      · subst hv
        have e1 : _ = 0 := h2.length.symm
        have e2 := List.eq_nil_of_length_eq_zero e1
        subst e2
        refine .inr (.inr (.inr (.inr ⟨a, b, ws, rfl, rfl, h1, h3, ?_⟩)))
        exact q _ H F r (Same.refl F) ⟨z2, b, ws, rfl, f3, h4⟩
      · refine .inr (.inr (.inr (.inl ⟨a, b, vs, ws, rfl, rfl, h1, h3, hv, by rw [h2.length, h4.length]; exact hz, fun hw => ?_, fun hw p hp => ?_⟩)))
        · subst hw
          have e1 : _ = 0 := h4.length.symm
          have e2 := List.eq_nil_of_length_eq_zero e1
          subst e2
          rw [List.append_nil] at q
          exact q _ H F r (Same.refl F) ⟨z1, a, vs, rfl, f1, h2⟩
        · obtain ⟨r2, s2⟩ := r.new (o := .tup (vs ++ ws)) hp
          exact q _ _ _ r2 s2 ⟨by rw [List.length_append]; exact hz, p, _, rfl, SqT.of upd_same, Reps.mono s2 _ _ (h2.append h4)⟩
    · cases h
  · cases h
def BReps (K : Fg) (F H : Hp) : List D → List V → Prop
  | [], vs => vs = []
  | d :: ds, vs => ∃ v r, vs = v :: r ∧ BRep K F H d v ∧ BReps K F H ds r
def tAB (C : Cfg) (ev : EvA) : TA := fun σ H Q => ∃ (Pr F : Hp) (env env' : Env) (ds : List D), Rel C Pr F env σ H ∧ ev env = .ok ds env' ∧
  ∀ vs H' F', Rel C Pr F' env' σ H' → Same F F' → BReps C.K F' H' ds vs → Q vs H'
def PXAB (X : Cx) (C : Cfg) (es : List Expr) (ev : EvA) : Prop := PA X es (tAB C ev)
theorem pxab_one {e : Expr} {a : Ev} (h : PXB X C e a) (hs : starEach [e] X.env = (false, eval e X.env) :: starEach [] X.env := by rfl) : PXAB X C [e] (evCons a evNil) := (pa_cons h pa_nil hs).imp fun σ H Q hq => by
  obtain ⟨Pr, F, env, env', ds, rl, e, q⟩ := hq
  obtain ⟨d1, env1, e1, e2⟩ := bindR_ok e
  cases e2
  exact ⟨Pr, F, env, env', d1, rl, e1, fun v H1 F1 r1 s1 p1 => q _ H1 F1 r1 s1 ⟨v, [], rfl, p1, rfl⟩⟩
theorem pxab_cons {e : Expr} {es : List Expr} {a : Ev} {r : EvA} (ha : PX X C e a) (hr : PXAB X C es r) (hs : starEach (e :: es) X.env = (false, eval e X.env) :: starEach es X.env := by rfl) : PXAB X C (e :: es) (evCons a r) :=
  (pa_cons ha hr hs).imp fun σ H Q h => by
    obtain ⟨Pr, F, env, env', ds, rl, e, q⟩ := h
    obtain ⟨d1, env1, e1, e2⟩ := bindR_ok e
    obtain ⟨ds2, env2, e3, e4⟩ := bindR_ok e2
    cases e4
    refine ⟨Pr, F, env, env1, d1, rl, e1, fun v H1 F1 r1 s1 p1 => ?_⟩
    refine ⟨Pr, F1, env1, env', ds2, r1, e3, fun vs H2 F2 r2 s2 p2 => ?_⟩
    exact q _ H2 F2 r2 (s1.trans s2) ⟨v, vs, rfl, .inl (Rep.mono s2 d1 v p1), p2⟩
def CallD (C : Cfg) (r : List V → Hp → VK → Prop) (g : List D → Option D) : Prop := ∀ (Pr F : Hp) (env : Env) (σ : L2.St) (H : Hp) (ds : List D) (d : D) (vs : List V) (Q : VK), Rel C Pr F env σ H → BReps C.K F H ds vs → g ds = some d →
  (∀ v H' F', Rel C Pr F' env σ H' → Same F F' → Rep C.K F' d v → Q v H') → r vs H Q
def evCall (g : List D → Option D) (a : EvA) : Ev := fun env => bindR (a env) fun ds env1 => liftR (g ds) env1
theorem call_go {r : List V → Hp → VK → Prop} {g : List D → Option D} {a : EvA} (o : CallD C r g) (σ : L2.St) (H : Hp) (Q : VK) (h : tE C (evCall g a) σ H Q) : tCB r (tAB C a) σ H Q := by
  obtain ⟨Pr, F, env, env', d, rl, e, q⟩ := h
  obtain ⟨ds, env1, e1, e2⟩ := bindR_ok e
  obtain ⟨e3, rfl⟩ := liftR_ok e2
  exact ⟨Pr, F, env, env', ds, rl, e1, fun vs H1 F1 r1 s1 p1 => o Pr F1 env' σ H1 ds d vs Q r1 p1 e3 fun v H2 F2 r2 s2 p2 => q v H2 F2 r2 (s1.trans s2) p2⟩
theorem px_callB {x : Str} {p pos : Pos} {e : Expr} {es : List Expr} {id : String} {r : List V → Hp → VK → Prop} {g : List D → Option D} {a : EvA} (hc : CallR X (.builtin id) r) (o : CallD C r g) (hg : Gl X x) (hm : X.mg x = none) (hv : bootBuiltins x = some (.builtin id)) (ha : PXAB X C (e :: es) a)
    (hn : x ≠ "__name__" := by decide) (hdb : (x == ("__debug__" : Str)) = false := by decide) (he : starEach (e :: es) X.env = (false, eval e X.env) :: starEach es X.env := by rfl) (hpl : (backTo pos (starEach es X.env)).any (·.1) = false := by rfl) :
    PX X C (.Call (.Name x p) (e :: es) [] pos) (evCall g a) := (pe_callB hc hg hm hv ha hn hdb he hpl).imp (call_go o)
theorem px_callTy {x : Str} {p pos : Pos} {e : Expr} {es : List Expr} {T : String} {r : List V → Hp → VK → Prop} {g : List D → Option D} {a : EvA} (hc : CallR X (.type T) r) (o : CallD C r g) (hg : Gl X x) (hm : X.mg x = none) (hv : bootBuiltins x = some (.type T)) (ha : PXAB X C (e :: es) a)
    (hn : x ≠ "__name__" := by decide) (hdb : (x == ("__debug__" : Str)) = false := by decide) (he : starEach (e :: es) X.env = (false, eval e X.env) :: starEach es X.env := by rfl) (hpl : (backTo pos (starEach es X.env)).any (·.1) = false := by rfl) :
    PX X C (.Call (.Name x p) (e :: es) [] pos) (evCall g a) := (pe_callTy hc hg hm hv ha hn hdb he hpl).imp (call_go o)
theorem breps1 {K : Fg} {F H : Hp} {d : D} {vs : List V} (h : BReps K F H [d] vs) : ∃ v, vs = [v] ∧ BRep K F H d v := by
  obtain ⟨v, r, rfl, h1, h2⟩ := h
  cases h2
  exact ⟨v, rfl, h1⟩
theorem breps2 {K : Fg} {F H : Hp} {d e : D} {vs : List V} (h : BReps K F H [d, e] vs) : ∃ v w, vs = [v, w] ∧ BRep K F H d v ∧ BRep K F H e w := by
  obtain ⟨v, r, rfl, h1, h2⟩ := h
  obtain ⟨w, rfl, h3⟩ := breps1 h2
  exact ⟨v, w, rfl, h1, h3⟩
def gLen : List D → Option D
  | [.str x] => some (.int x.length)
  | [.tup xs] => some (.int xs.length)
  | [.lst xs] => some (.int xs.length)
  | [.arr xs] => some (.int xs.length)
  | _ => none
theorem cd_len : CallD C (fun xs H Q => ∃ x n, xs = [x] ∧ LenV C.K x H n ∧ Q (.int n) H) gLen := by
  intro Pr F env σ H ds d vs Q r hs h q
  unfold gLen at h
  split at h
  · cases h
    obtain ⟨v, rfl, hv⟩ := breps1 hs
    obtain ⟨rfl, hz⟩ := hv.str
    exact ⟨_, _, rfl, ⟨by rw [strOf_length]; exact hz, (strOf_length _).symm⟩, q _ H F r (Same.refl F) rfl⟩
  · cases h
    obtain ⟨v, rfl, hv⟩ := breps1 hs
    obtain ⟨_, a, ws, rfl, h1, _, h2⟩ := hv.tup r.fr
    exact ⟨_, _, rfl, .inr ⟨ws, h1, h2.length.symm⟩, q _ H F r (Same.refl F) rfl⟩
  · cases h
    obtain ⟨v, rfl, hv⟩ := breps1 hs
    obtain ⟨_, a, ws, rfl, h1, h2⟩ := hv.lst r.fr
    exact ⟨_, _, rfl, .inl ⟨ws, SqL.of h1, h2.length.symm⟩, q _ H F r (Same.refl F) rfl⟩
  · cases h
    obtain ⟨v, rfl, hv⟩ := breps1 hs
    obtain ⟨_, a, ws, rfl, h1, h2⟩ := hv.arr r.fr
    exact ⟨_, _, rfl, .inl ⟨ws, h1, h2.length.symm⟩, q _ H F r (Same.refl F) rfl⟩
  · cases h
def gTuple : List D → Option D
  | [.tup xs] => some (.tup xs)
  | [.lst xs] => some (.tup xs)
  | _ => none
abbrev rTuple (K : Fg) : List V → Hp → VK → Prop := fun xs H Q => ∃ p ys, xs = [.ref p] ∧ ((SqL K H p ys ∧ ∀ l, H l = none → Q (.ref l) (upd H l (.tup ys))) ∨ (SqT K H p ys ∧ Q (.ref p) H))
theorem cd_tuple : CallD C (rTuple C.K) gTuple := by
  intro Pr F env σ H ds d vs Q r hs h q
  unfold gTuple at h
  split at h
  · cases h
    obtain ⟨v, rfl, hv⟩ := breps1 hs
    obtain ⟨z, a, ws, rfl, h1, f1, h2⟩ := hv.tup r.fr
    exact ⟨a, ws, rfl, .inr ⟨h1, q _ H F r (Same.refl F) ⟨z, a, ws, rfl, f1, h2⟩⟩⟩
  · cases h
    obtain ⟨v, rfl, hv⟩ := breps1 hs
    obtain ⟨z, a, ws, rfl, h1, h2⟩ := hv.lst r.fr
    refine ⟨a, ws, rfl, .inl ⟨SqL.of h1, fun l hl => ?_⟩⟩
    obtain ⟨r2, s2⟩ := r.new (o := .tup ws) hl
    exact q _ _ _ r2 s2 ⟨z, l, ws, rfl, SqT.of upd_same, Reps.mono s2 _ _ h2⟩
  · cases h
def signs (x : List Nat) : List D := x.map fun c => .str [c]
abbrev rListS : List V → Hp → VK → Prop := fun xs H Q => ∃ z, xs = [.str z] ∧ z.length ≤ sizeLine ∧ ∀ l, H l = none → Q (.ref l) (upd H l (.lst (z.cps.toList.map fun c => V.str ⟨#[c]⟩)))
theorem call_listS (hh : X.calm = true) : CallR X (.type "list") rListS := by
  intro pins s σ H xs us Q I r h
  obtain ⟨z, rfl, hz, q⟩ := h
  obtain ⟨u, rfl, ⟨t, rfl⟩⟩ := vals1 r
  refine call_list_str (I.ok.hd hh) z t (fun h' tk acc' c' kp e hacc => ?_) hz
  refine ⟨.ref s.heap.objs.size, _, I.laid kp (Nat.le_refl _) (show ObjOk X.prog X.w _ h' _ (.lst (z.cps.toList.map fun c => V.str ⟨#[c]⟩)) from ⟨?_, acc'.toList, c', ?_, by simpa using e⟩), rfl, q _ (I.hok.fresh (Nat.le_refl _))⟩
  · simpa [Str.length] using hz
  · obtain ⟨hsz, hit⟩ := hacc
    have go : ∀ (cs : List Nat) (vs : List Value), vs.length = cs.length → (∀ (j : Nat) (v : Value), vs[j]? = some v → ∃ (c : Nat) (u : Tok), cs[j]? = some c ∧ v = Value.str ⟨#[c]⟩ u) → Vals (cs.map fun c => V.str ⟨#[c]⟩) vs := by
      intro cs
      induction cs with
      | nil => intro vs hl _; rw [List.eq_nil_of_length_eq_zero hl]; exact .nil
      | cons c cs ih =>
        intro vs hl hv
        cases vs with
        | nil => simp at hl
        | cons v vs =>
          obtain ⟨c', u, e1, e2⟩ := hv 0 v rfl
          simp at e1
          subst e1 e2
          exact .cons ⟨u, rfl⟩ (ih vs (by simpa using hl) fun j w hw => by simpa using hv (j + 1) w (by simpa using hw))
    refine go _ _ (by simpa using hsz) fun j v hv => ?_
    obtain ⟨c, u, e1, e2⟩ := hit j v (by simpa using hv)
    exact ⟨c, u, by simpa using e1, e2⟩
def gList : List D → Option D
  | [.tup xs] => some (.lst xs)
  | [.lst xs] => some (.lst xs)
  | [.str x] => some (.lst (signs x))
  | _ => none
abbrev rList (K : Fg) : List V → Hp → VK → Prop := fun xs H Q => (∃ p ys, xs = [.ref p] ∧ (SqL K H p ys ∨ SqT K H p ys) ∧ ∀ l, H l = none → Q (.ref l) (upd H l (.lst ys))) ∨ rListS xs H Q
theorem call_list2 (hh : X.calm = true) : CallR X (.type "list") (rList X.K) := call_list_of.or (call_listS hh)
theorem reps_signs {K : Fg} {F : Hp} : ∀ x : List Nat, Reps K F (signs x) (x.map fun c => V.str ⟨#[c]⟩)
  | [] => rfl
  | c :: x => ⟨_, _, rfl, ⟨rfl, by rw [sizeLine_eq]; simp⟩, reps_signs x⟩
theorem cd_list : CallD C (rList C.K) gList := by
  intro Pr F env σ H ds d vs Q r hs h q
  unfold gList at h
  split at h
  · cases h
    obtain ⟨v, rfl, hv⟩ := breps1 hs
    obtain ⟨z, a, ws, rfl, h1, f1, h2⟩ := hv.tup r.fr
    refine .inl ⟨a, ws, rfl, .inr h1, fun l hl => ?_⟩
    obtain ⟨r2, s2⟩ := r.new (o := .lst ws) hl
    exact q _ _ _ r2 s2 ⟨z, l, ws, rfl, upd_same, Reps.mono s2 _ _ h2⟩
  · cases h
    obtain ⟨v, rfl, hv⟩ := breps1 hs
    obtain ⟨z, a, ws, rfl, h1, h2⟩ := hv.lst r.fr
    refine .inl ⟨a, ws, rfl, .inl (SqL.of h1), fun l hl => ?_⟩
    obtain ⟨r2, s2⟩ := r.new (o := .lst ws) hl
    exact q _ _ _ r2 s2 ⟨z, l, ws, rfl, upd_same, Reps.mono s2 _ _ h2⟩
  · rename_i x
    cases h
    obtain ⟨v, rfl, hv⟩ := breps1 hs
    obtain ⟨rfl, hz⟩ := hv.str
    refine .inr ⟨_, rfl, by rw [strOf_length]; exact hz, fun l hl => ?_⟩
    obtain ⟨r2, s2⟩ := r.new (o := .lst ((strOf x).cps.toList.map fun c => V.str ⟨#[c]⟩)) hl
    refine q _ _ _ r2 s2 ⟨by simpa [signs] using hz, l, _, rfl, upd_same, ?_⟩
    have e : (strOf x).cps.toList = x := by simp [strOf]
    rw [e]
    exact reps_signs x
  · cases h
def gMax : List D → Option D
  | [.int i, .int j] => some (.int (if j > i then j else i))
  | _ => none
def gMin : List D → Option D
  | [.int i, .int j] => some (.int (if j < i then j else i))
  | _ => none
theorem cd_max : CallD C (fun xs H Q => ∃ i j, xs = [.int i, .int j] ∧ Q (.int (if j > i then j else i)) H) gMax := by
  intro Pr F env σ H ds d vs Q r hs h q
  unfold gMax at h
  split at h
  · cases h
    obtain ⟨v, w, rfl, hv, hw⟩ := breps2 hs
    obtain rfl := hv.int
    obtain rfl := hw.int
    exact ⟨_, _, rfl, q _ H F r (Same.refl F) rfl⟩
  · cases h
theorem cd_min : CallD C (fun xs H Q => ∃ i j, xs = [.int i, .int j] ∧ Q (.int (if j < i then j else i)) H) gMin := by
  intro Pr F env σ H ds d vs Q r hs h q
  unfold gMin at h
  split at h
  · cases h
    obtain ⟨v, w, rfl, hv, hw⟩ := breps2 hs
    obtain rfl := hv.int
    obtain rfl := hw.int
    exact ⟨_, _, rfl, q _ H F r (Same.refl F) rfl⟩
  · cases h
def gDivmod : List D → Option D
  | [.int i, .int j] => if 0 < j ∧ j < 1073741824 then some (.tup [.int (i / j), .int (i % j)]) else none
  | _ => none
theorem cd_divmod : CallD C (fun xs H Q => ∃ i j, xs = [.int i, .int j] ∧ CDiv i j ∧ ∀ p, H p = none → Q (.ref p) (upd H p (.tup [.int (i / j), .int (i % j)]))) gDivmod := by
  intro Pr F env σ H ds d vs Q r hs h q
  unfold gDivmod at h
  split at h
  · split at h
    · rename_i hj
      cases h
      obtain ⟨v, w, rfl, hv, hw⟩ := breps2 hs
      obtain rfl := hv.int
      obtain rfl := hw.int
      refine ⟨_, _, rfl, hj, fun p hp => ?_⟩
      obtain ⟨r2, s2⟩ := r.new (o := .tup [.int _, .int _]) hp
      exact q _ _ _ r2 s2 ⟨by rw [sizeLine_eq]; simp, p, _, rfl, SqT.of upd_same, ⟨_, _, rfl, rfl, _, _, rfl, rfl, rfl⟩⟩
    · cases h
  · cases h
end
end Ev
namespace Ev
open PySem PySem.Spec PyProof.Rows L2
section
variable {X : Cx} {C : Cfg}
def tyD : D → String
  | .non => "NoneType"
  | .bl _ => "bool"
  | .int _ => "int"
  | .str _ => "str"
  | .tup _ => "tuple"
  | .lst _ => "list"
  | .arr _ => "list"
  | .dct _ => "dict"
def instD (d : D) (T : String) : Bool := tyD d == T || (tyD d == "bool" && T == "int")
theorem isi_go {d : D} {u c : Value} {b : Bool} {s : Shared} {A : Around} {E : Value → Shared → Prop} {Q : Value → Shared → Prop} (kin : X.K.In s.heap) (h : Sh s.heap d u) (e : PySem.W.kitOne X.K (.type (tyD d)) c = some b) (q : ∀ tk, Q (.bool b) { s with toks := tk }) :
    wpAny (model X.prog X.w) A (call (.builtin "isinstance") [u, c]) Q E s := by
  cases d with
  | non => cases h; exact PySem.W.kia_one PySem.W.kitx_none kin True.intro e (fun z => nomatch z) q
  | bl y => cases h; exact PySem.W.kia_one PySem.W.kitx_bool kin True.intro e (fun z => nomatch z) q
  | int i => obtain ⟨t, rfl⟩ := h; exact PySem.W.kia_one PySem.W.kitx_int kin True.intro e (fun z => nomatch z) q
  | str y => obtain ⟨t, rfl⟩ := h; exact PySem.W.kia_one PySem.W.kitx_str kin True.intro e (fun z => nomatch z) q
  | tup xs =>
    obtain ⟨a, its, rfl, p, _⟩ := h
    obtain ⟨o, h1, h2, _⟩ := p
    exact PySem.W.kia_one PySem.W.kitx_tuple kin ⟨o, h1, h2⟩ e (fun z => nomatch z) q
  | lst xs =>
    obtain ⟨a, its, rfl, p, _⟩ := h
    obtain ⟨o, h1, h2, _⟩ := p.isList
    exact PySem.W.kia_one PySem.W.kitx_list kin ⟨o, h1, h2⟩ e (fun z => nomatch z) q
  | arr xs =>
    obtain ⟨a, its, rfl, p, _⟩ := h
    obtain ⟨o, h1, h2, _⟩ := p.isList
    exact PySem.W.kia_one PySem.W.kitx_list kin ⟨o, h1, h2⟩ e (fun z => nomatch z) q
  | dct kvs =>
    obtain ⟨a, o, rfl, h1, h2⟩ := h
    exact PySem.W.kia_one PySem.W.kitx_dict kin ⟨o, h1, h2.1⟩ e (fun z => nomatch z) q
def gIsi (T : String) (d : D) : Option D := some (.bl (instD d T))
theorem call_isi {T : String} (hk : ∀ d : D, PySem.W.kitOne X.K (.type (tyD d)) (.type T) = some (instD d T)) :
    CallR X (.builtin "isinstance") (fun xs H Q => ∃ d x, xs = [x, .ty T] ∧ Rep X.K H d x ∧ Q (.bl (instD d T)) H) := by
  intro pins s σ H xs us Q I r h
  obtain ⟨d, x, rfl, hr, q⟩ := h
  obtain ⟨u, w, rfl, r1, r2⟩ := vals2 r
  cases r2
  exact isi_go (X := X) I.kIn (Rep.sh I d x u hr r1) (hk d) fun tk => ⟨.bl _, H, I.tok tk, rfl, q⟩
theorem px_isi {T : String} {xT : Str} {e : Expr} {a : Ev} {p q pos : Pos} (hg : Gl X "isinstance") (hm : X.mg "isinstance" = none) (hgT : Gl X xT) (hmT : X.mg xT = none) (hvT : bootBuiltins xT = some (.type T))
    (hk : ∀ d : D, PySem.W.kitOne X.K (.type (tyD d)) (.type T) = some (instD d T)) (hK : X.K = C.K) (ha : PX X C e a) (hn : xT ≠ "__name__" := by decide) (hd : (xT == ("__debug__" : Str)) = false := by decide)
    (he : starEach [e, .Name xT q] X.env = (false, eval e X.env) :: starEach [.Name xT q] X.env := by rfl) :
    PX X C (.Call (.Name "isinstance" p) [e, .Name xT q] [] pos) (evUn (gIsi T) a) := by
  refine (pe_callB (call_isi hk) hg hm boot_isinstance (pa_cons ha (pa_cons (pe_bltn (v := .ty T) hgT hmT hvT rfl hn hd) pa_nil) he) (by decide) (by decide) he rfl).imp fun σ H Q h => ?_
  obtain ⟨Pr, F, env, env', d, rl, e1, qq⟩ := h
  obtain ⟨d0, env1, e2, e3⟩ := bindR_ok e1
  obtain ⟨e4, rfl⟩ := liftR_ok e3
  cases e4
  refine ⟨Pr, F, env, env', d0, rl, e2, fun v H1 F1 r1 s1 p1 => ⟨d0, v, rfl, ?_, qq _ H1 F1 r1 s1 rfl⟩⟩
  rw [hK]
  exact Rep.mono r1.fr d0 v p1
def blsOf : List D → Option (List Bool)
  | [] => some []
  | .bl b :: r => (blsOf r).map (b :: ·)
  | _ => none
theorem reps_bls {K : Fg} {F : Hp} : ∀ {ds : List D} {bs : List Bool} {vs : List V}, blsOf ds = some bs → Reps K F ds vs → vs = bs.map V.bl
  | [], bs, vs, h, hr => by simp [blsOf] at h; subst h; cases hr; rfl
  | d :: ds, bs, vs, h, hr => by
    obtain ⟨v, r, rfl, h1, h2⟩ := hr
    cases d with
    | bl b =>
      simp only [blsOf] at h
      cases e : blsOf ds with
      | none => rw [e] at h; cases h
      | some cs =>
        rw [e] at h
        cases h
        cases h1
        rw [reps_bls e h2]
        rfl
    | _ => simp [blsOf] at h
theorem vals_bls : ∀ {bs : List Bool} {us : List Value}, Vals (bs.map V.bl) us → us = bs.map Value.bool
  | [], _, .nil => rfl
  | b :: bs, _, .cons r t => by
    cases r
    rw [vals_bls t]
    rfl
theorem all_range_get (bs : List Bool) : (List.range bs.length).all (fun i => bs.getD i true) = bs.all id := by
  induction bs with
  | nil => rfl
  | cons b bs ih =>
    rw [List.length_cons, List.range_succ_eq_map, List.all_cons, List.all_map, List.all_cons]
    simp only [List.getD_cons_zero, id]
    congr 1
theorem call_all2 (hc : X.calm = true) : CallR X (.builtin "all") (fun xs H Q => ∃ (p : Addr) (bs : List Bool), xs = [.ref p] ∧ SqL X.K H p (bs.map V.bl) ∧ Q (.bl (bs.all id)) H) := by
  intro pins s σ H xs us Q I r h
  obtain ⟨p, bs, rfl, hq, q⟩ := h
  obtain ⟨u, rfl, rx⟩ := vals1 r
  cases rx
  obtain ⟨its, rv, pl, _⟩ := I.list hq
  have e := vals_bls rv
  subst e
  refine call_all_walk (wpAny_pyIter_list pl.isList ?_)
  have hlt : p < s.heap.objs.size := by obtain ⟨o, e, _⟩ := pl.isList; exact Heap.lt_size e
  refine ⟨s.heap.objs.size, _, _, _, _, _, fun i => bs.getD i true, rfl, Walks.list (A := X.A.in1) (show X.A.in1.handled = none from I.ok.hd hc) s.heap.objs.size p (Nat.ne_of_lt hlt) (bs.map Value.bool).toArray, ⟨⟨_, Heap.get?_push_size _ rfl, rfl, rfl⟩, by obtain ⟨o, e, rr⟩ := pl.isList; exact ⟨o, Heap.get?_push_of_some _ e, rr⟩⟩, ?_, fun h' tk hk => ?_⟩
  · intro i v s' Q' E' hv hq'
    have hv : (bs.map Value.bool).toArray[i]? = some v := hv
    rw [List.getElem?_toArray, List.getElem?_map] at hv
    cases hb : bs[i]? with
    | none => rw [hb] at hv; cases hv
    | some b =>
      rw [hb] at hv
      cases hv
      refine wpAny_truthy_bool ?_
      have this : bs.getD i true = b := by simp [List.getD_eq_getElem?_getD, hb]
      have hq' : Q' (bs.getD i true) s' := hq'
      rwa [this] at hq'
  · have I1 : Inv X pins σ H { s with heap := h', toks := tk } := I.kept fun b o e => hk b o (by simp; exact Nat.ne_of_lt (Heap.lt_size e)) (Heap.get?_push_of_some _ e)
    refine ⟨.bl _, H, I1, rfl, ?_⟩
    have e2 : (bs.map Value.bool).toArray.size = bs.length := by simp
    rw [e2, all_range_get]
    exact q
def gAll : List D → Option D
  | [.lst ds] => (blsOf ds).map fun bs => .bl (bs.all id)
  | _ => none
theorem cd_all : CallD C (fun xs H Q => ∃ (p : Addr) (bs : List Bool), xs = [.ref p] ∧ SqL C.K H p (bs.map V.bl) ∧ Q (.bl (bs.all id)) H) gAll := by
  intro Pr F env σ H ds d vs Q r hs h q
  unfold gAll at h
  split at h
  · rename_i es
    cases e : blsOf es with
    | none => rw [e] at h; cases h
    | some bs =>
      rw [e] at h
      cases h
      obtain ⟨v, rfl, hv⟩ := breps1 hs
      obtain ⟨z, a, ws, rfl, h1, h2⟩ := hv.lst r.fr
      have e2 := reps_bls e h2
      subst e2
      exact ⟨a, bs, rfl, SqL.of h1, q _ H F r (Same.refl F) rfl⟩
  · cases h
def strsD : List D → Option (List (List Nat))
  | [] => some []
  | .str x :: r => (strsD r).map (x :: ·)
  | _ => none
def joinN (sep : List Nat) : List (List Nat) → List Nat
  | [] => []
  | x :: r => r.foldl (fun acc y => acc ++ sep ++ y) x
theorem join_str (sep : List Nat) (xs : List (List Nat)) : Txt.join (strOf sep) (xs.map strOf) = strOf (joinN sep xs) := by
  unfold Txt.join
  unfold Builtin.Str.glued
  cases xs with
  | nil => rfl
  | cons x r =>
    show (⟨(r.map strOf).foldl (fun acc p => acc ++ (strOf sep).cps ++ p.cps) (strOf x).cps⟩ : Str) = strOf (r.foldl (fun acc y => acc ++ sep ++ y) x)
    have go : ∀ (r : List (List Nat)) (x : List Nat), (r.map strOf).foldl (fun acc p => acc ++ (strOf sep).cps ++ p.cps) (strOf x).cps = (strOf (r.foldl (fun acc y => acc ++ sep ++ y) x)).cps := by
      intro r
      induction r with
      | nil => intro x; rfl
      | cons y r ih =>
        intro x
        rw [List.map_cons, List.foldl_cons, List.foldl_cons]
        rw [← ih (x ++ sep ++ y)]
        congr 1
        simp [strOf]
    rw [go]
theorem reps_strs {K : Fg} {F : Hp} : ∀ {ds : List D} {xs : List (List Nat)} {vs : List V}, strsD ds = some xs → Reps K F ds vs → vs = xs.map fun x => V.str (strOf x)
  | [], bs, vs, h, hr => by simp [strsD] at h; subst h; cases hr; rfl
  | d :: ds, bs, vs, h, hr => by
    obtain ⟨v, r, rfl, h1, h2⟩ := hr
    cases d with
    | str b =>
      simp only [strsD] at h
      cases e : strsD ds with
      | none => rw [e] at h; cases h
      | some cs =>
        rw [e] at h
        cases h
        cases h1.1
        rw [reps_strs e h2]
        rfl
    | _ => simp [strsD] at h
theorem vals_strs : ∀ {xs : List (List Nat)} {us : List Value}, Vals (xs.map fun x => V.str (strOf x)) us → StrsAre us (xs.map strOf)
  | [], _, .nil => .nil
  | x :: xs, _, .cons r t => by
    obtain ⟨k, rfl⟩ := r
    exact .cons _ k (vals_strs t)
def joinFits (sep : List Nat) (xs : List (List Nat)) : Bool := decide ((xs.map List.length).sum + xs.length * sep.length ≤ 16777216)
def rJoin (K : Fg) : V → List V → Hp → VK → Prop := fun x vs H Q => ∃ sep xs p, x = .str (strOf sep) ∧ vs = [.ref p] ∧ SqL K H p (xs.map fun x => V.str (strOf x)) ∧ joinFits sep xs = true ∧ Q (.str (strOf (joinN sep xs))) H
theorem mt_join : MtR X "str.join" (rJoin X.K) := by
  intro pins s σ H x vs v us Q I rx rv h
  obtain ⟨sep, xs, p, rfl, rfl, hq, hf, q⟩ := h
  obtain ⟨t, rfl⟩ := rx
  obtain ⟨u, rfl, ru⟩ := vals1 rv
  cases ru
  obtain ⟨its, r, pl, _⟩ := I.list hq
  have hs := vals_strs r
  refine join_list pl.isList (by simpa using hs) ?_ fun t' k => ?_
  · have hf' := of_decide_eq_true hf
    have e : ((xs.map strOf).map (·.length)) = xs.map List.length := by
      rw [List.map_map]
      apply List.map_congr_left
      intro z _
      exact strOf_length z
    rw [e, strOf_length, List.length_map]
    exact hf'
  · rw [join_str]
    exact ⟨.str _, H, I.tok k, ⟨t', rfl⟩, q⟩
theorem sum_join (sep : List Nat) : ∀ (r : List (List Nat)) (x : List Nat), (r.foldl (fun acc y => acc ++ sep ++ y) x).length = x.length + (r.map List.length).sum + r.length * sep.length
  | [], x => by simp
  | y :: r, x => by
    rw [List.foldl_cons, sum_join sep r, List.length_append, List.length_append, List.map_cons, List.sum_cons, List.length_cons, Nat.add_mul]
    omega
theorem joinN_le {sep : List Nat} {xs : List (List Nat)} (h : joinFits sep xs = true) : (joinN sep xs).length ≤ sizeLine := by
  have h' := of_decide_eq_true h
  rw [sizeLine_eq]
  cases xs with
  | nil => simp [joinN]
  | cons x r =>
    show (r.foldl (fun acc y => acc ++ sep ++ y) x).length ≤ _
    rw [sum_join]
    rw [List.map_cons, List.sum_cons, List.length_cons, Nat.add_mul] at h'
    omega
def gJoin (x y : D) : Option D := match x, y with
  | .str sep, .lst ds => (match strsD ds with
    | some xs => if joinFits sep xs = true then some (.str (joinN sep xs)) else none
    | none => none)
  | _, _ => none
theorem px_join {o e : Expr} {a b : Ev} {apos cpos : Pos} (hK : X.K = C.K) (ho : PX X C o a) (he : PXB X C e b) (hbase : attributeBase o "join" X.env (eval o X.env) = eval o X.env := by rfl)
    (hs : starEach [e] X.env = (false, eval e X.env) :: starEach [] X.env := by rfl)
    (hfew : ((backTo cpos (starEach [e] X.env)).all (fun x => !x.1) && (backToKw cpos (keywordEach [] X.env)).all (fun x => x.1.isSome)
      && decide ([e].length + ([] : List Keyword).length + (if ([] : List Keyword).isEmpty then 0 else 1) < 30)) = true := by rfl)
    (hline : (apos.endLine == cpos.line) = true := by rfl) (hplain : (backTo cpos (starEach [] X.env)).any (·.1) = false := by rfl) :
    PX X C (.Call (.Attribute o "join" apos) [e] [] cpos) (evBin gJoin a b) := by
  refine (pe_bm PySem.F.plainAttrs_str PySem.F.slot_str_join PySem.F.type_str_join mt_join ho (pa_cons he pa_nil hs) hbase hfew hline hs hplain).imp fun σ H Q h => ?_
  obtain ⟨Pr, F, env, env', d, rl, e0, q⟩ := h
  obtain ⟨x, env1, e1, e2⟩ := bindR_ok e0
  obtain ⟨y, env2, e3, e4⟩ := bindR_ok e2
  obtain ⟨e5, rfl⟩ := liftR_ok e4
  unfold gJoin at e5
  split at e5
  · rename_i sep ds
    split at e5
    · rename_i xs hxs
      split at e5
      · rename_i hf
        cases e5
        refine ⟨Pr, F, env, env1, _, rl, e1, fun vx H1 F1 r1 s1 p1 => ?_⟩
        obtain ⟨rfl, _⟩ := p1
        refine ⟨rfl, Pr, F1, env1, env', _, r1, e3, fun vy H2 F2 r2 s2 p2 => ?_⟩
        obtain ⟨z, l, ws, rfl, h1, h2⟩ := p2.lst r2.fr
        have e6 := reps_strs hxs h2
        subst e6
        exact ⟨sep, xs, l, rfl, rfl, SqL.of h1, hf, q _ H2 F2 r2 (s1.trans s2) ⟨rfl, joinN_le hf⟩⟩
      · cases e5
    · cases e5
  · cases e5
end
end Ev
namespace Ev
open PySem PySem.Spec PyProof.Rows L2
theorem Rel.put {C : Cfg} {Pr F : Hp} {env : Env} {σ : L2.St} {H : Hp} (r : Rel C Pr F env σ H) {i : Nat} {d : D} {v : V} (hfx : C.fx i = none) (p : Rep C.K F d v) : Rel C Pr F (env.set i (some (false, d))) (σ.set i (some v)) H := by
  refine ⟨r.pr, r.fr, by rw [List.length_set, List.length_set]; exact r.len, fun j e he => ?_, fun j e he => ?_, fun j k e f b hj hk g1 g2 => ?_, r.dj, fun j a hj => ?_⟩
  · by_cases hji : j = i
    · subst hji
      have hl : j < env.length := by
        have := (List.getElem?_eq_some_iff.mp he).1
        rwa [List.length_set] at this
      rw [List.getElem?_set_self hl] at he
      cases he
      exact ⟨v, List.getElem?_set_self (by rw [← r.len]; exact hl), p⟩
    · rw [List.getElem?_set_ne (Ne.symm hji)] at he ⊢
      exact r.val j e he
  · by_cases hji : j = i
    · subst hji
      have hl : j < env.length := by
        have := (List.getElem?_eq_some_iff.mp he).1
        rwa [List.length_set] at this
      rw [List.getElem?_set_self hl] at he
      cases he
    · rw [List.getElem?_set_ne (Ne.symm hji)] at he ⊢
      exact r.own j e he
  · have nn : ∀ (j : Nat) (e : D), (env.set i (some (false, d)))[j]? = some (some (true, e)) → j ≠ i := fun j e he z => by
      subst z
      have hl : j < env.length := by
        have := (List.getElem?_eq_some_iff.mp he).1
        rwa [List.length_set] at this
      rw [List.getElem?_set_self hl] at he
      cases he
    have nj := nn j e hj
    have nk := nn k f hk
    rw [List.getElem?_set_ne (Ne.symm nj)] at hj g1
    rw [List.getElem?_set_ne (Ne.symm nk)] at hk g2
    exact r.apart j k e f b hj hk g1 g2
  · have hji : j ≠ i := fun z => by rw [z, hfx] at hj; cases hj
    rw [List.getElem?_set_ne (Ne.symm hji)]
    exact r.fix j a hj
structure New (K : Fg) (Pr F : Hp) (env : Env) (σ : L2.St) (H : Hp) (d : D) (a : Addr) : Prop where
  own : OwnAt K F H d a
  nF : F a = none
  nP : Pr a = none
  ap : ∀ (j : Nat) (e : D), env[j]? = some (some (true, e)) → σ[j]? = some (some (V.ref a)) → False
theorem New.of {C : Cfg} {Pr F : Hp} {env : Env} {σ : L2.St} {H : Hp} {a : Addr} {o : HO} {d : D} (r : Rel C Pr F env σ H) (h : H a = none) (ho : OwnAt C.K F (upd H a o) d a) : New C.K Pr F env σ (upd H a o) d a :=
  ⟨ho, r.fr.free h, r.pr.free h, fun j e he hs => by
    obtain ⟨b, h1, h2, _⟩ := r.own j e he
    rw [hs] at h1; cases h1
    obtain ⟨u, hu⟩ := h2.some
    rw [h] at hu; cases hu⟩
theorem Rel.putOwn {C : Cfg} {Pr F : Hp} {env : Env} {σ : L2.St} {H : Hp} (r : Rel C Pr F env σ H) {i : Nat} {d : D} {a : Addr} (hfx : C.fx i = none) (n : New C.K Pr F env σ H d a) : Rel C Pr F (env.set i (some (true, d))) (σ.set i (some (.ref a))) H := by
  have same : ∀ (j : Nat) (x : Bool × D), (env.set i (some (true, d)))[j]? = some (some x) → j = i → x = (true, d) ∧ j < env.length := fun j x he z => by
    subst z
    have hl : j < env.length := by
      have := (List.getElem?_eq_some_iff.mp he).1
      rwa [List.length_set] at this
    rw [List.getElem?_set_self hl] at he
    cases he
    exact ⟨rfl, hl⟩
  refine ⟨r.pr, r.fr, by rw [List.length_set, List.length_set]; exact r.len, fun j e he => ?_, fun j e he => ?_, fun j k e f b hj hk g1 g2 => ?_, r.dj, fun j a hj => ?_⟩
  · by_cases hji : j = i
    · have := (same j _ he hji).1; cases this
    · rw [List.getElem?_set_ne (Ne.symm hji)] at he ⊢
      exact r.val j e he
  · by_cases hji : j = i
    · obtain ⟨z, hl⟩ := same j _ he hji
      cases z
      subst hji
      exact ⟨a, List.getElem?_set_self (by rw [← r.len]; exact hl), n.own, n.nF, n.nP⟩
    · rw [List.getElem?_set_ne (Ne.symm hji)] at he ⊢
      exact r.own j e he
  · by_cases nj : j = i
    · by_cases nk : k = i
      · rw [nj, nk]
      · obtain ⟨z, hl⟩ := same j _ hj nj
        subst nj
        rw [List.getElem?_set_self (by rw [← r.len]; exact hl)] at g1
        cases g1
        rw [List.getElem?_set_ne (Ne.symm nk)] at hk g2
        exact (n.ap k f hk g2).elim
    · rw [List.getElem?_set_ne (Ne.symm nj)] at hj g1
      by_cases nk : k = i
      · obtain ⟨z, hl⟩ := same k _ hk nk
        subst nk
        rw [List.getElem?_set_self (by rw [← r.len]; exact hl)] at g2
        cases g2
        exact (n.ap j e hj g1).elim
      · rw [List.getElem?_set_ne (Ne.symm nk)] at hk g2
        exact r.apart j k e f b hj hk g1 g2
  · have hji : j ≠ i := fun z => by rw [z, hfx] at hj; cases hj
    rw [List.getElem?_set_ne (Ne.symm hji)]
    exact r.fix j a hj
theorem Rel.keep {C : Cfg} {Pr F : Hp} {env : Env} {σ : L2.St} {H : Hp} {d : D} {a : Addr} (r : Rel C Pr F env σ H) (n : New C.K Pr F env σ H d a) : ∃ F', Rel C Pr F' env σ H ∧ Same F F' ∧ Rep C.K F' d (.ref a) := by
  obtain ⟨o, ho⟩ := n.own.some
  have s1 : Same F (upd F a o) := same_upd n.nF
  have rep : Rep C.K (upd F a o) d (.ref a) := by
    have h2 := n.own
    cases d with
    | lst xs => obtain ⟨z, vs, g1, g2⟩ := h2; rw [ho] at g1; cases g1; exact ⟨z, a, vs, rfl, upd_same, Reps.mono s1 _ _ g2⟩
    | dct kvs => obtain ⟨z, ks, g1, g2⟩ := h2; rw [ho] at g1; cases g1; exact ⟨z, a, ks, rfl, .inl upd_same, RepKs.mono s1 _ _ g2⟩
    | _ => exact h2.elim
  refine ⟨upd F a o, ⟨r.pr, fun b u e => ?_, r.len, fun j e he => ?_, fun j e he => ?_, r.apart, fun b u e => ?_, r.fix⟩, s1, rep⟩
  · by_cases hb : b = a
    · subst hb; rw [upd_same] at e; cases e; exact ho
    · rw [upd_ne hb] at e; exact r.fr b u e
  · obtain ⟨v, g1, g2⟩ := r.val j e he
    exact ⟨v, g1, Rep.mono s1 e v g2⟩
  · obtain ⟨b, g1, g2, g3, g4⟩ := r.own j e he
    have hb : b ≠ a := fun z => by subst z; exact n.ap j e he g1
    exact ⟨b, g1, g2.mono s1 rfl, by rw [upd_ne hb]; exact g3, g4⟩
  · by_cases hb : b = a
    · subst hb; exact n.nP
    · rw [upd_ne hb] at e; exact r.dj b u e
theorem Rel.write {C : Cfg} {Pr F : Hp} {env : Env} {σ : L2.St} {H : Hp} {i : Nat} {d d' : D} {a : Addr} {u : HO} (r : Rel C Pr F env σ H) (h : env[i]? = some (some (true, d))) (hs : σ[i]? = some (some (V.ref a))) (ho : OwnAt C.K F (upd H a u) d' a) :
    Rel C Pr F (env.set i (some (true, d'))) σ (upd H a u) := by
  obtain ⟨a', h1, h2, h3, h4⟩ := r.own i d h
  rw [hs] at h1; cases h1
  have hi : i < env.length := (List.getElem?_eq_some_iff.mp h).1
  have ne : ∀ (j : Nat) (e : D) (b : Addr), j ≠ i → env[j]? = some (some (true, e)) → σ[j]? = some (some (V.ref b)) → b ≠ a := fun j e b hj he g z => hj (r.apart j i e d a he h (by rw [← z]; exact g) hs)
  refine ⟨fun b w e => ?_, fun b w e => ?_, by rw [List.length_set]; exact r.len, fun j e he => ?_, fun j e he => ?_, fun j k e f b hj hk g1 g2 => ?_, r.dj, r.fix⟩
  · have hb : b ≠ a := fun z => by rw [z, h4] at e; cases e
    rw [upd_ne hb]; exact r.pr b w e
  · have hb : b ≠ a := fun z => by rw [z, h3] at e; cases e
    rw [upd_ne hb]; exact r.fr b w e
  · by_cases hj : j = i
    · subst hj; rw [List.getElem?_set_self hi] at he; cases he
    · rw [List.getElem?_set_ne (Ne.symm hj)] at he; exact r.val j e he
  · by_cases hj : j = i
    · subst hj; rw [List.getElem?_set_self hi] at he; cases he; exact ⟨a, hs, ho, h3, h4⟩
    · rw [List.getElem?_set_ne (Ne.symm hj)] at he
      obtain ⟨b, g1, g2, g3, g4⟩ := r.own j e he
      exact ⟨b, g1, g2.mono (Same.refl F) (upd_ne (ne j e b hj he g1)), g3, g4⟩
  · have un : ∀ (j : Nat) (e : D), (env.set i (some (true, d')))[j]? = some (some (true, e)) → ∃ e', env[j]? = some (some (true, e')) := fun j e he => by
      by_cases hj : j = i
      · subst hj; exact ⟨d, h⟩
      · rw [List.getElem?_set_ne (Ne.symm hj)] at he; exact ⟨e, he⟩
    obtain ⟨e', hj'⟩ := un j e hj
    obtain ⟨f', hk'⟩ := un k f hk
    exact r.apart j k e' f' b hj' hk' g1 g2
def tN (C : Cfg) (ev : Ev) : TE := fun σ H Q => ∃ (Pr F : Hp) (env env' : Env) (d : D), Rel C Pr F env σ H ∧ ev env = .ok d env' ∧
  ∀ a H' F', Rel C Pr F' env' σ H' → Same F F' → New C.K Pr F' env' σ H' d a → Q (.ref a) H'
def PXN (X : Cx) (C : Cfg) (e : Expr) (ev : Ev) : Prop := PE X e (tN C ev)
section
variable {X : Cx} {C : Cfg} {pos : Pos}
theorem PXN.px {e : Expr} {ev : Ev} (h : PXN X C e ev) : PX X C e ev := PE.imp h fun σ H Q hq => by
  obtain ⟨Pr, F, env, env', d, r, e, q⟩ := hq
  refine ⟨Pr, F, env, env', d, r, e, fun a H' F' r' s' n' => ?_⟩
  obtain ⟨F2, r2, s2, p2⟩ := r'.keep n'
  exact q _ _ F2 r2 (s'.trans s2) p2
theorem pxn_lst {es : List Expr} {r : EvA} (h : PXA X C es r) : PXN X C (.List es pos) (evLst r) := (pe_lst h).imp fun σ H Q hq => by
  obtain ⟨Pr, F, env, env', d, rl, e, q⟩ := hq
  obtain ⟨ds, env1, e1, e2⟩ := bindR_ok e
  split at e2
  · rename_i hz
    cases e2
    refine ⟨Pr, F, env, env', ds, rl, e1, fun vs H1 F1 r1 s1 p1 => ⟨by rw [p1.length]; exact hz, fun p hp => ?_⟩⟩
    exact q _ _ F1 (r1.fresh hp) s1 (New.of r1 hp ⟨hz, vs, upd_same, p1⟩)
  · cases e2
abbrev GV := D → Env → Option Env
abbrev GVs := List D → Env → Option Env
def tG (C : Cfg) (lo : Nat) (gv : GV) : TG := fun v σ H Q => ∃ (Pr F : Hp) (env env' : Env) (d : D), Rel C Pr F env σ H ∧ Rep C.K F d v ∧ gv d env = some env' ∧
  ∀ σ' H' F', Rel C Pr F' env' σ' H' → Same F F' → σ'.take lo = σ.take lo → Q σ' H'
def tGs (C : Cfg) (lo : Nat) (gv : GVs) : TGs := fun vs σ H Q => ∃ (Pr F : Hp) (env env' : Env) (ds : List D), Rel C Pr F env σ H ∧ Reps C.K F ds vs ∧ gv ds env = some env' ∧
  ∀ σ' H' F', Rel C Pr F' env' σ' H' → Same F F' → σ'.take lo = σ.take lo → Q σ' H'
def PXG (X : Cx) (C : Cfg) (lo : Nat) (e : Expr) (gv : GV) : Prop := PG X e (tG C lo gv)
def PXGs (X : Cx) (C : Cfg) (lo : Nat) (es : List Expr) (gv : GVs) : Prop := PGs X es (tGs C lo gv)
theorem _root_.L2.PG.imp {X : Cx} {e : Expr} {t t' : TG} (h : PG X e t) (i : ∀ v σ H Q, t' v σ H Q → t v σ H Q) : PG X e t' := fun pins s σ H v u Q I r q => h pins s σ H v u Q I r (i v σ H Q q)
theorem _root_.L2.PGs.imp {X : Cx} {e : List Expr} {t t' : TGs} (h : PGs X e t) (i : ∀ v σ H Q, t' v σ H Q → t v σ H Q) : PGs X e t' := fun pins s σ H v u Q I r q => h pins s σ H v u Q I r (i v σ H Q q)
def gvName (i : Nat) : GV := fun d env => some (env.set i (some (false, d)))
theorem pxg_name {lo i : Nat} {x : Str} (hN : X.N.Nodup) (hi : X.N[i]? = some x) (hx : Loc X.env.scope x) (hlo : lo ≤ i) (hfx : C.fx i = none) (hf : X.fn x = true ∨ X.env.scope.names.lookup x = some .local := by first | exact .inl rfl | exact .inr rfl | assumption) : PXG X C lo (.Name x pos) (gvName i) :=
  (pg_name hN hi hx hf).imp fun v σ H Q h => by
    obtain ⟨Pr, F, env, env', d, r, p, e, q⟩ := h
    cases e
    exact q _ _ F (r.put hfx p) (Same.refl F) (by rw [List.take_set_of_le hlo])
def gvNil : GVs := fun ds env => if ds.isEmpty then some env else none
def gvCons (g : GV) (gs : GVs) : GVs := fun ds env => match ds with
  | d :: r => (g d env).bind fun e1 => gs r e1
  | [] => none
theorem pxgs_nil {lo : Nat} : PXGs X C lo [] gvNil := pgs_nil.imp fun v σ H Q h => by
  obtain ⟨Pr, F, env, env', ds, r, p, e, q⟩ := h
  cases ds with
  | nil => cases e; cases p; exact ⟨rfl, q _ _ F r (Same.refl F) rfl⟩
  | cons d ds => cases e
theorem pxgs_cons {lo : Nat} {e : Expr} {es : List Expr} {g : GV} {gs : GVs} (h1 : PXG X C lo e g) (h2 : PXGs X C lo es gs)
    (hs : (assignEach (e :: es) X.env).map (·.2) = assign e X.env :: (assignEach es X.env).map (·.2) := by rfl) : PXGs X C lo (e :: es) (gvCons g gs) := (pgs_cons h1 h2 hs).imp fun v σ H Q h => by
  obtain ⟨Pr, F, env, env', ds, r, p, e, q⟩ := h
  cases ds with
  | nil => cases e
  | cons d ds =>
    obtain ⟨u, w, rfl, p1, p2⟩ := p
    obtain ⟨env1, e1, e2⟩ := Option.bind_eq_some_iff.mp e
    refine ⟨u, w, rfl, Pr, F, env, env1, d, r, p1, e1, fun σ1 H1 F1 r1 s1 t1 => ?_⟩
    exact ⟨Pr, F1, env1, env', ds, r1, Reps.mono s1 _ _ p2, e2, fun σ2 H2 F2 r2 s2 t2 => q σ2 H2 F2 r2 (s1.trans s2) (t2.trans t1)⟩
def gvTup (n : Nat) (gs : GVs) : GV := fun d env => match d with
  | .tup ds => if ds.length = n then gs ds env else none
  | _ => none
theorem pxg_tup {lo : Nat} {es : List Expr} {k : Nat} {gs : GVs} {n : Nat} (hc : X.calm = true) (hK : X.K = C.K) (h : PXGs X C lo es gs)
    (hn : (assignEach es X.env).length = n := by rfl) (hst : (assignEach es X.env).findIdx? (·.1) = none := by rfl) : PXG X C lo (.Tuple es k pos) (gvTup n gs) := (pg_tup hc h hn hst).imp fun v σ H Q h => by
  obtain ⟨Pr, F, env, env', d, r, p, e, q⟩ := h
  cases d with
  | tup ds =>
    obtain ⟨z, a, vs, rfl, h1, h2⟩ := p
    unfold gvTup at e
    simp only at e
    split at e
    · rename_i hl
      rw [hK]
      exact ⟨a, vs, rfl, Same.tupK r.fr h1, by rw [h2.length]; exact hl, Pr, F, env, env', ds, r, h2, e, q⟩
    · cases e
  | _ => cases e
def gvAt (i : Nat) (ix : Ev) : GV := fun d env => match env[i]? with
  | some (some (_, _)) => (match ix env with
    | .ok (.int k) env1 => (match env1[i]? with
      | some (some (true, .lst xs)) => (ixN xs.length k).map fun j => env1.set i (some (true, .lst (xs.set j d)))
      | _ => none)
    | _ => none)
  | _ => none
theorem pxg_at {lo i : Nat} {x : Str} {ix : Expr} {ev : Ev} {px : Pos} (hN : X.N[i]? = some x) (hv : Vis X.env.scope x) (h : PX X C ix ev)
    (ha : ∀ v, assign (.Subscript (.Name x px) ix pos) X.env v = (do
      let ov ← holding [v] (eval (.Name x px) X.env)
      let iv ← holding [v, ov] (eval ix X.env)
      standAt pos
      holding [v, ov, iv] (setItem ov iv v)
      release [v, ov, iv] []) := by intro _; rfl)
    (hd : (x == ("__debug__" : Str)) = false := by decide) (hcd : (x == ("__classdict__" : Str)) = false := by decide) : PXG X C lo (.Subscript (.Name x px) ix pos) (gvAt i ev) :=
  (pg_sub (pe_var hN hv hd hcd) h set_list ha).imp fun v σ H Q hq => by
    obtain ⟨Pr, F, env, env', d, r, p, e, q⟩ := hq
    unfold gvAt at e
    split at e
    · rename_i o0 d0 h0
      obtain ⟨v0, hv0, _⟩ := r.rd h0
      split at e
      · rename_i k env1 e1
        split at e
        · rename_i xs h2
          obtain ⟨j, hj, e3⟩ := Option.map_eq_some_iff.mp e
          subst e3
          refine ⟨v0, hv0, Pr, F, env, env1, .int k, r, e1, fun vi H1 F1 r1 s1 p1 => ?_⟩
          cases p1
          obtain ⟨a, g1, ⟨z, vs, g2, g3⟩, g4, g5⟩ := r1.own i _ h2
          rw [hv0] at g1; cases g1
          refine ⟨a, vs, k, j, rfl, rfl, g2, by rw [g3.length]; exact hj, ?_⟩
          refine q σ _ F1 (r1.write h2 hv0 ⟨by rw [List.length_set]; exact z, vs.set j v, upd_same, Reps.set (Rep.mono s1 d v p) j g3⟩) s1 rfl
        · cases e
      · cases e
    · cases e
end
inductive Out where
  | nx (env : Env)
  | rt (o : Bool) (d : D) (env : Env)
  | bk (env : Env)
  | ct (env : Env)
  | stuck
abbrev EvS := Env → Out
def Fin (C : Cfg) (Pr F : Hp) (D : Ends) : Out → Prop
  | .nx env' => ∀ σ' H' F', Rel C Pr F' env' σ' H' → Same F F' → D.nx σ' H'
  | .rt false d env' => ∀ v σ' H' F', Rel C Pr F' env' σ' H' → Same F F' → Rep C.K F' d v → D.rt v H'
  | .rt true d env' => ∀ a σ' H' F', Rel C Pr F' env' σ' H' → Same F F' → New C.K Pr F' env' σ' H' d a → D.rt (.ref a) H'
  | .bk env' => ∀ σ' H' F', Rel C Pr F' env' σ' H' → Same F F' → D.bk σ' H'
  | .ct env' => ∀ σ' H' F', Rel C Pr F' env' σ' H' → Same F F' → D.ct σ' H'
  | .stuck => False
theorem Fin.mono {C : Cfg} {Pr F F1 : Hp} {D : Ends} (s : Same F F1) : ∀ {o : Out}, Fin C Pr F D o → Fin C Pr F1 D o
  | .nx _, h => fun σ' H' F' r t => h σ' H' F' r (s.trans t)
  | .rt false _ _, h => fun v σ' H' F' r t => h v σ' H' F' r (s.trans t)
  | .rt true _ _, h => fun v σ' H' F' r t => h v σ' H' F' r (s.trans t)
  | .bk _, h => fun σ' H' F' r t => h σ' H' F' r (s.trans t)
  | .ct _, h => fun σ' H' F' r t => h σ' H' F' r (s.trans t)
  | .stuck, h => h
def tS (C : Cfg) (ev : EvS) : TS := fun D σ H => ∃ (Pr F : Hp) (env : Env), Rel C Pr F env σ H ∧ Fin C Pr F D (ev env)
def PXS (X : Cx) (C : Cfg) (st : Stmt) (ev : EvS) : Prop := PS X st (tS C ev)
def PXSs (X : Cx) (C : Cfg) (st : List Stmt) (ev : EvS) : Prop := PSs X st (tS C ev)
def bindO {α : Type} (x : R α) (f : α → Env → Out) : Out := match x with
  | .ok a env => f a env
  | .stuck => .stuck
theorem bindO_fin {C : Cfg} {Pr F : Hp} {D : Ends} {α : Type} {x : R α} {f : α → Env → Out} (h : Fin C Pr F D (bindO x f)) : ∃ a env1, x = .ok a env1 ∧ Fin C Pr F D (f a env1) := by
  cases x with
  | ok a env1 => exact ⟨a, env1, rfl, h⟩
  | stuck => exact h.elim
section
variable {X : Cx} {C : Cfg} {pos : Pos}
def stNext : EvS := fun env => .nx env
def stSeq (a b : EvS) : EvS := fun env => match a env with
  | .nx e => b e
  | .rt o d e => .rt o d e
  | .bk e => .bk e
  | .ct e => .ct e
  | .stuck => .stuck
theorem pxss_nil : PXSs X C [] stNext := pss_nil.imp fun D σ H h => by
  obtain ⟨Pr, F, env, r, f⟩ := h
  exact f σ H F r (Same.refl F)
theorem pxss_cons {st : Stmt} {rest : List Stmt} {a b : EvS} (h1 : PXS X C st a) (h2 : PXSs X C rest b) : PXSs X C (st :: rest) (stSeq a b) := (pss_cons h1 h2).imp fun D σ H h => by
  obtain ⟨Pr, F, env, r, f⟩ := h
  refine ⟨Pr, F, env, r, ?_⟩
  unfold stSeq at f
  cases e : a env with
  | nx e1 => rw [e] at f; exact fun σ' H' F' r' s' => ⟨Pr, F', e1, r', f.mono s'⟩
  | rt o d e1 => rw [e] at f; cases o <;> exact f
  | bk e1 => rw [e] at f; exact f
  | ct e1 => rw [e] at f; exact f
  | stuck => rw [e] at f; exact f
theorem pxss_one {st : Stmt} {a : EvS} (h1 : PXS X C st a) : PXSs X C [st] a := pss_one h1
def stIf (t : EvT) (a b : EvS) : EvS := fun env => bindO (t env) fun c env1 => if c = true then a env1 else b env1
theorem pxs_if {c : Expr} {a b : List Stmt} {t : EvT} {ea eb : EvS} (hc : PXT X C c t) (ha : PXSs X C a ea) (hb : PXSs X C b eb) : PXS X C (.If c a b pos) (stIf t ea eb) := (ps_if hc ha hb).imp fun D σ H h => by
  obtain ⟨Pr, F, env, r, f⟩ := h
  obtain ⟨k, env1, e1, f1⟩ := bindO_fin f
  refine ⟨Pr, F, env, env1, k, r, e1, fun H1 F1 r1 s1 => ?_⟩
  split at f1
  · rename_i hk; rw [if_pos hk]; exact ⟨Pr, F1, env1, r1, f1.mono s1⟩
  · rename_i hk; rw [if_neg hk]; exact ⟨Pr, F1, env1, r1, f1.mono s1⟩
def stRet (a : Ev) : EvS := fun env => bindO (a env) fun d env1 => .rt false d env1
theorem pxs_ret {e : Expr} {a : Ev} (h : PX X C e a) : PXS X C (.Return (some e) pos) (stRet a) := (ps_ret h).imp fun D σ H hq => by
  obtain ⟨Pr, F, env, r, f⟩ := hq
  obtain ⟨d, env1, e1, f1⟩ := bindO_fin f
  exact ⟨Pr, F, env, env1, d, r, e1, fun v H1 F1 r1 s1 p1 => f1 v σ H1 F1 r1 s1 p1⟩
def stRetNew (a : Ev) : EvS := fun env => bindO (a env) fun d env1 => .rt true d env1
theorem pxs_retNew {e : Expr} {a : Ev} (h : PXN X C e a) : PXS X C (.Return (some e) pos) (stRetNew a) := (ps_ret h).imp fun D σ H hq => by
  obtain ⟨Pr, F, env, r, f⟩ := hq
  obtain ⟨d, env1, e1, f1⟩ := bindO_fin f
  exact ⟨Pr, F, env, env1, d, r, e1, fun v H1 F1 r1 s1 p1 => f1 v σ H1 F1 r1 s1 p1⟩
def stRetN : EvS := fun env => .rt false .non env
def liftO (o : Option Env) : Out := match o with
  | some e => .nx e
  | none => .stuck
def stAsg (a : Ev) (g : GV) : EvS := fun env => bindO (a env) fun d env1 => liftO (g d env1)
theorem asg_go {a : Ev} {g : GV} {D : Ends} {σ : L2.St} {H : Hp} (h : tS C (stAsg a g) D σ H) : tAsg (tE C a) (tG C 0 g) D σ H := by
  obtain ⟨Pr, F, env, r, f⟩ := h
  obtain ⟨d, env1, e1, f1⟩ := bindO_fin f
  refine ⟨Pr, F, env, env1, d, r, e1, fun v H1 F1 r1 s1 p1 => ?_⟩
  cases e2 : g d env1 with
  | none => rw [e2] at f1; exact f1.elim
  | some env2 => rw [e2] at f1; exact ⟨Pr, F1, env1, env2, d, r1, p1, e2, fun σ2 H2 F2 r2 s2 _ => f1 σ2 H2 F2 r2 (s1.trans s2)⟩
theorem pxs_asg {tg e : Expr} {a : Ev} {g : GV} (he : PX X C e a) (hg : PXG X C 0 tg g) (hs : swapsWithSole [tg] e pos.line X.env = pure false := by rfl) (hw : swappedStores [tg] e X.env = pure none := by rfl)
    (h1 : (assignEach [tg] X.env).map (·.2) = [assign tg X.env] := by rfl) : PXS X C (.Assign [tg] e pos) (stAsg a g) := (ps_asg he hg hs hw h1).imp fun D σ H h => asg_go h
theorem pxs_set {i : Nat} {x : Str} {e : Expr} {a : Ev} {pos' : Pos} (hN : X.N.Nodup) (hi : X.N[i]? = some x) (hx : Loc X.env.scope x) (hfx : C.fx i = none) (he : PX X C e a) (hs : swapsWith e (some (.Name x pos')) pos.line X.env = pure false := by rfl) (hf : X.fn x = true ∨ X.env.scope.names.lookup x = some .local := by first | exact .inl rfl | exact .inr rfl | assumption) :
    PXS X C (.Assign [.Name x pos'] e pos) (stAsg a (gvName i)) := (ps_set hN hi hx he hs hf).imp fun D σ H h => by
  obtain ⟨Pr, F, env, r, f⟩ := h
  obtain ⟨d, env1, e1, f1⟩ := bindO_fin f
  exact ⟨Pr, F, env, env1, d, r, e1, fun v H1 F1 r1 s1 p1 => f1 _ H1 F1 (r1.put hfx p1) s1⟩
def stOwn (i : Nat) (a : Ev) : EvS := fun env => bindO (a env) fun d env1 => .nx (env1.set i (some (true, d)))
theorem pxs_own {i : Nat} {x : Str} {e : Expr} {a : Ev} {pos' : Pos} (hN : X.N.Nodup) (hi : X.N[i]? = some x) (hx : Loc X.env.scope x) (hfx : C.fx i = none) (he : PXN X C e a) (hs : swapsWith e (some (.Name x pos')) pos.line X.env = pure false := by rfl) (hf : X.fn x = true ∨ X.env.scope.names.lookup x = some .local := by first | exact .inl rfl | exact .inr rfl | assumption) :
    PXS X C (.Assign [.Name x pos'] e pos) (stOwn i a) := (ps_set hN hi hx he hs hf).imp fun D σ H h => by
  obtain ⟨Pr, F, env, r, f⟩ := h
  obtain ⟨d, env1, e1, f1⟩ := bindO_fin f
  exact ⟨Pr, F, env, env1, d, r, e1, fun v H1 F1 r1 s1 p1 => f1 _ H1 F1 (r1.putOwn hfx p1) s1⟩
def stApp (i : Nat) (a : Ev) : EvS := fun env => match env[i]? with
  | some (some (true, .lst _)) => bindO (a env) fun d env1 => (match env1[i]? with
    | some (some (true, .lst xs)) => if xs.length < sizeLine then .nx (env1.set i (some (true, .lst (xs ++ [d])))) else .stuck
    | _ => .stuck)
  | _ => .stuck
theorem pxs_app {i : Nat} {x : Str} {e : Expr} {a : Ev} {px apos cpos : Pos} (hN : X.N[i]? = some x) (hv : Vis X.env.scope x) (he : PX X C e a) (hK : X.K = C.K)
    (hs : swapsWith (.Call (.Attribute (.Name x px) "append" apos) [e] [] cpos) none pos.line X.env = pure false := by rfl)
    (hfew : ((backTo cpos (starEach [e] X.env)).all (fun x => !x.1) && (backToKw cpos (keywordEach [] X.env)).all (fun x => x.1.isSome)
      && decide (([e] : List Expr).length + ([] : List Keyword).length + (if ([] : List Keyword).isEmpty then 0 else 1) < 30)) = true := by rfl)
    (hbase : attributeBase (.Name x px) "append" X.env (eval (.Name x px) X.env) = eval (.Name x px) X.env := by rfl)
    (hline : (apos.endLine == cpos.line) = true := by rfl) (hst : starEach [e] X.env = (false, eval e X.env) :: starEach [] X.env := by rfl) (hplain : (backTo cpos (starEach [] X.env)).any (·.1) = false := by rfl)
    (hd : (x == ("__debug__" : Str)) = false := by decide) (hcd : (x == ("__classdict__" : Str)) = false := by decide) : PXS X C (.Expr (.Call (.Attribute (.Name x px) "append" apos) [e] [] cpos) pos) (stApp i a) := by
  refine PS.imp (ps_expr (pe_bm PySem.F.plainAttrs_list PySem.F.slot_list_append PySem.F.type_list_append mt_append (pe_var hN hv hd hcd) (pa_cons he pa_nil hst) hbase hfew hline hst hplain) hs) fun D σ H h => ?_
  obtain ⟨Pr, F, env, r, f⟩ := h
  unfold stApp at f
  split at f
  · rename_i xs0 h0
    obtain ⟨d, env1, e1, f1⟩ := bindO_fin f
    obtain ⟨a0, hv0, ⟨z0, vs0, g0, _⟩, _⟩ := r.own i _ h0
    refine ⟨_, hv0, .inl ⟨rfl, vs0, SqL.of g0⟩, Pr, F, env, env1, d, r, e1, fun v H1 F1 r1 s1 p1 => ?_⟩
    split at f1
    · rename_i xs h1
      split at f1
      · rename_i hz
        obtain ⟨a, g1, ⟨z, vs, g2, g3⟩, g4, g5⟩ := r1.own i _ h1
        rw [hv0] at g1; cases g1
        refine ⟨a0, vs, v, rfl, rfl, g2, by rw [g3.length]; exact hz, ?_⟩
        exact f1 σ _ F1 (r1.write h1 hv0 ⟨by rw [List.length_append]; exact hz, vs ++ [v], upd_same, g3.append (Reps.one p1)⟩) s1
      · exact f1.elim
    · exact f1.elim
  · exact f.elim
def Yields (K : Fg) (F : Hp) (ds : List D) (J : It) : Prop := ∀ (i : Nat) (H : Hp), Same F H → (ds[i]? = none → i = ds.length → J.stop i H) ∧ ∀ d, ds[i]? = some d → J.go i H ∧ ∀ x H', J.yld i H x H' →
  (H' = H ∧ Rep K F d x) ∨ ∃ p vs es, H p = none ∧ H' = upd H p (.tup vs) ∧ x = .ref p ∧ d = .tup es ∧ es.length ≤ sizeLine ∧ Reps K F es vs
def tI (C : Cfg) (ev : EvA) : TI := fun σ H R => ∃ (Pr F : Hp) (env env' : Env) (ds : List D), Rel C Pr F env σ H ∧ ev env = .ok ds env' ∧
  ∀ J H' F', Rel C Pr F' env' σ H' → Same F F' → Yields C.K F' ds J → R J H'
def PXI (X : Cx) (C : Cfg) (tg iter : Expr) (ev : EvA) : Prop := PI X tg iter (tI C ev)
theorem _root_.L2.PI.imp {X : Cx} {tg e : Expr} {t t' : TI} (h : PI X tg e t) (i : ∀ σ H R, t' σ H R → t σ H R) : PI X tg e t' := fun pins s σ H R I q => h pins s σ H R I (i σ H R q)
theorem Yields.item {Pr F F1 : Hp} {env : Env} {σ : L2.St} {H : Hp} {ds : List D} {J : It} {i : Nat} {d : D} {x : V} {H' : Hp} (r : Rel C Pr F1 env σ H) (s : Same F F1) (y : Yields C.K F ds J) (hd : ds[i]? = some d) (hy : J.yld i H x H') :
    ∃ F2, Rel C Pr F2 env σ H' ∧ Same F1 F2 ∧ Rep C.K F2 d x := by
  rcases ((y i H (s.trans r.fr)).2 d hd).2 x H' hy with ⟨rfl, p⟩ | ⟨p, vs, es, hp, rfl, rfl, rfl, hz, q⟩
  · exact ⟨F1, r, Same.refl F1, Rep.mono s _ _ p⟩
  · obtain ⟨r2, s2⟩ := r.new (o := .tup vs) hp
    exact ⟨_, r2, s2, hz, p, vs, rfl, SqT.of upd_same, Reps.mono (s.trans s2) _ _ q⟩
def forO (g : GV) (b : EvS) : List D → EvS
  | [], env => .nx env
  | d :: ds, env => (match g d env with
    | none => .stuck
    | some e1 => (match b e1 with
      | .nx e2 => forO g b ds e2
      | .ct e2 => forO g b ds e2
      | .bk e2 => .nx e2
      | .rt o d e2 => .rt o d e2
      | .stuck => .stuck))
def stFor (it : EvA) (g : GV) (b : EvS) : EvS := fun env => bindO (it env) fun ds env1 => forO g b ds env1
theorem pxs_for {tg iter : Expr} {body : List Stmt} {it : EvA} {g : GV} {b : EvS} (hp : PassesOwn (model X.prog X.w) X.A X.env X.xe) (hc : X.calm = true) (hi : PXI X C tg iter it) (hg : PXG X C 0 tg g) (hb : PXSs X C body b)
    (hs : ∀ x, foldedSetIterable iter X.env x = pure x := by intro _; rfl) : PXS X C (.For tg iter body [] pos) (stFor it g b) := (ps_for hp hc hi hg hb hs).imp fun D σ H h => by
  obtain ⟨Pr, F, env, r, f⟩ := h
  obtain ⟨ds, env1, e1, f1⟩ := bindO_fin f
  refine ⟨Pr, F, env, env1, ds, r, e1, fun J H1 F1 r1 s1 y1 => ?_⟩
  refine ⟨fun i m σ' H' => m = ds.length - i ∧ i ≤ ds.length ∧ ∃ F' env', Rel C Pr F' env' σ' H' ∧ Same F1 F' ∧ Fin C Pr F' D (forO g b (ds.drop i) env'), ⟨ds.length, rfl, Nat.zero_le _, F1, env1, r1, Same.refl _, f1.mono s1⟩, ?_⟩
  rintro i m σ' H' ⟨rfl, hi, F', env', r', s', f'⟩
  by_cases hl : i < ds.length
  · have hd : ds[i]? = some ds[i] := List.getElem?_eq_getElem hl
    have hdr : ds.drop i = ds[i] :: ds.drop (i + 1) := List.drop_eq_getElem_cons hl
    have yy := y1 i H' (s'.trans r'.fr)
    refine .inr ⟨(yy.2 _ hd).1, fun σ2 H2 => ∃ F' env', Rel C Pr F' env' σ2 H2 ∧ Same F1 F' ∧ Fin C Pr F' D (forO g b (ds.drop (i + 1)) env'), fun σ2 H2 h2 => ⟨ds.length - (i + 1), by omega, rfl, hl, h2⟩, fun x H2 hy => ?_⟩
    obtain ⟨F2, r2, s2, p2⟩ := Yields.item r' s' y1 hd hy
    rw [hdr] at f'
    have f2 := f'.mono s2
    unfold forO at f2
    cases eg : g ds[i] env' with
    | none => rw [eg] at f2; exact f2.elim
    | some e2 =>
      rw [eg] at f2
      refine ⟨Pr, F2, env', e2, ds[i], r2, p2, eg, fun σ3 H3 F3 r3 s3 _ => ⟨Pr, F3, e2, r3, ?_⟩⟩
      simp only at f2
      have s13 : Same F1 F3 := (s'.trans s2).trans s3
      cases eb : b e2 with
      | nx e3 => rw [eb] at f2; exact fun σ4 H4 F4 r4 s4 => ⟨F4, e3, r4, s13.trans s4, f2.mono (s3.trans s4)⟩
      | ct e3 => rw [eb] at f2; exact fun σ4 H4 F4 r4 s4 => ⟨F4, e3, r4, s13.trans s4, f2.mono (s3.trans s4)⟩
      | bk e3 => rw [eb] at f2; exact fun σ4 H4 F4 r4 s4 => f2 σ4 H4 F4 r4 (s3.trans s4)
      | rt o d e3 => rw [eb] at f2; cases o <;> exact fun v σ4 H4 F4 r4 s4 p4 => f2 v σ4 H4 F4 r4 (s3.trans s4) p4
      | stuck => rw [eb] at f2; exact f2.elim
  · have e : i = ds.length := by omega
    subst e
    rw [List.drop_length] at f'
    exact .inl ⟨(y1 _ H' (s'.trans r'.fr)).1 (List.getElem?_eq_none (Nat.le_refl _)) rfl, f' σ' H' F' r' (Same.refl F')⟩
def whileO (t : EvT) (b : EvS) : Nat → EvS
  | 0, _ => .stuck
  | n + 1, env => bindO (t env) fun c e1 => if c = true then (match b e1 with
      | .nx e2 => whileO t b n e2
      | .ct e2 => whileO t b n e2
      | .bk e2 => .nx e2
      | .rt o d e2 => .rt o d e2
      | .stuck => .stuck) else .nx e1
end
end Ev
namespace L2
open PySem PySem.Spec PyProof.Rows
def Its (z : Str) : It := ⟨fun i _ => i < z.cps.size, fun i H x H' => H' = H ∧ ∃ c, z.cps[i]? = some c ∧ x = .str ⟨#[c]⟩, fun i _ => z.cps.size ≤ i⟩
theorem turn_strA {P : Program} {w : World} {K : PySem.W.Frag} {tg : Expr} (it : Addr) (z : Str) (t : Tok) : Turn P w K tg (Its z) [it] it (fun i h => h.IsStrIter it "str_ascii_iterator" z t i ∧ i ≤ z.cps.size) where
  mem := by simp
  obj := fun i h st b hb => by
    have e : b = it := by simpa using hb
    subst e
    obtain ⟨⟨o, ho, hc, hd⟩, _⟩ := st
    exact ⟨o, ho, fun v z => by rw [hd] at z; cases z⟩
  keep := fun i h h' st k => let ⟨⟨o, ho, r⟩, l⟩ := st; ⟨⟨o, k it (by simp) o ho, r⟩, l⟩
  item := by
    intro X hP hw hK hc i pins s σ H E I hf st hg
    subst hP hw hK
    obtain ⟨f0, f1, f2, f3, f4, f5⟩ := hf it (by simp)
    have hg' : i < z.cps.size := hg
    refine wpAny_pyNext_ascii_item st.1 (c := z.cps[i]) (by simp [hg']) fun h' hit' hs' => ?_
    have I1 : Inv X pins σ H { s with heap := h', toks := s.toks + 1 } := I.turned (fun b o hb e => hs'.extBut b o hb e) f0 f1 f3 f4 f5
    obtain ⟨o, ho, hcl, hda⟩ := hit'
    refine ⟨_, rfl, go_of (s := { s with heap := h', toks := s.toks + 1 }) (n := "str_ascii_iterator") ho hcl hda (by decide) ⟨.str ⟨#[z.cps[i]]⟩, H, I1, ⟨_, rfl⟩, ⟨rfl, _, by simp [hg'], rfl⟩, ⟨⟨o, ho, hcl, hda⟩, hg'⟩, fun b hb => (hf b hb).1⟩⟩
  done := by
    intro X hP hw hK hc i pins s σ H E I hf st hg
    subst hP hw hK
    obtain ⟨f0, f1, f2, f3, f4, f5⟩ := hf it (by simp)
    have hg' : z.cps.size ≤ i := hg
    exact wpAny_pyNext_ascii_end (I.ok.hd hc) st.1 (by simp; omega) fun h' eb => ⟨rfl, I.turned (t' := s.toks) (fun b o hb e => eb b o hb e) f0 f1 f3 f4 f5⟩
  self := fun _ _ _ _ _ st h => wpAny_pyIter_striter_ascii st.1 h
theorem turn_strW {P : Program} {w : World} {K : PySem.W.Frag} {tg : Expr} (it : Addr) (z : Str) (t : Tok) : Turn P w K tg (Its z) [it] it (fun i h => h.IsStrIter it "str_iterator" z t i ∧ i ≤ z.cps.size) where
  mem := by simp
  obj := fun i h st b hb => by
    have e : b = it := by simpa using hb
    subst e
    obtain ⟨⟨o, ho, hc, hd⟩, _⟩ := st
    exact ⟨o, ho, fun v z => by rw [hd] at z; cases z⟩
  keep := fun i h h' st k => let ⟨⟨o, ho, r⟩, l⟩ := st; ⟨⟨o, k it (by simp) o ho, r⟩, l⟩
  item := by
    intro X hP hw hK hc i pins s σ H E I hf st hg
    subst hP hw hK
    obtain ⟨f0, f1, f2, f3, f4, f5⟩ := hf it (by simp)
    have hg' : i < z.cps.size := hg
    refine wpAny_pyNext_wide_item st.1 (c := z.cps[i]) (by simp [hg']) fun h' hit' hs' => ?_
    have I1 : Inv X pins σ H { s with heap := h', toks := s.toks + 1 } := I.turned (fun b o hb e => hs'.extBut b o hb e) f0 f1 f3 f4 f5
    obtain ⟨o, ho, hcl, hda⟩ := hit'
    refine ⟨_, rfl, go_of (s := { s with heap := h', toks := s.toks + 1 }) (n := "str_iterator") ho hcl hda (by decide) ⟨.str ⟨#[z.cps[i]]⟩, H, I1, ⟨_, rfl⟩, ⟨rfl, _, by simp [hg'], rfl⟩, ⟨⟨o, ho, hcl, hda⟩, hg'⟩, fun b hb => (hf b hb).1⟩⟩
  done := by
    intro X hP hw hK hc i pins s σ H E I hf st hg
    subst hP hw hK
    obtain ⟨f0, f1, f2, f3, f4, f5⟩ := hf it (by simp)
    have hg' : z.cps.size ≤ i := hg
    exact wpAny_pyNext_wide_end (I.ok.hd hc) st.1 (by simp; omega) fun h' eb => ⟨rfl, I.turned (t' := s.toks) (fun b o hb e => eb b o hb e) f0 f1 f3 f4 f5⟩
  self := fun _ _ _ _ _ st h => wpAny_pyIter_striter_wide st.1 h
section
variable {X : Cx} {tg : Expr}
def iSeq (K : PySem.W.Frag) (tl : TE) : TI := fun σ H R => tl σ H fun x H1 => (∃ a, x = .ref a ∧ (∃ xs, SqL K H1 a xs) ∧ R (Itl K a) H1) ∨ (∃ a, x = .ref a ∧ (∃ xs, SqT K H1 a xs) ∧ R (Itt K a) H1) ∨ ∃ z, x = .str z ∧ R (Its z) H1
theorem pi_seq {l : Expr} {tl : TE} (hl : PE X l tl) : PI X tg l (iSeq X.K tl) := by
  intro pins s σ H R I h
  refine thn (hl pins s σ H _ I h) fun v s1 ⟨x, H1, I1, r1, q1⟩ => ?_
  have own : ∀ b ∈ [s1.heap.objs.size], FpOk X pins H1 b := fun b hb => by
    have e : b = s1.heap.objs.size := by simpa using hb
    subst e
    exact I1.fpOk (Nat.le_refl _) (I1.hok.fresh (Nat.le_refl _))
  rcases q1 with ⟨a, e, ⟨xs, hq⟩, q⟩ | ⟨a, e, ⟨xs, hq⟩, q⟩ | ⟨z, e, q⟩
  · subst e
    cases r1
    obtain ⟨its, rv, p, hz⟩ := I1.list hq
    refine wpAny_pyIter_list p.isList ?_
    exact ⟨s1.heap.objs.size, [s1.heap.objs.size], _, _, H1, rfl, I1.kept (t' := s1.toks) fun b o e => Heap.get?_push_of_some _ e, turn_list a _, ⟨_, Heap.get?_push_size _ rfl, rfl, rfl⟩, own, q⟩
  · subst e
    cases r1
    obtain ⟨its, rv, p, hz⟩ := I1.tuple hq
    refine wpAny_pyIter_tuple (show s1.heap.IsTuple a its.toArray from p) ?_
    exact ⟨s1.heap.objs.size, [s1.heap.objs.size], _, _, H1, rfl, I1.kept (t' := s1.toks) fun b o e => Heap.get?_push_of_some _ e, turn_tuple a _, ⟨_, Heap.get?_push_size _ rfl, rfl, rfl⟩, own, q⟩
  · subst e
    obtain ⟨t, rfl⟩ := r1
    cases ha : z.cps.all (· < 128)
    · exact wpAny_pyIter_wide ha ⟨s1.heap.objs.size, [s1.heap.objs.size], _, _, H1, rfl, I1.kept (t' := s1.toks) fun b o e => Heap.get?_push_of_some _ e, turn_strW _ z t, ⟨⟨_, Heap.get?_push_size _ rfl, rfl, rfl⟩, Nat.zero_le _⟩, own, q⟩
    · exact wpAny_pyIter_ascii ha ⟨s1.heap.objs.size, [s1.heap.objs.size], _, _, H1, rfl, I1.kept (t' := s1.toks) fun b o e => Heap.get?_push_of_some _ e, turn_strA _ z t, ⟨⟨_, Heap.get?_push_size _ rfl, rfl, rfl⟩, Nat.zero_le _⟩, own, q⟩
def Itr3 (lo c : Int) (n : Nat) : It := ⟨fun i _ => i < n, fun i H x H' => H' = H ∧ x = .int (lo + i * c), fun i _ => n ≤ i⟩
theorem turn_range3 {P : Program} {w : World} {K : PySem.W.Frag} {tg : Expr} (it : Addr) (lo c : Int) (n : Nat) : Turn P w K tg (Itr3 lo c n) [it] it (fun i h => IsRangeIter h it (lo + (i : Nat) * c) ((n : Int) - (i : Nat)) c) where
  mem := by simp
  obj := fun i h st b hb => by
    have e : b = it := by simpa using hb
    subst e
    exact ⟨_, st, fun v z => by
      have z' : Data.fields _ = Data.cell v := z
      cases z'⟩
  keep := fun i h h' st k => k it (by simp) _ st
  item := by
    intro X hP hw hK hc i pins s σ H E I hf st hg
    subst hP hw hK
    obtain ⟨f0, f1, f2, f3, f4, f5⟩ := hf it (by simp)
    have W := Walks.range (prog := X.prog) (w := X.w) (I.ok.hd hc) it lo c n
    refine W.item i s _ _ hg st fun v h' tk hv st' kk => ?_
    obtain ⟨t, rfl⟩ := hv
    have I1 : Inv X pins σ H { s with heap := h', toks := tk } := I.turned (fun b o hb e => kk b o (by simpa using hb) e) f0 f1 f3 f4 f5
    exact ⟨_, rfl, go_of (s := { s with heap := h', toks := tk }) (n := "range_iterator") st' rfl rfl (by decide) ⟨.int (lo + i * c), H, I1, ⟨t, rfl⟩, ⟨rfl, rfl⟩, st', fun b hb => (hf b hb).1⟩⟩
  done := by
    intro X hP hw hK hc i pins s σ H E I hf st hg
    subst hP hw hK
    obtain ⟨f0, f1, f2, f3, f4, f5⟩ := hf it (by simp)
    exact wpAny_pyNext_range_end (I.ok.hd hc) st (by have : n ≤ i := hg; omega) fun h' eb => ⟨rfl, I.turned (t' := s.toks) (fun b o hb e => eb b o hb e) f0 f1 f3 f4 f5⟩
  self := fun _ _ _ _ _ st h => wpAny_pyIter_rangeiter st h
def iRng3 (ta : TA) : TI := fun σ H R => ta σ H fun vs H1 => ∃ i j c : Int, vs = [.int i, .int j, .int c] ∧ c ≠ 0 ∧ c.natAbs < 1073741824 ∧ Builtin.Range.small i j c = true ∧ R (Itr3 i c (Builtin.Range.rangeSize i j c).toNat) H1
theorem pi_range3 {a b c : Expr} {ta : TA} {p pos : Pos} (hg : Gl X "range") (hm : X.mg "range" = none) (ha : PA X [a, b, c] ta) (hs : starEach [a, b, c] X.env = [(false, eval a X.env), (false, eval b X.env), (false, eval c X.env)] := by rfl) (hs2 : starEach [b, c] X.env = [(false, eval b X.env), (false, eval c X.env)] := by rfl) :
    PI X tg (.Call (.Name "range" p) [a, b, c] [] pos) (iRng3 ta) := by
  intro pins s σ H R I h
  refine Call_ (ld_blt I hg hm boot_range (PyProof.Rows.callWith_type1 (thn (ha pos pins s σ H _ I h) fun us s1 ⟨vs, H1, I1, r1, q1⟩ => ?_) (by rw [hs, hs2]) (by rw [hs2]; rfl)))
  obtain ⟨i, j, c, e, hc, hcs, hsm, q⟩ := q1
  subst e
  cases r1 with
  | cons r rr =>
    cases rr with
    | cons r' rr =>
      cases rr with
      | cons r'' rr =>
        cases rr
        obtain ⟨t, rfl⟩ := r
        obtain ⟨t', rfl⟩ := r'
        obtain ⟨t'', rfl⟩ := r''
        refine call_range_3 hc ?_ (.inl (PyProof.noPylong_small hcs))
        refine wpAny_pyIter_range (IsRange.new ..) hsm ?_
        generalize ho : ({ cls := .type "range", data := .fields #[.int i t, .int j t', .int c t''] } : Obj) = o
        have I2 : Inv X pins σ H1 { s1 with heap := s1.heap.push o, toks := s1.toks } := I1.kept fun b o e => Heap.get?_push_of_some _ e
        refine ⟨(s1.heap.push o).objs.size, [(s1.heap.push o).objs.size], _, _, H1, rfl, I2.kept (t' := s1.toks) fun b o e => Heap.get?_push_of_some _ e, turn_range3 _ i c (Builtin.Range.rangeSize i j c).toNat, ?_, fun b hb => ?_, q⟩
        · have e1 : i + ((0 : Nat) : Int) * c = i := by simp
          have e2 : (((Builtin.Range.rangeSize i j c).toNat : Nat) : Int) - ((0 : Nat) : Int) = Builtin.Range.rangeSize i j c := by have := PyProof.Rows.rangeSize_toNat i j c; omega
          show IsRangeIter _ _ (i + ((0 : Nat) : Int) * c) (((Builtin.Range.rangeSize i j c).toNat : Int) - ((0 : Nat) : Int)) c
          rw [e1, e2]
          exact Heap.get?_push_size _ rfl
        · have e : b = (s1.heap.push o).objs.size := by simpa using hb
          subst e
          exact I2.fpOk (Nat.le_refl _) (I2.hok.fresh (Nat.le_refl _))
end
end L2
namespace Ev
open PySem PySem.Spec PyProof.Rows L2
section
variable {X : Cx} {C : Cfg} {pos : Pos} {tg : Expr}
def sgs (x : List Nat) : List D := x.map fun c => .str [c]
theorem yields_tup {F : Hp} {a : Addr} {vs : List V} {ds : List D} (h : SqT C.K F a vs) (p : Reps C.K F ds vs) : Yields C.K F ds (Itt C.K a) := fun i H s => by
  refine ⟨fun _ e => ⟨vs, Same.tupK s h, by rw [p.length, e]; exact Nat.le_refl _⟩, fun d hd => ?_⟩
  obtain ⟨v, h1, h2⟩ := p.get hd
  refine ⟨⟨vs, v, Same.tupK s h, h1⟩, fun x H' hy => .inl ⟨hy.1, ?_⟩⟩
  have := hy.2 vs (Same.tupK s h)
  rw [h1] at this; cases this
  exact h2
theorem yields_str {F : Hp} {x : List Nat} : Yields C.K F (sgs x) (Its (strOf x)) := fun i H s => by
  refine ⟨fun _ e => ?_, fun d hd => ?_⟩
  · show x.toArray.size ≤ i
    rw [e]; simp [sgs]
  · unfold sgs at hd
    rw [List.getElem?_map] at hd
    obtain ⟨c, hc, rfl⟩ := Option.map_eq_some_iff.mp hd
    refine ⟨?_, fun v H' hy => .inl ⟨hy.1, ?_⟩⟩
    · show i < x.toArray.size
      have := (List.getElem?_eq_some_iff.mp hc).1
      simpa using this
    · obtain ⟨c', h1, rfl⟩ := hy.2
      have h2 : x[i]? = some c' := by simpa [strOf] using h1
      rw [hc] at h2; cases h2
      exact ⟨rfl, by show 1 ≤ sizeLine; decide⟩
def itD : D → Option (List D)
  | .lst xs => some xs
  | .arr xs => some xs
  | .tup xs => some xs
  | .str x => some (sgs x)
  | _ => none
def evIt (a : Ev) : EvA := fun env => bindR (a env) fun d env1 => liftR (itD d) env1
theorem pxi_seq {l : Expr} {a : Ev} (hK : X.K = C.K) (h : PX X C l a) : PXI X C tg l (evIt a) := (pi_seq h).imp fun σ H R hq => by
  obtain ⟨Pr, F, env, env', ds, r, e, q⟩ := hq
  obtain ⟨d, env1, e1, e2⟩ := bindR_ok e
  obtain ⟨e3, rfl⟩ := liftR_ok e2
  refine ⟨Pr, F, env, env', d, r, e1, fun v H1 F1 r1 s1 p1 => ?_⟩
  rw [hK]
  cases d with
  | lst xs =>
    cases e3
    obtain ⟨z, a, vs, rfl, g1, g2⟩ := p1
    refine .inl ⟨a, rfl, ⟨vs, SqL.of (r1.fr _ _ g1)⟩, q _ H1 F1 r1 s1 fun i H s => ?_⟩
    refine ⟨fun _ e => ⟨vs, SqL.of (s _ _ g1), by rw [g2.length, e]; exact Nat.le_refl _⟩, fun d hd => ?_⟩
    obtain ⟨v, h1, h2⟩ := g2.get hd
    refine ⟨⟨vs, v, SqL.of (s _ _ g1), h1⟩, fun x H' hy => .inl ⟨hy.1, ?_⟩⟩
    have := hy.2 vs (SqL.of (s _ _ g1))
    rw [h1] at this; cases this
    exact h2
  | arr xs =>
    cases e3
    obtain ⟨z, a, vs, rfl, g1, g2⟩ := p1
    refine .inl ⟨a, rfl, ⟨vs, r1.fr.seq g1⟩, q _ H1 F1 r1 s1 fun i H s => ?_⟩
    refine ⟨fun _ e => ⟨vs, s.seq g1, by rw [g2.length, e]; exact Nat.le_refl _⟩, fun d hd => ?_⟩
    obtain ⟨v, h1, h2⟩ := g2.get hd
    refine ⟨⟨vs, v, s.seq g1, h1⟩, fun x H' hy => .inl ⟨hy.1, ?_⟩⟩
    have := hy.2 vs (s.seq g1)
    rw [h1] at this; cases this
    exact h2
  | tup xs =>
    cases e3
    obtain ⟨z, a, vs, rfl, g1, g2⟩ := p1
    exact .inr (.inl ⟨a, rfl, ⟨vs, Same.tupK r1.fr g1⟩, q _ H1 F1 r1 s1 (yields_tup g1 g2)⟩)
  | str x =>
    cases e3
    obtain ⟨rfl, z⟩ := p1
    exact .inr (.inr ⟨_, rfl, q _ H1 F1 r1 s1 yields_str⟩)
  | _ => cases e3
def stepsI (lo c : Int) (n : Nat) : List D := (List.range n).map fun (i : Nat) => .int (lo + i * c)
theorem stepsI_len (lo c : Int) (n : Nat) : (stepsI lo c n).length = n := by simp [stepsI]
theorem stepsI_get {lo c : Int} {n i : Nat} {d : D} (h : (stepsI lo c n)[i]? = some d) : i < n ∧ d = .int (lo + i * c) := by
  have hi : i < n := by
    have := (List.getElem?_eq_some_iff.mp h).1
    rwa [stepsI_len] at this
  refine ⟨hi, ?_⟩
  unfold stepsI at h
  rw [List.getElem?_map, List.getElem?_range hi] at h
  cases h; rfl
theorem yields_rng {F : Hp} {lo : Int} {n : Nat} : Yields C.K F (stepsI lo 1 n) (Itr lo n) := fun i H s => by
  refine ⟨fun _ e => by show n ≤ i; rw [e, stepsI_len]; exact Nat.le_refl _, fun d hd => ?_⟩
  obtain ⟨hi, rfl⟩ := stepsI_get hd
  refine ⟨hi, fun x H' hy => .inl ⟨hy.1, ?_⟩⟩
  show x = .int _
  rw [Int.mul_one]; exact hy.2
theorem yields_rng3 {F : Hp} {lo c : Int} {n : Nat} : Yields C.K F (stepsI lo c n) (Itr3 lo c n) := fun i H s => by
  refine ⟨fun _ e => by show n ≤ i; rw [e, stepsI_len]; exact Nat.le_refl _, fun d hd => ?_⟩
  obtain ⟨hi, rfl⟩ := stepsI_get hd
  exact ⟨hi, fun x H' hy => .inl ⟨hy.1, hy.2⟩⟩
def rngFits (j : Int) : Bool := decide (-(2 ^ 62) ≤ j) && decide (j < 2 ^ 62)
theorem rngFits_ok {j : Int} (h : rngFits j = true) : -(2 ^ 62) ≤ j ∧ j < 2 ^ 62 := by
  unfold rngFits at h
  rw [Bool.and_eq_true] at h
  exact ⟨of_decide_eq_true h.1, of_decide_eq_true h.2⟩
def rngD : List D → Option (List D)
  | [.int j] => if rngFits j = true then some (stepsI 0 1 j.toNat) else none
  | [.int i, .int j] => if rngFits i = true ∧ rngFits j = true then some (stepsI i 1 (j - i).toNat) else none
  | [.int i, .int j, .int c] => if c ≠ 0 ∧ c.natAbs < 1073741824 ∧ Builtin.Range.small i j c = true then some (stepsI i c (Builtin.Range.rangeSize i j c).toNat) else none
  | _ => none
def evRng (a : EvA) : EvA := fun env => bindR (a env) fun ds env1 => liftR (rngD ds) env1
theorem Reps.int1 {F : Hp} {i : Int} {vs : List V} (h : Reps C.K F [.int i] vs) : vs = [.int i] := by
  obtain ⟨v, r, rfl, h1, h2⟩ := h
  cases h1; cases h2; rfl
theorem Reps.int3 {F : Hp} {i j k : Int} {vs : List V} (h : Reps C.K F [.int i, .int j, .int k] vs) : vs = [.int i, .int j, .int k] := by
  obtain ⟨v, r, rfl, h1, v', r', rfl, h2, v'', r'', rfl, h3, h4⟩ := h
  cases h1; cases h2; cases h3; cases h4; rfl
theorem pxi_range1 {a : Expr} {ea : EvA} {p pos : Pos} (hg : Gl X "range") (hm : X.mg "range" = none) (ha : PXA X C [a] ea) (hl : ∀ env ds env', ea env = .ok ds env' → ds.length = 1) (hs : starEach [a] X.env = [(false, eval a X.env)] := by rfl) : PXI X C tg (.Call (.Name "range" p) [a] [] pos) (evRng ea) :=
  (pi_range1 hg hm ha hs).imp fun σ H R hq => by
    obtain ⟨Pr, F, env, env', ds, r, e, q⟩ := hq
    obtain ⟨as, env1, e1, e2⟩ := bindR_ok e
    obtain ⟨e3, rfl⟩ := liftR_ok e2
    refine ⟨Pr, F, env, env', as, r, e1, fun vs H1 F1 r1 s1 p1 => ?_⟩
    have := hl _ _ _ e1
    unfold rngD at e3
    split at e3
    · split at e3
      · rename_i hf
        cases e3
        have hb := rngFits_ok hf
        exact ⟨_, p1.int1, hb.1, hb.2, q _ H1 F1 r1 s1 yields_rng⟩
      · cases e3
    · simp at this
    · simp at this
    · cases e3
theorem pxi_range3 {a b c : Expr} {ea : EvA} {p pos : Pos} (hg : Gl X "range") (hm : X.mg "range" = none) (ha : PXA X C [a, b, c] ea) (hl : ∀ env ds env', ea env = .ok ds env' → ds.length = 3) (hs : starEach [a, b, c] X.env = [(false, eval a X.env), (false, eval b X.env), (false, eval c X.env)] := by rfl) (hs2 : starEach [b, c] X.env = [(false, eval b X.env), (false, eval c X.env)] := by rfl) : PXI X C tg (.Call (.Name "range" p) [a, b, c] [] pos) (evRng ea) :=
  (pi_range3 hg hm ha hs hs2).imp fun σ H R hq => by
    obtain ⟨Pr, F, env, env', ds, r, e, q⟩ := hq
    obtain ⟨as, env1, e1, e2⟩ := bindR_ok e
    obtain ⟨e3, rfl⟩ := liftR_ok e2
    refine ⟨Pr, F, env, env', as, r, e1, fun vs H1 F1 r1 s1 p1 => ?_⟩
    have := hl _ _ _ e1
    unfold rngD at e3
    split at e3
    · simp at this
    · simp at this
    · split at e3
      · rename_i hf
        cases e3
        exact ⟨_, _, _, p1.int3, hf.1, hf.2.1, hf.2.2, q _ H1 F1 r1 s1 yields_rng3⟩
      · cases e3
    · cases e3
theorem evNil_len (env : Env) (ds : List D) (env' : Env) (h : evNil env = .ok ds env') : ds.length = 0 := by cases h; rfl
theorem evCons_len {a : Ev} {r : EvA} {n : Nat} (hr : ∀ env ds env', r env = .ok ds env' → ds.length = n) (env : Env) (ds : List D) (env' : Env) (h : evCons a r env = .ok ds env') : ds.length = n + 1 := by
  obtain ⟨d, env1, e1, e2⟩ := bindR_ok h
  obtain ⟨ds2, env2, e3, e4⟩ := bindR_ok e2
  cases e4
  rw [List.length_cons, hr _ _ _ e3]
end
end Ev
namespace Ev
open PySem PySem.Spec PyProof.Rows L2
section
variable {X : Cx} {C : Cfg} {pos : Pos}
theorem Reps.atI {F : Hp} {K : Fg} {ds : List D} {vs : List V} {k : Int} {d : D} (h : Reps K F ds vs) (e : L2.atI ds k = some d) : ∃ v, L2.atI vs k = some v ∧ Rep K F d v := by
  unfold L2.atI at e ⊢
  rw [h.length]
  obtain ⟨j, h1, h2⟩ := Option.bind_eq_some_iff.mp e
  obtain ⟨v, h3, h4⟩ := h.get h2
  exact ⟨v, by rw [h1]; exact h3, h4⟩
def gIx : D → D → Option D
  | .lst xs, .int k => atI xs k
  | .arr xs, .int k => atI xs k
  | .tup xs, .int k => atI xs k
  | .str x, .int k => (atI x k).map fun c => .str [c]
  | _, _ => none
theorem od_ix : OpD C (rIx C.K) gIx := by
  intro Pr F env σ H x y d vx vy Q r px py e q
  unfold gIx at e
  split at e
  · obtain ⟨z, a, vs, rfl, h1, h2⟩ := px.lst r.fr
    cases py.int
    obtain ⟨v, e1, p1⟩ := h2.atI e
    exact .inl ⟨a, vs, _, v, rfl, rfl, SqL.of h1, e1, q _ _ F r (Same.refl F) p1⟩
  · obtain ⟨z, a, vs, rfl, h1, h2⟩ := px.arr r.fr
    cases py.int
    obtain ⟨v, e1, p1⟩ := h2.atI e
    exact .inl ⟨a, vs, _, v, rfl, rfl, h1, e1, q _ _ F r (Same.refl F) p1⟩
  · obtain ⟨z, a, vs, rfl, h1, _, h2⟩ := px.tup r.fr
    cases py.int
    obtain ⟨v, e1, p1⟩ := h2.atI e
    exact .inr (.inl ⟨a, vs, _, v, rfl, rfl, h1, e1, q _ _ F r (Same.refl F) p1⟩)
  · obtain ⟨rfl, z⟩ := px.str
    cases py.int
    obtain ⟨c, e1, rfl⟩ := Option.map_eq_some_iff.mp e
    exact .inr (.inr ⟨_, _, c, rfl, rfl, by simpa [strOf, Str.length] using z, by simpa [strOf] using e1, q _ _ F r (Same.refl F) ⟨rfl, by show 1 ≤ sizeLine; decide⟩⟩)
  · cases e
theorem px_ix {x y : Expr} {a b : Ev} (hK : X.K = C.K) (ha : PX X C x a) (hb : PXB X C y b) (hs : PlainIx y := by intro _ _; rfl) : PX X C (.Subscript x y pos) (evBin gIx a b) := by
  have h := (pe_ix (pos := pos) ix_seq ha hb hs)
  rw [hK] at h
  exact h.imp (bin_go od_ix)
theorem px_ixO {y : Expr} {b : Ev} {px : Pos} (i : Nat) {x : Str} (hK : X.K = C.K) (hN : X.N[i]? = some x) (hv : Vis X.env.scope x) (hb : PXB X C y b) (hs : PlainIx y := by intro _ _; rfl)
    (hd : (x == ("__debug__" : Str)) = false := by decide) (hcd : (x == ("__classdict__" : Str)) = false := by decide) : PX X C (.Subscript (.Name x px) y pos) (evBinO gIx i b) := by
  have h := (pe_ix (pos := pos) ix_seq (pe_var (pos := px) hN hv hd hcd) hb hs)
  rw [hK] at h
  exact h.imp (binO_go od_ix)
def cutD {α : Type} (xs : List α) (lo hi : Option Int) : List α := (xs.drop (HT.sIx xs.length 0 lo)).take (HT.sIx xs.length xs.length hi - HT.sIx xs.length 0 lo)
theorem cutD_len {α : Type} (xs : List α) (lo hi : Option Int) : (cutD xs lo hi).length ≤ xs.length := by
  unfold cutD
  rw [List.length_take, List.length_drop]
  omega
theorem Reps.cut {F : Hp} {K : Fg} {ds : List D} {vs : List V} (h : Reps K F ds vs) (lo hi : Option Int) : Reps K F (cutD ds lo hi) (cutV vs lo hi) := by
  unfold cutD cutV
  rw [h.length]
  exact Reps.take _ (Reps.drop _ h)
abbrev EvP := Env → R (Option Int)
def tP (C : Cfg) (ev : EvP) : TO := fun σ H Q => ∃ (Pr F : Hp) (env env' : Env) (o : Option Int), Rel C Pr F env σ H ∧ ev env = .ok o env' ∧ ∀ H' F', Rel C Pr F' env' σ H' → Same F F' → Q o H'
def PXP (X : Cx) (C : Cfg) (e : Option Expr) (ev : EvP) : Prop := PO X e (tP C ev)
theorem _root_.L2.PO.imp {X : Cx} {e : Option Expr} {t t' : TO} (h : PO X e t) (i : ∀ σ H Q, t' σ H Q → t σ H Q) : PO X e t' := fun pins s σ H Q I q => h pins s σ H Q I (i σ H Q q)
def evNoP : EvP := fun env => .ok none env
def evP (a : Ev) : EvP := fun env => bindR (a env) fun d env1 => match d with
  | .int i => .ok (some i) env1
  | _ => .stuck
theorem pxp_none : PXP X C none evNoP := po_none.imp fun σ H Q h => by
  obtain ⟨Pr, F, env, env', d, r, e, q⟩ := h
  cases e
  exact q H F r (Same.refl F)
theorem pxp_some {e : Expr} {a : Ev} (h : PX X C e a) : PXP X C (some e) (evP a) := (po_some h).imp fun σ H Q hq => by
  obtain ⟨Pr, F, env, env', o, r, e, q⟩ := hq
  obtain ⟨d, env1, e1, e2⟩ := bindR_ok e
  refine ⟨Pr, F, env, env1, d, r, e1, fun v H1 F1 r1 s1 p1 => ?_⟩
  cases d with
  | int i => cases e2; exact ⟨i, p1, q H1 F1 r1 s1⟩
  | _ => cases e2
def gSl : D → Option Int → Option Int → Option D
  | .lst xs, lo, hi => some (.lst (cutD xs lo hi))
  | .arr xs, lo, hi => some (.lst (cutD xs lo hi))
  | .tup xs, lo, hi => if HT.sIx xs.length 0 lo = 0 ∧ HT.sIx xs.length xs.length hi = xs.length then none else some (.tup (cutD xs lo hi))
  | _, _, _ => none
def evSl (a : Ev) (lo hi : EvP) : Ev := fun env => bindR (a env) fun d env1 => bindR (lo env1) fun l env2 => bindR (hi env2) fun u env3 => liftR (gSl d l u) env3
theorem sl_go {Pr F : Hp} {env : Env} {σ : L2.St} {H : Hp} {x d : D} {v : V} {lo hi : Option Int} {Q : VK} (r : Rel C Pr F env σ H) (p : BRep C.K F H x v) (e : gSl x lo hi = some d) (q : ∀ v H' F', Rel C Pr F' env σ H' → Same F F' → Rep C.K F' d v → Q v H') :
    rSlL C.K v lo hi H Q ∨ rSlT C.K v lo hi H Q := by
  unfold gSl at e
  split at e
  · cases e
    obtain ⟨z, a, vs, rfl, h1, h2⟩ := p.lst r.fr
    refine .inl ⟨a, vs, rfl, SqL.of h1, fun b hb => ?_⟩
    obtain ⟨r2, s2⟩ := r.new (o := .lst (cutV vs lo hi)) hb
    exact q _ _ _ r2 s2 ⟨Nat.le_trans (cutD_len _ _ _) z, b, _, rfl, upd_same, Reps.mono s2 _ _ (h2.cut lo hi)⟩
  · cases e
    obtain ⟨z, a, vs, rfl, h1, h2⟩ := p.arr r.fr
    refine .inl ⟨a, vs, rfl, h1, fun b hb => ?_⟩
    obtain ⟨r2, s2⟩ := r.new (o := .lst (cutV vs lo hi)) hb
    exact q _ _ _ r2 s2 ⟨Nat.le_trans (cutD_len _ _ _) z, b, _, rfl, upd_same, Reps.mono s2 _ _ (h2.cut lo hi)⟩
  · obtain ⟨z, a, vs, rfl, h1, _, h2⟩ := p.tup r.fr
    split at e
    · cases e
    · rename_i hn
      cases e
      refine .inr ⟨a, vs, rfl, h1, by rw [h2.length]; exact hn, fun b hb => ?_⟩
      obtain ⟨r2, s2⟩ := r.new (o := .tup (cutV vs lo hi)) hb
      exact q _ _ _ r2 s2 ⟨Nat.le_trans (cutD_len _ _ _) z, b, _, rfl, SqT.of upd_same, Reps.mono s2 _ _ (h2.cut lo hi)⟩
  · cases e
theorem px_sl {x : Expr} {lo hi : Option Expr} {a : Ev} {el eh : EvP} {p2 : Pos} (hK : X.K = C.K) (ha : PX X C x a) (hl : PXP X C lo el) (hh : PXP X C hi eh) : PX X C (.Subscript x (.Slice lo hi none p2) pos) (evSl a el eh) := by
  have h := pe_slice (pos := pos) (p2 := p2) (SlR.or sl_list sl_tup) ha hl hh
  rw [hK] at h
  refine h.imp fun σ H Q hq => ?_
  obtain ⟨Pr, F, env, env', d, r, e, q⟩ := hq
  obtain ⟨x, env1, e1, e2⟩ := bindR_ok e
  obtain ⟨l, env2, e3, e4⟩ := bindR_ok e2
  obtain ⟨u, env3, e5, e6⟩ := bindR_ok e4
  obtain ⟨e7, rfl⟩ := liftR_ok e6
  refine ⟨Pr, F, env, env1, x, r, e1, fun v H1 F1 r1 s1 p1 => ⟨Pr, F1, env1, env2, l, r1, e3, fun H2 F2 r2 s2 => ⟨Pr, F2, env2, env', u, r2, e5, fun H3 F3 r3 s3 => ?_⟩⟩⟩
  exact sl_go r3 (.inl (Rep.mono (s2.trans s3) _ _ p1)) e7 fun v H' F' r' s' p' => q v H' F' r' (((s1.trans s2).trans s3).trans s') p'
def valD (kvs : List (D × D)) (q : Key) : Option D := match kvs with
  | [] => none
  | (k, d) :: r => if keyD k = some q then some d else valD r q
def setD (kvs : List (D × D)) (q : Key) (d : D) : List (D × D) := match kvs with
  | [] => []
  | (k, e) :: r => (if keyD k = some q then (k, d) else (k, e)) :: setD r q d
def putD (kvs : List (D × D)) (k : D) (q : Key) (d : D) : List (D × D) := if (valD kvs q).isSome then setD kvs q d else kvs ++ [(k, d)]
theorem RepKs.length {K : Fg} {F : Hp} : ∀ {ds : List (D × D)} {vs : List (Key × V)}, RepKs K F ds vs → vs.length = ds.length
  | [], _, h => by cases h; rfl
  | (k, d) :: ds, vs, h => by
    obtain ⟨q, v, r, rfl, _, _, h2⟩ := h
    rw [List.length_cons, List.length_cons, h2.length]
theorem RepKs.val {K : Fg} {F : Hp} (q : Key) : ∀ {ds : List (D × D)} {vs : List (Key × V)}, RepKs K F ds vs → (valD ds q = none ∧ valV vs q = none) ∨ ∃ d v, valD ds q = some d ∧ valV vs q = some v ∧ Rep K F d v
  | [], _, h => by cases h; exact .inl ⟨rfl, rfl⟩
  | (k, d) :: ds, vs, h => by
    obtain ⟨q', v, r, rfl, hk, h1, h2⟩ := h
    unfold valD
    by_cases e : q' = q
    · subst e
      rw [if_pos hk]
      exact .inr ⟨d, v, rfl, valV_pos rfl, h1⟩
    · rw [if_neg (fun z => e (Option.some.inj (hk.symm.trans z))), valV_neg (p := (q', v)) e]
      exact RepKs.val q h2
theorem RepKs.set {K : Fg} {F : Hp} (q : Key) {d : D} {v : V} (hd : Rep K F d v) : ∀ {ds : List (D × D)} {vs : List (Key × V)}, RepKs K F ds vs → RepKs K F (setD ds q d) (vs.map fun kv => if kv.1 = q then (kv.1, v) else kv)
  | [], _, h => by cases h; exact rfl
  | (k, e) :: ds, vs, h => by
    obtain ⟨q', u, r, rfl, hk, h1, h2⟩ := h
    unfold setD
    by_cases e' : q' = q
    · subst e'
      rw [if_pos hk]
      refine ⟨q', v, _, ?_, hk, hd, RepKs.set q' hd h2⟩
      rw [List.map_cons, if_pos rfl]
    · rw [if_neg (fun z => e' (Option.some.inj (hk.symm.trans z)))]
      refine ⟨q', u, _, ?_, hk, h1, RepKs.set q hd h2⟩
      rw [List.map_cons, if_neg e']
theorem RepKs.append {K : Fg} {F : Hp} : ∀ {ds es : List (D × D)} {vs ws : List (Key × V)}, RepKs K F ds vs → RepKs K F es ws → RepKs K F (ds ++ es) (vs ++ ws)
  | [], es, vs, ws, h, g => by cases h; exact g
  | (k, d) :: ds, es, vs, ws, h, g => by
    obtain ⟨q, v, r, rfl, h0, h1, h2⟩ := h
    exact ⟨q, v, r ++ ws, rfl, h0, h1, RepKs.append h2 g⟩
theorem setD_len (q : Key) (d : D) : ∀ kvs : List (D × D), (setD kvs q d).length = kvs.length
  | [] => rfl
  | (k, e) :: r => by unfold setD; rw [List.length_cons, List.length_cons, setD_len q d r]
theorem putD_len (kvs : List (D × D)) (k : D) (q : Key) (d : D) : (putD kvs k q d).length ≤ kvs.length + 1 := by
  unfold putD
  split
  · rw [setD_len]; omega
  · rw [List.length_append]; exact Nat.le_refl _
theorem RepKs.put {K : Fg} {F : Hp} {ds : List (D × D)} {vs : List (Key × V)} {k : D} {q : Key} {d : D} {v : V} (h : RepKs K F ds vs) (hk : keyD k = some q) (hd : Rep K F d v) : RepKs K F (putD ds k q d) (putK vs q v) := by
  unfold putD putK
  rw [valV_any]
  rcases h.val q with ⟨e1, e2⟩ | ⟨d', v', e1, e2, _⟩
  · rw [e1, e2]
    exact h.append ⟨q, v, [], rfl, hk, hd, rfl⟩
  · rw [e1, e2]
    exact RepKs.set q hd h
theorem keyD_V {K : Fg} {F : Hp} {k : D} {q : Key} {v : V} (h : keyD k = some q) (p : Rep K F k v) : v = kV q := by
  cases k with
  | int i => cases h; exact p
  | str x => cases h; exact p.1
  | _ => cases h
theorem keyD_B {K : Fg} {F H : Hp} {k : D} {q : Key} {v : V} (h : keyD k = some q) (p : BRep K F H k v) : v = kV q := by
  cases k with
  | int i => cases h; exact p.int
  | str x => cases h; exact p.str.1
  | _ => cases h
theorem BRep.dct {K : Fg} {F H : Hp} {kvs : List (D × D)} {v : V} (s : Same F H) (h : BRep K F H (.dct kvs) v) : kvs.length ≤ sizeLine ∧ ∃ a ks, v = .ref a ∧ Rd H a (.dK ks) ∧ RepKs K F kvs ks := by
  rcases h with ⟨z, a, vs, rfl, h1, h2⟩ | ⟨a, rfl, z, vs, h1, h2⟩
  · exact ⟨z, a, vs, rfl, Same.rd s h1, h2⟩
  · exact ⟨z, a, vs, rfl, .inl h1, h2⟩
def rDget : R2 := fun x y H Q => ∃ a v, x = .ref a ∧ DGet H a y (some v) ∧ Q v H
def gDget : D → D → Option D
  | .dct kvs, k => (keyD k).bind fun q => valD kvs q
  | _, _ => none
theorem od_dget : OpD C rDget gDget := by
  intro Pr F env σ H x y d vx vy Q r px py e q
  unfold gDget at e
  split at e
  · obtain ⟨z, a, ks, rfl, h1, h2⟩ := px.dct r.fr
    obtain ⟨k, hk, hv⟩ := Option.bind_eq_some_iff.mp e
    cases keyD_B hk py
    rcases h2.val k with ⟨e1, _⟩ | ⟨d', v', e1, e2, p2⟩
    · rw [e1] at hv; cases hv
    · rw [e1] at hv; cases hv
      exact ⟨a, v', rfl, .inl ⟨ks, k, h1, rfl, e2.symm⟩, q _ _ F r (Same.refl F) p2⟩
  · cases e
theorem px_dgetO {y : Expr} {b : Ev} {px : Pos} (i : Nat) {x : Str} (hu : X.A.units + 1 < cLine) (hN : X.N[i]? = some x) (hv : Vis X.env.scope x) (hb : PXB X C y b) (hs : NoSl y := by intro _ _; rfl)
    (hd : (x == ("__debug__" : Str)) = false := by decide) (hcd : (x == ("__classdict__" : Str)) = false := by decide) : PX X C (.Subscript (.Name x px) y pos) (evBinO gDget i b) := by
  have h : PE X (.Subscript (.Name x px) y pos) (tOp rDget _ _) := pe_dget (pos := pos) hu (pe_var (pos := px) hN hv hd hcd) hb hs
  exact h.imp (binO_go od_dget)
def evDnew : Ev := fun env => .ok (.dct []) env
theorem pxn_dnew : PXN X C (.Dict [] [] pos) evDnew := pe_dnewK.imp fun σ H Q hq => by
  obtain ⟨Pr, F, env, env', d, r, e, q⟩ := hq
  cases e
  exact fun p hp => q _ _ F (r.fresh hp) (Same.refl F) (New.of r hp ⟨Nat.zero_le _, [], upd_same, rfl⟩)
def stDput (i : Nat) (k a : Ev) : EvS := fun env => bindO (a env) fun d env1 => match env1[i]? with
  | some (some (_, _)) => bindO (k env1) fun kd env2 => (match env2[i]?, keyD kd with
    | some (some (true, .dct kvs)), some q => if kvs.length < sizeLine then .nx (env2.set i (some (true, .dct (putD kvs kd q d)))) else .stuck
    | _, _ => .stuck)
  | _ => .stuck
theorem pxs_dput {i : Nat} {x : Str} {k e : Expr} {ek a : Ev} {px pos' : Pos} (hu : X.A.units + 1 < cLine) (hN : X.N[i]? = some x) (hv : Vis X.env.scope x) (hk : PX X C k ek) (he : PX X C e a)
    (hs : swapsWith e (some (.Subscript (.Name x px) k pos')) pos.line X.env = pure false := by rfl)
    (hd : (x == ("__debug__" : Str)) = false := by decide) (hcd : (x == ("__classdict__" : Str)) = false := by decide) : PXS X C (.Assign [.Subscript (.Name x px) k pos'] e pos) (stDput i ek a) :=
  (ps_dput hu (pe_var hN hv hd hcd) hk he hs).imp fun D σ H h => by
    obtain ⟨Pr, F, env, r, f⟩ := h
    obtain ⟨d, env1, e1, f1⟩ := bindO_fin f
    refine ⟨Pr, F, env, env1, d, r, e1, fun v H1 F1 r1 s1 p1 => ?_⟩
    split at f1
    · rename_i o0 d0 h0
      obtain ⟨v0, hv0, _⟩ := r1.rd h0
      obtain ⟨kd, env2, e2, f2⟩ := bindO_fin f1
      refine ⟨v0, hv0, Pr, F1, env1, env2, kd, r1, e2, fun vk H2 F2 r2 s2 p2 => ?_⟩
      split at f2
      · rename_i kvs q h2 hq
        split at f2
        · rename_i hz
          obtain ⟨b, g1, ⟨z, ks, g2, g3⟩, g4, g5⟩ := r2.own i _ h2
          rw [hv0] at g1; cases g1
          have hz' : ks.length < sizeLine := by rw [g3.length]; exact hz
          cases keyD_V hq p2
          refine ⟨b, _, rfl, DPut.k g2 hz', ?_⟩
          refine f2 σ _ F2 (r2.write h2 hv0 ⟨Nat.le_trans (putD_len _ _ _ _) hz, _, upd_same, g3.put hq (Rep.mono s2 _ _ p1)⟩) (s1.trans s2)
        · exact f2.elim
      · exact f2.elim
    · exact f1.elim
def insX (x : List Nat) : List (List Nat) → List (List Nat)
  | [] => [x]
  | y :: r => if y < x then y :: insX x r else x :: y :: r
def sortX : List (List Nat) → List (List Nat)
  | [] => []
  | x :: r => insX x (sortX r)
theorem insX_perm (x : List Nat) : ∀ l, (insX x l).Perm (x :: l)
  | [] => .refl _
  | y :: r => by
    unfold insX
    split
    · exact ((insX_perm x r).cons y).trans (.swap x y r)
    · exact .refl _
theorem sortX_perm : ∀ l, (sortX l).Perm l
  | [] => .refl _
  | x :: r => (insX_perm x (sortX r)).trans ((sortX_perm r).cons x)
theorem insX_sorted (x : List Nat) : ∀ l, l.Pairwise (fun a b => a ≤ b) → (insX x l).Pairwise (fun a b => a ≤ b)
  | [], _ => List.pairwise_singleton _ _
  | y :: r, h => by
    unfold insX
    have h1 := List.pairwise_cons.mp h
    split
    · rename_i hyx
      refine List.pairwise_cons.mpr ⟨fun z hz => ?_, insX_sorted x r h1.2⟩
      rcases List.mem_cons.mp ((insX_perm x r).mem_iff.mp hz) with rfl | hz
      · exact List.le_of_lt hyx
      · exact h1.1 z hz
    · rename_i hyx
      have hxy : x ≤ y := List.not_lt.mp hyx
      refine List.pairwise_cons.mpr ⟨fun z hz => ?_, h⟩
      rcases List.mem_cons.mp hz with rfl | hz
      · exact hxy
      · exact List.le_trans hxy (h1.1 z hz)
theorem sortX_sorted : ∀ l, (sortX l).Pairwise (fun a b => a ≤ b)
  | [] => .nil
  | x :: r => insX_sorted x _ (sortX_sorted r)
theorem rising_pw : ∀ (p : Str) (l : List Str), risingS p l = true → (p :: l).Pairwise (fun a b => a.cps.toList ≤ b.cps.toList)
  | p, [], _ => List.pairwise_singleton _ _
  | p, x :: r, h => by
    have h' : (!Spec.ltCps x.cps.toList p.cps.toList && risingS x r) = true := h
    rw [Bool.and_eq_true, PyProof.Rows.ltCps_eq] at h'
    have hxp : ¬ x.cps.toList < p.cps.toList := by
      have := h'.1
      simpa using this
    have ih := rising_pw x r h'.2
    refine List.pairwise_cons.mpr ⟨fun z hz => ?_, ih⟩
    have hpx : p.cps.toList ≤ x.cps.toList := List.not_lt.mp hxp
    rcases List.mem_cons.mp hz with rfl | hz
    · exact hpx
    · exact List.le_trans hpx ((List.pairwise_cons.mp ih).1 z hz)
theorem sorted_pw : ∀ (l : List Str), sortedS l = true → l.Pairwise (fun a b => a.cps.toList ≤ b.cps.toList)
  | [], _ => .nil
  | x :: r, h => rising_pw x r h
theorem strOf_cps (s : Str) : strOf s.cps.toList = s := by
  obtain ⟨c⟩ := s
  simp [strOf]
theorem sortX_unique {xs : List (List Nat)} {ss ss' : List Str} (e : ss = xs.map strOf) (hp : ss'.Perm ss) (hs : sortedS ss' = true) : ss' = (sortX xs).map strOf := by
  subst e
  have h1 : (ss'.map fun s => s.cps.toList).Perm xs := by
    have := hp.map (fun s : Str => s.cps.toList)
    rw [List.map_map] at this
    have e2 : xs.map ((fun s : Str => s.cps.toList) ∘ strOf) = xs := by
      rw [List.map_congr_left (g := id) (fun x _ => by simp [strOf])]; simp
    rwa [e2] at this
  have h2 : (ss'.map fun s => s.cps.toList) = sortX xs := by
    refine List.Perm.eq_of_pairwise (le := fun a b => a ≤ b) (fun a b _ _ => List.le_antisymm) ?_ (sortX_sorted xs) (h1.trans (sortX_perm xs).symm)
    exact List.pairwise_map.mpr (sorted_pw ss' hs)
  rw [← h2, List.map_map]
  have e3 : ∀ l : List Str, l.map (strOf ∘ fun s => s.cps.toList) = l := fun l => by
    induction l with
    | nil => rfl
    | cons a r ih => rw [List.map_cons, ih]; show strOf a.cps.toList :: r = a :: r; rw [strOf_cps]
  exact (e3 ss').symm
theorem vals_of_strs : ∀ {us : List Value} {ss : List Str}, StrsAre us ss → Vals (ss.map V.str) us
  | _, _, .nil => .nil
  | _, _, .cons y t h => .cons ⟨t, rfl⟩ (vals_of_strs h)
theorem reps_of_strs {K : Fg} {F : Hp} : ∀ (xs : List (List Nat)), (∀ x ∈ xs, x.length ≤ sizeLine) → Reps K F (xs.map D.str) (xs.map fun z => V.str (strOf z))
  | [], _ => rfl
  | x :: xs, h => ⟨_, _, rfl, ⟨rfl, h x (List.mem_cons_self ..)⟩, reps_of_strs xs fun y hy => h y (List.mem_cons_of_mem _ hy)⟩
def rSorted (K : Fg) : List V → Hp → VK → Prop := fun xs H Q => ∃ p zs, xs = [.ref p] ∧ (SqL K H p (zs.map fun z => V.str (strOf z)) ∨ ∃ ks, Rd H p (.dK ks) ∧ ks.map (·.1) = zs.map fun z => Sum.inr (strOf z)) ∧ zs.length < 64 ∧ ∀ l, H l = none → Q (.ref l) (upd H l (.lst ((sortX zs).map fun z => V.str (strOf z))))
theorem sort_fin {pins : List (Addr × Obj)} {s : Shared} {σ : L2.St} {H : Hp} {Q : VK} {zs : List (List Nat)} {out : Array Value} {ss' : List Str} {a : Addr} {e : Nat} {h' : Heap} {tk : Nat} (I : Inv X pins σ H s) (hz : zs.length < 64) (q : ∀ l, H l = none → Q (.ref l) (upd H l (.lst ((sortX zs).map fun z => V.str (strOf z)))))
    (a1 : StrsAre out.toList ss') (a2 : ss'.Perm (zs.map strOf)) (a3 : sortedS ss' = true) (hk : ∀ b o, s.heap.get? b = some o → h'.get? b = some o) (ha : s.heap.objs.size ≤ a) (ho : h'.get? a = some (seqObj "list" out e)) : EP X pins σ Q (.ref a) { s with heap := h', toks := tk } := by
  have e1 := sortX_unique rfl a2 a3
  subst e1
  have rv := vals_of_strs a1
  rw [List.map_map] at rv
  have hl : ((sortX zs).map fun z => V.str (strOf z)).length ≤ sizeLine := by
    rw [List.length_map, (sortX_perm zs).length_eq]
    exact Nat.le_trans (Nat.le_of_lt hz) (by decide)
  exact ⟨.ref a, _, I.laid (t' := tk) hk ha (show ObjOk X.prog X.w _ h' a (.lst ((sortX zs).map fun z => V.str (strOf z))) from ⟨hl, out.toList, e, rv, by simpa [seqObj] using ho⟩), rfl, q a (I.hok.fresh ha)⟩
theorem call_sorted (hc : X.calm = true) : CallR X (.builtin "sorted") (rSorted X.K) := by
  intro pins s σ H xs us Q I r h
  obtain ⟨p, zs, rfl, hq, hz, q⟩ := h
  obtain ⟨u, rfl, rx⟩ := vals1 r
  cases rx
  rcases hq with hq | ⟨ks, hq, hks⟩
  · obtain ⟨its, r', pl, hzz⟩ := I.list hq
    have hS : StrsAre its (zs.map strOf) := vals_strs r'
    refine sorted_strs pl.isList hS (by rw [← r'.length, List.length_map]; exact hz) fun out ss' a1 a2 a3 => ?_
    obtain ⟨e, he⟩ := sortedAll_at s.heap its out
    exact sort_fin (tk := s.toks) I hz q a1 a2 a3 (fun b o e => sortedAll_old e) (Nat.le_succ _) he
  · obtain ⟨hz2, hsys, vs, rkv, hD⟩ := dk_rd I.hok hq
    obtain ⟨ep, hat⟩ := hD.dictAt
    have hlen : vs.length = zs.length := by
      have e1 := rkv.length
      have e2 := congrArg List.length hks
      rw [List.length_map, List.length_map] at e2
      omega
    refine Calls.call_function_entry kind_sorted plain_sorted entry_sorted (args_sorted1 _) ?_
    unfold Builtin.«sorted»
    refine wpAny_bind (m := checkCount "sorted" 1 1 _) (wpAny_pure ?_)
    refine wpAny_bind (PySem.W.kdu_collect (A := X.A.in1) (PySem.W.kdl_dict (knd := mixKind X.prog X.w) (kvs := vs) (ep := ep) hsys) (I.ok.hd hc) hat (by rw [hlen]; exact Nat.le_trans (Nat.le_of_lt hz) (by decide)) fun h' tk acc hk hacc => ?_)
    have hl : acc.toList.length = vs.length := by rw [Array.length_toList]; exact hacc.1
    have hS : StrsAre acc.toList (zs.map strOf) := by
      have keys : ∀ j : Nat, j < vs.length → ∃ v t, acc.toList[j]? = some v ∧ v = Value.str (strOf (zs.getD j [])) t := fun j hj => by
        have hja : j < acc.size := by rw [hacc.1]; exact hj
        have e1 : acc[j]? = some acc[j] := by simp [hja]
        obtain ⟨k, x, hx, hkx⟩ := hacc.2 j _ e1
        have e2 : (vs.map (·.1))[j]? = some k := by rw [List.getElem?_map, hx]; rfl
        rw [← rkv.keys, hks, List.getElem?_map] at e2
        obtain ⟨z, hzj, rfl⟩ := Option.map_eq_some_iff.mp e2
        rcases keyIs_shape (k := Sum.inr (strOf z)) (v := acc[j]) hkx with ⟨i, t, z1, _⟩ | ⟨y, t, z1, z2⟩
        · cases z1
        · cases z1
          exact ⟨_, t, by rw [Array.getElem?_toList]; exact e1, by rw [z2, List.getD_eq_getElem?_getD, hzj]; rfl⟩
      have build : ∀ (us : List Value) (ys : List (List Nat)), us.length = ys.length → (∀ j : Nat, j < us.length → ∃ v t, us[j]? = some v ∧ v = Value.str (strOf (ys.getD j [])) t) → StrsAre us (ys.map strOf) := fun us => by
        induction us with
        | nil => intro ys hl _; cases ys with
          | nil => exact .nil
          | cons _ _ => cases hl
        | cons u us ih => intro ys hl hk; cases ys with
          | nil => cases hl
          | cons y ys =>
            obtain ⟨v, t, e1, e2⟩ := hk 0 (Nat.succ_pos _)
            cases e1
            rw [e2]
            exact .cons _ t (ih ys (by simpa using hl) fun j hj => by
              obtain ⟨v, t, e1, e2⟩ := hk (j + 1) (by simpa using hj)
              exact ⟨v, t, by simpa using e1, by simpa using e2⟩)
      exact build _ _ (by rw [hl, hlen]) fun j hj => keys j (by rw [← hl]; exact hj)
    refine wpAny_bind (wpAny_newList ?_ (by rw [hl, hlen]; exact Nat.le_trans (Nat.le_of_lt hz) (by decide)))
    have hoL : (h'.push (seqObj "list" acc.toList.toArray 0)).get? h'.objs.size = some (seqObj "list" acc.toList.toArray 0) := Heap.get?_push_size _ rfl
    show wpAny _ _ _ _ _ { s with heap := h'.push (seqObj "list" acc.toList.toArray 0), toks := tk }
    refine wpAny_bind (wpAny_holding (wpAny_call_entry slot_list_sort ⟨_, hoL, rfl⟩ entry_list_sort (list_sort_treeK strKind_oneLt hoL hS.keysOf (fun v₁ v₂ rest e => keyKind_strs (by rw [← e]; exact hS)) (by rw [hl, hlen]; exact hz) fun st' b1 b2 => ⟨_, rfl, ?_⟩) (args_list_sort _)))
    obtain ⟨ss', a1, a2, a3⟩ := sorted_out_str hS b1 b2
    obtain ⟨e, he⟩ := sortedHeap_at (out := (arrOf st').map (·.2)) hoL
    refine wpAny_pure ⟨_, rfl, ?_⟩
    have I1 : L2.Inv X pins σ H { s with heap := h', toks := tk } := I.kept hk
    refine sort_fin (s := { s with heap := h', toks := tk }) (tk := tk) I1 hz q a1 a2 a3 (fun b o e => ?_) (Nat.le_refl _) he
    have lt' := Heap.lt_size e
    rw [sortedHeap_old (Nat.ne_of_lt lt') (by rw [size_push']; exact Nat.lt_succ_of_lt lt')]
    exact Heap.get?_push_of_some _ e
def gSorted : List D → Option D
  | [.lst ds] => (strsD ds).bind fun zs => if zs.length < 64 ∧ (∀ z ∈ zs, z.length ≤ sizeLine) then some (.lst ((sortX zs).map .str)) else none
  | [.dct kvs] => (strsD (kvs.map (·.1))).bind fun zs => if zs.length < 64 ∧ (∀ z ∈ zs, z.length ≤ sizeLine) then some (.lst ((sortX zs).map .str)) else none
  | _ => none
theorem RepKs.keys {K : Fg} {F : Hp} : ∀ {kvs : List (D × D)} {ks : List (Key × V)} {zs : List (List Nat)}, RepKs K F kvs ks → strsD (kvs.map (·.1)) = some zs → ks.map (·.1) = zs.map fun z => Sum.inr (strOf z)
  | [], ks, zs, h, e => by cases h; simp [strsD] at e; subst e; rfl
  | (k, d) :: kvs, ks, zs, h, e => by
    obtain ⟨q, v, r, rfl, h0, h1, h2⟩ := h
    cases k with
    | str x =>
      cases h0
      have e' : (strsD (kvs.map (·.1))).map (x :: ·) = some zs := by simpa [strsD] using e
      obtain ⟨zs', e1, rfl⟩ := Option.map_eq_some_iff.mp e'
      rw [List.map_cons, List.map_cons, RepKs.keys h2 e1]
    | _ => simp [strsD] at e
theorem sorted_new {Pr F : Hp} {env : Env} {σ : L2.St} {H : Hp} {l : Addr} {zs : List (List Nat)} (r : Rel C Pr F env σ H) (hl : H l = none) (hz : zs.length < 64 ∧ ∀ z ∈ zs, z.length ≤ sizeLine) :
    OwnAt C.K F (upd H l (.lst ((sortX zs).map fun z => V.str (strOf z)))) (.lst ((sortX zs).map .str)) l := by
  refine ⟨by rw [List.length_map, (sortX_perm zs).length_eq]; exact Nat.le_trans (Nat.le_of_lt hz.1) (by decide), _, upd_same, reps_of_strs _ fun z h => hz.2 z ((sortX_perm zs).mem_iff.mp h)⟩
theorem cd_sorted : CallD C (rSorted C.K) gSorted := by
  intro Pr F env σ H ds d vs Q r p e q
  have fin : ∀ (zs : List (List Nat)) (l : Addr), (zs.length < 64 ∧ ∀ z ∈ zs, z.length ≤ sizeLine) → d = .lst ((sortX zs).map .str) → H l = none → Q (.ref l) (upd H l (.lst ((sortX zs).map fun z => V.str (strOf z)))) := fun zs l hz hd hl => by
    subst hd
    obtain ⟨F2, r2, s2, p2⟩ := (r.fresh (o := .lst ((sortX zs).map fun z => V.str (strOf z))) hl).keep (New.of r hl (sorted_new r hl hz))
    exact q _ _ F2 r2 s2 p2
  unfold gSorted at e
  split at e
  · obtain ⟨v, w, rfl, p1, p2⟩ := p
    cases p2
    obtain ⟨zs, e1, e2⟩ := Option.bind_eq_some_iff.mp e
    split at e2
    · rename_i hz
      cases e2
      obtain ⟨z, a, ws, rfl, h1, h2⟩ := p1.lst r.fr
      have e6 := reps_strs e1 h2
      subst e6
      exact ⟨a, zs, rfl, .inl (SqL.of h1), hz.1, fun l hl => fin zs l hz rfl hl⟩
    · cases e2
  · obtain ⟨v, w, rfl, p1, p2⟩ := p
    cases p2
    obtain ⟨zs, e1, e2⟩ := Option.bind_eq_some_iff.mp e
    split at e2
    · rename_i hz
      cases e2
      obtain ⟨z, a, ks, rfl, h1, h2⟩ := p1.dct r.fr
      exact ⟨a, zs, rfl, .inr ⟨ks, h1, h2.keys e1⟩, hz.1, fun l hl => fin zs l hz rfl hl⟩
    · cases e2
  · cases e
theorem px_sorted {p : Pos} {e : Expr} {a : EvA} (hK : X.K = C.K) (hc : X.calm = true) (hg : Gl X "sorted") (hm : X.mg "sorted" = none) (ha : PXAB X C [e] a) (he : starEach [e] X.env = (false, eval e X.env) :: starEach [] X.env := by rfl) (hpl : (backTo pos (starEach [] X.env)).any (·.1) = false := by rfl) :
    PX X C (.Call (.Name "sorted" p) [e] [] pos) (evCall gSorted a) :=
  px_callB (X := X) (r := rSorted C.K) (by rw [← hK]; exact call_sorted hc) cd_sorted hg hm PyProof.Rows.boot_sorted ha (by decide) (by decide) he hpl
end
end Ev
namespace Ev
open PySem PySem.Spec PyProof.Rows L2
theorem Rel.pad {C : Cfg} {Pr F : Hp} {env : Env} {σ : L2.St} {H : Hp} (m : Nat) (r : Rel C Pr F env σ H) : Rel C Pr F (env ++ List.replicate m none) (padS m σ) H := by
  have un : ∀ (j : Nat) (x : Bool × D), (env ++ List.replicate m none)[j]? = some (some x) → env[j]? = some (some x) := fun j x he => by
    by_cases hj : j < env.length
    · rwa [List.getElem?_append_left hj] at he
    · rw [List.getElem?_append_right (by omega), List.getElem?_replicate] at he
      split at he <;> cases he
  have up : ∀ (j : Nat) (v : V), σ[j]? = some (some v) → (padS m σ)[j]? = some (some v) := fun j v h => by
    unfold padS
    rw [List.getElem?_append_left (List.getElem?_eq_some_iff.mp h).1]; exact h
  have dn : ∀ (j : Nat) (v : V), (padS m σ)[j]? = some (some v) → σ[j]? = some (some v) := fun j v he => by
    unfold padS at he
    by_cases hj : j < σ.length
    · rwa [List.getElem?_append_left hj] at he
    · rw [List.getElem?_append_right (by omega), List.getElem?_replicate] at he
      split at he <;> cases he
  refine ⟨r.pr, r.fr, by unfold padS; rw [List.length_append, List.length_append, List.length_replicate, List.length_replicate, r.len], fun j e he => ?_, fun j e he => ?_, fun j k e f b hj hk g1 g2 => r.apart j k e f b (un _ _ hj) (un _ _ hk) (dn _ _ g1) (dn _ _ g2), r.dj, fun j a h => up _ _ (r.fix j a h)⟩
  · obtain ⟨v, h1, h2⟩ := r.val j e (un _ _ he)
    exact ⟨v, up _ _ h1, h2⟩
  · obtain ⟨a, h1, h2⟩ := r.own j e (un _ _ he)
    exact ⟨a, up _ _ h1, h2⟩
theorem Rel.cut {C : Cfg} {Pr F : Hp} {env : Env} {σ σ0 : L2.St} {H : Hp} (r : Rel C Pr F env σ H) (h : σ.take σ0.length = σ0) (fix : ∀ i a, C.fx i = some a → σ0[i]? = some (some (V.ref a))) : Rel C Pr F (env.take σ0.length) σ0 H := by
  have hl : σ0.length ≤ σ.length := by
    have := congrArg List.length h
    rw [List.length_take] at this
    omega
  have un : ∀ (j : Nat) (x : Bool × D), (env.take σ0.length)[j]? = some (some x) → env[j]? = some (some x) ∧ j < σ0.length := fun j x he => by
    have hj : j < σ0.length := by
      have := (List.getElem?_eq_some_iff.mp he).1
      rw [List.length_take] at this
      omega
    rw [List.getElem?_take_of_lt hj] at he
    exact ⟨he, hj⟩
  have dn : ∀ (j : Nat), j < σ0.length → σ[j]? = σ0[j]? := fun j hj => by
    have := List.getElem?_take_of_lt (l := σ) hj
    rw [h] at this
    exact this.symm
  refine ⟨r.pr, r.fr, by rw [List.length_take, r.len]; omega, fun j e he => ?_, fun j e he => ?_, fun j k e f b hj hk g1 g2 => r.apart j k e f b (un _ _ hj).1 (un _ _ hk).1 (by rw [dn _ (un _ _ hj).2]; exact g1) (by rw [dn _ (un _ _ hk).2]; exact g2), r.dj, fix⟩
  · obtain ⟨e1, e2⟩ := un _ _ he
    rw [← dn j e2]
    exact r.val j e e1
  · obtain ⟨e1, e2⟩ := un _ _ he
    rw [← dn j e2]
    exact r.own j e e1
def lcO (g : GV) (c : EvT) (e : Ev) : List D → Env → R (List D)
  | [], env => .ok [] env
  | d :: ds, env => (match g d env with
    | none => .stuck
    | some e1 => bindR (c e1) fun b e2 => if b = true then bindR (e e2) fun y e3 => bindR (lcO g c e ds e3) fun ys e4 => .ok (y :: ys) e4 else lcO g c e ds e2)
def evLC (lo n : Nat) (it : EvA) (g : GV) (c : EvT) (e : Ev) : Ev := fun env => bindR (it env) fun ds env1 => if env1.length = lo then bindR (lcO g c e ds (env1 ++ List.replicate (n - lo) none)) fun ys env2 => (if ys.length ≤ sizeLine then .ok (.lst ys) (env2.take lo) else .stuck) else .stuck
def PXIf (X : Cx) (C : Cfg) (ifs : List Expr) (ev : EvT) : Prop := PIf X ifs (tT C ev)
def evTrue : EvT := fun env => .ok true env
theorem pxif_nil {X : Cx} {C : Cfg} : PXIf X C [] evTrue := fun pins s σ H Q I h => by
  obtain ⟨Pr, F, env, env', b, r, e, q⟩ := h
  cases e
  exact pif_nil pins s σ H Q I (q H F r (Same.refl F))
theorem pxif_one {X : Cx} {C : Cfg} {c : Expr} {t : EvT} (h : PXT X C c t) : PXIf X C [c] t := pif_one h
theorem lc_go {C : Cfg} {lo n : Nat} {it : EvA} {g : GV} {c : EvT} {e : Ev} {σ : L2.St} {H : Hp} {Q : VK} (h : tN C (evLC lo n it g c e) σ H Q) : tLC n (tI C it) (tG C lo g) (tT C c) (tE C e) σ H Q := by
  obtain ⟨Pr, F, env, env', d, r, ev, q⟩ := h
  obtain ⟨ds, env1, e1, e2⟩ := bindR_ok ev
  split at e2
  · rename_i hlo
    obtain ⟨ys, env2, e3, e4⟩ := bindR_ok e2
    split at e4
    · rename_i hz
      cases e4
      refine ⟨Pr, F, env, env1, ds, r, e1, fun J H1 F1 r1 s1 y1 a ha => ?_⟩
      have hσ : σ.length = lo := r1.len.symm.trans hlo
      have hPa : Pr a = none := r1.pr.free ha
      refine ⟨fun i m σ' H' => m = ds.length - i ∧ i ≤ ds.length ∧ ∃ F' envI acc ws rest, Rel C (upd Pr a (.lst ws)) F' envI σ' H' ∧ Same F1 F' ∧ Reps C.K F' acc ws ∧ σ'.take lo = σ ∧ lcO g c e (ds.drop i) envI = .ok rest env2 ∧ acc ++ rest = ys,
        ⟨ds.length, rfl, Nat.zero_le _, F1, env1 ++ List.replicate (n - lo) none, [], [], ys, ?_, Same.refl _, rfl, ?_, e3, rfl⟩, ?_⟩
      · rw [hσ]; exact (r1.aside (o := .lst []) ha).pad _
      · unfold padS
        rw [← hσ, List.take_left]
      rintro i m σ' H' ⟨rfl, hi, F', envI, acc, ws, rest, r', s', p', t', l', hacc⟩
      have hFa : F' a = none := by
        cases ez : F' a with
        | none => rfl
        | some w => have := r'.dj a w ez; rw [upd_same] at this; cases this
      by_cases hl : i < ds.length
      · have hd : ds[i]? = some ds[i] := List.getElem?_eq_getElem hl
        have hdr : ds.drop i = ds[i] :: ds.drop (i + 1) := List.drop_eq_getElem_cons hl
        have yy := y1 i H' (s'.trans r'.fr)
        refine .inr ⟨(yy.2 _ hd).1, fun σ2 H2 => ∃ F' envI acc ws rest, Rel C (upd Pr a (.lst ws)) F' envI σ2 H2 ∧ Same F1 F' ∧ Reps C.K F' acc ws ∧ σ2.take lo = σ ∧ lcO g c e (ds.drop (i + 1)) envI = .ok rest env2 ∧ acc ++ rest = ys,
          fun σ2 H2 h2 => ⟨ds.length - (i + 1), by omega, rfl, hl, h2⟩, fun x H2 hy => ?_⟩
        obtain ⟨F2, r2, s2, p2⟩ := Yields.item r' s' y1 hd hy
        rw [hdr] at l'
        unfold lcO at l'
        cases eg : g ds[i] envI with
        | none => rw [eg] at l'; cases l'
        | some e5 =>
          rw [eg] at l'
          obtain ⟨b, e6, c1, l2⟩ := bindR_ok l'
          refine ⟨_, F2, envI, e5, ds[i], r2, p2, eg, fun σ3 H3 F3 r3 s3 t3 => ⟨_, F3, e5, e6, b, r3, c1, fun H4 F4 r4 s4 => ?_⟩⟩
          have t3' : σ3.take lo = σ := t3.trans t'
          have s24 : Same F' F4 := (s2.trans s3).trans s4
          cases b with
          | false =>
            show if false = true then _ else _
            rw [if_neg Bool.false_ne_true]
            rw [if_neg Bool.false_ne_true] at l2
            exact ⟨F4, e6, acc, ws, rest, r4, s'.trans s24, Reps.mono s24 _ _ p', t3', l2, hacc⟩
          | true =>
            show if true = true then _ else _
            rw [if_pos rfl]
            rw [if_pos rfl] at l2
            obtain ⟨y, e7, c2, l3⟩ := bindR_ok l2
            obtain ⟨ys2, e8, c3, l4⟩ := bindR_ok l3
            cases l4
            refine ⟨_, F4, e6, e7, y, r4, c2, fun v H5 F5 r5 s5 p5 => ?_⟩
            have hlen : acc.length + (ys2.length + 1) = ys.length := by rw [← hacc, List.length_append, List.length_cons]
            refine ⟨ws, r5.pr _ _ upd_same, by rw [p'.length]; omega, F5, e7, acc ++ [y], ws ++ [v], ys2, ?_, s'.trans (s24.trans s5), (Reps.mono (s24.trans s5) _ _ p').append (Reps.one p5), t3', c3, by rw [List.append_assoc]; exact hacc⟩
            have r6 := r5.turn (u := .lst (ws ++ [v])) upd_same
            rwa [upd_upd] at r6
      · have ei : i = ds.length := by omega
        subst ei
        rw [List.drop_length] at l'
        cases l'
        rw [List.append_nil] at hacc
        subst hacc
        refine .inl ⟨(y1 _ H' (s'.trans r'.fr)).1 (List.getElem?_eq_none (Nat.le_refl _)) rfl, ?_⟩
        have sP : Same Pr (upd Pr a (.lst ws)) := same_upd hPa
        have r7 : Rel C Pr F' (env2.take lo) σ H' := by
          have := (r'.less sP).cut (σ0 := σ) (by rw [hσ]; exact t') r1.fix
          rwa [hσ] at this
        refine q a H' F' r7 (s1.trans s') ⟨⟨hz, ws, r'.pr _ _ upd_same, p'⟩, hFa, hPa, fun j e he hs => ?_⟩
        have hj : j < σ.length := (List.getElem?_eq_some_iff.mp hs).1
        have he' : env2[j]? = some (some (true, e)) := by
          rw [List.getElem?_take_of_lt (by rw [← hσ]; exact hj)] at he
          exact he
        obtain ⟨b, g1, _, _, g4⟩ := r'.own j e he'
        have : σ'[j]? = some (some (V.ref a)) := by
          rw [← t', List.getElem?_take_of_lt (by rw [← hσ]; exact hj)] at hs
          exact hs
        rw [this] at g1; cases g1
        rw [upd_same] at g4; cases g4
    · cases e4
  · cases e2
section
variable {X : Cx} {C : Cfg} {pos : Pos}
theorem pxn_lc {elt tg iter : Expr} {ifs : List Expr} {scope : Scope} (N' : List Str) {it : EvA} {g : GV} {c : EvT} {e : Ev} (lo : Nat) (ok : CompOk X scope N') (hc : X.calm = true) (hi : PXI X C tg iter it)
    (bg : ∀ X', CxAt X scope N' X' → PXG X' C lo tg g) (bc : ∀ X', CxAt X scope N' X' → PXIf X' C ifs c) (be : ∀ X', CxAt X scope N' X' → PX X' C elt e)
    (hs : ∀ x, foldedSetIterable iter X.env x = pure x := by intro _; rfl) : PXN X C (.ListComp elt [⟨tg, iter, ifs, 0⟩] scope pos) (evLC lo N'.length it g c e) :=
  (pe_lc ok hc hi bg bc be hs).imp fun σ H Q h => lc_go h
theorem pxs_setLC {elt tg iter : Expr} {ifs : List Expr} {scope : Scope} (N' : List Str) {spos py : Pos} {it : EvA} {g : GV} {c : EvT} {e : Ev} (lo : Nat) {i : Nat} {y : Str} (ok : CompOk X scope N') (hc : X.calm = true) (hi : PXI X C tg iter it)
    (bg : ∀ X', CxAt X scope N' X' → PXG X' C lo tg g) (bc : ∀ X', CxAt X scope N' X' → PXIf X' C ifs c) (be : ∀ X', CxAt X scope N' X' → PX X' C elt e)
    (hN : X.N.Nodup) (hy : X.N[i]? = some y) (hx : Loc X.env.scope y) (hfx : C.fx i = none)
    (hsw : swapsWith (.ListComp elt [⟨tg, iter, ifs, 0⟩] scope pos) (some (.Name y py)) spos.line X.env = pure true)
    (hf : X.fn y = true ∨ X.env.scope.names.lookup y = some .local := by first | exact .inl rfl | exact .inr rfl | assumption)
    (hs : ∀ x, foldedSetIterable iter X.env x = pure x := by intro _; rfl) : PXS X C (.Assign [.Name y py] (.ListComp elt [⟨tg, iter, ifs, 0⟩] scope pos) spos) (stOwn i (evLC lo N'.length it g c e)) :=
  (ps_setLC ok hc hi bg bc be hN hy hx hsw hf hs).imp fun D σ H h => by
    obtain ⟨Pr, F, env, r, f⟩ := h
    obtain ⟨d, env1, e1, f1⟩ := bindO_fin f
    have : tN C (evLC lo N'.length it g c e) σ H fun v H1 => gName i v σ H1 D.nx := ⟨Pr, F, env, env1, d, r, e1, fun v H1 F1 r1 s1 p1 => f1 _ H1 F1 (r1.putOwn hfx p1) s1⟩
    exact lc_go this
end
def spP (K : Fg) (n : Nat) (f : List D → Option D) : Sp := fun vs H Q _ => ∃ (F : Hp) (ds : List D) (d : D), ds.length = n ∧ Same F H ∧ Reps K F ds vs ∧ f ds = some d ∧
  ∀ v H' F', Same H H' → Same F' H' → Same F F' → (∀ b o, F' b = some o → F b = some o ∨ H b = none) → Rep K F' d v → Q v H'
def spN (K : Fg) (n : Nat) (f : List D → Option D) : Sp := fun vs H Q _ => ∃ (F : Hp) (ds : List D) (d : D), ds.length = n ∧ Same F H ∧ Reps K F ds vs ∧ f ds = some d ∧
  ∀ a H' F', Same H H' → Same F' H' → Same F F' → (∀ b o, F' b = some o → F b = some o ∨ H b = none) → OwnAt K F' H' d a → F' a = none → H a = none → Q (.ref a) H'
def spIO (K : Fg) (n : Nat) (f : List D → Option (D × D)) : Sp := fun vs H Q _ => ∃ (F : Hp) (a : Addr) (r : List V) (x : D) (ds : List D) (d x' : D), vs = .ref a :: r ∧ ds.length + 1 = n ∧ Same F H ∧ F a = none ∧ OwnAt K F H x a ∧ Reps K F ds r ∧ f (x :: ds) = some (d, x') ∧
  ∀ v H' F', (∀ b o, b ≠ a → H b = some o → H' b = some o) → Same F' H' → Same F F' → (∀ b o, F' b = some o → F b = some o ∨ H b = none) → OwnAt K F' H' x' a → Rep K F' d v → Q v H'
theorem Rel.after {C : Cfg} {Pr F F' : Hp} {env : Env} {σ : L2.St} {H H' : Hp} (r : Rel C Pr F env σ H) (s : Same H H') (sF : Same F' H') (sF' : Same F F') (nw : ∀ b o, F' b = some o → F b = some o ∨ H b = none) : Rel C Pr F' env σ H' := by
  refine ⟨r.pr.trans s, sF, r.len, fun j e he => ?_, fun j e he => ?_, r.apart, fun b o e => ?_, r.fix⟩
  · obtain ⟨v, h1, h2⟩ := r.val j e he
    exact ⟨v, h1, Rep.mono sF' _ _ h2⟩
  · obtain ⟨a, h1, h2, h3, h4⟩ := r.own j e he
    obtain ⟨o, ho⟩ := h2.some
    refine ⟨a, h1, h2.mono sF' (by rw [ho, s _ _ ho]), ?_, h4⟩
    cases e : F' a with
    | none => rfl
    | some u =>
      rcases nw a u e with z | z
      · rw [h3] at z; cases z
      · rw [ho] at z; cases z
  · rcases nw b o e with z | z
    · exact r.dj b o z
    · exact r.pr.free z
theorem Rel.afterIO {C : Cfg} {Pr F F' : Hp} {env : Env} {σ : L2.St} {H H' : Hp} {i : Nat} {a : Addr} {d d' : D} (r : Rel C Pr F env σ H) (h : env[i]? = some (some (true, d))) (hs : σ[i]? = some (some (V.ref a))) (s : ∀ b o, b ≠ a → H b = some o → H' b = some o) (sF : Same F' H') (sF' : Same F F') (nw : ∀ b o, F' b = some o → F b = some o ∨ H b = none) (ho : OwnAt C.K F' H' d' a) : Rel C Pr F' (env.set i (some (true, d'))) σ H' := by
  obtain ⟨a', h1, h2, h3, h4⟩ := r.own i d h
  rw [hs] at h1; cases h1
  have hi : i < env.length := (List.getElem?_eq_some_iff.mp h).1
  obtain ⟨oa, hoa⟩ := h2.some
  have ne : ∀ (j : Nat) (e : D) (b : Addr), j ≠ i → env[j]? = some (some (true, e)) → σ[j]? = some (some (V.ref b)) → b ≠ a := fun j e b hj he g z => hj (r.apart j i e d a he h (by rw [← z]; exact g) hs)
  have nF : ∀ b u, F b = none → H b = some u → F' b = none := fun b u e1 e2 => by
    cases e : F' b with
    | none => rfl
    | some w =>
      rcases nw b w e with z | z
      · rw [e1] at z; cases z
      · rw [e2] at z; cases z
  refine ⟨fun b w e => ?_, sF, by rw [List.length_set]; exact r.len, fun j e he => ?_, fun j e he => ?_, fun j k e f b hj hk g1 g2 => ?_, fun b o e => ?_, r.fix⟩
  · have hb : b ≠ a := fun z => by rw [z, h4] at e; cases e
    exact s b w hb (r.pr b w e)
  · by_cases hj : j = i
    · subst hj; rw [List.getElem?_set_self hi] at he; cases he
    · rw [List.getElem?_set_ne (Ne.symm hj)] at he
      obtain ⟨v, g1, g2⟩ := r.val j e he
      exact ⟨v, g1, Rep.mono sF' _ _ g2⟩
  · by_cases hj : j = i
    · subst hj; rw [List.getElem?_set_self hi] at he; cases he; exact ⟨a, hs, ho, nF a oa h3 hoa, h4⟩
    · rw [List.getElem?_set_ne (Ne.symm hj)] at he
      obtain ⟨b, g1, g2, g3, g4⟩ := r.own j e he
      obtain ⟨ob, hob⟩ := g2.some
      exact ⟨b, g1, g2.mono sF' (by rw [hob, s b ob (ne j e b hj he g1) hob]), nF b ob g3 hob, g4⟩
  · have un : ∀ (j : Nat) (e : D), (env.set i (some (true, d')))[j]? = some (some (true, e)) → ∃ e', env[j]? = some (some (true, e')) := fun j e he => by
      by_cases hj : j = i
      · subst hj; exact ⟨d, h⟩
      · rw [List.getElem?_set_ne (Ne.symm hj)] at he; exact ⟨e, he⟩
    obtain ⟨e', hj'⟩ := un j e hj
    obtain ⟨f', hk'⟩ := un k f hk
    exact r.apart j k e' f' b hj' hk' g1 g2
  · rcases nw b o e with z | z
    · exact r.dj b o z
    · exact r.pr.free z
section
variable {X : Cx} {C : Cfg} {pos p : Pos} {k n : Nat} {f : Addr} {fd : FuncData} {ps : List Str} {x : Str} {e : Expr} {es : List Expr}
theorem evCall_len {g : List D → Option D} {a : EvA} {env env' : Env} {d : D} (h : evCall g a env = .ok d env') : ∃ ds, a env = .ok ds env' ∧ g ds = some d := by
  obtain ⟨ds, env1, e1, e2⟩ := bindR_ok h
  obtain ⟨e3, rfl⟩ := liftR_ok e2
  exact ⟨ds, e1, e3⟩
theorem px_own {g : List D → Option D} {a : EvA} (G : FnOk X.prog X.w X.K X.mg X.base CX0 k f fd ps (spP C.K n g)) (hr : Room k X.A) (hg : Gl X x) (hm : X.mg x = some (.ref f)) (hk : PySem.W.keepIn X.K (.ref f) = true) (hb : Binds X.K fd ps [])
    (ha : PXA X C (e :: es) a) (hn : ∀ env ds env', a env = .ok ds env' → ds.length = n) (hdb : (x == ("__debug__" : Str)) = false := by decide) (he : starEach (e :: es) X.env = (false, eval e X.env) :: starEach es X.env := by rfl) (hpl : (backTo pos (starEach es X.env)).any (·.1) = false := by rfl) :
    PX X C (.Call (.Name x p) (e :: es) [] pos) (evCall g a) := (pe_call G hr hg hm hk hb .nil pass0 ha hdb he hpl).imp fun σ H Q hq => by
  obtain ⟨Pr, F, env, env', d, r, e, q⟩ := hq
  obtain ⟨ds, e1, e2⟩ := evCall_len e
  refine ⟨Pr, F, env, env', ds, r, e1, fun vs H1 F1 r1 s1 p1 => ?_⟩
  show spP C.K n g (vs ++ []) H1 Q E0
  rw [List.append_nil]
  exact ⟨F1, ds, d, hn _ _ _ e1, r1.fr, p1, e2, fun v H2 F2 t1 t2 t3 t4 p2 => q v H2 F2 (r1.after t1 t2 t3 t4) (s1.trans t3) p2⟩
theorem pxn_own {g : List D → Option D} {a : EvA} (G : FnOk X.prog X.w X.K X.mg X.base CX0 k f fd ps (spN C.K n g)) (hr : Room k X.A) (hg : Gl X x) (hm : X.mg x = some (.ref f)) (hk : PySem.W.keepIn X.K (.ref f) = true) (hb : Binds X.K fd ps [])
    (ha : PXA X C (e :: es) a) (hn : ∀ env ds env', a env = .ok ds env' → ds.length = n) (hdb : (x == ("__debug__" : Str)) = false := by decide) (he : starEach (e :: es) X.env = (false, eval e X.env) :: starEach es X.env := by rfl) (hpl : (backTo pos (starEach es X.env)).any (·.1) = false := by rfl) :
    PXN X C (.Call (.Name x p) (e :: es) [] pos) (evCall g a) := (pe_call G hr hg hm hk hb .nil pass0 ha hdb he hpl).imp fun σ H Q hq => by
  obtain ⟨Pr, F, env, env', d, r, e, q⟩ := hq
  obtain ⟨ds, e1, e2⟩ := evCall_len e
  refine ⟨Pr, F, env, env', ds, r, e1, fun vs H1 F1 r1 s1 p1 => ?_⟩
  show spN C.K n g (vs ++ []) H1 Q E0
  rw [List.append_nil]
  refine ⟨F1, ds, d, hn _ _ _ e1, r1.fr, p1, e2, fun b H2 F2 t1 t2 t3 t4 ho hF hH => q b H2 F2 (r1.after t1 t2 t3 t4) (s1.trans t3) ⟨ho, hF, r1.pr.free hH, fun j e he hs => ?_⟩⟩
  obtain ⟨c, h1, h2, _⟩ := r1.own j e he
  rw [hs] at h1; cases h1
  obtain ⟨u, hu⟩ := h2.some
  rw [hH] at hu; cases hu
def evIO (f : List D → Option (D × D)) (i : Nat) (a : EvA) : Ev := fun env => match env[i]? with
  | some (some (true, _)) => bindR (a env) fun ds env1 => (match env1[i]? with
    | some (some (true, x)) => (match f (x :: ds) with
      | some (d, x') => .ok d (env1.set i (some (true, x')))
      | none => .stuck)
    | _ => .stuck)
  | _ => .stuck
theorem px_io {g : List D → Option (D × D)} {a : EvA} {i : Nat} {y : Str} {py : Pos} (hN : X.N[i]? = some y) (hv : Vis X.env.scope y) (G : FnOk X.prog X.w X.K X.mg X.base CX0 k f fd ps (spIO C.K n g)) (hr : Room k X.A) (hg : Gl X x) (hm : X.mg x = some (.ref f)) (hk : PySem.W.keepIn X.K (.ref f) = true) (hb : Binds X.K fd ps [])
    (ha : PXA X C es a) (hn : ∀ env ds env', a env = .ok ds env' → ds.length + 1 = n) (hdb : (x == ("__debug__" : Str)) = false := by decide) (he : starEach (.Name y py :: es) X.env = (false, eval (.Name y py) X.env) :: starEach es X.env := by rfl) (hpl : (backTo pos (starEach es X.env)).any (·.1) = false := by rfl)
    (hd : (y == ("__debug__" : Str)) = false := by decide) (hcd : (y == ("__classdict__" : Str)) = false := by decide) :
    PX X C (.Call (.Name x p) (.Name y py :: es) [] pos) (evIO g i a) := (pe_call G hr hg hm hk hb .nil pass0 (pa_cons (pe_var hN hv hd hcd) ha he) hdb he hpl).imp fun σ H Q hq => by
  obtain ⟨Pr, F, env, env', d, r, e, q⟩ := hq
  unfold evIO at e
  split at e
  · rename_i d0 h0
    obtain ⟨ds, env1, e1, e2⟩ := bindR_ok e
    split at e2
    · rename_i z hz
      split at e2
      · rename_i d1 z' hg
        cases e2
        obtain ⟨a0, hs0, _⟩ := r.own i _ h0
        refine ⟨_, hs0, Pr, F, env, env1, ds, r, e1, fun vs H1 F1 r1 s1 p1 => ?_⟩
        obtain ⟨a1, hs1, ho1, hF1, hP1⟩ := r1.own i _ hz
        rw [hs0] at hs1; cases hs1
        show spIO C.K n g (_ :: vs ++ []) H1 Q E0
        rw [List.append_nil]
        exact ⟨F1, a0, vs, z, ds, d, z', rfl, hn _ _ _ e1, r1.fr, hF1, ho1, p1, hg, fun v H2 F2 t1 t2 t3 t4 t5 p2 => q v H2 F2 (r1.afterIO hz hs0 t1 t2 t3 t4 t5) (s1.trans t3) p2⟩
      · cases e2
    · cases e2
  · cases e
end
def envOf (n : Nat) (ds : List D) : Env := ds.map (fun d => some (false, d)) ++ List.replicate (n - ds.length) none
def envIO (n : Nat) (x : D) (ds : List D) : Env := some (true, x) :: (ds.map (fun d => some (false, d)) ++ List.replicate (n - (ds.length + 1)) none)
def runP (n : Nat) (ev : EvS) (ds : List D) : Option D := match ev (envOf n ds) with
  | .rt false d _ => some d
  | .nx _ => some .non
  | _ => none
def runN (n : Nat) (ev : EvS) (ds : List D) : Option D := match ev (envOf n ds) with
  | .rt true d _ => some d
  | _ => none
def runIO (n : Nat) (ev : EvS) (ds : List D) : Option (D × D) := match ds with
  | [] => none
  | x :: r => (match ev (envIO n x r) with
    | .rt false d env => (match env[0]? with
      | some (some (true, x')) => some (d, x')
      | _ => none)
    | .nx env => (match env[0]? with
      | some (some (true, x')) => some (.non, x')
      | _ => none)
    | _ => none)
def C0 (K : Fg) : Cfg := ⟨K, fun _ => none⟩
def C1 (K : Fg) (a : Addr) : Cfg := ⟨K, fun i => if i = 0 then some a else none⟩
def mns (H F : Hp) : Hp := fun b => if (F b).isSome then none else H b
theorem mns_some {H F : Hp} {b : Addr} {o : HO} (h : mns H F b = some o) : H b = some o ∧ F b = none := by
  unfold mns at h
  split at h
  · cases h
  · rename_i z
    exact ⟨h, by cases e : F b with | none => rfl | some w => rw [e] at z; exact absurd rfl z⟩
theorem mns_none {H F : Hp} {b : Addr} (h : mns H F b = none) : H b = none ∨ ∃ o, F b = some o := by
  unfold mns at h
  split at h
  · rename_i z
    exact .inr (Option.isSome_iff_exists.mp z)
  · exact .inl h
theorem rel_start {K : Fg} {F H : Hp} {ds : List D} {vs : List V} {N : List Str} (s : Same F H) (p : Reps K F ds vs) : Rel (C0 K) (mns H F) F (envOf N.length ds) (start N vs) H := by
  have un : ∀ (j : Nat) (x : Bool × D), (envOf N.length ds)[j]? = some (some x) → ∃ d, x = (false, d) ∧ ds[j]? = some d := fun j x he => by
    unfold envOf at he
    by_cases hj : j < (ds.map fun d => some (false, d)).length
    · rw [List.getElem?_append_left hj, List.getElem?_map] at he
      obtain ⟨d, h1, h2⟩ := Option.map_eq_some_iff.mp he
      cases h2
      exact ⟨d, rfl, h1⟩
    · rw [List.getElem?_append_right (by omega), List.getElem?_replicate] at he
      split at he <;> cases he
  refine ⟨fun b o e => (mns_some e).1, s, ?_, fun j d he => ?_, fun j d he => ?_, fun j k d e a hj hk => ?_, fun b o e => ?_, fun i a h => by cases h⟩
  · unfold envOf L2.start
    rw [List.length_append, List.length_append, List.length_map, List.length_map, List.length_replicate, List.length_replicate, p.length]
  · obtain ⟨d', z, hd⟩ := un j _ he
    cases z
    obtain ⟨v, h1, h2⟩ := p.get hd
    refine ⟨v, ?_, h2⟩
    unfold L2.start
    rw [List.getElem?_append_left (by rw [List.length_map]; exact (List.getElem?_eq_some_iff.mp h1).1), List.getElem?_map, h1]
    rfl
  · obtain ⟨d', z, _⟩ := un j _ he; cases z
  · obtain ⟨d', z, _⟩ := un j _ hj; cases z
  · unfold mns
    rw [e]; rfl
theorem Same.of_mns {H F F' H' : Hp} (s1 : Same (mns H F) H') (s2 : Same F F') (s3 : Same F' H') (sF : Same F H) : Same H H' := fun b o e => by
  cases z : F b with
  | none => exact s1 b o (by unfold mns; rw [z]; exact e)
  | some w =>
    have := sF b w z
    rw [e] at this; cases this
    exact s3 b o (s2 b o z)
theorem mns_dj {H F F' : Hp} (s2 : Same F F') (dj : ∀ b o, F' b = some o → mns H F b = none) (b : Addr) (o : HO) (h : F' b = some o) : F b = some o ∨ H b = none := by
  rcases mns_none (dj b o h) with z | ⟨w, z⟩
  · exact .inr z
  · have := s2 b w z
    rw [h] at this; cases this
    exact .inl z
section
variable {P : Program} {w : World} {K : Fg} {mg : Str → Option Value} {base : Heap} {x qual : Str} {st : Stmt} {f : Addr} {fd : FuncData} {N ps : List Str} {k : Nat} {ev : EvS}
abbrev bx (P : Program) (w : World) (K : Fg) (mg : Str → Option Value) (base : Heap) (N : List Str) (qual : Str) (st : Stmt) (f : Addr) (cdv : Value) (A : Around) (outer : List PySem.Env) (s : Shared) (H : Hp) (E : XK) : Cx := (cxOf CX0 P w K mg base N qual (defScope st) f cdv A outer s H E).nox
theorem def_pure (F : Fun K x qual st f fd) (S : FnScope N ps (defScope st))
    (hb : ∀ (cdv : Value) (A : Around) (outer : List PySem.Env) (s : Shared) (H : Hp) (E : XK), Room k (A.deeper (envOfC qual (defScope st) s.heap.objs.size f cdv)) → PXSs (bx P w K mg base N qual st f cdv A outer s H E) (C0 K) (defBody st) ev) :
    FnOk P w K mg base CX0 (k + 1) f fd ps (spP K ps.length (runP N.length ev)) := by
  refine F.ok S (fun vs H Q E h => ?_) (fun cdv A outer s H vs Q E hr h => ?_)
  · obtain ⟨F0, ds, d, hl, _, p, _⟩ := h
    rw [p.length, hl]
  · obtain ⟨F0, ds, d, hl, sF, p, e, q⟩ := h
    refine ⟨_, hb cdv A outer s H E hr, mns H F0, F0, envOf N.length ds, rel_start sF p, ?_⟩
    unfold runP at e
    split at e
    · rename_i d' env' h1
      cases e
      rw [h1]
      exact fun v σ' H' F' r' s' p' => q v H' F' (Same.of_mns r'.pr s' r'.fr sF) r'.fr s' (mns_dj s' r'.dj) p'
    · rename_i env' h1
      cases e
      rw [h1]
      exact fun σ' H' F' r' s' => q .non H' F' (Same.of_mns r'.pr s' r'.fr sF) r'.fr s' (mns_dj s' r'.dj) rfl
    · cases e
theorem def_new (F : Fun K x qual st f fd) (S : FnScope N ps (defScope st))
    (hb : ∀ (cdv : Value) (A : Around) (outer : List PySem.Env) (s : Shared) (H : Hp) (E : XK), Room k (A.deeper (envOfC qual (defScope st) s.heap.objs.size f cdv)) → PXSs (bx P w K mg base N qual st f cdv A outer s H E) (C0 K) (defBody st) ev) :
    FnOk P w K mg base CX0 (k + 1) f fd ps (spN K ps.length (runN N.length ev)) := by
  refine F.ok S (fun vs H Q E h => ?_) (fun cdv A outer s H vs Q E hr h => ?_)
  · obtain ⟨F0, ds, d, hl, _, p, _⟩ := h
    rw [p.length, hl]
  · obtain ⟨F0, ds, d, hl, sF, p, e, q⟩ := h
    refine ⟨_, hb cdv A outer s H E hr, mns H F0, F0, envOf N.length ds, rel_start sF p, ?_⟩
    unfold runN at e
    split at e
    · rename_i d' env' h1
      cases e
      rw [h1]
      refine fun a σ' H' F' r' s' n' => q a H' F' (Same.of_mns r'.pr s' r'.fr sF) r'.fr s' (mns_dj s' r'.dj) n'.own n'.nF ?_
      rcases mns_none n'.nP with z | ⟨u, z⟩
      · exact z
      · have := s' a u z
        rw [n'.nF] at this; cases this
    · cases e
theorem rel_startIO {K : Fg} {F H : Hp} {y : D} {a : Addr} {ds : List D} {vs : List V} {N : List Str} (s : Same F H) (hF : F a = none) (ho : OwnAt K F H y a) (p : Reps K F ds vs) : Rel (C1 K a) (fun b => if b = a then none else mns H F b) F (envIO N.length y ds) (start N (.ref a :: vs)) H := by
  have un : ∀ (j : Nat) (x : Bool × D), (envIO N.length y ds)[j]? = some (some x) → (j = 0 ∧ x = (true, y)) ∨ ∃ i d, j = i + 1 ∧ x = (false, d) ∧ ds[i]? = some d := fun j x he => by
    unfold envIO at he
    cases j with
    | zero => cases he; exact .inl ⟨rfl, rfl⟩
    | succ i =>
      rw [List.getElem?_cons_succ] at he
      by_cases hj : i < (ds.map fun d => some (false, d)).length
      · rw [List.getElem?_append_left hj, List.getElem?_map] at he
        obtain ⟨d, h1, h2⟩ := Option.map_eq_some_iff.mp he
        cases h2
        exact .inr ⟨i, d, rfl, rfl, h1⟩
      · rw [List.getElem?_append_right (by omega), List.getElem?_replicate] at he
        split at he <;> cases he
  have z0 : (start N (.ref a :: vs))[0]? = some (some (V.ref a)) := rfl
  refine ⟨fun b o e => ?_, s, ?_, fun j d he => ?_, fun j d he => ?_, fun j k d e b hj hk _ _ => ?_, fun b o e => ?_, fun i b h => ?_⟩
  · have e' : (if b = a then none else mns H F b) = some o := e
    split at e'
    · cases e'
    · exact (mns_some e').1
  · unfold envIO L2.start
    simp only [List.length_cons, List.length_append, List.length_map, List.length_replicate, p.length, List.map_cons]
    omega
  · rcases un j _ he with ⟨_, z⟩ | ⟨i, d', rfl, z, hd⟩
    · cases z
    · cases z
      obtain ⟨v, h1, h2⟩ := p.get hd
      refine ⟨v, ?_, h2⟩
      unfold L2.start
      rw [List.map_cons, List.cons_append, List.getElem?_cons_succ, List.getElem?_append_left (by rw [List.length_map]; exact (List.getElem?_eq_some_iff.mp h1).1), List.getElem?_map, h1]
      rfl
  · rcases un j _ he with ⟨rfl, z⟩ | ⟨i, d', rfl, z, hd⟩
    · cases z
      exact ⟨a, z0, ho, hF, if_pos rfl⟩
    · cases z
  · rcases un j _ hj with ⟨rfl, _⟩ | ⟨i, d', rfl, z, _⟩
    · rcases un k _ hk with ⟨rfl, _⟩ | ⟨i, d', rfl, z, _⟩
      · rfl
      · cases z
    · cases z
  · show (if b = a then none else mns H F b) = none
    split
    · rfl
    · unfold mns; rw [e]; rfl
  · have h' : (if i = 0 then some a else none) = some b := h
    split at h'
    · rename_i hi
      cases h'
      rw [hi]; exact z0
    · cases h'
theorem def_io {y : Str} {qs : List Str} (F : Fun K x qual st f fd) (S : FnScope N (y :: qs) (defScope st))
    (hb : ∀ (cdv : Value) (A : Around) (outer : List PySem.Env) (s : Shared) (H : Hp) (E : XK) (a : Addr), Room k (A.deeper (envOfC qual (defScope st) s.heap.objs.size f cdv)) → PXSs (bx P w K mg base N qual st f cdv A outer s H E) (C1 K a) (defBody st) ev) :
    FnOk P w K mg base CX0 (k + 1) f fd (y :: qs) (spIO K (qs.length + 1) (runIO N.length ev)) := by
  refine F.ok S (fun vs H Q E h => ?_) (fun cdv A outer s H vs Q E hr h => ?_)
  · obtain ⟨F0, a, r, z, ds, d, z', rfl, hl, _, _, _, p, _⟩ := h
    rw [List.length_cons, List.length_cons, p.length]
    exact hl
  · obtain ⟨F0, a, r, z, ds, d, z', rfl, hl, sF, hFa, ho, p, e, q⟩ := h
    refine ⟨_, hb cdv A outer s H E a hr, _, F0, envIO N.length z ds, rel_startIO sF hFa ho p, ?_⟩
    have fin : ∀ (env' : Env) (σ' : L2.St) (H' F' : Hp) (v : V) (d : D) (z' : D), env'[0]? = some (some (true, z')) → Rel (C1 K a) (fun b => if b = a then none else mns H F0 b) F' env' σ' H' → Same F0 F' → Rep K F' d v → (∀ v H' F', (∀ b o, b ≠ a → H b = some o → H' b = some o) → Same F' H' → Same F0 F' → (∀ b o, F' b = some o → F0 b = some o ∨ H b = none) → OwnAt K F' H' z' a → Rep K F' d v → Q v H') → Q v H' := fun env' σ' H' F' v d z' h0 r' s' p' q => by
      obtain ⟨b, g1, g2, g3, g4⟩ := r'.own 0 z' h0
      have g5 := r'.fix 0 a rfl
      rw [g1] at g5; cases g5
      refine q v H' F' (fun c o hc e => ?_) r'.fr s' (fun c o e => ?_) g2 p'
      · cases u : F0 c with
        | none => exact r'.pr c o (by show (if c = a then none else mns H F0 c) = some o; rw [if_neg hc]; unfold mns; rw [u]; exact e)
        | some w =>
          have := sF c w u
          rw [e] at this; cases this
          exact r'.fr c o (s' c o u)
      · by_cases hc : c = a
        · subst hc; rw [g3] at e; cases e
        · have h1 := r'.dj c o e
          have h1' : (if c = a then none else mns H F0 c) = none := h1
          rw [if_neg hc] at h1'
          rcases mns_none h1' with u | ⟨w, u⟩
          · exact .inr u
          · have := s' c w u
            rw [e] at this; cases this
            exact .inl u
    unfold runIO at e
    simp only at e
    split at e
    · rename_i d' env' h1
      split at e
      · rename_i z1 h0
        cases e
        rw [h1]
        exact fun v σ' H' F' r' s' p' => fin env' σ' H' F' v _ _ h0 r' s' p' q
      · cases e
    · rename_i env' h1
      split at e
      · rename_i z1 h0
        cases e
        rw [h1]
        exact fun σ' H' F' r' s' => fin env' σ' H' F' .non .non _ h0 r' s' rfl q
      · cases e
    · cases e
end
end Ev
namespace Ev
open PySem PySem.Spec PyProof.Rows L2
structure Good (X : Cx) (C : Cfg) : Prop where
  K : X.K = C.K
  calm : X.calm = true
  un : X.A.units + 64 < cLine
theorem Good.u1 {X : Cx} {C : Cfg} (G : Good X C) : X.A.units + 1 < cLine := Nat.lt_of_le_of_lt (Nat.add_le_add_left (by decide : 1 ≤ 64) _) G.un
theorem Good.u60 {X : Cx} {C : Cfg} (G : Good X C) : X.A.units + 60 < cLine := Nat.lt_of_le_of_lt (Nat.add_le_add_left (by decide : 60 ≤ 64) _) G.un
theorem Good.u61 {X : Cx} {C : Cfg} (G : Good X C) : X.A.units + 61 < cLine := Nat.lt_of_le_of_lt (Nat.add_le_add_left (by decide : 61 ≤ 64) _) G.un
theorem Good.at {X X' : Cx} {C : Cfg} {scope : Scope} {N' : List Str} (G : Good X C) (h : CxAt X scope N' X') : Good X' C := by
  obtain ⟨_, _, _, _, _, rfl⟩ := h
  exact ⟨G.K, G.calm, G.un⟩
def Own (P : Program) (w : World) (K : Fg) (mg : Str → Option Value) (base : Heap) (x : Str) (k : Nat) (ps : List Str) (sp : Sp) : Prop :=
  ∃ f fd, FnOk P w K mg base CX0 k f fd ps sp ∧ mg x = some (.ref f) ∧ PySem.W.keepIn K (.ref f) = true ∧ Binds K fd ps []
def Glb (K : Fg) (mg : Str → Option Value) (x : Str) (d : D) : Prop := ∃ v u, mg x = some u ∧ RelV v u ∧ ∀ F, Rep K F d v
def FunAt (K : Fg) (mg : Str → Option Value) (x : Str) (st : Stmt) (ps : List Str) : Prop := ∃ f fd, Fun K x x st f fd ∧ mg x = some (.ref f) ∧ Binds K fd ps []
def nodupB : List Str → Bool
  | [] => true
  | x :: r => !(r.contains x) && nodupB r
theorem nodupB_ok : ∀ {l : List Str}, nodupB l = true → l.Nodup
  | [], _ => .nil
  | x :: r, h => by
    have h' : (!(r.contains x) && nodupB r) = true := h
    rw [Bool.and_eq_true] at h'
    refine List.nodup_cons.mpr ⟨fun hm => ?_, nodupB_ok h'.2⟩
    have : r.contains x = true := List.contains_iff_mem.mpr hm
    rw [this] at h'; exact absurd h'.1 (by decide)
def freeB (outer : List (Str × NameKind)) : List (Str × NameKind) → Bool
  | [] => true
  | (n, k) :: r => (!decide (k = .free) || decide (outer.lookup n = some .cell) || decide (outer.lookup n = some .free)) && freeB outer r
theorem freeB_ok {outer : List (Str × NameKind)} : ∀ {l : List (Str × NameKind)}, freeB outer l = true → ∀ x ∈ l, x.2 = .free → outer.lookup x.1 = some .cell ∨ outer.lookup x.1 = some .free
  | [], _, x, hx, _ => by simp at hx
  | (n, k) :: r, h, x, hx, hf => by
    have h' : ((!decide (k = .free) || decide (outer.lookup n = some .cell) || decide (outer.lookup n = some .free)) && freeB outer r) = true := h
    rw [Bool.and_eq_true, Bool.or_eq_true, Bool.or_eq_true] at h'
    rcases List.mem_cons.mp hx with rfl | hx
    · rcases h'.1 with (z | z) | z
      · have hf' : k = .free := hf
        rw [decide_eq_true hf'] at z; exact absurd z (by decide)
      · exact .inl (of_decide_eq_true z)
      · exact .inr (of_decide_eq_true z)
    · exact freeB_ok h'.2 x hx hf
theorem compOk {X : Cx} {scope : Scope} {N' : List Str} (h1 : scope.kind = .function := by rfl) (h2 : nodupB (scope.names.map (·.1)) = true := by rfl) (h3 : freeB X.env.scope.names scope.names = true := by rfl) (h4 : chkC scope.names N' X.N = true := by rfl) (h5 : Nat.ble X.N.length N'.length = true := by rfl) : CompOk X scope N' :=
  ⟨h1, nodupB_ok h2, freeB_ok h3, h4, Nat.le_of_ble_eq_true h5⟩
section
variable {X : Cx} {C : Cfg} {pos p px : Pos} {x y z : Expr} {a b c : Ev} {t u : EvT} {i : Nat} {n : Str}
theorem x_var (i : Nat) (hN : X.N[i]? = some n := by rfl) (hv : Vis X.env.scope n := by first | exact Or.inl rfl | exact Or.inr (Or.inl rfl) | exact Or.inr (Or.inr rfl)) (hd : (n == ("__debug__" : Str)) = false := by decide) (hcd : (n == ("__classdict__" : Str)) = false := by decide) : PX X C (.Name n pos) (evVar i) := px_var i hN hv hd hcd
theorem x_rd (i : Nat) (hN : X.N[i]? = some n := by rfl) (hv : Vis X.env.scope n := by first | exact Or.inl rfl | exact Or.inr (Or.inl rfl) | exact Or.inr (Or.inr rfl)) (hd : (n == ("__debug__" : Str)) = false := by decide) (hcd : (n == ("__classdict__" : Str)) = false := by decide) : PXB X C (.Name n pos) (evRd i) := pxb_var i hN hv hd hcd
structure Bi (X : Cx) (C : Cfg) (op : Operator) (g : D → D → Option D) : Prop where
  ex : ∃ r, OpR X (binaryOp op) r ∧ OpD C r g
structure Cm (X : Cx) (C : Cfg) (op : CmpOp) (g : D → D → Option D) : Prop where
  ex : ∃ r, OpR X (compareOp op) r ∧ OpD C r g
theorem b_add (G : Good X C) : Bi X C .Add gAdd := ⟨_, op_add2, by rw [G.K]; exact od_add⟩
theorem b_sub : Bi X C .Sub gSub := ⟨_, op_sub, od_sub⟩
theorem b_mul : Bi X C .Mult gMul := ⟨_, op_mulB, od_mul⟩
theorem b_mod : Bi X C .Mod gMod := ⟨_, op_mod, od_mod⟩
theorem b_pow : Bi X C .Pow gPow := ⟨_, op_pow, od_pow⟩
theorem b_shl : Bi X C .LShift gShl := ⟨_, op_shl, od_shl⟩
theorem b_shr : Bi X C .RShift gShr := ⟨_, op_shr, od_shr⟩
theorem b_and : Bi X C .BitAnd gAnd := ⟨_, op_and, od_and⟩
theorem c_eq (G : Good X C) : Cm X C .Eq gEq := ⟨_, op_eqD G.u60, by rw [G.K]; exact od_eq⟩
theorem c_ne (G : Good X C) : Cm X C .NotEq gNe := ⟨_, op_neD G.u60, by rw [G.K]; exact od_ne⟩
theorem c_notIn (G : Good X C) : Cm X C .NotIn gNotIn := ⟨_, op_notIn2 G.u61, by rw [G.K]; exact od_notIn⟩
theorem c_is : Cm X C .Is gIs := ⟨_, op_is2, od_is⟩
theorem c_lt : Cm X C .Lt gLt := ⟨_, op_lt2, od_lt⟩
theorem c_gt : Cm X C .Gt gGt := ⟨_, op_gt, od_gt⟩
theorem x_bin {op : Operator} {g : D → D → Option D} (o : Bi X C op g) (ha : PX X C x a) (hb : PXB X C y b) : PX X C (.BinOp x op y pos) (evBin g a b) := let ⟨_, h1, h2⟩ := o.ex; px_op h1 h2 ha hb
theorem x_binO {op : Operator} {g : D → D → Option D} (i : Nat) (o : Bi X C op g) (hb : PXB X C y b) (hN : X.N[i]? = some n := by rfl) (hv : Vis X.env.scope n := by first | exact Or.inl rfl | exact Or.inr (Or.inl rfl) | exact Or.inr (Or.inr rfl)) (hd : (n == ("__debug__" : Str)) = false := by decide) (hcd : (n == ("__classdict__" : Str)) = false := by decide) : PX X C (.BinOp (.Name n px) op y pos) (evBinO g i b) := let ⟨_, h1, h2⟩ := o.ex; px_opO i hN hv h1 h2 hb hd hcd
theorem x_cmp {op : CmpOp} {g : D → D → Option D} (o : Cm X C op g) (ha : PX X C x a) (hb : PXB X C y b) (hm : behindInMarks op y = false := by rfl) : PX X C (.Compare x [op] [y] pos) (evBin g a b) := let ⟨_, h1, h2⟩ := o.ex; px_cmp h1 h2 ha hb hm
theorem x_cmpO {op : CmpOp} {g : D → D → Option D} (i : Nat) (o : Cm X C op g) (hb : PXB X C y b) (hN : X.N[i]? = some n := by rfl) (hv : Vis X.env.scope n := by first | exact Or.inl rfl | exact Or.inr (Or.inl rfl) | exact Or.inr (Or.inr rfl)) (hm : behindInMarks op y = false := by rfl) (hd : (n == ("__debug__" : Str)) = false := by decide) (hcd : (n == ("__classdict__" : Str)) = false := by decide) : PX X C (.Compare (.Name n px) [op] [y] pos) (evBinO g i b) := by
  obtain ⟨r, h1, h2⟩ := o.ex
  exact (pe_cmpR h1 (pe_var hN hv hd hcd) hb hm).imp (binO_go h2)
theorem t_cmp {op : CmpOp} {g : D → D → Option D} (o : Cm X C op g) (ha : PX X C x a) (hb : PXB X C y b) (hm : behindInMarks op y = false := by rfl) : PXT X C (.Compare x [op] [y] pos) (evB (evBin g a b)) := let ⟨_, h1, h2⟩ := o.ex; pxt_cmp h1 h2 ha hb hm
theorem t_cmpO {op : CmpOp} {g : D → D → Option D} (i : Nat) (o : Cm X C op g) (hb : PXB X C y b) (hN : X.N[i]? = some n := by rfl) (hv : Vis X.env.scope n := by first | exact Or.inl rfl | exact Or.inr (Or.inl rfl) | exact Or.inr (Or.inr rfl)) (hm : behindInMarks op y = false := by rfl) (hd : (n == ("__debug__" : Str)) = false := by decide) (hcd : (n == ("__classdict__" : Str)) = false := by decide) : PXT X C (.Compare (.Name n px) [op] [y] pos) (evB (evBinO g i b)) := by
  obtain ⟨r, h1, h2⟩ := o.ex
  exact (pt_cmpR h1 (pe_var hN hv hd hcd) hb hm).imp fun σ H Q h => binO_go h2 σ H _ (tB_go h)
theorem x_ix (G : Good X C) (ha : PX X C x a) (hb : PXB X C y b) (hs : PlainIx y := by intro _ _; rfl) : PX X C (.Subscript x y pos) (evBin gIx a b) := px_ix G.K ha hb hs
theorem x_ixO (i : Nat) (G : Good X C) (hb : PXB X C y b) (hN : X.N[i]? = some n := by rfl) (hv : Vis X.env.scope n := by first | exact Or.inl rfl | exact Or.inr (Or.inl rfl) | exact Or.inr (Or.inr rfl)) (hs : PlainIx y := by intro _ _; rfl) (hd : (n == ("__debug__" : Str)) = false := by decide) (hcd : (n == ("__classdict__" : Str)) = false := by decide) : PX X C (.Subscript (.Name n px) y pos) (evBinO gIx i b) := px_ixO i G.K hN hv hb hs hd hcd
theorem x_dgetO (i : Nat) (G : Good X C) (hb : PXB X C y b) (hN : X.N[i]? = some n := by rfl) (hv : Vis X.env.scope n := by first | exact Or.inl rfl | exact Or.inr (Or.inl rfl) | exact Or.inr (Or.inr rfl)) (hs : NoSl y := by intro _ _; rfl) (hd : (n == ("__debug__" : Str)) = false := by decide) (hcd : (n == ("__classdict__" : Str)) = false := by decide) : PX X C (.Subscript (.Name n px) y pos) (evBinO gDget i b) := px_dgetO i G.u1 hN hv hb hs hd hcd
theorem x_sl {lo hi : Option Expr} {el eh : EvP} {p2 : Pos} (G : Good X C) (ha : PX X C x a) (hl : PXP X C lo el) (hh : PXP X C hi eh) : PX X C (.Subscript x (.Slice lo hi none p2) pos) (evSl a el eh) := px_sl G.K ha hl hh
variable {e : Expr} {es : List Expr} {ea : EvA}
theorem x_len (G : Good X C) (hm : X.mg "len" = none) (ha : PXAB X C [e] ea) (hg : Gl X "len" := by rfl) (he : starEach [e] X.env = (false, eval e X.env) :: starEach [] X.env := by rfl) : PX X C (.Call (.Name "len" p) [e] [] pos) (evCall gLen ea) :=
  px_callB (by rw [← G.K]; exact call_len) cd_len hg hm PySem.boot_len ha (by decide) (by decide) he rfl
theorem x_all (G : Good X C) (hm : X.mg "all" = none) (ha : PXAB X C [e] ea) (hg : Gl X "all" := by rfl) (he : starEach [e] X.env = (false, eval e X.env) :: starEach [] X.env := by rfl) : PX X C (.Call (.Name "all" p) [e] [] pos) (evCall gAll ea) :=
  px_callB (by rw [← G.K]; exact call_all2 G.calm) cd_all hg hm (by decide +kernel) ha (by decide) (by decide) he rfl
theorem x_sorted (G : Good X C) (hm : X.mg "sorted" = none) (ha : PXAB X C [e] ea) (hg : Gl X "sorted" := by rfl) (he : starEach [e] X.env = (false, eval e X.env) :: starEach [] X.env := by rfl) : PX X C (.Call (.Name "sorted" p) [e] [] pos) (evCall gSorted ea) :=
  px_sorted G.K G.calm hg hm ha he rfl
theorem x_max {e2 : Expr} (G : Good X C) (hm : X.mg "max" = none) (ha : PXAB X C [e, e2] ea) (hg : Gl X "max" := by rfl) (he : starEach [e, e2] X.env = (false, eval e X.env) :: starEach [e2] X.env := by rfl) (hpl : (backTo pos (starEach [e2] X.env)).any (·.1) = false := by rfl) : PX X C (.Call (.Name "max" p) [e, e2] [] pos) (evCall gMax ea) :=
  px_callB (call_max2 G.calm) cd_max hg hm (by decide +kernel) ha (by decide) (by decide) he hpl
theorem x_min {e2 : Expr} (G : Good X C) (hm : X.mg "min" = none) (ha : PXAB X C [e, e2] ea) (hg : Gl X "min" := by rfl) (he : starEach [e, e2] X.env = (false, eval e X.env) :: starEach [e2] X.env := by rfl) (hpl : (backTo pos (starEach [e2] X.env)).any (·.1) = false := by rfl) : PX X C (.Call (.Name "min" p) [e, e2] [] pos) (evCall gMin ea) :=
  px_callB (call_min2 G.calm) cd_min hg hm (by decide +kernel) ha (by decide) (by decide) he hpl
theorem x_divmod {e2 : Expr} (G : Good X C) (hm : X.mg "divmod" = none) (ha : PXAB X C [e, e2] ea) (hg : Gl X "divmod" := by rfl) (he : starEach [e, e2] X.env = (false, eval e X.env) :: starEach [e2] X.env := by rfl) (hpl : (backTo pos (starEach [e2] X.env)).any (·.1) = false := by rfl) : PX X C (.Call (.Name "divmod" p) [e, e2] [] pos) (evCall gDivmod ea) :=
  px_callB call_divmod cd_divmod hg hm (by decide +kernel) ha (by decide) (by decide) he hpl
theorem x_tuple (G : Good X C) (hm : X.mg "tuple" = none) (ha : PXAB X C [e] ea) (hg : Gl X "tuple" := by rfl) (he : starEach [e] X.env = (false, eval e X.env) :: starEach [] X.env := by rfl) : PX X C (.Call (.Name "tuple" p) [e] [] pos) (evCall gTuple ea) :=
  px_callTy (T := "tuple") (r := rTuple C.K) (by rw [← G.K]; exact call_tuple_of) cd_tuple hg hm (by decide +kernel) ha (by decide) (by decide) he rfl
theorem x_list (G : Good X C) (hm : X.mg "list" = none) (ha : PXAB X C [e] ea) (hg : Gl X "list" := by rfl) (he : starEach [e] X.env = (false, eval e X.env) :: starEach [] X.env := by rfl) : PX X C (.Call (.Name "list" p) [e] [] pos) (evCall gList ea) :=
  px_callTy (T := "list") (r := rList C.K) (by rw [← G.K]; exact call_list2 G.calm) cd_list hg hm (by decide +kernel) ha (by decide) (by decide) he rfl
theorem x_join {o : Expr} {apos cpos : Pos} (G : Good X C) (ho : PX X C o a) (he : PXB X C e b) (hbase : attributeBase o "join" X.env (eval o X.env) = eval o X.env := by rfl)
    (hs : starEach [e] X.env = (false, eval e X.env) :: starEach [] X.env := by rfl)
    (hfew : ((backTo cpos (starEach [e] X.env)).all (fun x => !x.1) && (backToKw cpos (keywordEach [] X.env)).all (fun x => x.1.isSome)
      && decide ([e].length + ([] : List Keyword).length + (if ([] : List Keyword).isEmpty then 0 else 1) < 30)) = true := by rfl)
    (hline : (apos.endLine == cpos.line) = true := by rfl) (hplain : (backTo cpos (starEach [] X.env)).any (·.1) = false := by rfl) :
    PX X C (.Call (.Attribute o "join" apos) [e] [] cpos) (evBin gJoin a b) := px_join G.K ho he hbase hs hfew hline hplain
theorem x_own {k k' : Nat} {m : Nat} {ps : List Str} {g : List D → Option D} (O : Own X.prog X.w X.K X.mg X.base n k ps (spP X.K m g)) (G : Good X C) (hr : Room k' X.A) (hk : Nat.ble k k' = true) (ha : PXA X C (e :: es) ea) (hn : ∀ env ds env', ea env = .ok ds env' → ds.length = m)
    (hg : Gl X n := by rfl) (hdb : (n == ("__debug__" : Str)) = false := by decide) (he : starEach (e :: es) X.env = (false, eval e X.env) :: starEach es X.env := by rfl) (hpl : (backTo pos (starEach es X.env)).any (·.1) = false := by rfl) : PX X C (.Call (.Name n p) (e :: es) [] pos) (evCall g ea) := by
  obtain ⟨f, fd, h1, h2, h3, h4⟩ := O
  rw [G.K] at h1
  have h1' : FnOk X.prog X.w X.K X.mg X.base CX0 k f fd ps (spP C.K m g) := by rw [G.K]; exact h1
  exact px_own h1' (hr.mono (Nat.le_of_ble_eq_true hk)) hg h2 h3 h4 ha hn hdb he hpl
theorem n_own {k k' : Nat} {m : Nat} {ps : List Str} {g : List D → Option D} (O : Own X.prog X.w X.K X.mg X.base n k ps (spN X.K m g)) (G : Good X C) (hr : Room k' X.A) (hk : Nat.ble k k' = true) (ha : PXA X C (e :: es) ea) (hn : ∀ env ds env', ea env = .ok ds env' → ds.length = m)
    (hg : Gl X n := by rfl) (hdb : (n == ("__debug__" : Str)) = false := by decide) (he : starEach (e :: es) X.env = (false, eval e X.env) :: starEach es X.env := by rfl) (hpl : (backTo pos (starEach es X.env)).any (·.1) = false := by rfl) : PXN X C (.Call (.Name n p) (e :: es) [] pos) (evCall g ea) := by
  obtain ⟨f, fd, h1, h2, h3, h4⟩ := O
  rw [G.K] at h1
  have h1' : FnOk X.prog X.w X.K X.mg X.base CX0 k f fd ps (spN C.K m g) := by rw [G.K]; exact h1
  exact pxn_own h1' (hr.mono (Nat.le_of_ble_eq_true hk)) hg h2 h3 h4 ha hn hdb he hpl
theorem x_io {k k' : Nat} {m : Nat} {ps : List Str} {g : List D → Option (D × D)} {v : Str} {pv : Pos} (i : Nat) (O : Own X.prog X.w X.K X.mg X.base n k ps (spIO X.K m g)) (G : Good X C) (hr : Room k' X.A) (hk : Nat.ble k k' = true) (ha : PXA X C es ea) (hn : ∀ env ds env', ea env = .ok ds env' → ds.length + 1 = m)
    (hN : X.N[i]? = some v := by rfl) (hv : Vis X.env.scope v := by first | exact Or.inl rfl | exact Or.inr (Or.inl rfl) | exact Or.inr (Or.inr rfl))
    (hg : Gl X n := by rfl) (hdb : (n == ("__debug__" : Str)) = false := by decide) (he : starEach (.Name v pv :: es) X.env = (false, eval (.Name v pv) X.env) :: starEach es X.env := by rfl) (hpl : (backTo pos (starEach es X.env)).any (·.1) = false := by rfl)
    (hd : (v == ("__debug__" : Str)) = false := by decide) (hcd : (v == ("__classdict__" : Str)) = false := by decide) : PX X C (.Call (.Name n p) (.Name v pv :: es) [] pos) (evIO g i ea) := by
  obtain ⟨f, fd, h1, h2, h3, h4⟩ := O
  rw [G.K] at h1
  have h1' : FnOk X.prog X.w X.K X.mg X.base CX0 k f fd ps (spIO C.K m g) := by rw [G.K]; exact h1
  exact px_io hN hv h1' (hr.mono (Nat.le_of_ble_eq_true hk)) hg h2 h3 h4 ha hn hdb he hpl hd hcd
theorem len0 : ∀ (env : Env) (ds : List D) (env' : Env), evNil env = .ok ds env' → ds.length = 0 := evNil_len
theorem lenS {a : Ev} {r : EvA} {m : Nat} (hr : ∀ env ds env', r env = .ok ds env' → ds.length = m) : ∀ (env : Env) (ds : List D) (env' : Env), evCons a r env = .ok ds env' → ds.length = m + 1 := evCons_len hr
theorem lenIO {r : EvA} {m : Nat} (hr : ∀ env ds env', r env = .ok ds env' → ds.length = m) : ∀ (env : Env) (ds : List D) (env' : Env), r env = .ok ds env' → ds.length + 1 = m + 1 := fun env ds env' h => by rw [hr env ds env' h]
theorem g_name {lo : Nat} (i : Nat) (hnd : nodupB X.N = true := by rfl) (hlo : Nat.ble lo i = true := by rfl) (hfx : C.fx i = none := by rfl) (hi : X.N[i]? = some n := by rfl) (hx : Loc X.env.scope n := by first | exact Or.inl rfl | exact Or.inr rfl) (hf : X.fn n = true ∨ X.env.scope.names.lookup n = some .local := by first | exact .inl rfl | exact .inr rfl) : PXG X C lo (.Name n pos) (gvName i) :=
  pxg_name (nodupB_ok hnd) hi hx (Nat.le_of_ble_eq_true hlo) hfx hf
theorem g_tup {lo : Nat} {k : Nat} {gs : GVs} {m : Nat} (G : Good X C) (h : PXGs X C lo es gs) (hn : (assignEach es X.env).length = m := by rfl) (hst : (assignEach es X.env).findIdx? (·.1) = none := by rfl) : PXG X C lo (.Tuple es k pos) (gvTup m gs) := pxg_tup G.calm G.K h hn hst
theorem g_at {lo : Nat} {ix : Expr} {ev : Ev} (i : Nat) (h : PX X C ix ev) (hN : X.N[i]? = some n := by rfl) (hv : Vis X.env.scope n := by first | exact Or.inl rfl | exact Or.inr (Or.inl rfl) | exact Or.inr (Or.inr rfl))
    (ha : ∀ v, assign (.Subscript (.Name n px) ix pos) X.env v = (do
      let ov ← holding [v] (eval (.Name n px) X.env)
      let iv ← holding [v, ov] (eval ix X.env)
      standAt pos
      holding [v, ov, iv] (setItem ov iv v)
      release [v, ov, iv] []) := by intro _; rfl)
    (hd : (n == ("__debug__" : Str)) = false := by decide) (hcd : (n == ("__classdict__" : Str)) = false := by decide) : PXG X C lo (.Subscript (.Name n px) ix pos) (gvAt i ev) := pxg_at hN hv h ha hd hcd
theorem s_set {pos' : Pos} (i : Nat) (he : PX X C e a) (hnd : nodupB X.N = true := by rfl) (hfx : C.fx i = none := by rfl) (hi : X.N[i]? = some n := by rfl) (hx : Loc X.env.scope n := by first | exact Or.inl rfl | exact Or.inr rfl) (hs : swapsWith e (some (.Name n pos')) pos.line X.env = pure false := by rfl) (hf : X.fn n = true ∨ X.env.scope.names.lookup n = some .local := by first | exact .inl rfl | exact .inr rfl) :
    PXS X C (.Assign [.Name n pos'] e pos) (stAsg a (gvName i)) := pxs_set (nodupB_ok hnd) hi hx hfx he hs hf
theorem s_own {pos' : Pos} (i : Nat) (he : PXN X C e a) (hnd : nodupB X.N = true := by rfl) (hfx : C.fx i = none := by rfl) (hi : X.N[i]? = some n := by rfl) (hx : Loc X.env.scope n := by first | exact Or.inl rfl | exact Or.inr rfl) (hs : swapsWith e (some (.Name n pos')) pos.line X.env = pure false := by rfl) (hf : X.fn n = true ∨ X.env.scope.names.lookup n = some .local := by first | exact .inl rfl | exact .inr rfl) :
    PXS X C (.Assign [.Name n pos'] e pos) (stOwn i a) := pxs_own (nodupB_ok hnd) hi hx hfx he hs hf
theorem s_app {apos cpos : Pos} (i : Nat) (G : Good X C) (he : PX X C e a) (hN : X.N[i]? = some n := by rfl) (hv : Vis X.env.scope n := by first | exact Or.inl rfl | exact Or.inr (Or.inl rfl) | exact Or.inr (Or.inr rfl))
    (hs : swapsWith (.Call (.Attribute (.Name n px) "append" apos) [e] [] cpos) none pos.line X.env = pure false := by rfl)
    (hfew : ((backTo cpos (starEach [e] X.env)).all (fun x => !x.1) && (backToKw cpos (keywordEach [] X.env)).all (fun x => x.1.isSome)
      && decide (([e] : List Expr).length + ([] : List Keyword).length + (if ([] : List Keyword).isEmpty then 0 else 1) < 30)) = true := by rfl)
    (hbase : attributeBase (.Name n px) "append" X.env (eval (.Name n px) X.env) = eval (.Name n px) X.env := by rfl)
    (hline : (apos.endLine == cpos.line) = true := by rfl) (hst : starEach [e] X.env = (false, eval e X.env) :: starEach [] X.env := by rfl) (hplain : (backTo cpos (starEach [] X.env)).any (·.1) = false := by rfl)
    (hd : (n == ("__debug__" : Str)) = false := by decide) (hcd : (n == ("__classdict__" : Str)) = false := by decide) : PXS X C (.Expr (.Call (.Attribute (.Name n px) "append" apos) [e] [] cpos) pos) (stApp i a) :=
  pxs_app hN hv he G.K hs hfew hbase hline hst hplain hd hcd
theorem s_dput {k : Expr} {ek : Ev} {pos' : Pos} (i : Nat) (G : Good X C) (hk : PX X C k ek) (he : PX X C e a) (hN : X.N[i]? = some n := by rfl) (hv : Vis X.env.scope n := by first | exact Or.inl rfl | exact Or.inr (Or.inl rfl) | exact Or.inr (Or.inr rfl))
    (hs : swapsWith e (some (.Subscript (.Name n px) k pos')) pos.line X.env = pure false := by rfl)
    (hd : (n == ("__debug__" : Str)) = false := by decide) (hcd : (n == ("__classdict__" : Str)) = false := by decide) : PXS X C (.Assign [.Subscript (.Name n px) k pos'] e pos) (stDput i ek a) := pxs_dput G.u1 hN hv hk he hs hd hcd
theorem i_seq {tg : Expr} (G : Good X C) (h : PX X C x a) : PXI X C tg x (evIt a) := pxi_seq G.K h
theorem i_rng1 {tg : Expr} (hm : X.mg "range" = none) (ha : PXA X C [e] ea) (hl : ∀ env ds env', ea env = .ok ds env' → ds.length = 1) (hg : Gl X "range" := by rfl) (hs : starEach [e] X.env = [(false, eval e X.env)] := by rfl) : PXI X C tg (.Call (.Name "range" p) [e] [] pos) (evRng ea) := pxi_range1 hg hm ha hl hs
theorem i_rng3 {tg e2 e3 : Expr} (hm : X.mg "range" = none) (ha : PXA X C [e, e2, e3] ea) (hl : ∀ env ds env', ea env = .ok ds env' → ds.length = 3) (hg : Gl X "range" := by rfl) (hs : starEach [e, e2, e3] X.env = [(false, eval e X.env), (false, eval e2 X.env), (false, eval e3 X.env)] := by rfl) (hs2 : starEach [e2, e3] X.env = [(false, eval e2 X.env), (false, eval e3 X.env)] := by rfl) : PXI X C tg (.Call (.Name "range" p) [e, e2, e3] [] pos) (evRng ea) := pxi_range3 hg hm ha hl hs hs2
theorem s_for {tg iter : Expr} {body : List Stmt} {it : EvA} {g : GV} {bs : EvS} (G : Good X C) (hi : PXI X C tg iter it) (hg : PXG X C 0 tg g) (hb : PXSs X C body bs) (hp : PassesOwn (model X.prog X.w) X.A X.env X.xe := by exact PassesOwn.never)
    (hs : ∀ x, foldedSetIterable iter X.env x = pure x := by intro _; rfl) : PXS X C (.For tg iter body [] pos) (stFor it g bs) := pxs_for hp G.calm hi hg hb hs
theorem n_lc {elt tg iter : Expr} {ifs : List Expr} {scope : Scope} (N' : List Str) {it : EvA} {g : GV} {cc : EvT} {ee : Ev} (lo : Nat) (ok : CompOk X scope N') (G : Good X C) (hi : PXI X C tg iter it)
    (bg : ∀ X', CxAt X scope N' X' → PXG X' C lo tg g) (bc : ∀ X', CxAt X scope N' X' → PXIf X' C ifs cc) (be : ∀ X', CxAt X scope N' X' → PX X' C elt ee)
    (hs : ∀ x, foldedSetIterable iter X.env x = pure x := by intro _; rfl) : PXN X C (.ListComp elt [⟨tg, iter, ifs, 0⟩] scope pos) (evLC lo N'.length it g cc ee) := pxn_lc N' lo ok G.calm hi bg bc be hs
theorem s_lc {elt tg iter : Expr} {ifs : List Expr} {scope : Scope} (N' : List Str) {spos py : Pos} {it : EvA} {g : GV} {cc : EvT} {ee : Ev} (lo : Nat) (i : Nat) (ok : CompOk X scope N') (G : Good X C) (hi : PXI X C tg iter it)
    (bg : ∀ X', CxAt X scope N' X' → PXG X' C lo tg g) (bc : ∀ X', CxAt X scope N' X' → PXIf X' C ifs cc) (be : ∀ X', CxAt X scope N' X' → PX X' C elt ee)
    (hnd : nodupB X.N = true := by rfl) (hfx : C.fx i = none := by rfl) (hy : X.N[i]? = some n := by rfl) (hx : Loc X.env.scope n := by first | exact Or.inl rfl | exact Or.inr rfl)
    (hsw : swapsWith (.ListComp elt [⟨tg, iter, ifs, 0⟩] scope pos) (some (.Name n py)) spos.line X.env = pure true := by rfl)
    (hf : X.fn n = true ∨ X.env.scope.names.lookup n = some .local := by first | exact .inl rfl | exact .inr rfl)
    (hs : ∀ x, foldedSetIterable iter X.env x = pure x := by intro _; rfl) : PXS X C (.Assign [.Name n py] (.ListComp elt [⟨tg, iter, ifs, 0⟩] scope pos) spos) (stOwn i (evLC lo N'.length it g cc ee)) := pxs_setLC N' lo ok G.calm hi bg bc be (nodupB_ok hnd) hy hx hfx hsw hf hs
end
section
variable {P : Program} {w : World} {K : Fg} {mg : Str → Option Value} {base : Heap} {x : Str} {st : Stmt} {N ps : List Str} {k : Nat} {ev : EvS}
theorem good_bx {x : Str} {f : Addr} {cdv : Value} {A : Around} {outer : List PySem.Env} {s : Shared} {H : Hp} {E : XK} {C : Cfg} (hC : C.K = K) (hr : Room k (A.deeper (envOfC x (defScope st) s.heap.objs.size f cdv))) : Good (bx P w K mg base N x st f cdv A outer s H E) C := ⟨hC.symm, rfl, hr.units⟩
theorem own_pure (F : FunAt K mg x st ps) (S : FnScope N ps (defScope st))
    (hb : ∀ (f : Addr) (cdv : Value) (A : Around) (outer : List PySem.Env) (s : Shared) (H : Hp) (E : XK), Room k (A.deeper (envOfC x (defScope st) s.heap.objs.size f cdv)) → Good (bx P w K mg base N x st f cdv A outer s H E) (C0 K) → PXSs (bx P w K mg base N x st f cdv A outer s H E) (C0 K) (defBody st) ev) :
    Own P w K mg base x (k + 1) ps (spP K ps.length (runP N.length ev)) := by
  obtain ⟨f, fd, h1, h2, h3⟩ := F
  exact ⟨f, fd, def_pure h1 S fun cdv A outer s H E hr => hb f cdv A outer s H E hr (good_bx rfl hr), h2, h1.kp, h3⟩
theorem own_new (F : FunAt K mg x st ps) (S : FnScope N ps (defScope st))
    (hb : ∀ (f : Addr) (cdv : Value) (A : Around) (outer : List PySem.Env) (s : Shared) (H : Hp) (E : XK), Room k (A.deeper (envOfC x (defScope st) s.heap.objs.size f cdv)) → Good (bx P w K mg base N x st f cdv A outer s H E) (C0 K) → PXSs (bx P w K mg base N x st f cdv A outer s H E) (C0 K) (defBody st) ev) :
    Own P w K mg base x (k + 1) ps (spN K ps.length (runN N.length ev)) := by
  obtain ⟨f, fd, h1, h2, h3⟩ := F
  exact ⟨f, fd, def_new h1 S fun cdv A outer s H E hr => hb f cdv A outer s H E hr (good_bx rfl hr), h2, h1.kp, h3⟩
theorem own_io {y : Str} {qs : List Str} (F : FunAt K mg x st (y :: qs)) (S : FnScope N (y :: qs) (defScope st))
    (hb : ∀ (f : Addr) (cdv : Value) (A : Around) (outer : List PySem.Env) (s : Shared) (H : Hp) (E : XK) (a : Addr), Room k (A.deeper (envOfC x (defScope st) s.heap.objs.size f cdv)) → Good (bx P w K mg base N x st f cdv A outer s H E) (C1 K a) → PXSs (bx P w K mg base N x st f cdv A outer s H E) (C1 K a) (defBody st) ev) :
    Own P w K mg base x (k + 1) (y :: qs) (spIO K (qs.length + 1) (runIO N.length ev)) := by
  obtain ⟨f, fd, h1, h2, h3⟩ := F
  exact ⟨f, fd, def_io h1 S fun cdv A outer s H E a hr => hb f cdv A outer s H E a hr (good_bx rfl hr), h2, h1.kp, h3⟩
theorem scOk {sc : Scope} (h1 : sc.kind = .function := by rfl) (h2 : sc.isCoroutine = false := by rfl) (h3 : sc.isGenerator = false := by rfl) (h4 : nodupB N = true := by rfl) (h5 : N.take ps.length = ps := by rfl)
    (h6 : (ps.all fun x => decide (sc.names.lookup x = some .local) || decide (sc.names.lookup x = some .cell)) = true := by rfl) (h7 : (sc.names.all fun y => !decide (y.2 = .free)) = true := by rfl) : FnScope N ps sc := by
  refine ⟨h1, h2, h3, nodupB_ok h4, h5, fun x hx => ?_, fun y hy z => ?_⟩
  · have := List.all_eq_true.mp h6 x hx
    rw [Bool.or_eq_true] at this
    rcases this with z | z
    · exact .inl (of_decide_eq_true z)
    · exact .inr (of_decide_eq_true z)
  · have := List.all_eq_true.mp h7 y hy
    rw [decide_eq_true z] at this
    exact absurd this (by decide)
end
end Ev
namespace Ev
open PySem PySem.Spec PySem.W PySem.Calls PyProof.Rows L2
theorem weight_ints : ∀ (ns : List Int) (i : Int), i ∈ ns → Builtin.Int.intBits i ≤ WData.weightAll (ns.map WData.int)
  | [], _, h => by simp at h
  | n :: ns, i, h => by
    rw [List.map_cons, WData.weightAll]
    rcases List.mem_cons.mp h with rfl | h
    · have e : WData.weight (.int i) = Builtin.Int.intBits i := by rw [WData.weight]; rfl
      rw [e]; omega
    · have := weight_ints ns i h
      omega
def Bits (ns : List Int) : Prop := ∀ i ∈ ns, Builtin.Int.intBits i ≤ 2 ^ 20
theorem attach_callB {l : OpenLaw} {n : Nat} {q : Program} {loose : List Str} {XP : (Str → Option Value) → Heap → Prop} {YP : World → Heap → Prop} {d : DefRec}
    (hn : l.most = some n) (hdf : d.params.defaults = [])
    (call : ∀ (w : World) (s₀ s₁ : Shared) (mg mb : Str → Option Value) (fa : Addr) (o : Obj) (pm cd doc : Value) (a : Addr) (vs : List Value) (ns : List Int),
      Ground q loose [] XP w s₀ mg mb s₁.heap → YP w s₁.heap →
      s₁.heap.get? fa = some o → o.data = .func (docDef d.name d.params d.body d.scope pm cd doc) → s₁.heap.CodeRec cd d.name → mg d.name = some (.ref fa) →
      s₁.heap.get? a = some { cls := .type "list", data := .seq vs.toArray } → IntsAre vs ns → ns.length ≤ n → Bits ns → s₁.gens = #[] →
      codeAny (model l.prog w) callerA (.call (.ref fa) ⟨[.ref a], []⟩) (fun r s' => r = .ok (.ret (.bool true)) ∧ OldK s₁.heap s'.heap ∧ s'.os = s₁.os ∧ AllBare s'.gens) s₁) :
    WalkO q loose XP YP l.row.toRowW d [] (fun f vs => PySem.call f vs) := by
  intro w s₀ s₁ mg mb G Y fa o pm cd doc dV kV ho hd hcd hD hmg hg args vals as hpre hlay hrd hwl hlo
  obtain rfl : dV = .none := Dflts.none hD hdf
  obtain rfl : kV = .none := Dflts.noKw hD
  obtain ⟨a, vs, ns, rfl, rfl, hobj, hints, hlen⟩ := Att.script_of hn hpre hwl
  have hbits : Bits ns := fun i hi => by
    have h1 := (layableW_iff.mp (layableW_arg hlay _ (List.mem_singleton.mpr rfl))).2.2
    rw [WData.weight] at h1
    exact Nat.le_trans (weight_ints ns i hi) h1
  refine enter_call (codeAny_mono (call w s₀ s₁ mg mb fa o pm cd doc a vs ns G Y ho (fd_plain hd) hcd hmg hobj hints hlen hbits hg) fun r s' hq => ?_)
  obtain ⟨rfl, h2, h3, h4⟩ := hq
  exact ⟨.inl ⟨.bool true, .bool true, [], rfl, fun _ => rfl, .bool true, Att.post_true l _, fun _ => ⟨List.Pairwise.nil, fun _ hm => (nomatch hm)⟩⟩, h2, h3, h4⟩
theorem walkB {l : PySem.W.OpenLaw} {n k : Nat} {q : Program} {loose : List Str} {XP : (Str → Option Value) → Heap → Prop} {YP : World → Heap → Prop} {d : DefRec} {K : Params → PySem.W.Frag} {x : Str} {f : List D → Option D}
    (hn : l.most = some n) (hn2 : n ≤ sizeLine) (hdf : d.params.defaults = []) (hr : Room k callerA)
    (hY : ∀ (w : World) (h : Heap), YP w h → (K w.params).In h)
    (hf : ∀ ns : List Int, ns.length ≤ n → Bits ns → f [.arr (ns.map .int)] = some (.bl true))
    (F : ∀ (w : World) (mg : Str → Option Value) (fa : Addr) (h : Heap), (K w.params).In h → h.Ns mainGlobals mg → mg d.name = some (.ref fa) →
      ∃ fd : FuncData, (∀ (s : Shared) (u : Value), BindsTo s fd ⟨[u], []⟩ [(x, u)]) ∧
        ∀ base : Heap, (K w.params).In base → base.Ns mainGlobals mg → FnOk l.prog w (K w.params) mg base CX0 k fa fd [x] (spP (K w.params) 1 f)) :
    PySem.W.WalkO q loose XP YP l.row.toRowW d [] (fun f vs => PySem.call f vs) := by
  refine attach_callB hn hdf fun w s₀ s₁ mg mb fa o pm cd doc a vs ns G Y ho hd hcd hmg hobj hints hlen hbits hg => ?_
  have KX := hY w _ Y
  obtain ⟨fd, hb, hF⟩ := F w mg fa _ KX G.T.g hmg
  refine law_call KX G.T.g G.T.b G.T.builtins G.T.nolimit hg hobj hints (Nat.le_trans hlen hn2) hr hF hb (fun H hO hS => ?_) fun H e s' z => z
  refine ⟨H, [.arr (ns.map .int)], .bl true, rfl, Same.refl H, ⟨_, _, rfl, ⟨by rw [List.length_map]; exact Nat.le_trans hlen hn2, a, _, rfl, hS, ?_⟩, rfl⟩, hf ns hlen hbits, fun v H' F' _ _ _ _ p => p⟩
  clear hints hlen hbits hS
  induction ns with
  | nil => exact rfl
  | cons m ns ih => exact ⟨_, _, rfl, rfl, ih⟩
section
variable {K : Fg} {h : Heap} {mg : Str → Option Value}
theorem funAt {x : Str} {st : Stmt} {ps : List Str} {f : Addr} {oc : Value} {od an : Option Addr} {osl : Array (Option Value)} {kV doc pm cdv ct : Value} (X : K.In h) (G : h.Ns mainGlobals mg)
    (a : PySem.W.nsIn K mainGlobals x = some (some (.ref f))) (l : K.lookup f = some ⟨oc, od, .func (PySem.W.fnOf x x (defArgs st) (defBody st) (defScope st) .none kV doc pm an cdv ct), osl⟩)
    (c : PySem.W.codeIn K cdv x = true) (k : PySem.W.keepIn K (.ref f) = true)
    (b : ∀ (kV doc pm : Value) (an : Option Addr) (cdv ct : Value) (us : List Value), us.length = ps.length → bindArgs (PySem.W.fnOf x x (defArgs st) (defBody st) (defScope st) .none kV doc pm an cdv ct) ⟨us, []⟩ = pure (ps.zip us)) : FunAt K mg x st ps :=
  ⟨f, _, fun_mk l c k, PySem.W.mg_of X G a, (fun_mk (st := st) l c k).binds b⟩
theorem glb_str {x s : Str} {z : List Nat} {t : Tok} (X : K.In h) (G : h.Ns mainGlobals mg) (a : PySem.W.nsIn K mainGlobals x = some (some (.str s t))) (hs : s = strOf z) (hz : z.length ≤ sizeLine) : Glb K mg x (.str z) :=
  ⟨.str s, _, PySem.W.mg_of X G a, ⟨t, rfl⟩, fun F => ⟨by rw [hs], hz⟩⟩
inductive Cst (K : Fg) : D → V → Value → Prop where
  | str {s : Str} {z : List Nat} {t : Tok} (hs : s = strOf z) (hz : z.length ≤ sizeLine) : Cst K (.str z) (.str s) (.str s t)
  | int {i : Int} {t : Tok} : Cst K (.int i) (.int i) (.int i t)
theorem Cst.rel {d : D} {v : V} {u : Value} (c : Cst K d v u) : RelV v u := by cases c <;> exact ⟨_, rfl⟩
theorem Cst.rep {d : D} {v : V} {u : Value} (c : Cst K d v u) (F : Hp) : Rep K F d v := by
  cases c with
  | str hs hz => exact ⟨by rw [hs], hz⟩
  | int => exact rfl
theorem glb_tup2 {x : Str} {a : Addr} {n : Nat} {sl : Array (Option Value)} {u1 u2 : Value} {d1 d2 : D} {v1 v2 : V} (X : K.In h) (G : h.Ns mainGlobals mg) (e : PySem.W.nsIn K mainGlobals x = some (some (.ref a)))
    (l : K.lookup a = some ⟨.type "tuple", none, .seq #[u1, u2] n, sl⟩) (c1 : Cst K d1 v1 u1) (c2 : Cst K d2 v2 u2) : Glb K mg x (.tup [d1, d2]) :=
  ⟨.ref a, _, PySem.W.mg_of X G e, rfl, fun F => ⟨by show 2 ≤ sizeLine; decide, a, [v1, v2], rfl, .inr ⟨_, _, _, l, rfl, rfl, rfl, by show 2 ≤ sizeLine; decide, .cons c1.rel (.cons c2.rel .nil)⟩, _, _, rfl, c1.rep F, _, _, rfl, c2.rep F, rfl⟩⟩
theorem nbAt {x : Str} (X : K.In h) (G : h.Ns mainGlobals mg) (e : PySem.W.nsIn K mainGlobals x = some none) : mg x = none := PySem.W.mg_none_of X G e
end
end Ev
namespace Ev
open PySem L2
theorem forO_inv {g : GV} {b : EvS} (P : Env → Prop) : ∀ (ds : List D), (∀ d ∈ ds, ∀ env, P env → ∃ e1 e2, g d env = some e1 ∧ b e1 = .nx e2 ∧ P e2) → ∀ env, P env → ∃ e', forO g b ds env = .nx e' ∧ P e'
  | [], _, env, hp => ⟨env, rfl, hp⟩
  | d :: ds, h, env, hp => by
    obtain ⟨e1, e2, h1, h2, h3⟩ := h d (List.mem_cons_self ..) env hp
    obtain ⟨e', h4, h5⟩ := forO_inv P ds (fun d' hd => h d' (List.mem_cons_of_mem _ hd)) e2 h3
    refine ⟨e', ?_, h5⟩
    unfold forO
    rw [h1]
    simp only
    rw [h2]
    exact h4
theorem forO_go {g : GV} {b : EvS} {all : List D} (P : List D → Env → Prop) (h : ∀ done d rest, all = done ++ d :: rest → ∀ env, P done env → ∃ e1 e2, g d env = some e1 ∧ b e1 = .nx e2 ∧ P (done ++ [d]) e2) : ∀ (ds done : List D), all = done ++ ds → ∀ env, P done env → ∃ e', forO g b ds env = .nx e' ∧ P all e'
  | [], done, ha, env, hp => ⟨env, rfl, by rw [ha, List.append_nil]; exact hp⟩
  | d :: ds, done, ha, env, hp => by
    obtain ⟨e1, e2, h1, h2, h3⟩ := h done d ds ha env hp
    obtain ⟨e', h4, h5⟩ := forO_go P h ds (done ++ [d]) (by rw [List.append_assoc]; exact ha) e2 h3
    refine ⟨e', ?_, h5⟩
    unfold forO
    rw [h1]
    simp only
    rw [h2]
    exact h4
theorem forO_inv' {g : GV} {b : EvS} (all : List D) (P : List D → Env → Prop) (h : ∀ done d rest, all = done ++ d :: rest → ∀ env, P done env → ∃ e1 e2, g d env = some e1 ∧ b e1 = .nx e2 ∧ P (done ++ [d]) e2) (env : Env) (h0 : P [] env) : ∃ e', forO g b all env = .nx e' ∧ P all e' := forO_go P h all [] rfl env h0
theorem stSeq_nx {a b : EvS} {env e : Env} (h : a env = .nx e) : stSeq a b env = b e := by unfold stSeq; rw [h]
theorem stFor_eq {it : EvA} {g : GV} {b : EvS} {env e : Env} {ds : List D} (h : it env = .ok ds e) : stFor it g b env = forO g b ds e := by unfold stFor; rw [h]; rfl
theorem stAsg_eq {a : Ev} {g : GV} {env e e' : Env} {d : D} (h : a env = .ok d e) (h' : g d e = some e') : stAsg a g env = .nx e' := by unfold stAsg; rw [h]; show liftO (g d e) = _; rw [h']; rfl
theorem stRet_eq {a : Ev} {env e : Env} {d : D} (h : a env = .ok d e) : stRet a env = .rt false d e := by unfold stRet; rw [h]; rfl
theorem evCall_eq {g : List D → Option D} {a : EvA} {env e : Env} {ds : List D} {d : D} (h : a env = .ok ds e) (h' : g ds = some d) : evCall g a env = .ok d e := by unfold evCall; rw [h]; show liftR (g ds) e = _; rw [h']; rfl
theorem evBin_eq {g : D → D → Option D} {a b : Ev} {env e1 e2 : Env} {x y d : D} (h1 : a env = .ok x e1) (h2 : b e1 = .ok y e2) (h3 : g x y = some d) : evBin g a b env = .ok d e2 := by
  unfold evBin
  rw [h1]
  show bindR (b e1) _ = _
  rw [h2]
  show liftR (g x y) e2 = _
  rw [h3]
  rfl
theorem evBinO_eq {g : D → D → Option D} {i : Nat} {b : Ev} {env e2 : Env} {x y d : D} {o o' : Bool} {x0 : D} (h1 : env[i]? = some (some (o', x0))) (h2 : b env = .ok y e2) (h4 : e2[i]? = some (some (o, x))) (h3 : g x y = some d) : evBinO g i b env = .ok d e2 := by
  unfold evBinO
  rw [h1]
  show bindR (b env) _ = _
  rw [h2]
  show (match e2[i]? with | some (some (_, x)) => liftR (g x y) e2 | _ => .stuck) = _
  rw [h4]
  show liftR (g x y) e2 = _
  rw [h3]
  rfl
theorem evCons_eq {a : Ev} {r : EvA} {env e1 e2 : Env} {d : D} {ds : List D} (h1 : a env = .ok d e1) (h2 : r e1 = .ok ds e2) : evCons a r env = .ok (d :: ds) e2 := by
  unfold evCons
  rw [h1]
  show bindR (r e1) _ = _
  rw [h2]
  rfl
theorem evNil_eq {env : Env} : evNil env = .ok [] env := rfl
theorem evLst_eq {r : EvA} {env e : Env} {ds : List D} (h : r env = .ok ds e) (hz : ds.length ≤ sizeLine) : evLst r env = .ok (.lst ds) e := by
  unfold evLst
  rw [h]
  show (if ds.length ≤ sizeLine then _ else _) = _
  rw [if_pos hz]
theorem evIO_eq {f : List D → Option (D × D)} {i : Nat} {a : EvA} {env e1 : Env} {ds : List D} {x0 x d x' : D} (h0 : env[i]? = some (some (true, x0))) (h1 : a env = .ok ds e1) (h2 : e1[i]? = some (some (true, x))) (h3 : f (x :: ds) = some (d, x')) : evIO f i a env = .ok d (e1.set i (some (true, x'))) := by
  unfold evIO
  rw [h0]
  show bindR (a env) _ = _
  rw [h1]
  show (match e1[i]? with | some (some (true, x)) => (match f (x :: ds) with | some (d, x') => R.ok d (e1.set i (some (true, x'))) | none => R.stuck) | _ => R.stuck) = _
  rw [h2]
  show (match f (x :: ds) with | some (d, x') => R.ok d (e1.set i (some (true, x'))) | none => .stuck) = _
  rw [h3]
theorem gMul_eq {i j : Int} (h : mulFits i j = true) : gMul (.int i) (.int j) = some (.int (i * j)) := by
  show gI mulFits (fun i j => D.int (i * j)) (.int i) (.int j) = _
  unfold gI
  simp only
  rw [if_pos h]
theorem gAddL_eq {a b : List D} (h : a.length + b.length ≤ sizeLine) : gAdd (.lst a) (.lst b) = some (.lst (a ++ b)) := by
  show (if a.length + b.length ≤ sizeLine then _ else _) = _
  rw [if_pos h]
theorem runIO_eq {n : Nat} {ev : EvS} {x d x' : D} {r : List D} {env : Env} (h : ev (envIO n x r) = .rt false d env) (h0 : env[0]? = some (some (true, x'))) : runIO n ev (x :: r) = some (d, x') := by
  unfold runIO
  simp only
  rw [h]
  simp only
  rw [h0]
theorem runP_eq {n : Nat} {ev : EvS} {d : D} {ds : List D} {env : Env} (h : ev (envOf n ds) = .rt false d env) : runP n ev ds = some d := by
  unfold runP
  rw [h]
theorem evLC_eq {lo n : Nat} {it : EvA} {g : GV} {c : EvT} {e : Ev} {env env1 env2 : Env} {ds ys : List D} (h1 : it env = .ok ds env1) (hl : env1.length = lo) (h2 : lcO g c e ds (env1 ++ List.replicate (n - lo) none) = .ok ys env2) (hz : ys.length ≤ sizeLine) : evLC lo n it g c e env = .ok (.lst ys) (env2.take lo) := by
  unfold evLC
  rw [h1]
  show (if env1.length = lo then _ else _) = _
  rw [if_pos hl, h2]
  show (if ys.length ≤ sizeLine then _ else _) = _
  rw [if_pos hz]
theorem dig (n : Int) (m : Nat) (hm : 0 < m) : ∃ d : Nat, d < m ∧ n % (m : Int) = (d : Int) := by
  have h1 : 0 ≤ n % (m : Int) := Int.emod_nonneg n (by omega)
  have h2 : n % (m : Int) < m := Int.emod_lt_of_pos n (by omega)
  exact ⟨(n % (m : Int)).toNat, by omega, by omega⟩
theorem atI_lt {α : Type} {xs : List α} {d : Nat} (h : d < xs.length) : atI xs (d : Int) = some xs[d] := atI_nat (List.getElem?_eq_getElem h)
end Ev
namespace Ev
open PySem PySem.Spec PyProof.Rows L2 PySem.Builtin
section
variable {X : Cx} {C : Cfg} {pos : Pos} {e x y : Expr} {a b : Ev}
def gNeg : D → Option D
  | .int i => some (.int (-i))
  | _ => none
theorem ud_neg : UnD C (rU fun i => .int (-i)) gNeg := by
  intro Pr F env σ H x d vx Q r px e q
  cases x with
  | int i => cases e; exact ⟨i, px.int, q _ H F r (Same.refl F) rfl⟩
  | _ => cases e
theorem x_neg (ha : PX X C x a) : PX X C (.UnaryOp .USub x pos) (evUn gNeg a) := px_un un_neg ud_neg ha
def gRev : D → Option D
  | .str z => some (.str z.reverse)
  | _ => none
def evRev (a : Ev) : Ev := fun env => bindR (a env) fun d env1 => liftR (gRev d) env1
end
end Ev
namespace Ev
open PySem PySem.Spec PyProof.Rows L2 PySem.Builtin
structure Pr where
  p : Addr
  k : Key
  kv : Value
  v : Value
end Ev
namespace L2
open PySem PySem.Spec PyProof.Rows PySem.Builtin PySem.Builtin.Str
section
variable {X : Cx}
theorem clip_str (v : Int) (n d : Nat) : max 0 (min (if v < 0 then v + (n : Int) else v) (n : Int)) = ((HT.sIx n d (some v) : Nat) : Int) := by
  show _ = (((if v < 0 then (v + (n : Int)).toNat else min v.toNat n) : Nat) : Int)
  by_cases hv : v < 0
  · simp only [if_pos hv]; omega
  · simp only [if_neg hv]; omega
theorem range_one (a b : Nat) : sliceRange (a : Int) (b : Int) 1 = List.range' a (b - a) := by
  unfold sliceRange
  have h1 : (1 : Int) > 0 := by decide
  simp only [if_pos h1]
  have hc : (if (a : Int) < (b : Int) then ((b : Int) - (a : Int) + 1 - 1) / 1 else 0).toNat = b - a := by
    by_cases h : (a : Int) < (b : Int)
    · rw [if_pos h, Int.ediv_one]; omega
    · rw [if_neg h]; omega
  rw [hc, List.range'_eq_map_range]
  apply List.map_congr_left
  intro k _
  omega
theorem pick_str (lo hi : Option Int) (n : Nat) : strSliceIndices lo hi 1 n = List.range' (HT.sIx n 0 lo) (HT.sIx n n hi - HT.sIx n 0 lo) := by
  have h1 : (1 : Int) > 0 := by decide
  unfold strSliceIndices
  simp only [if_pos h1]
  rw [← range_one]
  congr 1
  · cases lo with
    | none => rfl
    | some v => exact clip_str v n 0
  · cases hi with
    | none => rfl
    | some v => exact clip_str v n n
theorem fm_range (c : List Nat) : ∀ (m a : Nat), a + m ≤ c.length → (List.range' a m).filterMap (c.toArray[·]?) = (c.drop a).take m
  | 0, a, _ => by simp
  | m + 1, a, h => by
    rw [List.range'_succ, List.filterMap_cons]
    have e : c.toArray[a]? = some c[a] := by simp
    rw [e, fm_range c m (a + 1) (by omega), List.drop_eq_getElem_cons (l := c) (i := a) (by omega), List.take_succ_cons]
def cutN (z : List Nat) (lo hi : Option Int) : List Nat := (z.drop (HT.sIx z.length 0 lo)).take (HT.sIx z.length z.length hi - HT.sIx z.length 0 lo)
def rSlS : V → Option Int → Option Int → Hp → VK → Prop := fun x lo hi H Q => ∃ z : List Nat, x = .str ⟨z.toArray⟩ ∧ z.length ≤ sizeLine ∧ Q (.str ⟨(cutN z lo hi).toArray⟩) H
theorem part_of {v : Value} {o : Option Int} (p : IsPart v o) : ∃ l : Option (Int × Tok), v = partValue l ∧ l.map (·.1) = o := by
  cases p with
  | none => exact ⟨none, rfl, rfl⟩
  | int i t => exact ⟨some (i, t), rfl, rfl⟩
theorem sl_str : SlR X rSlS := by
  intro pins s σ H x v vl vu lo hi sl Q I rx hs pl pu h
  obtain ⟨z, rfl, hz, q⟩ := h
  obtain ⟨t, rfl⟩ := rx
  obtain ⟨l, rfl, el⟩ := part_of pl
  obtain ⟨u, rfl, eu⟩ := part_of pu
  refine ⟨"str", _, PySem.F.slot_str_getitem.lookup, typeIs_str s _ t, ?_⟩
  obtain ⟨o, h1, h2, h3⟩ := hs
  refine wpAny_getItem_str_slice (l := l) (u := u) (st := none) ⟨o, h1, h2, h3⟩ rfl ?_
  have hp : slicePicked ⟨z.toArray⟩ l u none = List.range' (HT.sIx z.length 0 lo) (HT.sIx z.length z.length hi - HT.sIx z.length 0 lo) := by
    unfold slicePicked
    rw [el, eu]
    show strSliceIndices lo hi 1 z.toArray.size = _
    rw [List.size_toArray, pick_str]
  have hle : HT.sIx z.length 0 lo + (HT.sIx z.length z.length hi - HT.sIx z.length 0 lo) ≤ z.length ∨ HT.sIx z.length z.length hi - HT.sIx z.length 0 lo = 0 := by
    have a1 := HT.sIx_le z.length 0 (Nat.zero_le _) lo
    have a2 := HT.sIx_le z.length z.length (Nat.le_refl _) hi
    omega
  have hcut : ((slicePicked ⟨z.toArray⟩ l u none).filterMap ((⟨z.toArray⟩ : Str).cps[·]?)) = cutN z lo hi := by
    rw [hp]
    unfold cutN
    rcases hle with hle | hle
    · exact fm_range z _ _ hle
    · rw [hle]; simp
  unfold sliceMade
  split
  · rename_i hc
    have hlen : (slicePicked ⟨z.toArray⟩ l u none).length = z.length := by
      have := (Bool.and_eq_true_iff.mp hc).2
      have := eq_of_beq this
      simpa [Str.length] using this
    have hw : cutN z lo hi = z := by
      rw [hp, List.length_range'] at hlen
      unfold cutN
      have a2 := HT.sIx_le z.length z.length (Nat.le_refl _) hi
      have a0 : HT.sIx z.length 0 lo = 0 ∨ z.length = 0 := by omega
      rcases a0 with a0 | a0
      · rw [a0, List.drop_zero, List.take_of_length_le (by omega)]
      · have : z = [] := List.eq_nil_of_length_eq_zero a0
        subst this; simp
    rw [hw] at q
    exact ⟨.str ⟨z.toArray⟩, H, I, ⟨t, rfl⟩, q⟩
  · rw [hcut]
    refine ⟨?_, ⟨.str ⟨(cutN z lo hi).toArray⟩, H, I.tok _, ⟨_, rfl⟩, q⟩⟩
    show (cutN z lo hi).toArray.size ≤ sizeLine
    rw [List.size_toArray]
    unfold cutN
    rw [List.length_take, List.length_drop]
    omega
end
end L2
namespace Ev
open PySem PySem.Spec PyProof.Rows L2 PySem.Builtin
section
variable {X : Cx} {C : Cfg} {pos : Pos} {x y : Expr} {a b : Ev}
def gSlS : D → Option Int → Option Int → Option D
  | .str z, lo, hi => some (.str (cutN z lo hi))
  | _, _, _ => none
def evSlS (a : Ev) (lo hi : EvP) : Ev := fun env => bindR (a env) fun d env1 => bindR (lo env1) fun l env2 => bindR (hi env2) fun u env3 => liftR (gSlS d l u) env3
theorem cutN_len (z : List Nat) (lo hi : Option Int) : (cutN z lo hi).length ≤ z.length := by
  unfold cutN
  rw [List.length_take, List.length_drop]
  omega
def gCat : D → D → Option D
  | .lst a, .lst b => if a.length + b.length ≤ sizeLine then some (.lst (a ++ b)) else none
  | _, _ => none
theorem n_cat (ha : PX X C x a) (hb : PXB X C y b) : PXN X C (.BinOp x .Add y pos) (evBin gCat a b) := (pe_op op_cat ha hb).imp fun σ H Q hq => by
  obtain ⟨Pr, F, env, env', d, rl, e, q⟩ := hq
  obtain ⟨u, env1, e1, e2⟩ := bindR_ok e
  obtain ⟨v, env2, e3, e4⟩ := bindR_ok e2
  obtain ⟨e5, rfl⟩ := liftR_ok e4
  unfold gCat at e5
  split at e5
  · rename_i l1 l2
    split at e5
    · rename_i hz
      cases e5
      refine ⟨Pr, F, env, env1, _, rl, e1, fun vx H1 F1 r1 s1 p1 => ⟨Pr, F1, env1, env', _, r1, e3, fun vy H2 F2 r2 s2 p2 => ?_⟩⟩
      obtain ⟨z1, a1, vs, rfl, h1, h2⟩ := p1
      obtain ⟨z2, a2, ws, rfl, h3, h4⟩ := p2.lst r2.fr
      refine ⟨a1, a2, vs, ws, rfl, rfl, r2.fr _ _ (s2 _ _ h1), h3, by rw [h2.length, h4.length]; exact hz, fun p hp => ?_⟩
      exact q _ _ F2 (r2.fresh hp) (s1.trans s2) (New.of r2 hp ⟨by rw [List.length_append]; exact hz, vs ++ ws, upd_same, (Reps.mono s2 _ _ h2).append h4⟩)
    · cases e5
  · cases e5
end
end Ev
namespace HT
open PySem PySem.Spec PyProof PyProof.Rows PySem.Builtin
section
variable {prog : Program} {w : World} {A : Around} {E : Value → Shared → Prop} {s : Shared}
theorem getItem_tuple_whole {t sl : Addr} {items : Array Value} {vl vu : Value} {lo hi : Option Int} {Q : Value → Shared → Prop} (ht : IsTup s.heap t items) (hs : s.heap.IsSliceOf sl vl vu .none) (pl : IsPart vl lo) (pu : IsPart vu hi)
    (hw : sIx items.size 0 lo = 0 ∧ sIx items.size items.size hi = items.size)
    (h : Q (.ref t) s) : wpAny (model prog w) A (getItem (.ref t) (.ref sl)) Q E s := by
  obtain ⟨os, hos, hcs, hds⟩ := id hs
  have hTs : s.TypeIs (.ref sl) "slice" := ⟨os, hos, hcs⟩
  unfold getItem
  try with_reducible refine wpAny_holding ?_
  first | refine wpAny_bind (wpAny_pure ?_) | skip
  refine wpAny_bind (wpAny_sequenceKey ht.typeIs (by decide) ?_)
  refine wpAny_bind (wpAny_callSpecial?_slot (name := Str.ofString "__getitem__") ht.typeIs PyProof.Rows.slot_tuple_getitem
    (wpAny_call_entry PyProof.Rows.slot_tuple_getitem ht.typeIs entry_tuple_getitem ?_ (args_tuple_getitem _ _)))
  show wpAny _ _ (Builtin.Tuple.tupleItemsOf (.ref t) >>= _) _ _ s
  refine wpAny_bind (tupleItemsOf_ ht ?_)
  refine wpAny_bind (wpAny_typeOf hTs ?_)
  rw [if_pos (by decide)]
  refine wpAny_bind (sliceApplied_gen hs pl pu ?_)
  have hyes : (((sIx items.size 0 lo : Nat) : Int) == 0 && (1 : Int) == 1 && (sIx items.size items.size hi - sIx items.size 0 lo) == items.size) = true := by
    rw [hw.1, hw.2]
    simp
  show wpAny _ _ (if (((sIx items.size 0 lo : Nat) : Int) == 0 && (1 : Int) == 1 && (sIx items.size items.size hi - sIx items.size 0 lo) == items.size) = true then _ else _) _ _ s
  rw [if_pos hyes]
  refine wpAny_bind (m := Builtin.Tuple.tupleIsExact (.ref t)) ?_
  unfold Builtin.Tuple.tupleIsExact
  refine wpAny_bind (wpAny_typeOf ht.typeIs ?_)
  refine wpAny_pure ?_
  rw [if_pos (by decide)]
  exact wpAny_bind (wpAny_rule (wpAny_pure ⟨_, rfl, wpAny_pure h⟩))
end
end HT
namespace L2
open PySem PySem.Spec PyProof.Rows
section
variable {X : Cx}
def rSlW (K : PySem.W.Frag) : V → Option Int → Option Int → Hp → VK → Prop := fun x lo hi H Q => ∃ a xs, x = .ref a ∧ SqT K H a xs ∧ (HT.sIx xs.length 0 lo = 0 ∧ HT.sIx xs.length xs.length hi = xs.length) ∧ Q (.ref a) H
theorem sl_whole : SlR X (rSlW X.K) := by
  intro pins s σ H x v vl vu lo hi sl Q I rx hs pl pu h
  obtain ⟨a, xs, rfl, hx, hw, q⟩ := h
  cases rx
  obtain ⟨its, r, ht, hz⟩ := I.tuple hx
  have hlen : its.toArray.size = xs.length := by rw [List.size_toArray]; exact r.length.symm
  refine ⟨"tuple", _, PyProof.Rows.slot_tuple_getitem.lookup, ht.typeIs, ?_⟩
  refine HT.getItem_tuple_whole ht hs pl pu (by rw [hlen]; exact hw) ?_
  exact ⟨.ref a, H, I, rfl, q⟩
end
end L2
namespace Ev
open PySem PySem.Spec PyProof.Rows L2
section
variable {X : Cx} {C : Cfg} {pos : Pos} {x : Expr} {a : Ev}
def gSlT : D → Option Int → Option Int → Option D
  | .tup xs, lo, hi => if HT.sIx xs.length 0 lo = 0 ∧ HT.sIx xs.length xs.length hi = xs.length then some (.tup xs) else some (.tup (cutD xs lo hi))
  | _, _, _ => none
def evSlT (a : Ev) (lo hi : EvP) : Ev := fun env => bindR (a env) fun d env1 => bindR (lo env1) fun l env2 => bindR (hi env2) fun u env3 => liftR (gSlT d l u) env3
theorem slT_go {Pr F : Hp} {env : Env} {σ : L2.St} {H : Hp} {x d : D} {v : V} {lo hi : Option Int} {Q : VK} (r : Rel C Pr F env σ H) (p : Rep C.K F x v) (e : gSlT x lo hi = some d) (q : ∀ v H' F', Rel C Pr F' env σ H' → Same F F' → Rep C.K F' d v → Q v H') :
    rSlT C.K v lo hi H Q ∨ rSlW C.K v lo hi H Q := by
  unfold gSlT at e
  split at e
  · obtain ⟨z, a, vs, rfl, h1, _, h2⟩ := BRep.tup r.fr (.inl p)
    split at e
    · rename_i hn
      cases e
      exact .inr ⟨a, vs, rfl, h1, by rw [h2.length]; exact hn, q _ H F r (Same.refl F) p⟩
    · rename_i hn
      cases e
      refine .inl ⟨a, vs, rfl, h1, by rw [h2.length]; exact hn, fun b hb => ?_⟩
      obtain ⟨r2, s2⟩ := r.new (o := .tup (cutV vs lo hi)) hb
      exact q _ _ _ r2 s2 ⟨Nat.le_trans (cutD_len _ _ _) z, b, _, rfl, SqT.of upd_same, Reps.mono s2 _ _ (h2.cut lo hi)⟩
  · cases e
end
end Ev
namespace Ev
open PySem PySem.Spec PyProof.Rows L2
section
variable {X : Cx} {C : Cfg} {pos : Pos} {x y z : Expr} {a b c : Ev}
def evChain (g g' : D → D → Option D) (a b c : Ev) : Ev := fun env => bindR (a env) fun u e1 => bindR (b e1) fun v e2 => match g u v with
  | some (.bl k) => if k = true then bindR (c e2) fun t e3 => liftR (g' v t) e3 else .ok (.bl false) e2
  | _ => .stuck
end
end Ev
namespace Ev
open PySem PySem.Spec PyProof.Rows L2
def evIOn (f : List D → Option (D × D)) (c : Ev) (a : EvA) : Ev := fun env => bindR (c env) fun x env1 => bindR (a env1) fun ds env2 => match f (x :: ds) with
  | some (d, _) => .ok d env2
  | none => .stuck
end Ev
namespace Ev
open PySem PySem.Spec PyProof.Rows L2
section
variable {X : Cx} {C : Cfg} {pos : Pos} {n : Str}
def stExt (i : Nat) (a : Ev) : EvS := fun env => match env[i]? with
  | some (some (true, .lst _)) => bindO (a env) fun d env1 => (match env1[i]?, d with
    | some (some (true, .lst xs)), .lst zs => if xs.length + zs.length ≤ sizeLine then .nx (env1.set i (some (true, .lst (xs ++ zs)))) else .stuck
    | _, _ => .stuck)
  | _ => .stuck
end
end Ev
namespace SX
open PySem PySem.Spec PyProof.Rows L2 PySem.Builtin
def addX (ys : List Str) (x : Str) : List Str := if x ∈ ys then ys else ys ++ [x]
def uniqX (zs : List Str) : List Str := zs.foldl addX []
theorem addX_len (ys : List Str) (x : Str) : (addX ys x).length ≤ ys.length + 1 := by
  unfold addX; split
  · omega
  · simp
theorem uniq_len (zs : List Str) : ∀ ys : List Str, (zs.foldl addX ys).length ≤ ys.length + zs.length := by
  induction zs with
  | nil => intro ys; exact Nat.le_refl _
  | cons z zs ih => intro ys; rw [List.foldl_cons, List.length_cons]; have := ih (addX ys z); have := addX_len ys z; omega
def led (w : World) : Bool := !(w.params.followText "set-order")
structure TOk (P : Program) (w : World) (es : Array (Int × Value)) (t : SetTable) (ys : List Str) : Prop where
  el : ElemsOf (strKind P w) es.toList
  tx : ∃ ss : List Str, StrsAre (es.toList.map (·.2)) ss ∧ ss.Perm ys
  fit : t.fits es.size = true
  ld : t.led = led w
  pl : es.size ≠ 0 → t.plain = false
def TSet (P : Program) (w : World) (h : Heap) (a : Addr) (ys : List Str) : Prop :=
  ∃ o es ep t, h.get? a = some o ∧ o.ExactSet ∧ o.data = .set es ep t ∧ TOk P w es t ys
theorem TSet.keep {P : Program} {w : World} {h h' : Heap} {a : Addr} {ys : List Str} (x : TSet P w h a ys) (k : ∀ o, h.get? a = some o → h'.get? a = some o) : TSet P w h' a ys :=
  let ⟨o, es, ep, t, e, r⟩ := x; ⟨o, es, ep, t, k o e, r⟩
theorem strs_len {vs : List Value} {ss : List Str} (h : StrsAre vs ss) : vs.length = ss.length := by
  induction h with
  | nil => rfl
  | cons _ _ _ ih => simp [ih]
theorem strs_mem {vs : List Value} {ss : List Str} (h : StrsAre vs ss) : ∀ v ∈ vs, ∃ x t, v = .str x t ∧ x ∈ ss := by
  induction h with
  | nil => intro v hv; cases hv
  | cons y t _ ih =>
    intro v hv
    rcases List.mem_cons.mp hv with rfl | hv
    · exact ⟨y, t, rfl, List.mem_cons_self⟩
    · obtain ⟨x, t, e, m⟩ := ih v hv; exact ⟨x, t, e, List.mem_cons_of_mem _ m⟩
theorem strs_back {vs : List Value} {ss : List Str} (h : StrsAre vs ss) : ∀ x ∈ ss, ∃ t, Value.str x t ∈ vs := by
  induction h with
  | nil => intro x hx; cases hx
  | cons y t _ ih =>
    intro x hx
    rcases List.mem_cons.mp hx with rfl | hx
    · exact ⟨t, List.mem_cons_self⟩
    · obtain ⟨t, m⟩ := ih x hx; exact ⟨t, List.mem_cons_of_mem _ m⟩
theorem strs_app {vs us : List Value} {ss rs : List Str} (h : StrsAre vs ss) (g : StrsAre us rs) : StrsAre (vs ++ us) (ss ++ rs) := by
  induction h with
  | nil => exact g
  | cons y t _ ih => exact .cons y t ih
theorem strs_perm {vs us : List Value} (p : us.Perm vs) : ∀ {ss : List Str}, StrsAre vs ss → ∃ rs, StrsAre us rs ∧ rs.Perm ss := by
  induction p with
  | nil => intro ss h; exact ⟨ss, h, .rfl⟩
  | cons x _ ih =>
    intro ss h
    cases h with
    | cons y t h =>
      obtain ⟨rs, h1, h2⟩ := ih h
      exact ⟨y :: rs, .cons y t h1, h2.cons y⟩
  | swap x y l =>
    intro ss h
    cases h with
    | cons a t h => cases h with
      | cons b u h => exact ⟨b :: a :: _, .cons b u (.cons a t h), .swap _ _ _⟩
  | trans _ _ ih1 ih2 =>
    intro ss h
    obtain ⟨rs, h1, h2⟩ := ih2 h
    obtain ⟨qs, h3, h4⟩ := ih1 h1
    exact ⟨qs, h3, h4.trans h2⟩
theorem TOk.size {P : Program} {w : World} {es : Array (Int × Value)} {t : SetTable} {ys : List Str} (x : TOk P w es t ys) : es.size = ys.length := by
  obtain ⟨ss, h1, h2⟩ := x.tx
  rw [← h2.length_eq, ← strs_len h1, List.length_map, Array.length_toList]
theorem or_led (t : SetTable) (n : Nat) : (t.orStandIn n).led = t.led ∧ (t.plain = false → (t.orStandIn n).plain = false) := by
  unfold SetTable.orStandIn
  split
  · exact ⟨rfl, id⟩
  · exact ⟨rfl, fun _ => rfl⟩
theorem lay_led (t : SetTable) (es : Array (Int × Value)) (h : Int) (x : Value) : (layNew t es h x).2.1.led = t.led ∧ (t.plain = false → (layNew t es h x).2.1.plain = false) := by
  unfold layNew
  split
  · exact or_led _ _
  · exact ⟨rfl, fun _ => rfl⟩
theorem laid_led {mask finger moves : Nat} {l p : Bool} {hs : Array Int} {t : SetTable} {o : Array Nat} (h : SetTable.laid mask finger moves l p hs = some (t, o)) : t.led = l ∧ t.plain = p := by
  unfold SetTable.laid at h
  cases h1 : SetTable.layClean mask hs with
  | none => rw [h1] at h; cases h
  | some ow => rw [h1] at h; injection h with h; injection h with h _; subst h; exact ⟨rfl, rfl⟩
theorem relay_led (t : SetTable) (es : Array (Int × Value)) (n : Nat) : (relayAll t es n).2.1.led = t.led ∧ (t.plain = false → (relayAll t es n).2.1.plain = false) := by
  unfold relayAll
  split
  · rename_i t' order e
    obtain ⟨h1, h2⟩ := laid_led e
    dsimp only
    split
    · exact ⟨h1, fun z => h2.trans z⟩
    · exact ⟨rfl, fun _ => rfl⟩
  · exact ⟨rfl, fun _ => rfl⟩
section
variable {P : Program} {w : World} {A : Around} {E : Value → Shared → Prop} {s : Shared} {a : Addr}
theorem wpRule (b : Bool) {n : String} {s₁ : Shared} {Q : Unit → Shared → Prop} (h : Q () s₁) : wpAny (model P w) A (match b with | true => rule n | false => pure ()) Q E s₁ := by
  cases b
  · exact wpAny_pure h
  · exact wpAny_rule h
theorem store {o : Obj} {es es' : Array (Int × Value)} {ep : Nat} {t t' : SetTable} {ys : List Str} {Q : Unit → Shared → Prop} (ho : s.heap.get? a = some o) (hx : o.ExactSet) (hd : o.data = .set es ep t) (k : TOk P w es' t' ys) (hz : ys.length < scanBound)
    (h : ∀ g o', Heap.SameBut a s.heap g → g.get? a = some o' → o'.ExactSet → o'.data = .set es' (ep + 1) t' → Q () { s with heap := g }) : wpAny (model P w) A (storeSet a es' t') Q E s := by
  have hb : es'.size < scanBound := by rw [k.size]; exact hz
  refine wpAny_storeSet_of ho hd ?_ (fits_of_scanBound hb)
  have e := Heap.get?_update_self (Obj.putSet es' t') ho (by rw [putSet_of es' t' hd]; rfl)
  rw [putSet_of es' t' hd] at e
  exact h _ _ (Heap.SameBut.update s.heap a _) e hx rfl
theorem add_there {k : Str} {tk : Tok} {o : Obj} {es : Array (Int × Value)} {ep : Nat} {t : SetTable} {ys : List Str} {Q : Bool → Shared → Prop} (ho : s.heap.get? a = some o) (hx : o.ExactSet) (hd : o.data = .set es ep t) (x : TOk P w es t ys) (hz : ys.length + 1 < scanBound)
    (h : ∀ g b, Heap.SameBut a s.heap g → TSet P w g a (addX ys k) → Q b { s with heap := g }) : wpAny (model P w) A (setAddHashed a (.str k tk) ((strKind P w).hash k)) Q E s := by
  have hk : (strKind P w).is k (.str k tk) = true := strKind_is P w k tk
  have hsc : (Value.str k tk).scannable = true := rfl
  have hb : es.size < scanBound := by rw [x.size]; omega
  unfold setAddHashed setAddHashedIn
  refine wpAny_holding (wpAny_bind (wpAny_setState_of ho hd x.fit ?_))
  dsimp only
  rw [if_pos (byScan_of hsc hb x.el)]
  unfold setAddByScan
  refine wpAny_bind (wpAny_bind (wpAny_rule (wpAny_bind (wpAny_setScan_of hk ho hd x.fit x.el ?_))))
  obtain ⟨ss, s1, s2⟩ := x.tx
  cases hr : es.toList.findIdx? (fun e => (strKind P w).is k e.2) with
  | some j =>
    dsimp only
    obtain ⟨hj, hpj, _⟩ := List.findIdx?_eq_some_iff_getElem.mp hr
    refine wpAny_pure (wpAny_pure ?_)
    have hm : k ∈ ys := by
      obtain ⟨y, u, e1, e2⟩ := strs_mem s1 (es.toList[j].2) (List.mem_map.mpr ⟨_, List.getElem_mem hj, rfl⟩)
      rw [e1] at hpj
      have : k = y := (strKind P w).inj _ _ _ hpj (strKind_is P w y u)
      subst this
      exact s2.mem_iff.mp e2
    have := h s.heap false (Heap.SameBut.refl a s.heap) (by rw [addX, if_pos hm]; exact ⟨o, es, ep, t, ho, hx, hd, x⟩)
    cases s; exact this
  | none =>
    dsimp only
    have hm : k ∉ ys := fun z => by
      obtain ⟨u, hu⟩ := strs_back s1 k (s2.mem_iff.mpr z)
      obtain ⟨e, he, e2⟩ := List.mem_map.mp hu
      have := List.findIdx?_eq_none_iff.mp hr e he
      rw [e2, strKind_is] at this
      cases this
    have hp := layNew_perm t es ((strKind P w).hash k) (.str k tk)
    have hf := layNew_fits t es ((strKind P w).hash k) (.str k tk)
    have hl := lay_led t es ((strKind P w).hash k) (.str k tk)
    generalize layNew t es ((strKind P w).hash k) (.str k tk) = L at hp hf hl ⊢
    obtain ⟨e1, t1, wd, gv⟩ := L
    dsimp only at hp hf hl ⊢
    rw [Array.toList_push] at hp
    have hel : ElemsOf (strKind P w) e1.toList := (x.el.push hk hsc).perm hp
    have htx : ∃ ss : List Str, StrsAre (e1.toList.map (·.2)) ss ∧ ss.Perm (ys ++ [k]) := by
      have h1 := strs_app s1 (.cons k tk .nil)
      obtain ⟨rs, h2, h3⟩ := strs_perm (hp.map (·.2)) (by rw [List.map_append]; exact h1)
      exact ⟨rs, h2, h3.trans (s2.append_right [k])⟩
    have hxy : addX ys k = ys ++ [k] := by rw [addX, if_neg hm]
    have hyz : (ys ++ [k]).length < scanBound := by rw [List.length_append]; exact hz
    refine wpAny_bind (wpRule _ ?_)
    /- the table that is laid down -/
    have hend : ∀ t2 : SetTable, t2.fits e1.size = true → t2.led = led w → t2.plain = false → wpAny (model P w) A (do
        storeSet a e1 t2
        if (!wd && t2.tooFull) = true then do
            (match (relayAll t2 e1 (SetTable.grown e1.size)).2.2 with | true => rule "set.scan.the-table-gave-way" | false => pure ())
            storeSet a (relayAll t2 e1 (SetTable.grown e1.size)).1 (relayAll t2 e1 (SetTable.grown e1.size)).2.1
            pure (some true)
          else pure (some true)) (fun r s' => wpAny (model P w) A (match r with | some added => pure added | none => setAddHashedIn a (.str k tk) ((strKind P w).hash k) 99999) Q E s') E s := by
      intro t2 f2 l2 p2
      have k2 : TOk P w e1 t2 (ys ++ [k]) := ⟨hel, htx, f2, l2, fun _ => p2⟩
      refine wpAny_bind (store ho hx hd k2 hyz fun g o1 sb go gx gd => ?_)
      split
      · have rp := relayAll_perm t2 e1 (SetTable.grown e1.size)
        have rf := relayAll_fits t2 e1 (SetTable.grown e1.size)
        have rl := relay_led t2 e1 (SetTable.grown e1.size)
        generalize relayAll t2 e1 (SetTable.grown e1.size) = L at rp rf rl ⊢
        obtain ⟨e3, t3, gv3⟩ := L
        dsimp only at rp rf rl ⊢
        obtain ⟨r1, q1, q2⟩ := htx
        obtain ⟨rs, h2, h3⟩ := strs_perm (rp.map (·.2)) q1
        have k3 : TOk P w e3 t3 (ys ++ [k]) := ⟨hel.perm rp, ⟨rs, h2, h3.trans q2⟩, rf, rl.1.trans l2, fun _ => rl.2 p2⟩
        refine wpAny_bind (wpRule _ ?_)
        refine wpAny_bind (store (s := { s with heap := g }) go gx gd k3 hyz fun g2 o2 sb2 go2 gx2 gd2 => ?_)
        refine wpAny_pure (wpAny_pure ?_)
        exact h g2 true (sb.trans sb2) (by rw [hxy]; exact ⟨o2, _, _, _, go2, gx2, gd2, k3⟩)
      · refine wpAny_pure (wpAny_pure ?_)
        exact h g true sb (by rw [hxy]; exact ⟨o1, _, _, _, go, gx, gd, k2⟩)
    split
    · rename_i hpl
      refine wpAny_bind ?_
      rw [hashByValue_scannable 8 hsc]
      refine wpAny_pure ?_
      exact hend _ (SetTable.fits_plain_off hf) (hl.1.trans x.ld) rfl
    · rename_i hpl
      refine wpAny_bind (wpAny_pure ?_)
      simp only [↓reduceIte]
      exact hend _ hf (hl.1.trans x.ld) (by simpa using hpl)
end
end SX
namespace SX
open PySem PySem.Spec PyProof.Rows L2 PySem.Builtin
section
variable {P : Program} {w : World} {A : Around} {E : Value → Shared → Prop} {s : Shared}
def seen (val : Nat → Str) (i : Nat) : List Str := ((List.range i).map val).foldl addX []
theorem seen_succ (val : Nat → Str) (i : Nat) : seen val (i + 1) = addX (seen val i) (val i) := by
  unfold seen
  rw [List.range_succ, List.map_append, List.foldl_append]
  rfl
theorem seen_len (val : Nat → Str) (i : Nat) : (seen val i).length ≤ i := by
  have := uniq_len ((List.range i).map val) []
  simpa [seen] using this
theorem fill {R : Result → Shared → Prop} {I : Addr} {fp wr : List Addr} {G : Array GenState → Array GenState → Prop} {n : Nat} {Pi : Nat → Value → Prop} {St : Nat → Shared → Prop} (W : WalksS P w A.in1 I fp wr G n Pi St) {a : Addr} (ha : a ∉ fp) {val : Nat → Str}
    (hv : ∀ i v, Pi i v → ∃ t, v = .str (val i) t) (hb : n + 1 < scanBound) (d : Nat) : ∀ (i : Nat) (s : Shared), i + d = n → St i s → TSet P w s.heap a (seen val i) → (∀ s', Moved (a :: wr) G s s' → TSet P w s'.heap a (seen val n) → R (.ok (.ret .none)) s') →
    codeAny (model P w) A (.builtin "set.update.loop" ⟨[.ref a, .ref I], []⟩) R s := by
  have hw : a ∉ wr := fun z => ha (W.sub _ z)
  have up : ∀ b ∈ wr, b ∈ a :: wr := fun b z => List.mem_cons_of_mem _ z
  induction d with
  | zero =>
    intro i s e st x hR
    obtain rfl : i = n := e
    refine codeAny_builtin PyProof.Rows.F.entry_set_update_loop ?_
    rw [Around.under_plainId PyProof.Rows.F.plain_set_update_loop _]
    show wpAny _ _ (pyNext (.ref I) >>= _) _ _ _
    refine wpAny_bind (W.done s _ _ st fun s' m => ?_)
    show wpAny _ _ (ret .none) _ _ _
    exact wpAny_pure (hR s' (m.mono up) (x.keep fun o z => m.heap a o hw z))
  | succ d ih =>
    intro i s e st x hR
    refine codeAny_builtin PyProof.Rows.F.entry_set_update_loop ?_
    rw [Around.under_plainId PyProof.Rows.F.plain_set_update_loop _]
    show wpAny _ _ (pyNext (.ref I) >>= _) _ _ _
    refine wpAny_bind (W.item i s _ _ (by omega) st fun v s' pv st' m => ?_)
    obtain ⟨t, rfl⟩ := hv i v pv
    show wpAny _ _ (holding _ (setAdd a _) >>= _) _ _ _
    unfold setAdd
    refine wpAny_bind (wpAny_holding (wpAny_holding (wpAny_bind ((strKind P w).pyHash (strKind_is P w (val i) t) ?_))))
    obtain ⟨o, es, ep, tb, ho, hx, hd, k⟩ := x.keep fun o z => m.heap a o hw z
    refine add_there (s := { s' with toks := s'.toks + 1 }) ho hx hd k (by have := seen_len val i; omega) fun g b sb y => ?_
    rw [← seen_succ] at y
    refine wpAny_pure ⟨plainId_quiet PyProof.Rows.F.plain_set_update_loop _, ih (i + 1) _ (by omega) (W.frame _ s' _ _ st' (Nat.le_succ _) fun c hc u z => ?_) y fun s2 m2 x2 => ?_⟩
    · exact (sb.2 c (fun q => ha (q ▸ hc))).trans z
    · refine hR s2 (Moved.trans W.gtrans ((m.mono up).then_heap (Nat.le_succ _) fun c u hc z => ?_) m2) x2
      exact (sb.2 c (fun q => hc (q ▸ List.mem_cons_self))).trans z
theorem new_led (v : Value) {Q : Value → Shared → Prop} (h : Q (.ref s.heap.objs.size) { s with heap := s.heap.push { cls := .type "set", dict := none, data := .set #[] 0 (.fresh 0 0 (led w)) } }) :
    codeAny (model P w) A (.call (.builtin "set.__new__") ⟨[.type "set", v], []⟩) (wants Q E) s := by
  refine codeAny_of_tree ?_
  show wpAny _ _ (checkBuiltinCall "set.__new__" ⟨[.type "set", v], []⟩ >>= fun _ => again (.builtin "set.__new__" ⟨[.type "set", v], []⟩)) _ _ s
  refine wpAny_bind (wpAny_of_eq (PySem.F.newCall_set_1 v) (wpAny_pure ⟨plainId_quiet PySem.F.plain_set_new _, codeAny_builtin PySem.F.entry_set_new ?_⟩))
  rw [Around.under_plainId PySem.F.plain_set_new _]
  unfold Builtin.«set.__new__» Builtin.Frozenset.newClass
  have hs := sub_set_self
  obtain ⟨_, _, _, _, _⟩ := s
  dsimp only
  wp_walk
  refine wpAny_askSetting (wpAny_pure ?_)
  dsimp only
  simp only [newObj]
  exact wpAny_bind (wpAny_alloc (wpAny_pure (wpAny_pure h)))
def fresh (w : World) : Obj := { cls := .type "set", dict := none, data := .set #[] 0 (.fresh 0 0 (led w)) }
theorem fresh_ok (h : Heap) {a : Addr} (e : h.get? a = some (fresh w)) : TSet P w h a [] :=
  ⟨_, #[], 0, _, e, ⟨rfl, rfl, rfl⟩, rfl, ⟨fun _ z => by simp at z, ⟨[], .nil, .rfl⟩, rfl, rfl, fun z => absurd rfl z⟩⟩
theorem set_of {l : Addr} {its : Array Value} {zs : List Str} {Q : Value → Shared → Prop} (hh : A.handled = none) (hl : s.heap.IsList l its) (hi : StrsAre its.toList zs) (hb : zs.length + 1 < scanBound)
    (h : ∀ (g : Heap) (tk : Nat), TSet P w g s.heap.objs.size (uniqX zs) → (∀ b o, s.heap.get? b = some o → g.get? b = some o) → Q (.ref s.heap.objs.size) { s with heap := g, toks := tk }) :
    wpAny (model P w) A (call (.type "set") [.ref l]) Q E s := by
  obtain ⟨c, tl, mro⟩ := PySem.F.called_set.mro
  have made := PySem.F.called_set.made
  have sub := PySem.F.called_set.sub
  refine wpAny_call (codeAny_of_tree ?_)
  show wpAny _ _ (callAny (.type "set") _) _ _ _
  refine wpAny_pure ⟨Code.quiet_builtin _ (by decide +kernel), codeAny_builtin PySem.F.entry_type_call ?_⟩
  rw [Around.under_plain (weight_type_call_type "set" [.ref l] []) rfl]
  have c1 := PySem.F.called_set.notType
  have c2 := PySem.F.called_set.canCreate
  have c3 := PySem.F.typeCall_set_1 (.ref l)
  repeat (any_goals (first | assumption | wp_step))
  refine codeAny_mono (new_led (.ref l) (E := E) (Q := fun v s1 => v = .ref s.heap.objs.size ∧ s1 = { s with heap := s.heap.push (fresh w) }) ⟨rfl, rfl⟩) fun r s1 hr => ?_
  have hlen : its.size = zs.length := by rw [← Array.length_toList]; exact strs_len hi
  cases r with
  | error e => exact hr
  | ok fl =>
    cases fl with
    | ret v =>
      obtain ⟨rfl, rfl⟩ := hr
      have e0 : (s.heap.push (fresh w)).get? s.heap.objs.size = some (fresh w) := Heap.get?_push_size _ rfl
      have hT : Shared.TypeIs { s with heap := s.heap.push (fresh w) } (.ref s.heap.objs.size) "set" := ⟨_, e0, rfl⟩
      have c4 := PySem.F.called_set.init.lookup
      have c5 := PySem.F.called_set.init.bind (.ref s.heap.objs.size)
      repeat (any_goals (first | assumption | wp_step))
      refine codeAny_mono (codeAny_call_builtin (R := wants (fun r s2 => r = .none ∧ ∃ g tk, s2 = { s with heap := g, toks := tk } ∧ TSet P w g s.heap.objs.size (uniqX zs) ∧ (∀ b o, s.heap.get? b = some o → g.get? b = some o)) E)
        PySem.F.called_set.init.plain PySem.F.entry_set_init (check_set_init_1 hT ?_)) fun r2 s2 hr2 => ?_
      · obtain ⟨ol, hol, hcl, nl, hdl⟩ := hl
        obtain ⟨ocls, odict, odata, oslots⟩ := ol
        simp only at hcl hdl
        subst hcl; subst hdl
        have hol' : (s.heap.push (fresh w)).get? l = some { cls := .type "list", dict := odict, data := .seq its nl, slots := oslots } := Heap.get?_push_of_some _ hol
        have l1 : (s.heap.push (fresh w)).IsList l its := ⟨_, hol', rfl, nl, rfl⟩
        have n1 := PySem.F.sub_list_set
        have n2 := PySem.F.sub_list_frozenset
        have n3 : (Value.type "list" == Value.type "dict") = false := by decide
        have e1 : (s.heap.push (fresh w)).get? s.heap.objs.size = some { cls := .type "set", dict := none, data := .set #[] 0 (.fresh 0 0 (led w)) } := e0
        unfold Builtin.«set.__init__» noKeywords Builtin.Frozenset.updateFrom
        generalize hPI : pyIter = PI
        wp_walk
        subst hPI
        refine wpAny_pyIter_list l1 (wpAny_bind (wpAny_runValue ?_))
        have lt : l < s.heap.objs.size := Heap.lt_size hol
        have sz : (s.heap.push (fresh w)).objs.size = s.heap.objs.size + 1 := Heap.size_push _ _
        have hh3 : A.in1.in1.in1.handled = none := by simp [hh]
        have a1 : l ≠ (s.heap.push (fresh w)).objs.size := by rw [sz]; exact Nat.ne_of_lt (Nat.lt_succ_of_lt lt)
        have a2 : s.heap.objs.size ∉ [(s.heap.push (fresh w)).objs.size, l] := by
          rw [sz]
          simp only [List.mem_cons, List.not_mem_nil, or_false, not_or]
          exact ⟨Nat.ne_of_lt (Nat.lt_succ_self _), Nat.ne_of_gt lt⟩
        have hv : ∀ (i : Nat) (v : Value), its[i]? = some v → ∃ t, v = .str (zs.getD i ⟨#[]⟩) t := by
          have : ∀ {vs : List Value} {ss : List Str}, StrsAre vs ss → ∀ (i : Nat) (v : Value), vs[i]? = some v → ∃ t, v = .str (ss.getD i ⟨#[]⟩) t := by
            intro vs ss q
            induction q with
            | nil => intro i v z; simp at z
            | cons y t _ ih =>
              intro i v z
              cases i with
              | zero => simp at z; exact ⟨t, z.symm⟩
              | succ i => simpa using ih i v (by simpa using z)
          exact fun i v z => this hi i v (by rw [Array.getElem?_toList]; exact z)
        refine fill ((Walks.list hh3 _ l a1 its).toS) a2 (val := fun i => zs.getD i ⟨#[]⟩) hv (by omega) its.size 0 _ (by omega) ⟨⟨_, Heap.get?_push_size _ rfl, rfl, rfl⟩, l1.push _⟩ (fresh_ok _ (Heap.get?_push_of_some _ e0)) fun s' m x => ?_
        have es : seen (fun i => zs.getD i ⟨#[]⟩) its.size = uniqX zs := by
          unfold seen uniqX
          congr 1
          rw [hlen]
          apply List.ext_getElem
          · simp
          · intro i h1 h2; simp [List.getD_eq_getElem?_getD, h2]
        rw [es] at x
        obtain ⟨g, gn, dr, tk, os⟩ := s'
        have q1 : gn = s.gens := m.gens
        have q2 : dr = s.drawn := m.drawn
        have q3 : os = s.os := m.os
        subst q1 q2 q3
        refine wpAny_pure ?_
        show wpAny _ _ (ret .none) _ _ _
        refine wpAny_pure ⟨rfl, g, tk, rfl, x, fun b o e => ?_⟩
        have hb1 : b < s.heap.objs.size := Heap.lt_size e
        refine m.heap b o ?_ (Heap.get?_push_of_some _ (Heap.get?_push_of_some _ e))
        rw [sz]
        simp only [List.mem_cons, List.not_mem_nil, or_false, not_or]
        exact ⟨Nat.ne_of_lt hb1, Nat.ne_of_lt (Nat.lt_succ_of_lt hb1)⟩
      · cases r2 with
        | error e => exact hr2
        | ok fl2 =>
          cases fl2 with
          | ret r =>
            obtain ⟨rfl, g, tk, rfl, x, k⟩ := hr2
            repeat (any_goals (first | assumption | wp_step))
            exact h _ _ x k
          | _ => exact hr2.elim
    | _ => exact hr.elim
end
end SX
namespace SX
open PySem PySem.Spec PyProof.Rows L2 PySem.Builtin
theorem slot_nx : Slot "set_iterator" "__next__" "set_iterator.__next__" :=
  .of (owner := "set_iterator") (n := "__next__") (by rw [typeLookup_type, builtinLookup_eq_fast]; kernel_rfl) (by decide +kernel) (by decide +kernel) (by decide +kernel) (by first | exact .inl (by decide +kernel) | exact .inr (by decide +kernel)) (by rw [isSubtype_type]; kernel_rfl)
theorem entry_nx : entryFor table "set_iterator.__next__" = some Builtin.«set_iterator.__next__» := entryFor_of_tree (by kernel_rfl)
theorem owner_si : Manifest.owners.lookup (String.ofList ['r', 'o', 't', 'a', 'r', 'e', 't', 'i', '_', 't', 'e', 's'].reverse) = some Manifest.sig_set_iterator := by kernel_rfl
theorem args_nx (a : Value) : argsOk "set_iterator.__next__" ⟨[a], []⟩ := by
  unfold argsOk
  rw [signature?_of (id := "set_iterator.__next__") (n := ['_', '_', 't', 'x', 'e', 'n', '_', '_']) (o := ['r', 'o', 't', 'a', 'r', 'e', 't', 'i', '_', 't', 'e', 's']) (by kernel_rfl) owner_si]
  kernel_rfl
theorem slot_si : Slot "set_iterator" "__iter__" "set_iterator.__iter__" :=
  .of (owner := "set_iterator") (n := "__iter__") (by rw [typeLookup_type, builtinLookup_eq_fast]; kernel_rfl) (by decide +kernel) (by decide +kernel) (by decide +kernel) (by first | exact .inl (by decide +kernel) | exact .inr (by decide +kernel)) (by rw [isSubtype_type]; kernel_rfl)
theorem entry_it : entryFor table "set.__iter__" = some Builtin.«frozenset.__iter__» :=
  entryFor_alias (id' := "frozenset.__iter__") (by kernel_rfl) rfl (by decide +kernel) (by kernel_rfl)
theorem entry_si : entryFor table "set_iterator.__iter__" = some Builtin.«dict_keyiterator.__iter__» :=
  entryFor_alias (id' := "dict_keyiterator.__iter__") (by kernel_rfl) rfl (by decide +kernel) (by kernel_rfl)
theorem args_si (a : Value) : argsOk "set_iterator.__iter__" ⟨[a], []⟩ := by
  unfold argsOk
  rw [signature?_of (id := "set_iterator.__iter__") (n := ['_', '_', 'r', 'e', 't', 'i', '_', '_']) (o := ['r', 'o', 't', 'a', 'r', 'e', 't', 'i', '_', 't', 'e', 's']) (by kernel_rfl) owner_si]
  kernel_rfl
def itO (first : Value) (i : Nat) (a : Addr) (n ep : Nat) : Obj := { cls := .type "set_iterator", data := .fields #[first, .int i 0, .ref a, .int n 0, .int ep 0] }
section
variable {P : Program} {w : World} {A : Around} {E : Value → Shared → Prop} {s : Shared}
theorem nx_go {I a : Addr} {first : Value} {i n ep : Nat} {o : Obj} {es : Array (Int × Value)} {t : SetTable} {Q : Value → Shared → Prop} (hI : s.heap.get? I = some (itO first i a n ep)) (ho : s.heap.get? a = some o) (hd : o.data = .set es ep t) (hf : t.fits es.size = true) (hn : es.size = n)
    (h : wpAny (model P w) A (match first with
      | .int slot _ => (do match ← setNext a slot.toNat i ep with
          | some (x, next) => (do setField (.ref I) 0 (rawInt next); setField (.ref I) 1 (rawInt (i + 1)); ret x)
          | none => (do setField (.ref I) 2 .none; raiseNew (← newExc (.type "StopIteration") [])))
      | v => (do let some places ← seqItems? v | unsupported "internal:set_iterator"
                 match places[i]? with
                 | some (.int place _) => (do let x ← setNextDrawn a place.toNat ep; setField (.ref I) 1 (rawInt (i + 1)); ret x)
                 | some _ => unsupported "internal:set_iterator"
                 | none => (do setField (.ref I) 0 (rawInt 0); setField (.ref I) 2 .none; raiseNew (← newExc (.type "StopIteration") [])))) (fun fin s' => ∃ v, fin = .done (.ret v) ∧ Q v s') E s) :
    wpAny (model P w) A (Builtin.«set_iterator.__next__» ⟨[.ref I], []⟩) (fun fin s' => ∃ v, fin = .done (.ret v) ∧ Q v s') E s := by
  unfold Builtin.«set_iterator.__next__» slotArgs
  refine wpAny_bind (wpAny_pure ?_)
  refine wpAny_bind (wpAny_fieldsOf hI rfl ?_)
  dsimp only [itO]
  refine wpAny_bind (wpAny_setEntries_of ho hd hf ?_)
  rw [if_neg (by rw [hn]; simp)]
  cases first <;> first | exact h | (simpa using h)
theorem self_it {I a : Addr} {first : Value} {i n ep : Nat} {Q : Value → Shared → Prop} (hI : s.heap.get? I = some (itO first i a n ep)) (h : Q (.ref I) s) : wpAny (model P w) A (pyIter (.ref I)) Q E s := by
  have hT : s.TypeIs (.ref I) "set_iterator" := ⟨_, hI, rfl⟩
  refine wpAny_pyIter_slot hT slot_si (wpAny_call_entry slot_si hT entry_si ?_ (args_si _))
  show wpAny _ _ (ret (.ref I)) _ _ s
  exact wpAny_pure ⟨_, rfl, "set_iterator", _, hT, slot_nx.lookup, h⟩
theorem stop {Q : Fin → Shared → Prop} (hh : A.handled = none) (q : ∀ g e, (∀ b o, s.heap.get? b = some o → g.get? b = some o) → (∃ o, g.get? e = some o ∧ o.cls = .type "StopIteration") → E (.ref e) { s with heap := g }) :
    wpAny (model P w) A (do raiseNew (← newExc (.type "StopIteration") [])) Q E s := by
  refine wpAny_bind ?_
  simp only [newExc, newTuple]
  refine wpAny_bind (wpAny_newObj_type ?_ (by size_fits))
  refine wpAny_bind (m := firstArgMember _ _) (wpAny_of_eq (a := Value.none) (by first | rfl | (simp only [firstArgMember]; rfl)) ?_)
  refine wpAny_newObj_type ?_ (by size_fits)
  simp only [raiseNew]
  refine wpAny_bind (wpAny_handled ?_)
  rw [hh]
  refine wpAny_bind (wpAny_pure (wpAny_throw ?_))
  exact q _ _ (fun b o e => Heap.get?_push_of_some _ (Heap.get?_push_of_some _ e)) ⟨_, Heap.get?_push_size _ rfl, rfl⟩
theorem nx_py {I a : Addr} {first : Value} {i n ep : Nat} {Q : Option Value → Shared → Prop} (hI : s.heap.get? I = some (itO first i a n ep))
    (h : wpAny (model P w) A.in1 (Builtin.«set_iterator.__next__» ⟨[.ref I], []⟩) (fun fin s' => ∃ v, fin = .done (.ret v) ∧ Q (some v) s') (fun e s' => ∃ b, e = .ref b ∧ s'.TypeIs (.ref b) "StopIteration" ∧ Q none s') s) : wpAny (model P w) A (pyNext (.ref I)) Q E s := by
  have hT : s.TypeIs (.ref I) "set_iterator" := ⟨_, hI, rfl⟩
  unfold pyNext
  refine wpAny_bind (wpAny_attempt (wpAny_callSpecial?_slot (name := Str.ofString "__next__") hT slot_nx (wpAny_call_entry slot_nx hT entry_nx ?_ (args_nx _))))
  refine wpAny_mono h (fun fin s' x => ?_) fun e s' x => ?_
  · obtain ⟨v, rfl, y⟩ := x
    exact ⟨v, rfl, wpAny_pure y⟩
  · obtain ⟨b, rfl, ty, y⟩ := x
    refine wpAny_bind (wpAny_isInstance (T := "StopIteration") (b := true) ty isSubtype_stop ?_)
    exact wpAny_pure y
structure BySlot (P : Program) (w : World) (a : Addr) (o : Obj) (ep : Nat) (sl : Nat → Nat) (os : List Value) : Prop where
  step : ∀ (A : Around) (E : Value → Shared → Prop) (s : Shared) (i : Nat) (v : Value) (Q : Option (Value × Nat) → Shared → Prop), s.heap.get? a = some o → os[i]? = some v → Q (some (v, sl (i + 1))) s → wpAny (model P w) A (setNext a (sl i) i ep) Q E s
  stop : ∀ (A : Around) (E : Value → Shared → Prop) (s : Shared) (Q : Option (Value × Nat) → Shared → Prop), s.heap.get? a = some o → Q none s → wpAny (model P w) A (setNext a (sl os.length) os.length ep) Q E s
theorem walk_slot {I a : Addr} {o : Obj} {es : Array (Int × Value)} {ep : Nat} {t : SetTable} {sl : Nat → Nat} {os : List Value} (hh : A.handled = none) (hia : a ≠ I) (hd : o.data = .set es ep t) (hf : t.fits es.size = true) (hn : es.size = os.length) (B : BySlot P w a o ep sl os) :
    WalksS P w A I [I, a] [I] (fun g g' => g' = g) os.length (fun i v => os[i]? = some v) (fun i s => s.heap.get? I = some (itO (.int (sl i) 0) i a os.length ep) ∧ s.heap.get? a = some o) where
  sub := fun b z => by simp at z; simp [z]
  grefl := fun _ => rfl
  gtrans := fun _ _ _ x y => y.trans x
  frame := fun i s g tk st _ k => ⟨k I (by simp) _ st.1, k a (by simp) _ st.2⟩
  item := fun i s Q E hi st hQ => by
    obtain ⟨v, hv⟩ : ∃ v, os[i]? = some v := ⟨os[i], by simp [hi]⟩
    refine nx_py st.1 (nx_go st.1 st.2 hd hf hn ?_)
    dsimp only
    refine wpAny_bind ?_
    rw [Int.toNat_natCast]
    refine B.step _ _ s i v _ st.2 hv ?_
    dsimp only
    refine wpAny_bind (wpAny_setField_rec st.1 (by simp) fun g1 h1 e1 => ?_)
    refine wpAny_bind (wpAny_setField_rec h1 (by simp) fun g2 h2 e2 => ?_)
    have kp : ∀ b u, b ≠ I → s.heap.get? b = some u → g2.get? b = some u := fun b u hb z => (e2.2 b hb).trans ((e1.2 b hb).trans z)
    refine wpAny_pure ⟨v, rfl, hQ v _ hv ⟨?_, kp a _ hia st.2⟩ ⟨fun b u hb z => kp b u (fun q => hb (by simp [q])) z, rfl, rfl, rfl, Nat.le_refl _⟩⟩
    rw [h2]
    simp [itO, rawInt]
  done := fun s Q E st hQ => by
    refine nx_py st.1 (nx_go st.1 st.2 hd hf hn ?_)
    dsimp only
    refine wpAny_bind ?_
    rw [Int.toNat_natCast]
    refine B.stop _ _ s _ st.2 ?_
    dsimp only
    refine wpAny_bind (wpAny_setField_rec st.1 (by simp) fun g1 h1 e1 => ?_)
    refine stop (s := { s with heap := g1 }) (by simpa using hh) fun g e k he => ⟨e, rfl, he, ?_⟩
    exact hQ _ ⟨fun b u hb z => k b u ((e1.2 b (fun q => hb (by simp [q]))).trans z), rfl, rfl, rfl, Nat.le_refl _⟩
  self := fun i s Q E st hQ => self_it st.1 hQ
theorem walk_draw {I a T : Addr} {o oT : Obj} {es : Array (Int × Value)} {ep : Nat} {t : SetTable} {ps : List Nat} {os : List Value} (hh : A.handled = none) (hia : a ≠ I) (hit : T ≠ I) (hd : o.data = .set es ep t) (hf : t.fits es.size = true) (hn : es.size = os.length)
    {k : Nat} (hT : oT.data = .seq (ps.map fun (i : Nat) => rawInt i).toArray k) (hp : ps.length = os.length) (ho : ∀ (i p : Nat) (v : Value), ps[i]? = some p → os[i]? = some v → ∃ h, es[p]? = some (h, v)) :
    WalksS P w A I [I, a, T] [I] (fun g g' => g' = g) os.length (fun i v => os[i]? = some v) (fun i s => s.heap.get? I = some (itO (.ref T) i a os.length ep) ∧ s.heap.get? a = some o ∧ s.heap.get? T = some oT) where
  sub := fun b z => by simp at z; simp [z]
  grefl := fun _ => rfl
  gtrans := fun _ _ _ x y => y.trans x
  frame := fun i s g tk st _ k => ⟨k I (by simp) _ st.1, k a (by simp) _ st.2.1, k T (by simp) _ st.2.2⟩
  item := fun i s Q E hi st hQ => by
    obtain ⟨v, hv⟩ : ∃ v, os[i]? = some v := ⟨os[i], by simp [hi]⟩
    obtain ⟨p, hpi⟩ : ∃ p, ps[i]? = some p := ⟨ps[i]'(by omega), by simp [hp, hi]⟩
    obtain ⟨hs, hes⟩ := ho i p v hpi hv
    refine nx_py st.1 (nx_go st.1 st.2.1 hd hf hn ?_)
    dsimp only
    refine wpAny_bind (wpAny_seqItems st.2.2 hT ?_)
    dsimp only
    have hx : (ps.map fun (i : Nat) => rawInt i).toArray[i]? = some (rawInt p) := by simp [hpi]
    rw [hx]
    dsimp only [rawInt]
    refine wpAny_bind ?_
    rw [Int.toNat_natCast]
    unfold setNextDrawn
    refine wpAny_bind (wpAny_setState_of st.2.1 hd hf ?_)
    dsimp only
    rw [if_neg (by simp), hes]
    refine wpAny_pure ?_
    refine wpAny_bind (wpAny_setField_rec st.1 (by simp) fun g1 h1 e1 => ?_)
    have kp : ∀ b u, b ≠ I → s.heap.get? b = some u → g1.get? b = some u := fun b u hb z => (e1.2 b hb).trans z
    refine wpAny_pure ⟨v, rfl, hQ v _ hv ⟨?_, kp a _ hia st.2.1, kp T _ hit st.2.2⟩ ⟨fun b u hb z => kp b u (fun q => hb (by simp [q])) z, rfl, rfl, rfl, Nat.le_refl _⟩⟩
    rw [h1]
    simp [itO]
  done := fun s Q E st hQ => by
    refine nx_py st.1 (nx_go st.1 st.2.1 hd hf hn ?_)
    dsimp only
    refine wpAny_bind (wpAny_seqItems st.2.2 hT ?_)
    dsimp only
    have hx : (ps.map fun (i : Nat) => rawInt i).toArray[os.length]? = none := by simp [hp]
    rw [hx]
    dsimp only
    refine wpAny_bind (wpAny_setField_rec st.1 (by simp) fun g1 h1 e1 => ?_)
    refine wpAny_bind (wpAny_setField_rec h1 (by simp) fun g2 h2 e2 => ?_)
    refine stop (s := { s with heap := g2 }) (by simpa using hh) fun g e k he => ⟨e, rfl, he, ?_⟩
    exact hQ _ ⟨fun b u hb z => k b u ((e2.2 b (fun q => hb (by simp [q]))).trans ((e1.2 b (fun q => hb (by simp [q]))).trans z)), rfl, rfl, rfl, Nat.le_refl _⟩
  self := fun i s Q E st hQ => self_it st.1 hQ
end
end SX
namespace SX
open PySem PySem.Spec PyProof.Rows L2 PySem.Builtin
theorem erase_perm {α : Type} : ∀ {l : List α} {i : Nat} (h : i < l.length), (l[i] :: l.eraseIdx i).Perm l
  | x :: l, 0, h => by simp
  | x :: l, i + 1, h => by
    have ih := erase_perm (l := l) (i := i) (by simpa using h)
    rw [List.getElem_cons_succ, List.eraseIdx_cons_succ]
    exact (List.Perm.swap _ _ _).trans (ih.cons x)
theorem pick_go {α : Type} (next : Nat → Nat) : ∀ (n k : Nat) (left : List α) (out : Array α), left.length = n → (pickOrder.go next n k left out).toList.Perm (out.toList ++ left)
  | 0, k, left, out, h => by
    have : left = [] := List.length_eq_zero_iff.mp h
    subst this
    simp [pickOrder.go]
  | n + 1, k, left, out, h => by
    have hl : next k % left.length < left.length := Nat.mod_lt _ (by omega)
    have hx : left[next k % left.length]? = some left[next k % left.length] := by simp [hl]
    unfold pickOrder.go
    rw [hx]
    refine (pick_go next n (k + 1) _ _ (by rw [List.length_eraseIdx_of_lt hl]; omega)).trans ?_
    rw [Array.toList_push, List.append_assoc]
    refine List.Perm.append_left _ ?_
    exact erase_perm hl
theorem pick_perm {α : Type} (next : Nat → Nat) (xs : Array α) : (pickOrder next xs).toList.Perm xs.toList := by
  unfold pickOrder
  simpa using pick_go next xs.size 0 xs.toList #[] (by simp)
section
variable {P : Program} {w : World} {A : Around} {E : Value → Shared → Prop} {s : Shared}
theorem wp_choose {src : Source} {n : Nat} {Q : Nat → Shared → Prop} (hn : n ≠ 0) (h : ∀ i d, i < n → Q i { s with drawn := d }) : wpAny (model P w) A (choose src n) Q E s := by
  intro Γ p _
  show Sem.wp _ _ (.choose src n .pure) _ _ _ _
  rw [Sem.wp]
  exact ⟨hn, h _ _ (Nat.mod_lt _ (Nat.pos_of_ne_zero hn))⟩
theorem draw_perm {α : Type} : ∀ (n : Nat) (xs : List α) (s : Shared) (Q : List α → Shared → Prop), xs.length = n → (∀ ys d, ys.Perm xs → Q ys { s with drawn := d }) → wpAny (model P w) A (drawOrder n xs) Q E s
  | 0, xs, s, Q, h, q => by
    have : xs = [] := List.length_eq_zero_iff.mp h
    subst this
    unfold drawOrder
    refine wpAny_pure ?_
    have := q [] s.drawn .rfl
    cases s; exact this
  | n + 1, x :: xs, s, Q, h, q => by
    unfold drawOrder
    refine wpAny_bind (wp_choose (by simp) fun i d hi => ?_)
    have hx : (x :: xs)[i]? = some ((x :: xs)[i]) := by simp only [List.getElem?_eq_getElem hi]
    rw [hx]
    dsimp only
    refine wpAny_bind (draw_perm n _ { s with drawn := d } _ (by rw [List.length_eraseIdx_of_lt hi]; simpa using h) fun ys d' p => wpAny_pure ?_)
    exact q _ d' ((p.cons _).trans (erase_perm hi))
theorem below1 {p : Array Nat} (h : p.size = 1) (j : Nat) : SetTable.below p j = if p.getD 0 j < j then 1 else 0 := by
  unfold SetTable.below
  rw [h]
  unfold SetTable.below.go
  rw [if_pos (by decide)]
  dsimp only
  have : (0 + 1) / 2 = 0 := rfl
  rw [this]
  split <;> rfl
theorem byText {Q : Bool → Shared → Prop} (h : Q (!led w) s) : wpAny (model P w) A setsByText Q E s := by
  unfold setsByText
  refine wpAny_bind (wpAny_askSetting (wpAny_pure ?_))
  rw [led, Bool.not_not] at h
  exact h
theorem slot_text {a : Addr} {o : Obj} {es : Array (Int × Value)} {ep : Nat} {t : SetTable} (hd : o.data = .set es ep t) (hf : t.fits es.size = true) (hl : led w = false) :
    BySlot P w a o ep (fun _ => 0) ((pickOrder (w.params.setOrder a ep) es).toList.map (·.2)) := by
  have go : ∀ (A : Around) (E : Value → Shared → Prop) (s : Shared) (i : Nat) (Q : Option (Value × Nat) → Shared → Prop), s.heap.get? a = some o → Q (((pickOrder (w.params.setOrder a ep) es)[i]?).map fun e => (e.2, 0)) s → wpAny (model P w) A (setNext a 0 i ep) Q E s := by
    intro A E s i Q ho h
    unfold setNext
    refine wpAny_bind (wpAny_setState_of ho hd hf ?_)
    dsimp only
    refine wpAny_bind (byText ?_)
    rw [hl]
    rw [if_pos (show (!false) = true from rfl), if_neg (by simp)]
    refine wpAny_bind ?_
    unfold setWalk
    refine wpAny_bind (wpAny_setState_of ho hd hf ?_)
    dsimp only
    refine wpAny_bind (byText ?_)
    rw [hl, if_pos (show (!false) = true from rfl)]
    exact wpAny_bind (wpAny_askSetting (wpAny_pure (wpAny_pure h)))
  refine ⟨fun A E s i v Q ho hv h => go A E s i Q ho ?_, fun A E s Q ho h => go A E s _ Q ho ?_⟩
  · rw [List.getElem?_map, Array.getElem?_toList] at hv
    obtain ⟨e, he, rfl⟩ := Option.map_eq_some_iff.mp hv
    rw [he]
    exact h
  · have : (pickOrder (w.params.setOrder a ep) es)[((pickOrder (w.params.setOrder a ep) es).toList.map (·.2)).length]? = none := by simp
    rw [this]
    exact h
theorem slot_one {a : Addr} {o : Obj} {es : Array (Int × Value)} {ep : Nat} {t : SetTable} (hd : o.data = .set es ep t) (hf : t.fits es.size = true) (hw : led w = true) (hl : t.led = led w) (hz : ¬ es.size > 1) :
    BySlot P w a o ep (fun i => if i = 0 then 0 else t.place.getD 0 0 + 1) (es.toList.map (·.2)) := by
  have hp : t.place.size = es.size := by
    simp only [SetTable.fits, Bool.and_eq_true, beq_iff_eq] at hf
    exact hf.1
  have go : ∀ (A : Around) (E : Value → Shared → Prop) (s : Shared) (j i : Nat) (Q : Option (Value × Nat) → Shared → Prop), s.heap.get? a = some o →
      Q (match es[SetTable.below t.place j]?, t.place[SetTable.below t.place j]? with | some (_, x), some k => some (x, k + 1) | _, _ => none) s → wpAny (model P w) A (setNext a j i ep) Q E s := by
    intro A E s j i Q ho h
    unfold setNext
    refine wpAny_bind (wpAny_setState_of ho hd hf ?_)
    dsimp only
    refine wpAny_bind (byText ?_)
    rw [hw, if_neg (by simp)]
    show wpAny _ _ (if (!t.plain && decide (es.size > 1)) = true then _ else _) _ _ _
    rw [if_neg (by rw [decide_eq_false hz]; simp)]
    refine wpAny_bind ?_
    show wpAny _ _ (if (!t.led && !es.isEmpty) = true then _ else _) _ _ _
    rw [if_neg (by rw [hl, hw]; simp)]
    exact wpAny_pure (wpAny_pure h)
  have hc : es.size = 0 ∨ es.size = 1 := by omega
  refine ⟨fun A E s i v Q ho hv h => go A E s _ i Q ho ?_, fun A E s Q ho h => go A E s _ _ Q ho ?_⟩
  · rcases hc with hc | hc
    · have : es = #[] := Array.size_eq_zero_iff.mp hc
      subst this
      simp at hv
    · obtain ⟨e, rfl⟩ : ∃ e, es = #[e] := Array.size_eq_one_iff.mp hc
      obtain ⟨p, pe⟩ : ∃ p, t.place = #[p] := Array.size_eq_one_iff.mp hp
      have hi : i = 0 := by
        rcases Nat.eq_zero_or_pos i with z | z
        · exact z
        · rw [List.getElem?_eq_none (by simp; omega)] at hv; cases hv
      subst hi
      simp at hv
      subst hv
      have hb : SetTable.below t.place 0 = 0 := by rw [below1 (by rw [pe]; rfl)]; simp
      simp only [if_pos]
      rw [hb, pe]
      simpa [pe] using h
  · rcases hc with hc | hc
    · have : es = #[] := Array.size_eq_zero_iff.mp hc
      subst this
      simpa using h
    · obtain ⟨e, rfl⟩ : ∃ e, es = #[e] := Array.size_eq_one_iff.mp hc
      obtain ⟨p, pe⟩ : ∃ p, t.place = #[p] := Array.size_eq_one_iff.mp hp
      have hb : SetTable.below t.place (p + 1) = 1 := by rw [below1 (by rw [pe]; rfl), pe]; simp
      have hs : (if ([e].map (·.2)).length = 0 then 0 else t.place.getD 0 0 + 1) = p + 1 := by simp [pe]
      have hs' : (if ((#[e] : Array (Int × Value)).toList.map (·.2)).length = 0 then 0 else t.place.getD 0 0 + 1) = p + 1 := hs
      rw [hs', hb]
      simpa using h
end
end SX
namespace SX
open PySem PySem.Spec PyProof.Rows L2 PySem.Builtin
section
variable {P : Program} {w : World} {A : Around} {E : Value → Shared → Prop} {s : Shared}
theorem iter_set {a : Addr} {ys : List Str} {Q : Value → Shared → Prop} (x : TSet P w s.heap a ys) (hz : ys.length < 64)
    (h : ∀ (g : Heap) (d : Drawn) (I : Addr) (fp : List Addr) (os : List Value) (St : Nat → Shared → Prop), (∀ A' : Around, A'.handled = none → WalksS P w A' I fp [I] (fun g g' => g' = g) os.length (fun i v => os[i]? = some v) St) → St 0 { s with heap := g, drawn := d } →
      (∀ b ∈ fp, b = a ∨ s.heap.objs.size ≤ b) → s.heap.objs.size ≤ I → os.length = ys.length → (∃ ss, StrsAre os ss ∧ ss.Perm ys) → (∀ b o, s.heap.get? b = some o → g.get? b = some o) → Q (.ref I) { s with heap := g, drawn := d }) :
    wpAny (model P w) A (pyIter (.ref a)) Q E s := by
  obtain ⟨o, es, ep, t, ho, hx, hd, k⟩ := x
  have hT : s.TypeIs (.ref a) "set" := ⟨o, ho, hx.1⟩
  have hlt : a < s.heap.objs.size := Heap.lt_size ho
  have hn : es.size = ys.length := k.size
  obtain ⟨ss, s1, s2⟩ := k.tx
  refine wpAny_pyIter_slot hT PySem.F.slot_set_iter (wpAny_call_entry PySem.F.slot_set_iter hT entry_it ?_ (PySem.F.args_set_iter_1 _))
  unfold Builtin.«frozenset.__iter__» Builtin.Frozenset.slot0 slotArgs
  simp only [List.isEmpty_nil, Bool.not_true, Bool.false_eq_true, ↓reduceIte, bind_assoc, List.length_nil, bne_self_eq_false]
  unfold Builtin.Frozenset.addrOf Builtin.Frozenset.sizeOf
  refine wpAny_bind (wpAny_pure ?_)
  dsimp only
  refine wpAny_bind (wpAny_pure ?_)
  refine wpAny_bind (wpAny_bind (wpAny_setEntries_of ho hd k.fit (wpAny_pure ?_)))
  refine wpAny_bind ?_
  unfold setDrawn
  refine wpAny_bind (wpAny_setState_of ho hd k.fit ?_)
  dsimp only
  refine wpAny_bind (byText (wpAny_pure ?_))
  show wpAny _ _ (if (!(!led w) && (!t.plain && decide (es.size > 1))) = true then _ else _) _ _ _
  by_cases hl : led w = true
  · by_cases hz1 : es.size > 1
    · have hp : t.plain = false := k.pl (by omega)
      rw [if_pos (by rw [hl, hp, decide_eq_true hz1]; rfl)]
      refine wpAny_bind (draw_perm _ _ s _ (by simp) fun ps d pp => ?_)
      refine wpAny_bind (wpAny_newTuple ?_ (by rw [List.length_map, pp.length_eq, List.length_range, hn]; exact Nat.le_trans (Nat.le_of_lt hz) (by decide)))
      refine wpAny_bind (wpAny_setEpoch_of (Heap.get?_push_of_some _ ho) hd k.fit ?_)
      refine wpAny_bind (wpAny_newObj_type (wpAny_pure ⟨_, rfl, "set_iterator", _, ⟨_, Heap.get?_push_size _ rfl, rfl⟩, slot_nx.lookup, ?_⟩))
      let f : Nat → Value := fun p => ((es[p]?).map (·.2)).getD .none
      have ef : (List.range es.size).map f = es.toList.map (·.2) := by
        apply List.ext_getElem
        · simp
        · intro i h1 h2
          have hi : i < es.size := by simpa using h1
          simp [f, hi]
      have hos : (ps.map f).length = es.size := by rw [List.length_map, pp.length_eq, List.length_range]
      have hperm : (ps.map f).Perm (es.toList.map (·.2)) := by rw [← ef]; exact pp.map f
      obtain ⟨rs, q1, q2⟩ := strs_perm hperm s1
      have sz : (s.heap.push { cls := .type "tuple", data := .seq (ps.map fun (i : Nat) => rawInt i).toArray }).objs.size = s.heap.objs.size + 1 := Heap.size_push _ _
      have e1 : ((s.heap.push { cls := .type "tuple", data := .seq (ps.map fun (i : Nat) => rawInt i).toArray }).push (itO (.ref s.heap.objs.size) 0 a es.size ep)).get? s.heap.objs.size = some { cls := .type "tuple", data := .seq (ps.map fun (i : Nat) => rawInt i).toArray } :=
        Heap.get?_push_of_some _ (Heap.get?_push_size _ rfl)
      have a1 : a ≠ (s.heap.push { cls := .type "tuple", data := .seq (ps.map fun (i : Nat) => rawInt i).toArray }).objs.size := by rw [sz]; exact Nat.ne_of_lt (Nat.lt_succ_of_lt hlt)
      have a2 : s.heap.objs.size ≠ (s.heap.push { cls := .type "tuple", data := .seq (ps.map fun (i : Nat) => rawInt i).toArray }).objs.size := by rw [sz]; exact Nat.ne_of_lt (Nat.lt_succ_self _)
      refine h _ d _ [_, a, s.heap.objs.size] (ps.map f) _ (fun A' hA => walk_draw (ps := ps) hA a1 a2 hd k.fit hos.symm rfl (by rw [List.length_map]) fun i p v h1 h2 => ?_) ⟨?_, Heap.get?_push_of_some _ (Heap.get?_push_of_some _ ho), e1⟩ (fun b hb => ?_) (by rw [sz]; exact Nat.le_succ _) (hos.trans hn) ⟨rs, q1, q2.trans s2⟩ fun b u e => Heap.get?_push_of_some _ (Heap.get?_push_of_some _ e)
      · rw [List.getElem?_map, h1] at h2
        simp only [Option.map_some, Option.some.injEq] at h2
        have hm : p ∈ List.range es.size := pp.mem_iff.mp (List.mem_of_getElem? h1)
        have hp : p < es.size := List.mem_range.mp hm
        refine ⟨es[p].1, ?_⟩
        rw [← h2]
        simp [f, hp]
      · have := Heap.get?_push_size (s.heap.push { cls := .type "tuple", data := .seq (ps.map fun (i : Nat) => rawInt i).toArray }) (o := itO (.ref s.heap.objs.size) 0 a (ps.map f).length ep) rfl
        rw [hos] at this ⊢
        exact this
      · simp only [List.mem_cons, List.not_mem_nil, or_false] at hb
        rcases hb with rfl | rfl | rfl
        · exact .inr (by rw [sz]; exact Nat.le_succ _)
        · exact .inl rfl
        · exact .inr (Nat.le_refl _)
    · rw [if_neg (by rw [decide_eq_false hz1]; simp)]
      refine wpAny_bind (wpAny_pure ?_)
      refine wpAny_bind (wpAny_setEpoch_of ho hd k.fit ?_)
      refine wpAny_bind (wpAny_newObj_type (wpAny_pure ⟨_, rfl, "set_iterator", _, ⟨_, Heap.get?_push_size _ rfl, rfl⟩, slot_nx.lookup, ?_⟩))
      have hos : (es.toList.map (·.2)).length = es.size := by simp
      have e0 := Heap.get?_push_size s.heap (o := itO (.int 0 0) 0 a (es.toList.map (·.2)).length ep) rfl
      have := h (s.heap.push (itO (.int 0 0) 0 a (es.toList.map (·.2)).length ep)) s.drawn s.heap.objs.size [s.heap.objs.size, a] (es.toList.map (·.2)) _ (fun A' hA => walk_slot hA (Nat.ne_of_lt hlt) hd k.fit hos.symm (slot_one hd k.fit hl k.ld hz1)) ⟨e0, Heap.get?_push_of_some _ ho⟩ (fun b hb => by
        simp only [List.mem_cons, List.not_mem_nil, or_false] at hb
        rcases hb with rfl | rfl
        · exact .inr (Nat.le_refl _)
        · exact .inl rfl) (Nat.le_refl _) (hos.trans hn) ⟨ss, s1, s2⟩ fun b u e => Heap.get?_push_of_some _ e
      rw [hos] at this
      cases s
      exact this
  · have hl : led w = false := by simpa using hl
    rw [if_neg (by rw [hl]; simp)]
    refine wpAny_bind (wpAny_pure ?_)
    refine wpAny_bind (wpAny_setEpoch_of ho hd k.fit ?_)
    refine wpAny_bind (wpAny_newObj_type (wpAny_pure ⟨_, rfl, "set_iterator", _, ⟨_, Heap.get?_push_size _ rfl, rfl⟩, slot_nx.lookup, ?_⟩))
    have pk := pick_perm (w.params.setOrder a ep) es
    have hos : ((pickOrder (w.params.setOrder a ep) es).toList.map (·.2)).length = es.size := by rw [List.length_map, pk.length_eq]; simp
    obtain ⟨rs, q1, q2⟩ := strs_perm (pk.map (·.2)) s1
    have e0 := Heap.get?_push_size s.heap (o := itO (.int 0 0) 0 a ((pickOrder (w.params.setOrder a ep) es).toList.map (·.2)).length ep) rfl
    have := h (s.heap.push (itO (.int 0 0) 0 a ((pickOrder (w.params.setOrder a ep) es).toList.map (·.2)).length ep)) s.drawn s.heap.objs.size [s.heap.objs.size, a] ((pickOrder (w.params.setOrder a ep) es).toList.map (·.2)) _ (fun A' hA => walk_slot hA (Nat.ne_of_lt hlt) hd k.fit hos.symm (slot_text hd k.fit hl)) ⟨e0, Heap.get?_push_of_some _ ho⟩ (fun b hb => by
      simp only [List.mem_cons, List.not_mem_nil, or_false] at hb
      rcases hb with rfl | rfl
      · exact .inr (Nat.le_refl _)
      · exact .inl rfl) (Nat.le_refl _) (hos.trans hn) ⟨rs, q1, q2.trans s2⟩ fun b u e => Heap.get?_push_of_some _ e
    rw [hos] at this
    cases s
    exact this
end
end SX
namespace SX
open PySem PySem.Spec PyProof.Rows L2 PySem.Builtin
section
variable {P : Program} {w : World} {A : Around} {E : Value → Shared → Prop} {s : Shared}
theorem hint_set {r : Addr} {Q : Bool → Shared → Prop} (hT : s.TypeIs (.ref r) "set") (h : Q false s) : wpAny (model P w) A (Builtin.List.listLengthHint (.ref r)) Q E s := by
  unfold Builtin.List.listLengthHint
  refine wpAny_bind (wpAny_specialOf hT PySem.F.slot_set_len.lookup ?_)
  generalize hid : ("set.__len__" : String) = id0
  wp_delta
  rw [show splitId id0 = some ("set", "__len__") from by subst hid; decide +kernel]
  subst hid
  refine wpAny_bind (wpAny_isInstance (T := "set") (b := true) hT (by rw [isSubtype_type]; kernel_rfl) ?_)
  refine wpAny_ite_split (fun z => absurd z (by decide)) (fun _ => ?_)
  refine wpAny_ite_split (fun _ => ?_) (fun z => absurd (by decide +kernel) z)
  exact wpAny_bind (wpAny_typeOf hT (wpAny_pure h))
theorem items_eq {os : List Value} {acc : Array Value} (h : ItemsOf (fun i v => os[i]? = some v) acc os.length) : acc.toList = os := by
  apply List.ext_getElem?
  intro i
  rw [Array.getElem?_toList]
  by_cases hi : i < acc.size
  · have e : acc[i]? = some acc[i] := by simp [hi]
    rw [e, h.2 i _ e]
  · have h1 : acc[i]? = none := by simp; omega
    have h2 : os[i]? = none := by simp; rw [← h.1]; omega
    rw [h1, h2]
theorem collect_set {a : Addr} {ys : List Str} {Q : List Value → Shared → Prop} (hh : A.handled = none) (x : TSet P w s.heap a ys) (hz : ys.length < 64)
    (h : ∀ (g : Heap) (d : Drawn) (tk : Nat) (os : List Value), (∃ ss, StrsAre os ss ∧ ss.Perm ys) → os.length = ys.length → (∀ b o, s.heap.get? b = some o → g.get? b = some o) → Q os { s with heap := g, drawn := d, toks := tk }) :
    wpAny (model P w) A (collect (.ref a)) Q E s := by
  have hT : ∀ h' : Heap, TSet P w h' a ys → Shared.TypeIs { s with heap := h' } (.ref a) "set" := fun h' ⟨o, _, _, _, e, r, _⟩ => ⟨o, e, r.1⟩
  have hlt : a < s.heap.objs.size := let ⟨o, _, _, _, e, _⟩ := x; Heap.lt_size e
  unfold collect
  refine wpAny_bind (wpAny_runValue (codeAny_builtin PySem.F.entry_proto_collect ?_))
  rw [Around.under_plainId PySem.F.plain_proto_collect _]
  show wpAny _ A.in1 (newList [] >>= fun l => again (.builtin "list.__iadd__" ⟨[l, .ref a], []⟩)) _ _ s
  refine wpAny_bind (wpAny_newObj_type (wpAny_pure ⟨plainId_quiet PySem.F.plain_list_iadd _, codeAny_builtin PySem.F.entry_list_iadd ?_⟩))
  rw [Around.under_plainId PySem.F.plain_list_iadd _]
  have l0 : (s.heap.push { cls := .type "list", data := .seq ([] : List Value).toArray }).get? s.heap.objs.size = some { cls := .type "list", data := .seq #[] } := Heap.get?_push_size _ rfl
  have x0 : TSet P w (s.heap.push { cls := .type "list", data := .seq ([] : List Value).toArray }) a ys := x.keep fun o e => Heap.get?_push_of_some _ e
  show wpAny _ A.in1 (Builtin.List.listExtendWith (.ref s.heap.objs.size) (.ref a) (.ref s.heap.objs.size)) _ _ _
  unfold Builtin.List.listExtendWith
  refine wpAny_bind (wpAny_typeOf (T := "set") (hT _ x0) ?_)
  have n1 : Builtin.List.listSameRef (.ref s.heap.objs.size) (.ref a) = false := by simp [Builtin.List.listSameRef, Nat.ne_of_gt hlt]
  rw [if_neg (by rw [n1]; decide)]
  refine wpAny_bind (iter_set (s := { s with heap := s.heap.push { cls := .type "list", data := .seq ([] : List Value).toArray } }) x0 hz fun g d I fp os St W st hfp hI hos hss kp => ?_)
  have sz : (s.heap.push { cls := .type "list", data := .seq ([] : List Value).toArray }).objs.size = s.heap.objs.size + 1 := Heap.size_push _ _
  have kp0 : ∀ b o, s.heap.get? b = some o → g.get? b = some o := fun b o e => kp b o (Heap.get?_push_of_some _ e)
  have l1 : g.get? s.heap.objs.size = some { cls := .type "list", data := .seq #[] } := kp _ _ l0
  have hSf : s.heap.objs.size ∉ fp := fun z => by
    rcases hfp _ z with e | e
    · exact absurd e (Nat.ne_of_gt hlt)
    · dsimp only at e; rw [sz] at e; exact absurd e (Nat.not_succ_le_self _)
  refine wpAny_bind (wpAny_holding (hint_set (s := { s with heap := g, drawn := d }) (let ⟨o, _, _, _, e, r, _⟩ := x.keep fun o e => kp0 _ o e; ⟨o, e, r.1⟩) ?_))
  have W' := W A.in1 (by simpa using hh)
  have hn : os.length ≤ sizeLine := by rw [hos]; exact Nat.le_trans (Nat.le_of_lt hz) (by decide)
  have key : ∀ (g1 : Heap) (c : Nat), St 0 { s with heap := g1, drawn := d } → (∀ b o, s.heap.get? b = some o → g1.get? b = some o) → g1.get? s.heap.objs.size = some { cls := .type "list", data := .seq #[] c } →
      codeAny (model P w) A (.builtin "list.extend.loop" ⟨[.ref s.heap.objs.size, .ref I, .ref s.heap.objs.size], []⟩) (fun r s' => wants (fun v s2 => wpAny (model P w) A ((match v with
        | .ref a => do match (← load a).data with
          | .seq xs _ => pure xs.toList
          | _ => unsupported "internal:collect"
        | _ => unsupported "internal:collect") : Sem (List Value)) Q E s2) E r s') { s with heap := g1, drawn := d } := by
    intro g1 c st1 k1 l2
    refine codeAny_extend_loopS W' hn s.heap.objs.size hSf (.ref s.heap.objs.size) os.length 0 _ #[] c rfl (Nat.zero_le _) st1 l2 (ItemsOf.nil _) fun s' acc c' m hS hacc => ?_
    show wpAny _ _ (load s.heap.objs.size >>= _) _ _ _
    refine wpAny_bind (wpAny_load hS (wpAny_pure ?_))
    rw [items_eq hacc, Moved.eq_with m]
    refine h s'.heap d s'.toks os hss hos fun b o e => m.heap b o (fun z => ?_) (k1 b o e)
    rcases List.mem_cons.mp z with z | z
    · exact absurd (Heap.lt_size e) (by rw [z]; exact Nat.lt_irrefl _)
    · rw [List.mem_singleton.mp z] at e
      have := Heap.lt_size e
      dsimp only at hI
      rw [sz] at hI
      exact absurd (Nat.lt_of_lt_of_le this (Nat.le_of_succ_le hI)) (Nat.lt_irrefl _)
  dsimp only
  split
  · refine wpAny_bind (wpAny_rule (wpAny_bind ?_))
    show wpAny _ _ (updateSeq s.heap.objs.size (·.push .none) >>= fun _ => updateSeq s.heap.objs.size (·.pop)) _ _ _
    refine wpAny_bind (wpAny_updateSeq l1 rfl ?_)
    have l2 := Heap.get?_update_self (Obj.mapSeq (·.push Value.none)) l1 rfl
    refine wpAny_updateSeq (hz := by seq_fits) l2 rfl ?_
    have l3 := Heap.get?_update_self (Obj.mapSeq (·.pop)) l2 rfl
    have oth : ∀ b o, b ≠ s.heap.objs.size → g.get? b = some o → ((g.update s.heap.objs.size (Obj.mapSeq (·.push Value.none))).update s.heap.objs.size (Obj.mapSeq (·.pop))).get? b = some o := fun b o hb e =>
      (Heap.get?_update_other _ _ (Ne.symm hb)).trans ((Heap.get?_update_other _ _ (Ne.symm hb)).trans e)
    refine wpAny_pure ⟨plainId_quiet PySem.F.plain_extend_loop _, key _ _ ?_ (fun b o e => oth b o (Nat.ne_of_lt (Heap.lt_size e)) (kp0 b o e)) l3⟩
    exact W'.frame 0 { s with heap := g, drawn := d } _ _ st (Nat.le_refl _) fun b hb o e => oth b o (fun z => hSf (z ▸ hb)) e
  · exact wpAny_pure ⟨plainId_quiet PySem.F.plain_extend_loop _, key g _ st kp0 l1⟩
end
end SX
namespace SX
open PySem PySem.Spec PyProof.Rows L2 PySem.Builtin Ev
theorem _root_.L2.Inv.dr {X : Cx} {pins : List (Addr × Obj)} {σ : L2.St} {H : Hp} {s : Shared} (I : L2.Inv X pins σ H s) (d : Drawn) : L2.Inv X pins σ H { s with drawn := d } :=
  ⟨I.ok, I.os, I.bare, I.base, I.loc, I.cell, I.free, I.freeC, I.pin, I.hok, I.len⟩
def SetO (P : Program) (w : World) (a : Addr) (ys : List Str) : HO := .ext fun h => TSet P w h a ys
def rSet (X : Cx) : List V → Hp → VK → Prop := fun xs H Q => ∃ (p : Addr) (zs : List (List Nat)), xs = [.ref p] ∧ SqL X.K H p (zs.map fun z => V.str (Ev.strOf z)) ∧ zs.length < 64 ∧ ∀ l, H l = none → Q (.ref l) (upd H l (SetO X.prog X.w l (uniqX (zs.map Ev.strOf))))
def rSortS (X : Cx) : List V → Hp → VK → Prop := fun xs H Q => ∃ (p : Addr) (zs : List (List Nat)), xs = [.ref p] ∧ H p = some (SetO X.prog X.w p (zs.map Ev.strOf)) ∧ zs.length < 64 ∧ ∀ l, H l = none → Q (.ref l) (upd H l (.lst ((sortX zs).map fun z => V.str (Ev.strOf z))))
section
variable {X : Cx} {C : Cfg} {pos : Pos}
theorem call_set (hc : X.calm = true) : CallR X (.type "set") (rSet X) := by
  intro pins s σ H xs us Q I r h
  obtain ⟨p, zs, rfl, hq, hz, q⟩ := h
  obtain ⟨u, rfl, rx⟩ := vals1 r
  cases rx
  obtain ⟨its, r', pl, _⟩ := I.list hq
  have hS : StrsAre its (zs.map Ev.strOf) := vals_strs r'
  refine set_of (I.ok.hd hc) pl.isList (zs := zs.map Ev.strOf) (by simpa using hS) (by rw [List.length_map]; exact Nat.lt_of_le_of_lt (Nat.succ_le_of_lt hz) (by decide)) fun g tk x k => ?_
  refine ⟨.ref s.heap.objs.size, _, I.laid (t' := tk) k (Nat.le_refl _) (o := SetO X.prog X.w s.heap.objs.size (uniqX (zs.map Ev.strOf))) ⟨x, ?_, fun h1 h2 y kk => y.keep kk⟩, rfl, q _ (I.hok.fresh (Nat.le_refl _))⟩
  obtain ⟨o, _, _, _, e, _⟩ := x
  exact ⟨o, e⟩
theorem call_sortS (hc : X.calm = true) : CallR X (.builtin "sorted") (rSortS X) := by
  intro pins s σ H xs us Q I r h
  obtain ⟨p, zs, rfl, hq, hz, q⟩ := h
  obtain ⟨u, rfl, rx⟩ := vals1 r
  cases rx
  have x : TSet X.prog X.w s.heap p (zs.map Ev.strOf) := (I.hok p _ hq).1
  refine Calls.call_function_entry kind_sorted plain_sorted entry_sorted (args_sorted1 _) ?_
  unfold Builtin.«sorted»
  refine wpAny_bind (m := checkCount "sorted" 1 1 _) (wpAny_pure ?_)
  refine wpAny_bind (collect_set (A := X.A.in1) (I.ok.hd hc) x (by rw [List.length_map]; exact hz) fun h' d tk os hss hlen hk => ?_)
  obtain ⟨ss, hS, pS⟩ := hss
  rw [List.length_map] at hlen
  refine wpAny_bind (wpAny_newList ?_ (by rw [hlen]; exact Nat.le_trans (Nat.le_of_lt hz) (by decide)))
  have hoL : (h'.push (seqObj "list" os.toArray 0)).get? h'.objs.size = some (seqObj "list" os.toArray 0) := Heap.get?_push_size _ rfl
  show wpAny _ _ _ _ _ { s with heap := h'.push (seqObj "list" os.toArray 0), drawn := d, toks := tk }
  refine wpAny_bind (wpAny_holding (wpAny_call_entry slot_list_sort ⟨_, hoL, rfl⟩ entry_list_sort (list_sort_treeK strKind_oneLt hoL hS.keysOf (fun v₁ v₂ rest e => keyKind_strs (by rw [← e]; exact hS)) (by rw [hlen]; exact hz) fun st' b1 b2 => ⟨_, rfl, ?_⟩) (args_list_sort _)))
  obtain ⟨ss', a1, a2, a3⟩ := sorted_out_str hS b1 b2
  obtain ⟨e, he⟩ := sortedHeap_at (out := (arrOf st').map (·.2)) hoL
  refine wpAny_pure ⟨_, rfl, ?_⟩
  have I1 : L2.Inv X pins σ H { s with heap := h', drawn := d, toks := tk } := (I.kept hk).dr d
  refine sort_fin (s := { s with heap := h', drawn := d, toks := tk }) (tk := tk) I1 hz q a1 (a2.trans pS) a3 (fun b o e => ?_) (Nat.le_refl _) he
  have lt' := Heap.lt_size e
  rw [sortedHeap_old (Nat.ne_of_lt lt') (by rw [size_push']; exact Nat.lt_succ_of_lt lt')]
  exact Heap.get?_push_of_some _ e
end
def addN (ys : List (List Nat)) (x : List Nat) : List (List Nat) := if x ∈ ys then ys else ys ++ [x]
def uniqN (zs : List (List Nat)) : List (List Nat) := zs.foldl addN []
theorem strOf_inj {x y : List Nat} (h : Ev.strOf x = Ev.strOf y) : x = y := by
  have := congrArg (fun s : Str => s.cps.toList) h
  simpa [Ev.strOf] using this
theorem addN_map (ys : List (List Nat)) (x : List Nat) : (addN ys x).map Ev.strOf = addX (ys.map Ev.strOf) (Ev.strOf x) := by
  unfold addN addX
  by_cases h : x ∈ ys
  · rw [if_pos h, if_pos (List.mem_map.mpr ⟨x, h, rfl⟩)]
  · rw [if_neg h, if_neg (fun z => h (by obtain ⟨y, hy, e⟩ := List.mem_map.mp z; rw [← strOf_inj e]; exact hy)), List.map_append]
    rfl
theorem uniqN_go : ∀ (zs ys : List (List Nat)), (zs.foldl addN ys).map Ev.strOf = (zs.map Ev.strOf).foldl addX (ys.map Ev.strOf)
  | [], ys => rfl
  | z :: zs, ys => by rw [List.foldl_cons, uniqN_go zs, addN_map, List.map_cons, List.foldl_cons]
theorem uniqN_map (zs : List (List Nat)) : (uniqN zs).map Ev.strOf = uniqX (zs.map Ev.strOf) := uniqN_go zs []
theorem uniqN_mem : ∀ (zs ys : List (List Nat)) (x : List Nat), x ∈ zs.foldl addN ys ↔ x ∈ ys ∨ x ∈ zs
  | [], ys, x => by simp
  | z :: zs, ys, x => by
    rw [List.foldl_cons, uniqN_mem zs]
    unfold addN
    by_cases h : z ∈ ys
    · rw [if_pos h, List.mem_cons]
      constructor
      · rintro (a | a)
        · exact .inl a
        · exact .inr (.inr a)
      · rintro (a | rfl | a)
        · exact .inl a
        · exact .inl h
        · exact .inr a
    · rw [if_neg h, List.mem_append, List.mem_singleton, List.mem_cons, or_assoc]
theorem uniqN_len (zs : List (List Nat)) : (uniqN zs).length ≤ zs.length := by
  have h := uniq_len (zs.map Ev.strOf) []
  have e := congrArg List.length (uniqN_map zs)
  rw [List.length_map] at e
  rw [e]
  simpa [uniqX] using h
end SX
namespace Ev
open PySem PySem.Spec PyProof.Rows L2 PySem.Builtin
def gSortSet : D → Option D
  | .lst ds => (strsD ds).bind fun zs => if zs.length < 64 ∧ (∀ z ∈ zs, z.length ≤ sizeLine) then some (.lst ((sortX (SX.uniqN zs)).map .str)) else none
  | _ => none
section
variable {X : Cx} {C : Cfg} {pos p p2 pos2 : Pos} {e : Expr} {a : Ev}
theorem x_sortset (G : Good X C) (h1 : X.mg "sorted" = none) (h2 : X.mg "set" = none) (ha : PX X C e a) (g1 : Gl X "sorted" := by rfl) (g2 : Gl X "set" := by rfl)
    (he : starEach [e] X.env = (false, eval e X.env) :: starEach [] X.env := by rfl)
    (he2 : starEach [.Call (.Name "set" p2) [e] [] pos2] X.env = (false, eval (.Call (.Name "set" p2) [e] [] pos2) X.env) :: starEach [] X.env := by rfl) :
    PX X C (.Call (.Name "sorted" p) [.Call (.Name "set" p2) [e] [] pos2] [] pos) (evUn gSortSet a) := by
  have i1 : PE X (.Call (.Name "set" p2) [e] [] pos2) _ := pe_callTy (T := "set") (SX.call_set G.calm) g2 h2 (by decide +kernel) (pa_cons ha pa_nil he) (by decide) (by decide) he rfl
  have i2 : PE X (.Call (.Name "sorted" p) [.Call (.Name "set" p2) [e] [] pos2] [] pos) _ := pe_callB (SX.call_sortS G.calm) g1 h1 PyProof.Rows.boot_sorted (pa_cons i1 pa_nil he2) (by decide) (by decide) he2 rfl
  refine i2.imp fun σ H Q hq => ?_
  obtain ⟨Pr, F, env, env', d, r, e0, q⟩ := hq
  obtain ⟨x, env1, e1, e2⟩ := bindR_ok e0
  obtain ⟨e3, rfl⟩ := liftR_ok e2
  refine ⟨Pr, F, env, env', x, r, e1, fun v H1 F1 r1 s1 p1 => ?_⟩
  unfold gSortSet at e3
  split at e3
  · obtain ⟨zs, e4, e5⟩ := Option.bind_eq_some_iff.mp e3
    split at e5
    · rename_i hz
      cases e5
      obtain ⟨z, b, ws, rfl, k1, k2⟩ := BRep.lst (K := C.K) r1.fr (.inl p1)
      have e6 := reps_strs e4 k2
      subst e6
      show SX.rSet X [.ref b] H1 fun x H2 => SX.rSortS X [x] H2 Q
      refine ⟨b, zs, rfl, by rw [G.K]; exact SqL.of k1, hz.1, fun l hl => ?_⟩
      rw [← SX.uniqN_map]
      have r2 := r1.fresh (o := SX.SetO X.prog X.w l ((SX.uniqN zs).map strOf)) hl
      have hz2 : (SX.uniqN zs).length < 64 ∧ ∀ z ∈ SX.uniqN zs, z.length ≤ sizeLine :=
        ⟨Nat.lt_of_le_of_lt (SX.uniqN_len zs) hz.1, fun z hm => hz.2 z ((SX.uniqN_mem zs [] z).mp hm |>.resolve_left (by simp))⟩
      refine ⟨l, SX.uniqN zs, rfl, upd_same, hz2.1, fun l2 hl2 => ?_⟩
      obtain ⟨F2, r3, s2, p3⟩ := (r2.fresh (o := .lst ((sortX (SX.uniqN zs)).map fun z => V.str (strOf z))) hl2).keep (New.of r2 hl2 (sorted_new r2 hl2 hz2))
      exact q _ _ F2 r3 (s1.trans s2) p3
    · cases e5
  · cases e3
end
end Ev
namespace Ev
open PySem PySem.Spec PyProof.Rows L2 PySem.Builtin
section
variable {X : Cx} {C : Cfg} {pos : Pos}
def rTupS : List V → Hp → VK → Prop := fun xs H Q => ∃ z : Str, xs = [.str z] ∧ z.length ≤ sizeLine ∧ ∀ l, H l = none → Q (.ref l) (upd H l (.tup (z.cps.toList.map fun c => V.str ⟨#[c]⟩)))
theorem signs_vals : ∀ (cs : List Nat) (vs : List Value), vs.length = cs.length → (∀ (j : Nat) (v : Value), vs[j]? = some v → ∃ (c : Nat) (u : Tok), cs[j]? = some c ∧ v = Value.str ⟨#[c]⟩ u) → Vals (cs.map fun c => V.str ⟨#[c]⟩) vs
  | [], vs, hl, _ => by rw [List.eq_nil_of_length_eq_zero hl]; exact .nil
  | c :: cs, [], hl, _ => by simp at hl
  | c :: cs, v :: vs, hl, hv => by
    obtain ⟨c', u, e1, e2⟩ := hv 0 v rfl
    simp at e1
    subst e1 e2
    exact .cons ⟨u, rfl⟩ (signs_vals cs vs (by simpa using hl) fun j w hw => by simpa using hv (j + 1) w (by simpa using hw))
theorem call_tupS (hh : X.calm = true) : CallR X (.type "tuple") rTupS := by
  intro pins s σ H xs us Q I r h
  obtain ⟨z, rfl, hz, q⟩ := h
  obtain ⟨u, rfl, ⟨t, rfl⟩⟩ := vals1 r
  refine call_tuple_str (I.ok.hd hh) z t (fun h' tk acc kp hacc => ?_) (by simpa [Str.length] using hz)
  have I1 : L2.Inv X pins σ H { s with heap := h', toks := tk } := I.kept kp
  have hv : Vals (z.cps.toList.map fun c => V.str ⟨#[c]⟩) acc.toList := by
    obtain ⟨hsz, hit⟩ := hacc
    refine signs_vals _ _ (by simpa using hsz) fun j v hv => ?_
    obtain ⟨c, u, e1, e2⟩ := hit j v (by simpa using hv)
    exact ⟨c, u, by simpa using e1, e2⟩
  have I2 := I1.laid (t' := tk) (h' := h'.push { cls := .type "tuple", data := .seq acc.toList.toArray }) (a := h'.objs.size) (o := .tup (z.cps.toList.map fun c => V.str ⟨#[c]⟩)) (fun b o e => Heap.get?_push_of_some _ e) (Nat.le_refl _) ⟨by simpa [Str.length] using hz, acc.toList, hv, TupD.new _ _⟩
  have e : acc.toList.toArray = acc := by simp
  rw [e] at I2
  exact ⟨.ref h'.objs.size, _, I2, rfl, q _ (I1.hok.fresh (Nat.le_refl _))⟩
def gTupS : List D → Option D
  | [.str x] => some (.tup (signs x))
  | _ => none
theorem cd_tupS : CallD C rTupS gTupS := by
  intro Pr F env σ H ds d vs Q r hs h q
  unfold gTupS at h
  split at h
  · rename_i x
    cases h
    obtain ⟨v, rfl, hv⟩ := breps1 hs
    obtain ⟨rfl, hz⟩ := hv.str
    refine ⟨_, rfl, by rw [strOf_length]; exact hz, fun l hl => ?_⟩
    obtain ⟨r2, s2⟩ := r.new (o := .tup ((strOf x).cps.toList.map fun c => V.str ⟨#[c]⟩)) hl
    refine q _ _ _ r2 s2 ⟨by simpa [signs] using hz, l, _, rfl, SqT.of upd_same, ?_⟩
    have e : (strOf x).cps.toList = x := by simp [strOf]
    rw [e]
    exact reps_signs x
  · cases h
theorem x_tupS {p : Pos} {e : Expr} {ea : EvA} (G : Good X C) (hm : X.mg "tuple" = none) (ha : PXAB X C [e] ea) (hg : Gl X "tuple" := by rfl) (he : starEach [e] X.env = (false, eval e X.env) :: starEach [] X.env := by rfl) : PX X C (.Call (.Name "tuple" p) [e] [] pos) (evCall gTupS ea) :=
  px_callTy (T := "tuple") (r := rTupS) (call_tupS G.calm) cd_tupS hg hm (by decide +kernel) ha (by decide) (by decide) he rfl
end
end Ev
namespace Ev
open PySem PySem.Spec PyProof.Rows L2 PySem.Builtin
section
variable {X : Cx} {C : Cfg} {pos : Pos}
structure PXL (X : Cx) (C : Cfg) (es : List Expr) (ev : EvA) : Prop where
  go : PXA X C es ev
theorem pxl_nil : PXL X C [] evNil := ⟨pxa_nil⟩
theorem pxl_cons {e : Expr} {es : List Expr} {a : Ev} {r : EvA} (ha : PX X C e a) (hr : PXL X C es r) (hs : starEach (e :: es) X.env = (false, eval e X.env) :: starEach es X.env := by rfl) : PXL X C (e :: es) (evCons a r) := ⟨pxa_cons ha hr.go hs⟩
theorem n_lstL {es : List Expr} {a : EvA} (h : PXL X C es a) : PXN X C (.List es pos) (evLst a) := pxn_lst h.go
theorem up_abc : ∀ c, 97 ≤ c → c ≤ 122 → Unicode.upperOf c = [c - 32] := by
  have h : ((List.range 26).all fun i => Unicode.upperOf (97 + i) == [65 + i]) = true := by decide +kernel
  intro c h1 h2
  have h3 := eq_of_beq (List.all_eq_true.mp h (c - 97) (List.mem_range.mpr (by omega)))
  rw [show 97 + (c - 97) = c by omega, show 65 + (c - 97) = c - 32 by omega] at h3
  exact h3
def rUpper : V → List V → Hp → VK → Prop := fun x vs H Q => ∃ c : Nat, x = .str (strOf [c]) ∧ 97 ≤ c ∧ c ≤ 122 ∧ vs = [] ∧ Q (.str (strOf [c - 32])) H
theorem mt_upper : MtR X "str.upper" rUpper := by
  intro pins s σ H x vs v us Q I rx rv h
  obtain ⟨c, rfl, h1, h2, rfl, q⟩ := h
  obtain ⟨t, rfl⟩ := rx
  cases rv
  have e : placed (strOf [c]) (fun _ c => Unicode.upperOf c) = #[c - 32] := by
    unfold placed strOf
    simp [up_abc c h1 h2]
  have hf : PySem.Builtin.Str.tooLong (placed (strOf [c]) fun _ c => Unicode.upperOf c).size = false := by rw [e]; show PySem.Builtin.Str.tooLong 1 = false; decide
  refine call_gives PySem.F.slot_str_upper (typeIs_str s _ t) PySem.F.entry_str_upper (PySem.F.args_str_upper_1 _) (gives_str_upper _ t hf) ⟨by rw [e]; show 1 ≤ sizeLine; decide, ?_⟩
  rw [e]
  exact ⟨.str _, H, I.tok _, ⟨_, rfl⟩, q⟩
def gUpper : D → Option D
  | .str [c] => if 97 ≤ c ∧ c ≤ 122 then some (.str [c - 32]) else none
  | _ => none
theorem x_upper {o : Expr} {a : Ev} {apos cpos : Pos} (ho : PX X C o a) (hbase : attributeBase o "upper" X.env (eval o X.env) = eval o X.env := by rfl) (hline : (apos.endLine == cpos.line) = true := by rfl) :
    PX X C (.Call (.Attribute o "upper" apos) [] [] cpos) (evUn gUpper a) := by
  refine (pe_bm0 PySem.F.plainAttrs_str PySem.F.slot_str_upper PySem.F.type_str_upper mt_upper ho hbase hline).imp fun σ H Q h => ?_
  obtain ⟨Pr, F, env, env', d, rl, e0, q⟩ := h
  obtain ⟨x, env1, e1, e2⟩ := bindR_ok e0
  obtain ⟨e3, rfl⟩ := liftR_ok e2
  refine ⟨Pr, F, env, env', x, rl, e1, fun v H1 F1 r1 s1 p1 => ?_⟩
  unfold gUpper at e3
  split at e3
  · rename_i c
    split at e3
    · rename_i hc
      cases e3
      obtain ⟨rfl, _⟩ := p1
      exact ⟨rfl, c, rfl, hc.1, hc.2, rfl, q _ H1 F1 r1 s1 ⟨rfl, by rw [sizeLine_eq]; simp⟩⟩
    · cases e3
  · cases e3
end
end Ev
namespace HT
open PySem PySem.Spec PyProof PyProof.Rows PySem.Builtin
theorem fm_map {α β : Type} (f : α → Option β) (g : α → β) : ∀ l : List α, (∀ a ∈ l, f a = some (g a)) → l.filterMap f = l.map g
  | [], _ => rfl
  | a :: l, h => by rw [List.filterMap_cons_some (h a List.mem_cons_self), List.map_cons, fm_map f g l fun b hb => h b (List.mem_cons_of_mem _ hb)]
theorem rev_pick (xs : Array Value) : (List.range xs.size).filterMap (fun (k : Nat) => xs[(((xs.size : Nat) : Int) - 1 + (k : Int) * (-1)).toNat]?) = xs.toList.reverse := by
  have e : (List.range xs.size).filterMap (fun (k : Nat) => xs[(((xs.size : Nat) : Int) - 1 + (k : Int) * (-1)).toNat]?) = (List.range xs.size).map fun k => xs.getD (xs.size - 1 - k) .none := by
    apply fm_map
    intro k hk
    have hk := List.mem_range.mp hk
    have e1 : (((xs.size : Nat) : Int) - 1 + (k : Int) * (-1)).toNat = xs.size - 1 - k := by omega
    have h2 : xs.size - 1 - k < xs.size := by omega
    rw [e1]
    simp [h2]
  rw [e]
  apply List.ext_getElem
  · simp
  · intro i h1 h2
    have hi : i < xs.size := by simpa using h1
    have h3 : xs.size - 1 - i < xs.size := by omega
    simp [List.getElem_reverse, Array.getD, h3]
section
variable {prog : Program} {w : World} {A : Around} {E : Value → Shared → Prop} {s : Shared}
theorem sliceApplied_rev {sl : Addr} {u : Tok} {n : Nat} {Q : Int × Int × Nat → Shared → Prop} (hs : s.heap.IsSliceOf sl .none .none (.int (-1) u)) (h : Q ((n : Int) - 1, -1, n) s) :
    wpAny (model prog w) A (Builtin.Slice.sliceApplied (.ref sl) (pure (n : Int))) Q E s := by
  obtain ⟨os, hos, hcs, hds⟩ := id hs
  unfold Builtin.Slice.sliceApplied Builtin.Slice.sliceFields
  refine wpAny_bind (wpAny_bind (wpAny_field hos hds (x := .none) rfl (wpAny_bind (wpAny_field hos hds (x := .none) rfl (wpAny_bind (wpAny_field hos hds (x := .int (-1) u) rfl (wpAny_pure ?_)))))))
  refine wpAny_bind (slicePart_ (v := .int (-1) u) (o := some (-1)) (.int (-1) u) ?_)
  show wpAny _ _ (if ((-1 : Int) == 0) = true then _ else _) _ _ s
  rw [if_neg (by decide)]
  refine wpAny_bind (slicePart_none (wpAny_bind (slicePart_none (wpAny_bind (wpAny_pure ?_)))))
  show wpAny _ _ (pure ((n : Int) - 1, (-1 : Int), Builtin.Slice.slicePlaces ((n : Int) - 1) (-1) (-1))) _ _ s
  have e : Builtin.Slice.slicePlaces ((n : Int) - 1) (-1) (-1) = n := by
    unfold Builtin.Slice.slicePlaces
    rw [if_neg (by decide)]
    split
    · have : ((n : Int) - 1 - -1 - 1) / (- (-1 : Int)) + 1 = n := by
        rw [show (- (-1 : Int)) = 1 from rfl, Int.ediv_one]; omega
      rw [this]; simp
    · simp; omega
  rw [e]
  exact wpAny_pure h
theorem getItem_tuple_rev {t sl : Addr} {items : Array Value} {u : Tok} {Q : Value → Shared → Prop} (ht : IsTup s.heap t items) (hs : s.heap.IsSliceOf sl .none .none (.int (-1) u)) (hz : items.size ≤ sizeLine)
    (h : Q (.ref s.heap.objs.size) { s with heap := s.heap.push { cls := .type "tuple", data := .seq items.toList.reverse.toArray } }) : wpAny (model prog w) A (getItem (.ref t) (.ref sl)) Q E s := by
  obtain ⟨os, hos, hcs, hds⟩ := id hs
  have hTs : s.TypeIs (.ref sl) "slice" := ⟨os, hos, hcs⟩
  unfold getItem
  try with_reducible refine wpAny_holding ?_
  first | refine wpAny_bind (wpAny_pure ?_) | skip
  refine wpAny_bind (wpAny_sequenceKey ht.typeIs (by decide) ?_)
  refine wpAny_bind (wpAny_callSpecial?_slot (name := Str.ofString "__getitem__") ht.typeIs PyProof.Rows.slot_tuple_getitem
    (wpAny_call_entry PyProof.Rows.slot_tuple_getitem ht.typeIs entry_tuple_getitem ?_ (args_tuple_getitem _ _)))
  show wpAny _ _ (Builtin.Tuple.tupleItemsOf (.ref t) >>= _) _ _ s
  refine wpAny_bind (tupleItemsOf_ ht ?_)
  refine wpAny_bind (wpAny_typeOf hTs ?_)
  rw [if_pos (by decide)]
  refine wpAny_bind (sliceApplied_rev hs ?_)
  show wpAny _ _ (if ((((items.size : Nat) : Int) - 1) == 0 && (-1 : Int) == 1 && items.size == items.size) = true then _ else _) _ _ s
  rw [if_neg (by simp)]
  refine wpAny_bind ?_
  unfold Builtin.Tuple.tupleExact
  rw [rev_pick]
  exact wpAny_newObj_type (wpAny_pure ⟨_, rfl, wpAny_pure h⟩) (by show items.toList.reverse.toArray.size ≤ sizeLine; simpa using hz)
end
end HT
namespace L2
open PySem PySem.Spec PyProof.Rows
section
variable {X : Cx} {e : Expr} {te : TE}
def tRevT (K : PySem.W.Frag) (te ts : TE) : TE := fun σ H Q => te σ H fun x H1 => ts σ H1 fun y H2 => ∃ a xs, x = .ref a ∧ SqT K H2 a xs ∧ y = .int (-1) ∧ ∀ l, H2 l = none → Q (.ref l) (upd H2 l (.tup xs.reverse))
theorem vals_rev : ∀ {xs : List V} {us : List Value}, Vals xs us → Vals xs.reverse us.reverse := by
  intro xs us h
  have app : ∀ {xs : List V} {us : List Value} {ys : List V} {ws : List Value}, Vals xs us → Vals ys ws → Vals (xs ++ ys) (us ++ ws) := by
    intro xs us ys ws h g
    induction h with
    | nil => exact g
    | cons h1 _ ih => exact .cons h1 ih
  induction h with
  | nil => exact .nil
  | cons h1 _ ih => rw [List.reverse_cons, List.reverse_cons]; exact app ih (.cons h1 .nil)
theorem pe_revT {st : Expr} {ts : TE} {p2 pos : Pos} (he : PE X e te) (hst : PE X st ts) : PE X (.Subscript e (.Slice none none (some st) p2) pos) (tRevT X.K te ts) := by
  intro pins s σ H Q I h
  refine Subscript_ (thn (he pins s σ H _ I h) fun v s1 ⟨x, H1, I1, r1, q1⟩ => ?_)
  refine wpAny_Slice ?_
  rw [evalPart_none, evalPart_some]
  refine wpAny_pure (wpAny_pure (thn (hst pins s1 σ H1 _ I1 q1) fun w s2 ⟨y, H2, I2, r2, q2⟩ => ?_))
  obtain ⟨a, xs, ex, hx, ey, q⟩ := q2
  subst ex; subst ey
  cases r1
  obtain ⟨t', rfl⟩ := r2
  have I4 : Inv X pins σ H2 { s2 with heap := s2.heap.push { cls := .type "slice", data := .fields #[.none, .none, .int (-1) t'] } } := I2.kept (t' := s2.toks) fun b ob q => Heap.get?_push_of_some _ q
  obtain ⟨its, r, ht, hz⟩ := I4.tuple hx
  show wpAny (model X.prog X.w) X.A (subscriptTail e (.Slice none none (some st) p2) (.ref a) (.ref s2.heap.objs.size)) (EP X pins σ Q) X.xe { s2 with heap := s2.heap.push { cls := .type "slice", data := .fields #[.none, .none, .int (-1) t'] } }
  refine tail_any (ops := [.ref a, .ref s2.heap.objs.size]) ht.typeIs PyProof.Rows.slot_tuple_getitem.lookup ?_ (by with_unfolding_all rfl)
  have hlen : its.length = xs.length := r.length.symm
  refine HT.getItem_tuple_rev (u := t') ht ⟨_, Heap.get?_push_size _ rfl, rfl, rfl⟩ (by rw [List.size_toArray, hlen]; exact hz) ?_
  refine ⟨.ref _, _, I4.laid (t' := s2.toks) (fun b o e => Heap.get?_push_of_some _ e) (Nat.le_refl _) (o := .tup xs.reverse) ⟨by rw [List.length_reverse]; exact hz, its.reverse, vals_rev r, ?_⟩, rfl, q _ (I4.hok.fresh (Nat.le_refl _))⟩
  exact TupD.new _ _
end
end L2
namespace Ev
open PySem PySem.Spec PyProof.Rows L2 PySem.Builtin
section
variable {X : Cx} {C : Cfg} {pos : Pos} {x : Expr} {a : Ev}
def gRevT : D → Option D
  | .tup xs => some (.tup xs.reverse)
  | _ => none
theorem x_revT {p2 p3 p4 : Pos} {k : Nat} (G : Good X C) (ha : PX X C x a) : PX X C (.Subscript x (.Slice none none (some (.UnaryOp .USub (.Constant (.int 1) k p4) p3)) p2) pos) (evUn gRevT a) := by
  have h := pe_revT (p2 := p2) (pos := pos) ha (pe_un (pos := p3) un_neg (pe_int (i := 1) (j := k) (pos := p4)))
  rw [G.K] at h
  refine h.imp fun σ H Q hq => ?_
  obtain ⟨Pr, F, env, env', d, r, e, q⟩ := hq
  obtain ⟨z, env1, e1, e2⟩ := bindR_ok e
  obtain ⟨e3, rfl⟩ := liftR_ok e2
  cases z with
  | tup xs =>
    cases e3
    refine ⟨Pr, F, env, env', .tup xs, r, e1, fun v H1 F1 r1 s1 p1 => ?_⟩
    obtain ⟨hz, b, vs, rfl, h1, _, h2⟩ := BRep.tup (K := C.K) r1.fr (.inl p1)
    refine ⟨1, rfl, b, vs, rfl, h1, rfl, fun l hl => ?_⟩
    obtain ⟨r2, s2⟩ := r1.new (o := .tup vs.reverse) hl
    exact q _ _ _ r2 (s1.trans s2) ⟨by rw [List.length_reverse]; exact hz, l, _, rfl, SqT.of upd_same, Reps.mono s2 _ _ h2.reverse⟩
  | _ => cases e3
end
end Ev
namespace Ev
open PySem L2
theorem nr {α : Type} {a b : α} (h : a = b) : a = b := h
theorem bR {α β : Type} (a : α) (e : Env) (f : α → Env → R β) : bindR (.ok a e) f = f a e := nr rfl
theorem bO {α : Type} (a : α) (e : Env) (f : α → Env → Out) : bindO (.ok a e) f = f a e := nr rfl
theorem lR {α : Type} (a : α) (e : Env) : liftR (some a) e = .ok a e := nr rfl
theorem lO (e : Env) : liftO (some e) = .nx e := nr rfl
def stk {α : Type} (_ : Env) : R α := .stuck
def seqO (o : Out) (b : EvS) : Out := match o with
  | .nx e => b e
  | .rt o d e => .rt o d e
  | .bk e => .bk e
  | .ct e => .ct e
  | .stuck => .stuck
theorem stSeq_s (a b : EvS) (env : Env) : stSeq a b env = seqO (a env) b := nr rfl
theorem sNx (e : Env) (b : EvS) : seqO (.nx e) b = b e := nr rfl
theorem sRt (o : Bool) (d : D) (e : Env) (b : EvS) : seqO (.rt o d e) b = .rt o d e := nr rfl
theorem sBk (e : Env) (b : EvS) : seqO (.bk e) b = .bk e := nr rfl
theorem sCt (e : Env) (b : EvS) : seqO (.ct e) b = .ct e := nr rfl
def ifR {α : Type} (c : Bool) (a b : Env → α) (env : Env) : α := if c = true then a env else b env
theorem iT {α : Type} (a b : Env → α) (env : Env) : ifR true a b env = a env := nr rfl
theorem iF {α : Type} (a b : Env → α) (env : Env) : ifR false a b env = b env := nr rfl
def kIf {α : Type} (a b : Env → α) (c : Bool) (e : Env) : α := ifR c a b e
theorem kIf_s {α : Type} (a b : Env → α) (c : Bool) (e : Env) : kIf a b c e = ifR c a b e := nr rfl
theorem stIf_s (t : EvT) (a b : EvS) (env : Env) : stIf t a b env = bindO (t env) (kIf a b) := nr rfl
theorem evIf_s (t : EvT) (a b : Ev) (env : Env) : evIf t a b env = bindR (t env) (kIf a b) := nr rfl
def okT (b : Bool) : EvT := fun e => .ok b e
theorem okT_s (b : Bool) (e : Env) : okT b e = .ok b e := nr rfl
theorem evAndT_s (a b : EvT) (env : Env) : evAndT a b env = bindR (a env) (kIf b (okT false)) := nr rfl
theorem evOrT_s (a b : EvT) (env : Env) : evOrT a b env = bindR (a env) (kIf (okT true) b) := nr rfl
def blR {α : Type} (d : D) (f : Bool → R α) : R α := match d with
  | .bl b => f b
  | _ => .stuck
theorem bB {α : Type} (b : Bool) (f : Bool → R α) : blR (.bl b) f = f b := nr rfl
def okB (b : Bool) : Ev := fun e => .ok (.bl b) e
theorem okB_s (b : Bool) (e : Env) : okB b e = .ok (.bl b) e := nr rfl
def kBlIf (a b : Ev) (d : D) (e : Env) : R D := blR d (kBlIf2 a b e)
where kBlIf2 (a b : Ev) (e : Env) (c : Bool) : R D := ifR c a b e
theorem kBlIf_s (a b : Ev) (d : D) (e : Env) : kBlIf a b d e = blR d (kBlIf.kBlIf2 a b e) := nr rfl
theorem kBlIf2_s (a b : Ev) (e : Env) (c : Bool) : kBlIf.kBlIf2 a b e c = ifR c a b e := nr rfl
theorem evAnd_s (a b : Ev) (env : Env) : evAnd a b env = bindR (a env) (kBlIf b (okB false)) := by
  unfold evAnd
  congr 1
  funext d e
  cases d with
  | bl b => cases b <;> rfl
  | _ => rfl
theorem evOr_s (a b : Ev) (env : Env) : evOr a b env = bindR (a env) (kBlIf (okB true) b) := by
  unfold evOr
  congr 1
  funext d e
  cases d with
  | bl b => cases b <;> rfl
  | _ => rfl
def kNot2 (e : Env) (c : Bool) : R D := .ok (.bl (!c)) e
def kNot (d : D) (e : Env) : R D := blR d (kNot2 e)
theorem kNot2_s (e : Env) (c : Bool) : kNot2 e c = .ok (.bl (!c)) e := nr rfl
theorem kNot_s (d : D) (e : Env) : kNot d e = blR d (kNot2 e) := nr rfl
theorem evNot_s (a : Ev) (env : Env) : evNot a env = bindR (a env) kNot := by
  unfold evNot
  congr 1
def kB2 (e : Env) (c : Bool) : R Bool := .ok c e
def kB (d : D) (e : Env) : R Bool := blR d (kB2 e)
theorem kB2_s (e : Env) (c : Bool) : kB2 e c = .ok c e := nr rfl
theorem kB_s (d : D) (e : Env) : kB d e = blR d (kB2 e) := nr rfl
theorem evB_s (a : Ev) (env : Env) : evB a env = bindR (a env) kB := by
  unfold evB
  congr 1
def rdO {α : Type} (o : Option (Option (Bool × D))) (f : Bool → D → R α) : R α := match o with
  | some (some (o, d)) => f o d
  | _ => .stuck
theorem rS {α : Type} (o : Bool) (d : D) (f : Bool → D → R α) : rdO (some (some (o, d))) f = f o d := nr rfl
def kRd (env : Env) (_ : Bool) (d : D) : R D := .ok d env
theorem kRd_s (env : Env) (o : Bool) (d : D) : kRd env o d = .ok d env := nr rfl
theorem evRd_s (i : Nat) (env : Env) : evRd i env = rdO env[i]? (kRd env) := by
  unfold evRd rdO; rfl
def kVar (i : Nat) (env : Env) (o : Bool) (d : D) : R D := .ok d (bif o then env.set i (some (false, d)) else env)
theorem kVar_s (i : Nat) (env : Env) (o : Bool) (d : D) : kVar i env o d = .ok d (bif o then env.set i (some (false, d)) else env) := nr rfl
theorem evVar_s (i : Nat) (env : Env) : evVar i env = rdO env[i]? (kVar i env) := by
  unfold evVar rdO
  cases env[i]? with
  | none => rfl
  | some o =>
    cases o with
    | none => rfl
    | some p => obtain ⟨b, d⟩ := p; cases b <;> rfl
def kBinO3 (g : D → D → Option D) (y : D) (e : Env) (_ : Bool) (x : D) : R D := liftR (g x y) e
def kBinO2 (g : D → D → Option D) (i : Nat) (y : D) (e : Env) : R D := rdO e[i]? (kBinO3 g y e)
def kBinO (g : D → D → Option D) (i : Nat) (b : Ev) (env : Env) (_ : Bool) (_ : D) : R D := bindR (b env) (kBinO2 g i)
theorem kBinO3_s (g : D → D → Option D) (y : D) (e : Env) (o : Bool) (x : D) : kBinO3 g y e o x = liftR (g x y) e := nr rfl
theorem kBinO2_s (g : D → D → Option D) (i : Nat) (y : D) (e : Env) : kBinO2 g i y e = rdO e[i]? (kBinO3 g y e) := nr rfl
theorem kBinO_s (g : D → D → Option D) (i : Nat) (b : Ev) (env : Env) (o : Bool) (d : D) : kBinO g i b env o d = bindR (b env) (kBinO2 g i) := nr rfl
theorem evBinO_s (g : D → D → Option D) (i : Nat) (b : Ev) (env : Env) : evBinO g i b env = rdO env[i]? (kBinO g i b env) := by
  unfold evBinO rdO; rfl
def ioR {α : Type} (o : Option (D × D)) (f : D → D → R α) : R α := match o with
  | some (d, x) => f d x
  | none => .stuck
theorem oS {α : Type} (d x : D) (f : D → D → R α) : ioR (some (d, x)) f = f d x := nr rfl
def kIO5 (i : Nat) (e : Env) (d x' : D) : R D := .ok d (e.set i (some (true, x')))
def kIO4 (f : List D → Option (D × D)) (i : Nat) (x : D) (ds : List D) (e : Env) : R D := ioR (f (x :: ds)) (kIO5 i e)
def kIO3 (f : List D → Option (D × D)) (i : Nat) (ds : List D) (e : Env) (o : Bool) (x : D) : R D := ifR o (kIO4 f i x ds) stk e
def kIO2 (f : List D → Option (D × D)) (i : Nat) (ds : List D) (e : Env) : R D := rdO e[i]? (kIO3 f i ds e)
def kIO1 (f : List D → Option (D × D)) (i : Nat) (a : EvA) (env : Env) : R D := bindR (a env) (kIO2 f i)
def kIO (f : List D → Option (D × D)) (i : Nat) (a : EvA) (env : Env) (o : Bool) (_ : D) : R D := ifR o (kIO1 f i a) stk env
theorem kIO5_s (i : Nat) (e : Env) (d x' : D) : kIO5 i e d x' = .ok d (e.set i (some (true, x'))) := nr rfl
theorem kIO4_s (f : List D → Option (D × D)) (i : Nat) (x : D) (ds : List D) (e : Env) : kIO4 f i x ds e = ioR (f (x :: ds)) (kIO5 i e) := nr rfl
theorem kIO3_s (f : List D → Option (D × D)) (i : Nat) (ds : List D) (e : Env) (o : Bool) (x : D) : kIO3 f i ds e o x = ifR o (kIO4 f i x ds) stk e := nr rfl
theorem kIO2_s (f : List D → Option (D × D)) (i : Nat) (ds : List D) (e : Env) : kIO2 f i ds e = rdO e[i]? (kIO3 f i ds e) := nr rfl
theorem kIO1_s (f : List D → Option (D × D)) (i : Nat) (a : EvA) (env : Env) : kIO1 f i a env = bindR (a env) (kIO2 f i) := nr rfl
theorem kIO_s (f : List D → Option (D × D)) (i : Nat) (a : EvA) (env : Env) (o : Bool) (d : D) : kIO f i a env o d = ifR o (kIO1 f i a) stk env := nr rfl
theorem evIO_s (f : List D → Option (D × D)) (i : Nat) (a : EvA) (env : Env) : evIO f i a env = rdO env[i]? (kIO f i a env) := by
  unfold evIO rdO kIO ifR
  cases env[i]? with
  | none => rfl
  | some o =>
    cases o with
    | none => rfl
    | some p =>
      obtain ⟨b, d⟩ := p
      cases b with
      | false => rfl
      | true =>
        show bindR (a env) _ = bindR (a env) _
        congr 1
        funext ds e
        show _ = rdO e[i]? (kIO3 f i ds e)
        unfold rdO kIO3 ifR
        cases e[i]? with
        | none => rfl
        | some o =>
          cases o with
          | none => rfl
          | some p => obtain ⟨b, d⟩ := p; cases b <;> rfl
def kIOn3 (e : Env) (d _ : D) : R D := .ok d e
def kIOn2 (f : List D → Option (D × D)) (x : D) (ds : List D) (e : Env) : R D := ioR (f (x :: ds)) (kIOn3 e)
def kIOn (f : List D → Option (D × D)) (a : EvA) (x : D) (e : Env) : R D := bindR (a e) (kIOn2 f x)
theorem kIOn3_s (e : Env) (d x : D) : kIOn3 e d x = .ok d e := nr rfl
theorem kIOn2_s (f : List D → Option (D × D)) (x : D) (ds : List D) (e : Env) : kIOn2 f x ds e = ioR (f (x :: ds)) (kIOn3 e) := nr rfl
theorem kIOn_s (f : List D → Option (D × D)) (a : EvA) (x : D) (e : Env) : kIOn f a x e = bindR (a e) (kIOn2 f x) := nr rfl
theorem evIOn_s (f : List D → Option (D × D)) (c : Ev) (a : EvA) (env : Env) : evIOn f c a env = bindR (c env) (kIOn f a) := nr rfl
def intR {α : Type} (d : D) (f : Int → R α) : R α := match d with
  | .int i => f i
  | _ => .stuck
theorem nS {α : Type} (i : Int) (f : Int → R α) : intR (.int i) f = f i := nr rfl
def kP2 (e : Env) (i : Int) : R (Option Int) := .ok (some i) e
def kP (d : D) (e : Env) : R (Option Int) := intR d (kP2 e)
theorem kP2_s (e : Env) (i : Int) : kP2 e i = .ok (some i) e := nr rfl
theorem kP_s (d : D) (e : Env) : kP d e = intR d (kP2 e) := nr rfl
theorem evP_s (a : Ev) (env : Env) : evP a env = bindR (a env) kP := nr rfl
def obR {α : Type} (o : Option D) (f : Bool → R α) : R α := match o with
  | some (.bl k) => f k
  | _ => .stuck
theorem obS {α : Type} (k : Bool) (f : Bool → R α) : obR (some (.bl k)) f = f k := nr rfl
def kCh4 (g' : D → D → Option D) (v t : D) (e : Env) : R D := liftR (g' v t) e
def kCh3 (g' : D → D → Option D) (c : Ev) (v : D) (e : Env) : R D := bindR (c e) (kCh4 g' v)
def kCh2b (g' : D → D → Option D) (c : Ev) (v : D) (e : Env) (k : Bool) : R D := ifR k (kCh3 g' c v) (okB false) e
def kCh2 (g g' : D → D → Option D) (c : Ev) (u v : D) (e : Env) : R D := obR (g u v) (kCh2b g' c v e)
def kCh (g g' : D → D → Option D) (b c : Ev) (u : D) (e : Env) : R D := bindR (b e) (kCh2 g g' c u)
theorem kCh4_s (g' : D → D → Option D) (v t : D) (e : Env) : kCh4 g' v t e = liftR (g' v t) e := nr rfl
theorem kCh3_s (g' : D → D → Option D) (c : Ev) (v : D) (e : Env) : kCh3 g' c v e = bindR (c e) (kCh4 g' v) := nr rfl
theorem kCh2b_s (g' : D → D → Option D) (c : Ev) (v : D) (e : Env) (k : Bool) : kCh2b g' c v e k = ifR k (kCh3 g' c v) (okB false) e := nr rfl
theorem kCh2_s (g g' : D → D → Option D) (c : Ev) (u v : D) (e : Env) : kCh2 g g' c u v e = obR (g u v) (kCh2b g' c v e) := nr rfl
theorem kCh_s (g g' : D → D → Option D) (b c : Ev) (u : D) (e : Env) : kCh g g' b c u e = bindR (b e) (kCh2 g g' c u) := nr rfl
theorem evChain_s (g g' : D → D → Option D) (a b c : Ev) (env : Env) : evChain g g' a b c env = bindR (a env) (kCh g g' b c) := by
  unfold evChain
  congr 1
def loopK (o : Out) (k : EvS) : Out := match o with
  | .nx e => k e
  | .ct e => k e
  | .bk e => .nx e
  | .rt o d e => .rt o d e
  | .stuck => .stuck
theorem kNx (e : Env) (b : EvS) : loopK (.nx e) b = b e := nr rfl
theorem kRt (o : Bool) (d : D) (e : Env) (b : EvS) : loopK (.rt o d e) b = .rt o d e := nr rfl
theorem kBk (e : Env) (b : EvS) : loopK (.bk e) b = .nx e := nr rfl
theorem kCt (e : Env) (b : EvS) : loopK (.ct e) b = b e := nr rfl
def gvK (o : Option Env) (b : EvS) : Out := match o with
  | none => .stuck
  | some e => b e
theorem vS (e : Env) (b : EvS) : gvK (some e) b = b e := nr rfl
def kFor (g : GV) (b : EvS) (ds : List D) (e : Env) : Out := loopK (b e) (forO g b ds)
theorem kFor_s (g : GV) (b : EvS) (ds : List D) (e : Env) : kFor g b ds e = loopK (b e) (forO g b ds) := nr rfl
theorem forO_n (g : GV) (b : EvS) (env : Env) : forO g b [] env = .nx env := nr rfl
theorem forO_c (g : GV) (b : EvS) (d : D) (ds : List D) (env : Env) : forO g b (d :: ds) env = gvK (g d env) (kFor g b ds) := by
  rw [forO]
  cases g d env with
  | none => rfl
  | some e =>
    show (match b e with | .nx e2 => forO g b ds e2 | .ct e2 => forO g b ds e2 | .bk e2 => .nx e2 | .rt o d e2 => .rt o d e2 | .stuck => .stuck) = loopK (b e) (forO g b ds)
    cases b e <;> rfl
def kWh (t : EvT) (b : EvS) (n : Nat) : EvS := fun e => loopK (b e) (whileO t b n)
theorem kWh_s (t : EvT) (b : EvS) (n : Nat) (e : Env) : kWh t b n e = loopK (b e) (whileO t b n) := nr rfl
def gvR {α : Type} (o : Option Env) (b : Env → R α) : R α := match o with
  | none => .stuck
  | some e => b e
theorem wS {α : Type} (e : Env) (b : Env → R α) : gvR (some e) b = b e := nr rfl
def kLc4 (y : D) (ys : List D) (e : Env) : R (List D) := .ok (y :: ys) e
def kLc3 (g : GV) (c : EvT) (el : Ev) (ds : List D) (y : D) (e : Env) : R (List D) := bindR (lcO g c el ds e) (kLc4 y)
def kLc2 (g : GV) (c : EvT) (el : Ev) (ds : List D) (e : Env) : R (List D) := bindR (el e) (kLc3 g c el ds)
def kLc (g : GV) (c : EvT) (el : Ev) (ds : List D) (e : Env) : R (List D) := bindR (c e) (kIf (kLc2 g c el ds) (lcO g c el ds))
theorem kLc4_s (y : D) (ys : List D) (e : Env) : kLc4 y ys e = .ok (y :: ys) e := nr rfl
theorem kLc3_s (g : GV) (c : EvT) (el : Ev) (ds : List D) (y : D) (e : Env) : kLc3 g c el ds y e = bindR (lcO g c el ds e) (kLc4 y) := nr rfl
theorem kLc2_s (g : GV) (c : EvT) (el : Ev) (ds : List D) (e : Env) : kLc2 g c el ds e = bindR (el e) (kLc3 g c el ds) := nr rfl
theorem kLc_s (g : GV) (c : EvT) (el : Ev) (ds : List D) (e : Env) : kLc g c el ds e = bindR (c e) (kIf (kLc2 g c el ds) (lcO g c el ds)) := nr rfl
theorem lcO_n (g : GV) (c : EvT) (e : Ev) (env : Env) : lcO g c e [] env = .ok [] env := nr rfl
theorem lcO_c (g : GV) (c : EvT) (e : Ev) (d : D) (ds : List D) (env : Env) : lcO g c e (d :: ds) env = gvR (g d env) (kLc g c e ds) := by
  rw [lcO]
  cases g d env <;> rfl
def retD (o : Out) : Option D := match o with
  | .rt false d _ => some d
  | .nx _ => some .non
  | _ => none
theorem runP_s (n : Nat) (ev : EvS) (ds : List D) : runP n ev ds = retD (ev (envOf n ds)) := nr rfl
theorem dRt (d : D) (e : Env) : retD (.rt false d e) = some d := nr rfl
theorem dNx (e : Env) : retD (.nx e) = some .non := nr rfl
def szR {α : Type} (n : Nat) (x : R α) : R α := if n ≤ sizeLine then x else .stuck
theorem zR {α : Type} {n : Nat} {x : R α} (h : n ≤ sizeLine) : szR n x = x := if_pos h
def kTup (ds : List D) (e : Env) : R D := szR ds.length (.ok (.tup ds) e)
theorem kTup_s (ds : List D) (e : Env) : kTup ds e = szR ds.length (.ok (.tup ds) e) := nr rfl
theorem evTup_s (r : EvA) (env : Env) : evTup r env = bindR (r env) kTup := nr rfl
def kLst (ds : List D) (e : Env) : R D := szR ds.length (.ok (.lst ds) e)
theorem kLst_s (ds : List D) (e : Env) : kLst ds e = szR ds.length (.ok (.lst ds) e) := nr rfl
theorem evLst_s (r : EvA) (env : Env) : evLst r env = bindR (r env) kLst := nr rfl
def lsO (o : Option (Option (Bool × D))) (f : List D → Out) : Out := match o with
  | some (some (true, .lst xs)) => f xs
  | _ => .stuck
theorem lS (xs : List D) (f : List D → Out) : lsO (some (some (true, .lst xs))) f = f xs := nr rfl
def szO (n : Nat) (x : Out) : Out := if n ≤ sizeLine then x else .stuck
theorem zO {n : Nat} {x : Out} (h : n ≤ sizeLine) : szO n x = x := if_pos h
def kApp3 (i : Nat) (d : D) (e : Env) (xs : List D) : Out := szO (xs.length + 1) (.nx (e.set i (some (true, .lst (xs ++ [d])))))
def kApp2 (i : Nat) (d : D) (e : Env) : Out := lsO e[i]? (kApp3 i d e)
def kApp (i : Nat) (a : Ev) (env : Env) (_ : List D) : Out := bindO (a env) (kApp2 i)
theorem kApp3_s (i : Nat) (d : D) (e : Env) (xs : List D) : kApp3 i d e xs = szO (xs.length + 1) (.nx (e.set i (some (true, .lst (xs ++ [d]))))) := nr rfl
theorem kApp2_s (i : Nat) (d : D) (e : Env) : kApp2 i d e = lsO e[i]? (kApp3 i d e) := nr rfl
theorem kApp_s (i : Nat) (a : Ev) (env : Env) (xs : List D) : kApp i a env xs = bindO (a env) (kApp2 i) := nr rfl
theorem stApp_s (i : Nat) (a : Ev) (env : Env) : stApp i a env = lsO env[i]? (kApp i a env) := nr rfl
def ldO (d : D) (f : List D → Out) : Out := match d with
  | .lst xs => f xs
  | _ => .stuck
theorem eS (xs : List D) (f : List D → Out) : ldO (.lst xs) f = f xs := nr rfl
def kExt4 (i : Nat) (e : Env) (xs zs : List D) : Out := szO (xs.length + zs.length) (.nx (e.set i (some (true, .lst (xs ++ zs)))))
def kExt3 (i : Nat) (d : D) (e : Env) (xs : List D) : Out := ldO d (kExt4 i e xs)
def kExt2 (i : Nat) (d : D) (e : Env) : Out := lsO e[i]? (kExt3 i d e)
def kExt (i : Nat) (a : Ev) (env : Env) (_ : List D) : Out := bindO (a env) (kExt2 i)
theorem kExt4_s (i : Nat) (e : Env) (xs zs : List D) : kExt4 i e xs zs = szO (xs.length + zs.length) (.nx (e.set i (some (true, .lst (xs ++ zs))))) := nr rfl
theorem kExt3_s (i : Nat) (d : D) (e : Env) (xs : List D) : kExt3 i d e xs = ldO d (kExt4 i e xs) := nr rfl
theorem kExt2_s (i : Nat) (d : D) (e : Env) : kExt2 i d e = lsO e[i]? (kExt3 i d e) := nr rfl
theorem kExt_s (i : Nat) (a : Ev) (env : Env) (xs : List D) : kExt i a env xs = bindO (a env) (kExt2 i) := nr rfl
theorem stExt_s (i : Nat) (a : Ev) (env : Env) : stExt i a env = lsO env[i]? (kExt i a env) := by
  unfold stExt lsO kExt
  cases env[i]? with
  | none => rfl
  | some o =>
    cases o with
    | none => rfl
    | some p =>
      obtain ⟨b, d⟩ := p
      cases b with
      | false => rfl
      | true =>
        cases d with
        | lst xs =>
          show bindO (a env) _ = bindO (a env) _
          congr 1
          funext d e
          show _ = lsO e[i]? (kExt3 i d e)
          unfold lsO kExt3
          cases e[i]? with
          | none => rfl
          | some o =>
            cases o with
            | none => rfl
            | some p =>
              obtain ⟨b, u⟩ := p
              cases b with
              | false => rfl
              | true =>
                cases u with
                | lst ys => cases d <;> rfl
                | _ => rfl
        | _ => rfl
theorem gAdd_s' {a b : List Nat} (h : a.length + b.length ≤ sizeLine) : gAdd (.str a) (.str b) = some (.str (a ++ b)) := if_pos h
theorem gAdd_t' {a b : List D} (h : a.length + b.length ≤ sizeLine) : gAdd (.tup a) (.tup b) = some (.tup (a ++ b)) := if_pos h
theorem gAdd_l' {a b : List D} (h : a.length + b.length ≤ sizeLine) : gAdd (.lst a) (.lst b) = some (.lst (a ++ b)) := if_pos h
theorem gCat_l' {a b : List D} (h : a.length + b.length ≤ sizeLine) : gCat (.lst a) (.lst b) = some (.lst (a ++ b)) := if_pos h
theorem gSl_l (xs : List D) (lo hi : Option Int) : gSl (.lst xs) lo hi = some (.lst (cutD xs lo hi)) := nr rfl
theorem gSl_a (xs : List D) (lo hi : Option Int) : gSl (.arr xs) lo hi = some (.lst (cutD xs lo hi)) := nr rfl
theorem gSlS_s (x : List Nat) (lo hi : Option Int) : gSlS (.str x) lo hi = some (.str (cutD x lo hi)) := nr rfl
theorem gRev_s (x : List Nat) : gRev (.str x) = some (.str x.reverse) := nr rfl
theorem gRevT_t (x : List D) : gRevT (.tup x) = some (.tup x.reverse) := nr rfl
theorem itD_l (xs : List D) : itD (.lst xs) = some xs := nr rfl
theorem itD_a (xs : List D) : itD (.arr xs) = some xs := nr rfl
theorem itD_t (xs : List D) : itD (.tup xs) = some xs := nr rfl
theorem itD_s (x : List Nat) : itD (.str x) = some (sgs x) := nr rfl
theorem gSlT_cut (xs : List D) (lo hi : Option Int) : gSlT (.tup xs) lo hi = some (.tup (cutD xs lo hi)) := by
  show (if HT.sIx xs.length 0 lo = 0 ∧ HT.sIx xs.length xs.length hi = xs.length then some (D.tup xs) else some (D.tup (cutD xs lo hi))) = _
  split
  · rename_i h
    unfold cutD
    rw [h.1, h.2]
    simp
  · rfl
theorem gIx_t (xs : List D) (k : Int) : gIx (.tup xs) (.int k) = atI xs k := nr rfl
theorem gIx_l (xs : List D) (k : Int) : gIx (.lst xs) (.int k) = atI xs k := nr rfl
theorem gIx_s (x : List Nat) (k : Int) : gIx (.str x) (.int k) = (atI x k).map fun c => .str [c] := nr rfl
theorem at0 {α : Type} (x : α) (r : List α) : atI (x :: r) 0 = some x := atI_nat (j := 0) rfl
theorem at1 {α : Type} (x y : α) (r : List α) : atI (x :: y :: r) 1 = some y := atI_nat (j := 1) rfl
theorem at2 {α : Type} (x y z : α) (r : List α) : atI (x :: y :: z :: r) 2 = some z := atI_nat (j := 2) rfl
theorem at3 {α : Type} (x y z u : α) (r : List α) : atI (x :: y :: z :: u :: r) 3 = some u := atI_nat (j := 3) rfl
theorem atN {α : Type} (xs : List α) (k : Nat) : atI xs (k : Int) = xs[k]? := by
  cases h : xs[k]? with
  | some x => exact atI_nat h
  | none =>
    have hl : xs.length ≤ k := List.getElem?_eq_none_iff.mp h
    unfold atI ixN
    rw [if_pos (Int.natCast_nonneg k), if_neg (by omega)]
    rfl
theorem gAdd_i (i j : Int) : gAdd (.int i) (.int j) = some (.int (i + j)) := nr rfl
theorem gLen_s (x : List Nat) : gLen [.str x] = some (.int x.length) := nr rfl
theorem gLen_t (x : List D) : gLen [.tup x] = some (.int x.length) := nr rfl
theorem gLen_l (x : List D) : gLen [.lst x] = some (.int x.length) := nr rfl
theorem gLen_a (x : List D) : gLen [.arr x] = some (.int x.length) := nr rfl
theorem gTuple_l (x : List D) : gTuple [.lst x] = some (.tup x) := nr rfl
theorem gTuple_t (x : List D) : gTuple [.tup x] = some (.tup x) := nr rfl
theorem gList_t (x : List D) : gList [.tup x] = some (.lst x) := nr rfl
theorem gList_l (x : List D) : gList [.lst x] = some (.lst x) := nr rfl
theorem gList_s (x : List Nat) : gList [.str x] = some (.lst (signs x)) := nr rfl
theorem gEq_s (a b : List Nat) : gEq (.str a) (.str b) = some (.bl (a == b)) := nr rfl
theorem gNe_s (a b : List Nat) : gNe (.str a) (.str b) = some (.bl (!(a == b))) := nr rfl
theorem gEq_i (a b : Int) : gEq (.int a) (.int b) = some (.bl (a == b)) := nr rfl
theorem gNe_i (a b : Int) : gNe (.int a) (.int b) = some (.bl (!(a == b))) := nr rfl
theorem gLe_i (a b : Int) : gLe (.int a) (.int b) = some (.bl (decide (a ≤ b))) := nr rfl
theorem gLt_i (a b : Int) : gLt (.int a) (.int b) = some (.bl (decide (a < b))) := nr rfl
theorem gGt_i (a b : Int) : gGt (.int a) (.int b) = some (.bl (decide (b < a))) := nr rfl
theorem gGe_i (a b : Int) : gGe (.int a) (.int b) = some (.bl (decide (b ≤ a))) := nr rfl
theorem gLt_s (a b : List Nat) : gLt (.str a) (.str b) = some (.bl (decide (a < b))) := nr rfl
theorem gSub_i (a b : Int) : gSub (.int a) (.int b) = some (.int (a - b)) := nr rfl
theorem gIn_c (c : Nat) (z : List Nat) : gIn (.str [c]) (.str z) = some (.bl (decide (c ∈ z))) := nr rfl
theorem blsM {α : Type} (p : α → Bool) : ∀ l : List α, blsOf (l.map fun a => D.bl (p a)) = some (l.map p)
  | [] => rfl
  | a :: l => by
    rw [List.map_cons]
    unfold blsOf
    rw [blsM p l]
    rfl
theorem gAllM {α : Type} (p : α → Bool) (l : List α) : gAll [.lst (l.map fun a => D.bl (p a))] = some (.bl (l.all p)) := by
  show (blsOf _).map _ = _
  rw [blsM]
  simp [List.all_map]
theorem gIsi_t (T : String) (d : D) : gIsi T d = some (.bl (instD d T)) := nr rfl
theorem stepsN (n : Nat) : stepsI 0 1 n = (List.range n).map fun (i : Nat) => D.int (i : Int) := by
  unfold stepsI
  apply List.map_congr_left
  intro i _
  congr 1
  omega
theorem rng1 {n : Nat} (h : n < 2 ^ 62) : rngD [.int (n : Int)] = some ((List.range n).map fun (i : Nat) => D.int (i : Int)) := by
  have hf : rngFits (n : Int) = true := by
    unfold rngFits
    simp only [Bool.and_eq_true, decide_eq_true_eq]
    omega
  show (if rngFits (n : Int) = true then some (stepsI 0 1 (n : Int).toNat) else none) = _
  rw [if_pos hf, Int.toNat_natCast, stepsN]
theorem gvT1 (n : Nat) (gs : GVs) (xs : List D) (env : Env) (h : xs.length = n) : gvTup n gs (.tup xs) env = gs xs env := if_pos h
def gvB (o : Option Env) (f : Env → Option Env) : Option Env := o.bind f
theorem gB (e : Env) (f : Env → Option Env) : gvB (some e) f = f e := nr rfl
theorem gvCons_s (g : GV) (gs : GVs) (d : D) (ds : List D) (env : Env) : gvCons g gs (d :: ds) env = gvB (g d env) (gs ds) := nr rfl
theorem gvNil_s (env : Env) : gvNil [] env = some env := nr rfl
def kRet (d : D) (e : Env) : Out := .rt false d e
theorem kRet_s (d : D) (e : Env) : kRet d e = .rt false d e := nr rfl
theorem stRet_s (a : Ev) (env : Env) : stRet a env = bindO (a env) kRet := nr rfl
theorem stRetN_s (env : Env) : stRetN env = .rt false .non env := nr rfl
def kAsg (g : GV) (d : D) (e : Env) : Out := liftO (g d e)
theorem kAsg_s (g : GV) (d : D) (e : Env) : kAsg g d e = liftO (g d e) := nr rfl
theorem stAsg_s (a : Ev) (g : GV) (env : Env) : stAsg a g env = bindO (a env) (kAsg g) := nr rfl
def kOwn (i : Nat) (d : D) (e : Env) : Out := .nx (e.set i (some (true, d)))
theorem kOwn_s (i : Nat) (d : D) (e : Env) : kOwn i d e = .nx (e.set i (some (true, d))) := nr rfl
theorem stOwn_s (i : Nat) (a : Ev) (env : Env) : stOwn i a env = bindO (a env) (kOwn i) := nr rfl
theorem stNext_s (env : Env) : stNext env = .nx env := nr rfl
theorem stFor_s (it : EvA) (g : GV) (b : EvS) (env : Env) : stFor it g b env = bindO (it env) (forO g b) := nr rfl
theorem evC_s (d : D) (env : Env) : evC d env = .ok d env := nr rfl
theorem evDnew_s (env : Env) : evDnew env = .ok (.dct []) env := nr rfl
theorem evNil_s (env : Env) : evNil env = .ok [] env := nr rfl
theorem evTrue_s (env : Env) : evTrue env = .ok true env := nr rfl
theorem evNoP_s (env : Env) : evNoP env = .ok none env := nr rfl
def kCons2 (d : D) (ds : List D) (e : Env) : R (List D) := .ok (d :: ds) e
def kCons (r : EvA) (d : D) (e : Env) : R (List D) := bindR (r e) (kCons2 d)
theorem kCons2_s (d : D) (ds : List D) (e : Env) : kCons2 d ds e = .ok (d :: ds) e := nr rfl
theorem kCons_s (r : EvA) (d : D) (e : Env) : kCons r d e = bindR (r e) (kCons2 d) := nr rfl
theorem evCons_s (a : Ev) (r : EvA) (env : Env) : evCons a r env = bindR (a env) (kCons r) := nr rfl
def kBin2 (g : D → D → Option D) (x y : D) (e : Env) : R D := liftR (g x y) e
def kBin (g : D → D → Option D) (b : Ev) (x : D) (e : Env) : R D := bindR (b e) (kBin2 g x)
theorem kBin2_s (g : D → D → Option D) (x y : D) (e : Env) : kBin2 g x y e = liftR (g x y) e := nr rfl
theorem kBin_s (g : D → D → Option D) (b : Ev) (x : D) (e : Env) : kBin g b x e = bindR (b e) (kBin2 g x) := nr rfl
theorem evBin_s (g : D → D → Option D) (a b : Ev) (env : Env) : evBin g a b env = bindR (a env) (kBin g b) := nr rfl
def kUn {α β : Type} (g : α → Option β) (x : α) (e : Env) : R β := liftR (g x) e
theorem kUn_s {α β : Type} (g : α → Option β) (x : α) (e : Env) : kUn g x e = liftR (g x) e := nr rfl
theorem evUn_s (g : D → Option D) (a : Ev) (env : Env) : evUn g a env = bindR (a env) (kUn g) := nr rfl
theorem evCall_s (g : List D → Option D) (a : EvA) (env : Env) : evCall g a env = bindR (a env) (kUn g) := nr rfl
def kNotT (b : Bool) (e : Env) : R Bool := .ok (!b) e
theorem kNotT_s (b : Bool) (e : Env) : kNotT b e = .ok (!b) e := nr rfl
theorem evNotT_s (a : EvT) (env : Env) : evNotT a env = bindR (a env) kNotT := nr rfl
def kSl3 (s : D → Option Int → Option Int → Option D) (d : D) (l u : Option Int) (e : Env) : R D := liftR (s d l u) e
def kSl2 (s : D → Option Int → Option Int → Option D) (hi : EvP) (d : D) (l : Option Int) (e : Env) : R D := bindR (hi e) (kSl3 s d l)
def kSl (s : D → Option Int → Option Int → Option D) (lo hi : EvP) (d : D) (e : Env) : R D := bindR (lo e) (kSl2 s hi d)
theorem kSl3_s (s : D → Option Int → Option Int → Option D) (d : D) (l u : Option Int) (e : Env) : kSl3 s d l u e = liftR (s d l u) e := nr rfl
theorem kSl2_s (s : D → Option Int → Option Int → Option D) (hi : EvP) (d : D) (l : Option Int) (e : Env) : kSl2 s hi d l e = bindR (hi e) (kSl3 s d l) := nr rfl
theorem kSl_s (s : D → Option Int → Option Int → Option D) (lo hi : EvP) (d : D) (e : Env) : kSl s lo hi d e = bindR (lo e) (kSl2 s hi d) := nr rfl
theorem evSl_s (a : Ev) (lo hi : EvP) (env : Env) : evSl a lo hi env = bindR (a env) (kSl gSl lo hi) := nr rfl
theorem evSlS_s (a : Ev) (lo hi : EvP) (env : Env) : evSlS a lo hi env = bindR (a env) (kSl gSlS lo hi) := nr rfl
theorem evSlT_s (a : Ev) (lo hi : EvP) (env : Env) : evSlT a lo hi env = bindR (a env) (kSl gSlT lo hi) := nr rfl
theorem evRev_s (a : Ev) (env : Env) : evRev a env = bindR (a env) (kUn gRev) := nr rfl
theorem evIt_s (a : Ev) (env : Env) : evIt a env = bindR (a env) (kUn itD) := nr rfl
theorem evRng_s (a : EvA) (env : Env) : evRng a env = bindR (a env) (kUn rngD) := nr rfl
theorem gvName_s (i : Nat) (d : D) (env : Env) : gvName i d env = some (env.set i (some (false, d))) := nr rfl
theorem gt0 {α : Type} (a : α) (l : List α) : (a :: l)[0]? = some a := nr rfl
theorem gtS {α : Type} (a : α) (l : List α) (i : Nat) : (a :: l)[i + 1]? = l[i]? := nr rfl
theorem st0 {α : Type} (a b : α) (l : List α) : (a :: l).set 0 b = b :: l := nr rfl
theorem stS {α : Type} (a b : α) (l : List α) (i : Nat) : (a :: l).set (i + 1) b = a :: l.set i b := nr rfl
theorem cdT {α : Type} (a b : α) : (bif true then a else b) = a := nr rfl
theorem cdF {α : Type} (a b : α) : (bif false then a else b) = b := nr rfl
end Ev
namespace Ev
open PySem L2
theorem lcO_p {α : Type} {g : GV} {c : EvT} {e : Ev} (enc : α → D) (ext : α → Env) (p : α → Bool) (out : α → D) (env : Env) (k : Nat) : ∀ (l : List α) (vs : Env), vs.length = k →
    (∀ a ∈ l, (ext a).length = k ∧ (∀ vs : Env, vs.length = k → g (enc a) (env ++ vs) = some (env ++ ext a)) ∧ c (env ++ ext a) = .ok (p a) (env ++ ext a) ∧ (p a = true → e (env ++ ext a) = .ok (out a) (env ++ ext a))) →
    ∃ vs', vs'.length = k ∧ lcO g c e (l.map enc) (env ++ vs) = .ok ((l.filter p).map out) (env ++ vs')
  | [], vs, hv, _ => ⟨vs, hv, rfl⟩
  | a :: l, vs, hv, h => by
    obtain ⟨h1, h2, h3, h4⟩ := h a List.mem_cons_self
    obtain ⟨vs', h5, h6⟩ := lcO_p enc ext p out env k l (ext a) h1 fun b hb => h b (List.mem_cons_of_mem _ hb)
    refine ⟨vs', h5, ?_⟩
    rw [List.map_cons]
    unfold lcO
    rw [h2 vs hv]
    show bindR (c (env ++ ext a)) _ = _
    rw [h3, bR]
    cases hp : p a with
    | true => rw [if_pos rfl, h4 hp, bR, h6, bR, List.filter_cons_of_pos hp, List.map_cons]
    | false => rw [if_neg Bool.false_ne_true, h6, List.filter_cons_of_neg (by rw [hp]; exact Bool.false_ne_true)]
theorem evLC_p {α : Type} {lo n : Nat} {it : EvA} {g : GV} {c : EvT} {e : Ev} {env env1 : Env} (l : List α) (enc : α → D) (ext : α → Env) (p : α → Bool) (out : α → D) (hit : it env = .ok (l.map enc) env1) (hlo : env1.length = lo)
    (h : ∀ a ∈ l, (ext a).length = n - lo ∧ (∀ vs : Env, vs.length = n - lo → g (enc a) (env1 ++ vs) = some (env1 ++ ext a)) ∧ c (env1 ++ ext a) = .ok (p a) (env1 ++ ext a) ∧ (p a = true → e (env1 ++ ext a) = .ok (out a) (env1 ++ ext a)))
    (hz : l.length ≤ sizeLine) : evLC lo n it g c e env = .ok (.lst ((l.filter p).map out)) env1 := by
  obtain ⟨vs', h5, h6⟩ := lcO_p enc ext p out env1 (n - lo) l (List.replicate (n - lo) none) List.length_replicate h
  have := evLC_eq hit hlo h6 (Nat.le_trans (by rw [List.length_map]; exact List.length_filter_le _ _) hz)
  rw [this, ← hlo, List.take_left]
theorem evLC_1 {α : Type} {lo n : Nat} {it : EvA} {e : Ev} {env env1 : Env} (l : List α) (enc : α → D) (out : α → D) (hit : it env = .ok (l.map enc) env1) (hlo : env1.length = lo) (hn : n = lo + 1)
    (h : ∀ a ∈ l, e (env1 ++ [some (false, enc a)]) = .ok (out a) (env1 ++ [some (false, enc a)])) (hz : l.length ≤ sizeLine) : evLC lo n it (gvName lo) evTrue e env = .ok (.lst (l.map out)) env1 := by
  subst hn hlo
  have := evLC_p (lo := env1.length) (n := env1.length + 1) (it := it) (g := gvName env1.length) (c := evTrue) (e := e) (env := env) l enc (fun a => [some (false, enc a)]) (fun _ => true) out hit rfl (fun a ha => ⟨by simp, fun vs hv => ?_, rfl, fun _ => h a ha⟩) hz
  · rw [this, List.filter_eq_self.mpr (fun _ _ => rfl)]
  · have hv : vs.length = 1 := by omega
    obtain ⟨v, rfl⟩ := List.length_eq_one_iff.mp hv
    unfold gvName
    rw [List.set_append_right _ _ (Nat.le_refl _), Nat.sub_self]
    rfl
theorem evLC_1f {α : Type} {lo n : Nat} {it : EvA} {c : EvT} {e : Ev} {env env1 : Env} (l : List α) (enc : α → D) (p : α → Bool) (out : α → D) (hit : it env = .ok (l.map enc) env1) (hlo : env1.length = lo) (hn : n = lo + 1)
    (hc : ∀ a ∈ l, c (env1 ++ [some (false, enc a)]) = .ok (p a) (env1 ++ [some (false, enc a)]))
    (h : ∀ a ∈ l, p a = true → e (env1 ++ [some (false, enc a)]) = .ok (out a) (env1 ++ [some (false, enc a)])) (hz : l.length ≤ sizeLine) : evLC lo n it (gvName lo) c e env = .ok (.lst ((l.filter p).map out)) env1 := by
  subst hn hlo
  refine evLC_p (lo := env1.length) (n := env1.length + 1) l enc (fun a => [some (false, enc a)]) p out hit rfl (fun a ha => ⟨by simp, fun vs hv => ?_, hc a ha, fun hp => h a ha hp⟩) hz
  have hv : vs.length = 1 := by omega
  obtain ⟨v, rfl⟩ := List.length_eq_one_iff.mp hv
  unfold gvName
  rw [List.set_append_right _ _ (Nat.le_refl _), Nat.sub_self]
  rfl
end Ev
namespace HT
open PySem PySem.Spec PyProof PyProof.Rows PySem.Builtin
theorem str_eq_declines_dict (b : Str) (u : Tok) (l : Addr) (es : Array DictEntry) (ep : Nat) (dd : Option Addr) (sl : Array (Option Value)) :
    Meets (Builtin.«str.__eq__» ⟨[.str b u, .ref l], []⟩) (fun _ R s => s.heap.get? l = some { cls := .type "dict", dict := dd, data := .dict es ep, slots := sl } ∧ R (.ok (.ret .notImplemented)) s) :=
  .of_wp fun prog w A R s h => by obtain ⟨hp, g, d, tk, os⟩ := s; obtain ⟨hl, h⟩ := h; wp_walk using wpAny_loadPart' hl, wpAny_load hl; exact ⟨_, rfl, h⟩
theorem dict_eq_declines_str (b : Str) (u : Tok) (l : Addr) (es : Array DictEntry) (ep : Nat) (dd : Option Addr) (sl : Array (Option Value)) :
    Meets (Builtin.«dict.__eq__» ⟨[.ref l, .str b u], []⟩) (fun _ R s => s.heap.get? l = some { cls := .type "dict", dict := dd, data := .dict es ep, slots := sl } ∧ R (.ok (.ret .notImplemented)) s) :=
  .of_wp fun prog w A R s h => by obtain ⟨hp, g, d, tk, os⟩ := s; obtain ⟨hl, h⟩ := h; have f1 := F.sub_str_dict; wp_walk using wpAny_loadPart' hl, wpAny_load hl; exact ⟨_, rfl, h⟩
section
variable {A : Around} {s : Shared}
def IsDct (h : Heap) (l : Addr) : Prop := ∃ o es ep, h.get? l = some o ∧ o.ExactDict ∧ o.data = .dict es ep
theorem rcAt_str_dict {l : Addr} (b : Str) (u : Tok) (hl : IsDct s.heap l) (hu : A.units < cLine) : SeqAt.RcAt A s (.str b u) (.ref l) false := fun prog w E Q h => by
  obtain ⟨⟨cls, dd, data, sl⟩, es, ep, ho, ⟨hc, hn, hs⟩, hd⟩ := id hl
  simp only at hc hd
  subst hc hd
  exact SeqAt.rc_eq_decline_or (k := false) (typeIs_str s b u) ⟨_, ho, rfl⟩ (by decide) F.sub_dict_str F.slot_str_eq F.slot_dict_eq_refl
    (fun _ hq => call_meets F.slot_str_eq (typeIs_str s b u) F.entry_str_eq (F.args_str_eq_2 _ _) (str_eq_declines_dict b u l es ep dd sl) ⟨ho, hq⟩)
    (fun _ hq => call_meets F.slot_dict_eq_refl ⟨_, ho, rfl⟩ F.entry_dict_eq (F.args_dict_eq_2 _ _) (dict_eq_declines_str b u l es ep dd sl) ⟨ho, hq⟩)
    (fun _ hq => wpAny_of_eq (rfl : isSame (.str b u) (.ref l) = pure false) hq) (.inr hu) h
theorem rcAt_dict_str {l : Addr} (b : Str) (u : Tok) (hl : IsDct s.heap l) (hu : A.units < cLine) : SeqAt.RcAt A s (.ref l) (.str b u) false := fun prog w E Q h => by
  obtain ⟨⟨cls, dd, data, sl⟩, es, ep, ho, ⟨hc, hn, hs⟩, hd⟩ := id hl
  simp only at hc hd
  subst hc hd
  exact SeqAt.rc_eq_decline_or (k := false) ⟨_, ho, rfl⟩ (typeIs_str s b u) (by decide) F.sub_str_dict F.slot_dict_eq F.slot_str_eq_refl
    (fun _ hq => call_meets F.slot_dict_eq ⟨_, ho, rfl⟩ F.entry_dict_eq (F.args_dict_eq_2 _ _) (dict_eq_declines_str b u l es ep dd sl) ⟨ho, hq⟩)
    (fun _ hq => call_meets F.slot_str_eq_refl (typeIs_str s b u) F.entry_str_eq (F.args_str_eq_2 _ _) (str_eq_declines_dict b u l es ep dd sl) ⟨ho, hq⟩)
    (fun _ hq => wpAny_of_eq (rfl : isSame (.ref l) (.str b u) = pure false) hq) (.inr hu) h
theorem eqAt_str_dict {l : Addr} (b : Str) (u : Tok) (hl : IsDct s.heap l) (hu : A.units < cLine) : SeqAt.EqAt A s (.str b u) (.ref l) false := fun prog w E Q h => by
  unfold eqBool
  refine wpAny_holding ?_
  refine wpAny_ite_split (fun hab => absurd (eq_of_beq hab) nofun) (fun _ => ?_)
  exact wpAny_bind (rcAt_str_dict b u hl hu prog w E _ (wpAny_truthy_bool h))
end
end HT
namespace Ev
open PySem PySem.Spec PyProof.Rows L2
section
variable {X : Cx} {C : Cfg}
theorem dct_is {pins : List (Addr × Obj)} {σ : L2.St} {H : Hp} {s : Shared} (I : Inv X pins σ H s) {a : Addr} {ks : List (Key × V)} (h : Rd H a (.dK ks)) : HT.IsDct s.heap a := by
  obtain ⟨_, _, vs, _, o, es, ep, e, ex, hd, _⟩ := h.ok I.hok
  exact ⟨o, es, ep, e, ex, hd⟩
def rInX (K : Fg) : R2 := fun x y H Q => ∃ (a : Addr) (ks : List (Key × V)) (b : Addr) (zs : List (List Nat)), x = .ref a ∧ Rd H a (.dK ks) ∧ y = .ref b ∧ SqT K H b (zs.map fun z => V.str (strOf z)) ∧ Q (.bl false) H
theorem vals_strsX : ∀ {zs : List (List Nat)} {us : List Value}, Vals (zs.map fun z => V.str (strOf z)) us → ∀ u ∈ us, ∃ z t, u = .str (strOf z) t
  | [], us, h, u, hu => by cases h; cases hu
  | z :: zs, us, h, u, hu => by
    cases h with
    | cons q qs =>
      rcases List.mem_cons.mp hu with rfl | hu
      · obtain ⟨t, rfl⟩ := q; exact ⟨z, t, rfl⟩
      · exact vals_strsX qs u hu
theorem op_inX (hu : X.A.units + 61 < cLine) : OpR X (compareOp .In) (rInX X.K) := by
  intro pins s σ H x y v u Q I rx ry h
  obtain ⟨a, ks, b, zs, rfl, h1, rfl, h2, q⟩ := h
  cases rx
  cases ry
  obtain ⟨its, rv, p, _⟩ := I.tuple h2
  have hd := dct_is I h1
  refine SeqAt.in_tupleAt (fun _ => false) p (fun w hw => ?_) ⟨.bl _, H, I, rfl, ?_⟩
  · obtain ⟨z, t, rfl⟩ := vals_strsX rv w (by simpa using hw)
    exact HT.eqAt_str_dict _ _ hd (by show X.A.units + 1 < cLine; omega)
  · have : its.toArray.any (fun _ => false) = false := by simp
    rw [this]
    exact q
def rEqX : R2 := fun x y H Q => ∃ a ks z, x = .ref a ∧ Rd H a (.dK ks) ∧ y = .str z ∧ Q (.bl false) H
theorem op_eqX (hu : X.A.units + 60 < cLine) : OpR X (compareOp .Eq) rEqX := by
  intro pins s σ H x y v u Q I rx ry h
  obtain ⟨a, ks, z, rfl, h1, rfl, q⟩ := h
  cases rx
  obtain ⟨t, rfl⟩ := ry
  exact HT.rcAt_dict_str z t (dct_is I h1) (by omega) X.prog X.w X.xe _ ⟨.bl false, H, I, rfl, q⟩
def gInX : D → D → Option D
  | .dct _, .tup ys => if (strsD ys).isSome then some (.bl false) else none
  | _, _ => none
def gEqX : D → D → Option D
  | .dct _, .str _ => some (.bl false)
  | _, _ => none
theorem BRep.dctX {K : Fg} {F H : Hp} {kvs : List (D × D)} {v : V} (s : Same F H) (h : BRep K F H (.dct kvs) v) : ∃ a ks, v = .ref a ∧ Rd H a (.dK ks) := by
  obtain ⟨_, a, ks, rfl, h1, _⟩ := h.rep s
  exact ⟨a, ks, rfl, h1⟩
theorem reps_strsX {K : Fg} {F : Hp} : ∀ {ds : List D} {zs : List (List Nat)} {vs : List V}, strsD ds = some zs → Reps K F ds vs → vs = zs.map fun z => V.str (strOf z)
  | [], zs, vs, h, r => by simp [strsD] at h; subst h; cases r; rfl
  | d :: ds, zs, vs, h, r => by
    cases d with
    | str x =>
      have h' : (strsD ds).map (x :: ·) = some zs := by simpa [strsD] using h
      obtain ⟨z, e1, rfl⟩ := Option.map_eq_some_iff.mp h'
      obtain ⟨v, w, rfl, ⟨rfl, _⟩, r2⟩ := r
      rw [reps_strsX e1 r2]
      rfl
    | _ => simp [strsD] at h
theorem od_inX : OpD C (rInX C.K) gInX := by
  intro Pr F env σ H x y d vx vy Q r px py e q
  unfold gInX at e
  split at e
  · rename_i kvs ys
    split at e
    · rename_i hs
      cases e
      obtain ⟨zs, hz⟩ := Option.isSome_iff_exists.mp hs
      obtain ⟨a, ks, rfl, h1⟩ := px.dctX r.fr
      obtain ⟨_, b, vs, rfl, h2, _, h3⟩ := py.tup r.fr
      rw [reps_strsX hz h3] at h2
      exact ⟨a, ks, b, zs, rfl, h1, rfl, h2, q _ H F r (Same.refl F) rfl⟩
    · cases e
  · cases e
theorem od_eqX : OpD C rEqX gEqX := by
  intro Pr F env σ H x y d vx vy Q r px py e q
  unfold gEqX at e
  split at e
  · cases e
    obtain ⟨a, ks, rfl, h1⟩ := px.dctX r.fr
    obtain ⟨rfl, _⟩ := py.str
    exact ⟨a, ks, _, rfl, h1, rfl, q _ H F r (Same.refl F) rfl⟩
  · cases e
theorem nc0 : ((0 : Nat) : Int) = 0 := nr rfl
theorem nc1 : ((1 : Nat) : Int) = 1 := nr rfl
theorem nc2 : ((2 : Nat) : Int) = 2 := nr rfl
theorem nc3 : ((3 : Nat) : Int) = 3 := nr rfl
theorem nc4 : ((4 : Nat) : Int) = 4 := nr rfl
theorem nc5 : ((5 : Nat) : Int) = 5 := nr rfl
theorem nc6 : ((6 : Nat) : Int) = 6 := nr rfl
theorem nc7 : ((7 : Nat) : Int) = 7 := nr rfl
theorem nc8 : ((8 : Nat) : Int) = 8 := nr rfl
def gInA (x y : D) : Option D := (gIn x y).or (gInX x y)
def gEqA (x y : D) : Option D := (gEq x y).or (gEqX x y)
theorem c_inA (G : Good X C) : Cm X C .In gInA := ⟨_, (op_in2 G.u61).or (op_inX G.u61), by rw [G.K]; exact od_in.or od_inX⟩
theorem c_eqA (G : Good X C) : Cm X C .Eq gEqA := ⟨_, (op_eqD G.u60).or (op_eqX G.u60), by rw [G.K]; exact od_eq.or od_eqX⟩
end
end Ev
namespace Ev
open PySem L2
def retIO (o : Out) : Option (D × D) := match o with
  | .rt false d env => (match env[0]? with
    | some (some (true, x')) => some (d, x')
    | _ => none)
  | .nx env => (match env[0]? with
    | some (some (true, x')) => some (.non, x')
    | _ => none)
  | _ => none
theorem runIO_s (n : Nat) (ev : EvS) (x : D) (r : List D) : runIO n ev (x :: r) = retIO (ev (envIO n x r)) := nr rfl
theorem ioRt (d x : D) (e : Env) : retIO (.rt false d (some (true, x) :: e)) = some (d, x) := nr rfl
theorem ioNx (x : D) (e : Env) : retIO (.nx (some (true, x) :: e)) = some (.non, x) := nr rfl
def retN (o : Out) : Option D := match o with
  | .rt true d _ => some d
  | _ => none
theorem runN_s (n : Nat) (ev : EvS) (ds : List D) : runN n ev ds = retN (ev (envOf n ds)) := nr rfl
theorem nRt (d : D) (e : Env) : retN (.rt true d e) = some d := nr rfl
def kRetN (d : D) (e : Env) : Out := .rt true d e
theorem kRetN_s (d : D) (e : Env) : kRetN d e = .rt true d e := nr rfl
theorem stRetNew_s (a : Ev) (env : Env) : stRetNew a env = bindO (a env) kRetN := nr rfl
def rdP (o : Option (Option (Bool × D))) (f : Bool → D → Out) : Out := match o with
  | some (some (o, d)) => f o d
  | _ => .stuck
theorem pS (o : Bool) (d : D) (f : Bool → D → Out) : rdP (some (some (o, d))) f = f o d := nr rfl
def dcO (o : Bool) (d : D) (f : List (D × D) → Out) : Out := match o, d with
  | true, .dct kvs => f kvs
  | _, _ => .stuck
theorem cS (kvs : List (D × D)) (f : List (D × D) → Out) : dcO true (.dct kvs) f = f kvs := nr rfl
def kyO (d : D) (f : Key → Out) : Out := match keyD d with
  | some q => f q
  | none => .stuck
theorem kStr (z : List Nat) (f : Key → Out) : kyO (.str z) f = f (.inr (strOf z)) := nr rfl
theorem kInt (i : Int) (f : Key → Out) : kyO (.int i) f = f (.inl i) := nr rfl
def kDp5 (i : Nat) (d kd : D) (e : Env) (kvs : List (D × D)) (q : Key) : Out := szO (kvs.length + 1) (.nx (e.set i (some (true, .dct (putD kvs kd q d)))))
def kDp4 (i : Nat) (d kd : D) (e : Env) (kvs : List (D × D)) : Out := kyO kd (kDp5 i d kd e kvs)
def kDp3 (i : Nat) (d kd : D) (e : Env) (o : Bool) (x : D) : Out := dcO o x (kDp4 i d kd e)
def kDp2 (i : Nat) (d kd : D) (e : Env) : Out := rdP e[i]? (kDp3 i d kd e)
def kDp1 (i : Nat) (k : Ev) (d : D) (e : Env) (_ : Bool) (_ : D) : Out := bindO (k e) (kDp2 i d)
def kDp (i : Nat) (k : Ev) (d : D) (e : Env) : Out := rdP e[i]? (kDp1 i k d e)
theorem kDp5_s (i : Nat) (d kd : D) (e : Env) (kvs : List (D × D)) (q : Key) : kDp5 i d kd e kvs q = szO (kvs.length + 1) (.nx (e.set i (some (true, .dct (putD kvs kd q d))))) := nr rfl
theorem kDp4_s (i : Nat) (d kd : D) (e : Env) (kvs : List (D × D)) : kDp4 i d kd e kvs = kyO kd (kDp5 i d kd e kvs) := nr rfl
theorem kDp3_s (i : Nat) (d kd : D) (e : Env) (o : Bool) (x : D) : kDp3 i d kd e o x = dcO o x (kDp4 i d kd e) := nr rfl
theorem kDp2_s (i : Nat) (d kd : D) (e : Env) : kDp2 i d kd e = rdP e[i]? (kDp3 i d kd e) := nr rfl
theorem kDp1_s (i : Nat) (k : Ev) (d : D) (e : Env) (o : Bool) (x : D) : kDp1 i k d e o x = bindO (k e) (kDp2 i d) := nr rfl
theorem kDp_s (i : Nat) (k : Ev) (d : D) (e : Env) : kDp i k d e = rdP e[i]? (kDp1 i k d e) := nr rfl
theorem stDput_s (i : Nat) (k a : Ev) (env : Env) : stDput i k a env = bindO (a env) (kDp i k) := by
  unfold stDput
  congr 1
  funext d e1
  show _ = rdP e1[i]? (kDp1 i k d e1)
  unfold rdP kDp1
  cases e1[i]? with
  | none => rfl
  | some o =>
    cases o with
    | none => rfl
    | some p =>
      obtain ⟨b, x⟩ := p
      show bindO (k e1) _ = bindO (k e1) _
      congr 1
      funext kd e2
      show _ = rdP e2[i]? (kDp3 i d kd e2)
      unfold rdP kDp3 dcO kDp4
      cases e2[i]? with
      | none => rfl
      | some o =>
        cases o with
        | none => rfl
        | some p =>
          obtain ⟨b, u⟩ := p
          cases b with
          | false => rfl
          | true =>
            cases u with
            | dct kvs =>
              show _ = kyO kd _
              unfold kyO
              cases keyD kd <;> rfl
            | _ => rfl
end Ev
namespace Ev
open PySem PySem.Spec PyProof.Rows L2
section
variable {X : Cx} {C : Cfg} {pos : Pos} {x : Expr} {a : Ev}
def gSlA : D → Option Int → Option Int → Option D
  | .str z, lo, hi => some (.str (cutD z lo hi))
  | .tup xs, lo, hi => some (.tup (cutD xs lo hi))
  | .lst xs, lo, hi => some (.lst (cutD xs lo hi))
  | .arr xs, lo, hi => some (.lst (cutD xs lo hi))
  | _, _, _ => none
def evSlA (a : Ev) (lo hi : EvP) : Ev := fun env => bindR (a env) fun d env1 => bindR (lo env1) fun l env2 => bindR (hi env2) fun u env3 => liftR (gSlA d l u) env3
theorem x_slA {lo hi : Option Expr} {el eh : EvP} {p2 : Pos} (G : Good X C) (ha : PX X C x a) (hl : PXP X C lo el) (hh : PXP X C hi eh) : PX X C (.Subscript x (.Slice lo hi none p2) pos) (evSlA a el eh) := by
  have h := pe_slice (pos := pos) (p2 := p2) (SlR.or (SlR.or sl_list sl_tup) (SlR.or (SlR.or sl_tup sl_whole) sl_str)) ha hl hh
  rw [G.K] at h
  refine h.imp fun σ H Q hq => ?_
  obtain ⟨Pr, F, env, env', d, r, e, q⟩ := hq
  obtain ⟨x, env1, e1, e2⟩ := bindR_ok e
  obtain ⟨l, env2, e3, e4⟩ := bindR_ok e2
  obtain ⟨u, env3, e5, e6⟩ := bindR_ok e4
  obtain ⟨e7, rfl⟩ := liftR_ok e6
  refine ⟨Pr, F, env, env1, x, r, e1, fun v H1 F1 r1 s1 p1 => ⟨Pr, F1, env1, env2, l, r1, e3, fun H2 F2 r2 s2 => ⟨Pr, F2, env2, env', u, r2, e5, fun H3 F3 r3 s3 => ?_⟩⟩⟩
  have p3 := Rep.mono (s2.trans s3) _ _ p1
  have q3 : ∀ v H' F', Rel C Pr F' env' σ H' → Same F3 F' → Rep C.K F' d v → Q v H' := fun v H' F' r' s' p' => q v H' F' r' (((s1.trans s2).trans s3).trans s') p'
  cases x with
  | str z =>
    cases e7
    obtain ⟨rfl, hz⟩ := p1
    exact .inr (.inr ⟨z, rfl, hz, q3 _ H3 F3 r3 (Same.refl _) ⟨rfl, Nat.le_trans (cutN_len _ _ _) hz⟩⟩)
  | tup xs =>
    exact .inr (.inl (slT_go r3 p3 (by rw [gSlT_cut]; exact e7) q3))
  | lst xs => exact .inl (sl_go r3 (.inl p3) e7 q3)
  | arr xs => exact .inl (sl_go r3 (.inl p3) e7 q3)
  | _ => cases e7
theorem gSlA_s (z : List Nat) (lo hi : Option Int) : gSlA (.str z) lo hi = some (.str (cutD z lo hi)) := nr rfl
theorem gSlA_t (z : List D) (lo hi : Option Int) : gSlA (.tup z) lo hi = some (.tup (cutD z lo hi)) := nr rfl
theorem gSlA_l (z : List D) (lo hi : Option Int) : gSlA (.lst z) lo hi = some (.lst (cutD z lo hi)) := nr rfl
theorem gSlA_a (z : List D) (lo hi : Option Int) : gSlA (.arr z) lo hi = some (.lst (cutD z lo hi)) := nr rfl
theorem evSlA_s (a : Ev) (lo hi : EvP) (env : Env) : evSlA a lo hi env = bindR (a env) (kSl gSlA lo hi) := nr rfl
end
end Ev
namespace Ev
open PySem PySem.Spec PyProof.Rows L2 PySem.Builtin
namespace S
structure SX (X : Cx) (C : Cfg) (e : Expr) (ev : Ev) : Prop where
  u : Ev.PX X C e ev
structure SXB (X : Cx) (C : Cfg) (e : Expr) (ev : Ev) : Prop where
  u : Ev.PXB X C e ev
structure SXN (X : Cx) (C : Cfg) (e : Expr) (ev : Ev) : Prop where
  u : Ev.PXN X C e ev
structure SXT (X : Cx) (C : Cfg) (e : Expr) (ev : EvT) : Prop where
  u : Ev.PXT X C e ev
structure SXW (X : Cx) (C : Cfg) (e : Expr) (ev : EvT) : Prop where
  u : Ev.PXW X C e ev
structure SXA (X : Cx) (C : Cfg) (e : List Expr) (ev : EvA) : Prop where
  u : Ev.PXA X C e ev
structure SXAB (X : Cx) (C : Cfg) (e : List Expr) (ev : EvA) : Prop where
  u : Ev.PXAB X C e ev
structure SXL (X : Cx) (C : Cfg) (e : List Expr) (ev : EvA) : Prop where
  u : Ev.PXL X C e ev
structure SXS (X : Cx) (C : Cfg) (e : Stmt) (ev : EvS) : Prop where
  u : Ev.PXS X C e ev
structure SXSs (X : Cx) (C : Cfg) (e : List Stmt) (ev : EvS) : Prop where
  u : Ev.PXSs X C e ev
structure SXIf (X : Cx) (C : Cfg) (e : List Expr) (ev : EvT) : Prop where
  u : Ev.PXIf X C e ev
structure SXP (X : Cx) (C : Cfg) (e : Option Expr) (ev : EvP) : Prop where
  u : Ev.PXP X C e ev
structure SXI (X : Cx) (C : Cfg) (tg e : Expr) (ev : EvA) : Prop where
  u : Ev.PXI X C tg e ev
structure SXG (X : Cx) (C : Cfg) (lo : Nat) (e : Expr) (ev : GV) : Prop where
  u : Ev.PXG X C lo e ev
structure SXGs (X : Cx) (C : Cfg) (lo : Nat) (e : List Expr) (ev : GVs) : Prop where
  u : Ev.PXGs X C lo e ev
section
variable {X : Cx} {C : Cfg} {pos : Pos}
theorem pxa_cons {e : Expr} {es : List Expr} {a : Ev} {r : EvA} (ha : SX X C e a) (hr : SXA X C es r) (hs : starEach (e :: es) X.env = (false, eval e X.env) :: starEach es X.env := by rfl) : SXA X C (e :: es) (evCons a r) := ⟨Ev.pxa_cons ha.u hr.u hs⟩
end
section
variable {X : Cx} {C : Cfg} {pos p px : Pos} {x y z : Expr} {a b c : Ev} {t u : EvT} {i : Nat} {n : Str}
theorem x_var (i : Nat) (hN : X.N[i]? = some n := by rfl) (hv : Vis X.env.scope n := by first | exact Or.inl rfl | exact Or.inr (Or.inl rfl) | exact Or.inr (Or.inr rfl)) (hd : (n == ("__debug__" : Str)) = false := by decide) (hcd : (n == ("__classdict__" : Str)) = false := by decide) : SX X C (.Name n pos) (evVar i) := ⟨Ev.x_var i hN hv hd hcd⟩
end
section
variable {X : Cx} {C : Cfg} {pos : Pos}
theorem pxa_nil  : SXA X C [] evNil := ⟨Ev.pxa_nil ⟩
end
section
variable {X : Cx} {C : Cfg} {pos : Pos}
theorem PX_b {e : Expr} {ev : Ev} (h : SX X C e ev) : SXB X C e ev := ⟨Ev.PX.b h.u⟩
end
section
variable {X : Cx} {C : Cfg} {pos : Pos}
theorem px_int {i : Int} {j : Nat} : SX X C (.Constant (.int i) j pos) (evC (.int i)) := ⟨Ev.px_int ⟩
end
section
variable {X : Cx} {C : Cfg} {pos : Pos}
theorem pxss_cons {st : Stmt} {rest : List Stmt} {a b : EvS} (h1 : SXS X C st a) (h2 : SXSs X C rest b) : SXSs X C (st :: rest) (stSeq a b) := ⟨Ev.pxss_cons h1.u h2.u⟩
end
section
variable {X : Cx} {C : Cfg} {pos : Pos}
theorem pxss_one {st : Stmt} {a : EvS} (h1 : SXS X C st a) : SXSs X C [st] a := ⟨Ev.pxss_one h1.u⟩
end
section
variable {X : Cx} {C : Cfg} {pos p px : Pos} {x y z : Expr} {a b c : Ev} {t u : EvT} {i : Nat} {n : Str}
variable {e : Expr} {es : List Expr} {ea : EvA}
theorem g_name {lo : Nat} (i : Nat) (hnd : nodupB X.N = true := by rfl) (hlo : Nat.ble lo i = true := by rfl) (hfx : C.fx i = none := by rfl) (hi : X.N[i]? = some n := by rfl) (hx : Loc X.env.scope n := by first | exact Or.inl rfl | exact Or.inr rfl) (hf : X.fn n = true ∨ X.env.scope.names.lookup n = some .local := by first | exact .inl rfl | exact .inr rfl) : SXG X C lo (.Name n pos) (gvName i) := ⟨Ev.g_name i hnd hlo hfx hi hx hf⟩
end
section
variable {X : Cx} {C : Cfg} {pos : Pos}
theorem px_str (z : List Nat) {x : Str} {j : Nat} (hz : x = strOf z) (hl : z.length ≤ sizeLine := by decide) : SX X C (.Constant (.str x) j pos) (evC (.str z)) := ⟨Ev.px_str z hz hl⟩
end
section
variable {X : Cx} {C : Cfg} {pos p px : Pos} {x y z : Expr} {a b c : Ev} {t u : EvT} {i : Nat} {n : Str}
theorem x_rd (i : Nat) (hN : X.N[i]? = some n := by rfl) (hv : Vis X.env.scope n := by first | exact Or.inl rfl | exact Or.inr (Or.inl rfl) | exact Or.inr (Or.inr rfl)) (hd : (n == ("__debug__" : Str)) = false := by decide) (hcd : (n == ("__classdict__" : Str)) = false := by decide) : SXB X C (.Name n pos) (evRd i) := ⟨Ev.x_rd i hN hv hd hcd⟩
end
section
variable {X : Cx} {C : Cfg} {pos p px : Pos} {x y z : Expr} {a b c : Ev} {t u : EvT} {i : Nat} {n : Str}
variable {e : Expr} {es : List Expr} {ea : EvA}
theorem s_set {pos' : Pos} (i : Nat) (he : SX X C e a) (hnd : nodupB X.N = true := by rfl) (hfx : C.fx i = none := by rfl) (hi : X.N[i]? = some n := by rfl) (hx : Loc X.env.scope n := by first | exact Or.inl rfl | exact Or.inr rfl) (hs : swapsWith e (some (.Name n pos')) pos.line X.env = pure false := by rfl) (hf : X.fn n = true ∨ X.env.scope.names.lookup n = some .local := by first | exact .inl rfl | exact .inr rfl) : SXS X C (.Assign [.Name n pos'] e pos) (stAsg a (gvName i)) := ⟨Ev.s_set i he.u hnd hfx hi hx hs hf⟩
end
section
variable {X : Cx} {C : Cfg} {pos : Pos}
theorem pxs_ret {e : Expr} {a : Ev} (h : SX X C e a) : SXS X C (.Return (some e) pos) (stRet a) := ⟨Ev.pxs_ret h.u⟩
end
section
variable {X : Cx} {C : Cfg}
theorem pxab_one {e : Expr} {a : Ev} (h : SXB X C e a) (hs : starEach [e] X.env = (false, eval e X.env) :: starEach [] X.env := by rfl) : SXAB X C [e] (evCons a evNil) := ⟨Ev.pxab_one h.u hs⟩
end
section
variable {X : Cx} {C : Cfg} {pos p px : Pos} {x y z : Expr} {a b c : Ev} {t u : EvT} {i : Nat} {n : Str}
variable {e : Expr} {es : List Expr} {ea : EvA}
theorem x_own {k k' : Nat} {m : Nat} {ps : List Str} {g : List D → Option D} (O : Own X.prog X.w X.K X.mg X.base n k ps (spP X.K m g)) (G : Good X C) (hr : Room k' X.A) (hk : Nat.ble k k' = true) (ha : SXA X C (e :: es) ea) (hn : ∀ env ds env', ea env = .ok ds env' → ds.length = m) (hg : Gl X n := by rfl) (hdb : (n == ("__debug__" : Str)) = false := by decide) (he : starEach (e :: es) X.env = (false, eval e X.env) :: starEach es X.env := by rfl) (hpl : (backTo pos (starEach es X.env)).any (·.1) = false := by rfl) : SX X C (.Call (.Name n p) (e :: es) [] pos) (evCall g ea) := ⟨Ev.x_own O G hr hk ha.u hn hg hdb he hpl⟩
end
section
variable {X : Cx} {C : Cfg} {pos : Pos}
theorem px_tup {es : List Expr} {r : EvA} {k : Nat} (h : SXA X C es r) : SX X C (.Tuple es k pos) (evTup r) := ⟨Ev.px_tup h.u⟩
end
section
variable {X : Cx} {C : Cfg} {pos : Pos}
theorem pxgs_cons {lo : Nat} {e : Expr} {es : List Expr} {g : GV} {gs : GVs} (h1 : SXG X C lo e g) (h2 : SXGs X C lo es gs) (hs : (assignEach (e :: es) X.env).map (·.2) = assign e X.env :: (assignEach es X.env).map (·.2) := by rfl) : SXGs X C lo (e :: es) (gvCons g gs) := ⟨Ev.pxgs_cons h1.u h2.u hs⟩
end
section
variable {X : Cx} {C : Cfg} {pos : Pos}
theorem PXN_px {e : Expr} {ev : Ev} (h : SXN X C e ev) : SX X C e ev := ⟨Ev.PXN.px h.u⟩
end
section
variable {X : Cx} {C : Cfg} {pos p px : Pos} {x y z : Expr} {a b c : Ev} {t u : EvT} {i : Nat} {n : Str}
theorem x_ixO (i : Nat) (G : Good X C) (hb : SXB X C y b) (hN : X.N[i]? = some n := by rfl) (hv : Vis X.env.scope n := by first | exact Or.inl rfl | exact Or.inr (Or.inl rfl) | exact Or.inr (Or.inr rfl)) (hs : PlainIx y := by intro _ _; rfl) (hd : (n == ("__debug__" : Str)) = false := by decide) (hcd : (n == ("__classdict__" : Str)) = false := by decide) : SX X C (.Subscript (.Name n px) y pos) (evBinO gIx i b) := ⟨Ev.x_ixO i G hb.u hN hv hs hd hcd⟩
end
section
variable {X : Cx} {C : Cfg} {pos p px : Pos} {x y z : Expr} {a b c : Ev} {t u : EvT} {i : Nat} {n : Str}
variable {e : Expr} {es : List Expr} {ea : EvA}
theorem x_io {k k' : Nat} {m : Nat} {ps : List Str} {g : List D → Option (D × D)} {v : Str} {pv : Pos} (i : Nat) (O : Own X.prog X.w X.K X.mg X.base n k ps (spIO X.K m g)) (G : Good X C) (hr : Room k' X.A) (hk : Nat.ble k k' = true) (ha : SXA X C es ea) (hn : ∀ env ds env', ea env = .ok ds env' → ds.length + 1 = m) (hN : X.N[i]? = some v := by rfl) (hv : Vis X.env.scope v := by first | exact Or.inl rfl | exact Or.inr (Or.inl rfl) | exact Or.inr (Or.inr rfl)) (hg : Gl X n := by rfl) (hdb : (n == ("__debug__" : Str)) = false := by decide) (he : starEach (.Name v pv :: es) X.env = (false, eval (.Name v pv) X.env) :: starEach es X.env := by rfl) (hpl : (backTo pos (starEach es X.env)).any (·.1) = false := by rfl) (hd : (v == ("__debug__" : Str)) = false := by decide) (hcd : (v == ("__classdict__" : Str)) = false := by decide) : SX X C (.Call (.Name n p) (.Name v pv :: es) [] pos) (evIO g i ea) := ⟨Ev.x_io i O G hr hk ha.u hn hN hv hg hdb he hpl hd hcd⟩
end
section
variable {X : Cx} {C : Cfg} {pos p px : Pos} {x y z : Expr} {a b c : Ev} {t u : EvT} {i : Nat} {n : Str}
theorem x_bin {op : Operator} {g : D → D → Option D} (o : Bi X C op g) (ha : SX X C x a) (hb : SXB X C y b) : SX X C (.BinOp x op y pos) (evBin g a b) := ⟨Ev.x_bin o ha.u hb.u⟩
end
section
variable {X : Cx} {C : Cfg} {pos : Pos}
theorem pxl_cons {e : Expr} {es : List Expr} {a : Ev} {r : EvA} (ha : SX X C e a) (hr : SXL X C es r) (hs : starEach (e :: es) X.env = (false, eval e X.env) :: starEach es X.env := by rfl) : SXL X C (e :: es) (evCons a r) := ⟨Ev.pxl_cons ha.u hr.u hs⟩
end
section
variable {X : Cx} {C : Cfg} {pos p px : Pos} {x y z : Expr} {a b c : Ev} {t u : EvT} {i : Nat} {n : Str}
theorem x_binO {op : Operator} {g : D → D → Option D} (i : Nat) (o : Bi X C op g) (hb : SXB X C y b) (hN : X.N[i]? = some n := by rfl) (hv : Vis X.env.scope n := by first | exact Or.inl rfl | exact Or.inr (Or.inl rfl) | exact Or.inr (Or.inr rfl)) (hd : (n == ("__debug__" : Str)) = false := by decide) (hcd : (n == ("__classdict__" : Str)) = false := by decide) : SX X C (.BinOp (.Name n px) op y pos) (evBinO g i b) := ⟨Ev.x_binO i o hb.u hN hv hd hcd⟩
end
section
variable {X : Cx} {C : Cfg} {pos : Pos}
theorem pxs_if {c : Expr} {a b : List Stmt} {t : EvT} {ea eb : EvS} (hc : SXT X C c t) (ha : SXSs X C a ea) (hb : SXSs X C b eb) : SXS X C (.If c a b pos) (stIf t ea eb) := ⟨Ev.pxs_if hc.u ha.u hb.u⟩
end
section
variable {X : Cx} {C : Cfg} {pos : Pos}
theorem pxn_lst {es : List Expr} {r : EvA} (h : SXA X C es r) : SXN X C (.List es pos) (evLst r) := ⟨Ev.pxn_lst h.u⟩
end
section
variable {X : Cx} {C : Cfg} {pos : Pos}
theorem pxss_nil  : SXSs X C [] stNext := ⟨Ev.pxss_nil ⟩
end
section
variable {X : Cx} {C : Cfg} {pos p px : Pos} {x y z : Expr} {a b c : Ev} {t u : EvT} {i : Nat} {n : Str}
variable {e : Expr} {es : List Expr} {ea : EvA}
theorem i_seq {tg : Expr} (G : Good X C) (h : SX X C x a) : SXI X C tg x (evIt a) := ⟨Ev.i_seq G h.u⟩
end
section
variable {X : Cx} {C : Cfg} {pos : Pos}
theorem px_bl {b : Bool} {j : Nat} : SX X C (.Constant (.bool b) j pos) (evC (.bl b)) := ⟨Ev.px_bl ⟩
end
section
variable {X : Cx} {C : Cfg} {pos p px : Pos} {x y z : Expr} {a b c : Ev} {t u : EvT} {i : Nat} {n : Str}
variable {e : Expr} {es : List Expr} {ea : EvA}
theorem n_lc {elt tg iter : Expr} {ifs : List Expr} {scope : Scope} (N' : List Str) {it : EvA} {g : GV} {cc : EvT} {ee : Ev} (lo : Nat) (ok : CompOk X scope N') (G : Good X C) (hi : SXI X C tg iter it) (bg : ∀ X', CxAt X scope N' X' → SXG X' C lo tg g) (bc : ∀ X', CxAt X scope N' X' → SXIf X' C ifs cc) (be : ∀ X', CxAt X scope N' X' → SX X' C elt ee) (hs : ∀ x, foldedSetIterable iter X.env x = pure x := by intro _; rfl) : SXN X C (.ListComp elt [⟨tg, iter, ifs, 0⟩] scope pos) (evLC lo N'.length it g cc ee) := ⟨Ev.n_lc N' lo ok G hi.u (fun X1 h1 => (bg X1 h1).u) (fun X1 h1 => (bc X1 h1).u) (fun X1 h1 => (be X1 h1).u) hs⟩
end
section
variable {X : Cx} {C : Cfg} {pos p px : Pos} {x y z : Expr} {a b c : Ev} {t u : EvT} {i : Nat} {n : Str}
variable {e : Expr} {es : List Expr} {ea : EvA}
theorem x_len (G : Good X C) (hm : X.mg "len" = none) (ha : SXAB X C [e] ea) (hg : Gl X "len" := by rfl) (he : starEach [e] X.env = (false, eval e X.env) :: starEach [] X.env := by rfl) : SX X C (.Call (.Name "len" p) [e] [] pos) (evCall gLen ea) := ⟨Ev.x_len G hm ha.u hg he⟩
end
section
variable {X : Cx} {C : Cfg} {pos : Pos}
theorem pxt_val {e : Expr} {a : Ev} (h : SX X C e a) (he : ∀ whole, isTrue e X.env whole = (do let v ← whole; standAt e.pos; holding [v] (truthy v)) := by intro _; rfl) : SXT X C e (evB a) := ⟨Ev.pxt_val h.u he⟩
end
section
variable {X : Cx} {C : Cfg} {pos : Pos}
theorem pxgs_nil {lo : Nat} : SXGs X C lo [] gvNil := ⟨Ev.pxgs_nil ⟩
end
section
variable {X : Cx} {C : Cfg} {pos p px : Pos} {x y z : Expr} {a b c : Ev} {t u : EvT} {i : Nat} {n : Str}
variable {e : Expr} {es : List Expr} {ea : EvA}
theorem g_tup {lo : Nat} {k : Nat} {gs : GVs} {m : Nat} (G : Good X C) (h : SXGs X C lo es gs) (hn : (assignEach es X.env).length = m := by rfl) (hst : (assignEach es X.env).findIdx? (·.1) = none := by rfl) : SXG X C lo (.Tuple es k pos) (gvTup m gs) := ⟨Ev.g_tup G h.u hn hst⟩
end
section
theorem pxif_nil {X : Cx} {C : Cfg} : SXIf X C [] evTrue := ⟨Ev.pxif_nil ⟩
end
section
variable {X : Cx} {C : Cfg} {pos p px : Pos} {x y z : Expr} {a b c : Ev} {t u : EvT} {i : Nat} {n : Str}
variable {e : Expr} {es : List Expr} {ea : EvA}
theorem s_for {tg iter : Expr} {body : List Stmt} {it : EvA} {g : GV} {bs : EvS} (G : Good X C) (hi : SXI X C tg iter it) (hg : SXG X C 0 tg g) (hb : SXSs X C body bs) (hp : PassesOwn (model X.prog X.w) X.A X.env X.xe := by exact PassesOwn.never) (hs : ∀ x, foldedSetIterable iter X.env x = pure x := by intro _; rfl) : SXS X C (.For tg iter body [] pos) (stFor it g bs) := ⟨Ev.s_for G hi.u hg.u hb.u hp hs⟩
end
section
variable {X : Cx} {C : Cfg} {pos p px : Pos} {x y z : Expr} {a b c : Ev} {t u : EvT} {i : Nat} {n : Str}
theorem t_cmp {op : CmpOp} {g : D → D → Option D} (o : Cm X C op g) (ha : SX X C x a) (hb : SXB X C y b) (hm : behindInMarks op y = false := by rfl) : SXT X C (.Compare x [op] [y] pos) (evB (evBin g a b)) := ⟨Ev.t_cmp o ha.u hb.u hm⟩
end
section
variable {X : Cx} {C : Cfg} {pos p px : Pos} {x y z : Expr} {a b c : Ev} {t u : EvT} {i : Nat} {n : Str}
variable {e : Expr} {es : List Expr} {ea : EvA}
theorem s_own {pos' : Pos} (i : Nat) (he : SXN X C e a) (hnd : nodupB X.N = true := by rfl) (hfx : C.fx i = none := by rfl) (hi : X.N[i]? = some n := by rfl) (hx : Loc X.env.scope n := by first | exact Or.inl rfl | exact Or.inr rfl) (hs : swapsWith e (some (.Name n pos')) pos.line X.env = pure false := by rfl) (hf : X.fn n = true ∨ X.env.scope.names.lookup n = some .local := by first | exact .inl rfl | exact .inr rfl) : SXS X C (.Assign [.Name n pos'] e pos) (stOwn i a) := ⟨Ev.s_own i he.u hnd hfx hi hx hs hf⟩
end
section
variable {X : Cx} {C : Cfg} {pos p px : Pos} {x y z : Expr} {a b c : Ev} {t u : EvT} {i : Nat} {n : Str}
variable {e : Expr} {es : List Expr} {ea : EvA}
theorem x_tuple (G : Good X C) (hm : X.mg "tuple" = none) (ha : SXAB X C [e] ea) (hg : Gl X "tuple" := by rfl) (he : starEach [e] X.env = (false, eval e X.env) :: starEach [] X.env := by rfl) : SX X C (.Call (.Name "tuple" p) [e] [] pos) (evCall gTuple ea) := ⟨Ev.x_tuple G hm ha.u hg he⟩
end
section
variable {X : Cx} {C : Cfg} {pos p px : Pos} {x y z : Expr} {a b c : Ev} {t u : EvT} {i : Nat} {n : Str}
theorem x_ix (G : Good X C) (ha : SX X C x a) (hb : SXB X C y b) (hs : PlainIx y := by intro _ _; rfl) : SX X C (.Subscript x y pos) (evBin gIx a b) := ⟨Ev.x_ix G ha.u hb.u hs⟩
end
section
variable {X : Cx} {C : Cfg} {pos p px : Pos} {x y z : Expr} {a b c : Ev} {t u : EvT} {i : Nat} {n : Str}
theorem t_cmpO {op : CmpOp} {g : D → D → Option D} (i : Nat) (o : Cm X C op g) (hb : SXB X C y b) (hN : X.N[i]? = some n := by rfl) (hv : Vis X.env.scope n := by first | exact Or.inl rfl | exact Or.inr (Or.inl rfl) | exact Or.inr (Or.inr rfl)) (hm : behindInMarks op y = false := by rfl) (hd : (n == ("__debug__" : Str)) = false := by decide) (hcd : (n == ("__classdict__" : Str)) = false := by decide) : SXT X C (.Compare (.Name n px) [op] [y] pos) (evB (evBinO g i b)) := ⟨Ev.t_cmpO i o hb.u hN hv hm hd hcd⟩
end
section
variable {X : Cx} {C : Cfg} {pos : Pos}
theorem pxs_asg {tg e : Expr} {a : Ev} {g : GV} (he : SX X C e a) (hg : SXG X C 0 tg g) (hs : swapsWithSole [tg] e pos.line X.env = pure false := by rfl) (hw : swappedStores [tg] e X.env = pure none := by rfl) (h1 : (assignEach [tg] X.env).map (·.2) = [assign tg X.env] := by rfl) : SXS X C (.Assign [tg] e pos) (stAsg a g) := ⟨Ev.pxs_asg he.u hg.u hs hw h1⟩
end
section
variable {X : Cx} {C : Cfg} {pos : Pos}
theorem pxp_some {e : Expr} {a : Ev} (h : SX X C e a) : SXP X C (some e) (evP a) := ⟨Ev.pxp_some h.u⟩
end
section
variable {X : Cx} {C : Cfg} {pos : Pos}
theorem pxt_not {x : Expr} {a : EvT} (h : SXT X C x a) : SXT X C (.UnaryOp .Not x pos) (evNotT a) := ⟨Ev.pxt_not h.u⟩
end
section
variable {X : Cx} {C : Cfg} {pos : Pos}
theorem PXW_pt {e : Expr} {a : EvT} (h : SXW X C e a) : SXT X C e a := ⟨Ev.PXW.pt h.u⟩
end
section
variable {X : Cx} {C : Cfg} {pos p px : Pos} {x y z : Expr} {a b c : Ev} {t u : EvT} {i : Nat} {n : Str}
variable {e : Expr} {es : List Expr} {ea : EvA}
theorem i_rng1 {tg : Expr} (hm : X.mg "range" = none) (ha : SXA X C [e] ea) (hl : ∀ env ds env', ea env = .ok ds env' → ds.length = 1) (hg : Gl X "range" := by rfl) (hs : starEach [e] X.env = [(false, eval e X.env)] := by rfl) : SXI X C tg (.Call (.Name "range" p) [e] [] pos) (evRng ea) := ⟨Ev.i_rng1 hm ha.u hl hg hs⟩
end
section
variable {X : Cx} {C : Cfg} {pos p px : Pos} {x y z : Expr} {a b c : Ev} {t u : EvT} {i : Nat} {n : Str}
theorem x_cmpO {op : CmpOp} {g : D → D → Option D} (i : Nat) (o : Cm X C op g) (hb : SXB X C y b) (hN : X.N[i]? = some n := by rfl) (hv : Vis X.env.scope n := by first | exact Or.inl rfl | exact Or.inr (Or.inl rfl) | exact Or.inr (Or.inr rfl)) (hm : behindInMarks op y = false := by rfl) (hd : (n == ("__debug__" : Str)) = false := by decide) (hcd : (n == ("__classdict__" : Str)) = false := by decide) : SX X C (.Compare (.Name n px) [op] [y] pos) (evBinO g i b) := ⟨Ev.x_cmpO i o hb.u hN hv hm hd hcd⟩
end
section
variable {X : Cx} {C : Cfg} {pos : Pos}
theorem px_non {j : Nat} : SX X C (.Constant .none j pos) (evC .non) := ⟨Ev.px_non ⟩
end
section
variable {X : Cx} {C : Cfg}
theorem pxab_cons {e : Expr} {es : List Expr} {a : Ev} {r : EvA} (ha : SX X C e a) (hr : SXAB X C es r) (hs : starEach (e :: es) X.env = (false, eval e X.env) :: starEach es X.env := by rfl) : SXAB X C (e :: es) (evCons a r) := ⟨Ev.pxab_cons ha.u hr.u hs⟩
end
section
variable {X : Cx} {C : Cfg} {pos : Pos}
theorem px_one {op : BoolOp} {x : Expr} {a : Ev} (h : SX X C x a) : SX X C (.BoolOp op [x] pos) a := ⟨Ev.px_one h.u⟩
end
section
variable {X : Cx} {C : Cfg} {pos p px : Pos} {x y z : Expr} {a b c : Ev} {t u : EvT} {i : Nat} {n : Str}
variable {e : Expr} {es : List Expr} {ea : EvA}
theorem s_app {apos cpos : Pos} (i : Nat) (G : Good X C) (he : SX X C e a) (hN : X.N[i]? = some n := by rfl) (hv : Vis X.env.scope n := by first | exact Or.inl rfl | exact Or.inr (Or.inl rfl) | exact Or.inr (Or.inr rfl)) (hs : swapsWith (.Call (.Attribute (.Name n px) "append" apos) [e] [] cpos) none pos.line X.env = pure false := by rfl) (hfew : ((backTo cpos (starEach [e] X.env)).all (fun x => !x.1) && (backToKw cpos (keywordEach [] X.env)).all (fun x => x.1.isSome)
      && decide (([e] : List Expr).length + ([] : List Keyword).length + (if ([] : List Keyword).isEmpty then 0 else 1) < 30)) = true := by rfl) (hbase : attributeBase (.Name n px) "append" X.env (eval (.Name n px) X.env) = eval (.Name n px) X.env := by rfl) (hline : (apos.endLine == cpos.line) = true := by rfl) (hst : starEach [e] X.env = (false, eval e X.env) :: starEach [] X.env := by rfl) (hplain : (backTo cpos (starEach [] X.env)).any (·.1) = false := by rfl) (hd : (n == ("__debug__" : Str)) = false := by decide) (hcd : (n == ("__classdict__" : Str)) = false := by decide) : SXS X C (.Expr (.Call (.Attribute (.Name n px) "append" apos) [e] [] cpos) pos) (stApp i a) := ⟨Ev.s_app i G he.u hN hv hs hfew hbase hline hst hplain hd hcd⟩
end
section
variable {X : Cx} {C : Cfg} {pos : Pos}
theorem pxp_none  : SXP X C none evNoP := ⟨Ev.pxp_none ⟩
end
section
variable {X : Cx} {C : Cfg} {pos : Pos}
theorem px_and {x y : Expr} {rest : List Expr} {a b : Ev} (ha : SX X C x a) (hb : SX X C (.BoolOp .And (y :: rest) pos) b) : SX X C (.BoolOp .And (x :: y :: rest) pos) (evAnd a b) := ⟨Ev.px_and ha.u hb.u⟩
end
section
variable {X : Cx} {C : Cfg} {pos : Pos}
theorem pxw_or {x y : Expr} {rest : List Expr} {a b : EvT} (ha : SXT X C x a) (hb : SXW X C (.BoolOp .Or (y :: rest) pos) b) : SXW X C (.BoolOp .Or (x :: y :: rest) pos) (evOrT a b) := ⟨Ev.pxw_or ha.u hb.u⟩
end
section
variable {X : Cx} {C : Cfg} {pos p px : Pos} {x y z : Expr} {a b c : Ev} {t u : EvT} {i : Nat} {n : Str}
variable {e : Expr} {es : List Expr} {ea : EvA}
theorem x_all (G : Good X C) (hm : X.mg "all" = none) (ha : SXAB X C [e] ea) (hg : Gl X "all" := by rfl) (he : starEach [e] X.env = (false, eval e X.env) :: starEach [] X.env := by rfl) : SX X C (.Call (.Name "all" p) [e] [] pos) (evCall gAll ea) := ⟨Ev.x_all G hm ha.u hg he⟩
end
section
variable {X : Cx} {C : Cfg} {pos : Pos}
theorem pxw_or1 {x : Expr} {a : EvT} (h : SXT X C x a) : SXW X C (.BoolOp .Or [x] pos) a := ⟨Ev.pxw_or1 h.u⟩
end
section
variable {X : Cx} {C : Cfg}
theorem px_isi {T : String} {xT : Str} {e : Expr} {a : Ev} {p q pos : Pos} (hg : Gl X "isinstance") (hm : X.mg "isinstance" = none) (hgT : Gl X xT) (hmT : X.mg xT = none) (hvT : bootBuiltins xT = some (.type T)) (hk : ∀ d : D, PySem.W.kitOne X.K (.type (tyD d)) (.type T) = some (instD d T)) (hK : X.K = C.K) (ha : SX X C e a) (hn : xT ≠ "__name__" := by decide) (hd : (xT == ("__debug__" : Str)) = false := by decide) (he : starEach [e, .Name xT q] X.env = (false, eval e X.env) :: starEach [.Name xT q] X.env := by rfl) : SX X C (.Call (.Name "isinstance" p) [e, .Name xT q] [] pos) (evUn (gIsi T) a) := ⟨Ev.px_isi hg hm hgT hmT hvT hk hK ha.u hn hd he⟩
end
section
theorem pxif_one {X : Cx} {C : Cfg} {c : Expr} {t : EvT} (h : SXT X C c t) : SXIf X C [c] t := ⟨Ev.pxif_one h.u⟩
end
section
variable {X : Cx} {C : Cfg} {pos p px : Pos} {x y z : Expr} {a b c : Ev} {t u : EvT} {i : Nat} {n : Str}
variable {e : Expr} {es : List Expr} {ea : EvA}
theorem n_own {k k' : Nat} {m : Nat} {ps : List Str} {g : List D → Option D} (O : Own X.prog X.w X.K X.mg X.base n k ps (spN X.K m g)) (G : Good X C) (hr : Room k' X.A) (hk : Nat.ble k k' = true) (ha : SXA X C (e :: es) ea) (hn : ∀ env ds env', ea env = .ok ds env' → ds.length = m) (hg : Gl X n := by rfl) (hdb : (n == ("__debug__" : Str)) = false := by decide) (he : starEach (e :: es) X.env = (false, eval e X.env) :: starEach es X.env := by rfl) (hpl : (backTo pos (starEach es X.env)).any (·.1) = false := by rfl) : SXN X C (.Call (.Name n p) (e :: es) [] pos) (evCall g ea) := ⟨Ev.n_own O G hr hk ha.u hn hg hdb he hpl⟩
end
section
variable {X : Cx} {C : Cfg} {pos : Pos}
theorem pxw_and {x y : Expr} {rest : List Expr} {a b : EvT} (ha : SXT X C x a) (hb : SXW X C (.BoolOp .And (y :: rest) pos) b) : SXW X C (.BoolOp .And (x :: y :: rest) pos) (evAndT a b) := ⟨Ev.pxw_and ha.u hb.u⟩
end
section
variable {X : Cx} {C : Cfg} {pos : Pos}
theorem px_glob {x : Str} {v : V} {u : Value} (d : D) (hg : Gl X x) (hm : X.mg x = some u) (rv : RelV v u) (hr : ∀ F, Rep C.K F d v) (hd : (x == ("__debug__" : Str)) = false := by decide) : SX X C (.Name x pos) (evC d) := ⟨Ev.px_glob d hg hm rv hr hd⟩
end
section
variable {X : Cx} {C : Cfg} {pos p px : Pos} {x y z : Expr} {a b c : Ev} {t u : EvT} {i : Nat} {n : Str}
variable {e : Expr} {es : List Expr} {ea : EvA}
theorem x_join {o : Expr} {apos cpos : Pos} (G : Good X C) (ho : SX X C o a) (he : SXB X C e b) (hbase : attributeBase o "join" X.env (eval o X.env) = eval o X.env := by rfl) (hs : starEach [e] X.env = (false, eval e X.env) :: starEach [] X.env := by rfl) (hfew : ((backTo cpos (starEach [e] X.env)).all (fun x => !x.1) && (backToKw cpos (keywordEach [] X.env)).all (fun x => x.1.isSome)
      && decide ([e].length + ([] : List Keyword).length + (if ([] : List Keyword).isEmpty then 0 else 1) < 30)) = true := by rfl) (hline : (apos.endLine == cpos.line) = true := by rfl) (hplain : (backTo cpos (starEach [] X.env)).any (·.1) = false := by rfl) : SX X C (.Call (.Attribute o "join" apos) [e] [] cpos) (evBin gJoin a b) := ⟨Ev.x_join G ho.u he.u hbase hs hfew hline hplain⟩
end
section
variable {X : Cx} {C : Cfg} {pos p px : Pos} {x y z : Expr} {a b c : Ev} {t u : EvT} {i : Nat} {n : Str}
theorem x_sl {lo hi : Option Expr} {el eh : EvP} {p2 : Pos} (G : Good X C) (ha : SX X C x a) (hl : SXP X C lo el) (hh : SXP X C hi eh) : SX X C (.Subscript x (.Slice lo hi none p2) pos) (evSl a el eh) := ⟨Ev.x_sl G ha.u hl.u hh.u⟩
end
section
variable {X : Cx} {C : Cfg} {pos : Pos}
theorem pxw_and1 {x : Expr} {a : EvT} (h : SXT X C x a) : SXW X C (.BoolOp .And [x] pos) a := ⟨Ev.pxw_and1 h.u⟩
end
section
variable {X : Cx} {C : Cfg} {pos : Pos} {e x y : Expr} {a b : Ev}
theorem x_neg (ha : SX X C x a) : SX X C (.UnaryOp .USub x pos) (evUn gNeg a) := ⟨Ev.x_neg ha.u⟩
end
section
variable {X : Cx} {C : Cfg} {pos p px : Pos} {x y z : Expr} {a b c : Ev} {t u : EvT} {i : Nat} {n : Str}
theorem x_cmp {op : CmpOp} {g : D → D → Option D} (o : Cm X C op g) (ha : SX X C x a) (hb : SXB X C y b) (hm : behindInMarks op y = false := by rfl) : SX X C (.Compare x [op] [y] pos) (evBin g a b) := ⟨Ev.x_cmp o ha.u hb.u hm⟩
end
section
variable {X : Cx} {C : Cfg} {pos : Pos}
theorem pxl_nil  : SXL X C [] evNil := ⟨Ev.pxl_nil ⟩
end
section
variable {X : Cx} {C : Cfg} {pos : Pos}
theorem n_lstL {es : List Expr} {a : EvA} (h : SXL X C es a) : SXN X C (.List es pos) (evLst a) := ⟨Ev.n_lstL h.u⟩
end
section
variable {X : Cx} {C : Cfg} {pos p px : Pos} {x y z : Expr} {a b c : Ev} {t u : EvT} {i : Nat} {n : Str}
theorem x_dgetO (i : Nat) (G : Good X C) (hb : SXB X C y b) (hN : X.N[i]? = some n := by rfl) (hv : Vis X.env.scope n := by first | exact Or.inl rfl | exact Or.inr (Or.inl rfl) | exact Or.inr (Or.inr rfl)) (hs : NoSl y := by intro _ _; rfl) (hd : (n == ("__debug__" : Str)) = false := by decide) (hcd : (n == ("__classdict__" : Str)) = false := by decide) : SX X C (.Subscript (.Name n px) y pos) (evBinO gDget i b) := ⟨Ev.x_dgetO i G hb.u hN hv hs hd hcd⟩
end
section
variable {X : Cx} {C : Cfg} {pos p px : Pos} {x y z : Expr} {a b c : Ev} {t u : EvT} {i : Nat} {n : Str}
variable {e : Expr} {es : List Expr} {ea : EvA}
theorem x_max {e2 : Expr} (G : Good X C) (hm : X.mg "max" = none) (ha : SXAB X C [e, e2] ea) (hg : Gl X "max" := by rfl) (he : starEach [e, e2] X.env = (false, eval e X.env) :: starEach [e2] X.env := by rfl) (hpl : (backTo pos (starEach [e2] X.env)).any (·.1) = false := by rfl) : SX X C (.Call (.Name "max" p) [e, e2] [] pos) (evCall gMax ea) := ⟨Ev.x_max G hm ha.u hg he hpl⟩
end
section
variable {X : Cx} {C : Cfg} {pos : Pos}
theorem pxn_dnew  : SXN X C (.Dict [] [] pos) evDnew := ⟨Ev.pxn_dnew ⟩
end
section
variable {X : Cx} {C : Cfg} {pos p px : Pos} {x y z : Expr} {a b c : Ev} {t u : EvT} {i : Nat} {n : Str}
variable {e : Expr} {es : List Expr} {ea : EvA}
theorem x_min {e2 : Expr} (G : Good X C) (hm : X.mg "min" = none) (ha : SXAB X C [e, e2] ea) (hg : Gl X "min" := by rfl) (he : starEach [e, e2] X.env = (false, eval e X.env) :: starEach [e2] X.env := by rfl) (hpl : (backTo pos (starEach [e2] X.env)).any (·.1) = false := by rfl) : SX X C (.Call (.Name "min" p) [e, e2] [] pos) (evCall gMin ea) := ⟨Ev.x_min G hm ha.u hg he hpl⟩
end
section
variable {X : Cx} {C : Cfg} {pos p px : Pos} {x y z : Expr} {a b c : Ev} {t u : EvT} {i : Nat} {n : Str}
variable {e : Expr} {es : List Expr} {ea : EvA}
theorem x_sorted (G : Good X C) (hm : X.mg "sorted" = none) (ha : SXAB X C [e] ea) (hg : Gl X "sorted" := by rfl) (he : starEach [e] X.env = (false, eval e X.env) :: starEach [] X.env := by rfl) : SX X C (.Call (.Name "sorted" p) [e] [] pos) (evCall gSorted ea) := ⟨Ev.x_sorted G hm ha.u hg he⟩
end
section
variable {X : Cx} {C : Cfg} {pos : Pos}
theorem px_or {x y : Expr} {rest : List Expr} {a b : Ev} (ha : SX X C x a) (hb : SX X C (.BoolOp .Or (y :: rest) pos) b) : SX X C (.BoolOp .Or (x :: y :: rest) pos) (evOr a b) := ⟨Ev.px_or ha.u hb.u⟩
end
section
variable {X : Cx} {C : Cfg} {pos p px : Pos} {x y z : Expr} {a b c : Ev} {t u : EvT} {i : Nat} {n : Str}
variable {e : Expr} {es : List Expr} {ea : EvA}
theorem i_rng3 {tg e2 e3 : Expr} (hm : X.mg "range" = none) (ha : SXA X C [e, e2, e3] ea) (hl : ∀ env ds env', ea env = .ok ds env' → ds.length = 3) (hg : Gl X "range" := by rfl) (hs : starEach [e, e2, e3] X.env = [(false, eval e X.env), (false, eval e2 X.env), (false, eval e3 X.env)] := by rfl) (hs2 : starEach [e2, e3] X.env = [(false, eval e2 X.env), (false, eval e3 X.env)] := by rfl) : SXI X C tg (.Call (.Name "range" p) [e, e2, e3] [] pos) (evRng ea) := ⟨Ev.i_rng3 hm ha.u hl hg hs hs2⟩
end
section
variable {X : Cx} {C : Cfg} {pos p px : Pos} {x y z : Expr} {a b c : Ev} {t u : EvT} {i : Nat} {n : Str}
variable {e : Expr} {es : List Expr} {ea : EvA}
theorem x_list (G : Good X C) (hm : X.mg "list" = none) (ha : SXAB X C [e] ea) (hg : Gl X "list" := by rfl) (he : starEach [e] X.env = (false, eval e X.env) :: starEach [] X.env := by rfl) : SX X C (.Call (.Name "list" p) [e] [] pos) (evCall gList ea) := ⟨Ev.x_list G hm ha.u hg he⟩
end
section
variable {X : Cx} {C : Cfg} {pos p px : Pos} {x y z : Expr} {a b c : Ev} {t u : EvT} {i : Nat} {n : Str}
variable {e : Expr} {es : List Expr} {ea : EvA}
theorem s_lc {elt tg iter : Expr} {ifs : List Expr} {scope : Scope} (N' : List Str) {spos py : Pos} {it : EvA} {g : GV} {cc : EvT} {ee : Ev} (lo : Nat) (i : Nat) (ok : CompOk X scope N') (G : Good X C) (hi : SXI X C tg iter it) (bg : ∀ X', CxAt X scope N' X' → SXG X' C lo tg g) (bc : ∀ X', CxAt X scope N' X' → SXIf X' C ifs cc) (be : ∀ X', CxAt X scope N' X' → SX X' C elt ee) (hnd : nodupB X.N = true := by rfl) (hfx : C.fx i = none := by rfl) (hy : X.N[i]? = some n := by rfl) (hx : Loc X.env.scope n := by first | exact Or.inl rfl | exact Or.inr rfl) (hsw : swapsWith (.ListComp elt [⟨tg, iter, ifs, 0⟩] scope pos) (some (.Name n py)) spos.line X.env = pure true := by rfl) (hf : X.fn n = true ∨ X.env.scope.names.lookup n = some .local := by first | exact .inl rfl | exact .inr rfl) (hs : ∀ x, foldedSetIterable iter X.env x = pure x := by intro _; rfl) : SXS X C (.Assign [.Name n py] (.ListComp elt [⟨tg, iter, ifs, 0⟩] scope pos) spos) (stOwn i (evLC lo N'.length it g cc ee)) := ⟨Ev.s_lc N' lo i ok G hi.u (fun X1 h1 => (bg X1 h1).u) (fun X1 h1 => (bc X1 h1).u) (fun X1 h1 => (be X1 h1).u) hnd hfx hy hx hsw hf hs⟩
end
section
variable {X : Cx} {C : Cfg} {pos p px : Pos} {x y z : Expr} {a b c : Ev} {t u : EvT} {i : Nat} {n : Str}
variable {e : Expr} {es : List Expr} {ea : EvA}
theorem x_divmod {e2 : Expr} (G : Good X C) (hm : X.mg "divmod" = none) (ha : SXAB X C [e, e2] ea) (hg : Gl X "divmod" := by rfl) (he : starEach [e, e2] X.env = (false, eval e X.env) :: starEach [e2] X.env := by rfl) (hpl : (backTo pos (starEach [e2] X.env)).any (·.1) = false := by rfl) : SX X C (.Call (.Name "divmod" p) [e, e2] [] pos) (evCall gDivmod ea) := ⟨Ev.x_divmod G hm ha.u hg he hpl⟩
end
section
variable {X : Cx} {C : Cfg} {pos : Pos}
theorem pxs_retNew {e : Expr} {a : Ev} (h : SXN X C e a) : SXS X C (.Return (some e) pos) (stRetNew a) := ⟨Ev.pxs_retNew h.u⟩
end
section
variable {X : Cx} {C : Cfg} {pos p px : Pos} {x y z : Expr} {a b c : Ev} {t u : EvT} {i : Nat} {n : Str}
variable {e : Expr} {es : List Expr} {ea : EvA}
theorem g_at {lo : Nat} {ix : Expr} {ev : Ev} (i : Nat) (h : SX X C ix ev) (hN : X.N[i]? = some n := by rfl) (hv : Vis X.env.scope n := by first | exact Or.inl rfl | exact Or.inr (Or.inl rfl) | exact Or.inr (Or.inr rfl)) (ha : ∀ v, assign (.Subscript (.Name n px) ix pos) X.env v = (do
      let ov ← holding [v] (eval (.Name n px) X.env)
      let iv ← holding [v, ov] (eval ix X.env)
      standAt pos
      holding [v, ov, iv] (setItem ov iv v)
      release [v, ov, iv] []) := by intro _; rfl) (hd : (n == ("__debug__" : Str)) = false := by decide) (hcd : (n == ("__classdict__" : Str)) = false := by decide) : SXG X C lo (.Subscript (.Name n px) ix pos) (gvAt i ev) := ⟨Ev.g_at i h.u hN hv ha hd hcd⟩
end
section
variable {X : Cx} {C : Cfg} {pos p px : Pos} {x y z : Expr} {a b c : Ev} {t u : EvT} {i : Nat} {n : Str}
variable {e : Expr} {es : List Expr} {ea : EvA}
theorem s_dput {k : Expr} {ek : Ev} {pos' : Pos} (i : Nat) (G : Good X C) (hk : SX X C k ek) (he : SX X C e a) (hN : X.N[i]? = some n := by rfl) (hv : Vis X.env.scope n := by first | exact Or.inl rfl | exact Or.inr (Or.inl rfl) | exact Or.inr (Or.inr rfl)) (hs : swapsWith e (some (.Subscript (.Name n px) k pos')) pos.line X.env = pure false := by rfl) (hd : (n == ("__debug__" : Str)) = false := by decide) (hcd : (n == ("__classdict__" : Str)) = false := by decide) : SXS X C (.Assign [.Subscript (.Name n px) k pos'] e pos) (stDput i ek a) := ⟨Ev.s_dput i G hk.u he.u hN hv hs hd hcd⟩
end
section
variable {X : Cx} {C : Cfg} {pos : Pos} {x y : Expr} {a b : Ev}
theorem n_cat (ha : SX X C x a) (hb : SXB X C y b) : SXN X C (.BinOp x .Add y pos) (evBin gCat a b) := ⟨Ev.n_cat ha.u hb.u⟩
end
section
variable {X : Cx} {C : Cfg} {pos : Pos}
theorem x_tupS {p : Pos} {e : Expr} {ea : EvA} (G : Good X C) (hm : X.mg "tuple" = none) (ha : SXAB X C [e] ea) (hg : Gl X "tuple" := by rfl) (he : starEach [e] X.env = (false, eval e X.env) :: starEach [] X.env := by rfl) : SX X C (.Call (.Name "tuple" p) [e] [] pos) (evCall gTupS ea) := ⟨Ev.x_tupS G hm ha.u hg he⟩
end
section
variable {X : Cx} {C : Cfg} {pos : Pos} {x : Expr} {a : Ev}
theorem x_slA {lo hi : Option Expr} {el eh : EvP} {p2 : Pos} (G : Good X C) (ha : SX X C x a) (hl : SXP X C lo el) (hh : SXP X C hi eh) : SX X C (.Subscript x (.Slice lo hi none p2) pos) (evSlA a el eh) := ⟨Ev.x_slA G ha.u hl.u hh.u⟩
end
section
variable {X : Cx} {C : Cfg} {pos : Pos}
theorem x_upper {o : Expr} {a : Ev} {apos cpos : Pos} (ho : SX X C o a) (hbase : attributeBase o "upper" X.env (eval o X.env) = eval o X.env := by rfl) (hline : (apos.endLine == cpos.line) = true := by rfl) : SX X C (.Call (.Attribute o "upper" apos) [] [] cpos) (evUn gUpper a) := ⟨Ev.x_upper ho.u hbase hline⟩
end
section
variable {X : Cx} {C : Cfg} {pos p p2 pos2 : Pos} {e : Expr} {a : Ev}
theorem x_sortset (G : Good X C) (h1 : X.mg "sorted" = none) (h2 : X.mg "set" = none) (ha : SX X C e a) (g1 : Gl X "sorted" := by rfl) (g2 : Gl X "set" := by rfl) (he : starEach [e] X.env = (false, eval e X.env) :: starEach [] X.env := by rfl) (he2 : starEach [.Call (.Name "set" p2) [e] [] pos2] X.env = (false, eval (.Call (.Name "set" p2) [e] [] pos2) X.env) :: starEach [] X.env := by rfl) : SX X C (.Call (.Name "sorted" p) [.Call (.Name "set" p2) [e] [] pos2] [] pos) (evUn gSortSet a) := ⟨Ev.x_sortset G h1 h2 ha.u g1 g2 he he2⟩
end
section
variable {X : Cx} {C : Cfg} {pos : Pos} {x : Expr} {a : Ev}
theorem x_revT {p2 p3 p4 : Pos} {k : Nat} (G : Good X C) (ha : SX X C x a) : SX X C (.Subscript x (.Slice none none (some (.UnaryOp .USub (.Constant (.int 1) k p4) p3)) p2) pos) (evUn gRevT a) := ⟨Ev.x_revT G ha.u⟩
end
end S
end Ev
namespace K04
open Ev
def lc_rises_1 : Ev := evLC 1 2 (evRng (evCons (evBin gSub (evCall gLen (evCons (evRd 0) evNil)) (evC (.int 1))) (evNil))) (gvName 1) (evTrue) (evBin gLt (evBinO gIx 0 (evRd 1)) (evBinO gIx 0 (evBinO gAdd 1 (evC (.int 1)))))
def b_rises : EvS := stRet (evCall gAll (evCons (lc_rises_1) evNil))
def f_rises : List D → Option D := runP 1 b_rises
def b_is_pair : EvS := stRet (evAnd (evUn (gIsi "tuple") (evVar 0)) (evBin gEqA (evCall gLen (evCons (evRd 0) evNil)) (evC (.int 2))))
def f_is_pair : List D → Option D := runP 1 b_is_pair
def lc_sounds_of_1 : Ev := evLC 1 3 (evIt (evVar 0)) (gvTup 2 (gvCons (gvName 1) (gvCons (gvName 2) (gvNil)))) (evTrue) (evVar 1)
def b_sounds_of : EvS := stRet (evCall gTuple (evCons (lc_sounds_of_1) evNil))
def f_sounds_of : List D → Option D := runP 1 b_sounds_of
def b_changes_sound : EvS := stSeq (stIf (evNotT (evB (evCall f_is_pair (evCons (evVar 1) (evNil))))) (stRet (evC (.bl false))) (stNext)) (stSeq (stAsg (evVar 1) (gvTup 2 (gvCons (gvName 2) (gvCons (gvName 3) (gvNil))))) (stRet (evAnd (evBinO gInA 2 (evRd 0)) (evAnd (evOr (evBinO gInA 3 (evRd 0)) (evBinO gEqA 3 (evC (.str [])))) (evBinO gNe 2 (evRd 3))))))
def f_changes_sound : List D → Option D := runP 4 b_changes_sound
def b_puts_one_in : EvS := stRet (evAnd (evCall f_is_pair (evCons (evVar 1) (evNil))) (evAnd (evBin gEqA (evBinO gIx 1 (evC (.int 0))) (evC (.str []))) (evBin gInA (evBinO gIx 1 (evC (.int 1))) (evRd 0))))
def f_puts_one_in : List D → Option D := runP 2 b_puts_one_in
def lc_are_changes_1 : Ev := evLC 2 3 (evIt (evVar 1)) (gvName 2) (evTrue) (evCall f_changes_sound (evCons (evVar 0) (evCons (evVar 2) (evNil))))
def lc_are_changes_2 : Ev := evLC 2 4 (evIt (evVar 1)) (gvTup 2 (gvCons (gvName 2) (gvCons (gvName 3) (gvNil)))) (evTrue) (evVar 2)
def b_are_changes : EvS := stSeq (stIf (evOrT (evNotT (evB (evUn (gIsi "tuple") (evVar 1)))) (evB (evBin gEqA (evCall gLen (evCons (evRd 1) evNil)) (evC (.int 0))))) (stRet (evC (.bl false))) (stNext)) (stSeq (stIf (evAndT (evB (evBin gEqA (evCall gLen (evCons (evRd 1) evNil)) (evC (.int 1)))) (evB (evCall f_puts_one_in (evCons (evVar 0) (evCons (evBinO gIx 1 (evC (.int 0))) (evNil)))))) (stRet (evC (.bl true))) (stNext)) (stRet (evAnd (evCall gAll (evCons (lc_are_changes_1) evNil)) (evCall f_rises (evCons (lc_are_changes_2) (evNil))))))
def f_are_changes : List D → Option D := runP 2 b_are_changes
def lc_are_signs_1 : Ev := evLC 2 3 (evIt (evVar 1)) (gvName 2) (evTrue) (evOr (evBinO gEqA 2 (evC (.str [35]))) (evBinO gInA 2 (evRd 0)))
def b_are_signs : EvS := stSeq (stIf (evB (evBinO gIs 1 (evC .non))) (stRet (evC (.bl true))) (stNext)) (stSeq (stIf (evOrT (evNotT (evB (evUn (gIsi "tuple") (evVar 1)))) (evB (evBin gEqA (evCall gLen (evCons (evRd 1) evNil)) (evC (.int 0))))) (stRet (evC (.bl false))) (stNext)) (stRet (evAnd (evCall gAll (evCons (lc_are_signs_1) evNil)) (evCall f_rises (evCons (evVar 1) (evNil))))))
def f_are_signs : List D → Option D := runP 2 b_are_signs
def b_is_rule : EvS := stSeq (stIf (evOrT (evNotT (evB (evUn (gIsi "tuple") (evVar 1)))) (evB (evBin gNe (evCall gLen (evCons (evRd 1) evNil)) (evC (.int 4))))) (stRet (evC (.bl false))) (stNext)) (stSeq (stAsg (evVar 1) (gvTup 4 (gvCons (gvName 2) (gvCons (gvName 3) (gvCons (gvName 4) (gvCons (gvName 5) (gvNil))))))) (stSeq (stAsg (evCall f_sounds_of (evCons (evVar 0) (evNil))) (gvName 6)) (stRet (evAnd (evBinO gInA 2 (evC (.tup [(.str [111, 110, 99, 101]), (.str [97, 108, 111, 110, 103])]))) (evAnd (evCall f_are_changes (evCons (evVar 6) (evCons (evVar 3) (evNil)))) (evAnd (evCall f_are_signs (evCons (evVar 6) (evCons (evVar 4) (evNil)))) (evCall f_are_signs (evCons (evVar 6) (evCons (evVar 5) (evNil))))))))))
def f_is_rule : List D → Option D := runP 7 b_is_rule
def b_law_mixed : EvS := stRet (evBin gMod (evBinO gMul 0 (evC (.int 262406895267124108351839057402211873468251940277165213587343))) (evBin gPow (evC (.int 10)) (evC (.int 60))))
def f_law_mixed : List D → Option D := runP 1 b_law_mixed
def lb_law_pack_1 : EvS := stAsg (evBin gAdd (evBinO gMul 2 (evBin gPow (evC (.int 10)) (evC (.int 60)))) (evCall f_law_mixed (evCons (evBin gIx (evBin gAdd (evSl (evVar 0) (evP (evVar 3)) (evP (evBinO gAdd 3 (evC (.int 1))))) (evLst (evCons (evBin gAdd (evBin gMul (evC (.int 7919)) (evRd 3)) (evC (.int 61))) (evNil)))) (evC (.int 0))) (evNil)))) (gvName 2)
def b_law_pack : EvS := stSeq (stAsg (evC (.int 0)) (gvName 2)) (stSeq (stFor (evIt (evLst (evCons (evBinO gAdd 1 (evC (.int 1))) (evCons (evVar 1) (evNil))))) (gvName 3) (lb_law_pack_1)) (stRetNew (evLst (evCons (evVar 2) (evNil)))))
def f_law_pack : List D → Option D := runN 4 b_law_pack
def b_law_take : EvS := stSeq (stAsg (evCall gDivmod (evCons (evBinO gIx 0 (evC (.int 0))) (evCons (evRd 1) evNil))) (gvTup 2 (gvCons (gvAt 0 (evC (.int 0))) (gvCons (gvName 2) (gvNil))))) (stRet (evVar 2))
def f_law_take : List D → Option (D × D) := runIO 3 b_law_take
def lc_law_drawn_sounds_1 : Ev := evLC 4 5 (evRng (evCons (evBin gAdd (evC (.int 1)) (evIO f_law_take 0 (evCons (evC (.int 4)) (evNil)))) (evNil))) (gvName 4) (evTrue) (evBinO gIx 1 (evBin gMod (evBinO gAdd 2 (evBinO gMul 3 (evRd 4))) (evC (.int 26))))
def b_law_drawn_sounds : EvS := stSeq (stAsg (evC (.str [97, 98, 99, 100, 101, 102, 103, 104, 105, 106, 107, 108, 109, 110, 111, 112, 113, 114, 115, 116, 117, 118, 119, 120, 121, 122])) (gvName 1)) (stSeq (stAsg (evTup (evCons (evIO f_law_take 0 (evCons (evC (.int 26)) (evNil))) (evCons (evBin gAdd (evC (.int 1)) (evIO f_law_take 0 (evCons (evC (.int 25)) (evNil)))) (evNil)))) (gvTup 2 (gvCons (gvName 2) (gvCons (gvName 3) (gvNil))))) (stRet (evBin gJoin (evC (.str [])) (evUn gSortSet (lc_law_drawn_sounds_1)))))
def f_law_drawn_sounds : List D → Option (D × D) := runIO 4 b_law_drawn_sounds
def lc_law_stock_1 : Ev := evLC 7 8 (evRng (evCons (evC (.int 5)) (evNil))) (gvName 7) (evB (evBin gEq (evBin gAnd (evBinO gShr 5 (evRd 7)) (evC (.int 1))) (evC (.int 1)))) (evBinO gIx 2 (evRd 7))
def lb_law_stock_1 : EvS := stSeq (stAsg (evIO f_law_take 0 (evCons (evC (.int 32)) (evNil))) (gvName 5)) (stSeq (stAsg (evCall gSorted (evCons (lc_law_stock_1) evNil)) (gvName 6)) (stApp 3 (evTup (evCons (evVar 4) (evCons (evCall gTuple (evCons (evSl (evVar 6) (evNoP) (evP (evC (.int 4)))) evNil)) (evNil))))))
def b_law_stock : EvS := stSeq (stAsg (evIO f_law_drawn_sounds 0 (evNil)) (gvName 1)) (stSeq (stAsg (evLst (evCons (evC (.str [115, 116, 111, 112])) (evCons (evC (.str [115, 116, 111, 112, 115])) (evCons (evC (.str [115])) (evCons (evC (.str [111, 112, 101, 110])) (evCons (evC (.str [97, 98, 99, 100, 101, 102, 103, 104])) (evNil))))))) (gvName 2)) (stSeq (stOwn 3 (evLst (evNil))) (stSeq (stFor (evIt (evVar 1)) (gvName 4) (lb_law_stock_1)) (stRet (evCall gTuple (evCons (evRd 3) evNil))))))
def f_law_stock : List D → Option (D × D) := runIO 7 b_law_stock
def lc_law_sounds_1 : Ev := K04.lc_sounds_of_1
def b_law_sounds : EvS := stRet (evBin gJoin (evC (.str [])) (lc_law_sounds_1))
def f_law_sounds : List D → Option D := runP 1 b_law_sounds
def lc_law_signs_1 : Ev := evLC 4 5 (evRng (evCons (evCall gLen (evCons (evRd 3) evNil)) (evNil))) (gvName 4) (evB (evBin gEq (evBin gAnd (evBinO gShr 2 (evRd 4)) (evC (.int 1))) (evC (.int 1)))) (evBinO gIx 3 (evRd 4))
def b_law_signs : EvS := stSeq (stIf (evB (evBin gEq (evIO f_law_take 0 (evCons (evC (.int 2)) (evNil))) (evC (.int 0)))) (stRet (evC .non)) (stNext)) (stSeq (stAsg (evBin gAdd (evC (.int 1)) (evIO f_law_take 0 (evCons (evBin gSub (evBin gShl (evC (.int 2)) (evCall gLen (evCons (evRd 1) evNil))) (evC (.int 1))) (evNil)))) (gvName 2)) (stSeq (stAsg (evBin gAdd (evC (.str [35])) (evRd 1)) (gvName 3)) (stRet (evCall gTuple (evCons (lc_law_signs_1) evNil)))))
def f_law_signs : List D → Option (D × D) := runIO 4 b_law_signs
def lc_law_changes_1 : Ev := evLC 6 7 (evIt (evBin gAdd (evCall gList (evCons (evRd 1) evNil)) (evLst (evCons (evC (.str [])) (evNil))))) (gvName 6) (evB (evBinO gNe 6 (evRd 4))) (evVar 6)
def lb_law_changes_1 : EvS := stSeq (stAsg (evBinO gIx 1 (evIO f_law_take 0 (evCons (evCall gLen (evCons (evRd 1) evNil)) (evNil)))) (gvName 4)) (stSeq (stOwn 5 (lc_law_changes_1)) (stDput 2 (evVar 4) (evBinO gIx 5 (evIO f_law_take 0 (evCons (evCall gLen (evCons (evRd 5) evNil)) (evNil))))))
def lc_law_changes_2 : Ev := evLC 6 7 (evIt (evCall gSorted (evCons (evRd 2) evNil))) (gvName 6) (evTrue) (evTup (evCons (evVar 6) (evCons (evBinO gDget 2 (evRd 6)) (evNil))))
def b_law_changes : EvS := stSeq (stIf (evB (evBin gEq (evIO f_law_take 0 (evCons (evC (.int 5)) (evNil))) (evC (.int 0)))) (stRet (evTup (evCons (evTup (evCons (evC (.str [])) (evCons (evBinO gIx 1 (evIO f_law_take 0 (evCons (evCall gLen (evCons (evRd 1) evNil)) (evNil)))) (evNil)))) (evNil)))) (stNext)) (stSeq (stOwn 2 (evDnew)) (stSeq (stFor (evRng (evCons (evBin gAdd (evC (.int 1)) (evIO f_law_take 0 (evCons (evC (.int 3)) (evNil)))) (evNil))) (gvName 3) (lb_law_changes_1)) (stRet (evCall gTuple (evCons (lc_law_changes_2) evNil)))))
def f_law_changes : List D → Option (D × D) := runIO 6 b_law_changes
def b_law_rule : EvS := stSeq (stAsg (evBin gIx (evLst (evCons (evC (.str [111, 110, 99, 101])) (evCons (evC (.str [97, 108, 111, 110, 103])) (evNil)))) (evIO f_law_take 0 (evCons (evC (.int 2)) (evNil)))) (gvName 2)) (stSeq (stAsg (evIO f_law_changes 0 (evCons (evVar 1) (evNil))) (gvName 3)) (stRet (evTup (evCons (evVar 2) (evCons (evVar 3) (evCons (evIO f_law_signs 0 (evCons (evVar 1) (evNil))) (evCons (evIO f_law_signs 0 (evCons (evVar 1) (evNil))) (evNil))))))))
def f_law_rule : List D → Option (D × D) := runIO 4 b_law_rule
def b_law_is : EvS := stRet (evAnd (evUn (gIsi "bool") (evVar 0)) (evBinO gEq 0 (evRd 1)))
def f_law_is : List D → Option D := runP 2 b_law_is
def lc_law_out_1 : Ev := evLC 1 2 (evIt (evC (.str [113, 118, 109, 101, 104, 97, 98, 99, 100, 102, 103]))) (gvName 1) (evB (evBinO gNotIn 1 (evRd 0))) (evVar 1)
def b_law_out : EvS := stRet (evBin gIx (lc_law_out_1) (evC (.int 0)))
def f_law_out : List D → Option D := runP 1 b_law_out
def lb_law_no_changes_1 : EvS := stAsg (evBinO gAdd 3 (evLst (evCons (evTup (evCons (evTup (evCons (evVar 4) (evCons (evC (.str [])) (evNil)))) (evNil))) (evCons (evTup (evCons (evTup (evCons (evVar 1) (evCons (evVar 4) (evNil)))) (evNil))) (evCons (evTup (evCons (evTup (evCons (evC (.str [])) (evCons (evVar 4) (evNil)))) (evNil))) (evNil)))))) (gvName 3)
def b_law_no_changes : EvS := stSeq (stAsg (evBinO gIx 0 (evC (.int 0))) (gvName 1)) (stSeq (stAsg (evCall f_law_out (evCons (evVar 0) (evNil))) (gvName 2)) (stSeq (stAsg (evLst (evCons (evTup (evNil)) (evCons (evC .non) (evCons (evC (.str [97])) (evCons (evLst (evCons (evTup (evCons (evVar 1) (evCons (evC (.str [])) (evNil)))) (evNil))) (evCons (evTup (evCons (evTup (evCons (evVar 1) (evCons (evVar 1) (evNil)))) (evNil))) (evCons (evTup (evCons (evTup (evCons (evVar 1) (evNil))) (evNil))) (evCons (evTup (evCons (evTup (evCons (evVar 1) (evCons (evC (.str [])) (evCons (evC (.str [])) (evNil))))) (evNil))) (evCons (evTup (evCons (evLst (evCons (evVar 1) (evCons (evC (.str [])) (evNil)))) (evNil))) (evNil)))))))))) (gvName 3)) (stSeq (stAsg (evBinO gAdd 3 (evLst (evCons (evTup (evCons (evTup (evCons (evVar 1) (evCons (evC (.str [35])) (evNil)))) (evNil))) (evCons (evTup (evCons (evTup (evCons (evC (.str [35])) (evCons (evVar 1) (evNil)))) (evNil))) (evNil))))) (gvName 3)) (stSeq (stAsg (evBinO gAdd 3 (evLst (evCons (evTup (evCons (evTup (evCons (evVar 1) (evCons (evVar 2) (evNil)))) (evNil))) (evCons (evTup (evCons (evTup (evCons (evVar 2) (evCons (evVar 1) (evNil)))) (evNil))) (evCons (evTup (evCons (evTup (evCons (evVar 2) (evCons (evC (.str [])) (evNil)))) (evNil))) (evCons (evTup (evCons (evTup (evCons (evC (.str [])) (evCons (evVar 2) (evNil)))) (evNil))) (evCons (evTup (evCons (evTup (evCons (evC (.str [])) (evCons (evC (.str [])) (evNil)))) (evNil))) (evCons (evTup (evCons (evTup (evCons (evC (.str [])) (evCons (evC (.str [35])) (evNil)))) (evNil))) (evNil))))))))) (gvName 3)) (stSeq (stAsg (evBinO gAdd 3 (evLst (evCons (evTup (evCons (evTup (evCons (evVar 1) (evCons (evC .non) (evNil)))) (evNil))) (evCons (evTup (evCons (evC .non) (evNil))) (evNil))))) (gvName 3)) (stSeq (stAsg (evBinO gAdd 3 (evLst (evCons (evTup (evCons (evTup (evCons (evVar 1) (evCons (evC (.int 7)) (evNil)))) (evNil))) (evCons (evTup (evCons (evTup (evCons (evC (.int 7)) (evCons (evVar 1) (evNil)))) (evNil))) (evCons (evTup (evCons (evTup (evCons (evVar 1) (evCons (evC (.str [])) (evNil)))) (evCons (evTup (evCons (evVar 1) (evCons (evC (.str [])) (evNil)))) (evNil)))) (evCons (evTup (evCons (evTup (evCons (evC (.str [])) (evCons (evVar 1) (evNil)))) (evCons (evTup (evCons (evVar 1) (evCons (evC (.str [])) (evNil)))) (evNil)))) (evCons (evTup (evCons (evTup (evCons (evVar 1) (evCons (evC (.str [])) (evNil)))) (evCons (evTup (evCons (evC (.str [])) (evCons (evVar 1) (evNil)))) (evNil)))) (evNil)))))))) (gvName 3)) (stSeq (stAsg (evBinO gAdd 3 (evLst (evCons (evTup (evCons (evTup (evNil)) (evNil))) (evNil)))) (gvName 3)) (stSeq (stAsg (evBinO gAdd 3 (evLst (evCons (evTup (evCons (evTup (evCons (evBinO gAdd 1 (evRd 1)) (evCons (evC (.str [])) (evNil)))) (evNil))) (evCons (evTup (evCons (evTup (evCons (evVar 1) (evCons (evBinO gAdd 1 (evRd 1)) (evNil)))) (evNil))) (evCons (evTup (evCons (evTup (evCons (evVar 1) (evCons (evTup (evCons (evC (.str [])) (evNil))) (evNil)))) (evNil))) (evCons (evTup (evCons (evTup (evCons (evUn gUpper (evVar 1)) (evCons (evC (.str [])) (evNil)))) (evNil))) (evCons (evTup (evCons (evTup (evCons (evC (.bl true)) (evCons (evVar 1) (evNil)))) (evNil))) (evNil)))))))) (gvName 3)) (stSeq (stAsg (evBinO gAdd 3 (evLst (evCons (evTup (evCons (evTup (evCons (evC .non) (evCons (evVar 1) (evNil)))) (evNil))) (evNil)))) (gvName 3)) (stSeq (stFor (evIt (evLst (evCons (evLst (evCons (evVar 1) (evNil))) (evCons (evDnew) (evCons (evTup (evCons (evVar 1) (evNil))) (evCons (evLst (evNil)) (evNil))))))) (gvName 4) (lb_law_no_changes_1)) (stSeq (stIf (evB (evBin gGt (evCall gLen (evCons (evRd 0) evNil)) (evC (.int 1)))) (stSeq (stAsg (evBinO gIx 0 (evC (.int 1))) (gvName 5)) (stSeq (stAsg (evBinO gAdd 3 (evLst (evCons (evTup (evCons (evTup (evCons (evBinO gAdd 1 (evRd 5)) (evCons (evC (.str [])) (evNil)))) (evNil))) (evCons (evTup (evCons (evTup (evCons (evVar 5) (evCons (evBinO gAdd 1 (evRd 5)) (evNil)))) (evNil))) (evCons (evTup (evCons (evTup (evCons (evC (.str [])) (evCons (evBinO gAdd 1 (evRd 5)) (evNil)))) (evNil))) (evCons (evTup (evCons (evTup (evCons (evVar 1) (evCons (evSlA (evVar 0) (evP (evUn gNeg (evC (.int 2)))) (evNoP)) (evNil)))) (evNil))) (evNil))))))) (gvName 3)) (stSeq (stAsg (evBinO gAdd 3 (evLst (evCons (evTup (evCons (evTup (evCons (evVar 5) (evCons (evC (.str [])) (evNil)))) (evCons (evTup (evCons (evVar 1) (evCons (evC (.str [])) (evNil)))) (evNil)))) (evCons (evTup (evCons (evTup (evCons (evVar 1) (evCons (evVar 5) (evNil)))) (evCons (evTup (evCons (evVar 1) (evCons (evC (.str [])) (evNil)))) (evNil)))) (evCons (evTup (evCons (evTup (evCons (evC (.str [])) (evCons (evVar 1) (evNil)))) (evCons (evTup (evCons (evC (.str [])) (evCons (evVar 5) (evNil)))) (evNil)))) (evNil)))))) (gvName 3)) (stAsg (evBinO gAdd 3 (evLst (evCons (evTup (evCons (evTup (evCons (evVar 1) (evCons (evVar 5) (evNil)))) (evCons (evTup (evCons (evVar 5) (evCons (evVar 5) (evNil)))) (evNil)))) (evNil)))) (gvName 3))))) (stNext)) (stRet (evVar 3)))))))))))))
def f_law_no_changes : List D → Option D := runP 6 b_law_no_changes
def b_law_no_signs : EvS := stSeq (stAsg (evBinO gIx 0 (evC (.int 0))) (gvName 1)) (stSeq (stAsg (evCall f_law_out (evCons (evVar 0) (evNil))) (gvName 2)) (stSeq (stAsg (evLst (evCons (evTup (evNil)) (evCons (evC (.str [])) (evCons (evVar 1) (evCons (evC (.str [35])) (evCons (evLst (evCons (evVar 1) (evNil))) (evCons (evLst (evNil)) (evCons (evTup (evCons (evVar 1) (evCons (evVar 1) (evNil)))) (evCons (evTup (evCons (evVar 1) (evCons (evC (.str [35])) (evNil)))) (evCons (evTup (evCons (evC (.str [35])) (evCons (evC (.str [35])) (evNil)))) (evCons (evTup (evCons (evVar 2) (evNil))) (evCons (evTup (evCons (evC .non) (evNil))) (evCons (evTup (evCons (evC (.int 7)) (evNil))) (evCons (evTup (evCons (evC (.str [])) (evNil))) (evNil))))))))))))))) (gvName 3)) (stSeq (stAsg (evBinO gAdd 3 (evLst (evCons (evTup (evCons (evC (.bl true)) (evNil))) (evCons (evDnew) (evNil))))) (gvName 3)) (stSeq (stIf (evB (evBin gGt (evCall gLen (evCons (evRd 0) evNil)) (evC (.int 1)))) (stAsg (evBinO gAdd 3 (evLst (evCons (evTup (evCons (evBinO gIx 0 (evC (.int 1))) (evCons (evVar 1) (evNil)))) (evCons (evTup (evCons (evBinO gIx 0 (evC (.int 1))) (evCons (evC (.str [35])) (evNil)))) (evCons (evTup (evCons (evBinO gAdd 1 (evBinO gIx 0 (evC (.int 1)))) (evNil))) (evNil)))))) (gvName 3)) (stNext)) (stRet (evBinO gAdd 3 (evLst (evCons (evTup (evCons (evTup (evCons (evVar 1) (evNil))) (evNil))) (evCons (evTup (evCons (evLst (evCons (evVar 1) (evNil))) (evNil))) (evCons (evC (.int 7)) (evCons (evC (.bl true)) (evCons (evTup (evCons (evUn gUpper (evVar 1)) (evNil))) (evCons (evTup (evCons (evC (.str [32])) (evNil))) (evNil))))))))))))))
def f_law_no_signs : List D → Option D := runP 4 b_law_no_signs
def lb_law_no_rules_1 : EvS := stApp 6 (evTup (evCons (evVar 7) (evCons (evVar 3) (evCons (evVar 4) (evCons (evVar 5) (evNil))))))
def lb_law_no_rules_2 : EvS := stApp 6 (evTup (evCons (evVar 2) (evCons (evVar 7) (evCons (evVar 4) (evCons (evVar 5) (evNil))))))
def lb_law_no_rules_3 : EvS := stOwn 6 (evBin gCat (evVar 6) (evLst (evCons (evTup (evCons (evVar 2) (evCons (evVar 3) (evCons (evVar 7) (evCons (evVar 5) (evNil)))))) (evCons (evTup (evCons (evVar 2) (evCons (evVar 3) (evCons (evVar 4) (evCons (evVar 7) (evNil)))))) (evNil)))))
def b_law_no_rules : EvS := stSeq (stAsg (evVar 0) (gvTup 4 (gvCons (gvName 2) (gvCons (gvName 3) (gvCons (gvName 4) (gvCons (gvName 5) (gvNil))))))) (stSeq (stOwn 6 (evLst (evCons (evC .non) (evCons (evC (.int 7)) (evCons (evC (.str [111, 110, 99, 101])) (evCons (evTup (evNil)) (evCons (evDnew) (evCons (evCall gList (evCons (evRd 0) evNil)) (evCons (evSlA (evVar 0) (evNoP) (evP (evC (.int 3)))) (evCons (evBinO gAdd 0 (evTup (evCons (evC .non) (evNil)))) (evCons (evTup (evCons (evVar 0) (evNil))) (evCons (evSlA (evVar 0) (evP (evC (.int 1))) (evNoP)) (evCons (evUn gRevT (evVar 0)) (evNil)))))))))))))) (stSeq (stFor (evIt (evLst (evCons (evC (.str [])) (evCons (evC (.str [79, 110, 99, 101])) (evCons (evC (.str [98, 111, 116, 104])) (evCons (evC (.str [108, 101, 102, 116])) (evCons (evC .non) (evCons (evC (.int 7)) (evCons (evC (.bl true)) (evCons (evTup (evCons (evC (.str [111, 110, 99, 101])) (evNil))) (evCons (evLst (evCons (evC (.str [111, 110, 99, 101])) (evNil))) (evCons (evDnew) (evCons (evLst (evCons (evDnew) (evNil))) (evNil)))))))))))))) (gvName 7) (lb_law_no_rules_1)) (stSeq (stFor (evIt (evCall f_law_no_changes (evCons (evVar 1) (evNil)))) (gvName 7) (lb_law_no_rules_2)) (stSeq (stFor (evIt (evCall f_law_no_signs (evCons (evVar 1) (evNil)))) (gvName 7) (lb_law_no_rules_3)) (stRet (evVar 6))))))
def f_law_no_rules : List D → Option D := runP 8 b_law_no_rules
def lc_law_1 : Ev := evLC 6 7 (evRng (evCons (evC (.int 3)) (evNil))) (gvName 6) (evTrue) (evIO f_law_rule 2 (evCons (evVar 4) (evNil)))
def lc_law_2 : Ev := evLC 6 7 (evIt (evVar 4)) (gvName 6) (evTrue) (evTup (evCons (evVar 6) (evCons (evC (.str [])) (evNil))))
def lc_law_3 : Ev := evLC 6 7 (evIt (evVar 5)) (gvName 6) (evTrue) (evCall f_law_is (evCons (evCall f_is_rule (evCons (evVar 3) (evCons (evVar 6) (evNil)))) (evCons (evC (.bl true)) (evNil))))
def lc_law_4 : Ev := evLC 6 7 (evIt (evCall f_law_no_rules (evCons (evBinO gIx 5 (evC (.int 0))) (evCons (evVar 4) (evNil))))) (gvName 6) (evTrue) (evCall f_law_is (evCons (evCall f_is_rule (evCons (evVar 3) (evCons (evVar 6) (evNil)))) (evCons (evC (.bl false)) (evNil))))
def lb_law_1 : EvS := stSeq (stOwn 2 (evCall f_law_pack (evCons (evVar 0) (evCons (evVar 1) (evNil))))) (stSeq (stAsg (evIO f_law_stock 2 (evNil)) (gvName 3)) (stSeq (stAsg (evCall f_law_sounds (evCons (evVar 3) (evNil))) (gvName 4)) (stSeq (stOwn 5 (lc_law_1)) (stSeq (stOwn 5 (evBin gCat (evVar 5) (evLst (evCons (evTup (evCons (evC (.str [111, 110, 99, 101])) (evCons (evCall gTuple (evCons (lc_law_2) evNil)) (evCons (evCall gTupS (evCons (evBin gAdd (evC (.str [35])) (evRd 4)) evNil)) (evCons (evC .non) (evNil)))))) (evNil))))) (stSeq (stApp 5 (evTup (evCons (evC (.str [97, 108, 111, 110, 103])) (evCons (evTup (evCons (evTup (evCons (evC (.str [])) (evCons (evBinO gIx 4 (evUn gNeg (evC (.int 1)))) (evNil)))) (evNil))) (evCons (evC .non) (evCons (evTup (evCons (evC (.str [35])) (evNil))) (evNil))))))) (stSeq (stIf (evNotT (evB (evCall gAll (evCons (lc_law_3) evNil)))) (stRet (evC (.bl false))) (stNext)) (stIf (evNotT (evB (evCall gAll (evCons (lc_law_4) evNil)))) (stRet (evC (.bl false))) (stNext))))))))
def b_law : EvS := stSeq (stFor (evRng (evCons (evC (.int 0)) (evCons (evCall gMax (evCons (evC (.int 1)) (evCons (evCall gMin (evCons (evCall gLen (evCons (evRd 0) evNil)) (evCons (evC (.int 12)) evNil))) evNil))) (evCons (evC (.int 2)) (evNil))))) (gvName 1) (lb_law_1)) (stRet (evC (.bl true)))
def f_law : List D → Option D := runP 6 b_law
end K04
namespace K04
open PySem PySem.Spec PyProof.Rows L2 Ev
def top (i : Nat) : Stmt := PySem.Challenge.pw_soundrules_k04_rules_of_any_things.main.body.getD i (.Pass ⟨0, 0, 0, 0⟩)
abbrev s_rises : Stmt := top 2
abbrev s_is_pair : Stmt := top 3
abbrev s_sounds_of : Stmt := top 4
abbrev s_changes_sound : Stmt := top 7
abbrev s_puts_one_in : Stmt := top 8
abbrev s_are_changes : Stmt := top 9
abbrev s_are_signs : Stmt := top 10
abbrev s_is_rule : Stmt := top 11
abbrev s_law_mixed : Stmt := top 13
abbrev s_law_pack : Stmt := top 14
abbrev s_law_take : Stmt := top 15
abbrev s_law_drawn_sounds : Stmt := top 16
abbrev s_law_stock : Stmt := top 17
abbrev s_law_sounds : Stmt := top 18
abbrev s_law_signs : Stmt := top 19
abbrev s_law_changes : Stmt := top 20
abbrev s_law_rule : Stmt := top 21
abbrev s_law_is : Stmt := top 22
abbrev s_law_out : Stmt := top 23
abbrev s_law_no_changes : Stmt := top 24
abbrev s_law_no_signs : Stmt := top 25
abbrev s_law_no_rules : Stmt := top 26
abbrev s_law : Stmt := top 27
section
variable {P : Program} {w : World} {K : Fg} {mg : Str → Option Value} {base : Heap}
theorem sc_rises : FnScope ["things"] ["things"] (defScope s_rises) := scOk
theorem o_rises (F : FunAt K mg "rises" s_rises ["things"]) (nb_all : mg "all" = none) (nb_len : mg "len" = none) (nb_range : mg "range" = none) : Own P w K mg base "rises" 1 ["things"] (spP K 1 f_rises) := by
  exact own_pure (k := 0) F sc_rises (fun f cdv A outer s H E hr G => (S.SXSs.u (S.pxss_one (S.pxs_ret (S.x_all G nb_all (S.pxab_one (S.PX_b (S.PXN_px (S.n_lc ["things", "at"] 1 compOk G (S.i_rng1 nb_range (S.pxa_cons (S.x_bin b_sub (S.x_len G nb_len (S.pxab_one (S.x_rd 0))) (S.PX_b S.px_int)) S.pxa_nil) (lenS len0)) (fun X1 h1 => by have G := G.at h1; obtain ⟨_, _, _, _, _, rfl⟩ := h1; exact (S.g_name 1)) (fun X1 h1 => by have G := G.at h1; obtain ⟨_, _, _, _, _, rfl⟩ := h1; exact S.pxif_nil) (fun X1 h1 => by have G := G.at h1; obtain ⟨_, _, _, _, _, rfl⟩ := h1; exact (S.x_cmp c_lt (S.x_ixO 0 G (S.x_rd 1)) (S.PX_b (S.x_ixO 0 G (S.PX_b (S.x_binO 1 (b_add G) (S.PX_b S.px_int))))))))))))))))
theorem sc_is_pair : FnScope ["thing"] ["thing"] (defScope s_is_pair) := scOk
theorem o_is_pair (F : FunAt K mg "is_pair" s_is_pair ["thing"]) (nb_isinstance : mg "isinstance" = none) (nb_len : mg "len" = none) (nb_tuple : mg "tuple" = none) (isi_tuple : ∀ d : D, PySem.W.kitOne K (.type (tyD d)) (.type "tuple") = some (instD d "tuple")) : Own P w K mg base "is_pair" 1 ["thing"] (spP K 1 f_is_pair) := by
  exact own_pure (k := 0) F sc_is_pair (fun f cdv A outer s H E hr G => (S.SXSs.u (S.pxss_one (S.pxs_ret (S.px_and (S.px_isi (T := "tuple") rfl nb_isinstance rfl nb_tuple (by decide +kernel) isi_tuple G.K (S.x_var 0)) (S.px_one (S.x_cmp (c_eqA G) (S.x_len G nb_len (S.pxab_one (S.x_rd 0))) (S.PX_b S.px_int))))))))
theorem sc_sounds_of : FnScope ["stock"] ["stock"] (defScope s_sounds_of) := scOk
theorem o_sounds_of (F : FunAt K mg "sounds_of" s_sounds_of ["stock"]) (nb_tuple : mg "tuple" = none) : Own P w K mg base "sounds_of" 1 ["stock"] (spP K 1 f_sounds_of) := by
  exact own_pure (k := 0) F sc_sounds_of (fun f cdv A outer s H E hr G => (S.SXSs.u (S.pxss_one (S.pxs_ret (S.x_tuple G nb_tuple (S.pxab_one (S.PX_b (S.PXN_px (S.n_lc ["stock", "sound", "marks"] 1 compOk G (S.i_seq G (S.x_var 0)) (fun X1 h1 => by have G := G.at h1; obtain ⟨_, _, _, _, _, rfl⟩ := h1; exact (S.g_tup G (S.pxgs_cons (S.g_name 1) (S.pxgs_cons (S.g_name 2) S.pxgs_nil)))) (fun X1 h1 => by have G := G.at h1; obtain ⟨_, _, _, _, _, rfl⟩ := h1; exact S.pxif_nil) (fun X1 h1 => by have G := G.at h1; obtain ⟨_, _, _, _, _, rfl⟩ := h1; exact (S.x_var 1)))))))))))
theorem sc_changes_sound : FnScope ["sounds", "thing", "old", "new"] ["sounds", "thing"] (defScope s_changes_sound) := scOk
theorem o_changes_sound (F : FunAt K mg "changes_sound" s_changes_sound ["sounds", "thing"]) (o_is_pair : Own P w K mg base "is_pair" 1 ["thing"] (spP K 1 f_is_pair)) : Own P w K mg base "changes_sound" 2 ["sounds", "thing"] (spP K 2 f_changes_sound) := by
  exact own_pure (k := 1) F sc_changes_sound (fun f cdv A outer s H E hr G => (S.SXSs.u (S.pxss_cons (S.pxs_if (S.pxt_not (S.pxt_val (S.x_own o_is_pair G hr (by rfl) (S.pxa_cons (S.x_var 1) S.pxa_nil) (lenS len0)))) (S.pxss_one (S.pxs_ret S.px_bl)) S.pxss_nil)
      (S.pxss_cons (S.pxs_asg (S.x_var 1) (S.g_tup G (S.pxgs_cons (S.g_name 2) (S.pxgs_cons (S.g_name 3) S.pxgs_nil))))
      (S.pxss_one (S.pxs_ret (S.px_and (S.x_cmpO 2 (c_inA G) (S.x_rd 0)) (S.px_and (S.px_or (S.x_cmpO 3 (c_inA G) (S.x_rd 0)) (S.px_one (S.x_cmpO 3 (c_eqA G) (S.PX_b (S.px_str [] (by decide +kernel)))))) (S.px_one (S.x_cmpO 2 (c_ne G) (S.x_rd 3)))))))))))
theorem sc_puts_one_in : FnScope ["sounds", "thing"] ["sounds", "thing"] (defScope s_puts_one_in) := scOk
theorem o_puts_one_in (F : FunAt K mg "puts_one_in" s_puts_one_in ["sounds", "thing"]) (o_is_pair : Own P w K mg base "is_pair" 1 ["thing"] (spP K 1 f_is_pair)) : Own P w K mg base "puts_one_in" 2 ["sounds", "thing"] (spP K 2 f_puts_one_in) := by
  exact own_pure (k := 1) F sc_puts_one_in (fun f cdv A outer s H E hr G => (S.SXSs.u (S.pxss_one (S.pxs_ret (S.px_and (S.x_own o_is_pair G hr (by rfl) (S.pxa_cons (S.x_var 1) S.pxa_nil) (lenS len0)) (S.px_and (S.x_cmp (c_eqA G) (S.x_ixO 1 G (S.PX_b S.px_int)) (S.PX_b (S.px_str [] (by decide +kernel)))) (S.px_one (S.x_cmp (c_inA G) (S.x_ixO 1 G (S.PX_b S.px_int)) (S.x_rd 0)))))))))
theorem sc_are_changes : FnScope ["sounds", "thing"] ["sounds", "thing"] (defScope s_are_changes) := scOk
theorem o_are_changes (F : FunAt K mg "are_changes" s_are_changes ["sounds", "thing"]) (nb_all : mg "all" = none) (nb_isinstance : mg "isinstance" = none) (nb_len : mg "len" = none) (nb_tuple : mg "tuple" = none) (isi_tuple : ∀ d : D, PySem.W.kitOne K (.type (tyD d)) (.type "tuple") = some (instD d "tuple")) (o_changes_sound : Own P w K mg base "changes_sound" 2 ["sounds", "thing"] (spP K 2 f_changes_sound)) (o_puts_one_in : Own P w K mg base "puts_one_in" 2 ["sounds", "thing"] (spP K 2 f_puts_one_in)) (o_rises : Own P w K mg base "rises" 1 ["things"] (spP K 1 f_rises)) : Own P w K mg base "are_changes" 3 ["sounds", "thing"] (spP K 2 f_are_changes) := by
  exact own_pure (k := 2) F sc_are_changes (fun f cdv A outer s H E hr G => (S.SXSs.u (S.pxss_cons (S.pxs_if (S.PXW_pt (S.pxw_or (S.pxt_not (S.pxt_val (S.px_isi (T := "tuple") rfl nb_isinstance rfl nb_tuple (by decide +kernel) isi_tuple G.K (S.x_var 1)))) (S.pxw_or1 (S.t_cmp (c_eqA G) (S.x_len G nb_len (S.pxab_one (S.x_rd 1))) (S.PX_b S.px_int))))) (S.pxss_one (S.pxs_ret S.px_bl)) S.pxss_nil)
      (S.pxss_cons (S.pxs_if (S.PXW_pt (S.pxw_and (S.t_cmp (c_eqA G) (S.x_len G nb_len (S.pxab_one (S.x_rd 1))) (S.PX_b S.px_int)) (S.pxw_and1 (S.pxt_val (S.x_own o_puts_one_in G hr (by rfl) (S.pxa_cons (S.x_var 0) (S.pxa_cons (S.x_ixO 1 G (S.PX_b S.px_int)) S.pxa_nil)) (lenS (lenS len0))))))) (S.pxss_one (S.pxs_ret S.px_bl)) S.pxss_nil)
      (S.pxss_one (S.pxs_ret (S.px_and (S.x_all G nb_all (S.pxab_one (S.PX_b (S.PXN_px (S.n_lc ["sounds", "thing", "change"] 2 compOk G (S.i_seq G (S.x_var 1)) (fun X1 h1 => by have G := G.at h1; obtain ⟨_, _, _, _, _, rfl⟩ := h1; exact (S.g_name 2)) (fun X1 h1 => by have G := G.at h1; obtain ⟨_, _, _, _, _, rfl⟩ := h1; exact S.pxif_nil) (fun X1 h1 => by have G := G.at h1; obtain ⟨_, _, _, _, _, rfl⟩ := h1; exact (S.x_own o_changes_sound G hr (by rfl) (S.pxa_cons (S.x_var 0) (S.pxa_cons (S.x_var 2) S.pxa_nil)) (lenS (lenS len0))))))))) (S.px_one (S.x_own o_rises G hr (by rfl) (S.pxa_cons (S.PXN_px (S.n_lc ["sounds", "thing", "old", "new"] 2 compOk G (S.i_seq G (S.x_var 1)) (fun X1 h1 => by have G := G.at h1; obtain ⟨_, _, _, _, _, rfl⟩ := h1; exact (S.g_tup G (S.pxgs_cons (S.g_name 2) (S.pxgs_cons (S.g_name 3) S.pxgs_nil)))) (fun X1 h1 => by have G := G.at h1; obtain ⟨_, _, _, _, _, rfl⟩ := h1; exact S.pxif_nil) (fun X1 h1 => by have G := G.at h1; obtain ⟨_, _, _, _, _, rfl⟩ := h1; exact (S.x_var 2)))) S.pxa_nil) (lenS len0))))))))))
theorem sc_are_signs : FnScope ["sounds", "thing"] ["sounds", "thing"] (defScope s_are_signs) := scOk
theorem o_are_signs (F : FunAt K mg "are_signs" s_are_signs ["sounds", "thing"]) (nb_all : mg "all" = none) (nb_isinstance : mg "isinstance" = none) (nb_len : mg "len" = none) (nb_tuple : mg "tuple" = none) (isi_tuple : ∀ d : D, PySem.W.kitOne K (.type (tyD d)) (.type "tuple") = some (instD d "tuple")) (gl_EDGE : Glb K mg "EDGE" (.str [35])) (o_rises : Own P w K mg base "rises" 1 ["things"] (spP K 1 f_rises)) : Own P w K mg base "are_signs" 2 ["sounds", "thing"] (spP K 2 f_are_signs) := by
  obtain ⟨v_EDGE, u_EDGE, gl_EDGE⟩ := gl_EDGE
  exact own_pure (k := 1) F sc_are_signs (fun f cdv A outer s H E hr G => (S.SXSs.u (S.pxss_cons (S.pxs_if (S.t_cmpO 1 c_is (S.PX_b S.px_non)) (S.pxss_one (S.pxs_ret S.px_bl)) S.pxss_nil)
      (S.pxss_cons (S.pxs_if (S.PXW_pt (S.pxw_or (S.pxt_not (S.pxt_val (S.px_isi (T := "tuple") rfl nb_isinstance rfl nb_tuple (by decide +kernel) isi_tuple G.K (S.x_var 1)))) (S.pxw_or1 (S.t_cmp (c_eqA G) (S.x_len G nb_len (S.pxab_one (S.x_rd 1))) (S.PX_b S.px_int))))) (S.pxss_one (S.pxs_ret S.px_bl)) S.pxss_nil)
      (S.pxss_one (S.pxs_ret (S.px_and (S.x_all G nb_all (S.pxab_one (S.PX_b (S.PXN_px (S.n_lc ["sounds", "thing", "sign"] 2 compOk G (S.i_seq G (S.x_var 1)) (fun X1 h1 => by have G := G.at h1; obtain ⟨_, _, _, _, _, rfl⟩ := h1; exact (S.g_name 2)) (fun X1 h1 => by have G := G.at h1; obtain ⟨_, _, _, _, _, rfl⟩ := h1; exact S.pxif_nil) (fun X1 h1 => by have G := G.at h1; obtain ⟨_, _, _, _, _, rfl⟩ := h1; exact (S.px_or (S.x_cmpO 2 (c_eqA G) (S.PX_b (S.px_glob (.str [35]) rfl gl_EDGE.1 gl_EDGE.2.1 (fun F => gl_EDGE.2.2 F)))) (S.px_one (S.x_cmpO 2 (c_inA G) (S.x_rd 0)))))))))) (S.px_one (S.x_own o_rises G hr (by rfl) (S.pxa_cons (S.x_var 1) S.pxa_nil) (lenS len0))))))))))
theorem sc_is_rule : FnScope ["stock", "thing", "way", "changes", "left", "right", "sounds"] ["stock", "thing"] (defScope s_is_rule) := scOk
theorem o_is_rule (F : FunAt K mg "is_rule" s_is_rule ["stock", "thing"]) (nb_isinstance : mg "isinstance" = none) (nb_len : mg "len" = none) (nb_tuple : mg "tuple" = none) (isi_tuple : ∀ d : D, PySem.W.kitOne K (.type (tyD d)) (.type "tuple") = some (instD d "tuple")) (gl_WAYS : Glb K mg "WAYS" (.tup [(.str [111, 110, 99, 101]), (.str [97, 108, 111, 110, 103])])) (o_are_changes : Own P w K mg base "are_changes" 3 ["sounds", "thing"] (spP K 2 f_are_changes)) (o_are_signs : Own P w K mg base "are_signs" 2 ["sounds", "thing"] (spP K 2 f_are_signs)) (o_sounds_of : Own P w K mg base "sounds_of" 1 ["stock"] (spP K 1 f_sounds_of)) : Own P w K mg base "is_rule" 4 ["stock", "thing"] (spP K 2 f_is_rule) := by
  obtain ⟨v_WAYS, u_WAYS, gl_WAYS⟩ := gl_WAYS
  exact own_pure (k := 3) F sc_is_rule (fun f cdv A outer s H E hr G => (S.SXSs.u (S.pxss_cons (S.pxs_if (S.PXW_pt (S.pxw_or (S.pxt_not (S.pxt_val (S.px_isi (T := "tuple") rfl nb_isinstance rfl nb_tuple (by decide +kernel) isi_tuple G.K (S.x_var 1)))) (S.pxw_or1 (S.t_cmp (c_ne G) (S.x_len G nb_len (S.pxab_one (S.x_rd 1))) (S.PX_b S.px_int))))) (S.pxss_one (S.pxs_ret S.px_bl)) S.pxss_nil)
      (S.pxss_cons (S.pxs_asg (S.x_var 1) (S.g_tup G (S.pxgs_cons (S.g_name 2) (S.pxgs_cons (S.g_name 3) (S.pxgs_cons (S.g_name 4) (S.pxgs_cons (S.g_name 5) S.pxgs_nil))))))
      (S.pxss_cons (S.s_set 6 (S.x_own o_sounds_of G hr (by rfl) (S.pxa_cons (S.x_var 0) S.pxa_nil) (lenS len0)))
      (S.pxss_one (S.pxs_ret (S.px_and (S.x_cmpO 2 (c_inA G) (S.PX_b (S.px_glob (.tup [(.str [111, 110, 99, 101]), (.str [97, 108, 111, 110, 103])]) rfl gl_WAYS.1 gl_WAYS.2.1 (fun F => gl_WAYS.2.2 F)))) (S.px_and (S.x_own o_are_changes G hr (by rfl) (S.pxa_cons (S.x_var 6) (S.pxa_cons (S.x_var 3) S.pxa_nil)) (lenS (lenS len0))) (S.px_and (S.x_own o_are_signs G hr (by rfl) (S.pxa_cons (S.x_var 6) (S.pxa_cons (S.x_var 4) S.pxa_nil)) (lenS (lenS len0))) (S.px_one (S.x_own o_are_signs G hr (by rfl) (S.pxa_cons (S.x_var 6) (S.pxa_cons (S.x_var 5) S.pxa_nil)) (lenS (lenS len0))))))))))))))
theorem sc_law_mixed : FnScope ["_law_cell"] ["_law_cell"] (defScope s_law_mixed) := scOk
theorem o_law_mixed (F : FunAt K mg "_law_mixed" s_law_mixed ["_law_cell"]) : Own P w K mg base "_law_mixed" 1 ["_law_cell"] (spP K 1 f_law_mixed) := by
  exact own_pure (k := 0) F sc_law_mixed (fun f cdv A outer s H E hr G => (S.SXSs.u (S.pxss_one (S.pxs_ret (S.x_bin b_mod (S.x_binO 0 b_mul (S.PX_b S.px_int)) (S.PX_b (S.x_bin b_pow S.px_int (S.PX_b S.px_int))))))))
theorem sc_law_pack : FnScope ["_law_script", "_law_k", "_law_found", "_law_at"] ["_law_script", "_law_k"] (defScope s_law_pack) := scOk
theorem o_law_pack (F : FunAt K mg "_law_pack" s_law_pack ["_law_script", "_law_k"]) (o_law_mixed : Own P w K mg base "_law_mixed" 1 ["_law_cell"] (spP K 1 f_law_mixed)) : Own P w K mg base "_law_pack" 2 ["_law_script", "_law_k"] (spN K 2 f_law_pack) := by
  exact own_new (k := 1) F sc_law_pack (fun f cdv A outer s H E hr G => (S.SXSs.u (S.pxss_cons (S.s_set 2 S.px_int)
      (S.pxss_cons (S.s_for G (S.i_seq G (S.PXN_px (S.pxn_lst (S.pxa_cons (S.x_binO 1 (b_add G) (S.PX_b S.px_int)) (S.pxa_cons (S.x_var 1) S.pxa_nil))))) (S.g_name 3) (S.pxss_one (S.s_set 2 (S.x_bin (b_add G) (S.x_binO 2 b_mul (S.PX_b (S.x_bin b_pow S.px_int (S.PX_b S.px_int)))) (S.PX_b (S.x_own o_law_mixed G hr (by rfl) (S.pxa_cons (S.x_ix G (S.x_bin (b_add G) (S.x_sl G (S.x_var 0) (S.pxp_some (S.x_var 3)) (S.pxp_some (S.x_binO 3 (b_add G) (S.PX_b S.px_int)))) (S.PX_b (S.PXN_px (S.pxn_lst (S.pxa_cons (S.x_bin (b_add G) (S.x_bin b_mul S.px_int (S.x_rd 3)) (S.PX_b S.px_int)) S.pxa_nil))))) (S.PX_b S.px_int)) S.pxa_nil) (lenS len0)))))))
      (S.pxss_one (S.pxs_retNew (S.pxn_lst (S.pxa_cons (S.x_var 2) S.pxa_nil))))))))
theorem sc_law_take : FnScope ["_law_pack_here", "_law_size", "_law_digit"] ["_law_pack_here", "_law_size"] (defScope s_law_take) := scOk
theorem o_law_take (F : FunAt K mg "_law_take" s_law_take ["_law_pack_here", "_law_size"]) (nb_divmod : mg "divmod" = none) : Own P w K mg base "_law_take" 1 ["_law_pack_here", "_law_size"] (spIO K 2 f_law_take) := by
  exact own_io (k := 0) F sc_law_take (fun f cdv A outer s H E a hr G => (S.SXSs.u (S.pxss_cons (S.pxs_asg (S.x_divmod G nb_divmod (S.pxab_cons (S.x_ixO 0 G (S.PX_b S.px_int)) (S.pxab_one (S.x_rd 1)))) (S.g_tup G (S.pxgs_cons (S.g_at 0 S.px_int) (S.pxgs_cons (S.g_name 2) S.pxgs_nil))))
      (S.pxss_one (S.pxs_ret (S.x_var 2))))))
theorem sc_law_drawn_sounds : FnScope ["_law_pack_here", "_law_letters", "_law_at", "_law_by"] ["_law_pack_here"] (defScope s_law_drawn_sounds) := scOk
theorem o_law_drawn_sounds (F : FunAt K mg "_law_drawn_sounds" s_law_drawn_sounds ["_law_pack_here"]) (nb_range : mg "range" = none) (nb_set : mg "set" = none) (nb_sorted : mg "sorted" = none) (o_law_take : Own P w K mg base "_law_take" 1 ["_law_pack_here", "_law_size"] (spIO K 2 f_law_take)) : Own P w K mg base "_law_drawn_sounds" 2 ["_law_pack_here"] (spIO K 1 f_law_drawn_sounds) := by
  exact own_io (k := 1) F sc_law_drawn_sounds (fun f cdv A outer s H E a hr G => (S.SXSs.u (S.pxss_cons (S.s_set 1 (S.px_str [97, 98, 99, 100, 101, 102, 103, 104, 105, 106, 107, 108, 109, 110, 111, 112, 113, 114, 115, 116, 117, 118, 119, 120, 121, 122] (by decide +kernel)))
      (S.pxss_cons (S.pxs_asg (S.px_tup (S.pxa_cons (S.x_io 0 o_law_take G hr (by rfl) (S.pxa_cons S.px_int S.pxa_nil) (lenIO (lenS len0))) (S.pxa_cons (S.x_bin (b_add G) S.px_int (S.PX_b (S.x_io 0 o_law_take G hr (by rfl) (S.pxa_cons S.px_int S.pxa_nil) (lenIO (lenS len0))))) S.pxa_nil))) (S.g_tup G (S.pxgs_cons (S.g_name 2) (S.pxgs_cons (S.g_name 3) S.pxgs_nil))))
      (S.pxss_one (S.pxs_ret (S.x_join G (S.px_str [] (by decide +kernel)) (S.PX_b (S.x_sortset G nb_sorted nb_set (S.PXN_px (S.n_lc ["_law_pack_here", "_law_letters", "_law_at", "_law_by", "_law_k"] 4 compOk G (S.i_rng1 nb_range (S.pxa_cons (S.x_bin (b_add G) S.px_int (S.PX_b (S.x_io 0 o_law_take G hr (by rfl) (S.pxa_cons S.px_int S.pxa_nil) (lenIO (lenS len0))))) S.pxa_nil) (lenS len0)) (fun X1 h1 => by have G := G.at h1; obtain ⟨_, _, _, _, _, rfl⟩ := h1; exact (S.g_name 4)) (fun X1 h1 => by have G := G.at h1; obtain ⟨_, _, _, _, _, rfl⟩ := h1; exact S.pxif_nil) (fun X1 h1 => by have G := G.at h1; obtain ⟨_, _, _, _, _, rfl⟩ := h1; exact (S.x_ixO 1 G (S.PX_b (S.x_bin b_mod (S.x_binO 2 (b_add G) (S.PX_b (S.x_binO 3 b_mul (S.x_rd 4)))) (S.PX_b S.px_int))))))))))))))))
theorem sc_law_stock : FnScope ["_law_pack_here", "_law_sounds_here", "_law_known", "_law_found", "_law_sound", "_law_number", "_law_marks"] ["_law_pack_here"] (defScope s_law_stock) := scOk
theorem o_law_stock (F : FunAt K mg "_law_stock" s_law_stock ["_law_pack_here"]) (nb_range : mg "range" = none) (nb_sorted : mg "sorted" = none) (nb_tuple : mg "tuple" = none) (o_law_drawn_sounds : Own P w K mg base "_law_drawn_sounds" 2 ["_law_pack_here"] (spIO K 1 f_law_drawn_sounds)) (o_law_take : Own P w K mg base "_law_take" 1 ["_law_pack_here", "_law_size"] (spIO K 2 f_law_take)) : Own P w K mg base "_law_stock" 3 ["_law_pack_here"] (spIO K 1 f_law_stock) := by
  exact own_io (k := 2) F sc_law_stock (fun f cdv A outer s H E a hr G => (S.SXSs.u (S.pxss_cons (S.s_set 1 (S.x_io 0 o_law_drawn_sounds G hr (by rfl) S.pxa_nil (lenIO len0)))
      (S.pxss_cons (S.s_set 2 (S.PXN_px (S.pxn_lst (S.pxa_cons (S.px_str [115, 116, 111, 112] (by decide +kernel)) (S.pxa_cons (S.px_str [115, 116, 111, 112, 115] (by decide +kernel)) (S.pxa_cons (S.px_str [115] (by decide +kernel)) (S.pxa_cons (S.px_str [111, 112, 101, 110] (by decide +kernel)) (S.pxa_cons (S.px_str [97, 98, 99, 100, 101, 102, 103, 104] (by decide +kernel)) S.pxa_nil))))))))
      (S.pxss_cons (S.s_own 3 (S.pxn_lst S.pxa_nil))
      (S.pxss_cons (S.s_for G (S.i_seq G (S.x_var 1)) (S.g_name 4) (S.pxss_cons (S.s_set 5 (S.x_io 0 o_law_take G hr (by rfl) (S.pxa_cons S.px_int S.pxa_nil) (lenIO (lenS len0))))
      (S.pxss_cons (S.s_set 6 (S.x_sorted G nb_sorted (S.pxab_one (S.PX_b (S.PXN_px (S.n_lc ["_law_pack_here", "_law_sounds_here", "_law_known", "_law_found", "_law_sound", "_law_number", "_law_marks", "_law_k"] 7 compOk G (S.i_rng1 nb_range (S.pxa_cons S.px_int S.pxa_nil) (lenS len0)) (fun X1 h1 => by have G := G.at h1; obtain ⟨_, _, _, _, _, rfl⟩ := h1; exact (S.g_name 7)) (fun X1 h1 => by have G := G.at h1; obtain ⟨_, _, _, _, _, rfl⟩ := h1; exact (S.pxif_one (S.t_cmp (c_eq G) (S.x_bin b_and (S.x_binO 5 b_shr (S.x_rd 7)) (S.PX_b S.px_int)) (S.PX_b S.px_int)))) (fun X1 h1 => by have G := G.at h1; obtain ⟨_, _, _, _, _, rfl⟩ := h1; exact (S.x_ixO 2 G (S.x_rd 7)))))))))
      (S.pxss_one (S.s_app 3 G (S.px_tup (S.pxa_cons (S.x_var 4) (S.pxa_cons (S.x_tuple G nb_tuple (S.pxab_one (S.PX_b (S.x_sl G (S.x_var 6) S.pxp_none (S.pxp_some S.px_int))))) S.pxa_nil))))))))
      (S.pxss_one (S.pxs_ret (S.x_tuple G nb_tuple (S.pxab_one (S.x_rd 3)))))))))))
theorem sc_law_sounds : FnScope ["_law_stock_here"] ["_law_stock_here"] (defScope s_law_sounds) := scOk
theorem o_law_sounds (F : FunAt K mg "_law_sounds" s_law_sounds ["_law_stock_here"]) : Own P w K mg base "_law_sounds" 1 ["_law_stock_here"] (spP K 1 f_law_sounds) := by
  exact own_pure (k := 0) F sc_law_sounds (fun f cdv A outer s H E hr G => (S.SXSs.u (S.pxss_one (S.pxs_ret (S.x_join G (S.px_str [] (by decide +kernel)) (S.PX_b (S.PXN_px (S.n_lc ["_law_stock_here", "_law_sound", "_law_marks"] 1 compOk G (S.i_seq G (S.x_var 0)) (fun X1 h1 => by have G := G.at h1; obtain ⟨_, _, _, _, _, rfl⟩ := h1; exact (S.g_tup G (S.pxgs_cons (S.g_name 1) (S.pxgs_cons (S.g_name 2) S.pxgs_nil)))) (fun X1 h1 => by have G := G.at h1; obtain ⟨_, _, _, _, _, rfl⟩ := h1; exact S.pxif_nil) (fun X1 h1 => by have G := G.at h1; obtain ⟨_, _, _, _, _, rfl⟩ := h1; exact (S.x_var 1))))))))))
theorem sc_law_signs : FnScope ["_law_pack_here", "_law_sounds_here", "_law_number", "_law_signs_here"] ["_law_pack_here", "_law_sounds_here"] (defScope s_law_signs) := scOk
theorem o_law_signs (F : FunAt K mg "_law_signs" s_law_signs ["_law_pack_here", "_law_sounds_here"]) (nb_len : mg "len" = none) (nb_range : mg "range" = none) (nb_tuple : mg "tuple" = none) (o_law_take : Own P w K mg base "_law_take" 1 ["_law_pack_here", "_law_size"] (spIO K 2 f_law_take)) : Own P w K mg base "_law_signs" 2 ["_law_pack_here", "_law_sounds_here"] (spIO K 2 f_law_signs) := by
  exact own_io (k := 1) F sc_law_signs (fun f cdv A outer s H E a hr G => (S.SXSs.u (S.pxss_cons (S.pxs_if (S.t_cmp (c_eq G) (S.x_io 0 o_law_take G hr (by rfl) (S.pxa_cons S.px_int S.pxa_nil) (lenIO (lenS len0))) (S.PX_b S.px_int)) (S.pxss_one (S.pxs_ret S.px_non)) S.pxss_nil)
      (S.pxss_cons (S.s_set 2 (S.x_bin (b_add G) S.px_int (S.PX_b (S.x_io 0 o_law_take G hr (by rfl) (S.pxa_cons (S.x_bin b_sub (S.x_bin b_shl S.px_int (S.PX_b (S.x_len G nb_len (S.pxab_one (S.x_rd 1))))) (S.PX_b S.px_int)) S.pxa_nil) (lenIO (lenS len0))))))
      (S.pxss_cons (S.s_set 3 (S.x_bin (b_add G) (S.px_str [35] (by decide +kernel)) (S.x_rd 1)))
      (S.pxss_one (S.pxs_ret (S.x_tuple G nb_tuple (S.pxab_one (S.PX_b (S.PXN_px (S.n_lc ["_law_pack_here", "_law_sounds_here", "_law_number", "_law_signs_here", "_law_k"] 4 compOk G (S.i_rng1 nb_range (S.pxa_cons (S.x_len G nb_len (S.pxab_one (S.x_rd 3))) S.pxa_nil) (lenS len0)) (fun X1 h1 => by have G := G.at h1; obtain ⟨_, _, _, _, _, rfl⟩ := h1; exact (S.g_name 4)) (fun X1 h1 => by have G := G.at h1; obtain ⟨_, _, _, _, _, rfl⟩ := h1; exact (S.pxif_one (S.t_cmp (c_eq G) (S.x_bin b_and (S.x_binO 2 b_shr (S.x_rd 4)) (S.PX_b S.px_int)) (S.PX_b S.px_int)))) (fun X1 h1 => by have G := G.at h1; obtain ⟨_, _, _, _, _, rfl⟩ := h1; exact (S.x_ixO 3 G (S.x_rd 4)))))))))))))))
theorem sc_law_changes : FnScope ["_law_pack_here", "_law_sounds_here", "_law_found", "_law_turn", "_law_one", "_law_others"] ["_law_pack_here", "_law_sounds_here"] (defScope s_law_changes) := scOk
theorem o_law_changes (F : FunAt K mg "_law_changes" s_law_changes ["_law_pack_here", "_law_sounds_here"]) (nb_len : mg "len" = none) (nb_list : mg "list" = none) (nb_range : mg "range" = none) (nb_sorted : mg "sorted" = none) (nb_tuple : mg "tuple" = none) (o_law_take : Own P w K mg base "_law_take" 1 ["_law_pack_here", "_law_size"] (spIO K 2 f_law_take)) : Own P w K mg base "_law_changes" 2 ["_law_pack_here", "_law_sounds_here"] (spIO K 2 f_law_changes) := by
  exact own_io (k := 1) F sc_law_changes (fun f cdv A outer s H E a hr G => (S.SXSs.u (S.pxss_cons (S.pxs_if (S.t_cmp (c_eq G) (S.x_io 0 o_law_take G hr (by rfl) (S.pxa_cons S.px_int S.pxa_nil) (lenIO (lenS len0))) (S.PX_b S.px_int)) (S.pxss_one (S.pxs_ret (S.px_tup (S.pxa_cons (S.px_tup (S.pxa_cons (S.px_str [] (by decide +kernel)) (S.pxa_cons (S.x_ixO 1 G (S.PX_b (S.x_io 0 o_law_take G hr (by rfl) (S.pxa_cons (S.x_len G nb_len (S.pxab_one (S.x_rd 1))) S.pxa_nil) (lenIO (lenS len0))))) S.pxa_nil))) S.pxa_nil)))) S.pxss_nil)
      (S.pxss_cons (S.s_own 2 S.pxn_dnew)
      (S.pxss_cons (S.s_for G (S.i_rng1 nb_range (S.pxa_cons (S.x_bin (b_add G) S.px_int (S.PX_b (S.x_io 0 o_law_take G hr (by rfl) (S.pxa_cons S.px_int S.pxa_nil) (lenIO (lenS len0))))) S.pxa_nil) (lenS len0)) (S.g_name 3) (S.pxss_cons (S.s_set 4 (S.x_ixO 1 G (S.PX_b (S.x_io 0 o_law_take G hr (by rfl) (S.pxa_cons (S.x_len G nb_len (S.pxab_one (S.x_rd 1))) S.pxa_nil) (lenIO (lenS len0))))))
      (S.pxss_cons (S.s_lc ["_law_pack_here", "_law_sounds_here", "_law_found", "_law_turn", "_law_one", "_law_others", "_law_sound"] 6 5 compOk G (S.i_seq G (S.x_bin (b_add G) (S.x_list G nb_list (S.pxab_one (S.x_rd 1))) (S.PX_b (S.PXN_px (S.pxn_lst (S.pxa_cons (S.px_str [] (by decide +kernel)) S.pxa_nil)))))) (fun X1 h1 => by have G := G.at h1; obtain ⟨_, _, _, _, _, rfl⟩ := h1; exact (S.g_name 6)) (fun X1 h1 => by have G := G.at h1; obtain ⟨_, _, _, _, _, rfl⟩ := h1; exact (S.pxif_one (S.t_cmpO 6 (c_ne G) (S.x_rd 4)))) (fun X1 h1 => by have G := G.at h1; obtain ⟨_, _, _, _, _, rfl⟩ := h1; exact (S.x_var 6)))
      (S.pxss_one (S.s_dput 2 G (S.x_var 4) (S.x_ixO 5 G (S.PX_b (S.x_io 0 o_law_take G hr (by rfl) (S.pxa_cons (S.x_len G nb_len (S.pxab_one (S.x_rd 5))) S.pxa_nil) (lenIO (lenS len0))))))))))
      (S.pxss_one (S.pxs_ret (S.x_tuple G nb_tuple (S.pxab_one (S.PX_b (S.PXN_px (S.n_lc ["_law_pack_here", "_law_sounds_here", "_law_found", "_law_turn", "%4", "_law_others", "_law_one"] 6 compOk G (S.i_seq G (S.x_sorted G nb_sorted (S.pxab_one (S.x_rd 2)))) (fun X1 h1 => by have G := G.at h1; obtain ⟨_, _, _, _, _, rfl⟩ := h1; exact (S.g_name 6)) (fun X1 h1 => by have G := G.at h1; obtain ⟨_, _, _, _, _, rfl⟩ := h1; exact S.pxif_nil) (fun X1 h1 => by have G := G.at h1; obtain ⟨_, _, _, _, _, rfl⟩ := h1; exact (S.px_tup (S.pxa_cons (S.x_var 6) (S.pxa_cons (S.x_dgetO 2 G (S.x_rd 6)) S.pxa_nil))))))))))))))))
theorem sc_law_rule : FnScope ["_law_pack_here", "_law_sounds_here", "_law_how", "_law_changes_here"] ["_law_pack_here", "_law_sounds_here"] (defScope s_law_rule) := scOk
theorem o_law_rule (F : FunAt K mg "_law_rule" s_law_rule ["_law_pack_here", "_law_sounds_here"]) (o_law_changes : Own P w K mg base "_law_changes" 2 ["_law_pack_here", "_law_sounds_here"] (spIO K 2 f_law_changes)) (o_law_signs : Own P w K mg base "_law_signs" 2 ["_law_pack_here", "_law_sounds_here"] (spIO K 2 f_law_signs)) (o_law_take : Own P w K mg base "_law_take" 1 ["_law_pack_here", "_law_size"] (spIO K 2 f_law_take)) : Own P w K mg base "_law_rule" 3 ["_law_pack_here", "_law_sounds_here"] (spIO K 2 f_law_rule) := by
  exact own_io (k := 2) F sc_law_rule (fun f cdv A outer s H E a hr G => (S.SXSs.u (S.pxss_cons (S.s_set 2 (S.x_ix G (S.PXN_px (S.pxn_lst (S.pxa_cons (S.px_str [111, 110, 99, 101] (by decide +kernel)) (S.pxa_cons (S.px_str [97, 108, 111, 110, 103] (by decide +kernel)) S.pxa_nil)))) (S.PX_b (S.x_io 0 o_law_take G hr (by rfl) (S.pxa_cons S.px_int S.pxa_nil) (lenIO (lenS len0))))))
      (S.pxss_cons (S.s_set 3 (S.x_io 0 o_law_changes G hr (by rfl) (S.pxa_cons (S.x_var 1) S.pxa_nil) (lenIO (lenS len0))))
      (S.pxss_one (S.pxs_ret (S.px_tup (S.pxa_cons (S.x_var 2) (S.pxa_cons (S.x_var 3) (S.pxa_cons (S.x_io 0 o_law_signs G hr (by rfl) (S.pxa_cons (S.x_var 1) S.pxa_nil) (lenIO (lenS len0))) (S.pxa_cons (S.x_io 0 o_law_signs G hr (by rfl) (S.pxa_cons (S.x_var 1) S.pxa_nil) (lenIO (lenS len0))) S.pxa_nil)))))))))))
theorem sc_law_is : FnScope ["_law_found", "_law_due"] ["_law_found", "_law_due"] (defScope s_law_is) := scOk
theorem o_law_is (F : FunAt K mg "_law_is" s_law_is ["_law_found", "_law_due"]) (nb_bool : mg "bool" = none) (nb_isinstance : mg "isinstance" = none) (isi_bool : ∀ d : D, PySem.W.kitOne K (.type (tyD d)) (.type "bool") = some (instD d "bool")) : Own P w K mg base "_law_is" 1 ["_law_found", "_law_due"] (spP K 2 f_law_is) := by
  exact own_pure (k := 0) F sc_law_is (fun f cdv A outer s H E hr G => (S.SXSs.u (S.pxss_one (S.pxs_ret (S.px_and (S.px_isi (T := "bool") rfl nb_isinstance rfl nb_bool (by decide +kernel) isi_bool G.K (S.x_var 0)) (S.px_one (S.x_cmpO 0 (c_eq G) (S.x_rd 1))))))))
theorem sc_law_out : FnScope ["_law_sounds_here"] ["_law_sounds_here"] (defScope s_law_out) := scOk
theorem o_law_out (F : FunAt K mg "_law_out" s_law_out ["_law_sounds_here"]) : Own P w K mg base "_law_out" 1 ["_law_sounds_here"] (spP K 1 f_law_out) := by
  exact own_pure (k := 0) F sc_law_out (fun f cdv A outer s H E hr G => (S.SXSs.u (S.pxss_one (S.pxs_ret (S.x_ix G (S.PXN_px (S.n_lc ["_law_sounds_here", "_law_letter"] 1 compOk G (S.i_seq G (S.px_str [113, 118, 109, 101, 104, 97, 98, 99, 100, 102, 103] (by decide +kernel))) (fun X1 h1 => by have G := G.at h1; obtain ⟨_, _, _, _, _, rfl⟩ := h1; exact (S.g_name 1)) (fun X1 h1 => by have G := G.at h1; obtain ⟨_, _, _, _, _, rfl⟩ := h1; exact (S.pxif_one (S.t_cmpO 1 (c_notIn G) (S.x_rd 0)))) (fun X1 h1 => by have G := G.at h1; obtain ⟨_, _, _, _, _, rfl⟩ := h1; exact (S.x_var 1)))) (S.PX_b S.px_int))))))
theorem sc_law_no_changes : FnScope ["_law_sounds_here", "_law_one", "_law_out_here", "_law_found", "_law_odd", "_law_two"] ["_law_sounds_here"] (defScope s_law_no_changes) := scOk
theorem o_law_no_changes (F : FunAt K mg "_law_no_changes" s_law_no_changes ["_law_sounds_here"]) (nb_len : mg "len" = none) (o_law_out : Own P w K mg base "_law_out" 1 ["_law_sounds_here"] (spP K 1 f_law_out)) : Own P w K mg base "_law_no_changes" 2 ["_law_sounds_here"] (spP K 1 f_law_no_changes) := by
  exact own_pure (k := 1) F sc_law_no_changes (fun f cdv A outer s H E hr G => (S.SXSs.u (S.pxss_cons (S.s_set 1 (S.x_ixO 0 G (S.PX_b S.px_int)))
      (S.pxss_cons (S.s_set 2 (S.x_own o_law_out G hr (by rfl) (S.pxa_cons (S.x_var 0) S.pxa_nil) (lenS len0)))
      (S.pxss_cons (S.s_set 3 (S.PXN_px (S.n_lstL (S.pxl_cons (S.px_tup S.pxa_nil) (S.pxl_cons S.px_non (S.pxl_cons (S.px_str [97] (by decide +kernel)) (S.pxl_cons (S.PXN_px (S.pxn_lst (S.pxa_cons (S.px_tup (S.pxa_cons (S.x_var 1) (S.pxa_cons (S.px_str [] (by decide +kernel)) S.pxa_nil))) S.pxa_nil))) (S.pxl_cons (S.px_tup (S.pxa_cons (S.px_tup (S.pxa_cons (S.x_var 1) (S.pxa_cons (S.x_var 1) S.pxa_nil))) S.pxa_nil)) (S.pxl_cons (S.px_tup (S.pxa_cons (S.px_tup (S.pxa_cons (S.x_var 1) S.pxa_nil)) S.pxa_nil)) (S.pxl_cons (S.px_tup (S.pxa_cons (S.px_tup (S.pxa_cons (S.x_var 1) (S.pxa_cons (S.px_str [] (by decide +kernel)) (S.pxa_cons (S.px_str [] (by decide +kernel)) S.pxa_nil)))) S.pxa_nil)) (S.pxl_cons (S.px_tup (S.pxa_cons (S.PXN_px (S.pxn_lst (S.pxa_cons (S.x_var 1) (S.pxa_cons (S.px_str [] (by decide +kernel)) S.pxa_nil)))) S.pxa_nil)) S.pxl_nil)))))))))))
      (S.pxss_cons (S.s_set 3 (S.x_binO 3 (b_add G) (S.PX_b (S.PXN_px (S.pxn_lst (S.pxa_cons (S.px_tup (S.pxa_cons (S.px_tup (S.pxa_cons (S.x_var 1) (S.pxa_cons (S.px_str [35] (by decide +kernel)) S.pxa_nil))) S.pxa_nil)) (S.pxa_cons (S.px_tup (S.pxa_cons (S.px_tup (S.pxa_cons (S.px_str [35] (by decide +kernel)) (S.pxa_cons (S.x_var 1) S.pxa_nil))) S.pxa_nil)) S.pxa_nil)))))))
      (S.pxss_cons (S.s_set 3 (S.x_binO 3 (b_add G) (S.PX_b (S.PXN_px (S.n_lstL (S.pxl_cons (S.px_tup (S.pxa_cons (S.px_tup (S.pxa_cons (S.x_var 1) (S.pxa_cons (S.x_var 2) S.pxa_nil))) S.pxa_nil)) (S.pxl_cons (S.px_tup (S.pxa_cons (S.px_tup (S.pxa_cons (S.x_var 2) (S.pxa_cons (S.x_var 1) S.pxa_nil))) S.pxa_nil)) (S.pxl_cons (S.px_tup (S.pxa_cons (S.px_tup (S.pxa_cons (S.x_var 2) (S.pxa_cons (S.px_str [] (by decide +kernel)) S.pxa_nil))) S.pxa_nil)) (S.pxl_cons (S.px_tup (S.pxa_cons (S.px_tup (S.pxa_cons (S.px_str [] (by decide +kernel)) (S.pxa_cons (S.x_var 2) S.pxa_nil))) S.pxa_nil)) (S.pxl_cons (S.px_tup (S.pxa_cons (S.px_tup (S.pxa_cons (S.px_str [] (by decide +kernel)) (S.pxa_cons (S.px_str [] (by decide +kernel)) S.pxa_nil))) S.pxa_nil)) (S.pxl_cons (S.px_tup (S.pxa_cons (S.px_tup (S.pxa_cons (S.px_str [] (by decide +kernel)) (S.pxa_cons (S.px_str [35] (by decide +kernel)) S.pxa_nil))) S.pxa_nil)) S.pxl_nil)))))))))))
      (S.pxss_cons (S.s_set 3 (S.x_binO 3 (b_add G) (S.PX_b (S.PXN_px (S.pxn_lst (S.pxa_cons (S.px_tup (S.pxa_cons (S.px_tup (S.pxa_cons (S.x_var 1) (S.pxa_cons S.px_non S.pxa_nil))) S.pxa_nil)) (S.pxa_cons (S.px_tup (S.pxa_cons S.px_non S.pxa_nil)) S.pxa_nil)))))))
      (S.pxss_cons (S.s_set 3 (S.x_binO 3 (b_add G) (S.PX_b (S.PXN_px (S.pxn_lst (S.pxa_cons (S.px_tup (S.pxa_cons (S.px_tup (S.pxa_cons (S.x_var 1) (S.pxa_cons S.px_int S.pxa_nil))) S.pxa_nil)) (S.pxa_cons (S.px_tup (S.pxa_cons (S.px_tup (S.pxa_cons S.px_int (S.pxa_cons (S.x_var 1) S.pxa_nil))) S.pxa_nil)) (S.pxa_cons (S.px_tup (S.pxa_cons (S.px_tup (S.pxa_cons (S.x_var 1) (S.pxa_cons (S.px_str [] (by decide +kernel)) S.pxa_nil))) (S.pxa_cons (S.px_tup (S.pxa_cons (S.x_var 1) (S.pxa_cons (S.px_str [] (by decide +kernel)) S.pxa_nil))) S.pxa_nil))) (S.pxa_cons (S.px_tup (S.pxa_cons (S.px_tup (S.pxa_cons (S.px_str [] (by decide +kernel)) (S.pxa_cons (S.x_var 1) S.pxa_nil))) (S.pxa_cons (S.px_tup (S.pxa_cons (S.x_var 1) (S.pxa_cons (S.px_str [] (by decide +kernel)) S.pxa_nil))) S.pxa_nil))) (S.pxa_cons (S.px_tup (S.pxa_cons (S.px_tup (S.pxa_cons (S.x_var 1) (S.pxa_cons (S.px_str [] (by decide +kernel)) S.pxa_nil))) (S.pxa_cons (S.px_tup (S.pxa_cons (S.px_str [] (by decide +kernel)) (S.pxa_cons (S.x_var 1) S.pxa_nil))) S.pxa_nil))) S.pxa_nil))))))))))
      (S.pxss_cons (S.s_set 3 (S.x_binO 3 (b_add G) (S.PX_b (S.PXN_px (S.pxn_lst (S.pxa_cons (S.px_tup (S.pxa_cons (S.px_tup S.pxa_nil) S.pxa_nil)) S.pxa_nil))))))
      (S.pxss_cons (S.s_set 3 (S.x_binO 3 (b_add G) (S.PX_b (S.PXN_px (S.pxn_lst (S.pxa_cons (S.px_tup (S.pxa_cons (S.px_tup (S.pxa_cons (S.x_binO 1 (b_add G) (S.x_rd 1)) (S.pxa_cons (S.px_str [] (by decide +kernel)) S.pxa_nil))) S.pxa_nil)) (S.pxa_cons (S.px_tup (S.pxa_cons (S.px_tup (S.pxa_cons (S.x_var 1) (S.pxa_cons (S.x_binO 1 (b_add G) (S.x_rd 1)) S.pxa_nil))) S.pxa_nil)) (S.pxa_cons (S.px_tup (S.pxa_cons (S.px_tup (S.pxa_cons (S.x_var 1) (S.pxa_cons (S.px_tup (S.pxa_cons (S.px_str [] (by decide +kernel)) S.pxa_nil)) S.pxa_nil))) S.pxa_nil)) (S.pxa_cons (S.px_tup (S.pxa_cons (S.px_tup (S.pxa_cons (S.x_upper (S.x_var 1)) (S.pxa_cons (S.px_str [] (by decide +kernel)) S.pxa_nil))) S.pxa_nil)) (S.pxa_cons (S.px_tup (S.pxa_cons (S.px_tup (S.pxa_cons S.px_bl (S.pxa_cons (S.x_var 1) S.pxa_nil))) S.pxa_nil)) S.pxa_nil))))))))))
      (S.pxss_cons (S.s_set 3 (S.x_binO 3 (b_add G) (S.PX_b (S.PXN_px (S.pxn_lst (S.pxa_cons (S.px_tup (S.pxa_cons (S.px_tup (S.pxa_cons S.px_non (S.pxa_cons (S.x_var 1) S.pxa_nil))) S.pxa_nil)) S.pxa_nil))))))
      (S.pxss_cons (S.s_for G (S.i_seq G (S.PXN_px (S.pxn_lst (S.pxa_cons (S.PXN_px (S.pxn_lst (S.pxa_cons (S.x_var 1) S.pxa_nil))) (S.pxa_cons (S.PXN_px S.pxn_dnew) (S.pxa_cons (S.px_tup (S.pxa_cons (S.x_var 1) S.pxa_nil)) (S.pxa_cons (S.PXN_px (S.pxn_lst S.pxa_nil)) S.pxa_nil))))))) (S.g_name 4) (S.pxss_one (S.s_set 3 (S.x_binO 3 (b_add G) (S.PX_b (S.PXN_px (S.pxn_lst (S.pxa_cons (S.px_tup (S.pxa_cons (S.px_tup (S.pxa_cons (S.x_var 4) (S.pxa_cons (S.px_str [] (by decide +kernel)) S.pxa_nil))) S.pxa_nil)) (S.pxa_cons (S.px_tup (S.pxa_cons (S.px_tup (S.pxa_cons (S.x_var 1) (S.pxa_cons (S.x_var 4) S.pxa_nil))) S.pxa_nil)) (S.pxa_cons (S.px_tup (S.pxa_cons (S.px_tup (S.pxa_cons (S.px_str [] (by decide +kernel)) (S.pxa_cons (S.x_var 4) S.pxa_nil))) S.pxa_nil)) S.pxa_nil))))))))))
      (S.pxss_cons (S.pxs_if (S.t_cmp c_gt (S.x_len G nb_len (S.pxab_one (S.x_rd 0))) (S.PX_b S.px_int)) (S.pxss_cons (S.s_set 5 (S.x_ixO 0 G (S.PX_b S.px_int)))
      (S.pxss_cons (S.s_set 3 (S.x_binO 3 (b_add G) (S.PX_b (S.PXN_px (S.pxn_lst (S.pxa_cons (S.px_tup (S.pxa_cons (S.px_tup (S.pxa_cons (S.x_binO 1 (b_add G) (S.x_rd 5)) (S.pxa_cons (S.px_str [] (by decide +kernel)) S.pxa_nil))) S.pxa_nil)) (S.pxa_cons (S.px_tup (S.pxa_cons (S.px_tup (S.pxa_cons (S.x_var 5) (S.pxa_cons (S.x_binO 1 (b_add G) (S.x_rd 5)) S.pxa_nil))) S.pxa_nil)) (S.pxa_cons (S.px_tup (S.pxa_cons (S.px_tup (S.pxa_cons (S.px_str [] (by decide +kernel)) (S.pxa_cons (S.x_binO 1 (b_add G) (S.x_rd 5)) S.pxa_nil))) S.pxa_nil)) (S.pxa_cons (S.px_tup (S.pxa_cons (S.px_tup (S.pxa_cons (S.x_var 1) (S.pxa_cons (S.x_slA G (S.x_var 0) (S.pxp_some (S.x_neg S.px_int)) S.pxp_none) S.pxa_nil))) S.pxa_nil)) S.pxa_nil)))))))))
      (S.pxss_cons (S.s_set 3 (S.x_binO 3 (b_add G) (S.PX_b (S.PXN_px (S.pxn_lst (S.pxa_cons (S.px_tup (S.pxa_cons (S.px_tup (S.pxa_cons (S.x_var 5) (S.pxa_cons (S.px_str [] (by decide +kernel)) S.pxa_nil))) (S.pxa_cons (S.px_tup (S.pxa_cons (S.x_var 1) (S.pxa_cons (S.px_str [] (by decide +kernel)) S.pxa_nil))) S.pxa_nil))) (S.pxa_cons (S.px_tup (S.pxa_cons (S.px_tup (S.pxa_cons (S.x_var 1) (S.pxa_cons (S.x_var 5) S.pxa_nil))) (S.pxa_cons (S.px_tup (S.pxa_cons (S.x_var 1) (S.pxa_cons (S.px_str [] (by decide +kernel)) S.pxa_nil))) S.pxa_nil))) (S.pxa_cons (S.px_tup (S.pxa_cons (S.px_tup (S.pxa_cons (S.px_str [] (by decide +kernel)) (S.pxa_cons (S.x_var 1) S.pxa_nil))) (S.pxa_cons (S.px_tup (S.pxa_cons (S.px_str [] (by decide +kernel)) (S.pxa_cons (S.x_var 5) S.pxa_nil))) S.pxa_nil))) S.pxa_nil))))))))
      (S.pxss_one (S.s_set 3 (S.x_binO 3 (b_add G) (S.PX_b (S.PXN_px (S.pxn_lst (S.pxa_cons (S.px_tup (S.pxa_cons (S.px_tup (S.pxa_cons (S.x_var 1) (S.pxa_cons (S.x_var 5) S.pxa_nil))) (S.pxa_cons (S.px_tup (S.pxa_cons (S.x_var 5) (S.pxa_cons (S.x_var 5) S.pxa_nil))) S.pxa_nil))) S.pxa_nil)))))))))) S.pxss_nil)
      (S.pxss_one (S.pxs_ret (S.x_var 3)))))))))))))))))
theorem sc_law_no_signs : FnScope ["_law_sounds_here", "_law_one", "_law_out_here", "_law_found"] ["_law_sounds_here"] (defScope s_law_no_signs) := scOk
theorem o_law_no_signs (F : FunAt K mg "_law_no_signs" s_law_no_signs ["_law_sounds_here"]) (nb_len : mg "len" = none) (o_law_out : Own P w K mg base "_law_out" 1 ["_law_sounds_here"] (spP K 1 f_law_out)) : Own P w K mg base "_law_no_signs" 2 ["_law_sounds_here"] (spP K 1 f_law_no_signs) := by
  exact own_pure (k := 1) F sc_law_no_signs (fun f cdv A outer s H E hr G => (S.SXSs.u (S.pxss_cons (S.s_set 1 (S.x_ixO 0 G (S.PX_b S.px_int)))
      (S.pxss_cons (S.s_set 2 (S.x_own o_law_out G hr (by rfl) (S.pxa_cons (S.x_var 0) S.pxa_nil) (lenS len0)))
      (S.pxss_cons (S.s_set 3 (S.PXN_px (S.n_lstL (S.pxl_cons (S.px_tup S.pxa_nil) (S.pxl_cons (S.px_str [] (by decide +kernel)) (S.pxl_cons (S.x_var 1) (S.pxl_cons (S.px_str [35] (by decide +kernel)) (S.pxl_cons (S.PXN_px (S.pxn_lst (S.pxa_cons (S.x_var 1) S.pxa_nil))) (S.pxl_cons (S.PXN_px (S.pxn_lst S.pxa_nil)) (S.pxl_cons (S.px_tup (S.pxa_cons (S.x_var 1) (S.pxa_cons (S.x_var 1) S.pxa_nil))) (S.pxl_cons (S.px_tup (S.pxa_cons (S.x_var 1) (S.pxa_cons (S.px_str [35] (by decide +kernel)) S.pxa_nil))) (S.pxl_cons (S.px_tup (S.pxa_cons (S.px_str [35] (by decide +kernel)) (S.pxa_cons (S.px_str [35] (by decide +kernel)) S.pxa_nil))) (S.pxl_cons (S.px_tup (S.pxa_cons (S.x_var 2) S.pxa_nil)) (S.pxl_cons (S.px_tup (S.pxa_cons S.px_non S.pxa_nil)) (S.pxl_cons (S.px_tup (S.pxa_cons S.px_int S.pxa_nil)) (S.pxl_cons (S.px_tup (S.pxa_cons (S.px_str [] (by decide +kernel)) S.pxa_nil)) S.pxl_nil))))))))))))))))
      (S.pxss_cons (S.s_set 3 (S.x_binO 3 (b_add G) (S.PX_b (S.PXN_px (S.pxn_lst (S.pxa_cons (S.px_tup (S.pxa_cons S.px_bl S.pxa_nil)) (S.pxa_cons (S.PXN_px S.pxn_dnew) S.pxa_nil)))))))
      (S.pxss_cons (S.pxs_if (S.t_cmp c_gt (S.x_len G nb_len (S.pxab_one (S.x_rd 0))) (S.PX_b S.px_int)) (S.pxss_one (S.s_set 3 (S.x_binO 3 (b_add G) (S.PX_b (S.PXN_px (S.pxn_lst (S.pxa_cons (S.px_tup (S.pxa_cons (S.x_ixO 0 G (S.PX_b S.px_int)) (S.pxa_cons (S.x_var 1) S.pxa_nil))) (S.pxa_cons (S.px_tup (S.pxa_cons (S.x_ixO 0 G (S.PX_b S.px_int)) (S.pxa_cons (S.px_str [35] (by decide +kernel)) S.pxa_nil))) (S.pxa_cons (S.px_tup (S.pxa_cons (S.x_binO 1 (b_add G) (S.PX_b (S.x_ixO 0 G (S.PX_b S.px_int)))) S.pxa_nil)) S.pxa_nil))))))))) S.pxss_nil)
      (S.pxss_one (S.pxs_ret (S.x_binO 3 (b_add G) (S.PX_b (S.PXN_px (S.n_lstL (S.pxl_cons (S.px_tup (S.pxa_cons (S.px_tup (S.pxa_cons (S.x_var 1) S.pxa_nil)) S.pxa_nil)) (S.pxl_cons (S.px_tup (S.pxa_cons (S.PXN_px (S.pxn_lst (S.pxa_cons (S.x_var 1) S.pxa_nil))) S.pxa_nil)) (S.pxl_cons S.px_int (S.pxl_cons S.px_bl (S.pxl_cons (S.px_tup (S.pxa_cons (S.x_upper (S.x_var 1)) S.pxa_nil)) (S.pxl_cons (S.px_tup (S.pxa_cons (S.px_str [32] (by decide +kernel)) S.pxa_nil)) S.pxl_nil)))))))))))))))))))
theorem sc_law_no_rules : FnScope ["_law_rule_here", "_law_sounds_here", "_law_how", "_law_changes_here", "_law_first", "_law_second", "_law_found", "_law_odd"] ["_law_rule_here", "_law_sounds_here"] (defScope s_law_no_rules) := scOk
theorem o_law_no_rules (F : FunAt K mg "_law_no_rules" s_law_no_rules ["_law_rule_here", "_law_sounds_here"]) (nb_list : mg "list" = none) (o_law_no_changes : Own P w K mg base "_law_no_changes" 2 ["_law_sounds_here"] (spP K 1 f_law_no_changes)) (o_law_no_signs : Own P w K mg base "_law_no_signs" 2 ["_law_sounds_here"] (spP K 1 f_law_no_signs)) : Own P w K mg base "_law_no_rules" 3 ["_law_rule_here", "_law_sounds_here"] (spP K 2 f_law_no_rules) := by
  exact own_pure (k := 2) F sc_law_no_rules (fun f cdv A outer s H E hr G => (S.SXSs.u (S.pxss_cons (S.pxs_asg (S.x_var 0) (S.g_tup G (S.pxgs_cons (S.g_name 2) (S.pxgs_cons (S.g_name 3) (S.pxgs_cons (S.g_name 4) (S.pxgs_cons (S.g_name 5) S.pxgs_nil))))))
      (S.pxss_cons (S.s_own 6 (S.n_lstL (S.pxl_cons S.px_non (S.pxl_cons S.px_int (S.pxl_cons (S.px_str [111, 110, 99, 101] (by decide +kernel)) (S.pxl_cons (S.px_tup S.pxa_nil) (S.pxl_cons (S.PXN_px S.pxn_dnew) (S.pxl_cons (S.x_list G nb_list (S.pxab_one (S.x_rd 0))) (S.pxl_cons (S.x_slA G (S.x_var 0) S.pxp_none (S.pxp_some S.px_int)) (S.pxl_cons (S.x_binO 0 (b_add G) (S.PX_b (S.px_tup (S.pxa_cons S.px_non S.pxa_nil)))) (S.pxl_cons (S.px_tup (S.pxa_cons (S.x_var 0) S.pxa_nil)) (S.pxl_cons (S.x_slA G (S.x_var 0) (S.pxp_some S.px_int) S.pxp_none) (S.pxl_cons (S.x_revT G (S.x_var 0)) S.pxl_nil)))))))))))))
      (S.pxss_cons (S.s_for G (S.i_seq G (S.PXN_px (S.n_lstL (S.pxl_cons (S.px_str [] (by decide +kernel)) (S.pxl_cons (S.px_str [79, 110, 99, 101] (by decide +kernel)) (S.pxl_cons (S.px_str [98, 111, 116, 104] (by decide +kernel)) (S.pxl_cons (S.px_str [108, 101, 102, 116] (by decide +kernel)) (S.pxl_cons S.px_non (S.pxl_cons S.px_int (S.pxl_cons S.px_bl (S.pxl_cons (S.px_tup (S.pxa_cons (S.px_str [111, 110, 99, 101] (by decide +kernel)) S.pxa_nil)) (S.pxl_cons (S.PXN_px (S.pxn_lst (S.pxa_cons (S.px_str [111, 110, 99, 101] (by decide +kernel)) S.pxa_nil))) (S.pxl_cons (S.PXN_px S.pxn_dnew) (S.pxl_cons (S.PXN_px (S.pxn_lst (S.pxa_cons (S.PXN_px S.pxn_dnew) S.pxa_nil))) S.pxl_nil)))))))))))))) (S.g_name 7) (S.pxss_one (S.s_app 6 G (S.px_tup (S.pxa_cons (S.x_var 7) (S.pxa_cons (S.x_var 3) (S.pxa_cons (S.x_var 4) (S.pxa_cons (S.x_var 5) S.pxa_nil))))))))
      (S.pxss_cons (S.s_for G (S.i_seq G (S.x_own o_law_no_changes G hr (by rfl) (S.pxa_cons (S.x_var 1) S.pxa_nil) (lenS len0))) (S.g_name 7) (S.pxss_one (S.s_app 6 G (S.px_tup (S.pxa_cons (S.x_var 2) (S.pxa_cons (S.x_var 7) (S.pxa_cons (S.x_var 4) (S.pxa_cons (S.x_var 5) S.pxa_nil))))))))
      (S.pxss_cons (S.s_for G (S.i_seq G (S.x_own o_law_no_signs G hr (by rfl) (S.pxa_cons (S.x_var 1) S.pxa_nil) (lenS len0))) (S.g_name 7) (S.pxss_one (S.s_own 6 (S.n_cat (S.x_var 6) (S.PX_b (S.PXN_px (S.pxn_lst (S.pxa_cons (S.px_tup (S.pxa_cons (S.x_var 2) (S.pxa_cons (S.x_var 3) (S.pxa_cons (S.x_var 7) (S.pxa_cons (S.x_var 5) S.pxa_nil))))) (S.pxa_cons (S.px_tup (S.pxa_cons (S.x_var 2) (S.pxa_cons (S.x_var 3) (S.pxa_cons (S.x_var 4) (S.pxa_cons (S.x_var 7) S.pxa_nil))))) S.pxa_nil)))))))))
      (S.pxss_one (S.pxs_ret (S.x_var 6))))))))))
theorem sc_law : FnScope ["_law_script", "_law_k", "_law_pack_here", "_law_stock_here", "_law_sounds_here", "_law_rules"] ["_law_script"] (defScope s_law) := scOk
theorem fn_law {f : Addr} {fd : FuncData} (F : Fun K "law" "law" s_law f fd) (nb_all : mg "all" = none) (nb_len : mg "len" = none) (nb_max : mg "max" = none) (nb_min : mg "min" = none) (nb_range : mg "range" = none) (nb_tuple : mg "tuple" = none) (o_law_is : Own P w K mg base "_law_is" 1 ["_law_found", "_law_due"] (spP K 2 f_law_is)) (o_law_no_rules : Own P w K mg base "_law_no_rules" 3 ["_law_rule_here", "_law_sounds_here"] (spP K 2 f_law_no_rules)) (o_law_pack : Own P w K mg base "_law_pack" 2 ["_law_script", "_law_k"] (spN K 2 f_law_pack)) (o_law_rule : Own P w K mg base "_law_rule" 3 ["_law_pack_here", "_law_sounds_here"] (spIO K 2 f_law_rule)) (o_law_sounds : Own P w K mg base "_law_sounds" 1 ["_law_stock_here"] (spP K 1 f_law_sounds)) (o_law_stock : Own P w K mg base "_law_stock" 3 ["_law_pack_here"] (spIO K 1 f_law_stock)) (o_is_rule : Own P w K mg base "is_rule" 4 ["stock", "thing"] (spP K 2 f_is_rule)) : FnOk P w K mg base CX0 5 f fd ["_law_script"] (spP K 1 f_law) := by
  exact def_pure (k := 4) F sc_law (fun cdv A outer s H E hr => by
    have G := good_bx (P := P) (w := w) (K := K) (mg := mg) (base := base) (N := ["_law_script", "_law_k", "_law_pack_here", "_law_stock_here", "_law_sounds_here", "_law_rules"]) (outer := outer) (H := H) (E := E) (C := C0 K) rfl hr
    exact (S.SXSs.u (S.pxss_cons (S.s_for G (S.i_rng3 nb_range (S.pxa_cons S.px_int (S.pxa_cons (S.x_max G nb_max (S.pxab_cons S.px_int (S.pxab_one (S.PX_b (S.x_min G nb_min (S.pxab_cons (S.x_len G nb_len (S.pxab_one (S.x_rd 0))) (S.pxab_one (S.PX_b S.px_int)))))))) (S.pxa_cons S.px_int S.pxa_nil))) (lenS (lenS (lenS len0)))) (S.g_name 1) (S.pxss_cons (S.s_own 2 (S.n_own o_law_pack G hr (by rfl) (S.pxa_cons (S.x_var 0) (S.pxa_cons (S.x_var 1) S.pxa_nil)) (lenS (lenS len0))))
      (S.pxss_cons (S.s_set 3 (S.x_io 2 o_law_stock G hr (by rfl) S.pxa_nil (lenIO len0)))
      (S.pxss_cons (S.s_set 4 (S.x_own o_law_sounds G hr (by rfl) (S.pxa_cons (S.x_var 3) S.pxa_nil) (lenS len0)))
      (S.pxss_cons (S.s_lc ["_law_script", "_law_k", "_law_pack_here", "_law_stock_here", "_law_sounds_here", "_law_rules", "_law_turn"] 6 5 compOk G (S.i_rng1 nb_range (S.pxa_cons S.px_int S.pxa_nil) (lenS len0)) (fun X1 h1 => by have G := G.at h1; obtain ⟨_, _, _, _, _, rfl⟩ := h1; exact (S.g_name 6)) (fun X1 h1 => by have G := G.at h1; obtain ⟨_, _, _, _, _, rfl⟩ := h1; exact S.pxif_nil) (fun X1 h1 => by have G := G.at h1; obtain ⟨_, _, _, _, _, rfl⟩ := h1; exact (S.x_io 2 o_law_rule G hr (by rfl) (S.pxa_cons (S.x_var 4) S.pxa_nil) (lenIO (lenS len0)))))
      (S.pxss_cons (S.s_own 5 (S.n_cat (S.x_var 5) (S.PX_b (S.PXN_px (S.pxn_lst (S.pxa_cons (S.px_tup (S.pxa_cons (S.px_str [111, 110, 99, 101] (by decide +kernel)) (S.pxa_cons (S.x_tuple G nb_tuple (S.pxab_one (S.PX_b (S.PXN_px (S.n_lc ["_law_script", "_law_k", "_law_pack_here", "_law_stock_here", "_law_sounds_here", "_law_rules", "_law_sound"] 6 compOk G (S.i_seq G (S.x_var 4)) (fun X1 h1 => by have G := G.at h1; obtain ⟨_, _, _, _, _, rfl⟩ := h1; exact (S.g_name 6)) (fun X1 h1 => by have G := G.at h1; obtain ⟨_, _, _, _, _, rfl⟩ := h1; exact S.pxif_nil) (fun X1 h1 => by have G := G.at h1; obtain ⟨_, _, _, _, _, rfl⟩ := h1; exact (S.px_tup (S.pxa_cons (S.x_var 6) (S.pxa_cons (S.px_str [] (by decide +kernel)) S.pxa_nil))))))))) (S.pxa_cons (S.x_tupS G nb_tuple (S.pxab_one (S.PX_b (S.x_bin (b_add G) (S.px_str [35] (by decide +kernel)) (S.x_rd 4))))) (S.pxa_cons S.px_non S.pxa_nil))))) S.pxa_nil))))))
      (S.pxss_cons (S.s_app 5 G (S.px_tup (S.pxa_cons (S.px_str [97, 108, 111, 110, 103] (by decide +kernel)) (S.pxa_cons (S.px_tup (S.pxa_cons (S.px_tup (S.pxa_cons (S.px_str [] (by decide +kernel)) (S.pxa_cons (S.x_ixO 4 G (S.PX_b (S.x_neg S.px_int))) S.pxa_nil))) S.pxa_nil)) (S.pxa_cons S.px_non (S.pxa_cons (S.px_tup (S.pxa_cons (S.px_str [35] (by decide +kernel)) S.pxa_nil)) S.pxa_nil))))))
      (S.pxss_cons (S.pxs_if (S.pxt_not (S.pxt_val (S.x_all G nb_all (S.pxab_one (S.PX_b (S.PXN_px (S.n_lc ["_law_script", "_law_k", "_law_pack_here", "_law_stock_here", "_law_sounds_here", "_law_rules", "_law_rule_here"] 6 compOk G (S.i_seq G (S.x_var 5)) (fun X1 h1 => by have G := G.at h1; obtain ⟨_, _, _, _, _, rfl⟩ := h1; exact (S.g_name 6)) (fun X1 h1 => by have G := G.at h1; obtain ⟨_, _, _, _, _, rfl⟩ := h1; exact S.pxif_nil) (fun X1 h1 => by have G := G.at h1; obtain ⟨_, _, _, _, _, rfl⟩ := h1; exact (S.x_own o_law_is G hr (by rfl) (S.pxa_cons (S.x_own o_is_rule G hr (by rfl) (S.pxa_cons (S.x_var 3) (S.pxa_cons (S.x_var 6) S.pxa_nil)) (lenS (lenS len0))) (S.pxa_cons S.px_bl S.pxa_nil)) (lenS (lenS len0))))))))))) (S.pxss_one (S.pxs_ret S.px_bl)) S.pxss_nil)
      (S.pxss_one (S.pxs_if (S.pxt_not (S.pxt_val (S.x_all G nb_all (S.pxab_one (S.PX_b (S.PXN_px (S.n_lc ["_law_script", "_law_k", "_law_pack_here", "_law_stock_here", "_law_sounds_here", "_law_rules", "_law_thing"] 6 compOk G (S.i_seq G (S.x_own o_law_no_rules G hr (by rfl) (S.pxa_cons (S.x_ixO 5 G (S.PX_b S.px_int)) (S.pxa_cons (S.x_var 4) S.pxa_nil)) (lenS (lenS len0)))) (fun X1 h1 => by have G := G.at h1; obtain ⟨_, _, _, _, _, rfl⟩ := h1; exact (S.g_name 6)) (fun X1 h1 => by have G := G.at h1; obtain ⟨_, _, _, _, _, rfl⟩ := h1; exact S.pxif_nil) (fun X1 h1 => by have G := G.at h1; obtain ⟨_, _, _, _, _, rfl⟩ := h1; exact (S.x_own o_law_is G hr (by rfl) (S.pxa_cons (S.x_own o_is_rule G hr (by rfl) (S.pxa_cons (S.x_var 3) (S.pxa_cons (S.x_var 6) S.pxa_nil)) (lenS (lenS len0))) (S.pxa_cons S.px_bl S.pxa_nil)) (lenS (lenS len0))))))))))) (S.pxss_one (S.pxs_ret S.px_bl)) S.pxss_nil))))))))))
      (S.pxss_one (S.pxs_ret S.px_bl)))))
end
end K04
namespace K06
open Ev
def b_law_mixed : EvS := K04.b_law_mixed
def f_law_mixed : List D → Option D := runP 1 b_law_mixed
def b_law_pack : EvS := stSeq (stAsg (evC (.int 0)) (gvName 2)) (stSeq (stFor (evIt (evLst (evCons (evBinO gAdd 1 (evC (.int 1))) (evCons (evVar 1) (evNil))))) (gvName 3) (stAsg (evBin gAdd (evBinO gMul 2 (evBin gPow (evC (.int 10)) (evC (.int 60)))) (evCall f_law_mixed (evCons (evBin gIx (evBin gAdd (evSl (evVar 0) (evP (evVar 3)) (evP (evBinO gAdd 3 (evC (.int 1))))) (evLst (evCons (evBin gAdd (evBin gMul (evC (.int 7919)) (evRd 3)) (evC (.int 61))) (evNil)))) (evC (.int 0))) (evNil)))) (gvName 2))) (stRetNew (evLst (evCons (evVar 2) (evNil)))))
def f_law_pack : List D → Option D := runN 4 b_law_pack
def b_law_take : EvS := stSeq (stAsg (evCall gDivmod (evCons (evBinO gIx 0 (evC (.int 0))) (evCons (evRd 1) evNil))) (gvTup 2 (gvCons (gvAt 0 (evC (.int 0))) (gvCons (gvName 2) (gvNil))))) (stRet (evVar 2))
def f_law_take : List D → Option (D × D) := runIO 3 b_law_take
end K06
namespace K06
open Ev PySem L2
theorem bits_of {i : Int} {b : Nat} (h : i.natAbs < 2 ^ b) : Builtin.Int.intBits i ≤ b := by
  unfold Builtin.Int.intBits
  split
  · exact Nat.zero_le _
  · rename_i h0
    have hz : i.natAbs ≠ 0 := fun z => h0 (by rw [Int.natAbs_eq_zero.mp z]; rfl)
    exact (Nat.log2_lt hz).mpr h
theorem mulFits_of {i j : Int} {a b : Nat} (h1 : Builtin.Int.intBits i ≤ a) (h2 : Builtin.Int.intBits j ≤ b) (h : a + b ≤ 134217728) : mulFits i j = true :=
  decide_eq_true (by omega)
def mixI (i : Int) : Int := i * 262406895267124108351839057402211873468251940277165213587343 % 10 ^ 60
theorem mixI_lt (i : Int) : (mixI i).natAbs < 2 ^ 200 := by
  unfold mixI
  have h1 : 0 ≤ i * 262406895267124108351839057402211873468251940277165213587343 % 10 ^ 60 := Int.emod_nonneg _ (by decide)
  have h2 : i * 262406895267124108351839057402211873468251940277165213587343 % 10 ^ 60 < 10 ^ 60 := Int.emod_lt_of_pos _ (by decide)
  have h3 : (10 : Int) ^ 60 ≤ 2 ^ 200 := by decide
  omega
theorem mixed {i : Int} (h : Builtin.Int.intBits i ≤ 2 ^ 20) : f_law_mixed [.int i] = some (.int (mixI i)) := by
  have hm : mulFits i 262406895267124108351839057402211873468251940277165213587343 = true := mulFits_of h (bits_of (b := 198) (by decide)) (by decide)
  have e1 : evBinO gMul 0 (evC (.int 262406895267124108351839057402211873468251940277165213587343)) [some (false, .int i)] = .ok (.int (i * 262406895267124108351839057402211873468251940277165213587343)) [some (false, .int i)] := by
    show liftR (gI mulFits (fun i j => D.int (i * j)) (.int i) (.int _)) _ = _
    unfold gI
    simp only
    rw [if_pos hm]
    rfl
  show (match stRet _ [some (false, .int i)] with | .rt false d _ => some d | .nx _ => some .non | _ => none) = _
  rw [stRet_eq (d := .int (mixI i)) (e := [some (false, .int i)])]
  unfold evBin
  rw [e1]
  rfl
theorem cut_mem {α : Type} {xs : List α} {lo hi : Option Int} {x : α} (h : x ∈ cutD xs lo hi) : x ∈ xs := List.mem_of_mem_drop (List.mem_of_mem_take h)
theorem atI_zero {α : Type} (x : α) (r : List α) : atI (x :: r) 0 = some x := atI_nat (j := 0) rfl
def packBody : EvS := stAsg (evBin gAdd (evBinO gMul 2 (evBin gPow (evC (.int 10)) (evC (.int 60)))) (evCall f_law_mixed (evCons (evBin gIx (evBin gAdd (evSl (evVar 0) (evP (evVar 3)) (evP (evBinO gAdd 3 (evC (.int 1))))) (evLst (evCons (evBin gAdd (evBin gMul (evC (.int 7919)) (evRd 3)) (evC (.int 61))) (evNil)))) (evC (.int 0))) (evNil)))) (gvName 2)
theorem pack_body (ns : List Int) (hl : ns.length ≤ 63) (hb : Bits ns) (k a f : Int) (ha : a.natAbs < 2 ^ 10) (hf : Builtin.Int.intBits f ≤ 2 ^ 20) :
    ∃ f' : Int, packBody [some (false, .arr (ns.map .int)), some (false, .int k), some (false, .int f), some (false, .int a)] = .nx [some (false, .arr (ns.map .int)), some (false, .int k), some (false, .int f'), some (false, .int a)] ∧ (f = 0 → f'.natAbs < 2 ^ 200) := by
  generalize hE : ([some (false, .arr (ns.map .int)), some (false, .int k), some (false, .int f), some (false, .int a)] : Ev.Env) = env
  have m1 : mulFits 7919 a = true := mulFits_of (a := 20) (b := 10) (bits_of (by decide)) (bits_of ha) (by decide)
  have m2 : mulFits f (10 ^ (60 : Int).toNat) = true := mulFits_of (b := 200) hf (bits_of (by decide)) (by decide)
  have e1 : evSl (evVar 0) (evP (evVar 3)) (evP (evBinO gAdd 3 (evC (.int 1)))) env = .ok (.lst (cutD (ns.map .int) (some a) (some (a + 1)))) env := by rw [← hE]; rfl
  have e2 : evLst (evCons (evBin gAdd (evBin gMul (evC (.int 7919)) (evRd 3)) (evC (.int 61))) (evNil)) env = .ok (.lst [.int (7919 * a + 61)]) env := by
    refine evLst_eq (evCons_eq (evBin_eq (evBin_eq (x := .int 7919) (y := .int a) (e1 := env) (e2 := env) rfl (by rw [← hE]; rfl) (gMul_eq m1)) (y := .int 61) rfl rfl) evNil_eq) (by show 1 ≤ sizeLine; decide)
  generalize hL : cutD (ns.map D.int) (some a) (some (a + 1)) = L at e1
  have hLl : L.length ≤ 63 := by
    rw [← hL]; exact Nat.le_trans (cutD_len _ _ _) (by rw [List.length_map]; exact hl)
  have e3 : evBin gAdd (evSl (evVar 0) (evP (evVar 3)) (evP (evBinO gAdd 3 (evC (.int 1))))) (evLst (evCons (evBin gAdd (evBin gMul (evC (.int 7919)) (evRd 3)) (evC (.int 61))) (evNil))) env = .ok (.lst (L ++ [.int (7919 * a + 61)])) env := by
    exact evBin_eq e1 e2 (gAddL_eq (by show L.length + 1 ≤ sizeLine; exact Nat.le_trans (Nat.succ_le_succ hLl) (by decide)))
  obtain ⟨c, hc, hcb⟩ : ∃ c : Int, atI (L ++ [.int (7919 * a + 61)]) 0 = some (.int c) ∧ Builtin.Int.intBits c ≤ 2 ^ 20 := by
    cases hLc : L with
    | nil =>
      refine ⟨7919 * a + 61, rfl, Nat.le_trans (bits_of (b := 30) ?_) (by decide)⟩
      omega
    | cons y r =>
      have hy : y ∈ ns.map D.int := cut_mem (lo := some a) (hi := some (a + 1)) (by rw [hL, hLc]; exact List.mem_cons_self ..)
      obtain ⟨i, hi, rfl⟩ := List.mem_map.mp hy
      exact ⟨i, atI_zero _ _, hb i hi⟩
  have e4 : evCall f_law_mixed (evCons (evBin gIx (evBin gAdd (evSl (evVar 0) (evP (evVar 3)) (evP (evBinO gAdd 3 (evC (.int 1))))) (evLst (evCons (evBin gAdd (evBin gMul (evC (.int 7919)) (evRd 3)) (evC (.int 61))) (evNil)))) (evC (.int 0))) (evNil)) env = .ok (.int (mixI c)) env := by
    exact evCall_eq (evCons_eq (evBin_eq (y := .int 0) e3 rfl hc) evNil_eq) (mixed hcb)
  refine ⟨f * 10 ^ (60 : Int).toNat + mixI c, ?_, fun h0 => ?_⟩
  · unfold packBody
    refine stAsg_eq (d := .int (f * 10 ^ (60 : Int).toNat + mixI c)) (e := env) ?_ (by rw [← hE]; rfl)
    have e5 : evBinO gMul 2 (evBin gPow (evC (.int 10)) (evC (.int 60))) env = .ok (.int (f * 10 ^ (60 : Int).toNat)) env := by
      rw [← hE]
      exact evBinO_eq (o := false) (o' := false) (x := .int f) (x0 := .int f) rfl rfl rfl (gMul_eq m2)
    exact evBin_eq e5 e4 rfl
  · rw [h0, Int.zero_mul, Int.zero_add]
    exact mixI_lt c
theorem pack (ns : List Int) (hl : ns.length ≤ 63) (hb : Bits ns) (k : Int) (h0 : 0 ≤ k) (h1 : k ≤ 500) : ∃ p : Int, f_law_pack [.arr (ns.map .int), .int k] = some (.lst [.int p]) := by
  obtain ⟨f1, e1, b1⟩ := pack_body ns hl hb k (k + 1) 0 (by omega) (by decide)
  obtain ⟨f2, e2, _⟩ := pack_body ns hl hb k k f1 (by omega) (Nat.le_trans (bits_of (b1 rfl)) (by decide))
  refine ⟨f2, ?_⟩
  have h : b_law_pack [some (false, .arr (ns.map .int)), some (false, .int k), none, none] = .rt true (.lst [.int f2]) [some (false, .arr (ns.map .int)), some (false, .int k), some (false, .int f2), some (false, .int k)] := by
    unfold b_law_pack
    refine (stSeq_nx (e := [some (false, .arr (ns.map .int)), some (false, .int k), some (false, .int 0), none]) (by rfl)).trans ?_
    refine (stSeq_nx (e := [some (false, .arr (ns.map .int)), some (false, .int k), some (false, .int f2), some (false, .int k)]) ?_).trans rfl
    refine (stFor_eq (ds := [.int (k + 1), .int k]) (e := [some (false, .arr (ns.map .int)), some (false, .int k), some (false, .int 0), none]) (by rfl)).trans ?_
    show forO (gvName 3) packBody [.int (k + 1), .int k] _ = _
    unfold forO
    show (match packBody [some (false, .arr (ns.map .int)), some (false, .int k), some (false, .int 0), some (false, .int (k + 1))] with | .nx e2 => forO (gvName 3) packBody [.int k] e2 | .ct e2 => _ | .bk e2 => _ | .rt o d e2 => _ | .stuck => _) = _
    rw [e1]
    simp only
    unfold forO
    show (match packBody [some (false, .arr (ns.map .int)), some (false, .int k), some (false, .int f1), some (false, .int k)] with | .nx e2 => forO (gvName 3) packBody [] e2 | .ct e2 => _ | .bk e2 => _ | .rt o d e2 => _ | .stuck => _) = _
    rw [e2]
    rfl
  show (match b_law_pack _ with | .rt true d _ => some d | _ => none) = _
  have e : envOf 4 [D.arr (ns.map .int), .int k] = [some (false, .arr (ns.map .int)), some (false, .int k), none, none] := rfl
  rw [e, h]
def known : D := .lst [.str [115, 116, 111, 112], .str [115, 116, 111, 112, 115], .str [115], .str [111, 112, 101, 110], .str [97, 98, 99, 100, 101, 102, 103, 104]]
def stMarks : EvS := stAsg (evCall gSorted (evCons (evLC 7 8 (evRng (evCons (evC (.int 5)) (evNil))) (gvName 7) (evB (evBin gEq (evBin gAnd (evBinO gShr 5 (evRd 7)) (evC (.int 1))) (evC (.int 1)))) (evBinO gIx 2 (evRd 7))) evNil)) (gvName 6)
def mk (d : Nat) : D := match stMarks [none, none, some (false, known), none, none, some (false, .int d), none] with
  | .nx e => (match e[6]? with | some (some (_, z)) => z | _ => .non)
  | _ => .non
theorem marks (d : Nat) (hd : d < 32) (a b c e f : Option (Bool × D)) : stMarks [a, b, some (false, known), c, e, some (false, .int d), f] = .nx [a, b, some (false, known), c, e, some (false, .int d), some (false, mk d)] := by
  have hc : d = 0 ∨ d = 1 ∨ d = 2 ∨ d = 3 ∨ d = 4 ∨ d = 5 ∨ d = 6 ∨ d = 7 ∨ d = 8 ∨ d = 9 ∨ d = 10 ∨ d = 11 ∨ d = 12 ∨ d = 13 ∨ d = 14 ∨ d = 15 ∨ d = 16 ∨ d = 17 ∨ d = 18 ∨ d = 19 ∨ d = 20 ∨ d = 21 ∨ d = 22 ∨ d = 23 ∨ d = 24 ∨ d = 25 ∨ d = 26 ∨ d = 27 ∨ d = 28 ∨ d = 29 ∨ d = 30 ∨ d = 31 := by omega
  rcases hc with rfl | rfl | rfl | rfl | rfl | rfl | rfl | rfl | rfl | rfl | rfl | rfl | rfl | rfl | rfl | rfl | rfl | rfl | rfl | rfl | rfl | rfl | rfl | rfl | rfl | rfl | rfl | rfl | rfl | rfl | rfl | rfl
  all_goals kernel_rfl
theorem stApp_eq {i : Nat} {a : Ev} {env e : Ev.Env} {d : D} {xs x0 : List D} (h0 : env[i]? = some (some (true, .lst x0))) (h1 : a env = .ok d e) (h2 : e[i]? = some (some (true, .lst xs))) (hz : xs.length < sizeLine) : stApp i a env = .nx (e.set i (some (true, .lst (xs ++ [d])))) := by
  unfold stApp
  rw [h0]
  show bindO (a env) _ = _
  rw [h1]
  show (match e[i]? with | some (some (true, .lst xs)) => if xs.length < sizeLine then Out.nx (e.set i (some (true, .lst (xs ++ [d])))) else .stuck | _ => .stuck) = _
  rw [h2]
  show (if xs.length < sizeLine then _ else _) = _
  rw [if_pos hz]
def stockBody : EvS := stSeq (stAsg (evIO f_law_take 0 (evCons (evC (.int 32)) (evNil))) (gvName 5)) (stSeq stMarks (stApp 3 (evTup (evCons (evVar 4) (evCons (evCall gTuple (evCons (evSl (evVar 6) (evNoP) (evP (evC (.int 4)))) evNil)) (evNil))))))
end K06
namespace K06
open Ev PySem L2
def M (x : List Nat) : Nat := 2 * 2 ^ x.length - 1
def sgTail : EvS := stSeq (stAsg (evBin gAdd (evC (.str [35])) (evRd 1)) (gvName 3)) (stRet (evCall gTuple (evCons (evLC 4 5 (evRng (evCons (evCall gLen (evCons (evRd 3) evNil)) (evNil))) (gvName 4) (evB (evBin gEq (evBin gAnd (evBinO gShr 2 (evRd 4)) (evC (.int 1))) (evC (.int 1)))) (evBinO gIx 3 (evRd 4))) evNil)))
def sgR (x : List Nat) (d : Nat) : D := match sgTail [none, some (false, .str x), some (false, .int (1 + (d : Int))), none] with
  | .rt _ r _ => r
  | _ => .non
def SG (x : List Nat) : List D := .non :: (List.range (M x)).map (sgR x)
end K06
namespace K06
open Ev PySem L2
def oth (x : List Nat) (c : Nat) : List D := ((x.map (fun a => [a]) ++ [[]]).filter fun z => z != [c]).map .str
def PV (x : List Nat) : List (Nat × D) := x.flatMap fun c => (oth x c).map fun v => (c, v)
def put1 (kvs : List (D × D)) (p : Nat × D) : List (D × D) := putD kvs (.str [p.1]) (.inr (strOf [p.1])) p.2
structure KvOk (x : List Nat) (kvs : List (D × D)) (zs : List Nat) : Prop where
  keys : kvs.map (·.1) = zs.map fun c => D.str [c]
  nd : zs.Nodup
  mem : ∀ c ∈ zs, c ∈ x
  vals : ∀ k v, (k, v) ∈ kvs → ∃ c, k = .str [c] ∧ (c, v) ∈ PV x
theorem strOf_inj {a b : List Nat} (h : strOf a = strOf b) : a = b := by
  have := congrArg (fun s : Str => s.cps.toList) h
  simpa [strOf] using this
theorem setD_keys (q : Key) (d : D) : ∀ kvs : List (D × D), (setD kvs q d).map (·.1) = kvs.map (·.1)
  | [] => rfl
  | (k, e) :: r => by
    unfold setD
    rw [List.map_cons, List.map_cons, setD_keys q d r]
    split <;> rfl
theorem setD_mem {q : Key} {d : D} : ∀ {kvs : List (D × D)} {k v : D}, (k, v) ∈ setD kvs q d → (k, v) ∈ kvs ∨ (keyD k = some q ∧ v = d)
  | [], _, _, h => by simp [setD] at h
  | (k', e) :: r, k, v, h => by
    unfold setD at h
    rcases List.mem_cons.mp h with h | h
    · split at h
      · rename_i hk
        cases h
        exact .inr ⟨hk, rfl⟩
      · cases h
        exact .inl (List.mem_cons_self ..)
    · rcases setD_mem h with h | h
      · exact .inl (List.mem_cons_of_mem _ h)
      · exact .inr h
theorem valD_none {q : Key} : ∀ {kvs : List (D × D)}, valD kvs q = none → ∀ k v, (k, v) ∈ kvs → keyD k ≠ some q
  | [], _, k, v, hm => by simp at hm
  | (k', e) :: r, h, k, v, hm => by
    unfold valD at h
    split at h
    · cases h
    · rename_i hk
      rcases List.mem_cons.mp hm with hm | hm
      · cases hm; exact hk
      · exact valD_none h k v hm
theorem valD_some {q : Key} {d : D} : ∀ {kvs : List (D × D)}, valD kvs q = some d → ∃ k, (k, d) ∈ kvs ∧ keyD k = some q
  | [], h => by simp [valD] at h
  | (k', e) :: r, h => by
    unfold valD at h
    split at h
    · rename_i hk
      cases h
      exact ⟨k', List.mem_cons_self .., hk⟩
    · obtain ⟨k, h1, h2⟩ := valD_some h
      exact ⟨k, List.mem_cons_of_mem _ h1, h2⟩
theorem KvOk.put {x : List Nat} {kvs : List (D × D)} {zs : List Nat} (h : KvOk x kvs zs) {p : Nat × D} (hp : p ∈ PV x) (hx : p.1 ∈ x) : ∃ zs', KvOk x (put1 kvs p) zs' ∧ 0 < zs'.length ∧ zs'.length ≤ zs.length + 1 := by
  unfold put1 putD
  cases e : valD kvs (.inr (strOf [p.1])) with
  | none =>
    simp only [Option.isSome_none, Bool.false_eq_true, if_false]
    refine ⟨zs ++ [p.1], ⟨?_, ?_, fun c hc => ?_, fun k v hm => ?_⟩, by simp, by simp⟩
    · rw [List.map_append, List.map_append, h.keys]; rfl
    · refine List.nodup_append.mpr ⟨h.nd, List.nodup_cons.mpr ⟨List.not_mem_nil, .nil⟩, fun a ha b hb => ?_⟩
      rcases List.mem_singleton.mp hb with rfl
      rintro rfl
      have hm : D.str [p.1] ∈ kvs.map (·.1) := by rw [h.keys]; exact List.mem_map.mpr ⟨p.1, ha, rfl⟩
      obtain ⟨⟨k, v⟩, h1, h2⟩ := List.mem_map.mp hm
      have h2' : k = .str [p.1] := h2
      subst h2'
      exact valD_none e _ _ h1 rfl
    · rcases List.mem_append.mp hc with hc | hc
      · exact h.mem c hc
      · rw [List.mem_singleton.mp hc]; exact hx
    · rcases List.mem_append.mp hm with hm | hm
      · exact h.vals k v hm
      · have := List.mem_singleton.mp hm
        cases this
        exact ⟨p.1, rfl, hp⟩
  | some w =>
    simp only [Option.isSome_some, if_true]
    obtain ⟨k0, hk0, _⟩ := valD_some e
    have hne : 0 < zs.length := by
      have := congrArg List.length h.keys
      rw [List.length_map, List.length_map] at this
      rw [← this]
      exact List.length_pos_of_mem hk0
    refine ⟨zs, ⟨by rw [setD_keys]; exact h.keys, h.nd, h.mem, fun k v hm => ?_⟩, hne, Nat.le_succ _⟩
    rcases setD_mem hm with hm | ⟨hk, rfl⟩
    · exact h.vals k v hm
    · have hin : k ∈ (setD kvs (.inr (strOf [p.1])) p.2).map (·.1) := List.mem_map.mpr ⟨_, hm, rfl⟩
      rw [setD_keys, h.keys] at hin
      obtain ⟨c, hc, rfl⟩ := List.mem_map.mp hin
      have : strOf [c] = strOf [p.1] := by
        have := Option.some.inj hk
        exact Sum.inr.inj this
      have e2 := strOf_inj this
      cases e2
      exact ⟨p.1, rfl, hp⟩
theorem strsD_map (zs : List (List Nat)) : strsD (zs.map D.str) = some zs := by
  induction zs with
  | nil => rfl
  | cons z r ih =>
    rw [List.map_cons]
    unfold strsD
    rw [ih]
    rfl
theorem sorted_of {x : List Nat} {kvs : List (D × D)} {zs : List Nat} (h : KvOk x kvs zs) (h4 : zs.length ≤ 3) : gSorted [.dct kvs] = some (.lst ((sortX (zs.map fun c => [c])).map .str)) := by
  have e : kvs.map (·.1) = (zs.map fun c => [c]).map D.str := by rw [h.keys, List.map_map]; rfl
  show (strsD (kvs.map (·.1))).bind _ = _
  rw [e, strsD_map]
  show (if _ then _ else _) = _
  rw [if_pos]
  refine ⟨by rw [List.length_map]; omega, fun z hz => ?_⟩
  obtain ⟨c, _, rfl⟩ := List.mem_map.mp hz
  show 1 ≤ sizeLine
  decide
def prs (kvs : List (D × D)) (ks : List D) : List D := ks.map fun k => .tup [k, (gDget (.dct kvs) k).getD .non]
theorem key_in {x : List Nat} {kvs : List (D × D)} {zs : List Nat} (h : KvOk x kvs zs) (k : D) (hk : k ∈ (sortX (zs.map fun c => [c])).map D.str) : ∃ c v, k = .str [c] ∧ gDget (.dct kvs) k = some v ∧ (c, v) ∈ PV x := by
  obtain ⟨z, hz, rfl⟩ := List.mem_map.mp hk
  obtain ⟨c, hc, rfl⟩ := List.mem_map.mp ((sortX_perm _).mem_iff.mp hz)
  have hm : D.str [c] ∈ kvs.map (·.1) := by rw [h.keys]; exact List.mem_map.mpr ⟨c, hc, rfl⟩
  obtain ⟨⟨k, v⟩, h1, h2⟩ := List.mem_map.mp hm
  have h2' : k = .str [c] := h2
  subst h2'
  cases e : valD kvs (.inr (strOf [c])) with
  | none => exact absurd rfl (valD_none e _ _ h1)
  | some w =>
    obtain ⟨k', h3, h4⟩ := valD_some e
    obtain ⟨c', rfl, h5⟩ := h.vals k' w h3
    have e2 : strOf [c'] = strOf [c] := Sum.inr.inj (Option.some.inj h4)
    cases strOf_inj e2
    exact ⟨c, w, rfl, e, h5⟩
end K06
namespace K03
open Ev
def b_law_take : EvS := K04.b_law_take
def f_law_take : List D → Option (D × D) := runIO 3 b_law_take
def b_law_drawn_sounds : EvS := stSeq (stAsg (evC (.str [97, 98, 99, 100, 101, 102, 103, 104, 105, 106, 107, 108, 109, 110, 111, 112, 113, 114, 115, 116, 117, 118, 119, 120, 121, 122])) (gvName 1)) (stSeq (stAsg (evTup (evCons (evIO f_law_take 0 (evCons (evC (.int 26)) (evNil))) (evCons (evBin gAdd (evC (.int 1)) (evIO f_law_take 0 (evCons (evC (.int 25)) (evNil)))) (evNil)))) (gvTup 2 (gvCons (gvName 2) (gvCons (gvName 3) (gvNil))))) (stRet (evBin gJoin (evC (.str [])) (evUn gSortSet (evLC 4 5 (evRng (evCons (evBin gAdd (evC (.int 1)) (evIO f_law_take 0 (evCons (evC (.int 4)) (evNil)))) (evNil))) (gvName 4) (evTrue) (evBinO gIx 1 (evBin gMod (evBinO gAdd 2 (evBinO gMul 3 (evRd 4))) (evC (.int 26)))))))))
def f_law_drawn_sounds : List D → Option (D × D) := runIO 4 b_law_drawn_sounds
def b_law_stock : EvS := stSeq (stAsg (evIO f_law_drawn_sounds 0 (evNil)) (gvName 1)) (stSeq (stAsg (evLst (evCons (evC (.str [115, 116, 111, 112])) (evCons (evC (.str [115, 116, 111, 112, 115])) (evCons (evC (.str [115])) (evCons (evC (.str [111, 112, 101, 110])) (evCons (evC (.str [97, 98, 99, 100, 101, 102, 103, 104])) (evNil))))))) (gvName 2)) (stSeq (stOwn 3 (evLst (evNil))) (stSeq (stFor (evIt (evVar 1)) (gvName 4) (stSeq (stAsg (evIO f_law_take 0 (evCons (evC (.int 32)) (evNil))) (gvName 5)) (stSeq (stAsg (evCall gSorted (evCons (evLC 7 8 (evRng (evCons (evC (.int 5)) (evNil))) (gvName 7) (evB (evBin gEq (evBin gAnd (evBinO gShr 5 (evRd 7)) (evC (.int 1))) (evC (.int 1)))) (evBinO gIx 2 (evRd 7))) evNil)) (gvName 6)) (stApp 3 (evTup (evCons (evVar 4) (evCons (evCall gTuple (evCons (evSl (evVar 6) (evNoP) (evP (evC (.int 4)))) evNil)) (evNil)))))))) (stRet (evCall gTuple (evCons (evRd 3) evNil))))))
def f_law_stock : List D → Option (D × D) := runIO 7 b_law_stock
def b_law_sounds : EvS := stRet (evBin gJoin (evC (.str [])) (evLC 1 3 (evIt (evVar 0)) (gvTup 2 (gvCons (gvName 1) (gvCons (gvName 2) (gvNil)))) (evTrue) (evVar 1)))
def f_law_sounds : List D → Option D := runP 1 b_law_sounds
end K03
namespace K03
open Ev PySem L2
open K06 (mulFits_of bits_of atI_zero known stMarks mk marks stockBody stApp_eq)
theorem lcE {α : Type} {g : GV} {e : Ev} (P : Ev.Env → Prop) (enc out : α → D) : ∀ (l : List α) (env : Ev.Env), P env → (∀ a ∈ l, ∀ env, P env → ∃ e1 e2, g (enc a) env = some e1 ∧ e e1 = .ok (out a) e2 ∧ P e2) → ∃ env', lcO g evTrue e (l.map enc) env = .ok (l.map out) env' ∧ P env'
  | [], env, hp, _ => ⟨env, rfl, hp⟩
  | d :: ds, env, hp, h => by
    obtain ⟨e1, e2, h1, h2, h3⟩ := h d (List.mem_cons_self ..) env hp
    obtain ⟨e3, h4, h5⟩ := lcE P enc out ds e2 h3 fun d' hd => h d' (List.mem_cons_of_mem _ hd)
    refine ⟨e3, ?_, h5⟩
    rw [List.map_cons]
    unfold lcO
    rw [h1]
    show bindR (e e1) _ = _
    rw [h2]
    show bindR (lcO g evTrue e (ds.map enc) e2) _ = _
    rw [h4]
    rfl
theorem strs_inv : ∀ {ds : List D} {zs : List (List Nat)}, strsD ds = some zs → ds = zs.map .str
  | [], zs, h => by simp [strsD] at h; subst h; rfl
  | d :: ds, zs, h => by
    cases d with
    | str x =>
      have h' : (strsD ds).map (x :: ·) = some zs := by simpa [strsD] using h
      obtain ⟨z, e1, rfl⟩ := Option.map_eq_some_iff.mp h'
      rw [strs_inv e1]
      rfl
    | _ => simp [strsD] at h
theorem evUn_eq {g : D → Option D} {a : Ev} {env e : Ev.Env} {x d : D} (h : a env = .ok x e) (h' : g x = some d) : evUn g a env = .ok d e := by
  unfold evUn
  rw [h]
  show liftR (g x) e = _
  rw [h']
  rfl
theorem evRngE {a : EvA} {env e : Ev.Env} {ds ys : List D} (h : a env = .ok ds e) (h' : rngD ds = some ys) : evRng a env = .ok ys e := by
  unfold evRng
  rw [h]
  show liftR (rngD ds) e = _
  rw [h']
  rfl
def ABC : List Nat := [97, 98, 99, 100, 101, 102, 103, 104, 105, 106, 107, 108, 109, 110, 111, 112, 113, 114, 115, 116, 117, 118, 119, 120, 121, 122]
def lt (a b k : Nat) : Nat := 97 + (a + (1 + b) * k) % 26
theorem abc_at : ∀ m : Nat, m < 26 → atI ABC (m : Int) = some (97 + m) := by
  have h : ((List.range 26).all fun (m : Nat) => atI ABC (m : Int) == some (97 + m)) = true := by decide +kernel
  intro m hm
  exact eq_of_beq (List.all_eq_true.mp h m (List.mem_range.mpr hm))
def eltD : Ev := evBinO gIx 1 (evBin gMod (evBinO gAdd 2 (evBinO gMul 3 (evRd 4))) (evC (.int 26)))
theorem elt (a b k : Nat) (hb : b < 25) (hk : k < 4) (v : Option (Bool × D)) : eltD [v, (some (false, .str ABC)), (some (false, .int (a : Int))), (some (false, .int (1 + (b : Int)))), (some (false, .int (k : Int)))] = .ok (.str [lt a b k]) [v, (some (false, .str ABC)), (some (false, .int (a : Int))), (some (false, .int (1 + (b : Int)))), (some (false, .int (k : Int)))] := by
  generalize hE : ([v, (some (false, .str ABC)), (some (false, .int (a : Int))), (some (false, .int (1 + (b : Int)))), (some (false, .int (k : Int)))] : Ev.Env) = env
  have m1 : mulFits (1 + (b : Int)) (k : Int) = true := mulFits_of (a := 8) (b := 8) (bits_of (by omega)) (bits_of (by omega)) (by decide)
  have e1 : evBinO gMul 3 (evRd 4) env = .ok (.int ((1 + (b : Int)) * (k : Int))) env := evBinO_eq (o := false) (o' := false) (x := .int (1 + (b : Int))) (x0 := .int (1 + (b : Int))) (by rw [← hE]; rfl) (by rw [← hE]; rfl) (by rw [← hE]; rfl) (gMul_eq m1)
  have e2 : evBinO gAdd 2 (evBinO gMul 3 (evRd 4)) env = .ok (.int ((a : Int) + (1 + (b : Int)) * (k : Int))) env := evBinO_eq (o := false) (o' := false) (x := .int (a : Int)) (x0 := .int (a : Int)) (by rw [← hE]; rfl) e1 (by rw [← hE]; rfl) rfl
  have e3 : evBin gMod (evBinO gAdd 2 (evBinO gMul 3 (evRd 4))) (evC (.int 26)) env = .ok (.int (((a : Int) + (1 + (b : Int)) * (k : Int)) % 26)) env := evBin_eq e2 (y := .int 26) rfl rfl
  have e4 : ((a : Int) + (1 + (b : Int)) * (k : Int)) % 26 = (((a + (1 + b) * k) % 26 : Nat) : Int) := by push_cast; rfl
  rw [e4] at e3
  refine evBinO_eq (o := false) (o' := false) (x := .str ABC) (x0 := .str ABC) (by rw [← hE]; rfl) e3 (by rw [← hE]; rfl) ?_
  show (atI ABC _).map _ = _
  rw [abc_at _ (Nat.mod_lt _ (by decide))]
  rfl
def zsOf (a b m : Nat) : List (List Nat) := (List.range m).map fun k => [lt a b k]
def risingB : List Nat → Bool
  | [] => true
  | [_] => true
  | x :: y :: r => decide (x < y) && risingB (y :: r)
def good (x : List Nat) : Bool := decide (1 ≤ x.length) && decide (x.length ≤ 4) && x.all (fun c => decide (97 ≤ c) && decide (c ≤ 122)) && risingB x
def chk (a b m : Nat) : Bool := match (gSortSet (.lst ((zsOf a b m).map .str))) with
  | some l => (match gJoin (.str []) l with
    | some (.str x) => good x
    | _ => false)
  | none => false
theorem chk_all : ((List.range 26).all fun a => (List.range 25).all fun b => (List.range 4).all fun m => chk a b (m + 1)) = true := by decide +kernel
theorem chk_ok {a b m : Nat} (ha : a < 26) (hb : b < 25) (hm : m < 4) : ∃ l x, gSortSet (.lst ((zsOf a b (m + 1)).map .str)) = some l ∧ gJoin (.str []) l = some (.str x) ∧ good x = true := by
  have h := List.all_eq_true.mp (List.all_eq_true.mp (List.all_eq_true.mp chk_all a (List.mem_range.mpr ha)) b (List.mem_range.mpr hb)) m (List.mem_range.mpr hm)
  unfold chk at h
  split at h
  · rename_i l e
    split at h
    · rename_i x e2
      exact ⟨l, x, e, e2, h⟩
    · cases h
  · cases h
theorem drawn (n : Int) : ∃ x n', f_law_drawn_sounds [.lst [.int n]] = some (.str x, .lst [.int n']) ∧ good x = true := by
  obtain ⟨a, ha, ea⟩ := dig n 26 (by decide)
  obtain ⟨b, hb, eb⟩ := dig (n / 26) 25 (by decide)
  obtain ⟨m, hm, em⟩ := dig (n / 26 / 25) 4 (by decide)
  obtain ⟨l, x, h1, h2, h3⟩ := chk_ok ha hb hm
  refine ⟨x, n / 26 / 25 / 4, runIO_eq (env := [(some (true, .lst [.int (n / 26 / 25 / 4)])), (some (false, .str ABC)), (some (false, .int (a : Int))), (some (false, .int (1 + (b : Int))))]) ?_ rfl, h3⟩
  unfold b_law_drawn_sounds
  refine (stSeq_nx (e := [(some (true, .lst [.int n])), (some (false, .str ABC)), none, none]) (by rfl)).trans ?_
  refine (stSeq_nx (e := [(some (true, .lst [.int (n / 26 / 25)])), (some (false, .str ABC)), (some (false, .int (n % (26 : Nat)))), (some (false, .int (1 + n / 26 % (25 : Nat))))]) (by rfl)).trans ?_
  rw [ea, eb]
  have hr : evRng (evCons (evBin gAdd (evC (.int 1)) (evIO f_law_take 0 (evCons (evC (.int 4)) (evNil)))) (evNil)) [(some (true, .lst [.int (n / 26 / 25)])), (some (false, .str ABC)), (some (false, .int (a : Int))), (some (false, .int (1 + (b : Int))))] = .ok ((List.range (m + 1)).map fun (k : Nat) => D.int (k : Int)) [(some (true, .lst [.int (n / 26 / 25 / 4)])), (some (false, .str ABC)), (some (false, .int (a : Int))), (some (false, .int (1 + (b : Int))))] := by
    refine evRngE (ds := [.int (1 + n / 26 / 25 % (4 : Nat))]) (by rfl) ?_
    rw [em]
    have hc : m = 0 ∨ m = 1 ∨ m = 2 ∨ m = 3 := by omega
    rcases hc with rfl | rfl | rfl | rfl <;> rfl
  obtain ⟨e', f1, v4, rfl⟩ := lcE (g := gvName 4) (e := eltD) (fun env => ∃ v, env = [(some (true, .lst [.int (n / 26 / 25 / 4)])), (some (false, .str ABC)), (some (false, .int (a : Int))), (some (false, .int (1 + (b : Int)))), v]) (fun (k : Nat) => D.int (k : Int)) (fun k => .str [lt a b k]) (List.range (m + 1)) [(some (true, .lst [.int (n / 26 / 25 / 4)])), (some (false, .str ABC)), (some (false, .int (a : Int))), (some (false, .int (1 + (b : Int)))), none] ⟨_, rfl⟩
    (fun k hk env ⟨v, he⟩ => by
      subst he
      exact ⟨_, _, rfl, elt a b k hb (by have := List.mem_range.mp hk; omega) _, _, rfl⟩)
  have hz : (List.range (m + 1)).map (fun k => D.str [lt a b k]) = (zsOf a b (m + 1)).map .str := by unfold zsOf; rw [List.map_map]; rfl
  rw [hz] at f1
  have hl := evLC_eq (lo := 4) (n := 5) hr rfl f1 (by unfold zsOf; rw [List.length_map, List.length_map, List.length_range]; exact Nat.le_trans (Nat.succ_le_of_lt hm) (by decide))
  exact stRet_eq (evBin_eq (x := .str []) rfl (evUn_eq hl h1) h2)
end K03
namespace K03
open Ev PySem L2
open K06 (mulFits_of bits_of atI_zero known stMarks mk marks stockBody stApp_eq)
def ow (d : Nat) : List (List Nat) := match mk d with
  | .lst zs => (strsD (cutD zs none (some 4))).getD []
  | _ => []
def owB (d : Nat) : Bool := match mk d with
  | .lst zs => (strsD (cutD zs none (some 4))).isSome
  | _ => false
theorem ow_ok {d : Nat} (hd : d < 32) : ∃ zs, mk d = .lst zs ∧ cutD zs none (some 4) = (ow d).map .str := by
  have h : ((List.range 32).all owB) = true := by decide +kernel
  have h1 := List.all_eq_true.mp h d (List.mem_range.mpr hd)
  unfold owB at h1
  split at h1
  · rename_i zs e
    refine ⟨zs, e, ?_⟩
    obtain ⟨ws, hw⟩ := Option.isSome_iff_exists.mp h1
    have : ow d = ws := by unfold ow; rw [e]; show (strsD _).getD [] = _; rw [hw]; rfl
    rw [this]
    exact strs_inv hw
  · cases h1
def MKS : List (List (List Nat)) := (List.range 32).map ow
abbrev Rw := Nat × List (List Nat)
def row (p : Rw) : D := .tup [.str [p.1], .tup (p.2.map .str)]
def snd (p : Rw) : D := .str [p.1]
theorem body (n : Int) (b v5 v6 : Option (Bool × D)) (acc : List D) (s : D) (ha : acc.length ≤ 10) : ∃ ws v5' v6', ws ∈ MKS ∧ stockBody [(some (true, .lst [.int n])), b, (some (false, known)), (some (true, .lst acc)), (some (false, s)), v5, v6] = .nx [(some (true, .lst [.int (n / 32)])), b, (some (false, known)), (some (true, .lst (acc ++ [.tup [s, .tup (ws.map .str)]]))), (some (false, s)), v5', v6'] := by
  obtain ⟨d, hd, e⟩ := dig n 32 (by decide)
  obtain ⟨zs, hz, hw⟩ := ow_ok hd
  refine ⟨ow d, (some (false, .int d)), (some (false, .lst zs)), List.mem_map.mpr ⟨d, List.mem_range.mpr hd, rfl⟩, ?_⟩
  unfold stockBody
  refine (stSeq_nx (e := [(some (true, .lst [.int (n / 32)])), b, (some (false, known)), (some (true, .lst acc)), (some (false, s)), (some (false, .int (n % (32 : Nat)))), v6]) (by rfl)).trans ?_
  rw [e]
  refine (stSeq_nx (marks d hd _ _ _ _ _)).trans ?_
  rw [hz, ← hw]
  exact stApp_eq (x0 := acc) (xs := acc) (e := [(some (true, .lst [.int (n / 32)])), b, (some (false, known)), (some (true, .lst acc)), (some (false, s)), (some (false, .int d)), (some (false, .lst zs))]) rfl rfl rfl (Nat.lt_of_le_of_lt ha (by decide))
theorem good_len {x : List Nat} (h : good x = true) : 1 ≤ x.length ∧ x.length ≤ 4 := by
  unfold good at h
  simp only [Bool.and_eq_true, decide_eq_true_eq] at h
  exact ⟨h.1.1.1, h.1.1.2⟩
structure Stk (L : List Rw) : Prop where
  snds : good (L.map (·.1)) = true
  mks : ∀ p ∈ L, p.2 ∈ MKS
theorem Stk.len {L : List Rw} (h : Stk L) : 1 ≤ L.length ∧ L.length ≤ 4 := by simpa using good_len h.snds
theorem snd_inj : ∀ {x : List Nat} {L : List Rw}, sgs x = L.map snd → x = L.map (·.1)
  | [], [], _ => rfl
  | [], p :: L, h => by cases h
  | c :: x, [], h => by cases h
  | c :: x, p :: L, h => by
    have h' : D.str [c] :: sgs x = D.str [p.1] :: L.map snd := h
    injection h' with h1 h2
    injection h1 with h1
    injection h1 with h1
    rw [List.map_cons, ← snd_inj h2, h1]
theorem stock_of {x : List Nat} (hx : good x = true) (n : Int) (e0 : Option (Bool × D)) : ∃ L n' v4 v5 v6, Stk L ∧ x = L.map (·.1) ∧
    forO (gvName 4) stockBody (sgs x) [(some (true, .lst [.int n])), e0, (some (false, known)), (some (true, .lst [])), none, none, none] = .nx [(some (true, .lst [.int n'])), e0, (some (false, known)), (some (true, .lst (L.map row))), v4, v5, v6] := by
  have hxl := good_len hx
  obtain ⟨e', f1, n', L, v4, v5, v6, rfl, hs, hm⟩ := forO_inv' (g := gvName 4) (b := stockBody) (sgs x) (fun done env => ∃ (n : Int) (L : List Rw) (v4 v5 v6 : Option (Bool × D)), env = [(some (true, .lst [.int n])), e0, (some (false, known)), (some (true, .lst (L.map row))), v4, v5, v6] ∧ done = L.map snd ∧ ∀ p ∈ L, p.2 ∈ MKS)
    (fun done s rest hall env ⟨n, L, v4, v5, v6, he, hd, hm⟩ => by
      subst he
      have hl : L.length ≤ 4 := by
        have := congrArg List.length hall
        unfold sgs at this
        rw [List.length_map, List.length_append, List.length_cons, hd, List.length_map] at this
        omega
      obtain ⟨c, hc⟩ : ∃ c, s = .str [c] := by
        have : s ∈ sgs x := by rw [hall]; simp
        unfold sgs at this
        obtain ⟨c, _, e⟩ := List.mem_map.mp this
        exact ⟨c, e.symm⟩
      subst hc
      obtain ⟨ws, w5, w6, hw, hb⟩ := body n e0 v5 v6 (L.map row) (.str [c]) (by rw [List.length_map]; omega)
      refine ⟨_, _, rfl, hb, n / 32, L ++ [(c, ws)], (some (false, .str [c])), w5, w6, ?_, ?_, ?_⟩
      · rw [List.map_append]; rfl
      · rw [hd, List.map_append]; rfl
      · intro p hp
        rcases List.mem_append.mp hp with hp | hp
        · exact hm p hp
        · rw [List.mem_singleton.mp hp]; exact hw)
    [(some (true, .lst [.int n])), e0, (some (false, known)), (some (true, .lst [])), none, none, none] ⟨n, [], _, _, _, rfl, rfl, by simp⟩
  have e := snd_inj hs
  exact ⟨L, n', v4, v5, v6, ⟨by rw [← e]; exact hx, hm⟩, e, f1⟩
theorem stock (n : Int) : ∃ L n', Stk L ∧ f_law_stock [.lst [.int n]] = some (.tup (L.map row), .lst [.int n']) := by
  obtain ⟨x, n1, h1, hx⟩ := drawn n
  obtain ⟨L, n', v4, v5, v6, hL, e, f1⟩ := stock_of hx n1 (some (false, .str x))
  refine ⟨L, n', hL, runIO_eq (env := [(some (true, .lst [.int n'])), (some (false, .str x)), (some (false, known)), (some (true, .lst (L.map row))), v4, v5, v6]) ?_ rfl⟩
  unfold b_law_stock
  refine (stSeq_nx (e := [(some (true, .lst [.int n1])), (some (false, .str x)), none, none, none, none, none]) ?_).trans ?_
  · exact stAsg_eq (d := .str x) (e := [(some (true, .lst [.int n1])), none, none, none, none, none, none]) (evIO_eq (x := .lst [.int n]) (x0 := .lst [.int n]) (ds := []) (e1 := [(some (true, .lst [.int n])), none, none, none, none, none, none]) (by rfl) (by rfl) (by rfl) h1) (by rfl)
  refine (stSeq_nx (e := [(some (true, .lst [.int n1])), (some (false, .str x)), (some (false, known)), none, none, none, none]) (by rfl)).trans ?_
  refine (stSeq_nx (e := [(some (true, .lst [.int n1])), (some (false, .str x)), (some (false, known)), (some (true, .lst [])), none, none, none]) (by rfl)).trans ?_
  refine (stSeq_nx (e := [(some (true, .lst [.int n'])), (some (false, .str x)), (some (false, known)), (some (true, .lst (L.map row))), v4, v5, v6]) ?_).trans ?_
  · exact (stFor_eq (ds := sgs x) (by rfl)).trans f1
  · rfl
def has (ms : List (List Nat)) (p : Rw) : Bool := ms.all fun m => p.2.contains m
def kp (ms : List (List Nat)) (L : List Rw) : List D := (L.filter (has ms)).map snd
theorem join_snd (L : List Rw) (hL : L.length ≤ 4) : gJoin (.str []) (.lst (L.map snd)) = some (.str (L.map (·.1))) := by
  have e : strsD (L.map snd) = some (L.map fun p => [p.1]) := by
    induction L with
    | nil => rfl
    | cons p L ih =>
      rw [List.map_cons]
      show (strsD (L.map snd)).map _ = _
      rw [ih (by simp at hL; omega)]
      rfl
  show (match strsD (L.map snd) with | some xs => if joinFits [] xs = true then some (D.str (joinN [] xs)) else none | none => none) = _
  rw [e]
  have hf : joinFits [] (L.map fun p => [p.1]) = true := by
    unfold joinFits
    have : ((L.map fun p => [p.1]).map List.length).sum = L.length := by
      rw [List.map_map]
      clear e hL
      induction L with
      | nil => rfl
      | cons p L ih => rw [List.map_cons, List.sum_cons, ih]; simp; omega
    rw [this]
    exact decide_eq_true (by simp; omega)
  show (if joinFits [] (L.map fun p => [p.1]) = true then _ else _) = _
  rw [if_pos hf]
  congr 2
  match L with
  | [] => rfl
  | p :: L =>
    show (L.map fun q => [q.1]).foldl (fun acc y => acc ++ [] ++ y) [p.1] = _
    have go : ∀ (L : List Rw) (acc : List Nat), (L.map fun q => [q.1]).foldl (fun acc y => acc ++ [] ++ y) acc = acc ++ L.map (·.1) := by
      intro L
      induction L with
      | nil => intro acc; simp
      | cons q L ih => intro acc; rw [List.map_cons, List.foldl_cons, ih]; simp
    rw [go]
    rfl
theorem law_sounds (L : List Rw) (hL : L.length ≤ 4) : f_law_sounds [.tup (L.map row)] = some (.str (L.map (·.1))) := by
  obtain ⟨e', f1, v1, v2, rfl⟩ := lcE (g := gvTup 2 (gvCons (gvName 1) (gvCons (gvName 2) (gvNil)))) (e := evVar 1) (fun env => ∃ v1 v2, env = [(some (false, .tup (L.map row))), v1, v2]) row snd L [(some (false, .tup (L.map row))), none, none] ⟨_, _, rfl⟩
    (fun p hp env ⟨v1, v2, he⟩ => by
      subst he
      exact ⟨_, _, rfl, rfl, _, _, rfl⟩)
  have hl : evLC 1 3 (evIt (evVar 0)) (gvTup 2 (gvCons (gvName 1) (gvCons (gvName 2) (gvNil)))) evTrue (evVar 1) [(some (false, .tup (L.map row)))] = .ok (.lst (L.map snd)) [(some (false, .tup (L.map row)))] :=
    evLC_eq (lo := 1) (n := 3) (ds := L.map row) (ys := L.map snd) (env1 := [(some (false, .tup (L.map row)))]) (env2 := [(some (false, .tup (L.map row))), v1, v2]) (by rfl) rfl f1 (by rw [List.length_map]; exact Nat.le_trans hL (by decide))
  refine runP_eq (env := [(some (false, .tup (L.map row)))]) ?_
  unfold b_law_sounds
  exact stRet_eq (evBin_eq (x := .str []) rfl hl (join_snd L hL))
end K03
namespace K03
open Ev PySem L2
theorem turns {env : Ev.Env} {ns : List Int} (hlen : evCall gLen (evCons (evRd 0) evNil) env = .ok (.int (ns.length : Int)) env) (cap : Nat) (h1 : 1 ≤ cap) (h2 : cap ≤ 20) :
    ∃ ds, evRng (evCons (evC (.int 0)) (evCons (evCall gMax (evCons (evC (.int 1)) (evCons (evCall gMin (evCons (evCall gLen (evCons (evRd 0) evNil)) (evCons (evC (.int (cap : Int))) evNil))) evNil))) (evCons (evC (.int 2)) (evNil)))) env = .ok ds env ∧ ∀ d ∈ ds, ∃ k : Int, d = .int k ∧ 0 ≤ k ∧ k ≤ 100 := by
  have a1 : evCons (evC (.int 0)) (evCons (evCall gMax (evCons (evC (.int 1)) (evCons (evCall gMin (evCons (evCall gLen (evCons (evRd 0) evNil)) (evCons (evC (.int (cap : Int))) evNil))) evNil))) (evCons (evC (.int 2)) (evNil))) env = .ok [.int 0, .int (if (if (cap : Int) < ns.length then (cap : Int) else (ns.length : Int)) > 1 then (if (cap : Int) < ns.length then (cap : Int) else (ns.length : Int)) else 1), .int 2] env :=
    evCons_eq (d := .int 0) (by rfl) (evCons_eq (evCall_eq (ds := [.int 1, .int (if (cap : Int) < ns.length then (cap : Int) else (ns.length : Int))]) (evCons_eq (d := .int 1) (by rfl) (evCons_eq (evCall_eq (ds := [.int (ns.length : Int), .int (cap : Int)]) (evCons_eq hlen (by rfl)) (by rfl)) evNil_eq)) (by rfl)) (by rfl))
  generalize hm : (if (if (cap : Int) < ns.length then (cap : Int) else (ns.length : Int)) > 1 then (if (cap : Int) < ns.length then (cap : Int) else (ns.length : Int)) else 1) = m at a1
  have hm1 : 1 ≤ m ∧ m ≤ 20 := by
    rw [← hm]
    split <;> split <;> omega
  obtain ⟨j, rfl⟩ : ∃ j : Nat, m = (j : Int) := ⟨m.toNat, by omega⟩
  have hsm : (2 : Int) ≠ 0 ∧ (2 : Int).natAbs < 1073741824 ∧ Builtin.Range.small 0 (j : Int) 2 = true := by
    refine ⟨by decide, by decide, ?_⟩
    have hall : ((List.range 21).all fun (j : Nat) => Builtin.Range.small 0 (j : Int) 2) = true := by decide +kernel
    exact List.all_eq_true.mp hall j (List.mem_range.mpr (by omega))
  have hsz : (Builtin.Range.rangeSize 0 (j : Int) 2).toNat ≤ 20 := by
    have hall : ((List.range 21).all fun (j : Nat) => decide ((Builtin.Range.rangeSize 0 (j : Int) 2).toNat ≤ 20)) = true := by decide +kernel
    exact of_decide_eq_true (List.all_eq_true.mp hall j (List.mem_range.mpr (by omega)))
  have hrg : rngD [.int 0, .int (j : Int), .int 2] = some (stepsI 0 2 (Builtin.Range.rangeSize 0 (j : Int) 2).toNat) := by
    unfold rngD
    simp only
    rw [if_pos hsm]
  refine ⟨_, evRngE a1 hrg, fun d hd => ?_⟩
  unfold stepsI at hd
  obtain ⟨i, hi, rfl⟩ := List.mem_map.mp hd
  have := List.mem_range.mp hi
  exact ⟨0 + (i : Int) * 2, rfl, by omega, by omega⟩
end K03
namespace K04
open Ev PySem L2
local macro_rules | `(tactic| ac_rfl) => `(tactic| simp (maxSteps := 2000000) (disch := (first | ((try simp only [List.length_cons, List.length_nil, List.length_append, List.length_map, List.length_range, sizeLine, Nat.reducePow]) <;> omega) | fail)) only [↓sNx, ↓sRt, ↓bR, ↓bO, ↓lR, ↓lO, ↓iT, ↓iF, ↓rS, ↓bB, ↓oS, ↓nS, ↓obS, ↓kNx, ↓vS, ↓wS, ↓lS, ↓eS, ↓pS, ↓cS, ↓kStr, ↓kInt, stSeq_s, zR, zO, evTup_s, evLst_s, lS, stApp_s, stExt_s, gAdd_s', gAdd_t', gAdd_l', gCat_l', gSlT_cut, gSl_l, gSl_a, gSlS_s, gRev_s, gRevT_t, sNx, sRt, sBk, sCt, stIf_s, evIf_s, iT, iF, bR, bO, lR, lO, stRet_s, stAsg_s, stOwn_s, stNext_s, stRetN_s, evC_s, evNil_s, evCons_s, evBin_s, evUn_s, evCall_s, evVar_s, evRd_s, evBinO_s, rS, evAnd_s, evOr_s, evNot_s, evB_s, bB, evAndT_s, evOrT_s, evNotT_s, evIO_s, oS, evIOn_s, evChain_s, obS, evP_s, nS, evNoP_s, evSl_s, evSlS_s, evSlT_s, evRev_s, evDnew_s, stFor_s, gvName_s, gvT1, gvCons_s, gB, gvNil_s, evIt_s, evRng_s, itD_l, itD_a, itD_t, itD_s, eS, forO_c, forO_n, vS, kNx, kRt, kBk, kCt, lcO_c, lcO_n, wS, evTrue_s, runP_s, dRt, dNx, envOf, gIx_t, gIx_l, gIx_s, at0, at1, at2, at3, gAdd_i, gLen_s, gLen_t, gLen_l, gLen_a, gTuple_l, gTuple_t, gList_t, gList_l, gList_s, gEq_s, gNe_s, gEq_i, gNe_i, gIsi_t, gLe_i, gLt_i, gGt_i, gGe_i, gLt_s, gSub_i, gIn_c, gt0, gtS, st0, stS, cdT, cdF, Option.map_some, Option.bind_some, List.map_cons, List.map_nil, List.replicate_succ, List.replicate_zero, Nat.reduceAdd, Nat.reduceSub, List.length_cons, List.length_nil, List.cons_append, List.nil_append, Bool.not_true, Bool.not_false, nc0, nc1, nc2, nc3, nc4, nc5, nc6, nc7, nc8, Int.reduceBEq, Nat.reduceBEq, Int.reduceLE, Int.reduceLT, Nat.reduceLeDiff, Nat.reduceLT, Int.reduceAdd, Int.reduceSub, decide_true, decide_false, beq_self_eq_true, runIO_s, envIO, ioRt, ioNx, runN_s, nRt, stRetNew_s, pS, cS, kStr, kInt, stDput_s, gSlA_s, gSlA_t, gSlA_l, gSlA_a, evSlA_s, okT_s, okB_s, stk, kApp2_s, kApp3_s, kApp_s, kAsg_s, kB2_s, kB_s, kBin2_s, kBinO2_s, kBinO3_s, kBinO_s, kBin_s, kBlIf2_s, kBlIf_s, kCh2_s, kCh2b_s, kCh3_s, kCh4_s, kCh_s, kCons2_s, kCons_s, kDp1_s, kDp2_s, kDp3_s, kDp4_s, kDp5_s, kDp_s, kExt2_s, kExt3_s, kExt4_s, kExt_s, kFor_s, kIO1_s, kIO2_s, kIO3_s, kIO4_s, kIO5_s, kIO_s, kIOn2_s, kIOn3_s, kIOn_s, kIf_s, kLc2_s, kLc3_s, kLc4_s, kLc_s, kLst_s, kNot2_s, kNotT_s, kNot_s, kOwn_s, kP2_s, kP_s, kRd_s, kRetN_s, kRet_s, kSl2_s, kSl3_s, kSl_s, kTup_s, kUn_s, kVar_s, kWh_s, *] <;> try rfl)
def isS (z : List Nat) : D → Bool
  | .str w => w == z
  | _ => false
def inS (x : List Nat) : D → Bool
  | .str [c] => decide (c ∈ x)
  | _ => false
def pl : Nat → D → Bool
  | _, .arr _ => false
  | 0, _ => true
  | n + 1, .tup xs => xs.all (pl n)
  | _ + 1, _ => true
theorem pl0 {n : Nat} {d : D} (h : pl n d = true) : pl 0 d = true := by
  cases d with
  | arr xs => cases n <;> cases h
  | _ => rfl
theorem pl_tup {n : Nat} {xs : List D} (h : pl (n + 1) (.tup xs) = true) : ∀ d ∈ xs, pl n d = true := List.all_eq_true.mp h
theorem strs_map (zs : List (List Nat)) : strsD (zs.map D.str) = some zs := by
  induction zs with
  | nil => rfl
  | cons z r ih => rw [List.map_cons]; show (strsD _).map _ = _; rw [ih]; rfl
theorem sgs_map (x : List Nat) : sgs x = (x.map fun c => [c]).map .str := by unfold sgs; rw [List.map_map]; rfl
theorem inL_str (w : List Nat) : ∀ zs : List (List Nat), inL (.str w) (zs.map .str) = some (zs.any (· == w))
  | [] => rfl
  | z :: zs => by
    rw [List.map_cons]
    unfold inL
    rw [inL_str w zs]
    rfl
theorem inL_no {d : D} (h : ∀ z, eqN 59 (.str z) d = some false) : ∀ zs : List (List Nat), inL d (zs.map .str) = some false
  | [] => rfl
  | z :: zs => by
    rw [List.map_cons]
    unfold inL
    rw [inL_no h zs, h z]
    rfl
theorem in_strs (zs : List (List Nat)) (d : D) (h : pl 0 d = true) : gInA d (.tup (zs.map .str)) = some (.bl (zs.any fun z => isS z d)) := by
  have no : (∀ z, eqN 59 (.str z) d = some false) → (∀ z, isS z d = false) → gInA d (.tup (zs.map .str)) = some (.bl (zs.any fun z => isS z d)) := fun h1 h2 => by
    unfold gInA gIn gInS
    show ((Option.map D.bl (inL d (zs.map .str))).or _).or _ = _
    rw [inL_no h1]
    have : (zs.any fun z => isS z d) = false := by
      rw [List.any_eq_false]
      intro z _
      rw [h2]; exact Bool.false_ne_true
    rw [this]
    rfl
  cases d with
  | str w =>
    unfold gInA gIn gInS
    show ((Option.map D.bl (inL (.str w) (zs.map .str))).or _).or _ = _
    rw [inL_str]
    show some (D.bl _) = _
    congr 3
    funext z
    show (z == w) = (w == z)
    rw [Bool.eq_iff_iff, beq_iff_eq, beq_iff_eq]
    exact eq_comm
  | dct kvs =>
    unfold gInA gIn gInS
    have e1 : inL (.dct kvs) (zs.map .str) = none ∨ zs = [] := by
      cases zs with
      | nil => exact .inr rfl
      | cons z r => exact .inl (by rw [List.map_cons]; unfold inL; rfl)
    rcases e1 with e1 | rfl
    · show ((Option.map D.bl (inL (.dct kvs) (zs.map .str))).or none).or (if (strsD (zs.map .str)).isSome then some (.bl false) else none) = _
      rw [e1, strs_map]
      have : (zs.any fun z => isS z (.dct kvs)) = false := by
        rw [List.any_eq_false]
        intro z _
        exact Bool.false_ne_true
      rw [this]
      rfl
    · rfl
  | arr xs => cases h
  | non => exact no (fun _ => rfl) (fun _ => rfl)
  | bl b => exact no (fun _ => rfl) (fun _ => rfl)
  | int i => exact no (fun _ => rfl) (fun _ => rfl)
  | tup xs => exact no (fun _ => rfl) (fun _ => rfl)
  | lst xs => exact no (fun _ => rfl) (fun _ => rfl)
theorem in_x (x : List Nat) (d : D) (h : pl 0 d = true) : gInA d (.tup (sgs x)) = some (.bl (inS x d)) := by
  rw [sgs_map, in_strs _ _ h]
  congr 2
  rw [List.any_map]
  cases d with
  | str w =>
    match w with
    | [] => show (x.any fun c => ([] : List Nat) == [c]) = false; simp
    | [b] =>
      show (x.any fun c => [b] == [c]) = decide (b ∈ x)
      rw [Bool.eq_iff_iff]
      simp
    | a :: b :: r => show (x.any fun c => a :: b :: r == [c]) = false; simp
  | _ => show (x.any fun _ => false) = false; simp
theorem eq_str (z : List Nat) (d : D) (h : pl 0 d = true) : gEqA d (.str z) = some (.bl (isS z d)) := by
  cases d with
  | arr xs => cases h
  | _ => rfl
theorem eq_int (i j : Int) : gEqA (.int i) (.int j) = some (.bl (i == j)) := rfl
def neS : D → D → Bool
  | .str z, .str w => !(z == w)
  | _, _ => true
def prB : D → Bool
  | .tup [_, _] => true
  | _ => false
theorem is_pair (d : D) : f_is_pair [d] = some (.bl (prB d)) := by
  unfold f_is_pair b_is_pair
  have he := eq_int
  cases d with
  | tup ds =>
    have h1 : instD (.tup ds) "tuple" = true := rfl
    match ds with
    | [a, b] => rfl
    | [] => rfl
    | [_] => rfl
    | a :: b :: c :: r =>
      have h2 : (((r.length + 1 + 1 + 1 : Nat) : Int) == 2) = false := by rw [beq_eq_false_iff_ne]; omega
      ac_rfl
  | _ => rfl
def chB (x : List Nat) : D → Bool
  | .tup [a, b] => inS x a && ((inS x b || isS [] b) && neS a b)
  | _ => false
theorem inS_str {x : List Nat} {d : D} (h : inS x d = true) : ∃ c, d = .str [c] ∧ c ∈ x := by
  unfold inS at h
  split at h
  · rename_i c
    exact ⟨c, rfl, of_decide_eq_true h⟩
  · cases h
theorem isS_str {z : List Nat} {d : D} (h : isS z d = true) : d = .str z := by
  unfold isS at h
  split at h
  · rename_i w
    rw [eq_of_beq h]
  · cases h
theorem prB_no {d : D} (h : prB d = false) (x : List Nat) : chB x d = false := by
  unfold chB
  split
  · cases h
  · rfl
theorem changes_sound (x : List Nat) (d : D) (h : pl 1 d = true) : f_changes_sound [.tup (sgs x), d] = some (.bl (chB x d)) := by
  unfold f_changes_sound b_changes_sound
  have h1 := is_pair d
  cases hp : prB d with
  | false =>
    rw [hp] at h1
    have h2 := prB_no hp x
    ac_rfl
  | true =>
    rw [hp] at h1
    obtain ⟨a, b, rfl⟩ : ∃ a b, d = .tup [a, b] := by
      unfold prB at hp
      split at hp
      · exact ⟨_, _, rfl⟩
      · cases hp
    have pa := pl_tup h a (by simp)
    have pb := pl_tup h b (by simp)
    have h3 := in_x x a pa
    have h4 := in_x x b pb
    have h5 := eq_str [] b pb
    have h6 : chB x (.tup [a, b]) = (inS x a && ((inS x b || isS [] b) && neS a b)) := rfl
    rw [h6]
    clear h6 pa pb h hp
    cases ea : inS x a with
    | false => rw [ea] at h3; ac_rfl
    | true =>
      rw [ea] at h3
      cases eb : inS x b with
      | false =>
        rw [eb] at h4
        cases ec : isS [] b with
        | false => rw [ec] at h5; ac_rfl
        | true =>
          rw [ec] at h5
          obtain ⟨c, rfl, _⟩ := inS_str ea
          obtain rfl := isS_str ec
          ac_rfl
      | true =>
        rw [eb] at h4
        obtain ⟨c, rfl, _⟩ := inS_str ea
        obtain ⟨c', rfl, _⟩ := inS_str eb
        clear h5
        ac_rfl
def piB (x : List Nat) : D → Bool
  | .tup [a, b] => isS [] a && inS x b
  | _ => false
theorem puts_one_in (x : List Nat) (d : D) (h : pl 1 d = true) : f_puts_one_in [.tup (sgs x), d] = some (.bl (piB x d)) := by
  unfold f_puts_one_in b_puts_one_in
  have h1 := is_pair d
  cases hp : prB d with
  | false =>
    rw [hp] at h1
    have h2 : piB x d = false := by
      unfold piB
      split
      · cases hp
      · rfl
    ac_rfl
  | true =>
    rw [hp] at h1
    obtain ⟨a, b, rfl⟩ : ∃ a b, d = .tup [a, b] := by
      unfold prB at hp
      split at hp
      · exact ⟨_, _, rfl⟩
      · cases hp
    have h4 := in_x x b (pl_tup h b (by simp))
    have h5 := eq_str [] a (pl_tup h a (by simp))
    have h6 : piB x (.tup [a, b]) = (isS [] a && inS x b) := rfl
    rw [h6]
    clear h6 h hp
    cases ea : isS [] a with
    | false => rw [ea] at h5; ac_rfl
    | true => rw [ea] at h5; ac_rfl
end K04
namespace K04
open Ev PySem L2
local macro_rules | `(tactic| ac_rfl) => `(tactic| simp (maxSteps := 2000000) (disch := (first | ((try simp only [List.length_cons, List.length_nil, List.length_append, List.length_map, List.length_range, sizeLine, Nat.reducePow]) <;> omega) | fail)) only [↓sNx, ↓sRt, ↓bR, ↓bO, ↓lR, ↓lO, ↓iT, ↓iF, ↓rS, ↓bB, ↓oS, ↓nS, ↓obS, ↓kNx, ↓vS, ↓wS, ↓lS, ↓eS, ↓pS, ↓cS, ↓kStr, ↓kInt, stSeq_s, zR, zO, evTup_s, evLst_s, lS, stApp_s, stExt_s, gAdd_s', gAdd_t', gAdd_l', gCat_l', gSlT_cut, gSl_l, gSl_a, gSlS_s, gRev_s, gRevT_t, sNx, sRt, sBk, sCt, stIf_s, evIf_s, iT, iF, bR, bO, lR, lO, stRet_s, stAsg_s, stOwn_s, stNext_s, stRetN_s, evC_s, evNil_s, evCons_s, evBin_s, evUn_s, evCall_s, evVar_s, evRd_s, evBinO_s, rS, evAnd_s, evOr_s, evNot_s, evB_s, bB, evAndT_s, evOrT_s, evNotT_s, evIO_s, oS, evIOn_s, evChain_s, obS, evP_s, nS, evNoP_s, evSl_s, evSlS_s, evSlT_s, evRev_s, evDnew_s, stFor_s, gvName_s, gvT1, gvCons_s, gB, gvNil_s, evIt_s, evRng_s, itD_l, itD_a, itD_t, itD_s, eS, forO_c, forO_n, vS, kNx, kRt, kBk, kCt, lcO_c, lcO_n, wS, evTrue_s, runP_s, dRt, dNx, envOf, gIx_t, gIx_l, gIx_s, at0, at1, at2, at3, gAdd_i, gLen_s, gLen_t, gLen_l, gLen_a, gTuple_l, gTuple_t, gList_t, gList_l, gList_s, gEq_s, gNe_s, gEq_i, gNe_i, gIsi_t, gLe_i, gLt_i, gGt_i, gGe_i, gLt_s, gSub_i, gIn_c, gt0, gtS, st0, stS, cdT, cdF, Option.map_some, Option.bind_some, List.map_cons, List.map_nil, List.replicate_succ, List.replicate_zero, Nat.reduceAdd, Nat.reduceSub, List.length_cons, List.length_nil, List.cons_append, List.nil_append, Bool.not_true, Bool.not_false, nc0, nc1, nc2, nc3, nc4, nc5, nc6, nc7, nc8, Int.reduceBEq, Nat.reduceBEq, Int.reduceLE, Int.reduceLT, Nat.reduceLeDiff, Nat.reduceLT, Int.reduceAdd, Int.reduceSub, decide_true, decide_false, beq_self_eq_true, runIO_s, envIO, ioRt, ioNx, runN_s, nRt, stRetNew_s, pS, cS, kStr, kInt, stDput_s, gSlA_s, gSlA_t, gSlA_l, gSlA_a, evSlA_s, okT_s, okB_s, stk, kApp2_s, kApp3_s, kApp_s, kAsg_s, kB2_s, kB_s, kBin2_s, kBinO2_s, kBinO3_s, kBinO_s, kBin_s, kBlIf2_s, kBlIf_s, kCh2_s, kCh2b_s, kCh3_s, kCh4_s, kCh_s, kCons2_s, kCons_s, kDp1_s, kDp2_s, kDp3_s, kDp4_s, kDp5_s, kDp_s, kExt2_s, kExt3_s, kExt4_s, kExt_s, kFor_s, kIO1_s, kIO2_s, kIO3_s, kIO4_s, kIO5_s, kIO_s, kIOn2_s, kIOn3_s, kIOn_s, kIf_s, kLc2_s, kLc3_s, kLc4_s, kLc_s, kLst_s, kNot2_s, kNotT_s, kNot_s, kOwn_s, kP2_s, kP_s, kRd_s, kRetN_s, kRet_s, kSl2_s, kSl3_s, kSl_s, kTup_s, kUn_s, kVar_s, kWh_s, *] <;> try rfl)
def risB : List (List Nat) → Bool
  | [] => true
  | [_] => true
  | x :: y :: r => decide (x < y) && risB (y :: r)
theorem ris_all : ∀ zs : List (List Nat), ((List.range (zs.length - 1)).all fun i => decide (zs.getD i [] < zs.getD (i + 1) [])) = risB zs
  | [] => rfl
  | [_] => rfl
  | x :: y :: r => by
    have ih := ris_all (y :: r)
    have e : (x :: y :: r).length - 1 = (y :: r).length - 1 + 1 := by simp
    rw [e, List.range_succ_eq_map, List.all_cons, List.all_map]
    show _ = (decide (x < y) && risB (y :: r))
    rw [← ih]
    rfl
theorem rises (t : List D → D) (ht : t = .tup ∨ t = .lst) (zs : List (List Nat)) (hz : zs.length ≤ 1000) : f_rises [t (zs.map .str)] = some (.bl (risB zs)) := by
  unfold f_rises b_rises
  have hlen : gLen [t (zs.map .str)] = some (.int zs.length) := by rcases ht with rfl | rfl <;> simp [gLen]
  have hr : rngD [.int ((zs.length : Int) - 1)] = some ((List.range (zs.length - 1)).map fun (i : Nat) => D.int (i : Int)) := by
    cases zs with
    | nil => rfl
    | cons z r =>
      have e : (((z :: r).length : Int) - 1) = ((r.length : Nat) : Int) := by rw [List.length_cons]; omega
      rw [e, rng1 (by simp at hz; omega)]
      rfl
  have h4 : lc_rises_1 [(some (false, t (zs.map .str)))] = .ok (.lst ((List.range (zs.length - 1)).map fun i => .bl (decide (zs.getD i [] < zs.getD (i + 1) [])))) [(some (false, t (zs.map .str)))] := by
    unfold lc_rises_1
    refine evLC_1 (List.range (zs.length - 1)) (fun i => .int (i : Nat)) (fun i => .bl (decide (zs.getD i [] < zs.getD (i + 1) []))) (by ac_rfl) rfl rfl (fun i hi => ?_) (by rw [List.length_range]; exact Nat.le_trans (show zs.length - 1 ≤ 1000 by omega) (by decide))
    have hi := List.mem_range.mp hi
    have g : ∀ j : Nat, j < zs.length → gIx (t (zs.map .str)) (.int (j : Int)) = some (.str (zs.getD j [])) := fun j hj => by
      rcases ht with rfl | rfl <;> simp [gIx_t, gIx_l, atN, hj]
    have g1 := g i (by omega)
    have g2 := g (i + 1) (by omega)
    rw [show (((i + 1 : Nat) : Int)) = (i : Int) + 1 from rfl] at g2
    ac_rfl
  have h5 := gAllM (fun i => decide (zs.getD i [] < zs.getD (i + 1) [])) (List.range (zs.length - 1))
  rw [ris_all] at h5
  ac_rfl
def risD (ds : List D) : Bool := match strsD ds with
  | some zs => risB zs
  | none => false
theorem risD_str (zs : List (List Nat)) : risD (zs.map .str) = risB zs := by unfold risD; rw [strs_map]
def fst : D → D
  | .tup (a :: _) => a
  | d => d
theorem all_strs {p : D → Bool} (f : D → D) (hp : ∀ d, p d = true → ∃ z, f d = .str z) : ∀ {ds : List D}, ds.all p = true → ∃ zs : List (List Nat), ds.map f = zs.map .str
  | [], _ => ⟨[], rfl⟩
  | d :: ds, h => by
    rw [List.all_cons, Bool.and_eq_true] at h
    obtain ⟨zs, hz⟩ := all_strs f hp h.2
    obtain ⟨z, e⟩ := hp d h.1
    exact ⟨z :: zs, by rw [List.map_cons, List.map_cons, hz, e]⟩
theorem chB_fst {x : List Nat} {d : D} (h : chB x d = true) : ∃ z, fst d = .str z := by
  unfold chB at h
  split at h
  · rename_i a b
    rw [Bool.and_eq_true] at h
    obtain ⟨c, rfl, _⟩ := inS_str h.1
    exact ⟨[c], rfl⟩
  · cases h
theorem chB_pair {x : List Nat} {d : D} (h : chB x d = true) : ∃ a b, d = .tup [a, b] := by
  unfold chB at h
  split at h
  · exact ⟨_, _, rfl⟩
  · cases h
def ccB (x : List Nat) : D → Bool
  | .tup ds => !ds.isEmpty && ((ds.length == 1 && piB x (ds.headD .non)) || (ds.all (chB x) && risD (ds.map fst)))
  | _ => false
theorem are_changes (x : List Nat) (d : D) (h : pl 2 d = true) (hz : ∀ ds, d = .tup ds → ds.length ≤ 1000) : f_are_changes [.tup (sgs x), d] = some (.bl (ccB x d)) := by
  unfold f_are_changes b_are_changes
  have he := eq_int
  cases d with
  | tup ds =>
    have hz := hz ds rfl
    have h1 : instD (.tup ds) "tuple" = true := rfl
    have h6 : ccB x (.tup ds) = (!ds.isEmpty && ((ds.length == 1 && piB x (ds.headD .non)) || (ds.all (chB x) && risD (ds.map fst)))) := rfl
    rw [h6]
    clear h6
    have c1 : lc_are_changes_1 [(some (false, .tup (sgs x))), (some (false, .tup ds))] = .ok (.lst (ds.map fun d => .bl (chB x d))) [(some (false, .tup (sgs x))), (some (false, .tup ds))] := by
      unfold lc_are_changes_1
      refine evLC_1 ds id (fun d => .bl (chB x d)) (by rw [List.map_id]; ac_rfl) rfl rfl (fun d hd => ?_) (Nat.le_trans hz (by decide))
      have := changes_sound x d (pl_tup h d hd)
      simp only [id]
      ac_rfl
    have h5 := gAllM (chB x) ds
    have rest : retD (stRet (evAnd (evCall gAll (evCons (lc_are_changes_1) evNil)) (evCall f_rises (evCons (lc_are_changes_2) (evNil)))) [(some (false, .tup (sgs x))), (some (false, .tup ds))]) = some (.bl (ds.all (chB x) && risD (ds.map fst))) := by
      cases hn : ds.all (chB x) with
      | false => rw [hn] at h5; ac_rfl
      | true =>
        rw [hn] at h5
        obtain ⟨zs, e⟩ := all_strs fst (fun d => chB_fst) hn
        have hl := congrArg List.length e
        rw [List.length_map, List.length_map] at hl
        have c2 : lc_are_changes_2 [(some (false, .tup (sgs x))), (some (false, .tup ds))] = .ok (.lst (ds.map fst)) [(some (false, .tup (sgs x))), (some (false, .tup ds))] := by
          unfold lc_are_changes_2
          have := evLC_p (lo := 2) (n := 4) (it := evIt (evVar 1)) (g := gvTup 2 (gvCons (gvName 2) (gvCons (gvName 3) (gvNil)))) (c := evTrue) (e := evVar 2) (env := [(some (false, .tup (sgs x))), (some (false, .tup ds))]) ds id (fun d => match d with | .tup [a, b] => [(some (false, a)), (some (false, b))] | _ => [none, none]) (fun _ => true) fst (by rw [List.map_id]; ac_rfl) rfl (fun d hd => by
            obtain ⟨a, b, rfl⟩ := chB_pair (List.all_eq_true.mp hn d hd)
            refine ⟨rfl, fun vs hv => ?_, rfl, fun _ => rfl⟩
            match vs, hv with
            | [_, _], _ => rfl) (Nat.le_trans hz (by decide))
          rw [List.filter_eq_self.mpr (fun _ _ => rfl)] at this
          exact this
        rw [e] at c2
        have h6 := rises .lst (.inr rfl) zs (by omega)
        rw [e, risD_str]
        clear hl e
        ac_rfl
    match ds with
    | [] => rfl
    | [a] =>
      have h7 := puts_one_in x a (pl_tup h a (by simp))
      show _ = some (D.bl (true && ((true && piB x a) || _)))
      cases hp : piB x a with
      | true => rw [hp] at h7; clear rest c1 h5; ac_rfl
      | false =>
        rw [hp] at h7
        generalize hR : (stRet (evAnd (evCall gAll (evCons (lc_are_changes_1) evNil)) (evCall f_rises (evCons (lc_are_changes_2) (evNil))))) = R at rest ⊢
        generalize hB : ([a].all (chB x) && risD (List.map fst [a])) = B at rest ⊢
        clear c1 h5 hz
        ac_rfl
    | a :: b :: r =>
      have h7 : (((r.length + 1 + 1 : Nat) : Int) == 1) = false := by rw [beq_eq_false_iff_ne]; omega
      have h8 : (((r.length + 1 + 1 : Nat) : Int) == 0) = false := by rw [beq_eq_false_iff_ne]; omega
      have h9 : ((a :: b :: r).length == 1) = false := by rw [beq_eq_false_iff_ne, List.length_cons, List.length_cons]; omega
      rw [h9]
      generalize hR : (stRet (evAnd (evCall gAll (evCons (lc_are_changes_1) evNil)) (evCall f_rises (evCons (lc_are_changes_2) (evNil))))) = R at rest ⊢
      generalize hB : ((a :: b :: r).all (chB x) && risD (List.map fst (a :: b :: r))) = B at rest ⊢
      clear c1 h5 hz h9
      ac_rfl
  | _ => rfl
def sgnB (x : List Nat) (d : D) : Bool := isS [35] d || inS x d
theorem sgn_str {x : List Nat} {d : D} (h : sgnB x d = true) : ∃ z, id d = .str z := by
  unfold sgnB at h
  rw [Bool.or_eq_true] at h
  rcases h with h | h
  · exact ⟨_, isS_str h⟩
  · obtain ⟨c, rfl, _⟩ := inS_str h
    exact ⟨[c], rfl⟩
def sgB (x : List Nat) : D → Bool
  | .non => true
  | .tup ds => !ds.isEmpty && (ds.all (sgnB x) && risD ds)
  | _ => false
theorem are_signs (x : List Nat) (d : D) (h : pl 1 d = true) (hz : ∀ ds, d = .tup ds → ds.length ≤ 1000) : f_are_signs [.tup (sgs x), d] = some (.bl (sgB x d)) := by
  unfold f_are_signs b_are_signs
  have he := eq_int
  cases d with
  | tup ds =>
    have hz := hz ds rfl
    have h1 : instD (.tup ds) "tuple" = true := rfl
    have h6 : sgB x (.tup ds) = (!ds.isEmpty && (ds.all (sgnB x) && risD ds)) := rfl
    have h0 : gIs (.tup ds) .non = some (.bl false) := rfl
    rw [h6]
    clear h6
    have c1 : lc_are_signs_1 [(some (false, .tup (sgs x))), (some (false, .tup ds))] = .ok (.lst (ds.map fun d => .bl (sgnB x d))) [(some (false, .tup (sgs x))), (some (false, .tup ds))] := by
      unfold lc_are_signs_1
      refine evLC_1 ds id (fun d => .bl (sgnB x d)) (by rw [List.map_id]; ac_rfl) rfl rfl (fun d hd => ?_) (Nat.le_trans hz (by decide))
      have e1 := eq_str [35] d (pl_tup h d hd)
      have e2 := in_x x d (pl_tup h d hd)
      simp only [id, sgnB]
      cases hs : isS [35] d with
      | true => rw [hs] at e1; ac_rfl
      | false => rw [hs] at e1; ac_rfl
    have h5 := gAllM (sgnB x) ds
    cases ds with
    | nil => rfl
    | cons a r =>
      have h8 : (((r.length + 1 : Nat) : Int) == 0) = false := by rw [beq_eq_false_iff_ne]; omega
      cases hn : (a :: r).all (sgnB x) with
      | false =>
        rw [hn] at h5
        generalize List.map (fun d => D.bl (sgnB x d)) (a :: r) = T at c1 h5
        ac_rfl
      | true =>
        rw [hn] at h5
        obtain ⟨zs, e⟩ := all_strs id (fun d => sgn_str) hn
        rw [List.map_id] at e
        generalize List.map (fun d => D.bl (sgnB x d)) (a :: r) = T at c1 h5
        have hl := congrArg List.length e
        rw [List.length_map] at hl
        have h6 := rises .tup (.inl rfl) zs (by omega)
        rw [← e] at h6
        rw [e, risD_str, ← e]
        clear hl e hn
        ac_rfl
  | _ => rfl
def wyB (d : D) : Bool := isS [111, 110, 99, 101] d || isS [97, 108, 111, 110, 103] d
def rlB (x : List Nat) : D → Bool
  | .tup [w, c, l, r] => wyB w && (ccB x c && (sgB x l && sgB x r))
  | _ => false
def sz (d : D) : Prop := ∀ ds, d = .tup ds → ds.length ≤ 1000
theorem is_rule (S : D) (x : List Nat) (hS : f_sounds_of [S] = some (.tup (sgs x))) (d : D) (h : pl 3 d = true) (hz : ∀ ds, d = .tup ds → ∀ e ∈ ds, sz e) : f_is_rule [S, d] = some (.bl (rlB x d)) := by
  unfold f_is_rule b_is_rule
  cases d with
  | tup ds =>
    have h1 : instD (.tup ds) "tuple" = true := rfl
    match ds with
    | [w, c, l, r] =>
      have hz := hz _ rfl
      have h6 : rlB x (.tup [w, c, l, r]) = (wyB w && (ccB x c && (sgB x l && sgB x r))) := rfl
      rw [h6]
      have p := pl_tup h
      have mono : ∀ {d : D}, pl 2 d = true → pl 1 d = true := fun {d} hd => by
        cases d with
        | tup xs => exact List.all_eq_true.mpr fun e he => pl0 (List.all_eq_true.mp hd e he)
        | arr xs => cases hd
        | _ => rfl
      have i1 := in_strs [[111, 110, 99, 101], [97, 108, 111, 110, 103]] w (pl0 (p w (by simp)))
      have ew : ([[111, 110, 99, 101], [97, 108, 111, 110, 103]].any fun z => isS z w) = wyB w := by
        show (isS _ w || (isS _ w || false)) = (isS _ w || isS _ w)
        rw [Bool.or_false]
      rw [ew, List.map_cons, List.map_cons, List.map_nil] at i1
      have i2 := are_changes x c (p c (by simp)) (hz c (by simp))
      have i3 := are_signs x l (mono (p l (by simp))) (hz l (by simp))
      have i4 := are_signs x r (mono (p r (by simp))) (hz r (by simp))
      clear h6 ew p mono h hz
      cases hw : wyB w with
      | false => rw [hw] at i1; ac_rfl
      | true =>
        rw [hw] at i1
        cases hc : ccB x c with
        | false => rw [hc] at i2; ac_rfl
        | true =>
          rw [hc] at i2
          cases hl : sgB x l with
          | false => rw [hl] at i3; ac_rfl
          | true => rw [hl] at i3; ac_rfl
    | [] => rfl
    | [_] => rfl
    | [_, _] => rfl
    | [_, _, _] => rfl
    | a :: b :: c :: e :: f :: r =>
      have h7 : (((r.length + 1 + 1 + 1 + 1 + 1 : Nat) : Int) == 4) = false := by rw [beq_eq_false_iff_ne]; omega
      clear hz h
      ac_rfl
  | _ => rfl
end K04
namespace K04
open Ev PySem L2
local macro_rules | `(tactic| ac_rfl) => `(tactic| simp (maxSteps := 2000000) (disch := (first | ((try simp only [List.length_cons, List.length_nil, List.length_append, List.length_map, List.length_range, sizeLine, Nat.reducePow]) <;> omega) | fail)) only [↓sNx, ↓sRt, ↓bR, ↓bO, ↓lR, ↓lO, ↓iT, ↓iF, ↓rS, ↓bB, ↓oS, ↓nS, ↓obS, ↓kNx, ↓vS, ↓wS, ↓lS, ↓eS, ↓pS, ↓cS, ↓kStr, ↓kInt, stSeq_s, zR, zO, evTup_s, evLst_s, lS, stApp_s, stExt_s, gAdd_s', gAdd_t', gAdd_l', gCat_l', gSlT_cut, gSl_l, gSl_a, gSlS_s, gRev_s, gRevT_t, sNx, sRt, sBk, sCt, stIf_s, evIf_s, iT, iF, bR, bO, lR, lO, stRet_s, stAsg_s, stOwn_s, stNext_s, stRetN_s, evC_s, evNil_s, evCons_s, evBin_s, evUn_s, evCall_s, evVar_s, evRd_s, evBinO_s, rS, evAnd_s, evOr_s, evNot_s, evB_s, bB, evAndT_s, evOrT_s, evNotT_s, evIO_s, oS, evIOn_s, evChain_s, obS, evP_s, nS, evNoP_s, evSl_s, evSlS_s, evSlT_s, evRev_s, evDnew_s, stFor_s, gvName_s, gvT1, gvCons_s, gB, gvNil_s, evIt_s, evRng_s, itD_l, itD_a, itD_t, itD_s, eS, forO_c, forO_n, vS, kNx, kRt, kBk, kCt, lcO_c, lcO_n, wS, evTrue_s, runP_s, dRt, dNx, envOf, gIx_t, gIx_l, gIx_s, at0, at1, at2, at3, gAdd_i, gLen_s, gLen_t, gLen_l, gLen_a, gTuple_l, gTuple_t, gList_t, gList_l, gList_s, gEq_s, gNe_s, gEq_i, gNe_i, gIsi_t, gLe_i, gLt_i, gGt_i, gGe_i, gLt_s, gSub_i, gIn_c, gt0, gtS, st0, stS, cdT, cdF, Option.map_some, Option.bind_some, List.map_cons, List.map_nil, List.replicate_succ, List.replicate_zero, Nat.reduceAdd, Nat.reduceSub, List.length_cons, List.length_nil, List.cons_append, List.nil_append, Bool.not_true, Bool.not_false, nc0, nc1, nc2, nc3, nc4, nc5, nc6, nc7, nc8, Int.reduceBEq, Nat.reduceBEq, Int.reduceLE, Int.reduceLT, Nat.reduceLeDiff, Nat.reduceLT, Int.reduceAdd, Int.reduceSub, decide_true, decide_false, beq_self_eq_true, runIO_s, envIO, ioRt, ioNx, runN_s, nRt, stRetNew_s, pS, cS, kStr, kInt, stDput_s, gSlA_s, gSlA_t, gSlA_l, gSlA_a, evSlA_s, okT_s, okB_s, stk, kApp2_s, kApp3_s, kApp_s, kAsg_s, kB2_s, kB_s, kBin2_s, kBinO2_s, kBinO3_s, kBinO_s, kBin_s, kBlIf2_s, kBlIf_s, kCh2_s, kCh2b_s, kCh3_s, kCh4_s, kCh_s, kCons2_s, kCons_s, kDp1_s, kDp2_s, kDp3_s, kDp4_s, kDp5_s, kDp_s, kExt2_s, kExt3_s, kExt4_s, kExt_s, kFor_s, kIO1_s, kIO2_s, kIO3_s, kIO4_s, kIO5_s, kIO_s, kIOn2_s, kIOn3_s, kIOn_s, kIf_s, kLc2_s, kLc3_s, kLc4_s, kLc_s, kLst_s, kNot2_s, kNotT_s, kNot_s, kOwn_s, kP2_s, kP_s, kRd_s, kRetN_s, kRet_s, kSl2_s, kSl3_s, kSl_s, kTup_s, kUn_s, kVar_s, kWh_s, *] <;> try rfl)
open K03 (good)
structure Snd (x : List Nat) : Prop where
  pos : 1 ≤ x.length
  few : x.length ≤ 4
  ltr : ∀ c ∈ x, 97 ≤ c ∧ c ≤ 122
  ris : x.Pairwise (· < ·)
theorem snd_of {x : List Nat} (h : good x = true) : Snd x := by
  unfold good at h
  simp only [Bool.and_eq_true, decide_eq_true_eq, List.all_eq_true] at h
  refine ⟨h.1.1.1, h.1.1.2, h.1.2, ?_⟩
  have go : ∀ x : List Nat, K03.risingB x = true → x.Pairwise (· < ·) := by
    intro x
    induction x with
    | nil => intro _; exact .nil
    | cons a r ih =>
      intro hr
      cases r with
      | nil => exact List.pairwise_singleton _ _
      | cons b r =>
        have hr' : (decide (a < b) && K03.risingB (b :: r)) = true := hr
        rw [Bool.and_eq_true, decide_eq_true_eq] at hr'
        have ih := ih hr'.2
        refine List.Pairwise.cons (fun z hz => ?_) ih
        rcases List.mem_cons.mp hz with rfl | hz
        · exact hr'.1
        · exact Nat.lt_trans hr'.1 ((List.pairwise_cons.mp ih).1 z hz)
  exact go _ h.2
theorem tk (n m : Int) (h : 0 < m ∧ m < 1073741824) : f_law_take [.lst [.int n], .int m] = some (.int (n % m), .lst [.int (n / m)]) := by
  unfold f_law_take b_law_take
  have e : gDivmod [.int n, .int m] = some (.tup [.int (n / m), .int (n % m)]) := if_pos h
  have g : ∀ (d : D) (a b : Option (Bool × D)), gvAt 0 (evC (.int 0)) d [(some (true, .lst [.int n])), a, b] = some [(some (true, .lst [d])), a, b] := fun _ _ _ => rfl
  ac_rfl
def pb (n k : Nat) : Bool := Builtin.bitAnd ((n : Int) / 2 ^ k) 1 == 1
theorem lc_signs (z : List Nat) (hz : z.length ≤ 100) (n : Nat) (a b : Option (Bool × D)) : lc_law_signs_1 [a, b, (some (false, .int (n : Int))), (some (false, .str z))] = .ok (.lst (((List.range z.length).filter (pb n)).map fun k => .str [z.getD k 0])) [a, b, (some (false, .int (n : Int))), (some (false, .str z))] := by
  unfold lc_law_signs_1
  refine evLC_1f (List.range z.length) (fun k => .int (k : Nat)) (pb n) (fun k => .str [z.getD k 0]) ?_ rfl rfl (fun k hk => ?_) (fun k hk _ => ?_) (by rw [List.length_range]; exact Nat.le_trans hz (by decide))
  · have := rng1 (n := z.length) (by omega)
    ac_rfl
  · have h1 : gShr (.int (n : Int)) (.int (k : Int)) = some (.int ((n : Int) / 2 ^ k)) := by
      unfold gShr gI
      simp only
      rw [if_pos (decide_eq_true (Int.natCast_nonneg k)), Int.toNat_natCast]
    have h2 : gAnd (.int ((n : Int) / 2 ^ k)) (.int 1) = some (.int (Builtin.bitAnd ((n : Int) / 2 ^ k) 1)) := rfl
    unfold pb
    ac_rfl
  · have hk := List.mem_range.mp hk
    have h1 : atI z (k : Int) = some (z.getD k 0) := by rw [atN]; simp [hk]
    ac_rfl
theorem pick_sub (z : List Nat) (n : Nat) : ∃ u : List Nat, u.Sublist z ∧ ((List.range z.length).filter (pb n)).map (fun k => D.str [z.getD k 0]) = sgs u := by
  refine ⟨((List.range z.length).filter (pb n)).map fun k => z.getD k 0, ?_, ?_⟩
  · have e : (List.range z.length).map (fun k => z.getD k 0) = z := by
      apply List.ext_getElem
      · simp
      · intro i h1 h2
        simp [h2]
    have := (List.filter_sublist (p := pb n) (l := List.range z.length)).map fun k => z.getD k 0
    rw [e] at this
    exact this
  · unfold sgs
    rw [List.map_map]
    rfl
theorem pick_pos : ∀ m, 2 ≤ m → m ≤ 5 → ∀ n, 1 ≤ n → n < 2 ^ m → (List.range m).filter (pb n) ≠ [] := by
  have h : ((List.range 6).all fun m => (List.range (2 ^ m)).all fun n => decide (n = 0) || !((List.range m).filter (pb n)).isEmpty) = true := by decide +kernel
  intro m h1 h2 n h3 h4
  have := List.all_eq_true.mp (List.all_eq_true.mp h m (List.mem_range.mpr (by omega))) n (List.mem_range.mpr h4)
  rw [Bool.or_eq_true] at this
  rcases this with e | e
  · have := of_decide_eq_true e; omega
  · intro z
    rw [z] at e
    cases e
inductive SgOk (x : List Nat) : D → Prop
  | non : SgOk x .non
  | some (u : List Nat) : u ≠ [] → u.Sublist (35 :: x) → SgOk x (.tup (sgs u))
theorem signs (n : Int) (x : List Nat) (hx : Snd x) : ∃ r n', f_law_signs [.lst [.int n], .str x] = some (r, .lst [.int n']) ∧ SgOk x r := by
  have ht := tk
  obtain ⟨d, hd, e⟩ := dig n 2 (by decide)
  have e' : n % 2 = (d : Int) := e
  have h1 := hx.pos
  have h2 := hx.few
  by_cases h0 : d = 0
  · subst h0
    refine ⟨.non, n / 2, ?_, .non⟩
    unfold f_law_signs b_law_signs
    clear hx
    ac_rfl
  · have h0' : ((d : Int) == 0) = false := by rw [beq_eq_false_iff_ne]; omega
    have hp : 2 ^ (x.length + 1) = 2 * 2 ^ x.length := by rw [Nat.pow_succ]; omega
    have hpp : 0 < 2 ^ x.length := Nat.pow_pos (by decide)
    have hl : 2 ^ x.length ≤ 16 := Nat.le_trans (Nat.pow_le_pow_right (by decide) h2) (by decide)
    obtain ⟨m, hm, em⟩ := dig (n / 2) (2 * 2 ^ x.length - 1) (by omega)
    have ec : (((2 * 2 ^ x.length - 1 : Nat)) : Int) = 2 * 2 ^ x.length - 1 := by
      rw [Int.natCast_sub (by omega)]
      push_cast
      rfl
    rw [ec] at em
    have hs : gShl (.int 2) (.int (x.length : Int)) = some (.int (2 * 2 ^ x.length)) := by
      unfold gShl gI
      simp only
      rw [if_pos (decide_eq_true ⟨by omega, by omega, by decide⟩), Int.toNat_natCast]
    obtain ⟨u, hu, eu⟩ := pick_sub (35 :: x) (1 + m)
    have hlc := lc_signs (35 :: x) (by rw [List.length_cons]; omega) (1 + m) (some (true, .lst [.int (n / 2 / (2 * 2 ^ x.length - 1))])) (some (false, .str x))
    rw [eu] at hlc
    have e1 : (((1 + m : Nat)) : Int) = 1 + (m : Int) := by push_cast; rfl
    rw [e1] at hlc
    have hb : (0 : Int) < 2 * 2 ^ x.length - 1 ∧ (2 : Int) * 2 ^ x.length - 1 < 1073741824 := by
      have hI : (2 : Int) ^ x.length = ((2 ^ x.length : Nat) : Int) := by push_cast; rfl
      rw [hI]
      clear em hs ec hp hlc eu e1 hm
      generalize 2 ^ x.length = j at hpp hl ⊢
      omega
    have ht2 := tk (n / 2) (2 * 2 ^ x.length - 1) hb
    rw [em] at ht2
    have hadd : gAdd (.str [35]) (.str x) = some (.str (35 :: x)) := gAdd_s' (a := [35]) (Nat.le_trans (show 1 + x.length ≤ 100 by omega) (by decide))
    refine ⟨.tup (sgs u), n / 2 / (2 * 2 ^ x.length - 1), ?_, .some u (fun z => ?_) hu⟩
    · unfold f_law_signs b_law_signs
      clear hx em eu hb ec hp e hd
      ac_rfl
    · subst z
      have hn := pick_pos (x.length + 1) (by omega) (by omega) (1 + m) (by omega) (by omega)
      rw [List.length_cons] at eu
      exact hn (List.map_eq_nil_iff.mp eu)
open K06 (KvOk PV oth prs put1 key_in sorted_of)
theorem lc_others (x : List Nat) (hx : x.length ≤ 4) (c : Nat) (a b v3 v5 : Option (Bool × D)) : lc_law_changes_1 [a, (some (false, .str x)), b, v3, (some (false, .str [c])), v5] = .ok (.lst (oth x c)) [a, (some (false, .str x)), b, v3, (some (false, .str [c])), v5] := by
  unfold lc_law_changes_1 oth
  refine evLC_1f (x.map (fun a => [a]) ++ [[]]) .str (fun z => z != [c]) .str ?_ rfl rfl (fun z hz => ?_) (fun z hz _ => ?_) ?_
  · have e : Ev.signs x = (x.map fun a => [a]).map .str := by unfold Ev.signs; rw [List.map_map]; rfl
    have e2 : (x.map (fun a => [a]) ++ [[]]).map D.str = (x.map fun a => [a]).map .str ++ [.str []] := by rw [List.map_append]; rfl
    rw [e2]
    ac_rfl
  · have : (z != [c]) = !(z == [c]) := rfl
    rw [this]
    ac_rfl
  · ac_rfl
  · rw [List.length_append, List.length_map]
    exact Nat.le_trans (show x.length + 1 ≤ 10 by omega) (by decide)
theorem oth_ne (x : List Nat) (c : Nat) : 0 < (oth x c).length := by
  unfold oth
  rw [List.length_map]
  refine List.length_pos_of_mem (a := []) ?_
  rw [List.mem_filter]
  exact ⟨by simp, by simp⟩
theorem oth_le (x : List Nat) (hx : x.length ≤ 4) (c : Nat) : (oth x c).length ≤ 10 := by
  unfold oth
  rw [List.length_map]
  refine Nat.le_trans (List.length_filter_le _ _) ?_
  rw [List.length_append, List.length_map]
  show x.length + 1 ≤ 10
  omega
theorem atD {xs : List D} {d : Nat} (h : d < xs.length) : atI xs (d : Int) = some xs[d] := atI_lt h
theorem round (n : Int) (x : List Nat) (hx : Snd x) (kvs : List (D × D)) (hk : kvs.length ≤ 10) (v3 v4 v5 : Option (Bool × D)) : ∃ p n' v4' v5', p ∈ PV x ∧ p.1 ∈ x ∧ lb_law_changes_1 [(some (true, .lst [.int n])), (some (false, .str x)), (some (true, .dct kvs)), v3, v4, v5] = .nx [(some (true, .lst [.int n'])), (some (false, .str x)), (some (true, .dct (put1 kvs p))), v3, v4', v5'] := by
  have h1 := hx.pos
  have h2 := hx.few
  obtain ⟨i, hi, ei⟩ := dig n x.length (by omega)
  have hat := atI_lt hi
  have hmem : x[i] ∈ x := List.getElem_mem hi
  generalize x[i] = c at hat hmem
  have o1 := oth_ne x c
  have o2 := oth_le x h2 c
  obtain ⟨j, hj, ej⟩ := dig (n / (x.length : Int)) (oth x c).length o1
  have hat2 := atD hj
  have hv : (c, (oth x c)[j]) ∈ PV x := List.mem_flatMap.mpr ⟨c, hmem, List.mem_map.mpr ⟨_, List.getElem_mem hj, rfl⟩⟩
  generalize (oth x c)[j] = v at hat2 hv
  have t1 := tk n (x.length : Int) (by omega)
  rw [ei] at t1
  have t2 := tk (n / (x.length : Int)) ((oth x c).length : Int) (by omega)
  rw [ej] at t2
  have hl := lc_others x h2 c (some (true, .lst [.int (n / (x.length : Int))])) (some (true, .dct kvs)) v3 v5
  refine ⟨(c, v), n / (x.length : Int) / ((oth x c).length : Int), (some (false, .str [c])), (some (true, .lst (oth x c))), hv, hmem, ?_⟩
  have hput : put1 kvs (c, v) = putD kvs (.str [c]) (.inr (strOf [c])) v := rfl
  rw [hput]
  unfold lb_law_changes_1
  clear hx ei ej hmem hv hput o1 o2
  ac_rfl
inductive ChOk (x : List Nat) : D → Prop
  | put (c : Nat) : c ∈ x → ChOk x (.tup [.tup [.str [], .str [c]]])
  | chs (kvs : List (D × D)) (zs : List Nat) : KvOk x kvs zs → 0 < zs.length → zs.length ≤ 3 → ChOk x (.tup (prs kvs ((sortX (zs.map fun c => [c])).map D.str)))
theorem lc_pairs {x : List Nat} {kvs : List (D × D)} {zs : List Nat} (h : KvOk x kvs zs) (h4 : zs.length ≤ 3) (a b v3 v4 v5 : Option (Bool × D)) : lc_law_changes_2 [a, b, (some (true, .dct kvs)), v3, v4, v5] = .ok (.lst (prs kvs ((sortX (zs.map fun c => [c])).map D.str))) [a, b, (some (true, .dct kvs)), v3, v4, v5] := by
  unfold lc_law_changes_2 prs
  have hs := sorted_of h h4
  refine evLC_1 ((sortX (zs.map fun c => [c])).map D.str) id _ ?_ rfl rfl (fun k hk => ?_) ?_
  · rw [List.map_id]
    ac_rfl
  · obtain ⟨c, v, rfl, hv, _⟩ := key_in h k hk
    simp only [id]
    rw [hv]
    clear hk h hs
    ac_rfl
  · rw [List.length_map, (sortX_perm _).length_eq, List.length_map]
    exact Nat.le_trans h4 (by decide)
theorem changes (n : Int) (x : List Nat) (hx : Snd x) : ∃ ch n', f_law_changes [.lst [.int n], .str x] = some (ch, .lst [.int n']) ∧ ChOk x ch := by
  have h1 := hx.pos
  have h2 := hx.few
  have t0 := tk n 5 (by decide)
  obtain ⟨d, hd, e⟩ := dig n 5 (by decide)
  have e' : n % 5 = (d : Int) := e
  rw [e'] at t0
  by_cases h0 : d = 0
  · subst h0
    obtain ⟨i, hi, ei⟩ := dig (n / 5) x.length (by omega)
    have hat := atI_lt hi
    have hmem : x[i] ∈ x := List.getElem_mem hi
    generalize x[i] = c at hat hmem
    have t1 := tk (n / 5) (x.length : Int) (by omega)
    rw [ei] at t1
    refine ⟨_, n / 5 / (x.length : Int), ?_, .put c hmem⟩
    unfold f_law_changes b_law_changes
    clear hx e e' ei hmem
    ac_rfl
  · have h0' : ((d : Int) == 0) = false := by rw [beq_eq_false_iff_ne]; omega
    obtain ⟨m, hm, em⟩ := dig (n / 5) 3 (by decide)
    have t1 := tk (n / 5) 3 (by decide)
    have em' : n / 5 % 3 = (m : Int) := em
    rw [em'] at t1
    have hr : rngD [.int (1 + (m : Int))] = some ((List.range (1 + m)).map fun (i : Nat) => D.int (i : Int)) := by
      have := rng1 (n := 1 + m) (by omega)
      push_cast at this
      exact this
    obtain ⟨e1, f1, n', kvs, zs, v3, v4, v5, rfl, hk, hz, hkl⟩ := forO_inv' (g := gvName 3) (b := lb_law_changes_1) ((List.range (1 + m)).map fun (i : Nat) => D.int (i : Int)) (fun done env => ∃ (n : Int) (kvs : List (D × D)) (zs : List Nat) (v3 v4 v5 : Option (Bool × D)), env = [(some (true, .lst [.int n])), (some (false, .str x)), (some (true, .dct kvs)), v3, v4, v5] ∧ KvOk x kvs zs ∧ zs.length ≤ done.length ∧ (0 < done.length → 0 < zs.length))
      (fun done s rest hall env ⟨n, kvs, zs, v3, v4, v5, he, hk, hl, hp⟩ => by
        subst he
        have hdl : done.length ≤ 3 := by
          have := congrArg List.length hall
          rw [List.length_map, List.length_range, List.length_append, List.length_cons] at this
          omega
        have hkl : kvs.length ≤ 10 := by
          have := congrArg List.length hk.keys
          rw [List.length_map, List.length_map] at this
          omega
        obtain ⟨p, n', v4', v5', hp1, hp2, hb⟩ := round n x hx kvs hkl (some (false, s)) v4 v5
        obtain ⟨zs', hk', hz1, hz2⟩ := hk.put hp1 hp2
        refine ⟨_, _, rfl, hb, n', put1 kvs p, zs', _, _, _, rfl, hk', ?_, fun _ => hz1⟩
        rw [List.length_append]
        show zs'.length ≤ done.length + 1
        omega)
      [(some (true, .lst [.int (n / 5 / 3)])), (some (false, .str x)), (some (true, .dct [])), none, none, none] ⟨_, [], [], _, _, _, rfl, ⟨rfl, .nil, by simp, by simp⟩, by simp, by simp⟩
    rw [List.length_map, List.length_range] at hz hkl
    have hz3 : zs.length ≤ 3 := by omega
    have hc := lc_pairs hk hz3 (some (true, .lst [.int n'])) (some (false, .str x)) v3 v4 v5
    refine ⟨_, n', ?_, .chs kvs zs hk (hkl (by omega)) hz3⟩
    unfold f_law_changes b_law_changes
    clear hx e e' em em' hkl hk
    ac_rfl
inductive RlOk (x : List Nat) : D → Prop
  | mk (w ch l r : D) : w = .str [111, 110, 99, 101] ∨ w = .str [97, 108, 111, 110, 103] → ChOk x ch → SgOk x l → SgOk x r → RlOk x (.tup [w, ch, l, r])
theorem rule (n : Int) (x : List Nat) (hx : Snd x) : ∃ R n', f_law_rule [.lst [.int n], .str x] = some (R, .lst [.int n']) ∧ RlOk x R := by
  have t0 := tk n 2 (by decide)
  obtain ⟨d, hd, e⟩ := dig n 2 (by decide)
  have e' : n % 2 = (d : Int) := e
  rw [e'] at t0
  obtain ⟨ch, n1, h1, hc⟩ := changes (n / 2) x hx
  obtain ⟨l, n2, h2, hl⟩ := signs n1 x hx
  obtain ⟨r, n3, h3, hr⟩ := signs n2 x hx
  obtain ⟨w, hw, hw2⟩ : ∃ w, atI [D.str [111, 110, 99, 101], .str [97, 108, 111, 110, 103]] (d : Int) = some w ∧ (w = .str [111, 110, 99, 101] ∨ w = .str [97, 108, 111, 110, 103]) := by
    have : d = 0 ∨ d = 1 := by omega
    rcases this with rfl | rfl
    · exact ⟨_, rfl, .inl rfl⟩
    · exact ⟨_, rfl, .inr rfl⟩
  refine ⟨_, n3, ?_, .mk w ch l r hw2 hc hl hr⟩
  unfold f_law_rule b_law_rule
  clear hx e e' hc hl hr hw2
  ac_rfl
end K04
set_option maxHeartbeats 8000000
namespace K04
open Ev PySem L2
local macro_rules | `(tactic| ac_rfl) => `(tactic| simp (maxSteps := 2000000) (disch := (first | ((try simp only [List.length_cons, List.length_nil, List.length_append, List.length_map, List.length_range, sizeLine, Nat.reducePow]) <;> omega) | fail)) only [↓sNx, ↓sRt, ↓bR, ↓bO, ↓lR, ↓lO, ↓iT, ↓iF, ↓rS, ↓bB, ↓oS, ↓nS, ↓obS, ↓kNx, ↓vS, ↓wS, ↓lS, ↓eS, ↓pS, ↓cS, ↓kStr, ↓kInt, stSeq_s, zR, zO, evTup_s, evLst_s, lS, stApp_s, stExt_s, gAdd_s', gAdd_t', gAdd_l', gCat_l', gSlT_cut, gSl_l, gSl_a, gSlS_s, gRev_s, gRevT_t, sNx, sRt, sBk, sCt, stIf_s, evIf_s, iT, iF, bR, bO, lR, lO, stRet_s, stAsg_s, stOwn_s, stNext_s, stRetN_s, evC_s, evNil_s, evCons_s, evBin_s, evUn_s, evCall_s, evVar_s, evRd_s, evBinO_s, rS, evAnd_s, evOr_s, evNot_s, evB_s, bB, evAndT_s, evOrT_s, evNotT_s, evIO_s, oS, evIOn_s, evChain_s, obS, evP_s, nS, evNoP_s, evSl_s, evSlS_s, evSlT_s, evRev_s, evDnew_s, stFor_s, gvName_s, gvT1, gvCons_s, gB, gvNil_s, evIt_s, evRng_s, itD_l, itD_a, itD_t, itD_s, eS, forO_c, forO_n, vS, kNx, kRt, kBk, kCt, lcO_c, lcO_n, wS, evTrue_s, runP_s, dRt, dNx, envOf, gIx_t, gIx_l, gIx_s, at0, at1, at2, at3, gAdd_i, gLen_s, gLen_t, gLen_l, gLen_a, gTuple_l, gTuple_t, gList_t, gList_l, gList_s, gEq_s, gNe_s, gEq_i, gNe_i, gIsi_t, gLe_i, gLt_i, gGt_i, gGe_i, gLt_s, gSub_i, gIn_c, gt0, gtS, st0, stS, cdT, cdF, Option.map_some, Option.bind_some, List.map_cons, List.map_nil, List.replicate_succ, List.replicate_zero, Nat.reduceAdd, Nat.reduceSub, List.length_cons, List.length_nil, List.cons_append, List.nil_append, Bool.not_true, Bool.not_false, nc0, nc1, nc2, nc3, nc4, nc5, nc6, nc7, nc8, Int.reduceBEq, Nat.reduceBEq, Int.reduceLE, Int.reduceLT, Nat.reduceLeDiff, Nat.reduceLT, Int.reduceAdd, Int.reduceSub, decide_true, decide_false, beq_self_eq_true, runIO_s, envIO, ioRt, ioNx, runN_s, nRt, stRetNew_s, pS, cS, kStr, kInt, stDput_s, gSlA_s, gSlA_t, gSlA_l, gSlA_a, evSlA_s, okT_s, okB_s, stk, kApp2_s, kApp3_s, kApp_s, kAsg_s, kB2_s, kB_s, kBin2_s, kBinO2_s, kBinO3_s, kBinO_s, kBin_s, kBlIf2_s, kBlIf_s, kCh2_s, kCh2b_s, kCh3_s, kCh4_s, kCh_s, kCons2_s, kCons_s, kDp1_s, kDp2_s, kDp3_s, kDp4_s, kDp5_s, kDp_s, kExt2_s, kExt3_s, kExt4_s, kExt_s, kFor_s, kIO1_s, kIO2_s, kIO3_s, kIO4_s, kIO5_s, kIO_s, kIOn2_s, kIOn3_s, kIOn_s, kIf_s, kLc2_s, kLc3_s, kLc4_s, kLc_s, kLst_s, kNot2_s, kNotT_s, kNot_s, kOwn_s, kP2_s, kP_s, kRd_s, kRetN_s, kRet_s, kSl2_s, kSl3_s, kSl_s, kTup_s, kUn_s, kVar_s, kWh_s, *] <;> try rfl)
def OUT : List Nat := [113, 118, 109, 101, 104, 97, 98, 99, 100, 102, 103]
theorem out_ex (x : List Nat) (hx : x.length ≤ 4) : ∃ o r, OUT.filter (fun c => !decide (c ∈ x)) = o :: r ∧ o ∉ x ∧ 97 ≤ o := by
  cases h : OUT.filter (fun c => !decide (c ∈ x)) with
  | nil =>
    exfalso
    have hs : OUT ⊆ x := fun c hc => by
      have := List.filter_eq_nil_iff.mp h c hc
      simpa using this
    have hn : OUT.Nodup := by decide
    have := List.Nodup.length_le_of_subset hn hs
    have e : OUT.length = 11 := rfl
    omega
  | cons o r =>
    refine ⟨o, r, rfl, ?_⟩
    have : o ∈ OUT.filter (fun c => !decide (c ∈ x)) := by rw [h]; exact List.mem_cons_self
    have h1 := List.mem_filter.mp this
    have h2 : ∀ c ∈ OUT, 97 ≤ c := by decide
    exact ⟨by simpa using h1.2, h2 o h1.1⟩
theorem law_out (x : List Nat) (hx : x.length ≤ 4) : ∃ o, o ∉ x ∧ 97 ≤ o ∧ f_law_out [.str x] = some (.str [o]) := by
  obtain ⟨o, r, ho, hn, h97⟩ := out_ex x hx
  refine ⟨o, hn, h97, ?_⟩
  have hl : lc_law_out_1 [(some (false, .str x))] = .ok (.lst ((OUT.filter (fun c => !decide (c ∈ x))).map fun c => .str [c])) [(some (false, .str x))] := by
    unfold lc_law_out_1
    refine evLC_1f OUT (fun c => .str [c]) (fun c => !decide (c ∈ x)) (fun c => .str [c]) (by rfl) rfl rfl (fun c _ => ?_) (fun c _ _ => ?_) (by decide)
    · have : gNotIn (.str [c]) (.str x) = some (.bl (!decide (c ∈ x))) := rfl
      ac_rfl
    · ac_rfl
  rw [ho] at hl
  unfold f_law_out b_law_out
  ac_rfl
theorem up {c : Nat} (h : 97 ≤ c ∧ c ≤ 122) : gUpper (.str [c]) = some (.str [c - 32]) := by
  show (if 97 ≤ c ∧ c ≤ 122 then _ else _) = _
  rw [if_pos h]
def S1 (c o : Nat) : List D := [.tup [], .str [], .str [c], .str [35], .lst [.str [c]], .lst [], .tup [.str [c], .str [c]], .tup [.str [c], .str [35]], .tup [.str [35], .str [35]], .tup [.str [o]], .tup [.non], .tup [.int 7], .tup [.str []], .tup [.bl true], .dct []]
def S2 (c : Nat) : List Nat → List D
  | [] => []
  | b :: _ => [.tup [.str [b], .str [c]], .tup [.str [b], .str [35]], .tup [.str [c, b]]]
def S3 (c : Nat) : List D := [.tup [.tup [.str [c]]], .tup [.lst [.str [c]]], .int 7, .bl true, .tup [.str [c - 32]], .tup [.str [32]]]
theorem no_signs (c : Nat) (r : List Nat) (hc : 97 ≤ c ∧ c ≤ 122) (o : Nat) (ho : f_law_out [.str (c :: r)] = some (.str [o])) (hr : r.length ≤ 3) : f_law_no_signs [.str (c :: r)] = some (.lst (S1 c o ++ S2 c r ++ S3 c)) := by
  have hu := up hc
  unfold f_law_no_signs b_law_no_signs
  cases r with
  | nil =>
    show _ = some (D.lst ((S1 c o ++ []) ++ S3 c))
    unfold S1 S3
    ac_rfl
  | cons b r =>
    show _ = some (D.lst ((S1 c o ++ [.tup [.str [b], .str [c]], .tup [.str [b], .str [35]], .tup [.str [c, b]]]) ++ S3 c))
    have h1 : decide ((1 : Int) < ((r.length + 1 + 1 : Nat) : Int)) = true := decide_eq_true (by omega)
    unfold S1 S3
    ac_rfl
abbrev p1 (a b : D) : D := .tup [.tup [a, b]]
abbrev p2 (a b c d : D) : D := .tup [.tup [a, b], .tup [c, d]]
def C1 (c o : Nat) : List D := [.tup [], .non, .str [97], .lst [.tup [.str [c], .str []]], p1 (.str [c]) (.str [c]), .tup [.tup [.str [c]]], .tup [.tup [.str [c], .str [], .str []]], .tup [.lst [.str [c], .str []]],
  p1 (.str [c]) (.str [35]), p1 (.str [35]) (.str [c]), p1 (.str [c]) (.str [o]), p1 (.str [o]) (.str [c]), p1 (.str [o]) (.str []), p1 (.str []) (.str [o]), p1 (.str []) (.str []), p1 (.str []) (.str [35]),
  p1 (.str [c]) .non, .tup [.non], p1 (.str [c]) (.int 7), p1 (.int 7) (.str [c]), p2 (.str [c]) (.str []) (.str [c]) (.str []), p2 (.str []) (.str [c]) (.str [c]) (.str []), p2 (.str [c]) (.str []) (.str []) (.str [c]),
  .tup [.tup []], p1 (.str [c, c]) (.str []), p1 (.str [c]) (.str [c, c]), p1 (.str [c]) (.tup [.str []]), p1 (.str [c - 32]) (.str []), p1 (.bl true) (.str [c]), p1 .non (.str [c]),
  p1 (.lst [.str [c]]) (.str []), p1 (.str [c]) (.lst [.str [c]]), p1 (.str []) (.lst [.str [c]]), p1 (.dct []) (.str []), p1 (.str [c]) (.dct []), p1 (.str []) (.dct []),
  p1 (.tup [.str [c]]) (.str []), p1 (.str [c]) (.tup [.str [c]]), p1 (.str []) (.tup [.str [c]]), p1 (.lst []) (.str []), p1 (.str [c]) (.lst []), p1 (.str []) (.lst [])]
def C2 (c : Nat) : List Nat → List D
  | [] => []
  | b :: r => [p1 (.str [c, b]) (.str []), p1 (.str [b]) (.str [c, b]), p1 (.str []) (.str [c, b]), p1 (.str [c]) (.str (cutD (c :: b :: r) (some (-2)) none)), p2 (.str [b]) (.str []) (.str [c]) (.str []), p2 (.str [c]) (.str [b]) (.str [c]) (.str []), p2 (.str []) (.str [c]) (.str []) (.str [b]), p2 (.str [c]) (.str [b]) (.str [b]) (.str [b])]
theorem no_changes (c : Nat) (r : List Nat) (hc : 97 ≤ c ∧ c ≤ 122) (o : Nat) (ho : f_law_out [.str (c :: r)] = some (.str [o])) (hr : r.length ≤ 3) : f_law_no_changes [.str (c :: r)] = some (.lst (C1 c o ++ C2 c r)) := by
  have hu := up hc
  have hng : gNeg (.int 2) = some (.int (-2)) := rfl
  unfold f_law_no_changes b_law_no_changes lb_law_no_changes_1
  cases r with
  | nil =>
    show _ = some (D.lst (C1 c o ++ []))
    unfold C1
    ac_rfl
  | cons b r =>
    show _ = some (D.lst (C1 c o ++ [p1 (.str [c, b]) (.str []), p1 (.str [b]) (.str [c, b]), p1 (.str []) (.str [c, b]), p1 (.str [c]) (.str (cutD (c :: b :: r) (some (-2)) none)), p2 (.str [b]) (.str []) (.str [c]) (.str []), p2 (.str [c]) (.str [b]) (.str [c]) (.str []), p2 (.str []) (.str [c]) (.str []) (.str [b]), p2 (.str [c]) (.str [b]) (.str [b]) (.str [b])]))
    have h1 : decide ((1 : Int) < ((r.length + 1 + 1 : Nat) : Int)) = true := decide_eq_true (by omega)
    unfold C1
    ac_rfl
end K04
namespace K04
open Ev PySem L2
local macro_rules | `(tactic| ac_rfl) => `(tactic| simp (maxSteps := 2000000) (disch := (first | ((try simp only [List.length_cons, List.length_nil, List.length_append, List.length_map, List.length_range, sizeLine, Nat.reducePow]) <;> omega) | fail)) only [↓sNx, ↓sRt, ↓bR, ↓bO, ↓lR, ↓lO, ↓iT, ↓iF, ↓rS, ↓bB, ↓oS, ↓nS, ↓obS, ↓kNx, ↓vS, ↓wS, ↓lS, ↓eS, ↓pS, ↓cS, ↓kStr, ↓kInt, stSeq_s, zR, zO, evTup_s, evLst_s, lS, stApp_s, stExt_s, gAdd_s', gAdd_t', gAdd_l', gCat_l', gSlT_cut, gSl_l, gSl_a, gSlS_s, gRev_s, gRevT_t, sNx, sRt, sBk, sCt, stIf_s, evIf_s, iT, iF, bR, bO, lR, lO, stRet_s, stAsg_s, stOwn_s, stNext_s, stRetN_s, evC_s, evNil_s, evCons_s, evBin_s, evUn_s, evCall_s, evVar_s, evRd_s, evBinO_s, rS, evAnd_s, evOr_s, evNot_s, evB_s, bB, evAndT_s, evOrT_s, evNotT_s, evIO_s, oS, evIOn_s, evChain_s, obS, evP_s, nS, evNoP_s, evSl_s, evSlS_s, evSlT_s, evRev_s, evDnew_s, stFor_s, gvName_s, gvT1, gvCons_s, gB, gvNil_s, evIt_s, evRng_s, itD_l, itD_a, itD_t, itD_s, eS, forO_c, forO_n, vS, kNx, kRt, kBk, kCt, lcO_c, lcO_n, wS, evTrue_s, runP_s, dRt, dNx, envOf, gIx_t, gIx_l, gIx_s, at0, at1, at2, at3, gAdd_i, gLen_s, gLen_t, gLen_l, gLen_a, gTuple_l, gTuple_t, gList_t, gList_l, gList_s, gEq_s, gNe_s, gEq_i, gNe_i, gIsi_t, gLe_i, gLt_i, gGt_i, gGe_i, gLt_s, gSub_i, gIn_c, gt0, gtS, st0, stS, cdT, cdF, Option.map_some, Option.bind_some, List.map_cons, List.map_nil, List.replicate_succ, List.replicate_zero, Nat.reduceAdd, Nat.reduceSub, List.length_cons, List.length_nil, List.cons_append, List.nil_append, Bool.not_true, Bool.not_false, nc0, nc1, nc2, nc3, nc4, nc5, nc6, nc7, nc8, Int.reduceBEq, Nat.reduceBEq, Int.reduceLE, Int.reduceLT, Nat.reduceLeDiff, Nat.reduceLT, Int.reduceAdd, Int.reduceSub, decide_true, decide_false, beq_self_eq_true, runIO_s, envIO, ioRt, ioNx, runN_s, nRt, stRetNew_s, pS, cS, kStr, kInt, stDput_s, gSlA_s, gSlA_t, gSlA_l, gSlA_a, evSlA_s, okT_s, okB_s, stk, kApp2_s, kApp3_s, kApp_s, kAsg_s, kB2_s, kB_s, kBin2_s, kBinO2_s, kBinO3_s, kBinO_s, kBin_s, kBlIf2_s, kBlIf_s, kCh2_s, kCh2b_s, kCh3_s, kCh4_s, kCh_s, kCons2_s, kCons_s, kDp1_s, kDp2_s, kDp3_s, kDp4_s, kDp5_s, kDp_s, kExt2_s, kExt3_s, kExt4_s, kExt_s, kFor_s, kIO1_s, kIO2_s, kIO3_s, kIO4_s, kIO5_s, kIO_s, kIOn2_s, kIOn3_s, kIOn_s, kIf_s, kLc2_s, kLc3_s, kLc4_s, kLc_s, kLst_s, kNot2_s, kNotT_s, kNot_s, kOwn_s, kP2_s, kP_s, kRd_s, kRetN_s, kRet_s, kSl2_s, kSl3_s, kSl_s, kTup_s, kUn_s, kVar_s, kWh_s, *] <;> try rfl)
section
variable (a0 a1 : Option (Bool × D)) (w ch l r : D)
theorem loop1 : ∀ (T acc : List D) (v : Option (Bool × D)), acc.length + T.length ≤ 1000 → ∃ v', forO (gvName 7) lb_law_no_rules_1 T [a0, a1, (some (false, w)), (some (false, ch)), (some (false, l)), (some (false, r)), (some (true, .lst (acc))), v] = .nx [a0, a1, (some (false, w)), (some (false, ch)), (some (false, l)), (some (false, r)), (some (true, .lst (acc ++ T.map fun o => .tup [o, ch, l, r]))), v']
  | [], acc, v, _ => ⟨v, by rw [List.map_nil, List.append_nil]; rfl⟩
  | t :: T, acc, v, h => by
    rw [List.length_cons] at h
    obtain ⟨v', ih⟩ := loop1 T (acc ++ [.tup [t, ch, l, r]]) (some (false, t)) (by rw [List.length_append]; show acc.length + 1 + T.length ≤ 1000; omega)
    refine ⟨v', ?_⟩
    rw [List.append_assoc] at ih
    rw [List.map_cons]
    have h1 : lb_law_no_rules_1 [a0, a1, (some (false, w)), (some (false, ch)), (some (false, l)), (some (false, r)), (some (true, .lst (acc))), (some (false, t))] = .nx [a0, a1, (some (false, w)), (some (false, ch)), (some (false, l)), (some (false, r)), (some (true, .lst (acc ++ [.tup [t, ch, l, r]]))), (some (false, t))] := by
      unfold lb_law_no_rules_1
      clear ih
      ac_rfl
    rw [forO_c]
    show loopK (lb_law_no_rules_1 [a0, a1, (some (false, w)), (some (false, ch)), (some (false, l)), (some (false, r)), (some (true, .lst (acc))), (some (false, t))]) _ = _
    rw [h1, kNx, ih]
    rfl
theorem loop2 : ∀ (T acc : List D) (v : Option (Bool × D)), acc.length + T.length ≤ 1000 → ∃ v', forO (gvName 7) lb_law_no_rules_2 T [a0, a1, (some (false, w)), (some (false, ch)), (some (false, l)), (some (false, r)), (some (true, .lst (acc))), v] = .nx [a0, a1, (some (false, w)), (some (false, ch)), (some (false, l)), (some (false, r)), (some (true, .lst (acc ++ T.map fun o => .tup [w, o, l, r]))), v']
  | [], acc, v, _ => ⟨v, by rw [List.map_nil, List.append_nil]; rfl⟩
  | t :: T, acc, v, h => by
    rw [List.length_cons] at h
    obtain ⟨v', ih⟩ := loop2 T (acc ++ [.tup [w, t, l, r]]) (some (false, t)) (by rw [List.length_append]; show acc.length + 1 + T.length ≤ 1000; omega)
    refine ⟨v', ?_⟩
    rw [List.append_assoc] at ih
    rw [List.map_cons]
    have h1 : lb_law_no_rules_2 [a0, a1, (some (false, w)), (some (false, ch)), (some (false, l)), (some (false, r)), (some (true, .lst (acc))), (some (false, t))] = .nx [a0, a1, (some (false, w)), (some (false, ch)), (some (false, l)), (some (false, r)), (some (true, .lst (acc ++ [.tup [w, t, l, r]]))), (some (false, t))] := by
      unfold lb_law_no_rules_2
      clear ih
      ac_rfl
    rw [forO_c]
    show loopK (lb_law_no_rules_2 [a0, a1, (some (false, w)), (some (false, ch)), (some (false, l)), (some (false, r)), (some (true, .lst (acc))), (some (false, t))]) _ = _
    rw [h1, kNx, ih]
    rfl
theorem loop3 : ∀ (T acc : List D) (v : Option (Bool × D)), acc.length + 2 * T.length ≤ 1000 → ∃ v', forO (gvName 7) lb_law_no_rules_3 T [a0, a1, (some (false, w)), (some (false, ch)), (some (false, l)), (some (false, r)), (some (true, .lst (acc))), v] = .nx [a0, a1, (some (false, w)), (some (false, ch)), (some (false, l)), (some (false, r)), (some (true, .lst (acc ++ T.flatMap fun o => [.tup [w, ch, o, r], .tup [w, ch, l, o]]))), v']
  | [], acc, v, _ => ⟨v, by rw [List.flatMap_nil, List.append_nil]; rfl⟩
  | t :: T, acc, v, h => by
    rw [List.length_cons] at h
    obtain ⟨v', ih⟩ := loop3 T (acc ++ [.tup [w, ch, t, r], .tup [w, ch, l, t]]) (some (false, t)) (by rw [List.length_append]; show acc.length + 2 + 2 * T.length ≤ 1000; omega)
    refine ⟨v', ?_⟩
    rw [List.append_assoc] at ih
    rw [List.flatMap_cons]
    have h1 : lb_law_no_rules_3 [a0, a1, (some (false, w)), (some (false, ch)), (some (false, l)), (some (false, r)), (some (true, .lst (acc))), (some (false, t))] = .nx [a0, a1, (some (false, w)), (some (false, ch)), (some (false, l)), (some (false, r)), (some (true, .lst (acc ++ [.tup [w, ch, t, r], .tup [w, ch, l, t]]))), (some (false, t))] := by
      unfold lb_law_no_rules_3
      clear ih
      ac_rfl
    rw [forO_c]
    show loopK (lb_law_no_rules_3 [a0, a1, (some (false, w)), (some (false, ch)), (some (false, l)), (some (false, r)), (some (true, .lst (acc))), (some (false, t))]) _ = _
    rw [h1, kNx, ih]
end
def ODD : List D := [.str [], .str [79, 110, 99, 101], .str [98, 111, 116, 104], .str [108, 101, 102, 116], .non, .int 7, .bl true, .tup [.str [111, 110, 99, 101]], .lst [.str [111, 110, 99, 101]], .dct [], .lst [.dct []]]
def T0 (w ch l r : D) : List D := [.non, .int 7, .str [111, 110, 99, 101], .tup [], .dct [], .lst [w, ch, l, r], .tup [w, ch, l], .tup [w, ch, l, r, .non], .tup [.tup [w, ch, l, r]], .tup [ch, l, r], .tup [r, l, ch, w]]
def T (w ch l r : D) (CH SG : List D) : List D := T0 w ch l r ++ (ODD.map fun o => .tup [o, ch, l, r]) ++ (CH.map fun o => .tup [w, o, l, r]) ++ SG.flatMap fun o => [.tup [w, ch, o, r], .tup [w, ch, l, o]]
theorem no_rules (w ch l r : D) (x : List Nat) (CH SG : List D) (h1 : f_law_no_changes [.str x] = some (.lst CH)) (h2 : f_law_no_signs [.str x] = some (.lst SG)) (hC : CH.length ≤ 100) (hS : SG.length ≤ 100) :
    f_law_no_rules [.tup [w, ch, l, r], .str x] = some (.lst (T w ch l r CH SG)) := by
  obtain ⟨v1, f1⟩ := loop1 (some (false, .tup [w, ch, l, r])) (some (false, .str x)) w ch l r ODD (T0 w ch l r) none (by show 11 + 11 ≤ 1000; omega)
  obtain ⟨v2, f2⟩ := loop2 (some (false, .tup [w, ch, l, r])) (some (false, .str x)) w ch l r CH (T0 w ch l r ++ ODD.map fun o => .tup [o, ch, l, r]) v1 (by rw [List.length_append, List.length_map]; show 11 + 11 + CH.length ≤ 1000; omega)
  obtain ⟨v3, f3⟩ := loop3 (some (false, .tup [w, ch, l, r])) (some (false, .str x)) w ch l r SG (T0 w ch l r ++ (ODD.map fun o => .tup [o, ch, l, r]) ++ CH.map fun o => .tup [w, o, l, r]) v2 (by rw [List.length_append, List.length_append, List.length_map, List.length_map]; show 11 + 11 + CH.length + 2 * SG.length ≤ 1000; omega)
  have s0 : gSlA (.tup [w, ch, l, r]) none (some 3) = some (.tup [w, ch, l]) := rfl
  have s1 : gSlA (.tup [w, ch, l, r]) (some 1) none = some (.tup [ch, l, r]) := rfl
  have s2 : gRevT (.tup [w, ch, l, r]) = some (.tup [r, l, ch, w]) := rfl
  show f_law_no_rules [.tup [w, ch, l, r], .str x] = some (.lst (T0 w ch l r ++ (ODD.map fun o => .tup [o, ch, l, r]) ++ (CH.map fun o => .tup [w, o, l, r]) ++ SG.flatMap fun o => [.tup [w, ch, o, r], .tup [w, ch, l, o]]))
  generalize hA : T0 w ch l r ++ (ODD.map fun o => .tup [o, ch, l, r]) ++ (CH.map fun o => .tup [w, o, l, r]) ++ (SG.flatMap fun o => [.tup [w, ch, o, r], .tup [w, ch, l, o]]) = A3 at f3 ⊢
  generalize hB : T0 w ch l r ++ (ODD.map fun o => .tup [o, ch, l, r]) ++ (CH.map fun o => .tup [w, o, l, r]) = A2 at f2 f3
  generalize hC : T0 w ch l r ++ (ODD.map fun o => .tup [o, ch, l, r]) = A1 at f1 f2
  clear hA hB hC
  unfold T0 ODD at f1
  unfold f_law_no_rules b_law_no_rules
  ac_rfl
end K04
namespace K04
open Ev PySem L2
open K06 (KvOk PV oth prs key_in)
theorem pl_mono {n : Nat} : ∀ {d : D}, pl (n + 1) d = true → pl n d = true := by
  induction n with
  | zero => intro d h; exact pl0 h
  | succ n ih =>
    intro d h
    cases d with
    | tup xs => exact List.all_eq_true.mpr fun e he => ih (List.all_eq_true.mp h e he)
    | arr xs => cases h
    | _ => rfl
theorem sgs_pl (n : Nat) (u : List Nat) : pl (n + 1) (.tup (sgs u)) = true := by
  show (sgs u).all (pl n) = true
  unfold sgs
  rw [List.all_map, List.all_eq_true]
  intro c _
  cases n <;> rfl
theorem lt1 {a b : Nat} : ([a] : List Nat) < [b] ↔ a < b := by
  rw [List.cons_lt_cons_iff]
  exact ⟨fun h => h.elim id fun h => absurd h.2 (List.lt_irrefl _), .inl⟩
theorem ris_of : ∀ {zs : List (List Nat)}, zs.Pairwise (· < ·) → risB zs = true
  | [], _ => rfl
  | [_], _ => rfl
  | x :: y :: r, h => by
    have h' := List.pairwise_cons.mp h
    show (decide (x < y) && risB (y :: r)) = true
    rw [ris_of h'.2, decide_eq_true (h'.1 y (by simp))]
    rfl
theorem ris_sgs {u : List Nat} (h : u.Pairwise (· < ·)) : risD (sgs u) = true := by
  rw [sgs_map, risD_str]
  refine ris_of ?_
  rw [List.pairwise_map]
  exact h.imp fun h => lt1.mpr h
theorem sg_ok {x : List Nat} (hx : Snd x) {d : D} (h : SgOk x d) : sgB x d = true ∧ pl 2 d = true ∧ sz d ∧ wyB d = false := by
  cases h with
  | non => exact ⟨rfl, rfl, (fun ds e => by cases e), rfl⟩
  | some u hu hs =>
    refine ⟨?_, sgs_pl 1 u, fun ds e => ?_, rfl⟩
    · show (!(sgs u).isEmpty && ((sgs u).all (sgnB x) && risD (sgs u))) = true
      have e1 : (sgs u).isEmpty = false := by cases u with | nil => exact absurd rfl hu | cons a r => rfl
      have e2 : (sgs u).all (sgnB x) = true := by
        unfold sgs
        rw [List.all_map, List.all_eq_true]
        intro c hc
        show (([c] == [35]) || decide (c ∈ x)) = true
        rcases List.mem_cons.mp (hs.subset hc) with rfl | h
        · rfl
        · rw [decide_eq_true h, Bool.or_true]
      have e3 : risD (sgs u) = true := ris_sgs (List.Pairwise.sublist hs (List.pairwise_cons.mpr ⟨fun c hc => by have := hx.ltr c hc; omega, hx.ris⟩))
      rw [e1, e2, e3]
      rfl
    · cases e
      have := hs.length_le
      have h4 := hx.few
      unfold sgs
      rw [List.length_map]
      rw [List.length_cons] at this
      omega
theorem pv_val {x : List Nat} {c : Nat} {v : D} (h : (c, v) ∈ PV x) : c ∈ x ∧ ∃ z, v = .str z ∧ z ≠ [c] ∧ (z = [] ∨ ∃ b ∈ x, z = [b]) := by
  unfold PV at h
  obtain ⟨c', hc, h2⟩ := List.mem_flatMap.mp h
  obtain ⟨v', h3, h4⟩ := List.mem_map.mp h2
  cases h4
  unfold oth at h3
  obtain ⟨z, h5, rfl⟩ := List.mem_map.mp h3
  obtain ⟨h6, h7⟩ := List.mem_filter.mp h5
  refine ⟨hc, z, rfl, by simpa using h7, ?_⟩
  rcases List.mem_append.mp h6 with h | h
  · obtain ⟨b, hb, rfl⟩ := List.mem_map.mp h
    exact .inr ⟨b, hb, rfl⟩
  · exact .inl (by simpa using h)
theorem pv_ch {x : List Nat} {c : Nat} {v : D} (h : (c, v) ∈ PV x) : chB x (.tup [.str [c], v]) = true := by
  obtain ⟨hc, z, rfl, hz, h2⟩ := pv_val h
  show (decide (c ∈ x) && ((inS x (.str z) || isS [] (.str z)) && !([c] == z))) = true
  have e1 : ([c] == z) = false := by rw [beq_eq_false_iff_ne]; exact fun e => hz e.symm
  rw [decide_eq_true hc, e1]
  rcases h2 with rfl | ⟨b, hb, rfl⟩
  · rfl
  · show (true && ((decide (b ∈ x) || _) && true)) = true
    rw [decide_eq_true hb]
    rfl
theorem le1 {a b : Nat} (h : ([a] : List Nat) ≤ [b]) : a ≤ b := by
  apply Nat.le_of_not_lt
  intro hl
  exact h (lt1.mpr hl)
theorem sort_ris {zs : List Nat} (hn : zs.Nodup) : risB (sortX (zs.map fun c => [c])) = true := by
  have hp := sortX_perm (zs.map fun c => [c])
  have hs := sortX_sorted (zs.map fun c => [c])
  have hnd : (sortX (zs.map fun c => [c])).Nodup := hp.nodup_iff.mpr (List.pairwise_map.mpr (hn.imp fun h e => h (by simpa using e)))
  refine ris_of ?_
  have hall : ∀ z ∈ sortX (zs.map fun c => [c]), ∃ c, z = [c] := fun z hz => by
    obtain ⟨c, _, e⟩ := List.mem_map.mp (hp.mem_iff.mp hz)
    exact ⟨c, e.symm⟩
  have := List.Pairwise.and hs hnd
  refine List.Pairwise.imp_of_mem ?_ this
  intro a b ha hb h
  obtain ⟨c, rfl⟩ := hall a ha
  obtain ⟨d, rfl⟩ := hall b hb
  have h1 := le1 h.1
  have h2 : c ≠ d := fun e => h.2 (by rw [e])
  exact lt1.mpr (by omega)
theorem ch_ok {x : List Nat} {d : D} (h : ChOk x d) : ccB x d = true ∧ pl 2 d = true ∧ sz d := by
  cases h with
  | put c hc =>
    refine ⟨?_, rfl, fun ds e => by cases e; show 1 ≤ 1000; omega⟩
    show (true && ((true && (true && decide (c ∈ x))) || _)) = true
    rw [decide_eq_true hc]
    rfl
  | chs kvs zs hk h0 h3 =>
    have hl : (prs kvs ((sortX (zs.map fun c => [c])).map D.str)).length = zs.length := by
      unfold prs
      rw [List.length_map, List.length_map, (sortX_perm _).length_eq, List.length_map]
    have hall : ∀ d ∈ prs kvs ((sortX (zs.map fun c => [c])).map D.str), ∃ c v, d = .tup [.str [c], v] ∧ (c, v) ∈ PV x := fun d hd => by
      unfold prs at hd
      obtain ⟨k, hk2, rfl⟩ := List.mem_map.mp hd
      obtain ⟨c, v, rfl, hv, hp⟩ := key_in hk k hk2
      exact ⟨c, v, by rw [hv]; rfl, hp⟩
    have hf : (prs kvs ((sortX (zs.map fun c => [c])).map D.str)).map fst = (sortX (zs.map fun c => [c])).map D.str := by
      unfold prs
      rw [List.map_map]
      have : (fst ∘ fun k => D.tup [k, (gDget (.dct kvs) k).getD .non]) = id := rfl
      rw [this, List.map_id]
    refine ⟨?_, ?_, fun ds e => by cases e; rw [hl]; omega⟩
    · show (!(prs kvs ((sortX (zs.map fun c => [c])).map D.str)).isEmpty && ((_ && _) || ((prs kvs ((sortX (zs.map fun c => [c])).map D.str)).all (chB x) && risD ((prs kvs ((sortX (zs.map fun c => [c])).map D.str)).map fst)))) = true
      have e1 : (prs kvs ((sortX (zs.map fun c => [c])).map D.str)).isEmpty = false := by
        cases h : prs kvs ((sortX (zs.map fun c => [c])).map D.str) with
        | nil => rw [h] at hl; simp at hl; omega
        | cons a r => rfl
      have e2 : (prs kvs ((sortX (zs.map fun c => [c])).map D.str)).all (chB x) = true := List.all_eq_true.mpr fun d hd => by
        obtain ⟨c, v, rfl, hp⟩ := hall d hd
        exact pv_ch hp
      rw [e1, e2, hf, risD_str, sort_ris hk.nd]
      simp
    · refine List.all_eq_true.mpr fun d hd => ?_
      obtain ⟨c, v, rfl, hp⟩ := hall d hd
      obtain ⟨_, z, rfl, _⟩ := pv_val hp
      rfl
theorem rl_ok {x : List Nat} (hx : Snd x) {d : D} (h : RlOk x d) : rlB x d = true ∧ pl 3 d = true ∧ ∀ ds, d = .tup ds → ∀ e ∈ ds, sz e := by
  cases h with
  | mk w ch l r hw hc hl hr =>
    obtain ⟨c1, c2, c3⟩ := ch_ok hc
    obtain ⟨l1, l2, l3, _⟩ := sg_ok hx hl
    obtain ⟨r1, r2, r3, _⟩ := sg_ok hx hr
    have w1 : wyB w = true := by rcases hw with rfl | rfl <;> rfl
    have w2 : pl 2 w = true := by rcases hw with rfl | rfl <;> rfl
    have w3 : sz w := by rcases hw with rfl | rfl <;> exact fun ds e => by cases e
    refine ⟨?_, ?_, ?_⟩
    · show (wyB w && (ccB x ch && (sgB x l && sgB x r))) = true
      rw [w1, c1, l1, r1]; rfl
    · show (pl 2 w && (pl 2 ch && (pl 2 l && (pl 2 r && true)))) = true
      rw [w2, c2, l2, r2]; rfl
    · intro ds e
      cases e
      intro e he
      simp only [List.mem_cons, List.not_mem_nil, or_false] at he
      rcases he with rfl | rfl | rfl | rfl
      · exact w3
      · exact c3
      · exact l3
      · exact r3
structure Oth (x : List Nat) (c o : Nat) (r : List Nat) : Prop where
  eq : x = c :: r
  out : o ∉ x
  oo : 97 ≤ o
  edge : 35 ∉ x
  cap : c - 32 ∉ x
  blank : 32 ∉ x
  nd : x.Nodup
  ris : x.Pairwise (· < ·)
  ltr : 97 ≤ c
theorem oth_of {c o : Nat} {r : List Nat} (hx : Snd (c :: r)) (ho : o ∉ c :: r) (h97 : 97 ≤ o) : Oth (c :: r) c o r := by
  have hl := hx.ltr
  have hc := hl c (by simp)
  refine ⟨rfl, ho, h97, fun h => ?_, fun h => ?_, fun h => ?_, hx.ris.imp (fun h => Nat.ne_of_lt h), hx.ris, hc.1⟩
  · have := hl _ h; omega
  · have := hl _ h; omega
  · have := hl _ h; omega
theorem sg_bad {x : List Nat} {c o : Nat} {r : List Nat} (h : Oth x c o r) : ∀ d ∈ S1 c o ++ S2 c r ++ S3 c, sgB x d = false ∧ pl 2 d = true ∧ sz d := by
  have ho := h.out
  have he := h.edge
  have hu := h.cap
  have hb := h.blank
  have hc := h.ltr
  have o35 : o ≠ 35 := fun z => by have := h.oo; omega
  have c35 : ¬ ([c] : List Nat) < [35] := fun h => by have := lt1.mp h; omega
  have cc : ¬ ([c] : List Nat) < [c] := List.lt_irrefl _
  have z35 : ¬ ([35] : List Nat) < [35] := List.lt_irrefl _
  intro d hd
  rcases List.mem_append.mp hd with hd | hd
  · rcases List.mem_append.mp hd with hd | hd
    · simp only [S1, List.mem_cons, List.not_mem_nil, or_false] at hd
      rcases hd with rfl | rfl | rfl | rfl | rfl | rfl | rfl | rfl | rfl | rfl | rfl | rfl | rfl | rfl | rfl
      all_goals refine ⟨?_, rfl, fun ds e => by first | (cases e; show _ ≤ 1000; simp) | cases e⟩
      all_goals first
        | rfl
        | simp [sgB, sgnB, isS, inS, risD, strsD, risB, ho, he, hu, hb, c35, cc, z35, o35]
    · cases r with
      | nil => cases hd
      | cons b r =>
        have hlt : c < b := by
          have := h.ris
          rw [h.eq] at this
          exact (List.pairwise_cons.mp this).1 b (by simp)
        have bc : ¬ ([b] : List Nat) < [c] := fun h => by have := lt1.mp h; omega
        have b35 : ¬ ([b] : List Nat) < [35] := fun h => by have := lt1.mp h; omega
        simp only [S2, List.mem_cons, List.not_mem_nil, or_false] at hd
        rcases hd with rfl | rfl | rfl
        all_goals refine ⟨?_, rfl, fun ds e => by first | (cases e; show _ ≤ 1000; simp) | cases e⟩
        all_goals simp [sgB, sgnB, isS, inS, risD, strsD, risB, bc, b35]
  · simp only [S3, List.mem_cons, List.not_mem_nil, or_false] at hd
    rcases hd with rfl | rfl | rfl | rfl | rfl | rfl
    all_goals refine ⟨?_, rfl, fun ds e => by first | (cases e; show _ ≤ 1000; simp) | cases e⟩
    all_goals first
      | rfl
      | (simp [sgB, sgnB, isS, inS, risD, strsD, risB, ho, he, hu, hb]; try omega)
theorem cut2 {c b : Nat} {r : List Nat} (hr : r.length ≤ 2) : ∃ d e, cutD (c :: b :: r) (some (-2)) none = [d, e] := by
  match r, hr with
  | [], _ => exact ⟨_, _, rfl⟩
  | [_], _ => exact ⟨_, _, rfl⟩
  | [_, _], _ => exact ⟨_, _, rfl⟩
theorem cc_bad {x : List Nat} {c o : Nat} {r : List Nat} (h : Oth x c o r) (hr : r.length ≤ 3) : ∀ d ∈ C1 c o ++ C2 c r, ccB x d = false ∧ pl 2 d = true ∧ sz d := by
  have ho := h.out
  have he := h.edge
  have hu := h.cap
  have hb := h.blank
  have hc := h.ltr
  have cc : ¬ ([c] : List Nat) < [c] := List.lt_irrefl _
  have ce : ¬ ([c] : List Nat) < [] := List.not_lt_nil _
  intro d hd
  rcases List.mem_append.mp hd with hd | hd
  · simp only [C1, List.mem_cons, List.not_mem_nil, or_false] at hd
    rcases hd with rfl | rfl | rfl | rfl | rfl | rfl | rfl | rfl | rfl | rfl | rfl | rfl | rfl | rfl | rfl | rfl | rfl | rfl | rfl | rfl | rfl | rfl | rfl | rfl | rfl | rfl | rfl | rfl | rfl | rfl | rfl | rfl | rfl | rfl | rfl | rfl | rfl | rfl | rfl | rfl | rfl | rfl
    all_goals refine ⟨?_, rfl, fun ds e => by first | (cases e; show _ ≤ 1000; simp) | cases e⟩
    all_goals first
      | rfl
      | simp [ccB, chB, piB, neS, isS, inS, risD, strsD, risB, fst, ho, he, hu, hb, cc, ce]
  · cases r with
    | nil => cases hd
    | cons b r =>
      have hlt : c < b := by
        have := h.ris
        rw [h.eq] at this
        exact (List.pairwise_cons.mp this).1 b (by simp)
      have bc : ¬ ([b] : List Nat) < [c] := fun h => by have := lt1.mp h; omega
      obtain ⟨d1, d2, e2⟩ := cut2 (c := c) (b := b) (r := r) (by simpa using hr)
      simp only [C2, e2, List.mem_cons, List.not_mem_nil, or_false] at hd
      rcases hd with rfl | rfl | rfl | rfl | rfl | rfl | rfl | rfl
      all_goals refine ⟨?_, rfl, fun ds e => by first | (cases e; show _ ≤ 1000; simp) | cases e⟩
      all_goals simp [ccB, chB, piB, neS, isS, inS, risD, strsD, risB, fst, bc, cc, ce]
end K04
namespace K04
open Ev PySem L2
local macro_rules | `(tactic| ac_rfl) => `(tactic| simp (maxSteps := 2000000) (disch := (first | ((try simp only [List.length_cons, List.length_nil, List.length_append, List.length_map, List.length_range, sizeLine, Nat.reducePow]) <;> omega) | fail)) only [↓sNx, ↓sRt, ↓bR, ↓bO, ↓lR, ↓lO, ↓iT, ↓iF, ↓rS, ↓bB, ↓oS, ↓nS, ↓obS, ↓kNx, ↓vS, ↓wS, ↓lS, ↓eS, ↓pS, ↓cS, ↓kStr, ↓kInt, stSeq_s, zR, zO, evTup_s, evLst_s, lS, stApp_s, stExt_s, gAdd_s', gAdd_t', gAdd_l', gCat_l', gSlT_cut, gSl_l, gSl_a, gSlS_s, gRev_s, gRevT_t, sNx, sRt, sBk, sCt, stIf_s, evIf_s, iT, iF, bR, bO, lR, lO, stRet_s, stAsg_s, stOwn_s, stNext_s, stRetN_s, evC_s, evNil_s, evCons_s, evBin_s, evUn_s, evCall_s, evVar_s, evRd_s, evBinO_s, rS, evAnd_s, evOr_s, evNot_s, evB_s, bB, evAndT_s, evOrT_s, evNotT_s, evIO_s, oS, evIOn_s, evChain_s, obS, evP_s, nS, evNoP_s, evSl_s, evSlS_s, evSlT_s, evRev_s, evDnew_s, stFor_s, gvName_s, gvT1, gvCons_s, gB, gvNil_s, evIt_s, evRng_s, itD_l, itD_a, itD_t, itD_s, eS, forO_c, forO_n, vS, kNx, kRt, kBk, kCt, lcO_c, lcO_n, wS, evTrue_s, runP_s, dRt, dNx, envOf, gIx_t, gIx_l, gIx_s, at0, at1, at2, at3, gAdd_i, gLen_s, gLen_t, gLen_l, gLen_a, gTuple_l, gTuple_t, gList_t, gList_l, gList_s, gEq_s, gNe_s, gEq_i, gNe_i, gIsi_t, gLe_i, gLt_i, gGt_i, gGe_i, gLt_s, gSub_i, gIn_c, gt0, gtS, st0, stS, cdT, cdF, Option.map_some, Option.bind_some, List.map_cons, List.map_nil, List.replicate_succ, List.replicate_zero, Nat.reduceAdd, Nat.reduceSub, List.length_cons, List.length_nil, List.cons_append, List.nil_append, Bool.not_true, Bool.not_false, nc0, nc1, nc2, nc3, nc4, nc5, nc6, nc7, nc8, Int.reduceBEq, Nat.reduceBEq, Int.reduceLE, Int.reduceLT, Nat.reduceLeDiff, Nat.reduceLT, Int.reduceAdd, Int.reduceSub, decide_true, decide_false, beq_self_eq_true, runIO_s, envIO, ioRt, ioNx, runN_s, nRt, stRetNew_s, pS, cS, kStr, kInt, stDput_s, gSlA_s, gSlA_t, gSlA_l, gSlA_a, evSlA_s, okT_s, okB_s, stk, kApp2_s, kApp3_s, kApp_s, kAsg_s, kB2_s, kB_s, kBin2_s, kBinO2_s, kBinO3_s, kBinO_s, kBin_s, kBlIf2_s, kBlIf_s, kCh2_s, kCh2b_s, kCh3_s, kCh4_s, kCh_s, kCons2_s, kCons_s, kDp1_s, kDp2_s, kDp3_s, kDp4_s, kDp5_s, kDp_s, kExt2_s, kExt3_s, kExt4_s, kExt_s, kFor_s, kIO1_s, kIO2_s, kIO3_s, kIO4_s, kIO5_s, kIO_s, kIOn2_s, kIOn3_s, kIOn_s, kIf_s, kLc2_s, kLc3_s, kLc4_s, kLc_s, kLst_s, kNot2_s, kNotT_s, kNot_s, kOwn_s, kP2_s, kP_s, kRd_s, kRetN_s, kRet_s, kSl2_s, kSl3_s, kSl_s, kTup_s, kUn_s, kVar_s, kWh_s, *] <;> try rfl)
open K03 (good Rw row snd Stk)
theorem pack_eq : f_law_pack = K06.f_law_pack := rfl
theorem stock_eq : f_law_stock = K03.f_law_stock := rfl
theorem sounds_eq : f_law_sounds = K03.f_law_sounds := rfl
def None3 (x : List Nat) (t : D) : Prop := rlB x t = false ∧ pl 3 t = true ∧ ∀ ds, t = .tup ds → ∀ e ∈ ds, sz e
theorem none4 {x : List Nat} {a b c d : D} (h : rlB x (.tup [a, b, c, d]) = false) (pa : pl 2 a = true) (pb : pl 2 b = true) (pc : pl 2 c = true) (pd : pl 2 d = true) (sa : sz a) (sb : sz b) (sc : sz c) (sd : sz d) : None3 x (.tup [a, b, c, d]) := by
  refine ⟨h, ?_, ?_⟩
  · show (pl 2 a && (pl 2 b && (pl 2 c && (pl 2 d && true)))) = true
    rw [pa, pb, pc, pd]; rfl
  · intro ds e
    cases e
    intro e he
    simp only [List.mem_cons, List.not_mem_nil, or_false] at he
    rcases he with rfl | rfl | rfl | rfl
    · exact sa
    · exact sb
    · exact sc
    · exact sd
theorem t_bad {x : List Nat} (hx : Snd x) {w ch l r : D} (hw : w = .str [111, 110, 99, 101] ∨ w = .str [97, 108, 111, 110, 103]) (hc : ChOk x ch) (hl : SgOk x l) (hr : SgOk x r) (CH SG : List D)
    (bC : ∀ d ∈ CH, ccB x d = false ∧ pl 2 d = true ∧ sz d) (bS : ∀ d ∈ SG, sgB x d = false ∧ pl 2 d = true ∧ sz d) : ∀ t ∈ T w ch l r CH SG, None3 x t := by
  obtain ⟨c1, c2, c3⟩ := ch_ok hc
  obtain ⟨l1, l2, l3, l4⟩ := sg_ok hx hl
  obtain ⟨r1, r2, r3, r4⟩ := sg_ok hx hr
  have w2 : pl 2 w = true := by rcases hw with rfl | rfl <;> rfl
  have w3 : sz w := by rcases hw with rfl | rfl <;> exact fun ds e => by cases e
  intro t ht
  unfold T at ht
  rcases List.mem_append.mp ht with ht | ht
  · rcases List.mem_append.mp ht with ht | ht
    · rcases List.mem_append.mp ht with ht | ht
      · simp only [T0, List.mem_cons, List.not_mem_nil, or_false] at ht
        rcases ht with rfl | rfl | rfl | rfl | rfl | rfl | rfl | rfl | rfl | rfl | rfl
        · exact ⟨rfl, rfl, fun ds e => by cases e⟩
        · exact ⟨rfl, rfl, fun ds e => by cases e⟩
        · exact ⟨rfl, rfl, fun ds e => by cases e⟩
        · exact ⟨rfl, rfl, fun ds e => by cases e; intro e he; cases he⟩
        · exact ⟨rfl, rfl, fun ds e => by cases e⟩
        · exact ⟨rfl, rfl, fun ds e => by cases e⟩
        · refine ⟨rfl, ?_, fun ds e => ?_⟩
          · show (pl 2 w && (pl 2 ch && (pl 2 l && true))) = true
            rw [w2, c2, l2]; rfl
          · cases e
            intro e he
            simp only [List.mem_cons, List.not_mem_nil, or_false] at he
            rcases he with rfl | rfl | rfl
            · exact w3
            · exact c3
            · exact l3
        · refine ⟨rfl, ?_, fun ds e => ?_⟩
          · show (pl 2 w && (pl 2 ch && (pl 2 l && (pl 2 r && (true && true))))) = true
            rw [w2, c2, l2, r2]; rfl
          · cases e
            intro e he
            simp only [List.mem_cons, List.not_mem_nil, or_false] at he
            rcases he with rfl | rfl | rfl | rfl | rfl
            · exact w3
            · exact c3
            · exact l3
            · exact r3
            · exact fun ds e => by cases e
        · refine ⟨rfl, ?_, fun ds e => ?_⟩
          · show ((pl 1 w && (pl 1 ch && (pl 1 l && (pl 1 r && true)))) && true) = true
            rw [pl_mono w2, pl_mono c2, pl_mono l2, pl_mono r2]; rfl
          · cases e
            intro e he
            simp only [List.mem_cons, List.not_mem_nil, or_false] at he
            subst he
            exact fun ds e => by cases e; show 4 ≤ 1000; omega
        · refine ⟨rfl, ?_, fun ds e => ?_⟩
          · show (pl 2 ch && (pl 2 l && (pl 2 r && true))) = true
            rw [c2, l2, r2]; rfl
          · cases e
            intro e he
            simp only [List.mem_cons, List.not_mem_nil, or_false] at he
            rcases he with rfl | rfl | rfl
            · exact c3
            · exact l3
            · exact r3
        · refine none4 ?_ r2 l2 c2 w2 r3 l3 c3 w3
          show (wyB r && _) = false
          rw [r4]; rfl
      · obtain ⟨o, ho, rfl⟩ := List.mem_map.mp ht
        have hb : wyB o = false ∧ pl 2 o = true ∧ sz o := by
          simp only [ODD, List.mem_cons, List.not_mem_nil, or_false] at ho
          rcases ho with rfl | rfl | rfl | rfl | rfl | rfl | rfl | rfl | rfl | rfl | rfl
          all_goals refine ⟨by rfl, by rfl, fun ds e => by first | (cases e; show _ ≤ 1000; simp) | cases e⟩
        refine none4 ?_ hb.2.1 c2 l2 r2 hb.2.2 c3 l3 r3
        show (wyB o && _) = false
        rw [hb.1]; rfl
    · obtain ⟨o, ho, rfl⟩ := List.mem_map.mp ht
      obtain ⟨b1, b2, b3⟩ := bC o ho
      refine none4 ?_ w2 b2 l2 r2 w3 b3 l3 r3
      show (_ && (ccB x o && _)) = false
      rw [b1, Bool.false_and, Bool.and_false]
  · obtain ⟨o, ho, ht⟩ := List.mem_flatMap.mp ht
    obtain ⟨b1, b2, b3⟩ := bS o ho
    simp only [List.mem_cons, List.not_mem_nil, or_false] at ht
    rcases ht with rfl | rfl
    · refine none4 ?_ w2 c2 b2 r2 w3 c3 b3 r3
      show (_ && (_ && (sgB x o && _))) = false
      rw [b1, Bool.false_and, Bool.and_false, Bool.and_false]
    · refine none4 ?_ w2 c2 l2 b2 w3 c3 l3 b3
      show (_ && (_ && (_ && sgB x o))) = false
      rw [b1, Bool.and_false, Bool.and_false, Bool.and_false]
theorem sounds_of (L : List Rw) (hL : L.length ≤ 4) : f_sounds_of [.tup (L.map row)] = some (.tup (sgs (L.map (·.1)))) := by
  unfold f_sounds_of b_sounds_of
  have h4 : lc_sounds_of_1 [(some (false, .tup (L.map row)))] = .ok (.lst (sgs (L.map (·.1)))) [(some (false, .tup (L.map row)))] := by
    unfold lc_sounds_of_1
    have := evLC_p (lo := 1) (n := 3) (it := evIt (evVar 0)) (g := gvTup 2 (gvCons (gvName 1) (gvCons (gvName 2) (gvNil)))) (c := evTrue) (e := evVar 1) (env := [(some (false, .tup (L.map row)))]) L row (fun p => [(some (false, .str [p.1])), (some (false, .tup (p.2.map .str)))]) (fun _ => true) (fun p => .str [p.1]) (by ac_rfl) rfl (fun p hp => by
      refine ⟨rfl, fun vs hv => ?_, rfl, fun _ => rfl⟩
      match vs, hv with
      | [_, _], _ => rfl) (Nat.le_trans hL (by decide))
    rw [List.filter_eq_self.mpr (fun _ _ => rfl)] at this
    unfold sgs
    rw [List.map_map]
    exact this
  ac_rfl
theorem is_eq (b : Bool) : f_law_is [.bl b, .bl b] = some (.bl true) := by cases b <;> rfl
theorem all_true {α : Type} (l : List α) : gAll [.lst (l.map fun _ => D.bl true)] = some (.bl true) := by
  rw [gAllM (fun _ => true)]
  simp
def RB (x : List Nat) (l : Nat) : List D := [.tup [.str [111, 110, 99, 101], .tup (x.map fun c => .tup [.str [c], .str []]), .tup (Ev.signs (35 :: x)), .non], .tup [.str [97, 108, 111, 110, 103], .tup [.tup [.str [], .str [l]]], .non, .tup [.str [35]]]]
theorem rb_ok {x : List Nat} (hx : Snd x) {l : Nat} (hl : l ∈ x) : ∀ d ∈ RB x l, rlB x d = true ∧ pl 3 d = true ∧ ∀ ds, d = .tup ds → ∀ e ∈ ds, sz e := by
  have h4 := hx.few
  have h1 := hx.pos
  have hall : (x.map fun c => D.tup [.str [c], .str []]).all (chB x) = true := by
    rw [List.all_map, List.all_eq_true]
    intro c hc
    show (decide (c ∈ x) && ((inS x (.str []) || true) && true)) = true
    rw [decide_eq_true hc, Bool.or_true]; rfl
  have hf : (x.map fun c => D.tup [.str [c], .str []]).map fst = sgs x := by rw [List.map_map]; rfl
  have hne : (x.map fun c => D.tup [.str [c], .str []]).isEmpty = false := by
    cases x with
    | nil => simp at h1
    | cons a r => rfl
  have hc : ccB x (.tup (x.map fun c => D.tup [.str [c], .str []])) = true := by
    show (!(x.map fun c => D.tup [.str [c], .str []]).isEmpty && (_ || ((x.map fun c => D.tup [.str [c], .str []]).all (chB x) && risD ((x.map fun c => D.tup [.str [c], .str []]).map fst)))) = true
    rw [hne, hall, hf, ris_sgs hx.ris]
    simp
  have hs := sg_ok hx (SgOk.some (x := x) (35 :: x) (by simp) (List.Sublist.refl _))
  have hpl : pl 2 (.tup (x.map fun c => D.tup [.str [c], .str []])) = true := by
    show (x.map fun c => D.tup [.str [c], .str []]).all (pl 1) = true
    rw [List.all_map, List.all_eq_true]
    intro c _
    rfl
  intro d hd
  simp only [RB, List.mem_cons, List.not_mem_nil, or_false] at hd
  rcases hd with rfl | rfl
  · have es : D.tup (Ev.signs (35 :: x)) = .tup (sgs (35 :: x)) := rfl
    rw [es]
    obtain ⟨s1, s2, s3, _⟩ := hs
    refine ⟨?_, ?_, ?_⟩
    · show (true && (ccB x _ && (sgB x _ && true))) = true
      rw [hc, s1]; rfl
    · show (true && (pl 2 _ && (pl 2 _ && (true && true)))) = true
      rw [hpl, s2]; rfl
    · intro ds e
      cases e
      intro e he
      simp only [List.mem_cons, List.not_mem_nil, or_false] at he
      rcases he with rfl | rfl | rfl | rfl
      · exact fun ds e => by cases e
      · exact fun ds e => by cases e; rw [List.length_map]; omega
      · exact s3
      · exact fun ds e => by cases e
  · refine ⟨?_, rfl, ?_⟩
    · show (true && ((true && ((true && (true && decide (l ∈ x))) || _)) && (true && _))) = true
      rw [decide_eq_true hl]
      rfl
    · intro ds e
      cases e
      intro e he
      simp only [List.mem_cons, List.not_mem_nil, or_false] at he
      rcases he with rfl | rfl | rfl | rfl
      all_goals exact fun ds e => by first | (cases e; show _ ≤ 1000; simp) | cases e
end K04
namespace K04
open Ev PySem L2
local macro_rules | `(tactic| ac_rfl) => `(tactic| simp (maxSteps := 2000000) (disch := (first | ((try simp only [List.length_cons, List.length_nil, List.length_append, List.length_map, List.length_range, sizeLine, Nat.reducePow]) <;> omega) | fail)) only [↓sNx, ↓sRt, ↓bR, ↓bO, ↓lR, ↓lO, ↓iT, ↓iF, ↓rS, ↓bB, ↓oS, ↓nS, ↓obS, ↓kNx, ↓vS, ↓wS, ↓lS, ↓eS, ↓pS, ↓cS, ↓kStr, ↓kInt, stSeq_s, zR, zO, evTup_s, evLst_s, lS, stApp_s, stExt_s, gAdd_s', gAdd_t', gAdd_l', gCat_l', gSlT_cut, gSl_l, gSl_a, gSlS_s, gRev_s, gRevT_t, sNx, sRt, sBk, sCt, stIf_s, evIf_s, iT, iF, bR, bO, lR, lO, stRet_s, stAsg_s, stOwn_s, stNext_s, stRetN_s, evC_s, evNil_s, evCons_s, evBin_s, evUn_s, evCall_s, evVar_s, evRd_s, evBinO_s, rS, evAnd_s, evOr_s, evNot_s, evB_s, bB, evAndT_s, evOrT_s, evNotT_s, evIO_s, oS, evIOn_s, evChain_s, obS, evP_s, nS, evNoP_s, evSl_s, evSlS_s, evSlT_s, evRev_s, evDnew_s, stFor_s, gvName_s, gvT1, gvCons_s, gB, gvNil_s, evIt_s, evRng_s, itD_l, itD_a, itD_t, itD_s, eS, forO_c, forO_n, vS, kNx, kRt, kBk, kCt, lcO_c, lcO_n, wS, evTrue_s, runP_s, dRt, dNx, envOf, gIx_t, gIx_l, gIx_s, at0, at1, at2, at3, gAdd_i, gLen_s, gLen_t, gLen_l, gLen_a, gTuple_l, gTuple_t, gList_t, gList_l, gList_s, gEq_s, gNe_s, gEq_i, gNe_i, gIsi_t, gLe_i, gLt_i, gGt_i, gGe_i, gLt_s, gSub_i, gIn_c, gt0, gtS, st0, stS, cdT, cdF, Option.map_some, Option.bind_some, List.map_cons, List.map_nil, List.replicate_succ, List.replicate_zero, Nat.reduceAdd, Nat.reduceSub, List.length_cons, List.length_nil, List.cons_append, List.nil_append, Bool.not_true, Bool.not_false, nc0, nc1, nc2, nc3, nc4, nc5, nc6, nc7, nc8, Int.reduceBEq, Nat.reduceBEq, Int.reduceLE, Int.reduceLT, Nat.reduceLeDiff, Nat.reduceLT, Int.reduceAdd, Int.reduceSub, decide_true, decide_false, beq_self_eq_true, runIO_s, envIO, ioRt, ioNx, runN_s, nRt, stRetNew_s, pS, cS, kStr, kInt, stDput_s, gSlA_s, gSlA_t, gSlA_l, gSlA_a, evSlA_s, okT_s, okB_s, stk, kApp2_s, kApp3_s, kApp_s, kAsg_s, kB2_s, kB_s, kBin2_s, kBinO2_s, kBinO3_s, kBinO_s, kBin_s, kBlIf2_s, kBlIf_s, kCh2_s, kCh2b_s, kCh3_s, kCh4_s, kCh_s, kCons2_s, kCons_s, kDp1_s, kDp2_s, kDp3_s, kDp4_s, kDp5_s, kDp_s, kExt2_s, kExt3_s, kExt4_s, kExt_s, kFor_s, kIO1_s, kIO2_s, kIO3_s, kIO4_s, kIO5_s, kIO_s, kIOn2_s, kIOn3_s, kIOn_s, kIf_s, kLc2_s, kLc3_s, kLc4_s, kLc_s, kLst_s, kNot2_s, kNotT_s, kNot_s, kOwn_s, kP2_s, kP_s, kRd_s, kRetN_s, kRet_s, kSl2_s, kSl3_s, kSl_s, kTup_s, kUn_s, kVar_s, kWh_s, *] <;> try rfl)
open K03 (good Rw row snd Stk)
theorem last_of {x : List Nat} (h : 1 ≤ x.length) : ∃ l, l ∈ x ∧ atI x (-1) = some l := by
  obtain ⟨y, l, rfl⟩ : ∃ y l, x = y ++ [l] := ⟨x.dropLast, x.getLast (by intro e; subst e; simp at h), (List.dropLast_concat_getLast _).symm⟩
  refine ⟨l, by simp, ?_⟩
  have e : ixN (y ++ [l]).length (-1) = some y.length := by
    unfold ixN
    rw [List.length_append, if_neg (by decide), if_pos (by show -((y.length + 1 : Nat) : Int) ≤ -1; omega)]
    congr 1
    show (-1 + ((y.length + 1 : Nat) : Int)).toNat = y.length
    omega
  unfold atI
  rw [e]
  simp
theorem law_body (ns : List Int) (hl : ns.length ≤ 63) (hb : Bits ns) (k : Int) (h0 : 0 ≤ k) (h1 : k ≤ 400) (a2 a3 a4 a5 : Option (Bool × D)) : ∃ b2 b3 b4 b5,
    lb_law_1 [(some (false, .arr (ns.map .int))), (some (false, .int k)), a2, a3, a4, a5] = .nx [(some (false, .arr (ns.map .int))), (some (false, .int k)), b2, b3, b4, b5] := by
  obtain ⟨p, hp⟩ := K06.pack ns hl hb k h0 (by omega)
  rw [← pack_eq] at hp
  obtain ⟨L, n0, S, hs⟩ := K03.stock p
  rw [← stock_eq] at hs
  have hL := S.len.2
  have hsd := K03.law_sounds L hL
  rw [← sounds_eq] at hsd
  have hso := sounds_of L hL
  have hx := snd_of S.snds
  generalize ex : L.map (·.1) = x at hsd hso hx
  generalize hST : D.tup (L.map row) = ST at hs hsd hso
  obtain ⟨R0, n1, r0, ok0⟩ := rule n0 x hx
  obtain ⟨R1, n2, r1, ok1⟩ := rule n1 x hx
  obtain ⟨R2, n3, r2, ok2⟩ := rule n2 x hx
  obtain ⟨lst, hlm, hlast⟩ := last_of hx.pos
  have h4 := hx.few
  generalize ha0 : ((some (false, .arr (ns.map .int))) : Option (Bool × D)) = a0
  have c1 : lc_law_1 [a0, (some (false, .int k)), (some (true, .lst [.int n0])), (some (false, ST)), (some (false, .str x)), a5] = .ok (.lst [R0, R1, R2]) [a0, (some (false, .int k)), (some (true, .lst [.int n3])), (some (false, ST)), (some (false, .str x)), a5] := by
    have e : lcO (gvName 6) evTrue (evIO f_law_rule 2 (evCons (evVar 4) (evNil))) [.int 0, .int 1, .int 2] [a0, (some (false, .int k)), (some (true, .lst [.int n0])), (some (false, ST)), (some (false, .str x)), a5, none] = .ok [R0, R1, R2] [a0, (some (false, .int k)), (some (true, .lst [.int n3])), (some (false, ST)), (some (false, .str x)), a5, (some (false, .int 2))] := by
      clear hp hs hsd hso hlast ok0 ok1 ok2 hx
      ac_rfl
    unfold lc_law_1
    exact evLC_eq (lo := 6) (n := 7) (ds := [.int 0, .int 1, .int 2]) (env1 := [a0, (some (false, .int k)), (some (true, .lst [.int n0])), (some (false, ST)), (some (false, .str x)), a5]) (by rfl) rfl e (by show 3 ≤ sizeLine; decide)
  have c2 : ∀ v, lc_law_2 [a0, (some (false, .int k)), (some (true, .lst [.int n3])), (some (false, ST)), (some (false, .str x)), v] = .ok (.lst (x.map fun c => .tup [.str [c], .str []])) [a0, (some (false, .int k)), (some (true, .lst [.int n3])), (some (false, ST)), (some (false, .str x)), v] := fun v => by
    unfold lc_law_2
    refine evLC_1 x (fun c => .str [c]) _ (by rfl) rfl rfl (fun c _ => ?_) (Nat.le_trans h4 (by decide))
    clear hp hs hsd hso hlast ok0 ok1 ok2 hx r0 r1 r2 c1
    ac_rfl
  have goodR : ∀ d ∈ [R0, R1, R2] ++ RB x lst, rlB x d = true ∧ pl 3 d = true ∧ ∀ ds, d = .tup ds → ∀ e ∈ ds, sz e := fun d hd => by
    rcases List.mem_append.mp hd with hd | hd
    · simp only [List.mem_cons, List.not_mem_nil, or_false] at hd
      rcases hd with rfl | rfl | rfl
      · exact rl_ok hx ok0
      · exact rl_ok hx ok1
      · exact rl_ok hx ok2
    · exact rb_ok hx hlm d hd
  have c3 : lc_law_3 [a0, (some (false, .int k)), (some (true, .lst [.int n3])), (some (false, ST)), (some (false, .str x)), (some (true, .lst ([R0, R1, R2] ++ RB x lst)))] = .ok (.lst (([R0, R1, R2] ++ RB x lst).map fun _ => .bl true)) [a0, (some (false, .int k)), (some (true, .lst [.int n3])), (some (false, ST)), (some (false, .str x)), (some (false, .lst ([R0, R1, R2] ++ RB x lst)))] := by
    unfold lc_law_3
    refine evLC_1 (env1 := [a0, (some (false, .int k)), (some (true, .lst [.int n3])), (some (false, ST)), (some (false, .str x)), (some (false, .lst ([R0, R1, R2] ++ RB x lst)))]) ([R0, R1, R2] ++ RB x lst) id (fun _ => .bl true) (by rw [List.map_id]; rfl) rfl rfl (fun d hd => ?_) (by show 5 ≤ sizeLine; decide)
    obtain ⟨g1, g2, g3⟩ := goodR d hd
    have hr := is_rule ST x hso d g2 g3
    rw [g1] at hr
    have i1 := is_eq true
    generalize [R0, R1, R2] ++ RB x lst = RS
    clear hp hs hsd hso hlast ok0 ok1 ok2 hx r0 r1 r2 c1 c2 goodR g1 g2 g3
    simp only [id]
    ac_rfl
  obtain ⟨c, r, rfl⟩ : ∃ c r, x = c :: r := by
    cases x with
    | nil => have := hx.pos; simp at this
    | cons c r => exact ⟨c, r, rfl⟩
  have hr3 : r.length ≤ 3 := by simpa using h4
  obtain ⟨o, ho, h97, hout⟩ := law_out (c :: r) h4
  have hO := oth_of hx ho h97
  have hc := hx.ltr c (by simp)
  have f1 := no_changes c r hc o hout hr3
  have f2 := no_signs c r hc o hout hr3
  have lenC : (C1 c o ++ C2 c r).length ≤ 100 := by
    rw [List.length_append]
    have : (C2 c r).length ≤ 8 := by cases r <;> simp [C2]
    have e : (C1 c o).length = 42 := rfl
    omega
  have lenS : (S1 c o ++ S2 c r ++ S3 c).length ≤ 100 := by
    rw [List.length_append, List.length_append]
    have : (S2 c r).length ≤ 3 := by cases r <;> simp [S2]
    have e : (S1 c o).length = 15 := rfl
    have e2 : (S3 c).length = 6 := rfl
    omega
  obtain ⟨T', hT, hTl, hTb⟩ : ∃ T', f_law_no_rules [R0, .str (c :: r)] = some (.lst T') ∧ T'.length ≤ 1000 ∧ ∀ t ∈ T', None3 (c :: r) t := by
    cases ok0 with
    | mk w ch l rr hw hch hl2 hr2 =>
      refine ⟨_, no_rules w ch l rr (c :: r) _ _ f1 f2 lenC lenS, ?_, t_bad hx hw hch hl2 hr2 _ _ (cc_bad hO hr3) (sg_bad hO)⟩
      unfold T
      rw [List.length_append, List.length_append, List.length_append, List.length_map, List.length_map, List.length_flatMap]
      have e : ((S1 c o ++ S2 c r ++ S3 c).map fun o => [D.tup [w, ch, o, rr], .tup [w, ch, l, o]].length).sum = 2 * (S1 c o ++ S2 c r ++ S3 c).length := by
        generalize S1 c o ++ S2 c r ++ S3 c = Z
        induction Z with
        | nil => rfl
        | cons z Z ih => rw [List.map_cons, List.sum_cons, ih]; show 2 + 2 * Z.length = 2 * (Z.length + 1); omega
      rw [e]
      have e0 : (T0 w ch l rr).length = 11 := rfl
      have e1 : ODD.length = 11 := rfl
      omega
  have c4 : lc_law_4 [a0, (some (false, .int k)), (some (true, .lst [.int n3])), (some (false, ST)), (some (false, .str (c :: r))), (some (false, .lst ([R0, R1, R2] ++ RB (c :: r) lst)))] = .ok (.lst (T'.map fun _ => .bl true)) [a0, (some (false, .int k)), (some (true, .lst [.int n3])), (some (false, ST)), (some (false, .str (c :: r))), (some (false, .lst ([R0, R1, R2] ++ RB (c :: r) lst)))] := by
    unfold lc_law_4
    refine evLC_1 T' id (fun _ => .bl true) ?_ rfl rfl (fun d hd => ?_) (Nat.le_trans hTl (by decide))
    · rw [List.map_id]
      show evIt _ [a0, (some (false, .int k)), (some (true, .lst [.int n3])), (some (false, ST)), (some (false, .str (c :: r))), (some (false, .lst (R0 :: [R1, R2] ++ RB (c :: r) lst)))] = _
      rw [List.cons_append]
      generalize [R1, R2] ++ RB (c :: r) lst = RS
      clear hp hs hsd hso hlast ok0 ok1 ok2 hx r0 r1 r2 c1 c2 c3 goodR hTb f1 f2
      ac_rfl
    · obtain ⟨g1, g2, g3⟩ := hTb d hd
      have hr := is_rule ST (c :: r) hso d g2 g3
      rw [g1] at hr
      have i1 := is_eq false
      generalize [R0, R1, R2] ++ RB (c :: r) lst = RS
      clear hp hs hsd hso hlast ok0 ok1 ok2 hx r0 r1 r2 c1 c2 c3 goodR g1 g2 g3 hTb f1 f2 hT
      simp only [id]
      ac_rfl
  have g3 := all_true ([R0, R1, R2] ++ RB (c :: r) lst)
  have g4 := all_true T'
  generalize hM3 : List.map (fun _ => D.bl true) ([R0, R1, R2] ++ RB (c :: r) lst) = M3 at c3 g3
  generalize hM4 : List.map (fun _ => D.bl true) T' = M4 at c4 g4
  refine ⟨(some (true, .lst [.int n3])), (some (false, ST)), (some (false, .str (c :: r))), (some (false, .lst ([R0, R1, R2] ++ RB (c :: r) lst))), ?_⟩
  have hng : gNeg (.int 1) = some (.int (-1)) := rfl
  have hts : gTupS [.str (35 :: c :: r)] = some (.tup (Ev.signs (35 :: c :: r))) := rfl
  have c2' := c2 (some (false, .lst [R0, R1, R2]))
  subst ha0
  unfold RB at c3 c4 ⊢
  generalize List.map (fun c => D.tup [D.str [c], D.str []]) (c :: r) = CG at c2' c3 c4 ⊢
  simp only [List.cons_append, List.nil_append] at c3 c4
  clear hM3 hM4 hTb hT f1 f2 goodR c2 ok0 ok1 ok2 r0 r1 r2 hso S hx hO hc hout lenC lenS ex hST h0 h1 hlm hb
  unfold lb_law_1
  ac_rfl
theorem true_law (ns : List Int) (hl : ns.length ≤ 63) (hb : Bits ns) : f_law [.arr (ns.map .int)] = some (.bl true) := by
  have hlen : evCall gLen (evCons (evRd 0) evNil) [(some (false, .arr (ns.map .int))), none, none, none, none, none] = .ok (.int (ns.length : Int)) [(some (false, .arr (ns.map .int))), none, none, none, none, none] := by
    show R.ok (D.int ((ns.map D.int).length : Int)) _ = _
    rw [List.length_map]
  obtain ⟨ds, hds, hk⟩ := K03.turns hlen 12 (by decide) (by decide)
  obtain ⟨e', f1, b1, b2, b3, b4, b5, rfl⟩ := forO_inv (g := gvName 1) (b := lb_law_1) (fun env => ∃ b1 b2 b3 b4 b5, env = [(some (false, .arr (ns.map .int))), b1, b2, b3, b4, b5]) ds
    (fun d hd env ⟨b1, b2, b3, b4, b5, he⟩ => by
      subst he
      obtain ⟨k, rfl, h0, h1⟩ := hk d hd
      obtain ⟨c2, c3, c4, c5, hb⟩ := law_body ns hl hb k h0 (by omega) b2 b3 b4 b5
      exact ⟨_, _, rfl, hb, _, _, _, _, _, rfl⟩)
    [(some (false, .arr (ns.map .int))), none, none, none, none, none] ⟨_, _, _, _, _, rfl⟩
  refine runP_eq (env := [(some (false, .arr (ns.map .int))), b1, b2, b3, b4, b5]) ?_
  unfold b_law
  refine (stSeq_nx (e := [(some (false, .arr (ns.map .int))), b1, b2, b3, b4, b5]) ?_).trans rfl
  exact (stFor_eq hds).trans f1
end K04
namespace K04
open PySem PySem.Spec PyProof.Rows L2 Ev
theorem all_mk {P : Program} {w : World} {K : Fg} {h : Heap} {mg : Str → Option Value} {fa : Addr} (X : K.In h) (G : h.Ns mainGlobals mg) (hfa : mg "law" = some (.ref fa))
    {f_rises_ : Addr} {oc_rises kV_rises dc_rises pm_rises cd_rises ct_rises : Value} {od_rises an_rises : Option Addr} {sl_rises : Array (Option Value)}
    {f_is_pair_ : Addr} {oc_is_pair kV_is_pair dc_is_pair pm_is_pair cd_is_pair ct_is_pair : Value} {od_is_pair an_is_pair : Option Addr} {sl_is_pair : Array (Option Value)}
    {f_sounds_of_ : Addr} {oc_sounds_of kV_sounds_of dc_sounds_of pm_sounds_of cd_sounds_of ct_sounds_of : Value} {od_sounds_of an_sounds_of : Option Addr} {sl_sounds_of : Array (Option Value)}
    {f_changes_sound_ : Addr} {oc_changes_sound kV_changes_sound dc_changes_sound pm_changes_sound cd_changes_sound ct_changes_sound : Value} {od_changes_sound an_changes_sound : Option Addr} {sl_changes_sound : Array (Option Value)}
    {f_puts_one_in_ : Addr} {oc_puts_one_in kV_puts_one_in dc_puts_one_in pm_puts_one_in cd_puts_one_in ct_puts_one_in : Value} {od_puts_one_in an_puts_one_in : Option Addr} {sl_puts_one_in : Array (Option Value)}
    {f_are_changes_ : Addr} {oc_are_changes kV_are_changes dc_are_changes pm_are_changes cd_are_changes ct_are_changes : Value} {od_are_changes an_are_changes : Option Addr} {sl_are_changes : Array (Option Value)}
    {f_are_signs_ : Addr} {oc_are_signs kV_are_signs dc_are_signs pm_are_signs cd_are_signs ct_are_signs : Value} {od_are_signs an_are_signs : Option Addr} {sl_are_signs : Array (Option Value)}
    {f_is_rule_ : Addr} {oc_is_rule kV_is_rule dc_is_rule pm_is_rule cd_is_rule ct_is_rule : Value} {od_is_rule an_is_rule : Option Addr} {sl_is_rule : Array (Option Value)}
    {f_law_mixed_ : Addr} {oc_law_mixed kV_law_mixed dc_law_mixed pm_law_mixed cd_law_mixed ct_law_mixed : Value} {od_law_mixed an_law_mixed : Option Addr} {sl_law_mixed : Array (Option Value)}
    {f_law_pack_ : Addr} {oc_law_pack kV_law_pack dc_law_pack pm_law_pack cd_law_pack ct_law_pack : Value} {od_law_pack an_law_pack : Option Addr} {sl_law_pack : Array (Option Value)}
    {f_law_take_ : Addr} {oc_law_take kV_law_take dc_law_take pm_law_take cd_law_take ct_law_take : Value} {od_law_take an_law_take : Option Addr} {sl_law_take : Array (Option Value)}
    {f_law_drawn_sounds_ : Addr} {oc_law_drawn_sounds kV_law_drawn_sounds dc_law_drawn_sounds pm_law_drawn_sounds cd_law_drawn_sounds ct_law_drawn_sounds : Value} {od_law_drawn_sounds an_law_drawn_sounds : Option Addr} {sl_law_drawn_sounds : Array (Option Value)}
    {f_law_stock_ : Addr} {oc_law_stock kV_law_stock dc_law_stock pm_law_stock cd_law_stock ct_law_stock : Value} {od_law_stock an_law_stock : Option Addr} {sl_law_stock : Array (Option Value)}
    {f_law_sounds_ : Addr} {oc_law_sounds kV_law_sounds dc_law_sounds pm_law_sounds cd_law_sounds ct_law_sounds : Value} {od_law_sounds an_law_sounds : Option Addr} {sl_law_sounds : Array (Option Value)}
    {f_law_signs_ : Addr} {oc_law_signs kV_law_signs dc_law_signs pm_law_signs cd_law_signs ct_law_signs : Value} {od_law_signs an_law_signs : Option Addr} {sl_law_signs : Array (Option Value)}
    {f_law_changes_ : Addr} {oc_law_changes kV_law_changes dc_law_changes pm_law_changes cd_law_changes ct_law_changes : Value} {od_law_changes an_law_changes : Option Addr} {sl_law_changes : Array (Option Value)}
    {f_law_rule_ : Addr} {oc_law_rule kV_law_rule dc_law_rule pm_law_rule cd_law_rule ct_law_rule : Value} {od_law_rule an_law_rule : Option Addr} {sl_law_rule : Array (Option Value)}
    {f_law_is_ : Addr} {oc_law_is kV_law_is dc_law_is pm_law_is cd_law_is ct_law_is : Value} {od_law_is an_law_is : Option Addr} {sl_law_is : Array (Option Value)}
    {f_law_out_ : Addr} {oc_law_out kV_law_out dc_law_out pm_law_out cd_law_out ct_law_out : Value} {od_law_out an_law_out : Option Addr} {sl_law_out : Array (Option Value)}
    {f_law_no_changes_ : Addr} {oc_law_no_changes kV_law_no_changes dc_law_no_changes pm_law_no_changes cd_law_no_changes ct_law_no_changes : Value} {od_law_no_changes an_law_no_changes : Option Addr} {sl_law_no_changes : Array (Option Value)}
    {f_law_no_signs_ : Addr} {oc_law_no_signs kV_law_no_signs dc_law_no_signs pm_law_no_signs cd_law_no_signs ct_law_no_signs : Value} {od_law_no_signs an_law_no_signs : Option Addr} {sl_law_no_signs : Array (Option Value)}
    {f_law_no_rules_ : Addr} {oc_law_no_rules kV_law_no_rules dc_law_no_rules pm_law_no_rules cd_law_no_rules ct_law_no_rules : Value} {od_law_no_rules an_law_no_rules : Option Addr} {sl_law_no_rules : Array (Option Value)}
    {f_law_ : Addr} {oc_law kV_law dc_law pm_law cd_law ct_law : Value} {od_law an_law : Option Addr} {sl_law : Array (Option Value)}
    {t_EDGE : Tok}
    {ga_WAYS : Addr} {gn_WAYS : Nat} {gsl_WAYS : Array (Option Value)} {gt0_WAYS gt1_WAYS : Tok}
    (a_rises : PySem.W.nsIn K mainGlobals "rises" = some (some (.ref f_rises_)))
    (l_rises : K.lookup f_rises_ = some ⟨oc_rises, od_rises, .func (PySem.W.fnOf "rises" "rises" (defArgs s_rises) (defBody s_rises) (defScope s_rises) .none kV_rises dc_rises pm_rises an_rises cd_rises ct_rises), sl_rises⟩)
    (c_rises : PySem.W.codeIn K cd_rises "rises" = true)
    (k_rises : PySem.W.keepIn K (.ref f_rises_) = true)
    (a_is_pair : PySem.W.nsIn K mainGlobals "is_pair" = some (some (.ref f_is_pair_)))
    (l_is_pair : K.lookup f_is_pair_ = some ⟨oc_is_pair, od_is_pair, .func (PySem.W.fnOf "is_pair" "is_pair" (defArgs s_is_pair) (defBody s_is_pair) (defScope s_is_pair) .none kV_is_pair dc_is_pair pm_is_pair an_is_pair cd_is_pair ct_is_pair), sl_is_pair⟩)
    (c_is_pair : PySem.W.codeIn K cd_is_pair "is_pair" = true)
    (k_is_pair : PySem.W.keepIn K (.ref f_is_pair_) = true)
    (a_sounds_of : PySem.W.nsIn K mainGlobals "sounds_of" = some (some (.ref f_sounds_of_)))
    (l_sounds_of : K.lookup f_sounds_of_ = some ⟨oc_sounds_of, od_sounds_of, .func (PySem.W.fnOf "sounds_of" "sounds_of" (defArgs s_sounds_of) (defBody s_sounds_of) (defScope s_sounds_of) .none kV_sounds_of dc_sounds_of pm_sounds_of an_sounds_of cd_sounds_of ct_sounds_of), sl_sounds_of⟩)
    (c_sounds_of : PySem.W.codeIn K cd_sounds_of "sounds_of" = true)
    (k_sounds_of : PySem.W.keepIn K (.ref f_sounds_of_) = true)
    (a_changes_sound : PySem.W.nsIn K mainGlobals "changes_sound" = some (some (.ref f_changes_sound_)))
    (l_changes_sound : K.lookup f_changes_sound_ = some ⟨oc_changes_sound, od_changes_sound, .func (PySem.W.fnOf "changes_sound" "changes_sound" (defArgs s_changes_sound) (defBody s_changes_sound) (defScope s_changes_sound) .none kV_changes_sound dc_changes_sound pm_changes_sound an_changes_sound cd_changes_sound ct_changes_sound), sl_changes_sound⟩)
    (c_changes_sound : PySem.W.codeIn K cd_changes_sound "changes_sound" = true)
    (k_changes_sound : PySem.W.keepIn K (.ref f_changes_sound_) = true)
    (a_puts_one_in : PySem.W.nsIn K mainGlobals "puts_one_in" = some (some (.ref f_puts_one_in_)))
    (l_puts_one_in : K.lookup f_puts_one_in_ = some ⟨oc_puts_one_in, od_puts_one_in, .func (PySem.W.fnOf "puts_one_in" "puts_one_in" (defArgs s_puts_one_in) (defBody s_puts_one_in) (defScope s_puts_one_in) .none kV_puts_one_in dc_puts_one_in pm_puts_one_in an_puts_one_in cd_puts_one_in ct_puts_one_in), sl_puts_one_in⟩)
    (c_puts_one_in : PySem.W.codeIn K cd_puts_one_in "puts_one_in" = true)
    (k_puts_one_in : PySem.W.keepIn K (.ref f_puts_one_in_) = true)
    (a_are_changes : PySem.W.nsIn K mainGlobals "are_changes" = some (some (.ref f_are_changes_)))
    (l_are_changes : K.lookup f_are_changes_ = some ⟨oc_are_changes, od_are_changes, .func (PySem.W.fnOf "are_changes" "are_changes" (defArgs s_are_changes) (defBody s_are_changes) (defScope s_are_changes) .none kV_are_changes dc_are_changes pm_are_changes an_are_changes cd_are_changes ct_are_changes), sl_are_changes⟩)
    (c_are_changes : PySem.W.codeIn K cd_are_changes "are_changes" = true)
    (k_are_changes : PySem.W.keepIn K (.ref f_are_changes_) = true)
    (a_are_signs : PySem.W.nsIn K mainGlobals "are_signs" = some (some (.ref f_are_signs_)))
    (l_are_signs : K.lookup f_are_signs_ = some ⟨oc_are_signs, od_are_signs, .func (PySem.W.fnOf "are_signs" "are_signs" (defArgs s_are_signs) (defBody s_are_signs) (defScope s_are_signs) .none kV_are_signs dc_are_signs pm_are_signs an_are_signs cd_are_signs ct_are_signs), sl_are_signs⟩)
    (c_are_signs : PySem.W.codeIn K cd_are_signs "are_signs" = true)
    (k_are_signs : PySem.W.keepIn K (.ref f_are_signs_) = true)
    (a_is_rule : PySem.W.nsIn K mainGlobals "is_rule" = some (some (.ref f_is_rule_)))
    (l_is_rule : K.lookup f_is_rule_ = some ⟨oc_is_rule, od_is_rule, .func (PySem.W.fnOf "is_rule" "is_rule" (defArgs s_is_rule) (defBody s_is_rule) (defScope s_is_rule) .none kV_is_rule dc_is_rule pm_is_rule an_is_rule cd_is_rule ct_is_rule), sl_is_rule⟩)
    (c_is_rule : PySem.W.codeIn K cd_is_rule "is_rule" = true)
    (k_is_rule : PySem.W.keepIn K (.ref f_is_rule_) = true)
    (a_law_mixed : PySem.W.nsIn K mainGlobals "_law_mixed" = some (some (.ref f_law_mixed_)))
    (l_law_mixed : K.lookup f_law_mixed_ = some ⟨oc_law_mixed, od_law_mixed, .func (PySem.W.fnOf "_law_mixed" "_law_mixed" (defArgs s_law_mixed) (defBody s_law_mixed) (defScope s_law_mixed) .none kV_law_mixed dc_law_mixed pm_law_mixed an_law_mixed cd_law_mixed ct_law_mixed), sl_law_mixed⟩)
    (c_law_mixed : PySem.W.codeIn K cd_law_mixed "_law_mixed" = true)
    (k_law_mixed : PySem.W.keepIn K (.ref f_law_mixed_) = true)
    (a_law_pack : PySem.W.nsIn K mainGlobals "_law_pack" = some (some (.ref f_law_pack_)))
    (l_law_pack : K.lookup f_law_pack_ = some ⟨oc_law_pack, od_law_pack, .func (PySem.W.fnOf "_law_pack" "_law_pack" (defArgs s_law_pack) (defBody s_law_pack) (defScope s_law_pack) .none kV_law_pack dc_law_pack pm_law_pack an_law_pack cd_law_pack ct_law_pack), sl_law_pack⟩)
    (c_law_pack : PySem.W.codeIn K cd_law_pack "_law_pack" = true)
    (k_law_pack : PySem.W.keepIn K (.ref f_law_pack_) = true)
    (a_law_take : PySem.W.nsIn K mainGlobals "_law_take" = some (some (.ref f_law_take_)))
    (l_law_take : K.lookup f_law_take_ = some ⟨oc_law_take, od_law_take, .func (PySem.W.fnOf "_law_take" "_law_take" (defArgs s_law_take) (defBody s_law_take) (defScope s_law_take) .none kV_law_take dc_law_take pm_law_take an_law_take cd_law_take ct_law_take), sl_law_take⟩)
    (c_law_take : PySem.W.codeIn K cd_law_take "_law_take" = true)
    (k_law_take : PySem.W.keepIn K (.ref f_law_take_) = true)
    (a_law_drawn_sounds : PySem.W.nsIn K mainGlobals "_law_drawn_sounds" = some (some (.ref f_law_drawn_sounds_)))
    (l_law_drawn_sounds : K.lookup f_law_drawn_sounds_ = some ⟨oc_law_drawn_sounds, od_law_drawn_sounds, .func (PySem.W.fnOf "_law_drawn_sounds" "_law_drawn_sounds" (defArgs s_law_drawn_sounds) (defBody s_law_drawn_sounds) (defScope s_law_drawn_sounds) .none kV_law_drawn_sounds dc_law_drawn_sounds pm_law_drawn_sounds an_law_drawn_sounds cd_law_drawn_sounds ct_law_drawn_sounds), sl_law_drawn_sounds⟩)
    (c_law_drawn_sounds : PySem.W.codeIn K cd_law_drawn_sounds "_law_drawn_sounds" = true)
    (k_law_drawn_sounds : PySem.W.keepIn K (.ref f_law_drawn_sounds_) = true)
    (a_law_stock : PySem.W.nsIn K mainGlobals "_law_stock" = some (some (.ref f_law_stock_)))
    (l_law_stock : K.lookup f_law_stock_ = some ⟨oc_law_stock, od_law_stock, .func (PySem.W.fnOf "_law_stock" "_law_stock" (defArgs s_law_stock) (defBody s_law_stock) (defScope s_law_stock) .none kV_law_stock dc_law_stock pm_law_stock an_law_stock cd_law_stock ct_law_stock), sl_law_stock⟩)
    (c_law_stock : PySem.W.codeIn K cd_law_stock "_law_stock" = true)
    (k_law_stock : PySem.W.keepIn K (.ref f_law_stock_) = true)
    (a_law_sounds : PySem.W.nsIn K mainGlobals "_law_sounds" = some (some (.ref f_law_sounds_)))
    (l_law_sounds : K.lookup f_law_sounds_ = some ⟨oc_law_sounds, od_law_sounds, .func (PySem.W.fnOf "_law_sounds" "_law_sounds" (defArgs s_law_sounds) (defBody s_law_sounds) (defScope s_law_sounds) .none kV_law_sounds dc_law_sounds pm_law_sounds an_law_sounds cd_law_sounds ct_law_sounds), sl_law_sounds⟩)
    (c_law_sounds : PySem.W.codeIn K cd_law_sounds "_law_sounds" = true)
    (k_law_sounds : PySem.W.keepIn K (.ref f_law_sounds_) = true)
    (a_law_signs : PySem.W.nsIn K mainGlobals "_law_signs" = some (some (.ref f_law_signs_)))
    (l_law_signs : K.lookup f_law_signs_ = some ⟨oc_law_signs, od_law_signs, .func (PySem.W.fnOf "_law_signs" "_law_signs" (defArgs s_law_signs) (defBody s_law_signs) (defScope s_law_signs) .none kV_law_signs dc_law_signs pm_law_signs an_law_signs cd_law_signs ct_law_signs), sl_law_signs⟩)
    (c_law_signs : PySem.W.codeIn K cd_law_signs "_law_signs" = true)
    (k_law_signs : PySem.W.keepIn K (.ref f_law_signs_) = true)
    (a_law_changes : PySem.W.nsIn K mainGlobals "_law_changes" = some (some (.ref f_law_changes_)))
    (l_law_changes : K.lookup f_law_changes_ = some ⟨oc_law_changes, od_law_changes, .func (PySem.W.fnOf "_law_changes" "_law_changes" (defArgs s_law_changes) (defBody s_law_changes) (defScope s_law_changes) .none kV_law_changes dc_law_changes pm_law_changes an_law_changes cd_law_changes ct_law_changes), sl_law_changes⟩)
    (c_law_changes : PySem.W.codeIn K cd_law_changes "_law_changes" = true)
    (k_law_changes : PySem.W.keepIn K (.ref f_law_changes_) = true)
    (a_law_rule : PySem.W.nsIn K mainGlobals "_law_rule" = some (some (.ref f_law_rule_)))
    (l_law_rule : K.lookup f_law_rule_ = some ⟨oc_law_rule, od_law_rule, .func (PySem.W.fnOf "_law_rule" "_law_rule" (defArgs s_law_rule) (defBody s_law_rule) (defScope s_law_rule) .none kV_law_rule dc_law_rule pm_law_rule an_law_rule cd_law_rule ct_law_rule), sl_law_rule⟩)
    (c_law_rule : PySem.W.codeIn K cd_law_rule "_law_rule" = true)
    (k_law_rule : PySem.W.keepIn K (.ref f_law_rule_) = true)
    (a_law_is : PySem.W.nsIn K mainGlobals "_law_is" = some (some (.ref f_law_is_)))
    (l_law_is : K.lookup f_law_is_ = some ⟨oc_law_is, od_law_is, .func (PySem.W.fnOf "_law_is" "_law_is" (defArgs s_law_is) (defBody s_law_is) (defScope s_law_is) .none kV_law_is dc_law_is pm_law_is an_law_is cd_law_is ct_law_is), sl_law_is⟩)
    (c_law_is : PySem.W.codeIn K cd_law_is "_law_is" = true)
    (k_law_is : PySem.W.keepIn K (.ref f_law_is_) = true)
    (a_law_out : PySem.W.nsIn K mainGlobals "_law_out" = some (some (.ref f_law_out_)))
    (l_law_out : K.lookup f_law_out_ = some ⟨oc_law_out, od_law_out, .func (PySem.W.fnOf "_law_out" "_law_out" (defArgs s_law_out) (defBody s_law_out) (defScope s_law_out) .none kV_law_out dc_law_out pm_law_out an_law_out cd_law_out ct_law_out), sl_law_out⟩)
    (c_law_out : PySem.W.codeIn K cd_law_out "_law_out" = true)
    (k_law_out : PySem.W.keepIn K (.ref f_law_out_) = true)
    (a_law_no_changes : PySem.W.nsIn K mainGlobals "_law_no_changes" = some (some (.ref f_law_no_changes_)))
    (l_law_no_changes : K.lookup f_law_no_changes_ = some ⟨oc_law_no_changes, od_law_no_changes, .func (PySem.W.fnOf "_law_no_changes" "_law_no_changes" (defArgs s_law_no_changes) (defBody s_law_no_changes) (defScope s_law_no_changes) .none kV_law_no_changes dc_law_no_changes pm_law_no_changes an_law_no_changes cd_law_no_changes ct_law_no_changes), sl_law_no_changes⟩)
    (c_law_no_changes : PySem.W.codeIn K cd_law_no_changes "_law_no_changes" = true)
    (k_law_no_changes : PySem.W.keepIn K (.ref f_law_no_changes_) = true)
    (a_law_no_signs : PySem.W.nsIn K mainGlobals "_law_no_signs" = some (some (.ref f_law_no_signs_)))
    (l_law_no_signs : K.lookup f_law_no_signs_ = some ⟨oc_law_no_signs, od_law_no_signs, .func (PySem.W.fnOf "_law_no_signs" "_law_no_signs" (defArgs s_law_no_signs) (defBody s_law_no_signs) (defScope s_law_no_signs) .none kV_law_no_signs dc_law_no_signs pm_law_no_signs an_law_no_signs cd_law_no_signs ct_law_no_signs), sl_law_no_signs⟩)
    (c_law_no_signs : PySem.W.codeIn K cd_law_no_signs "_law_no_signs" = true)
    (k_law_no_signs : PySem.W.keepIn K (.ref f_law_no_signs_) = true)
    (a_law_no_rules : PySem.W.nsIn K mainGlobals "_law_no_rules" = some (some (.ref f_law_no_rules_)))
    (l_law_no_rules : K.lookup f_law_no_rules_ = some ⟨oc_law_no_rules, od_law_no_rules, .func (PySem.W.fnOf "_law_no_rules" "_law_no_rules" (defArgs s_law_no_rules) (defBody s_law_no_rules) (defScope s_law_no_rules) .none kV_law_no_rules dc_law_no_rules pm_law_no_rules an_law_no_rules cd_law_no_rules ct_law_no_rules), sl_law_no_rules⟩)
    (c_law_no_rules : PySem.W.codeIn K cd_law_no_rules "_law_no_rules" = true)
    (k_law_no_rules : PySem.W.keepIn K (.ref f_law_no_rules_) = true)
    (a_law : PySem.W.nsIn K mainGlobals "law" = some (some (.ref f_law_)))
    (l_law : K.lookup f_law_ = some ⟨oc_law, od_law, .func (PySem.W.fnOf "law" "law" (defArgs s_law) (defBody s_law) (defScope s_law) .none kV_law dc_law pm_law an_law cd_law ct_law), sl_law⟩)
    (c_law : PySem.W.codeIn K cd_law "law" = true)
    (k_law : PySem.W.keepIn K (.ref f_law_) = true)
    (z_all : PySem.W.nsIn K mainGlobals "all" = some none)
    (z_bool : PySem.W.nsIn K mainGlobals "bool" = some none)
    (z_divmod : PySem.W.nsIn K mainGlobals "divmod" = some none)
    (z_isinstance : PySem.W.nsIn K mainGlobals "isinstance" = some none)
    (z_len : PySem.W.nsIn K mainGlobals "len" = some none)
    (z_list : PySem.W.nsIn K mainGlobals "list" = some none)
    (z_max : PySem.W.nsIn K mainGlobals "max" = some none)
    (z_min : PySem.W.nsIn K mainGlobals "min" = some none)
    (z_range : PySem.W.nsIn K mainGlobals "range" = some none)
    (z_set : PySem.W.nsIn K mainGlobals "set" = some none)
    (z_sorted : PySem.W.nsIn K mainGlobals "sorted" = some none)
    (z_tuple : PySem.W.nsIn K mainGlobals "tuple" = some none)
    (isi_bool : ∀ d : D, PySem.W.kitOne K (.type (tyD d)) (.type "bool") = some (instD d "bool"))
    (isi_tuple : ∀ d : D, PySem.W.kitOne K (.type (tyD d)) (.type "tuple") = some (instD d "tuple"))
    (g_EDGE : PySem.W.nsIn K mainGlobals "EDGE" = some (some (.str "#" t_EDGE)))
    (g_WAYS : PySem.W.nsIn K mainGlobals "WAYS" = some (some (.ref ga_WAYS)))
    (gl_WAYS : K.lookup ga_WAYS = some ⟨.type "tuple", none, .seq #[.str "once" gt0_WAYS, .str "along" gt1_WAYS] gn_WAYS, gsl_WAYS⟩) :
    ∃ fd : FuncData, (∀ (s : Shared) (v : Value), BindsTo s fd ⟨[v], []⟩ [("_law_script", v)]) ∧ ∀ base : Heap, K.In base → base.Ns mainGlobals mg → FnOk P w K mg base CX0 5 fa fd ["_law_script"] (spP K 1 f_law) := by
  have e := hfa.symm.trans (PySem.W.mg_of X G a_law)
  cases e
  have nb_all := nbAt X G z_all
  have nb_bool := nbAt X G z_bool
  have nb_divmod := nbAt X G z_divmod
  have nb_isinstance := nbAt X G z_isinstance
  have nb_len := nbAt X G z_len
  have nb_list := nbAt X G z_list
  have nb_max := nbAt X G z_max
  have nb_min := nbAt X G z_min
  have nb_range := nbAt X G z_range
  have nb_set := nbAt X G z_set
  have nb_sorted := nbAt X G z_sorted
  have nb_tuple := nbAt X G z_tuple
  have gl_EDGE : Glb K mg "EDGE" (.str [35]) := glb_str X G g_EDGE (by decide +kernel) (by decide)
  have gl_WAYS : Glb K mg "WAYS" (.tup [(.str [111, 110, 99, 101]), (.str [97, 108, 111, 110, 103])]) := glb_tup2 X G g_WAYS gl_WAYS (.str (by decide +kernel) (by decide)) (.str (by decide +kernel) (by decide))
  refine ⟨PySem.W.fnOf "law" "law" (defArgs s_law) (defBody s_law) (defScope s_law) .none kV_law dc_law pm_law an_law cd_law ct_law, fun s v => .of_eq rfl, fun base _ _ => ?_⟩
  have t_rises : FunAt K mg "rises" s_rises ["things"] := funAt X G a_rises l_rises c_rises k_rises (fun _ _ _ _ _ _ us hl => match us, hl with | [_], _ => rfl)
  have o_rises := o_rises (P := P) (w := w) (base := base) t_rises nb_all nb_len nb_range
  have t_is_pair : FunAt K mg "is_pair" s_is_pair ["thing"] := funAt X G a_is_pair l_is_pair c_is_pair k_is_pair (fun _ _ _ _ _ _ us hl => match us, hl with | [_], _ => rfl)
  have o_is_pair := o_is_pair (P := P) (w := w) (base := base) t_is_pair nb_isinstance nb_len nb_tuple isi_tuple
  have t_sounds_of : FunAt K mg "sounds_of" s_sounds_of ["stock"] := funAt X G a_sounds_of l_sounds_of c_sounds_of k_sounds_of (fun _ _ _ _ _ _ us hl => match us, hl with | [_], _ => rfl)
  have o_sounds_of := o_sounds_of (P := P) (w := w) (base := base) t_sounds_of nb_tuple
  have t_changes_sound : FunAt K mg "changes_sound" s_changes_sound ["sounds", "thing"] := funAt X G a_changes_sound l_changes_sound c_changes_sound k_changes_sound (fun _ _ _ _ _ _ us hl => match us, hl with | [_, _], _ => rfl)
  have o_changes_sound := o_changes_sound (P := P) (w := w) (base := base) t_changes_sound o_is_pair
  have t_puts_one_in : FunAt K mg "puts_one_in" s_puts_one_in ["sounds", "thing"] := funAt X G a_puts_one_in l_puts_one_in c_puts_one_in k_puts_one_in (fun _ _ _ _ _ _ us hl => match us, hl with | [_, _], _ => rfl)
  have o_puts_one_in := o_puts_one_in (P := P) (w := w) (base := base) t_puts_one_in o_is_pair
  have t_are_changes : FunAt K mg "are_changes" s_are_changes ["sounds", "thing"] := funAt X G a_are_changes l_are_changes c_are_changes k_are_changes (fun _ _ _ _ _ _ us hl => match us, hl with | [_, _], _ => rfl)
  have o_are_changes := o_are_changes (P := P) (w := w) (base := base) t_are_changes nb_all nb_isinstance nb_len nb_tuple isi_tuple o_changes_sound o_puts_one_in o_rises
  have t_are_signs : FunAt K mg "are_signs" s_are_signs ["sounds", "thing"] := funAt X G a_are_signs l_are_signs c_are_signs k_are_signs (fun _ _ _ _ _ _ us hl => match us, hl with | [_, _], _ => rfl)
  have o_are_signs := o_are_signs (P := P) (w := w) (base := base) t_are_signs nb_all nb_isinstance nb_len nb_tuple isi_tuple gl_EDGE o_rises
  have t_is_rule : FunAt K mg "is_rule" s_is_rule ["stock", "thing"] := funAt X G a_is_rule l_is_rule c_is_rule k_is_rule (fun _ _ _ _ _ _ us hl => match us, hl with | [_, _], _ => rfl)
  have o_is_rule := o_is_rule (P := P) (w := w) (base := base) t_is_rule nb_isinstance nb_len nb_tuple isi_tuple gl_WAYS o_are_changes o_are_signs o_sounds_of
  have t_law_mixed : FunAt K mg "_law_mixed" s_law_mixed ["_law_cell"] := funAt X G a_law_mixed l_law_mixed c_law_mixed k_law_mixed (fun _ _ _ _ _ _ us hl => match us, hl with | [_], _ => rfl)
  have o_law_mixed := o_law_mixed (P := P) (w := w) (base := base) t_law_mixed 
  have t_law_pack : FunAt K mg "_law_pack" s_law_pack ["_law_script", "_law_k"] := funAt X G a_law_pack l_law_pack c_law_pack k_law_pack (fun _ _ _ _ _ _ us hl => match us, hl with | [_, _], _ => rfl)
  have o_law_pack := o_law_pack (P := P) (w := w) (base := base) t_law_pack o_law_mixed
  have t_law_take : FunAt K mg "_law_take" s_law_take ["_law_pack_here", "_law_size"] := funAt X G a_law_take l_law_take c_law_take k_law_take (fun _ _ _ _ _ _ us hl => match us, hl with | [_, _], _ => rfl)
  have o_law_take := o_law_take (P := P) (w := w) (base := base) t_law_take nb_divmod
  have t_law_drawn_sounds : FunAt K mg "_law_drawn_sounds" s_law_drawn_sounds ["_law_pack_here"] := funAt X G a_law_drawn_sounds l_law_drawn_sounds c_law_drawn_sounds k_law_drawn_sounds (fun _ _ _ _ _ _ us hl => match us, hl with | [_], _ => rfl)
  have o_law_drawn_sounds := o_law_drawn_sounds (P := P) (w := w) (base := base) t_law_drawn_sounds nb_range nb_set nb_sorted o_law_take
  have t_law_stock : FunAt K mg "_law_stock" s_law_stock ["_law_pack_here"] := funAt X G a_law_stock l_law_stock c_law_stock k_law_stock (fun _ _ _ _ _ _ us hl => match us, hl with | [_], _ => rfl)
  have o_law_stock := o_law_stock (P := P) (w := w) (base := base) t_law_stock nb_range nb_sorted nb_tuple o_law_drawn_sounds o_law_take
  have t_law_sounds : FunAt K mg "_law_sounds" s_law_sounds ["_law_stock_here"] := funAt X G a_law_sounds l_law_sounds c_law_sounds k_law_sounds (fun _ _ _ _ _ _ us hl => match us, hl with | [_], _ => rfl)
  have o_law_sounds := o_law_sounds (P := P) (w := w) (base := base) t_law_sounds 
  have t_law_signs : FunAt K mg "_law_signs" s_law_signs ["_law_pack_here", "_law_sounds_here"] := funAt X G a_law_signs l_law_signs c_law_signs k_law_signs (fun _ _ _ _ _ _ us hl => match us, hl with | [_, _], _ => rfl)
  have o_law_signs := o_law_signs (P := P) (w := w) (base := base) t_law_signs nb_len nb_range nb_tuple o_law_take
  have t_law_changes : FunAt K mg "_law_changes" s_law_changes ["_law_pack_here", "_law_sounds_here"] := funAt X G a_law_changes l_law_changes c_law_changes k_law_changes (fun _ _ _ _ _ _ us hl => match us, hl with | [_, _], _ => rfl)
  have o_law_changes := o_law_changes (P := P) (w := w) (base := base) t_law_changes nb_len nb_list nb_range nb_sorted nb_tuple o_law_take
  have t_law_rule : FunAt K mg "_law_rule" s_law_rule ["_law_pack_here", "_law_sounds_here"] := funAt X G a_law_rule l_law_rule c_law_rule k_law_rule (fun _ _ _ _ _ _ us hl => match us, hl with | [_, _], _ => rfl)
  have o_law_rule := o_law_rule (P := P) (w := w) (base := base) t_law_rule o_law_changes o_law_signs o_law_take
  have t_law_is : FunAt K mg "_law_is" s_law_is ["_law_found", "_law_due"] := funAt X G a_law_is l_law_is c_law_is k_law_is (fun _ _ _ _ _ _ us hl => match us, hl with | [_, _], _ => rfl)
  have o_law_is := o_law_is (P := P) (w := w) (base := base) t_law_is nb_bool nb_isinstance isi_bool
  have t_law_out : FunAt K mg "_law_out" s_law_out ["_law_sounds_here"] := funAt X G a_law_out l_law_out c_law_out k_law_out (fun _ _ _ _ _ _ us hl => match us, hl with | [_], _ => rfl)
  have o_law_out := o_law_out (P := P) (w := w) (base := base) t_law_out 
  have t_law_no_changes : FunAt K mg "_law_no_changes" s_law_no_changes ["_law_sounds_here"] := funAt X G a_law_no_changes l_law_no_changes c_law_no_changes k_law_no_changes (fun _ _ _ _ _ _ us hl => match us, hl with | [_], _ => rfl)
  have o_law_no_changes := o_law_no_changes (P := P) (w := w) (base := base) t_law_no_changes nb_len o_law_out
  have t_law_no_signs : FunAt K mg "_law_no_signs" s_law_no_signs ["_law_sounds_here"] := funAt X G a_law_no_signs l_law_no_signs c_law_no_signs k_law_no_signs (fun _ _ _ _ _ _ us hl => match us, hl with | [_], _ => rfl)
  have o_law_no_signs := o_law_no_signs (P := P) (w := w) (base := base) t_law_no_signs nb_len o_law_out
  have t_law_no_rules : FunAt K mg "_law_no_rules" s_law_no_rules ["_law_rule_here", "_law_sounds_here"] := funAt X G a_law_no_rules l_law_no_rules c_law_no_rules k_law_no_rules (fun _ _ _ _ _ _ us hl => match us, hl with | [_, _], _ => rfl)
  have o_law_no_rules := o_law_no_rules (P := P) (w := w) (base := base) t_law_no_rules nb_list o_law_no_changes o_law_no_signs
  exact fn_law (fun_mk (st := s_law) l_law c_law k_law) nb_all nb_len nb_max nb_min nb_range nb_tuple o_law_is o_law_no_rules o_law_pack o_law_rule o_law_sounds o_law_stock o_is_rule
end K04
open PySem PySem.W PyProof.Rows
set_option maxRecDepth 100000 in
set_option maxHeartbeats 0 in
theorem PySem.Challenge.cw_soundrules_k04_rules_of_any_things_holds : PySem.Challenge.rw_soundrules_k04_rules_of_any_things.Holds := by
  w_on; o_law; k_head; (case hw => w_witness2)
  k_fill
  refine Ev.walkB (l := PySem.Challenge.rw_soundrules_k04_rules_of_any_things) (k := 5) (x := "_law_script") (f := K04.f_law) rfl (by decide) rfl ⟨rfl, by decide, by decide⟩ (fun w h Y => PySem.W.kIn_of Y) K04.true_law ?F
  case F =>
    intro w mg fa h KX G hmg
    refine' K04.all_mk KX G hmg ?a_rises ?l_rises ?c_rises ?k_rises ?a_is_pair ?l_is_pair ?c_is_pair ?k_is_pair ?a_sounds_of ?l_sounds_of ?c_sounds_of ?k_sounds_of ?a_changes_sound ?l_changes_sound ?c_changes_sound ?k_changes_sound ?a_puts_one_in ?l_puts_one_in ?c_puts_one_in ?k_puts_one_in ?a_are_changes ?l_are_changes ?c_are_changes ?k_are_changes ?a_are_signs ?l_are_signs ?c_are_signs ?k_are_signs ?a_is_rule ?l_is_rule ?c_is_rule ?k_is_rule ?a_law_mixed ?l_law_mixed ?c_law_mixed ?k_law_mixed ?a_law_pack ?l_law_pack ?c_law_pack ?k_law_pack ?a_law_take ?l_law_take ?c_law_take ?k_law_take ?a_law_drawn_sounds ?l_law_drawn_sounds ?c_law_drawn_sounds ?k_law_drawn_sounds ?a_law_stock ?l_law_stock ?c_law_stock ?k_law_stock ?a_law_sounds ?l_law_sounds ?c_law_sounds ?k_law_sounds ?a_law_signs ?l_law_signs ?c_law_signs ?k_law_signs ?a_law_changes ?l_law_changes ?c_law_changes ?k_law_changes ?a_law_rule ?l_law_rule ?c_law_rule ?k_law_rule ?a_law_is ?l_law_is ?c_law_is ?k_law_is ?a_law_out ?l_law_out ?c_law_out ?k_law_out ?a_law_no_changes ?l_law_no_changes ?c_law_no_changes ?k_law_no_changes ?a_law_no_signs ?l_law_no_signs ?c_law_no_signs ?k_law_no_signs ?a_law_no_rules ?l_law_no_rules ?c_law_no_rules ?k_law_no_rules ?a_law ?l_law ?c_law ?k_law ?z_all ?z_bool ?z_divmod ?z_isinstance ?z_len ?z_list ?z_max ?z_min ?z_range ?z_set ?z_sorted ?z_tuple ?isi_bool ?isi_tuple ?g_EDGE ?g_WAYS ?gl_WAYS
    (case a_rises => k_is)
    (case l_rises => k_is)
    (case c_rises => k_is)
    (case k_rises => k_is)
    (case a_is_pair => k_is)
    (case l_is_pair => k_is)
    (case c_is_pair => k_is)
    (case k_is_pair => k_is)
    (case a_sounds_of => k_is)
    (case l_sounds_of => k_is)
    (case c_sounds_of => k_is)
    (case k_sounds_of => k_is)
    (case a_changes_sound => k_is)
    (case l_changes_sound => k_is)
    (case c_changes_sound => k_is)
    (case k_changes_sound => k_is)
    (case a_puts_one_in => k_is)
    (case l_puts_one_in => k_is)
    (case c_puts_one_in => k_is)
    (case k_puts_one_in => k_is)
    (case a_are_changes => k_is)
    (case l_are_changes => k_is)
    (case c_are_changes => k_is)
    (case k_are_changes => k_is)
    (case a_are_signs => k_is)
    (case l_are_signs => k_is)
    (case c_are_signs => k_is)
    (case k_are_signs => k_is)
    (case a_is_rule => k_is)
    (case l_is_rule => k_is)
    (case c_is_rule => k_is)
    (case k_is_rule => k_is)
    (case a_law_mixed => k_is)
    (case l_law_mixed => k_is)
    (case c_law_mixed => k_is)
    (case k_law_mixed => k_is)
    (case a_law_pack => k_is)
    (case l_law_pack => k_is)
    (case c_law_pack => k_is)
    (case k_law_pack => k_is)
    (case a_law_take => k_is)
    (case l_law_take => k_is)
    (case c_law_take => k_is)
    (case k_law_take => k_is)
    (case a_law_drawn_sounds => k_is)
    (case l_law_drawn_sounds => k_is)
    (case c_law_drawn_sounds => k_is)
    (case k_law_drawn_sounds => k_is)
    (case a_law_stock => k_is)
    (case l_law_stock => k_is)
    (case c_law_stock => k_is)
    (case k_law_stock => k_is)
    (case a_law_sounds => k_is)
    (case l_law_sounds => k_is)
    (case c_law_sounds => k_is)
    (case k_law_sounds => k_is)
    (case a_law_signs => k_is)
    (case l_law_signs => k_is)
    (case c_law_signs => k_is)
    (case k_law_signs => k_is)
    (case a_law_changes => k_is)
    (case l_law_changes => k_is)
    (case c_law_changes => k_is)
    (case k_law_changes => k_is)
    (case a_law_rule => k_is)
    (case l_law_rule => k_is)
    (case c_law_rule => k_is)
    (case k_law_rule => k_is)
    (case a_law_is => k_is)
    (case l_law_is => k_is)
    (case c_law_is => k_is)
    (case k_law_is => k_is)
    (case a_law_out => k_is)
    (case l_law_out => k_is)
    (case c_law_out => k_is)
    (case k_law_out => k_is)
    (case a_law_no_changes => k_is)
    (case l_law_no_changes => k_is)
    (case c_law_no_changes => k_is)
    (case k_law_no_changes => k_is)
    (case a_law_no_signs => k_is)
    (case l_law_no_signs => k_is)
    (case c_law_no_signs => k_is)
    (case k_law_no_signs => k_is)
    (case a_law_no_rules => k_is)
    (case l_law_no_rules => k_is)
    (case c_law_no_rules => k_is)
    (case k_law_no_rules => k_is)
    (case a_law => k_is)
    (case l_law => k_is)
    (case c_law => k_is)
    (case k_law => k_is)
    (case z_all => k_is)
    (case z_bool => k_is)
    (case z_divmod => k_is)
    (case z_isinstance => k_is)
    (case z_len => k_is)
    (case z_list => k_is)
    (case z_max => k_is)
    (case z_min => k_is)
    (case z_range => k_is)
    (case z_set => k_is)
    (case z_sorted => k_is)
    (case z_tuple => k_is)
    (case isi_bool => (intro d; cases d with | non => (show PySem.W.kitOne _ (.type "NoneType") (.type "bool") = some false; kit_is) | bl => (show PySem.W.kitOne _ (.type "bool") (.type "bool") = some true; kit_is) | int => (show PySem.W.kitOne _ (.type "int") (.type "bool") = some false; kit_is) | str => (show PySem.W.kitOne _ (.type "str") (.type "bool") = some false; kit_is) | tup => (show PySem.W.kitOne _ (.type "tuple") (.type "bool") = some false; kit_is) | lst => (show PySem.W.kitOne _ (.type "list") (.type "bool") = some false; kit_is) | arr => (show PySem.W.kitOne _ (.type "list") (.type "bool") = some false; kit_is) | dct => (show PySem.W.kitOne _ (.type "dict") (.type "bool") = some false; kit_is)))
    (case isi_tuple => (intro d; cases d with | non => (show PySem.W.kitOne _ (.type "NoneType") (.type "tuple") = some false; kit_is) | bl => (show PySem.W.kitOne _ (.type "bool") (.type "tuple") = some false; kit_is) | int => (show PySem.W.kitOne _ (.type "int") (.type "tuple") = some false; kit_is) | str => (show PySem.W.kitOne _ (.type "str") (.type "tuple") = some false; kit_is) | tup => (show PySem.W.kitOne _ (.type "tuple") (.type "tuple") = some true; kit_is) | lst => (show PySem.W.kitOne _ (.type "list") (.type "tuple") = some false; kit_is) | arr => (show PySem.W.kitOne _ (.type "list") (.type "tuple") = some false; kit_is) | dct => (show PySem.W.kitOne _ (.type "dict") (.type "tuple") = some false; kit_is)))
    (case g_EDGE => k_is)
    (case g_WAYS => k_is)
    (case gl_WAYS => k_is)
