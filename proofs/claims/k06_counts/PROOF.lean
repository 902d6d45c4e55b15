import PyProof.Rows.All
import Wide.All
import OpenK.AllK
import Wide.FinOn
import Lean
import PyProof.EqAt
import PyProof.EqKinds
import PyProof.TupleCall
import PySem.Challenge.RW_apartrow_k06_counts
set_option Elab.async false
set_option linter.all false
set_option maxRecDepth 100000
namespace L2
open PySem PySem.Spec PyProof.Rows
abbrev Key := Sum Int Str
def keyIs : Key → Value → Bool
  | .inl k, v => Value.isInt k v
  | .inr x, v => Value.isStrOf x v
def keyH (w : World) : Key → Int
  | .inl k => hashInt k
  | .inr x => hashStr w x
theorem keyIs_shape : ∀ {k : Key} {v : Value}, keyIs k v = true → (∃ i t, k = Sum.inl i ∧ v = Value.int i t) ∨ (∃ x t, k = Sum.inr x ∧ v = Value.str x t)
  | .inl i, v, h => by
    obtain ⟨t, e⟩ := Value.isInt_shape (k := i) (v := v) h
    exact .inl ⟨i, t, rfl, e⟩
  | .inr x, v, h => by
    obtain ⟨t, e⟩ := Value.isStrOf_shape (x := x) (v := v) h
    exact .inr ⟨x, t, rfl, e⟩
theorem keyIs_int (i : Int) (t : Tok) : keyIs (.inl i) (.int i t) = true := by simp [keyIs, Value.isInt]
theorem keyIs_str (x : Str) (t : Tok) : keyIs (.inr x) (.str x t) = true := by simp [keyIs, Value.isStrOf]
theorem key_ll (a b : Int) : decide ((Sum.inl a : Key) = Sum.inl b) = (a == b) := by
  by_cases e : a = b
  · subst e; simp
  · have h : ¬ (Sum.inl a : Key) = Sum.inl b := fun q => e (Sum.inl.inj q)
    rw [decide_eq_false h]
    exact (beq_eq_false_iff_ne.mpr e).symm
theorem key_rr (a b : Str) : decide ((Sum.inr a : Key) = Sum.inr b) = decide (a = b) := by
  by_cases e : a = b
  · subst e; simp
  · have h : ¬ (Sum.inr a : Key) = Sum.inr b := fun q => e (Sum.inr.inj q)
    rw [decide_eq_false h, decide_eq_false e]
theorem key_lr (a : Int) (b : Str) : decide ((Sum.inl a : Key) = Sum.inr b) = false := decide_eq_false (fun q => nomatch q)
theorem key_rl (a : Str) (b : Int) : decide ((Sum.inr a : Key) = Sum.inl b) = false := decide_eq_false (fun q => nomatch q)
def mixKind (prog : Program) (w : World) : PySem.KeyKind prog w Key where
  is := keyIs
  hash := keyH w
  inj := fun v a b ha hb => by
    rcases keyIs_shape ha with ⟨i, t, rfl, rfl⟩ | ⟨x, t, rfl, rfl⟩
    · rcases keyIs_shape hb with ⟨j, u, rfl, e⟩ | ⟨y, u, rfl, e⟩
      · injection e with e1 _; rw [e1]
      · exact nomatch e
    · rcases keyIs_shape hb with ⟨j, u, rfl, e⟩ | ⟨y, u, rfl, e⟩
      · exact nomatch e
      · injection e with e1 _; rw [e1]
  byValue := fun k v h => by
    rcases keyIs_shape h with ⟨i, t, rfl, rfl⟩ | ⟨x, t, rfl, rfl⟩ <;> rfl
  pyHash := fun hv h => by
    rcases keyIs_shape hv with ⟨i, t, rfl, rfl⟩ | ⟨x, t, rfl, rfl⟩
    · exact wpAny_pyHash_int h
    · exact wpAny_pyHash_str h
  eqBool := fun hu hv h => by
    rcases keyIs_shape hu with ⟨i, t, rfl, rfl⟩ | ⟨x, t, rfl, rfl⟩
    · rcases keyIs_shape hv with ⟨j, u, rfl, rfl⟩ | ⟨y, u, rfl, rfl⟩
      · rw [key_ll] at h; exact wpAny_eqBool_int h
      · rw [key_lr] at h; exact SeqAt.EqAt.int_str i t y u _ _ _ _ h
    · rcases keyIs_shape hv with ⟨j, u, rfl, rfl⟩ | ⟨y, u, rfl, rfl⟩
      · rw [key_rl] at h; exact SeqAt.EqAt.str_int x t j u _ _ _ _ h
      · rw [key_rr] at h; exact wpAny_eqBool_str h
  «strs» := fun k x t v h => by
    rcases keyIs_shape h with ⟨i, u, rfl, e⟩ | ⟨y, u, rfl, e⟩
    · exact nomatch e
    · injection e with e1 _
      subst e1
      cases v <;> rfl
theorem mixKind_int (prog : Program) (w : World) (i : Int) (t : Tok) : (mixKind prog w).is (.inl i) (.int i t) = true := keyIs_int i t
theorem mixKind_str (prog : Program) (w : World) (x : Str) (t : Tok) : (mixKind prog w).is (.inr x) (.str x t) = true := keyIs_str x t
end L2
namespace L2
open PySem PySem.Spec PyProof.Rows
inductive V where
  | non | bl (b : Bool) | int (i : Int) | str (x : Str) | byt (b : Array UInt8) | flt (b : UInt64) | ref (a : Addr) | ty (n : String)
  deriving DecidableEq
def RelV : V → Value → Prop
  | .non, u => u = Value.none
  | .bl b, u => u = Value.bool b
  | .int i, u => ∃ t, u = Value.int i t
  | .str x, u => ∃ t, u = Value.str x t
  | .byt b, u => ∃ t, u = Value.bytes b t
  | .flt b, u => ∃ t, u = Value.float b t
  | .ref a, u => u = Value.ref a
  | .ty n, u => u = Value.type n
abbrev Vals : List V → List Value → Prop := Paired RelV
theorem Vals.length {xs : List V} {us : List Value} (r : Vals xs us) : xs.length = us.length := Paired.length r
theorem Vals.get : ∀ {xs : List V} {us : List Value} {i : Nat} {x : V}, Vals xs us → xs[i]? = some x → ∃ u, us[i]? = some u ∧ RelV x u
  | _, _, _, _, .nil, e => by simp at e
  | _, _, 0, _, .cons r _, e => by simp at e; subst e; exact ⟨_, rfl, r⟩
  | _, _, i + 1, x, .cons _ t, e => by
    obtain ⟨u, h1, h2⟩ := Vals.get (i := i) (x := x) t (by simpa using e)
    exact ⟨u, by simpa using h1, h2⟩
theorem Vals.append : ∀ {xs ys : List V} {us ws : List Value}, Vals xs us → Vals ys ws → Vals (xs ++ ys) (us ++ ws)
  | _, _, _, _, .nil, s => s
  | _, _, _, _, .cons r t, s => .cons r (Vals.append t s)
theorem Vals.take : ∀ {xs : List V} {us : List Value} (n : Nat), Vals xs us → Vals (xs.take n) (us.take n)
  | _, _, 0, _ => .nil
  | _, _, _ + 1, .nil => .nil
  | _, _, n + 1, .cons r t => .cons r (Vals.take n t)
theorem Vals.drop : ∀ {xs : List V} {us : List Value} (n : Nat), Vals xs us → Vals (xs.drop n) (us.drop n)
  | _, _, 0, r => r
  | _, _, _ + 1, .nil => .nil
  | _, _, n + 1, .cons _ t => Vals.drop n t
theorem Vals.none_of : ∀ {xs : List V} {us : List Value} {i : Nat}, Vals xs us → xs[i]? = none → us[i]? = none := fun {xs us i} r e => by
  have h1 := r.length
  have h2 : xs.length ≤ i := List.getElem?_eq_none_iff.mp e
  exact List.getElem?_eq_none_iff.mpr (by omega)
def RelO : Option V → Option Value → Prop
  | some v, some u => RelV v u
  | none, none => True
  | _, _ => False
def KV {κ : Type} : List (κ × V) → List (κ × Value) → Prop := Paired fun (p : κ × V) (q : κ × Value) => p.1 = q.1 ∧ RelV p.2 q.2
def kV : Key → V
  | .inl i => .int i
  | .inr x => .str x
inductive HO where
  /-- a list -/
  | lst (xs : List V)
  /-- a tuple (never changes) -/
  | tup (xs : List V)
  /-- a dict whose keys are ints and texts; one whose keys are tuples of ints and texts (the empty one is both) -/
  | dK (kvs : List (Key × V)) | dT (kvs : List (List Key × V))
  /-- a set of ints: its members, its size -/
  | set (S : Int → Bool) (n : Nat)
  /-- an instance of the class at C, its dict at dx, its attributes -/
  | ins (C dx : Addr) (fs : List (Str × V))
  /-- the dict of the instance at x -/
  | own (x : Addr)
  /-- the dict of an exception -/
  | xd (fs : List (Str × V))
  /-- a bound method, f of x -/
  | met (f x : Addr)
  /-- a range object lo, lo + 1, .. below hi -/
  | rng (lo hi : Int)
  /-- a thing that is known to the object (the script; a dict while a loop walks it): read, never written while it is so -/
  | frz (o : Obj) (u : HO)
  /-- a code object's table -/
  | tbl (ps : Array Value)
  | ctab (q : Str) (pos : Pos)
  /-- any other thing, by what is true of its one object (a def of one's own: SetO a S n := HO.ext fun h => ..) -/
  | ext (φ : Heap → Prop)
abbrev Hp := Addr → Option HO
def upd (H : Hp) (a : Addr) (o : HO) : Hp := fun b => if b = a then some o else H b
theorem upd_same {H : Hp} {a : Addr} {o : HO} : upd H a o a = some o := by unfold upd; rw [if_pos rfl]
theorem upd_ne {H : Hp} {a b : Addr} {o : HO} (h : b ≠ a) : upd H a o b = H b := by unfold upd; rw [if_neg h]
theorem ne_of {H : Hp} {a b : Addr} {o u : HO} (h : H a = some o) (h' : H b = some u) (d : o ≠ u) : a ≠ b := by
  intro e; subst e; rw [h] at h'; exact d (Option.some.inj h')
theorem ne_of_none {H : Hp} {a b : Addr} {o : HO} (h : H a = some o) (h' : H b = none) : a ≠ b := by
  intro e; subst e; rw [h] at h'; cases h'
section
variable (P : Program) (w : World)
def ObjOk (H : Hp) (h : Heap) (a : Addr) : HO → Prop
  | .lst xs => xs.length ≤ sizeLine ∧ ∃ (its : List Value) (n : Nat), Vals xs its ∧ h.get? a = some { cls := .type "list", data := .seq its.toArray n }
  | .tup xs => xs.length ≤ sizeLine ∧ ∃ its : List Value, Vals xs its ∧ IsTup h a its.toArray
  | .dK kvs => kvs.length ≤ sizeLine ∧ (a == sysModules) = false ∧ ∃ vs, KV kvs vs ∧ h.DictOf (mixKind P w) a vs
  | .dT kvs => kvs.length ≤ sizeLine ∧ (a == sysModules) = false ∧ ∃ xs : List (List Key × Addr × Value),
      Paired (fun (p : List Key × V) (q : List Key × Addr × Value) => p.1 = q.1 ∧ H q.2.1 = some (.tup (p.1.map kV)) ∧ RelV p.2 q.2.2) kvs xs ∧
      ∃ o es ep, h.get? a = some o ∧ o.ExactDict ∧ o.data = .dict es ep ∧ es.toList = xs.map (entryOfKey (tupleKind (mixKind P w))) ∧ (xs.map (·.1)).Nodup
  | .set S n => h.SetOf (intKind P w) a S n
  | .ins C dx fs => H dx = some (.own a) ∧ fs.length ≤ 1000 ∧ dx ≠ a ∧ h.get? a = some (PySem.W.instObj C dx) ∧
      ∃ mA, h.Ns1 dx mA ∧ (∀ f, RelO (fs.lookup f) (mA f)) ∧ PySem.Within mA (fs.map (·.1))
  | .own _ => ∃ o, h.get? a = some o
  | .xd fs => ∃ mA, h.Ns1 a mA ∧ ∀ f, RelO (fs.lookup f) (mA f)
  | .rng lo hi => ∃ t u v, h.get? a = some { cls := .type "range", data := .fields #[.int lo t, .int hi u, .int 1 v] }
  | .frz o u => h.get? a = some o ∧ ObjOk H h a u
  | .tbl ps => h.get? a = some { cls := .none, data := .fields ps }
  | .ctab q pos => ∃ ps : Array Value, h.get? a = some { cls := .none, data := .fields ps } ∧ TriplesOk ps.toList ∧ ∀ cv, codeAmong pos ps.toList = some cv → ∃ c, cv = .ref c ∧ H c = some (.own a) ∧ c ≠ a ∧ h.CodeRec (.ref c) q
  | .met f x => h.get? a = some (PySem.W.methodObj (.ref f) (.ref x))
  | .ext φ => φ h ∧ (∃ o, h.get? a = some o) ∧ ∀ h1 h2 : Heap, φ h1 → (∀ o, h1.get? a = some o → h2.get? a = some o) → φ h2
def HOk (H : Hp) (h : Heap) : Prop := ∀ a o, H a = some o → ObjOk P w H h a o
end
section
variable {P : Program} {w : World} {H H' : Hp} {h h' : Heap} {a : Addr} {o : HO}
theorem ObjOk.lt (x : ObjOk P w H h a o) : a < h.objs.size := by
  cases o with
  | lst xs => obtain ⟨_, _, _, _, e⟩ := x; exact Heap.lt_size e
  | tup xs => obtain ⟨_, _, _, p⟩ := x; exact p.lt
  | dK kvs => obtain ⟨_, _, _, _, o, _, _, e, _⟩ := x; exact Heap.lt_size e
  | dT kvs => obtain ⟨_, _, _, _, o, _, _, e, _⟩ := x; exact Heap.lt_size e
  | set S n => obtain ⟨o, _, _, _, e, _⟩ := x; exact Heap.lt_size e
  | ins C dx fs => obtain ⟨_, _, _, e, _⟩ := x; exact Heap.lt_size e
  | own y => obtain ⟨_, e⟩ := x; exact Heap.lt_size e
  | xd fs => obtain ⟨_, ⟨_, _, _, e, _⟩, _⟩ := x; exact Heap.lt_size e
  | rng lo hi => obtain ⟨_, _, _, e⟩ := x; exact Heap.lt_size e
  | frz ob u => obtain ⟨e, _⟩ := x; exact Heap.lt_size e
  | tbl ps => exact Heap.lt_size (show h.get? a = some _ from x)
  | ctab q pos => obtain ⟨_, e, _⟩ := x; exact Heap.lt_size e
  | met f y => exact Heap.lt_size (show h.get? a = some _ from x)
  | ext φ => obtain ⟨_, ⟨_, e⟩, _⟩ := x; exact Heap.lt_size e
theorem Paired.mapP {α β : Type} {F G : α → β → Prop} : ∀ {l₁ : List α} {l₂ : List β}, Paired F l₁ l₂ → (∀ a b, F a b → G a b) → Paired G l₁ l₂
  | _, _, .nil, _ => .nil
  | _, _, .cons r t, f => .cons (f _ _ r) (Paired.mapP t f)
theorem ObjOk.stay (x : ObjOk P w H h a o) (k : ∀ b u, (b = a ∨ H b = some (.own a)) → h.get? b = some u → h'.get? b = some u)
    (ho : ∀ b, H b = some (.own a) → H' b = some (.own a)) (ht : ∀ b xs, H b = some (.tup xs) → H' b = some (.tup xs)) : ObjOk P w H' h' a o := by
  induction o with
  | lst xs => obtain ⟨z, its, n, r, e⟩ := x; exact ⟨z, its, n, r, k _ _ (.inl rfl) e⟩
  | tup xs => obtain ⟨z, its, r, ob, e, c⟩ := x; exact ⟨z, its, r, ob, k _ _ (.inl rfl) e, c⟩
  | dK kvs => obtain ⟨z, y, vs, r, ob, es, ep, e, c⟩ := x; exact ⟨z, y, vs, r, ob, es, ep, k _ _ (.inl rfl) e, c⟩
  | dT kvs =>
    obtain ⟨z, y, xs, r, ob, es, ep, e, c⟩ := x
    exact ⟨z, y, xs, Paired.mapP r fun p q z => ⟨z.1, ht _ _ z.2.1, z.2.2⟩, ob, es, ep, k _ _ (.inl rfl) e, c⟩
  | set S n => obtain ⟨ob, es, ep, t, e, c⟩ := x; exact ⟨ob, es, ep, t, k _ _ (.inl rfl) e, c⟩
  | ins C dx fs =>
    obtain ⟨d, z, ne, e, mA, ⟨od, es, ep, e2, c⟩, r⟩ := x
    exact ⟨ho _ d, z, ne, k _ _ (.inl rfl) e, mA, ⟨od, es, ep, k _ _ (.inr d) e2, c⟩, r⟩
  | own y => obtain ⟨ob, e⟩ := x; exact ⟨ob, k _ _ (.inl rfl) e⟩
  | xd fs => obtain ⟨mA, ⟨od, es, ep, e, c⟩, r⟩ := x; exact ⟨mA, ⟨od, es, ep, k _ _ (.inl rfl) e, c⟩, r⟩
  | rng lo hi => obtain ⟨t, u, v, e⟩ := x; exact ⟨t, u, v, k _ _ (.inl rfl) e⟩
  | frz ob u ih => obtain ⟨e, q⟩ := x; exact ⟨k _ _ (.inl rfl) e, ih q⟩
  | ctab q pos =>
    obtain ⟨ps, e, tr, k1⟩ := x
    refine ⟨ps, k _ _ (.inl rfl) e, tr, fun cv hcv => ?_⟩
    obtain ⟨c, e0, o1, ne, c2, oc, vs, tq, e1, e2, r⟩ := k1 cv hcv
    subst e0
    cases e1
    exact ⟨_, rfl, ho _ o1, ne, _, oc, vs, tq, rfl, k _ _ (.inr o1) e2, r⟩
  | tbl ps =>
    have e : h.get? a = some { cls := .none, data := .fields ps } := x
    show h'.get? a = some { cls := .none, data := .fields ps }
    exact k a _ (.inl rfl) e
  | met f y =>
    have e : h.get? a = some (PySem.W.methodObj (.ref f) (.ref y)) := x
    show h'.get? a = some (PySem.W.methodObj (.ref f) (.ref y))
    exact k a _ (.inl rfl) e
  | ext φ => obtain ⟨p, ⟨o, e⟩, st⟩ := x; exact ⟨st _ _ p fun o q => k _ _ (.inl rfl) q, ⟨o, k _ _ (.inl rfl) e⟩, st⟩
theorem HOk.lt (x : HOk P w H h) (e : H a = some o) : a < h.objs.size := (x a o e).lt
theorem HOk.fresh (x : HOk P w H h) (e : h.objs.size ≤ a) : H a = none := by
  cases q : H a with
  | none => rfl
  | some u => exact absurd (Nat.lt_of_lt_of_le (x.lt q) e) (Nat.lt_irrefl _)
theorem HOk.kept (x : HOk P w H h) (k : ∀ b u, h.get? b = some u → h'.get? b = some u) : HOk P w H h' := fun a o e =>
  (x a o e).stay (fun b u _ q => k b u q) (fun _ q => q) fun _ _ q => q
theorem HOk.laid (x : HOk P w H h) (k : ∀ b u, h.get? b = some u → h'.get? b = some u) (hp : h.objs.size ≤ a) (new : ObjOk P w (upd H a o) h' a o) : HOk P w (upd H a o) h' := fun b u e => by
  have hn := x.fresh hp
  by_cases hb : b = a
  · subst hb; rw [upd_same] at e; cases e; exact new
  · rw [upd_ne hb] at e
    exact (x b u e).stay (fun c v _ q => k c v q) (fun c q => by rw [upd_ne (ne_of_none q hn)]; exact q) fun c xs q => by rw [upd_ne (ne_of_none q hn)]; exact q
end
def Rd (H : Hp) (a : Addr) (u : HO) : Prop := H a = some u ∨ ∃ o, H a = some (.frz o u)
theorem Rd.ok {P : Program} {w : World} {H : Hp} {h : Heap} {a : Addr} {u : HO} (r : Rd H a u) (x : HOk P w H h) : ObjOk P w H h a u := by
  rcases r with r | ⟨o, r⟩
  · exact x a u r
  · obtain ⟨_, q⟩ := x a _ r
    exact q
def Mut : Option HO → Prop
  | some (.lst _) => True
  | some (.dK _) => True
  | some (.dT _) => True
  | some (.set _ _) => True
  | some (.ins _ _ _) => True
  | some (.ext _) => True
  | some (.ctab _ _) => True
  | _ => False
section
variable {P : Program} {w : World} {H : Hp} {h h' : Heap} {x e : Addr} {o' : HO}
theorem HOk.write (ok : HOk P w H h) (mu : Mut (H x)) (he : e = x ∨ H e = some (.own x)) (k : ∀ b u, b ≠ e → h.get? b = some u → h'.get? b = some u) (heo : ∃ u, h'.get? e = some u)
    (new : ObjOk P w (upd H x o') h' x o') : HOk P w (upd H x o') h' := fun b u q => by
  have nown : ∀ c y, H c = some (.own y) → c ≠ x := fun c y r z => by subst z; rw [r] at mu; exact mu
  have ntup : ∀ c xs, H c = some (.tup xs) → c ≠ x := fun c xs r z => by subst z; rw [r] at mu; exact mu
  by_cases hb : b = x
  · subst hb; rw [upd_same] at q; cases q; exact new
  · rw [upd_ne hb] at q
    by_cases hbe : b = e
    · have q' : H b = some (.own x) := by
        rcases he with z | z
        · exact absurd (hbe.trans z) hb
        · rw [hbe]; exact z
      rw [q] at q'; cases q'
      obtain ⟨v, hv⟩ := heo
      exact ⟨v, by rw [hbe]; exact hv⟩
    · refine (ok b u q).stay (fun c v hc r => k c v ?_ r) (fun c r => by rw [upd_ne (nown c b r)]; exact r) fun c xs r => by rw [upd_ne (ntup c xs r)]; exact r
      rcases hc with rfl | hc
      · exact hbe
      · rintro rfl
        rcases he with z | z
        · exact nown c b hc z
        · rw [hc] at z; cases z; exact hb rfl
end
structure Un (fs ex : List Addr) (H H' : Hp) (h h' : Heap) : Prop where
  keep : ∀ b o, h.get? b = some o → H b = none → b ∉ fs → b ∉ ex → h'.get? b = some o
  slot : ∀ b o, h.get? b = some o → H b = none → b ∈ fs → b ∉ ex → ∃ sl, h'.get? b = some { o with slots := sl }
  free : ∀ b o, h.get? b = some o → H b = none → b ∉ ex → H' b = none
  there : ∀ b o, h.get? b = some o → b ∉ ex → ∃ o', h'.get? b = some o'
  tups : ∀ b xs, H b = some (.tup xs) → H' b = some (.tup xs)
  frzs : ∀ b o u, H b = some (.frz o u) → H' b = some (.frz o u)
  tbls : ∀ b ps, H b = some (.tbl ps) → ∃ more, H' b = some (.tbl (ps ++ more))
section
variable {fs fs' ex ex' : List Addr} {H H1 H2 : Hp} {h h1 h2 h' : Heap} {a x e : Addr} {o : HO}
theorem Un.any (u : Un fs ex H H1 h h1) {b : Addr} {ob : Obj} (q : h.get? b = some ob) (n : H b = none) (hx : b ∉ ex) : ∃ sl, h1.get? b = some { ob with slots := sl } := by
  by_cases hb : b ∈ fs
  · exact u.slot b ob q n hb hx
  · exact ⟨ob.slots, u.keep b ob q n hb hx⟩
theorem Un.kept (k : ∀ b u, h.get? b = some u → h'.get? b = some u) : Un fs ex H H h h' :=
  ⟨fun b ob q _ _ _ => k b ob q, fun b ob q _ _ _ => ⟨ob.slots, k b ob q⟩, fun _ _ _ n _ => n, fun b ob q _ => ⟨ob, k b ob q⟩, fun _ _ q => q, fun _ _ _ q => q, fun _ ps q => ⟨#[], by rw [q]; simp⟩⟩
theorem Un.refl : Un fs ex H H h h := Un.kept fun _ _ q => q
theorem Un.laid (k : ∀ b u, h.get? b = some u → h'.get? b = some u) (hp : h.objs.size ≤ a) (hn : H a = none) : Un fs ex H (upd H a o) h h' where
  keep := fun b u q _ _ _ => k b u q
  slot := fun b u q _ _ _ => ⟨u.slots, k b u q⟩
  free := fun b u q n _ => by rw [upd_ne (Nat.ne_of_lt (Nat.lt_of_lt_of_le (Heap.lt_size q) hp))]; exact n
  there := fun b u q _ => ⟨u, k b u q⟩
  tups := fun b xs q => by rw [upd_ne (ne_of_none q hn)]; exact q
  frzs := fun b u xs q => by rw [upd_ne (ne_of_none q hn)]; exact q
  tbls := fun b ps q => ⟨#[], by rw [upd_ne (ne_of_none q hn), q]; simp⟩
theorem Un.write (mu : Mut (H x)) (he : e = x ∨ H e = some (.own x)) (k : ∀ b u, b ≠ e → h.get? b = some u → h'.get? b = some u) (heo : ∃ u, h'.get? e = some u) : Un fs ex H (upd H x o) h h' := by
  have hx : ∀ b, H b = none → b ≠ x := fun b n z => by subst z; rw [n] at mu; exact mu
  have hb : ∀ b, H b = none → b ≠ e := fun b n z => by
    subst z
    rcases he with r | r
    · exact hx b n r
    · rw [n] at r; cases r
  have hm : ∀ b u, H b = some u → ¬ Mut (some u) → b ≠ x := fun b u q nm z => by subst z; rw [q] at mu; exact nm mu
  refine ⟨fun b u q n _ _ => k b u (hb b n) q, fun b u q n _ _ => ⟨u.slots, k b u (hb b n) q⟩, fun b u q n _ => by rw [upd_ne (hx b n)]; exact n, fun b u q _ => ?_,
    fun b xs q => by rw [upd_ne (hm b _ q fun z => z)]; exact q, fun b u xs q => by rw [upd_ne (hm b _ q fun z => z)]; exact q, fun b ps q => ⟨#[], by rw [upd_ne (hm b _ q fun z => z), q]; simp⟩⟩
  by_cases hbe : b = e
  · subst hbe; exact heo
  · exact ⟨u, k b u hbe q⟩
end
def trk (h : Heap) (H : Hp) : List Addr := (List.range h.objs.size).filter fun a => (H a).isSome
def hidT (h : Heap) (H : Hp) : Heap := PySem.W.hideAll h (trk h H)
theorem hidT_size (h : Heap) (H : Hp) : (hidT h H).objs.size = h.objs.size := PySem.W.hideAll_size _ _
theorem hidT_get {h : Heap} {H : Hp} {b : Addr} {o : Obj} (e : h.get? b = some o) (n : H b = none) : (hidT h H).get? b = some o :=
  PySem.W.hideAll_get _ e fun hm => by
    have q : (H b).isSome = true := (List.mem_filter.mp hm).2
    rw [n] at q; simp at q
theorem of_hidT {h : Heap} {H : Hp} {b : Addr} {o : Obj} (e : (hidT h H).get? b = some o) : h.get? b = some o ∧ H b = none := by
  have e' : h.get? b = some o := PySem.W.of_hideAll (trk h H) e
  refine ⟨e', ?_⟩
  cases q : H b with
  | none => rfl
  | some x =>
    have hm : b ∈ trk h H := List.mem_filter.mpr ⟨List.mem_range.mpr (Heap.lt_size e'), by simp [q]⟩
    have z : (hidT h H).get? b = none := PySem.W.hideAll_none (trk h H) hm
    rw [z] at e; cases e
end L2
namespace L2
open PySem PySem.Spec PyProof.Rows
structure Mod (K : PySem.W.Frag) (mg : Str → Option Value) (base : Heap) : Prop where
  kin : K.In base
  glob : base.Ns mainGlobals mg
  blt : ∃ mb, base.Ns builtinsNs mb ∧ ∀ x : Str, x ≠ "__name__" → mb x = bootBuiltins x
  nolimit : base.NoLimit
  bmod : ∃ bm o, mg "__builtins__" = some (.ref bm) ∧ bm ≠ builtinsNs ∧ base.get? bm = some o ∧ o.cls = .type "module" ∧ o.dict = some builtinsNs ∧ o.data = .plain
structure Cx where
  prog : Program
  w : World
  K : PySem.W.Frag
  mg : Str → Option Value
  base : Heap
  A : Around
  N : List Str
  s₀ : Shared
  H₀ : Hp
  env : Env
  outer : List Env
  stack : List Env
  ex : List Addr
  fn : Str → Bool
  calm : Bool
  pn : List (Addr × Obj)
  xe : Value → Shared → Prop
def frs (l : List Env) : List Addr := l.filterMap (·.frame)
abbrev Cx.fs (X : Cx) : List Addr := frs X.outer
def Vis (sc : Scope) (x : Str) : Prop := sc.names.lookup x = some .local ∨ sc.names.lookup x = some .cell ∨ sc.names.lookup x = some .free
def Loc (sc : Scope) (x : Str) : Prop := sc.names.lookup x = some .local ∨ sc.names.lookup x = some .cell
def Look (env : Env) (h : Heap) (m : Str → Option Value) (x : Str) (u : Value) : Prop :=
  (env.kindOf x = some .local ∧ m x = some u) ∨ ((env.kindOf x = some .cell ∨ env.kindOf x = some .free) ∧ ∃ c, env.cells.lookup x = some c ∧ h.IsCell c (some u))
structure Cx.Ok (X : Cx) : Prop where
  mod : Mod X.K X.mg X.base
  kind : X.env.scope.kind = .function
  glob : X.env.globals = mainGlobals
  blt : X.env.builtins = builtinsNs
  above : X.s₀.heap.objs.size ≤ X.env.locals
  inj : ∀ x y c, X.env.cells.lookup x = some c → X.env.cells.lookup y = some c → x = y
  has : ∀ x, (X.env.kindOf x = some .cell ∨ X.env.kindOf x = some .free) → ∃ c, X.env.cells.lookup x = some c
  cab : ∀ x c, X.fn x = true → X.env.cells.lookup x = some c → X.s₀.heap.objs.size ≤ c
  hd : X.calm = true → X.A.handled = none
  frames : X.A.frames = some X.stack
  stk : X.stack = X.outer ∨ (X.stack = X.env :: X.outer ∧ X.env.frame = some X.env.locals)
  exf : ∀ b ∈ X.ex, b ≠ X.env.locals ∧ ∀ x c, X.env.cells.lookup x = some c → c ≠ b
  bs : ∀ b o, X.base.get? b = some o → X.s₀.heap.get? b = some o ∧ X.H₀ b = none
  bsz : X.base.objs.size ≤ X.s₀.heap.objs.size
  noex : ∀ b o, X.base.get? b = some o → b ∉ X.ex
  exfs : ∀ b ∈ X.ex, b ∉ X.fs
  funs : X.s₀.heap.FunFrames X.base X.outer
  frf : ∀ b ∈ X.fs, X.H₀ b = none
structure Inv (X : Cx) (pins : List (Addr × Obj)) (σ : List (Option V)) (H : Hp) (s : Shared) : Prop where
  ok : X.Ok
  os : s.os = X.s₀.os
  bare : AllBare s.gens
  base : Un X.fs X.ex X.H₀ H X.s₀.heap s.heap
  loc : ∃ m, s.heap.Ns X.env.locals m ∧ ∀ (i : Nat) (x : Str) (v : V), X.N[i]? = some x → σ[i]? = some (some v) → Vis X.env.scope x → ∃ u, RelV v u ∧ Look X.env s.heap m x u
  cell : ∀ x c, X.env.cells.lookup x = some c → ∃ v, s.heap.IsCell c v
  free : H X.env.locals = none
  freeC : ∀ x c, X.env.cells.lookup x = some c → H c = none
  pin : ∀ p ∈ X.pn ++ pins, s.heap.get? p.1 = some p.2 ∧ H p.1 = none ∧ p.1 ≠ X.env.locals ∧ p.1 ∉ X.fs ∧ ∀ v, p.2.data ≠ .cell v
  hok : HOk X.prog X.w H s.heap
  len : σ.length = X.N.length
section
variable {X : Cx} {pins : List (Addr × Obj)} {σ : List (Option V)} {H H' : Hp} {s : Shared} {h' : Heap}
theorem Cx.Ok.nofr (ok : X.Ok) {b : Addr} {o : Obj} (e : X.base.get? b = some o) : b ∉ X.fs := fun hb => by
  have := (ok.funs.mem hb).1
  rw [e] at this; cases this
theorem Inv.bs (I : Inv X pins σ H s) : ∀ b o, X.base.get? b = some o → s.heap.get? b = some o ∧ H b = none := fun b o e =>
  ⟨I.base.keep b o (I.ok.bs b o e).1 (I.ok.bs b o e).2 (I.ok.nofr e) (I.ok.noex b o e), I.base.free b o (I.ok.bs b o e).1 (I.ok.bs b o e).2 (I.ok.noex b o e)⟩
theorem Inv.bk (I : Inv X pins σ H s) : ∀ b o, X.base.get? b = some o → s.heap.get? b = some o := fun b o e => (I.bs b o e).1
theorem Inv.mod (I : Inv X pins σ H s) : Mod X.K X.mg X.base := I.ok.mod
theorem Inv.kIn (I : Inv X pins σ H s) : X.K.In s.heap := I.ok.mod.kin.keeps I.bk
theorem Inv.lt (I : Inv X pins σ H s) : X.env.locals < s.heap.objs.size := let ⟨_, hn, _⟩ := I.loc; hn.lt
theorem Inv.sz (I : Inv X pins σ H s) : X.s₀.heap.objs.size ≤ s.heap.objs.size := Nat.le_trans I.ok.above (Nat.le_of_lt I.lt)
theorem Inv.nofs (I : Inv X pins σ H s) {a : Addr} (h : s.heap.objs.size ≤ a) : a ∉ X.fs := fun hb => by
  obtain ⟨_, o, ho, _⟩ := I.ok.funs.mem hb
  exact absurd (Nat.lt_of_lt_of_le (Heap.lt_size ho) (Nat.le_trans I.sz h)) (Nat.lt_irrefl _)
theorem Inv.cne (I : Inv X pins σ H s) : ∀ x c, X.env.cells.lookup x = some c → c ≠ X.env.locals := fun x c e z => by
  obtain ⟨v, o, ho, hd⟩ := I.cell x c e
  obtain ⟨m, ⟨o', es, ep, ho', hd', _⟩, _⟩ := I.loc
  rw [z, ho'] at ho; cases ho; rw [hd'] at hd; cases hd
theorem Inv.funs (I : Inv X pins σ H s) : s.heap.FunFrames X.base X.outer := by
  have all : ∀ (l : List Env), (∀ b ∈ frs l, b ∈ X.fs) → X.s₀.heap.FunFrames X.base l → s.heap.FunFrames X.base l := by
    intro l
    induction l with
    | nil => intro _ _; trivial
    | cons env r ih =>
      intro hs hl
      obtain ⟨hk, ⟨L, o, hf, hn, ho, hd⟩, hr⟩ := hl
      have hL : L ∈ X.fs := hs L (by unfold frs; rw [List.filterMap_cons, hf]; exact List.mem_cons_self)
      obtain ⟨sl, e⟩ := I.base.slot L o ho (I.ok.frf L hL) hL fun z => I.ok.exfs L z hL
      exact ⟨hk, ⟨L, _, hf, hn, e, hd⟩, ih (fun b hb => hs b (by unfold frs; rw [List.filterMap_cons, hf]; exact List.mem_cons_of_mem _ hb)) hr⟩
  exact all X.outer (fun _ hb => hb) I.ok.funs
theorem Inv.stack (I : Inv X pins σ H s) : s.heap.FunFrames X.base X.stack := by
  rcases I.ok.stk with e | ⟨e, hf⟩
  · rw [e]; exact I.funs
  · rw [e]
    obtain ⟨m, hn, _⟩ := I.loc
    refine .cons (by rw [I.ok.kind]; decide) hf hn ?_ I.funs
    exact Heap.get?_none_of_le (Nat.le_trans I.ok.bsz I.ok.above)
theorem Inv.stkSub (I : Inv X pins σ H s) : ∀ b ∈ frs X.stack, b ∈ X.env.locals :: X.fs := fun b hb => by
  rcases I.ok.stk with e | ⟨e, hf⟩
  · rw [e] at hb; exact List.mem_cons_of_mem _ hb
  · rw [e] at hb
    unfold frs at hb
    rw [List.filterMap_cons, hf] at hb
    exact hb
theorem Inv.stkFree (I : Inv X pins σ H s) : ∀ b ∈ frs X.stack, H b = none := fun b hb => by
  rcases List.mem_cons.mp (I.stkSub b hb) with e | hb
  · rw [e]; exact I.free
  · obtain ⟨_, o, ho, _⟩ := I.ok.funs.mem hb
    exact I.base.free b o ho (I.ok.frf b hb) fun z => I.ok.exfs b z hb
theorem Inv.step {g' : Array GenState} {t' : Nat} {d' : Drawn} {ch : List Addr} (I : Inv X pins σ H s)
    (hch : ∀ b ∈ ch, (b ∈ X.ex ∨ X.s₀.heap.objs.size ≤ b) ∧ b ≠ X.env.locals ∧ (∀ x c, X.env.cells.lookup x = some c → c ≠ b) ∧ ∀ p ∈ X.pn ++ pins, p.1 ≠ b)
    (keep : ∀ b o, b ≠ X.env.locals → b ∉ X.fs → b ∉ ch → s.heap.get? b = some o → H b = none → h'.get? b = some o)
    (slot : ∀ b o, b ≠ X.env.locals → b ∈ X.fs → b ∉ ch → s.heap.get? b = some o → H b = none → ∃ sl, h'.get? b = some { o with slots := sl }) (free : ∀ b o, b ∉ ch → s.heap.get? b = some o → H b = none → H' b = none)
    (there : ∀ b o, b ∉ ch → s.heap.get? b = some o → ∃ o', h'.get? b = some o')
    (tups : ∀ b xs, H b = some (.tup xs) → H' b = some (.tup xs)) (frzs : ∀ b o u, H b = some (.frz o u) → H' b = some (.frz o u)) (tbls : ∀ b ps, H b = some (.tbl ps) → ∃ more, H' b = some (.tbl (ps ++ more)))
    (ns : ∀ m, s.heap.Ns X.env.locals m → h'.Ns X.env.locals m) (hok : HOk X.prog X.w H' h') (hg : AllBare g') :
    Inv X pins σ H' { s with heap := h', gens := g', drawn := d', toks := t' } := by
  have neL : ∀ b o, X.s₀.heap.get? b = some o → b ≠ X.env.locals := fun b o e => Nat.ne_of_lt (Nat.lt_of_lt_of_le (Heap.lt_size e) I.ok.above)
  have neC : ∀ b o, X.s₀.heap.get? b = some o → b ∉ X.ex → b ∉ ch := fun b o e hx hb => by
    rcases (hch b hb).1 with z | z
    · exact hx z
    · exact absurd (Nat.lt_of_lt_of_le (Heap.lt_size e) z) (Nat.lt_irrefl _)
  have cellK : ∀ x c, X.env.cells.lookup x = some c → ∀ v, s.heap.IsCell c v → h'.IsCell c v := fun x c e v ⟨o, ho, hd⟩ => by
    have nch : c ∉ ch := fun z => (hch c z).2.2.1 x c e rfl
    by_cases hc : c ∈ X.fs
    · obtain ⟨sl, q⟩ := slot c o (I.cne x c e) hc nch ho (I.freeC x c e)
      exact ⟨_, q, hd⟩
    · exact ⟨o, keep c o (I.cne x c e) hc nch ho (I.freeC x c e), hd⟩
  refine ⟨I.ok, I.os, hg, ⟨fun b o e n hb hx => ?_, fun b o e n hb hx => ?_, fun b o e n hx => ?_, fun b o e hx => ?_, fun b xs e => tups b xs (I.base.tups b xs e), fun b o xs e => frzs b o xs (I.base.frzs b o xs e), fun b ps e => ?_⟩, ?_, fun x c e => ?_, ?_, fun x c e => ?_, fun p hp => ?_, hok, I.len⟩
  · exact keep b o (neL b o e) hb (neC b o e hx) (I.base.keep b o e n hb hx) (I.base.free b o e n hx)
  · obtain ⟨sl, e1⟩ := I.base.slot b o e n hb hx
    obtain ⟨sl', e2⟩ := slot b _ (neL b o e) hb (neC b o e hx) e1 (I.base.free b o e n hx)
    exact ⟨sl', e2⟩
  · obtain ⟨o', e1⟩ := I.base.there b o e hx
    exact free b o' (neC b o e hx) e1 (I.base.free b o e n hx)
  · obtain ⟨o', e1⟩ := I.base.there b o e hx
    exact there b o' (neC b o e hx) e1
  · obtain ⟨m1, e1⟩ := I.base.tbls b ps e
    obtain ⟨m2, e2⟩ := tbls b _ e1
    exact ⟨m1 ++ m2, by rw [e2, Array.append_assoc]⟩
  · obtain ⟨m, hn, hl⟩ := I.loc
    refine ⟨m, ns m hn, fun i x v e1 e2 e3 => ?_⟩
    obtain ⟨u, r, l⟩ := hl i x v e1 e2 e3
    refine ⟨u, r, ?_⟩
    rcases l with l | ⟨k, c, e, z⟩
    · exact .inl l
    · exact .inr ⟨k, c, e, cellK x c e _ z⟩
  · obtain ⟨v, z⟩ := I.cell x c e
    exact ⟨v, cellK x c e v z⟩
  · obtain ⟨m, ⟨o, _, _, ho, _⟩, _⟩ := I.loc
    exact free _ o (fun z => (hch _ z).2.1 rfl) ho I.free
  · obtain ⟨v, o, ho, hd⟩ := I.cell x c e
    exact free c o (fun z => (hch c z).2.2.1 x c e rfl) ho (I.freeC x c e)
  · obtain ⟨e, n, ne, nf, d⟩ := I.pin p hp
    have nch : p.1 ∉ ch := fun z => (hch p.1 z).2.2.2 p hp rfl
    exact ⟨keep p.1 p.2 ne nf nch e n, free p.1 p.2 nch e n, ne, nf, d⟩
theorem Inv.un {t' : Nat} (I : Inv X pins σ H s) (u : Un X.fs [] H H' s.heap h') (hok : HOk X.prog X.w H' h') : Inv X pins σ H' { s with heap := h', toks := t' } := by
  obtain ⟨m, ⟨o, es, ep, ho, r⟩, _⟩ := id I.loc
  obtain ⟨sl, hL⟩ := u.any ho I.free (by simp)
  exact I.step (g' := s.gens) (d' := s.drawn) (ch := []) (fun _ z => nomatch z) (fun b o _ hb _ e n => u.keep b o e n hb (by simp)) (fun b o _ hb _ e n => u.slot b o e n hb (by simp)) (fun b o _ e n => u.free b o e n (by simp)) (fun b o _ e => u.there b o e (by simp)) u.tups u.frzs u.tbls (fun m' hm => by
    obtain ⟨o', es', ep', ho', r'⟩ := hm
    rw [ho] at ho'; cases ho'
    exact ⟨_, es', ep', hL, r'⟩) hok I.bare
theorem Inv.call {g' : Array GenState} {t' : Nat} {d' : Drawn} {ch : List Addr} (I : Inv X pins σ H s) (u : Un (frs X.stack) ch H H' s.heap h') (hok : HOk X.prog X.w H' h') (hg : AllBare g')
    (hch : ∀ b ∈ ch, (b ∈ X.ex ∨ X.s₀.heap.objs.size ≤ b) ∧ b ≠ X.env.locals ∧ (∀ x c, X.env.cells.lookup x = some c → c ≠ b) ∧ ∀ p ∈ X.pn ++ pins, p.1 ≠ b) :
    Inv X pins σ H' { s with heap := h', gens := g', drawn := d', toks := t' } := by
  obtain ⟨m, ⟨o, es, ep, ho, r⟩, _⟩ := id I.loc
  obtain ⟨sl, hL⟩ := u.any ho I.free fun z => (hch _ z).2.1 rfl
  exact I.step (ch := ch) hch (fun b o hL hb hc e n => u.keep b o e n (fun z => (List.mem_cons.mp (I.stkSub b z)).elim hL hb) hc) (fun b o _ _ hc e n => u.any e n hc) (fun b o hc e n => u.free b o e n hc) (fun b o hc e => u.there b o e hc) u.tups u.frzs u.tbls (fun m' hm => by
    obtain ⟨o', es', ep', ho', r'⟩ := hm
    rw [ho] at ho'; cases ho'
    exact ⟨_, es', ep', hL, r'⟩) hok hg
theorem Inv.turned {t' : Nat} {it : Addr} (I : Inv X pins σ H s) (k : ∀ b o, b ≠ it → s.heap.get? b = some o → h'.get? b = some o) (hn : H it = none) (hL : it ≠ X.env.locals)
    (h1 : it ∈ X.ex ∨ X.s₀.heap.objs.size ≤ it) (h2 : ∀ x c, X.env.cells.lookup x = some c → c ≠ it) (h3 : ∀ p ∈ X.pn ++ pins, p.1 ≠ it) : Inv X pins σ H { s with heap := h', toks := t' } := by
  have nit : ∀ b u, H b = some u → b ≠ it := fun b u e z => by rw [z, hn] at e; cases e
  refine I.step (g' := s.gens) (d' := s.drawn) (ch := [it]) (fun b hb => ?_) (fun b o _ _ hc e _ => k b o (fun z => hc (by simp [z])) e) (fun b o _ _ hc e _ => ⟨o.slots, k b o (fun z => hc (by simp [z])) e⟩) (fun _ _ _ _ n => n)
    (fun b o hc e => ⟨o, k b o (fun z => hc (by simp [z])) e⟩) (fun _ _ e => e) (fun _ _ _ e => e) (fun b ps e => ⟨#[], by rw [e]; simp⟩) (fun m hm => ?_) (fun b u e => ?_) I.bare
  · have e : b = it := by simpa using hb
    subst e
    exact ⟨h1, hL, h2, h3⟩
  · obtain ⟨o, es, ep, ho, r⟩ := hm
    exact ⟨o, es, ep, k _ o (Ne.symm hL) ho, r⟩
  · refine (I.hok b u e).stay (fun c v hc q => k c v ?_ q) (fun _ q => q) fun _ _ q => q
    rcases hc with z | z
    · rw [z]; exact nit b u e
    · exact nit c _ z
theorem Inv.tok (I : Inv X pins σ H s) (t : Nat) : Inv X pins σ H { s with toks := t } := I.un (h' := s.heap) (t' := t) Un.refl I.hok
theorem Inv.kept {t' : Nat} (I : Inv X pins σ H s) (k : ∀ b u, s.heap.get? b = some u → h'.get? b = some u) : Inv X pins σ H { s with heap := h', toks := t' } := I.un (Un.kept k) (I.hok.kept k)
theorem Inv.laid {a : Addr} {o : HO} {t' : Nat} (I : Inv X pins σ H s) (k : ∀ b u, s.heap.get? b = some u → h'.get? b = some u) (hp : s.heap.objs.size ≤ a) (new : ObjOk X.prog X.w (upd H a o) h' a o) :
    Inv X pins σ (upd H a o) { s with heap := h', toks := t' } := I.un (Un.laid k hp (I.hok.fresh hp)) (I.hok.laid k hp new)
theorem Inv.write {x e : Addr} {o : HO} {t' : Nat} (I : Inv X pins σ H s) (mu : Mut (H x)) (he : e = x ∨ H e = some (.own x)) (k : ∀ b u, b ≠ e → s.heap.get? b = some u → h'.get? b = some u) (heo : ∃ u, h'.get? e = some u)
    (new : ObjOk X.prog X.w (upd H x o) h' x o) : Inv X pins σ (upd H x o) { s with heap := h', toks := t' } := I.un (Un.write mu he k heo) (I.hok.write mu he k heo new)
theorem Inv.pins_of {pins' : List (Addr × Obj)} (I : Inv X pins σ H s) (h : ∀ p ∈ pins', s.heap.get? p.1 = some p.2 ∧ H p.1 = none ∧ p.1 ≠ X.env.locals ∧ p.1 ∉ X.fs ∧ ∀ v, p.2.data ≠ .cell v) : Inv X pins' σ H s :=
  ⟨I.ok, I.os, I.bare, I.base, I.loc, I.cell, I.free, I.freeC, fun p hp => (List.mem_append.mp hp).elim (fun z => I.pin p (List.mem_append_left _ z)) (h p), I.hok, I.len⟩
theorem nodup_ix {N : List Str} (hN : N.Nodup) {i j : Nat} {x : Str} (a : N[i]? = some x) (b : N[j]? = some x) : i = j := by
  obtain ⟨h1, e1⟩ := List.getElem?_eq_some_iff.mp a
  obtain ⟨h2, e2⟩ := List.getElem?_eq_some_iff.mp b
  exact (List.getElem_inj hN).mp (e1.trans e2.symm)
theorem store_ok2 {M : Model} {A : Around} {E : Value → Shared → Prop} {i : Nat} {x : Str} {v : V} {u : Value} {Q : Unit → Shared → Prop} (I : Inv X pins σ H s) (hN : X.N.Nodup) (hi : X.N[i]? = some x) (hx : Loc X.env.scope x) (r : RelV v u)
    (h : ∀ s', Inv X pins (σ.set i (some v)) H s' → (∃ a, Heap.SameBut a s.heap s'.heap ∧ (a = X.env.locals ∨ X.env.cells.lookup x = some a)) → Q () s') (hf : X.fn x = true ∨ X.env.scope.names.lookup x = some .local := by first | exact .inl rfl | exact .inr rfl | assumption) : wpAny M A (storeName X.env x u) Q E s := by
  obtain ⟨m, hn, hl⟩ := id I.loc
  have hcls : (X.env.scope.kind == .class || (X.env.scope.kind == .module && X.env.locals != X.env.globals)) = false := by rw [I.ok.kind]; rfl
  have hiσ : i < σ.length := by rw [I.len]; exact (List.getElem?_eq_some_iff.mp hi).1
  have cne := I.cne
  have tracked : ∀ {a : Addr} {h' : Heap}, (∃ o, s.heap.get? a = some o ∧ H a = none) → Heap.SameBut a s.heap h' → HOk X.prog X.w H h' := fun {a h'} ha hs b ob e => by
    obtain ⟨_, _, hfree⟩ := ha
    refine (I.hok b ob e).stay (fun c w' hc q => (hs.2 c ?_).trans q) (fun _ q => q) fun _ _ q => q
    rintro rfl
    rcases hc with rfl | hc
    · rw [hfree] at e; cases e
    · rw [hfree] at hc; cases hc
  rcases hx with hk | hk
  · refine wpAny_storeName_local hk hn (fun h' hn' hs => ?_) hcls
    obtain ⟨oL, _, _, hoL, _⟩ := id hn
    refine h _ ⟨I.ok, I.os, I.bare, ⟨fun b o e n hb hx => ?_, fun b o e n hb hx => ?_, I.base.free, fun b o e hx => ?_, I.base.tups, I.base.frzs, I.base.tbls⟩, ⟨_, hn', fun j y v' e1 e2 e3 => ?_⟩, fun y c e => ?_, I.free, I.freeC, fun p hp => ?_, tracked ⟨oL, hoL, I.free⟩ hs, by simpa using I.len⟩ ⟨_, hs, .inl rfl⟩
    · exact (hs.2 b (Nat.ne_of_lt (Nat.lt_of_lt_of_le (Heap.lt_size e) I.ok.above))).trans (I.base.keep b o e n hb hx)
    · obtain ⟨sl, e1⟩ := I.base.slot b o e n hb hx
      exact ⟨sl, (hs.2 b (Nat.ne_of_lt (Nat.lt_of_lt_of_le (Heap.lt_size e) I.ok.above))).trans e1⟩
    · obtain ⟨o', e1⟩ := I.base.there b o e hx
      exact ⟨o', (hs.2 b (Nat.ne_of_lt (Nat.lt_of_lt_of_le (Heap.lt_size e) I.ok.above))).trans e1⟩
    · by_cases hj : j = i
      · subst hj
        rw [hi] at e1; cases e1
        rw [List.getElem?_set_self hiσ] at e2
        cases e2
        exact ⟨u, r, .inl ⟨hk, by simp⟩⟩
      · rw [List.getElem?_set_ne (Ne.symm hj)] at e2
        obtain ⟨u', r', q⟩ := hl j y v' e1 e2 e3
        refine ⟨u', r', ?_⟩
        rcases q with ⟨k, e⟩ | ⟨k, c, e, z⟩
        · refine .inl ⟨k, ?_⟩
          have : y ≠ x := fun e => hj (nodup_ix hN e1 (e ▸ hi))
          simp [this, e]
        · exact .inr ⟨k, c, e, z.sameBut hs (cne y c e)⟩
    · obtain ⟨w', z⟩ := I.cell y c e
      exact ⟨w', z.sameBut hs (cne y c e)⟩
    · obtain ⟨e, n, ne, nf, d⟩ := I.pin p hp
      exact ⟨(hs.2 p.1 ne).trans e, n, ne, nf, d⟩
  · have hfn : X.fn x = true := by
      rcases hf with z | z
      · exact z
      · rw [z] at hk; cases hk
    obtain ⟨c, hc⟩ := I.ok.has x (.inl hk)
    obtain ⟨w', z⟩ := I.cell x c hc
    refine wpAny_storeName_cell I.ok.kind hk hc z (fun h' hc' hs => ?_)
    obtain ⟨oc, hoc, hocd⟩ := id z
    refine h { s with heap := h' } ⟨I.ok, I.os, I.bare, ⟨fun b o e n hb hx => ?_, fun b o e n hb hx => ?_, I.base.free, fun b o e hx => ?_, I.base.tups, I.base.frzs, I.base.tbls⟩, ⟨m, hn.sameBut hs (Ne.symm (cne x c hc)), fun j y v' e1 e2 e3 => ?_⟩, fun y c' e => ?_, I.free, I.freeC, fun p hp => ?_, tracked ⟨oc, hoc, I.freeC x c hc⟩ hs, by simpa using I.len⟩ ⟨c, hs, .inr hc⟩
    · exact (hs.2 b (Nat.ne_of_lt (Nat.lt_of_lt_of_le (Heap.lt_size e) (I.ok.cab x c hfn hc)))).trans (I.base.keep b o e n hb hx)
    · obtain ⟨sl, e1⟩ := I.base.slot b o e n hb hx
      exact ⟨sl, (hs.2 b (Nat.ne_of_lt (Nat.lt_of_lt_of_le (Heap.lt_size e) (I.ok.cab x c hfn hc)))).trans e1⟩
    · obtain ⟨o', e1⟩ := I.base.there b o e hx
      exact ⟨o', (hs.2 b (Nat.ne_of_lt (Nat.lt_of_lt_of_le (Heap.lt_size e) (I.ok.cab x c hfn hc)))).trans e1⟩
    · by_cases hj : j = i
      · subst hj
        rw [hi] at e1; cases e1
        rw [List.getElem?_set_self hiσ] at e2
        cases e2
        exact ⟨u, r, .inr ⟨.inl hk, c, hc, hc'⟩⟩
      · rw [List.getElem?_set_ne (Ne.symm hj)] at e2
        obtain ⟨u', r', q⟩ := hl j y v' e1 e2 e3
        refine ⟨u', r', ?_⟩
        rcases q with q | ⟨k, c', e, z'⟩
        · exact .inl q
        · refine .inr ⟨k, c', e, z'.sameBut hs ?_⟩
          rintro rfl
          exact hj (nodup_ix hN e1 (I.ok.inj _ _ _ e hc ▸ hi))
    · by_cases hcc : c' = c
      · subst hcc; exact ⟨_, hc'⟩
      · obtain ⟨w2, z2⟩ := I.cell y c' e
        exact ⟨w2, z2.sameBut hs hcc⟩
    · obtain ⟨e, n, ne, nf, d⟩ := I.pin p hp
      refine ⟨(hs.2 p.1 ?_).trans e, n, ne, nf, d⟩
      intro q
      rw [q, hoc] at e
      have q' : oc = p.2 := Option.some.inj e
      exact d w' (by rw [← q']; exact hocd)
theorem store_ok {M : Model} {A : Around} {E : Value → Shared → Prop} {i : Nat} {x : Str} {v : V} {u : Value} {Q : Unit → Shared → Prop} (I : Inv X pins σ H s) (hN : X.N.Nodup) (hi : X.N[i]? = some x) (hx : Loc X.env.scope x) (r : RelV v u)
    (h : ∀ s', Inv X pins (σ.set i (some v)) H s' → Q () s') (hf : X.fn x = true ∨ X.env.scope.names.lookup x = some .local := by first | exact .inl rfl | exact .inr rfl | assumption) : wpAny M A (storeName X.env x u) Q E s :=
  store_ok2 I hN hi hx r (fun s' I' _ => h s' I') hf
theorem Inv.call' {s' : Shared} {ch : List Addr} (I : Inv X pins σ H s) (ho : s'.os = s.os) (u : Un (frs X.stack) ch H H' s.heap s'.heap) (hok : HOk X.prog X.w H' s'.heap) (hg : AllBare s'.gens)
    (hch : ∀ b ∈ ch, (b ∈ X.ex ∨ X.s₀.heap.objs.size ≤ b) ∧ b ≠ X.env.locals ∧ (∀ x c, X.env.cells.lookup x = some c → c ≠ b) ∧ ∀ p ∈ X.pn ++ pins, p.1 ≠ b) : Inv X pins σ H' s' := by
  obtain ⟨h', g', d', t', o'⟩ := s'
  have e : o' = s.os := ho
  subst e
  exact I.call (g' := g') (t' := t') (d' := d') u hok hg hch
end
abbrev XK := Value → Option Addr → Hp → Prop
abbrev St := List (Option V)
abbrev VK := V → Hp → Prop
abbrev TE := St → Hp → VK → Prop
abbrev TT := St → Hp → (Bool → Hp → Prop) → Prop
abbrev TA := St → Hp → (List V → Hp → Prop) → Prop
structure Ends where
  nx : St → Hp → Prop
  rt : VK
  bk : St → Hp → Prop := fun _ _ => False
  ct : St → Hp → Prop := fun _ _ => False
abbrev TS := Ends → St → Hp → Prop
def EP (X : Cx) (pins : List (Addr × Obj)) (σ : St) (Q : VK) (u : Value) (s' : Shared) : Prop := ∃ v H', Inv X pins σ H' s' ∧ RelV v u ∧ Q v H'
def TP (X : Cx) (pins : List (Addr × Obj)) (σ : St) (Q : Bool → Hp → Prop) (b : Bool) (s' : Shared) : Prop := ∃ H', Inv X pins σ H' s' ∧ Q b H'
def AP (X : Cx) (pins : List (Addr × Obj)) (σ : St) (Q : List V → Hp → Prop) (us : List Value) (s' : Shared) : Prop := ∃ vs H', Inv X pins σ H' s' ∧ Vals vs us ∧ Q vs H'
def SP (X : Cx) (pins : List (Addr × Obj)) (D : Ends) (f : Flow) (s' : Shared) : Prop :=
  match f with
  | .next => ∃ σ' H', Inv X pins σ' H' s' ∧ D.nx σ' H'
  | .brk => ∃ σ' H', Inv X pins σ' H' s' ∧ D.bk σ' H'
  | .cont => ∃ σ' H', Inv X pins σ' H' s' ∧ D.ct σ' H'
  | .ret u => ∃ v σ' H', Inv X pins σ' H' s' ∧ RelV v u ∧ D.rt v H'
def PE (X : Cx) (e : Expr) (t : TE) : Prop :=
  ∀ (pins : List (Addr × Obj)) (s : Shared) (σ : St) (H : Hp) (Q : VK), Inv X pins σ H s → t σ H Q → wpAny (model X.prog X.w) X.A (eval e X.env) (EP X pins σ Q) X.xe s
def PT (X : Cx) (e : Expr) (t : TT) : Prop :=
  ∀ (pins : List (Addr × Obj)) (s : Shared) (σ : St) (H : Hp) (Q : Bool → Hp → Prop), Inv X pins σ H s → t σ H Q → wpAny (model X.prog X.w) X.A (isTrue e X.env (eval e X.env)) (TP X pins σ Q) X.xe s
def PW (X : Cx) (e : Expr) (t : TT) : Prop :=
  ∀ (whole : Sem Value) (pins : List (Addr × Obj)) (s : Shared) (σ : St) (H : Hp) (Q : Bool → Hp → Prop), Inv X pins σ H s → t σ H Q → wpAny (model X.prog X.w) X.A (isTrue e X.env whole) (TP X pins σ Q) X.xe s
theorem PW.pt {X : Cx} {e : Expr} {t : TT} (h : PW X e t) : PT X e t := h _
def PA (X : Cx) (es : List Expr) (t : TA) : Prop :=
  ∀ (pos : Pos) (pins : List (Addr × Obj)) (s : Shared) (σ : St) (H : Hp) (Q : List V → Hp → Prop), Inv X pins σ H s → t σ H Q → wpAny (model X.prog X.w) X.A (spliced (backTo pos (starEach es X.env))) (AP X pins σ Q) X.xe s
def PS (X : Cx) (st : Stmt) (t : TS) : Prop :=
  ∀ (pins : List (Addr × Obj)) (s : Shared) (σ : St) (H : Hp) (D : Ends), Inv X pins σ H s → t D σ H → wpAny (model X.prog X.w) X.A (exec st X.env) (SP X pins D) X.xe s
def PSs (X : Cx) (st : List Stmt) (t : TS) : Prop :=
  ∀ (pins : List (Addr × Obj)) (s : Shared) (σ : St) (H : Hp) (D : Ends), Inv X pins σ H s → t D σ H → wpAny (model X.prog X.w) X.A (execs st X.env) (SP X pins D) X.xe s
theorem thn {α : Type} {t : Sem α} {Q Q' : α → Shared → Prop} {M : Model} {A : Around} {E : Value → Shared → Prop} {s : Shared} (h : wpAny M A t Q E s) (hQ : ∀ a s, Q a s → Q' a s) : wpAny M A t Q' E s := wpAny_mono h hQ fun _ _ x => x
end L2
namespace L2
open PySem PySem.Spec PyProof.Rows
section
variable {X : Cx}
theorem bin {a b : Expr} {ta tb : TE} (ha : PE X a ta) (hb : PE X b tb) {pins : List (Addr × Obj)} {s : Shared} {σ : St} {H : Hp} {R : V → V → Hp → Prop} (I : Inv X pins σ H s) (h : ta σ H fun x H1 => tb σ H1 fun y H2 => R x y H2)
    {α : Type} {Q : α → Shared → Prop} {f : Value → Value → Sem α}
    (hf : ∀ v u s2 x y H2, Inv X pins σ H2 s2 → RelV x v → RelV y u → R x y H2 → wpAny (model X.prog X.w) X.A (f v u) Q X.xe s2) :
    wpAny (model X.prog X.w) X.A (eval a X.env) (fun v s₁ => wpAny (model X.prog X.w) X.A (eval b X.env) (fun u s₂ => wpAny (model X.prog X.w) X.A (f v u) Q X.xe s₂) X.xe s₁) X.xe s := by
  refine thn (ha pins s σ H _ I h) fun v s1 ⟨x, H1, I1, r1, q1⟩ => ?_
  refine thn (hb pins s1 σ H1 _ I1 q1) fun u s2 ⟨y, H2, I2, r2, q2⟩ => ?_
  exact hf v u s2 x y H2 I2 r1 r2 q2
def tVar (i : Nat) : TE := fun σ H Q => ∃ v, σ[i]? = some (some v) ∧ Q v H
def tC (v : V) : TE := fun _ H Q => Q v H
theorem pe_var {i : Nat} {x : Str} {pos : Pos} (hN : X.N[i]? = some x) (hv : Vis X.env.scope x) (hd : (x == ("__debug__" : Str)) = false := by decide) (hcd : (x == ("__classdict__" : Str)) = false := by decide) : PE X (.Name x pos) (tVar i) := by
  intro pins s σ H Q I h
  obtain ⟨v, e, h⟩ := h
  obtain ⟨m, hn, hl⟩ := I.loc
  obtain ⟨u, r, l⟩ := hl i x v hN e hv
  have fin : EP X pins σ Q u s := ⟨v, H, I, r, h⟩
  rcases l with ⟨hk, hm⟩ | ⟨hk, c, hc, hcell⟩
  · exact wpAny_Name (wpAny_loadName_local I.ok.kind hk hn hm fin) hd
  · rcases hk with hk | hk
    · exact wpAny_Name (wpAny_loadName_cell I.ok.kind hk hc hcell fin) hd
    · exact wpAny_Name (wpAny_loadName_free I.ok.kind hk hc hcell fin hcd) hd
theorem pe_int {i j pos} : PE X (.Constant (.int i) j pos) (tC (.int i)) := fun _ _ _ H _ I h => wpAny_Constant_int ⟨.int i, H, I.tok _, ⟨_, rfl⟩, h⟩
theorem pe_bl {b j pos} : PE X (.Constant (.bool b) j pos) (tC (.bl b)) := fun _ _ _ H _ I h => Constant_bool ⟨.bl b, H, I, rfl, h⟩
def Gl (X : Cx) (x : Str) : Prop := X.env.kindOf x = some .globalImplicit
theorem ld_glob {E : Value → Shared → Prop} {pins : List (Addr × Obj)} {s : Shared} {σ : St} {H : Hp} {x : Str} {u : Value} {pos : Pos} {Q : Value → Shared → Prop} (I : Inv X pins σ H s) (hg : Gl X x) (hm : X.mg x = some u) (h : Q u s)
    (hd : (x == ("__debug__" : Str)) = false := by decide) : wpAny (model X.prog X.w) X.A (eval (.Name x pos) X.env) Q E s :=
  Calls.Name_function_global I.ok.kind hg (Calls.loadGlobal_global (by rw [I.ok.glob]; exact I.mod.glob.keeps I.bk) hm h) hd
theorem ld_blt {E : Value → Shared → Prop} {pins : List (Addr × Obj)} {s : Shared} {σ : St} {H : Hp} {x : Str} {u : Value} {pos : Pos} {Q : Value → Shared → Prop} (I : Inv X pins σ H s) (hg : Gl X x) (hm : X.mg x = none) (hv : bootBuiltins x = some u) (h : Q u s)
    (hn : x ≠ "__name__" := by decide) (hd : (x == ("__debug__" : Str)) = false := by decide) : wpAny (model X.prog X.w) X.A (eval (.Name x pos) X.env) Q E s := by
  obtain ⟨mb, h1, h2⟩ := I.mod.blt
  exact Calls.Name_function_global I.ok.kind hg (Calls.loadGlobal_builtin (by rw [I.ok.glob]; exact I.mod.glob.keeps I.bk) hm (by rw [I.ok.blt]; exact h1.keeps I.bk) ((h2 x hn).trans hv) h) hd
theorem pe_glob {x : Str} {v : V} {u : Value} {pos : Pos} (hg : Gl X x) (hm : X.mg x = some u) (r : RelV v u) (hd : (x == ("__debug__" : Str)) = false := by decide) : PE X (.Name x pos) (tC v) :=
  fun _ _ _ H _ I h => ld_glob I hg hm ⟨v, H, I, r, h⟩ hd
theorem pe_bltn {x : Str} {v : V} {u : Value} {pos : Pos} (hg : Gl X x) (hm : X.mg x = none) (hv : bootBuiltins x = some u) (r : RelV v u) (hn : x ≠ "__name__" := by decide) (hd : (x == ("__debug__" : Str)) = false := by decide) : PE X (.Name x pos) (tC v) :=
  fun _ _ _ H _ I h => ld_blt I hg hm hv ⟨v, H, I, r, h⟩ hn hd
variable {a b : Expr} {ta tb : TE} {pos : Pos}
def PC (X : Cx) (op : CmpOp) (a b : Expr) (t : TE) : Prop :=
  ∀ (pins : List (Addr × Obj)) (s : Shared) (σ : St) (H : Hp) (Q : VK), Inv X pins σ H s → t σ H Q →
    wpAny (model X.prog X.w) X.A (eval a X.env) (fun v s₁ => wpAny (model X.prog X.w) X.A (eval b X.env) (fun u s₂ => wpAny (model X.prog X.w) X.A (compareOp op v u) (EP X pins σ Q) X.xe s₂) X.xe s₁) X.xe s
def tB (t : TE) : TT := fun σ H Q => t σ H fun x H1 => ∃ c, x = .bl c ∧ Q c H1
theorem pt_cmp {op : CmpOp} {t : TE} (h : PC X op a b t) (h1 : behindInMarks op b = false := by first | exact nobehind _ (by decide) (by decide) | rfl) : PT X (.Compare a [op] [b] pos) (tB t) := by
  intro pins s σ H Q I hw
  refine wpAny_isTrue_Compare1 (thn (h pins s σ H _ I hw) fun v s1 h1 => thn h1 fun u s2 h2 => thn h2 fun c s3 ⟨x, H1, I1, r1, q1⟩ => ?_) h1
  obtain ⟨d, rfl, q⟩ := q1
  cases r1
  exact wpAny_truthy_bool ⟨H1, I1, q⟩
theorem pt_val {e : Expr} {t : TE} (h : PE X e t) (he : ∀ whole, isTrue e X.env whole = (do let v ← whole; standAt e.pos; holding [v] (truthy v)) := by intro _; rfl) : PT X e (tB t) := by
  intro pins s σ H Q I hw
  refine isTrue_plain (thn (h pins s σ H _ I hw) fun v s1 ⟨x, H1, I1, r1, q1⟩ => ?_) (he _)
  obtain ⟨d, rfl, q⟩ := q1
  cases r1
  exact wpAny_truthy_bool ⟨H1, I1, q⟩
variable {tA tB' : TT} {rest : List Expr}
def tAnd (t u : TT) : TT := fun σ H Q => t σ H fun c H1 => if c = true then u σ H1 Q else Q false H1
def tOr (t u : TT) : TT := fun σ H Q => t σ H fun c H1 => if c = true then Q true H1 else u σ H1 Q
def tNot (t : TT) : TT := fun σ H Q => t σ H fun c H1 => Q (!c) H1
theorem pw_and1 (ha : PT X a tA) : PW X (.BoolOp .And [a] pos) tA := by
  intro wh pins s σ H Q I h
  refine isTrue_and (thn (ha pins s σ H Q I h) fun c s1 e => ?_)
  cases c with
  | true => exact isTrue_and_nil e
  | false => exact e
theorem pw_or1 (ha : PT X a tA) : PW X (.BoolOp .Or [a] pos) tA := by
  intro wh pins s σ H Q I h
  refine isTrue_or (thn (ha pins s σ H Q I h) fun c s1 e => ?_)
  cases c with
  | false => exact isTrue_or_nil e
  | true => exact e
theorem pw_and (ha : PT X a tA) (hb : PW X (.BoolOp .And (b :: rest) pos) tB') : PW X (.BoolOp .And (a :: b :: rest) pos) (tAnd tA tB') := by
  intro wh pins s σ H Q I h
  refine isTrue_and (thn (ha pins s σ H _ I h) fun c s1 ⟨H1, I1, q1⟩ => ?_)
  cases c with
  | true => exact hb wh pins s1 σ H1 Q I1 q1
  | false => exact ⟨H1, I1, q1⟩
theorem pw_or (ha : PT X a tA) (hb : PW X (.BoolOp .Or (b :: rest) pos) tB') : PW X (.BoolOp .Or (a :: b :: rest) pos) (tOr tA tB') := by
  intro wh pins s σ H Q I h
  refine isTrue_or (thn (ha pins s σ H _ I h) fun c s1 ⟨H1, I1, q1⟩ => ?_)
  cases c with
  | true => exact ⟨H1, I1, q1⟩
  | false => exact hb wh pins s1 σ H1 Q I1 q1
theorem pt_not (ha : PT X a tA) : PT X (.UnaryOp .Not a pos) (tNot tA) := by
  intro pins s σ H Q I h
  exact isTrue_not (ha pins s σ H (fun c H1 => Q (!c) H1) I h)
def tAndV (ta tb : TE) : TE := fun σ H Q => ta σ H fun x H1 => ∃ c, x = .bl c ∧ if c = true then tb σ H1 Q else Q (.bl false) H1
def tOrV (ta tb : TE) : TE := fun σ H Q => ta σ H fun x H1 => ∃ c, x = .bl c ∧ if c = true then Q (.bl true) H1 else tb σ H1 Q
def tNotV (ta : TE) : TE := fun σ H Q => ta σ H fun x H1 => ∃ c, x = .bl c ∧ Q (.bl (!c)) H1
theorem pe_one {op} {t : TE} (h : PE X a t) : PE X (.BoolOp op [a] pos) t := fun pins s σ H Q I hw => BoolOp_one (h pins s σ H Q I hw)
theorem pe_and (ha : PE X a ta) (hb : PE X (.BoolOp .And (b :: rest) pos) tb) : PE X (.BoolOp .And (a :: b :: rest) pos) (tAndV ta tb) := by
  intro pins s σ H Q I h
  refine BoolOp_and (thn (ha pins s σ H _ I h) fun v s1 ⟨x, H1, I1, r1, q1⟩ => ?_)
  obtain ⟨c, rfl, q1⟩ := q1
  cases r1
  refine wpAny_truthy_bool ?_
  cases c with
  | true => exact hb pins s1 σ H1 Q I1 q1
  | false => exact ⟨.bl false, H1, I1, rfl, q1⟩
theorem pe_or (ha : PE X a ta) (hb : PE X (.BoolOp .Or (b :: rest) pos) tb) : PE X (.BoolOp .Or (a :: b :: rest) pos) (tOrV ta tb) := by
  intro pins s σ H Q I h
  refine BoolOp_or (thn (ha pins s σ H _ I h) fun v s1 ⟨x, H1, I1, r1, q1⟩ => ?_)
  obtain ⟨c, rfl, q1⟩ := q1
  cases r1
  refine wpAny_truthy_bool ?_
  cases c with
  | false => exact hb pins s1 σ H1 Q I1 q1
  | true => exact ⟨.bl true, H1, I1, rfl, q1⟩
theorem pe_not (ha : PE X a ta) : PE X (.UnaryOp .Not a pos) (tNotV ta) := by
  intro pins s σ H Q I h
  refine UnaryOp_ (thn (ha pins s σ H _ I h) fun v s1 ⟨x, H1, I1, r1, q1⟩ => ?_)
  obtain ⟨c, rfl, q1⟩ := q1
  cases r1
  exact not_of (wpAny_truthy_bool ⟨.bl (!c), H1, I1, rfl, q1⟩)
end
end L2
namespace L2
open PySem PySem.Spec PyProof.Rows
def SqL (K : PySem.W.Frag) (H : Hp) (a : Addr) (xs : List V) : Prop :=
  Rd H a (.lst xs) ∨
    ∃ (o : Obj) (its : Array Value) (n : Nat), K.lookup a = some o ∧ o.cls = .type "list" ∧ o.dict = none ∧ o.data = .seq its n ∧ its.size ≤ sizeLine ∧ Vals xs its.toList
def SqT (K : PySem.W.Frag) (H : Hp) (a : Addr) (xs : List V) : Prop :=
  Rd H a (.tup xs) ∨
    ∃ (o : Obj) (its : Array Value) (n : Nat), K.lookup a = some o ∧ o.cls = .type "tuple" ∧ o.data = .seq its n ∧ its.size ≤ sizeLine ∧ Vals xs its.toList
def absV : Value → Option V
  | .none => some .non
  | .bool b => some (.bl b)
  | .int i _ => some (.int i)
  | .str x _ => some (.str x)
  | .bytes b _ => some (.byt b)
  | .float b _ => some (.flt b)
  | .ref a => some (.ref a)
  | .type n => some (.ty n)
  | _ => none
theorem RelV.abs {x : V} {u : Value} (r : RelV x u) : absV u = some x := by
  cases x with
  | non => cases r; rfl
  | bl _ => cases r; rfl
  | int _ => obtain ⟨t, rfl⟩ := r; rfl
  | str _ => obtain ⟨t, rfl⟩ := r; rfl
  | byt _ => obtain ⟨t, rfl⟩ := r; rfl
  | flt _ => obtain ⟨t, rfl⟩ := r; rfl
  | ref _ => cases r; rfl
  | ty _ => cases r; rfl
theorem RelV.inj {x y : V} {u : Value} (r : RelV x u) (q : RelV y u) : x = y := Option.some.inj (r.abs.symm.trans q.abs)
theorem Vals.inj : ∀ {xs ys : List V} {us : List Value}, Vals xs us → Vals ys us → xs = ys
  | _, _, _, .nil, .nil => rfl
  | _, _, _, .cons r t, .cons r' t' => by rw [r.inj r', Vals.inj t t']
section
variable {X : Cx} {pins : List (Addr × Obj)} {σ : St} {H : Hp} {s : Shared} {a : Addr} {xs ys : List V}
theorem SqL.of {K : PySem.W.Frag} (h : H a = some (.lst xs)) : SqL K H a xs := .inl (.inl h)
theorem SqT.of {K : PySem.W.Frag} (h : H a = some (.tup xs)) : SqT K H a xs := .inl (.inl h)
theorem Inv.list (I : Inv X pins σ H s) (h : SqL X.K H a xs) : ∃ its : List Value, Vals xs its ∧ PlainL s.heap a its.toArray ∧ xs.length ≤ sizeLine := by
  rcases h with h | ⟨o, its, n, hk, hc, hd, hs, hz, r⟩
  · obtain ⟨z, its, n, r, e⟩ := h.ok I.hok
    exact ⟨its, r, ⟨_, n, e, rfl, rfl, rfl⟩, z⟩
  · refine ⟨its.toList, r, ⟨o, n, I.kIn a o hk, hc, hd, by simpa using hs⟩, ?_⟩
    have e := r.length
    simp only [Array.length_toList] at e
    omega
theorem Inv.tuple (I : Inv X pins σ H s) (h : SqT X.K H a xs) : ∃ its : List Value, Vals xs its ∧ IsTup s.heap a its.toArray ∧ xs.length ≤ sizeLine := by
  rcases h with h | ⟨o, its, n, hk, hc, hs, hz, r⟩
  · obtain ⟨z, its, r, p⟩ := h.ok I.hok
    exact ⟨its, r, p, z⟩
  · refine ⟨its.toList, r, ⟨o, I.kIn a o hk, hc, n, by simpa using hs⟩, ?_⟩
    have e := r.length
    simp only [Array.length_toList] at e
    omega
theorem Inv.list_inj (I : Inv X pins σ H s) (h : SqL X.K H a xs) (h' : SqL X.K H a ys) : xs = ys := by
  obtain ⟨its, r, ⟨o, n, e, _, _, d⟩, _⟩ := I.list h
  obtain ⟨its', r', ⟨o', n', e', _, _, d'⟩, _⟩ := I.list h'
  rw [e] at e'; cases e'
  rw [d] at d'
  injection d' with d1 _
  have : its = its' := by simpa using congrArg Array.toList d1
  subst this
  exact r.inj r'
theorem Inv.tuple_inj (I : Inv X pins σ H s) (h : SqT X.K H a xs) (h' : SqT X.K H a ys) : xs = ys := by
  obtain ⟨its, r, ⟨o, e, _, n, d⟩, _⟩ := I.tuple h
  obtain ⟨its', r', ⟨o', e', _, n', d'⟩, _⟩ := I.tuple h'
  rw [e] at e'; cases e'
  rw [d] at d'
  injection d' with d1 _
  have : its = its' := by simpa using congrArg Array.toList d1
  subst this
  exact r.inj r'
end
abbrev Cx.wish (X : Cx) (E : Value → Shared → Prop) : Cx := { X with xe := E }
abbrev Cx.nox (X : Cx) : Cx := X.wish fun _ _ => False
theorem Cx.Ok.wish {X : Cx} (ok : X.Ok) (E : Value → Shared → Prop) : (X.wish E).Ok :=
  ⟨ok.mod, ok.kind, ok.glob, ok.blt, ok.above, ok.inj, ok.has, ok.cab, ok.hd, ok.frames, ok.stk, ok.exf, ok.bs, ok.bsz, ok.noex, ok.exfs, ok.funs, ok.frf⟩
theorem Cx.Ok.unwish {X : Cx} {E : Value → Shared → Prop} (ok : (X.wish E).Ok) : X.Ok :=
  ⟨ok.mod, ok.kind, ok.glob, ok.blt, ok.above, ok.inj, ok.has, ok.cab, ok.hd, ok.frames, ok.stk, ok.exf, ok.bs, ok.bsz, ok.noex, ok.exfs, ok.funs, ok.frf⟩
section
variable {X : Cx} {pins : List (Addr × Obj)} {σ : St} {H : Hp} {s : Shared} {E : Value → Shared → Prop}
theorem Inv.wish (I : Inv X pins σ H s) (E : Value → Shared → Prop) : Inv (X.wish E) pins σ H s := ⟨I.ok.wish E, I.os, I.bare, I.base, I.loc, I.cell, I.free, I.freeC, I.pin, I.hok, I.len⟩
theorem Inv.unwish (I : Inv (X.wish E) pins σ H s) : Inv X pins σ H s := ⟨I.ok.unwish, I.os, I.bare, I.base, I.loc, I.cell, I.free, I.freeC, I.pin, I.hok, I.len⟩
theorem SP.unwish {D : Ends} {f : Flow} {s' : Shared} (h : SP (X.wish E) pins D f s') : SP X pins D f s' := by
  cases f with
  | next => obtain ⟨σ', H', I, q⟩ := h; exact ⟨σ', H', I.unwish, q⟩
  | brk => obtain ⟨σ', H', I, q⟩ := h; exact ⟨σ', H', I.unwish, q⟩
  | cont => obtain ⟨σ', H', I, q⟩ := h; exact ⟨σ', H', I.unwish, q⟩
  | ret u => obtain ⟨v, σ', H', I, r, q⟩ := h; exact ⟨v, σ', H', I.unwish, r, q⟩
theorem PSs.nox {st : List Stmt} {t : TS} (h : PSs X.nox st t) : PSs X st t := fun pins s σ H D I hw =>
  wpAny_mono (h pins s σ H D (I.wish _) hw) (fun _ _ q => q.unwish) fun _ _ z => False.elim z
end
section
variable {X : Cx} {st : Stmt} {rest : List Stmt} {t u : TS} {e : Expr} {te : TE} {pos : Pos}
def tNext : TS := fun D σ H => D.nx σ H
def tSeq (t u : TS) : TS := fun D σ H => t { D with nx := u D } σ H
theorem pss_nil : PSs X [] tNext := fun _ _ σ H _ I h => wpAny_execs_nil ⟨σ, H, I, h⟩
theorem pss_cons (h1 : PS X st t) (h2 : PSs X rest u) : PSs X (st :: rest) (tSeq t u) := by
  intro pins s σ H D I h
  refine wpAny_execs_cons (thn (h1 pins s σ H { D with nx := u D } I h) fun f s1 q => ?_)
  cases f with
  | next =>
    obtain ⟨σ', H', I', q⟩ := q
    exact h2 pins s1 σ' H' D I' q
  | ret v => exact q
  | brk => exact q
  | cont => exact q
theorem pss_one (h1 : PS X st t) : PSs X [st] t := by
  intro pins s σ H D I h
  refine wpAny_execs_cons (thn (h1 pins s σ H D I h) fun f s1 q => ?_)
  cases f with
  | next => exact wpAny_execs_nil q
  | ret v => exact q
  | brk => exact q
  | cont => exact q
theorem Inv.quiet {pins : List (Addr × Obj)} {σ : St} {H : Hp} {s : Shared} (I : Inv X pins σ H s) : interactive X.env = false := by simp [interactive, I.ok.kind]
def tDrop (te : TE) : TS := fun D σ H => te σ H fun _ H1 => D.nx σ H1
theorem ps_expr (he : PE X e te) (hs : swapsWith e none pos.line X.env = pure false := by rfl) : PS X (.Expr e pos) (tDrop te) := by
  intro pins s σ H D I h
  exact wpAny_Expr_any (thn (he pins s σ H _ I h) fun v s1 ⟨x, H1, I1, r1, q1⟩ => ⟨σ, H1, I1, q1⟩) I.quiet hs
def tRet (te : TE) : TS := fun D σ H => te σ H D.rt
theorem ps_ret (he : PE X e te) : PS X (.Return (some e) pos) (tRet te) := by
  intro pins s σ H D I h
  exact wpAny_Return_some (thn (he pins s σ H _ I h) fun v s1 ⟨x, H1, I1, r1, q1⟩ => ⟨x, σ, H1, I1, r1, q1⟩)
def tIfS (c : TT) (t u : TS) : TS := fun D σ H => c σ H fun b H1 => if b = true then t D σ H1 else u D σ H1
theorem ps_if {c : Expr} {a b : List Stmt} {tc : TT} (hc : PT X c tc) (ha : PSs X a t) (hb : PSs X b u) : PS X (.If c a b pos) (tIfS tc t u) := by
  intro pins s σ H D I h
  refine wpAny_If (thn (hc pins s σ H _ I h) fun d s1 ⟨H1, I1, q1⟩ => ?_)
  cases d with
  | true => exact ha pins s1 σ H1 D I1 q1
  | false => exact hb pins s1 σ H1 D I1 q1
def tNever : TS := fun _ _ _ => False
theorem pss_never {sts : List Stmt} : PSs X sts tNever := fun _ _ _ _ _ _ h => h.elim
end
abbrev TG := V → St → Hp → (St → Hp → Prop) → Prop
abbrev TGs := List V → St → Hp → (St → Hp → Prop) → Prop
def PG (X : Cx) (target : Expr) (t : TG) : Prop :=
  ∀ (pins : List (Addr × Obj)) (s : Shared) (σ : St) (H : Hp) (v : V) (u : Value) (Q : St → Hp → Prop), Inv X pins σ H s → RelV v u → t v σ H Q →
    wpAny (model X.prog X.w) X.A (assign target X.env u) (fun _ s' => ∃ σ' H', Inv X pins σ' H' s' ∧ Q σ' H') X.xe s
def PGs (X : Cx) (ts : List Expr) (t : TGs) : Prop :=
  ∀ (pins : List (Addr × Obj)) (s : Shared) (σ : St) (H : Hp) (vs : List V) (us : List Value) (Q : St → Hp → Prop), Inv X pins σ H s → Vals vs us → t vs σ H Q →
    wpAny (model X.prog X.w) X.A (assignInOrder ((assignEach ts X.env).map (·.2)) us) (fun _ s' => ∃ σ' H', Inv X pins σ' H' s' ∧ Q σ' H') X.xe s
section
variable {X : Cx} {pos : Pos}
def gName (i : Nat) : TG := fun v σ H Q => Q (σ.set i (some v)) H
theorem pg_name {i : Nat} {x : Str} (hN : X.N.Nodup) (hi : X.N[i]? = some x) (hx : Loc X.env.scope x) (hf : X.fn x = true ∨ X.env.scope.names.lookup x = some .local := by first | exact .inl rfl | exact .inr rfl | assumption) : PG X (.Name x pos) (gName i) := by
  intro pins s σ H v u Q I r h
  exact wpAny_assign_Name (store_ok I hN hi hx r (fun s' I' => ⟨_, H, I', h⟩) hf)
def gNil : TGs := fun vs σ H Q => vs = [] ∧ Q σ H
def gCons (t : TG) (u : TGs) : TGs := fun vs σ H Q => ∃ v r, vs = v :: r ∧ t v σ H fun σ' H' => u r σ' H' Q
theorem pgs_nil : PGs X [] gNil := by
  intro pins s σ H vs us Q I r h
  obtain ⟨e, h⟩ := h
  subst e
  cases r
  exact assignInOrder_nil ⟨σ, H, I, h⟩
theorem pgs_cons {e : Expr} {es : List Expr} {t : TG} {u : TGs} (h1 : PG X e t) (h2 : PGs X es u)
    (hs : (assignEach (e :: es) X.env).map (·.2) = assign e X.env :: (assignEach es X.env).map (·.2) := by rfl) : PGs X (e :: es) (gCons t u) := by
  intro pins s σ H vs us Q I r h
  obtain ⟨v, vr, e1, h⟩ := h
  subst e1
  cases r with
  | cons r rr =>
    rw [hs]
    refine assignInOrder_cons (thn (h1 pins s σ H _ _ _ I r h) fun _ s1 ⟨σ1, H1, I1, q1⟩ => ?_)
    exact h2 pins s1 σ1 H1 _ _ Q I1 rr q1
def gTup (K : PySem.W.Frag) (n : Nat) (t : TGs) : TG := fun v σ H Q => ∃ a xs, v = .ref a ∧ SqT K H a xs ∧ xs.length = n ∧ t xs σ H Q
theorem pg_tup {es : List Expr} {k : Nat} {t : TGs} {n : Nat} (hc : X.calm = true) (h : PGs X es t)
    (hn : (assignEach es X.env).length = n := by rfl) (hst : (assignEach es X.env).findIdx? (·.1) = none := by rfl) : PG X (.Tuple es k pos) (gTup X.K n t) := by
  intro pins s σ H v u Q I r hw
  obtain ⟨a, xs, e1, hq, hl, hw⟩ := hw
  subst e1
  cases r
  obtain ⟨its, rv, ht, hz⟩ := I.tuple hq
  refine assign_Tuple_tuple (I.ok.hd hc) ht (by simp [hn, ← hl, rv.length]) hst fun h' hx => ?_
  have I1 : Inv X pins σ H { s with heap := h' } := I.kept (t' := s.toks) fun b o e => hx b o (Nat.ne_of_lt (Heap.lt_size e)) e
  exact h pins _ σ H xs _ Q I1 (by simpa using rv) hw
def tAsg (te : TE) (g : TG) : TS := fun D σ H => te σ H fun x H1 => g x σ H1 D.nx
theorem ps_set {i : Nat} {x : Str} {e : Expr} {te : TE} {pos' : Pos} (hN : X.N.Nodup) (hi : X.N[i]? = some x) (hx : Loc X.env.scope x) (he : PE X e te) (hs : swapsWith e (some (.Name x pos')) pos.line X.env = pure false := by rfl) (hf : X.fn x = true ∨ X.env.scope.names.lookup x = some .local := by first | exact .inl rfl | exact .inr rfl | assumption) :
    PS X (.Assign [.Name x pos'] e pos) (tAsg te (gName i)) := by
  intro pins s σ H D I h
  refine wpAny_Assign_Name (thn (he pins s σ H _ I h) fun v s1 ⟨y, H1, I1, r1, q1⟩ => ?_) hs
  exact store_ok I1 hN hi hx r1 (fun s2 I2 => ⟨_, H1, I2, q1⟩) hf
end
section
variable {X : Cx} {pos : Pos}
end
structure It where
  go : Nat → Hp → Prop
  yld : Nat → Hp → V → Hp → Prop
  stop : Nat → Hp → Prop
def FpOk (X : Cx) (pins : List (Addr × Obj)) (H : Hp) (b : Addr) : Prop :=
  H b = none ∧ b ≠ X.env.locals ∧ b ∉ X.fs ∧ (b ∈ X.ex ∨ X.s₀.heap.objs.size ≤ b) ∧ (∀ x c, X.env.cells.lookup x = some c → c ≠ b) ∧ ∀ p ∈ X.pn ++ pins, p.1 ≠ b
theorem Inv.fpOk {X : Cx} {pins : List (Addr × Obj)} {σ : St} {H H' : Hp} {s : Shared} {b : Addr} (I : Inv X pins σ H s) (hb : s.heap.objs.size ≤ b) (hn : H' b = none) : FpOk X pins H' b := by
  refine ⟨hn, Nat.ne_of_gt (Nat.lt_of_lt_of_le I.lt hb), I.nofs hb, .inr (Nat.le_trans I.sz hb), fun x c e z => ?_, fun p hp z => ?_⟩
  · obtain ⟨v, q⟩ := I.cell x c e
    exact absurd (Nat.lt_of_lt_of_le q.lt (by rw [z]; exact hb)) (Nat.lt_irrefl _)
  · exact absurd (Nat.lt_of_lt_of_le (Heap.lt_size (I.pin p hp).1) (by rw [z]; exact hb)) (Nat.lt_irrefl _)
structure Turn (P : Program) (w : World) (K : PySem.W.Frag) (tg : Expr) (J : It) (fp : List Addr) (it : Addr) (tn : Nat → Heap → Prop) : Prop where
  mem : it ∈ fp
  obj : ∀ i h, tn i h → ∀ b ∈ fp, ∃ o, h.get? b = some o ∧ ∀ v, o.data ≠ .cell v
  keep : ∀ i h h', tn i h → (∀ b ∈ fp, ∀ o, h.get? b = some o → h'.get? b = some o) → tn i h'
  item : ∀ (X : Cx), X.prog = P → X.w = w → X.K = K → X.calm = true → ∀ (i : Nat) (pins : List (Addr × Obj)) (s : Shared) (σ : St) (H : Hp) (E : Value → Shared → Prop), Inv X pins σ H s → (∀ b ∈ fp, FpOk X pins H b) → tn i s.heap → J.go i H →
    wpAny (model P w) X.A (pyNext (.ref it)) (fun r s1 => ∃ u, r = some u ∧
      wpAny (model P w) X.A (letOwnedTupleGo tg (.ref it) u) (fun _ s2 => ∃ x H', Inv X pins σ H' s2 ∧ RelV x u ∧ J.yld i H x H' ∧ tn (i + 1) s2.heap ∧ ∀ b ∈ fp, H' b = none) E s1) E s
  done : ∀ (X : Cx), X.prog = P → X.w = w → X.K = K → X.calm = true → ∀ (i : Nat) (pins : List (Addr × Obj)) (s : Shared) (σ : St) (H : Hp) (E : Value → Shared → Prop), Inv X pins σ H s → (∀ b ∈ fp, FpOk X pins H b) → tn i s.heap → J.stop i H →
    wpAny (model P w) X.A (pyNext (.ref it)) (fun r s1 => r = none ∧ Inv X pins σ H s1) E s
  self : ∀ (A : Around) (i : Nat) (s : Shared) (Q : Value → Shared → Prop) (E : Value → Shared → Prop), tn i s.heap → Q (.ref it) s → wpAny (model P w) A (pyIter (.ref it)) Q E s
abbrev TI := St → Hp → (It → Hp → Prop) → Prop
def PIE (X : Cx) (pins : List (Addr × Obj)) (σ : St) (tg : Expr) (R : It → Hp → Prop) (itv : Value) (s2 : Shared) : Prop :=
  ∃ (it : Addr) (fp : List Addr) (tn : Nat → Heap → Prop) (J : It) (H' : Hp), itv = .ref it ∧ Inv X pins σ H' s2 ∧ Turn X.prog X.w X.K tg J fp it tn ∧ tn 0 s2.heap ∧ (∀ b ∈ fp, FpOk X pins H' b) ∧ R J H'
def PI (X : Cx) (tg iter : Expr) (wi : TI) : Prop :=
  ∀ (pins : List (Addr × Obj)) (s : Shared) (σ : St) (H : Hp) (R : It → Hp → Prop), Inv X pins σ H s → wi σ H R →
    wpAny (model X.prog X.w) X.A (eval iter X.env) (fun v s1 => wpAny (model X.prog X.w) X.A (pyIter v) (PIE X pins σ tg R) X.xe s1) X.xe s
theorem go_of {M : Model} {A : Around} {E : Value → Shared → Prop} {s : Shared} {tg : Expr} {it : Addr} {u : Value} {o : Obj} {n : String} {vs : Array Value} {Q : Unit → Shared → Prop} (ho : s.heap.get? it = some o) (hc : o.cls = .type n) (hd : o.data = .fields vs)
    (hn : ["enumerate", "zip", "dict_itemiterator", "dict_reverseitemiterator", "odict_iterator", "itertools.zip_longest", "itertools.pairwise"].contains n = false) (hQ : Q () s) : wpAny M A (letOwnedTupleGo tg (.ref it) u) Q E s := by
  unfold letOwnedTupleGo
  cases tg <;> first
    | exact wpAny_pure hQ
    | (cases u <;> first
        | exact wpAny_pure hQ
        | (refine wpAny_bind (wpAny_load ho ?_)
           rw [hc, hd]
           show wpAny M A (if (["enumerate", "zip", "dict_itemiterator", "dict_reverseitemiterator", "odict_iterator", "itertools.zip_longest", "itertools.pairwise"].contains n && vs[0]? == some (rawInt _)) = true then _ else _) Q E s
           rw [if_neg (by intro h; rw [hn, Bool.false_and] at h; cases h)]
           exact wpAny_pure hQ))
def Itl (K : PySem.W.Frag) (a : Addr) : It :=
  ⟨fun i H => ∃ xs x, SqL K H a xs ∧ xs[i]? = some x, fun i H x H' => H' = H ∧ ∀ xs, SqL K H a xs → xs[i]? = some x, fun i H => ∃ xs, SqL K H a xs ∧ xs.length ≤ i⟩
def Itt (K : PySem.W.Frag) (a : Addr) : It :=
  ⟨fun i H => ∃ xs x, SqT K H a xs ∧ xs[i]? = some x, fun i H x H' => H' = H ∧ ∀ xs, SqT K H a xs → xs[i]? = some x, fun i H => ∃ xs, SqT K H a xs ∧ xs.length ≤ i⟩
def Itr (lo : Int) (n : Nat) : It := ⟨fun i _ => i < n, fun i H x H' => H' = H ∧ x = .int (lo + i), fun i _ => n ≤ i⟩
theorem turn_list {P : Program} {w : World} {K : PySem.W.Frag} {tg : Expr} (a it : Addr) : Turn P w K tg (Itl K a) [it] it (fun i h => h.IsListIter it a i) where
  mem := by simp
  obj := fun i h st b hb => by
    have e : b = it := by simpa using hb
    subst e
    obtain ⟨o, e, c, d⟩ := st
    exact ⟨o, e, fun v z => by rw [d] at z; cases z⟩
  keep := fun i h h' st k => st.at fun o e => k it (by simp) o e
  item := by
    intro X hP hw hK hc i pins s σ H E I hf st hg
    subst hP hw hK
    obtain ⟨xs, x, hq, hx⟩ := hg
    obtain ⟨its, rv, p, hz⟩ := I.list hq
    obtain ⟨u, hu, ru⟩ := rv.get hx
    obtain ⟨f0, f1, f2, f3, f4, f5⟩ := hf it (by simp)
    refine wpAny_pyNext_list_item st p.isList (x := u) (by simpa using hu) fun h' st' sb => ?_
    have I1 : Inv X pins σ H { s with heap := h' } := I.turned (t' := s.toks) (fun b o hb e => (sb.2 b hb).trans e) f0 f1 f3 f4 f5
    obtain ⟨o, e, c, d⟩ := id st'
    exact ⟨u, rfl, go_of (s := { s with heap := h' }) e c d (by decide) ⟨x, H, I1, ru, ⟨rfl, fun ys hy => by rw [I.list_inj hy hq]; exact hx⟩, st', fun b hb => (hf b hb).1⟩⟩
  done := by
    intro X hP hw hK hc i pins s σ H E I hf st hg
    subst hP hw hK
    obtain ⟨xs, hq, hx⟩ := hg
    obtain ⟨its, rv, p, hz⟩ := I.list hq
    obtain ⟨f0, f1, f2, f3, f4, f5⟩ := hf it (by simp)
    have hl := rv.length
    exact wpAny_pyNext_list_end (I.ok.hd hc) st p.isList (by simp; omega) fun h' eb => ⟨rfl, I.turned (t' := s.toks) (fun b o hb e => eb b o hb e) f0 f1 f3 f4 f5⟩
  self := fun _ _ _ _ _ st h => wpAny_pyIter_listiter st h
theorem turn_tuple {P : Program} {w : World} {K : PySem.W.Frag} {tg : Expr} (a it : Addr) : Turn P w K tg (Itt K a) [it] it (fun i h => h.IsTupleIter it a i) where
  mem := by simp
  obj := fun i h st b hb => by
    have e : b = it := by simpa using hb
    subst e
    obtain ⟨o, e, c, d⟩ := st
    exact ⟨o, e, fun v z => by rw [d] at z; cases z⟩
  keep := fun i h h' st k => st.at fun o e => k it (by simp) o e
  item := by
    intro X hP hw hK hc i pins s σ H E I hf st hg
    subst hP hw hK
    obtain ⟨xs, x, hq, hx⟩ := hg
    obtain ⟨its, rv, p, hz⟩ := I.tuple hq
    obtain ⟨u, hu, ru⟩ := rv.get hx
    obtain ⟨f0, f1, f2, f3, f4, f5⟩ := hf it (by simp)
    refine wpAny_pyNext_tuple_item st (show s.heap.IsTuple a its.toArray from p) (x := u) (by simpa using hu) fun h' st' sb => ?_
    have I1 : Inv X pins σ H { s with heap := h' } := I.turned (t' := s.toks) (fun b o hb e => (sb.2 b hb).trans e) f0 f1 f3 f4 f5
    obtain ⟨o, e, c, d⟩ := id st'
    exact ⟨u, rfl, go_of (s := { s with heap := h' }) e c d (by decide) ⟨x, H, I1, ru, ⟨rfl, fun ys hy => by rw [I.tuple_inj hy hq]; exact hx⟩, st', fun b hb => (hf b hb).1⟩⟩
  done := by
    intro X hP hw hK hc i pins s σ H E I hf st hg
    subst hP hw hK
    obtain ⟨xs, hq, hx⟩ := hg
    obtain ⟨its, rv, p, hz⟩ := I.tuple hq
    obtain ⟨f0, f1, f2, f3, f4, f5⟩ := hf it (by simp)
    have hl := rv.length
    exact wpAny_pyNext_tuple_end (I.ok.hd hc) st (show s.heap.IsTuple a its.toArray from p) (by simp; omega) fun h' eb => ⟨rfl, I.turned (t' := s.toks) (fun b o hb e => eb b o hb e) f0 f1 f3 f4 f5⟩
  self := fun _ _ _ _ _ st h => wpAny_pyIter_tupleiter st h
theorem turn_range {P : Program} {w : World} {K : PySem.W.Frag} {tg : Expr} (it : Addr) (lo : Int) (n : Nat) : Turn P w K tg (Itr lo n) [it] it (fun i h => IsRangeIter h it (lo + (i : Nat) * 1) ((n : Int) - (i : Nat)) 1) where
  mem := by simp
  obj := fun i h st b hb => by
    have e : b = it := by simpa using hb
    subst e
    exact ⟨_, st, fun v z => by
      have z' : Data.fields _ = Data.cell v := z
      cases z'⟩
  keep := fun i h h' st k => k it (by simp) _ st
  item := by
    intro X hP hw hK hc i pins s σ H E I hf st hg
    subst hP hw hK
    obtain ⟨f0, f1, f2, f3, f4, f5⟩ := hf it (by simp)
    have W := Walks.range (prog := X.prog) (w := X.w) (I.ok.hd hc) it lo 1 n
    refine W.item i s _ _ hg st fun v h' tk hv st' kk => ?_
    obtain ⟨t, rfl⟩ := hv
    have I1 : Inv X pins σ H { s with heap := h', toks := tk } := I.turned (fun b o hb e => kk b o (by simpa using hb) e) f0 f1 f3 f4 f5
    refine ⟨_, rfl, go_of (s := { s with heap := h', toks := tk }) (n := "range_iterator") st' rfl rfl (by decide) ⟨.int (lo + i), H, I1, ⟨t, ?_⟩, ⟨rfl, rfl⟩, st', fun b hb => (hf b hb).1⟩⟩
    rw [Int.mul_one]
  done := by
    intro X hP hw hK hc i pins s σ H E I hf st hg
    subst hP hw hK
    obtain ⟨f0, f1, f2, f3, f4, f5⟩ := hf it (by simp)
    exact wpAny_pyNext_range_end (I.ok.hd hc) st (by have : n ≤ i := hg; omega) fun h' eb => ⟨rfl, I.turned (t' := s.toks) (fun b o hb e => eb b o hb e) f0 f1 f3 f4 f5⟩
  self := fun _ _ _ _ _ st h => wpAny_pyIter_rangeiter st h
end L2
namespace L2
open PySem PySem.Spec PyProof.Rows
section
variable {X : Cx} {tg : Expr}
def iList (K : PySem.W.Frag) (tl : TE) : TI := fun σ H R => tl σ H fun x H1 => ∃ a, x = .ref a ∧ (∃ xs, SqL K H1 a xs) ∧ R (Itl K a) H1
def iTup (K : PySem.W.Frag) (tl : TE) : TI := fun σ H R => tl σ H fun x H1 => ∃ a, x = .ref a ∧ (∃ xs, SqT K H1 a xs) ∧ R (Itt K a) H1
theorem pi_list {l : Expr} {tl : TE} (hl : PE X l tl) : PI X tg l (iList X.K tl) := by
  intro pins s σ H R I h
  refine thn (hl pins s σ H _ I h) fun v s1 ⟨x, H1, I1, r1, q1⟩ => ?_
  obtain ⟨a, e, ⟨xs, hq⟩, q⟩ := q1
  subst e
  cases r1
  obtain ⟨its, rv, p, hz⟩ := I1.list hq
  refine wpAny_pyIter_list p.isList ?_
  refine ⟨s1.heap.objs.size, [s1.heap.objs.size], _, _, H1, rfl, I1.kept (t' := s1.toks) fun b o e => Heap.get?_push_of_some _ e, turn_list a _, ⟨_, Heap.get?_push_size _ rfl, rfl, rfl⟩, fun b hb => ?_, q⟩
  have e : b = s1.heap.objs.size := by simpa using hb
  subst e
  exact I1.fpOk (Nat.le_refl _) (I1.hok.fresh (Nat.le_refl _))
theorem pi_tup {l : Expr} {tl : TE} (hl : PE X l tl) : PI X tg l (iTup X.K tl) := by
  intro pins s σ H R I h
  refine thn (hl pins s σ H _ I h) fun v s1 ⟨x, H1, I1, r1, q1⟩ => ?_
  obtain ⟨a, e, ⟨xs, hq⟩, q⟩ := q1
  subst e
  cases r1
  obtain ⟨its, rv, p, hz⟩ := I1.tuple hq
  refine wpAny_pyIter_tuple (show s1.heap.IsTuple a its.toArray from p) ?_
  refine ⟨s1.heap.objs.size, [s1.heap.objs.size], _, _, H1, rfl, I1.kept (t' := s1.toks) fun b o e => Heap.get?_push_of_some _ e, turn_tuple a _, ⟨_, Heap.get?_push_size _ rfl, rfl, rfl⟩, fun b hb => ?_, q⟩
  have e : b = s1.heap.objs.size := by simpa using hb
  subst e
  exact I1.fpOk (Nat.le_refl _) (I1.hok.fresh (Nat.le_refl _))
theorem range_it {pins : List (Addr × Obj)} {σ : St} {H : Hp} {s : Shared} {R : It → Hp → Prop} {E : Value → Shared → Prop} {lo hi : Int} {t u v : Tok} {tk : Nat} (I : Inv X pins σ H s) (h1 : -(2 ^ 62) ≤ lo) (h2 : lo < 2 ^ 62) (h3 : -(2 ^ 62) ≤ hi) (h4 : hi < 2 ^ 62)
    (q : R (Itr lo (hi - lo).toNat) H) : wpAny (model X.prog X.w) X.A (pyIter (.ref s.heap.objs.size)) (PIE X pins σ tg R) E { s with heap := s.heap.push { cls := .type "range", data := .fields #[.int lo t, .int hi u, .int 1 v] }, toks := tk } := by
  refine wpAny_pyIter_range (IsRange.new ..) (small_one h1 h2 h3 h4) ?_
  have I1 : Inv X pins σ H { s with heap := s.heap.push { cls := .type "range", data := .fields #[.int lo t, .int hi u, .int 1 v] }, toks := tk } := I.kept fun b o e => Heap.get?_push_of_some _ e
  refine ⟨(s.heap.push { cls := .type "range", data := .fields #[.int lo t, .int hi u, .int 1 v] }).objs.size, [(s.heap.push { cls := .type "range", data := .fields #[.int lo t, .int hi u, .int 1 v] }).objs.size], _, _, H, rfl,
    I1.kept (t' := tk) fun b o e => Heap.get?_push_of_some _ e, turn_range _ lo (hi - lo).toNat, ?_, fun b hb => ?_, q⟩
  · have e1 : lo + ((0 : Nat) : Int) * 1 = lo := by simp
    have e2 : (((hi - lo).toNat : Nat) : Int) - ((0 : Nat) : Int) = Builtin.Range.rangeSize lo hi 1 := by rw [rangeSize_one]; split <;> omega
    show IsRangeIter _ _ (lo + ((0 : Nat) : Int) * 1) ((((hi - lo).toNat : Nat) : Int) - ((0 : Nat) : Int)) 1
    rw [e1, e2]
    exact Heap.get?_push_size _ rfl
  · have e : b = (s.heap.push { cls := .type "range", data := .fields #[.int lo t, .int hi u, .int 1 v] }).objs.size := by simpa using hb
    subst e
    exact I1.fpOk (Nat.le_refl _) (I1.hok.fresh (Nat.le_refl _))
def iRng1 (ta : TA) : TI := fun σ H R => ta σ H fun vs H1 => ∃ j : Int, vs = [.int j] ∧ -(2 ^ 62) ≤ j ∧ j < 2 ^ 62 ∧ R (Itr 0 j.toNat) H1
theorem pi_range1 {a : Expr} {ta : TA} {p pos : Pos} (hg : Gl X "range") (hm : X.mg "range" = none) (ha : PA X [a] ta) (hs : starEach [a] X.env = [(false, eval a X.env)] := by rfl) : PI X tg (.Call (.Name "range" p) [a] [] pos) (iRng1 ta) := by
  intro pins s σ H R I h
  refine Call_ (ld_blt I hg hm boot_range (PyProof.Rows.callWith_type1 (thn (ha pos pins s σ H _ I h) fun us s1 ⟨vs, H1, I1, r1, q1⟩ => ?_) hs rfl))
  obtain ⟨j, e, q1, q2, q⟩ := q1
  subst e
  cases r1 with
  | cons r rr =>
    cases rr
    obtain ⟨t, rfl⟩ := r
    exact call_range_1 (range_it I1 (by omega) (by omega) q1 q2 (by simpa using q))
def tFor (wi : TI) (g : TG) (tb : TS) : TS := fun D σ H => wi σ H fun J H1 => ∃ W : Nat → Nat → St → Hp → Prop, (∃ m, W 0 m σ H1) ∧ ∀ i m σ H, W i m σ H →
  (J.stop i H ∧ D.nx σ H) ∨ (J.go i H ∧ ∃ N : St → Hp → Prop, (∀ σ' H', N σ' H' → ∃ m', m' < m ∧ W (i + 1) m' σ' H') ∧ ∀ x H', J.yld i H x H' → g x σ H' fun σ2 H2 => tb { D with nx := N, ct := N, bk := D.nx } σ2 H2)
def pinsAt (fp : List Addr) (h : Heap) : List (Addr × Obj) := fp.filterMap fun b => (h.get? b).map fun o => (b, o)
theorem mem_pinsAt {fp : List Addr} {h : Heap} {b : Addr} {o : Obj} (hb : b ∈ fp) (e : h.get? b = some o) : (b, o) ∈ pinsAt fp h := List.mem_filterMap.mpr ⟨b, hb, by rw [e]; rfl⟩
theorem of_pinsAt {fp : List Addr} {h : Heap} {p : Addr × Obj} (hp : p ∈ pinsAt fp h) : p.1 ∈ fp ∧ h.get? p.1 = some p.2 := by
  obtain ⟨b, hb, e⟩ := List.mem_filterMap.mp hp
  cases q : h.get? b with
  | none => rw [q] at e; cases e
  | some o =>
    rw [q] at e
    have e' : (b, o) = p := Option.some.inj e
    subst e'
    exact ⟨hb, q⟩
theorem Inv.pinned {pins : List (Addr × Obj)} {σ : St} {H : Hp} {s : Shared} {fp : List Addr} (I : Inv X pins σ H s) (hf : ∀ b ∈ fp, FpOk X pins H b) (ho : ∀ b ∈ fp, ∃ o, s.heap.get? b = some o ∧ ∀ v, o.data ≠ .cell v) : Inv X (pins ++ pinsAt fp s.heap) σ H s :=
  I.pins_of fun p hp => (List.mem_append.mp hp).elim (fun z => I.pin p (List.mem_append_right _ z)) fun z => by
    obtain ⟨hb, e⟩ := of_pinsAt z
    obtain ⟨f0, f1, f2, _⟩ := hf p.1 hb
    obtain ⟨o, e', d⟩ := ho p.1 hb
    rw [e] at e'; cases e'
    exact ⟨e, f0, f1, f2, d⟩
theorem Inv.unpinned {pins pl : List (Addr × Obj)} {σ : St} {H : Hp} {s : Shared} (I : Inv X (pins ++ pl) σ H s) : Inv X pins σ H s := I.pins_of fun p hp => I.pin p (List.mem_append_right _ (List.mem_append_left _ hp))
theorem ps_for {iter : Expr} {body : List Stmt} {wi : TI} {g : TG} {tb : TS} {pos : Pos} (hp : PassesOwn (model X.prog X.w) X.A X.env X.xe) (hc : X.calm = true) (hi : PI X tg iter wi) (hg : PG X tg g) (hb : PSs X body tb)
    (hs : ∀ x, foldedSetIterable iter X.env x = pure x := by intro _; rfl) : PS X (.For tg iter body [] pos) (tFor wi g tb) := by
  intro pins s σ H D I h
  refine wpAny_For (thn (hi pins s σ H _ I h) fun v s1 h1 => thn h1 fun itv s2 h2 => ?_) hs
  obtain ⟨it, fp, tn, J, H2, e, I2, T, st2, f2, W, ⟨m0, w0⟩, turn⟩ := h2
  subst e
  -- what stays true of the iterator's objects through the loop
  have stat : ∀ {H' : Hp}, (∀ b ∈ fp, H' b = none) → ∀ b ∈ fp, FpOk X pins H' b := fun hn b hb => ⟨hn b hb, (f2 b hb).2⟩
  refine codeAny_forLoop_any (fun n s' => ∃ i σ' H', Inv X pins σ' H' s' ∧ tn i s'.heap ∧ (∀ b ∈ fp, H' b = none) ∧ W i n σ' H') ?_ m0 ⟨0, σ, H2, I2, st2, fun b hb => (f2 b hb).1, w0⟩
  rintro n s3 ⟨i, σ3, H3, I3, st3, fr3, w3⟩
  rcases turn i n σ3 H3 w3 with ⟨stop, qn⟩ | ⟨go, N, hN, step⟩
  · refine wpAny_passesOwn hp (thn (T.done X rfl rfl rfl hc i pins s3 σ3 H3 X.xe I3 (stat fr3) st3 stop) fun r s4 ⟨hr, I4⟩ => ?_)
    subst hr
    exact wpAny_execs_nil ⟨σ3, H3, I4, qn⟩
  · refine wpAny_passesOwn hp (thn (T.item X rfl rfl rfl hc i pins s3 σ3 H3 X.xe I3 (stat fr3) st3 go) fun r s4 ⟨u, hr, h4⟩ => ?_)
    subst hr
    refine wpAny_passesOwn hp (thn h4 fun _ s5 ⟨x, H5, I5, r5, y5, st5, fr5⟩ => ?_)
    have I5' := I5.pinned (stat fr5) (T.obj _ _ st5)
    refine wpAny_passesOwn hp (thn (hg _ s5 σ3 H5 x u _ I5' r5 (step x H5 y5)) fun _ s6 ⟨σ6, H6, I6, q6⟩ => ?_)
    refine wpAny_passesOwn hp (thn (hb _ s6 σ6 H6 _ I6 q6) fun f s7 q7 => ?_)
    have again : ∀ {σ7 : St} {H7 : Hp}, Inv X (pins ++ pinsAt fp s5.heap) σ7 H7 s7 → N σ7 H7 → ∃ m, m < n ∧ ∃ i σ' H', Inv X pins σ' H' s7 ∧ tn i s7.heap ∧ (∀ b ∈ fp, H' b = none) ∧ W i m σ' H' := fun {σ7 H7} I7 n7 => by
      obtain ⟨m', hm, w7⟩ := hN σ7 H7 n7
      refine ⟨m', hm, i + 1, σ7, H7, I7.unpinned, T.keep _ _ _ st5 fun b hb o e => (I7.pin (b, o) (List.mem_append_right _ (List.mem_append_right _ (mem_pinsAt hb e)))).1, fun b hb => ?_, w7⟩
      obtain ⟨o, e, d⟩ := T.obj _ _ st5 b hb
      exact (I7.pin (b, o) (List.mem_append_right _ (List.mem_append_right _ (mem_pinsAt hb e)))).2.1
    cases f with
    | next => obtain ⟨σ7, H7, I7, n7⟩ := q7; exact again I7 n7
    | cont => obtain ⟨σ7, H7, I7, n7⟩ := q7; exact again I7 n7
    | brk => obtain ⟨σ7, H7, I7, q7⟩ := q7; exact ⟨σ7, H7, I7.unpinned, q7⟩
    | ret v => obtain ⟨x7, σ7, H7, I7, r7, q7⟩ := q7; exact ⟨x7, σ7, H7, I7.unpinned, r7, q7⟩
end
theorem for_list {K : PySem.W.Frag} {a : Addr} {xs : List V} {g : TG} {tb : TS} {D : Ends} {σ : St} {H : Hp} (Pv : Nat → St → Hp → Prop) (h0 : Pv 0 σ H) (hl : ∀ i σ H, i ≤ xs.length → Pv i σ H → SqL K H a xs)
    (hs : ∀ i x σ H, xs[i]? = some x → Pv i σ H → g x σ H fun σ2 H2 => tb { D with nx := Pv (i + 1), ct := Pv (i + 1), bk := D.nx } σ2 H2) (hd : ∀ σ H, Pv xs.length σ H → D.nx σ H) :
    ∃ W : Nat → Nat → St → Hp → Prop, (∃ m, W 0 m σ H) ∧ ∀ i m σ H, W i m σ H →
      ((Itl K a).stop i H ∧ D.nx σ H) ∨ ((Itl K a).go i H ∧ ∃ N : St → Hp → Prop, (∀ σ' H', N σ' H' → ∃ m', m' < m ∧ W (i + 1) m' σ' H') ∧ ∀ x H', (Itl K a).yld i H x H' → g x σ H' fun σ2 H2 => tb { D with nx := N, ct := N, bk := D.nx } σ2 H2) := by
  refine ⟨fun i m σ H => m = xs.length - i ∧ i ≤ xs.length ∧ Pv i σ H, ⟨xs.length, by simp, Nat.zero_le _, h0⟩, ?_⟩
  rintro i m σ H ⟨rfl, hi, p⟩
  have q := hl i σ H hi p
  by_cases hlt : i < xs.length
  · refine .inr ⟨⟨xs, xs[i], q, by simp [hlt]⟩, Pv (i + 1), fun σ' H' p' => ⟨xs.length - (i + 1), by omega, rfl, hlt, p'⟩, fun x H' y => ?_⟩
    obtain ⟨e, y⟩ := y
    subst e
    exact hs i x σ _ (y xs q) p
  · have e : i = xs.length := by omega
    subst e
    exact .inl ⟨⟨xs, q, Nat.le_refl _⟩, hd σ H p⟩
theorem for_tup {K : PySem.W.Frag} {a : Addr} {xs : List V} {g : TG} {tb : TS} {D : Ends} {σ : St} {H : Hp} (Pv : Nat → St → Hp → Prop) (h0 : Pv 0 σ H) (hl : ∀ i σ H, i ≤ xs.length → Pv i σ H → SqT K H a xs)
    (hs : ∀ i x σ H, xs[i]? = some x → Pv i σ H → g x σ H fun σ2 H2 => tb { D with nx := Pv (i + 1), ct := Pv (i + 1), bk := D.nx } σ2 H2) (hd : ∀ σ H, Pv xs.length σ H → D.nx σ H) :
    ∃ W : Nat → Nat → St → Hp → Prop, (∃ m, W 0 m σ H) ∧ ∀ i m σ H, W i m σ H →
      ((Itt K a).stop i H ∧ D.nx σ H) ∨ ((Itt K a).go i H ∧ ∃ N : St → Hp → Prop, (∀ σ' H', N σ' H' → ∃ m', m' < m ∧ W (i + 1) m' σ' H') ∧ ∀ x H', (Itt K a).yld i H x H' → g x σ H' fun σ2 H2 => tb { D with nx := N, ct := N, bk := D.nx } σ2 H2) := by
  refine ⟨fun i m σ H => m = xs.length - i ∧ i ≤ xs.length ∧ Pv i σ H, ⟨xs.length, by simp, Nat.zero_le _, h0⟩, ?_⟩
  rintro i m σ H ⟨rfl, hi, p⟩
  have q := hl i σ H hi p
  by_cases hlt : i < xs.length
  · refine .inr ⟨⟨xs, xs[i], q, by simp [hlt]⟩, Pv (i + 1), fun σ' H' p' => ⟨xs.length - (i + 1), by omega, rfl, hlt, p'⟩, fun x H' y => ?_⟩
    obtain ⟨e, y⟩ := y
    subst e
    exact hs i x σ _ (y xs q) p
  · have e : i = xs.length := by omega
    subst e
    exact .inl ⟨⟨xs, q, Nat.le_refl _⟩, hd σ H p⟩
theorem for_range {lo : Int} {n : Nat} {g : TG} {tb : TS} {D : Ends} {σ : St} {H : Hp} (Pv : Nat → St → Hp → Prop) (h0 : Pv 0 σ H)
    (hs : ∀ i σ H, i < n → Pv i σ H → g (.int (lo + i)) σ H fun σ2 H2 => tb { D with nx := Pv (i + 1), ct := Pv (i + 1), bk := D.nx } σ2 H2) (hd : ∀ σ H, Pv n σ H → D.nx σ H) :
    ∃ W : Nat → Nat → St → Hp → Prop, (∃ m, W 0 m σ H) ∧ ∀ i m σ H, W i m σ H →
      ((Itr lo n).stop i H ∧ D.nx σ H) ∨ ((Itr lo n).go i H ∧ ∃ N : St → Hp → Prop, (∀ σ' H', N σ' H' → ∃ m', m' < m ∧ W (i + 1) m' σ' H') ∧ ∀ x H', (Itr lo n).yld i H x H' → g x σ H' fun σ2 H2 => tb { D with nx := N, ct := N, bk := D.nx } σ2 H2) := by
  refine ⟨fun i m σ H => m = n - i ∧ i ≤ n ∧ Pv i σ H, ⟨n, by simp, Nat.zero_le _, h0⟩, ?_⟩
  rintro i m σ H ⟨rfl, hi, p⟩
  by_cases hlt : i < n
  · refine .inr ⟨hlt, Pv (i + 1), fun σ' H' p' => ⟨n - (i + 1), by omega, rfl, hlt, p'⟩, fun x H' y => ?_⟩
    obtain ⟨e, y⟩ := y
    subst e y
    exact hs i σ _ hlt p
  · have e : i = n := by omega
    subst e
    exact .inl ⟨Nat.le_refl _, hd σ H p⟩
end L2
namespace L2
open PySem PySem.Spec PyProof.Rows
abbrev R2 := V → V → Hp → VK → Prop
def OpR (X : Cx) (f : Value → Value → Sem Value) (r : R2) : Prop :=
  ∀ (pins : List (Addr × Obj)) (s : Shared) (σ : St) (H : Hp) (x y : V) (v u : Value) (Q : VK), Inv X pins σ H s → RelV x v → RelV y u → r x y H Q →
    wpAny (model X.prog X.w) X.A (f v u) (EP X pins σ Q) X.xe s
def UnR (X : Cx) (f : Value → Sem Value) (r : V → Hp → VK → Prop) : Prop :=
  ∀ (pins : List (Addr × Obj)) (s : Shared) (σ : St) (H : Hp) (x : V) (v : Value) (Q : VK), Inv X pins σ H s → RelV x v → r x H Q →
    wpAny (model X.prog X.w) X.A (f v) (EP X pins σ Q) X.xe s
def CallR (X : Cx) (f : Value) (r : List V → Hp → VK → Prop) : Prop :=
  ∀ (pins : List (Addr × Obj)) (s : Shared) (σ : St) (H : Hp) (xs : List V) (us : List Value) (Q : VK), Inv X pins σ H s → Vals xs us → r xs H Q →
    wpAny (model X.prog X.w) X.A (call f us) (EP X pins σ Q) X.xe s
def tOp (r : R2) (ta tb : TE) : TE := fun σ H Q => ta σ H fun x H1 => tb σ H1 fun y H2 => r x y H2 Q
def tUn (r : V → Hp → VK → Prop) (ta : TE) : TE := fun σ H Q => ta σ H fun x H1 => r x H1 Q
def rI (C : Int → Int → Prop) (g : Int → Int → V) : R2 := fun x y H Q => ∃ i j, x = .int i ∧ y = .int j ∧ C i j ∧ Q (g i j) H
def rI0 (g : Int → Int → V) : R2 := fun x y H Q => ∃ i j, x = .int i ∧ y = .int j ∧ Q (g i j) H
def rU (g : Int → V) : V → Hp → VK → Prop := fun x H Q => ∃ i, x = .int i ∧ Q (g i) H
section
variable {X : Cx} {a b c : Expr} {ta tb tc : TE} {pos : Pos}
theorem binT (ha : PE X a ta) (hb : PE X b tb) {pins : List (Addr × Obj)} {s : Shared} {σ : St} {H : Hp} {R : V → V → Hp → Prop} (I : Inv X pins σ H s)
    (h : ta σ H fun x H1 => tb σ H1 fun y H2 => R x y H2) {Q : Value → Shared → Prop} {f : Value → Value → Sem Value}
    (hf : ∀ v u s2 x y H2, Inv X pins σ H2 s2 → RelV x v → RelV y u → R x y H2 → wpAny (model X.prog X.w) X.A (f v u) Q X.xe s2) :
    wpAny (model X.prog X.w) X.A (eval a X.env) (fun v s₁ => wpAny (model X.prog X.w) X.A (eval b X.env) (fun u s₂ => wpAny (model X.prog X.w) X.A (f v u) Q X.xe s₂) X.xe s₁) X.xe s := by
  refine thn (ha pins s σ H _ I h) fun v s1 ⟨x, H1, I1, r1, q1⟩ => ?_
  refine thn (hb pins s1 σ H1 _ I1 q1) fun u s2 ⟨y, H2, I2, r2, q2⟩ => ?_
  exact hf v u s2 x y H2 I2 r1 r2 q2
theorem pe_op {op : Operator} {r : R2} (ho : OpR X (binaryOp op) r) (ha : PE X a ta) (hb : PE X b tb) : PE X (.BinOp a op b pos) (tOp r ta tb) := by
  intro pins s σ H Q I h
  exact wpAny_BinOp (binT ha hb I h fun v u s2 x y H2 I2 rx ry q => ho pins s2 σ H2 x y v u Q I2 rx ry q)
theorem pe_un {op : UnaryOp} {r : V → Hp → VK → Prop} (ho : UnR X (unaryOp op) r) (ha : PE X a ta) : PE X (.UnaryOp op a pos) (tUn r ta) := by
  intro pins s σ H Q I h
  exact UnaryOp_ (thn (ha pins s σ H _ I h) fun v s1 ⟨x, H1, I1, r1, q1⟩ => ho pins s1 σ H1 x v Q I1 r1 q1)
theorem opI {f : Value → Value → Sem Value} {C : Int → Int → Prop} {g : Int → Int → Int}
    (rule : ∀ (i j : Int) (t u : Tok) (s : Shared) (Q : Value → Shared → Prop) (E : Value → Shared → Prop), C i j → Q (.int (g i j) s.toks) { s with toks := s.toks + 1 } → wpAny (model X.prog X.w) X.A (f (.int i t) (.int j u)) Q E s) :
    OpR X f (rI C fun i j => .int (g i j)) := by
  intro pins s σ H x y v u Q I rx ry h
  obtain ⟨i, j, rfl, rfl, hc, q⟩ := h
  obtain ⟨t, rfl⟩ := rx
  obtain ⟨t', rfl⟩ := ry
  exact rule i j t t' s _ _ hc ⟨.int (g i j), H, I.tok _, ⟨_, rfl⟩, q⟩
theorem opI0 {f : Value → Value → Sem Value} {g : Int → Int → Int}
    (rule : ∀ (i j : Int) (t u : Tok) (s : Shared) (Q : Value → Shared → Prop) (E : Value → Shared → Prop), Q (.int (g i j) s.toks) { s with toks := s.toks + 1 } → wpAny (model X.prog X.w) X.A (f (.int i t) (.int j u)) Q E s) :
    OpR X f (rI0 fun i j => .int (g i j)) := by
  intro pins s σ H x y v u Q I rx ry h
  obtain ⟨i, j, rfl, rfl, q⟩ := h
  obtain ⟨t, rfl⟩ := rx
  obtain ⟨t', rfl⟩ := ry
  exact rule i j t t' s _ _ ⟨.int (g i j), H, I.tok _, ⟨_, rfl⟩, q⟩
theorem opB0 {f : Value → Value → Sem Value} {g : Int → Int → Bool}
    (rule : ∀ (i j : Int) (t u : Tok) (s : Shared) (Q : Value → Shared → Prop) (E : Value → Shared → Prop), Q (.bool (g i j)) s → wpAny (model X.prog X.w) X.A (f (.int i t) (.int j u)) Q E s) :
    OpR X f (rI0 fun i j => .bl (g i j)) := by
  intro pins s σ H x y v u Q I rx ry h
  obtain ⟨i, j, rfl, rfl, q⟩ := h
  obtain ⟨t, rfl⟩ := rx
  obtain ⟨t', rfl⟩ := ry
  exact rule i j t t' s _ _ ⟨.bl (g i j), H, I, rfl, q⟩
def CMul (i j : Int) : Prop := (-(2 ^ 64) < i ∧ i < 2 ^ 64) ∨ (-(2 ^ 64) < j ∧ j < 2 ^ 64)
theorem CMul.ok {i j : Int} (h : CMul i j) : IntMulOk i j := by
  rcases h with ⟨h1, h2⟩ | ⟨h1, h2⟩
  · exact .of_left (intBits_le_64 h1 h2)
  · exact .of_right (intBits_le_64 h1 h2)
theorem op_add : OpR X (binaryOp .Add) (rI0 fun i j => .int (i + j)) := opI0 fun _ _ _ _ _ _ _ q => add_int q
theorem op_sub : OpR X (binaryOp .Sub) (rI0 fun i j => .int (i - j)) := opI0 fun _ _ _ _ _ _ _ q => sub_int q
theorem op_mul : OpR X (binaryOp .Mult) (rI CMul fun i j => .int (i * j)) := opI fun _ _ _ _ _ _ _ hc q => mul_int q hc.ok
theorem op_mod : OpR X (binaryOp .Mod) (rI (fun _ j => 0 < j) fun i j => .int (i % j)) := opI fun i j _ _ _ _ _ hc q => by
  have h1 : (0 : Int) < j := hc
  exact mod_int' (by omega) (by rw [Int.fmod_eq_emod_of_nonneg i (by omega)]; exact q)
theorem unI {f : Value → Sem Value} {g : Int → Int}
    (rule : ∀ (i : Int) (t : Tok) (s : Shared) (Q : Value → Shared → Prop) (E : Value → Shared → Prop), Q (.int (g i) s.toks) { s with toks := s.toks + 1 } → wpAny (model X.prog X.w) X.A (f (.int i t)) Q E s) :
    UnR X f (rU fun i => .int (g i)) := by
  intro pins s σ H x v Q I rx h
  obtain ⟨i, rfl, q⟩ := h
  obtain ⟨t, rfl⟩ := rx
  exact rule i t s _ _ ⟨.int (g i), H, I.tok _, ⟨_, rfl⟩, q⟩
theorem un_neg : UnR X (unaryOp .USub) (rU fun i => .int (-i)) := unI fun _ _ _ _ _ q => neg_int q
end
def scal : V → V → Bool
  | .non, .non => true | .non, .int _ => true | .int _, .non => true | .non, .bl _ => true | .bl _, .non => true | .non, .str _ => true | .str _, .non => true
  | .int _, .int _ => true | .bl _, .bl _ => true | .str _, .str _ => true | .byt _, .byt _ => true
  | .int _, .str _ => true | .str _, .int _ => true | .bl _, .str _ => true | .str _, .bl _ => true
  | _, _ => false
def rEq : R2 := fun x y H Q => scal x y = true ∧ Q (.bl (decide (x = y))) H
theorem dec_int {i j : Int} : decide (V.int i = V.int j) = (i == j) := by
  rw [Bool.eq_iff_iff]
  simp
theorem dec_bl {i j : Bool} : decide (V.bl i = V.bl j) = (i == j) := by
  rw [Bool.eq_iff_iff]
  simp
theorem dec_str {i j : Str} : decide (V.str i = V.str j) = (i == j) := by
  rw [Bool.eq_iff_iff]
  simp
theorem dec_byt {i j : Array UInt8} : decide (V.byt i = V.byt j) = (i.toList == j.toList) := by
  rw [Bool.eq_iff_iff]
  cases i
  cases j
  simp
section
variable {X : Cx} {a b c : Expr} {ta tb tc : TE} {pos : Pos}
theorem fin_bl {pins : List (Addr × Obj)} {σ : St} {H : Hp} {s : Shared} {Q : VK} {k k' : Bool} (I : Inv X pins σ H s) (q : Q (.bl k) H) (e : k = k') : EP X pins σ Q (.bool k') s := by
  subst e
  exact ⟨.bl k, H, I, rfl, q⟩
theorem op_eq : OpR X (compareOp .Eq) rEq := by
  intro pins s σ H x y v u Q I rx ry h
  obtain ⟨hs, q⟩ := h
  cases x with
  | non =>
    cases rx
    cases y with
    | non => cases ry; exact PySem.EqNone.eq_none_none (fin_bl I q (by simp))
    | bl j => cases ry; exact PySem.EqNone.eq_none_bool (fin_bl I q (by simp))
    | int j => obtain ⟨t', rfl⟩ := ry; exact PySem.EqNone.eq_none_int (fin_bl I q (by simp))
    | str j => obtain ⟨t', rfl⟩ := ry; exact PySem.EqNone.eq_none_str (fin_bl I q (by simp))
    | _ => exact absurd (show false = true from hs) Bool.false_ne_true
  | bl i =>
    cases rx
    cases y with
    | non => cases ry; exact PySem.EqNone.eq_bool_none (fin_bl I q (by simp))
    | bl j => cases ry; exact eq_bool (fin_bl I q dec_bl)
    | str j => obtain ⟨t', rfl⟩ := ry; exact PySem.EqMixed.eq_bool_str (fin_bl I q (by simp))
    | _ => exact absurd (show false = true from hs) Bool.false_ne_true
  | int i =>
    obtain ⟨t, rfl⟩ := rx
    cases y with
    | non => cases ry; exact PySem.EqNone.eq_int_none (fin_bl I q (by simp))
    | int j => obtain ⟨t', rfl⟩ := ry; exact eq_int (fin_bl I q dec_int)
    | str j => obtain ⟨t', rfl⟩ := ry; exact PySem.EqMixed.eq_int_str (fin_bl I q (by simp))
    | _ => exact absurd (show false = true from hs) Bool.false_ne_true
  | str i =>
    obtain ⟨t, rfl⟩ := rx
    cases y with
    | non => cases ry; exact PySem.EqNone.eq_str_none (fin_bl I q (by simp))
    | bl j => cases ry; exact PySem.EqMixed.eq_str_bool (fin_bl I q (by simp))
    | int j => obtain ⟨t', rfl⟩ := ry; exact PySem.EqMixed.eq_str_int (fin_bl I q (by simp))
    | str j => obtain ⟨t', rfl⟩ := ry; exact eq_str (fin_bl I q dec_str)
    | _ => exact absurd (show false = true from hs) Bool.false_ne_true
  | byt i =>
    obtain ⟨t, rfl⟩ := rx
    cases y with
    | byt j => obtain ⟨t', rfl⟩ := ry; exact PySem.W.eq_bytes (fin_bl I q dec_byt)
    | _ => exact absurd (show false = true from hs) Bool.false_ne_true
  | _ => cases y <;> exact absurd (show false = true from hs) Bool.false_ne_true
theorem op_lt : OpR X (compareOp .Lt) (rI0 fun i j => .bl (decide (i < j))) := opB0 fun _ _ _ _ _ _ _ q => lt_int q
theorem op_le : OpR X (compareOp .LtE) (rI0 fun i j => .bl (decide (i ≤ j))) := opB0 fun _ _ _ _ _ _ _ q => le_int q
theorem op_gt : OpR X (compareOp .Gt) (rI0 fun i j => .bl (decide (j < i))) := opB0 fun _ _ _ _ _ _ _ q => gt_int q
theorem nomark (b : Expr) {op : CmpOp} (h : op ≠ .In := by decide) (h2 : op ≠ .NotIn := by decide) : behindInMarks op b = false := by
  have e1 : (op == CmpOp.In) = false := by cases op <;> first | rfl | exact absurd rfl h
  have e2 : (op == CmpOp.NotIn) = false := by cases op <;> first | rfl | exact absurd rfl h2
  cases b <;> simp [behindInMarks, e1, e2]
theorem pe_cmpR {op : CmpOp} {r : R2} (ho : OpR X (compareOp op) r) (ha : PE X a ta) (hb : PE X b tb) (hm : behindInMarks op b = false) : PE X (.Compare a [op] [b] pos) (tOp r ta tb) := by
  intro pins s σ H Q I h
  exact wpAny_Compare1 (binT ha hb I h fun v u s2 x y H2 I2 rx ry q => ho pins s2 σ H2 x y v u Q I2 rx ry q) hm
def tTest (t : TE) : TT := fun σ H Q => t σ H fun x H' => ∃ k, x = .bl k ∧ Q k H'
theorem pt_cmpR {op : CmpOp} {r : R2} (ho : OpR X (compareOp op) r) (ha : PE X a ta) (hb : PE X b tb) (hm : behindInMarks op b = false) : PT X (.Compare a [op] [b] pos) (tTest (tOp r ta tb)) := by
  intro pins s σ H Q I h
  refine wpAny_isTrue_Compare1 (thn (ha pins s σ H _ I h) fun v s1 ⟨x, H1, I1, r1, q1⟩ => thn (hb pins s1 σ H1 _ I1 q1) fun u s2 ⟨y, H2, I2, r2, q2⟩ =>
    thn (ho pins s2 σ H2 x y v u _ I2 r1 r2 q2) fun c s3 ⟨z, H3, I3, r3, k, e, q3⟩ => ?_) hm
  subst e
  cases r3
  exact wpAny_truthy_bool ⟨H3, I3, q3⟩
def tChain (r r' : R2) (ta tb tc : TE) : TE := fun σ H Q => ta σ H fun x H1 => tb σ H1 fun y H2 => r x y H2 fun z H3 => ∃ k, z = .bl k ∧
  (if k = true then tc σ H3 fun w' H4 => r' y w' H4 Q else Q (.bl false) H3)
theorem pe_chain {op op' : CmpOp} {r r' : R2} (ho : OpR X (compareOp op) r) (ho' : OpR X (compareOp op') r') (ha : PE X a ta) (hb : PE X b tb) (hc : PE X c tc)
    (hm : lastMarks [op, op'] [b, c] = false := by with_unfolding_all rfl) : PE X (.Compare a [op, op'] [b, c] pos) (tChain r r' ta tb tc) := by
  intro pins s σ H Q I h
  refine Compare_chain (thn (ha pins s σ H _ I h) fun v s1 ⟨x, H1, I1, r1, q1⟩ => chain_link (thn (hb pins s1 σ H1 _ I1 q1) fun u s2 ⟨y, H2, I2, r2, q2⟩ =>
    thn (ho pins s2 σ H2 x y v u _ I2 r1 r2 q2) fun d s3 ⟨z, H3, I3, r3, k, e, q3⟩ => ?_)) hm
  subst e
  cases r3
  refine wpAny_truthy_bool ?_
  cases k with
  | false => exact ite_ff ⟨.bl false, H3, I3, rfl, q3⟩
  | true => exact ite_tt (chain_last (thn (hc pins s3 σ H3 _ I3 q3) fun w' s4 ⟨z', H4, I4, r4, q4⟩ => ho' pins s4 σ H4 y z' u w' Q I4 r2 r4 q4))
theorem line63 : (sizeLine : Nat) < 2 ^ 63 := by rw [sizeLine_eq]; decide
theorem vals1 {x : V} {us : List Value} (r : Vals [x] us) : ∃ u, us = [u] ∧ RelV x u := by
  cases r with
  | cons r1 r2 => cases r2; exact ⟨_, rfl, r1⟩
end
end L2
namespace L2
open PySem PySem.Spec PyProof.Rows
structure ObjM (h : Heap) (x dx C : Addr) (mA : Str → Option Value) : Prop where
  obj : h.get? x = some (PySem.W.instObj C dx)
  ns : h.Ns1 dx mA
  ne : dx ≠ x
theorem lookIn_ns {h : Heap} {dx : Addr} {mA : Str → Option Value} (n : h.Ns1 dx mA) : ∃ od, h.get? dx = some od ∧ ∀ name, PySem.W.lookIn name od = some (mA name) := by
  obtain ⟨o, es, ep, ho, hd, hk, _, hm⟩ := n
  refine ⟨o, ho, fun name => ?_⟩
  have e := hm name
  unfold nsFind findBy at e
  rw [← Array.find?_toList] at e
  unfold PySem.W.lookIn
  rw [hd]
  dsimp only
  split
  · rename_i y q
    rw [q] at e
    exact congrArg some e
  · rename_i q
    rw [q] at e
    have a : es.toList.any (·.refKey) = false := by
      rw [List.any_eq_false]
      intro y hy
      obtain ⟨z, t, hkey⟩ := hk y (Array.mem_toList_iff.mp hy)
      simp [DictEntry.refKey, hkey]
    have a' : ¬ es.toList.any (·.refKey) = true := by rw [a]; exact Bool.false_ne_true
    rw [if_neg a']
    exact congrArg some e
theorem ObjM.look {h : Heap} {x dx C : Addr} {mA : Str → Option Value} (I : ObjM h x dx C mA) : ∃ od, PySem.W.InstAt h x (PySem.W.instObj C dx) C (some od) ∧ ∀ name, PySem.W.lookIn name od = some (mA name) :=
  let ⟨od, ho, hl⟩ := lookIn_ns I.ns
  ⟨od, ⟨I.obj, rfl, rfl, ho⟩, hl⟩
section
variable {prog : Program} {w : World} {A : Around} {E : Value → Shared → Prop} {s : Shared} {K : PySem.W.Frag} {x dx C f : Addr} {mA : Str → Option Value} {name : Str} {v : Value}
end
theorem RelO.some_of {v : V} {o : Option Value} (r : RelO (some v) o) : ∃ u, o = some u ∧ RelV v u := by
  cases o with
  | none => exact (show False from r).elim
  | some u => exact ⟨u, rfl, r⟩
section
variable {P : Program} {w : World} {H H' : Hp} {h h' : Heap} {a C dx : Addr} {fs fs' : List (Str × V)}
theorem ins_get (hok : HOk P w H h) (e : H a = some (.ins C dx fs)) : ∃ mA, ObjM h a dx C mA ∧ (∀ f, RelO (fs.lookup f) (mA f)) ∧ PySem.Within mA (fs.map (·.1)) ∧ fs.length ≤ 1000 ∧ H dx = some (.own a) := by
  obtain ⟨d, z, ne, ob, mA, n, r, q⟩ := (show ObjOk P w H h a (.ins C dx fs) from hok a _ e)
  exact ⟨mA, ⟨ob, n, ne⟩, r, q, z, d⟩
end
structure Cls (K : PySem.W.Frag) (C : Addr) : Prop where
  pg : PySem.W.plainGet K C Str.empty = true
  hd : PySem.W.hasDictIn K C = true
  po : PySem.W.plainOver K C = true
  sa : PySem.W.findIn K (.ref C) "__setattr__" = some (some (.builtin "object.__setattr__"))
theorem Cls.get {K : PySem.W.Frag} {C : Addr} (c : Cls K C) (f : Str) : PySem.W.plainGet K C f = true := c.pg
section
variable {X : Cx} {pins : List (Addr × Obj)} {σ : St} {H : Hp} {s : Shared} {a C dx : Addr} {fs : List (Str × V)} {f : Str} {v : V} {A : Around} {E : Value → Shared → Prop}
end
section
variable {X : Cx} {o e value : Expr} {f : Str} {pos pos' tpos : Pos} {ta tv : TE}
end
section
variable {X : Cx} {pins : List (Addr × Obj)} {σ : St} {H : Hp} {s : Shared} {A : Around} {E : Value → Shared → Prop} {Q : Value → Shared → Prop} {c : Value} {b : Bool}
inductive TyOf (K : PySem.W.Frag) (H : Hp) : V → Value → Prop where
  | non : TyOf K H .non (.type "NoneType")
  | bl (x : Bool) : TyOf K H (.bl x) (.type "bool")
  | int (i : Int) : TyOf K H (.int i) (.type "int")
  | str (x : Str) : TyOf K H (.str x) (.type "str")
  | flt (x : UInt64) : TyOf K H (.flt x) (.type "float")
  | lst {a : Addr} {xs : List V} (e : H a = some (.lst xs)) : TyOf K H (.ref a) (.type "list")
  | frz {a : Addr} {o : Obj} {xs : List V} (e : H a = some (.frz o (.lst xs))) : TyOf K H (.ref a) (.type "list")
  | tup {a : Addr} {xs : List V} (e : H a = some (.tup xs)) : TyOf K H (.ref a) (.type "tuple")
  | dK {a : Addr} {kvs : List (Key × V)} (e : H a = some (.dK kvs)) : TyOf K H (.ref a) (.type "dict")
  | dT {a : Addr} {kvs : List (List Key × V)} (e : H a = some (.dT kvs)) : TyOf K H (.ref a) (.type "dict")
  | ins {a C dx : Addr} {fs : List (Str × V)} (e : H a = some (.ins C dx fs)) (cl : Cls K C) (ha : PySem.W.findIn K (.ref C) "__class__" = some (some (.builtin "object.__class__")))
      (hn : PySem.W.specialIn K (.builtin "object.__class__") "__get__" = some (some (.builtin "getset_descriptor.__get__"))) (htk : PySem.W.takesIn K (.builtin "object.__class__") = some true)
      (hm : PySem.W.mroIn K C (.type "object") = some true) : TyOf K H (.ref a) (.ref C)
theorem isinst_ok {x : V} {u t : Value} (I : Inv X pins σ H s) (rx : RelV x u) (ty : TyOf X.K H x t) (e : PySem.W.kitOne X.K t c = some b) (h : ∀ tk, Q (.bool b) { s with toks := tk }) :
    wpAny (model X.prog X.w) A (call (.builtin "isinstance") [u, c]) Q E s := by
  cases ty with
  | non => cases (show u = Value.none from rx); exact PySem.W.kia_one PySem.W.kitx_none I.kIn True.intro e (fun z => nomatch z) h
  | bl y => cases (show u = Value.bool y from rx); exact PySem.W.kia_one PySem.W.kitx_bool I.kIn True.intro e (fun z => nomatch z) h
  | int i => obtain ⟨t, q⟩ := (show ∃ t, u = Value.int i t from rx); cases q; exact PySem.W.kia_one PySem.W.kitx_int I.kIn True.intro e (fun z => nomatch z) h
  | str y => obtain ⟨t, q⟩ := (show ∃ t, u = Value.str y t from rx); cases q; exact PySem.W.kia_one PySem.W.kitx_str I.kIn True.intro e (fun z => nomatch z) h
  | flt y => obtain ⟨t, q⟩ := (show ∃ t, u = Value.float y t from rx); cases q; exact PySem.W.kia_one PySem.W.kitx_float I.kIn True.intro e (fun z => nomatch z) h
  | @lst a xs ea =>
    cases (show u = Value.ref a from rx)
    obtain ⟨_, _, n, _, h1⟩ := (show ObjOk X.prog X.w H s.heap a (.lst xs) from I.hok a _ ea)
    exact PySem.W.kia_one PySem.W.kitx_list I.kIn ⟨_, h1, rfl⟩ e (fun z => nomatch z) h
  | @frz a ob xs ea =>
    cases (show u = Value.ref a from rx)
    obtain ⟨_, _, _, n, _, h1⟩ := (show ObjOk X.prog X.w H s.heap a (.frz ob (.lst xs)) from I.hok a _ ea)
    exact PySem.W.kia_one PySem.W.kitx_list I.kIn ⟨_, h1, rfl⟩ e (fun z => nomatch z) h
  | @tup a xs ea =>
    cases (show u = Value.ref a from rx)
    obtain ⟨_, _, _, p⟩ := (show ObjOk X.prog X.w H s.heap a (.tup xs) from I.hok a _ ea)
    obtain ⟨o, h1, h2, _⟩ := p
    exact PySem.W.kia_one PySem.W.kitx_tuple I.kIn ⟨o, h1, h2⟩ e (fun z => nomatch z) h
  | @dK a kvs ea =>
    cases (show u = Value.ref a from rx)
    obtain ⟨_, _, vs, _, p⟩ := (show ObjOk X.prog X.w H s.heap a (.dK kvs) from I.hok a _ ea)
    obtain ⟨o, es, ep, h1, h2, _⟩ := p
    exact PySem.W.kia_one PySem.W.kitx_dict I.kIn ⟨o, h1, h2.1⟩ e (fun z => nomatch z) h
  | @dT a kvs ea =>
    cases (show u = Value.ref a from rx)
    obtain ⟨_, _, xs, _, o, es, ep, h1, h2, _⟩ := (show ObjOk X.prog X.w H s.heap a (.dT kvs) from I.hok a _ ea)
    exact PySem.W.kia_one PySem.W.kitx_dict I.kIn ⟨o, h1, h2.1⟩ e (fun z => nomatch z) h
  | @ins a C dx fs ea cl ha hn htk hm =>
    cases (show u = Value.ref a from rx)
    obtain ⟨mA, O, _⟩ := ins_get I.hok ea
    obtain ⟨od, J, _⟩ := O.look
    exact PySem.W.kia_one (PySem.W.kitx_own (cl.get _) cl.hd ha hn htk hm) I.kIn J e (fun z => nomatch z) h
end
end L2
namespace L2
open PySem PySem.Spec PyProof.Rows
structure Room (k : Nat) (A : Around) : Prop where
  hd : A.handled = none
  dp : A.depth + 3 * k + 5 < recursionLimit
  un : A.units + 16 * k + 200 < cLine
theorem Room.mono {j k : Nat} {A : Around} (r : Room k A) (h : j ≤ k) : Room j A := ⟨r.hd, by have := r.dp; omega, by have := r.un; omega⟩
theorem Room.deeper {k : Nat} {A : Around} (r : Room (k + 1) A) (env : Env) : Room k (A.deeper env) :=
  ⟨r.hd, by have := r.dp; show A.depth + 1 + 3 * k + 5 < _; omega, by have := r.un; show A.units + 3 + 16 * k + 200 < _; omega⟩
theorem Room.depth {k : Nat} {A : Around} (r : Room k A) : A.depth < recursionLimit := by have := r.dp; omega
theorem Room.units {k : Nat} {A : Around} (r : Room k A) : A.units + 64 < cLine := by have := r.un; omega
def tNil : TA := fun _ H Q => Q [] H
def tCons (ta : TE) (tr : TA) : TA := fun σ H Q => ta σ H fun x H1 => tr σ H1 fun xs H2 => Q (x :: xs) H2
section
variable {X : Cx} {e : Expr} {es : List Expr} {te : TE} {t : TA} {pos : Pos}
theorem pa_nil : PA X [] tNil := fun _ _ _ _ H Q I h => Calls.spliced_nil ⟨[], H, I, .nil, h⟩
theorem pa_cons (ha : PE X e te) (hr : PA X es t) (hs : starEach (e :: es) X.env = (false, eval e X.env) :: starEach es X.env := by rfl) : PA X (e :: es) (tCons te t) := by
  intro pos pins s σ H Q I h
  rw [hs]
  show wpAny _ _ (spliced ((false, eval e X.env) :: backTo pos (starEach es X.env))) _ _ s
  refine Calls.spliced_cons (thn (ha pins s σ H _ I h) fun u s1 ⟨x, H1, I1, r1, q1⟩ => ?_)
  exact thn (hr pos pins s1 σ H1 _ I1 q1) fun us s2 ⟨xs, H2, I2, r2, q2⟩ => ⟨x :: xs, H2, I2, .cons r1 r2, q2⟩
def tTup (t : TA) : TE := fun σ H Q => t σ H fun xs H1 => xs.length ≤ sizeLine ∧ ∀ p, H1 p = none → Q (.ref p) (upd H1 p (.tup xs))
def tLst (t : TA) : TE := fun σ H Q => t σ H fun xs H1 => xs.length ≤ sizeLine ∧ ∀ p, H1 p = none → Q (.ref p) (upd H1 p (.lst xs))
theorem pe_tup {x1} (h : PA X es t) : PE X (.Tuple es x1 pos) (tTup t) := by
  intro pins s σ H Q I hq
  refine wpAny_Tuple_spliced (thn (h pos pins s σ H _ I hq) fun us s1 ⟨xs, H1, I1, r, z, q⟩ => ⟨by rw [← r.length]; exact z, ?_⟩)
  have hf : H1 s1.heap.objs.size = none := I1.hok.fresh (Nat.le_refl _)
  refine ⟨.ref s1.heap.objs.size, upd H1 s1.heap.objs.size (.tup xs), I1.laid (t' := s1.toks) (fun b u e => Heap.get?_push_of_some _ e) (Nat.le_refl _) ?_, rfl, q _ hf⟩
  exact ⟨z, us, r, ⟨_, Heap.get?_push_size _ rfl, rfl, _, rfl⟩⟩
theorem pe_lst (h : PA X es t) : PE X (.List es pos) (tLst t) := by
  intro pins s σ H Q I hq
  refine wpAny_List_spliced (thn (h pos pins s σ H _ I hq) fun us s1 ⟨xs, H1, I1, r, z, q⟩ => ⟨by rw [← r.length]; exact z, ?_⟩)
  have hf : H1 s1.heap.objs.size = none := I1.hok.fresh (Nat.le_refl _)
  refine ⟨.ref s1.heap.objs.size, upd H1 s1.heap.objs.size (.lst xs), I1.laid (t' := s1.toks) (fun b u e => Heap.get?_push_of_some _ e) (Nat.le_refl _) ?_, rfl, q _ hf⟩
  exact ⟨z, us, 0, r, Heap.get?_push_size _ rfl⟩
end
abbrev Sp := List V → Hp → VK → XK → Prop
abbrev CXT := List Env → Hp → Shared → XK → Value → Shared → Prop
structure Env0 (P : Program) (w : World) (K : PySem.W.Frag) (mg : Str → Option Value) (base : Heap) (A : Around) (outer : List Env) (s : Shared) (H : Hp) : Prop where
  frames : A.frames = some outer
  mod : Mod K mg base
  bs : ∀ b o, base.get? b = some o → s.heap.get? b = some o ∧ H b = none
  bsz : base.objs.size ≤ s.heap.objs.size
  funs : s.heap.FunFrames base outer
  frf : ∀ b ∈ frs outer, H b = none
  hok : HOk P w H s.heap
  bare : AllBare s.gens
def CE (outer : List Env) (P : Program) (w : World) (H : Hp) (s : Shared) (Q : VK) (u : Value) (s' : Shared) : Prop :=
  ∃ v H', s'.os = s.os ∧ AllBare s'.gens ∧ Un (frs outer) [] H H' s.heap s'.heap ∧ HOk P w H' s'.heap ∧ RelV v u ∧ Q v H'
def CR (CX : CXT) (outer : List Env) (P : Program) (w : World) (H : Hp) (s : Shared) (Q : VK) (E : XK) (r : Result) (s' : Shared) : Prop :=
  match r with
  | .ok (.ret u) => CE outer P w H s Q u s'
  | .ok _ => False
  | .error e => CX outer H s E e s'
structure FnOk (P : Program) (w : World) (K : PySem.W.Frag) (mg : Str → Option Value) (base : Heap) (CX : CXT) (k : Nat) (f : Addr) (fd : FuncData) (ps : List Str) (sp : Sp) : Prop where
  len : ∀ vs H Q E, sp vs H Q E → vs.length = ps.length
  run : ∀ (A : Around) (outer : List Env) (s : Shared) (H : Hp) (args : Args) (us : List Value) (vs : List V) (Q : VK) (E : XK), Room k A → Env0 P w K mg base A outer s H → BindsTo s fd args (ps.zip us) → Vals vs us → sp vs H Q E →
    codeAny (model P w) A (.call (.ref f) args) (CR CX outer P w H s Q E) s
theorem FnOk.imp {P : Program} {w : World} {K : PySem.W.Frag} {mg : Str → Option Value} {base : Heap} {CX : CXT} {k : Nat} {f : Addr} {fd : FuncData} {ps : List Str} {sp sp' : Sp} (F : FnOk P w K mg base CX k f fd ps sp)
    (h : ∀ vs H Q E, sp' vs H Q E → sp vs H Q E) : FnOk P w K mg base CX k f fd ps sp' :=
  ⟨fun vs H Q E q => F.len vs H Q E (h _ _ _ _ q), fun A outer s H args us vs Q E hr he hb hv hs => F.run A outer s H args us vs Q E hr he hb hv (h _ _ _ _ hs)⟩
section
variable {X : Cx} {pins : List (Addr × Obj)} {σ : St} {H : Hp} {s s' : Shared}
theorem Inv.env0 (I : Inv X pins σ H s) : Env0 X.prog X.w X.K X.mg X.base X.A X.stack s H :=
  ⟨I.ok.frames, I.ok.mod, I.bs, Nat.le_trans I.ok.bsz I.sz, I.stack, I.stkFree, I.hok, I.bare⟩
theorem Inv.after {Q : VK} {u : Value} (I : Inv X pins σ H s) (h : CE X.stack X.prog X.w H s Q u s') : EP X pins σ Q u s' := by
  obtain ⟨v, H', os, bare, un, hok, r, q⟩ := h
  obtain ⟨hh, g, d, t, os'⟩ := s'
  obtain rfl : os' = s.os := os
  exact ⟨v, H', I.call (h' := hh) (g' := g) (d' := d) (t' := t) (ch := []) un hok bare (fun b z => absurd z (by simp)), r, q⟩
end
def tCall (sp : Sp) (dvs : List V) (E : XK) (t : TA) : TE := fun σ H Q => t σ H fun vs H1 => sp (vs ++ dvs) H1 Q E
def Binds (K : PySem.W.Frag) (fd : FuncData) (ps : List Str) (ds : List Value) : Prop :=
  ∀ (s : Shared) (us : List Value), K.In s.heap → (us ++ ds).length = ps.length → BindsTo s fd ⟨us, []⟩ (ps.zip (us ++ ds))
theorem Binds.all {K : PySem.W.Frag} {fd : FuncData} {ps : List Str} (h : ∀ us : List Value, us.length = ps.length → bindArgs fd ⟨us, []⟩ = pure (ps.zip us)) : Binds K fd ps [] := fun s us _ hl => by
  rw [List.append_nil] at hl ⊢
  exact .of_eq (h us hl)
def Passes (CX : CXT) (X : Cx) (E : XK) : Prop := ∀ (pins : List (Addr × Obj)) (σ : St) (H : Hp) (s : Shared) (e : Value) (s' : Shared), Inv X pins σ H s → CX X.stack H s E e s' → X.xe e s'
section
variable {X : Cx} {CX : CXT} {k : Nat} {f C : Addr} {fd : FuncData} {ps : List Str} {sp : Sp} {dvs : List V} {ds : List Value} {E : XK} {x m : Str} {p pos apos : Pos} {e o : Expr} {es : List Expr} {ta : TE} {t : TA}
theorem run_fn {pins : List (Addr × Obj)} {σ : St} {H : Hp} {s : Shared} {Q : VK} {us : List Value} {vs : List V} (F : FnOk X.prog X.w X.K X.mg X.base CX k f fd ps sp) (hr : Room k X.A) (hb : Binds X.K fd ps ds) (hd : Vals dvs ds) (hx : Passes CX X E)
    (I : Inv X pins σ H s) (r : Vals vs us) (h : sp (vs ++ dvs) H Q E) : wpAny (model X.prog X.w) X.A (call (.ref f) us) (EP X pins σ Q) X.xe s := by
  have r2 : Vals (vs ++ dvs) (us ++ ds) := r.append hd
  have hl : (us ++ ds).length = ps.length := by rw [← r2.length]; exact F.len _ _ _ _ h
  refine wpAny_call (codeAny_mono (F.run X.A X.stack s H ⟨us, []⟩ (us ++ ds) (vs ++ dvs) Q E hr I.env0 (hb s us I.kIn hl) r2 h) fun r s' hq => ?_)
  cases r with
  | error e => exact hx pins σ H s e s' I hq
  | ok fl =>
    cases fl with
    | ret u => exact I.after hq
    | next => exact False.elim hq
    | brk => exact False.elim hq
    | cont => exact False.elim hq
theorem pe_call (F : FnOk X.prog X.w X.K X.mg X.base CX k f fd ps sp) (hr : Room k X.A) (hg : Gl X x) (hm : X.mg x = some (.ref f)) (hk : PySem.W.keepIn X.K (.ref f) = true) (hb : Binds X.K fd ps ds) (hd : Vals dvs ds) (hx : Passes CX X E)
    (ha : PA X (e :: es) t) (hdb : (x == ("__debug__" : Str)) = false := by decide) (he : starEach (e :: es) X.env = (false, eval e X.env) :: starEach es X.env := by rfl) (hpl : (backTo pos (starEach es X.env)).any (·.1) = false := by rfl) :
    PE X (.Call (.Name x p) (e :: es) [] pos) (tCall sp dvs E t) := by
  intro pins s σ H Q I h
  refine wpAny_Call_Name_kw (ld_glob I hg hm ?_ hdb)
  refine PySem.W.callWith_K (h₀ := X.base) I.ok.mod.kin hk (thn (ha pos pins s σ H _ I h) fun us s1 ⟨vs, H1, I1, r, q⟩ => ⟨I1.kIn, ?_⟩) he hpl
  exact run_fn F hr hb hd hx I1 r q
end
def PK (X : Cx) (kws : List Keyword) (t : TA) : Prop :=
  ∀ (pos : Pos) (pins : List (Addr × Obj)) (s : Shared) (σ : St) (H : Hp) (Q : List V → Hp → Prop), Inv X pins σ H s → t σ H Q → wpAny (model X.prog X.w) X.A (evalAll ((backToKw pos (keywordEach kws X.env)).map (·.2))) (AP X pins σ Q) X.xe s
section
variable {X : Cx} {CX : CXT} {k : Nat} {f C : Addr} {fd : FuncData} {ps ks : List Str} {sp : Sp} {E : XK} {x m : Str} {p pos apos kpos : Pos} {e o : Expr} {es : List Expr} {kws : List Keyword} {te ta : TE} {t tk : TA} {nm : Option Str}
theorem pk_nil : PK X [] tNil := fun _ _ _ _ H Q I h => wpAny_evalAll_nil ⟨[], H, I, .nil, h⟩
theorem pk_cons (ha : PE X e te) (hr : PK X kws t) : PK X (⟨nm, e, kpos⟩ :: kws) (tCons te t) := by
  intro pos pins s σ H Q I h
  show wpAny _ _ (evalAll ((do let v ← eval e X.env; standAt pos; pure v) :: (backToKw pos (keywordEach kws X.env)).map (·.2))) _ _ s
  refine wpAny_evalAll_cons (wpAny_bind (thn (ha pins s σ H _ I h) fun u s1 ⟨x, H1, I1, r1, q1⟩ => wpAny_bind (wpAny_standAt (wpAny_pure ?_))))
  exact thn (hr pos pins s1 σ H1 _ I1 q1) fun us s2 ⟨xs, H2, I2, r2, q2⟩ => ⟨x :: xs, H2, I2, .cons r1 r2, q2⟩
variable {g : List Value → List Value → List Value} {gV : List V → List V → List V}
end
structure FnScope (N P : List Str) (sc : Scope) : Prop where
  kind : sc.kind = .function
  co : sc.isCoroutine = false
  gen : sc.isGenerator = false
  nd : N.Nodup
  pre : N.take P.length = P
  par : ∀ x ∈ P, sc.names.lookup x = some .local ∨ sc.names.lookup x = some .cell
  nofree : ∀ y ∈ sc.names, y.2 ≠ .free
theorem bindL_out {kindOf : Str → Option NameKind} {x : Str} : ∀ {binds : List (Str × Value)} {m : Str → Option Value}, (∀ v, (x, v) ∉ binds) → bindL kindOf binds m x = m x
  | [], _, _ => rfl
  | (n, v) :: r, m, h => by
    unfold bindL
    rw [bindL_out fun w hw => h w (List.mem_cons_of_mem _ hw)]
    split
    · have : x ≠ n := by rintro rfl; exact h v List.mem_cons_self
      simp [this]
    · rfl
theorem bindC_out {kindOf : Str → Option NameKind} {x : Str} : ∀ {binds : List (Str × Value)} {m : Str → Option Value}, (∀ v, (x, v) ∉ binds) → bindC kindOf binds m x = m x
  | [], _, _ => rfl
  | (n, v) :: r, m, h => by
    unfold bindC
    rw [bindC_out fun w hw => h w (List.mem_cons_of_mem _ hw)]
    split
    · rfl
    · have : x ≠ n := by rintro rfl; exact h v List.mem_cons_self
      simp [this]
theorem bindL_get {kindOf : Str → Option NameKind} {x : Str} {v : Value} : ∀ {P : List Str} {vs : List Value} {i : Nat} {m : Str → Option Value}, P.Nodup → P[i]? = some x → vs[i]? = some v → kindOf x = some .local →
    bindL kindOf (P.zip vs) m x = some v
  | [], _, _, _, _, h, _, _ => by simp at h
  | _ :: _, [], _, _, _, _, h, _ => by simp at h
  | p :: P, w :: vs, 0, m, nd, h1, h2, hk => by
    simp at h1 h2; subst h1; subst h2
    show bindL kindOf ((p, w) :: P.zip vs) m p = _
    unfold bindL
    rw [bindL_out fun v hv => (List.nodup_cons.mp nd).1 (List.of_mem_zip hv).1, if_pos hk]
    simp
  | p :: P, w :: vs, i + 1, m, nd, h1, h2, hk => by
    show bindL kindOf ((p, w) :: P.zip vs) m x = _
    unfold bindL
    exact bindL_get (i := i) (List.nodup_cons.mp nd).2 (by simpa using h1) (by simpa using h2) hk
theorem bindC_get {kindOf : Str → Option NameKind} {x : Str} {v : Value} : ∀ {P : List Str} {vs : List Value} {i : Nat} {m : Str → Option Value}, P.Nodup → P[i]? = some x → vs[i]? = some v → kindOf x ≠ some .local →
    bindC kindOf (P.zip vs) m x = some v
  | [], _, _, _, _, h, _, _ => by simp at h
  | _ :: _, [], _, _, _, _, h, _ => by simp at h
  | p :: P, w :: vs, 0, m, nd, h1, h2, hk => by
    simp at h1 h2; subst h1; subst h2
    show bindC kindOf ((p, w) :: P.zip vs) m p = _
    unfold bindC
    rw [bindC_out fun v hv => (List.nodup_cons.mp nd).1 (List.of_mem_zip hv).1, if_neg hk]
    simp
  | p :: P, w :: vs, i + 1, m, nd, h1, h2, hk => by
    show bindC kindOf ((p, w) :: P.zip vs) m x = _
    unfold bindC
    exact bindC_get (i := i) (List.nodup_cons.mp nd).2 (by simpa using h1) (by simpa using h2) hk
def start (N : List Str) (vs : List V) : St := vs.map some ++ List.replicate (N.length - vs.length) none
def cxOf (CX : CXT) (P : Program) (w : World) (K : PySem.W.Frag) (mg : Str → Option Value) (base : Heap) (N : List Str) (qual : Str) (scope : Scope) (f : Addr) (cd : Value) (A : Around) (outer : List Env) (s : Shared) (H : Hp) (E : XK) : Cx where
  prog := P
  w := w
  K := K
  mg := mg
  base := base
  A := A.deeper (envOfC qual scope s.heap.objs.size f cd)
  N := N
  s₀ := s
  H₀ := H
  env := envOfC qual scope s.heap.objs.size f cd
  outer := outer
  stack := envOfC qual scope s.heap.objs.size f cd :: outer
  ex := []
  calm := true
  fn := fun _ => true
  pn := []
  xe := fun e s' => wpAny (model P w) (A.deeper (envOfC qual scope s.heap.objs.size f cd)) (leaving (envOfC qual scope s.heap.objs.size f cd) e) (fun _ s'' => CX outer H s E e s'') (fun e' s'' => CX outer H s E e' s'') s'
theorem cell_has {sc : Scope} {n : Nat} {x : Str} (h : sc.names.lookup x = some .cell) : ∃ c, (cellsFrom n sc.names []).lookup x = some c := by
  have q := PySem.W.cellsFrom_some sc.names n [] (.inl h)
  exact Option.isSome_iff_exists.mp q
theorem inv_start {CX : CXT} {P : Program} {w : World} {K : PySem.W.Frag} {mg : Str → Option Value} {base : Heap} {N ps : List Str} {qual : Str} {scope : Scope} {f : Addr} {cd : Value} {A : Around} {outer : List Env} {s s1 : Shared} {H : Hp} {E : XK} {us : List Value} {vs : List V}
    (S : FnScope N ps scope) (hd : A.handled = none) (e0 : Env0 P w K mg base A outer s H) (hl : vs.length = ps.length) (r : Vals vs us)
    (x : InCallC s s.heap.objs.size (bindL (envOfC qual scope s.heap.objs.size f cd).kindOf (ps.zip us) fun _ => none) (cellsFrom (s.heap.objs.size + 1) scope.names []) (bindC (envOfC qual scope s.heap.objs.size f cd).kindOf (ps.zip us) fun _ => none) s1) :
    Inv (cxOf CX P w K mg base N qual scope f cd A outer s H E) [] (start N vs) H s1 := by
  have hpl : ps.length ≤ N.length := by have := congrArg List.length S.pre; rw [List.length_take] at this; omega
  obtain ⟨h1, tk, rfl, hk⟩ := x.done
  have noA : ∀ b : Addr, b ∉ (cxOf CX P w K mg base N qual scope f cd A outer s H E).ex := fun b z => absurd (show b ∈ ([] : List Addr) from z) (by simp)
  refine ⟨⟨e0.mod, S.kind, rfl, rfl, Nat.le_refl _, fun y z c h1 h2 => ?_, fun y hy => ?_, fun y c _ h => ?_, fun _ => hd, Around.frames_deeper e0.frames, .inr ⟨rfl, rfl⟩, fun b z => absurd z (noA b), e0.bs, e0.bsz, fun b _ _ => noA b, fun b z => absurd z (noA b), e0.funs, e0.frf⟩,
    rfl, e0.bare, Un.kept hk, ⟨_, x.toInCall.ns, fun i y v h1 h2 h3 => ?_⟩, fun y c h => ⟨_, x.cell y c h⟩, e0.hok.fresh (Nat.le_refl _), fun y c h => ?_, fun p hp => absurd (show p ∈ ([] : List (Addr × Obj)) from hp) (by simp), e0.hok.kept hk, ?_⟩
  · exact name_of_addr x.apart (PySem.mem_of_lookup h1) (PySem.mem_of_lookup h2)
  · have hy : scope.names.lookup y = some .cell ∨ scope.names.lookup y = some .free := hy
    rcases hy with hy | hy
    · exact cell_has hy
    · exact absurd rfl (S.nofree _ (PySem.mem_of_lookup hy))
  · exact Nat.le_of_lt (x.above y c (PySem.mem_of_lookup h))
  · have hi : i < vs.length := by
      unfold start at h2
      by_cases hi : i < vs.length
      · exact hi
      · rw [List.getElem?_append_right (by simpa using hi)] at h2
        rw [List.getElem?_replicate] at h2
        split at h2 <;> cases h2
    have ha : vs[i]? = some v := by
      unfold start at h2
      rw [List.getElem?_append_left (by simpa using hi), List.getElem?_map] at h2
      cases e : vs[i]? with
      | none => rw [e] at h2; cases h2
      | some a => rw [e] at h2; cases h2; rfl
    obtain ⟨u, hu, rv⟩ := r.get ha
    have hp : ps[i]? = some y := by
      rw [← S.pre, List.getElem?_take_of_lt (by omega)]; exact h1
    have ndP : ps.Nodup := by rw [← S.pre]; exact S.nd.sublist (List.take_sublist _ _)
    refine ⟨u, rv, ?_⟩
    rcases S.par y (List.mem_of_getElem? hp) with k | k
    · exact .inl ⟨k, bindL_get ndP hp hu k⟩
    · obtain ⟨c, e⟩ := cell_has (n := s.heap.objs.size + 1) k
      refine .inr ⟨.inl k, c, e, ?_⟩
      have q := x.cell y c e
      rw [bindC_get ndP hp hu (by show scope.names.lookup y ≠ _; rw [k]; decide)] at q
      exact q
  · exact e0.hok.fresh (Nat.le_of_lt (x.above y c (PySem.mem_of_lookup h)))
  · unfold start
    show _ = N.length
    rw [List.length_append, List.length_map, List.length_replicate]
    omega
theorem fn_of {CX : CXT} {P : Program} {w : World} {K : PySem.W.Frag} {mg : Str → Option Value} {base : Heap} {k : Nat} {f : Addr} {name qual : Str} {params : Arguments} {body : List Stmt} {scope : Scope} {dV kV doc pm cdv ct oc : Value} {an od : Option Addr}
    {osl : Array (Option Value)} {N ps : List Str} {sp : Sp} (lk : K.lookup f = some ⟨oc, od, .func (PySem.W.fnOf name qual params body scope dV kV doc pm an cdv ct), osl⟩) (hcd : PySem.W.codeIn K cdv qual = true) (S : FnScope N ps scope)
    (len : ∀ vs H Q E, sp vs H Q E → vs.length = ps.length)
    (hbody : ∀ (A : Around) (outer : List Env) (s : Shared) (H : Hp) (vs : List V) (Q : VK) (E : XK), Room k (A.deeper (envOfC qual scope s.heap.objs.size f cdv)) → sp vs H Q E →
      ∃ t, PSs (cxOf CX P w K mg base N qual scope f cdv A outer s H E) body t ∧ t { nx := fun _ H' => Q .non H', rt := Q } (start N vs) H) :
    FnOk P w K mg base CX (k + 1) f (PySem.W.fnOf name qual params body scope dV kV doc pm an cdv ct) ps sp := by
  refine ⟨len, fun A outer s H args us vs Q E hr e0 hb r hsp => ?_⟩
  have hl := len _ _ _ _ hsp
  have KX : K.In s.heap := e0.mod.kin.keeps fun b o e => (e0.bs b o e).1
  have lim : s.heap.NoLimit := e0.mod.nolimit.keeps fun b o e => (e0.bs b o e).1
  have hkind : ∀ y ∈ ps.zip us, scope.names.lookup y.1 = some .local ∨ (scope.names.lookup y.1 = some .cell ∧ ((cellsFrom (s.heap.objs.size + 1) scope.names []).lookup y.1).isSome = true) := fun ⟨n, v⟩ hy => by
    rcases S.par n (List.of_mem_zip hy).1 with q | q
    · exact .inl q
    · exact .inr ⟨q, PySem.W.cellsFrom_some _ _ _ (.inl q)⟩
  refine codeAny_call_function hr.depth (KX _ _ lk) rfl S.co S.gen rfl (PySem.W.codeRec_of KX hcd) (hb _ _ _ _ ?_)
  refine wpAny_newFunctionEnv_cells S.kind hkind fun env he s1 x => ?_
  subst he
  refine ⟨lim.keeps x.toInCall.keep, codeAny_func ?_⟩
  obtain ⟨t, ht, hq⟩ := hbody A outer s H vs Q E (hr.deeper _) hsp
  have I : Inv (cxOf CX P w K mg base N qual scope f cdv A outer s H E) [] (start N vs) H s1 := inv_start S hr.hd e0 hl r x
  refine wpAny_mono (ht [] s1 (start N vs) H _ I hq) (fun fl s' hs => ?_) fun e s' hs => hs
  have fin : ∀ {σ' : St} {H' : Hp} {v : V} {u : Value}, Inv (cxOf CX P w K mg base N qual scope f cdv A outer s H E) [] σ' H' s' → RelV v u → Q v H' → CE outer P w H s Q u s' :=
    fun {σ' H' v u} J rv q => ⟨v, H', J.os, J.bare, J.base, J.hok, rv, q⟩
  cases fl with
  | ret u =>
    obtain ⟨v, σ', H', J, rv, q⟩ := hs
    exact fin J rv q
  | next =>
    obtain ⟨σ', H', J, q⟩ := hs
    exact fin (v := V.non) (u := Value.none) J rfl q
  | brk =>
    obtain ⟨_, _, _, q⟩ := hs
    exact False.elim q
  | cont =>
    obtain ⟨_, _, _, q⟩ := hs
    exact False.elim q
end L2
namespace L2
open PySem PySem.Spec PyProof.Rows
section
variable {X : Cx} {x : Str} {p pos : Pos} {e : Expr} {es : List Expr} {t : TA} {id T : String} {r : List V → Hp → VK → Prop}
def tCB (r : List V → Hp → VK → Prop) (t : TA) : TE := fun σ H Q => t σ H fun vs H1 => r vs H1 Q
theorem pe_callB (hc : CallR X (.builtin id) r) (hg : Gl X x) (hm : X.mg x = none) (hv : bootBuiltins x = some (.builtin id)) (ha : PA X (e :: es) t) (hn : x ≠ "__name__" := by decide) (hdb : (x == ("__debug__" : Str)) = false := by decide)
    (he : starEach (e :: es) X.env = (false, eval e X.env) :: starEach es X.env := by rfl) (hpl : (backTo pos (starEach es X.env)).any (·.1) = false := by rfl) : PE X (.Call (.Name x p) (e :: es) [] pos) (tCB r t) := by
  intro pins s σ H Q I h
  refine wpAny_Call_Name_kw (ld_blt I hg hm hv ?_ hn hdb)
  exact PyProof.Rows.callWith_builtin1 (thn (ha pos pins s σ H _ I h) fun us s1 ⟨vs, H1, I1, r1, q1⟩ => hc pins s1 σ H1 vs us Q I1 r1 q1) he hpl
theorem pe_callTy (hc : CallR X (.type T) r) (hg : Gl X x) (hm : X.mg x = none) (hv : bootBuiltins x = some (.type T)) (ha : PA X (e :: es) t) (hn : x ≠ "__name__" := by decide) (hdb : (x == ("__debug__" : Str)) = false := by decide)
    (he : starEach (e :: es) X.env = (false, eval e X.env) :: starEach es X.env := by rfl) (hpl : (backTo pos (starEach es X.env)).any (·.1) = false := by rfl) : PE X (.Call (.Name x p) (e :: es) [] pos) (tCB r t) := by
  intro pins s σ H Q I h
  refine wpAny_Call_Name_kw (ld_blt I hg hm hv ?_ hn hdb)
  exact PyProof.Rows.callWith_type1 (thn (ha pos pins s σ H _ I h) fun us s1 ⟨vs, H1, I1, r1, q1⟩ => hc pins s1 σ H1 vs us Q I1 r1 q1) he hpl
end
end L2
namespace HT
open PySem PyProof.Rows
section
open PySem.SeqAt
open PySem.AutoSeq1 (wpAny_loadPart')
open PySem.MeetsSeq PySem.MeetsSeq2 PySem.MeetsSeq3
end
section
variable {prog : Program} {w : World} {A : Around} {E : Value → Shared → Prop} {s : Shared}
def sIx (n d : Nat) : Option Int → Nat
  | none => d
  | some v => if v < 0 then (v + (n : Int)).toNat else min v.toNat n
end
end HT
namespace L2
open PySem PySem.Spec PyProof.Rows
section
variable {X : Cx} {e : Expr} {te : TE} {lo hi : Option Expr} {tl th : TO} {pos p2 : Pos}
def SlR (X : Cx) (r : V → Option Int → Option Int → Hp → VK → Prop) : Prop :=
  ∀ (pins : List (Addr × Obj)) (s : Shared) (σ : St) (H : Hp) (x : V) (v vl vu : Value) (lo hi : Option Int) (sl : Addr) (Q : VK), Inv X pins σ H s → RelV x v → s.heap.IsSliceOf sl vl vu .none → IsPart vl lo → IsPart vu hi → r x lo hi H Q →
    ∃ T id, typeLookup (.type T) "__getitem__" = pure (some (.builtin id)) ∧ s.TypeIs v T ∧ wpAny (model X.prog X.w) X.A (getItem v (.ref sl)) (EP X pins σ Q) X.xe s
def cutV (xs : List V) (lo hi : Option Int) : List V := (xs.drop (HT.sIx xs.length 0 lo)).take (HT.sIx xs.length xs.length hi - HT.sIx xs.length 0 lo)
theorem cutV_length (xs : List V) (lo hi : Option Int) : (cutV xs lo hi).length ≤ xs.length := by
  unfold cutV
  rw [List.length_take, List.length_drop]
  omega
end
end L2
namespace L2
open PySem PySem.Spec PyProof.Rows
def ixN (n : Nat) (i : Int) : Option Nat := if 0 ≤ i then (if i < n then some i.toNat else none) else if -(n : Int) ≤ i then some (i + n).toNat else none
def atI {α : Type} (xs : List α) (i : Int) : Option α := (ixN xs.length i).bind fun j => xs[j]?
theorem ixN_seq {n : Nat} {i : Int} {j : Nat} (h : ixN n i = some j) : seqIndex? i n = some j ∧ j < n ∧ -(n : Int) ≤ i ∧ i < n := by
  unfold ixN at h
  by_cases h0 : 0 ≤ i
  · rw [if_pos h0] at h
    by_cases h1 : i < n
    · rw [if_pos h1] at h
      have e : i.toNat = j := Option.some.inj h
      exact ⟨by rw [seqIndex_of h0 h1, e], by omega, by omega, h1⟩
    · rw [if_neg h1] at h; cases h
  · rw [if_neg h0] at h
    by_cases h1 : -(n : Int) ≤ i
    · rw [if_pos h1] at h
      have e : (i + n).toNat = j := Option.some.inj h
      exact ⟨by rw [seqIndex_neg (by omega) h1, e], by omega, h1, by omega⟩
    · rw [if_neg h1] at h; cases h
theorem atI_get {α : Type} {xs : List α} {i : Int} {v : α} (h : atI xs i = some v) : ∃ j, seqIndex? i xs.length = some j ∧ xs[j]? = some v ∧ j < xs.length ∧ -(xs.length : Int) ≤ i ∧ i < xs.length := by
  unfold atI at h
  cases e : ixN xs.length i with
  | none => rw [e] at h; cases h
  | some j =>
    rw [e] at h
    obtain ⟨h1, h2, h3, h4⟩ := ixN_seq e
    exact ⟨j, h1, h, h2, h3, h4⟩
theorem atI_nat {α : Type} {xs : List α} {j : Nat} {v : α} (h : xs[j]? = some v) : atI xs (j : Int) = some v := by
  have hj : j < xs.length := (List.getElem?_eq_some_iff.mp h).1
  have e : ixN xs.length (j : Int) = some j := by
    unfold ixN
    rw [if_pos (by omega), if_pos (by omega)]; simp
  unfold atI; rw [e]; exact h
def PlainIx (b : Expr) : Prop := ∀ o i, subscripted b false o i = operate [o, i] (getItem o i)
def IxR (X : Cx) (r : R2) : Prop :=
  ∀ (value slice : Expr) (pins : List (Addr × Obj)) (s : Shared) (σ : St) (H : Hp) (x y : V) (v u : Value) (Q : VK), Inv X pins σ H s → RelV x v → RelV y u → r x y H Q →
    subscripted slice false v u = operate [v, u] (getItem v u) → wpAny (model X.prog X.w) X.A (subscriptTail value slice v u) (EP X pins σ Q) X.xe s
def MtR (X : Cx) (id : String) (r : V → List V → Hp → VK → Prop) : Prop :=
  ∀ (pins : List (Addr × Obj)) (s : Shared) (σ : St) (H : Hp) (x : V) (xs : List V) (v : Value) (us : List Value) (Q : VK), Inv X pins σ H s → RelV x v → Vals xs us → r x xs H Q →
    wpAny (model X.prog X.w) X.A (call (.builtin id) (v :: us)) (EP X pins σ Q) X.xe s
section
variable {X : Cx} {a b : Expr} {ta tb : TE} {pos : Pos}
theorem pe_ix {r : R2} (hr : IxR X r) (ha : PE X a ta) (hb : PE X b tb) (hs : PlainIx b) : PE X (.Subscript a b pos) (tOp r ta tb) := by
  intro pins s σ H Q I h
  exact Subscript_ (binT ha hb I h fun v u s2 x y H2 I2 rx ry q => hr a b pins s2 σ H2 x y v u Q I2 rx ry q (hs _ _))
def rIxL (K : PySem.W.Frag) : R2 := fun x y H Q => ∃ p xs i v, x = .ref p ∧ y = .int i ∧ SqL K H p xs ∧ atI xs i = some v ∧ Q v H
def rIxT (K : PySem.W.Frag) : R2 := fun x y H Q => ∃ p xs i v, x = .ref p ∧ y = .int i ∧ SqT K H p xs ∧ atI xs i = some v ∧ Q v H
theorem ix_list : IxR X (rIxL X.K) := by
  intro value slice pins s σ H x y v u Q I rx ry h hs
  obtain ⟨p, xs, i, z, rfl, rfl, hq, he, q⟩ := h
  cases rx
  obtain ⟨t, rfl⟩ := ry
  obtain ⟨its, r, pl, hz⟩ := I.list hq
  obtain ⟨j, h1, h2, h3, h4, h5⟩ := atI_get he
  obtain ⟨w, ew, rw'⟩ := r.get h2
  have hl := r.length
  have hn := line63
  have fin : EP X pins σ Q w s := ⟨z, H, I, rw', q⟩
  by_cases h0 : 0 ≤ i
  · have hj : i.toNat = j := by
      rw [seqIndex_of h0 h5] at h1
      exact Option.some.inj h1
    exact item_listR pl.isList h0 (by omega) (by rw [hj]; simpa using ew) fin hs
  · have hj : (i + (its.toArray.size : Int)).toNat = j := by
      rw [seqIndex_neg (by omega) h4] at h1
      rw [List.size_toArray, ← hl]
      exact Option.some.inj h1
    exact subscriptTail_builtinR (x := w) pl.isList.typeIs slot_list_getitem.lookup
      (wpAny_getItem_list_neg (Q := fun r s' => r = w ∧ EP X pins σ Q r s') pl.isList (by omega) (by rw [List.size_toArray] <;> omega) (by omega) (by rw [hj]; simpa using ew) ⟨rfl, fin⟩) hs
theorem ix_tup : IxR X (rIxT X.K) := by
  intro value slice pins s σ H x y v u Q I rx ry h hs
  obtain ⟨p, xs, i, z, rfl, rfl, hq, he, q⟩ := h
  cases rx
  obtain ⟨t, rfl⟩ := ry
  obtain ⟨its, r, pl, hz⟩ := I.tuple hq
  obtain ⟨j, h1, h2, h3, h4, h5⟩ := atI_get he
  obtain ⟨w, ew, rw'⟩ := r.get h2
  have hl := r.length
  have hn := line63
  have fin : EP X pins σ Q w s := ⟨z, H, I, rw', q⟩
  exact subscriptTail_builtinR (x := w) pl.typeIs slot_tuple_getitem.lookup
    (getItem_tuple (j := j) (Q := fun r s' => r = w ∧ EP X pins σ Q r s') pl (by omega) (by omega) (by rw [List.size_toArray, ← hl]; exact h1) (by simpa using ew) ⟨rfl, fin⟩) hs
theorem slice_bounds (lo hi : Option Int) (n : Nat) : (sliceBounds lo hi none n).1 = ((HT.sIx n 0 lo : Nat) : Int) ∧ (sliceBounds lo hi none n).2.1 = ((HT.sIx n n hi : Nat) : Int) ∧ (sliceBounds lo hi none n).2.2 = 1 := by
  refine ⟨?_, ?_, rfl⟩
  · cases lo with
    | none => simp [sliceBounds, HT.sIx]
    | some i =>
      simp only [sliceBounds, HT.sIx, Option.getD_none, show (1 : Int) > 0 by decide, if_true]
      by_cases h : i < 0
      · simp only [h, if_true] <;> omega
      · simp only [h, if_false] <;> omega
  · cases hi with
    | none => simp [sliceBounds, HT.sIx]
    | some i =>
      simp only [sliceBounds, HT.sIx, Option.getD_none, show (1 : Int) > 0 by decide, if_true]
      by_cases h : i < 0
      · simp only [h, if_true] <;> omega
      · simp only [h, if_false] <;> omega
theorem slicePick_cut (its : List Value) (lo hi : Option Int) : slicePick its.toArray lo hi none = ((its.drop (HT.sIx its.length 0 lo)).take (HT.sIx its.length its.length hi - HT.sIx its.length 0 lo)).toArray := by
  obtain ⟨h1, h2, h3⟩ := slice_bounds lo hi its.toArray.size
  unfold slicePick
  rw [h1, h2, h3]
  simp only [sliceRange_one, pick_run, List.size_toArray] <;> rfl
def rSlL (K : PySem.W.Frag) : V → Option Int → Option Int → Hp → VK → Prop := fun x lo hi H Q => ∃ a xs, x = .ref a ∧ SqL K H a xs ∧ ∀ p, H p = none → Q (.ref p) (upd H p (.lst (cutV xs lo hi)))
theorem sl_list : SlR X (rSlL X.K) := by
  intro pins s σ H x v vl vu lo hi sl Q I rx hs pl pu h
  obtain ⟨a, xs, rfl, hx, q⟩ := h
  cases rx
  obtain ⟨its, r, ht, hz⟩ := I.list hx
  have hlen := r.length
  refine ⟨"list", _, slot_list_getitem.lookup, ht.isList.typeIs, ?_⟩
  refine wpAny_getItem_list_slice ht.isList hs pl pu .none (by simp) ?_ (by rw [List.size_toArray] <;> omega)
  rw [slicePick_cut, ← hlen]
  refine ⟨.ref s.heap.objs.size, _, I.laid (t' := s.toks) (o := .lst (cutV xs lo hi)) (fun b ob q => Heap.get?_push_of_some _ q) (Nat.le_refl _) ?_, rfl, q _ (I.hok.fresh (Nat.le_refl _))⟩
  exact ⟨Nat.le_trans (cutV_length xs lo hi) hz, _, 0, (r.drop (HT.sIx xs.length 0 lo)).take (HT.sIx xs.length xs.length hi - HT.sIx xs.length 0 lo), Heap.get?_push_size _ rfl⟩
def flatV : V → Bool
  | .non => true
  | .bl _ => true
  | .int _ => true
  | .str _ => true
  | _ => false
def eqV : V → V → Bool
  | .non, .non => true
  | .bl a, .bl b => a == b
  | .bl a, .int b => (if a then 1 else 0) == b
  | .int a, .bl b => a == (if b then 1 else 0)
  | .int a, .int b => a == b
  | .str a, .str b => a == b
  | _, _ => false
theorem eqAt_V {A : Around} {s : Shared} {y x : V} {u v : Value} (ry : RelV y u) (rx : RelV x v) (fy : flatV y = true) (fx : flatV x = true) : SeqAt.EqAt A s u v (eqV y x) := by
  cases y with
  | non =>
    cases ry
    cases x with
    | non => cases rx; exact SeqAt.EqAt.same _
    | bl b => cases rx; exact SeqAt.EqAt.none_bool b
    | int b => obtain ⟨t, rfl⟩ := rx; exact SeqAt.EqAt.none_int b t
    | str b => obtain ⟨t, rfl⟩ := rx; exact SeqAt.EqAt.none_str b t
    | _ => exact absurd (show false = true from fx) Bool.false_ne_true
  | bl a =>
    cases ry
    cases x with
    | non => cases rx; exact SeqAt.EqAt.bool_none a
    | bl b => cases rx; exact SeqAt.EqAt.bool_bool a b
    | int b => obtain ⟨t, rfl⟩ := rx; exact SeqAt.EqAt.bool_int a b t
    | str b => obtain ⟨t, rfl⟩ := rx; exact SeqAt.EqAt.bool_str a b t
    | _ => exact absurd (show false = true from fx) Bool.false_ne_true
  | int a =>
    obtain ⟨t', rfl⟩ := ry
    cases x with
    | non => cases rx; exact SeqAt.EqAt.int_none a t'
    | bl b => cases rx; exact SeqAt.EqAt.int_bool a t' b
    | int b => obtain ⟨t, rfl⟩ := rx; exact SeqAt.EqAt.int_int a t' b t
    | str b => obtain ⟨t, rfl⟩ := rx; exact SeqAt.EqAt.int_str a t' b t
    | _ => exact absurd (show false = true from fx) Bool.false_ne_true
  | str a =>
    obtain ⟨t', rfl⟩ := ry
    cases x with
    | non => cases rx; exact SeqAt.EqAt.str_none a t'
    | bl b => cases rx; exact SeqAt.EqAt.str_bool a t' b
    | int b => obtain ⟨t, rfl⟩ := rx; exact SeqAt.EqAt.str_int a t' b t
    | str b => obtain ⟨t, rfl⟩ := rx; exact SeqAt.EqAt.str_str a t' b t
    | _ => exact absurd (show false = true from fx) Bool.false_ne_true
  | _ => exact absurd (show false = true from fy) Bool.false_ne_true
def eqU (x : V) (u : Value) : Bool := match u with
  | .none => eqV .non x
  | .bool b => eqV (.bl b) x
  | .int i _ => eqV (.int i) x
  | .str z _ => eqV (.str z) x
  | _ => false
theorem eqU_of {x y : V} {u : Value} (r : RelV y u) (f : flatV y = true) : eqU x u = eqV y x := by
  cases y with
  | non => cases r; rfl
  | bl b => cases r; rfl
  | int i => obtain ⟨t, rfl⟩ := r; rfl
  | str z => obtain ⟨t, rfl⟩ := r; rfl
  | _ => exact absurd (show false = true from f) Bool.false_ne_true
theorem any_eqU {x : V} : ∀ {xs : List V} {us : List Value}, Vals xs us → xs.all flatV = true → us.any (eqU x) = xs.any fun y => eqV y x
  | _, _, .nil, _ => rfl
  | y :: xs, u :: us, .cons r t, f => by
    rw [List.all_cons, Bool.and_eq_true] at f
    rw [List.any_cons, List.any_cons, eqU_of r f.1, any_eqU t f.2]
theorem mem_eqAt {A : Around} {s : Shared} {x : V} {v : Value} (rx : RelV x v) (fx : flatV x = true) : ∀ {xs : List V} {us : List Value}, Vals xs us → xs.all flatV = true → ∀ u ∈ us, SeqAt.EqAt A s u v (eqU x u)
  | _, _, .nil, _ => fun u hu => by cases hu
  | y :: xs, u :: us, .cons r t, f => fun u' hu => by
    rw [List.all_cons, Bool.and_eq_true] at f
    rcases List.mem_cons.mp hu with rfl | hu
    · rw [eqU_of r f.1]; exact eqAt_V r rx f.1 fx
    · exact mem_eqAt rx fx t f.2 u' hu
def inV (x : V) (xs : List V) : Bool := xs.any fun y => eqV y x
def rIn (K : PySem.W.Frag) (neg : Bool) : R2 := fun x y H Q => ∃ p xs, y = .ref p ∧ (SqL K H p xs ∨ SqT K H p xs) ∧ flatV x = true ∧ xs.all flatV = true ∧ Q (.bl (if neg then !inV x xs else inV x xs)) H
theorem op_in_seq : OpR X (compareOp .In) (rIn X.K false) := by
  intro pins s σ H x y v u Q I rx ry h
  obtain ⟨p, xs, rfl, hq, fx, fs, q⟩ := h
  cases ry
  rcases hq with hq | hq
  · obtain ⟨its, r, pl, hz⟩ := I.list hq
    refine SeqAt.in_listAt (eqU x) pl.isList (fun w hw => mem_eqAt rx fx r fs w (by simpa using hw)) ⟨.bl _, H, I, rfl, ?_⟩
    rw [show its.toArray.any (eqU x) = its.any (eqU x) by simp, any_eqU r fs]
    exact q
  · obtain ⟨its, r, pl, hz⟩ := I.tuple hq
    refine SeqAt.in_tupleAt (eqU x) pl (fun w hw => mem_eqAt rx fx r fs w (by simpa using hw)) ⟨.bl _, H, I, rfl, ?_⟩
    rw [show its.toArray.any (eqU x) = its.any (eqU x) by simp, any_eqU r fs]
    exact q
theorem call_len_seq : CallR X (.builtin "len") (fun xs H Q => ∃ p ys, xs = [.ref p] ∧ (SqL X.K H p ys ∨ SqT X.K H p ys) ∧ Q (.int ys.length) H) := by
  intro pins s σ H xs us Q I r h
  obtain ⟨p, ys, rfl, hq, q⟩ := h
  obtain ⟨u, rfl, rx⟩ := vals1 r
  cases rx
  have hn := line63
  rcases hq with hq | hq
  · obtain ⟨its, r', pl, hz⟩ := I.list hq
    have hlen := r'.length
    exact Calls.call_len_list pl.isList (by simp only [List.size_toArray] <;> omega) ⟨.int ys.length, H, I.tok _, ⟨s.toks + 1, by rw [List.size_toArray, hlen]⟩, q⟩
  · obtain ⟨its, r', pl, hz⟩ := I.tuple hq
    have hlen := r'.length
    exact len_tuple pl (by simp only [List.size_toArray] <;> omega) ⟨.int ys.length, H, I.tok _, ⟨s.toks + 1, by rw [List.size_toArray, hlen]⟩, q⟩
theorem call_list_of : CallR X (.type "list") (fun xs H Q => ∃ p ys, xs = [.ref p] ∧ (SqL X.K H p ys ∨ SqT X.K H p ys) ∧ ∀ l, H l = none → Q (.ref l) (upd H l (.lst ys))) := by
  intro pins s σ H xs us Q I r h
  obtain ⟨p, ys, rfl, hq, q⟩ := h
  obtain ⟨u, rfl, rx⟩ := vals1 r
  cases rx
  have fin : ∀ (its : List Value), Vals ys its → ys.length ≤ sizeLine → ∀ (h' : Heap) (c' : Nat), (∀ b o', s.heap.get? b = some o' → h'.get? b = some o') →
      h'.get? s.heap.objs.size = some { cls := .type "list", dict := none, data := .seq its.toArray c', slots := #[] } → EP X pins σ Q (.ref s.heap.objs.size) { s with heap := h' } := fun its r' hz h' c' kp e =>
    ⟨.ref s.heap.objs.size, _, I.laid (t' := s.toks) kp (Nat.le_refl _) (show ObjOk X.prog X.w _ h' _ (.lst ys) from ⟨hz, its, c', r', e⟩), rfl, q _ (I.hok.fresh (Nat.le_refl _))⟩
  rcases hq with hq | hq
  · obtain ⟨its, r', pl, hz⟩ := I.list hq
    have hlen := r'.length
    obtain ⟨o, ho, hc, n, hd⟩ := pl.isList
    exact call_list_seq p (.inl rfl) ho hc hd (fun h' c' kp e => fin its r' hz h' c' kp e) (by simp only [List.size_toArray] <;> omega)
  · obtain ⟨its, r', pl, hz⟩ := I.tuple hq
    have hlen := r'.length
    obtain ⟨o, ho, hc, n, hd⟩ := pl
    exact call_list_seq p (.inr rfl) ho hc hd (fun h' c' kp e => fin its r' hz h' c' kp e) (by simp only [List.size_toArray] <;> omega)
def tyV (K : PySem.W.Frag) (T : String) (x : V) (H : Hp) : Prop := match x with
  | .str _ => T = "str"
  | .int _ => T = "int"
  | .ref p => (T = "list" ∧ ∃ xs, SqL K H p xs) ∨ (T = "tuple" ∧ ∃ o, K.lookup p = some o ∧ o.cls = .type "tuple" ∧ o.dict = none) ∨
      (T = "dict" ∧ ((∃ kvs, H p = some (.dK kvs)) ∨ ∃ kvs, H p = some (.dT kvs))) ∨ (T = "set" ∧ ∃ S n, H p = some (.set S n))
  | _ => False
theorem tyV_is {pins : List (Addr × Obj)} {σ : St} {H : Hp} {s : Shared} {T : String} {x : V} {v : Value} (I : Inv X pins σ H s) (r : RelV x v) (ty : tyV X.K T x H) :
    s.TypeIs v T ∧ ∀ a, v = .ref a → ∃ ob, s.heap.get? a = some ob ∧ ob.dict = none := by
  cases x with
  | str z =>
    obtain ⟨t, rfl⟩ := r
    cases (show T = "str" from ty)
    exact ⟨typeIs_str s z t, fun _ e => nomatch e⟩
  | int i =>
    obtain ⟨t, rfl⟩ := r
    cases (show T = "int" from ty)
    exact ⟨typeIs_int s i t, fun _ e => nomatch e⟩
  | ref p =>
    cases r
    rcases ty with ⟨rfl, xs, hq⟩ | ⟨rfl, o, hk, hc, hd⟩ | ⟨rfl, hk⟩ | ⟨rfl, S, n, hk⟩
    · obtain ⟨its, _, pl, _⟩ := I.list hq
      refine ⟨pl.isList.typeIs, fun a e => ?_⟩
      cases e
      obtain ⟨o, n, e, c, hd, _⟩ := pl
      exact ⟨o, e, hd⟩
    · refine ⟨⟨o, I.kIn p o hk, hc⟩, fun a e => ?_⟩
      cases e
      exact ⟨o, I.kIn _ o hk, hd⟩
    · have z : ∃ o, s.heap.get? p = some o ∧ o.ExactDict := by
        rcases hk with ⟨kvs, hk⟩ | ⟨kvs, hk⟩
        · obtain ⟨_, _, _, _, o, _, _, e, ex, _⟩ := I.hok p _ hk
          exact ⟨o, e, ex⟩
        · obtain ⟨_, _, _, _, o, _, _, e, ex, _⟩ := I.hok p _ hk
          exact ⟨o, e, ex⟩
      obtain ⟨o, e, ex⟩ := z
      refine ⟨⟨o, e, ex.1⟩, fun a e2 => ?_⟩
      cases e2
      exact ⟨o, e, ex.2.1⟩
    · obtain ⟨o, _, _, _, e, ex, _⟩ := I.hok p _ hk
      refine ⟨⟨o, e, ex.1⟩, fun a e2 => ?_⟩
      cases e2
      exact ⟨o, e, ex.2.1⟩
  | _ => exact False.elim ty
def tBM0 (K : PySem.W.Frag) (T : String) (r : V → List V → Hp → VK → Prop) (to : TE) : TE := fun σ H Q => to σ H fun x H1 => tyV K T x H1 ∧ r x [] H1 Q
def tBM (K : PySem.W.Frag) (T : String) (r : V → List V → Hp → VK → Prop) (to : TE) (t : TA) : TE := fun σ H Q => to σ H fun x H1 => tyV K T x H1 ∧ t σ H1 fun xs H2 => r x xs H2 Q
variable {o e : Expr} {es : List Expr} {to : TE} {t : TA} {name : Str} {apos cpos : Pos} {T id : String} {r : V → List V → Hp → VK → Prop}
theorem pe_bm0 (pa : PlainAttrs T) (slot : Slot T name id) (hty : typeOf (.builtin id) = pure (.type "method_descriptor")) (hm : MtR X id r) (ho : PE X o to)
    (hbase : attributeBase o name X.env (eval o X.env) = eval o X.env := by rfl) (hline : (apos.endLine == cpos.line) = true := by rfl) : PE X (.Call (.Attribute o name apos) [] [] cpos) (tBM0 X.K T r to) := by
  intro pins s σ H Q I h
  refine wpAny_Call_method0_late hbase hline (thn (ho pins s σ H _ I h) fun v s1 ⟨x, H1, I1, r1, ty, q1⟩ => ?_)
  obtain ⟨h1, h2⟩ := tyV_is I1 r1 ty
  exact ⟨T, id, pa, slot, hty, h1, h2, Calls.callWith_builtin rfl (PySem.evalArgs_none (hm pins s1 σ H1 x [] v [] Q I1 r1 .nil q1))⟩
theorem pe_bm (pa : PlainAttrs T) (slot : Slot T name id) (hty : typeOf (.builtin id) = pure (.type "method_descriptor")) (hm : MtR X id r) (ho : PE X o to) (ha : PA X (e :: es) t)
    (hbase : attributeBase o name X.env (eval o X.env) = eval o X.env := by rfl)
    (hfew : ((backTo cpos (starEach (e :: es) X.env)).all (fun x => !x.1) && (backToKw cpos (keywordEach [] X.env)).all (fun x => x.1.isSome)
      && decide ((e :: es).length + ([] : List Keyword).length + (if ([] : List Keyword).isEmpty then 0 else 1) < 30)) = true := by rfl)
    (hline : (apos.endLine == cpos.line) = true := by rfl) (hs : starEach (e :: es) X.env = (false, eval e X.env) :: starEach es X.env := by rfl) (hplain : (backTo cpos (starEach es X.env)).any (·.1) = false := by rfl) :
    PE X (.Call (.Attribute o name apos) (e :: es) [] cpos) (tBM X.K T r to t) := by
  intro pins s σ H Q I h
  refine wpAny_Call_method_late hbase hfew hline rfl (thn (ho pins s σ H _ I h) fun v s1 ⟨x, H1, I1, r1, ty, q1⟩ => ?_)
  obtain ⟨h1, h2⟩ := tyV_is I1 r1 ty
  refine ⟨T, id, pa, slot, hty, h1, h2, ?_⟩
  have hA := ha cpos pins s1 σ H1 _ I1 q1
  rw [hs] at hA ⊢
  refine Calls.callWith_builtin (by show (false || (backTo cpos (starEach es X.env)).any (·.1)) = false; rw [hplain] <;> rfl) (Calls.evalArgs_plain ?_)
  exact thn hA fun us s2 ⟨vs, H2, I2, r2, q2⟩ => hm pins s2 σ H2 x vs v us Q I2 r1 r2 q2
/- xs.append(e), list.index on a module's tuple .. are MtR facts of 06m -/
end
end L2
namespace L2
open PySem PySem.Spec PyProof.Rows
def MtM (X : Cx) (id : String) (r : V → List V → Hp → VK → Prop) : Prop :=
  ∀ (pins : List (Addr × Obj)) (s : Shared) (σ : St) (H : Hp) (x : V) (xs : List V) (v : Value) (us : List Value) (Q : VK), Inv X pins σ H s → RelV x v → Vals xs us → r x xs H Q →
    wpAny (model X.prog X.w) X.A (call (.builtin id) (v :: us)) (EP X pins σ Q) X.xe s
theorem Vals.one : ∀ {x : V} {us : List Value}, Vals [x] us → ∃ u, us = [u] ∧ RelV x u
  | _, _, .cons r .nil => ⟨_, rfl, r⟩
theorem Vals.two : ∀ {x y : V} {us : List Value}, Vals [x, y] us → ∃ u v, us = [u, v] ∧ RelV x u ∧ RelV y v
  | _, _, _, .cons r (.cons q .nil) => ⟨_, _, rfl, r, q⟩
theorem Vals.reverse {xs : List V} {us : List Value} (h : Vals xs us) : Vals xs.reverse us.reverse := by
  induction h with
  | nil => exact .nil
  | cons r t ih => rw [List.reverse_cons, List.reverse_cons]; exact Vals.append ih (.cons r .nil)
section
variable {X : Cx} {pins : List (Addr × Obj)} {σ : St} {H : Hp} {s : Shared} {l b : Addr} {xs ys zs : List V}
theorem Inv.lset {its its' : List Value} {n : Nat} {f : Array Value → Array Value} {t' : Nat} (I : Inv X pins σ H s) (hH : H l = some (.lst xs))
    (e : s.heap.get? l = some { cls := .type "list", data := .seq its.toArray n }) (hf : f its.toArray = its'.toArray) (hv : Vals ys its') (hz : ys.length ≤ sizeLine) :
    Inv X pins σ (upd H l (.lst ys)) { s with heap := s.heap.update l (Obj.mapSeq f), toks := t' } := by
  have q := PySem.IsL.update e f
  rw [hf] at q
  refine I.write (x := l) (e := l) (by rw [hH]; exact trivial) (.inl rfl) (fun b' u hb hu => (Heap.get?_update_other s.heap (Obj.mapSeq f) (Ne.symm hb)).trans hu) ⟨_, q⟩ ?_
  exact ⟨hz, its', _, hv, q⟩
theorem Inv.lnew {its : List Value} {t' : Nat} (I : Inv X pins σ H s) (hv : Vals ys its) (hz : ys.length ≤ sizeLine) :
    Inv X pins σ (upd H s.heap.objs.size (.lst ys)) { s with heap := s.heap.push { cls := .type "list", data := .seq its.toArray }, toks := t' } :=
  I.laid (fun _ _ q => Heap.get?_push_of_some _ q) (Nat.le_refl _) ⟨hz, its, 0, hv, Heap.get?_push_size _ rfl⟩
theorem Inv.fresh (I : Inv X pins σ H s) : H s.heap.objs.size = none := I.hok.fresh (Nat.le_refl _)
theorem Inv.lstM (I : Inv X pins σ H s) (hH : H l = some (.lst xs)) : xs.length ≤ sizeLine ∧ ∃ (its : List Value) (n : Nat), Vals xs its ∧ xs.length = its.length ∧ s.heap.get? l = some { cls := .type "list", data := .seq its.toArray n } := by
  obtain ⟨z, its, n, r, e⟩ := I.hok l _ hH
  exact ⟨z, its, n, r, r.length, e⟩
theorem notLongL {n : Nat} (h : n ≤ sizeLine) : Builtin.List.listTooLong n = false := by
  unfold Builtin.List.listTooLong
  exact decide_eq_false (by omega)
end
section
variable {X : Cx}
def rAppend : V → List V → Hp → VK → Prop := fun x vs H Q => ∃ l xs y, x = .ref l ∧ vs = [y] ∧ H l = some (.lst xs) ∧ xs.length < sizeLine ∧ Q .non (upd H l (.lst (xs ++ [y])))
theorem mt_append : MtM X "list.append" rAppend := by
  intro pins s σ H x vs v us Q I rx rv h
  obtain ⟨l, xs, y, rfl, rfl, hH, hz, q⟩ := h
  cases rx
  obtain ⟨u, rfl, ru⟩ := rv.one
  obtain ⟨z, its, n, r, hl, e⟩ := I.lstM hH
  refine call_meets F.slot_list_append ⟨_, e, rfl⟩ F.entry_list_append (F.args_list_append_2 _ _) (PySem.list_append l its.toArray n u (by rw [List.size_toArray]; omega)) ⟨e, ?_⟩
  refine ⟨.non, _, I.lset (its' := its ++ [u]) hH e (by simp) (r.append (.cons ru .nil)) ?_, rfl, q⟩
  rw [List.length_append, List.length_singleton]
  omega
def rExtend : V → List V → Hp → VK → Prop := fun x vs H Q => ∃ l b xs zs, x = .ref l ∧ vs = [.ref b] ∧ H l = some (.lst xs) ∧ H b = some (.lst zs) ∧ xs.length + zs.length ≤ sizeLine ∧ Q .non (upd H l (.lst (xs ++ zs)))
theorem mt_extend : MtM X "list.extend" rExtend := by
  intro pins s σ H x vs v us Q I rx rv h
  obtain ⟨l, b, xs, zs, rfl, rfl, hH, hB, hz, q⟩ := h
  cases rx
  obtain ⟨u, rfl, ru⟩ := rv.one
  cases ru
  obtain ⟨z, its, n, r, hl, e⟩ := I.lstM hH
  obtain ⟨z2, its2, n2, r2, hl2, e2⟩ := I.lstM hB
  have hsz : its.toArray.size + its2.toArray.size ≤ sizeLine := by rw [List.size_toArray, List.size_toArray]; omega
  have hlong : ¬ (!its.toArray.isEmpty && Builtin.List.listTooLong (its.toArray.size + its2.toArray.size)) = true := by
    rw [notLongL hsz, Bool.and_false]
    exact Bool.false_ne_true
  refine call_meets F.slot_list_extend ⟨_, e, rfl⟩ F.entry_list_extend (F.args_list_extend_2 _ _)
    (AutoSeq1.list_extend_list_list_0 l its.toArray n b its2.toArray n2 hlong (by rw [List.size_toArray]; omega) (by omega)) ⟨e, e2, ?_⟩
  refine ⟨.non, _, I.lset (its' := its ++ its2) hH e (by simp) (r.append r2) ?_, rfl, q⟩
  rw [List.length_append]
  omega
def rCat : R2 := fun x y H Q => ∃ l b xs zs, x = .ref l ∧ y = .ref b ∧ H l = some (.lst xs) ∧ H b = some (.lst zs) ∧ xs.length + zs.length ≤ sizeLine ∧ ∀ p, H p = none → Q (.ref p) (upd H p (.lst (xs ++ zs)))
theorem op_cat : OpR X (binaryOp .Add) rCat := by
  intro pins s σ H x y v u Q I rx ry h
  obtain ⟨l, b, xs, zs, rfl, rfl, hH, hB, hz, q⟩ := h
  cases rx
  cases ry
  obtain ⟨z, its, n, r, hl, e⟩ := I.lstM hH
  obtain ⟨z2, its2, n2, r2, hl2, e2⟩ := I.lstM hB
  refine PySem.P.add_list e e2 ?_ (by rw [List.size_toArray, List.size_toArray]; omega)
  have ea : its.toArray ++ its2.toArray = (its ++ its2).toArray := by simp
  rw [ea]
  exact ⟨.ref _, _, I.lnew (t' := s.toks) (r.append r2) (by rw [List.length_append]; omega), rfl, q _ I.fresh⟩
end
section
variable {prog : Program} {w : World} {A : Around} {E : Value → Shared → Prop} {s : Shared}
end
section
variable {X : Cx}
end
end L2
namespace L2
open PySem PySem.Spec PyProof.Rows
section
variable {κ : Type} [DecidableEq κ]
def valV (kvs : List (κ × V)) (k : κ) : Option V := (kvs.find? fun kv => decide (kv.1 = k)).map (·.2)
def putK (kvs : List (κ × V)) (k : κ) (v : V) : List (κ × V) :=
  if (kvs.any fun kv => decide (kv.1 = k)) = true then kvs.map (fun kv => if kv.1 = k then (kv.1, v) else kv) else kvs ++ [(k, v)]
theorem valV_pos {p : κ × V} {r : List (κ × V)} {k : κ} (e : p.1 = k) : valV (p :: r) k = some p.2 := by simp [valV, List.find?_cons, e]
theorem valV_neg {p : κ × V} {r : List (κ × V)} {k : κ} (e : ¬ p.1 = k) : valV (p :: r) k = valV r k := by simp [valV, List.find?_cons, e]
theorem valV_any (k : κ) : ∀ kvs : List (κ × V), (kvs.any fun kv => decide (kv.1 = k)) = (valV kvs k).isSome
  | [] => rfl
  | p :: r => by
    rw [List.any_cons]
    by_cases e : p.1 = k
    · simp only [valV_pos e, decide_eq_true e, Bool.true_or, Option.isSome_some]
    · rw [valV_neg e, decide_eq_false e, Bool.false_or]; exact valV_any k r
theorem valV_map (k j : κ) (y : V) : ∀ kvs : List (κ × V), valV (kvs.map fun kv => if kv.1 = k then (kv.1, y) else kv) j = (valV kvs j).map fun x => if j = k then y else x
  | [] => rfl
  | p :: r => by
    have ih := valV_map k j y r
    rw [List.map_cons]
    by_cases h : p.1 = k
    · rw [if_pos h]
      by_cases e : p.1 = j
      · rw [valV_pos (p := (p.1, y)) e, valV_pos e, Option.map_some, if_pos (e.symm.trans h)]
      · rw [valV_neg (p := (p.1, y)) e, valV_neg e, ih]
    · rw [if_neg h]
      by_cases e : p.1 = j
      · rw [valV_pos (p := p) e, valV_pos e, Option.map_some, if_neg (fun z => h (e.trans z))]
      · rw [valV_neg (p := p) e, valV_neg e, ih]
theorem valV_snoc (k j : κ) (y : V) : ∀ kvs : List (κ × V), valV kvs k = none → valV (kvs ++ [(k, y)]) j = if j = k then some y else valV kvs j
  | [], _ => by
    by_cases e : k = j
    · rw [if_pos e.symm]; exact valV_pos (p := (k, y)) e
    · rw [if_neg (fun z => e z.symm)]; exact valV_neg (p := (k, y)) e
  | p :: r, hn => by
    rw [List.cons_append]
    have hk : ¬ p.1 = k := fun z => by rw [valV_pos z] at hn; cases hn
    rw [valV_neg hk] at hn
    have ih := valV_snoc k j y r hn
    by_cases e : p.1 = j
    · rw [valV_pos e, valV_pos e, if_neg (fun z => hk (e.trans z))]
    · rw [valV_neg e, valV_neg e, ih]
theorem valV_put (kvs : List (κ × V)) (k j : κ) (y : V) : valV (putK kvs k y) j = if j = k then some y else valV kvs j := by
  unfold putK
  by_cases a : (kvs.any fun kv => decide (kv.1 = k)) = true
  · rw [if_pos a, valV_map]
    rw [valV_any] at a
    by_cases e : j = k
    · obtain ⟨x, hx⟩ := Option.isSome_iff_exists.mp a
      rw [if_pos e, e, hx, Option.map_some, if_pos rfl]
    · rw [if_neg e]
      cases valV kvs j with
      | none => rfl
      | some x => rw [Option.map_some, if_neg e]
  · rw [if_neg a]
    refine valV_snoc k j y kvs ?_
    rw [valV_any] at a
    cases q : valV kvs k with
    | none => rfl
    | some x => rw [q] at a; exact (a rfl).elim
theorem length_putK (kvs : List (κ × V)) (k : κ) (v : V) : (putK kvs k v).length ≤ kvs.length + 1 := by
  unfold putK
  split
  · rw [List.length_map]; omega
  · rw [List.length_append, List.length_cons, List.length_nil]; omega
theorem RelO.isSome_eq {o : Option V} {u : Option Value} (r : RelO o u) : o.isSome = u.isSome := by
  cases o with
  | none => cases u with
    | none => rfl
    | some _ => exact (show False from r).elim
  | some _ => cases u with
    | none => exact (show False from r).elim
    | some _ => rfl
theorem RelO.getD {o : Option V} {u : Option Value} {d : V} {d' : Value} (r : RelO o u) (rd : RelV d d') : RelV (o.getD d) (u.getD d') := by
  cases o with
  | none => cases u with
    | none => exact rd
    | some _ => exact (show False from r).elim
  | some _ => cases u with
    | none => exact (show False from r).elim
    | some _ => exact r
theorem KV.val {kvs : List (κ × V)} {vs : List (κ × Value)} (r : KV kvs vs) (k : κ) : RelO (valV kvs k) (valueAt vs k) := by
  unfold KV at r
  induction r with
  | nil => exact True.intro
  | @cons p q ps qs h t ih =>
    obtain ⟨h1, h2⟩ := h
    by_cases e : p.1 = k
    · have e' : q.1 = k := h1.symm.trans e
      have b : valueAt (q :: qs) k = some q.2 := by simp [valueAt, List.find?_cons, e']
      rw [valV_pos e, b]; exact h2
    · have e' : ¬ q.1 = k := fun z => e (h1.trans z)
      have b : valueAt (q :: qs) k = valueAt qs k := by simp [valueAt, List.find?_cons, e']
      rw [valV_neg e, b]; exact ih
theorem KV.any {kvs : List (κ × V)} {vs : List (κ × Value)} (r : KV kvs vs) (k : κ) : (kvs.any fun kv => decide (kv.1 = k)) = vs.any fun kv => decide (kv.1 = k) := by
  unfold KV at r
  induction r with
  | nil => rfl
  | cons h t ih => rw [List.any_cons, List.any_cons, ih, h.1]
theorem KV.repl {kvs : List (κ × V)} {vs : List (κ × Value)} (r : KV kvs vs) (k : κ) {y : V} {u : Value} (ry : RelV y u) :
    KV (kvs.map fun kv => if kv.1 = k then (kv.1, y) else kv) (vs.map fun kv => if kv.1 = k then (kv.1, u) else kv) := by
  unfold KV at r ⊢
  induction r with
  | nil => exact .nil
  | @cons p q ps qs h t ih =>
    rw [List.map_cons, List.map_cons]
    refine .cons ?_ ih
    obtain ⟨h1, h2⟩ := h
    by_cases e : p.1 = k
    · rw [if_pos e, if_pos (h1.symm.trans e)]; exact ⟨h1, ry⟩
    · rw [if_neg e, if_neg (fun z => e (h1.trans z))]; exact ⟨h1, h2⟩
theorem KV.put {kvs : List (κ × V)} {vs : List (κ × Value)} (r : KV kvs vs) (k : κ) {y : V} {u : Value} (ry : RelV y u) : KV (putK kvs k y) (stored vs k u) := by
  unfold putK stored
  rw [r.any k]
  by_cases e : (vs.any fun kv => decide (kv.1 = k)) = true
  · rw [if_pos e, if_pos e]; exact r.repl k ry
  · rw [if_neg e, if_neg e]; exact Paired.snoc r ⟨rfl, ry⟩
theorem KV.length {kvs : List (κ × V)} {vs : List (κ × Value)} (r : KV kvs vs) : kvs.length = vs.length := Paired.length r
end
theorem kV_is {P : Program} {w : World} {k : Key} {u : Value} (r : RelV (kV k) u) : (mixKind P w).is k u = true := by
  cases k with
  | inl i => obtain ⟨t, e⟩ := (show ∃ t, u = Value.int i t from r); subst e; exact mixKind_int P w i t
  | inr x => obtain ⟨t, e⟩ := (show ∃ t, u = Value.str x t from r); subst e; exact mixKind_str P w x t
theorem items_are {P : Program} {w : World} : ∀ {ks : List Key} {us : List Value}, Vals (ks.map kV) us → ItemsAre (mixKind P w) ks us
  | [], _, r => by rw [List.map_nil] at r; cases r; exact .nil
  | k :: ks, _, r => by
    rw [List.map_cons] at r
    cases r with
    | cons h t => exact .cons (kV_is h) (items_are t)
abbrev KT (H : Hp) : List (List Key × V) → List (List Key × Addr × Value) → Prop := Paired fun p q => p.1 = q.1 ∧ H q.2.1 = some (.tup (p.1.map kV)) ∧ RelV p.2 q.2.2
theorem KT.val {H : Hp} {kvs : List (List Key × V)} {xs : List (List Key × Addr × Value)} (r : KT H kvs xs) (k : List Key) : RelO (valV kvs k) ((atKey xs k).map (·.2)) := by
  induction r with
  | nil => exact True.intro
  | @cons p q ps qs h t ih =>
    obtain ⟨h1, _, h2⟩ := h
    by_cases e : p.1 = k
    · have e' : q.1 = k := h1.symm.trans e
      have b : atKey (q :: qs) k = some q.2 := by simp [atKey, List.find?_cons, e']
      rw [valV_pos e, b]; exact h2
    · have e' : ¬ q.1 = k := fun z => e (h1.trans z)
      have b : atKey (q :: qs) k = atKey qs k := by simp [atKey, List.find?_cons, e']
      rw [valV_neg e, b]; exact ih
theorem KT.repl {H : Hp} {kvs : List (List Key × V)} {xs : List (List Key × Addr × Value)} (r : KT H kvs xs) (k : List Key) {y : V} {u : Value} (ry : RelV y u) :
    KT H (kvs.map fun kv => if kv.1 = k then (kv.1, y) else kv) (xs.map (putAt k u)) := by
  induction r with
  | nil => exact .nil
  | @cons p q ps qs h t ih =>
    rw [List.map_cons, List.map_cons]
    refine .cons ?_ ih
    obtain ⟨h1, h2, h3⟩ := h
    unfold putAt
    by_cases e : p.1 = k
    · rw [if_pos e, if_pos (h1.symm.trans e)]; exact ⟨h1, h2, ry⟩
    · rw [if_neg e, if_neg (fun z => e (h1.trans z))]; exact ⟨h1, h2, h3⟩
theorem KT.put {H : Hp} {kvs : List (List Key × V)} {xs : List (List Key × Addr × Value)} (r : KT H kvs xs) (k : List Key) {b : Addr} {y : V} {u : Value} (hb : H b = some (.tup (k.map kV))) (ry : RelV y u) :
    KT H (putK kvs k y) (storedH xs k b u) := by
  have e : (kvs.any fun kv => decide (kv.1 = k)) = (atKey xs k).isSome := by
    rw [valV_any, (r.val k).isSome_eq, Option.isSome_map]
  unfold putK storedH
  rw [e]
  by_cases q : (atKey xs k).isSome = true
  · rw [if_pos q, if_pos q]; exact r.repl k ry
  · rw [if_neg q, if_neg q]; exact Paired.snoc r ⟨rfl, hb, ry⟩
theorem KT.keeps {H H' : Hp} {kvs : List (List Key × V)} {xs : List (List Key × Addr × Value)} (r : KT H kvs xs) (ht : ∀ b ys, H b = some (.tup ys) → H' b = some (.tup ys)) : KT H' kvs xs :=
  Paired.mapP r fun _ _ z => ⟨z.1, ht _ _ z.2.1, z.2.2⟩
section
variable {P : Program} {w : World} {H : Hp} {h : Heap} {a : Addr}
theorem rd_of {u : HO} (ok : HOk P w H h) (e : Rd H a u) : ObjOk P w H h a u := e.ok ok
theorem dk_rd {kvs : List (Key × V)} (ok : HOk P w H h) (e : Rd H a (.dK kvs)) : kvs.length ≤ sizeLine ∧ (a == sysModules) = false ∧ ∃ vs, KV kvs vs ∧ h.DictOf (mixKind P w) a vs :=
  show ObjOk P w H h a (.dK kvs) from rd_of ok e
theorem dk_of {kvs : List (Key × V)} (ok : HOk P w H h) (e : H a = some (.dK kvs)) : kvs.length ≤ sizeLine ∧ (a == sysModules) = false ∧ ∃ vs, KV kvs vs ∧ h.DictOf (mixKind P w) a vs := dk_rd ok (.inl e)
theorem key_of {ks : List Key} (ok : HOk P w H h) (e : H a = some (.tup (ks.map kV))) : (tupleKind (mixKind P w)).is h ks a := by
  obtain ⟨_, its, r, o, h1, h2, n, h3⟩ := (show ObjOk P w H h a (.tup (ks.map kV)) from ok a _ e)
  exact ⟨o, its.toArray, n, h1, h2, h3, by simpa using items_are r⟩
theorem dt_rd {kvs : List (List Key × V)} (ok : HOk P w H h) (e : Rd H a (.dT kvs)) : kvs.length ≤ sizeLine ∧ (a == sysModules) = false ∧
    ∃ xs, KT H kvs xs ∧ h.DictOfH (tupleKind (mixKind P w)) a xs := by
  obtain ⟨z, y, xs, r, o, es, ep, h1, h2, h3, h4, h5⟩ := (show ObjOk P w H h a (.dT kvs) from rd_of ok e)
  refine ⟨z, y, xs, r, o, es, ep, h1, h2, h3, h4, fun x hx => ?_, h5⟩
  have all : ∀ {l : List (List Key × V)} {m : List (List Key × Addr × Value)}, KT H l m → ∀ x ∈ m, (tupleKind (mixKind P w)).is h x.1 x.2.1 := by
    intro l m q
    induction q with
    | nil => intro x hx; exact nomatch hx
    | @cons p q ps qs hq t ih =>
      intro x hx
      rcases List.mem_cons.mp hx with e | hx
      · subst e
        exact key_of ok (by rw [← hq.1]; exact hq.2.1)
      · exact ih x hx
  exact all r x hx
theorem dt_of {kvs : List (List Key × V)} (ok : HOk P w H h) (e : H a = some (.dT kvs)) : kvs.length ≤ sizeLine ∧ (a == sysModules) = false ∧
    ∃ xs, KT H kvs xs ∧ h.DictOfH (tupleKind (mixKind P w)) a xs := dt_rd ok (.inl e)
end
def DGet (H : Hp) (a : Addr) (y : V) (r : Option V) : Prop :=
  (∃ kvs k, Rd H a (.dK kvs) ∧ y = kV k ∧ r = valV kvs k) ∨ ∃ kvs k b, Rd H a (.dT kvs) ∧ y = .ref b ∧ H b = some (.tup (k.map kV)) ∧ r = valV kvs k
def DPut (H : Hp) (a : Addr) (y v : V) (H' : Hp) : Prop :=
  (∃ kvs k, H a = some (.dK kvs) ∧ y = kV k ∧ kvs.length < sizeLine ∧ H' = upd H a (.dK (putK kvs k v))) ∨
  ∃ kvs k b, H a = some (.dT kvs) ∧ y = .ref b ∧ H b = some (.tup (k.map kV)) ∧ kvs.length < sizeLine ∧ H' = upd H a (.dT (putK kvs k v))
theorem DGet.k {H : Hp} {a : Addr} {kvs : List (Key × V)} {k : Key} (e : H a = some (.dK kvs)) : DGet H a (kV k) (valV kvs k) := .inl ⟨kvs, k, .inl e, rfl, rfl⟩
theorem DPut.k {H : Hp} {a : Addr} {kvs : List (Key × V)} {k : Key} {v : V} (e : H a = some (.dK kvs)) (hl : kvs.length < sizeLine) : DPut H a (kV k) v (upd H a (.dK (putK kvs k v))) := .inl ⟨kvs, k, e, rfl, hl, rfl⟩
section
variable {X : Cx} {pins : List (Addr × Obj)} {σ : St} {H : Hp} {s : Shared} {a : Addr} {y v : V} {u r : Value} {o : Option V} {A : Around} {E : Value → Shared → Prop}
theorem Inv.big (I : Inv X pins σ H s) : sysModules < s.heap.objs.size := by
  have h : mainGlobals < s.heap.objs.size := (I.mod.glob.keeps I.bk).lt
  exact Nat.lt_trans (by decide) h
theorem d_getItem {Q : Value → Shared → Prop} (hu : A.units + 1 < cLine) (I : Inv X pins σ H s) (g : DGet H a y (some v)) (ry : RelV y u) (h : ∀ w' s', Inv X pins σ H s' → RelV v w' → Q w' s') :
    wpAny (model X.prog X.w) A (getItem (.ref a) u) Q E s := by
  rcases g with ⟨kvs, k, e, ey, l⟩ | ⟨kvs, k, b, e, ey, eb, l⟩
  · subst ey
    obtain ⟨z, hd, vs, rel, dd⟩ := dk_rd I.hok e
    obtain ⟨w', hw, rw'⟩ := RelO.some_of (v := v) (o := valueAt vs k) (by rw [l]; exact rel.val k)
    exact wpAny_getItem_of (kV_is ry) dd.mapOf hw (h w' _ (I.tok _) rw')
  · subst ey
    cases (show u = Value.ref b from ry)
    obtain ⟨z, hd, xs, rel, dd⟩ := dt_rd I.hok e
    obtain ⟨w', hw, rw'⟩ := RelO.some_of (v := v) (o := (atKey xs k).map (·.2)) (by rw [l]; exact rel.val k)
    obtain ⟨p, hp, hp2⟩ := Option.map_eq_some_iff.mp hw
    refine wpAny_getItem_heap (tupleKind_room_in1 hu) (key_of I.hok eb) dd hp ?_
    rw [hp2]
    exact h w' _ (I.tok _) rw'
theorem d_write {h' : Heap} {t' : Nat} {ob : HO} (I : Inv X pins σ H s) (mu : Mut (H a)) (hs : Heap.SameBut a s.heap h') (he : ∃ q, h'.get? a = some q) (new : ObjOk X.prog X.w (upd H a ob) h' a ob) :
    Inv X pins σ (upd H a ob) { s with heap := h', toks := t' } :=
  I.write (x := a) (e := a) mu (.inl rfl) (fun b q hb z => (hs.2 b hb).trans z) he new
theorem dk_new {P : Program} {w : World} {H' : Hp} {h' : Heap} {kvs : List (Key × V)} {vs : List (Key × Value)} (z : kvs.length ≤ sizeLine) (hd : (a == sysModules) = false) (rel : KV kvs vs) (dd : h'.DictOf (mixKind P w) a vs) :
    ObjOk P w H' h' a (.dK kvs) := ⟨z, hd, vs, rel, dd⟩
theorem d_setItem {H' : Hp} {Q : Unit → Shared → Prop} (hu : A.units + 1 < cLine) (I : Inv X pins σ H s) (g : DPut H a y v H') (ry : RelV y u) (rv : RelV v r) (h : ∀ s', Inv X pins σ H' s' → Q () s') :
    wpAny (model X.prog X.w) A (setItem (.ref a) u r) Q E s := by
  rcases g with ⟨kvs, k, e, ey, l, eH⟩ | ⟨kvs, k, b, e, ey, eb, l, eH⟩
  · subst ey eH
    obtain ⟨z, hd, vs, rel, dd⟩ := dk_of I.hok e
    have hz : vs.length ≤ sizeLine := by rw [← rel.length]; exact z
    have hl : (putK kvs k v).length ≤ sizeLine := by have := length_putK kvs k v; omega
    refine wpAny_setItem_pairs (hsz := hz) (kV_is ry) dd fun h' dd' hs => h _ ?_
    have he : ∃ q, h'.get? a = some q := let ⟨q, _, _, hq, _⟩ := dd'; ⟨q, hq⟩
    exact d_write I (by rw [e]; exact True.intro) hs he (dk_new hl hd (rel.put k rv) dd')
  · subst ey eH
    cases (show u = Value.ref b from ry)
    obtain ⟨z, hd, xs, rel, dd⟩ := dt_of I.hok e
    have hz : xs.length ≤ sizeLine := by rw [← Paired.length rel]; exact z
    have hl : (putK kvs k v).length ≤ sizeLine := by have := length_putK kvs k v; omega
    refine wpAny_setItem_heap (hsz := hz) (tupleKind_room_in1 hu) (key_of I.hok eb) dd fun h' dd' hs => h _ ?_
    obtain ⟨q, es, ep, hq, h2, h3, h4, _, h5⟩ := dd'
    refine d_write I (by rw [e]; exact True.intro) hs ⟨q, hq⟩ ⟨hl, hd, _, (rel.put k eb rv).keeps fun c ys ec => ?_, q, es, ep, hq, h2, h3, h4, h5⟩
    rw [upd_ne (ne_of ec e (fun z => nomatch z))]
    exact ec
end
section
variable {X : Cx} {pins : List (Addr × Obj)} {σ : St} {H : Hp} {s : Shared} {a : Addr} {kvs : List (Key × V)} {k : Key} {u : Value} {A : Around} {E : Value → Shared → Prop}
end
def NoSl (i : Expr) : Prop := ∀ ov iv, subscripted i false ov iv = operate [ov, iv] (getItem ov iv)
theorem subD_of {prog : Program} {w : World} {A : Around} {E : Value → Shared → Prop} {s : Shared} {env : Env} {value slice : Expr} {pos : Pos} {T id : String} {Q : Value → Shared → Prop}
    (hl : typeLookup (.type T) "__getitem__" = pure (some (.builtin id))) (hs : NoSl slice)
    (h : wpAny (model prog w) A (eval value env) (fun o s₁ => wpAny (model prog w) A (eval slice env) (fun i s₂ => s₂.TypeIs o T ∧ wpAny (model prog w) A (getItem o i) Q E s₂) E s₁) E s) :
    wpAny (model prog w) A (eval (.Subscript value slice pos) env) Q E s := by
  refine Subscript_ (wpAny_mono h (fun o s₁ h₁ => wpAny_mono h₁ (fun i s₂ h₂ => ?_) fun _ _ x => x) fun _ _ x => x)
  obtain ⟨hT, h₂⟩ := h₂
  unfold subscriptTail
  refine wpAny_bind ?_
  rw [getitemInPython_of_ne hT.not_modules]
  refine wpAny_bind (wpAny_specialOf hT hl ?_)
  have fin : wpAny (model prog w) A (subscripted slice false o i) (fun r s₃ => wpAny (model prog w) A (letTemporaryGo value o r >>= fun _ => pure r) Q E s₃) E s₂ := by
    rw [hs o i]
    exact wpAny_operating (wpAny_mono h₂ (fun r s₃ h₃ => wpAny_bind (wpAny_letTemporaryGo (wpAny_pure h₃))) fun _ _ x => x)
  first
    | exact wpAny_pure (wpAny_bind fin)
    | exact wpAny_bind (wpAny_pure (wpAny_bind fin))
    | exact wpAny_bind fin
theorem dict_typeIs {X : Cx} {pins : List (Addr × Obj)} {σ : St} {H : Hp} {s : Shared} {a : Addr} {y : V} {o : Option V} (I : Inv X pins σ H s) (g : DGet H a y o) : s.TypeIs (.ref a) "dict" := by
  rcases g with ⟨kvs, k, e, _, _⟩ | ⟨kvs, k, b, e, _, _, _⟩
  · obtain ⟨_, _, vs, _, dd⟩ := dk_rd I.hok e
    exact dd.typeIs
  · obtain ⟨_, _, xs, _, dd⟩ := dt_rd I.hok e
    exact dd.typeIs
def tDGet (td ty : TE) : TE := fun σ H Q => td σ H fun x H1 => ty σ H1 fun y H2 => ∃ a v, x = .ref a ∧ DGet H2 a y (some v) ∧ Q v H2
def sDPut (td ty tv : TE) : TS := fun D σ H => tv σ H fun v H1 => td σ H1 fun x H2 => ty σ H2 fun y H3 => ∃ a H4, x = .ref a ∧ DPut H3 a y v H4 ∧ D.nx σ H4
section
variable {X : Cx} {o i e value : Expr} {pos pos' tpos : Pos} {td ty tv : TE}
theorem pe_dget (hu : X.A.units + 1 < cLine) (ho : PE X o td) (hi : PE X i ty) (hs : NoSl i) : PE X (.Subscript o i pos) (tDGet td ty) := by
  intro pins s σ H Q I h
  refine subD_of PySem.F.slot_dict_getitem.lookup hs (thn (ho pins s σ H _ I h) fun u s1 ⟨x, H1, I1, rx, q1⟩ => thn (hi pins s1 σ H1 _ I1 q1) fun iv s2 ⟨y, H2, I2, ry, a, v, ex, g, q2⟩ => ?_)
  subst ex
  obtain rfl : u = Value.ref a := rx
  exact ⟨dict_typeIs I2 g, d_getItem hu I2 g ry fun w' s3 I3 rw' => ⟨v, H2, I3, rw', q2⟩⟩
theorem ps_dput (hu : X.A.units + 1 < cLine) (ho : PE X o td) (hi : PE X i ty) (hv : PE X value tv) (hs : swapsWith value (some (.Subscript o i pos')) pos.line X.env = pure false) :
    PS X (.Assign [.Subscript o i pos'] value pos) (sDPut td ty tv) := by
  intro pins s σ H D I h
  refine wpAny_Assign_Subscript (thn (hv pins s σ H _ I h) fun r s1 ⟨v, H1, I1, rv, q1⟩ => thn (ho pins s1 σ H1 _ I1 q1) fun u s2 ⟨x, H2, I2, rx, q2⟩ => thn (hi pins s2 σ H2 _ I2 q2) fun iv s3 ⟨y, H3, I3, ry, a, H4, ex, g, q3⟩ => ?_) hs
  subst ex
  obtain rfl : u = Value.ref a := rx
  exact d_setItem hu I3 g ry rv fun s4 I4 => ⟨σ, H4, I4, q3⟩
end
theorem dk_empty {P : Program} {w : World} {H : Hp} (h : Heap) (hb : sysModules < h.objs.size) : ObjOk P w H (h.push { cls := .type "dict", data := .dict #[] }) h.objs.size (.dK []) :=
  ⟨Nat.zero_le _, beq_eq_false_iff_ne.mpr (Ne.symm (Nat.ne_of_lt hb)), [], .nil, Heap.DictOf.new h⟩
def tDNewK : TE := fun _ H Q => ∀ p, H p = none → Q (.ref p) (upd H p (.dK []))
section
variable {X : Cx} {pos : Pos}
theorem pe_dnewK : PE X (.Dict [] [] pos) tDNewK := fun pins s σ H Q I h =>
  wpAny_Dict_empty ⟨.ref s.heap.objs.size, _, I.laid (a := s.heap.objs.size) (o := .dK []) (t' := s.toks) (fun _ _ q => Heap.get?_push_of_some _ q) (Nat.le_refl _) (dk_empty s.heap I.big), rfl, h _ (I.hok.fresh (Nat.le_refl _))⟩
end
structure M2 (X : Cx) (o : Expr) (m : Str) (apos : Pos) (e f : Expr) (cpos : Pos) : Prop where
  base : attributeBase o m X.env (eval o X.env) = eval o X.env
  few : ((backTo cpos (starEach [e, f] X.env)).all (fun x => !x.1) && (backToKw cpos (keywordEach [] X.env)).all (fun x => x.1.isSome)
    && decide (([e, f] : List Expr).length + ([] : List Keyword).length + (if ([] : List Keyword).isEmpty then 0 else 1) < 30)) = true
  line : (apos.endLine == cpos.line) = true
  trees : backTo cpos (starEach [e, f] X.env) = [(false, eval e X.env), (false, eval f X.env)]
def IsD (H : Hp) (a : Addr) : Prop := (∃ kvs, Rd H a (.dK kvs)) ∨ ∃ kvs, Rd H a (.dT kvs)
theorem isD_at {X : Cx} {pins : List (Addr × Obj)} {σ : St} {H : Hp} {s : Shared} {a : Addr} (I : Inv X pins σ H s) (d : IsD H a) :
    s.TypeIs (.ref a) "dict" ∧ (∀ b, Value.ref a = .ref b → ∃ ob, s.heap.get? b = some ob ∧ ob.dict = none) ∧ (a == sysModules) = false := by
  rcases d with ⟨kvs, e⟩ | ⟨kvs, e⟩
  · obtain ⟨_, hd, vs, _, dd⟩ := dk_rd I.hok e
    refine ⟨dd.typeIs, fun b q => ?_, hd⟩
    cases q
    obtain ⟨ob, _, _, h1, h2, _⟩ := dd
    exact ⟨ob, h1, h2.2.1⟩
  · obtain ⟨_, hd, xs, _, dd⟩ := dt_rd I.hok e
    refine ⟨dd.typeIs, fun b q => ?_, hd⟩
    cases q
    obtain ⟨ob, _, _, h1, h2, _⟩ := dd
    exact ⟨ob, h1, h2.2.1⟩
section
variable {X : Cx} {pins : List (Addr × Obj)} {σ : St} {H : Hp} {s : Shared} {a : Addr} {y d : V} {u r : Value} {o : Option V} {A : Around} {E : Value → Shared → Prop}
theorem d_get2 {Q : Value → Shared → Prop} (hu : A.units + 1 < cLine) (I : Inv X pins σ H s) (g : DGet H a y o) (ry : RelV y u) (rd : RelV d r) (h : ∀ w' s', Inv X pins σ H s' → RelV (o.getD d) w' → Q w' s') :
    wpAny (model X.prog X.w) A (call (.builtin "dict.get") [.ref a, u, r]) Q E s := by
  rcases g with ⟨kvs, k, e, ey, l⟩ | ⟨kvs, k, b, e, ey, eb, l⟩
  · subst ey
    obtain ⟨z, hd, vs, rel, dd⟩ := dk_rd I.hok e
    refine call_meetsIn PySem.F.slot_dict_get dd.typeIs PySem.F.entry_dict_get (PySem.F.args_dict_get_3 _ _ _) (meets_dict_get_default (mixKind X.prog X.w) a (kV_is ry) hd r) ⟨_, dd.mapOf, h _ _ (I.tok _) ?_⟩
    rw [l]
    exact (rel.val k).getD rd
  · subst ey
    cases (show u = Value.ref b from ry)
    obtain ⟨z, hd, xs, rel, dd⟩ := dt_rd I.hok e
    refine call_meetsIn PySem.F.slot_dict_get dd.typeIs PySem.F.entry_dict_get (PySem.F.args_dict_get_3 _ _ _) (meetsH_dict_get_default (tupleKind (mixKind X.prog X.w)) a b hd r) ⟨tupleKind_room_in1 hu, k, xs, key_of I.hok eb, dd, h _ _ (I.tok _) ?_⟩
    rw [l]
    exact (rel.val k).getD rd
end
def tDGet2 (td ty tx : TE) : TE := fun σ H Q => td σ H fun x H1 => ∃ a, x = .ref a ∧ IsD H1 a ∧ ty σ H1 fun y H2 => tx σ H2 fun z H3 => ∃ o, DGet H3 a y o ∧ Q (o.getD z) H3
section
variable {X : Cx} {o e f : Expr} {apos cpos : Pos} {td ty tx : TE}
theorem pe_dget2 (hu : X.A.units + 1 < cLine) (ho : PE X o td) (he : PE X e ty) (hf : PE X f tx) (m : M2 X o "get" apos e f cpos) : PE X (.Call (.Attribute o "get" apos) [e, f] [] cpos) (tDGet2 td ty tx) := by
  intro pins s σ H Q I h
  refine wpAny_Call_method m.base m.few m.line PySem.F.plainAttrs_dict PySem.F.slot_dict_get PySem.F.type_dict_get (thn (ho pins s σ H _ I h) fun u s1 ⟨x, H1, I1, rx, a, ex, d, q1⟩ => ?_)
  subst ex
  obtain rfl : u = Value.ref a := rx
  obtain ⟨t1, t2, _⟩ := isD_at I1 d
  refine ⟨t1, t2, ?_⟩
  rw [m.trees]
  refine Calls.callWith_builtin rfl (Calls.evalArgs_plain (Calls.spliced_cons (thn (he pins s1 σ H1 _ I1 q1) fun iv s2 ⟨y, H2, I2, ry, q2⟩ =>
    Calls.spliced_cons (thn (hf pins s2 σ H2 _ I2 q2) fun fv s3 ⟨z, H3, I3, rz, ov, g, q3⟩ => Calls.spliced_nil ?_))))
  exact d_get2 hu I3 g ry rz fun w' s4 I4 rw' => ⟨_, H3, I4, rw', q3⟩
end
section
variable {X : Cx} {pins : List (Addr × Obj)} {σ : St} {H : Hp} {s : Shared} {a : Addr} {kvs : List (Key × V)} {A : Around} {E : Value → Shared → Prop}
end
section
variable {X : Cx} {pins : List (Addr × Obj)} {σ : St} {H : Hp} {s : Shared} {a : Addr} {y : V} {u : Value} {A : Around} {E : Value → Shared → Prop}
end
end L2
namespace Att
open PySem PySem.W PySem.Calls PyProof.Rows
theorem ints_of_wellAll {P : Params} {h : Heap} : ∀ (ns : List Int) (vs : List Value), WellAll P h vs (ns.map WData.int) → IntsAre vs ns := by
  intro ns
  induction ns with
  | nil =>
    intro vs w
    rw [List.map_nil] at w
    cases w
    exact .nil
  | cons n ns ih =>
    intro vs w
    rw [List.map_cons] at w
    cases w with
    | cons a b =>
      cases a
      exact .cons _ _ (ih _ b)
theorem script_of {l : OpenLaw} {n : Nat} (hn : l.most = some n) {P : Params} {h : Heap} {args : List WData} {vals : List Value}
    (hpre : l.row.toRowW.claim.pre args = true) (hwl : WellAll P h vals args) :
    ∃ a vs ns, vals = [Value.ref a] ∧ args = [WData.list (ns.map WData.int)] ∧ h.get? a = some { cls := .type "list", data := .seq vs.toArray } ∧ IntsAre vs ns ∧ ns.length ≤ n := by
  have hsh : WShape.hasAll [] args [.list .int] = true := (pre_splitW hpre).1
  have hc : l.pre.holds [] { args := args } = true := (pre_splitW hpre).2
  obtain ⟨d, r, rfl, h1, h2⟩ := hasAllW_cons hsh
  obtain rfl := hasAllW_nil h2
  obtain ⟨xs, rfl, h3⟩ := hasW_list h1
  obtain ⟨ns, rfl⟩ := items_int h3
  have hlen : ns.length ≤ n := by
    unfold OpenLaw.pre at hc
    have h4 : (WTm.not (.lt (.lit (.int (n : Int))) (.len (.arg 0)))).holds [] { args := [.list (ns.map .int)] } = true := by
      have h4 := (holds_andW hc).1
      rw [hn] at h4
      exact h4
    have h5 := condW_of h4 (w_not (w_lt w_lit (w_len_list (w_arg rfl))))
    rw [List.length_map] at h5
    refine Nat.le_of_not_lt fun q => ?_
    have q' : (n : Int) < ((ns.length : Nat) : Int) := by omega
    first
      | (rw [decide_eq_true q'] at h5; exact absurd h5 (by decide))
      | (simp at h5; omega)
  cases hwl with
  | cons w1 w2 =>
    cases w2
    cases w1 with
    | list ho hall => exact ⟨_, _, ns, rfl, rfl, ho, ints_of_wellAll ns _ hall, hlen⟩
theorem post_true (l : OpenLaw) (args : List WData) : l.row.toRowW.claim.post args (.bool true) args = true :=
  postW_of (r := l.row.toRowW) (X := (true == true))
    (show WShape.has [] (.bool true) .bool = true by first | rfl | decide | simp [WShape.has, WShape.arms, WShape.armsAll])
    (show (WTm.eq .res (.lit (.bool true))).value [] { args := args, res := some (.bool true), after := args } = some (.bool (true == true)) from w_eq_bool (w_res rfl) w_lit) rfl
theorem attach_call {l : OpenLaw} {n : Nat} {q : Program} {loose : List Str} {XP : (Str → Option Value) → Heap → Prop} {YP : World → Heap → Prop} {d : DefRec}
    (hn : l.most = some n) (hdf : d.params.defaults = [])
    (call : ∀ (w : World) (s₀ s₁ : Shared) (mg mb : Str → Option Value) (fa : Addr) (o : Obj) (pm cd doc : Value) (a : Addr) (vs : List Value) (ns : List Int),
      Ground q loose [] XP w s₀ mg mb s₁.heap → YP w s₁.heap →
      s₁.heap.get? fa = some o → o.data = .func (docDef d.name d.params d.body d.scope pm cd doc) → s₁.heap.CodeRec cd d.name → mg d.name = some (.ref fa) →
      s₁.heap.get? a = some { cls := .type "list", data := .seq vs.toArray } → IntsAre vs ns → ns.length ≤ n → s₁.gens = #[] →
      codeAny (model l.prog w) callerA (.call (.ref fa) ⟨[.ref a], []⟩) (fun r s' => r = .ok (.ret (.bool true)) ∧ OldK s₁.heap s'.heap ∧ s'.os = s₁.os ∧ AllBare s'.gens) s₁) :
    WalkO q loose XP YP l.row.toRowW d [] (fun f vs => PySem.call f vs) := by
  intro w s₀ s₁ mg mb G Y fa o pm cd doc dV kV ho hd hcd hD hmg hg args vals as hpre hlay hrd hwl hlo
  obtain rfl : dV = .none := Dflts.none hD hdf
  obtain rfl : kV = .none := Dflts.noKw hD
  obtain ⟨a, vs, ns, rfl, rfl, hobj, hints, hlen⟩ := script_of hn hpre hwl
  refine enter_call (codeAny_mono (call w s₀ s₁ mg mb fa o pm cd doc a vs ns G Y ho (fd_plain hd) hcd hmg hobj hints hlen hg) fun r s' hq => ?_)
  obtain ⟨rfl, h2, h3, h4⟩ := hq
  exact ⟨.inl ⟨.bool true, .bool true, [], rfl, fun _ => rfl, .bool true, post_true l _, fun _ => ⟨List.Pairwise.nil, fun _ hm => (nomatch hm)⟩⟩, h2, h3, h4⟩
section
variable {prog : Program} {w : World} {A : Around} {E : Value → Shared → Prop} {s : Shared} {K : Frag}
end
end Att
namespace L2
open PySem PySem.Spec PyProof.Rows
theorem vals_ints : ∀ {vs : List Value} {ns : List Int}, IntsAre vs ns → Vals (ns.map V.int) vs
  | _, _, .nil => .nil
  | _, _, .cons n t h => .cons ⟨t, rfl⟩ (vals_ints h)
def Only (H : Hp) : Prop := ∀ b, H b = none ∨ ∃ o xs, H b = some (.frz o (.lst xs))
theorem law_call {P : Program} {w : World} {K : PySem.W.Frag} {mg mb : Str → Option Value} {CX : CXT} {k : Nat} {fa a : Addr} {fd : FuncData} {x : Str} {sp : Sp} {s₁ : Shared} {vs : List Value} {ns : List Int}
    (KX : K.In s₁.heap) (hns : s₁.heap.Ns mainGlobals mg) (hb : s₁.heap.Ns builtinsNs mb) (hbb : ∀ x : Str, x ≠ "__name__" → mb x = bootBuiltins x) (hlim : s₁.heap.NoLimit) (hbm : ∃ bm o, mg "__builtins__" = some (.ref bm) ∧ bm ≠ builtinsNs ∧ s₁.heap.get? bm = some o ∧ o.cls = .type "module" ∧ o.dict = some builtinsNs ∧ o.data = .plain) (hg : s₁.gens = #[])
    (ha : s₁.heap.get? a = some { cls := .type "list", data := .seq vs.toArray }) (hi : IntsAre vs ns) (hl : ns.length ≤ sizeLine) (hr : Room k callerA)
    (F : ∀ base : Heap, K.In base → base.Ns mainGlobals mg → FnOk P w K mg base CX k fa fd [x] sp) (hbind : ∀ (s : Shared) (u : Value), BindsTo s fd ⟨[u], []⟩ [(x, u)])
    (hsp : ∀ H : Hp, Only H → SqL K H a (ns.map V.int) → sp [.ref a] H (fun v _ => v = .bl true) fun _ _ _ => False)
    (hCX : ∀ H e s', CX [] H s₁ (fun _ _ _ => False) e s' → False) :
    codeAny (model P w) callerA (.call (.ref fa) ⟨[.ref a], []⟩) (fun r s' => r = .ok (.ret (.bool true)) ∧ OldK s₁.heap s'.heap ∧ s'.os = s₁.os ∧ AllBare s'.gens) s₁ := by
  have rv := vals_ints hi
  have lenV := hi.length
  -- from an abstract heap in which nothing but the script may be tracked
  have core : ∀ H : Hp, Only H → SqL K H a (ns.map V.int) → HOk P w H s₁.heap → (∀ b, H b ≠ none → b = a) → (H a ≠ none → K.lookup a = none) →
      codeAny (model P w) callerA (.call (.ref fa) ⟨[.ref a], []⟩) (fun r s' => r = .ok (.ret (.bool true)) ∧ OldK s₁.heap s'.heap ∧ s'.os = s₁.os ∧ AllBare s'.gens) s₁ := by
    intro H hO hS hok hA hK
    have base_of : ∀ {b : Addr} {o : Obj}, s₁.heap.get? b = some o → H b = none → (hidT s₁.heap H).get? b = some o := fun e n => hidT_get e n
    have noA : ∀ {b : Addr} {o : Obj} {es : Array DictEntry} {ep : Nat}, s₁.heap.get? b = some o → o.data = .dict es ep → H b = none := fun {b o es ep} e d => by
      cases q : H b with
      | none => rfl
      | some u =>
        have e' : b = a := hA b (by rw [q]; simp)
        subst e'
        rw [ha] at e; cases e
        have d' : Data.seq vs.toArray _ = Data.dict es ep := d
        cases d'
    have nsK : ∀ {b : Addr} {m : Str → Option Value}, s₁.heap.Ns b m → (hidT s₁.heap H).Ns b m := fun {b m} ⟨o, es, ep, e, d, r⟩ => ⟨o, es, ep, base_of e (noA e d), d, r⟩
    have hKb : K.In (hidT s₁.heap H) := fun b o e => base_of (KX b o e) (by
      cases q : H b with
      | none => rfl
      | some u =>
        have e' : b = a := hA b (by rw [q]; simp)
        subst e'
        rw [hK (by rw [q]; simp)] at e; cases e)
    have hbmK : ∃ bm o, mg "__builtins__" = some (.ref bm) ∧ bm ≠ builtinsNs ∧ (hidT s₁.heap H).get? bm = some o ∧ o.cls = .type "module" ∧ o.dict = some builtinsNs ∧ o.data = .plain := by
      obtain ⟨bm, o, b1, b2, b4, b5, b6⟩ := hbm
      refine ⟨bm, o, b1, b2, base_of b4 ?_, b5, b6⟩
      cases q : H bm with
      | none => rfl
      | some u =>
        have e' : bm = a := hA bm (by rw [q]; simp)
        subst e'
        rw [ha] at b4; cases b4
        exact absurd b5 (by simp)
    have hM : Mod K mg (hidT s₁.heap H) := ⟨hKb, nsK hns, ⟨mb, nsK hb, hbb⟩, let ⟨mc, h1, h2⟩ := hlim; ⟨mc, nsK h1, h2⟩, hbmK⟩
    have e0 : Env0 P w K mg (hidT s₁.heap H) callerA [] s₁ H := ⟨rfl, hM, fun b o e => of_hidT e, Nat.le_of_eq (hidT_size _ _), trivial, fun b hb => absurd (show b ∈ ([] : List Addr) from hb) (by simp), hok, .of_eq hg⟩
    refine codeAny_mono ((F _ hKb (nsK hns)).run callerA [] s₁ H ⟨[.ref a], []⟩ [.ref a] [.ref a] _ _ hr e0 (hbind s₁ (.ref a)) (.cons rfl .nil) (hsp H hO hS)) fun r s' h => ?_
    cases r with
    | error e => exact (hCX H e s' h).elim
    | ok fl =>
      cases fl with
      | next => exact False.elim h
      | brk => exact False.elim h
      | cont => exact False.elim h
      | ret u =>
        obtain ⟨v, H', os, bare, un, hok', r', q⟩ := h
        have q' : v = .bl true := q
        subst q'
        obtain rfl : u = Value.bool true := r'
        refine ⟨rfl, OldK.of_keep fun b o e => ?_, os, bare⟩
        cases q : H b with
        | none => exact un.keep b o e q (by intro z; exact absurd (show b ∈ ([] : List Addr) from z) (by simp)) (by simp)
        | some u =>
          rcases hO b with z | ⟨ob, xs, z⟩
          · rw [q] at z; cases z
          · have z2 := un.frzs b ob _ z
            obtain ⟨e1, _⟩ := hok b _ z
            obtain ⟨e2, _⟩ := hok' b _ z2
            rw [e] at e1; cases e1
            exact e2
  cases hk : K.lookup a with
  | some o =>
    -- the script is one of the module's own objects
    have e := KX a o hk
    rw [ha] at e
    cases e
    refine core (fun _ => none) (fun _ => .inl rfl) (.inr ⟨_, vs.toArray, _, hk, rfl, rfl, rfl, by rw [List.size_toArray, lenV]; exact hl, by simpa using rv⟩) (fun b u z => by have z' : (none : Option HO) = some u := z; cases z') (fun b z => absurd rfl z) fun z => absurd rfl z
  | none =>
    refine core (fun b => if b = a then some (.frz { cls := .type "list", data := .seq vs.toArray } (.lst (ns.map V.int))) else none) (fun b => ?_) (.inl (.inr ⟨{ cls := .type "list", data := .seq vs.toArray }, if_pos rfl⟩)) (fun b u z => ?_) (fun b z => ?_) fun _ => hk
    · by_cases hb : b = a
      · exact .inr ⟨_, _, if_pos hb⟩
      · exact .inl (if_neg hb)
    · by_cases hb : b = a
      · have z' := (if_pos hb).symm.trans z
        cases z'
        subst hb
        exact ⟨ha, by rw [List.length_map]; exact hl, vs, _, rv, ha⟩
      · have z' := (if_neg hb).symm.trans z
        cases z'
    · by_cases hb : b = a
      · exact hb
      · exact absurd (if_neg hb) z
end L2
namespace L2
open PySem PySem.Spec PyProof.Rows
theorem walk_of {l : PySem.W.OpenLaw} {n k : Nat} {q : Program} {loose : List Str} {XP : (Str → Option Value) → Heap → Prop} {YP : World → Heap → Prop} {d : DefRec} {K : Params → PySem.W.Frag} {CX : World → CXT} {sp : World → Sp} {x : Str}
    (hn : l.most = some n) (hn2 : n ≤ sizeLine) (hdf : d.params.defaults = []) (hr : Room k callerA)
    (hY : ∀ (w : World) (h : Heap), YP w h → (K w.params).In h)
    (F : ∀ (w : World) (mg : Str → Option Value) (fa : Addr) (h : Heap), (K w.params).In h → h.Ns mainGlobals mg → mg d.name = some (.ref fa) →
      ∃ fd : FuncData, (∀ (s : Shared) (u : Value), BindsTo s fd ⟨[u], []⟩ [(x, u)]) ∧
        ∀ base : Heap, (K w.params).In base → base.Ns mainGlobals mg → FnOk l.prog w (K w.params) mg base (CX w) k fa fd [x] (sp w))
    (hsp : ∀ (w : World) (H : Hp) (a : Addr) (ns : List Int), ns.length ≤ n → Only H → SqL (K w.params) H a (ns.map V.int) → sp w [.ref a] H (fun v _ => v = .bl true) fun _ _ _ => False)
    (hCX : ∀ (w : World) (H : Hp) (s : Shared) (e : Value) (s' : Shared), CX w [] H s (fun _ _ _ => False) e s' → False) :
    PySem.W.WalkO q loose XP YP l.row.toRowW d [] (fun f vs => PySem.call f vs) := by
  refine Att.attach_call hn hdf fun w s₀ s₁ mg mb fa o pm cd doc a vs ns G Y ho hd hcd hmg hobj hints hlen hg => ?_
  have KX := hY w _ Y
  obtain ⟨fd, hb, hF⟩ := F w mg fa _ KX G.T.g hmg
  exact law_call KX G.T.g G.T.b G.T.builtins G.T.nolimit G.T.bmain hg hobj hints (Nat.le_trans hlen hn2) hr hF hb (fun H hO hS => hsp w H a ns hlen hO hS) fun H e s' => hCX w H s₁ e s'
end L2
namespace L2
open PySem PySem.Spec PyProof.Rows
def defArgs (s : Stmt) : Arguments := match s with
  | .FunctionDef _ a _ _ _ _ _ _ _ _ => a
  | _ => { posonlyargs := [], args := [], vararg := none, kwonlyargs := [], kw_defaults := [], kwarg := none, defaults := [] }
def defBody (s : Stmt) : List Stmt := match s with
  | .FunctionDef _ _ b _ _ _ _ _ _ _ => b
  | _ => []
def defScope (s : Stmt) : Scope := match s with
  | .FunctionDef _ _ _ _ _ _ sc _ _ _ => sc
  | _ => { kind := .function, names := [], isGenerator := false, isCoroutine := false }
abbrev CX0 : CXT := fun _ _ _ _ _ _ => False
abbrev E0 : XK := fun _ _ _ => False
theorem pass0 {X : Cx} : Passes CX0 X E0 := fun _ _ _ _ _ _ _ h => h.elim
structure Fun (K : PySem.W.Frag) (x qual : Str) (st : Stmt) (f : Addr) (fd : FuncData) : Prop where
  ex : ∃ (oc : Value) (od : Option Addr) (kV doc pm : Value) (an : Option Addr) (cdv ct : Value) (osl : Array (Option Value)),
    fd = PySem.W.fnOf x qual (defArgs st) (defBody st) (defScope st) .none kV doc pm an cdv ct ∧ K.lookup f = some ⟨oc, od, .func fd, osl⟩ ∧ PySem.W.codeIn K cdv qual = true
  kp : PySem.W.keepIn K (.ref f) = true
section
variable {P : Program} {w : World} {K : PySem.W.Frag} {mg : Str → Option Value} {base : Heap}
theorem Fun.ok {x qual : Str} {st : Stmt} {f : Addr} {fd : FuncData} {N ps : List Str} {k : Nat} {sp : Sp} (F : Fun K x qual st f fd) (S : FnScope N ps (defScope st)) (len : ∀ vs H Q E, sp vs H Q E → vs.length = ps.length)
    (hbody : ∀ (cdv : Value) (A : Around) (outer : List Env) (s : Shared) (H : Hp) (vs : List V) (Q : VK) (E : XK), Room k (A.deeper (envOfC qual (defScope st) s.heap.objs.size f cdv)) → sp vs H Q E →
      ∃ t, PSs (cxOf CX0 P w K mg base N qual (defScope st) f cdv A outer s H E).nox (defBody st) t ∧ t { nx := fun _ H' => Q .non H', rt := Q } (start N vs) H) : FnOk P w K mg base CX0 (k + 1) f fd ps sp := by
  obtain ⟨oc, od, kV, doc, pm, an, cdv, ct, osl, rfl, lk, hcd⟩ := F.ex
  refine fn_of lk hcd S len fun A outer s H vs Q E hr hsp => ?_
  obtain ⟨t, h, q⟩ := hbody cdv A outer s H vs Q E hr hsp
  exact ⟨t, h.nox, q⟩
theorem Fun.binds {x qual : Str} {st : Stmt} {f : Addr} {fd : FuncData} {ps : List Str} (F : Fun K x qual st f fd)
    (h : ∀ (kV doc pm : Value) (an : Option Addr) (cdv ct : Value) (us : List Value), us.length = ps.length → bindArgs (PySem.W.fnOf x qual (defArgs st) (defBody st) (defScope st) .none kV doc pm an cdv ct) ⟨us, []⟩ = pure (ps.zip us)) : Binds K fd ps [] := by
  obtain ⟨oc, od, kV, doc, pm, an, cdv, ct, osl, rfl, lk, hcd⟩ := F.ex
  exact .all (h kV doc pm an cdv ct)
theorem fun_mk {x qual : Str} {st : Stmt} {f : Addr} {oc : Value} {od an : Option Addr} {osl : Array (Option Value)} {kV doc pm cdv ct : Value} (l : K.lookup f = some ⟨oc, od, .func (PySem.W.fnOf x qual (defArgs st) (defBody st) (defScope st) .none kV doc pm an cdv ct), osl⟩)
    (c : PySem.W.codeIn K cdv qual = true) (k : PySem.W.keepIn K (.ref f) = true) : Fun K x qual st f (PySem.W.fnOf x qual (defArgs st) (defBody st) (defScope st) .none kV doc pm an cdv ct) := ⟨⟨oc, od, kV, doc, pm, an, cdv, ct, osl, rfl, l, c⟩, k⟩
end
theorem hu_of {A : Around} {k : Nat} (hr : Room k A) : A.units + 1 < cLine := Nat.lt_of_le_of_lt (Nat.add_le_add_left (by decide : 1 ≤ 64) _) hr.units
theorem small1000 {n : Nat} (h : n ≤ 1000) : n < sizeLine := Nat.lt_of_le_of_lt h (by decide)
section
variable {X : Cx}
theorem pv (i : Nat) {x : Str} {pos : Pos} (hN : X.N[i]? = some x := by rfl) (hv : Vis X.env.scope x := by first | exact Or.inl rfl | exact Or.inr (Or.inl rfl) | exact Or.inr (Or.inr rfl)) (hd : (x == ("__debug__" : Str)) = false := by decide)
    (hcd : (x == ("__classdict__" : Str)) = false := by decide) : PE X (.Name x pos) (tVar i) := pe_var hN hv hd hcd
end
theorem iteF {A B : Prop} (h : B) : if false = true then A else B := by
  rw [if_neg Bool.false_ne_true]
  exact h
theorem iteT {A B : Prop} (h : A) : if true = true then A else B := by
  rw [if_pos rfl]
  exact h
theorem ite2 {c A B : Prop} [Decidable c] (h1 : c → A) (h2 : ¬ c → B) : if c then A else B := by
  by_cases h : c
  · rw [if_pos h]
    exact h1 h
  · rw [if_neg h]
    exact h2 h
def Same (H H' : Hp) : Prop := ∀ b o, H b = some o → H' b = some o
theorem Same.refl (H : Hp) : Same H H := fun _ _ h => h
theorem Same.trans {H H1 H2 : Hp} (a : Same H H1) (b : Same H1 H2) : Same H H2 := fun c o h => b c o (a c o h)
theorem Same.free {H H' : Hp} (e : Same H H') {l : Addr} (h : H' l = Option.none) : H l = Option.none := by
  cases q : H l with
  | none => rfl
  | some o =>
    rw [e l o q] at h
    cases h
theorem Same.seq {K : PySem.W.Frag} {H H' : Hp} {a : Addr} {xs : List V} (e : Same H H') (h : SqL K H a xs) : SqL K H' a xs := by
  rcases h with (h | ⟨o, h⟩) | h
  · exact .inl (.inl (e _ _ h))
  · exact .inl (.inr ⟨o, e _ _ h⟩)
  · exact .inr h
section
variable {κ : Type} [DecidableEq κ]
theorem nd_snoc : ∀ {l : List κ} {k : κ}, l.Nodup → ¬ k ∈ l → (l ++ [k]).Nodup
  | [], k, _, _ => by simp
  | a :: r, k, h, hk => by
    obtain ⟨h1, h2⟩ := List.nodup_cons.mp h
    show (a :: (r ++ [k])).Nodup
    refine List.nodup_cons.mpr ⟨fun m => ?_, nd_snoc h2 fun m => hk (List.mem_cons.mpr (Or.inr m))⟩
    rcases List.mem_append.mp m with q | q
    · exact h1 q
    · exact hk (List.mem_cons.mpr (Or.inl (List.mem_singleton.mp q).symm))
end
end L2
set_option maxHeartbeats 4000000
namespace L2
open PySem PySem.Spec PyProof.Rows
def closL (cells : List (Str × Addr)) : List (Str × NameKind) → List (Str × Addr) → List (Str × Addr)
  | [], acc => acc
  | (n, k) :: r, acc => if k = .free then (match cells.lookup n with | some c => closL cells r ((n, c) :: acc) | none => closL cells r acc) else closL cells r acc
theorem closL_sound {cells : List (Str × Addr)} {x : Str} {c : Addr} : ∀ (names : List (Str × NameKind)) (acc : List (Str × Addr)), (closL cells names acc).lookup x = some c →
    acc.lookup x = some c ∨ (cells.lookup x = some c ∧ (x, NameKind.free) ∈ names)
  | [], acc, h => .inl h
  | (n, k) :: r, acc, h => by
    unfold closL at h
    by_cases hk : k = .free
    · rw [if_pos hk] at h
      cases hc : cells.lookup n with
      | none =>
        rw [hc] at h
        rcases closL_sound r acc h with z | ⟨z, m⟩
        · exact .inl z
        · exact .inr ⟨z, List.mem_cons_of_mem _ m⟩
      | some d =>
        rw [hc] at h
        rcases closL_sound r ((n, d) :: acc) h with z | ⟨z, m⟩
        · rw [List.lookup_cons] at z
          by_cases hx : (x == n) = true
          · rw [hx] at z
            have e : x = n := by simpa using hx
            cases z
            subst e; subst hk
            exact .inr ⟨hc, List.mem_cons_self⟩
          · have hx' : (x == n) = false := by simpa using hx
            rw [hx'] at z
            exact .inl z
        · exact .inr ⟨z, List.mem_cons_of_mem _ m⟩
    · rw [if_neg hk] at h
      rcases closL_sound r acc h with z | ⟨z, m⟩
      · exact .inl z
      · exact .inr ⟨z, List.mem_cons_of_mem _ m⟩
theorem closL_whole {cells : List (Str × Addr)} {x : Str} {c : Addr} (hc : cells.lookup x = some c) : ∀ (names : List (Str × NameKind)) (acc : List (Str × Addr)), (acc.lookup x = some c ∨ (x, NameKind.free) ∈ names) →
    (closL cells names acc).lookup x = some c
  | [], acc, h => by
    rcases h with h | h
    · exact h
    · cases h
  | (n, k) :: r, acc, h => by
    unfold closL
    by_cases hk : k = .free
    · rw [if_pos hk]
      by_cases hx : (x == n) = true
      · have e : x = n := by simpa using hx
        subst e
        rw [hc]
        exact closL_whole hc r _ (.inl (by rw [List.lookup_cons, beq_self_eq_true]))
      · have hx' : (x == n) = false := by simpa using hx
        have m : acc.lookup x = some c ∨ (x, NameKind.free) ∈ r := by
          rcases h with h | h
          · exact .inl h
          · rcases List.mem_cons.mp h with z | z
            · injection z with z1 _
              rw [z1, beq_self_eq_true] at hx'
              cases hx'
            · exact .inr z
        cases hn : cells.lookup n with
        | none => exact closL_whole hc r acc m
        | some d =>
          refine closL_whole hc r _ (m.imp (fun z => ?_) fun z => z)
          rw [List.lookup_cons, hx']
          exact z
    · rw [if_neg hk]
      refine closL_whole hc r acc (h.imp (fun z => z) fun z => ?_)
      rcases List.mem_cons.mp z with z | z
      · injection z with _ z2
        exact absurd z2.symm hk
      · exact z
theorem closureFor_some {scope : Scope} {env : Env} (h : ∀ y ∈ scope.names, y.2 = .free → ∃ c, env.cells.lookup y.1 = some c) : closureFor scope env = pure (closL env.cells scope.names []) := by
  have go : ∀ (names : List (Str × NameKind)) (acc : List (Str × Addr)), (∀ y ∈ names, y.2 = .free → ∃ c, env.cells.lookup y.1 = some c) →
      (forIn names acc fun (x : Str × NameKind) (cs : List (Str × Addr)) => (if (x.2 == NameKind.free) = true then do let a ← cellOf env x.1; pure (ForInStep.yield ((x.1, a) :: cs)) else pure (ForInStep.yield cs) : Sem _)) = pure (closL env.cells names acc) := by
    intro names
    induction names with
    | nil => intro acc _; rfl
    | cons y r ih =>
      intro acc hy
      obtain ⟨n, k⟩ := y
      rw [List.forIn_cons]
      have hr := fun a => ih a fun z hz => hy z (List.mem_cons_of_mem _ hz)
      by_cases hk : k = .free
      · subst hk
        obtain ⟨c, hc⟩ := hy (n, .free) List.mem_cons_self rfl
        have hc' : env.cells.lookup n = some c := hc
        unfold closL
        simp only [beq_self_eq_true, if_true, cellOf, hc', pure_bind]
        exact hr _
      · have hb : (k == NameKind.free) = false := by simpa using hk
        unfold closL
        simp only [hb, Bool.false_eq_true, if_false, pure_bind, if_neg hk]
        exact hr _
  have g := go scope.names [] h
  simp only [closureFor]
  rw [g]
  rfl
def relab (env : Env) (n : Str) (k : NameKind) : NameKind := if (k == .free && env.scope.kind == .function && env.kindOf n == some .cell) = true then .cell else k
theorem lookup_relabel (env : Env) (x : Str) : ∀ (names : List (Str × NameKind)),
    (names.map fun (n, k) => if (k == NameKind.free && env.scope.kind == .function && env.kindOf n == some .cell) then (n, NameKind.cell) else (n, k)).lookup x = (names.lookup x).map (relab env x)
  | [] => rfl
  | (n, k) :: r => by
    have ih := lookup_relabel env x r
    show List.lookup x ((if (k == NameKind.free && env.scope.kind == .function && env.kindOf n == some .cell) = true then (n, NameKind.cell) else (n, k)) :: _) = _
    have e1 : (if (k == NameKind.free && env.scope.kind == .function && env.kindOf n == some .cell) = true then (n, NameKind.cell) else (n, k)) = (n, relab env n k) := by
      unfold relab; split <;> rfl
    rw [e1, List.lookup_cons, List.lookup_cons]
    cases hx : x == n with
    | true =>
      have e : x = n := by simpa using hx
      subst e
      rfl
    | false => exact ih
structure CompScope (X : Cx) (N : List Str) (cap : List (Option Nat)) (sc : Scope) : Prop where
  kind : sc.kind = .function
  nd : N.Nodup
  nocell : ∀ y ∈ sc.names, y.2 ≠ .cell
  names : ∀ y ∈ sc.names, y.2 = .local → sc.names.lookup y.1 = some .local
  free : ∀ y ∈ sc.names, y.2 = .free → X.env.scope.names.lookup y.1 = some .cell ∨ X.env.scope.names.lookup y.1 = some .free
  len : cap.length = N.length
  cap : ∀ i ∈ List.range cap.length, ∀ j, (cap[i]?).join = some j → X.N[j]? = N[i]? ∧ ∃ x, N[i]? = some x ∧ (x, NameKind.free) ∈ sc.names ∧ sc.names.lookup x = some .free
def cap0 (cap : List (Option Nat)) (σ : St) : St := cap.map fun o => o.bind fun j => (σ[j]?).join
def cxComp (X : Cx) (N : List Str) (scope : Scope) (s : Shared) (H : Hp) (fp : List Addr) : Cx where
  prog := X.prog
  w := X.w
  K := X.K
  mg := X.mg
  base := X.base
  A := X.A
  N := N
  s₀ := s
  H₀ := H
  env := compEnvC scope (closL X.env.cells scope.names []) s.heap.objs.size X.env
  outer := X.stack
  stack := X.stack
  ex := fp
  fn := fun _ => false
  calm := X.calm
  pn := []
  xe := fun _ _ => False
theorem inv_comp {X : Cx} {pins : List (Addr × Obj)} {σ : St} {H : Hp} {s : Shared} {N : List Str} {cap : List (Option Nat)} {sc : Scope} {fp : List Addr} {h' : Heap} {t' : Nat}
    (S : CompScope X N cap sc) (I : Inv X pins σ H s) (hfp : ∀ b ∈ fp, FpOk X pins H b ∧ ∃ o, s.heap.get? b = some o)
    (hns : h'.Ns s.heap.objs.size fun _ => none) (hk : ∀ b o, s.heap.get? b = some o → h'.get? b = some o) :
    Inv (cxComp X N sc s H fp) [] (cap0 cap σ) H { s with heap := h', toks := t' } := by
  have ltc : ∀ x c, X.env.cells.lookup x = some c → c < s.heap.objs.size := fun x c e => by
    obtain ⟨v, z⟩ := I.cell x c e
    exact z.lt
  have cl_of : ∀ x c, (closL X.env.cells sc.names []).lookup x = some c → X.env.cells.lookup x = some c ∧ (x, NameKind.free) ∈ sc.names := fun x c e => by
    rcases closL_sound _ _ e with z | z
    · cases z
    · exact z
  have kd : ∀ x k, (relabel sc X.env).names.lookup x = some k → (k = .cell ∨ k = .free) → sc.names.lookup x = some .free := fun x k e hk => by
    have e' : (sc.names.lookup x).map (relab X.env x) = some k := (lookup_relabel X.env x sc.names).symm.trans e
    cases hq : sc.names.lookup x with
    | none => rw [hq] at e'; cases e'
    | some kk =>
      rw [hq] at e'
      have e2 : relab X.env x kk = k := Option.some.inj e'
      by_cases hf : kk = .free
      · rw [hf]
      · have e3 : relab X.env x kk = kk := by
          unfold relab
          rw [if_neg]
          intro z
          have : (kk == NameKind.free) = true := by
            rw [Bool.and_eq_true, Bool.and_eq_true] at z
            exact z.1.1
          exact hf (by simpa using this)
        rw [e3] at e2
        subst e2
        rcases hk with z | z
        · exact absurd z (S.nocell _ (PySem.mem_of_lookup hq))
        · exact absurd z hf
  refine ⟨⟨I.ok.mod, S.kind, I.ok.glob, I.ok.blt, Nat.le_refl _, fun x y c h1 h2 => I.ok.inj x y c (cl_of x c h1).1 (cl_of y c h2).1, fun x hx => ?_, fun x c hf _ => absurd hf (by show ¬ (false = true); decide), I.ok.hd, I.ok.frames, .inl rfl, fun b hb => ?_, I.bs, Nat.le_trans I.ok.bsz I.sz, fun b o e hb => ?_, fun b hb z => ?_, I.stack, I.stkFree⟩,
    rfl, I.bare, Un.kept hk, ⟨_, hns, fun i x v e1 e2 e3 => ?_⟩, fun x c e => ?_, I.hok.fresh (Nat.le_refl _), fun x c e => ?_, fun p hp => absurd (show p ∈ ([] : List (Addr × Obj)) from hp) (by simp), I.hok.kept hk, ?_⟩
  · -- has
    have hx' : (relabel sc X.env).names.lookup x = some .cell ∨ (relabel sc X.env).names.lookup x = some .free := hx
    have hf : sc.names.lookup x = some .free := by
      rcases hx' with z | z
      · exact kd x _ z (.inl rfl)
      · exact kd x _ z (.inr rfl)
    have m := PySem.mem_of_lookup hf
    obtain ⟨c, hc⟩ := I.ok.has x (S.free _ m rfl)
    exact ⟨c, closL_whole hc _ _ (.inr m)⟩
  · -- exf
    obtain ⟨f, o, ho⟩ := hfp b hb
    exact ⟨Nat.ne_of_lt (Heap.lt_size ho), fun x c e => f.2.2.2.2.1 x c (cl_of x c e).1⟩
  · -- noex
    obtain ⟨f, _⟩ := hfp b hb
    rcases f.2.2.2.1 with z | z
    · exact I.ok.noex b o e z
    · exact absurd (Nat.lt_of_lt_of_le (Heap.lt_size e) (Nat.le_trans I.ok.bsz z)) (Nat.lt_irrefl _)
  · -- exfs
    obtain ⟨f, _⟩ := hfp b hb
    rcases List.mem_cons.mp (I.stkSub b z) with q | q
    · exact f.2.1 q
    · exact f.2.2.1 q
  · -- loc
    have hi : i < cap.length := by
      have := (List.getElem?_eq_some_iff.mp e2).1
      unfold cap0 at this
      rwa [List.length_map] at this
    have e2' : (cap[i]?).join.bind (fun j => (σ[j]?).join) = some v := by
      unfold cap0 at e2
      rw [List.getElem?_map] at e2
      cases hc : cap[i]? with
      | none => rw [hc] at e2; cases e2
      | some o =>
        rw [hc] at e2
        cases o with
        | none => cases e2
        | some j => exact Option.some.inj e2
    cases hj : (cap[i]?).join with
    | none => rw [hj] at e2'; cases e2'
    | some j =>
      rw [hj] at e2'
      obtain ⟨hN, y, hy, hm, hl⟩ := S.cap i (List.mem_range.mpr hi) j hj
      have e1' : N[i]? = some x := e1
      rw [e1'] at hy
      cases hy
      have hσ : σ[j]? = some (some v) := by
        have e3 : (σ[j]?).join = some v := e2'
        cases hq : σ[j]? with
        | none => rw [hq] at e3; cases e3
        | some o =>
          rw [hq] at e3
          have : o = some v := e3
          rw [this]
      have hXN : X.N[j]? = some x := hN.trans e1'
      have hkind := S.free _ hm rfl
      obtain ⟨m, hn, hl'⟩ := id I.loc
      obtain ⟨u, r, l⟩ := hl' j x v hXN hσ (by rcases hkind with z | z; exact .inr (.inl z); exact .inr (.inr z))
      refine ⟨u, r, .inr ⟨?_, ?_⟩⟩
      · show (relabel sc X.env).names.lookup x = some .cell ∨ (relabel sc X.env).names.lookup x = some .free
        have e4 : (relabel sc X.env).names.lookup x = some (relab X.env x .free) := (lookup_relabel X.env x sc.names).trans (by rw [hl]; rfl)
        rw [e4]
        unfold relab
        split
        · exact .inl rfl
        · exact .inr rfl
      · rcases l with ⟨k, _⟩ | ⟨_, c, hc, o, ho, hd⟩
        · have k' : X.env.scope.names.lookup x = some .local := k
          rcases hkind with z | z
          · have z' : X.env.scope.names.lookup x = some .cell := z
            rw [k'] at z'; cases z'
          · have z' : X.env.scope.names.lookup x = some .free := z
            rw [k'] at z'; cases z'
        · exact ⟨c, closL_whole hc _ _ (.inr hm), o, hk c o ho, hd⟩
  · -- cell
    obtain ⟨v, o, ho, hd⟩ := I.cell x c (cl_of x c e).1
    exact ⟨v, o, hk c o ho, hd⟩
  · exact I.freeC x c (cl_of x c e).1
  · show (cap0 cap σ).length = N.length
    unfold cap0
    rw [List.length_map, S.len]
end L2
set_option maxHeartbeats 4000000
namespace L2
open PySem PySem.Spec PyProof.Rows
theorem codeAny_compLoop_go {prog : Program} {w : World} {A : Around} {R : Result → Shared → Prop} {s : Shared} {elt target iter : Expr} {ifs : List Expr} {scope : Scope} {pos : Pos} {it acc : Value} {env : Env} (I : Nat → Shared → Prop)
    (turn : ∀ n s, I n s → wpAny (model prog w) A (pyNext it) (fun r s₁ => match r with
      | none => R (.ok .next) s₁
      | some v => wpAny (model prog w) A (letOwnedTupleGo target it v) (fun _ s₁' => wpAny (model prog w) A (assign target env v) (fun _ s₂ =>
          wpAny (model prog w) A (forIn ifs true fun c r => if r = true then do let ok ← isTrue c env (eval c env); pure (ForInStep.yield ok) else pure (ForInStep.yield r)) (fun ok s₃ =>
            if ok = true then wpAny (model prog w) A (eval elt env) (fun x s₄ =>
              wpAny (model prog w) A (call (.builtin "list.append") [acc, x]) (fun _ s₅ => ∃ m, m < n ∧ I m s₅) (notedBy (model prog w) A env fun e s' => R (.error e) s') s₄) (notedBy (model prog w) A env fun e s' => R (.error e) s') s₃
            else ∃ m, m < n ∧ I m s₃) (notedBy (model prog w) A env fun e s' => R (.error e) s') s₂) (notedBy (model prog w) A env fun e s' => R (.error e) s') s₁') (notedBy (model prog w) A env fun e s' => R (.error e) s') s₁) (notedBy (model prog w) A env fun e s' => R (.error e) s') s)
    (n : Nat) (h : I n s) :
    codeAny (model prog w) A (.compLoop (.ListComp elt [⟨target, iter, ifs, 0⟩] scope pos) 0 it acc env) R s := by
  refine codeAny_loop rfl I (fun n s hI => ?_) n h
  show wpAny _ A ((compTurn (.ListComp elt [⟨target, iter, ifs, 0⟩] scope pos) 0 it acc env).onRaise (fun x => do noteFrame x env; theTreesLotGoes x)) _ _ s
  refine wpAny_noted ?_
  rw [compTurn_list]
  refine wpAny_bind (wpAny_standAt (wpAny_bind (wpAny_mono (turn n s hI) (fun r s₁ h₁ => ?_) fun _ _ h' => h')))
  cases r with
  | none => exact wpAny_pure h₁
  | some v =>
    refine wpAny_bind (wpAny_mono h₁ (fun _ s₁' h₁' => ?_) fun _ _ h' => h')
    refine wpAny_bind (wpAny_mono h₁' (fun _ s₂ h₂ => wpAny_bind (wpAny_mono h₂ (fun ok s₃ h₃ => ?_) fun _ _ h' => h')) fun _ _ h' => h')
    cases ok with
    | false => exact wpAny_pure ⟨rfl, h₃⟩
    | true =>
      exact wpAny_bind (wpAny_bind (wpAny_mono h₃ (fun x s₄ h₄ => wpAny_bind (wpAny_mono h₄ (fun _ s₅ h₅ => wpAny_pure (wpAny_pure ⟨rfl, h₅⟩)) fun _ _ h' => h')) fun _ _ h' => h'))
def PTs (X : Cx) (ifs : List Expr) (t : TT) : Prop :=
  ∀ (pins : List (Addr × Obj)) (s : Shared) (σ : St) (H : Hp) (Q : Bool → Hp → Prop), Inv X pins σ H s → t σ H Q →
    wpAny (model X.prog X.w) X.A (forIn ifs true fun c r => if r = true then do let ok ← isTrue c X.env (eval c X.env); pure (ForInStep.yield ok) else pure (ForInStep.yield r)) (TP X pins σ Q) X.xe s
def tYes : TT := fun _ H Q => Q true H
theorem pts_nil {X : Cx} : PTs X [] tYes := fun _ _ _ H _ I h => wpAny_tests_nil ⟨H, I, h⟩
theorem pts_one {X : Cx} {c : Expr} {t : TT} (h : PT X c t) : PTs X [c] t := fun pins s σ H Q I q => wpAny_tests_one (h pins s σ H Q I q)
def LcGo (cap : List (Option Nat)) (g : TG) (tt : TT) (te : TE) (σ : St) (Q : VK) (J : It) (H1 : Hp) : Prop := ∀ D, H1 D = none →
  ∃ W : Nat → Nat → St → Hp → Prop, (∃ m, W 0 m (cap0 cap σ) (upd H1 D (.lst []))) ∧ ∀ i m σ' H', W i m σ' H' →
    (J.stop i H' ∧ Q (.ref D) H') ∨ (J.go i H' ∧ ∀ x H2, J.yld i H' x H2 → g x σ' H2 fun σ3 H3 => tt σ3 H3 fun b H4 =>
      if b = true then te σ3 H4 fun v H5 => ∃ acc, H5 D = some (.lst acc) ∧ acc.length < sizeLine ∧ ∃ m', m' < m ∧ W (i + 1) m' σ3 (upd H5 D (.lst (acc ++ [v])))
      else ∃ m', m' < m ∧ W (i + 1) m' σ3 H4)
def tLC (cap : List (Option Nat)) (wi : TI) (g : TG) (tt : TT) (te : TE) : TE := fun σ H Q => wi σ H (LcGo cap g tt te σ Q)
theorem comp_block {X : Cx} {pins : List (Addr × Obj)} {σ : St} {H2 : Hp} {s2 : Shared} {N : List Str} {cap : List (Option Nat)} {sc : Scope} {elt target iter : Expr} {ifs : List Expr} {pos : Pos} {g : TG} {tt : TT} {te : TE} {Q : VK}
    {it : Addr} {fp : List Addr} {tn : Nat → Heap → Prop} {J : It} {RR : Value → Addr → Result → Shared → Prop} {E : Value → Shared → Prop}
    (hc : X.calm = true) (S : CompScope X N cap sc)
    (hg : ∀ s H fp, PG (cxComp X N sc s H fp) target g) (ht : ∀ s H fp, PTs (cxComp X N sc s H fp) ifs tt) (he : ∀ s H fp, PE (cxComp X N sc s H fp) elt te)
    (I2 : Inv X pins σ H2 s2) (T : Turn X.prog X.w X.K target J fp it tn) (st2 : tn 0 s2.heap) (f2 : ∀ b ∈ fp, FpOk X pins H2 b)
    (h : LcGo cap g tt te σ Q J H2)
    (hRR : ∀ D C H' s', (∃ m, s'.heap.Ns C m) → H' C = none → s2.heap.objs.size ≤ C → Inv X pins σ H' s' → Q (.ref D) H' → RR (.ref D) C (.ok .next) s') :
    wpAny (model X.prog X.w) X.A (newList []) (fun acc s₃ => wpAny (model X.prog X.w) X.A (newFunctionEnv sc X.env.globals (closL X.env.cells sc.names []) [] X.env.qual none .none (some X.env)) (fun cenv s₄ =>
      codeAny (model X.prog X.w) X.A (.compStart (.ListComp elt [⟨target, iter, ifs, 0⟩] sc pos) 0 (.ref it) acc { cenv with scope := relabel sc X.env }) (RR acc cenv.locals) s₄) E s₃) E s2 := by
  refine wpAny_newObj_type ?_
  have fr := I2.fresh
  have I3 : Inv X pins σ (upd H2 s2.heap.objs.size (.lst [])) { s2 with heap := s2.heap.push { cls := .type "list", data := .seq ([] : List Value).toArray } } := I2.lnew (ys := []) (t' := s2.toks) .nil (Nat.zero_le _)
  obtain ⟨W, ⟨m0, w0⟩, turn⟩ := h _ fr
  have objs2 := T.obj 0 _ st2
  have f3 : ∀ b ∈ fp, FpOk X pins (upd H2 s2.heap.objs.size (.lst [])) b ∧ ∃ o, (s2.heap.push { cls := .type "list", data := .seq ([] : List Value).toArray }).get? b = some o := fun b hb => by
    obtain ⟨o, ho, _⟩ := objs2 b hb
    obtain ⟨a1, a2⟩ := f2 b hb
    refine ⟨⟨?_, a2⟩, o, Heap.get?_push_of_some _ ho⟩
    rw [upd_ne (Nat.ne_of_lt (Heap.lt_size ho))]
    exact a1
  have st3 : tn 0 (s2.heap.push { cls := .type "list", data := .seq ([] : List Value).toArray }) := T.keep _ _ _ st2 fun b _ o e => Heap.get?_push_of_some _ e
  generalize hs3 : ({ s2 with heap := s2.heap.push { cls := .type "list", data := .seq ([] : List Value).toArray } } : Shared) = s3 at I3
  have hh3 : s3.heap = s2.heap.push { cls := .type "list", data := .seq ([] : List Value).toArray } := by rw [← hs3]
  rw [← hh3] at f3 st3
  generalize hD : s2.heap.objs.size = D at *
  refine wpAny_newFunctionEnv S.nocell (by intro y hy; simp at hy) (fun h4 hns4 hsb4 => ?_) S.kind
  have k4 : ∀ b o, s3.heap.get? b = some o → h4.get? b = some o := fun b o e => hsb4.extBut b o (Nat.ne_of_lt (Heap.lt_size e)) (Heap.get?_push_of_some _ e)
  have I4 : Inv (cxComp X N sc s3 (upd H2 D (.lst [])) fp) [] (cap0 cap σ) (upd H2 D (.lst [])) { s3 with heap := h4, toks := s3.toks + ([] : List (Str × Value)).length } :=
    inv_comp S I3 f3 (by simpa using hns4) k4
  have st4 : tn 0 h4 := T.keep _ _ _ st3 fun b _ o e => k4 b o e
  have szC : D ≤ s3.heap.objs.size := by rw [hh3, Heap.size_push, hD]; exact Nat.le_succ _
  -- the iterator's own objects, seen from the block
  have fpX : ∀ {H' : Hp}, (∀ b ∈ fp, H' b = none) → ∀ b ∈ fp, FpOk (cxComp X N sc s3 (upd H2 D (.lst [])) fp) [] H' b := fun hn b hb =>
    ⟨hn b hb, (I4.ok.exf b hb).1, I4.ok.exfs b hb, .inl hb, (I4.ok.exf b hb).2, fun p hp => absurd (show p ∈ ([] : List (Addr × Obj)) from hp) (by simp)⟩
  have loop : ∀ s4 : Shared, s4 = { s3 with heap := h4, toks := s3.toks + ([] : List (Str × Value)).length } →
      codeAny (model X.prog X.w) X.A (.compLoop (.ListComp elt [⟨target, iter, ifs, 0⟩] sc pos) 0 (.ref it) (.ref D) (cxComp X N sc s3 (upd H2 D (.lst [])) fp).env) (RR (.ref D) s3.heap.objs.size) s4 := by
    rintro s4 rfl
    refine codeAny_compLoop_go (fun n s' => ∃ i σ' H', Inv (cxComp X N sc s3 (upd H2 D (.lst [])) fp) [] σ' H' s' ∧ tn i s'.heap ∧ (∀ b ∈ fp, H' b = none) ∧ W i n σ' H') ?_ m0 ⟨0, _, _, I4, st4, fun b hb => (f3 b hb).1.1, w0⟩
    rintro n s5 ⟨i, σ5, H5, I5, st5, fr5, w5⟩
    rcases turn i n σ5 H5 w5 with ⟨stop, qn⟩ | ⟨go, step⟩
    · refine wpAny_mono (T.done (cxComp X N sc s3 (upd H2 D (.lst [])) fp) rfl rfl rfl hc i [] s5 σ5 H5 _ I5 (fpX fr5) st5 stop) (fun r s6 ⟨hr, I6⟩ => ?_) fun _ _ z => z
      subst hr
      obtain ⟨m6, ns6, _⟩ := I6.loc
      refine hRR D _ H5 s6 ⟨m6, ns6⟩ I6.free szC ?_ qn
      refine I3.call' (ch := fp) I6.os I6.base I6.hok I6.bare fun b hb => ?_
      obtain ⟨f, _⟩ := f3 b hb
      exact ⟨f.2.2.2.1, f.2.1, f.2.2.2.2.1, f.2.2.2.2.2⟩
    · refine wpAny_mono (T.item (cxComp X N sc s3 (upd H2 D (.lst [])) fp) rfl rfl rfl hc i [] s5 σ5 H5 _ I5 (fpX fr5) st5 go) (fun r s6 ⟨u, hr, h6⟩ => ?_) fun _ _ z => z
      subst hr
      refine wpAny_mono h6 (fun _ s7 ⟨x, H7, I7, r7, y7, st7, fr7⟩ => ?_) fun _ _ z => z
      have I7' := I7.pinned (fpX fr7) (T.obj _ _ st7)
      refine wpAny_mono (hg s3 (upd H2 D (.lst [])) fp _ s7 σ5 H7 x u _ I7' r7 (step x H7 y7)) (fun _ s8 ⟨σ8, H8, I8, q8⟩ => ?_) fun _ _ z => False.elim z
      refine wpAny_mono (ht s3 (upd H2 D (.lst [])) fp _ s8 σ8 H8 _ I8 q8) (fun ok s9 ⟨H9, I9, q9⟩ => ?_) fun _ _ z => False.elim z
      have again : ∀ {σ7 : St} {H7 : Hp} {s' : Shared} {m' : Nat}, Inv (cxComp X N sc s3 (upd H2 D (.lst [])) fp) ([] ++ pinsAt fp s7.heap) σ7 H7 s' → m' < n → W (i + 1) m' σ7 H7 →
          ∃ m, m < n ∧ ∃ i σ' H', Inv (cxComp X N sc s3 (upd H2 D (.lst [])) fp) [] σ' H' s' ∧ tn i s'.heap ∧ (∀ b ∈ fp, H' b = none) ∧ W i m σ' H' := fun {σ7 H7 s' m'} I7 hm w7 => by
        refine ⟨m', hm, i + 1, σ7, H7, I7.unpinned, T.keep _ _ _ st7 fun b hb o e => (I7.pin (b, o) (List.mem_append_right _ (List.mem_append_right _ (mem_pinsAt hb e)))).1, fun b hb => ?_, w7⟩
        obtain ⟨o, e, d⟩ := T.obj _ _ st7 b hb
        exact (I7.pin (b, o) (List.mem_append_right _ (List.mem_append_right _ (mem_pinsAt hb e)))).2.1
      cases ok with
      | false =>
        rw [if_neg Bool.false_ne_true] at q9 ⊢
        obtain ⟨m', hm, w9⟩ := q9
        exact again I9 hm w9
      | true =>
        rw [if_pos rfl] at q9 ⊢
        refine wpAny_mono (he s3 (upd H2 D (.lst [])) fp _ s9 σ8 H9 _ I9 q9) (fun uv s10 ⟨v, H10, I10, r10, acc, hD10, hz, m', hm, w10⟩ => ?_) fun _ _ z => False.elim z
        refine wpAny_mono (mt_append (X := cxComp X N sc s3 (upd H2 D (.lst [])) fp) _ s10 σ8 H10 (.ref D) [v] (.ref D) [uv] (fun y H' => H' = upd H10 D (.lst (acc ++ [v]))) I10 rfl (.cons r10 .nil) ⟨D, acc, v, rfl, rfl, hD10, hz, rfl⟩) (fun _ s11 ⟨y, H11, I11, _, e11⟩ => ?_) fun _ _ z => False.elim z
        subst e11
        exact again I11 hm w10
  refine codeAny_compStart_list (loop _ ?_) (T.self X.A 0 _ _ _ (?_ : tn 0 _) (loop _ ?_))
  · rw [← hs3] <;> rfl
  · exact st4
  · rw [← hs3] <;> rfl
theorem clos_of {X : Cx} {pins : List (Addr × Obj)} {σ : St} {H : Hp} {s : Shared} {N : List Str} {cap : List (Option Nat)} {sc : Scope} (S : CompScope X N cap sc) (I : Inv X pins σ H s) : closureFor sc X.env = pure (closL X.env.cells sc.names []) :=
  closureFor_some fun y hy hf => I.ok.has y.1 (S.free y hy hf)
theorem pe_lcomp {X : Cx} {N : List Str} {cap : List (Option Nat)} {sc : Scope} {elt target iter : Expr} {ifs : List Expr} {pos : Pos} {wi : TI} {g : TG} {tt : TT} {te : TE}
    (hc : X.calm = true) (S : CompScope X N cap sc) (hi : PI X target iter wi)
    (hg : ∀ s H fp, PG (cxComp X N sc s H fp) target g) (ht : ∀ s H fp, PTs (cxComp X N sc s H fp) ifs tt) (he : ∀ s H fp, PE (cxComp X N sc s H fp) elt te)
    (hs : ∀ x, foldedSetIterable iter X.env x = pure x := by intro _; rfl) : PE X (.ListComp elt [⟨target, iter, ifs, 0⟩] sc pos) (tLC cap wi g tt te) := by
  intro pins s σ H Q I h
  rw [eval_ListComp]
  refine wpAny_comprehension_free (use := none) rfl hs (clos_of S I) S.kind S.names (thn (hi pins s σ H _ I h) fun v s1 h1 => thn h1 fun itv s2 h2 => ?_)
  obtain ⟨it, fp, tn, J, H2, e, I2, T, st2, f2, q2⟩ := h2
  subst e
  refine comp_block (RR := fun acc C => compPost (model X.prog X.w) X.A X.xe none (EP X pins σ Q) acc C) hc S hg ht he I2 T st2 f2 q2 ?_
  rintro D C H' s' ⟨m, ns⟩ hC hsz I' q
  refine ⟨m, ns, fun h' hs' => ⟨.ref D, H', ?_, rfl, q⟩⟩
  have hCl : C ≠ X.env.locals := Nat.ne_of_gt (Nat.lt_of_lt_of_le I2.lt hsz)
  exact I'.turned (it := C) (t' := s'.toks) (fun b o hb e => (hs'.2 b hb).trans e) hC hCl (.inr (Nat.le_trans I2.sz hsz))
    (fun x c e z => by
      obtain ⟨v, q⟩ := I2.cell x c e
      exact absurd (Nat.lt_of_lt_of_le q.lt (by rw [z]; exact hsz)) (Nat.lt_irrefl _))
    (fun p hp z => absurd (Nat.lt_of_lt_of_le (Heap.lt_size (I2.pin p hp).1) (by rw [z]; exact hsz)) (Nat.lt_irrefl _))
theorem ps_setLC {X : Cx} {N : List Str} {cap : List (Option Nat)} {sc : Scope} {elt target iter : Expr} {ifs : List Expr} {pos spos py : Pos} {wi : TI} {g : TG} {tt : TT} {te : TE} {i : Nat} {y : Str}
    (hc : X.calm = true) (hN : X.N.Nodup) (hy : X.N[i]? = some y) (hx : Loc X.env.scope y) (S : CompScope X N cap sc) (hi : PI X target iter wi)
    (hg : ∀ s H fp, PG (cxComp X N sc s H fp) target g) (ht : ∀ s H fp, PTs (cxComp X N sc s H fp) ifs tt) (he : ∀ s H fp, PE (cxComp X N sc s H fp) elt te)
    (hsw : swapsWith (.ListComp elt [⟨target, iter, ifs, 0⟩] sc pos) (some (.Name y py)) spos.line X.env = pure true := by rfl)
    (hs : ∀ x, foldedSetIterable iter X.env x = pure x := by intro _; rfl)
    (hf : X.fn y = true ∨ X.env.scope.names.lookup y = some .local := by first | exact .inl rfl | exact .inr rfl | assumption) : PS X (.Assign [.Name y py] (.ListComp elt [⟨target, iter, ifs, 0⟩] sc pos) spos) (tAsg (tLC cap wi g tt te) (gName i)) := by
  intro pins s σ H D I h
  rw [exec_Assign_Name_used _ _ _ _ hsw]
  refine wpAny_bind (wpAny_standAt (wpAny_bind ?_))
  show wpAny _ X.A (do let _ ← comprehension (.ListComp elt [⟨target, iter, ifs, 0⟩] sc pos) sc X.env _ (newList []) false (eval iter X.env) (some (assign (.Name y py) X.env))) _ _ s
  refine wpAny_bind (wpAny_mono (wpAny_comprehension_free (use := some (assign (.Name y py) X.env)) (Q := fun _ s' => SP X pins D .next s') rfl hs (clos_of S I) S.kind S.names
    (thn (hi pins s σ H _ I h) fun v s1 h1 => thn h1 fun itv s2 h2 => ?_)) (fun _ s' hq => wpAny_pure (wpAny_pure hq)) fun _ _ e => e)
  obtain ⟨it, fp, tn, J, H2, e, I2, T, st2, f2, q2⟩ := h2
  subst e
  refine comp_block (Q := fun x H1 => gName i x σ H1 D.nx) (RR := fun acc C => compPost (model X.prog X.w) X.A X.xe (some (assign (.Name y py) X.env)) (fun _ s' => SP X pins D .next s') acc C) hc S hg ht he I2 T st2 f2 q2 ?_
  rintro Da C H' s' ⟨m, ns⟩ hC hsz I' q
  have hCl : C ≠ X.env.locals := Nat.ne_of_gt (Nat.lt_of_lt_of_le I2.lt hsz)
  have hCc : ∀ x c, X.env.cells.lookup x = some c → c ≠ C := fun x c e z => by
    obtain ⟨v, q⟩ := I2.cell x c e
    exact absurd (Nat.lt_of_lt_of_le q.lt (by rw [z]; exact hsz)) (Nat.lt_irrefl _)
  show wpAny _ X.A (assign (.Name y py) X.env (.ref Da)) _ _ _
  refine wpAny_assign_Name (store_ok2 I' hN hy hx (show RelV (.ref Da) (.ref Da) from rfl) (fun s'' I'' hsame => ?_) hf)
  obtain ⟨a, hsb, ha⟩ := hsame
  have hCa : C ≠ a := by
    rcases ha with rfl | e
    · exact hCl
    · exact Ne.symm (hCc y a e)
  refine ⟨m, ns.sameBut hsb hCa, fun h' hs' => ⟨_, H', ?_, q⟩⟩
  exact I''.turned (it := C) (t' := s''.toks) (fun b o hb e => (hs'.2 b hb).trans e) hC hCl (.inr (Nat.le_trans I2.sz hsz)) hCc
    (fun p hp z => absurd (Nat.lt_of_lt_of_le (Heap.lt_size (I2.pin p hp).1) (by rw [z]; exact hsz)) (Nat.lt_irrefl _))
end L2
set_option maxHeartbeats 4000000
namespace L2
open PySem PySem.Spec PyProof.Rows
def ViewO (T : String) (v d : Addr) : HO := .ext fun h => h.get? v = some { cls := .type T, data := .fields #[.ref d] }
def SrcV (K : PySem.W.Frag) (H : Hp) (x : V) (ys : List V) : Prop := ∃ a, x = .ref a ∧ (SqL K H a ys ∨ SqT K H a ys ∨ (∃ kvs, H a = some (.dK kvs) ∧ ys = kvs.map fun p => kV p.1) ∨
  ∃ d kvs, H a = some (ViewO "dict_values" a d) ∧ H d = some (.dK kvs) ∧ ys = kvs.map (·.2))
def SrcU (prog : Program) (w : World) (A : Around) (s : Shared) (v : Value) (n : Nat) (P : Nat → Value → Prop) : Prop :=
  ∃ d oI St, d < s.heap.objs.size ∧ (∀ (E : Value → Shared → Prop) (Q : Value → Shared → Prop), Q (.ref s.heap.objs.size) { s with heap := s.heap.push oI } → wpAny (model prog w) A (pyIter v) Q E s) ∧
    Walks prog w A s.heap.objs.size [s.heap.objs.size, d] [s.heap.objs.size] n P St ∧ St 0 (s.heap.push oI)
theorem walks_imp {prog : Program} {w : World} {A : Around} {I : Addr} {fp wr : List Addr} {n : Nat} {P P' : Nat → Value → Prop} {St : Nat → Heap → Prop} (W : Walks prog w A I fp wr n P St) (h : ∀ i v, P i v → P' i v) : Walks prog w A I fp wr n P' St where
  sub := W.sub
  frame := W.frame
  item := fun i s Q E hi st hQ => W.item i s Q E hi st fun v h' tk hp st' hk => hQ v h' tk (h i v hp) st' hk
  done := W.done
  self := W.self
theorem kv_get {κ : Type} : ∀ {kvs : List (κ × V)} {vs : List (κ × Value)} {i : Nat} {q : κ × Value}, KV kvs vs → vs[i]? = some q → ∃ p, kvs[i]? = some p ∧ p.1 = q.1 ∧ RelV p.2 q.2
  | _, _, _, _, .nil, e => by simp at e
  | _, _, 0, _, .cons r _, e => by simp at e; subst e; exact ⟨_, rfl, r⟩
  | _, _, i + 1, q, .cons _ t, e => by
    obtain ⟨p, h1, h2⟩ := kv_get (i := i) (q := q) t (by simpa using e)
    exact ⟨p, by simpa using h1, h2⟩
theorem vals_at {xs : List V} {us : List Value} {i : Nat} {u : Value} (r : Vals xs us) (e : us[i]? = some u) : ∃ x, xs[i]? = some x ∧ RelV x u := by
  cases h : xs[i]? with
  | none => rw [r.none_of h] at e; cases e
  | some x =>
    obtain ⟨u', h1, h2⟩ := r.get h
    rw [e] at h1; cases h1
    exact ⟨x, rfl, h2⟩
theorem keyIs_rel {P : Program} {w : World} {k : Key} {u : Value} (h : (mixKind P w).is k u = true) : RelV (kV k) u := by
  rcases keyIs_shape (k := k) (v := u) h with ⟨i, t, rfl, rfl⟩ | ⟨x, t, rfl, rfl⟩
  · exact ⟨t, rfl⟩
  · exact ⟨t, rfl⟩
section
variable {X : Cx} {pins : List (Addr × Obj)} {σ : St} {H : Hp} {s : Shared}
theorem Inv.src {A : Around} {x : V} {v : Value} {ys : List V} (I : Inv X pins σ H s) (hh : A.handled = none) (r : RelV x v) (h : SrcV X.K H x ys) :
    SrcU X.prog X.w A s v ys.length (fun i u => ∃ y, ys[i]? = some y ∧ RelV y u) := by
  obtain ⟨a, rfl, h⟩ := h
  cases r
  rcases h with h | h | ⟨kvs, h, rfl⟩ | ⟨d, kvs, h, hd, rfl⟩
  · obtain ⟨its, rv, p, hz⟩ := I.list h
    have hlt : a < s.heap.objs.size := by obtain ⟨_, e, _⟩ := p.isList; exact Heap.lt_size e
    have W := Walks.list (prog := X.prog) (w := X.w) (A := A) hh s.heap.objs.size a (Nat.ne_of_lt hlt) its.toArray
    rw [show its.toArray.size = ys.length by rw [List.size_toArray, rv.length]] at W
    exact ⟨a, _, _, hlt, fun E Q q => wpAny_pyIter_list p.isList q, walks_imp W fun i u e => vals_at rv (by simpa using e), ⟨⟨_, Heap.get?_push_size _ rfl, rfl, rfl⟩, p.isList.push _⟩⟩
  · obtain ⟨its, rv, p, hz⟩ := I.tuple h
    have hlt : a < s.heap.objs.size := p.lt
    have p' : s.heap.IsTuple a its.toArray := p
    have W := Walks.tuple (prog := X.prog) (w := X.w) (A := A) hh s.heap.objs.size a (Nat.ne_of_lt hlt) its.toArray
    rw [show its.toArray.size = ys.length by rw [List.size_toArray, rv.length]] at W
    refine ⟨a, _, _, hlt, fun E Q q => wpAny_pyIter_tuple p' q, walks_imp W fun i u e => vals_at rv (by simpa using e), ⟨⟨_, Heap.get?_push_size _ rfl, rfl, rfl⟩, ?_⟩⟩
    obtain ⟨o, ho, c⟩ := p'
    exact ⟨o, Heap.get?_push_of_some _ ho, c⟩
  · obtain ⟨z, lo, vs, rel, dd⟩ := dk_of I.hok h
    obtain ⟨ep, hat⟩ := dd.dictAt
    have W := Walks.dictKeys (prog := X.prog) (w := X.w) (A := A) (knd := mixKind X.prog X.w) hh s.heap.objs.size a (Nat.ne_of_lt hat.lt_size) vs ep
    have hlen : vs.length = (kvs.map fun p => kV p.1).length := by rw [List.length_map, ← rel.length]
    rw [← hlen]
    refine ⟨a, _, _, hat.lt_size, fun E Q q => wpAny_pyIter_dict lo hat q, walks_imp W fun i u hu => ?_, ⟨⟨_, Heap.get?_push_size _ rfl, rfl, rfl⟩, hat.push _⟩⟩
    obtain ⟨k, x, e, hk⟩ := hu
    obtain ⟨p, hp, e1, _⟩ := kv_get rel e
    refine ⟨kV p.1, by rw [List.getElem?_map, hp]; rfl, ?_⟩
    rw [show p.1 = k from e1]
    exact keyIs_rel hk
  · obtain ⟨z, lo, vs, rel, dd⟩ := dk_of I.hok hd
    obtain ⟨ep, hat⟩ := dd.dictAt
    have hv : s.heap.IsValuesView a d := ⟨_, (I.hok a _ h).1, rfl, rfl⟩
    have W := Walks.dictValues (prog := X.prog) (w := X.w) (A := A) (knd := mixKind X.prog X.w) hh s.heap.objs.size d (Nat.ne_of_lt hat.lt_size) vs ep
    have hlen : vs.length = (kvs.map (·.2)).length := by rw [List.length_map, ← rel.length]
    rw [← hlen]
    refine ⟨d, _, _, hat.lt_size, fun E Q q => wpAny_pyIter_values hv hat q, walks_imp W fun i u hu => ?_, ⟨⟨_, Heap.get?_push_size _ rfl, rfl, rfl⟩, hat.push _⟩⟩
    obtain ⟨k, e⟩ := hu
    obtain ⟨p, hp, _, e2⟩ := kv_get rel e
    exact ⟨p.2, by rw [List.getElem?_map, hp]; rfl, e2⟩
theorem src_keep {h' : Heap} {oI : Obj} (hk : ∀ b o, b ∉ [s.heap.objs.size] → (s.heap.push oI).get? b = some o → h'.get? b = some o) : ∀ b o, s.heap.get? b = some o → h'.get? b = some o :=
  fun b o e => hk b o (fun hm => by rw [List.mem_singleton.mp hm] at e; exact Nat.lt_irrefl _ (Heap.lt_size e)) (Heap.get?_push_of_some _ e)
theorem src_lt {d : Addr} {oI : Obj} (hd : d < s.heap.objs.size) : ∀ b ∈ [s.heap.objs.size, d], b < (s.heap.push oI).objs.size := fun b hb => by
  rw [Heap.size_push]
  rcases List.mem_cons.mp hb with rfl | hb
  · exact Nat.lt_succ_self _
  · rw [List.mem_singleton.mp hb]; exact Nat.lt_succ_of_lt hd
theorem bl_at {bs : List Bool} {i : Nat} {u : Value} (h : ∃ y, (bs.map V.bl)[i]? = some y ∧ RelV y u) : ∃ b, bs[i]? = some b ∧ u = .bool b := by
  obtain ⟨y, e, r⟩ := h
  rw [List.getElem?_map] at e
  cases q : bs[i]? with
  | none => rw [q] at e; cases e
  | some b =>
    rw [q] at e
    cases e
    exact ⟨b, rfl, r⟩
theorem int_at {ns : List Int} {i : Nat} {u : Value} (h : ∃ y, (ns.map V.int)[i]? = some y ∧ RelV y u) : ∃ t, u = .int (ns.getD i 0) t := by
  obtain ⟨y, e, r⟩ := h
  rw [List.getElem?_map] at e
  cases q : ns[i]? with
  | none => rw [q] at e; cases e
  | some b =>
    rw [q] at e
    cases e
    obtain ⟨t, rfl⟩ := r
    exact ⟨t, by rw [List.getD_eq_getElem?_getD, q]; rfl⟩
theorem call_all_of (hc : X.calm = true) : CallR X (.builtin "all") (fun xs H Q => ∃ (x : V) (bs : List Bool), xs = [x] ∧ SrcV X.K H x (bs.map V.bl) ∧ Q (.bl (bs.all id)) H) := by
  intro pins s σ H xs us Q I r h
  obtain ⟨x, bs, rfl, hs, q⟩ := h
  obtain ⟨u, rfl, ru⟩ := vals1 r
  obtain ⟨d, oI, St, hd, it, W, st⟩ := I.src (A := X.A.in1) (I.ok.hd hc) ru hs
  refine call_all_walk (it _ _ ⟨_, _, _, _, _, _, fun i => (bs[i]?).getD true, rfl, W, st, fun i v s' Q' E' hP hQ => ?_, fun h' tk hk => ?_⟩)
  · obtain ⟨b, e, rfl⟩ := bl_at hP
    simp only [e, Option.getD_some] at hQ
    exact wpAny_truthy_bool hQ
  · rw [List.length_map, LSm.range_all]
    exact ⟨.bl _, H, I.kept (src_keep hk), rfl, q⟩
theorem call_any_of (hc : X.calm = true) : CallR X (.builtin "any") (fun xs H Q => ∃ (x : V) (bs : List Bool), xs = [x] ∧ SrcV X.K H x (bs.map V.bl) ∧ Q (.bl (bs.any id)) H) := by
  intro pins s σ H xs us Q I r h
  obtain ⟨x, bs, rfl, hs, q⟩ := h
  obtain ⟨u, rfl, ru⟩ := vals1 r
  obtain ⟨d, oI, St, hd, it, W, st⟩ := I.src (A := X.A.in1) (I.ok.hd hc) ru hs
  refine call_any_walk (it _ _ ⟨_, _, _, _, _, _, fun i => (bs[i]?).getD false, rfl, W, st, fun i v s' Q' E' hP hQ => ?_, fun h' tk hk => ?_⟩)
  · obtain ⟨b, e, rfl⟩ := bl_at hP
    simp only [e, Option.getD_some] at hQ
    exact wpAny_truthy_bool hQ
  · rw [List.length_map, LSm.range_any]
    exact ⟨.bl _, H, I.kept (src_keep hk), rfl, q⟩
theorem getD_in {ns : List Int} {i : Nat} (h : i < ns.length) : ns.getD i 0 ∈ ns := by
  rw [List.getD_eq_getElem?_getD, List.getElem?_eq_getElem h]
  exact List.getElem_mem h
theorem in_getD {ns : List Int} {a : Int} (h : a ∈ ns) : ∃ j, j < ns.length ∧ ns.getD j 0 = a := by
  obtain ⟨j, hj, e⟩ := List.getElem_of_mem h
  exact ⟨j, hj, by rw [List.getD_eq_getElem?_getD, List.getElem?_eq_getElem hj]; exact e⟩
theorem call_max_of (hc : X.calm = true) : CallR X (.builtin "max") (fun xs H Q => ∃ (x : V) (ns : List Int), xs = [x] ∧ SrcV X.K H x (ns.map V.int) ∧ 0 < ns.length ∧ ∀ M : Int, M ∈ ns → (∀ a ∈ ns, a ≤ M) → Q (.int M) H) := by
  intro pins s σ H xs us Q I r h
  obtain ⟨x, ns, rfl, hs, hn, q⟩ := h
  obtain ⟨u, rfl, ru⟩ := vals1 r
  obtain ⟨d, oI, St, hd, it, W, st⟩ := I.src (A := X.A.in1) (I.ok.hd hc) ru hs
  rw [List.length_map] at W
  refine call_max_walk (it _ _ ⟨_, _, _, _, _, _, _, rfl, W, st, src_lt hd, hn, CmpOf.ints_gt (fun i => ns.getD i 0) (fun i v hP => int_at hP), fun v h' tk hP hk => ?_⟩)
  obtain ⟨t, rfl⟩ := int_at hP
  obtain ⟨b1, b2⟩ := argBest_gt (fun i => ns.getD i 0) (ns.length - 1)
  refine ⟨.int _, H, I.kept (src_keep hk), ⟨t, rfl⟩, q _ (getD_in (by omega)) fun a ha => ?_⟩
  obtain ⟨j, hj, rfl⟩ := in_getD ha
  exact b2 j (by omega)
theorem ints_of_vals : ∀ {ns : List Int} {us : List Value}, Vals (ns.map V.int) us → IntsAre us ns
  | [], _, .nil => .nil
  | n :: ns, _, .cons r t => by
    obtain ⟨tk, rfl⟩ := r
    exact .cons n tk (ints_of_vals t)
theorem call_sorted_list : CallR X (.builtin "sorted") (fun xs H Q => ∃ (a : Addr) (ns : List Int), xs = [.ref a] ∧ SqL X.K H a (ns.map V.int) ∧ ns.length < 64 ∧ ∀ (l : Addr) (ms : List Int), H l = none → ms.Perm ns → ms.Pairwise (· ≤ ·) → Q (.ref l) (upd H l (.lst (ms.map V.int)))) := by
  intro pins s σ H xs us Q I r h
  obtain ⟨a, ns, rfl, hs, h64, q⟩ := h
  obtain ⟨u, rfl, ru⟩ := vals1 r
  cases ru
  obtain ⟨its, rv, p, hz⟩ := I.list hs
  have hI := ints_of_vals rv
  have hl : its.length = ns.length := by rw [← rv.length, List.length_map]
  refine sorted_ints p.isList hI (by omega) fun out ms a1 a2 a3 => ?_
  obtain ⟨e, he⟩ := sortedAll_at s.heap its out
  have hfr : H (s.heap.objs.size + 1) = none := I.hok.fresh (Nat.le_succ _)
  refine ⟨.ref _, _, I.laid (t' := s.toks) (a := s.heap.objs.size + 1) (o := .lst (ms.map V.int)) (fun b o z => sortedAll_old z) (Nat.le_succ _) ?_, rfl, q _ ms hfr a2 a3⟩
  refine ⟨?_, out.toList, e, vals_ints a1, ?_⟩
  · rw [List.length_map, a2.length_eq]
    rw [List.length_map] at hz
    exact hz
  · rw [he]
theorem call_sorted_src (hc : X.calm = true) : CallR X (.builtin "sorted") (fun xs H Q => ∃ (a : Addr) (kvs : List (Key × V)) (ns : List Int), xs = [.ref a] ∧ H a = some (.dK kvs) ∧ kvs.map (·.1) = ns.map Sum.inl ∧ ns.length < 64 ∧ ∀ (l : Addr) (ms : List Int), H l = none → ms.Perm ns → ms.Pairwise (· ≤ ·) → Q (.ref l) (upd H l (.lst (ms.map V.int)))) := by
  intro pins s σ H xs us Q I r h
  obtain ⟨a, kvs, ns, rfl, hs, hk, h64, q⟩ := h
  obtain ⟨u, rfl, ru⟩ := vals1 r
  cases ru
  obtain ⟨z, lo, vs, rel, dd⟩ := dk_of I.hok hs
  obtain ⟨ep, hat⟩ := dd.dictAt
  have hln : vs.length = ns.length := by
    have := congrArg List.length hk
    rw [List.length_map, List.length_map] at this
    rw [← rel.length, this]
  have h64' : vs.length ≤ sizeLine := Nat.le_trans (by omega : vs.length ≤ 64) (by decide)
  refine Calls.call_function_entry kind_sorted plain_sorted entry_sorted (args_sorted1 _) ?_
  unfold Builtin.«sorted»
  refine wpAny_bind (m := checkCount "sorted" 1 1 _) (wpAny_pure ?_)
  refine wpAny_bind (PySem.W.kdu_collect (A := X.A.in1) (PySem.W.kdl_dict (knd := mixKind X.prog X.w) (kvs := vs) (ep := ep) lo) (I.ok.hd hc) hat h64' fun h' tk acc hkp hacc => ?_)
  have hl : acc.toList.length = ns.length := by rw [Array.length_toList]; exact hacc.1.trans hln
  have hI : IntsAre acc.toList ns := by
    have go : ∀ (us : List Value) (ns : List Int), us.length = ns.length → (∀ j v, us[j]? = some v → ∃ t, v = Value.int (ns.getD j 0) t) → IntsAre us ns := by
      intro us
      induction us with
      | nil => intro ns hl _; cases ns with | nil => exact .nil | cons _ _ => cases hl
      | cons u us ih =>
        intro ns hl hv
        cases ns with
        | nil => cases hl
        | cons n ns =>
          obtain ⟨t, e⟩ := hv 0 u rfl
          have e' : u = Value.int n t := e
          subst e'
          exact .cons n t (ih ns (by simpa using hl) fun j v hj => by
            obtain ⟨t, e⟩ := hv (j + 1) v (by simpa using hj)
            exact ⟨t, by simpa using e⟩)
    refine go _ _ hl fun j v hj => ?_
    obtain ⟨k, x, e1, e2⟩ := hacc.2 j v (by rw [← Array.getElem?_toList]; exact hj)
    obtain ⟨p, hp, e3, _⟩ := kv_get rel e1
    have e4 : (kvs.map (·.1))[j]? = some k := by rw [List.getElem?_map, hp]; exact congrArg some e3
    rw [hk, List.getElem?_map] at e4
    cases hq : ns[j]? with
    | none => rw [hq] at e4; cases e4
    | some n =>
      rw [hq] at e4
      have e5 : k = Sum.inl n := (Option.some.inj e4).symm
      subst e5
      obtain ⟨t, rfl⟩ := keyIs_rel e2
      exact ⟨t, by rw [List.getD_eq_getElem?_getD, hq]; rfl⟩
  refine wpAny_bind (wpAny_newList ?_ (by rw [hl]; omega))
  have hoL : (h'.push (seqObj "list" acc.toList.toArray 0)).get? h'.objs.size = some (seqObj "list" acc.toList.toArray 0) := Heap.get?_push_size _ rfl
  refine wpAny_bind (wpAny_holding (wpAny_call_entry slot_list_sort ⟨_, hoL, rfl⟩ entry_list_sort (list_sort_tree hoL hI (by rw [hl]; exact h64) fun out ms a1 a2 a3 => ⟨_, rfl, ?_⟩) (args_list_sort _)))
  obtain ⟨e, he⟩ := sortedHeap_at (vs := acc.toList) (out := out) hoL
  have I1 : Inv X pins σ H { s with heap := h', toks := tk } := I.kept hkp
  have hfr : H h'.objs.size = none := I1.hok.fresh (Nat.le_refl _)
  have kp : ∀ b o, h'.get? b = some o → (sortedHeap (h'.push (seqObj "list" acc.toList.toArray 0)) h'.objs.size acc.toList out).get? b = some o := fun b o q => by
    have hlt := Heap.lt_size q
    rw [sortedHeap_old (Nat.ne_of_lt hlt) (by rw [size_push']; exact Nat.lt_succ_of_lt hlt)]
    exact Heap.get?_push_of_some _ q
  have I2 := I1.laid (t' := tk) (a := h'.objs.size) (o := .lst (ms.map V.int)) kp (Nat.le_refl _) ⟨by rw [List.length_map, a2.length_eq]; omega, out.toList, e, vals_ints a1, by rw [he]⟩
  exact wpAny_pure ⟨_, rfl, .ref _, _, I2, rfl, q _ ms hfr a2 a3⟩
end
end L2
set_option maxHeartbeats 4000000
namespace L2
open PySem PySem.Spec PyProof.Rows
section
variable {X : Cx} {pins : List (Addr × Obj)} {σ : St} {H : Hp} {s : Shared}
theorem call_isinst : CallR X (.builtin "isinstance") (fun xs H Q => ∃ (x : V) (t : Value) (T : String) (b : Bool), xs = [x, .ty T] ∧ TyOf X.K H x t ∧ PySem.W.kitOne X.K t (.type T) = some b ∧ Q (.bl b) H) := by
  intro pins s σ H xs us Q I r h
  obtain ⟨x, t, T, b, rfl, ty, e, q⟩ := h
  obtain ⟨u, v, rfl, ru, rv⟩ := r.two
  obtain rfl : v = Value.type T := rv
  exact isinst_ok I ru ty e fun tk => ⟨.bl b, H, I.tok tk, rfl, q⟩
def rView (T : String) : V → List V → Hp → VK → Prop := fun x vs H Q => ∃ (d : Addr) (kvs : List (Key × V)), x = .ref d ∧ vs = [] ∧ H d = some (.dK kvs) ∧ ∀ v, H v = none → Q (.ref v) (upd H v (ViewO T v d))
theorem view_ok {T : String} {d : Addr} : ObjOk X.prog X.w (upd H s.heap.objs.size (ViewO T s.heap.objs.size d)) (s.heap.push { cls := .type T, data := .fields #[.ref d] }) s.heap.objs.size (ViewO T s.heap.objs.size d) :=
  ⟨Heap.get?_push_size _ rfl, ⟨_, Heap.get?_push_size _ rfl⟩, fun _ _ e k => k _ e⟩
theorem mt_items : MtR X "dict.items" (rView "dict_items") := by
  intro pins s σ H x xs v us Q I rx rs h
  obtain ⟨d, kvs, rfl, rfl, hd, q⟩ := h
  cases rx
  cases rs
  obtain ⟨z, lo, vs, rel, dd⟩ := dk_of I.hok hd
  refine call_meetsIn PySem.F.slot_dict_items dd.typeIs PySem.F.entry_dict_items (PySem.F.args_dict_items_1 _) (meets_dict_items (mixKind X.prog X.w) d lo) ⟨⟨vs, dd⟩, ?_⟩
  exact ⟨.ref s.heap.objs.size, _, I.laid (t' := s.toks) (fun b u e => Heap.get?_push_of_some _ e) (Nat.le_refl _) view_ok, rfl, q _ I.fresh⟩
theorem mt_values : MtR X "dict.values" (rView "dict_values") := by
  intro pins s σ H x xs v us Q I rx rs h
  obtain ⟨d, kvs, rfl, rfl, hd, q⟩ := h
  cases rx
  cases rs
  obtain ⟨z, lo, vs, rel, dd⟩ := dk_of I.hok hd
  refine call_meetsIn PySem.F.slot_dict_values dd.typeIs PySem.F.entry_dict_values (PySem.F.args_dict_values_1 _) (meets_dict_values (mixKind X.prog X.w) d lo) ⟨⟨vs, dd⟩, ?_⟩
  exact ⟨.ref s.heap.objs.size, _, I.laid (t' := s.toks) (fun b u e => Heap.get?_push_of_some _ e) (Nat.le_refl _) view_ok, rfl, q _ I.fresh⟩
theorem Inv.still {d : Addr} {kvs : List (Key × V)} (I : Inv X pins σ H s) (hd : H d = some (.dK kvs)) : ∃ o, s.heap.get? d = some o ∧ Inv X pins σ (upd H d (.frz o (.dK kvs))) s := by
  obtain ⟨z, lo, vs, rel, o, es, ep, ho, r⟩ := (show ObjOk X.prog X.w H s.heap d (.dK kvs) from I.hok d _ hd)
  refine ⟨o, ho, ?_⟩
  have ne : ∀ b u, H b = some u → u ≠ .dK kvs → b ≠ d := fun b u e n z => by rw [z, hd] at e; exact n (Option.some.inj e).symm
  have un : Un X.fs [] H (upd H d (.frz o (.dK kvs))) s.heap s.heap := by
    refine ⟨fun b o e _ _ _ => e, fun b o e _ _ _ => ⟨o.slots, e⟩, fun b ob e n _ => ?_, fun b o e _ => ⟨o, e⟩, fun b xs e => ?_, fun b ob u e => ?_, fun b ps e => ⟨#[], ?_⟩⟩
    · rw [upd_ne (by rintro rfl; rw [hd] at n; cases n)]; exact n
    · rw [upd_ne (ne b _ e (by intro q; cases q))]; exact e
    · rw [upd_ne (ne b _ e (by intro q; cases q))]; exact e
    · rw [upd_ne (ne b _ e (by intro q; cases q)), e]; simp
  have hok : HOk X.prog X.w (upd H d (.frz o (.dK kvs))) s.heap := fun b u e => by
    by_cases hb : b = d
    · subst hb
      rw [upd_same] at e
      cases e
      exact ⟨ho, z, lo, vs, rel, o, es, ep, ho, r⟩
    · rw [upd_ne hb] at e
      refine (I.hok b u e).stay (fun _ _ _ q => q) (fun c q => ?_) fun c xs q => ?_
      · rw [upd_ne (ne c _ q (by intro q; cases q))]; exact q
      · rw [upd_ne (ne c _ q (by intro q; cases q))]; exact q
  exact I.un (t' := s.toks) un hok
def epOf (o : Obj) : Nat := match o.data with
  | .dict _ ep => ep
  | _ => 0
theorem Inv.stillAt {d : Addr} {o : Obj} {kvs : List (Key × V)} (I : Inv X pins σ H s) (hd : H d = some (.frz o (.dK kvs))) :
    (d == sysModules) = false ∧ ∃ vs, KV kvs vs ∧ s.heap.DictAt (mixKind X.prog X.w) d vs (epOf o) := by
  obtain ⟨h0, z, lo, vs, rel, o', es, ep, ho, ex, hdat, r⟩ := (show ObjOk X.prog X.w H s.heap d (.frz o (.dK kvs)) from I.hok d _ hd)
  rw [h0] at ho
  cases ho
  have e : epOf o = ep := by unfold epOf; rw [hdat]
  rw [e]
  exact ⟨lo, vs, rel, o, es, h0, ex, hdat, r⟩
theorem Inv.turnedLaid {h' : Heap} {t' : Nat} {it a : Addr} {o' : HO} (I : Inv X pins σ H s) (k : ∀ b o, b ≠ it → s.heap.get? b = some o → h'.get? b = some o) (hn : H it = none) (hL : it ≠ X.env.locals)
    (h1 : it ∈ X.ex ∨ X.s₀.heap.objs.size ≤ it) (h2 : ∀ x c, X.env.cells.lookup x = some c → c ≠ it) (h3 : ∀ p ∈ X.pn ++ pins, p.1 ≠ it) (ha : s.heap.objs.size ≤ a) (new : ObjOk X.prog X.w (upd H a o') h' a o') :
    Inv X pins σ (upd H a o') { s with heap := h', toks := t' } := by
  have fr : H a = none := I.hok.fresh ha
  have nit : ∀ b u, H b = some u → b ≠ it := fun b u e z => by rw [z, hn] at e; cases e
  refine I.step (g' := s.gens) (d' := s.drawn) (ch := [it]) (fun b hb => ?_) (fun b o _ _ hc e _ => k b o (fun z => hc (by simp [z])) e) (fun b o _ _ hc e _ => ⟨o.slots, k b o (fun z => hc (by simp [z])) e⟩) (fun b o _ e n => ?_)
    (fun b o hc e => ⟨o, k b o (fun z => hc (by simp [z])) e⟩) (fun b xs e => ?_) (fun b o u e => ?_) (fun b ps e => ⟨#[], ?_⟩) (fun m hm => ?_) (fun b u e => ?_) I.bare
  · have e : b = it := by simpa using hb
    subst e
    exact ⟨h1, hL, h2, h3⟩
  · rw [upd_ne (Nat.ne_of_lt (Nat.lt_of_lt_of_le (Heap.lt_size e) ha))]; exact n
  · rw [upd_ne (ne_of_none e fr)]; exact e
  · rw [upd_ne (ne_of_none e fr)]; exact e
  · rw [upd_ne (ne_of_none e fr), e]; simp
  · obtain ⟨o, es, ep, ho, r⟩ := hm
    exact ⟨o, es, ep, k _ o (Ne.symm hL) ho, r⟩
  · by_cases hb : b = a
    · subst hb
      rw [upd_same] at e
      cases e
      exact new
    · rw [upd_ne hb] at e
      refine (I.hok b u e).stay (fun c v hc q => k c v ?_ q) (fun c q => ?_) fun c xs q => ?_
      · rcases hc with z | z
        · rw [z]; exact nit b u e
        · exact nit c _ z
      · rw [upd_ne (ne_of_none q fr)]; exact q
      · rw [upd_ne (ne_of_none q fr)]; exact q
def Itd (d : Addr) (o : Obj) (kvs : List (Key × V)) : It :=
  ⟨fun i H => i < kvs.length ∧ H d = some (.frz o (.dK kvs)), fun i H x H' => ∃ p t, kvs[i]? = some p ∧ H t = none ∧ x = .ref t ∧ H' = upd H t (.tup [kV p.1, p.2]), fun i H => kvs.length ≤ i ∧ H d = some (.frz o (.dK kvs))⟩
theorem kv_put {κ : Type} : ∀ {kvs : List (κ × V)} {vs : List (κ × Value)} {i : Nat} {p : κ × V}, KV kvs vs → kvs[i]? = some p → ∃ q, vs[i]? = some q ∧ p.1 = q.1 ∧ RelV p.2 q.2
  | _, _, _, _, .nil, e => by simp at e
  | _, _, 0, _, .cons r _, e => by simp at e; subst e; exact ⟨_, rfl, r⟩
  | _, _, i + 1, p, .cons _ t, e => by
    obtain ⟨q, h1, h2⟩ := kv_put (i := i) (p := p) t (by simpa using e)
    exact ⟨q, by simpa using h1, h2⟩
theorem turn_items {P : Program} {w : World} {K : PySem.W.Frag} {elts : List Expr} {x1 : Nat} {tpos : Pos} (d it : Addr) (o : Obj) (kvs : List (Key × V)) :
    Turn P w K (.Tuple elts x1 tpos) (Itd d o kvs) [it] it (fun i h => ∃ ok ov, IsItemIter h it d i kvs.length (epOf o) ok ov) where
  mem := by simp
  obj := fun i h st b hb => by
    obtain ⟨ok, ov, st⟩ := st
    have e : b = it := by simpa using hb
    subst e
    exact ⟨_, st, fun v z => by
      have z' : Data.fields _ = Data.cell v := z
      cases z'⟩
  keep := fun i h h' ⟨ok, ov, st⟩ k => ⟨ok, ov, k it (by simp) _ st⟩
  item := by
    intro X hP hw hK hc i pins s σ H E I hf st hg
    subst hP hw hK
    obtain ⟨ok, ov, st⟩ := st
    obtain ⟨hlt, hd⟩ := hg
    obtain ⟨lo, vs, rel, dat⟩ := I.stillAt hd
    obtain ⟨f0, f1, f2, f3, f4, f5⟩ := hf it (by simp)
    obtain ⟨q, hq, e1, r2⟩ := kv_put rel (List.getElem?_eq_getElem hlt)
    have hln : kvs.length = vs.length := rel.length
    rw [hln] at st
    refine wpAny_pyNext_items_item st dat hq fun key h1 hkey out ht hz kp => ?_
    refine ⟨_, rfl, wpAny_letOwnedTupleGo_items out fun h2 st2 sb => ?_⟩
    have hne : s.heap.objs.size ≠ it := Nat.ne_of_gt (Heap.lt_size st)
    have ht2 : h2.get? s.heap.objs.size = some { cls := .type "tuple", data := .seq #[key, q.2] } := (sb.2 _ hne).trans ht
    have fr : H s.heap.objs.size = none := I.fresh
    have I3 : Inv X pins σ (upd H s.heap.objs.size (.tup [kV kvs[i].1, kvs[i].2])) { s with heap := h2 } :=
      I.turnedLaid (t' := s.toks) (fun b o hb e => (sb.2 b hb).trans (kp b o hb e)) f0 f1 f3 f4 f5 (Nat.le_refl _)
        ⟨by show 2 ≤ sizeLine; decide, [key, q.2], .cons (by rw [e1]; exact keyIs_rel hkey) (.cons r2 .nil), _, ht2, rfl, _, rfl⟩
    exact ⟨.ref s.heap.objs.size, _, I3, rfl, ⟨kvs[i], s.heap.objs.size, List.getElem?_eq_getElem hlt, fr, rfl, rfl⟩, ⟨key, q.2, by rw [hln]; exact st2⟩, fun b hb => by
      have e : b = it := by simpa using hb
      subst e
      rw [upd_ne (Ne.symm hne)]
      exact f0⟩
  done := by
    intro X hP hw hK hc i pins s σ H E I hf st hg
    subst hP hw hK
    obtain ⟨ok, ov, st⟩ := st
    obtain ⟨hge, hd⟩ := hg
    obtain ⟨lo, vs, rel, dat⟩ := I.stillAt hd
    obtain ⟨f0, f1, f2, f3, f4, f5⟩ := hf it (by simp)
    have hln : kvs.length = vs.length := rel.length
    rw [hln] at st
    exact wpAny_pyNext_items_end (I.ok.hd hc) st dat (List.getElem?_eq_none (by omega)) fun h' eb => ⟨rfl, I.turned (t' := s.toks) (fun b o hb e => eb b o hb e) f0 f1 f3 f4 f5⟩
  self := by
    intro A i s Q E ⟨ok, ov, st⟩ h
    exact PySem.W.kcp_self st h
end
end L2
set_option maxHeartbeats 4000000
namespace L2
open PySem PySem.Spec PyProof.Rows
section
variable {X : Cx} {pins : List (Addr × Obj)} {σ : St} {H : Hp} {s : Shared}
def iItems (te : TE) : TI := fun σ H R => te σ H fun x H1 => ∃ (v d : Addr) (kvs : List (Key × V)), x = .ref v ∧ H1 v = some (ViewO "dict_items" v d) ∧ H1 d = some (.dK kvs) ∧ ∀ o, R (Itd d o kvs) (upd H1 d (.frz o (.dK kvs)))
theorem pi_items {elts : List Expr} {x1 : Nat} {tpos : Pos} {l : Expr} {te : TE} (hl : PE X l te) : PI X (.Tuple elts x1 tpos) l (iItems te) := by
  intro pins s σ H R I h
  refine thn (hl pins s σ H _ I h) fun u s1 ⟨x, H1, I1, r1, q1⟩ => ?_
  obtain ⟨v, d, kvs, e, hv, hd, q⟩ := q1
  subst e
  cases r1
  obtain ⟨o, ho, I2⟩ := I1.still hd
  obtain ⟨lo, vs, rel, dat⟩ := I2.stillAt upd_same
  have hvw : s1.heap.IsItemsView v d := ⟨_, (I1.hok v _ hv).1, rfl, rfl⟩
  refine wpAny_pyIter_items hvw dat ?_
  refine ⟨s1.heap.objs.size, [s1.heap.objs.size], _, _, _, rfl, I2.kept (t' := s1.toks) fun b o e => Heap.get?_push_of_some _ e, turn_items d _ o kvs, ⟨_, _, by
    have hln : kvs.length = vs.length := rel.length
    rw [hln]
    exact Heap.get?_push_size _ rfl⟩, fun b hb => ?_, q o⟩
  have e : b = s1.heap.objs.size := by simpa using hb
  subst e
  exact I2.fpOk (Nat.le_refl _) (I2.hok.fresh (Nat.le_refl _))
theorem lc_list {K : PySem.W.Frag} {a : Addr} {xs : List V} {cap : List (Option Nat)} {g : TG} {tt : TT} {te : TE} {σ : St} {H1 : Hp} {Q : VK} (Pv : Nat → List V → Addr → St → Hp → Prop)
    (h0 : ∀ D, H1 D = none → Pv 0 [] D (cap0 cap σ) (upd H1 D (.lst []))) (hD : ∀ i acc D σ H, Pv i acc D σ H → SqL K H a xs)
    (hs : ∀ i x acc D σ H (R : St → Hp → Prop), (∀ acc' σ' H', Pv (i + 1) acc' D σ' H' → R σ' H') → xs[i]? = some x → Pv i acc D σ H → g x σ H fun σ3 H3 => tt σ3 H3 fun b H4 =>
      if b = true then te σ3 H4 fun v H5 => ∃ acc1, H5 D = some (.lst acc1) ∧ acc1.length < sizeLine ∧ R σ3 (upd H5 D (.lst (acc1 ++ [v]))) else R σ3 H4)
    (hd : ∀ acc D σ H, Pv xs.length acc D σ H → Q (.ref D) H) :
    LcGo cap g tt te σ Q (Itl K a) H1 := by
  intro D hn
  refine ⟨fun i m σ H => m = xs.length - i ∧ i ≤ xs.length ∧ ∃ acc, Pv i acc D σ H, ⟨_, rfl, Nat.zero_le _, [], h0 D hn⟩, ?_⟩
  rintro i m σ' H' ⟨rfl, hi, acc, p⟩
  have hq := hD _ _ _ _ _ p
  by_cases hlt : i < xs.length
  · refine .inr ⟨⟨xs, xs[i], hq, by simp [hlt]⟩, fun x H2 y => ?_⟩
    obtain ⟨e, y⟩ := y
    subst e
    exact hs i x acc D σ' _ (fun σ2 H2 => ∃ m', m' < xs.length - i ∧ (m' = xs.length - (i + 1) ∧ i + 1 ≤ xs.length ∧ ∃ acc, Pv (i + 1) acc D σ2 H2)) (fun acc' σ2 H2 p' => ⟨xs.length - (i + 1), by omega, rfl, hlt, acc', p'⟩) (y xs hq) p
  · have e : i = xs.length := by omega
    subst e
    exact .inl ⟨⟨xs, hq, Nat.le_refl _⟩, hd acc D σ' H' p⟩
def tRev (K : PySem.W.Frag) (te ts : TE) : TE := fun σ H Q => te σ H fun x H1 => ts σ H1 fun y H2 => y = .int (-1) ∧ ∃ a xs, x = .ref a ∧ SqL K H2 a xs ∧ ∀ p, H2 p = none → Q (.ref p) (upd H2 p (.lst xs.reverse))
theorem pe_rev {e st : Expr} {te ts : TE} {p2 pos : Pos} (he : PE X e te) (hs : PE X st ts) : PE X (.Subscript e (.Slice none none (some st) p2) pos) (tRev X.K te ts) := by
  intro pins s σ H Q I h
  refine Subscript_ (thn (he pins s σ H _ I h) fun v s1 ⟨x, H1, I1, r1, q1⟩ => ?_)
  refine wpAny_Slice ?_
  rw [evalPart_none]
  refine wpAny_pure (wpAny_pure ?_)
  rw [evalPart_some]
  refine thn (hs pins s1 σ H1 _ I1 q1) fun w s3 ⟨y, H3, I3, r3, q3⟩ => ?_
  obtain ⟨rfl, a, xs, rfl, hx, q⟩ := q3
  cases r1
  obtain ⟨t, rfl⟩ := r3
  have I4 : Inv X pins σ H3 { s3 with heap := s3.heap.push { cls := .type "slice", data := .fields #[.none, .none, .int (-1) t] } } := I3.kept (t' := s3.toks) fun b ob q => Heap.get?_push_of_some _ q
  obtain ⟨its, r, ht, hz⟩ := I4.list hx
  have hlen := r.length
  show wpAny (model X.prog X.w) X.A (subscriptTail e (.Slice none none (some st) p2) (.ref a) (.ref s3.heap.objs.size)) (EP X pins σ Q) X.xe { s3 with heap := s3.heap.push { cls := .type "slice", data := .fields #[.none, .none, .int (-1) t] } }
  refine tail_any (ops := [.ref a, .ref s3.heap.objs.size]) ht.isList.typeIs slot_list_getitem.lookup ?_ (by with_unfolding_all rfl)
  refine wpAny_getItem_list_slice ht.isList (Heap.IsSliceOf.new ..) .none .none (IsPart.int _ _) (by decide) ?_ (by rw [List.size_toArray] <;> omega)
  rw [PySem.W.krv_pick]
  refine ⟨.ref _, _, I4.laid (t' := s3.toks) (o := .lst xs.reverse) (fun b ob q => Heap.get?_push_of_some _ q) (Nat.le_refl _) ?_, rfl, q _ (I4.hok.fresh (Nat.le_refl _))⟩
  exact ⟨by rw [List.length_reverse]; exact hz, its.reverse, 0, r.reverse, Heap.get?_push_size _ rfl⟩
mutual
def DatV (K : PySem.W.Frag) (H : Hp) : PyData → V → Prop
  | .none, x => x = .non
  | .bool b, x => x = .bl b
  | .int i, x => x = .int i
  | .str z, x => x = .str z
  | .list ds, x => ∃ a xs, x = .ref a ∧ SqL K H a xs ∧ DatVs K H ds xs
  | .tuple ds, x => ∃ a xs, x = .ref a ∧ SqT K H a xs ∧ DatVs K H ds xs
  | .dict _, _ => False
def DatVs (K : PySem.W.Frag) (H : Hp) : List PyData → List V → Prop
  | [], xs => xs = []
  | d :: ds, xs => ∃ y ys, xs = y :: ys ∧ DatV K H d y ∧ DatVs K H ds ys
end
mutual
theorem Inv.reads (I : Inv X pins σ H s) : ∀ (d : PyData) (x : V) (u : Value), DatV X.K H d x → RelV x u → ∃ as, Reads s.heap u d as
  | .none, x, u, h, r => by
    have h' : x = .non := by simpa [DatV] using h
    subst h'
    cases r
    exact ⟨_, .none⟩
  | .bool b, x, u, h, r => by
    have h' : x = .bl b := by simpa [DatV] using h
    subst h'
    cases r
    exact ⟨_, .bool b⟩
  | .int i, x, u, h, r => by
    have h' : x = .int i := by simpa [DatV] using h
    subst h'
    obtain ⟨t, rfl⟩ := r
    exact ⟨_, .int i t⟩
  | .str z, x, u, h, r => by
    have h' : x = .str z := by simpa [DatV] using h
    subst h'
    obtain ⟨t, rfl⟩ := r
    exact ⟨_, .str z t⟩
  | .list ds, x, u, h, r => by
    unfold DatV at h
    obtain ⟨a, xs, rfl, hq, hd⟩ := h
    cases r
    obtain ⟨its, rv, ⟨o, n, ho, hc, _, hdat⟩, _⟩ := I.list hq
    obtain ⟨as, ra⟩ := Inv.readsAll I ds xs its hd rv
    exact ⟨_, .list ho hc hdat (by simpa using ra)⟩
  | .tuple ds, x, u, h, r => by
    unfold DatV at h
    obtain ⟨a, xs, rfl, hq, hd⟩ := h
    cases r
    obtain ⟨its, rv, ⟨o, ho, hc, n, hdat⟩, _⟩ := I.tuple hq
    obtain ⟨as, ra⟩ := Inv.readsAll I ds xs its hd rv
    exact ⟨_, .tuple ho hc hdat (by simpa using ra)⟩
  | .dict _, x, u, h, r => by
    unfold DatV at h
    exact h.elim
theorem Inv.readsAll (I : Inv X pins σ H s) : ∀ (ds : List PyData) (xs : List V) (us : List Value), DatVs X.K H ds xs → Vals xs us → ∃ as, ReadsAll s.heap us ds as
  | [], xs, us, h, r => by
    have h' : xs = [] := by simpa [DatVs] using h
    subst h'
    cases r
    exact ⟨_, .nil⟩
  | d :: ds, xs, us, h, r => by
    unfold DatVs at h
    obtain ⟨y, ys, rfl, h1, h2⟩ := h
    cases r with
    | cons r1 r2 =>
      obtain ⟨as, ra⟩ := Inv.reads I d y _ h1 r1
      obtain ⟨bs, rb⟩ := Inv.readsAll I ds ys _ h2 r2
      exact ⟨_, .cons ra rb⟩
end
def rEqD (K : PySem.W.Frag) (neg : Bool) : R2 := fun x y H Q => ∃ da db, DatV K H da x ∧ DatV K H db y ∧ PySem.SeqAt.shaped da = true ∧ PySem.SeqAt.shaped db = true ∧ Q (.bl (if neg then !PyData.eqv da db else PyData.eqv da db)) H
theorem op_eqD (hu : X.A.units + 64 < cLine) : OpR X (compareOp .Eq) (rEqD X.K false) := by
  intro pins s σ H x y v u Q I rx ry h
  obtain ⟨da, db, h1, h2, sa, sb, q⟩ := h
  obtain ⟨as, ra⟩ := I.reads da x v h1 rx
  obtain ⟨bs, rb⟩ := I.reads db y u h2 ry
  exact eq_dataH ra rb sa sb hu ⟨.bl _, H, I, rfl, q⟩
theorem op_neD (hu : X.A.units + 64 < cLine) : OpR X (compareOp .NotEq) (rEqD X.K true) := by
  intro pins s σ H x y v u Q I rx ry h
  obtain ⟨da, db, h1, h2, sa, sb, q⟩ := h
  obtain ⟨as, ra⟩ := I.reads da x v h1 rx
  obtain ⟨bs, rb⟩ := I.reads db y u h2 ry
  exact ne_dataH ra rb sa sb hu ⟨.bl _, H, I, rfl, q⟩
def rExtendT (K : PySem.W.Frag) : V → List V → Hp → VK → Prop := fun x vs H Q => ∃ (l b : Addr) (xs zs : List V), x = .ref l ∧ vs = [.ref b] ∧ H l = some (.lst xs) ∧ SqT K H b zs ∧ xs.length + zs.length ≤ sizeLine ∧ Q .non (upd H l (.lst (xs ++ zs)))
theorem mt_extendT : MtM X "list.extend" (rExtendT X.K) := by
  intro pins s σ H x vs v us Q I rx rv h
  obtain ⟨l, b, xs, zs, rfl, rfl, hH, hB, hz, q⟩ := h
  cases rx
  obtain ⟨u, rfl, ru⟩ := rv.one
  cases ru
  obtain ⟨z, its, n, r, hl, e⟩ := I.lstM hH
  obtain ⟨its2, r2, ⟨o2, e2, hc2, n2, hd2⟩, z2⟩ := I.tuple hB
  have hl2 := r2.length
  have hT : s.TypeIs (.ref b) "tuple" := ⟨o2, e2, hc2⟩
  have hlong : (!its.toArray.isEmpty && Builtin.List.listTooLong (its.toArray.size + its2.toArray.size)) = false := by
    rw [notLongL (by rw [List.size_toArray, List.size_toArray]; omega), Bool.and_false]
  refine wpAny_call_entry F.slot_list_extend ⟨_, e, rfl⟩ F.entry_list_extend ?_ (F.args_list_extend_2 _ _)
  show wpAny _ _ (Builtin.List.listExtendWith (.ref l) (.ref b) .none) _ _ s
  unfold Builtin.List.listExtendWith
  refine wpAny_bind (wpAny_typeOf hT ?_)
  rw [if_pos (by simp)]
  refine wpAny_bind (listItems_at e2 hd2 ?_)
  refine wpAny_bind (listItems_at e rfl ?_)
  rw [hlong]
  simp only [Bool.false_eq_true, if_false]
  refine wpAny_bind (listUpdate_at e rfl ?_ (by rw [List.size_toArray]; omega) (by show (its.toArray ++ its2.toArray).size ≤ sizeLine + 1; rw [Array.size_append, List.size_toArray, List.size_toArray]; omega))
  refine wpAny_pure ⟨_, rfl, .non, _, I.lset (its' := its ++ its2) (t' := s.toks) hH e (by simp) (r.append r2) (by rw [List.length_append]; omega), rfl, q⟩
end
end L2
set_option maxHeartbeats 4000000
namespace Srt
open PySem PyProof.Rows PySem.W
def Sat {α : Type} (n : Nat) (c : Nat → Nat → Bool) : KasT α → (α → Prop) → Prop
  | .ret a, G => G a
  | .ask i j k, G => i < n ∧ j < n ∧ Sat n c (k (c i j)) G
theorem Sat.bind {α β : Type} {n : Nat} {c : Nat → Nat → Bool} {f : α → KasT β} {G : β → Prop} : ∀ {t : KasT α}, Sat n c t (fun a => Sat n c (f a) G) → Sat n c (t.bind f) G
  | .ret a, h => h
  | .ask i j k, h => ⟨h.1, h.2.1, Sat.bind (t := k (c i j)) h.2.2⟩
theorem Sat.wp {α : Type} {n : Nat} {c : Nat → Nat → Bool} {cmp : Nat → Nat → (Bool → Shared → Prop) → Shared → Prop} {G : α → Prop} {Q : α → Shared → Prop} {s : Shared} (hc : ∀ i j (C : Bool → Shared → Prop), i < n → j < n → C (c i j) s → cmp i j C s)
    (hq : ∀ a, G a → Q a s) : ∀ {t : KasT α}, Sat n c t G → t.kasWp cmp Q s
  | .ret a, h => hq a h
  | .ask i j k, h => hc i j _ h.1 h.2.1 (Sat.wp hc hq (t := k (c i j)) h.2.2)
section
variable {n : Nat} {key : Nat → Int}
def kv (key : Nat → Int) (p : Array Nat) (i : Nat) : Int := key (p.getD i 0)
def Pm (n : Nat) (p : Array Nat) : Prop := p.toList.Perm (List.range n)
def Up (key : Nat → Int) (p : Array Nat) (m : Nat) : Prop := ∀ i j, i ≤ j → j < m → kv key p i ≤ kv key p j
def Dn (key : Nat → Int) (p : Array Nat) (m : Nat) : Prop := ∀ i j, i ≤ j → j < m → kv key p j ≤ kv key p i
theorem Pm.size {p : Array Nat} (h : Pm n p) : p.size = n := by
  have := h.length_eq
  rw [List.length_range] at this
  rw [← this, Array.length_toList]
theorem Pm.lt {p : Array Nat} (h : Pm n p) {i : Nat} (hi : i < n) : p.getD i 0 < n := by
  have hs := h.size
  have hi' : i < p.size := by omega
  have e : p.getD i 0 = p[i] := by simp [Array.getD, hi']
  rw [e]
  have hm : p[i] ∈ p.toList := by simp
  exact List.mem_range.mp (h.mem_iff.mp hm)
theorem getD_of {p q : Array Nat} {i j : Nat} (h : p[i]? = q[j]?) : p.getD i 0 = q.getD j 0 := by
  rw [Array.getD_eq_getD_getElem?, Array.getD_eq_getD_getElem?, h]
theorem Pm.rev {p : Array Nat} (h : Pm n p) (i j : Nat) : Pm n (kas_rev p i j) := (Array.perm_iff_toList_perm.mp (mirror_perm p i j _)).trans h
theorem Pm.bub {p : Array Nat} (h : Pm n p) (i j : Nat) : Pm n (bubble p i j) := (Array.perm_iff_toList_perm.mp (bubble_perm p i j)).trans h
theorem kv_rev {p : Array Nat} {i j : Nat} (hj : j ≤ p.size) (k : Nat) : kv key (kas_rev p i j) k = if i ≤ k ∧ k < j then kv key p (i + j - 1 - k) else kv key p k := by
  have e := getElem?_mirror_all (i := i) hj k
  unfold kv kas_rev
  by_cases h : i ≤ k ∧ k < j
  · rw [if_pos h] at e ⊢
    rw [getD_of e]
  · rw [if_neg h] at e ⊢
    rw [getD_of e]
theorem kv_rev_same {p : Array Nat} {i j : Nat} (hj : j ≤ p.size) (heq : ∀ k, i ≤ k → k < j → kv key p k = kv key p (j - 1)) (k : Nat) : kv key (kas_rev p i j) k = kv key p k := by
  rw [kv_rev hj]
  split
  · rw [heq _ (by omega) (by omega), heq k (by omega) (by omega)]
  · rfl
def lt (key : Nat → Int) (i j : Nat) : Bool := decide (key i < key j)
theorem asc {p : Array Nat} (hp : Pm n p) {G : Nat → Prop} : ∀ (f m : Nat), 1 ≤ m → m + f ≤ n → Up key p m → (∀ r, m ≤ r → r ≤ m + f → Up key p r → (r < m + f → kv key p r < kv key p (r - 1)) → G r) → Sat n (lt key) (kas_asc p f m) G
  | 0, m, h1, hf, hs, g => g m (Nat.le_refl _) (Nat.le_refl _) hs fun h => absurd h (by omega)
  | f + 1, m, h1, hf, hs, g => by
    refine ⟨hp.lt (by omega), hp.lt (by omega), ?_⟩
    by_cases hc : kv key p m < kv key p (m - 1)
    · rw [show lt key (p.getD m 0) (p.getD (m - 1) 0) = true from decide_eq_true hc]
      exact g m (Nat.le_refl _) (by omega) hs fun _ => hc
    · rw [show lt key (p.getD m 0) (p.getD (m - 1) 0) = false from decide_eq_false hc]
      refine asc hp f (m + 1) (by omega) (by omega) (fun i j hij hj => ?_) fun r h2 h3 h4 h5 => g r (by omega) (by omega) h4 fun h => h5 (by omega)
      by_cases hjm : j < m
      · exact hs i j hij hjm
      · have e : j = m := by omega
        subst e
        by_cases hi : i = j
        · subst hi; exact Int.le_refl _
        · have := hs i (j - 1) (by omega) (by omega)
          omega
theorem desc {G : Array Nat × Nat × Nat → Prop} : ∀ (f : Nat) (p : Array Nat) (m q : Nat), Pm n p → 1 ≤ m → m + f ≤ n → q + 1 ≤ m → Dn key p m → (∀ i, m - 1 - q ≤ i → i < m → kv key p i = kv key p (m - 1)) →
    (∀ p' r q', Pm n p' → m ≤ r → r ≤ m + f → q' + 1 ≤ r → Dn key p' r → (∀ i, r - 1 - q' ≤ i → i < r → kv key p' i = kv key p' (r - 1)) → G (p', r, q')) → Sat n (lt key) (kas_desc f p m q) G
  | 0, p, m, q, hp, h1, hf, hq, hs, he, g => g p m q hp (Nat.le_refl _) (Nat.le_refl _) hq hs he
  | f + 1, p, m, q, hp, h1, hf, hq, hs, he, g => by
    refine ⟨hp.lt (by omega), hp.lt (by omega), ?_⟩
    by_cases hc : kv key p m < kv key p (m - 1)
    · rw [show lt key (p.getD m 0) (p.getD (m - 1) 0) = true from decide_eq_true hc]
      have nx : ∀ p' : Array Nat, Pm n p' → (∀ k, kv key p' k = kv key p k) → Sat n (lt key) (kas_desc f p' (m + 1) 0) G := fun p' hp' hk => by
        refine desc f p' (m + 1) 0 hp' (by omega) (by omega) (by omega) (fun i j hij hj => ?_) (fun i h2 h3 => ?_) fun p'' r q' a1 a2 a3 a4 a5 a6 => g p'' r q' a1 (by omega) (by omega) a4 a5 a6
        · rw [hk, hk]
          by_cases hjm : j < m
          · exact hs i j hij hjm
          · have e : j = m := by omega
            subst e
            by_cases hi : i = j
            · subst hi; exact Int.le_refl _
            · have := hs i (j - 1) (by omega) (by omega)
              omega
        · have e : i = m + 1 - 1 := by omega
          rw [e]
      by_cases hq0 : q > 0
      · simp only [if_true, if_pos hq0]
        refine nx _ (hp.rev _ _) fun k => kv_rev_same (by rw [hp.size]; omega) (fun k' h2 h3 => he k' (by omega) h3) k
      · simp only [if_true, if_neg hq0]
        exact nx p hp fun _ => rfl
    · rw [show lt key (p.getD m 0) (p.getD (m - 1) 0) = false from decide_eq_false hc]
      simp only [Bool.false_eq_true, if_false]
      refine ⟨hp.lt (by omega), hp.lt (by omega), ?_⟩
      by_cases hd : kv key p (m - 1) < kv key p m
      · rw [show lt key (p.getD (m - 1) 0) (p.getD m 0) = true from decide_eq_true hd]
        simp only [if_true]
        exact g p m q hp (Nat.le_refl _) (by omega) hq hs he
      · rw [show lt key (p.getD (m - 1) 0) (p.getD m 0) = false from decide_eq_false hd]
        simp only [Bool.false_eq_true, if_false]
        have hm : kv key p m = kv key p (m - 1) := by omega
        refine desc f p (m + 1) (q + 1) hp (by omega) (by omega) (by omega) (fun i j hij hj => ?_) (fun i h2 h3 => ?_) fun p'' r q' a1 a2 a3 a4 a5 a6 => g p'' r q' a1 (by omega) (by omega) a4 a5 a6
        · by_cases hjm : j < m
          · exact hs i j hij hjm
          · have e : j = m := by omega
            subst e
            by_cases hi : i = j
            · subst hi; exact Int.le_refl _
            · have := hs i (j - 1) (by omega) (by omega)
              omega
        · show kv key p i = kv key p m
          by_cases hi : i = m
          · rw [hi]
          · rw [he i (by omega) (by omega), hm]
theorem tail {p : Array Nat} {m : Nat} {G : Nat × Array Nat → Prop} (hp : Pm n p) (h1 : 1 ≤ m) (hm : m ≤ n) (hs : Dn key p m) (g : ∀ r p', Pm n p' → m ≤ r → r ≤ n → Up key p' r → G (r, p')) : Sat n (lt key) (kas_tail3 m n p) G := by
  unfold kas_tail3
  refine Sat.bind (asc (hp.rev _ _) (n - m) m h1 (by omega) (fun i j hij hj => ?_) fun r h2 h3 h4 _ => g r _ (hp.rev _ _) h2 (by omega) h4)
  rw [kv_rev (by rw [hp.size]; omega), kv_rev (by rw [hp.size]; omega), if_pos (by omega), if_pos (by omega)]
  exact hs _ _ (by omega) (by omega)
theorem descPart {p : Array Nat} {m : Nat} {G : Nat × Array Nat → Prop} (hp : Pm n p) (h1 : 1 ≤ m) (hm : m + 1 ≤ n) (hs : Dn key p (m + 1)) (g : ∀ r p', Pm n p' → 1 ≤ r → r ≤ n → Up key p' r → G (r, p')) : Sat n (lt key) (kas_descPart m n p) G := by
  unfold kas_descPart
  refine Sat.bind (desc (n - (m + 1)) p (m + 1) 0 hp (by omega) (by omega) (by omega) hs (fun i h2 h3 => by rw [show i = m + 1 - 1 by omega]) fun p' r q' a1 a2 a3 a4 a5 a6 => ?_)
  show Sat n (lt key) (if q' > 0 then kas_tail3 r n (kas_rev p' (r - (q' + 1)) r) else kas_tail3 r n p') G
  split
  · refine tail (a1.rev _ _) (by omega) (by omega) (fun i j hij hj => ?_) fun r' p'' b1 b2 b3 b4 => g r' p'' b1 (by omega) b3 b4
    rw [kv_rev_same (by rw [a1.size]; omega) (fun k h2 h3 => a6 k (by omega) h3), kv_rev_same (by rw [a1.size]; omega) (fun k h2 h3 => a6 k (by omega) h3)]
    exact a5 i j hij hj
  · exact tail a1 (by omega) (by omega) a5 fun r' p'' b1 b2 b3 b4 => g r' p'' b1 (by omega) b3 b4
theorem count {p : Array Nat} {G : Nat × Array Nat → Prop} (hp : Pm n p) (hn : 1 ≤ n) (g : ∀ r p', Pm n p' → 1 ≤ r → r ≤ n → Up key p' r → G (r, p')) : Sat n (lt key) (kas_count n p) G := by
  unfold kas_count
  refine Sat.bind (asc hp (n - 1) 1 (Nat.le_refl _) (by omega) (fun i j hij hj => by rw [show i = j by omega]; exact Int.le_refl _) fun m h2 h3 h4 h5 => ?_)
  by_cases he : (m == n) = true
  · rw [if_pos he]
    exact g m p hp h2 (by omega) h4
  · rw [if_neg he]
    have hne : m ≠ n := by simpa using he
    have hlt := h5 (by omega)
    by_cases hm : m > 1
    · rw [if_pos hm]
      refine ⟨hp.lt (by omega), hp.lt (by omega), ?_⟩
      by_cases hc : kv key p 0 < kv key p (m - 1)
      · rw [show lt key (p.getD 0 0) (p.getD (m - 1) 0) = true from decide_eq_true hc]
        simp only [if_true]
        exact g m p hp h2 (by omega) h4
      · rw [show lt key (p.getD 0 0) (p.getD (m - 1) 0) = false from decide_eq_false hc]
        simp only [Bool.false_eq_true, if_false]
        have all : ∀ k, 0 ≤ k → k < m → kv key p k = kv key p (m - 1) := fun k _ hk => by
          have a := h4 0 k (by omega) hk
          have b := h4 k (m - 1) (by omega) (by omega)
          omega
        refine descPart (hp.rev _ _) h2 (by omega) (fun i j hij hj => ?_) g
        rw [kv_rev_same (by rw [hp.size]; omega) all, kv_rev_same (by rw [hp.size]; omega) all]
        by_cases hjm : j < m
        · rw [all j (by omega) hjm, all i (by omega) (by omega)]
          exact Int.le_refl _
        · have e : j = m := by omega
          subst e
          by_cases hi : i = j
          · subst hi; exact Int.le_refl _
          · rw [all i (by omega) (by omega)]
            omega
    · rw [if_neg hm]
      have e1 : m = 1 := by omega
      subst e1
      refine descPart hp (by omega) (by omega) (fun i j hij hj => ?_) g
      by_cases hi : i = j
      · subst hi; exact Int.le_refl _
      · have e2 : i = 0 := by omega
        have e3 : j = 1 := by omega
        subst e2 e3
        simp at hlt
        omega
theorem place {p : Array Nat} {k : Nat} {G : Nat → Prop} (hp : Pm n p) (hk : k < n) (hs : Up key p k) (g : ∀ l, l ≤ k → (∀ i, i < l → kv key p i ≤ kv key p k) → (∀ i, l ≤ i → i < k → kv key p k < kv key p i) → G l) :
    ∀ (f l r : Nat), l ≤ r → r ≤ k → r - l ≤ f → (∀ i, i < l → kv key p i ≤ kv key p k) → (∀ i, r ≤ i → i < k → kv key p k < kv key p i) → Sat n (lt key) (kas_place p k f l r) G
  | 0, l, r, h1, h2, h3, a, b => g l (by omega) a fun i hi hk => b i (by omega) hk
  | f + 1, l, r, h1, h2, h3, a, b => by
    unfold kas_place
    by_cases hlr : l ≥ r
    · rw [if_pos hlr]
      exact g l (by omega) a fun i hi hk => b i (by omega) hk
    · rw [if_neg hlr]
      refine ⟨hp.lt hk, hp.lt (by omega), ?_⟩
      by_cases hc : kv key p k < kv key p ((l + r) / 2)
      · rw [show lt key (p.getD k 0) (p.getD ((l + r) / 2) 0) = true from decide_eq_true hc]
        simp only [if_true]
        refine place hp hk hs g f l ((l + r) / 2) (by omega) (by omega) (by omega) a fun i hi hik => ?_
        have := hs ((l + r) / 2) i hi hik
        omega
      · rw [show lt key (p.getD k 0) (p.getD ((l + r) / 2) 0) = false from decide_eq_false hc]
        simp only [Bool.false_eq_true, if_false]
        refine place hp hk hs g f ((l + r) / 2 + 1) r (by omega) h2 (by omega) (fun i hi => ?_) b
        have := hs i ((l + r) / 2) (by omega) (by omega)
        omega
theorem bin {G : Array Nat → Prop} : ∀ (f : Nat) (p : Array Nat) (k : Nat), Pm n p → k + f ≤ n → Up key p k → (∀ p', Pm n p' → Up key p' (k + f) → G p') → Sat n (lt key) (kas_bin f p k) G
  | 0, p, k, hp, hk, hs, g => g p hp hs
  | f + 1, p, k, hp, hk, hs, g => by
    unfold kas_bin
    refine Sat.bind (place hp (by omega) hs (fun l hl a b => ?_) k 0 k (Nat.zero_le _) (Nat.le_refl _) (by omega) (fun i hi => absurd hi (by omega)) (fun i h1 h2 => absurd h2 (by omega)))
    have hb : ∀ i, kv key (bubble p k (k - l)) i = if i = l then kv key p k else if l < i ∧ i ≤ k then kv key p (i - 1) else kv key p i := fun i => by
      have e := getElem?_bubble (xs := p) (src := k) (by rw [hp.size]; omega) (k - l) (by omega) i
      rw [show k - (k - l) = l by omega] at e
      unfold kv
      by_cases h1 : i = l
      · rw [if_pos h1] at e ⊢
        rw [getD_of e]
      · rw [if_neg h1] at e ⊢
        by_cases h2 : l < i ∧ i ≤ k
        · rw [if_pos h2] at e ⊢
          rw [getD_of e]
        · rw [if_neg h2] at e ⊢
          rw [getD_of e]
    refine bin f _ (k + 1) (hp.bub _ _) (by omega) (fun i j hij hj => ?_) fun p' h1 h2 => g p' h1 (by rw [show k + (f + 1) = k + 1 + f by omega]; exact h2)
    rw [hb, hb]
    by_cases hi : i = l
    · rw [if_pos hi]
      by_cases hj2 : j = l
      · rw [if_pos hj2]; exact Int.le_refl _
      · rw [if_neg hj2, if_pos (by omega)]
        have := b (j - 1) (by omega) (by omega)
        omega
    · rw [if_neg hi]
      by_cases hj2 : j = l
      · rw [if_pos hj2, if_neg (by omega)]
        exact a i (by omega)
      · rw [if_neg hj2]
        by_cases hi3 : l < i ∧ i ≤ k
        · rw [if_pos hi3, if_pos (by omega)]
          exact hs _ _ (by omega) (by omega)
        · rw [if_neg hi3]
          by_cases hj3 : l < j ∧ j ≤ k
          · rw [if_pos hj3]
            exact hs _ _ (by omega) (by omega)
          · rw [if_neg hj3]
            exact hs _ _ hij (by omega)
theorem sorts (hn : 1 ≤ n) : Sat n (lt key) (kas_sort n) (fun p => Pm n p ∧ Up key p n) := by
  unfold kas_sort
  have h0 : Pm n (List.toArray (List.range n)) := by show (List.toArray (List.range n)).toList.Perm _; simp
  refine Sat.bind (count h0 hn fun r p' a1 a2 a3 a4 => ?_)
  show Sat n (lt key) (if r < n then kas_bin (n - max r 1) p' (max r 1) else .ret p') _
  by_cases hr : r < n
  · rw [if_pos hr]
    have e : max r 1 = r := by omega
    rw [e]
    exact bin (n - r) p' r a1 (by omega) a4 fun p'' b1 b2 => ⟨b1, by rw [show r + (n - r) = n by omega] at b2; exact b2⟩
  · rw [if_neg hr]
    have e : r = n := by omega
    subst e
    exact ⟨a1, a4⟩
end
end Srt
set_option maxHeartbeats 4000000
namespace Srt
open PySem PyProof.Rows PySem.W
section
variable {prog : Program} {w : World} {A : Around} {E : Value → Shared → Prop} {s : Shared}
theorem list_sort_asked {a : Addr} {vs : List Value} {n : Nat} {P : PySem.Fin → Shared → Prop} {key : Nat → Int} {κ : SortKind} (ho : s.heap.get? a = some (seqObj "list" vs.toArray n)) (h64 : vs.length < 64)
    (hk : 2 ≤ vs.length → ∀ (h' : Heap) (Q : SortKind → Shared → Prop) (E' : Value → Shared → Prop), (∀ b o, b ≠ a → s.heap.get? b = some o → h'.get? b = some o) → Q κ { s with heap := h' } → wpAny (model prog w) A (keyKind' vs.toArray) Q E' { s with heap := h' })
    (hc : ∀ (h' : Heap) (i j : Nat) (C : Bool → Shared → Prop), (∀ b o, b ≠ a → s.heap.get? b = some o → h'.get? b = some o) → i < vs.length → j < vs.length → C (lt key i j) { s with heap := h' } → kas_ask prog w A κ vs i j C { s with heap := h' })
    (fin : ∀ p : Array Nat, Pm vs.length p → Up key p vs.length → P (.done (.ret .none)) { s with heap := sortedHeap s.heap a vs (p.toList.map fun i => vs.getD i Value.none).toArray }) :
    wpAny (model prog w) A (Builtin.«list.sort» ⟨[.ref a], []⟩) P E s := by
  rw [list_sort_plain]
  have la : a < s.heap.objs.size := Heap.lt_size ho
  refine wpAny_bind (listItems_at ho rfl (wpAny_bind (listUpdate_at ho rfl ?_ (by rw [List.size_toArray, sizeLine_eq]; omega) (Nat.zero_le _))))
  obtain ⟨e1, o1⟩ : ∃ e1, (s.heap.update a (Obj.mapSeq fun _ => (#[] : Array Value))).get? a = some (seqObj "list" #[] e1) := ⟨_, get?_update_seq ho fun _ => #[]⟩
  refine wpAny_bind (seqEpoch_at o1 rfl (wpAny_bind (wpAny_newTuple ?_ (by show vs.length ≤ _; rw [sizeLine_eq]; omega))))
  refine wpAny_bind (wpAny_newList (wpAny_holding ?_) (Nat.zero_le _))
  have o6 : (((s.heap.update a (Obj.mapSeq fun _ => (#[] : Array Value))).push (seqObj "tuple" vs.toArray 0)).push (seqObj "list" #[] 0)).get? a = some (seqObj "list" #[] e1) := Heap.get?_push_of_some _ (Heap.get?_push_of_some _ o1)
  have kp : ∀ b o, b ≠ a → s.heap.get? b = some o → (((s.heap.update a (Obj.mapSeq fun _ => (#[] : Array Value))).push (seqObj "tuple" vs.toArray 0)).push (seqObj "list" #[] 0)).get? b = some o := fun b o hb e =>
    Heap.get?_push_of_some _ (Heap.get?_push_of_some _ ((Heap.get?_update_other _ _ (Ne.symm hb)).trans e))
  show wpAny (model prog w) A _ P E { s with heap := ((s.heap.update a (Obj.mapSeq fun _ => (#[] : Array Value))).push (seqObj "tuple" vs.toArray 0)).push (seqObj "list" #[] 0) }
  dsimp only
  by_cases h2 : vs.toArray.size < 2
  · rw [if_pos h2, if_pos h2]
    have h2' : vs.length < 2 := by rwa [List.size_toArray] at h2
    refine wpAny_bind (wpAny_pure ?_)
    rw [StateT.run_pure]
    refine wpAny_bind (wpAny_pure ?_)
    have eo : (arrOf (SortSt.mk' general' (vs.toArray.zip vs.toArray) #[] 7 none)).map (·.2) = (((List.toArray (List.range vs.length)).toList.map fun i => vs.getD i Value.none)).toArray := by
      show ((vs.toArray.zip vs.toArray).map (·.2)) = _
      match vs, h2' with
      | [], _ => simp
      | [x], _ => simp
    dsimp only
    rw [eo]
    refine wpAny_bind (seqEpoch_at o6 rfl (wpAny_bind (listUpdate_at o6 rfl ?_ (Nat.zero_le _) (by rw [List.size_toArray, List.length_map, Array.length_toList]; simp; rw [sizeLine_eq]; omega))))
    simp only [bne_self_eq_false, Bool.false_eq_true, if_false]
    refine wpAny_pure (fin _ (by show (List.toArray (List.range vs.length)).toList.Perm _; simp) fun i j hij hj => ?_)
    rw [show i = j by omega]
    exact Int.le_refl _
  · rw [if_neg h2, if_neg h2]
    have h2' : 2 ≤ vs.length := by rw [List.size_toArray] at h2; omega
    refine wpAny_bind (hk h2' _ _ _ kp ?_)
    have W := Sat.wp (n := vs.length) (c := lt key) (cmp := kas_ask prog w A κ vs) (Q := fun p s' => s' = { s with heap := ((s.heap.update a (Obj.mapSeq fun _ => (#[] : Array Value))).push (seqObj "tuple" vs.toArray 0)).push (seqObj "list" #[] 0) } ∧ Pm vs.length p ∧ Up key p vs.length)
      (s := { s with heap := ((s.heap.update a (Obj.mapSeq fun _ => (#[] : Array Value))).push (seqObj "tuple" vs.toArray 0)).push (seqObj "list" #[] 0) }) (fun i j C hi hj hC => hc _ i j C kp hi hj hC) (fun p hp => ⟨rfl, hp⟩) (sorts (by omega))
    refine wpAny_bind (wpAny_mono (kat_run (Q := fun st' s' => ∃ p : Array Nat, arrOf st' = p.map (kas_item (vs.toArray.zip vs.toArray)) ∧ failedOf st' = none ∧ s' = { s with heap := ((s.heap.update a (Obj.mapSeq fun _ => (#[] : Array Value))).push (seqObj "tuple" vs.toArray 0)).push (seqObj "list" #[] 0) } ∧ Pm vs.length p ∧ Up key p vs.length)
      rfl h2' h64 (fun p st' s' _ a2 a3 a4 => ⟨p, a2, a3, a4⟩) W) ?_ fun _ _ e => e)
    rintro ⟨⟨⟩, st'⟩ s' ⟨p, har, hf, rfl, hp, hu⟩
    dsimp only
    rw [kat_snds rfl har, hf]
    have hsz : (List.toArray (p.toList.map fun i => vs.getD i Value.none)).size = vs.length := by rw [List.size_toArray, List.length_map, Array.length_toList, hp.size]
    refine wpAny_bind (seqEpoch_at o6 rfl (wpAny_bind (listUpdate_at o6 rfl ?_ (Nat.zero_le _) (by rw [hsz, sizeLine_eq]; omega))))
    simp only [bne_self_eq_false, Bool.false_eq_true, if_false]
    exact wpAny_pure (fin p hp hu)
theorem list_sort_pairs {a : Addr} {as : List Addr} {ps : List (Int × Int)} {n : Nat} {P : PySem.Fin → Shared → Prop} (ho : s.heap.get? a = some (seqObj "list" (as.map Value.ref).toArray n)) (h64 : as.length < 64) (hl : as.length = ps.length) (hne : a ∉ as)
    (hnd : (ps.map (·.1)).Nodup)
    (ht : ∀ (j : Nat) (x : Addr) (q : Int × Int), as[j]? = some x → ps[j]? = some q → ∃ t u, s.heap.get? x = some { cls := .type "tuple", data := .seq #[.int q.1 t, .int q.2 u] })
    (fin : ∀ p : Array Nat, Pm as.length p → Up (fun i => (ps.getD i (0, 0)).1) p as.length → P (.done (.ret .none)) { s with heap := sortedHeap s.heap a (as.map Value.ref) (p.toList.map fun i => (as.map Value.ref).getD i Value.none).toArray }) :
    wpAny (model prog w) A (Builtin.«list.sort» ⟨[.ref a], []⟩) P E s := by
  have len : (as.map Value.ref).length = as.length := List.length_map _
  have item : ∀ i, i < as.length → ∃ x q, as[i]? = some x ∧ ps[i]? = some q ∧ (as.map Value.ref).getD i Value.none = .ref x ∧ ps.getD i (0, 0) = q := fun i hi => by
    refine ⟨as[i], ps[i]'(by omega), List.getElem?_eq_getElem hi, List.getElem?_eq_getElem (by omega), ?_, ?_⟩
    · rw [List.getD_eq_getElem?_getD, List.getElem?_map, List.getElem?_eq_getElem hi]; rfl
    · rw [List.getD_eq_getElem?_getD, List.getElem?_eq_getElem (by omega)]; rfl
  refine list_sort_asked (key := fun i => (ps.getD i (0, 0)).1) (κ := tuples' true) ho (by rw [len]; exact h64) (fun h2 h' Q E' kp hQ => ?_) (fun h' i j C kp hi hj hC => ?_) (by rw [len]; exact fin)
  · -- the kind of sort
    have tups : ∀ (as : List Addr) (ps : List (Int × Int)), as.length = ps.length → (∀ (j : Nat) (x : Addr) (q : Int × Int), as[j]? = some x → ps[j]? = some q → ∃ t u, h'.get? x = some { cls := .type "tuple", data := .seq #[.int q.1 t, .int q.2 u] }) →
        ∃ fs : List Value, fs.length = as.length ∧ KatTups h' (as.map Value.ref) fs ∧ ∀ v ∈ fs, ∃ (i : Int) (t : Tok), v = .int i t := by
      intro as
      induction as with
      | nil => intro ps _ _; exact ⟨[], rfl, trivial, fun v hv => nomatch hv⟩
      | cons x as ih =>
        intro ps hl ht
        cases ps with
        | nil => cases hl
        | cons q ps =>
          obtain ⟨fs, f1, f2, f3⟩ := ih ps (by simpa using hl) fun j y r h1 h2 => ht (j + 1) y r (by simpa using h1) (by simpa using h2)
          obtain ⟨t, u, e⟩ := ht 0 x q rfl rfl
          exact ⟨.int q.1 t :: fs, by simp [f1], ⟨⟨x, _, _, _, rfl, e, rfl, rfl, rfl⟩, f2⟩, fun v hv => by
            rcases List.mem_cons.mp hv with rfl | hv
            · exact ⟨_, _, rfl⟩
            · exact f3 v hv⟩
    obtain ⟨fs, f1, f2, f3⟩ := tups as ps hl fun j x q h1 h2 => by
      obtain ⟨t, u, e⟩ := ht j x q h1 h2
      exact ⟨t, u, kp x _ (fun z => hne (by rw [← z]; exact List.mem_of_getElem? h1)) e⟩
    refine kat_kind (s := { s with heap := h' }) (T := .type "int") f2 (by rw [f1]; rw [len] at h2; omega) (fun v hv => ?_) (by rfl) hQ
    obtain ⟨i, t, rfl⟩ := f3 v hv
    exact .now
  · rw [len] at hi hj
    obtain ⟨x, q, x1, x2, x3, x4⟩ := item i hi
    obtain ⟨y, r, y1, y2, y3, y4⟩ := item j hj
    unfold kas_ask
    rw [x3, y3]
    obtain ⟨t, u, ex⟩ := ht i x q x1 x2
    obtain ⟨t', u', ey⟩ := ht j y r y1 y2
    have ex' := kp x _ (fun z => hne (by rw [← z]; exact List.mem_of_getElem? x1)) ex
    have ey' := kp y _ (fun z => hne (by rw [← z]; exact List.mem_of_getElem? y1)) ey
    refine kat_lt (s := { s with heap := h' }) ex' rfl ey' rfl ?_
    show KatLex prog w A true _ C [(.int q.1 t, .int r.1 t'), (.int q.2 u, .int r.2 u')] 0 { s with heap := h' }
    have hlt : lt (fun i => (ps.getD i (0, 0)).1) i j = decide (q.1 < r.1) := by
      show decide ((ps.getD i (0, 0)).1 < (ps.getD j (0, 0)).1) = _
      rw [x4, y4]
    rw [hlt] at hC
    refine kat_cons (wpAny_eqBool_int (kat_go (fun he => ?_) fun he => ?_))
    · have e1 : q.1 = r.1 := by simpa using he
      have hij : i = j := by
        have a1 : (ps.map (·.1))[i]? = some q.1 := by rw [List.getElem?_map, x2]; rfl
        have a2 : (ps.map (·.1))[j]? = some q.1 := by rw [List.getElem?_map, y2, e1]; rfl
        obtain ⟨b1, c1⟩ := List.getElem?_eq_some_iff.mp a1
        obtain ⟨b2, c2⟩ := List.getElem?_eq_some_iff.mp a2
        exact (List.getElem_inj hnd).mp (c1.trans c2.symm)
      subst hij
      rw [x2] at y2
      cases y2
      refine kat_yes (kat_cons (wpAny_eqBool_int (kat_go (fun _ => kat_yes (kat_nil ?_)) fun he2 => ?_)))
      · rw [decide_eq_false (by omega)] at hC
        exact hC
      · simp at he2
    · exact kat_no (oneLt_int hC)
end
end Srt
set_option maxHeartbeats 4000000
namespace L2
open PySem PySem.Spec PyProof.Rows
section
variable {X : Cx} {pins : List (Addr × Obj)} {σ : St} {H H' : Hp} {s : Shared}
theorem ObjOk.there {P : Program} {w : World} {h : Heap} {a : Addr} {o : HO} (x : ObjOk P w H h a o) : ∃ ob, h.get? a = some ob := by
  cases o with
  | lst xs => obtain ⟨_, _, _, _, e⟩ := x; exact ⟨_, e⟩
  | tup xs => obtain ⟨_, _, _, ob, e, _⟩ := x; exact ⟨_, e⟩
  | dK kvs => obtain ⟨_, _, _, _, o, _, _, e, _⟩ := x; exact ⟨_, e⟩
  | dT kvs => obtain ⟨_, _, _, _, o, _, _, e, _⟩ := x; exact ⟨_, e⟩
  | set S n => obtain ⟨o, _, _, _, e, _⟩ := x; exact ⟨_, e⟩
  | ins C dx fs => obtain ⟨_, _, _, e, _⟩ := x; exact ⟨_, e⟩
  | own y => obtain ⟨_, e⟩ := x; exact ⟨_, e⟩
  | xd fs => obtain ⟨_, ⟨_, _, _, e, _⟩, _⟩ := x; exact ⟨_, e⟩
  | rng lo hi => obtain ⟨_, _, _, e⟩ := x; exact ⟨_, e⟩
  | frz ob u => obtain ⟨e, _⟩ := x; exact ⟨_, e⟩
  | tbl ps => exact ⟨_, show h.get? a = some _ from x⟩
  | ctab q pos => obtain ⟨_, e, _⟩ := x; exact ⟨_, e⟩
  | met f y => exact ⟨_, show h.get? a = some _ from x⟩
  | ext φ => obtain ⟨_, ⟨_, e⟩, _⟩ := x; exact ⟨_, e⟩
theorem Inv.laidAll {h' : Heap} {t' : Nat} (I : Inv X pins σ H s) (k : ∀ b u, s.heap.get? b = some u → h'.get? b = some u) (hs : ∀ b u, s.heap.get? b = some u → H' b = H b) (new : ∀ b o, s.heap.get? b = none → H' b = some o → ObjOk X.prog X.w H' h' b o) :
    Inv X pins σ H' { s with heap := h', toks := t' } := by
  have lt : ∀ b o, H b = some o → H' b = some o := fun b o e => by
    obtain ⟨ob, q⟩ := (I.hok b o e).there
    exact (hs b ob q).trans e
  refine I.un (t' := t') ⟨fun b o e _ _ _ => k b o e, fun b o e _ _ _ => ⟨o.slots, k b o e⟩, fun b o e n _ => ?_, fun b o e _ => ⟨o, k b o e⟩, fun b xs e => lt b _ e, fun b o u e => lt b _ e, fun b ps e => ⟨#[], by rw [lt b _ e]; simp⟩⟩ fun b o e => ?_
  · rw [hs b o e]; exact n
  · cases hb : s.heap.get? b with
    | some u =>
      rw [hs b u hb] at e
      exact (I.hok b o e).stay (fun c v _ q => k c v q) (fun c q => lt c _ q) fun c xs q => lt c _ q
    | none => exact new b o hb e
def tupsAt (H : Hp) : List Addr → List (Int × Int) → Hp
  | a :: as, p :: ps => upd (tupsAt H as ps) a (.tup [.int p.1, .int p.2])
  | _, _ => H
theorem tupsAt_out {b : Addr} : ∀ {as : List Addr} {ps : List (Int × Int)}, b ∉ as → tupsAt H as ps b = H b
  | [], _, _ => rfl
  | _ :: _, [], _ => rfl
  | a :: as, p :: ps, h => by
    show upd (tupsAt H as ps) a _ b = _
    rw [upd_ne (fun e => h (by rw [e]; exact List.mem_cons_self))]
    exact tupsAt_out fun m => h (List.mem_cons_of_mem _ m)
theorem tupsAt_in {b : Addr} {q : Int × Int} : ∀ {as : List Addr} {ps : List (Int × Int)} {j : Nat}, as.Nodup → as[j]? = some b → ps[j]? = some q → tupsAt H as ps b = some (.tup [.int q.1, .int q.2])
  | [], _, _, _, h, _ => by simp at h
  | _ :: _, [], _, _, _, h => by simp at h
  | a :: as, p :: ps, 0, nd, h1, h2 => by
    simp at h1 h2
    subst h1 h2
    exact upd_same
  | a :: as, p :: ps, j + 1, nd, h1, h2 => by
    obtain ⟨n1, n2⟩ := List.nodup_cons.mp nd
    have h1' : as[j]? = some b := by simpa using h1
    show upd (tupsAt H as ps) a _ b = _
    rw [upd_ne (fun e => n1 (by rw [← e]; exact List.mem_of_getElem? h1'))]
    exact tupsAt_in n2 h1' (by simpa using h2)
theorem kv_nodup {κ : Type} : ∀ {kvs : List (κ × V)} {vs : List (κ × Value)}, KV kvs vs → kvs.map (·.1) = vs.map (·.1)
  | _, _, .nil => rfl
  | _, _, .cons r t => by
    rw [List.map_cons, List.map_cons, r.1, kv_nodup t]
structure SortedItems (H H' : Hp) (ps : List (Int × Int)) (l : Addr) (ts : List Addr) (qs : List (Int × Int)) : Prop where
  perm : qs.Perm ps
  up : (qs.map (·.1)).Pairwise (· ≤ ·)
  same : Same H H'
  fr : H l = none
  lst : H' l = some (.lst (ts.map V.ref))
  len : ts.length = qs.length
  tup : ∀ (j : Nat) (t : Addr) (q : Int × Int), ts[j]? = some t → qs[j]? = some q → H t = none ∧ H' t = some (.tup [.int q.1, .int q.2])
theorem call_sorted_items (hc : X.calm = true) : CallR X (.builtin "sorted") (fun xs H Q => ∃ (v d : Addr) (ps : List (Int × Int)), xs = [.ref v] ∧ H v = some (ViewO "dict_items" v d) ∧ H d = some (.dK (ps.map fun p => (Sum.inl p.1, V.int p.2))) ∧ ps.length < 64 ∧
    ∀ l ts qs H', SortedItems H H' ps l ts qs → Q (.ref l) H') := by
  intro pins s σ H xs us Q I r h
  obtain ⟨v, d, ps, rfl, hv, hd, h64, q⟩ := h
  obtain ⟨u, rfl, ru⟩ := vals1 r
  cases ru
  obtain ⟨z, lo, vs, rel, dd⟩ := dk_of I.hok hd
  obtain ⟨ep, hat⟩ := dd.dictAt
  have hln : vs.length = ps.length := by rw [← rel.length, List.length_map]
  have hvw : s.heap.IsItemsView v d := ⟨_, (I.hok v _ hv).1, rfl, rfl⟩
  have hnd : (ps.map (·.1)).Nodup := by
    have h1 := hat.nodup
    rw [← kv_nodup rel, List.map_map] at h1
    have e : ps.map ((fun x => x.1) ∘ fun p : Int × Int => ((Sum.inl p.1 : Key), V.int p.2)) = (ps.map (·.1)).map (Sum.inl : Int → Key) := by rw [List.map_map]; rfl
    rw [e] at h1
    exact (List.pairwise_map.mp h1).imp fun {a b} hab e => hab (by rw [e])
  refine Calls.call_function_entry kind_sorted plain_sorted entry_sorted (args_sorted1 _) ?_
  unfold Builtin.«sorted»
  refine wpAny_bind (m := checkCount "sorted" 1 1 _) (wpAny_pure ?_)
  refine wpAny_bind (PySem.W.kdx_collect (A := X.A.in1) (knd := mixKind X.prog X.w) (kvs := vs) (ep := ep) (I.ok.hd hc) hvw hat (by rw [hln, sizeLine_eq]; omega) fun h' tk as hk hl hG => ?_)
  have hla : as.length = ps.length := hl.trans hln
  refine wpAny_bind (wpAny_newList ?_ (by rw [List.length_map, hla, sizeLine_eq]; omega))
  have asnd : as.Nodup := hG.rise.imp fun h => Nat.ne_of_lt h
  have aslt : ∀ x ∈ as, s.heap.objs.size < x ∧ x < h'.objs.size := fun x hx => ⟨hG.above x hx, hG.there hx⟩
  have tup' : ∀ (j : Nat) (x : Addr) (q : Int × Int), as[j]? = some x → ps[j]? = some q → ∃ t u, h'.get? x = some { cls := .type "tuple", data := .seq #[.int q.1 t, .int q.2 u] } := fun j x q h1 h2 => by
    obtain ⟨key, k, y, e1, e2, e3⟩ := hG.pairs j x h1
    obtain ⟨p, hp, e4, e5⟩ := kv_get rel e1
    rw [List.getElem?_map, h2] at hp
    have hp' : ((Sum.inl q.1 : Key), V.int q.2) = p := Option.some.inj hp
    subst hp'
    have e4' : (Sum.inl q.1 : Key) = k := e4
    subst e4'
    obtain ⟨t, rfl⟩ := keyIs_rel e2
    obtain ⟨u, rfl⟩ := e5
    exact ⟨t, u, e3⟩
  have hoL : (h'.push (seqObj "list" (as.map Value.ref).toArray 0)).get? h'.objs.size = some (seqObj "list" (as.map Value.ref).toArray 0) := Heap.get?_push_size _ rfl
  refine wpAny_bind (wpAny_holding (wpAny_call_entry slot_list_sort ⟨_, hoL, rfl⟩ entry_list_sort ?_ (args_list_sort _)))
  refine Srt.list_sort_pairs (s := { s with heap := h'.push (seqObj "list" (as.map Value.ref).toArray 0), toks := tk }) (ps := ps) hoL (by omega) hla (fun m => absurd (aslt _ m).2 (Nat.lt_irrefl _)) hnd (fun j x q h1 h2 => by
    obtain ⟨t, u, e⟩ := tup' j x q h1 h2
    exact ⟨t, u, Heap.get?_push_of_some _ e⟩) fun p hp hu => ⟨_, rfl, wpAny_pure ⟨_, rfl, ?_⟩⟩
  -- what has come
  have ein : ∀ i ∈ p.toList, i < as.length := fun i hi => List.mem_range.mp (hp.mem_iff.mp hi)
  have eo : (p.toList.map fun i => (as.map Value.ref).getD i Value.none) = (p.toList.map fun i => as.getD i 0).map Value.ref := by
    rw [List.map_map]
    refine List.map_congr_left fun i hi => ?_
    have hi' := ein i hi
    show (as.map Value.ref).getD i Value.none = Value.ref (as.getD i 0)
    rw [List.getD_eq_getElem?_getD, List.getD_eq_getElem?_getD, List.getElem?_map, List.getElem?_eq_getElem hi']
    rfl
  obtain ⟨e, he⟩ := sortedHeap_at (vs := as.map Value.ref) (out := (p.toList.map fun i => (as.map Value.ref).getD i Value.none).toArray) hoL
  have I1 : Inv X pins σ H { s with heap := h', toks := tk } := I.kept hk
  have frl : H h'.objs.size = none := I1.hok.fresh (Nat.le_refl _)
  have kp : ∀ b o, s.heap.get? b = some o → (sortedHeap (h'.push (seqObj "list" (as.map Value.ref).toArray 0)) h'.objs.size (as.map Value.ref) (p.toList.map fun i => (as.map Value.ref).getD i Value.none).toArray).get? b = some o := fun b o q => by
    have hlt := Heap.lt_size (hk b o q)
    rw [sortedHeap_old (Nat.ne_of_lt hlt) (by rw [size_push']; exact Nat.lt_succ_of_lt hlt)]
    exact Heap.get?_push_of_some _ (hk b o q)
  have frS : ∀ b, s.heap.objs.size ≤ b → H b = none := fun b hb => I.hok.fresh hb
  have lnot : h'.objs.size ∉ as := fun m => absurd (aslt _ m).2 (Nat.lt_irrefl _)
  have lenP : p.toList.length = as.length := by rw [Array.length_toList, hp.size]
  have SI : SortedItems H (upd (tupsAt H as ps) h'.objs.size (.lst ((p.toList.map fun i => as.getD i 0).map V.ref))) ps h'.objs.size (p.toList.map fun i => as.getD i 0) (p.toList.map fun i => ps.getD i (0, 0)) := by
    refine ⟨?_, ?_, fun b o eb => ?_, frl, upd_same, by rw [List.length_map, List.length_map], fun j t q h1 h2 => ?_⟩
    · have := hp.map fun i => ps.getD i (0, 0)
      refine this.trans (List.Perm.of_eq ?_)
      rw [hla]
      refine List.ext_getElem? fun i => ?_
      rw [List.getElem?_map]
      by_cases hi : i < ps.length
      · rw [List.getElem?_range hi, List.getElem?_eq_getElem hi]
        show some (ps.getD i (0, 0)) = _
        rw [List.getD_eq_getElem?_getD, List.getElem?_eq_getElem hi]; rfl
      · rw [List.getElem?_eq_none (l := ps) (Nat.le_of_not_lt hi), List.getElem?_eq_none (l := List.range ps.length) (by rw [List.length_range]; exact Nat.le_of_not_lt hi)]; rfl
    · rw [List.map_map, List.pairwise_iff_getElem]
      intro i j hi hj hij
      rw [List.length_map] at hi hj
      have hx := hu i j (Nat.le_of_lt hij) (by omega)
      unfold Srt.kv at hx
      have gi : ∀ (k : Nat) (hk : k < p.toList.length), p.getD k 0 = p.toList[k] := fun k hk => by
        have hk' : k < p.size := by rwa [Array.length_toList] at hk
        simp [Array.getD, hk']
      rw [gi i hi, gi j hj] at hx
      simpa using hx
    · have hb : b < s.heap.objs.size := I.hok.lt eb
      rw [upd_ne (ne_of_none eb frl), tupsAt_out (fun m => absurd (aslt _ m).1 (Nat.not_lt.mpr (Nat.le_of_lt hb)))]
      exact eb
    · rw [List.getElem?_map] at h1 h2
      cases hj : p.toList[j]? with
      | none => rw [hj] at h1; cases h1
      | some i =>
        rw [hj] at h1 h2
        have hi : i < as.length := ein i (List.mem_of_getElem? hj)
        have e1 : as[i]? = some t := by
          have : as.getD i 0 = t := Option.some.inj h1
          rw [← this, List.getD_eq_getElem?_getD, List.getElem?_eq_getElem hi]; rfl
        have e2 : ps[i]? = some q := by
          have : ps.getD i (0, 0) = q := Option.some.inj h2
          rw [← this, List.getD_eq_getElem?_getD, List.getElem?_eq_getElem (by omega)]; rfl
        have mt := List.mem_of_getElem? e1
        refine ⟨frS _ (Nat.le_of_lt (aslt _ mt).1), ?_⟩
        rw [upd_ne (Nat.ne_of_lt (aslt _ mt).2)]
        exact tupsAt_in asnd e1 e2
  refine ⟨.ref h'.objs.size, _, I.laidAll (t' := tk) (H' := upd (tupsAt H as ps) h'.objs.size (.lst ((p.toList.map fun i => as.getD i 0).map V.ref))) kp (fun b u hb => ?_) (fun b o hb eb => ?_), rfl, q _ _ _ _ SI⟩
  · rw [upd_ne (Nat.ne_of_lt (Heap.lt_size (hk b u hb))), tupsAt_out (fun m => absurd (aslt _ m).1 (Nat.not_lt.mpr (Nat.le_of_lt (Heap.lt_size hb))))]
  · by_cases hbl : b = h'.objs.size
    · subst hbl
      rw [upd_same] at eb
      cases eb
      refine ⟨by rw [List.length_map, List.length_map, lenP, hla, sizeLine_eq]; omega, _, e, ?_, he⟩
      rw [eo]
      have go : ∀ l : List Addr, Vals (l.map V.ref) (l.map Value.ref) := fun l => by
        induction l with
        | nil => exact .nil
        | cons a l ih => exact .cons rfl ih
      exact go _
    · rw [upd_ne hbl] at eb
      by_cases hm : b ∈ as
      · obtain ⟨j, hj⟩ := List.mem_iff_getElem?.mp hm
        have hj' : j < ps.length := by have := (List.getElem?_eq_some_iff.mp hj).1; omega
        rw [tupsAt_in asnd hj (List.getElem?_eq_getElem hj')] at eb
        cases eb
        obtain ⟨t, u, e3⟩ := tup' j b ps[j] hj (List.getElem?_eq_getElem hj')
        refine ⟨by show 2 ≤ sizeLine; decide, [.int ps[j].1 t, .int ps[j].2 u], .cons ⟨t, rfl⟩ (.cons ⟨u, rfl⟩ .nil), { cls := .type "tuple", data := .seq #[.int ps[j].1 t, .int ps[j].2 u] }, ?_, rfl, _, rfl⟩
        have hlt := (aslt b hm).2
        rw [sortedHeap_old (Nat.ne_of_lt hlt) (by rw [size_push']; exact Nat.lt_succ_of_lt hlt)]
        exact Heap.get?_push_of_some _ e3
      · rw [tupsAt_out hm] at eb
        obtain ⟨ob, z⟩ := (I.hok b o eb).there
        rw [hb] at z
        cases z
end
end L2
set_option maxHeartbeats 4000000
namespace L2
open PySem PySem.Spec PyProof.Rows
def compOk (XN : List Str) (xs : List (Str × NameKind)) (N : List Str) (cap : List (Option Nat)) (sc : Scope) : Bool :=
  decide (sc.kind = .function) && decide N.Nodup && sc.names.all (fun y => decide (y.2 ≠ .cell)) && sc.names.all (fun y => decide (y.2 = .local → sc.names.lookup y.1 = some .local)) &&
  sc.names.all (fun y => decide (y.2 = .free → xs.lookup y.1 = some .cell ∨ xs.lookup y.1 = some .free)) && decide (cap.length = N.length) &&
  (List.range cap.length).all fun i => match (cap[i]?).join with
    | some j => decide (XN[j]? = N[i]?) && (match N[i]? with | some x => decide (sc.names.lookup x = some .free) | none => false)
    | none => true
theorem compScope_of {X : Cx} {XN N : List Str} {xs : List (Str × NameKind)} {cap : List (Option Nat)} {sc : Scope} (hN : X.N = XN) (hS : X.env.scope.names = xs) (h : compOk XN xs N cap sc = true) : CompScope X N cap sc := by
  subst hN hS
  unfold compOk at h
  simp only [Bool.and_eq_true, List.all_eq_true, decide_eq_true_eq] at h
  obtain ⟨⟨⟨⟨⟨⟨h1, h2⟩, h3⟩, h4⟩, h5⟩, h6⟩, h7⟩ := h
  refine ⟨h1, h2, h3, h4, h5, h6, fun i hi j hj => ?_⟩
  have q := h7 i hi
  rw [hj] at q
  simp only [Bool.and_eq_true, decide_eq_true_eq] at q
  refine ⟨q.1, ?_⟩
  cases hx : N[i]? with
  | none => rw [hx] at q; exact absurd q.2 Bool.false_ne_true
  | some x =>
    rw [hx] at q
    have e : sc.names.lookup x = some .free := by simpa using q.2
    exact ⟨x, rfl, PySem.mem_of_lookup e, e⟩
theorem pe_ty {X : Cx} {x : Str} {T : String} {pos : Pos} (hg : Gl X x) (hm : X.mg x = none) (hv : bootBuiltins x = some (.type T)) (hn : x ≠ "__name__" := by decide) (hd : (x == ("__debug__" : Str)) = false := by decide) : PE X (.Name x pos) (tC (.ty T)) := pe_bltn (v := .ty T) hg hm hv rfl hn hd
theorem seq_cut {t u : TS} {D : Ends} {σ : St} {H : Hp} (J : St → Hp → Prop) (h1 : ∀ k : St → Hp → Prop, (∀ σ' H', J σ' H' → k σ' H') → t { D with nx := k } σ H) (h2 : ∀ σ' H', J σ' H' → u D σ' H') : tSeq t u D σ H := h1 (u D) h2
theorem at_in {xs : List Int} {i : Int} (h0 : 0 ≤ i) (h1 : i < (xs.length : Int)) : ∃ p ∈ xs, atI (xs.map V.int) i = some (.int p) := by
  have hj : i.toNat < xs.length := by omega
  have e : ((i.toNat : Nat) : Int) = i := Int.toNat_of_nonneg h0
  refine ⟨xs[i.toNat], List.getElem_mem hj, ?_⟩
  have q1 : (xs.map V.int)[i.toNat]? = some (.int xs[i.toNat]) := by rw [List.getElem?_map, List.getElem?_eq_getElem hj]; rfl
  have q2 := atI_nat q1
  rw [e] at q2
  exact q2
theorem call_isinstK {X : Cx} {K : PySem.W.Frag} (hK : X.K = K) : CallR X (.builtin "isinstance") (fun xs H Q => ∃ (x : V) (t : Value) (T : String) (b : Bool), xs = [x, .ty T] ∧ TyOf K H x t ∧ PySem.W.kitOne K t (.type T) = some b ∧ Q (.bl b) H) := by
  subst hK
  exact call_isinst
theorem pg_tupK {X : Cx} {K : PySem.W.Frag} {es : List Expr} {k : Nat} {t : TGs} {n : Nat} {pos : Pos} (hK : X.K = K) (hc : X.calm = true) (h : PGs X es t)
    (hn : (assignEach es X.env).length = n := by rfl) (hst : (assignEach es X.env).findIdx? (·.1) = none := by rfl) : PG X (.Tuple es k pos) (gTup K n t) := by
  subst hK
  exact pg_tup hc h hn hst
theorem Same.tup {K : PySem.W.Frag} {H H' : Hp} {a : Addr} {xs : List V} (e : Same H H') (h : SqT K H a xs) : SqT K H' a xs := by
  rcases h with (h | ⟨o, h⟩) | h
  · exact .inl (.inl (e _ _ h))
  · exact .inl (.inr ⟨o, e _ _ h⟩)
  · exact .inr h
theorem Same.upd {H H' : Hp} {a : Addr} {o : HO} (e : Same H H') (h : H a = none) : Same H (L2.upd H' a o) := fun b u q => by
  rw [upd_ne (ne_of_none q h)]
  exact e b u q
end L2
namespace Tl
open L2
def kvs (l : List (Int × Int)) : List (Key × V) := l.map fun p => (Sum.inl p.1, V.int p.2)
def get (l : List (Int × Int)) (n : Int) : Option Int := (l.find? fun p => decide (p.1 = n)).map (·.2)
def put (l : List (Int × Int)) (n v : Int) : List (Int × Int) :=
  if (l.any fun p => decide (p.1 = n)) = true then l.map (fun p => if p.1 = n then (p.1, v) else p) else l ++ [(n, v)]
def step (l : List (Int × Int)) (n : Int) : List (Int × Int) := put l n ((get l n).getD 0 + 1)
def tly (ns : List Int) : List (Int × Int) := ns.foldl step []
theorem dec_inl (a b : Int) : decide ((Sum.inl a : Key) = Sum.inl b) = decide (a = b) := by
  by_cases h : a = b
  · rw [h]; simp
  · rw [decide_eq_false h, decide_eq_false (fun q => h (Sum.inl.inj q))]
theorem val_kvs (l : List (Int × Int)) (n : Int) : valV (kvs l) (Sum.inl n : Key) = (get l n).map V.int := by
  unfold valV kvs get
  induction l with
  | nil => rfl
  | cons p r ih =>
    rw [List.map_cons, List.find?_cons, List.find?_cons]
    show Option.map _ (match decide ((Sum.inl p.1 : Key) = Sum.inl n) with | true => _ | false => _) = _
    rw [dec_inl]
    by_cases h : p.1 = n
    · rw [decide_eq_true h]; rfl
    · rw [decide_eq_false h]; exact ih
theorem put_kvs (l : List (Int × Int)) (n v : Int) : putK (kvs l) (Sum.inl n : Key) (V.int v) = kvs (put l n v) := by
  have ha : ((kvs l).any fun kv => decide (kv.1 = (Sum.inl n : Key))) = l.any fun p => decide (p.1 = n) := by
    unfold kvs
    rw [List.any_map]
    congr 1
    funext p
    exact dec_inl p.1 n
  unfold putK put
  rw [ha]
  split
  · unfold kvs
    rw [List.map_map, List.map_map]
    refine List.map_congr_left fun p _ => ?_
    show (if (Sum.inl p.1 : Key) = Sum.inl n then ((Sum.inl p.1 : Key), V.int v) else (Sum.inl p.1, V.int p.2)) = ((Sum.inl (if p.1 = n then (p.1, v) else p).1 : Key), V.int (if p.1 = n then (p.1, v) else p).2)
    by_cases h : p.1 = n
    · rw [if_pos h, if_pos (by rw [h])]
    · rw [if_neg h, if_neg (fun q => h (Sum.inl.inj q))]
  · unfold kvs
    rw [List.map_append]
    rfl
theorem get_put (l : List (Int × Int)) (n v m : Int) : get (put l n v) m = if m = n then some v else get l m := by
  have h := valV_put (kvs l) (Sum.inl n : Key) (Sum.inl m) (V.int v)
  rw [put_kvs, val_kvs, val_kvs] at h
  by_cases e : m = n
  · rw [if_pos e]
    rw [if_pos (by rw [e])] at h
    cases q : get (put l n v) m with
    | none => rw [q] at h; cases h
    | some x => rw [q] at h; injection h with h; injection h with h; rw [h]
  · rw [if_neg e]
    rw [if_neg (fun q => e (Sum.inl.inj q))] at h
    cases q : get (put l n v) m with
    | none =>
      rw [q] at h
      cases q2 : get l m with
      | none => rfl
      | some y => rw [q2] at h; cases h
    | some x =>
      rw [q] at h
      cases q2 : get l m with
      | none => rw [q2] at h; cases h
      | some y => rw [q2] at h; injection h with h; injection h with h; rw [h]
theorem get_isSome {l : List (Int × Int)} {n : Int} : (l.any fun p => decide (p.1 = n)) = (get l n).isSome := by
  unfold get
  induction l with
  | nil => rfl
  | cons p r ih =>
    rw [List.any_cons, List.find?_cons]
    by_cases h : p.1 = n
    · rw [decide_eq_true h]; rfl
    · rw [decide_eq_false h]; exact ih
theorem put_keys {l : List (Int × Int)} {n v : Int} : (put l n v).map (·.1) = if (get l n).isSome = true then l.map (·.1) else l.map (·.1) ++ [n] := by
  unfold put
  rw [get_isSome]
  split
  · rw [List.map_map]
    refine List.map_congr_left fun p _ => ?_
    show (if p.1 = n then (p.1, v) else p).1 = p.1
    split <;> rfl
  · rw [List.map_append]; rfl
theorem mem_keys {l : List (Int × Int)} {n : Int} : n ∈ l.map (·.1) ↔ (get l n).isSome = true := by
  rw [← get_isSome, List.any_eq_true, List.mem_map]
  constructor
  · rintro ⟨p, hp, e⟩; exact ⟨p, hp, decide_eq_true e⟩
  · rintro ⟨p, hp, e⟩; exact ⟨p, hp, of_decide_eq_true e⟩
structure Ok (pre : List Int) (l : List (Int × Int)) : Prop where
  nd : (l.map (·.1)).Nodup
  val : ∀ n, get l n = if n ∈ pre then some (pre.count n : Int) else none
theorem Ok.step {pre : List Int} {l : List (Int × Int)} (h : Ok pre l) (n : Int) : Ok (pre ++ [n]) (step l n) := by
  have hv := h.val n
  refine ⟨?_, fun m => ?_⟩
  · unfold Tl.step
    rw [put_keys]
    split
    · exact h.nd
    · rename_i hs
      exact nd_snoc h.nd fun m => hs (mem_keys.mp m)
  · unfold Tl.step
    rw [get_put]
    by_cases e : m = n
    · subst e
      rw [if_pos rfl, if_pos (by simp), List.count_append, hv]
      by_cases hm : m ∈ pre
      · rw [if_pos hm]
        simp
      · rw [if_neg hm, List.count_eq_zero_of_not_mem hm]
        simp
    · rw [if_neg e, h.val m, List.count_append]
      have e1 : List.count m [n] = 0 := List.count_eq_zero_of_not_mem (by simp [e])
      rw [e1]
      by_cases hm : m ∈ pre
      · rw [if_pos hm, if_pos (by simp [hm])]; simp
      · rw [if_neg hm, if_neg (by simp [hm, e])]
theorem ok_fold : ∀ (ns pre : List Int) (l : List (Int × Int)), Ok pre l → Ok (pre ++ ns) (ns.foldl step l)
  | [], pre, l, h => by simpa using h
  | n :: ns, pre, l, h => by
    have := ok_fold ns (pre ++ [n]) (step l n) (h.step n)
    simpa using this
theorem ok (ns : List Int) : Ok ns (tly ns) := by
  have := ok_fold ns [] [] ⟨List.nodup_nil, fun n => by simp [get]⟩
  simpa [tly] using this
theorem tly_snoc (ns : List Int) (n : Int) : tly (ns ++ [n]) = step (tly ns) n := by
  unfold tly
  rw [List.foldl_append]
  rfl
theorem tly_len (ns : List Int) : (tly ns).length ≤ ns.length := by
  have key : ∀ (ns : List Int) (l : List (Int × Int)), (ns.foldl step l).length ≤ l.length + ns.length := by
    intro ns
    induction ns with
    | nil => intro l; simp
    | cons n ns ih =>
      intro l
      have h1 : (step l n).length ≤ l.length + 1 := by
        unfold step put
        split
        · rw [List.length_map]; omega
        · rw [List.length_append]; simp
      have := ih (step l n)
      show (ns.foldl step (step l n)).length ≤ l.length + (ns.length + 1)
      omega
  have := key ns []
  simpa [tly] using this
theorem get_mem {l : List (Int × Int)} (nd : (l.map (·.1)).Nodup) {p : Int × Int} (hp : p ∈ l) : get l p.1 = some p.2 := by
  induction l with
  | nil => cases hp
  | cons q r ih =>
    unfold get
    rw [List.find?_cons]
    have nd' : (q.1 :: r.map (·.1)).Nodup := nd
    obtain ⟨n1, n2⟩ := List.nodup_cons.mp nd'
    rcases List.mem_cons.mp hp with e | hp
    · subst e
      rw [decide_eq_true rfl]
      rfl
    · have hne : ¬ q.1 = p.1 := fun e => n1 (by rw [e]; exact List.mem_map.mpr ⟨p, hp, rfl⟩)
      rw [decide_eq_false hne]
      exact ih n2 hp
theorem mem_tly {ns : List Int} {p : Int × Int} (hp : p ∈ tly ns) : p.1 ∈ ns ∧ p.2 = (ns.count p.1 : Int) := by
  have h := get_mem (ok ns).nd hp
  rw [(ok ns).val] at h
  by_cases hm : p.1 ∈ ns
  · rw [if_pos hm] at h
    exact ⟨hm, (Option.some.inj h).symm⟩
  · rw [if_neg hm] at h; cases h
theorem keys_mem {ns : List Int} {n : Int} : n ∈ (tly ns).map (·.1) ↔ n ∈ ns := by
  rw [mem_keys, (ok ns).val]
  by_cases h : n ∈ ns <;> simp [h]
theorem keys_perm {ns ms : List Int} (h : ns.Perm ms) : ((tly ns).map (·.1)).Perm ((tly ms).map (·.1)) := by
  refine (List.perm_ext_iff_of_nodup (ok ns).nd (ok ms).nd).mpr fun n => ?_
  rw [keys_mem, keys_mem]
  exact h.mem_iff
structure Kinds (ns ks : List Int) : Prop where
  perm : ks.Perm ((tly ns).map (·.1))
  up : ks.Pairwise (· ≤ ·)
theorem Kinds.same {ns ms ks js : List Int} (hp : ns.Perm ms) (a : Kinds ns ks) (b : Kinds ms js) : ks = js :=
  PySem.W.ksm_same ((a.perm.trans (keys_perm hp)).trans b.perm.symm) a.up b.up
theorem pairs_eq {ns ks : List Int} {qs : List (Int × Int)} (hp : qs.Perm (tly ns)) (hu : (qs.map (·.1)).Pairwise (· ≤ ·)) (a : Kinds ns ks) : qs = ks.map fun k => (k, (ns.count k : Int)) := by
  have e1 : qs.map (·.1) = ks := PySem.W.ksm_same ((hp.map (·.1)).trans a.perm.symm) hu a.up
  rw [← e1, List.map_map]
  have : qs = qs.map id := by simp
  refine this.trans (List.map_congr_left fun q hq => ?_)
  have := (mem_tly (hp.mem_iff.mp hq)).2
  show q = (q.1, (ns.count q.1 : Int))
  rw [← this]
end Tl
set_option maxHeartbeats 400000
namespace Tl
end Tl
set_option maxHeartbeats 400000
namespace Tl
def most (ns : List Int) : Int := ((tly ns).map (·.2)).foldl max 0
theorem foldl_max : ∀ (l : List Int) (a : Int), a ≤ l.foldl max a ∧ (∀ x ∈ l, x ≤ l.foldl max a) ∧ (l.foldl max a = a ∨ l.foldl max a ∈ l)
  | [], a => ⟨Int.le_refl _, (fun _ h => nomatch h), .inl rfl⟩
  | y :: l, a => by
    obtain ⟨h1, h2, h3⟩ := foldl_max l (max a y)
    show a ≤ l.foldl max (max a y) ∧ (∀ x ∈ y :: l, x ≤ l.foldl max (max a y)) ∧ (l.foldl max (max a y) = a ∨ l.foldl max (max a y) ∈ y :: l)
    refine ⟨by omega, fun x hx => ?_, ?_⟩
    · rcases List.mem_cons.mp hx with e | e
      · rw [e]; omega
      · exact h2 x e
    · rcases h3 with e | e
      · rcases Int.le_total a y with z | z
        · right; rw [e, Int.max_eq_right z]; exact List.mem_cons_self
        · left; rw [e, Int.max_eq_left z]
      · right; exact List.mem_cons_of_mem _ e
theorem cnt_mem {ns : List Int} {k : Int} (hk : k ∈ ns) : (ns.count k : Int) ∈ (tly ns).map (·.2) := by
  obtain ⟨p, hp, e⟩ := List.mem_map.mp (keys_mem.mpr hk)
  refine List.mem_map.mpr ⟨p, hp, ?_⟩
  rw [(mem_tly hp).2, ← e]
theorem mem_cnt {ns : List Int} {c : Int} (h : c ∈ (tly ns).map (·.2)) : ∃ k ∈ ns, (ns.count k : Int) = c := by
  obtain ⟨p, hp, e⟩ := List.mem_map.mp h
  obtain ⟨m1, m2⟩ := mem_tly hp
  exact ⟨p.1, m1, by rw [← m2, e]⟩
theorem most_nn (ns : List Int) : 0 ≤ most ns := (foldl_max _ _).1
theorem most_up {ns : List Int} {k : Int} (hk : k ∈ ns) : (ns.count k : Int) ≤ most ns := (foldl_max _ _).2.1 _ (cnt_mem hk)
theorem most_le {ns : List Int} (k : Int) : (ns.count k : Int) ≤ most ns := by
  by_cases hk : k ∈ ns
  · exact most_up hk
  · rw [List.count_eq_zero_of_not_mem hk]; exact most_nn ns
theorem most_is {ns : List Int} (h : ns ≠ []) : ∃ k ∈ ns, (ns.count k : Int) = most ns := by
  rcases (foldl_max ((tly ns).map (·.2)) 0).2.2 with e | e
  · exfalso
    cases ns with
    | nil => exact h rfl
    | cons n ns =>
      have h1 := most_up (ns := n :: ns) (k := n) List.mem_cons_self
      have h2 : 0 < (n :: ns).count n := List.count_pos_iff.mpr List.mem_cons_self
      have e' : most (n :: ns) = 0 := e
      omega
  · exact mem_cnt e
theorem most_eq {ns : List Int} {M : Int} (h0 : 0 ≤ M) (hu : ∀ c ∈ (tly ns).map (·.2), c ≤ M) (hi : M = 0 ∨ M ∈ (tly ns).map (·.2)) : M = most ns := by
  have h1 : most ns ≤ M := by
    rcases (foldl_max ((tly ns).map (·.2)) 0).2.2 with e | e
    · have e' : most ns = 0 := e
      omega
    · exact hu _ e
  have h2 : M ≤ most ns := by
    rcases hi with e | e
    · rw [e]; exact most_nn ns
    · exact (foldl_max _ _).2.1 _ e
  omega
theorem perm_most {ns ms : List Int} (h : ns.Perm ms) : most ns = most ms := by
  have key : ∀ {ns ms : List Int}, ns.Perm ms → most ns ≤ most ms := fun {ns ms} h => by
    by_cases hn : ns = []
    · rw [hn]; exact most_nn ms
    · obtain ⟨k, hk, e⟩ := most_is hn
      rw [← e, h.count_eq]
      exact most_le k
  exact Int.le_antisymm (key h) (key h.symm)
end Tl
set_option maxHeartbeats 400000
namespace Tl
theorem tly_vals (ns : List Int) : (tly ns).map (·.2) = ((tly ns).map (·.1)).map fun k => (ns.count k : Int) := by
  rw [List.map_map]
  exact List.map_congr_left fun p hp => (mem_tly hp).2
end Tl
set_option maxHeartbeats 4000000
namespace L2
open PySem PySem.Spec PyProof.Rows
section
variable {X : Cx} {pins : List (Addr × Obj)} {σ : St} {H : Hp} {s : Shared}
end
end L2
set_option maxHeartbeats 4000000
namespace L2
open PySem PySem.Spec PyProof.Rows
section
variable {X : Cx} {pins : List (Addr × Obj)} {σ : St} {H : Hp} {s : Shared}
theorem for_it {J : It} {n : Nat} {g : TG} {tb : TS} {D : Ends} {σ : St} {H : Hp} (Pv : Nat → St → Hp → Prop) (h0 : Pv 0 σ H)
    (hgo : ∀ i σ H, i < n → Pv i σ H → J.go i H) (hstop : ∀ σ H, Pv n σ H → J.stop n H)
    (hs : ∀ i σ H x H', i < n → Pv i σ H → J.yld i H x H' → g x σ H' fun σ2 H2 => tb { D with nx := Pv (i + 1), ct := Pv (i + 1), bk := D.nx } σ2 H2) (hd : ∀ σ H, Pv n σ H → D.nx σ H) :
    ∃ W : Nat → Nat → St → Hp → Prop, (∃ m, W 0 m σ H) ∧ ∀ i m σ H, W i m σ H →
      (J.stop i H ∧ D.nx σ H) ∨ (J.go i H ∧ ∃ N : St → Hp → Prop, (∀ σ' H', N σ' H' → ∃ m', m' < m ∧ W (i + 1) m' σ' H') ∧ ∀ x H', J.yld i H x H' → g x σ H' fun σ2 H2 => tb { D with nx := N, ct := N, bk := D.nx } σ2 H2) := by
  refine ⟨fun i m σ H => m = n - i ∧ i ≤ n ∧ Pv i σ H, ⟨n, by simp, Nat.zero_le _, h0⟩, ?_⟩
  rintro i m σ H ⟨rfl, hi, p⟩
  by_cases hlt : i < n
  · exact .inr ⟨hgo i σ H hlt p, Pv (i + 1), fun σ' H' p' => ⟨n - (i + 1), by omega, rfl, hlt, p'⟩, fun x H' y => hs i σ H x H' hlt p y⟩
  · have e : i = n := by omega
    subst e
    exact .inl ⟨hstop σ H p, hd σ H p⟩
theorem lc_it {J : It} {n : Nat} {cap : List (Option Nat)} {g : TG} {tt : TT} {te : TE} {σ : St} {H1 : Hp} {Q : VK} (Pv : Nat → List V → Addr → St → Hp → Prop)
    (h0 : ∀ D, H1 D = none → Pv 0 [] D (cap0 cap σ) (upd H1 D (.lst [])))
    (hgo : ∀ i acc D σ H, i < n → Pv i acc D σ H → J.go i H) (hstop : ∀ acc D σ H, Pv n acc D σ H → J.stop n H)
    (hs : ∀ i acc D σ H x H' (R : St → Hp → Prop), i < n → (∀ acc' σ' H', Pv (i + 1) acc' D σ' H' → R σ' H') → Pv i acc D σ H → J.yld i H x H' → g x σ H' fun σ3 H3 => tt σ3 H3 fun b H4 =>
      if b = true then te σ3 H4 fun v H5 => ∃ acc, H5 D = some (.lst acc) ∧ acc.length < sizeLine ∧ R σ3 (upd H5 D (.lst (acc ++ [v]))) else R σ3 H4)
    (hd : ∀ acc D σ H, Pv n acc D σ H → Q (.ref D) H) : LcGo cap g tt te σ Q J H1 := by
  intro D hD
  refine ⟨fun i m σ' H' => m = n - i ∧ i ≤ n ∧ ∃ acc, Pv i acc D σ' H', ⟨n, by simp, Nat.zero_le _, [], h0 D hD⟩, ?_⟩
  rintro i m σ' H' ⟨rfl, hi, acc, p⟩
  by_cases hlt : i < n
  · refine .inr ⟨hgo i acc D σ' H' hlt p, fun x H2 y => ?_⟩
    have key := hs i acc D σ' H' x H2 (fun σ' H' => ∃ m', m' < n - i ∧ m' = n - (i + 1) ∧ i + 1 ≤ n ∧ ∃ acc, Pv (i + 1) acc D σ' H') hlt (fun acc' σ'' H'' p' => ⟨n - (i + 1), by omega, rfl, hlt, acc', p'⟩) p y
    exact key
  · have e : i = n := by omega
    subst e
    exact .inl ⟨hstop acc D σ' H' p, hd acc D σ' H' p⟩
end
end L2
set_option maxHeartbeats 4000000
namespace L2
open PySem PySem.Spec PyProof.Rows
section
variable {K : PySem.W.Frag} {cap : List (Option Nat)} {g : TG} {tt : TT} {te : TE} {σ : St} {H1 : Hp} {Q : VK}
theorem smallM {n : Nat} (h : n ≤ 1000000) : n < sizeLine := by rw [sizeLine_eq]; omega
theorem leM {n : Nat} (h : n ≤ 1000000) : n ≤ sizeLine := by rw [sizeLine_eq]; omega
theorem lc_rel {J : It} {n : Nat} (S : St → Prop) (P : Nat → List V → Addr → Hp → Prop)
    (hgo : ∀ i H', i < n → Same H1 H' → J.go i H') (hst : ∀ H', Same H1 H' → J.stop n H') (hn : n ≤ 1000000) (h0 : S (cap0 cap σ)) (p0 : ∀ D, H1 D = none → P 0 [] D (upd H1 D (.lst [])))
    (lenP : ∀ i acc D H, P i acc D H → acc.length ≤ i)
    (stab : ∀ i acc D H H', P i acc D H → (∀ b o, b ≠ D → H b = some o → H' b = some o) → P i acc D H')
    (step : ∀ (i : Nat) (acc : List V) (D : Addr) (σ' : St) (H' : Hp) (x : V) (H2 : Hp) (k : V → St → Hp → Prop) (r : St → Hp → Prop), i < n → S σ' → Same H1 H' → H1 D = none → H' D = some (.lst acc) → P i acc D H' → J.yld i H' x H2 →
      (∀ v σ3 H5, S σ3 → Same H' H5 → P (i + 1) (acc ++ [v]) D H5 → k v σ3 H5) → (∀ σ3 H4, S σ3 → Same H' H4 → P (i + 1) acc D H4 → r σ3 H4) →
      g x σ' H2 fun σ3 H3 => tt σ3 H3 fun b H4 => if b = true then te σ3 H4 (fun v H5 => k v σ3 H5) else r σ3 H4)
    (done : ∀ (acc : List V) (D : Addr) (σ' : St) (H' : Hp), H1 D = none → Same H1 H' → H' D = some (.lst acc) → P n acc D H' → Q (.ref D) H') : LcGo cap g tt te σ Q J H1 := by
  refine lc_it (n := n) (fun i acc D σ' H' => S σ' ∧ Same H1 H' ∧ H1 D = none ∧ H' D = some (.lst acc) ∧ P i acc D H') (fun D hD => ⟨h0, (Same.refl H1).upd hD, hD, upd_same, p0 D hD⟩)
    (fun i acc D σ' H' hi p => hgo i H' hi p.2.1) (fun acc D σ' H' p => hst H' p.2.1) (fun i acc D σ' H' x H2 R hi hR p y => ?_) (fun acc D σ' H' p => done acc D σ' H' p.2.2.1 p.2.1 p.2.2.2.1 p.2.2.2.2)
  obtain ⟨q1, q2, q3, q4, q5⟩ := p
  refine step i acc D σ' H' x H2 (fun v σ3 H5 => ∃ acc, H5 D = some (.lst acc) ∧ acc.length < sizeLine ∧ R σ3 (upd H5 D (.lst (acc ++ [v])))) R hi q1 q2 q3 q4 q5 y (fun v σ3 H5 s3 sm p5 => ?_) (fun σ3 H4 s3 sm p4 => ?_)
  · have hl := lenP i acc D H' q5
    refine ⟨acc, sm D _ q4, smallM (by omega), hR (acc ++ [v]) σ3 _ ⟨s3, (q2.trans sm).upd q3, q3, upd_same, stab _ _ _ _ _ p5 fun b o hb e => by rw [upd_ne hb]; exact e⟩⟩
  · exact hR acc σ3 H4 ⟨s3, q2.trans sm, q3, sm D _ q4, p4⟩
theorem lc_fm {J : It} {n : Nat} (S : St → Prop) (fs : Nat → Option V)
    (hgo : ∀ i H', i < n → Same H1 H' → J.go i H') (hst : ∀ H', Same H1 H' → J.stop n H') (hn : n ≤ 1000000) (h0 : S (cap0 cap σ))
    (step : ∀ (i : Nat) (σ' : St) (H' : Hp) (x : V) (H2 : Hp) (k : V → St → Hp → Prop) (r : St → Hp → Prop), i < n → S σ' → Same H1 H' → J.yld i H' x H2 →
      (∀ v σ3 H5, fs i = some v → S σ3 → Same H' H5 → k v σ3 H5) → (∀ σ3 H4, fs i = none → S σ3 → Same H' H4 → r σ3 H4) →
      g x σ' H2 fun σ3 H3 => tt σ3 H3 fun b H4 => if b = true then te σ3 H4 (fun v H5 => k v σ3 H5) else r σ3 H4)
    (done : ∀ D H', H1 D = none → Same H1 H' → H' D = some (.lst ((List.range n).filterMap fs)) → Q (.ref D) H') : LcGo cap g tt te σ Q J H1 := by
  refine lc_rel (n := n) S (fun i acc _ _ => acc = (List.range i).filterMap fs) hgo hst hn h0 (fun _ _ => rfl) (fun i acc D H e => ?_) (fun i acc D H H' e _ => e) (fun i acc D σ' H' x H2 k r hi s1 s2 hD hA e y hk hr => ?_) (fun acc D σ' H' hD sm hA e => done D H' hD sm (e ▸ hA))
  · subst e
    have := List.length_filterMap_le fs (List.range i)
    rw [List.length_range] at this
    exact this
  · subst e
    refine step i σ' H' x H2 k r hi s1 s2 y (fun v σ3 H5 hv s3 sm => hk v σ3 H5 s3 sm ?_) (fun σ3 H4 hv s3 sm => hr σ3 H4 s3 sm ?_)
    · rw [List.range_succ, List.filterMap_append]; simp [hv]
    · rw [List.range_succ, List.filterMap_append]; simp [hv]
theorem range_fm {xs : List V} {f : V → Option V} : (List.range xs.length).filterMap (fun i => xs[i]?.bind f) = xs.filterMap f := by
  have e : xs = (List.range xs.length).filterMap fun i => xs[i]? := by
    apply List.ext_getElem?
    intro i
    have key : ∀ n, n ≤ xs.length → (List.range n).filterMap (fun i => xs[i]?) = xs.take n := fun n => by
      induction n with
      | zero => intro _; simp
      | succ n ih =>
        intro hn
        rw [List.range_succ, List.filterMap_append, ih (by omega), List.take_add_one]
        simp [List.getElem?_eq_getElem (show n < xs.length by omega)]
    rw [key xs.length (Nat.le_refl _), List.take_length]
  conv => rhs; rw [e]
  rw [List.filterMap_filterMap]
theorem lc_listF {a : Addr} {xs : List V} (S : St → Prop) (f : V → Option V) (hn : xs.length ≤ 1000000) (h0 : S (cap0 cap σ)) (ha : SqL K H1 a xs)
    (step : ∀ (i : Nat) (x : V) (σ' : St) (H' : Hp) (k : V → St → Hp → Prop) (r : St → Hp → Prop), xs[i]? = some x → S σ' → Same H1 H' →
      (∀ v σ3 H5, f x = some v → S σ3 → Same H' H5 → k v σ3 H5) → (∀ σ3 H4, f x = none → S σ3 → Same H' H4 → r σ3 H4) →
      g x σ' H' fun σ3 H3 => tt σ3 H3 fun b H4 => if b = true then te σ3 H4 (fun v H5 => k v σ3 H5) else r σ3 H4)
    (done : ∀ D H', H1 D = none → Same H1 H' → H' D = some (.lst (xs.filterMap f)) → Q (.ref D) H') : LcGo cap g tt te σ Q (Itl K a) H1 := by
  refine lc_fm (n := xs.length) S (fun i => xs[i]?.bind f) (fun i H' hi sm => ⟨xs, xs[i], sm.seq ha, List.getElem?_eq_getElem hi⟩) (fun H' sm => ⟨xs, sm.seq ha, Nat.le_refl _⟩) hn h0 (fun i σ' H' x H2 k r hi s1 sm y hk hr => ?_) (fun D H' hD sm hA => done D H' hD sm (by rw [range_fm] at hA; exact hA))
  obtain ⟨e, y⟩ := y
  subst e
  have hx := y xs (sm.seq ha)
  refine step i x σ' H2 k r hx s1 sm (fun v σ3 H5 hv s3 sm3 => hk v σ3 H5 (by simp only [hx]; exact hv) s3 sm3) (fun σ3 H4 hv s3 sm3 => hr σ3 H4 (by simp only [hx]; exact hv) s3 sm3)
theorem fm_map {α β : Type} (f : α → β) (xs : List α) : xs.filterMap (fun x => some (f x)) = xs.map f := by
  rw [List.filterMap_eq_map']
theorem lc_listM {a : Addr} {xs : List V} (S : St → Prop) (f : V → V) (hn : xs.length ≤ 1000000) (h0 : S (cap0 cap σ)) (ha : SqL K H1 a xs)
    (step : ∀ (i : Nat) (x : V) (σ' : St) (H' : Hp) (k : V → St → Hp → Prop) (r : St → Hp → Prop), xs[i]? = some x → S σ' → Same H1 H' → (∀ σ3 H5, S σ3 → Same H' H5 → k (f x) σ3 H5) →
      g x σ' H' fun σ3 H3 => tt σ3 H3 fun b H4 => if b = true then te σ3 H4 (fun v H5 => k v σ3 H5) else r σ3 H4)
    (done : ∀ D H', H1 D = none → Same H1 H' → H' D = some (.lst (xs.map f)) → Q (.ref D) H') : LcGo cap g tt te σ Q (Itl K a) H1 :=
  lc_listF S (fun x => some (f x)) hn h0 ha (fun i x σ' H' k r hx s1 sm hk _ => step i x σ' H' k r hx s1 sm fun σ3 H5 s3 sm3 => hk (f x) σ3 H5 rfl s3 sm3) fun D H' hD sm hA => done D H' hD sm (by rw [fm_map] at hA; exact hA)
theorem lc_itemsF {d : Addr} {o : Obj} {ps : List (Int × Int)} (S : St → Prop) (f : Int × Int → Option V) (hn : ps.length ≤ 1000000) (h0 : S (cap0 cap σ)) (hd : H1 d = some (.frz o (.dK (Tl.kvs ps))))
    (step : ∀ (i : Nat) (p : Int × Int) (σ' : St) (H' : Hp) (t : Addr) (k : V → St → Hp → Prop) (r : St → Hp → Prop), ps[i]? = some p → S σ' → Same H1 H' → H' t = none →
      (∀ v σ3 H5, f p = some v → S σ3 → Same H' H5 → k v σ3 H5) → (∀ σ3 H4, f p = none → S σ3 → Same H' H4 → r σ3 H4) →
      g (.ref t) σ' (upd H' t (.tup [.int p.1, .int p.2])) fun σ3 H3 => tt σ3 H3 fun b H4 => if b = true then te σ3 H4 (fun v H5 => k v σ3 H5) else r σ3 H4)
    (done : ∀ D H', H1 D = none → Same H1 H' → H' D = some (.lst (ps.filterMap f)) → Q (.ref D) H') : LcGo cap g tt te σ Q (Itd d o (Tl.kvs ps)) H1 := by
  have el : (Tl.kvs ps).length = ps.length := by unfold Tl.kvs; rw [List.length_map]
  have key : ∀ n, n ≤ ps.length → (List.range n).filterMap (fun i => ps[i]?.bind f) = (ps.take n).filterMap f := fun n => by
    induction n with
    | zero => intro _; simp
    | succ n ih =>
      intro hn
      rw [List.range_succ, List.filterMap_append, ih (by omega), List.take_add_one, List.filterMap_append, List.getElem?_eq_getElem (show n < ps.length by omega)]
      congr 1
      show List.filterMap (fun i => ps[i]?.bind f) [n] = List.filterMap f [ps[n]]
      rw [List.filterMap_cons, List.filterMap_cons, List.getElem?_eq_getElem (show n < ps.length by omega)]
      rfl
  refine lc_fm (n := ps.length) S (fun i => ps[i]?.bind f) (fun i H' hi sm => ⟨by rw [el]; exact hi, sm d _ hd⟩) (fun H' sm => ⟨by rw [el]; exact Nat.le_refl _, sm d _ hd⟩) hn h0 (fun i σ' H' x H2 k r hi s1 sm y hk hr => ?_) (fun D H' hD sm hA => done D H' hD sm (by rw [key _ (Nat.le_refl _), List.take_length] at hA; exact hA))
  obtain ⟨q, t, hq, ht, e1, e2⟩ := y
  subst e1 e2
  unfold Tl.kvs at hq
  rw [List.getElem?_map, List.getElem?_eq_getElem hi] at hq
  cases (Option.some.inj hq : (Sum.inl ps[i].1, V.int ps[i].2) = q)
  exact step i ps[i] σ' H' t k r (List.getElem?_eq_getElem hi) s1 sm ht (fun v σ3 H5 hv s3 sm3 => hk v σ3 H5 (by rw [List.getElem?_eq_getElem hi]; exact hv) s3 sm3) (fun σ3 H4 hv s3 sm3 => hr σ3 H4 (by rw [List.getElem?_eq_getElem hi]; exact hv) s3 sm3)
end
end L2
namespace L2
open PySem PySem.Spec PyProof.Rows
section
variable {K : PySem.W.Frag} {cap : List (Option Nat)} {g : TG} {tt : TT} {te : TE} {σ : St} {H1 : Hp} {Q : VK}
end
end L2
namespace L2
open PySem PySem.Spec PyProof.Rows
section
variable {K : PySem.W.Frag} {cap : List (Option Nat)} {g : TG} {tt : TT} {te : TE} {σ : St} {H1 : Hp} {Q : VK}
theorem vint_eq (x y : Int) : decide (V.int x = V.int y) = decide (x = y) := by
  by_cases h : x = y
  · rw [h]; simp
  · rw [decide_eq_false h, decide_eq_false (fun q => h (by injection q))]
end
end L2
set_option maxHeartbeats 4000000
namespace L2
open PySem PySem.Spec PyProof.Rows
section
variable {X : Cx} {pins : List (Addr × Obj)} {σ : St} {H : Hp} {s : Shared}
end
end L2
set_option maxHeartbeats 1000000
namespace L2
open PySem PySem.Spec PyProof.Rows
theorem datvs_ints {K : PySem.W.Frag} {H : Hp} : ∀ ns : List Int, DatVs K H (ns.map PyData.int) (ns.map V.int)
  | [] => by simp [DatVs]
  | n :: ns => by
    rw [List.map_cons, List.map_cons]
    unfold DatVs
    exact ⟨_, _, rfl, by simp [DatV], datvs_ints ns⟩
theorem dat_ints {K : PySem.W.Frag} {H : Hp} {a : Addr} {ns : List Int} (h : SqL K H a (ns.map V.int)) : DatV K H (.list (ns.map PyData.int)) (.ref a) := by
  unfold DatV
  exact ⟨a, _, rfl, h, datvs_ints ns⟩
def pr (p : Int × Int) : PyData := .tuple [.int p.1, .int p.2]
theorem dat_pr {K : PySem.W.Frag} {H : Hp} {t : Addr} {p : Int × Int} (h : SqT K H t [.int p.1, .int p.2]) : DatV K H (pr p) (.ref t) := by
  unfold pr DatV
  exact ⟨t, _, rfl, h, by simp [DatVs, DatV]⟩
theorem datvs_prs {K : PySem.W.Frag} {H : Hp} : ∀ (ps : List (Int × Int)) (ts : List Addr), ts.length = ps.length → (∀ (j : Nat) (t : Addr) (p : Int × Int), ts[j]? = some t → ps[j]? = some p → SqT K H t [.int p.1, .int p.2]) → DatVs K H (ps.map pr) (ts.map V.ref)
  | [], [], _, _ => by simp [DatVs]
  | [], _ :: _, h, _ => by cases h
  | _ :: _, [], h, _ => by cases h
  | p :: ps, t :: ts, h, f => by
    rw [List.map_cons, List.map_cons]
    unfold DatVs
    exact ⟨_, _, rfl, dat_pr (f 0 t p rfl rfl), datvs_prs ps ts (by simpa using h) fun j t' p' h1 h2 => f (j + 1) t' p' (by simpa using h1) (by simpa using h2)⟩
theorem dat_prs {K : PySem.W.Frag} {H : Hp} {a : Addr} {ts : List Addr} {ps : List (Int × Int)} (h : SqL K H a (ts.map V.ref)) (hl : ts.length = ps.length) (f : ∀ (j : Nat) (t : Addr) (p : Int × Int), ts[j]? = some t → ps[j]? = some p → SqT K H t [.int p.1, .int p.2]) :
    DatV K H (.list (ps.map pr)) (.ref a) := by
  unfold DatV
  exact ⟨a, _, rfl, h, datvs_prs ps ts hl f⟩
theorem lay_ints : ∀ ns : List Int, PyData.canLayAll0 (ns.map PyData.int) = true ∧ PyData.depthAll (ns.map PyData.int) = 0
  | [] => by simp [PyData.canLayAll0, PyData.depthAll]
  | n :: ns => by
    obtain ⟨h1, h2⟩ := lay_ints ns
    rw [List.map_cons]
    unfold PyData.canLayAll0 PyData.depthAll
    simp [h1, h2, PyData.canLay0, PyData.depth]
theorem shaped_ints (ns : List Int) : PySem.SeqAt.shaped (.list (ns.map PyData.int)) = true := by
  obtain ⟨h1, h2⟩ := lay_ints ns
  simp [PySem.SeqAt.shaped, PyData.canLay0, PyData.depth, h1, h2]
theorem lay_prs : ∀ ps : List (Int × Int), PyData.canLayAll0 (ps.map pr) = true ∧ PyData.depthAll (ps.map pr) ≤ 1
  | [] => by simp [PyData.canLayAll0, PyData.depthAll]
  | p :: ps => by
    obtain ⟨h1, h2⟩ := lay_prs ps
    rw [List.map_cons]
    have c : (pr p).canLay0 = true := by simp [pr, PyData.canLay0, PyData.canLayAll0]
    have d : (pr p).depth = 1 := by simp [pr, PyData.depth, PyData.depthAll]
    unfold PyData.canLayAll0 PyData.depthAll
    rw [c, d]
    exact ⟨by simp [h1], by omega⟩
theorem shaped_prs (ps : List (Int × Int)) : PySem.SeqAt.shaped (.list (ps.map pr)) = true := by
  obtain ⟨h1, h2⟩ := lay_prs ps
  have c : (PyData.list (ps.map pr)).canLay0 = true := by unfold PyData.canLay0; exact h1
  have d : (PyData.list (ps.map pr)).depth ≤ 64 := by unfold PyData.depth; omega
  simp [PySem.SeqAt.shaped, c, d]
theorem shaped_refl {d : PyData} (h : PySem.SeqAt.shaped d = true) : PyData.eqv d d = true := PySem.SeqAt.eqv_refl d (PySem.SeqAt.canLay_of_shaped h)
end L2
set_option maxHeartbeats 1000000
namespace L2
open PySem PySem.Spec PyProof.Rows
section
variable {X : Cx} {pins : List (Addr × Obj)} {σ : St} {H : Hp} {s : Shared}
end
end L2
namespace Tl
open L2
def dof (ks : List Int) (f : Int → Int) : List (Int × Int) := ks.map fun k => (k, f k)
theorem dof_keys (ks : List Int) (f : Int → Int) : (dof ks f).map (·.1) = ks := by unfold dof; rw [List.map_map]; exact List.map_id' _
theorem dof_vals (ks : List Int) (f : Int → Int) : (dof ks f).map (·.2) = ks.map f := by unfold dof; rw [List.map_map]; rfl
theorem tly_dof (ns : List Int) : tly ns = dof ((tly ns).map (·.1)) fun k => (ns.count k : Int) := by
  unfold dof
  rw [List.map_map]
  have : tly ns = (tly ns).map id := by simp
  refine this.trans (List.map_congr_left fun p hp => ?_)
  show p = (p.1, (ns.count p.1 : Int))
  rw [← (mem_tly hp).2]
theorem get_dof {ks : List Int} {f : Int → Int} {k : Int} (hk : k ∈ ks) : get (dof ks f) k = some (f k) := by
  unfold get dof
  induction ks with
  | nil => cases hk
  | cons x ks ih =>
    rw [List.map_cons, List.find?_cons]
    by_cases e : x = k
    · subst e; simp
    · simp only [e, decide_false]
      rcases List.mem_cons.mp hk with z | z
      · exact absurd z.symm e
      · exact ih z
end Tl
set_option maxHeartbeats 1000000
namespace L2
open PySem PySem.Spec PyProof.Rows
section
variable {M : Model} {A : Around} {E : Value → Shared → Prop} {s : Shared} {base : Heap} {env : Env} {outer : List Env} {L e C T : Addr} {oe : Obj} {vs : Array Value} {Q : Unit → Shared → Prop}
end
section
variable {P : Program} {w : World} {K : PySem.W.Frag} {mg : Str → Option Value} {base : Heap} {N : List Str} {qual : Str} {scope : Scope} {f : Addr} {cd : Value} {A : Around} {outer : List Env} {s₀ : Shared} {H₀ : Hp} {E : XK}
end
end L2
set_option maxHeartbeats 1000000
namespace L2
open PySem PySem.Spec PyProof.Rows
section
variable {X : Cx} {e : Expr} {es : List Expr} {n k : Nat} {pos p : Pos} {x : Str}
end
section
variable {X : Cx} {x : Str} {C : Addr} {e : Expr} {es : List Expr} {t : TA} {np cpos pos : Pos} {E : XK}
end
end L2
set_option maxHeartbeats 1000000
namespace L2
open PySem PySem.Spec PyProof.Rows
section
variable {prog : Program} {w : World} {A : Around} {E : Value → Shared → Prop} {s : Shared}
end
section
variable {X : Cx}
end
end L2
set_option maxHeartbeats 2000000
namespace L2
open PySem PySem.Spec PyProof.Rows
section
open PySem.W PySem.Builtin PySem.Builtin.ObjectAttr PySem.Builtin.Getset_descriptor
variable {prog : Program} {w : World} {K : Frag} {A : Around} {E : Value → Shared → Prop} {h : Heap} {g : Array GenState} {d : Drawn} {t : Nat} {os : OsState} {e C : Addr}
end
section
variable {X : Cx}
end
end L2
set_option maxHeartbeats 1000000
namespace L2
open PySem PySem.Spec PyProof.Rows
section
variable {X : Cx} {pins : List (Addr × Obj)} {σ : St} {H : Hp} {s : Shared} {h' : Heap} {e T C : Addr} {fl : Value}
end
section
variable {X : Cx} {pins ps : List (Addr × Obj)} {σ : St} {H : Hp} {s : Shared} {ET : Addr → Hp → Prop} {e : Addr}
end
section
variable {X : Cx} {body : List Stmt} {x n : Str} {C0 : Addr} {b₀ : Stmt} {suite : List Stmt} {np hpos pos : Pos} {tb : (Addr → Hp → Prop) → TS} {th : Addr → TS} {i : Nat}
end
end L2
set_option maxHeartbeats 1000000
namespace L2
open PySem PySem.Spec PyProof.Rows
section
variable {P : Program} {w : World} {K : PySem.W.Frag} {mg : Str → Option Value} {base : Heap}
end
end L2
set_option maxHeartbeats 1000000
namespace L2
open PySem PySem.Spec PyProof.Rows
section
variable {P : Program} {w : World} {K : PySem.W.Frag} {mg : Str → Option Value} {base : Heap}
end
section
variable {X : Cx} {k : Nat} {f : Addr} {fd : FuncData} {ps : List Str} {sp : Sp} {x : Str} {p pos : Pos} {e : Expr} {es : List Expr} {t : TA}
end
end L2
set_option maxHeartbeats 1000000
namespace L2
open PySem PySem.Spec PyProof.Rows
section
variable {X : Cx} {tg : Expr}
end
theorem vals_at_all : ∀ {xs : List V} {us : List Value}, xs.length = us.length → (∀ (i : Nat) x u, xs[i]? = some x → us[i]? = some u → RelV x u) → Vals xs us
  | [], [], _, _ => .nil
  | [], _ :: _, h, _ => by cases h
  | _ :: _, [], h, _ => by cases h
  | x :: xs, u :: us, h, f => .cons (f 0 x u rfl rfl) (vals_at_all (by simpa using h) fun i y v h1 h2 => f (i + 1) y v h1 h2)
section
variable {X : Cx}
end
end L2
set_option maxHeartbeats 4000000
namespace L2
open PySem PySem.Spec PyProof.Rows
def CallRK (X : Cx) (f : Value) (ks : List Str) (r : List V → List V → Hp → VK → Prop) : Prop :=
  ∀ (pins : List (Addr × Obj)) (s : Shared) (σ : St) (H : Hp) (xs zs : List V) (us ws : List Value) (Q : VK), Inv X pins σ H s → Vals xs us → Vals zs ws → r xs zs H Q →
    wpAny (model X.prog X.w) X.A (call f us (ks.zip ws)) (EP X pins σ Q) X.xe s
def tCBK (r : List V → List V → Hp → VK → Prop) (t tk : TA) : TE := fun σ H Q => t σ H fun vs H1 => tk σ H1 fun zs H2 => r vs zs H2 Q
section
variable {X : Cx} {pins : List (Addr × Obj)} {σ : St} {H : Hp} {s : Shared}
theorem pe_callBK {id : String} {ks : List Str} {r : List V → List V → Hp → VK → Prop} {x : Str} {e : Expr} {es : List Expr} {kws : List Keyword} {t tk : TA} {p pos : Pos} (hc : CallRK X (.builtin id) ks r) (hg : Gl X x) (hm : X.mg x = none) (hv : bootBuiltins x = some (.builtin id)) (ha : PA X (e :: es) t) (hkw : PK X kws tk)
    (hn : x ≠ "__name__" := by decide) (hdb : (x == ("__debug__" : Str)) = false := by decide) (hks : (backToKw pos (keywordEach kws X.env)).filterMap (·.1) = ks := by rfl)
    (he : backTo pos (starEach (e :: es) X.env) = (false, eval e X.env) :: backTo pos (starEach es X.env) := by rfl) (hplain : (backTo pos (starEach (e :: es) X.env)).any (·.1) = false := by rfl)
    (hall : (backToKw pos (keywordEach kws X.env)).all (·.1.isSome) = true := by rfl) (hkn : (backToKw pos (keywordEach kws X.env)).any (·.1.isNone) = false := by rfl) :
    PE X (.Call (.Name x p) (e :: es) kws pos) (tCBK r t tk) := by
  intro pins s σ H Q I h
  refine wpAny_Call_Name_kw (ld_blt I hg hm hv ?_ hn hdb)
  refine PyProof.Rows.callWith_kw (thn (ha pos pins s σ H _ I h) fun us s1 ⟨vs, H1, I1, r1, q1⟩ => thn (hkw pos pins s1 σ H1 _ I1 q1) fun ws s2 ⟨zs, H2, I2, r2, q2⟩ => ?_) he hplain hall hkn
  rw [hks]
  exact hc pins s2 σ H2 vs zs us ws Q I2 r1 r2 q2
theorem call_list_vals (hc : X.calm = true) : CallR X (.type "list") (fun xs H Q => ∃ (v d : Addr) (kvs : List (Key × V)), xs = [.ref v] ∧ H v = some (ViewO "dict_values" v d) ∧ H d = some (.dK kvs) ∧ ∀ l, H l = none → Q (.ref l) (upd H l (.lst (kvs.map (·.2))))) := by
  intro pins s σ H xs us Q I r h
  obtain ⟨v, d, kvs, rfl, hv, hd, q⟩ := h
  obtain ⟨u, rfl, ru⟩ := vals1 r
  cases ru
  obtain ⟨z, lo, vs, rel, dd⟩ := dk_of I.hok hd
  obtain ⟨ep, hat⟩ := dd.dictAt
  have hvw : s.heap.IsValuesView v d := ⟨_, (I.hok v _ hv).1, rfl, rfl⟩
  have hlen : kvs.length = vs.length := rel.length
  refine PySem.W.kdl_call (PySem.W.kdl_values (knd := mixKind X.prog X.w) (kvs := vs) (ep := ep)) (I.ok.hd hc) ⟨hvw, hat⟩ (by rw [← hlen]; exact z) fun h' tk acc' c' kp hl hi => ?_
  refine ⟨.ref s.heap.objs.size, _, I.laid (o := .lst (kvs.map (·.2))) (t' := tk) kp (Nat.le_refl _) ⟨?_, acc'.toList, c', ?_, hl⟩, rfl, q _ I.fresh⟩
  · rw [List.length_map]; exact z
  · refine vals_at_all (by rw [List.length_map, hlen, ← hi.1, Array.length_toList]) fun i x u h1 h2 => ?_
    obtain ⟨k, e⟩ := hi.2 i u (by simpa using h2)
    obtain ⟨p, hp, _, e2⟩ := kv_get rel e
    rw [List.getElem?_map, hp] at h1
    cases h1
    exact e2
theorem call_tree_kw {prog : Program} {w : World} {A : Around} {E : Value → Shared → Prop} {s : Shared} {id : String} {b : Builtin} {args : List Value} {kw : List (Str × Value)} {Q : Value → Shared → Prop} (hk : builtinKind id = none) (hp : plainId id = true)
    (hb : entryFor table id = some b) (ha : argsOk id ⟨args, kw⟩)
    (hc : wpAny (model prog w) A.in1 (b ⟨args, kw⟩) (fun fin s' => match fin with
      | .done f => (match (Except.ok f : Result) with | .ok (.ret v) => Q v s' | .ok _ => False | .error e => E e s')
      | .again c' => c'.quiet = true ∧ codeAny (model prog w) A c' (fun r s' => match r with | .ok (.ret v) => Q v s' | .ok _ => False | .error e => E e s') s') E s) :
    wpAny (model prog w) A (call (.builtin id) args kw) Q E s := by
  refine wpAny_call (codeAny_call_builtin hp hb ?_)
  simp only [checkBuiltinCall, hk]
  cases hsig : Manifest.signature? id with
  | none => exact wpAny_pure hc
  | some sig =>
    simp only [argsOk, hsig] at ha
    have h2 : Bind.checkArgs id sig ⟨args, kw⟩ = pure () := ha
    show wpAny _ A.in1 (Bind.checkArgs id sig ⟨args, kw⟩) _ _ s
    rw [h2]; exact wpAny_pure hc
section
variable {prog : Program} {w : World} {A : Around} {R : Result → Shared → Prop} {I : Addr} {fp wr : List Addr} {n : Nat} {P : Nat → Value → Prop} {St : Nat → Heap → Prop} {dk : Str} {dv : Value}
theorem max_loop_kw (W : Walks prog w A.in1 I fp wr n P St) (bt : Nat → Nat → Bool) (hcmp : CmpOf prog w A.in1 .Gt P bt) (S : Addr) (hSf : S ∉ fp) :
    ∀ (k j : Nat) (s : Shared) (vb : Value) (c : Nat), n - (j + 1) = k → j + 1 ≤ n → St (j + 1) s.heap → P (argBest bt j) vb →
    s.heap.get? S = some { cls := .type "list", dict := none, data := .seq #[vb, vb] c, slots := #[] } →
    (∀ v h' tk, P (argBest bt (n - 1)) v → (∀ b o, b ∉ wr → b ≠ S → s.heap.get? b = some o → h'.get? b = some o) → R (.ok (.ret v)) { s with heap := h', toks := tk }) →
    codeAny (model prog w) A (.builtin "max.loop" ⟨[.ref I, .none, .ref S], [(dk, dv)]⟩) R s := by
  have hSw : S ∉ wr := fun h => hSf (W.sub _ h)
  have hname : (toString "max" ++ toString ".loop" : String) = "max.loop" := by decide
  intro k
  induction k with
  | zero =>
    intro j s vb c hk hj hst hPb hS hR
    have hin : j + 1 = n := by omega
    refine codeAny_builtin PySem.F.entry_max_loop ?_
    rw [Around.under_plainId PySem.F.plain_max_loop _]
    show wpAny _ A.in1 (seqItems? (.ref S) >>= _) _ _ s
    refine wpAny_bind (wpAny_seqItems hS rfl ?_)
    show wpAny _ A.in1 (tryCatch (pyNext (.ref I)) _ >>= _) _ _ s
    refine wpAny_bind (wpAny_tryCatch (W.done s _ _ (hin ▸ hst) fun h' tk hk' => ?_))
    have hS' := hk' S _ hSw hS
    show wpAny _ A.in1 (updateSeq S (fun _ => #[]) >>= _) _ _ _
    refine wpAny_bind ?_
    refine wpAny_updateSeq hS' rfl (wpAny_bind (wpAny_letGo (wpAny_pure ?_)))
    refine hR vb _ tk (by rw [← hin]; exact hPb) fun b o hbw hbS e => (Heap.get?_update_other _ _ (Ne.symm hbS)).trans (hk' b o hbw e)
  | succ k ih =>
    intro j s vb c hk hj hst hPb hS hR
    have hlt : j + 1 < n := by omega
    refine codeAny_builtin PySem.F.entry_max_loop ?_
    rw [Around.under_plainId PySem.F.plain_max_loop _]
    show wpAny _ A.in1 (seqItems? (.ref S) >>= _) _ _ s
    refine wpAny_bind (wpAny_seqItems hS rfl ?_)
    show wpAny _ A.in1 (tryCatch (pyNext (.ref I)) _ >>= _) _ _ s
    refine wpAny_bind (wpAny_tryCatch (W.item (j + 1) s _ _ hlt hst fun v h' tk hP hst' hk' => ?_))
    have hS' := hk' S _ hSw hS
    show wpAny _ A.in1 (tryCatch (holding [v, v] (richCompare .Gt v vb >>= _)) _ >>= _) _ _ _
    refine wpAny_bind (wpAny_tryCatch (wpAny_holding (wpAny_bind (hcmp (j + 1) (argBest bt j) v vb _ _ _ hP hPb ?_))))
    refine wpAny_bind (wpAny_holding (wpAny_truthy_bool ?_))
    refine wpAny_bind (wpAny_letGo (wpAny_pure ?_))
    cases hb : bt (j + 1) (argBest bt j) with
    | true =>
      simp only [if_true]
      refine wpAny_bind ?_
      refine wpAny_updateSeq hS' rfl (wpAny_bind (wpAny_letGo ?_))
      rw [hname]
      refine wpAny_pure ⟨plainId_quiet PySem.F.plain_max_loop _, ih (j + 1) _ v _ (by omega) hlt (W.frame _ _ _ hst' fun b hbf o e => ?_) (by simp only [argBest, hb, if_true]; exact hP) (Heap.get?_update_self _ hS' rfl)
        fun v' h'' tk'' hP' hk'' => ?_⟩
      · exact (Heap.get?_update_other _ _ (fun h : S = b => hSf (by rw [h]; exact hbf))).trans e
      · exact hR v' h'' tk'' hP' fun b o hbw hbS e => hk'' b o hbw hbS ((Heap.get?_update_other _ _ (Ne.symm hbS)).trans (hk' b o hbw e))
    | false =>
      simp only [Bool.false_eq_true, if_false]
      refine wpAny_bind (wpAny_letGo ?_)
      rw [hname]
      refine wpAny_pure ⟨plainId_quiet PySem.F.plain_max_loop _, ih (j + 1) _ vb c (by omega) hlt hst' (by simp only [argBest, hb, Bool.false_eq_true, if_false]; exact hPb) hS' fun v' h'' tk'' hP' hk'' => ?_⟩
      exact hR v' h'' tk'' hP' fun b o hbw hbS e => hk'' b o hbw hbS (hk' b o hbw e)
theorem max_first_kw (W : Walks prog w A.in1 I fp wr n P St) (bt : Nat → Nat → Bool) (hcmp : CmpOf prog w A.in1 .Gt P bt) (S : Addr) (hSf : S ∉ fp) {s : Shared} {c : Nat} (hst : St 0 s.heap)
    (hS : s.heap.get? S = some { cls := .type "list", dict := none, data := .seq #[] c, slots := #[] })
    (hR0 : n = 0 → ∀ h' tk, (∀ b o, b ∉ wr → b ≠ S → s.heap.get? b = some o → h'.get? b = some o) → R (.ok (.ret dv)) { s with heap := h', toks := tk })
    (hR : 0 < n → ∀ v h' tk, P (argBest bt (n - 1)) v → (∀ b o, b ∉ wr → b ≠ S → s.heap.get? b = some o → h'.get? b = some o) → R (.ok (.ret v)) { s with heap := h', toks := tk }) :
    codeAny (model prog w) A (.builtin "max.loop" ⟨[.ref I, .none, .ref S], [(dk, dv)]⟩) R s := by
  have hSw : S ∉ wr := fun h => hSf (W.sub _ h)
  have hname : (toString "max" ++ toString ".loop" : String) = "max.loop" := by decide
  refine codeAny_builtin PySem.F.entry_max_loop ?_
  rw [Around.under_plainId PySem.F.plain_max_loop _]
  show wpAny _ A.in1 (seqItems? (.ref S) >>= _) _ _ s
  refine wpAny_bind (wpAny_seqItems hS rfl ?_)
  show wpAny _ A.in1 (tryCatch (pyNext (.ref I)) _ >>= _) _ _ s
  by_cases hn : n = 0
  · refine wpAny_bind (wpAny_tryCatch (W.done s _ _ (by rw [hn]; exact hst) fun h' tk hk' => ?_))
    exact wpAny_bind (wpAny_rule (wpAny_pure (hR0 hn h' tk fun b o hb _ e => hk' b o hb e)))
  · have hn' : 0 < n := Nat.pos_of_ne_zero hn
    refine wpAny_bind (wpAny_tryCatch (W.item 0 s _ _ hn' hst fun v h' tk hP hst' hk' => ?_))
    have hS' := hk' S _ hSw hS
    show wpAny _ A.in1 (updateSeq S (fun _ => #[v, v]) >>= _) _ _ _
    refine wpAny_bind ?_
    refine wpAny_updateSeq hS' rfl ?_
    rw [hname]
    refine wpAny_pure ⟨plainId_quiet PySem.F.plain_max_loop _, max_loop_kw W bt hcmp S hSf _ 0 _ v _ rfl hn' (W.frame _ _ _ hst' fun b hbf o e => ?_) hP (Heap.get?_update_self _ hS' rfl) fun v' h'' tk'' hP' hk'' => ?_⟩
    · exact (Heap.get?_update_other _ _ (fun h : S = b => hSf (by rw [h]; exact hbf))).trans e
    · exact hR hn' v' h'' tk'' hP' fun b o hbw hbS e => hk'' b o hbw hbS ((Heap.get?_update_other _ _ (Ne.symm hbS)).trans (hk' b o hbw e))
end
theorem args_max_dflt (a v : Value) : argsOk "max" ⟨[a], [(Str.ofString "default", v)]⟩ := by unfold argsOk; kernel_rfl
theorem call_max_dflt (hc : X.calm = true) : CallRK X (.builtin "max") [Str.ofString "default"] (fun xs zs H Q => ∃ (x : V) (ns : List Int) (dz : V), xs = [x] ∧ zs = [dz] ∧ SrcV X.K H x (ns.map V.int) ∧ (ns = [] → Q dz H) ∧ (ns ≠ [] → ∀ M : Int, M ∈ ns → (∀ a ∈ ns, a ≤ M) → Q (.int M) H)) := by
  intro pins s σ H xs zs us ws Q I r rz h
  obtain ⟨x, ns, dz, rfl, rfl, hs, q0, q1⟩ := h
  obtain ⟨u, rfl, ru⟩ := vals1 r
  obtain ⟨w0, rfl, rw0⟩ := vals1 rz
  obtain ⟨d, oI, St, hd, it, W, st⟩ := I.src (A := X.A.in1) (I.ok.hd hc) ru hs
  rw [List.length_map] at W
  have hname : (toString "max" ++ toString ".loop" : String) = "max.loop" := by decide
  show wpAny _ _ (call (.builtin "max") [u] [(Str.ofString "default", w0)]) _ _ s
  refine call_tree_kw PySem.F.kind_max PySem.F.plain_max PySem.F.entry_max (args_max_dflt _ _) ?_
  show wpAny _ X.A.in1 (Builtin.Builtins.bindParams "max" ["key", "default"] 0 ⟨[], [(Str.ofString "default", w0)]⟩ >>= _) _ _ s
  refine wpAny_bind (wpAny_of_eq (show Builtin.Builtins.bindParams "max" ["key", "default"] 0 ⟨[], [(Str.ofString "default", w0)]⟩ = pure [none, some w0] from rfl) ?_)
  refine wpAny_bind (wpAny_pure ?_)
  refine wpAny_bind (it _ _ ?_)
  refine wpAny_bind (wpAny_newObj_type ?_)
  have hfp := src_lt (s := s) (oI := oI) hd
  have hSf : (s.heap.push oI).objs.size ∉ [s.heap.objs.size, d] := fun hm => Nat.lt_irrefl _ (hfp _ hm)
  rw [hname]
  have fin : ∀ (v : V) (u : Value) (h' : Heap) (tk : Nat), RelV v u → Q v H → (∀ b o, b ∉ [s.heap.objs.size] → b ≠ (s.heap.push oI).objs.size → ((s.heap.push oI).push { cls := .type "list", data := .seq ([] : List Value).toArray }).get? b = some o → h'.get? b = some o) →
      EP X pins σ Q u { s with heap := h', toks := tk } := fun v u h' tk rv qv hk => by
    refine ⟨v, H, I.kept fun b o e => ?_, rv, qv⟩
    have hlt := Heap.lt_size e
    refine hk b o (fun z => by rw [List.mem_singleton.mp z] at hlt; exact Nat.lt_irrefl _ hlt) (fun z => ?_) (Heap.get?_push_of_some _ (Heap.get?_push_of_some _ e))
    have hz : (s.heap.push oI).objs.size = s.heap.objs.size + 1 := Heap.size_push ..
    rw [z, hz] at hlt
    exact absurd hlt (Nat.not_lt.mpr (Nat.le_succ _))
  refine wpAny_pure ⟨plainId_quiet PySem.F.plain_max_loop _, max_first_kw W _ (CmpOf.ints_gt (fun i => ns.getD i 0) (fun i v hP => int_at hP)) (s.heap.push oI).objs.size hSf (W.frame _ _ _ st fun b _ o e => Heap.get?_push_of_some _ e) (Heap.get?_push_size _ rfl) (fun hn h' tk hk => ?_) fun hn v h' tk hP hk => ?_⟩
  · exact fin dz w0 h' tk rw0 (q0 (List.length_eq_zero_iff.mp hn)) hk
  · obtain ⟨t, rfl⟩ := int_at hP
    obtain ⟨b1, b2⟩ := argBest_gt (fun i => ns.getD i 0) (ns.length - 1)
    refine fin (.int _) _ h' tk ⟨t, rfl⟩ (q1 (fun z => by rw [z] at hn; exact Nat.lt_irrefl _ hn) _ (getD_in (by omega)) fun a ha => ?_) hk
    obtain ⟨j, hj, rfl⟩ := in_getD ha
    exact b2 j (by omega)
end
end L2
set_option maxHeartbeats 4000000
namespace L2
open PySem PySem.Spec PyProof.Rows
section
variable {X : Cx} {pins : List (Addr × Obj)} {σ : St} {H : Hp} {s : Shared}
end
end L2
set_option maxHeartbeats 4000000
namespace Zp
open PySem PySem.Spec PyProof.Rows
section
variable {prog : Program} {w : World} {A : Around} {E : Value → Shared → Prop} {s : Shared}
end
end Zp
set_option maxHeartbeats 4000000
namespace Zp
open PySem PySem.Spec PyProof.Rows
section
variable {prog : Program} {w : World} {A : Around} {s : Shared} {R : Result → Shared → Prop} {xs ys : List Value}
end
section
variable {prog : Program} {w : World} {A : Around} {E : Value → Shared → Prop} {s : Shared} {xs ys : List Value}
end
end Zp
set_option maxHeartbeats 4000000
namespace L2
open PySem PySem.Spec PyProof.Rows
section
variable {X : Cx} {pins : List (Addr × Obj)} {σ : St} {H : Hp} {s : Shared}
end
end L2
set_option maxHeartbeats 400000
namespace Tl
end Tl
set_option maxHeartbeats 400000
namespace Tl
end Tl
set_option maxHeartbeats 400000
namespace Tl
end Tl
set_option maxHeartbeats 800000
namespace Tl
end Tl
set_option maxHeartbeats 1000000
namespace K6
open PySem PySem.Spec PyProof.Rows L2 Tl
def top (i : Nat) : Stmt := PySem.Challenge.pw_apartrow_k06_counts.main.body.getD i (.Pass ⟨0, 0, 0, 0⟩)
abbrev s_is_whole : Stmt := top 6
abbrev s_is_kind : Stmt := top 7
abbrev s_is_heap : Stmt := top 8
abbrev s_check_heap : Stmt := top 9
abbrev s_tally : Stmt := top 10
abbrev s_most_alike : Stmt := top 11
abbrev s_top_kinds : Stmt := top 12
abbrev s_counts : Stmt := top 13
abbrev s_commonest : Stmt := top 14
abbrev s__law_cell_at : Stmt := top 16
abbrev s__law_draw : Stmt := top 17
abbrev s__law_heap : Stmt := top 18
abbrev s__law_many : Stmt := top 19
abbrev s__law_most : Stmt := top 20
abbrev s__law_numbers : Stmt := top 21
abbrev s_law : Stmt := top 22
structure Ad where
  f_is_whole : Addr
  d_is_whole : FuncData
  f_is_kind : Addr
  d_is_kind : FuncData
  f_is_heap : Addr
  d_is_heap : FuncData
  f_check_heap : Addr
  d_check_heap : FuncData
  f_tally : Addr
  d_tally : FuncData
  f_most_alike : Addr
  d_most_alike : FuncData
  f_top_kinds : Addr
  d_top_kinds : FuncData
  f_counts : Addr
  d_counts : FuncData
  f_commonest : Addr
  d_commonest : FuncData
  f__law_cell_at : Addr
  d__law_cell_at : FuncData
  f__law_draw : Addr
  d__law_draw : FuncData
  f__law_heap : Addr
  d__law_heap : FuncData
  f__law_many : Addr
  d__law_many : FuncData
  f__law_most : Addr
  d__law_most : FuncData
  f__law_numbers : Addr
  d__law_numbers : FuncData
  f_law : Addr
  d_law : FuncData
  g_GREATEST_KIND : Tok
  g_MOST_THINGS : Tok
structure Df (K : PySem.W.Frag) (mg : Str → Option Value) (x : Str) (st : Stmt) (ps : List Str) (f : Addr) (fd : FuncData) : Prop where
  fn : Fun K x x st f fd
  mg : mg x = some (.ref f)
  bd : Binds K fd ps []
structure Txt (K : PySem.W.Frag) (mg : Str → Option Value) (Z : Ad) : Prop where
  is_whole : Df K mg "is_whole" s_is_whole ["value"] Z.f_is_whole Z.d_is_whole
  is_kind : Df K mg "is_kind" s_is_kind ["value"] Z.f_is_kind Z.d_is_kind
  is_heap : Df K mg "is_heap" s_is_heap ["value"] Z.f_is_heap Z.d_is_heap
  check_heap : Df K mg "check_heap" s_check_heap ["value"] Z.f_check_heap Z.d_check_heap
  tally : Df K mg "tally" s_tally ["kinds"] Z.f_tally Z.d_tally
  most_alike : Df K mg "most_alike" s_most_alike ["numbers"] Z.f_most_alike Z.d_most_alike
  top_kinds : Df K mg "top_kinds" s_top_kinds ["numbers"] Z.f_top_kinds Z.d_top_kinds
  counts : Df K mg "counts" s_counts ["heap"] Z.f_counts Z.d_counts
  commonest : Df K mg "commonest" s_commonest ["heap"] Z.f_commonest Z.d_commonest
  _law_cell_at : Df K mg "_law_cell_at" s__law_cell_at ["_law_script", "_law_k"] Z.f__law_cell_at Z.d__law_cell_at
  _law_draw : Df K mg "_law_draw" s__law_draw ["_law_cell", "_law_k", "_law_many_here"] Z.f__law_draw Z.d__law_draw
  _law_heap : Df K mg "_law_heap" s__law_heap ["_law_script"] Z.f__law_heap Z.d__law_heap
  _law_many : Df K mg "_law_many" s__law_many ["_law_heap_here"] Z.f__law_many Z.d__law_many
  _law_most : Df K mg "_law_most" s__law_most ["_law_heap_here"] Z.f__law_most Z.d__law_most
  _law_numbers : Df K mg "_law_numbers" s__law_numbers ["_law_found"] Z.f__law_numbers Z.d__law_numbers
  law : Df K mg "law" s_law ["_law_script"] Z.f_law Z.d_law
  b_isinstance : mg "isinstance" = none
  b_int : mg "int" = none
  b_bool : mg "bool" = none
  b_list : mg "list" = none
  b_tuple : mg "tuple" = none
  b_all : mg "all" = none
  b_any : mg "any" = none
  b_len : mg "len" = none
  b_max : mg "max" = none
  b_sorted : mg "sorted" = none
  b_range : mg "range" = none
  k_GREATEST_KIND : mg "GREATEST_KIND" = some (.int 999 Z.g_GREATEST_KIND)
  k_MOST_THINGS : mg "MOST_THINGS" = some (.int 1000000 Z.g_MOST_THINGS)
end K6
set_option maxHeartbeats 1000000
namespace K6
open PySem PySem.Spec PyProof.Rows L2 Tl
seal PSs PS PE PT PW PA PG PGs PI PTs PC
section
variable {P : Program} {w : World} {K : PySem.W.Frag} {mg : Str → Option Value} {base : Heap} {Z : Ad}
theorem kit_int_int : PySem.W.kitOne K (.type "int") (.type "int") = some true := by rfl
theorem kit_int_bool : PySem.W.kitOne K (.type "int") (.type "bool") = some false := by rfl
theorem kit_list_list : PySem.W.kitOne K (.type "list") (.type "list") = some true := by rfl
theorem kit_tup_tup : PySem.W.kitOne K (.type "tuple") (.type "tuple") = some true := by rfl
theorem int_item {ns : List Int} {i : Nat} {x : V} (h : (ns.map V.int)[i]? = some x) : ∃ n, ns[i]? = some n ∧ x = .int n := by
  rw [List.getElem?_map] at h
  cases e : ns[i]? with
  | none => rw [e] at h; cases h
  | some n => rw [e] at h; exact ⟨n, rfl, (Option.some.inj h).symm⟩
theorem le1000 {n : Nat} (h : n ≤ 1000) : n ≤ sizeLine := Nat.le_of_lt (small1000 h)
def sp_is_whole : Sp := fun vs H Q _ => ∃ i : Int, vs = [.int i] ∧ Q (.bl true) H
theorem sc_is_whole : FnScope ["value"] ["value"] (defScope s_is_whole) := ⟨rfl, rfl, rfl, by decide +kernel, rfl, by decide +kernel, by decide +kernel⟩
theorem ok_is_whole (T : Txt K mg Z) : FnOk P w K mg base CX0 1 Z.f_is_whole Z.d_is_whole ["value"] sp_is_whole := by
  refine T.is_whole.fn.ok sc_is_whole (fun vs H Q E h => ?_) (fun cdv A outer s H vs Q E hr h => ?_)
  · obtain ⟨i, rfl, _⟩ := h
    rfl
  · obtain ⟨i, rfl, k⟩ := h
    refine ⟨_, (pss_one (ps_ret (pe_and (pe_callB call_isinst rfl T.b_isinstance boot_isinstance (pa_cons (pv 0) (pa_cons (pe_ty rfl T.b_int boot_int) pa_nil))) (pe_one (pe_not (pe_callB call_isinst rfl T.b_isinstance boot_isinstance (pa_cons (pv 0) (pa_cons (pe_ty rfl T.b_bool boot_bool) pa_nil)))))))), ?_⟩
    refine ⟨_, rfl, _, _, _, _, rfl, .int i, kit_int_int, true, rfl, iteT ?_⟩
    refine ⟨_, rfl, _, _, _, _, rfl, .int i, kit_int_bool, false, rfl, k⟩
def sp_is_kind : Sp := fun vs H Q _ => ∃ i : Int, vs = [.int i] ∧ Q (.bl (decide (0 ≤ i ∧ i ≤ 999))) H
theorem sc_is_kind : FnScope ["value"] ["value"] (defScope s_is_kind) := ⟨rfl, rfl, rfl, by decide +kernel, rfl, by decide +kernel, by decide +kernel⟩
theorem ok_is_kind (T : Txt K mg Z) : FnOk P w K mg base CX0 2 Z.f_is_kind Z.d_is_kind ["value"] sp_is_kind := by
  have G_is_whole := ok_is_whole (P := P) (w := w) (base := base) T
  refine T.is_kind.fn.ok sc_is_kind (fun vs H Q E h => ?_) (fun cdv A outer s H vs Q E hr h => ?_)
  · obtain ⟨i, rfl, _⟩ := h
    rfl
  · obtain ⟨i, rfl, k⟩ := h
    refine ⟨_, (pss_one (ps_ret (pe_and (pe_call G_is_whole (hr.mono (by decide)) rfl T.is_whole.mg T.is_whole.fn.kp T.is_whole.bd .nil pass0 (pa_cons (pv 0) pa_nil)) (pe_one (pe_chain op_le op_le pe_int (pv 0) (pe_glob (v := .int 999) rfl T.k_GREATEST_KIND ⟨_, rfl⟩)))))), ?_⟩
    refine ⟨_, rfl, i, rfl, true, rfl, iteT ?_⟩
    refine ⟨_, rfl, _, _, rfl, rfl, _, rfl, ?_⟩
    by_cases h0 : (0 : Int) ≤ i
    · rw [decide_eq_true h0]
      refine iteT ⟨_, _, rfl, rfl, ?_⟩
      have e : decide (i ≤ 999) = decide (0 ≤ i ∧ i ≤ 999) := by simp [h0]
      show Q (V.bl (decide (i ≤ 999))) H
      rw [e]
      exact k
    · rw [decide_eq_false h0]
      refine iteF ?_
      have e : decide (0 ≤ i ∧ i ≤ 999) = false := decide_eq_false fun h => h0 h.1
      rw [e] at k
      exact k
def sp_is_heap : Sp := fun vs H Q _ => ∃ (a : Addr) (ns : List Int), vs = [.ref a] ∧ H a = some (.lst (ns.map V.int)) ∧ ns.length ≤ 1000000 ∧ (∀ n ∈ ns, 0 ≤ n ∧ n ≤ 999) ∧ ∀ H', Same H H' → Q (.bl true) H'
theorem sc_is_heap : FnScope ["value"] ["value"] (defScope s_is_heap) := ⟨rfl, rfl, rfl, by decide +kernel, rfl, by decide +kernel, by decide +kernel⟩
theorem ok_is_heap (T : Txt K mg Z) : FnOk P w K mg base CX0 3 Z.f_is_heap Z.d_is_heap ["value"] sp_is_heap := by
  have G_is_kind := ok_is_kind (P := P) (w := w) (base := base) T
  refine T.is_heap.fn.ok sc_is_heap (fun vs H Q E h => ?_) (fun cdv A outer s H vs Q E hr h => ?_)
  · obtain ⟨a, ns, rfl, _⟩ := h
    rfl
  · obtain ⟨a, ns, rfl, ha, hl, hb, k⟩ := h
    refine ⟨_, (pss_cons (ps_if (PW.pt (pw_or (pt_not (pt_val (pe_callB call_isinst rfl T.b_isinstance boot_isinstance (pa_cons (pv 0) (pa_cons (pe_ty rfl T.b_list boot_list) pa_nil))))) (pw_or1 (pt_cmpR op_gt (pe_callB call_len_seq rfl T.b_len boot_len (pa_cons (pv 0) pa_nil)) (pe_glob (v := .int 1000000) rfl T.k_MOST_THINGS ⟨_, rfl⟩) (nomark _))))) (pss_one (ps_ret pe_bl)) pss_nil)
      (pss_one (ps_ret (pe_callB (call_all_of rfl) rfl T.b_all boot_all (pa_cons (pe_lcomp (N := ["kind"]) (cap := [none]) rfl (compScope_of (XN := ["value"]) (xs := (defScope s_is_heap).names) rfl rfl (by decide +kernel)) (pi_list (pv 0)) (fun _ _ _ => (pg_name (i := 0) (show (["kind"] : List Str).Nodup by decide +kernel) rfl (Or.inl rfl) (Or.inr rfl))) (fun _ _ _ => pts_nil) (fun _ _ _ => (pe_call G_is_kind (hr.mono (by decide)) rfl T.is_kind.mg T.is_kind.fn.kp T.is_kind.bd .nil pass0 (pa_cons (pv 0) pa_nil)))) pa_nil))))), ?_⟩
    refine ⟨_, rfl, _, _, _, _, rfl, .lst ha, kit_list_list, true, rfl, iteF ?_⟩
    refine ⟨_, rfl, a, _, rfl, .inl (.of ha), _, _, rfl, rfl, _, rfl, ?_⟩
    have hlen : decide ((1000000 : Int) < ((ns.map V.int).length : Int)) = false := decide_eq_false (by rw [List.length_map]; omega)
    rw [hlen]
    refine iteF ?_
    refine ⟨_, rfl, a, rfl, ⟨_, .of ha⟩, lc_listM (fun σ => ∃ v, σ = [v]) (fun _ => .bl true) (by rw [List.length_map]; omega) ⟨none, rfl⟩ (.of ha) ?_ ?_⟩
    · rintro i x σ' H' k2 r hx ⟨v, rfl⟩ sm hk
      obtain ⟨n, hn, rfl⟩ := int_item hx
      refine ⟨_, rfl, n, rfl, ?_⟩
      have e : decide (0 ≤ n ∧ n ≤ 999) = true := decide_eq_true (hb n (List.mem_of_getElem? hn))
      rw [e]
      exact hk _ _ ⟨_, rfl⟩ (Same.refl _)
    · intro D H' hD sm hA
      refine ⟨.ref D, List.replicate ns.length true, rfl, ⟨D, rfl, .inl (.of ?_)⟩, ?_⟩
      · rw [hA, List.map_replicate, List.map_const', List.length_map]
      · have e : (List.replicate ns.length true).all id = true := by simp
        rw [e]
        exact k H' sm
def sp_check_heap : Sp := fun vs H Q _ => ∃ (a : Addr) (ns : List Int), vs = [.ref a] ∧ H a = some (.lst (ns.map V.int)) ∧ ns.length ≤ 1000000 ∧ (∀ n ∈ ns, 0 ≤ n ∧ n ≤ 999) ∧ ∀ H', Same H H' → Q .non H'
theorem sc_check_heap : FnScope ["value"] ["value"] (defScope s_check_heap) := ⟨rfl, rfl, rfl, by decide +kernel, rfl, by decide +kernel, by decide +kernel⟩
theorem ok_check_heap (T : Txt K mg Z) : FnOk P w K mg base CX0 4 Z.f_check_heap Z.d_check_heap ["value"] sp_check_heap := by
  have G_is_heap := ok_is_heap (P := P) (w := w) (base := base) T
  refine T.check_heap.fn.ok sc_check_heap (fun vs H Q E h => ?_) (fun cdv A outer s H vs Q E hr h => ?_)
  · obtain ⟨a, ns, rfl, _⟩ := h
    rfl
  · obtain ⟨a, ns, rfl, ha, hl, hb, k⟩ := h
    refine ⟨_, (pss_one (ps_if (pt_not (pt_val (pe_call G_is_heap (hr.mono (by decide)) rfl T.is_heap.mg T.is_heap.fn.kp T.is_heap.bd .nil pass0 (pa_cons (pv 0) pa_nil)))) pss_never pss_nil)), ?_⟩
    exact ⟨_, rfl, a, ns, rfl, ha, hl, hb, fun H' s' => ⟨true, rfl, iteF (k H' s')⟩⟩
theorem vals_kvs (l : List (Int × Int)) : (kvs l).map (·.2) = (l.map (·.2)).map V.int := by simp [kvs]
theorem keys_kvs (l : List (Int × Int)) : (kvs l).map (·.1) = (l.map (·.1)).map Sum.inl := by simp [kvs]
def sp_tally (K : PySem.W.Frag) : Sp := fun vs H Q _ => ∃ (a : Addr) (ns : List Int), vs = [.ref a] ∧ SqL K H a (ns.map V.int) ∧ ns.length ≤ 1000000 ∧ ∀ d H', H d = none → Same H H' → H' d = some (.dK (kvs (tly ns))) → Q (.ref d) H'
theorem sc_tally : FnScope ["kinds", "numbers", "kind"] ["kinds"] (defScope s_tally) := ⟨rfl, rfl, rfl, by decide +kernel, rfl, by decide +kernel, by decide +kernel⟩
theorem ok_tally (T : Txt K mg Z) : FnOk P w K mg base CX0 1 Z.f_tally Z.d_tally ["kinds"] (sp_tally K) := by
  refine T.tally.fn.ok sc_tally (fun vs H Q E h => ?_) (fun cdv A outer s H vs Q E hr h => ?_)
  · obtain ⟨a, ns, rfl, _⟩ := h
    rfl
  · obtain ⟨a, ns, rfl, ha, hl, k⟩ := h
    have hu := hu_of hr
    refine ⟨_, (pss_cons (ps_set (i := 1) sc_tally.nd rfl (Or.inl rfl) pe_dnewK)
      (pss_cons (ps_for PassesOwn.never rfl (pi_list (pv 0)) (pg_name (i := 2) sc_tally.nd rfl (Or.inl rfl)) (pss_one (ps_dput hu (pv 1) (pv 2) (pe_op op_add (pe_dget2 hu (pv 1) (pv 2) pe_int ⟨rfl, rfl, rfl, rfl⟩) pe_int) rfl)))
      (pss_one (ps_ret (pv 1))))), ?_⟩
    intro d hd
    have s1 : Same H (upd H d (.dK [])) := (Same.refl H).upd hd
    refine ⟨_, rfl, a, rfl, ⟨_, s1.seq ha⟩, for_list (K := K) (a := a) (xs := ns.map V.int) (fun i σ H2 => ∃ v : Option V, σ = [some (.ref a), some (.ref d), v] ∧ Same H H2 ∧ H2 d = some (.dK (kvs (tly (ns.take i)))))
      ⟨none, rfl, s1, upd_same⟩ (fun i σ H2 _ ⟨_, _, s2, _⟩ => s2.seq ha) ?_ ?_⟩
    · rintro i x σ H2 hx ⟨v, rfl, s2, h2⟩
      obtain ⟨n, hn, rfl⟩ := int_item hx
      have hil : i < ns.length := (List.getElem?_eq_some_iff.mp hn).1
      have ht : ns.take (i + 1) = ns.take i ++ [n] := by rw [List.take_add_one, hn]; rfl
      have hlen : (kvs (tly (ns.take i))).length < sizeLine := by
        have h1 := tly_len (ns.take i)
        have h2 : (ns.take i).length ≤ ns.length := by rw [List.length_take]; omega
        refine smallM ?_
        unfold kvs
        rw [List.length_map]
        omega
      refine ⟨_, rfl, d, rfl, .inl ⟨_, .inl h2⟩, _, rfl, _, DGet.k (k := Sum.inl n) h2, ?_⟩
      have hg : (valV (kvs (tly (ns.take i))) (Sum.inl n : Key)).getD (V.int 0) = V.int ((get (tly (ns.take i)) n).getD 0) := by
        rw [val_kvs]
        cases get (tly (ns.take i)) n <;> rfl
      rw [hg]
      refine ⟨_, _, rfl, rfl, _, rfl, _, rfl, d, _, rfl, DPut.k (k := Sum.inl n) h2 hlen, ?_⟩
      refine ⟨_, rfl, s2.upd hd, ?_⟩
      rw [upd_same, put_kvs, ht, tly_snoc]
      rfl
    · rintro σ H2 ⟨v, rfl, s2, h2⟩
      rw [List.length_map, List.take_length] at h2
      exact ⟨_, rfl, k d H2 hd s2 h2⟩
theorem tyD {H : Hp} {d : Addr} {l : List (Key × V)} (h : H d = some (.dK l)) : tyV K "dict" (.ref d) H := .inr (.inr (.inl ⟨rfl, .inl ⟨_, h⟩⟩))
end
end K6
set_option maxHeartbeats 1000000
namespace K6
open PySem PySem.Spec PyProof.Rows L2 Tl
seal PSs PS PE PT PW PA PG PGs PI PTs PC
section
variable {P : Program} {w : World} {K : PySem.W.Frag} {mg : Str → Option Value} {base : Heap} {Z : Ad}
def mxF (ks : List Int) (f : Int → Int) : Int := (ks.map f).foldl max 0
theorem mxF_up {ks : List Int} {f : Int → Int} {k : Int} (h : k ∈ ks) : f k ≤ mxF ks f := (foldl_max (ks.map f) 0).2.1 _ (List.mem_map_of_mem h)
theorem mxF_is {ks : List Int} {f : Int → Int} {M : Int} (h0 : ∀ k ∈ ks, 0 ≤ f k) (hM : M ∈ ks.map f) (hmax : ∀ a ∈ ks.map f, a ≤ M) : M = mxF ks f := by
  obtain ⟨k, hk, rfl⟩ := List.mem_map.mp hM
  have h1 := mxF_up (f := f) hk
  have h2 : mxF ks f ≤ f k := by
    rcases (foldl_max (ks.map f) 0).2.2 with e | e
    · have := h0 k hk
      unfold mxF
      omega
    · exact hmax _ e
  omega
theorem mxF_most (ns : List Int) : mxF ((tly ns).map (·.1)) (fun k => (ns.count k : Int)) = most ns := by
  unfold mxF most
  rw [tly_vals]
def sp_most_alike : Sp := fun vs H Q _ => ∃ (d : Addr) (ks : List Int) (f : Int → Int), vs = [.ref d] ∧ H d = some (.dK (kvs (dof ks f))) ∧ (∀ k ∈ ks, 0 ≤ f k) ∧ ∀ H', Same H H' → Q (.int (mxF ks f)) H'
theorem sc_most_alike : FnScope ["numbers"] ["numbers"] (defScope s_most_alike) := ⟨rfl, rfl, rfl, by decide +kernel, rfl, by decide +kernel, by decide +kernel⟩
theorem ok_most_alike (T : Txt K mg Z) : FnOk P w K mg base CX0 1 Z.f_most_alike Z.d_most_alike ["numbers"] sp_most_alike := by
  refine T.most_alike.fn.ok sc_most_alike (fun vs H Q E h => ?_) (fun cdv A outer s H vs Q E hr h => ?_)
  · obtain ⟨d, ks, f, rfl, _⟩ := h
    rfl
  · obtain ⟨d, ks, f, rfl, hd, hf, k⟩ := h
    refine ⟨_, (pss_one (ps_ret (pe_callBK (call_max_dflt rfl) rfl T.b_max boot_max (pa_cons (pe_callTy (call_list_vals rfl) rfl T.b_list boot_list (pa_cons (pe_bm0 PySem.F.plainAttrs_dict PySem.F.slot_dict_values PySem.F.type_dict_values mt_values (pv 0)) pa_nil)) pa_nil) (pk_cons pe_int pk_nil)))), ?_⟩
    refine ⟨_, rfl, tyD hd, d, _, rfl, rfl, hd, fun v hv => ?_⟩
    have ndv : d ≠ v := ne_of_none hd hv
    refine ⟨v, d, _, rfl, upd_same, by rw [upd_ne ndv]; exact hd, fun l hl => ?_⟩
    have s1 : Same H (upd H v (ViewO "dict_values" v d)) := (Same.refl H).upd hv
    have s2 := s1.upd (o := .lst ((kvs (dof ks f)).map (·.2))) (s1.free hl)
    refine ⟨.ref l, ks.map f, .int 0, rfl, rfl, ⟨l, rfl, .inl (.of (by rw [upd_same, vals_kvs, dof_vals]))⟩, fun h0 => ?_, fun hne M hM hmax => ?_⟩
    · have e : mxF ks f = 0 := by unfold mxF; rw [h0]; rfl
      rw [e] at k
      exact k _ s2
    · rw [mxF_is hf hM hmax]
      exact k _ s2
def sp_top_kinds0 : Sp := fun vs H Q _ => ∃ (d : Addr) (ks : List Int) (f : Int → Int), vs = [.ref d] ∧ H d = some (.dK (kvs (dof ks f))) ∧ (∀ k ∈ ks, 0 ≤ f k) ∧ ks.length ≤ 63 ∧
  ∀ (l : Addr) (ts : List Int) (H' : Hp), ts.Perm ks → ts.Pairwise (· ≤ ·) → Same H H' → H l = none → H' l = some (.lst ((ts.filter fun k => decide (f k = mxF ks f)).map V.int)) → Q (.ref l) H'
theorem sc_top_kinds : FnScope ["numbers", "most"] ["numbers"] (defScope s_top_kinds) := ⟨rfl, rfl, rfl, by decide +kernel, rfl, by decide +kernel, by decide +kernel⟩
theorem ok_top_kinds0 (T : Txt K mg Z) : FnOk P w K mg base CX0 2 Z.f_top_kinds Z.d_top_kinds ["numbers"] sp_top_kinds0 := by
  have G_most_alike := ok_most_alike (P := P) (w := w) (base := base) T
  refine T.top_kinds.fn.ok sc_top_kinds (fun vs H Q E h => ?_) (fun cdv A outer s H vs Q E hr h => ?_)
  · obtain ⟨d, ks, f, rfl, _⟩ := h
    rfl
  · obtain ⟨d, ks, f, rfl, hd, hf, hl, k⟩ := h
    have hu := hu_of hr
    refine ⟨_, (pss_cons (ps_set (i := 1) sc_top_kinds.nd rfl (Or.inr rfl) (pe_call G_most_alike (hr.mono (by decide)) rfl T.most_alike.mg T.most_alike.fn.kp T.most_alike.bd .nil pass0 (pa_cons (pv 0) pa_nil)))
      (pss_one (ps_ret (pe_lcomp (N := ["kind", "most", "numbers"]) (cap := [none, some 1, some 0]) rfl (compScope_of (XN := ["numbers", "most"]) (xs := (defScope s_top_kinds).names) rfl rfl (by decide +kernel)) (pi_list (pe_callB (call_sorted_src rfl) rfl T.b_sorted boot_sorted (pa_cons (pv 0) pa_nil))) (fun _ _ _ => (pg_name (i := 0) (show (["kind", "most", "numbers"] : List Str).Nodup by decide +kernel) rfl (Or.inl rfl) (Or.inr rfl))) (fun _ _ _ => (pts_one (pt_cmpR op_eq (pe_dget hu (pv 2) (pv 0) (fun _ _ => rfl)) (pv 1) (nomark _)))) (fun _ _ _ => (pv 0)))))), ?_⟩
    refine ⟨_, rfl, d, ks, f, rfl, hd, hf, fun H1 s1 => ?_⟩
    refine ⟨_, rfl, d, _, ks, rfl, s1 d _ hd, by rw [keys_kvs, dof_keys], by omega, fun l ts hl0 hperm hup => ⟨l, rfl, ⟨_, .of upd_same⟩, ?_⟩⟩
    have hlH : H l = none := s1.free hl0
    have s2 : Same H (upd H1 l (.lst (ts.map V.int))) := s1.upd hlH
    have hkl : ts.length ≤ 63 := by rw [hperm.length_eq]; omega
    refine lc_listF (fun σ => ∃ v, σ = [v, some (.int (mxF ks f)), some (.ref d)]) (fun x => match x with | .int k => if decide (f k = mxF ks f) = true then some (.int k) else none | _ => none) (by rw [List.length_map]; omega) ⟨none, rfl⟩ (.of upd_same) ?_ ?_
    · rintro i x σ' H' k2 r hx ⟨v0, rfl⟩ sm hk hr2
      obtain ⟨n, hn, rfl⟩ := int_item hx
      have hnm : n ∈ ks := hperm.mem_iff.mp (List.mem_of_getElem? hn)
      have g : DGet H' d (.int n) (some (.int (f n))) := by
        have := DGet.k (k := Sum.inl n) ((s2.trans sm) d _ hd)
        rw [val_kvs, get_dof hnm] at this
        exact this
      refine ⟨_, rfl, _, rfl, d, _, rfl, g, _, rfl, rfl, _, rfl, ?_⟩
      rw [vint_eq]
      refine ite2 (fun hc => ⟨_, rfl, hk _ _ _ (if_pos hc) ⟨_, rfl⟩ (Same.refl _)⟩) (fun hc => hr2 _ _ (if_neg hc) ⟨_, rfl⟩ (Same.refl _))
    · intro D H' hD sm hA
      refine k D ts H' hperm hup (s2.trans sm) (s2.free hD) ?_
      rw [hA]
      congr 2
      clear hA hkl hlH hl0 s2 sm hperm hup hD
      induction ts with
      | nil => rfl
      | cons x ts ih =>
        rw [List.map_cons, List.filterMap_cons, List.filter_cons]
        by_cases hx : decide (f x = mxF ks f) = true
        · simp only [hx, if_true]
          rw [List.map_cons, ih]
        · simp only [hx, if_false]
          exact ih
def sp_top_kinds : Sp := fun vs H Q _ => ∃ (d : Addr) (ns : List Int), vs = [.ref d] ∧ H d = some (.dK (kvs (tly ns))) ∧ ns.length ≤ 63 ∧ ∀ (l : Addr) (ks : List Int) (H' : Hp), ks.Perm ((tly ns).map (·.1)) → ks.Pairwise (· ≤ ·) → Same H H' → H l = none → H' l = some (.lst ((ks.filter fun k => decide ((ns.count k : Int) = most ns)).map V.int)) → Q (.ref l) H'
theorem ok_top_kinds (T : Txt K mg Z) : FnOk P w K mg base CX0 2 Z.f_top_kinds Z.d_top_kinds ["numbers"] sp_top_kinds := by
  refine (ok_top_kinds0 (P := P) (w := w) (base := base) T).imp fun vs H Q E h => ?_
  obtain ⟨d, ns, rfl, hd, hl, k⟩ := h
  have hnl := tly_len ns
  refine ⟨d, (tly ns).map (·.1), fun k => (ns.count k : Int), rfl, by rw [← tly_dof]; exact hd, fun k _ => by show (0 : Int) ≤ (ns.count k : Int); omega, by rw [List.length_map]; omega, fun l ts H' h1 h2 s1 h3 h4 => k l ts H' h1 h2 s1 h3 ?_⟩
  rw [mxF_most] at h4
  exact h4
end
end K6
set_option maxHeartbeats 1000000
namespace K6
open PySem PySem.Spec PyProof.Rows L2 Tl
seal PSs PS PE PT PW PA PG PGs PI PTs PC
section
variable {P : Program} {w : World} {K : PySem.W.Frag} {mg : Str → Option Value} {base : Heap} {Z : Ad}
structure Told (H H' : Hp) (ns : List Int) (l : Addr) (ts : List Addr) (ks : List Int) : Prop where
  kinds : Kinds ns ks
  same : Same H H'
  fr : H l = none
  lst : H' l = some (.lst (ts.map V.ref))
  len : ts.length = ks.length
  tup : ∀ (j : Nat) (t : Addr) (k : Int), ts[j]? = some t → ks[j]? = some k → H t = none ∧ H' t = some (.tup [.int k, .int (ns.count k : Int)])
def sp_counts : Sp := fun vs H Q _ => ∃ (a : Addr) (ns : List Int), vs = [.ref a] ∧ H a = some (.lst (ns.map V.int)) ∧ ns.length ≤ 63 ∧ (∀ n ∈ ns, 0 ≤ n ∧ n ≤ 999) ∧ ∀ l ts ks H', Told H H' ns l ts ks → Q (.ref l) H'
theorem sc_counts : FnScope ["heap"] ["heap"] (defScope s_counts) := ⟨rfl, rfl, rfl, by decide +kernel, rfl, by decide +kernel, by decide +kernel⟩
theorem ok_counts (T : Txt K mg Z) : FnOk P w K mg base CX0 5 Z.f_counts Z.d_counts ["heap"] sp_counts := by
  have G_check_heap := ok_check_heap (P := P) (w := w) (base := base) T
  have G_tally := ok_tally (P := P) (w := w) (base := base) T
  refine T.counts.fn.ok sc_counts (fun vs H Q E h => ?_) (fun cdv A outer s H vs Q E hr h => ?_)
  · obtain ⟨a, ns, rfl, _⟩ := h
    rfl
  · obtain ⟨a, ns, rfl, ha, hl, hb, k⟩ := h
    refine ⟨_, (pss_cons (ps_expr (pe_call G_check_heap (hr.mono (by decide)) rfl T.check_heap.mg T.check_heap.fn.kp T.check_heap.bd .nil pass0 (pa_cons (pv 0) pa_nil)))
      (pss_one (ps_ret (pe_callB (call_sorted_items rfl) rfl T.b_sorted boot_sorted (pa_cons (pe_bm0 PySem.F.plainAttrs_dict PySem.F.slot_dict_items PySem.F.type_dict_items mt_items (pe_call G_tally (hr.mono (by decide)) rfl T.tally.mg T.tally.fn.kp T.tally.bd .nil pass0 (pa_cons (pv 0) pa_nil))) pa_nil))))), ?_⟩
    refine ⟨_, rfl, a, ns, rfl, ha, by omega, hb, fun H1 s1 => ?_⟩
    refine ⟨_, rfl, a, ns, rfl, .of (s1 a _ ha), by omega, fun d H2 hd s2 h2 => ⟨tyD h2, d, _, rfl, rfl, h2, fun v hv => ?_⟩⟩
    have ndv : d ≠ v := ne_of_none h2 hv
    have hnl := tly_len ns
    refine ⟨v, d, tly ns, rfl, upd_same, by rw [upd_ne ndv]; exact h2, by omega, fun l ts qs H3 SI => ?_⟩
    have s3 : Same H (upd H2 v (ViewO "dict_items" v d)) := (s1.trans s2).upd ((s1.trans s2).free hv)
    have KS : Kinds ns (qs.map (·.1)) := ⟨SI.perm.map _, SI.up⟩
    have eq := pairs_eq SI.perm SI.up KS
    refine k l ts (qs.map (·.1)) H3 ⟨KS, s3.trans SI.same, s3.free SI.fr, SI.lst, by rw [SI.len, List.length_map], fun j t kk h1 h3 => ?_⟩
    rw [List.getElem?_map] at h3
    cases hq : qs[j]? with
    | none => rw [hq] at h3; cases h3
    | some q =>
      rw [hq] at h3
      have e : q.1 = kk := Option.some.inj h3
      subst e
      obtain ⟨t1, t2⟩ := SI.tup j t q h1 hq
      refine ⟨s3.free t1, ?_⟩
      rw [t2, (mem_tly (SI.perm.mem_iff.mp (List.mem_of_getElem? hq))).2]
def sp_commonest : Sp := fun vs H Q _ => ∃ (a : Addr) (ns : List Int), vs = [.ref a] ∧ H a = some (.lst (ns.map V.int)) ∧ ns.length ≤ 63 ∧ (∀ n ∈ ns, 0 ≤ n ∧ n ≤ 999) ∧ ∀ l rs H', (∃ ks, Kinds ns ks ∧ rs = ks.filter fun k => decide ((ns.count k : Int) = most ns)) → Same H H' → H l = none → H' l = some (.lst (rs.map V.int)) → Q (.ref l) H'
theorem sc_commonest : FnScope ["heap"] ["heap"] (defScope s_commonest) := ⟨rfl, rfl, rfl, by decide +kernel, rfl, by decide +kernel, by decide +kernel⟩
theorem ok_commonest (T : Txt K mg Z) : FnOk P w K mg base CX0 5 Z.f_commonest Z.d_commonest ["heap"] sp_commonest := by
  have G_check_heap := ok_check_heap (P := P) (w := w) (base := base) T
  have G_tally := ok_tally (P := P) (w := w) (base := base) T
  have G_top_kinds := ok_top_kinds (P := P) (w := w) (base := base) T
  refine T.commonest.fn.ok sc_commonest (fun vs H Q E h => ?_) (fun cdv A outer s H vs Q E hr h => ?_)
  · obtain ⟨a, ns, rfl, _⟩ := h
    rfl
  · obtain ⟨a, ns, rfl, ha, hl, hb, k⟩ := h
    refine ⟨_, (pss_cons (ps_expr (pe_call G_check_heap (hr.mono (by decide)) rfl T.check_heap.mg T.check_heap.fn.kp T.check_heap.bd .nil pass0 (pa_cons (pv 0) pa_nil)))
      (pss_one (ps_ret (pe_call G_top_kinds (hr.mono (by decide)) rfl T.top_kinds.mg T.top_kinds.fn.kp T.top_kinds.bd .nil pass0 (pa_cons (pe_call G_tally (hr.mono (by decide)) rfl T.tally.mg T.tally.fn.kp T.tally.bd .nil pass0 (pa_cons (pv 0) pa_nil)) pa_nil))))), ?_⟩
    refine ⟨_, rfl, a, ns, rfl, ha, by omega, hb, fun H1 s1 => ?_⟩
    refine ⟨_, rfl, a, ns, rfl, .of (s1 a _ ha), by omega, fun d H2 hd s2 h2 => ⟨d, ns, rfl, h2, hl, fun l ks H3 p3 u3 s3 f3 l3 => ?_⟩⟩
    have s02 := s1.trans s2
    exact k l _ H3 ⟨ks, ⟨p3, u3⟩, rfl⟩ (s02.trans s3) (s02.free f3) l3
end
end K6
set_option maxHeartbeats 1000000
namespace K6
open PySem PySem.Spec PyProof.Rows L2 Tl
seal PSs PS PE PT PW PA PG PGs PI PTs PC
section
variable {P : Program} {w : World} {K : PySem.W.Frag} {mg : Str → Option Value} {base : Heap} {Z : Ad}
theorem src_bools {H : Hp} {D : Addr} {α : Type} {xs : List α} {f : α → Bool} (hA : H D = some (.lst (xs.map fun x => V.bl (f x)))) : SrcV K H (.ref D) ((xs.map f).map V.bl) :=
  ⟨D, rfl, .inl (.of (by rw [hA, List.map_map]; rfl))⟩
theorem any_id {α : Type} (xs : List α) (f : α → Bool) : (xs.map f).any id = xs.any f := by rw [List.any_map]; rfl
end
end K6
set_option maxHeartbeats 1000000
namespace K6
open PySem PySem.Spec PyProof.Rows L2 Tl
seal PSs PS PE PT PW PA PG PGs PI PTs PC
section
variable {P : Program} {w : World} {K : PySem.W.Frag} {mg : Str → Option Value} {base : Heap} {Z : Ad}
def intsOf : List Expr → Option (List Int)
  | [] => some []
  | .Constant (.int i) _ _ :: r => (intsOf r).map fun l => i :: l
  | _ => none
unseal PSs PS PE PT PW PA PG PGs PI PTs PC in
theorem pa_ints {X : Cx} : ∀ {es : List Expr} {ns : List Int}, intsOf es = some ns → PA X es (fun _ H Q => Q (ns.map V.int) H)
  | [], ns, h => by
    cases (Option.some.inj h : [] = ns)
    exact pa_nil
  | .Constant (.int i) j p :: r, ns, h => by
    have h' : (intsOf r).map (fun l => i :: l) = some ns := h
    cases q : intsOf r with
    | none => rw [q] at h'; cases h'
    | some l =>
      rw [q] at h'
      cases (Option.some.inj h' : i :: l = ns)
      exact pa_cons pe_int (pa_ints q)
def tInts (es : List Expr) : TA := fun _ H Q => ∃ ns : List Int, intsOf es = some ns ∧ Q (ns.map V.int) H
unseal PSs PS PE PT PW PA PG PGs PI PTs PC in
theorem pa_consts {X : Cx} {es : List Expr} : PA X es (tInts es) := fun pos pins s σ H Q I h => by
  obtain ⟨ns, e, q⟩ := h
  exact pa_ints e pos pins s σ H Q I q
def sp__law_cell_at (K : PySem.W.Frag) : Sp := fun vs H Q _ => ∃ (a : Addr) (ns : List Int) (k : Int), vs = [.ref a, .int k] ∧ SqL K H a (ns.map V.int) ∧ 0 ≤ k ∧ ∀ r : Int, Q (.int r) H
theorem sc__law_cell_at : FnScope ["_law_script", "_law_k"] ["_law_script", "_law_k"] (defScope s__law_cell_at) := ⟨rfl, rfl, rfl, by decide +kernel, rfl, by decide +kernel, by decide +kernel⟩
theorem ok__law_cell_at (T : Txt K mg Z) : FnOk P w K mg base CX0 1 Z.f__law_cell_at Z.d__law_cell_at ["_law_script", "_law_k"] (sp__law_cell_at K) := by
  refine T._law_cell_at.fn.ok sc__law_cell_at (fun vs H Q E h => ?_) (fun cdv A outer s H vs Q E hr h => ?_)
  · obtain ⟨a, ns, k, rfl, _⟩ := h
    rfl
  · obtain ⟨a, ns, k, rfl, ha, h0, q⟩ := h
    refine ⟨_, (pss_cons (ps_if (pt_cmpR op_lt (pv 1) (pe_callB call_len_seq rfl T.b_len boot_len (pa_cons (pv 0) pa_nil)) (nomark _)) (pss_one (ps_ret (pe_ix ix_list (pv 0) (pv 1) (fun _ _ => rfl)))) pss_nil)
      (pss_one (ps_ret pe_int))), ?_⟩
    refine ⟨_, rfl, _, rfl, a, _, rfl, .inl ha, _, _, rfl, rfl, _, rfl, ?_⟩
    refine ite2 (fun h1 => ?_) (fun h1 => ?_)
    · have h1' : k < ((ns.map V.int).length : Int) := of_decide_eq_true h1
      rw [List.length_map] at h1'
      have hk : k.toNat < ns.length := by omega
      have e : ((k.toNat : Nat) : Int) = k := Int.toNat_of_nonneg h0
      refine ⟨_, rfl, _, rfl, a, _, k, .int ns[k.toNat], rfl, rfl, ha, ?_, q _⟩
      have q1 : (ns.map V.int)[k.toNat]? = some (.int ns[k.toNat]) := by rw [List.getElem?_map, List.getElem?_eq_getElem hk]; rfl
      have q2 := atI_nat q1
      rw [e] at q2
      exact q2
    · exact q 0
def sp__law_draw : Sp := fun vs H Q _ => ∃ c k m : Int, vs = [.int c, .int k, .int m] ∧ 0 < m ∧ ∀ r H', 0 ≤ r → r < m → Same H H' → Q (.int r) H'
theorem at_pos {xs : List V} {n : Nat} (hl : xs.length = n) (hp : ∀ x ∈ xs, ∃ p : Int, x = .int p ∧ 0 < p) {i : Int} (h0 : 0 ≤ i) (h1 : i < n) : ∃ p : Int, atI xs i = some (.int p) ∧ 0 < p := by
  have hj : i.toNat < xs.length := by omega
  have e : ((i.toNat : Nat) : Int) = i := Int.toNat_of_nonneg h0
  obtain ⟨p, hx, h2⟩ := hp _ (List.getElem_mem hj)
  refine ⟨p, ?_, h2⟩
  rw [← e, ← hx]
  exact atI_nat (List.getElem?_eq_getElem hj)
theorem sc__law_draw : FnScope ["_law_cell", "_law_k", "_law_many_here", "_law_primes"] ["_law_cell", "_law_k", "_law_many_here"] (defScope s__law_draw) := ⟨rfl, rfl, rfl, by decide +kernel, rfl, by decide +kernel, by decide +kernel⟩
theorem ok__law_draw (T : Txt K mg Z) : FnOk P w K mg base CX0 1 Z.f__law_draw Z.d__law_draw ["_law_cell", "_law_k", "_law_many_here"] sp__law_draw := by
  refine T._law_draw.fn.ok sc__law_draw (fun vs H Q E h => ?_) (fun cdv A outer s H vs Q E hr h => ?_)
  · obtain ⟨c, k, m, rfl, _⟩ := h
    rfl
  · obtain ⟨c, k, m, rfl, hm, q⟩ := h
    refine ⟨_, (pss_cons (ps_set (i := 3) sc__law_draw.nd rfl (Or.inl rfl) (pe_tup pa_consts))
      (pss_one (ps_ret (pe_op op_mod (pe_op op_mod (pe_op op_add (pe_op op_mul (pv 0) pe_int) (pe_op op_mul (pv 1) pe_int)) (pe_ix ix_tup (pv 3) (pe_op op_mod (pv 1) pe_int) (fun _ _ => rfl))) (pv 2))))), ?_⟩
    refine ⟨[1000003, 1000033, 1000037, 1000039, 1000081, 1000099, 1000117, 1000121, 1000133, 1000151, 1000159, 1000171, 1000183, 1000187, 1000193, 1000199], by decide +kernel, by show 16 ≤ sizeLine; decide, fun t ht => ?_⟩
    obtain ⟨p, hp, p0⟩ := at_pos (xs := ([1000003, 1000033, 1000037, 1000039, 1000081, 1000099, 1000117, 1000121, 1000133, 1000151, 1000159, 1000171, 1000183, 1000187, 1000193, 1000199] : List Int).map V.int) (n := 16) rfl
      (by
        intro x hx
        obtain ⟨p, hp, rfl⟩ := List.mem_map.mp hx
        refine ⟨p, rfl, ?_⟩
        have all : ∀ p ∈ ([1000003, 1000033, 1000037, 1000039, 1000081, 1000099, 1000117, 1000121, 1000133, 1000151, 1000159, 1000171, 1000183, 1000187, 1000193, 1000199] : List Int), 0 < p := by decide
        exact all p hp)
      (Int.emod_nonneg k (by decide : (16 : Int) ≠ 0)) (Int.emod_lt_of_pos k (by decide : (0 : Int) < 16))
    refine ⟨_, rfl, _, _, rfl, rfl, .inr ⟨by decide, by decide⟩, _, rfl, _, _, rfl, rfl, .inr ⟨by decide, by decide⟩, _, _, rfl, rfl, ?_⟩
    refine ⟨_, rfl, _, rfl, _, _, rfl, rfl, (by show (0 : Int) < 16; decide), t, _, _, _, rfl, rfl, .of upd_same, hp, _, _, rfl, rfl, p0, _, rfl, _, _, rfl, rfl, hm, ?_⟩
    exact q _ _ (Int.emod_nonneg _ (by omega)) (Int.emod_lt_of_pos _ hm) ((Same.refl H).upd ht)
def sp__law_heap (K : PySem.W.Frag) : Sp := fun vs H Q _ => ∃ (a : Addr) (ns : List Int), vs = [.ref a] ∧ SqL K H a (ns.map V.int) ∧ ns.length ≤ 63 ∧
  ∀ (l : Addr) (ms : List Int) (H' : Hp), ms.length = ns.length → (∀ n ∈ ms, 0 ≤ n ∧ n ≤ 999) → Same H H' → H l = none → H' l = some (.lst (ms.map V.int)) → Q (.ref l) H'
theorem sc__law_heap : FnScope ["_law_script", "_law_few", "_law_lean", "_law_heap_here", "_law_k", "_law_kind"] ["_law_script"] (defScope s__law_heap) := ⟨rfl, rfl, rfl, by decide +kernel, rfl, by decide +kernel, by decide +kernel⟩
theorem ok__law_heap (T : Txt K mg Z) : FnOk P w K mg base CX0 2 Z.f__law_heap Z.d__law_heap ["_law_script"] (sp__law_heap K) := by
  have G__law_cell_at := ok__law_cell_at (P := P) (w := w) (base := base) T
  have G__law_draw := ok__law_draw (P := P) (w := w) (base := base) T
  refine T._law_heap.fn.ok sc__law_heap (fun vs H Q E h => ?_) (fun cdv A outer s H vs Q E hr h => ?_)
  · obtain ⟨a, ns, rfl, _⟩ := h
    rfl
  · obtain ⟨a, ns, rfl, ha, hl, k⟩ := h
    refine ⟨_, (pss_cons (ps_set (i := 1) sc__law_heap.nd rfl (Or.inl rfl) (pe_ix ix_tup (pe_tup (pa_cons pe_int (pa_cons pe_int (pa_cons pe_int (pa_cons pe_int pa_nil))))) (pe_call G__law_draw (hr.mono (by decide)) rfl T._law_draw.mg T._law_draw.fn.kp T._law_draw.bd .nil pass0 (pa_cons (pe_call G__law_cell_at (hr.mono (by decide)) rfl T._law_cell_at.mg T._law_cell_at.fn.kp T._law_cell_at.bd .nil pass0 (pa_cons (pv 0) (pa_cons pe_int pa_nil))) (pa_cons pe_int (pa_cons pe_int pa_nil)))) (fun _ _ => rfl)))
      (pss_cons (ps_set (i := 2) sc__law_heap.nd rfl (Or.inl rfl) (pe_call G__law_draw (hr.mono (by decide)) rfl T._law_draw.mg T._law_draw.fn.kp T._law_draw.bd .nil pass0 (pa_cons (pe_call G__law_cell_at (hr.mono (by decide)) rfl T._law_cell_at.mg T._law_cell_at.fn.kp T._law_cell_at.bd .nil pass0 (pa_cons (pv 0) (pa_cons pe_int pa_nil))) (pa_cons pe_int (pa_cons pe_int pa_nil)))))
      (pss_cons (ps_set (i := 3) sc__law_heap.nd rfl (Or.inl rfl) (pe_lst pa_nil))
      (pss_cons (ps_for PassesOwn.never rfl (pi_range1 rfl T.b_range (pa_cons (pe_callB call_len_seq rfl T.b_len boot_len (pa_cons (pv 0) pa_nil)) pa_nil)) (pg_name (i := 4) sc__law_heap.nd rfl (Or.inl rfl)) (pss_cons (ps_set (i := 5) sc__law_heap.nd rfl (Or.inl rfl) (pe_op op_add (pe_op op_mod (pe_op op_mul (pe_call G__law_draw (hr.mono (by decide)) rfl T._law_draw.mg T._law_draw.fn.kp T._law_draw.bd .nil pass0 (pa_cons (pe_ix ix_list (pv 0) (pv 4) (fun _ _ => rfl)) (pa_cons (pe_op op_add (pe_op op_mod (pv 4) pe_int) pe_int) (pa_cons (pv 1) pa_nil)))) pe_int) pe_int) (pe_ix ix_tup (pe_tup (pa_cons pe_int (pa_cons pe_int pa_nil))) (pe_op op_mod (pv 4) pe_int) (fun _ _ => rfl))))
      (pss_cons (ps_if (PW.pt (pw_and (pt_cmpR op_lt (pv 2) pe_int (nomark _)) (pw_and1 (pt_cmpR op_lt (pe_call G__law_draw (hr.mono (by decide)) rfl T._law_draw.mg T._law_draw.fn.kp T._law_draw.bd .nil pass0 (pa_cons (pe_ix ix_list (pv 0) (pv 4) (fun _ _ => rfl)) (pa_cons (pe_op op_add (pe_op op_mod (pv 4) pe_int) pe_int) (pa_cons pe_int pa_nil)))) (pe_op op_sub (pe_op op_mul pe_int (pv 2)) pe_int) (nomark _))))) (pss_one (ps_set (i := 5) sc__law_heap.nd rfl (Or.inl rfl) pe_int)) pss_nil)
      (pss_cons (ps_if (PW.pt (pw_and (pt_cmpR op_in_seq (pv 2) (pe_tup (pa_cons pe_int (pa_cons pe_int pa_nil))) rfl) (pw_and1 (pt_cmpR op_gt (pe_call G__law_draw (hr.mono (by decide)) rfl T._law_draw.mg T._law_draw.fn.kp T._law_draw.bd .nil pass0 (pa_cons (pe_ix ix_list (pv 0) (pv 4) (fun _ _ => rfl)) (pa_cons (pe_op op_add (pe_op op_mod (pv 4) pe_int) pe_int) (pa_cons pe_int pa_nil)))) pe_int (nomark _))))) (pss_one (ps_set (i := 5) sc__law_heap.nd rfl (Or.inl rfl) (pe_op op_sub pe_int (pe_op op_mod (pe_op op_mod (pv 4) (pe_op op_add (pv 1) pe_int)) pe_int)))) pss_nil)
      (pss_cons (ps_if (PW.pt (pw_and (pt_cmpR op_gt (pv 2) pe_int (nomark _)) (pw_and1 (pt_cmpR op_eq (pe_op op_mod (pv 4) pe_int) pe_int (nomark _))))) (pss_one (ps_set (i := 5) sc__law_heap.nd rfl (Or.inl rfl) pe_int)) pss_nil)
      (pss_one (ps_expr (pe_bm PySem.F.plainAttrs_list PySem.F.slot_list_append PySem.F.type_list_append mt_append (pv 3) (pa_cons (pv 5) pa_nil)))))))))
      (pss_one (ps_ret (pv 3))))))), ?_⟩
    refine ⟨by show 4 ≤ sizeLine; decide, fun t ht => ?_⟩
    have s1 : Same H (upd H t (.tup [.int 2, .int 3, .int 7, .int 60])) := (Same.refl H).upd ht
    refine ⟨_, rfl, a, ns, 0, rfl, s1.seq ha, Int.le_refl _, fun c0 => ⟨c0, 6, 4, rfl, by decide, fun r H2 r0 r1 s2 => ?_⟩⟩
    obtain ⟨few, hfew, hat⟩ := at_in (xs := [2, 3, 7, 60]) r0 r1
    have f0 : 0 < few := by
      simp only [List.mem_cons, List.not_mem_nil, or_false] at hfew
      omega
    refine ⟨t, [.int 2, .int 3, .int 7, .int 60], r, .int few, rfl, rfl, .of (s2 t _ upd_same), hat, ?_⟩
    have s02 : Same H H2 := s1.trans s2
    refine ⟨_, rfl, a, ns, 1, rfl, s02.seq ha, by decide, fun c1 => ⟨c1, 7, 9, rfl, by decide, fun lean H3 l0 l1 s3 => ?_⟩⟩
    have s03 : Same H H3 := s02.trans s3
    refine ⟨Nat.zero_le _, fun l hl0 => ?_⟩
    have hlH : H l = none := s03.free hl0
    have s04 : Same H (upd H3 l (.lst [])) := s03.upd hlH
    have elen : (((ns.map V.int).length : Int)).toNat = ns.length := by rw [List.length_map]; omega
    refine ⟨_, rfl, a, _, rfl, .inl (s04.seq ha), _, rfl, by rw [List.length_map]; omega, by rw [List.length_map]; omega, ?_⟩
    rw [elen]
    refine for_range (lo := 0) (n := ns.length) (fun i σ H4 => ∃ (v4 v5 : Option V) (ms : List Int), σ = [some (.ref a), some (.int few), some (.int lean), some (.ref l), v4, v5] ∧ ms.length = i ∧ (∀ n ∈ ms, 0 ≤ n ∧ n ≤ 999) ∧ Same H H4 ∧ H4 l = some (.lst (ms.map V.int)))
      ⟨none, none, [], rfl, rfl, (fun _ h => nomatch h), s04, upd_same⟩ (fun i σ H4 hi hP => ?_) (fun σ H4 hP => ?_)
    · obtain ⟨v4, v5, ms, rfl, hml, hmb, s4, h4⟩ := hP
      have hik : (0 : Int) ≤ 0 + (i : Int) := by omega
      have hat4 : atI (ns.map V.int) (0 + (i : Int)) = some (.int ns[i]) := by
        have q1 : (ns.map V.int)[i]? = some (.int ns[i]) := by rw [List.getElem?_map, List.getElem?_eq_getElem hi]; rfl
        have q2 := atI_nat q1
        rw [Int.zero_add]
        exact q2
      have m2 := Int.emod_nonneg (0 + (i : Int)) (by decide : (2 : Int) ≠ 0)
      have m2' := Int.emod_lt_of_pos (0 + (i : Int)) (by decide : (0 : Int) < 2)
      refine seq_cut (fun σ' H' => ∃ z : Int, σ' = [some (.ref a), some (.int few), some (.int lean), some (.ref l), some (.int (0 + (i : Int))), some (.int z)] ∧ 0 ≤ z ∧ z ≤ 999 ∧ Same H H' ∧ H' l = some (.lst (ms.map V.int))) (fun k hk => ?_) (fun σ' H' hz => ?_)
      · refine ⟨_, rfl, _, rfl, a, _, _, _, rfl, rfl, s4.seq ha, hat4, _, rfl, _, _, rfl, rfl, (by show (0 : Int) < 5; decide), _, _, rfl, rfl, _, rfl, _, _, few, rfl, f0, fun r H5 r0 r1 s5 => ?_⟩
        refine ⟨_, _, rfl, rfl, .inr ⟨by decide, by decide⟩, _, _, rfl, rfl, (by show (0 : Int) < 99; decide), ?_⟩
        refine ⟨by show 2 ≤ sizeLine; decide, fun t ht => ?_⟩
        obtain ⟨p, hp, hat⟩ := at_in (xs := [900, 3]) m2 m2'
        refine ⟨_, rfl, _, _, rfl, rfl, (by show (0 : Int) < 2; decide), t, [.int 900, .int 3], _, .int p, rfl, rfl, .of upd_same, hat, _, _, rfl, rfl, hk _ _ ⟨_, rfl, ?_, ?_, ?_, ?_⟩⟩
        · have := Int.emod_nonneg (r * 7) (by decide : (99 : Int) ≠ 0)
          simp only [List.mem_cons, List.not_mem_nil, or_false] at hp
          omega
        · have := Int.emod_lt_of_pos (r * 7) (by decide : (0 : Int) < 99)
          simp only [List.mem_cons, List.not_mem_nil, or_false] at hp
          omega
        · exact (s4.trans s5).upd ((s4.trans s5).free ht)
        · have e5 := s5 l _ h4
          rw [upd_ne (ne_of_none e5 ht)]
          exact e5
      obtain ⟨z, rfl, z0, z1, s5, h5⟩ := hz
      refine seq_cut (fun σ' H' => ∃ z : Int, σ' = [some (.ref a), some (.int few), some (.int lean), some (.ref l), some (.int (0 + (i : Int))), some (.int z)] ∧ 0 ≤ z ∧ z ≤ 999 ∧ Same H H' ∧ H' l = some (.lst (ms.map V.int))) (fun k hk => ?_) (fun σ' H' hz => ?_)
      · refine ⟨_, rfl, _, _, rfl, rfl, _, rfl, ite2 (fun _ => ?_) (fun _ => ?_)⟩
        · refine ⟨_, rfl, _, rfl, a, _, _, _, rfl, rfl, s5.seq ha, hat4, _, rfl, _, _, rfl, rfl, (by show (0 : Int) < 7; decide), _, _, rfl, rfl, _, _, 8, rfl, by decide, fun r H6 r0 r1 s6 => ?_⟩
          refine ⟨_, rfl, _, _, rfl, rfl, .inl ⟨by decide, by decide⟩, _, _, rfl, rfl, _, _, rfl, rfl, _, rfl, ite2 (fun _ => ?_) (fun _ => ?_)⟩
          · exact hk _ _ ⟨5, rfl, by decide, by decide, s5.trans s6, s6 l _ h5⟩
          · exact hk _ _ ⟨z, rfl, z0, z1, s5.trans s6, s6 l _ h5⟩
        · exact iteF (hk _ _ ⟨z, rfl, z0, z1, s5, h5⟩)
      obtain ⟨z, rfl, z0, z1, s5, h5⟩ := hz
      refine seq_cut (fun σ' H' => ∃ z : Int, σ' = [some (.ref a), some (.int few), some (.int lean), some (.ref l), some (.int (0 + (i : Int))), some (.int z)] ∧ 0 ≤ z ∧ z ≤ 999 ∧ Same H H' ∧ H' l = some (.lst (ms.map V.int))) (fun k hk => ?_) (fun σ' H' hz => ?_)
      · refine ⟨_, rfl, by show 2 ≤ sizeLine; decide, fun t ht => ?_⟩
        have ht0 := s5.free ht
        have s6 := s5.upd (o := .tup [.int 5, .int 6]) ht0
        have h6 : (upd H' t (.tup [.int 5, .int 6])) l = some (.lst (ms.map V.int)) := by rw [upd_ne (ne_of_none h5 ht)]; exact h5
        refine ⟨t, [.int 5, .int 6], rfl, .inr (.of upd_same), rfl, rfl, _, rfl, ite2 (fun _ => ?_) (fun _ => ?_)⟩
        · refine ⟨_, rfl, _, rfl, a, _, _, _, rfl, rfl, s6.seq ha, hat4, _, rfl, _, _, rfl, rfl, (by show (0 : Int) < 7; decide), _, _, rfl, rfl, _, _, 9, rfl, by decide, fun r H7 r0 r1 s7 => ?_⟩
          refine ⟨_, _, rfl, rfl, _, rfl, ite2 (fun _ => ?_) (fun _ => ?_)⟩
          · refine ⟨_, rfl, _, rfl, _, _, rfl, rfl, _, _, rfl, rfl, (by show (0 : Int) < few + 1; omega), _, _, rfl, rfl, (by show (0 : Int) < 11; decide), _, _, rfl, rfl, hk _ _ ⟨_, rfl, ?_, ?_, s6.trans s7, s7 l _ h6⟩⟩
            · have := Int.emod_lt_of_pos ((0 + (i : Int)) % (few + 1)) (by decide : (0 : Int) < 11)
              omega
            · have := Int.emod_nonneg ((0 + (i : Int)) % (few + 1)) (by decide : (11 : Int) ≠ 0)
              omega
          · exact hk _ _ ⟨z, rfl, z0, z1, s6.trans s7, s7 l _ h6⟩
        · exact iteF (hk _ _ ⟨z, rfl, z0, z1, s6, h6⟩)
      obtain ⟨z, rfl, z0, z1, s5, h5⟩ := hz
      refine seq_cut (fun σ' H' => ∃ z : Int, σ' = [some (.ref a), some (.int few), some (.int lean), some (.ref l), some (.int (0 + (i : Int))), some (.int z)] ∧ 0 ≤ z ∧ z ≤ 999 ∧ Same H H' ∧ H' l = some (.lst (ms.map V.int))) (fun k hk => ?_) (fun σ' H' hz => ?_)
      · refine ⟨_, rfl, _, _, rfl, rfl, _, rfl, ite2 (fun _ => ?_) (fun _ => ?_)⟩
        · refine ⟨_, rfl, _, _, rfl, rfl, (by show (0 : Int) < 2; decide), rfl, _, rfl, ite2 (fun _ => ?_) (fun _ => ?_)⟩
          · exact hk _ _ ⟨11, rfl, by decide, by decide, s5, h5⟩
          · exact hk _ _ ⟨z, rfl, z0, z1, s5, h5⟩
        · exact iteF (hk _ _ ⟨z, rfl, z0, z1, s5, h5⟩)
      obtain ⟨z, rfl, z0, z1, s5, h5⟩ := hz
      refine ⟨_, rfl, .inl ⟨rfl, _, .of h5⟩, _, rfl, l, _, _, rfl, rfl, h5, by rw [List.length_map]; exact small1000 (by omega), ?_⟩
      refine ⟨_, _, ms ++ [z], rfl, by rw [List.length_append, hml]; rfl, fun n hn => ?_, s5.upd hlH, ?_⟩
      · rcases List.mem_append.mp hn with q | q
        · exact hmb n q
        · rw [List.mem_singleton.mp q]; exact ⟨z0, z1⟩
      · rw [upd_same, List.map_append]; rfl
    · obtain ⟨v4, v5, ms, rfl, hml, hmb, s4, h4⟩ := hP
      exact ⟨_, rfl, k l ms H4 hml hmb s4 hlH h4⟩
end
end K6
set_option maxHeartbeats 1000000
namespace K6
open PySem PySem.Spec PyProof.Rows L2 Tl
seal PSs PS PE PT PW PA PG PGs PI PTs PC
section
variable {P : Program} {w : World} {K : PySem.W.Frag} {mg : Str → Option Value} {base : Heap} {Z : Ad}
theorem sc__law_many : FnScope ["_law_heap_here", "_law_found", "_law_kind"] ["_law_heap_here"] (defScope s__law_many) := ⟨rfl, rfl, rfl, by decide +kernel, rfl, by decide +kernel, by decide +kernel⟩
theorem ok__law_many (T : Txt K mg Z) : FnOk P w K mg base CX0 1 Z.f__law_many Z.d__law_many ["_law_heap_here"] (sp_tally K) := by
  refine T._law_many.fn.ok sc__law_many (fun vs H Q E h => ?_) (fun cdv A outer s H vs Q E hr h => ?_)
  · obtain ⟨a, ns, rfl, _⟩ := h
    rfl
  · obtain ⟨a, ns, rfl, ha, hl, k⟩ := h
    have hu := hu_of hr
    refine ⟨_, (pss_cons (ps_set (i := 1) sc__law_many.nd rfl (Or.inl rfl) pe_dnewK)
      (pss_cons (ps_for PassesOwn.never rfl (pi_list (pv 0)) (pg_name (i := 2) sc__law_many.nd rfl (Or.inl rfl)) (pss_one (ps_dput hu (pv 1) (pv 2) (pe_op op_add (pe_dget2 hu (pv 1) (pv 2) pe_int ⟨rfl, rfl, rfl, rfl⟩) pe_int) rfl)))
      (pss_one (ps_ret (pv 1))))), ?_⟩
    intro d hd
    have s1 : Same H (upd H d (.dK [])) := (Same.refl H).upd hd
    refine ⟨_, rfl, a, rfl, ⟨_, s1.seq ha⟩, for_list (K := K) (a := a) (xs := ns.map V.int) (fun i σ H2 => ∃ v : Option V, σ = [some (.ref a), some (.ref d), v] ∧ Same H H2 ∧ H2 d = some (.dK (kvs (tly (ns.take i)))))
      ⟨none, rfl, s1, upd_same⟩ (fun i σ H2 _ ⟨_, _, s2, _⟩ => s2.seq ha) ?_ ?_⟩
    · rintro i x σ H2 hx ⟨v, rfl, s2, h2⟩
      obtain ⟨n, hn, rfl⟩ := int_item hx
      have hil : i < ns.length := (List.getElem?_eq_some_iff.mp hn).1
      have ht : ns.take (i + 1) = ns.take i ++ [n] := by rw [List.take_add_one, hn]; rfl
      have hlen : (kvs (tly (ns.take i))).length < sizeLine := by
        have h1 := tly_len (ns.take i)
        have h2 : (ns.take i).length ≤ ns.length := by rw [List.length_take]; omega
        refine smallM ?_
        unfold kvs
        rw [List.length_map]
        omega
      refine ⟨_, rfl, d, rfl, .inl ⟨_, .inl h2⟩, _, rfl, _, DGet.k (k := Sum.inl n) h2, ?_⟩
      have hg : (valV (kvs (tly (ns.take i))) (Sum.inl n : Key)).getD (V.int 0) = V.int ((get (tly (ns.take i)) n).getD 0) := by
        rw [val_kvs]
        cases get (tly (ns.take i)) n <;> rfl
      rw [hg]
      refine ⟨_, _, rfl, rfl, _, rfl, _, rfl, d, _, rfl, DPut.k (k := Sum.inl n) h2 hlen, ?_⟩
      refine ⟨_, rfl, s2.upd hd, ?_⟩
      rw [upd_same, put_kvs, ht, tly_snoc]
      rfl
    · rintro σ H2 ⟨v, rfl, s2, h2⟩
      rw [List.length_map, List.take_length] at h2
      exact ⟨_, rfl, k d H2 hd s2 h2⟩
def sp__law_most (K : PySem.W.Frag) : Sp := fun vs H Q _ => ∃ (a : Addr) (ns : List Int), vs = [.ref a] ∧ SqL K H a (ns.map V.int) ∧ ns.length ≤ 900 ∧ ∀ H', Same H H' → Q (.int (most ns)) H'
theorem sc__law_most : FnScope ["_law_heap_here"] ["_law_heap_here"] (defScope s__law_most) := ⟨rfl, rfl, rfl, by decide +kernel, rfl, by decide +kernel, by decide +kernel⟩
theorem ok__law_most (T : Txt K mg Z) : FnOk P w K mg base CX0 2 Z.f__law_most Z.d__law_most ["_law_heap_here"] (sp__law_most K) := by
  have G__law_many := ok__law_many (P := P) (w := w) (base := base) T
  refine T._law_most.fn.ok sc__law_most (fun vs H Q E h => ?_) (fun cdv A outer s H vs Q E hr h => ?_)
  · obtain ⟨a, ns, rfl, _⟩ := h
    rfl
  · obtain ⟨a, ns, rfl, ha, hl, k⟩ := h
    refine ⟨_, (pss_one (ps_ret (pe_callB (call_max_of rfl) rfl T.b_max boot_max (pa_cons (pe_op op_cat (pe_lst (pa_cons pe_int pa_nil)) (pe_lcomp (N := ["_law_kind", "_law_many_here"]) (cap := [none, none]) rfl (compScope_of (XN := ["_law_heap_here"]) (xs := (defScope s__law_most).names) rfl rfl (by decide +kernel)) (pi_items (pe_bm0 PySem.F.plainAttrs_dict PySem.F.slot_dict_items PySem.F.type_dict_items mt_items (pe_call G__law_many (hr.mono (by decide)) rfl T._law_many.mg T._law_many.fn.kp T._law_many.bd .nil pass0 (pa_cons (pv 0) pa_nil)))) (fun _ _ _ => (pg_tupK (K := K) (n := 2) rfl rfl (pgs_cons (pg_name (i := 0) (show (["_law_kind", "_law_many_here"] : List Str).Nodup by decide +kernel) rfl (Or.inl rfl) (Or.inr rfl)) (pgs_cons (pg_name (i := 1) (show (["_law_kind", "_law_many_here"] : List Str).Nodup by decide +kernel) rfl (Or.inl rfl) (Or.inr rfl)) pgs_nil)))) (fun _ _ _ => pts_nil) (fun _ _ _ => (pv 1)))) pa_nil)))), ?_⟩
    refine ⟨by show 1 ≤ sizeLine; decide, fun p hp => ?_⟩
    have s1 : Same H (upd H p (.lst [.int 0])) := (Same.refl H).upd hp
    refine ⟨_, rfl, a, ns, rfl, s1.seq ha, by omega, fun d H2 hd s2 h2 => ⟨tyD h2, d, _, rfl, rfl, h2, fun v hv => ?_⟩⟩
    have ndv : d ≠ v := ne_of_none h2 hv
    have hp2 : H2 p = some (.lst [.int 0]) := s2 p _ upd_same
    have hdH : H d = none := s1.free hd
    refine ⟨v, d, _, rfl, upd_same, by rw [upd_ne ndv]; exact h2, fun o => ?_⟩
    have s3 : Same H (upd (upd H2 v (ViewO "dict_items" v d)) d (.frz o (.dK (kvs (tly ns))))) := ((s1.trans s2).upd ((s1.trans s2).free hv)).upd hdH
    have hp3 : (upd (upd H2 v (ViewO "dict_items" v d)) d (.frz o (.dK (kvs (tly ns))))) p = some (.lst [.int 0]) := by
      rw [upd_ne (ne_of hp2 h2 (by intro z; cases z)), upd_ne (ne_of_none hp2 hv)]
      exact hp2
    have hnl := tly_len ns
    refine lc_itemsF (fun σ => ∃ v w, σ = [v, w]) (fun q => some (.int q.2)) (by omega) ⟨none, none, rfl⟩ upd_same ?_ ?_
    · rintro i q σ' H' t k2 r hq ⟨v1, v2, rfl⟩ sm ht hk hr2
      refine ⟨t, _, rfl, .of upd_same, rfl, _, _, rfl, _, _, rfl, rfl, ?_⟩
      exact ⟨_, rfl, hk _ _ _ rfl ⟨_, _, rfl⟩ ((Same.refl _).upd ht)⟩
    · intro D H' hD sm hA
      rw [fm_map] at hA
      refine ⟨p, D, [.int 0], _, rfl, rfl, sm p _ hp3, hA, by rw [List.length_map]; exact leM (by show 1 + _ ≤ 1000000; omega), fun r hr0 => ?_⟩
      refine ⟨.ref r, 0 :: (tly ns).map (·.2), rfl, ⟨r, rfl, .inl (.of ?_)⟩, by simp, fun M hM hmax => ?_⟩
      · rw [upd_same, List.map_cons, List.map_map]; rfl
      · have e : M = most ns := most_eq (hmax 0 List.mem_cons_self) (fun c hc => hmax c (List.mem_cons_of_mem _ hc)) (by
          rcases List.mem_cons.mp hM with z | z
          · exact .inl z
          · exact .inr z)
        rw [e]
        exact k _ ((s3.trans sm).upd ((s3.trans sm).free hr0))
def sp__law_numbers : Sp := fun vs H Q _ => ∃ (a : Addr) (ns : List Int), vs = [.ref a] ∧ H a = some (.lst (ns.map V.int)) ∧ ns.length ≤ 1000000 ∧ ∀ H', Same H H' → Q (.bl true) H'
theorem sc__law_numbers : FnScope ["_law_found"] ["_law_found"] (defScope s__law_numbers) := ⟨rfl, rfl, rfl, by decide +kernel, rfl, by decide +kernel, by decide +kernel⟩
theorem ok__law_numbers (T : Txt K mg Z) : FnOk P w K mg base CX0 1 Z.f__law_numbers Z.d__law_numbers ["_law_found"] sp__law_numbers := by
  refine T._law_numbers.fn.ok sc__law_numbers (fun vs H Q E h => ?_) (fun cdv A outer s H vs Q E hr h => ?_)
  · obtain ⟨a, ns, rfl, _⟩ := h
    rfl
  · obtain ⟨a, ns, rfl, ha, hl, k⟩ := h
    refine ⟨_, (pss_cons (ps_if (pt_not (pt_val (pe_callB call_isinst rfl T.b_isinstance boot_isinstance (pa_cons (pv 0) (pa_cons (pe_ty rfl T.b_list boot_list) pa_nil))))) (pss_one (ps_ret pe_bl)) pss_nil)
      (pss_one (ps_ret (pe_not (pe_callB (call_any_of rfl) rfl T.b_any boot_any (pa_cons (pe_lcomp (N := ["_law_one"]) (cap := [none]) rfl (compScope_of (XN := ["_law_found"]) (xs := (defScope s__law_numbers).names) rfl rfl (by decide +kernel)) (pi_list (pv 0)) (fun _ _ _ => (pg_name (i := 0) (show (["_law_one"] : List Str).Nodup by decide +kernel) rfl (Or.inl rfl) (Or.inr rfl))) (fun _ _ _ => pts_nil) (fun _ _ _ => (pe_or (pe_callB (call_isinstK (K := K) rfl) rfl T.b_isinstance boot_isinstance (pa_cons (pv 0) (pa_cons (pe_ty rfl T.b_bool boot_bool) pa_nil))) (pe_one (pe_not (pe_callB (call_isinstK (K := K) rfl) rfl T.b_isinstance boot_isinstance (pa_cons (pv 0) (pa_cons (pe_ty rfl T.b_int boot_int) pa_nil)))))))) pa_nil)))))), ?_⟩
    refine ⟨_, rfl, _, _, _, _, rfl, .lst ha, kit_list_list, true, rfl, iteF ?_⟩
    refine ⟨_, rfl, a, rfl, ⟨_, .of ha⟩, lc_listM (fun σ => ∃ v, σ = [v]) (fun _ => .bl false) (by rw [List.length_map]; omega) ⟨none, rfl⟩ (.of ha) ?_ ?_⟩
    · rintro i x σ' H' k2 r hx ⟨v, rfl⟩ sm hk
      obtain ⟨n, hn, rfl⟩ := int_item hx
      refine ⟨_, rfl, _, _, _, _, rfl, .int n, kit_int_bool, false, rfl, iteF ?_⟩
      exact ⟨_, rfl, _, _, _, _, rfl, .int n, kit_int_int, true, rfl, hk _ _ ⟨_, rfl⟩ (Same.refl _)⟩
    · intro D H' hD sm hA
      refine ⟨.ref D, _, rfl, src_bools (f := fun _ => false) hA, false, ?_, k H' sm⟩
      rw [any_id]
      have e : (ns.map V.int).any (fun _ => false) = false := by simp
      rw [e]
end
end K6
set_option maxHeartbeats 1000000
namespace K6
open PySem PySem.Spec PyProof.Rows L2 Tl
seal PSs PS PE PT PW PA PG PGs PI PTs PC
section
variable {P : Program} {w : World} {K : PySem.W.Frag} {mg : Str → Option Value} {base : Heap} {Z : Ad}
def sp_law (K : PySem.W.Frag) : Sp := fun vs H Q _ => ∃ (a : Addr) (ns : List Int), vs = [.ref a] ∧ SqL K H a (ns.map V.int) ∧ ns.length ≤ 63 ∧ ∀ H', Q (.bl true) H'
end
end K6
set_option maxHeartbeats 1000000
namespace K6
open PySem PySem.Spec PyProof.Rows L2 Tl
seal PSs PS PE PT PW PA PG PGs PI PTs PC
section
variable {P : Program} {w : World} {K : PySem.W.Frag} {mg : Str → Option Value} {base : Heap} {Z : Ad}
theorem kinds_mem {ns ks : List Int} (h : Kinds ns ks) {k : Int} (hk : k ∈ ks) : k ∈ ns := keys_mem.mp (h.perm.mem_iff.mp hk)
theorem kinds_len {ns ks : List Int} (h : Kinds ns ks) : ks.length ≤ ns.length := by
  have := h.perm.length_eq
  rw [List.length_map] at this
  have := tly_len ns
  omega
theorem tops6 {ns xs rs ks : List Int} (hp : xs.Perm ns) (T : ∃ js, Kinds xs js ∧ rs = js.filter fun k => decide ((xs.count k : Int) = most xs)) (KS : Kinds ns ks) : rs = ks.filter fun k => decide ((ns.count k : Int) = most ns) := by
  obtain ⟨js, KJ, rfl⟩ := T
  have e1 : js = ks := KJ.same hp KS
  subst e1
  rw [perm_most hp]
  exact List.filter_congr fun k _ => by rw [hp.count_eq k]
theorem sc_law : FnScope ["_law_script", "_law_heap_here", "_law_many_here", "_law_due", "_law_most_here", "_law_some", "_law_handed", "_law_found", "_law_flat", "_law_pair"] ["_law_script"] (defScope s_law) := ⟨rfl, rfl, rfl, by decide +kernel, rfl, by decide +kernel, by decide +kernel⟩
theorem ok_law (T : Txt K mg Z) : FnOk P w K mg base CX0 6 Z.f_law Z.d_law ["_law_script"] (sp_law K) := by
  have G__law_heap := ok__law_heap (P := P) (w := w) (base := base) T
  have G__law_many := ok__law_many (P := P) (w := w) (base := base) T
  have G__law_most := ok__law_most (P := P) (w := w) (base := base) T
  have G_counts := ok_counts (P := P) (w := w) (base := base) T
  have G__law_numbers := ok__law_numbers (P := P) (w := w) (base := base) T
  have G_commonest := ok_commonest (P := P) (w := w) (base := base) T
  refine T.law.fn.ok sc_law (fun vs H Q E h => ?_) (fun cdv A outer s H vs Q E hr h => ?_)
  · obtain ⟨a, ns, rfl, _⟩ := h
    rfl
  · obtain ⟨a, ss, rfl, ha, hl, k⟩ := h
    have hu := hu_of hr
    have hu64 := hr.units
    refine ⟨_, (pss_cons (ps_set (i := 1) sc_law.nd rfl (Or.inl rfl) (pe_call G__law_heap (hr.mono (by decide)) rfl T._law_heap.mg T._law_heap.fn.kp T._law_heap.bd .nil pass0 (pa_cons (pv 0) pa_nil)))
      (pss_cons (ps_set (i := 2) sc_law.nd rfl (Or.inr rfl) (pe_call G__law_many (hr.mono (by decide)) rfl T._law_many.mg T._law_many.fn.kp T._law_many.bd .nil pass0 (pa_cons (pv 1) pa_nil)))
      (pss_cons (ps_setLC (i := 3) (N := ["_law_kind", "_law_many_here"]) (cap := [none, some 2]) rfl sc_law.nd rfl (Or.inl rfl) (compScope_of (XN := ["_law_script", "_law_heap_here", "_law_many_here", "_law_due", "_law_most_here", "_law_some", "_law_handed", "_law_found", "_law_flat", "_law_pair"]) (xs := (defScope s_law).names) rfl rfl (by decide +kernel)) (pi_list (pe_callB (call_sorted_src rfl) rfl T.b_sorted boot_sorted (pa_cons (pv 2) pa_nil))) (fun _ _ _ => (pg_name (i := 0) (show (["_law_kind", "_law_many_here"] : List Str).Nodup by decide +kernel) rfl (Or.inl rfl) (Or.inr rfl))) (fun _ _ _ => pts_nil) (fun _ _ _ => (pe_tup (pa_cons (pv 0) (pa_cons (pe_dget hu (pv 1) (pv 0) (fun _ _ => rfl)) pa_nil)))))
      (pss_cons (ps_set (i := 4) sc_law.nd rfl (Or.inr rfl) (pe_call G__law_most (hr.mono (by decide)) rfl T._law_most.mg T._law_most.fn.kp T._law_most.bd .nil pass0 (pa_cons (pv 1) pa_nil)))
      (pss_cons (ps_for PassesOwn.never rfl (pi_tup (pe_tup (pa_cons (pv 1) (pa_cons (pe_rev (pv 1) (pe_un un_neg pe_int)) (pa_cons (pe_callB call_sorted_list rfl T.b_sorted boot_sorted (pa_cons (pv 1) pa_nil)) (pa_cons (pv 1) pa_nil)))))) (pg_name (i := 5) sc_law.nd rfl (Or.inl rfl)) (pss_cons (ps_set (i := 6) sc_law.nd rfl (Or.inl rfl) (pe_callTy call_list_of rfl T.b_list boot_list (pa_cons (pv 5) pa_nil)))
      (pss_cons (ps_set (i := 7) sc_law.nd rfl (Or.inl rfl) (pe_call G_counts (hr.mono (by decide)) rfl T.counts.mg T.counts.fn.kp T.counts.bd .nil pass0 (pa_cons (pv 6) pa_nil)))
      (pss_cons (ps_if (PW.pt (pw_or (pt_not (pt_val (pe_callB call_isinst rfl T.b_isinstance boot_isinstance (pa_cons (pv 7) (pa_cons (pe_ty rfl T.b_list boot_list) pa_nil))))) (pw_or (pt_cmpR (op_neD hu64) (pv 7) (pv 3) (nomark _)) (pw_or1 (pt_not (pt_val (pe_callB (call_all_of rfl) rfl T.b_all boot_all (pa_cons (pe_lcomp (N := ["_law_pair"]) (cap := [none]) rfl (compScope_of (XN := ["_law_script", "_law_heap_here", "_law_many_here", "_law_due", "_law_most_here", "_law_some", "_law_handed", "_law_found", "_law_flat", "_law_pair"]) (xs := (defScope s_law).names) rfl rfl (by decide +kernel)) (pi_list (pv 7)) (fun _ _ _ => (pg_name (i := 0) (show (["_law_pair"] : List Str).Nodup by decide +kernel) rfl (Or.inl rfl) (Or.inr rfl))) (fun _ _ _ => pts_nil) (fun _ _ _ => (pe_callB (call_isinstK (K := K) rfl) rfl T.b_isinstance boot_isinstance (pa_cons (pv 0) (pa_cons (pe_ty rfl T.b_tuple boot_tuple) pa_nil))))) pa_nil)))))))) (pss_one (ps_ret pe_bl)) pss_nil)
      (pss_cons (ps_set (i := 8) sc_law.nd rfl (Or.inl rfl) (pe_lst pa_nil))
      (pss_cons (ps_for PassesOwn.never rfl (pi_list (pv 7)) (pg_name (i := 9) sc_law.nd rfl (Or.inl rfl)) (pss_one (ps_expr (pe_bm PySem.F.plainAttrs_list PySem.F.slot_list_extend PySem.F.type_list_extend mt_extendT (pv 8) (pa_cons (pv 9) pa_nil)))))
      (pss_cons (ps_if (pt_not (pt_val (pe_call G__law_numbers (hr.mono (by decide)) rfl T._law_numbers.mg T._law_numbers.fn.kp T._law_numbers.bd .nil pass0 (pa_cons (pv 8) pa_nil)))) (pss_one (ps_ret pe_bl)) pss_nil)
      (pss_cons (ps_expr (pe_bm PySem.F.plainAttrs_list PySem.F.slot_list_append PySem.F.type_list_append mt_append (pv 7) (pa_cons (pe_tup (pa_cons pe_int (pa_cons pe_int pa_nil))) pa_nil)))
      (pss_cons (ps_set (i := 7) sc_law.nd rfl (Or.inl rfl) (pe_call G_commonest (hr.mono (by decide)) rfl T.commonest.mg T.commonest.fn.kp T.commonest.bd .nil pass0 (pa_cons (pv 6) pa_nil)))
      (pss_cons (ps_if (PW.pt (pw_or (pt_not (pt_val (pe_call G__law_numbers (hr.mono (by decide)) rfl T._law_numbers.mg T._law_numbers.fn.kp T._law_numbers.bd .nil pass0 (pa_cons (pv 7) pa_nil)))) (pw_or (pt_cmpR (op_neD hu64) (pv 7) (pe_lcomp (N := ["_law_kind", "_law_count", "_law_most_here"]) (cap := [none, none, some 4]) rfl (compScope_of (XN := ["_law_script", "_law_heap_here", "_law_many_here", "_law_due", "_law_most_here", "_law_some", "_law_handed", "_law_found", "_law_flat", "_law_pair"]) (xs := (defScope s_law).names) rfl rfl (by decide +kernel)) (pi_list (pv 3)) (fun _ _ _ => (pg_tupK (K := K) (n := 2) rfl rfl (pgs_cons (pg_name (i := 0) (show (["_law_kind", "_law_count", "_law_most_here"] : List Str).Nodup by decide +kernel) rfl (Or.inl rfl) (Or.inr rfl)) (pgs_cons (pg_name (i := 1) (show (["_law_kind", "_law_count", "_law_most_here"] : List Str).Nodup by decide +kernel) rfl (Or.inl rfl) (Or.inr rfl)) pgs_nil)))) (fun _ _ _ => (pts_one (pt_cmpR op_eq (pv 1) (pv 2) (nomark _)))) (fun _ _ _ => (pv 0))) (nomark _)) (pw_or1 (pt_cmpR (op_neD hu64) (pv 6) (pv 5) (nomark _)))))) (pss_one (ps_ret pe_bl)) pss_nil)
      (pss_one (ps_expr (pe_bm PySem.F.plainAttrs_list PySem.F.slot_list_append PySem.F.type_list_append mt_append (pv 7) (pa_cons pe_int pa_nil))))))))))))))
      (pss_one (ps_ret (pe_and (pe_cmpR (op_eqD hu64) (pe_call G_counts (hr.mono (by decide)) rfl T.counts.mg T.counts.fn.kp T.counts.bd .nil pass0 (pa_cons (pe_lst pa_nil) pa_nil)) (pe_lst pa_nil) (nomark _)) (pe_one (pe_cmpR (op_eqD hu64) (pe_call G_commonest (hr.mono (by decide)) rfl T.commonest.mg T.commonest.fn.kp T.commonest.bd .nil pass0 (pa_cons (pe_lst pa_nil) pa_nil)) (pe_lst pa_nil) (nomark _))))))))))), ?_⟩
    -- heap, many
    refine ⟨_, rfl, a, ss, rfl, ha, hl, fun l ns H1 hnl hnb s1 hl0 hl1 => ?_⟩
    refine ⟨_, rfl, l, ns, rfl, .of hl1, by omega, fun d H2 hd s2 h2 => ?_⟩
    have hl2 := s2 l _ hl1
    have htl := tly_len ns
    -- due
    refine ⟨_, rfl, d, _, (tly ns).map (·.1), rfl, h2, keys_kvs _, by rw [List.length_map]; omega, fun lo ks hlo hperm hup => ⟨lo, rfl, ⟨_, .of upd_same⟩, ?_⟩⟩
    have KS : Kinds ns ks := ⟨hperm, hup⟩
    have hkl := kinds_len KS
    refine lc_list (K := K) (a := lo) (xs := ks.map V.int) (fun i acc D σ H' => ∃ ts : List Addr, acc = ts.map V.ref ∧ ts.length = i ∧ i ≤ ks.length ∧ (∃ v, σ = [v, some (.ref d)]) ∧ H' D = some (.lst acc) ∧ H2 D = none ∧ D ≠ lo ∧ Same H2 H' ∧ H' lo = some (.lst (ks.map V.int)) ∧
        ∀ (j : Nat) (t : Addr) (x : Int), ts[j]? = some t → ks[j]? = some x → H' t = some (.tup [.int x, .int (ns.count x : Int)]) ∧ t ≠ D)
      (fun D hD => ?_) (fun i acc D σ H' p => ?_) (fun i x acc D σ H' R hR hx p => ?_) (fun acc D σ H' p => ?_)
    · have n1 : lo ≠ D := ne_of_none upd_same hD
      have s3 : Same H2 (upd H2 lo (.lst (ks.map V.int))) := (Same.refl H2).upd hlo
      exact ⟨[], rfl, rfl, Nat.zero_le _, ⟨none, rfl⟩, upd_same, s3.free hD, Ne.symm n1, s3.upd (s3.free hD), by rw [upd_ne n1]; exact upd_same, fun j t x h => by simp at h⟩
    · obtain ⟨ts, _, _, _, _, _, _, _, _, p8, _⟩ := p
      exact .of p8
    · obtain ⟨ts, rfl, p1, p2, ⟨v, rfl⟩, p4, p5, p6, p7, p8, p9⟩ := p
      obtain ⟨n, hn, rfl⟩ := int_item hx
      have hil : i < ks.length := (List.getElem?_eq_some_iff.mp hn).1
      have hnm : n ∈ ns := kinds_mem KS (List.mem_of_getElem? hn)
      have gt : DGet H' d (.int n) (some (.int (ns.count n : Int))) := by
        have := DGet.k (k := Sum.inl n) (p7 d _ h2)
        rw [val_kvs, (ok ns).val, if_pos hnm] at this
        exact this
      refine ⟨_, rfl, _, rfl, _, rfl, d, _, rfl, gt, by show 2 ≤ sizeLine; decide, fun t ht => ?_⟩
      have n1 : D ≠ t := ne_of_none p4 ht
      refine ⟨_, by rw [upd_ne n1]; exact p4, by rw [List.length_map, p1]; exact small1000 (by omega), hR _ _ _ ⟨ts ++ [t], by rw [List.map_append]; rfl, by rw [List.length_append, p1]; rfl, hil, ⟨_, rfl⟩, upd_same, p5, p6, (p7.upd (p7.free ht)).upd p5, ?_, fun j t' x' h1 h3 => ?_⟩⟩
      · rw [upd_ne (Ne.symm p6), upd_ne (ne_of_none p8 ht)]; exact p8
      · by_cases hj : j < ts.length
        · rw [List.getElem?_append_left hj] at h1
          obtain ⟨q1, q2⟩ := p9 j t' x' h1 h3
          refine ⟨?_, q2⟩
          rw [upd_ne q2, upd_ne (ne_of_none q1 ht)]
          exact q1
        · have hj2 : j = ts.length := by
            have := (List.getElem?_eq_some_iff.mp h1).1
            rw [List.length_append] at this
            simp at this
            omega
          subst hj2
          rw [List.getElem?_append_right (Nat.le_refl _)] at h1
          simp at h1
          subst h1
          rw [p1, hn] at h3
          cases h3
          exact ⟨by rw [upd_ne (Ne.symm n1)]; exact upd_same, Ne.symm n1⟩
    obtain ⟨ts, rfl, p1, p2, ⟨v, rfl⟩, p4, p5, p6, p7, p8, p9⟩ := p
    rw [List.length_map] at p1 p2
    have hl4 := p7 l _ hl2
    -- most
    refine ⟨_, rfl, l, ns, rfl, .of hl4, by omega, fun H5 s5 => ?_⟩
    obtain ⟨M, hMM⟩ : ∃ M, most ns = M := ⟨_, rfl⟩
    rw [hMM]
    have hl5 := s5 l _ hl4
    -- the four lists
    refine ⟨_, rfl, _, rfl, 1, rfl, rfl, l, _, rfl, .of hl5, fun lr hlr => ?_⟩
    have n1 : l ≠ lr := ne_of_none hl5 hlr
    refine ⟨_, rfl, l, ns, rfl, .of (by rw [upd_ne n1]; exact hl5), by omega, fun lq ms hlq hpq huq => ?_⟩
    have n2 : l ≠ lq := ne_of_none (by rw [upd_ne n1]; exact hl5) hlq
    have n3 : lr ≠ lq := ne_of_none upd_same hlq
    refine ⟨_, rfl, by show 4 ≤ sizeLine; decide, fun tt htt => ⟨tt, rfl, ⟨_, .of upd_same⟩, ?_⟩⟩
    have sa : Same H5 (upd H5 lr (.lst (ns.map V.int).reverse)) := (Same.refl H5).upd hlr
    have sb : Same H5 (upd (upd H5 lr (.lst (ns.map V.int).reverse)) lq (.lst (ms.map V.int))) := sa.upd (sa.free hlq)
    have sc : Same H5 (upd (upd (upd H5 lr (.lst (ns.map V.int).reverse)) lq (.lst (ms.map V.int))) tt (.tup [.ref l, .ref lr, .ref lq, .ref l])) := sb.upd (sb.free htt)
    have e6 : ∀ b o, (upd (upd H5 lr (.lst (ns.map V.int).reverse)) lq (.lst (ms.map V.int))) b = some o → (upd (upd (upd H5 lr (.lst (ns.map V.int).reverse)) lq (.lst (ms.map V.int))) tt (.tup [.ref l, .ref lr, .ref lq, .ref l])) b = some o := fun b o e => by rw [upd_ne (ne_of_none e htt)]; exact e
    have four : ∀ x ∈ [V.ref l, V.ref lr, V.ref lq, V.ref l], ∃ (b : Addr) (xs : List Int), x = .ref b ∧ (upd (upd (upd H5 lr (.lst (ns.map V.int).reverse)) lq (.lst (ms.map V.int))) tt (.tup [.ref l, .ref lr, .ref lq, .ref l])) b = some (.lst (xs.map V.int)) ∧ xs.Perm ns := by
      have q1 : ∃ (b : Addr) (xs : List Int), V.ref l = .ref b ∧ (upd (upd (upd H5 lr (.lst (ns.map V.int).reverse)) lq (.lst (ms.map V.int))) tt (.tup [.ref l, .ref lr, .ref lq, .ref l])) b = some (.lst (xs.map V.int)) ∧ xs.Perm ns := ⟨l, ns, rfl, sc l _ hl5, .refl _⟩
      intro x hx
      simp only [List.mem_cons, List.not_mem_nil, or_false] at hx
      rcases hx with rfl | rfl | rfl | rfl
      · exact q1
      · refine ⟨lr, ns.reverse, rfl, e6 _ _ ?_, List.reverse_perm ns⟩
        rw [upd_ne n3, upd_same, List.map_reverse]
      · exact ⟨lq, ms, rfl, e6 _ _ upd_same, hpq⟩
      · exact q1
    have hd5 : H5 D = some (.lst (ts.map V.ref)) := s5 D _ p4
    have tup5 : ∀ (j : Nat) (t : Addr) (x : Int), ts[j]? = some t → ks[j]? = some x → H5 t = some (.tup [.int x, .int (ns.count x : Int)]) := fun j t x h1 h3 => s5 t _ (p9 j t x h1 h3).1
    generalize hH6 : (upd (upd (upd H5 lr (.lst (ns.map V.int).reverse)) lq (.lst (ms.map V.int))) tt (.tup [.ref l, .ref lr, .ref lq, .ref l])) = H6 at sc four
    have htt6 : H6 tt = some (.tup [.ref l, .ref lr, .ref lq, .ref l]) := by rw [← hH6]; exact upd_same
    have hd6 := sc D _ hd5
    have tup6 : ∀ (j : Nat) (t : Addr) (x : Int), ts[j]? = some t → ks[j]? = some x → H6 t = some (.tup [.int x, .int (ns.count x : Int)]) := fun j t x h1 h3 => sc t _ (tup5 j t x h1 h3)
    refine for_tup (K := K) (a := tt) (xs := [.ref l, .ref lr, .ref lq, .ref l]) (fun i σ H' => ∃ v5 v6 v7 v8 v9 : Option V, σ = [some (.ref a), some (.ref l), some (.ref d), some (.ref D), some (.int M), v5, v6, v7, v8, v9] ∧ Same H6 H')
      ⟨none, none, none, none, none, rfl, Same.refl _⟩ (fun i σ H' _ p => by obtain ⟨_, _, _, _, _, _, q⟩ := p; exact q.tup (.of htt6)) (fun i x σ H' hx p => ?_) (fun σ H' p => ?_)
    · obtain ⟨v5, v6, v7, v8, v9, rfl, q0⟩ := p
      obtain ⟨b, xs, rfl, hb6, hpx⟩ := four x (List.mem_of_getElem? hx)
      have hxl : xs.length ≤ 63 := by rw [hpx.length_eq]; omega
      have hxb : ∀ n ∈ xs, 0 ≤ n ∧ n ≤ 999 := fun n hn => hnb n (hpx.mem_iff.mp hn)
      have hb' := q0 b _ hb6
      -- handed
      refine ⟨_, rfl, b, _, rfl, .inl (.of hb'), fun lh hlh => ?_⟩
      have qh : Same H6 (upd H' lh (.lst (xs.map V.int))) := q0.upd (q0.free hlh)
      -- counts
      refine ⟨_, rfl, lh, xs, rfl, upd_same, hxl, hxb, fun lc us js Hc TD => ?_⟩
      have ejs : js = ks := TD.kinds.same hpx KS
      subst ejs
      have qc : Same H6 Hc := qh.trans TD.same
      have hc6 : H6 lc = none := qh.free TD.fr
      have hlhc : Hc lh = some (.lst (xs.map V.int)) := TD.same lh _ upd_same
      have n4 : lh ≠ lc := ne_of_none upd_same TD.fr
      have tupc : ∀ (j : Nat) (t : Addr) (p : Int × Int), us[j]? = some t → (js.map fun k => (k, (ns.count k : Int)))[j]? = some p → Hc t = some (.tup [.int p.1, .int p.2]) ∧ H6 t = none := fun j t p h1 h3 => by
        rw [List.getElem?_map] at h3
        cases hj : js[j]? with
        | none => rw [hj] at h3; cases h3
        | some y =>
          rw [hj] at h3
          cases (Option.some.inj h3 : (y, (ns.count y : Int)) = p)
          obtain ⟨t1, t2⟩ := TD.tup j t y h1 hj
          rw [hpx.count_eq y] at t2
          exact ⟨t2, qh.free t1⟩
      have ulen : us.length = (js.map fun k => (k, (ns.count k : Int))).length := by rw [TD.len, List.length_map]
      have sh := shaped_prs (js.map fun k => (k, (ns.count k : Int)))
      have shr := shaped_refl sh
      -- if not isinstance .. or found != due or not all
      refine ⟨_, rfl, _, _, _, _, rfl, .lst TD.lst, kit_list_list, true, rfl, iteF ?_⟩
      refine ⟨_, rfl, _, rfl, _, _, dat_prs (K := K) (.of TD.lst) ulen (fun j t p h1 h3 => .of (tupc j t p h1 h3).1), dat_prs (K := K) (.of (qc D _ hd6)) (by rw [List.length_map]; exact p1) (fun j t p h1 h3 => ?_), sh, sh, _, rfl, ?_⟩
      · rw [List.getElem?_map] at h3
        cases hj : js[j]? with
        | none => rw [hj] at h3; cases h3
        | some y =>
          rw [hj] at h3
          cases (Option.some.inj h3 : (y, (ns.count y : Int)) = p)
          exact .of (qc t _ (tup6 j t y h1 hj))
      rw [shr]
      refine iteF ?_
      refine ⟨_, rfl, lc, rfl, ⟨_, .of TD.lst⟩, lc_list (K := K) (a := lc) (xs := us.map V.ref) (fun i acc D' σ H'' => acc = List.replicate i (.bl true) ∧ i ≤ us.length ∧ (∃ v, σ = [v]) ∧ H'' D' = some (.lst acc) ∧ Hc D' = none ∧ Same Hc H'') (fun D' hD' => ?_) (fun i acc D' σ H'' p => ?_) (fun i x acc D' σ H'' R hR hx p => ?_) (fun acc D' σ H'' p => ?_)⟩
      · exact ⟨rfl, Nat.zero_le _, ⟨none, rfl⟩, upd_same, hD', (Same.refl Hc).upd hD'⟩
      · obtain ⟨_, _, _, _, _, w5⟩ := p
        exact w5.seq (.of TD.lst)
      · obtain ⟨rfl, w1, ⟨v, rfl⟩, w3, w4, w5⟩ := p
        rw [List.getElem?_map] at hx
        cases hu2 : us[i]? with
        | none => rw [hu2] at hx; cases hx
        | some t =>
          rw [hu2] at hx
          cases (Option.some.inj hx : V.ref t = x)
          have hil : i < us.length := (List.getElem?_eq_some_iff.mp hu2).1
          have hil2 : i < (js.map fun k => (k, (ns.count k : Int))).length := by rw [← ulen]; exact hil
          have ht := w5 t _ (tupc i t _ hu2 (List.getElem?_eq_getElem hil2)).1
          have hul : us.length ≤ 63 := by rw [TD.len]; omega
          refine ⟨_, rfl, _, _, _, _, rfl, .tup ht, kit_tup_tup, _, w3, by rw [List.length_replicate]; exact small1000 (by omega), hR (List.replicate (i + 1) (.bl true)) _ _ ⟨rfl, hil, ⟨_, rfl⟩, ?_, w4, w5.upd w4⟩⟩
          rw [List.replicate_succ']
          exact upd_same
      obtain ⟨rfl, w1, ⟨v, rfl⟩, w3, w4, w5⟩ := p
      refine ⟨.ref D', List.replicate us.length true, rfl, ⟨D', rfl, .inl (.of (by rw [List.map_replicate, w3, List.length_map]))⟩, true, by rw [show (List.replicate us.length true).all id = true by simp], iteF ?_⟩
      have q1 : Same H6 H'' := qc.trans w5
      have hlc1 := w5 lc _ TD.lst
      -- flat
      refine ⟨Nat.zero_le _, fun lf hlf => ?_⟩
      have hf6 : H6 lf = none := q1.free hlf
      have n5 : lc ≠ lf := ne_of_none hlc1 hlf
      have n6 : lh ≠ lf := ne_of_none (w5 lh _ hlhc) hlf
      have sf : Same H'' (upd H'' lf (.lst [])) := (Same.refl _).upd hlf
      refine ⟨_, rfl, lc, rfl, ⟨_, .of (sf lc _ hlc1)⟩, for_list (K := K) (a := lc) (xs := us.map V.ref) (fun i σ H3 => ∃ w8 : Option V, σ = [some (.ref a), some (.ref l), some (.ref d), some (.ref D), some (.int M), some (.ref b), some (.ref lh), some (.ref lc), some (.ref lf), w8] ∧ Same H'' H3 ∧ H3 lf = some (.lst (((js.take i).flatMap fun k => [k, (ns.count k : Int)]).map V.int)))
        ⟨_, rfl, sf, upd_same⟩ (fun i σ H3 _ p => by obtain ⟨_, _, q, _⟩ := p; exact q.seq (.of hlc1)) (fun i x σ H3 hx p => ?_) (fun σ H3 p => ?_)⟩
      · obtain ⟨w8, rfl, q2, hf3⟩ := p
        rw [List.getElem?_map] at hx
        cases hu2 : us[i]? with
        | none => rw [hu2] at hx; cases hx
        | some t =>
          rw [hu2] at hx
          cases (Option.some.inj hx : V.ref t = x)
          have hil : i < us.length := (List.getElem?_eq_some_iff.mp hu2).1
          have hilj : i < js.length := by rw [← TD.len]; exact hil
          have ht := q2 t _ (w5 t _ (tupc i t (js[i], (ns.count js[i] : Int)) hu2 (by rw [List.getElem?_map, List.getElem?_eq_getElem hilj]; rfl)).1)
          have hfl : ((js.take i).flatMap fun k => [k, (ns.count k : Int)]).length ≤ 2 * i := by
            have key : ∀ l : List Int, (l.flatMap fun k => [k, (ns.count k : Int)]).length = 2 * l.length := fun l => by
              induction l with
              | nil => rfl
              | cons y l ih => simp only [List.flatMap_cons, List.length_append, ih, List.length_cons, List.length_nil]; omega
            rw [key, List.length_take]
            omega
          refine ⟨_, rfl, .inl ⟨rfl, _, .of hf3⟩, _, rfl, lf, t, _, _, rfl, rfl, hf3, .of ht, by rw [List.length_map]; exact le1000 (by show _ + 2 ≤ 1000; omega), ?_⟩
          refine ⟨_, rfl, q2.upd hlf, ?_⟩
          rw [upd_same, List.take_add_one, List.getElem?_eq_getElem hilj, List.flatMap_append, List.map_append]
          rfl
      obtain ⟨w8, rfl, q2, hf3⟩ := p
      rw [List.length_map, show us.length = js.length from TD.len, List.take_length] at hf3
      have hfl : (js.flatMap fun k => [k, (ns.count k : Int)]).length ≤ 1000 := by
        have key : ∀ l : List Int, (l.flatMap fun k => [k, (ns.count k : Int)]).length = 2 * l.length := fun l => by
          induction l with
          | nil => rfl
          | cons y l ih => simp only [List.flatMap_cons, List.length_append, ih, List.length_cons, List.length_nil]; omega
        rw [key]
        omega
      refine ⟨_, rfl, lf, _, rfl, hf3, by omega, fun H4 q3 => ⟨true, rfl, iteF ?_⟩⟩
      have q4 : Same H'' H4 := q2.trans q3
      have q5 : Same H6 H4 := q1.trans q4
      have hlc4 := q4 lc _ hlc1
      have hlh4 := q4 lh _ (w5 lh _ hlhc)
      -- found.append((0, 0))
      refine ⟨_, rfl, .inl ⟨rfl, _, .of hlc4⟩, by show 2 ≤ sizeLine; decide, fun tz htz => ?_⟩
      have n7 : lc ≠ tz := ne_of_none hlc4 htz
      have n8 : lh ≠ tz := ne_of_none hlh4 htz
      have hul : us.length ≤ 63 := by rw [TD.len]; omega
      refine ⟨lc, _, _, rfl, rfl, by rw [upd_ne n7]; exact hlc4, by rw [List.length_map]; exact small1000 (by omega), ?_⟩
      have q6 : Same H6 (upd (upd H4 tz (.tup [.int 0, .int 0])) lc (.lst (us.map V.ref ++ [.ref tz]))) := (q5.upd (q5.free htz)).upd hc6
      have hlh6 : (upd (upd H4 tz (.tup [.int 0, .int 0])) lc (.lst (us.map V.ref ++ [.ref tz]))) lh = some (.lst (xs.map V.int)) := by rw [upd_ne n4, upd_ne n8]; exact hlh4
      -- commonest
      refine ⟨_, rfl, lh, xs, rfl, hlh6, hxl, hxb, fun lm rs H7 TP s7 hlm hlm1 => ?_⟩
      have q7 : Same H6 H7 := q6.trans s7
      have hm6 : H6 lm = none := q6.free hlm
      have ers : rs = js.filter fun k => decide ((ns.count k : Int) = M) := by rw [← hMM]; exact tops6 hpx TP KS
      have hrl : rs.length ≤ 63 := by
        rw [ers]
        have := List.length_filter_le (fun k => decide ((ns.count k : Int) = M)) js
        omega
      refine ⟨_, rfl, lm, rs, rfl, hlm1, by omega, fun H8 s8 => ⟨true, rfl, iteF ?_⟩⟩
      have q8 : Same H6 H8 := q7.trans s8
      have hlm8 := s8 lm _ hlm1
      have hlh8 := s8 lh _ (s7 lh _ hlh6)
      -- found != [..]
      refine ⟨_, rfl, _, rfl, D, rfl, ⟨_, .of (q8 D _ hd6)⟩, ?_⟩
      refine lc_list (K := K) (a := D) (xs := ts.map V.ref) (fun i acc D' σ H9 => acc = ((js.take i).filter fun k => decide ((ns.count k : Int) = M)).map V.int ∧ i ≤ js.length ∧ (∃ v1 v2, σ = [v1, v2, some (.int M)]) ∧ H9 D' = some (.lst acc) ∧ H8 D' = none ∧ Same H8 H9) (fun D' hD' => ?_) (fun i acc D' σ H9 p => ?_) (fun i x acc D' σ H9 R hR hx p => ?_) (fun acc D' σ H9 p => ?_)
      · exact ⟨rfl, Nat.zero_le _, ⟨none, none, rfl⟩, upd_same, hD', (Same.refl H8).upd hD'⟩
      · obtain ⟨_, _, _, _, _, u5⟩ := p
        exact u5.seq (.of (q8 D _ hd6))
      · obtain ⟨rfl, u1, ⟨v1, v2, rfl⟩, u3, u4, u5⟩ := p
        rw [List.getElem?_map] at hx
        cases ht2 : ts[i]? with
        | none => rw [ht2] at hx; cases hx
        | some t =>
          rw [ht2] at hx
          cases (Option.some.inj hx : V.ref t = x)
          have hil : i < js.length := by rw [← p1]; exact (List.getElem?_eq_some_iff.mp ht2).1
          have hn : js[i]? = some js[i] := List.getElem?_eq_getElem hil
          have ht := u5 t _ (q8 t _ (tup6 i t _ ht2 hn))
          have tk := take_succ_filter (fun k => decide ((ns.count k : Int) = M)) js i _ hn
          have hlen : (((js.take i).filter fun k => decide ((ns.count k : Int) = M)).map V.int).length ≤ 63 := by
            rw [List.length_map]
            have h1 := List.length_filter_le (fun k => decide ((ns.count k : Int) = M)) (js.take i)
            rw [List.length_take] at h1
            omega
          refine ⟨t, _, rfl, .of ht, rfl, _, _, rfl, _, _, rfl, rfl, ?_⟩
          refine ⟨_, rfl, _, rfl, rfl, _, rfl, ite2 (fun hc => ?_) (fun hc => ?_)⟩
          · have hc' : (ns.count js[i] : Int) = M := by
              have q : V.int (ns.count js[i] : Int) = V.int M := of_decide_eq_true hc
              injection q
            refine ⟨_, rfl, _, u3, small1000 (by omega), hR _ _ _ ⟨?_, hil, ⟨_, _, rfl⟩, upd_same, u4, u5.upd u4⟩⟩
            rw [tk, if_pos (decide_eq_true hc'), List.map_append]
            rfl
          · have hc' : ¬ (ns.count js[i] : Int) = M := fun q => hc (decide_eq_true (by rw [q]))
            refine hR _ _ _ ⟨?_, hil, ⟨_, _, rfl⟩, u3, u4, u5⟩
            rw [tk, if_neg (by simp [hc']), List.append_nil]
      obtain ⟨rfl, u1, ⟨v1, v2, rfl⟩, u3, u4, u5⟩ := p
      rw [List.length_map, p1, List.take_length, ← ers] at u3
      refine ⟨_, _, dat_ints (K := K) (.of (u5 lm _ hlm8)), dat_ints (K := K) (.of u3), shaped_ints rs, shaped_ints rs, _, rfl, ?_⟩
      rw [shaped_refl (shaped_ints rs)]
      refine iteF ?_
      refine ⟨_, rfl, _, rfl, _, _, dat_ints (K := K) (.of (u5 lh _ hlh8)), dat_ints (K := K) (.of (u5 b _ (q8 b _ hb6))), shaped_ints xs, shaped_ints xs, _, rfl, ?_⟩
      rw [shaped_refl (shaped_ints xs)]
      refine iteF ?_
      -- found.append(0)
      have q9 := q8.trans u5
      refine ⟨_, rfl, .inl ⟨rfl, _, .of (u5 lm _ hlm8)⟩, lm, _, _, rfl, rfl, u5 lm _ hlm8, by rw [List.length_map]; exact small1000 (by omega), ?_⟩
      exact ⟨_, _, _, _, _, rfl, q9.upd hm6⟩
    · obtain ⟨v5, v6, v7, v8, v9, rfl, q0⟩ := p
      have nilK : ∀ {js : List Int}, Kinds [] js → js = [] := fun h => h.perm.eq_nil
      refine ⟨Nat.zero_le _, fun p hp => ⟨p, [], rfl, upd_same, Nat.zero_le _, (fun _ h => nomatch h), fun lc us js Hc TD => ?_⟩⟩
      have ej := nilK TD.kinds
      subst ej
      have eu : us = [] := List.length_eq_zero_iff.mp TD.len
      subst eu
      refine ⟨Nat.zero_le _, fun p2 hp2 => ?_⟩
      have e1 : ∀ (H9 : Hp) (a : Addr), H9 a = some (.lst []) → DatV K H9 (.list ([].map PyData.int)) (.ref a) := fun H9 a h => dat_ints (ns := []) (.of h)
      refine ⟨_, _, e1 _ lc (by rw [upd_ne (ne_of_none TD.lst hp2)]; exact TD.lst), e1 _ p2 upd_same, shaped_ints [], shaped_ints [], _, rfl, ?_⟩
      rw [shaped_refl (shaped_ints [])]
      refine iteT ?_
      refine ⟨Nat.zero_le _, fun p3 hp3 => ⟨p3, [], rfl, upd_same, Nat.zero_le _, (fun _ h => nomatch h), fun lm rs H7 TP s7 hlm hlm1 => ?_⟩⟩
      obtain ⟨js, KJ, er⟩ := TP
      have ej := nilK KJ
      subst ej
      have er' : rs = [] := er
      subst er'
      refine ⟨Nat.zero_le _, fun p4 hp4 => ?_⟩
      refine ⟨_, _, e1 _ lm (by rw [upd_ne (ne_of_none hlm1 hp4)]; exact hlm1), e1 _ p4 upd_same, shaped_ints [], shaped_ints [], ?_⟩
      rw [shaped_refl (shaped_ints [])]
      exact k _
end
end K6
set_option maxHeartbeats 1000000
namespace K6
open PySem PySem.Spec PyProof.Rows L2 Tl
theorem all_mk {l : PySem.W.OpenLaw} {w : World} {K : PySem.W.Frag} {h : Heap} {mg : Str → Option Value} {fa f1 f2 f3 f4 f5 f6 f7 f8 f9 f10 f11 f12 f13 f14 f15 f16 : Addr} (X : K.In h) (G : h.Ns mainGlobals mg) (hfa : mg "law" = some (.ref fa))
    {od1 an1 od2 an2 od3 an3 od4 an4 od5 an5 od6 an6 od7 an7 od8 an8 od9 an9 od10 an10 od11 an11 od12 an12 od13 an13 od14 an14 od15 an15 od16 an16 : Option Addr} {sl1 sl2 sl3 sl4 sl5 sl6 sl7 sl8 sl9 sl10 sl11 sl12 sl13 sl14 sl15 sl16 : Array (Option Value)} {oc1 kV1 dc1 pm1 cd1 ct1 oc2 kV2 dc2 pm2 cd2 ct2 oc3 kV3 dc3 pm3 cd3 ct3 oc4 kV4 dc4 pm4 cd4 ct4 oc5 kV5 dc5 pm5 cd5 ct5 oc6 kV6 dc6 pm6 cd6 ct6 oc7 kV7 dc7 pm7 cd7 ct7 oc8 kV8 dc8 pm8 cd8 ct8 oc9 kV9 dc9 pm9 cd9 ct9 oc10 kV10 dc10 pm10 cd10 ct10 oc11 kV11 dc11 pm11 cd11 ct11 oc12 kV12 dc12 pm12 cd12 ct12 oc13 kV13 dc13 pm13 cd13 ct13 oc14 kV14 dc14 pm14 cd14 ct14 oc15 kV15 dc15 pm15 cd15 ct15 oc16 kV16 dc16 pm16 cd16 ct16 : Value} {g_GREATEST_KIND g_MOST_THINGS : Tok} 
    (a1 : PySem.W.nsIn K mainGlobals "is_whole" = some (some (.ref f1)))
    (l1 : K.lookup f1 = some ⟨oc1, od1, .func (PySem.W.fnOf "is_whole" "is_whole" (defArgs s_is_whole) (defBody s_is_whole) (defScope s_is_whole) .none kV1 dc1 pm1 an1 cd1 ct1), sl1⟩)
    (c1 : PySem.W.codeIn K cd1 "is_whole" = true)
    (k1 : PySem.W.keepIn K (.ref f1) = true)
    (a2 : PySem.W.nsIn K mainGlobals "is_kind" = some (some (.ref f2)))
    (l2 : K.lookup f2 = some ⟨oc2, od2, .func (PySem.W.fnOf "is_kind" "is_kind" (defArgs s_is_kind) (defBody s_is_kind) (defScope s_is_kind) .none kV2 dc2 pm2 an2 cd2 ct2), sl2⟩)
    (c2 : PySem.W.codeIn K cd2 "is_kind" = true)
    (k2 : PySem.W.keepIn K (.ref f2) = true)
    (a3 : PySem.W.nsIn K mainGlobals "is_heap" = some (some (.ref f3)))
    (l3 : K.lookup f3 = some ⟨oc3, od3, .func (PySem.W.fnOf "is_heap" "is_heap" (defArgs s_is_heap) (defBody s_is_heap) (defScope s_is_heap) .none kV3 dc3 pm3 an3 cd3 ct3), sl3⟩)
    (c3 : PySem.W.codeIn K cd3 "is_heap" = true)
    (k3 : PySem.W.keepIn K (.ref f3) = true)
    (a4 : PySem.W.nsIn K mainGlobals "check_heap" = some (some (.ref f4)))
    (l4 : K.lookup f4 = some ⟨oc4, od4, .func (PySem.W.fnOf "check_heap" "check_heap" (defArgs s_check_heap) (defBody s_check_heap) (defScope s_check_heap) .none kV4 dc4 pm4 an4 cd4 ct4), sl4⟩)
    (c4 : PySem.W.codeIn K cd4 "check_heap" = true)
    (k4 : PySem.W.keepIn K (.ref f4) = true)
    (a5 : PySem.W.nsIn K mainGlobals "tally" = some (some (.ref f5)))
    (l5 : K.lookup f5 = some ⟨oc5, od5, .func (PySem.W.fnOf "tally" "tally" (defArgs s_tally) (defBody s_tally) (defScope s_tally) .none kV5 dc5 pm5 an5 cd5 ct5), sl5⟩)
    (c5 : PySem.W.codeIn K cd5 "tally" = true)
    (k5 : PySem.W.keepIn K (.ref f5) = true)
    (a6 : PySem.W.nsIn K mainGlobals "most_alike" = some (some (.ref f6)))
    (l6 : K.lookup f6 = some ⟨oc6, od6, .func (PySem.W.fnOf "most_alike" "most_alike" (defArgs s_most_alike) (defBody s_most_alike) (defScope s_most_alike) .none kV6 dc6 pm6 an6 cd6 ct6), sl6⟩)
    (c6 : PySem.W.codeIn K cd6 "most_alike" = true)
    (k6 : PySem.W.keepIn K (.ref f6) = true)
    (a7 : PySem.W.nsIn K mainGlobals "top_kinds" = some (some (.ref f7)))
    (l7 : K.lookup f7 = some ⟨oc7, od7, .func (PySem.W.fnOf "top_kinds" "top_kinds" (defArgs s_top_kinds) (defBody s_top_kinds) (defScope s_top_kinds) .none kV7 dc7 pm7 an7 cd7 ct7), sl7⟩)
    (c7 : PySem.W.codeIn K cd7 "top_kinds" = true)
    (k7 : PySem.W.keepIn K (.ref f7) = true)
    (a8 : PySem.W.nsIn K mainGlobals "counts" = some (some (.ref f8)))
    (l8 : K.lookup f8 = some ⟨oc8, od8, .func (PySem.W.fnOf "counts" "counts" (defArgs s_counts) (defBody s_counts) (defScope s_counts) .none kV8 dc8 pm8 an8 cd8 ct8), sl8⟩)
    (c8 : PySem.W.codeIn K cd8 "counts" = true)
    (k8 : PySem.W.keepIn K (.ref f8) = true)
    (a9 : PySem.W.nsIn K mainGlobals "commonest" = some (some (.ref f9)))
    (l9 : K.lookup f9 = some ⟨oc9, od9, .func (PySem.W.fnOf "commonest" "commonest" (defArgs s_commonest) (defBody s_commonest) (defScope s_commonest) .none kV9 dc9 pm9 an9 cd9 ct9), sl9⟩)
    (c9 : PySem.W.codeIn K cd9 "commonest" = true)
    (k9 : PySem.W.keepIn K (.ref f9) = true)
    (a10 : PySem.W.nsIn K mainGlobals "_law_cell_at" = some (some (.ref f10)))
    (l10 : K.lookup f10 = some ⟨oc10, od10, .func (PySem.W.fnOf "_law_cell_at" "_law_cell_at" (defArgs s__law_cell_at) (defBody s__law_cell_at) (defScope s__law_cell_at) .none kV10 dc10 pm10 an10 cd10 ct10), sl10⟩)
    (c10 : PySem.W.codeIn K cd10 "_law_cell_at" = true)
    (k10 : PySem.W.keepIn K (.ref f10) = true)
    (a11 : PySem.W.nsIn K mainGlobals "_law_draw" = some (some (.ref f11)))
    (l11 : K.lookup f11 = some ⟨oc11, od11, .func (PySem.W.fnOf "_law_draw" "_law_draw" (defArgs s__law_draw) (defBody s__law_draw) (defScope s__law_draw) .none kV11 dc11 pm11 an11 cd11 ct11), sl11⟩)
    (c11 : PySem.W.codeIn K cd11 "_law_draw" = true)
    (k11 : PySem.W.keepIn K (.ref f11) = true)
    (a12 : PySem.W.nsIn K mainGlobals "_law_heap" = some (some (.ref f12)))
    (l12 : K.lookup f12 = some ⟨oc12, od12, .func (PySem.W.fnOf "_law_heap" "_law_heap" (defArgs s__law_heap) (defBody s__law_heap) (defScope s__law_heap) .none kV12 dc12 pm12 an12 cd12 ct12), sl12⟩)
    (c12 : PySem.W.codeIn K cd12 "_law_heap" = true)
    (k12 : PySem.W.keepIn K (.ref f12) = true)
    (a13 : PySem.W.nsIn K mainGlobals "_law_many" = some (some (.ref f13)))
    (l13 : K.lookup f13 = some ⟨oc13, od13, .func (PySem.W.fnOf "_law_many" "_law_many" (defArgs s__law_many) (defBody s__law_many) (defScope s__law_many) .none kV13 dc13 pm13 an13 cd13 ct13), sl13⟩)
    (c13 : PySem.W.codeIn K cd13 "_law_many" = true)
    (k13 : PySem.W.keepIn K (.ref f13) = true)
    (a14 : PySem.W.nsIn K mainGlobals "_law_most" = some (some (.ref f14)))
    (l14 : K.lookup f14 = some ⟨oc14, od14, .func (PySem.W.fnOf "_law_most" "_law_most" (defArgs s__law_most) (defBody s__law_most) (defScope s__law_most) .none kV14 dc14 pm14 an14 cd14 ct14), sl14⟩)
    (c14 : PySem.W.codeIn K cd14 "_law_most" = true)
    (k14 : PySem.W.keepIn K (.ref f14) = true)
    (a15 : PySem.W.nsIn K mainGlobals "_law_numbers" = some (some (.ref f15)))
    (l15 : K.lookup f15 = some ⟨oc15, od15, .func (PySem.W.fnOf "_law_numbers" "_law_numbers" (defArgs s__law_numbers) (defBody s__law_numbers) (defScope s__law_numbers) .none kV15 dc15 pm15 an15 cd15 ct15), sl15⟩)
    (c15 : PySem.W.codeIn K cd15 "_law_numbers" = true)
    (k15 : PySem.W.keepIn K (.ref f15) = true)
    (a16 : PySem.W.nsIn K mainGlobals "law" = some (some (.ref f16)))
    (l16 : K.lookup f16 = some ⟨oc16, od16, .func (PySem.W.fnOf "law" "law" (defArgs s_law) (defBody s_law) (defScope s_law) .none kV16 dc16 pm16 an16 cd16 ct16), sl16⟩)
    (c16 : PySem.W.codeIn K cd16 "law" = true)
    (k16 : PySem.W.keepIn K (.ref f16) = true)
    (z_isinstance : PySem.W.nsIn K mainGlobals "isinstance" = some none)
    (z_int : PySem.W.nsIn K mainGlobals "int" = some none)
    (z_bool : PySem.W.nsIn K mainGlobals "bool" = some none)
    (z_list : PySem.W.nsIn K mainGlobals "list" = some none)
    (z_tuple : PySem.W.nsIn K mainGlobals "tuple" = some none)
    (z_all : PySem.W.nsIn K mainGlobals "all" = some none)
    (z_any : PySem.W.nsIn K mainGlobals "any" = some none)
    (z_len : PySem.W.nsIn K mainGlobals "len" = some none)
    (z_max : PySem.W.nsIn K mainGlobals "max" = some none)
    (z_sorted : PySem.W.nsIn K mainGlobals "sorted" = some none)
    (z_range : PySem.W.nsIn K mainGlobals "range" = some none)
    (y_GREATEST_KIND : PySem.W.nsIn K mainGlobals "GREATEST_KIND" = some (some (.int 999 g_GREATEST_KIND)))
    (y_MOST_THINGS : PySem.W.nsIn K mainGlobals "MOST_THINGS" = some (some (.int 1000000 g_MOST_THINGS)))
    : ∃ fd : FuncData, (∀ (s : Shared) (v : Value), BindsTo s fd ⟨[v], []⟩ [("_law_script", v)]) ∧ ∀ base : Heap, K.In base → base.Ns mainGlobals mg → FnOk l.prog w K mg base CX0 6 fa fd ["_law_script"] (sp_law K) := by
  have e := hfa.symm.trans (PySem.W.mg_of X G a16)
  cases e
  have F1 := fun_mk (st := s_is_whole) l1 c1 k1
  have B1 := F1.binds (ps := ["value"]) fun _ _ _ _ _ _ us hl => match us, hl with | [_], _ => rfl
  have F2 := fun_mk (st := s_is_kind) l2 c2 k2
  have B2 := F2.binds (ps := ["value"]) fun _ _ _ _ _ _ us hl => match us, hl with | [_], _ => rfl
  have F3 := fun_mk (st := s_is_heap) l3 c3 k3
  have B3 := F3.binds (ps := ["value"]) fun _ _ _ _ _ _ us hl => match us, hl with | [_], _ => rfl
  have F4 := fun_mk (st := s_check_heap) l4 c4 k4
  have B4 := F4.binds (ps := ["value"]) fun _ _ _ _ _ _ us hl => match us, hl with | [_], _ => rfl
  have F5 := fun_mk (st := s_tally) l5 c5 k5
  have B5 := F5.binds (ps := ["kinds"]) fun _ _ _ _ _ _ us hl => match us, hl with | [_], _ => rfl
  have F6 := fun_mk (st := s_most_alike) l6 c6 k6
  have B6 := F6.binds (ps := ["numbers"]) fun _ _ _ _ _ _ us hl => match us, hl with | [_], _ => rfl
  have F7 := fun_mk (st := s_top_kinds) l7 c7 k7
  have B7 := F7.binds (ps := ["numbers"]) fun _ _ _ _ _ _ us hl => match us, hl with | [_], _ => rfl
  have F8 := fun_mk (st := s_counts) l8 c8 k8
  have B8 := F8.binds (ps := ["heap"]) fun _ _ _ _ _ _ us hl => match us, hl with | [_], _ => rfl
  have F9 := fun_mk (st := s_commonest) l9 c9 k9
  have B9 := F9.binds (ps := ["heap"]) fun _ _ _ _ _ _ us hl => match us, hl with | [_], _ => rfl
  have F10 := fun_mk (st := s__law_cell_at) l10 c10 k10
  have B10 := F10.binds (ps := ["_law_script", "_law_k"]) fun _ _ _ _ _ _ us hl => match us, hl with | [_, _], _ => rfl
  have F11 := fun_mk (st := s__law_draw) l11 c11 k11
  have B11 := F11.binds (ps := ["_law_cell", "_law_k", "_law_many_here"]) fun _ _ _ _ _ _ us hl => match us, hl with | [_, _, _], _ => rfl
  have F12 := fun_mk (st := s__law_heap) l12 c12 k12
  have B12 := F12.binds (ps := ["_law_script"]) fun _ _ _ _ _ _ us hl => match us, hl with | [_], _ => rfl
  have F13 := fun_mk (st := s__law_many) l13 c13 k13
  have B13 := F13.binds (ps := ["_law_heap_here"]) fun _ _ _ _ _ _ us hl => match us, hl with | [_], _ => rfl
  have F14 := fun_mk (st := s__law_most) l14 c14 k14
  have B14 := F14.binds (ps := ["_law_heap_here"]) fun _ _ _ _ _ _ us hl => match us, hl with | [_], _ => rfl
  have F15 := fun_mk (st := s__law_numbers) l15 c15 k15
  have B15 := F15.binds (ps := ["_law_found"]) fun _ _ _ _ _ _ us hl => match us, hl with | [_], _ => rfl
  have F16 := fun_mk (st := s_law) l16 c16 k16
  have B16 := F16.binds (ps := ["_law_script"]) fun _ _ _ _ _ _ us hl => match us, hl with | [_], _ => rfl
  have T : Txt K mg {
      f_is_whole := f1,
      d_is_whole := (PySem.W.fnOf "is_whole" "is_whole" (defArgs s_is_whole) (defBody s_is_whole) (defScope s_is_whole) .none kV1 dc1 pm1 an1 cd1 ct1),
      f_is_kind := f2,
      d_is_kind := (PySem.W.fnOf "is_kind" "is_kind" (defArgs s_is_kind) (defBody s_is_kind) (defScope s_is_kind) .none kV2 dc2 pm2 an2 cd2 ct2),
      f_is_heap := f3,
      d_is_heap := (PySem.W.fnOf "is_heap" "is_heap" (defArgs s_is_heap) (defBody s_is_heap) (defScope s_is_heap) .none kV3 dc3 pm3 an3 cd3 ct3),
      f_check_heap := f4,
      d_check_heap := (PySem.W.fnOf "check_heap" "check_heap" (defArgs s_check_heap) (defBody s_check_heap) (defScope s_check_heap) .none kV4 dc4 pm4 an4 cd4 ct4),
      f_tally := f5,
      d_tally := (PySem.W.fnOf "tally" "tally" (defArgs s_tally) (defBody s_tally) (defScope s_tally) .none kV5 dc5 pm5 an5 cd5 ct5),
      f_most_alike := f6,
      d_most_alike := (PySem.W.fnOf "most_alike" "most_alike" (defArgs s_most_alike) (defBody s_most_alike) (defScope s_most_alike) .none kV6 dc6 pm6 an6 cd6 ct6),
      f_top_kinds := f7,
      d_top_kinds := (PySem.W.fnOf "top_kinds" "top_kinds" (defArgs s_top_kinds) (defBody s_top_kinds) (defScope s_top_kinds) .none kV7 dc7 pm7 an7 cd7 ct7),
      f_counts := f8,
      d_counts := (PySem.W.fnOf "counts" "counts" (defArgs s_counts) (defBody s_counts) (defScope s_counts) .none kV8 dc8 pm8 an8 cd8 ct8),
      f_commonest := f9,
      d_commonest := (PySem.W.fnOf "commonest" "commonest" (defArgs s_commonest) (defBody s_commonest) (defScope s_commonest) .none kV9 dc9 pm9 an9 cd9 ct9),
      f__law_cell_at := f10,
      d__law_cell_at := (PySem.W.fnOf "_law_cell_at" "_law_cell_at" (defArgs s__law_cell_at) (defBody s__law_cell_at) (defScope s__law_cell_at) .none kV10 dc10 pm10 an10 cd10 ct10),
      f__law_draw := f11,
      d__law_draw := (PySem.W.fnOf "_law_draw" "_law_draw" (defArgs s__law_draw) (defBody s__law_draw) (defScope s__law_draw) .none kV11 dc11 pm11 an11 cd11 ct11),
      f__law_heap := f12,
      d__law_heap := (PySem.W.fnOf "_law_heap" "_law_heap" (defArgs s__law_heap) (defBody s__law_heap) (defScope s__law_heap) .none kV12 dc12 pm12 an12 cd12 ct12),
      f__law_many := f13,
      d__law_many := (PySem.W.fnOf "_law_many" "_law_many" (defArgs s__law_many) (defBody s__law_many) (defScope s__law_many) .none kV13 dc13 pm13 an13 cd13 ct13),
      f__law_most := f14,
      d__law_most := (PySem.W.fnOf "_law_most" "_law_most" (defArgs s__law_most) (defBody s__law_most) (defScope s__law_most) .none kV14 dc14 pm14 an14 cd14 ct14),
      f__law_numbers := f15,
      d__law_numbers := (PySem.W.fnOf "_law_numbers" "_law_numbers" (defArgs s__law_numbers) (defBody s__law_numbers) (defScope s__law_numbers) .none kV15 dc15 pm15 an15 cd15 ct15),
      f_law := fa,
      d_law := (PySem.W.fnOf "law" "law" (defArgs s_law) (defBody s_law) (defScope s_law) .none kV16 dc16 pm16 an16 cd16 ct16),
      g_GREATEST_KIND := g_GREATEST_KIND,
      g_MOST_THINGS := g_MOST_THINGS } := {
      is_whole := ⟨F1, PySem.W.mg_of X G a1, B1⟩,
      is_kind := ⟨F2, PySem.W.mg_of X G a2, B2⟩,
      is_heap := ⟨F3, PySem.W.mg_of X G a3, B3⟩,
      check_heap := ⟨F4, PySem.W.mg_of X G a4, B4⟩,
      tally := ⟨F5, PySem.W.mg_of X G a5, B5⟩,
      most_alike := ⟨F6, PySem.W.mg_of X G a6, B6⟩,
      top_kinds := ⟨F7, PySem.W.mg_of X G a7, B7⟩,
      counts := ⟨F8, PySem.W.mg_of X G a8, B8⟩,
      commonest := ⟨F9, PySem.W.mg_of X G a9, B9⟩,
      _law_cell_at := ⟨F10, PySem.W.mg_of X G a10, B10⟩,
      _law_draw := ⟨F11, PySem.W.mg_of X G a11, B11⟩,
      _law_heap := ⟨F12, PySem.W.mg_of X G a12, B12⟩,
      _law_many := ⟨F13, PySem.W.mg_of X G a13, B13⟩,
      _law_most := ⟨F14, PySem.W.mg_of X G a14, B14⟩,
      _law_numbers := ⟨F15, PySem.W.mg_of X G a15, B15⟩,
      law := ⟨F16, PySem.W.mg_of X G a16, B16⟩,
      b_isinstance := PySem.W.mg_none_of X G z_isinstance,
      b_int := PySem.W.mg_none_of X G z_int,
      b_bool := PySem.W.mg_none_of X G z_bool,
      b_list := PySem.W.mg_none_of X G z_list,
      b_tuple := PySem.W.mg_none_of X G z_tuple,
      b_all := PySem.W.mg_none_of X G z_all,
      b_any := PySem.W.mg_none_of X G z_any,
      b_len := PySem.W.mg_none_of X G z_len,
      b_max := PySem.W.mg_none_of X G z_max,
      b_sorted := PySem.W.mg_none_of X G z_sorted,
      b_range := PySem.W.mg_none_of X G z_range,
      k_GREATEST_KIND := PySem.W.mg_of X G y_GREATEST_KIND,
      k_MOST_THINGS := PySem.W.mg_of X G y_MOST_THINGS }
  exact ⟨PySem.W.fnOf "law" "law" (defArgs s_law) (defBody s_law) (defScope s_law) .none kV16 dc16 pm16 an16 cd16 ct16, fun s v => .of_eq rfl, fun base _ _ => ok_law T⟩
theorem walk {l : PySem.W.OpenLaw} {q : Program} {loose : List Str} {XP : (Str → Option Value) → Heap → Prop} {YP : World → Heap → Prop} {d : DefRec} {K : Params → PySem.W.Frag} (hn : l.most = some 63) (hdf : d.params.defaults = [])
    (hY : ∀ (w : World) (h : Heap), YP w h → (K w.params).In h)
    (F : ∀ (w : World) (mg : Str → Option Value) (fa : Addr) (h : Heap), (K w.params).In h → h.Ns mainGlobals mg → mg d.name = some (.ref fa) →
      ∃ fd : FuncData, (∀ (s : Shared) (u : Value), BindsTo s fd ⟨[u], []⟩ [("_law_script", u)]) ∧ ∀ base : Heap, (K w.params).In base → base.Ns mainGlobals mg → FnOk l.prog w (K w.params) mg base CX0 6 fa fd ["_law_script"] (sp_law (K w.params))) :
    PySem.W.WalkO q loose XP YP l.row.toRowW d [] (fun f vs => PySem.call f vs) :=
  L2.walk_of (n := 63) (k := 6) (x := "_law_script") (CX := fun _ => CX0) (sp := fun w => sp_law (K w.params)) hn (by decide) hdf ⟨rfl, by decide, by decide⟩ hY F (fun _ _ a ns hl _ hS => ⟨a, ns, rfl, hS, hl, fun _ => rfl⟩) fun _ _ _ _ _ z => z
end K6
open PySem PySem.W PyProof.Rows
def PySem.W.Fast.tw11850119734770696168 : Unit := ()
def PySem.W.Fast.tw13399350617913635950 : Unit := ()
def PySem.W.Fast.tw13657109994745641625 : Unit := ()
def PySem.W.Fast.tw15120610760003673862 : Unit := ()
def PySem.W.Fast.tw6674222446747877988 : Unit := ()
def PySem.W.Fast.tw6722946660698473797 : Unit := ()
def PySem.W.Fast.tw861911092907324419 : Unit := ()
set_option maxRecDepth 100000 in
set_option maxHeartbeats 0 in
theorem PySem.Challenge.cw_apartrow_k06_counts_holds : PySem.Challenge.rw_apartrow_k06_counts.Holds := by
  w_on; o_law; k_head; (case hw => w_witness2)
  k_fill
  refine K6.walk (l := PySem.Challenge.rw_apartrow_k06_counts) rfl rfl (fun w h Y => PySem.W.kIn_of Y) ?F
  case F =>
    intro w mg fa h KX G hmg
    refine' K6.all_mk KX G hmg ?a1 ?l1 ?c1 ?k1 ?a2 ?l2 ?c2 ?k2 ?a3 ?l3 ?c3 ?k3 ?a4 ?l4 ?c4 ?k4 ?a5 ?l5 ?c5 ?k5 ?a6 ?l6 ?c6 ?k6 ?a7 ?l7 ?c7 ?k7 ?a8 ?l8 ?c8 ?k8 ?a9 ?l9 ?c9 ?k9 ?a10 ?l10 ?c10 ?k10 ?a11 ?l11 ?c11 ?k11 ?a12 ?l12 ?c12 ?k12 ?a13 ?l13 ?c13 ?k13 ?a14 ?l14 ?c14 ?k14 ?a15 ?l15 ?c15 ?k15 ?a16 ?l16 ?c16 ?k16 ?z_isinstance ?z_int ?z_bool ?z_list ?z_tuple ?z_all ?z_any ?z_len ?z_max ?z_sorted ?z_range ?y_GREATEST_KIND ?y_MOST_THINGS
    (case a1 => k_is)
    (case l1 => k_is)
    (case c1 => k_is)
    (case k1 => k_is)
    (case a2 => k_is)
    (case l2 => k_is)
    (case c2 => k_is)
    (case k2 => k_is)
    (case a3 => k_is)
    (case l3 => k_is)
    (case c3 => k_is)
    (case k3 => k_is)
    (case a4 => k_is)
    (case l4 => k_is)
    (case c4 => k_is)
    (case k4 => k_is)
    (case a5 => k_is)
    (case l5 => k_is)
    (case c5 => k_is)
    (case k5 => k_is)
    (case a6 => k_is)
    (case l6 => k_is)
    (case c6 => k_is)
    (case k6 => k_is)
    (case a7 => k_is)
    (case l7 => k_is)
    (case c7 => k_is)
    (case k7 => k_is)
    (case a8 => k_is)
    (case l8 => k_is)
    (case c8 => k_is)
    (case k8 => k_is)
    (case a9 => k_is)
    (case l9 => k_is)
    (case c9 => k_is)
    (case k9 => k_is)
    (case a10 => k_is)
    (case l10 => k_is)
    (case c10 => k_is)
    (case k10 => k_is)
    (case a11 => k_is)
    (case l11 => k_is)
    (case c11 => k_is)
    (case k11 => k_is)
    (case a12 => k_is)
    (case l12 => k_is)
    (case c12 => k_is)
    (case k12 => k_is)
    (case a13 => k_is)
    (case l13 => k_is)
    (case c13 => k_is)
    (case k13 => k_is)
    (case a14 => k_is)
    (case l14 => k_is)
    (case c14 => k_is)
    (case k14 => k_is)
    (case a15 => k_is)
    (case l15 => k_is)
    (case c15 => k_is)
    (case k15 => k_is)
    (case a16 => k_is)
    (case l16 => k_is)
    (case c16 => k_is)
    (case k16 => k_is)
    (case z_isinstance => k_is)
    (case z_int => k_is)
    (case z_bool => k_is)
    (case z_list => k_is)
    (case z_tuple => k_is)
    (case z_all => k_is)
    (case z_any => k_is)
    (case z_len => k_is)
    (case z_max => k_is)
    (case z_sorted => k_is)
    (case z_range => k_is)
    (case y_GREATEST_KIND => k_is)
    (case y_MOST_THINGS => k_is)

