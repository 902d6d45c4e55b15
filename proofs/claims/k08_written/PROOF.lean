import PyProof.Rows.All
import Wide.All
import OpenK.AllK
import Wide.FinOn
import Lean
import PyProof.EqAt
import PyProof.EqKinds
import PyProof.TupleCall
import PySem.Challenge.RW_apartrow_k08_written
set_option Elab.async false
set_option linter.all false
set_option maxRecDepth 100000
namespace L2
open PySem PySem.Spec PyProof.Rows
abbrev Key := Sum Int Str
def keyIs : Key → Value → Bool
  | .inl k, v => Value.isInt k v
  | .inr x, v => Value.isStrOf x v
def keyH (w : World) : Key → Int
  | .inl k => hashInt k
  | .inr x => hashStr w x
theorem keyIs_shape : ∀ {k : Key} {v : Value}, keyIs k v = true → (∃ i t, k = Sum.inl i ∧ v = Value.int i t) ∨ (∃ x t, k = Sum.inr x ∧ v = Value.str x t)
  | .inl i, v, h => by
    obtain ⟨t, e⟩ := Value.isInt_shape (k := i) (v := v) h
    exact .inl ⟨i, t, rfl, e⟩
  | .inr x, v, h => by
    obtain ⟨t, e⟩ := Value.isStrOf_shape (x := x) (v := v) h
    exact .inr ⟨x, t, rfl, e⟩
theorem key_ll (a b : Int) : decide ((Sum.inl a : Key) = Sum.inl b) = (a == b) := by
  by_cases e : a = b
  · subst e; simp
  · have h : ¬ (Sum.inl a : Key) = Sum.inl b := fun q => e (Sum.inl.inj q)
    rw [decide_eq_false h]
    exact (beq_eq_false_iff_ne.mpr e).symm
theorem key_rr (a b : Str) : decide ((Sum.inr a : Key) = Sum.inr b) = decide (a = b) := by
  by_cases e : a = b
  · subst e; simp
  · have h : ¬ (Sum.inr a : Key) = Sum.inr b := fun q => e (Sum.inr.inj q)
    rw [decide_eq_false h, decide_eq_false e]
theorem key_lr (a : Int) (b : Str) : decide ((Sum.inl a : Key) = Sum.inr b) = false := decide_eq_false (fun q => nomatch q)
theorem key_rl (a : Str) (b : Int) : decide ((Sum.inr a : Key) = Sum.inl b) = false := decide_eq_false (fun q => nomatch q)
def mixKind (prog : Program) (w : World) : PySem.KeyKind prog w Key where
  is := keyIs
  hash := keyH w
  inj := fun v a b ha hb => by
    rcases keyIs_shape ha with ⟨i, t, rfl, rfl⟩ | ⟨x, t, rfl, rfl⟩
    · rcases keyIs_shape hb with ⟨j, u, rfl, e⟩ | ⟨y, u, rfl, e⟩
      · injection e with e1 _; rw [e1]
      · exact nomatch e
    · rcases keyIs_shape hb with ⟨j, u, rfl, e⟩ | ⟨y, u, rfl, e⟩
      · exact nomatch e
      · injection e with e1 _; rw [e1]
  byValue := fun k v h => by
    rcases keyIs_shape h with ⟨i, t, rfl, rfl⟩ | ⟨x, t, rfl, rfl⟩ <;> rfl
  pyHash := fun hv h => by
    rcases keyIs_shape hv with ⟨i, t, rfl, rfl⟩ | ⟨x, t, rfl, rfl⟩
    · exact wpAny_pyHash_int h
    · exact wpAny_pyHash_str h
  eqBool := fun hu hv h => by
    rcases keyIs_shape hu with ⟨i, t, rfl, rfl⟩ | ⟨x, t, rfl, rfl⟩
    · rcases keyIs_shape hv with ⟨j, u, rfl, rfl⟩ | ⟨y, u, rfl, rfl⟩
      · rw [key_ll] at h; exact wpAny_eqBool_int h
      · rw [key_lr] at h; exact SeqAt.EqAt.int_str i t y u _ _ _ _ h
    · rcases keyIs_shape hv with ⟨j, u, rfl, rfl⟩ | ⟨y, u, rfl, rfl⟩
      · rw [key_rl] at h; exact SeqAt.EqAt.str_int x t j u _ _ _ _ h
      · rw [key_rr] at h; exact wpAny_eqBool_str h
  «strs» := fun k x t v h => by
    rcases keyIs_shape h with ⟨i, u, rfl, e⟩ | ⟨y, u, rfl, e⟩
    · exact nomatch e
    · injection e with e1 _
      subst e1
      cases v <;> rfl
end L2
namespace L2
open PySem PySem.Spec PyProof.Rows
inductive V where
  | non | bl (b : Bool) | int (i : Int) | str (x : Str) | byt (b : Array UInt8) | flt (b : UInt64) | ref (a : Addr) | ty (n : String)
  deriving DecidableEq
def RelV : V → Value → Prop
  | .non, u => u = Value.none
  | .bl b, u => u = Value.bool b
  | .int i, u => ∃ t, u = Value.int i t
  | .str x, u => ∃ t, u = Value.str x t
  | .byt b, u => ∃ t, u = Value.bytes b t
  | .flt b, u => ∃ t, u = Value.float b t
  | .ref a, u => u = Value.ref a
  | .ty n, u => u = Value.type n
abbrev Vals : List V → List Value → Prop := Paired RelV
theorem Vals.length {xs : List V} {us : List Value} (r : Vals xs us) : xs.length = us.length := Paired.length r
theorem Vals.get : ∀ {xs : List V} {us : List Value} {i : Nat} {x : V}, Vals xs us → xs[i]? = some x → ∃ u, us[i]? = some u ∧ RelV x u
  | _, _, _, _, .nil, e => by simp at e
  | _, _, 0, _, .cons r _, e => by simp at e; subst e; exact ⟨_, rfl, r⟩
  | _, _, i + 1, x, .cons _ t, e => by
    obtain ⟨u, h1, h2⟩ := Vals.get (i := i) (x := x) t (by simpa using e)
    exact ⟨u, by simpa using h1, h2⟩
theorem Vals.append : ∀ {xs ys : List V} {us ws : List Value}, Vals xs us → Vals ys ws → Vals (xs ++ ys) (us ++ ws)
  | _, _, _, _, .nil, s => s
  | _, _, _, _, .cons r t, s => .cons r (Vals.append t s)
theorem Vals.take : ∀ {xs : List V} {us : List Value} (n : Nat), Vals xs us → Vals (xs.take n) (us.take n)
  | _, _, 0, _ => .nil
  | _, _, _ + 1, .nil => .nil
  | _, _, n + 1, .cons r t => .cons r (Vals.take n t)
theorem Vals.drop : ∀ {xs : List V} {us : List Value} (n : Nat), Vals xs us → Vals (xs.drop n) (us.drop n)
  | _, _, 0, r => r
  | _, _, _ + 1, .nil => .nil
  | _, _, n + 1, .cons _ t => Vals.drop n t
theorem Vals.none_of : ∀ {xs : List V} {us : List Value} {i : Nat}, Vals xs us → xs[i]? = none → us[i]? = none := fun {xs us i} r e => by
  have h1 := r.length
  have h2 : xs.length ≤ i := List.getElem?_eq_none_iff.mp e
  exact List.getElem?_eq_none_iff.mpr (by omega)
def RelO : Option V → Option Value → Prop
  | some v, some u => RelV v u
  | none, none => True
  | _, _ => False
def KV {κ : Type} : List (κ × V) → List (κ × Value) → Prop := Paired fun (p : κ × V) (q : κ × Value) => p.1 = q.1 ∧ RelV p.2 q.2
def kV : Key → V
  | .inl i => .int i
  | .inr x => .str x
inductive HO where
  /-- a list -/
  | lst (xs : List V)
  /-- a tuple (never changes) -/
  | tup (xs : List V)
  /-- a dict whose keys are ints and texts; one whose keys are tuples of ints and texts (the empty one is both) -/
  | dK (kvs : List (Key × V)) | dT (kvs : List (List Key × V))
  /-- a set of ints: its members, its size -/
  | set (S : Int → Bool) (n : Nat)
  /-- an instance of the class at C, its dict at dx, its attributes -/
  | ins (C dx : Addr) (fs : List (Str × V))
  /-- the dict of the instance at x -/
  | own (x : Addr)
  /-- the dict of an exception -/
  | xd (fs : List (Str × V))
  /-- a bound method, f of x -/
  | met (f x : Addr)
  /-- a range object lo, lo + 1, .. below hi -/
  | rng (lo hi : Int)
  /-- a thing that is known to the object (the script; a dict while a loop walks it): read, never written while it is so -/
  | frz (o : Obj) (u : HO)
  /-- a code object's table -/
  | tbl (ps : Array Value)
  | ctab (q : Str) (pos : Pos)
  /-- any other thing, by what is true of its one object (a def of one's own: SetO a S n := HO.ext fun h => ..) -/
  | ext (φ : Heap → Prop)
abbrev Hp := Addr → Option HO
def upd (H : Hp) (a : Addr) (o : HO) : Hp := fun b => if b = a then some o else H b
theorem upd_same {H : Hp} {a : Addr} {o : HO} : upd H a o a = some o := by unfold upd; rw [if_pos rfl]
theorem upd_ne {H : Hp} {a b : Addr} {o : HO} (h : b ≠ a) : upd H a o b = H b := by unfold upd; rw [if_neg h]
theorem ne_of {H : Hp} {a b : Addr} {o u : HO} (h : H a = some o) (h' : H b = some u) (d : o ≠ u) : a ≠ b := by
  intro e; subst e; rw [h] at h'; exact d (Option.some.inj h')
theorem ne_of_none {H : Hp} {a b : Addr} {o : HO} (h : H a = some o) (h' : H b = none) : a ≠ b := by
  intro e; subst e; rw [h] at h'; cases h'
section
variable (P : Program) (w : World)
def ObjOk (H : Hp) (h : Heap) (a : Addr) : HO → Prop
  | .lst xs => xs.length ≤ sizeLine ∧ ∃ (its : List Value) (n : Nat), Vals xs its ∧ h.get? a = some { cls := .type "list", data := .seq its.toArray n }
  | .tup xs => xs.length ≤ sizeLine ∧ ∃ its : List Value, Vals xs its ∧ IsTup h a its.toArray
  | .dK kvs => kvs.length ≤ sizeLine ∧ (a == sysModules) = false ∧ ∃ vs, KV kvs vs ∧ h.DictOf (mixKind P w) a vs
  | .dT kvs => kvs.length ≤ sizeLine ∧ (a == sysModules) = false ∧ ∃ xs : List (List Key × Addr × Value),
      Paired (fun (p : List Key × V) (q : List Key × Addr × Value) => p.1 = q.1 ∧ H q.2.1 = some (.tup (p.1.map kV)) ∧ RelV p.2 q.2.2) kvs xs ∧
      ∃ o es ep, h.get? a = some o ∧ o.ExactDict ∧ o.data = .dict es ep ∧ es.toList = xs.map (entryOfKey (tupleKind (mixKind P w))) ∧ (xs.map (·.1)).Nodup
  | .set S n => h.SetOf (intKind P w) a S n
  | .ins C dx fs => H dx = some (.own a) ∧ fs.length ≤ 1000 ∧ dx ≠ a ∧ h.get? a = some (PySem.W.instObj C dx) ∧
      ∃ mA, h.Ns1 dx mA ∧ (∀ f, RelO (fs.lookup f) (mA f)) ∧ PySem.Within mA (fs.map (·.1))
  | .own _ => ∃ o, h.get? a = some o
  | .xd fs => ∃ mA, h.Ns1 a mA ∧ ∀ f, RelO (fs.lookup f) (mA f)
  | .rng lo hi => ∃ t u v, h.get? a = some { cls := .type "range", data := .fields #[.int lo t, .int hi u, .int 1 v] }
  | .frz o u => h.get? a = some o ∧ ObjOk H h a u
  | .tbl ps => h.get? a = some { cls := .none, data := .fields ps }
  | .ctab q pos => ∃ ps : Array Value, h.get? a = some { cls := .none, data := .fields ps } ∧ TriplesOk ps.toList ∧ ∀ cv, codeAmong pos ps.toList = some cv → ∃ c, cv = .ref c ∧ H c = some (.own a) ∧ c ≠ a ∧ h.CodeRec (.ref c) q
  | .met f x => h.get? a = some (PySem.W.methodObj (.ref f) (.ref x))
  | .ext φ => φ h ∧ (∃ o, h.get? a = some o) ∧ ∀ h1 h2 : Heap, φ h1 → (∀ o, h1.get? a = some o → h2.get? a = some o) → φ h2
def HOk (H : Hp) (h : Heap) : Prop := ∀ a o, H a = some o → ObjOk P w H h a o
end
section
variable {P : Program} {w : World} {H H' : Hp} {h h' : Heap} {a : Addr} {o : HO}
theorem ObjOk.lt (x : ObjOk P w H h a o) : a < h.objs.size := by
  cases o with
  | lst xs => obtain ⟨_, _, _, _, e⟩ := x; exact Heap.lt_size e
  | tup xs => obtain ⟨_, _, _, p⟩ := x; exact p.lt
  | dK kvs => obtain ⟨_, _, _, _, o, _, _, e, _⟩ := x; exact Heap.lt_size e
  | dT kvs => obtain ⟨_, _, _, _, o, _, _, e, _⟩ := x; exact Heap.lt_size e
  | set S n => obtain ⟨o, _, _, _, e, _⟩ := x; exact Heap.lt_size e
  | ins C dx fs => obtain ⟨_, _, _, e, _⟩ := x; exact Heap.lt_size e
  | own y => obtain ⟨_, e⟩ := x; exact Heap.lt_size e
  | xd fs => obtain ⟨_, ⟨_, _, _, e, _⟩, _⟩ := x; exact Heap.lt_size e
  | rng lo hi => obtain ⟨_, _, _, e⟩ := x; exact Heap.lt_size e
  | frz ob u => obtain ⟨e, _⟩ := x; exact Heap.lt_size e
  | tbl ps => exact Heap.lt_size (show h.get? a = some _ from x)
  | ctab q pos => obtain ⟨_, e, _⟩ := x; exact Heap.lt_size e
  | met f y => exact Heap.lt_size (show h.get? a = some _ from x)
  | ext φ => obtain ⟨_, ⟨_, e⟩, _⟩ := x; exact Heap.lt_size e
theorem Paired.mapP {α β : Type} {F G : α → β → Prop} : ∀ {l₁ : List α} {l₂ : List β}, Paired F l₁ l₂ → (∀ a b, F a b → G a b) → Paired G l₁ l₂
  | _, _, .nil, _ => .nil
  | _, _, .cons r t, f => .cons (f _ _ r) (Paired.mapP t f)
theorem ObjOk.stay (x : ObjOk P w H h a o) (k : ∀ b u, (b = a ∨ H b = some (.own a)) → h.get? b = some u → h'.get? b = some u)
    (ho : ∀ b, H b = some (.own a) → H' b = some (.own a)) (ht : ∀ b xs, H b = some (.tup xs) → H' b = some (.tup xs)) : ObjOk P w H' h' a o := by
  induction o with
  | lst xs => obtain ⟨z, its, n, r, e⟩ := x; exact ⟨z, its, n, r, k _ _ (.inl rfl) e⟩
  | tup xs => obtain ⟨z, its, r, ob, e, c⟩ := x; exact ⟨z, its, r, ob, k _ _ (.inl rfl) e, c⟩
  | dK kvs => obtain ⟨z, y, vs, r, ob, es, ep, e, c⟩ := x; exact ⟨z, y, vs, r, ob, es, ep, k _ _ (.inl rfl) e, c⟩
  | dT kvs =>
    obtain ⟨z, y, xs, r, ob, es, ep, e, c⟩ := x
    exact ⟨z, y, xs, Paired.mapP r fun p q z => ⟨z.1, ht _ _ z.2.1, z.2.2⟩, ob, es, ep, k _ _ (.inl rfl) e, c⟩
  | set S n => obtain ⟨ob, es, ep, t, e, c⟩ := x; exact ⟨ob, es, ep, t, k _ _ (.inl rfl) e, c⟩
  | ins C dx fs =>
    obtain ⟨d, z, ne, e, mA, ⟨od, es, ep, e2, c⟩, r⟩ := x
    exact ⟨ho _ d, z, ne, k _ _ (.inl rfl) e, mA, ⟨od, es, ep, k _ _ (.inr d) e2, c⟩, r⟩
  | own y => obtain ⟨ob, e⟩ := x; exact ⟨ob, k _ _ (.inl rfl) e⟩
  | xd fs => obtain ⟨mA, ⟨od, es, ep, e, c⟩, r⟩ := x; exact ⟨mA, ⟨od, es, ep, k _ _ (.inl rfl) e, c⟩, r⟩
  | rng lo hi => obtain ⟨t, u, v, e⟩ := x; exact ⟨t, u, v, k _ _ (.inl rfl) e⟩
  | frz ob u ih => obtain ⟨e, q⟩ := x; exact ⟨k _ _ (.inl rfl) e, ih q⟩
  | ctab q pos =>
    obtain ⟨ps, e, tr, k1⟩ := x
    refine ⟨ps, k _ _ (.inl rfl) e, tr, fun cv hcv => ?_⟩
    obtain ⟨c, e0, o1, ne, c2, oc, vs, tq, e1, e2, r⟩ := k1 cv hcv
    subst e0
    cases e1
    exact ⟨_, rfl, ho _ o1, ne, _, oc, vs, tq, rfl, k _ _ (.inr o1) e2, r⟩
  | tbl ps =>
    have e : h.get? a = some { cls := .none, data := .fields ps } := x
    show h'.get? a = some { cls := .none, data := .fields ps }
    exact k a _ (.inl rfl) e
  | met f y =>
    have e : h.get? a = some (PySem.W.methodObj (.ref f) (.ref y)) := x
    show h'.get? a = some (PySem.W.methodObj (.ref f) (.ref y))
    exact k a _ (.inl rfl) e
  | ext φ => obtain ⟨p, ⟨o, e⟩, st⟩ := x; exact ⟨st _ _ p fun o q => k _ _ (.inl rfl) q, ⟨o, k _ _ (.inl rfl) e⟩, st⟩
theorem HOk.lt (x : HOk P w H h) (e : H a = some o) : a < h.objs.size := (x a o e).lt
theorem HOk.fresh (x : HOk P w H h) (e : h.objs.size ≤ a) : H a = none := by
  cases q : H a with
  | none => rfl
  | some u => exact absurd (Nat.lt_of_lt_of_le (x.lt q) e) (Nat.lt_irrefl _)
theorem HOk.kept (x : HOk P w H h) (k : ∀ b u, h.get? b = some u → h'.get? b = some u) : HOk P w H h' := fun a o e =>
  (x a o e).stay (fun b u _ q => k b u q) (fun _ q => q) fun _ _ q => q
theorem HOk.laid (x : HOk P w H h) (k : ∀ b u, h.get? b = some u → h'.get? b = some u) (hp : h.objs.size ≤ a) (new : ObjOk P w (upd H a o) h' a o) : HOk P w (upd H a o) h' := fun b u e => by
  have hn := x.fresh hp
  by_cases hb : b = a
  · subst hb; rw [upd_same] at e; cases e; exact new
  · rw [upd_ne hb] at e
    exact (x b u e).stay (fun c v _ q => k c v q) (fun c q => by rw [upd_ne (ne_of_none q hn)]; exact q) fun c xs q => by rw [upd_ne (ne_of_none q hn)]; exact q
end
def Rd (H : Hp) (a : Addr) (u : HO) : Prop := H a = some u ∨ ∃ o, H a = some (.frz o u)
theorem Rd.ok {P : Program} {w : World} {H : Hp} {h : Heap} {a : Addr} {u : HO} (r : Rd H a u) (x : HOk P w H h) : ObjOk P w H h a u := by
  rcases r with r | ⟨o, r⟩
  · exact x a u r
  · obtain ⟨_, q⟩ := x a _ r
    exact q
def Mut : Option HO → Prop
  | some (.lst _) => True
  | some (.dK _) => True
  | some (.dT _) => True
  | some (.set _ _) => True
  | some (.ins _ _ _) => True
  | some (.ext _) => True
  | some (.ctab _ _) => True
  | _ => False
section
variable {P : Program} {w : World} {H : Hp} {h h' : Heap} {x e : Addr} {o' : HO}
theorem HOk.write (ok : HOk P w H h) (mu : Mut (H x)) (he : e = x ∨ H e = some (.own x)) (k : ∀ b u, b ≠ e → h.get? b = some u → h'.get? b = some u) (heo : ∃ u, h'.get? e = some u)
    (new : ObjOk P w (upd H x o') h' x o') : HOk P w (upd H x o') h' := fun b u q => by
  have nown : ∀ c y, H c = some (.own y) → c ≠ x := fun c y r z => by subst z; rw [r] at mu; exact mu
  have ntup : ∀ c xs, H c = some (.tup xs) → c ≠ x := fun c xs r z => by subst z; rw [r] at mu; exact mu
  by_cases hb : b = x
  · subst hb; rw [upd_same] at q; cases q; exact new
  · rw [upd_ne hb] at q
    by_cases hbe : b = e
    · have q' : H b = some (.own x) := by
        rcases he with z | z
        · exact absurd (hbe.trans z) hb
        · rw [hbe]; exact z
      rw [q] at q'; cases q'
      obtain ⟨v, hv⟩ := heo
      exact ⟨v, by rw [hbe]; exact hv⟩
    · refine (ok b u q).stay (fun c v hc r => k c v ?_ r) (fun c r => by rw [upd_ne (nown c b r)]; exact r) fun c xs r => by rw [upd_ne (ntup c xs r)]; exact r
      rcases hc with rfl | hc
      · exact hbe
      · rintro rfl
        rcases he with z | z
        · exact nown c b hc z
        · rw [hc] at z; cases z; exact hb rfl
end
structure Un (fs ex : List Addr) (H H' : Hp) (h h' : Heap) : Prop where
  keep : ∀ b o, h.get? b = some o → H b = none → b ∉ fs → b ∉ ex → h'.get? b = some o
  slot : ∀ b o, h.get? b = some o → H b = none → b ∈ fs → b ∉ ex → ∃ sl, h'.get? b = some { o with slots := sl }
  free : ∀ b o, h.get? b = some o → H b = none → b ∉ ex → H' b = none
  there : ∀ b o, h.get? b = some o → b ∉ ex → ∃ o', h'.get? b = some o'
  tups : ∀ b xs, H b = some (.tup xs) → H' b = some (.tup xs)
  frzs : ∀ b o u, H b = some (.frz o u) → H' b = some (.frz o u)
  tbls : ∀ b ps, H b = some (.tbl ps) → ∃ more, H' b = some (.tbl (ps ++ more))
section
variable {fs fs' ex ex' : List Addr} {H H1 H2 : Hp} {h h1 h2 h' : Heap} {a x e : Addr} {o : HO}
theorem Un.any (u : Un fs ex H H1 h h1) {b : Addr} {ob : Obj} (q : h.get? b = some ob) (n : H b = none) (hx : b ∉ ex) : ∃ sl, h1.get? b = some { ob with slots := sl } := by
  by_cases hb : b ∈ fs
  · exact u.slot b ob q n hb hx
  · exact ⟨ob.slots, u.keep b ob q n hb hx⟩
theorem Un.kept (k : ∀ b u, h.get? b = some u → h'.get? b = some u) : Un fs ex H H h h' :=
  ⟨fun b ob q _ _ _ => k b ob q, fun b ob q _ _ _ => ⟨ob.slots, k b ob q⟩, fun _ _ _ n _ => n, fun b ob q _ => ⟨ob, k b ob q⟩, fun _ _ q => q, fun _ _ _ q => q, fun _ ps q => ⟨#[], by rw [q]; simp⟩⟩
theorem Un.refl : Un fs ex H H h h := Un.kept fun _ _ q => q
theorem Un.laid (k : ∀ b u, h.get? b = some u → h'.get? b = some u) (hp : h.objs.size ≤ a) (hn : H a = none) : Un fs ex H (upd H a o) h h' where
  keep := fun b u q _ _ _ => k b u q
  slot := fun b u q _ _ _ => ⟨u.slots, k b u q⟩
  free := fun b u q n _ => by rw [upd_ne (Nat.ne_of_lt (Nat.lt_of_lt_of_le (Heap.lt_size q) hp))]; exact n
  there := fun b u q _ => ⟨u, k b u q⟩
  tups := fun b xs q => by rw [upd_ne (ne_of_none q hn)]; exact q
  frzs := fun b u xs q => by rw [upd_ne (ne_of_none q hn)]; exact q
  tbls := fun b ps q => ⟨#[], by rw [upd_ne (ne_of_none q hn), q]; simp⟩
theorem Un.write (mu : Mut (H x)) (he : e = x ∨ H e = some (.own x)) (k : ∀ b u, b ≠ e → h.get? b = some u → h'.get? b = some u) (heo : ∃ u, h'.get? e = some u) : Un fs ex H (upd H x o) h h' := by
  have hx : ∀ b, H b = none → b ≠ x := fun b n z => by subst z; rw [n] at mu; exact mu
  have hb : ∀ b, H b = none → b ≠ e := fun b n z => by
    subst z
    rcases he with r | r
    · exact hx b n r
    · rw [n] at r; cases r
  have hm : ∀ b u, H b = some u → ¬ Mut (some u) → b ≠ x := fun b u q nm z => by subst z; rw [q] at mu; exact nm mu
  refine ⟨fun b u q n _ _ => k b u (hb b n) q, fun b u q n _ _ => ⟨u.slots, k b u (hb b n) q⟩, fun b u q n _ => by rw [upd_ne (hx b n)]; exact n, fun b u q _ => ?_,
    fun b xs q => by rw [upd_ne (hm b _ q fun z => z)]; exact q, fun b u xs q => by rw [upd_ne (hm b _ q fun z => z)]; exact q, fun b ps q => ⟨#[], by rw [upd_ne (hm b _ q fun z => z), q]; simp⟩⟩
  by_cases hbe : b = e
  · subst hbe; exact heo
  · exact ⟨u, k b u hbe q⟩
end
def trk (h : Heap) (H : Hp) : List Addr := (List.range h.objs.size).filter fun a => (H a).isSome
def hidT (h : Heap) (H : Hp) : Heap := PySem.W.hideAll h (trk h H)
theorem hidT_size (h : Heap) (H : Hp) : (hidT h H).objs.size = h.objs.size := PySem.W.hideAll_size _ _
theorem hidT_get {h : Heap} {H : Hp} {b : Addr} {o : Obj} (e : h.get? b = some o) (n : H b = none) : (hidT h H).get? b = some o :=
  PySem.W.hideAll_get _ e fun hm => by
    have q : (H b).isSome = true := (List.mem_filter.mp hm).2
    rw [n] at q; simp at q
theorem of_hidT {h : Heap} {H : Hp} {b : Addr} {o : Obj} (e : (hidT h H).get? b = some o) : h.get? b = some o ∧ H b = none := by
  have e' : h.get? b = some o := PySem.W.of_hideAll (trk h H) e
  refine ⟨e', ?_⟩
  cases q : H b with
  | none => rfl
  | some x =>
    have hm : b ∈ trk h H := List.mem_filter.mpr ⟨List.mem_range.mpr (Heap.lt_size e'), by simp [q]⟩
    have z : (hidT h H).get? b = none := PySem.W.hideAll_none (trk h H) hm
    rw [z] at e; cases e
end L2
namespace L2
open PySem PySem.Spec PyProof.Rows
structure Mod (K : PySem.W.Frag) (mg : Str → Option Value) (base : Heap) : Prop where
  kin : K.In base
  glob : base.Ns mainGlobals mg
  blt : ∃ mb, base.Ns builtinsNs mb ∧ ∀ x : Str, x ≠ "__name__" → mb x = bootBuiltins x
  nolimit : base.NoLimit
  bmod : ∃ bm o, mg "__builtins__" = some (.ref bm) ∧ bm ≠ builtinsNs ∧ base.get? bm = some o ∧ o.cls = .type "module" ∧ o.dict = some builtinsNs ∧ o.data = .plain
structure Cx where
  prog : Program
  w : World
  K : PySem.W.Frag
  mg : Str → Option Value
  base : Heap
  A : Around
  N : List Str
  s₀ : Shared
  H₀ : Hp
  env : Env
  outer : List Env
  stack : List Env
  ex : List Addr
  fn : Str → Bool
  calm : Bool
  pn : List (Addr × Obj)
  xe : Value → Shared → Prop
def frs (l : List Env) : List Addr := l.filterMap (·.frame)
abbrev Cx.fs (X : Cx) : List Addr := frs X.outer
def Vis (sc : Scope) (x : Str) : Prop := sc.names.lookup x = some .local ∨ sc.names.lookup x = some .cell ∨ sc.names.lookup x = some .free
def Loc (sc : Scope) (x : Str) : Prop := sc.names.lookup x = some .local ∨ sc.names.lookup x = some .cell
def Look (env : Env) (h : Heap) (m : Str → Option Value) (x : Str) (u : Value) : Prop :=
  (env.kindOf x = some .local ∧ m x = some u) ∨ ((env.kindOf x = some .cell ∨ env.kindOf x = some .free) ∧ ∃ c, env.cells.lookup x = some c ∧ h.IsCell c (some u))
structure Cx.Ok (X : Cx) : Prop where
  mod : Mod X.K X.mg X.base
  kind : X.env.scope.kind = .function
  glob : X.env.globals = mainGlobals
  blt : X.env.builtins = builtinsNs
  above : X.s₀.heap.objs.size ≤ X.env.locals
  inj : ∀ x y c, X.env.cells.lookup x = some c → X.env.cells.lookup y = some c → x = y
  has : ∀ x, (X.env.kindOf x = some .cell ∨ X.env.kindOf x = some .free) → ∃ c, X.env.cells.lookup x = some c
  cab : ∀ x c, X.fn x = true → X.env.cells.lookup x = some c → X.s₀.heap.objs.size ≤ c
  hd : X.calm = true → X.A.handled = none
  frames : X.A.frames = some X.stack
  stk : X.stack = X.outer ∨ (X.stack = X.env :: X.outer ∧ X.env.frame = some X.env.locals)
  exf : ∀ b ∈ X.ex, b ≠ X.env.locals ∧ ∀ x c, X.env.cells.lookup x = some c → c ≠ b
  bs : ∀ b o, X.base.get? b = some o → X.s₀.heap.get? b = some o ∧ X.H₀ b = none
  bsz : X.base.objs.size ≤ X.s₀.heap.objs.size
  noex : ∀ b o, X.base.get? b = some o → b ∉ X.ex
  exfs : ∀ b ∈ X.ex, b ∉ X.fs
  funs : X.s₀.heap.FunFrames X.base X.outer
  frf : ∀ b ∈ X.fs, X.H₀ b = none
structure Inv (X : Cx) (pins : List (Addr × Obj)) (σ : List (Option V)) (H : Hp) (s : Shared) : Prop where
  ok : X.Ok
  os : s.os = X.s₀.os
  bare : AllBare s.gens
  base : Un X.fs X.ex X.H₀ H X.s₀.heap s.heap
  loc : ∃ m, s.heap.Ns X.env.locals m ∧ ∀ (i : Nat) (x : Str) (v : V), X.N[i]? = some x → σ[i]? = some (some v) → Vis X.env.scope x → ∃ u, RelV v u ∧ Look X.env s.heap m x u
  cell : ∀ x c, X.env.cells.lookup x = some c → ∃ v, s.heap.IsCell c v
  free : H X.env.locals = none
  freeC : ∀ x c, X.env.cells.lookup x = some c → H c = none
  pin : ∀ p ∈ X.pn ++ pins, s.heap.get? p.1 = some p.2 ∧ H p.1 = none ∧ p.1 ≠ X.env.locals ∧ p.1 ∉ X.fs ∧ ∀ v, p.2.data ≠ .cell v
  hok : HOk X.prog X.w H s.heap
  len : σ.length = X.N.length
section
variable {X : Cx} {pins : List (Addr × Obj)} {σ : List (Option V)} {H H' : Hp} {s : Shared} {h' : Heap}
theorem Cx.Ok.nofr (ok : X.Ok) {b : Addr} {o : Obj} (e : X.base.get? b = some o) : b ∉ X.fs := fun hb => by
  have := (ok.funs.mem hb).1
  rw [e] at this; cases this
theorem Inv.bs (I : Inv X pins σ H s) : ∀ b o, X.base.get? b = some o → s.heap.get? b = some o ∧ H b = none := fun b o e =>
  ⟨I.base.keep b o (I.ok.bs b o e).1 (I.ok.bs b o e).2 (I.ok.nofr e) (I.ok.noex b o e), I.base.free b o (I.ok.bs b o e).1 (I.ok.bs b o e).2 (I.ok.noex b o e)⟩
theorem Inv.bk (I : Inv X pins σ H s) : ∀ b o, X.base.get? b = some o → s.heap.get? b = some o := fun b o e => (I.bs b o e).1
theorem Inv.mod (I : Inv X pins σ H s) : Mod X.K X.mg X.base := I.ok.mod
theorem Inv.kIn (I : Inv X pins σ H s) : X.K.In s.heap := I.ok.mod.kin.keeps I.bk
theorem Inv.lt (I : Inv X pins σ H s) : X.env.locals < s.heap.objs.size := let ⟨_, hn, _⟩ := I.loc; hn.lt
theorem Inv.sz (I : Inv X pins σ H s) : X.s₀.heap.objs.size ≤ s.heap.objs.size := Nat.le_trans I.ok.above (Nat.le_of_lt I.lt)
theorem Inv.nofs (I : Inv X pins σ H s) {a : Addr} (h : s.heap.objs.size ≤ a) : a ∉ X.fs := fun hb => by
  obtain ⟨_, o, ho, _⟩ := I.ok.funs.mem hb
  exact absurd (Nat.lt_of_lt_of_le (Heap.lt_size ho) (Nat.le_trans I.sz h)) (Nat.lt_irrefl _)
theorem Inv.cne (I : Inv X pins σ H s) : ∀ x c, X.env.cells.lookup x = some c → c ≠ X.env.locals := fun x c e z => by
  obtain ⟨v, o, ho, hd⟩ := I.cell x c e
  obtain ⟨m, ⟨o', es, ep, ho', hd', _⟩, _⟩ := I.loc
  rw [z, ho'] at ho; cases ho; rw [hd'] at hd; cases hd
theorem Inv.funs (I : Inv X pins σ H s) : s.heap.FunFrames X.base X.outer := by
  have all : ∀ (l : List Env), (∀ b ∈ frs l, b ∈ X.fs) → X.s₀.heap.FunFrames X.base l → s.heap.FunFrames X.base l := by
    intro l
    induction l with
    | nil => intro _ _; trivial
    | cons env r ih =>
      intro hs hl
      obtain ⟨hk, ⟨L, o, hf, hn, ho, hd⟩, hr⟩ := hl
      have hL : L ∈ X.fs := hs L (by unfold frs; rw [List.filterMap_cons, hf]; exact List.mem_cons_self)
      obtain ⟨sl, e⟩ := I.base.slot L o ho (I.ok.frf L hL) hL fun z => I.ok.exfs L z hL
      exact ⟨hk, ⟨L, _, hf, hn, e, hd⟩, ih (fun b hb => hs b (by unfold frs; rw [List.filterMap_cons, hf]; exact List.mem_cons_of_mem _ hb)) hr⟩
  exact all X.outer (fun _ hb => hb) I.ok.funs
theorem Inv.stack (I : Inv X pins σ H s) : s.heap.FunFrames X.base X.stack := by
  rcases I.ok.stk with e | ⟨e, hf⟩
  · rw [e]; exact I.funs
  · rw [e]
    obtain ⟨m, hn, _⟩ := I.loc
    refine .cons (by rw [I.ok.kind]; decide) hf hn ?_ I.funs
    exact Heap.get?_none_of_le (Nat.le_trans I.ok.bsz I.ok.above)
theorem Inv.stkSub (I : Inv X pins σ H s) : ∀ b ∈ frs X.stack, b ∈ X.env.locals :: X.fs := fun b hb => by
  rcases I.ok.stk with e | ⟨e, hf⟩
  · rw [e] at hb; exact List.mem_cons_of_mem _ hb
  · rw [e] at hb
    unfold frs at hb
    rw [List.filterMap_cons, hf] at hb
    exact hb
theorem Inv.stkFree (I : Inv X pins σ H s) : ∀ b ∈ frs X.stack, H b = none := fun b hb => by
  rcases List.mem_cons.mp (I.stkSub b hb) with e | hb
  · rw [e]; exact I.free
  · obtain ⟨_, o, ho, _⟩ := I.ok.funs.mem hb
    exact I.base.free b o ho (I.ok.frf b hb) fun z => I.ok.exfs b z hb
theorem Inv.step {g' : Array GenState} {t' : Nat} {d' : Drawn} {ch : List Addr} (I : Inv X pins σ H s)
    (hch : ∀ b ∈ ch, (b ∈ X.ex ∨ X.s₀.heap.objs.size ≤ b) ∧ b ≠ X.env.locals ∧ (∀ x c, X.env.cells.lookup x = some c → c ≠ b) ∧ ∀ p ∈ X.pn ++ pins, p.1 ≠ b)
    (keep : ∀ b o, b ≠ X.env.locals → b ∉ X.fs → b ∉ ch → s.heap.get? b = some o → H b = none → h'.get? b = some o)
    (slot : ∀ b o, b ≠ X.env.locals → b ∈ X.fs → b ∉ ch → s.heap.get? b = some o → H b = none → ∃ sl, h'.get? b = some { o with slots := sl }) (free : ∀ b o, b ∉ ch → s.heap.get? b = some o → H b = none → H' b = none)
    (there : ∀ b o, b ∉ ch → s.heap.get? b = some o → ∃ o', h'.get? b = some o')
    (tups : ∀ b xs, H b = some (.tup xs) → H' b = some (.tup xs)) (frzs : ∀ b o u, H b = some (.frz o u) → H' b = some (.frz o u)) (tbls : ∀ b ps, H b = some (.tbl ps) → ∃ more, H' b = some (.tbl (ps ++ more)))
    (ns : ∀ m, s.heap.Ns X.env.locals m → h'.Ns X.env.locals m) (hok : HOk X.prog X.w H' h') (hg : AllBare g') :
    Inv X pins σ H' { s with heap := h', gens := g', drawn := d', toks := t' } := by
  have neL : ∀ b o, X.s₀.heap.get? b = some o → b ≠ X.env.locals := fun b o e => Nat.ne_of_lt (Nat.lt_of_lt_of_le (Heap.lt_size e) I.ok.above)
  have neC : ∀ b o, X.s₀.heap.get? b = some o → b ∉ X.ex → b ∉ ch := fun b o e hx hb => by
    rcases (hch b hb).1 with z | z
    · exact hx z
    · exact absurd (Nat.lt_of_lt_of_le (Heap.lt_size e) z) (Nat.lt_irrefl _)
  have cellK : ∀ x c, X.env.cells.lookup x = some c → ∀ v, s.heap.IsCell c v → h'.IsCell c v := fun x c e v ⟨o, ho, hd⟩ => by
    have nch : c ∉ ch := fun z => (hch c z).2.2.1 x c e rfl
    by_cases hc : c ∈ X.fs
    · obtain ⟨sl, q⟩ := slot c o (I.cne x c e) hc nch ho (I.freeC x c e)
      exact ⟨_, q, hd⟩
    · exact ⟨o, keep c o (I.cne x c e) hc nch ho (I.freeC x c e), hd⟩
  refine ⟨I.ok, I.os, hg, ⟨fun b o e n hb hx => ?_, fun b o e n hb hx => ?_, fun b o e n hx => ?_, fun b o e hx => ?_, fun b xs e => tups b xs (I.base.tups b xs e), fun b o xs e => frzs b o xs (I.base.frzs b o xs e), fun b ps e => ?_⟩, ?_, fun x c e => ?_, ?_, fun x c e => ?_, fun p hp => ?_, hok, I.len⟩
  · exact keep b o (neL b o e) hb (neC b o e hx) (I.base.keep b o e n hb hx) (I.base.free b o e n hx)
  · obtain ⟨sl, e1⟩ := I.base.slot b o e n hb hx
    obtain ⟨sl', e2⟩ := slot b _ (neL b o e) hb (neC b o e hx) e1 (I.base.free b o e n hx)
    exact ⟨sl', e2⟩
  · obtain ⟨o', e1⟩ := I.base.there b o e hx
    exact free b o' (neC b o e hx) e1 (I.base.free b o e n hx)
  · obtain ⟨o', e1⟩ := I.base.there b o e hx
    exact there b o' (neC b o e hx) e1
  · obtain ⟨m1, e1⟩ := I.base.tbls b ps e
    obtain ⟨m2, e2⟩ := tbls b _ e1
    exact ⟨m1 ++ m2, by rw [e2, Array.append_assoc]⟩
  · obtain ⟨m, hn, hl⟩ := I.loc
    refine ⟨m, ns m hn, fun i x v e1 e2 e3 => ?_⟩
    obtain ⟨u, r, l⟩ := hl i x v e1 e2 e3
    refine ⟨u, r, ?_⟩
    rcases l with l | ⟨k, c, e, z⟩
    · exact .inl l
    · exact .inr ⟨k, c, e, cellK x c e _ z⟩
  · obtain ⟨v, z⟩ := I.cell x c e
    exact ⟨v, cellK x c e v z⟩
  · obtain ⟨m, ⟨o, _, _, ho, _⟩, _⟩ := I.loc
    exact free _ o (fun z => (hch _ z).2.1 rfl) ho I.free
  · obtain ⟨v, o, ho, hd⟩ := I.cell x c e
    exact free c o (fun z => (hch c z).2.2.1 x c e rfl) ho (I.freeC x c e)
  · obtain ⟨e, n, ne, nf, d⟩ := I.pin p hp
    have nch : p.1 ∉ ch := fun z => (hch p.1 z).2.2.2 p hp rfl
    exact ⟨keep p.1 p.2 ne nf nch e n, free p.1 p.2 nch e n, ne, nf, d⟩
theorem Inv.un {t' : Nat} (I : Inv X pins σ H s) (u : Un X.fs [] H H' s.heap h') (hok : HOk X.prog X.w H' h') : Inv X pins σ H' { s with heap := h', toks := t' } := by
  obtain ⟨m, ⟨o, es, ep, ho, r⟩, _⟩ := id I.loc
  obtain ⟨sl, hL⟩ := u.any ho I.free (by simp)
  exact I.step (g' := s.gens) (d' := s.drawn) (ch := []) (fun _ z => nomatch z) (fun b o _ hb _ e n => u.keep b o e n hb (by simp)) (fun b o _ hb _ e n => u.slot b o e n hb (by simp)) (fun b o _ e n => u.free b o e n (by simp)) (fun b o _ e => u.there b o e (by simp)) u.tups u.frzs u.tbls (fun m' hm => by
    obtain ⟨o', es', ep', ho', r'⟩ := hm
    rw [ho] at ho'; cases ho'
    exact ⟨_, es', ep', hL, r'⟩) hok I.bare
theorem Inv.call {g' : Array GenState} {t' : Nat} {d' : Drawn} {ch : List Addr} (I : Inv X pins σ H s) (u : Un (frs X.stack) ch H H' s.heap h') (hok : HOk X.prog X.w H' h') (hg : AllBare g')
    (hch : ∀ b ∈ ch, (b ∈ X.ex ∨ X.s₀.heap.objs.size ≤ b) ∧ b ≠ X.env.locals ∧ (∀ x c, X.env.cells.lookup x = some c → c ≠ b) ∧ ∀ p ∈ X.pn ++ pins, p.1 ≠ b) :
    Inv X pins σ H' { s with heap := h', gens := g', drawn := d', toks := t' } := by
  obtain ⟨m, ⟨o, es, ep, ho, r⟩, _⟩ := id I.loc
  obtain ⟨sl, hL⟩ := u.any ho I.free fun z => (hch _ z).2.1 rfl
  exact I.step (ch := ch) hch (fun b o hL hb hc e n => u.keep b o e n (fun z => (List.mem_cons.mp (I.stkSub b z)).elim hL hb) hc) (fun b o _ _ hc e n => u.any e n hc) (fun b o hc e n => u.free b o e n hc) (fun b o hc e => u.there b o e hc) u.tups u.frzs u.tbls (fun m' hm => by
    obtain ⟨o', es', ep', ho', r'⟩ := hm
    rw [ho] at ho'; cases ho'
    exact ⟨_, es', ep', hL, r'⟩) hok hg
theorem Inv.turned {t' : Nat} {it : Addr} (I : Inv X pins σ H s) (k : ∀ b o, b ≠ it → s.heap.get? b = some o → h'.get? b = some o) (hn : H it = none) (hL : it ≠ X.env.locals)
    (h1 : it ∈ X.ex ∨ X.s₀.heap.objs.size ≤ it) (h2 : ∀ x c, X.env.cells.lookup x = some c → c ≠ it) (h3 : ∀ p ∈ X.pn ++ pins, p.1 ≠ it) : Inv X pins σ H { s with heap := h', toks := t' } := by
  have nit : ∀ b u, H b = some u → b ≠ it := fun b u e z => by rw [z, hn] at e; cases e
  refine I.step (g' := s.gens) (d' := s.drawn) (ch := [it]) (fun b hb => ?_) (fun b o _ _ hc e _ => k b o (fun z => hc (by simp [z])) e) (fun b o _ _ hc e _ => ⟨o.slots, k b o (fun z => hc (by simp [z])) e⟩) (fun _ _ _ _ n => n)
    (fun b o hc e => ⟨o, k b o (fun z => hc (by simp [z])) e⟩) (fun _ _ e => e) (fun _ _ _ e => e) (fun b ps e => ⟨#[], by rw [e]; simp⟩) (fun m hm => ?_) (fun b u e => ?_) I.bare
  · have e : b = it := by simpa using hb
    subst e
    exact ⟨h1, hL, h2, h3⟩
  · obtain ⟨o, es, ep, ho, r⟩ := hm
    exact ⟨o, es, ep, k _ o (Ne.symm hL) ho, r⟩
  · refine (I.hok b u e).stay (fun c v hc q => k c v ?_ q) (fun _ q => q) fun _ _ q => q
    rcases hc with z | z
    · rw [z]; exact nit b u e
    · exact nit c _ z
theorem Inv.tok (I : Inv X pins σ H s) (t : Nat) : Inv X pins σ H { s with toks := t } := I.un (h' := s.heap) (t' := t) Un.refl I.hok
theorem Inv.kept {t' : Nat} (I : Inv X pins σ H s) (k : ∀ b u, s.heap.get? b = some u → h'.get? b = some u) : Inv X pins σ H { s with heap := h', toks := t' } := I.un (Un.kept k) (I.hok.kept k)
theorem Inv.laid {a : Addr} {o : HO} {t' : Nat} (I : Inv X pins σ H s) (k : ∀ b u, s.heap.get? b = some u → h'.get? b = some u) (hp : s.heap.objs.size ≤ a) (new : ObjOk X.prog X.w (upd H a o) h' a o) :
    Inv X pins σ (upd H a o) { s with heap := h', toks := t' } := I.un (Un.laid k hp (I.hok.fresh hp)) (I.hok.laid k hp new)
theorem Inv.write {x e : Addr} {o : HO} {t' : Nat} (I : Inv X pins σ H s) (mu : Mut (H x)) (he : e = x ∨ H e = some (.own x)) (k : ∀ b u, b ≠ e → s.heap.get? b = some u → h'.get? b = some u) (heo : ∃ u, h'.get? e = some u)
    (new : ObjOk X.prog X.w (upd H x o) h' x o) : Inv X pins σ (upd H x o) { s with heap := h', toks := t' } := I.un (Un.write mu he k heo) (I.hok.write mu he k heo new)
theorem Inv.pins_of {pins' : List (Addr × Obj)} (I : Inv X pins σ H s) (h : ∀ p ∈ pins', s.heap.get? p.1 = some p.2 ∧ H p.1 = none ∧ p.1 ≠ X.env.locals ∧ p.1 ∉ X.fs ∧ ∀ v, p.2.data ≠ .cell v) : Inv X pins' σ H s :=
  ⟨I.ok, I.os, I.bare, I.base, I.loc, I.cell, I.free, I.freeC, fun p hp => (List.mem_append.mp hp).elim (fun z => I.pin p (List.mem_append_left _ z)) (h p), I.hok, I.len⟩
theorem nodup_ix {N : List Str} (hN : N.Nodup) {i j : Nat} {x : Str} (a : N[i]? = some x) (b : N[j]? = some x) : i = j := by
  obtain ⟨h1, e1⟩ := List.getElem?_eq_some_iff.mp a
  obtain ⟨h2, e2⟩ := List.getElem?_eq_some_iff.mp b
  exact (List.getElem_inj hN).mp (e1.trans e2.symm)
theorem store_ok2 {M : Model} {A : Around} {E : Value → Shared → Prop} {i : Nat} {x : Str} {v : V} {u : Value} {Q : Unit → Shared → Prop} (I : Inv X pins σ H s) (hN : X.N.Nodup) (hi : X.N[i]? = some x) (hx : Loc X.env.scope x) (r : RelV v u)
    (h : ∀ s', Inv X pins (σ.set i (some v)) H s' → (∃ a, Heap.SameBut a s.heap s'.heap ∧ (a = X.env.locals ∨ X.env.cells.lookup x = some a)) → Q () s') (hf : X.fn x = true ∨ X.env.scope.names.lookup x = some .local := by first | exact .inl rfl | exact .inr rfl | assumption) : wpAny M A (storeName X.env x u) Q E s := by
  obtain ⟨m, hn, hl⟩ := id I.loc
  have hcls : (X.env.scope.kind == .class || (X.env.scope.kind == .module && X.env.locals != X.env.globals)) = false := by rw [I.ok.kind]; rfl
  have hiσ : i < σ.length := by rw [I.len]; exact (List.getElem?_eq_some_iff.mp hi).1
  have cne := I.cne
  have tracked : ∀ {a : Addr} {h' : Heap}, (∃ o, s.heap.get? a = some o ∧ H a = none) → Heap.SameBut a s.heap h' → HOk X.prog X.w H h' := fun {a h'} ha hs b ob e => by
    obtain ⟨_, _, hfree⟩ := ha
    refine (I.hok b ob e).stay (fun c w' hc q => (hs.2 c ?_).trans q) (fun _ q => q) fun _ _ q => q
    rintro rfl
    rcases hc with rfl | hc
    · rw [hfree] at e; cases e
    · rw [hfree] at hc; cases hc
  rcases hx with hk | hk
  · refine wpAny_storeName_local hk hn (fun h' hn' hs => ?_) hcls
    obtain ⟨oL, _, _, hoL, _⟩ := id hn
    refine h _ ⟨I.ok, I.os, I.bare, ⟨fun b o e n hb hx => ?_, fun b o e n hb hx => ?_, I.base.free, fun b o e hx => ?_, I.base.tups, I.base.frzs, I.base.tbls⟩, ⟨_, hn', fun j y v' e1 e2 e3 => ?_⟩, fun y c e => ?_, I.free, I.freeC, fun p hp => ?_, tracked ⟨oL, hoL, I.free⟩ hs, by simpa using I.len⟩ ⟨_, hs, .inl rfl⟩
    · exact (hs.2 b (Nat.ne_of_lt (Nat.lt_of_lt_of_le (Heap.lt_size e) I.ok.above))).trans (I.base.keep b o e n hb hx)
    · obtain ⟨sl, e1⟩ := I.base.slot b o e n hb hx
      exact ⟨sl, (hs.2 b (Nat.ne_of_lt (Nat.lt_of_lt_of_le (Heap.lt_size e) I.ok.above))).trans e1⟩
    · obtain ⟨o', e1⟩ := I.base.there b o e hx
      exact ⟨o', (hs.2 b (Nat.ne_of_lt (Nat.lt_of_lt_of_le (Heap.lt_size e) I.ok.above))).trans e1⟩
    · by_cases hj : j = i
      · subst hj
        rw [hi] at e1; cases e1
        rw [List.getElem?_set_self hiσ] at e2
        cases e2
        exact ⟨u, r, .inl ⟨hk, by simp⟩⟩
      · rw [List.getElem?_set_ne (Ne.symm hj)] at e2
        obtain ⟨u', r', q⟩ := hl j y v' e1 e2 e3
        refine ⟨u', r', ?_⟩
        rcases q with ⟨k, e⟩ | ⟨k, c, e, z⟩
        · refine .inl ⟨k, ?_⟩
          have : y ≠ x := fun e => hj (nodup_ix hN e1 (e ▸ hi))
          simp [this, e]
        · exact .inr ⟨k, c, e, z.sameBut hs (cne y c e)⟩
    · obtain ⟨w', z⟩ := I.cell y c e
      exact ⟨w', z.sameBut hs (cne y c e)⟩
    · obtain ⟨e, n, ne, nf, d⟩ := I.pin p hp
      exact ⟨(hs.2 p.1 ne).trans e, n, ne, nf, d⟩
  · have hfn : X.fn x = true := by
      rcases hf with z | z
      · exact z
      · rw [z] at hk; cases hk
    obtain ⟨c, hc⟩ := I.ok.has x (.inl hk)
    obtain ⟨w', z⟩ := I.cell x c hc
    refine wpAny_storeName_cell I.ok.kind hk hc z (fun h' hc' hs => ?_)
    obtain ⟨oc, hoc, hocd⟩ := id z
    refine h { s with heap := h' } ⟨I.ok, I.os, I.bare, ⟨fun b o e n hb hx => ?_, fun b o e n hb hx => ?_, I.base.free, fun b o e hx => ?_, I.base.tups, I.base.frzs, I.base.tbls⟩, ⟨m, hn.sameBut hs (Ne.symm (cne x c hc)), fun j y v' e1 e2 e3 => ?_⟩, fun y c' e => ?_, I.free, I.freeC, fun p hp => ?_, tracked ⟨oc, hoc, I.freeC x c hc⟩ hs, by simpa using I.len⟩ ⟨c, hs, .inr hc⟩
    · exact (hs.2 b (Nat.ne_of_lt (Nat.lt_of_lt_of_le (Heap.lt_size e) (I.ok.cab x c hfn hc)))).trans (I.base.keep b o e n hb hx)
    · obtain ⟨sl, e1⟩ := I.base.slot b o e n hb hx
      exact ⟨sl, (hs.2 b (Nat.ne_of_lt (Nat.lt_of_lt_of_le (Heap.lt_size e) (I.ok.cab x c hfn hc)))).trans e1⟩
    · obtain ⟨o', e1⟩ := I.base.there b o e hx
      exact ⟨o', (hs.2 b (Nat.ne_of_lt (Nat.lt_of_lt_of_le (Heap.lt_size e) (I.ok.cab x c hfn hc)))).trans e1⟩
    · by_cases hj : j = i
      · subst hj
        rw [hi] at e1; cases e1
        rw [List.getElem?_set_self hiσ] at e2
        cases e2
        exact ⟨u, r, .inr ⟨.inl hk, c, hc, hc'⟩⟩
      · rw [List.getElem?_set_ne (Ne.symm hj)] at e2
        obtain ⟨u', r', q⟩ := hl j y v' e1 e2 e3
        refine ⟨u', r', ?_⟩
        rcases q with q | ⟨k, c', e, z'⟩
        · exact .inl q
        · refine .inr ⟨k, c', e, z'.sameBut hs ?_⟩
          rintro rfl
          exact hj (nodup_ix hN e1 (I.ok.inj _ _ _ e hc ▸ hi))
    · by_cases hcc : c' = c
      · subst hcc; exact ⟨_, hc'⟩
      · obtain ⟨w2, z2⟩ := I.cell y c' e
        exact ⟨w2, z2.sameBut hs hcc⟩
    · obtain ⟨e, n, ne, nf, d⟩ := I.pin p hp
      refine ⟨(hs.2 p.1 ?_).trans e, n, ne, nf, d⟩
      intro q
      rw [q, hoc] at e
      have q' : oc = p.2 := Option.some.inj e
      exact d w' (by rw [← q']; exact hocd)
theorem store_ok {M : Model} {A : Around} {E : Value → Shared → Prop} {i : Nat} {x : Str} {v : V} {u : Value} {Q : Unit → Shared → Prop} (I : Inv X pins σ H s) (hN : X.N.Nodup) (hi : X.N[i]? = some x) (hx : Loc X.env.scope x) (r : RelV v u)
    (h : ∀ s', Inv X pins (σ.set i (some v)) H s' → Q () s') (hf : X.fn x = true ∨ X.env.scope.names.lookup x = some .local := by first | exact .inl rfl | exact .inr rfl | assumption) : wpAny M A (storeName X.env x u) Q E s :=
  store_ok2 I hN hi hx r (fun s' I' _ => h s' I') hf
theorem Inv.call' {s' : Shared} {ch : List Addr} (I : Inv X pins σ H s) (ho : s'.os = s.os) (u : Un (frs X.stack) ch H H' s.heap s'.heap) (hok : HOk X.prog X.w H' s'.heap) (hg : AllBare s'.gens)
    (hch : ∀ b ∈ ch, (b ∈ X.ex ∨ X.s₀.heap.objs.size ≤ b) ∧ b ≠ X.env.locals ∧ (∀ x c, X.env.cells.lookup x = some c → c ≠ b) ∧ ∀ p ∈ X.pn ++ pins, p.1 ≠ b) : Inv X pins σ H' s' := by
  obtain ⟨h', g', d', t', o'⟩ := s'
  have e : o' = s.os := ho
  subst e
  exact I.call (g' := g') (t' := t') (d' := d') u hok hg hch
end
abbrev XK := Value → Option Addr → Hp → Prop
abbrev St := List (Option V)
abbrev VK := V → Hp → Prop
abbrev TE := St → Hp → VK → Prop
abbrev TT := St → Hp → (Bool → Hp → Prop) → Prop
abbrev TA := St → Hp → (List V → Hp → Prop) → Prop
structure Ends where
  nx : St → Hp → Prop
  rt : VK
  bk : St → Hp → Prop := fun _ _ => False
  ct : St → Hp → Prop := fun _ _ => False
abbrev TS := Ends → St → Hp → Prop
def EP (X : Cx) (pins : List (Addr × Obj)) (σ : St) (Q : VK) (u : Value) (s' : Shared) : Prop := ∃ v H', Inv X pins σ H' s' ∧ RelV v u ∧ Q v H'
def TP (X : Cx) (pins : List (Addr × Obj)) (σ : St) (Q : Bool → Hp → Prop) (b : Bool) (s' : Shared) : Prop := ∃ H', Inv X pins σ H' s' ∧ Q b H'
def AP (X : Cx) (pins : List (Addr × Obj)) (σ : St) (Q : List V → Hp → Prop) (us : List Value) (s' : Shared) : Prop := ∃ vs H', Inv X pins σ H' s' ∧ Vals vs us ∧ Q vs H'
def SP (X : Cx) (pins : List (Addr × Obj)) (D : Ends) (f : Flow) (s' : Shared) : Prop :=
  match f with
  | .next => ∃ σ' H', Inv X pins σ' H' s' ∧ D.nx σ' H'
  | .brk => ∃ σ' H', Inv X pins σ' H' s' ∧ D.bk σ' H'
  | .cont => ∃ σ' H', Inv X pins σ' H' s' ∧ D.ct σ' H'
  | .ret u => ∃ v σ' H', Inv X pins σ' H' s' ∧ RelV v u ∧ D.rt v H'
def PE (X : Cx) (e : Expr) (t : TE) : Prop :=
  ∀ (pins : List (Addr × Obj)) (s : Shared) (σ : St) (H : Hp) (Q : VK), Inv X pins σ H s → t σ H Q → wpAny (model X.prog X.w) X.A (eval e X.env) (EP X pins σ Q) X.xe s
def PT (X : Cx) (e : Expr) (t : TT) : Prop :=
  ∀ (pins : List (Addr × Obj)) (s : Shared) (σ : St) (H : Hp) (Q : Bool → Hp → Prop), Inv X pins σ H s → t σ H Q → wpAny (model X.prog X.w) X.A (isTrue e X.env (eval e X.env)) (TP X pins σ Q) X.xe s
def PW (X : Cx) (e : Expr) (t : TT) : Prop :=
  ∀ (whole : Sem Value) (pins : List (Addr × Obj)) (s : Shared) (σ : St) (H : Hp) (Q : Bool → Hp → Prop), Inv X pins σ H s → t σ H Q → wpAny (model X.prog X.w) X.A (isTrue e X.env whole) (TP X pins σ Q) X.xe s
theorem PW.pt {X : Cx} {e : Expr} {t : TT} (h : PW X e t) : PT X e t := h _
def PA (X : Cx) (es : List Expr) (t : TA) : Prop :=
  ∀ (pos : Pos) (pins : List (Addr × Obj)) (s : Shared) (σ : St) (H : Hp) (Q : List V → Hp → Prop), Inv X pins σ H s → t σ H Q → wpAny (model X.prog X.w) X.A (spliced (backTo pos (starEach es X.env))) (AP X pins σ Q) X.xe s
def PS (X : Cx) (st : Stmt) (t : TS) : Prop :=
  ∀ (pins : List (Addr × Obj)) (s : Shared) (σ : St) (H : Hp) (D : Ends), Inv X pins σ H s → t D σ H → wpAny (model X.prog X.w) X.A (exec st X.env) (SP X pins D) X.xe s
def PSs (X : Cx) (st : List Stmt) (t : TS) : Prop :=
  ∀ (pins : List (Addr × Obj)) (s : Shared) (σ : St) (H : Hp) (D : Ends), Inv X pins σ H s → t D σ H → wpAny (model X.prog X.w) X.A (execs st X.env) (SP X pins D) X.xe s
theorem thn {α : Type} {t : Sem α} {Q Q' : α → Shared → Prop} {M : Model} {A : Around} {E : Value → Shared → Prop} {s : Shared} (h : wpAny M A t Q E s) (hQ : ∀ a s, Q a s → Q' a s) : wpAny M A t Q' E s := wpAny_mono h hQ fun _ _ x => x
end L2
namespace L2
open PySem PySem.Spec PyProof.Rows
section
variable {X : Cx}
theorem bin {a b : Expr} {ta tb : TE} (ha : PE X a ta) (hb : PE X b tb) {pins : List (Addr × Obj)} {s : Shared} {σ : St} {H : Hp} {R : V → V → Hp → Prop} (I : Inv X pins σ H s) (h : ta σ H fun x H1 => tb σ H1 fun y H2 => R x y H2)
    {α : Type} {Q : α → Shared → Prop} {f : Value → Value → Sem α}
    (hf : ∀ v u s2 x y H2, Inv X pins σ H2 s2 → RelV x v → RelV y u → R x y H2 → wpAny (model X.prog X.w) X.A (f v u) Q X.xe s2) :
    wpAny (model X.prog X.w) X.A (eval a X.env) (fun v s₁ => wpAny (model X.prog X.w) X.A (eval b X.env) (fun u s₂ => wpAny (model X.prog X.w) X.A (f v u) Q X.xe s₂) X.xe s₁) X.xe s := by
  refine thn (ha pins s σ H _ I h) fun v s1 ⟨x, H1, I1, r1, q1⟩ => ?_
  refine thn (hb pins s1 σ H1 _ I1 q1) fun u s2 ⟨y, H2, I2, r2, q2⟩ => ?_
  exact hf v u s2 x y H2 I2 r1 r2 q2
def tVar (i : Nat) : TE := fun σ H Q => ∃ v, σ[i]? = some (some v) ∧ Q v H
def tC (v : V) : TE := fun _ H Q => Q v H
theorem pe_var {i : Nat} {x : Str} {pos : Pos} (hN : X.N[i]? = some x) (hv : Vis X.env.scope x) (hd : (x == ("__debug__" : Str)) = false := by decide) (hcd : (x == ("__classdict__" : Str)) = false := by decide) : PE X (.Name x pos) (tVar i) := by
  intro pins s σ H Q I h
  obtain ⟨v, e, h⟩ := h
  obtain ⟨m, hn, hl⟩ := I.loc
  obtain ⟨u, r, l⟩ := hl i x v hN e hv
  have fin : EP X pins σ Q u s := ⟨v, H, I, r, h⟩
  rcases l with ⟨hk, hm⟩ | ⟨hk, c, hc, hcell⟩
  · exact wpAny_Name (wpAny_loadName_local I.ok.kind hk hn hm fin) hd
  · rcases hk with hk | hk
    · exact wpAny_Name (wpAny_loadName_cell I.ok.kind hk hc hcell fin) hd
    · exact wpAny_Name (wpAny_loadName_free I.ok.kind hk hc hcell fin hcd) hd
theorem pe_int {i j pos} : PE X (.Constant (.int i) j pos) (tC (.int i)) := fun _ _ _ H _ I h => wpAny_Constant_int ⟨.int i, H, I.tok _, ⟨_, rfl⟩, h⟩
theorem pe_bl {b j pos} : PE X (.Constant (.bool b) j pos) (tC (.bl b)) := fun _ _ _ H _ I h => Constant_bool ⟨.bl b, H, I, rfl, h⟩
theorem pe_non {j pos} : PE X (.Constant .none j pos) (tC .non) := fun _ _ _ H _ I h => Constant_none ⟨.non, H, I, rfl, h⟩
theorem pe_str {x j pos} : PE X (.Constant (.str x) j pos) (tC (.str x)) := fun _ _ _ H _ I h => Calls.Constant_str ⟨.str x, H, I.tok _, ⟨_, rfl⟩, h⟩
def Gl (X : Cx) (x : Str) : Prop := X.env.kindOf x = some .globalImplicit
theorem ld_glob {E : Value → Shared → Prop} {pins : List (Addr × Obj)} {s : Shared} {σ : St} {H : Hp} {x : Str} {u : Value} {pos : Pos} {Q : Value → Shared → Prop} (I : Inv X pins σ H s) (hg : Gl X x) (hm : X.mg x = some u) (h : Q u s)
    (hd : (x == ("__debug__" : Str)) = false := by decide) : wpAny (model X.prog X.w) X.A (eval (.Name x pos) X.env) Q E s :=
  Calls.Name_function_global I.ok.kind hg (Calls.loadGlobal_global (by rw [I.ok.glob]; exact I.mod.glob.keeps I.bk) hm h) hd
theorem ld_blt {E : Value → Shared → Prop} {pins : List (Addr × Obj)} {s : Shared} {σ : St} {H : Hp} {x : Str} {u : Value} {pos : Pos} {Q : Value → Shared → Prop} (I : Inv X pins σ H s) (hg : Gl X x) (hm : X.mg x = none) (hv : bootBuiltins x = some u) (h : Q u s)
    (hn : x ≠ "__name__" := by decide) (hd : (x == ("__debug__" : Str)) = false := by decide) : wpAny (model X.prog X.w) X.A (eval (.Name x pos) X.env) Q E s := by
  obtain ⟨mb, h1, h2⟩ := I.mod.blt
  exact Calls.Name_function_global I.ok.kind hg (Calls.loadGlobal_builtin (by rw [I.ok.glob]; exact I.mod.glob.keeps I.bk) hm (by rw [I.ok.blt]; exact h1.keeps I.bk) ((h2 x hn).trans hv) h) hd
theorem pe_glob {x : Str} {v : V} {u : Value} {pos : Pos} (hg : Gl X x) (hm : X.mg x = some u) (r : RelV v u) (hd : (x == ("__debug__" : Str)) = false := by decide) : PE X (.Name x pos) (tC v) :=
  fun _ _ _ H _ I h => ld_glob I hg hm ⟨v, H, I, r, h⟩ hd
theorem pe_bltn {x : Str} {v : V} {u : Value} {pos : Pos} (hg : Gl X x) (hm : X.mg x = none) (hv : bootBuiltins x = some u) (r : RelV v u) (hn : x ≠ "__name__" := by decide) (hd : (x == ("__debug__" : Str)) = false := by decide) : PE X (.Name x pos) (tC v) :=
  fun _ _ _ H _ I h => ld_blt I hg hm hv ⟨v, H, I, r, h⟩ hn hd
variable {a b : Expr} {ta tb : TE} {pos : Pos}
def PC (X : Cx) (op : CmpOp) (a b : Expr) (t : TE) : Prop :=
  ∀ (pins : List (Addr × Obj)) (s : Shared) (σ : St) (H : Hp) (Q : VK), Inv X pins σ H s → t σ H Q →
    wpAny (model X.prog X.w) X.A (eval a X.env) (fun v s₁ => wpAny (model X.prog X.w) X.A (eval b X.env) (fun u s₂ => wpAny (model X.prog X.w) X.A (compareOp op v u) (EP X pins σ Q) X.xe s₂) X.xe s₁) X.xe s
def tB (t : TE) : TT := fun σ H Q => t σ H fun x H1 => ∃ c, x = .bl c ∧ Q c H1
theorem pt_cmp {op : CmpOp} {t : TE} (h : PC X op a b t) (h1 : behindInMarks op b = false := by first | exact nobehind _ (by decide) (by decide) | rfl) : PT X (.Compare a [op] [b] pos) (tB t) := by
  intro pins s σ H Q I hw
  refine wpAny_isTrue_Compare1 (thn (h pins s σ H _ I hw) fun v s1 h1 => thn h1 fun u s2 h2 => thn h2 fun c s3 ⟨x, H1, I1, r1, q1⟩ => ?_) h1
  obtain ⟨d, rfl, q⟩ := q1
  cases r1
  exact wpAny_truthy_bool ⟨H1, I1, q⟩
theorem pt_val {e : Expr} {t : TE} (h : PE X e t) (he : ∀ whole, isTrue e X.env whole = (do let v ← whole; standAt e.pos; holding [v] (truthy v)) := by intro _; rfl) : PT X e (tB t) := by
  intro pins s σ H Q I hw
  refine isTrue_plain (thn (h pins s σ H _ I hw) fun v s1 ⟨x, H1, I1, r1, q1⟩ => ?_) (he _)
  obtain ⟨d, rfl, q⟩ := q1
  cases r1
  exact wpAny_truthy_bool ⟨H1, I1, q⟩
variable {tA tB' : TT} {rest : List Expr}
def tAnd (t u : TT) : TT := fun σ H Q => t σ H fun c H1 => if c = true then u σ H1 Q else Q false H1
def tOr (t u : TT) : TT := fun σ H Q => t σ H fun c H1 => if c = true then Q true H1 else u σ H1 Q
def tNot (t : TT) : TT := fun σ H Q => t σ H fun c H1 => Q (!c) H1
theorem pw_and1 (ha : PT X a tA) : PW X (.BoolOp .And [a] pos) tA := by
  intro wh pins s σ H Q I h
  refine isTrue_and (thn (ha pins s σ H Q I h) fun c s1 e => ?_)
  cases c with
  | true => exact isTrue_and_nil e
  | false => exact e
theorem pw_or1 (ha : PT X a tA) : PW X (.BoolOp .Or [a] pos) tA := by
  intro wh pins s σ H Q I h
  refine isTrue_or (thn (ha pins s σ H Q I h) fun c s1 e => ?_)
  cases c with
  | false => exact isTrue_or_nil e
  | true => exact e
theorem pw_and (ha : PT X a tA) (hb : PW X (.BoolOp .And (b :: rest) pos) tB') : PW X (.BoolOp .And (a :: b :: rest) pos) (tAnd tA tB') := by
  intro wh pins s σ H Q I h
  refine isTrue_and (thn (ha pins s σ H _ I h) fun c s1 ⟨H1, I1, q1⟩ => ?_)
  cases c with
  | true => exact hb wh pins s1 σ H1 Q I1 q1
  | false => exact ⟨H1, I1, q1⟩
theorem pw_or (ha : PT X a tA) (hb : PW X (.BoolOp .Or (b :: rest) pos) tB') : PW X (.BoolOp .Or (a :: b :: rest) pos) (tOr tA tB') := by
  intro wh pins s σ H Q I h
  refine isTrue_or (thn (ha pins s σ H _ I h) fun c s1 ⟨H1, I1, q1⟩ => ?_)
  cases c with
  | true => exact ⟨H1, I1, q1⟩
  | false => exact hb wh pins s1 σ H1 Q I1 q1
theorem pt_not (ha : PT X a tA) : PT X (.UnaryOp .Not a pos) (tNot tA) := by
  intro pins s σ H Q I h
  exact isTrue_not (ha pins s σ H (fun c H1 => Q (!c) H1) I h)
def tAndV (ta tb : TE) : TE := fun σ H Q => ta σ H fun x H1 => ∃ c, x = .bl c ∧ if c = true then tb σ H1 Q else Q (.bl false) H1
def tOrV (ta tb : TE) : TE := fun σ H Q => ta σ H fun x H1 => ∃ c, x = .bl c ∧ if c = true then Q (.bl true) H1 else tb σ H1 Q
def tNotV (ta : TE) : TE := fun σ H Q => ta σ H fun x H1 => ∃ c, x = .bl c ∧ Q (.bl (!c)) H1
theorem pe_one {op} {t : TE} (h : PE X a t) : PE X (.BoolOp op [a] pos) t := fun pins s σ H Q I hw => BoolOp_one (h pins s σ H Q I hw)
theorem pe_and (ha : PE X a ta) (hb : PE X (.BoolOp .And (b :: rest) pos) tb) : PE X (.BoolOp .And (a :: b :: rest) pos) (tAndV ta tb) := by
  intro pins s σ H Q I h
  refine BoolOp_and (thn (ha pins s σ H _ I h) fun v s1 ⟨x, H1, I1, r1, q1⟩ => ?_)
  obtain ⟨c, rfl, q1⟩ := q1
  cases r1
  refine wpAny_truthy_bool ?_
  cases c with
  | true => exact hb pins s1 σ H1 Q I1 q1
  | false => exact ⟨.bl false, H1, I1, rfl, q1⟩
theorem pe_or (ha : PE X a ta) (hb : PE X (.BoolOp .Or (b :: rest) pos) tb) : PE X (.BoolOp .Or (a :: b :: rest) pos) (tOrV ta tb) := by
  intro pins s σ H Q I h
  refine BoolOp_or (thn (ha pins s σ H _ I h) fun v s1 ⟨x, H1, I1, r1, q1⟩ => ?_)
  obtain ⟨c, rfl, q1⟩ := q1
  cases r1
  refine wpAny_truthy_bool ?_
  cases c with
  | false => exact hb pins s1 σ H1 Q I1 q1
  | true => exact ⟨.bl true, H1, I1, rfl, q1⟩
theorem pe_not (ha : PE X a ta) : PE X (.UnaryOp .Not a pos) (tNotV ta) := by
  intro pins s σ H Q I h
  refine UnaryOp_ (thn (ha pins s σ H _ I h) fun v s1 ⟨x, H1, I1, r1, q1⟩ => ?_)
  obtain ⟨c, rfl, q1⟩ := q1
  cases r1
  exact not_of (wpAny_truthy_bool ⟨.bl (!c), H1, I1, rfl, q1⟩)
def tIf (t : TT) (ta tb : TE) : TE := fun σ H Q => t σ H fun c H1 => if c = true then ta σ H1 Q else tb σ H1 Q
theorem pe_ifExp {c : Expr} (hc : PT X c tA) (ha : PE X a ta) (hb : PE X b tb) : PE X (.IfExp c a b pos) (tIf tA ta tb) := by
  intro pins s σ H Q I h
  refine wpAny_IfExp (thn (hc pins s σ H _ I h) fun d s1 ⟨H1, I1, q1⟩ => ?_)
  cases d with
  | true => exact ha pins s1 σ H1 Q I1 q1
  | false => exact hb pins s1 σ H1 Q I1 q1
end
end L2
namespace L2
open PySem PySem.Spec PyProof.Rows
def SqL (K : PySem.W.Frag) (H : Hp) (a : Addr) (xs : List V) : Prop :=
  Rd H a (.lst xs) ∨
    ∃ (o : Obj) (its : Array Value) (n : Nat), K.lookup a = some o ∧ o.cls = .type "list" ∧ o.dict = none ∧ o.data = .seq its n ∧ its.size ≤ sizeLine ∧ Vals xs its.toList
def SqT (K : PySem.W.Frag) (H : Hp) (a : Addr) (xs : List V) : Prop :=
  Rd H a (.tup xs) ∨
    ∃ (o : Obj) (its : Array Value) (n : Nat), K.lookup a = some o ∧ o.cls = .type "tuple" ∧ o.data = .seq its n ∧ its.size ≤ sizeLine ∧ Vals xs its.toList
def absV : Value → Option V
  | .none => some .non
  | .bool b => some (.bl b)
  | .int i _ => some (.int i)
  | .str x _ => some (.str x)
  | .bytes b _ => some (.byt b)
  | .float b _ => some (.flt b)
  | .ref a => some (.ref a)
  | .type n => some (.ty n)
  | _ => none
theorem RelV.abs {x : V} {u : Value} (r : RelV x u) : absV u = some x := by
  cases x with
  | non => cases r; rfl
  | bl _ => cases r; rfl
  | int _ => obtain ⟨t, rfl⟩ := r; rfl
  | str _ => obtain ⟨t, rfl⟩ := r; rfl
  | byt _ => obtain ⟨t, rfl⟩ := r; rfl
  | flt _ => obtain ⟨t, rfl⟩ := r; rfl
  | ref _ => cases r; rfl
  | ty _ => cases r; rfl
theorem RelV.inj {x y : V} {u : Value} (r : RelV x u) (q : RelV y u) : x = y := Option.some.inj (r.abs.symm.trans q.abs)
theorem Vals.inj : ∀ {xs ys : List V} {us : List Value}, Vals xs us → Vals ys us → xs = ys
  | _, _, _, .nil, .nil => rfl
  | _, _, _, .cons r t, .cons r' t' => by rw [r.inj r', Vals.inj t t']
section
variable {X : Cx} {pins : List (Addr × Obj)} {σ : St} {H : Hp} {s : Shared} {a : Addr} {xs ys : List V}
theorem SqL.of {K : PySem.W.Frag} (h : H a = some (.lst xs)) : SqL K H a xs := .inl (.inl h)
theorem SqT.of {K : PySem.W.Frag} (h : H a = some (.tup xs)) : SqT K H a xs := .inl (.inl h)
theorem Inv.list (I : Inv X pins σ H s) (h : SqL X.K H a xs) : ∃ its : List Value, Vals xs its ∧ PlainL s.heap a its.toArray ∧ xs.length ≤ sizeLine := by
  rcases h with h | ⟨o, its, n, hk, hc, hd, hs, hz, r⟩
  · obtain ⟨z, its, n, r, e⟩ := h.ok I.hok
    exact ⟨its, r, ⟨_, n, e, rfl, rfl, rfl⟩, z⟩
  · refine ⟨its.toList, r, ⟨o, n, I.kIn a o hk, hc, hd, by simpa using hs⟩, ?_⟩
    have e := r.length
    simp only [Array.length_toList] at e
    omega
theorem Inv.tuple (I : Inv X pins σ H s) (h : SqT X.K H a xs) : ∃ its : List Value, Vals xs its ∧ IsTup s.heap a its.toArray ∧ xs.length ≤ sizeLine := by
  rcases h with h | ⟨o, its, n, hk, hc, hs, hz, r⟩
  · obtain ⟨z, its, r, p⟩ := h.ok I.hok
    exact ⟨its, r, p, z⟩
  · refine ⟨its.toList, r, ⟨o, I.kIn a o hk, hc, n, by simpa using hs⟩, ?_⟩
    have e := r.length
    simp only [Array.length_toList] at e
    omega
theorem Inv.list_inj (I : Inv X pins σ H s) (h : SqL X.K H a xs) (h' : SqL X.K H a ys) : xs = ys := by
  obtain ⟨its, r, ⟨o, n, e, _, _, d⟩, _⟩ := I.list h
  obtain ⟨its', r', ⟨o', n', e', _, _, d'⟩, _⟩ := I.list h'
  rw [e] at e'; cases e'
  rw [d] at d'
  injection d' with d1 _
  have : its = its' := by simpa using congrArg Array.toList d1
  subst this
  exact r.inj r'
end
abbrev Cx.wish (X : Cx) (E : Value → Shared → Prop) : Cx := { X with xe := E }
abbrev Cx.nox (X : Cx) : Cx := X.wish fun _ _ => False
theorem Cx.Ok.wish {X : Cx} (ok : X.Ok) (E : Value → Shared → Prop) : (X.wish E).Ok :=
  ⟨ok.mod, ok.kind, ok.glob, ok.blt, ok.above, ok.inj, ok.has, ok.cab, ok.hd, ok.frames, ok.stk, ok.exf, ok.bs, ok.bsz, ok.noex, ok.exfs, ok.funs, ok.frf⟩
theorem Cx.Ok.unwish {X : Cx} {E : Value → Shared → Prop} (ok : (X.wish E).Ok) : X.Ok :=
  ⟨ok.mod, ok.kind, ok.glob, ok.blt, ok.above, ok.inj, ok.has, ok.cab, ok.hd, ok.frames, ok.stk, ok.exf, ok.bs, ok.bsz, ok.noex, ok.exfs, ok.funs, ok.frf⟩
section
variable {X : Cx} {pins : List (Addr × Obj)} {σ : St} {H : Hp} {s : Shared} {E : Value → Shared → Prop}
theorem Inv.wish (I : Inv X pins σ H s) (E : Value → Shared → Prop) : Inv (X.wish E) pins σ H s := ⟨I.ok.wish E, I.os, I.bare, I.base, I.loc, I.cell, I.free, I.freeC, I.pin, I.hok, I.len⟩
theorem Inv.unwish (I : Inv (X.wish E) pins σ H s) : Inv X pins σ H s := ⟨I.ok.unwish, I.os, I.bare, I.base, I.loc, I.cell, I.free, I.freeC, I.pin, I.hok, I.len⟩
theorem SP.unwish {D : Ends} {f : Flow} {s' : Shared} (h : SP (X.wish E) pins D f s') : SP X pins D f s' := by
  cases f with
  | next => obtain ⟨σ', H', I, q⟩ := h; exact ⟨σ', H', I.unwish, q⟩
  | brk => obtain ⟨σ', H', I, q⟩ := h; exact ⟨σ', H', I.unwish, q⟩
  | cont => obtain ⟨σ', H', I, q⟩ := h; exact ⟨σ', H', I.unwish, q⟩
  | ret u => obtain ⟨v, σ', H', I, r, q⟩ := h; exact ⟨v, σ', H', I.unwish, r, q⟩
theorem PSs.nox {st : List Stmt} {t : TS} (h : PSs X.nox st t) : PSs X st t := fun pins s σ H D I hw =>
  wpAny_mono (h pins s σ H D (I.wish _) hw) (fun _ _ q => q.unwish) fun _ _ z => False.elim z
end
section
variable {X : Cx} {st : Stmt} {rest : List Stmt} {t u : TS} {e : Expr} {te : TE} {pos : Pos}
def tNext : TS := fun D σ H => D.nx σ H
def tSeq (t u : TS) : TS := fun D σ H => t { D with nx := u D } σ H
theorem pss_nil : PSs X [] tNext := fun _ _ σ H _ I h => wpAny_execs_nil ⟨σ, H, I, h⟩
theorem pss_cons (h1 : PS X st t) (h2 : PSs X rest u) : PSs X (st :: rest) (tSeq t u) := by
  intro pins s σ H D I h
  refine wpAny_execs_cons (thn (h1 pins s σ H { D with nx := u D } I h) fun f s1 q => ?_)
  cases f with
  | next =>
    obtain ⟨σ', H', I', q⟩ := q
    exact h2 pins s1 σ' H' D I' q
  | ret v => exact q
  | brk => exact q
  | cont => exact q
theorem pss_one (h1 : PS X st t) : PSs X [st] t := by
  intro pins s σ H D I h
  refine wpAny_execs_cons (thn (h1 pins s σ H D I h) fun f s1 q => ?_)
  cases f with
  | next => exact wpAny_execs_nil q
  | ret v => exact q
  | brk => exact q
  | cont => exact q
theorem Inv.quiet {pins : List (Addr × Obj)} {σ : St} {H : Hp} {s : Shared} (I : Inv X pins σ H s) : interactive X.env = false := by simp [interactive, I.ok.kind]
def tDrop (te : TE) : TS := fun D σ H => te σ H fun _ H1 => D.nx σ H1
theorem ps_expr (he : PE X e te) (hs : swapsWith e none pos.line X.env = pure false := by rfl) : PS X (.Expr e pos) (tDrop te) := by
  intro pins s σ H D I h
  exact wpAny_Expr_any (thn (he pins s σ H _ I h) fun v s1 ⟨x, H1, I1, r1, q1⟩ => ⟨σ, H1, I1, q1⟩) I.quiet hs
def tRet (te : TE) : TS := fun D σ H => te σ H D.rt
theorem ps_ret (he : PE X e te) : PS X (.Return (some e) pos) (tRet te) := by
  intro pins s σ H D I h
  exact wpAny_Return_some (thn (he pins s σ H _ I h) fun v s1 ⟨x, H1, I1, r1, q1⟩ => ⟨x, σ, H1, I1, r1, q1⟩)
def tIfS (c : TT) (t u : TS) : TS := fun D σ H => c σ H fun b H1 => if b = true then t D σ H1 else u D σ H1
theorem ps_if {c : Expr} {a b : List Stmt} {tc : TT} (hc : PT X c tc) (ha : PSs X a t) (hb : PSs X b u) : PS X (.If c a b pos) (tIfS tc t u) := by
  intro pins s σ H D I h
  refine wpAny_If (thn (hc pins s σ H _ I h) fun d s1 ⟨H1, I1, q1⟩ => ?_)
  cases d with
  | true => exact ha pins s1 σ H1 D I1 q1
  | false => exact hb pins s1 σ H1 D I1 q1
def tNever : TS := fun _ _ _ => False
theorem pss_never {sts : List Stmt} : PSs X sts tNever := fun _ _ _ _ _ _ h => h.elim
end
abbrev TG := V → St → Hp → (St → Hp → Prop) → Prop
abbrev TGs := List V → St → Hp → (St → Hp → Prop) → Prop
def PG (X : Cx) (target : Expr) (t : TG) : Prop :=
  ∀ (pins : List (Addr × Obj)) (s : Shared) (σ : St) (H : Hp) (v : V) (u : Value) (Q : St → Hp → Prop), Inv X pins σ H s → RelV v u → t v σ H Q →
    wpAny (model X.prog X.w) X.A (assign target X.env u) (fun _ s' => ∃ σ' H', Inv X pins σ' H' s' ∧ Q σ' H') X.xe s
def PGs (X : Cx) (ts : List Expr) (t : TGs) : Prop :=
  ∀ (pins : List (Addr × Obj)) (s : Shared) (σ : St) (H : Hp) (vs : List V) (us : List Value) (Q : St → Hp → Prop), Inv X pins σ H s → Vals vs us → t vs σ H Q →
    wpAny (model X.prog X.w) X.A (assignInOrder ((assignEach ts X.env).map (·.2)) us) (fun _ s' => ∃ σ' H', Inv X pins σ' H' s' ∧ Q σ' H') X.xe s
section
variable {X : Cx} {pos : Pos}
def gName (i : Nat) : TG := fun v σ H Q => Q (σ.set i (some v)) H
theorem pg_name {i : Nat} {x : Str} (hN : X.N.Nodup) (hi : X.N[i]? = some x) (hx : Loc X.env.scope x) (hf : X.fn x = true ∨ X.env.scope.names.lookup x = some .local := by first | exact .inl rfl | exact .inr rfl | assumption) : PG X (.Name x pos) (gName i) := by
  intro pins s σ H v u Q I r h
  exact wpAny_assign_Name (store_ok I hN hi hx r (fun s' I' => ⟨_, H, I', h⟩) hf)
def gNil : TGs := fun vs σ H Q => vs = [] ∧ Q σ H
def gCons (t : TG) (u : TGs) : TGs := fun vs σ H Q => ∃ v r, vs = v :: r ∧ t v σ H fun σ' H' => u r σ' H' Q
theorem pgs_nil : PGs X [] gNil := by
  intro pins s σ H vs us Q I r h
  obtain ⟨e, h⟩ := h
  subst e
  cases r
  exact assignInOrder_nil ⟨σ, H, I, h⟩
theorem pgs_cons {e : Expr} {es : List Expr} {t : TG} {u : TGs} (h1 : PG X e t) (h2 : PGs X es u)
    (hs : (assignEach (e :: es) X.env).map (·.2) = assign e X.env :: (assignEach es X.env).map (·.2) := by rfl) : PGs X (e :: es) (gCons t u) := by
  intro pins s σ H vs us Q I r h
  obtain ⟨v, vr, e1, h⟩ := h
  subst e1
  cases r with
  | cons r rr =>
    rw [hs]
    refine assignInOrder_cons (thn (h1 pins s σ H _ _ _ I r h) fun _ s1 ⟨σ1, H1, I1, q1⟩ => ?_)
    exact h2 pins s1 σ1 H1 _ _ Q I1 rr q1
def gTup (K : PySem.W.Frag) (n : Nat) (t : TGs) : TG := fun v σ H Q => ∃ a xs, v = .ref a ∧ SqT K H a xs ∧ xs.length = n ∧ t xs σ H Q
theorem pg_tup {es : List Expr} {k : Nat} {t : TGs} {n : Nat} (hc : X.calm = true) (h : PGs X es t)
    (hn : (assignEach es X.env).length = n := by rfl) (hst : (assignEach es X.env).findIdx? (·.1) = none := by rfl) : PG X (.Tuple es k pos) (gTup X.K n t) := by
  intro pins s σ H v u Q I r hw
  obtain ⟨a, xs, e1, hq, hl, hw⟩ := hw
  subst e1
  cases r
  obtain ⟨its, rv, ht, hz⟩ := I.tuple hq
  refine assign_Tuple_tuple (I.ok.hd hc) ht (by simp [hn, ← hl, rv.length]) hst fun h' hx => ?_
  have I1 : Inv X pins σ H { s with heap := h' } := I.kept (t' := s.toks) fun b o e => hx b o (Nat.ne_of_lt (Heap.lt_size e)) e
  exact h pins _ σ H xs _ Q I1 (by simpa using rv) hw
def tAsg (te : TE) (g : TG) : TS := fun D σ H => te σ H fun x H1 => g x σ H1 D.nx
theorem ps_asg {tg e : Expr} {te : TE} {g : TG} (he : PE X e te) (hg : PG X tg g) (hs : swapsWithSole [tg] e pos.line X.env = pure false := by rfl) (hw : swappedStores [tg] e X.env = pure none := by rfl)
    (h1 : (assignEach [tg] X.env).map (·.2) = [assign tg X.env] := by rfl) : PS X (.Assign [tg] e pos) (tAsg te g) := by
  intro pins s σ H D I h
  refine wpAny_Assign_stores (thn (he pins s σ H _ I h) fun v s1 ⟨x, H1, I1, r1, q1⟩ => ?_) hs hw
  rw [h1]
  exact thn (hg pins s1 σ H1 x v _ I1 r1 q1) fun _ s2 q => q
theorem ps_set {i : Nat} {x : Str} {e : Expr} {te : TE} {pos' : Pos} (hN : X.N.Nodup) (hi : X.N[i]? = some x) (hx : Loc X.env.scope x) (he : PE X e te) (hs : swapsWith e (some (.Name x pos')) pos.line X.env = pure false := by rfl) (hf : X.fn x = true ∨ X.env.scope.names.lookup x = some .local := by first | exact .inl rfl | exact .inr rfl | assumption) :
    PS X (.Assign [.Name x pos'] e pos) (tAsg te (gName i)) := by
  intro pins s σ H D I h
  refine wpAny_Assign_Name (thn (he pins s σ H _ I h) fun v s1 ⟨y, H1, I1, r1, q1⟩ => ?_) hs
  exact store_ok I1 hN hi hx r1 (fun s2 I2 => ⟨_, H1, I2, q1⟩) hf
def tPar (i j : Nat) (ta : TA) : TS := fun D σ H => ta σ H fun vs H1 => ∃ v w, vs = [v, w] ∧ D.nx ((σ.set i (some v)).set j (some w)) H1
theorem ps_par {i j : Nat} {x y : Str} {a b : Expr} {ta : TA} {px py pt : Pos} {kt k2 pt2} (hc : X.calm = true) (hN : X.N.Nodup) (hi : X.N[i]? = some x) (hj : X.N[j]? = some y) (hij : i ≠ j)
    (hx : X.env.scope.names.lookup x = some .local) (hy : X.env.scope.names.lookup y = some .local) (ha : PA X [a, b] ta)
    (hw : swappedStores [.Tuple [.Name x px, .Name y py] kt pt] (.Tuple [a, b] k2 pt2) X.env = pure (some [x, y]))
    (hs : swapsWithSole [.Tuple [.Name x px, .Name y py] kt pt] (.Tuple [a, b] k2 pt2) pos.line X.env = pure false := by rfl) :
    PS X (.Assign [.Tuple [.Name x px, .Name y py] kt pt] (.Tuple [a, b] k2 pt2) pos) (tPar i j ta) := by
  intro pins s σ H D I h
  rw [exec_Assign_arm]
  refine wpAny_bind (wpAny_standAt ?_)
  rw [hs]
  refine wpAny_bind (wpAny_pure ?_)
  rw [if_neg (by decide)]
  refine wpAny_bind (Tuple_ (thn (ha _ pins s σ H _ I h) fun us s1 ⟨vs, H1, I1, r1, q1⟩ => ?_))
  obtain ⟨v, w, e1, q1⟩ := q1
  subst e1
  obtain ⟨u1, u2, rfl, rv, rw'⟩ : ∃ u1 u2, us = [u1, u2] ∧ RelV v u1 ∧ RelV w u2 := by
    cases r1 with
    | cons p q =>
      cases q with
      | cons p' q' =>
        cases q'
        exact ⟨_, _, rfl, p, p'⟩
  refine wpAny_newObj_type ?_ (by show 2 ≤ sizeLine; decide)
  have I2 : Inv X pins σ H1 { s1 with heap := s1.heap.push { cls := .type "tuple", data := .seq [u1, u2].toArray } } := I1.kept (t' := s1.toks) fun b o e => Heap.get?_push_of_some _ e
  rw [hw]
  refine wpAny_bind (wpAny_pure ?_)
  show wpAny (model X.prog X.w) X.A (do rule "assign.swapped-stores"; let items ← unpackItems (.ref s1.heap.objs.size) 2 none; assignInOrder [fun v => bindName X.env y v, fun v => bindName X.env x v] items.reverse; pure Flow.next) _ _ _
  refine wpAny_bind (wpAny_rule (wpAny_bind (unpackItems_tuple (items := #[u1, u2]) (I.ok.hd hc) (IsTup.new s1.heap _) fun h' hx' => ?_)))
  have I3 := I2.kept (h' := h') (t' := s1.toks) fun b o e => hx' b o (Nat.ne_of_lt (Heap.lt_size e)) e
  show wpAny _ _ (assignInOrder [fun v => bindName X.env y v, fun v => bindName X.env x v] [u2, u1] >>= fun _ => pure Flow.next) _ _ _
  refine wpAny_bind (assignInOrder_cons (wpAny_bindName (store_ok I3 hN hj (.inl hy) rw' (fun s2 I4 => ?_) (.inr hy))))
  refine assignInOrder_cons (wpAny_bindName (store_ok I4 hN hi (.inl hx) rv (fun s3 I5 => assignInOrder_nil (wpAny_pure ?_)) (.inr hx)))
  rw [List.set_comm _ _ (Ne.symm hij)] at I5
  exact ⟨_, H1, I5, q1⟩
end
section
variable {X : Cx} {pos : Pos}
end
structure It where
  go : Nat → Hp → Prop
  yld : Nat → Hp → V → Hp → Prop
  stop : Nat → Hp → Prop
def FpOk (X : Cx) (pins : List (Addr × Obj)) (H : Hp) (b : Addr) : Prop :=
  H b = none ∧ b ≠ X.env.locals ∧ b ∉ X.fs ∧ (b ∈ X.ex ∨ X.s₀.heap.objs.size ≤ b) ∧ (∀ x c, X.env.cells.lookup x = some c → c ≠ b) ∧ ∀ p ∈ X.pn ++ pins, p.1 ≠ b
theorem Inv.fpOk {X : Cx} {pins : List (Addr × Obj)} {σ : St} {H H' : Hp} {s : Shared} {b : Addr} (I : Inv X pins σ H s) (hb : s.heap.objs.size ≤ b) (hn : H' b = none) : FpOk X pins H' b := by
  refine ⟨hn, Nat.ne_of_gt (Nat.lt_of_lt_of_le I.lt hb), I.nofs hb, .inr (Nat.le_trans I.sz hb), fun x c e z => ?_, fun p hp z => ?_⟩
  · obtain ⟨v, q⟩ := I.cell x c e
    exact absurd (Nat.lt_of_lt_of_le q.lt (by rw [z]; exact hb)) (Nat.lt_irrefl _)
  · exact absurd (Nat.lt_of_lt_of_le (Heap.lt_size (I.pin p hp).1) (by rw [z]; exact hb)) (Nat.lt_irrefl _)
structure Turn (P : Program) (w : World) (K : PySem.W.Frag) (tg : Expr) (J : It) (fp : List Addr) (it : Addr) (tn : Nat → Heap → Prop) : Prop where
  mem : it ∈ fp
  obj : ∀ i h, tn i h → ∀ b ∈ fp, ∃ o, h.get? b = some o ∧ ∀ v, o.data ≠ .cell v
  keep : ∀ i h h', tn i h → (∀ b ∈ fp, ∀ o, h.get? b = some o → h'.get? b = some o) → tn i h'
  item : ∀ (X : Cx), X.prog = P → X.w = w → X.K = K → X.calm = true → ∀ (i : Nat) (pins : List (Addr × Obj)) (s : Shared) (σ : St) (H : Hp) (E : Value → Shared → Prop), Inv X pins σ H s → (∀ b ∈ fp, FpOk X pins H b) → tn i s.heap → J.go i H →
    wpAny (model P w) X.A (pyNext (.ref it)) (fun r s1 => ∃ u, r = some u ∧
      wpAny (model P w) X.A (letOwnedTupleGo tg (.ref it) u) (fun _ s2 => ∃ x H', Inv X pins σ H' s2 ∧ RelV x u ∧ J.yld i H x H' ∧ tn (i + 1) s2.heap ∧ ∀ b ∈ fp, H' b = none) E s1) E s
  done : ∀ (X : Cx), X.prog = P → X.w = w → X.K = K → X.calm = true → ∀ (i : Nat) (pins : List (Addr × Obj)) (s : Shared) (σ : St) (H : Hp) (E : Value → Shared → Prop), Inv X pins σ H s → (∀ b ∈ fp, FpOk X pins H b) → tn i s.heap → J.stop i H →
    wpAny (model P w) X.A (pyNext (.ref it)) (fun r s1 => r = none ∧ Inv X pins σ H s1) E s
  self : ∀ (A : Around) (i : Nat) (s : Shared) (Q : Value → Shared → Prop) (E : Value → Shared → Prop), tn i s.heap → Q (.ref it) s → wpAny (model P w) A (pyIter (.ref it)) Q E s
abbrev TI := St → Hp → (It → Hp → Prop) → Prop
def PIE (X : Cx) (pins : List (Addr × Obj)) (σ : St) (tg : Expr) (R : It → Hp → Prop) (itv : Value) (s2 : Shared) : Prop :=
  ∃ (it : Addr) (fp : List Addr) (tn : Nat → Heap → Prop) (J : It) (H' : Hp), itv = .ref it ∧ Inv X pins σ H' s2 ∧ Turn X.prog X.w X.K tg J fp it tn ∧ tn 0 s2.heap ∧ (∀ b ∈ fp, FpOk X pins H' b) ∧ R J H'
def PI (X : Cx) (tg iter : Expr) (wi : TI) : Prop :=
  ∀ (pins : List (Addr × Obj)) (s : Shared) (σ : St) (H : Hp) (R : It → Hp → Prop), Inv X pins σ H s → wi σ H R →
    wpAny (model X.prog X.w) X.A (eval iter X.env) (fun v s1 => wpAny (model X.prog X.w) X.A (pyIter v) (PIE X pins σ tg R) X.xe s1) X.xe s
theorem go_of {M : Model} {A : Around} {E : Value → Shared → Prop} {s : Shared} {tg : Expr} {it : Addr} {u : Value} {o : Obj} {n : String} {vs : Array Value} {Q : Unit → Shared → Prop} (ho : s.heap.get? it = some o) (hc : o.cls = .type n) (hd : o.data = .fields vs)
    (hn : ["enumerate", "zip", "dict_itemiterator", "dict_reverseitemiterator", "odict_iterator", "itertools.zip_longest", "itertools.pairwise"].contains n = false) (hQ : Q () s) : wpAny M A (letOwnedTupleGo tg (.ref it) u) Q E s := by
  unfold letOwnedTupleGo
  cases tg <;> first
    | exact wpAny_pure hQ
    | (cases u <;> first
        | exact wpAny_pure hQ
        | (refine wpAny_bind (wpAny_load ho ?_)
           rw [hc, hd]
           show wpAny M A (if (["enumerate", "zip", "dict_itemiterator", "dict_reverseitemiterator", "odict_iterator", "itertools.zip_longest", "itertools.pairwise"].contains n && vs[0]? == some (rawInt _)) = true then _ else _) Q E s
           rw [if_neg (by intro h; rw [hn, Bool.false_and] at h; cases h)]
           exact wpAny_pure hQ))
def Itl (K : PySem.W.Frag) (a : Addr) : It :=
  ⟨fun i H => ∃ xs x, SqL K H a xs ∧ xs[i]? = some x, fun i H x H' => H' = H ∧ ∀ xs, SqL K H a xs → xs[i]? = some x, fun i H => ∃ xs, SqL K H a xs ∧ xs.length ≤ i⟩
def Itr (lo : Int) (n : Nat) : It := ⟨fun i _ => i < n, fun i H x H' => H' = H ∧ x = .int (lo + i), fun i _ => n ≤ i⟩
theorem turn_list {P : Program} {w : World} {K : PySem.W.Frag} {tg : Expr} (a it : Addr) : Turn P w K tg (Itl K a) [it] it (fun i h => h.IsListIter it a i) where
  mem := by simp
  obj := fun i h st b hb => by
    have e : b = it := by simpa using hb
    subst e
    obtain ⟨o, e, c, d⟩ := st
    exact ⟨o, e, fun v z => by rw [d] at z; cases z⟩
  keep := fun i h h' st k => st.at fun o e => k it (by simp) o e
  item := by
    intro X hP hw hK hc i pins s σ H E I hf st hg
    subst hP hw hK
    obtain ⟨xs, x, hq, hx⟩ := hg
    obtain ⟨its, rv, p, hz⟩ := I.list hq
    obtain ⟨u, hu, ru⟩ := rv.get hx
    obtain ⟨f0, f1, f2, f3, f4, f5⟩ := hf it (by simp)
    refine wpAny_pyNext_list_item st p.isList (x := u) (by simpa using hu) fun h' st' sb => ?_
    have I1 : Inv X pins σ H { s with heap := h' } := I.turned (t' := s.toks) (fun b o hb e => (sb.2 b hb).trans e) f0 f1 f3 f4 f5
    obtain ⟨o, e, c, d⟩ := id st'
    exact ⟨u, rfl, go_of (s := { s with heap := h' }) e c d (by decide) ⟨x, H, I1, ru, ⟨rfl, fun ys hy => by rw [I.list_inj hy hq]; exact hx⟩, st', fun b hb => (hf b hb).1⟩⟩
  done := by
    intro X hP hw hK hc i pins s σ H E I hf st hg
    subst hP hw hK
    obtain ⟨xs, hq, hx⟩ := hg
    obtain ⟨its, rv, p, hz⟩ := I.list hq
    obtain ⟨f0, f1, f2, f3, f4, f5⟩ := hf it (by simp)
    have hl := rv.length
    exact wpAny_pyNext_list_end (I.ok.hd hc) st p.isList (by simp; omega) fun h' eb => ⟨rfl, I.turned (t' := s.toks) (fun b o hb e => eb b o hb e) f0 f1 f3 f4 f5⟩
  self := fun _ _ _ _ _ st h => wpAny_pyIter_listiter st h
theorem turn_range {P : Program} {w : World} {K : PySem.W.Frag} {tg : Expr} (it : Addr) (lo : Int) (n : Nat) : Turn P w K tg (Itr lo n) [it] it (fun i h => IsRangeIter h it (lo + (i : Nat) * 1) ((n : Int) - (i : Nat)) 1) where
  mem := by simp
  obj := fun i h st b hb => by
    have e : b = it := by simpa using hb
    subst e
    exact ⟨_, st, fun v z => by
      have z' : Data.fields _ = Data.cell v := z
      cases z'⟩
  keep := fun i h h' st k => k it (by simp) _ st
  item := by
    intro X hP hw hK hc i pins s σ H E I hf st hg
    subst hP hw hK
    obtain ⟨f0, f1, f2, f3, f4, f5⟩ := hf it (by simp)
    have W := Walks.range (prog := X.prog) (w := X.w) (I.ok.hd hc) it lo 1 n
    refine W.item i s _ _ hg st fun v h' tk hv st' kk => ?_
    obtain ⟨t, rfl⟩ := hv
    have I1 : Inv X pins σ H { s with heap := h', toks := tk } := I.turned (fun b o hb e => kk b o (by simpa using hb) e) f0 f1 f3 f4 f5
    refine ⟨_, rfl, go_of (s := { s with heap := h', toks := tk }) (n := "range_iterator") st' rfl rfl (by decide) ⟨.int (lo + i), H, I1, ⟨t, ?_⟩, ⟨rfl, rfl⟩, st', fun b hb => (hf b hb).1⟩⟩
    rw [Int.mul_one]
  done := by
    intro X hP hw hK hc i pins s σ H E I hf st hg
    subst hP hw hK
    obtain ⟨f0, f1, f2, f3, f4, f5⟩ := hf it (by simp)
    exact wpAny_pyNext_range_end (I.ok.hd hc) st (by have : n ≤ i := hg; omega) fun h' eb => ⟨rfl, I.turned (t' := s.toks) (fun b o hb e => eb b o hb e) f0 f1 f3 f4 f5⟩
  self := fun _ _ _ _ _ st h => wpAny_pyIter_rangeiter st h
end L2
namespace L2
open PySem PySem.Spec PyProof.Rows
section
variable {X : Cx} {tg : Expr}
def iList (K : PySem.W.Frag) (tl : TE) : TI := fun σ H R => tl σ H fun x H1 => ∃ a, x = .ref a ∧ (∃ xs, SqL K H1 a xs) ∧ R (Itl K a) H1
theorem pi_list {l : Expr} {tl : TE} (hl : PE X l tl) : PI X tg l (iList X.K tl) := by
  intro pins s σ H R I h
  refine thn (hl pins s σ H _ I h) fun v s1 ⟨x, H1, I1, r1, q1⟩ => ?_
  obtain ⟨a, e, ⟨xs, hq⟩, q⟩ := q1
  subst e
  cases r1
  obtain ⟨its, rv, p, hz⟩ := I1.list hq
  refine wpAny_pyIter_list p.isList ?_
  refine ⟨s1.heap.objs.size, [s1.heap.objs.size], _, _, H1, rfl, I1.kept (t' := s1.toks) fun b o e => Heap.get?_push_of_some _ e, turn_list a _, ⟨_, Heap.get?_push_size _ rfl, rfl, rfl⟩, fun b hb => ?_, q⟩
  have e : b = s1.heap.objs.size := by simpa using hb
  subst e
  exact I1.fpOk (Nat.le_refl _) (I1.hok.fresh (Nat.le_refl _))
theorem range_it {pins : List (Addr × Obj)} {σ : St} {H : Hp} {s : Shared} {R : It → Hp → Prop} {E : Value → Shared → Prop} {lo hi : Int} {t u v : Tok} {tk : Nat} (I : Inv X pins σ H s) (h1 : -(2 ^ 62) ≤ lo) (h2 : lo < 2 ^ 62) (h3 : -(2 ^ 62) ≤ hi) (h4 : hi < 2 ^ 62)
    (q : R (Itr lo (hi - lo).toNat) H) : wpAny (model X.prog X.w) X.A (pyIter (.ref s.heap.objs.size)) (PIE X pins σ tg R) E { s with heap := s.heap.push { cls := .type "range", data := .fields #[.int lo t, .int hi u, .int 1 v] }, toks := tk } := by
  refine wpAny_pyIter_range (IsRange.new ..) (small_one h1 h2 h3 h4) ?_
  have I1 : Inv X pins σ H { s with heap := s.heap.push { cls := .type "range", data := .fields #[.int lo t, .int hi u, .int 1 v] }, toks := tk } := I.kept fun b o e => Heap.get?_push_of_some _ e
  refine ⟨(s.heap.push { cls := .type "range", data := .fields #[.int lo t, .int hi u, .int 1 v] }).objs.size, [(s.heap.push { cls := .type "range", data := .fields #[.int lo t, .int hi u, .int 1 v] }).objs.size], _, _, H, rfl,
    I1.kept (t' := tk) fun b o e => Heap.get?_push_of_some _ e, turn_range _ lo (hi - lo).toNat, ?_, fun b hb => ?_, q⟩
  · have e1 : lo + ((0 : Nat) : Int) * 1 = lo := by simp
    have e2 : (((hi - lo).toNat : Nat) : Int) - ((0 : Nat) : Int) = Builtin.Range.rangeSize lo hi 1 := by rw [rangeSize_one]; split <;> omega
    show IsRangeIter _ _ (lo + ((0 : Nat) : Int) * 1) ((((hi - lo).toNat : Nat) : Int) - ((0 : Nat) : Int)) 1
    rw [e1, e2]
    exact Heap.get?_push_size _ rfl
  · have e : b = (s.heap.push { cls := .type "range", data := .fields #[.int lo t, .int hi u, .int 1 v] }).objs.size := by simpa using hb
    subst e
    exact I1.fpOk (Nat.le_refl _) (I1.hok.fresh (Nat.le_refl _))
def iRng1 (ta : TA) : TI := fun σ H R => ta σ H fun vs H1 => ∃ j : Int, vs = [.int j] ∧ -(2 ^ 62) ≤ j ∧ j < 2 ^ 62 ∧ R (Itr 0 j.toNat) H1
def iRng2 (ta : TA) : TI := fun σ H R => ta σ H fun vs H1 => ∃ i j : Int, vs = [.int i, .int j] ∧ (-(2 ^ 62) ≤ i ∧ i < 2 ^ 62 ∧ -(2 ^ 62) ≤ j ∧ j < 2 ^ 62) ∧ R (Itr i (j - i).toNat) H1
theorem pi_range1 {a : Expr} {ta : TA} {p pos : Pos} (hg : Gl X "range") (hm : X.mg "range" = none) (ha : PA X [a] ta) (hs : starEach [a] X.env = [(false, eval a X.env)] := by rfl) : PI X tg (.Call (.Name "range" p) [a] [] pos) (iRng1 ta) := by
  intro pins s σ H R I h
  refine Call_ (ld_blt I hg hm boot_range (PyProof.Rows.callWith_type1 (thn (ha pos pins s σ H _ I h) fun us s1 ⟨vs, H1, I1, r1, q1⟩ => ?_) hs rfl))
  obtain ⟨j, e, q1, q2, q⟩ := q1
  subst e
  cases r1 with
  | cons r rr =>
    cases rr
    obtain ⟨t, rfl⟩ := r
    exact call_range_1 (range_it I1 (by omega) (by omega) q1 q2 (by simpa using q))
theorem pi_range2 {a b : Expr} {ta : TA} {p pos : Pos} (hg : Gl X "range") (hm : X.mg "range" = none) (ha : PA X [a, b] ta) (hs : starEach [a, b] X.env = [(false, eval a X.env), (false, eval b X.env)] := by rfl) (hs2 : starEach [b] X.env = [(false, eval b X.env)] := by rfl) :
    PI X tg (.Call (.Name "range" p) [a, b] [] pos) (iRng2 ta) := by
  intro pins s σ H R I h
  refine Call_ (ld_blt I hg hm boot_range (PyProof.Rows.callWith_type1 (thn (ha pos pins s σ H _ I h) fun us s1 ⟨vs, H1, I1, r1, q1⟩ => ?_) (by rw [hs, hs2]) (by rw [hs2]; rfl)))
  obtain ⟨i, j, e, ⟨q1, q2, q3, q4⟩, q⟩ := q1
  subst e
  cases r1 with
  | cons r rr =>
    cases rr with
    | cons r' rr =>
      cases rr
      obtain ⟨t, rfl⟩ := r
      obtain ⟨t', rfl⟩ := r'
      exact call_range_2 (range_it I1 q1 q2 q3 q4 q)
def tFor (wi : TI) (g : TG) (tb : TS) : TS := fun D σ H => wi σ H fun J H1 => ∃ W : Nat → Nat → St → Hp → Prop, (∃ m, W 0 m σ H1) ∧ ∀ i m σ H, W i m σ H →
  (J.stop i H ∧ D.nx σ H) ∨ (J.go i H ∧ ∃ N : St → Hp → Prop, (∀ σ' H', N σ' H' → ∃ m', m' < m ∧ W (i + 1) m' σ' H') ∧ ∀ x H', J.yld i H x H' → g x σ H' fun σ2 H2 => tb { D with nx := N, ct := N, bk := D.nx } σ2 H2)
def pinsAt (fp : List Addr) (h : Heap) : List (Addr × Obj) := fp.filterMap fun b => (h.get? b).map fun o => (b, o)
theorem mem_pinsAt {fp : List Addr} {h : Heap} {b : Addr} {o : Obj} (hb : b ∈ fp) (e : h.get? b = some o) : (b, o) ∈ pinsAt fp h := List.mem_filterMap.mpr ⟨b, hb, by rw [e]; rfl⟩
theorem of_pinsAt {fp : List Addr} {h : Heap} {p : Addr × Obj} (hp : p ∈ pinsAt fp h) : p.1 ∈ fp ∧ h.get? p.1 = some p.2 := by
  obtain ⟨b, hb, e⟩ := List.mem_filterMap.mp hp
  cases q : h.get? b with
  | none => rw [q] at e; cases e
  | some o =>
    rw [q] at e
    have e' : (b, o) = p := Option.some.inj e
    subst e'
    exact ⟨hb, q⟩
theorem Inv.pinned {pins : List (Addr × Obj)} {σ : St} {H : Hp} {s : Shared} {fp : List Addr} (I : Inv X pins σ H s) (hf : ∀ b ∈ fp, FpOk X pins H b) (ho : ∀ b ∈ fp, ∃ o, s.heap.get? b = some o ∧ ∀ v, o.data ≠ .cell v) : Inv X (pins ++ pinsAt fp s.heap) σ H s :=
  I.pins_of fun p hp => (List.mem_append.mp hp).elim (fun z => I.pin p (List.mem_append_right _ z)) fun z => by
    obtain ⟨hb, e⟩ := of_pinsAt z
    obtain ⟨f0, f1, f2, _⟩ := hf p.1 hb
    obtain ⟨o, e', d⟩ := ho p.1 hb
    rw [e] at e'; cases e'
    exact ⟨e, f0, f1, f2, d⟩
theorem Inv.unpinned {pins pl : List (Addr × Obj)} {σ : St} {H : Hp} {s : Shared} (I : Inv X (pins ++ pl) σ H s) : Inv X pins σ H s := I.pins_of fun p hp => I.pin p (List.mem_append_right _ (List.mem_append_left _ hp))
theorem ps_for {iter : Expr} {body : List Stmt} {wi : TI} {g : TG} {tb : TS} {pos : Pos} (hp : PassesOwn (model X.prog X.w) X.A X.env X.xe) (hc : X.calm = true) (hi : PI X tg iter wi) (hg : PG X tg g) (hb : PSs X body tb)
    (hs : ∀ x, foldedSetIterable iter X.env x = pure x := by intro _; rfl) : PS X (.For tg iter body [] pos) (tFor wi g tb) := by
  intro pins s σ H D I h
  refine wpAny_For (thn (hi pins s σ H _ I h) fun v s1 h1 => thn h1 fun itv s2 h2 => ?_) hs
  obtain ⟨it, fp, tn, J, H2, e, I2, T, st2, f2, W, ⟨m0, w0⟩, turn⟩ := h2
  subst e
  -- what stays true of the iterator's objects through the loop
  have stat : ∀ {H' : Hp}, (∀ b ∈ fp, H' b = none) → ∀ b ∈ fp, FpOk X pins H' b := fun hn b hb => ⟨hn b hb, (f2 b hb).2⟩
  refine codeAny_forLoop_any (fun n s' => ∃ i σ' H', Inv X pins σ' H' s' ∧ tn i s'.heap ∧ (∀ b ∈ fp, H' b = none) ∧ W i n σ' H') ?_ m0 ⟨0, σ, H2, I2, st2, fun b hb => (f2 b hb).1, w0⟩
  rintro n s3 ⟨i, σ3, H3, I3, st3, fr3, w3⟩
  rcases turn i n σ3 H3 w3 with ⟨stop, qn⟩ | ⟨go, N, hN, step⟩
  · refine wpAny_passesOwn hp (thn (T.done X rfl rfl rfl hc i pins s3 σ3 H3 X.xe I3 (stat fr3) st3 stop) fun r s4 ⟨hr, I4⟩ => ?_)
    subst hr
    exact wpAny_execs_nil ⟨σ3, H3, I4, qn⟩
  · refine wpAny_passesOwn hp (thn (T.item X rfl rfl rfl hc i pins s3 σ3 H3 X.xe I3 (stat fr3) st3 go) fun r s4 ⟨u, hr, h4⟩ => ?_)
    subst hr
    refine wpAny_passesOwn hp (thn h4 fun _ s5 ⟨x, H5, I5, r5, y5, st5, fr5⟩ => ?_)
    have I5' := I5.pinned (stat fr5) (T.obj _ _ st5)
    refine wpAny_passesOwn hp (thn (hg _ s5 σ3 H5 x u _ I5' r5 (step x H5 y5)) fun _ s6 ⟨σ6, H6, I6, q6⟩ => ?_)
    refine wpAny_passesOwn hp (thn (hb _ s6 σ6 H6 _ I6 q6) fun f s7 q7 => ?_)
    have again : ∀ {σ7 : St} {H7 : Hp}, Inv X (pins ++ pinsAt fp s5.heap) σ7 H7 s7 → N σ7 H7 → ∃ m, m < n ∧ ∃ i σ' H', Inv X pins σ' H' s7 ∧ tn i s7.heap ∧ (∀ b ∈ fp, H' b = none) ∧ W i m σ' H' := fun {σ7 H7} I7 n7 => by
      obtain ⟨m', hm, w7⟩ := hN σ7 H7 n7
      refine ⟨m', hm, i + 1, σ7, H7, I7.unpinned, T.keep _ _ _ st5 fun b hb o e => (I7.pin (b, o) (List.mem_append_right _ (List.mem_append_right _ (mem_pinsAt hb e)))).1, fun b hb => ?_, w7⟩
      obtain ⟨o, e, d⟩ := T.obj _ _ st5 b hb
      exact (I7.pin (b, o) (List.mem_append_right _ (List.mem_append_right _ (mem_pinsAt hb e)))).2.1
    cases f with
    | next => obtain ⟨σ7, H7, I7, n7⟩ := q7; exact again I7 n7
    | cont => obtain ⟨σ7, H7, I7, n7⟩ := q7; exact again I7 n7
    | brk => obtain ⟨σ7, H7, I7, q7⟩ := q7; exact ⟨σ7, H7, I7.unpinned, q7⟩
    | ret v => obtain ⟨x7, σ7, H7, I7, r7, q7⟩ := q7; exact ⟨x7, σ7, H7, I7.unpinned, r7, q7⟩
end
theorem for_list {K : PySem.W.Frag} {a : Addr} {xs : List V} {g : TG} {tb : TS} {D : Ends} {σ : St} {H : Hp} (Pv : Nat → St → Hp → Prop) (h0 : Pv 0 σ H) (hl : ∀ i σ H, i ≤ xs.length → Pv i σ H → SqL K H a xs)
    (hs : ∀ i x σ H, xs[i]? = some x → Pv i σ H → g x σ H fun σ2 H2 => tb { D with nx := Pv (i + 1), ct := Pv (i + 1), bk := D.nx } σ2 H2) (hd : ∀ σ H, Pv xs.length σ H → D.nx σ H) :
    ∃ W : Nat → Nat → St → Hp → Prop, (∃ m, W 0 m σ H) ∧ ∀ i m σ H, W i m σ H →
      ((Itl K a).stop i H ∧ D.nx σ H) ∨ ((Itl K a).go i H ∧ ∃ N : St → Hp → Prop, (∀ σ' H', N σ' H' → ∃ m', m' < m ∧ W (i + 1) m' σ' H') ∧ ∀ x H', (Itl K a).yld i H x H' → g x σ H' fun σ2 H2 => tb { D with nx := N, ct := N, bk := D.nx } σ2 H2) := by
  refine ⟨fun i m σ H => m = xs.length - i ∧ i ≤ xs.length ∧ Pv i σ H, ⟨xs.length, by simp, Nat.zero_le _, h0⟩, ?_⟩
  rintro i m σ H ⟨rfl, hi, p⟩
  have q := hl i σ H hi p
  by_cases hlt : i < xs.length
  · refine .inr ⟨⟨xs, xs[i], q, by simp [hlt]⟩, Pv (i + 1), fun σ' H' p' => ⟨xs.length - (i + 1), by omega, rfl, hlt, p'⟩, fun x H' y => ?_⟩
    obtain ⟨e, y⟩ := y
    subst e
    exact hs i x σ _ (y xs q) p
  · have e : i = xs.length := by omega
    subst e
    exact .inl ⟨⟨xs, q, Nat.le_refl _⟩, hd σ H p⟩
theorem for_range {lo : Int} {n : Nat} {g : TG} {tb : TS} {D : Ends} {σ : St} {H : Hp} (Pv : Nat → St → Hp → Prop) (h0 : Pv 0 σ H)
    (hs : ∀ i σ H, i < n → Pv i σ H → g (.int (lo + i)) σ H fun σ2 H2 => tb { D with nx := Pv (i + 1), ct := Pv (i + 1), bk := D.nx } σ2 H2) (hd : ∀ σ H, Pv n σ H → D.nx σ H) :
    ∃ W : Nat → Nat → St → Hp → Prop, (∃ m, W 0 m σ H) ∧ ∀ i m σ H, W i m σ H →
      ((Itr lo n).stop i H ∧ D.nx σ H) ∨ ((Itr lo n).go i H ∧ ∃ N : St → Hp → Prop, (∀ σ' H', N σ' H' → ∃ m', m' < m ∧ W (i + 1) m' σ' H') ∧ ∀ x H', (Itr lo n).yld i H x H' → g x σ H' fun σ2 H2 => tb { D with nx := N, ct := N, bk := D.nx } σ2 H2) := by
  refine ⟨fun i m σ H => m = n - i ∧ i ≤ n ∧ Pv i σ H, ⟨n, by simp, Nat.zero_le _, h0⟩, ?_⟩
  rintro i m σ H ⟨rfl, hi, p⟩
  by_cases hlt : i < n
  · refine .inr ⟨hlt, Pv (i + 1), fun σ' H' p' => ⟨n - (i + 1), by omega, rfl, hlt, p'⟩, fun x H' y => ?_⟩
    obtain ⟨e, y⟩ := y
    subst e y
    exact hs i σ _ hlt p
  · have e : i = n := by omega
    subst e
    exact .inl ⟨Nat.le_refl _, hd σ H p⟩
end L2
namespace L2
open PySem PySem.Spec PyProof.Rows
abbrev R2 := V → V → Hp → VK → Prop
def OpR (X : Cx) (f : Value → Value → Sem Value) (r : R2) : Prop :=
  ∀ (pins : List (Addr × Obj)) (s : Shared) (σ : St) (H : Hp) (x y : V) (v u : Value) (Q : VK), Inv X pins σ H s → RelV x v → RelV y u → r x y H Q →
    wpAny (model X.prog X.w) X.A (f v u) (EP X pins σ Q) X.xe s
def UnR (X : Cx) (f : Value → Sem Value) (r : V → Hp → VK → Prop) : Prop :=
  ∀ (pins : List (Addr × Obj)) (s : Shared) (σ : St) (H : Hp) (x : V) (v : Value) (Q : VK), Inv X pins σ H s → RelV x v → r x H Q →
    wpAny (model X.prog X.w) X.A (f v) (EP X pins σ Q) X.xe s
def CallR (X : Cx) (f : Value) (r : List V → Hp → VK → Prop) : Prop :=
  ∀ (pins : List (Addr × Obj)) (s : Shared) (σ : St) (H : Hp) (xs : List V) (us : List Value) (Q : VK), Inv X pins σ H s → Vals xs us → r xs H Q →
    wpAny (model X.prog X.w) X.A (call f us) (EP X pins σ Q) X.xe s
def tOp (r : R2) (ta tb : TE) : TE := fun σ H Q => ta σ H fun x H1 => tb σ H1 fun y H2 => r x y H2 Q
def tUn (r : V → Hp → VK → Prop) (ta : TE) : TE := fun σ H Q => ta σ H fun x H1 => r x H1 Q
def rI (C : Int → Int → Prop) (g : Int → Int → V) : R2 := fun x y H Q => ∃ i j, x = .int i ∧ y = .int j ∧ C i j ∧ Q (g i j) H
def rI0 (g : Int → Int → V) : R2 := fun x y H Q => ∃ i j, x = .int i ∧ y = .int j ∧ Q (g i j) H
def rU (g : Int → V) : V → Hp → VK → Prop := fun x H Q => ∃ i, x = .int i ∧ Q (g i) H
section
variable {X : Cx} {a b c : Expr} {ta tb tc : TE} {pos : Pos}
theorem binT (ha : PE X a ta) (hb : PE X b tb) {pins : List (Addr × Obj)} {s : Shared} {σ : St} {H : Hp} {R : V → V → Hp → Prop} (I : Inv X pins σ H s)
    (h : ta σ H fun x H1 => tb σ H1 fun y H2 => R x y H2) {Q : Value → Shared → Prop} {f : Value → Value → Sem Value}
    (hf : ∀ v u s2 x y H2, Inv X pins σ H2 s2 → RelV x v → RelV y u → R x y H2 → wpAny (model X.prog X.w) X.A (f v u) Q X.xe s2) :
    wpAny (model X.prog X.w) X.A (eval a X.env) (fun v s₁ => wpAny (model X.prog X.w) X.A (eval b X.env) (fun u s₂ => wpAny (model X.prog X.w) X.A (f v u) Q X.xe s₂) X.xe s₁) X.xe s := by
  refine thn (ha pins s σ H _ I h) fun v s1 ⟨x, H1, I1, r1, q1⟩ => ?_
  refine thn (hb pins s1 σ H1 _ I1 q1) fun u s2 ⟨y, H2, I2, r2, q2⟩ => ?_
  exact hf v u s2 x y H2 I2 r1 r2 q2
theorem pe_op {op : Operator} {r : R2} (ho : OpR X (binaryOp op) r) (ha : PE X a ta) (hb : PE X b tb) : PE X (.BinOp a op b pos) (tOp r ta tb) := by
  intro pins s σ H Q I h
  exact wpAny_BinOp (binT ha hb I h fun v u s2 x y H2 I2 rx ry q => ho pins s2 σ H2 x y v u Q I2 rx ry q)
theorem pe_un {op : UnaryOp} {r : V → Hp → VK → Prop} (ho : UnR X (unaryOp op) r) (ha : PE X a ta) : PE X (.UnaryOp op a pos) (tUn r ta) := by
  intro pins s σ H Q I h
  exact UnaryOp_ (thn (ha pins s σ H _ I h) fun v s1 ⟨x, H1, I1, r1, q1⟩ => ho pins s1 σ H1 x v Q I1 r1 q1)
theorem opI {f : Value → Value → Sem Value} {C : Int → Int → Prop} {g : Int → Int → Int}
    (rule : ∀ (i j : Int) (t u : Tok) (s : Shared) (Q : Value → Shared → Prop) (E : Value → Shared → Prop), C i j → Q (.int (g i j) s.toks) { s with toks := s.toks + 1 } → wpAny (model X.prog X.w) X.A (f (.int i t) (.int j u)) Q E s) :
    OpR X f (rI C fun i j => .int (g i j)) := by
  intro pins s σ H x y v u Q I rx ry h
  obtain ⟨i, j, rfl, rfl, hc, q⟩ := h
  obtain ⟨t, rfl⟩ := rx
  obtain ⟨t', rfl⟩ := ry
  exact rule i j t t' s _ _ hc ⟨.int (g i j), H, I.tok _, ⟨_, rfl⟩, q⟩
theorem opI0 {f : Value → Value → Sem Value} {g : Int → Int → Int}
    (rule : ∀ (i j : Int) (t u : Tok) (s : Shared) (Q : Value → Shared → Prop) (E : Value → Shared → Prop), Q (.int (g i j) s.toks) { s with toks := s.toks + 1 } → wpAny (model X.prog X.w) X.A (f (.int i t) (.int j u)) Q E s) :
    OpR X f (rI0 fun i j => .int (g i j)) := by
  intro pins s σ H x y v u Q I rx ry h
  obtain ⟨i, j, rfl, rfl, q⟩ := h
  obtain ⟨t, rfl⟩ := rx
  obtain ⟨t', rfl⟩ := ry
  exact rule i j t t' s _ _ ⟨.int (g i j), H, I.tok _, ⟨_, rfl⟩, q⟩
theorem opB0 {f : Value → Value → Sem Value} {g : Int → Int → Bool}
    (rule : ∀ (i j : Int) (t u : Tok) (s : Shared) (Q : Value → Shared → Prop) (E : Value → Shared → Prop), Q (.bool (g i j)) s → wpAny (model X.prog X.w) X.A (f (.int i t) (.int j u)) Q E s) :
    OpR X f (rI0 fun i j => .bl (g i j)) := by
  intro pins s σ H x y v u Q I rx ry h
  obtain ⟨i, j, rfl, rfl, q⟩ := h
  obtain ⟨t, rfl⟩ := rx
  obtain ⟨t', rfl⟩ := ry
  exact rule i j t t' s _ _ ⟨.bl (g i j), H, I, rfl, q⟩
def CMul (i j : Int) : Prop := (-(2 ^ 64) < i ∧ i < 2 ^ 64) ∨ (-(2 ^ 64) < j ∧ j < 2 ^ 64)
theorem CMul.ok {i j : Int} (h : CMul i j) : IntMulOk i j := by
  rcases h with ⟨h1, h2⟩ | ⟨h1, h2⟩
  · exact .of_left (intBits_le_64 h1 h2)
  · exact .of_right (intBits_le_64 h1 h2)
theorem op_add : OpR X (binaryOp .Add) (rI0 fun i j => .int (i + j)) := opI0 fun _ _ _ _ _ _ _ q => add_int q
theorem op_sub : OpR X (binaryOp .Sub) (rI0 fun i j => .int (i - j)) := opI0 fun _ _ _ _ _ _ _ q => sub_int q
theorem op_mul : OpR X (binaryOp .Mult) (rI CMul fun i j => .int (i * j)) := opI fun _ _ _ _ _ _ _ hc q => mul_int q hc.ok
theorem op_mod : OpR X (binaryOp .Mod) (rI (fun _ j => 0 < j) fun i j => .int (i % j)) := opI fun i j _ _ _ _ _ hc q => by
  have h1 : (0 : Int) < j := hc
  exact mod_int' (by omega) (by rw [Int.fmod_eq_emod_of_nonneg i (by omega)]; exact q)
theorem unI {f : Value → Sem Value} {g : Int → Int}
    (rule : ∀ (i : Int) (t : Tok) (s : Shared) (Q : Value → Shared → Prop) (E : Value → Shared → Prop), Q (.int (g i) s.toks) { s with toks := s.toks + 1 } → wpAny (model X.prog X.w) X.A (f (.int i t)) Q E s) :
    UnR X f (rU fun i => .int (g i)) := by
  intro pins s σ H x v Q I rx h
  obtain ⟨i, rfl, q⟩ := h
  obtain ⟨t, rfl⟩ := rx
  exact rule i t s _ _ ⟨.int (g i), H, I.tok _, ⟨_, rfl⟩, q⟩
theorem un_neg : UnR X (unaryOp .USub) (rU fun i => .int (-i)) := unI fun _ _ _ _ _ q => neg_int q
end
def scal : V → V → Bool
  | .non, .non => true | .non, .int _ => true | .int _, .non => true | .non, .bl _ => true | .bl _, .non => true | .non, .str _ => true | .str _, .non => true
  | .int _, .int _ => true | .bl _, .bl _ => true | .str _, .str _ => true | .byt _, .byt _ => true
  | .int _, .str _ => true | .str _, .int _ => true | .bl _, .str _ => true | .str _, .bl _ => true
  | _, _ => false
def rEq : R2 := fun x y H Q => scal x y = true ∧ Q (.bl (decide (x = y))) H
def rNe : R2 := fun x y H Q => scal x y = true ∧ Q (.bl (!decide (x = y))) H
theorem dec_int {i j : Int} : decide (V.int i = V.int j) = (i == j) := by
  rw [Bool.eq_iff_iff]
  simp
theorem dec_bl {i j : Bool} : decide (V.bl i = V.bl j) = (i == j) := by
  rw [Bool.eq_iff_iff]
  simp
theorem dec_str {i j : Str} : decide (V.str i = V.str j) = (i == j) := by
  rw [Bool.eq_iff_iff]
  simp
theorem dec_byt {i j : Array UInt8} : decide (V.byt i = V.byt j) = (i.toList == j.toList) := by
  rw [Bool.eq_iff_iff]
  cases i
  cases j
  simp
section
variable {X : Cx} {a b c : Expr} {ta tb tc : TE} {pos : Pos}
theorem fin_bl {pins : List (Addr × Obj)} {σ : St} {H : Hp} {s : Shared} {Q : VK} {k k' : Bool} (I : Inv X pins σ H s) (q : Q (.bl k) H) (e : k = k') : EP X pins σ Q (.bool k') s := by
  subst e
  exact ⟨.bl k, H, I, rfl, q⟩
theorem op_eq : OpR X (compareOp .Eq) rEq := by
  intro pins s σ H x y v u Q I rx ry h
  obtain ⟨hs, q⟩ := h
  cases x with
  | non =>
    cases rx
    cases y with
    | non => cases ry; exact PySem.EqNone.eq_none_none (fin_bl I q (by simp))
    | bl j => cases ry; exact PySem.EqNone.eq_none_bool (fin_bl I q (by simp))
    | int j => obtain ⟨t', rfl⟩ := ry; exact PySem.EqNone.eq_none_int (fin_bl I q (by simp))
    | str j => obtain ⟨t', rfl⟩ := ry; exact PySem.EqNone.eq_none_str (fin_bl I q (by simp))
    | _ => exact absurd (show false = true from hs) Bool.false_ne_true
  | bl i =>
    cases rx
    cases y with
    | non => cases ry; exact PySem.EqNone.eq_bool_none (fin_bl I q (by simp))
    | bl j => cases ry; exact eq_bool (fin_bl I q dec_bl)
    | str j => obtain ⟨t', rfl⟩ := ry; exact PySem.EqMixed.eq_bool_str (fin_bl I q (by simp))
    | _ => exact absurd (show false = true from hs) Bool.false_ne_true
  | int i =>
    obtain ⟨t, rfl⟩ := rx
    cases y with
    | non => cases ry; exact PySem.EqNone.eq_int_none (fin_bl I q (by simp))
    | int j => obtain ⟨t', rfl⟩ := ry; exact eq_int (fin_bl I q dec_int)
    | str j => obtain ⟨t', rfl⟩ := ry; exact PySem.EqMixed.eq_int_str (fin_bl I q (by simp))
    | _ => exact absurd (show false = true from hs) Bool.false_ne_true
  | str i =>
    obtain ⟨t, rfl⟩ := rx
    cases y with
    | non => cases ry; exact PySem.EqNone.eq_str_none (fin_bl I q (by simp))
    | bl j => cases ry; exact PySem.EqMixed.eq_str_bool (fin_bl I q (by simp))
    | int j => obtain ⟨t', rfl⟩ := ry; exact PySem.EqMixed.eq_str_int (fin_bl I q (by simp))
    | str j => obtain ⟨t', rfl⟩ := ry; exact eq_str (fin_bl I q dec_str)
    | _ => exact absurd (show false = true from hs) Bool.false_ne_true
  | byt i =>
    obtain ⟨t, rfl⟩ := rx
    cases y with
    | byt j => obtain ⟨t', rfl⟩ := ry; exact PySem.W.eq_bytes (fin_bl I q dec_byt)
    | _ => exact absurd (show false = true from hs) Bool.false_ne_true
  | _ => cases y <;> exact absurd (show false = true from hs) Bool.false_ne_true
theorem op_ne : OpR X (compareOp .NotEq) rNe := by
  intro pins s σ H x y v u Q I rx ry h
  obtain ⟨hs, q⟩ := h
  cases x with
  | non =>
    cases rx
    cases y with
    | non => cases ry; exact PySem.EqNone.ne_none_none (fin_bl I q (by simp))
    | bl j => cases ry; exact PySem.EqNone.ne_none_bool (fin_bl I q (by simp))
    | int j => obtain ⟨t', rfl⟩ := ry; exact PySem.EqNone.ne_none_int (fin_bl I q (by simp))
    | str j => obtain ⟨t', rfl⟩ := ry; exact PySem.EqNone.ne_none_str (fin_bl I q (by simp))
    | _ => exact absurd (show false = true from hs) Bool.false_ne_true
  | bl i =>
    cases rx
    cases y with
    | non => cases ry; exact PySem.EqNone.ne_bool_none (fin_bl I q (by simp))
    | bl j => cases ry; exact ne_bool (fin_bl I q (congrArg not dec_bl))
    | str j => obtain ⟨t', rfl⟩ := ry; exact PySem.EqMixed.ne_bool_str (fin_bl I q (by simp))
    | _ => exact absurd (show false = true from hs) Bool.false_ne_true
  | int i =>
    obtain ⟨t, rfl⟩ := rx
    cases y with
    | non => cases ry; exact PySem.EqNone.ne_int_none (fin_bl I q (by simp))
    | int j => obtain ⟨t', rfl⟩ := ry; exact ne_int (fin_bl I q (congrArg not dec_int))
    | str j => obtain ⟨t', rfl⟩ := ry; exact PySem.EqMixed.ne_int_str (fin_bl I q (by simp))
    | _ => exact absurd (show false = true from hs) Bool.false_ne_true
  | str i =>
    obtain ⟨t, rfl⟩ := rx
    cases y with
    | non => cases ry; exact PySem.EqNone.ne_str_none (fin_bl I q (by simp))
    | bl j => cases ry; exact PySem.EqMixed.ne_str_bool (fin_bl I q (by simp))
    | int j => obtain ⟨t', rfl⟩ := ry; exact PySem.EqMixed.ne_str_int (fin_bl I q (by simp))
    | str j => obtain ⟨t', rfl⟩ := ry; exact ne_str (fin_bl I q (congrArg not dec_str))
    | _ => exact absurd (show false = true from hs) Bool.false_ne_true
  | byt i =>
    obtain ⟨t, rfl⟩ := rx
    cases y with
    | byt j => obtain ⟨t', rfl⟩ := ry; exact PySem.W.ne_bytes (fin_bl I q (congrArg not dec_byt))
    | _ => exact absurd (show false = true from hs) Bool.false_ne_true
  | _ => cases y <;> exact absurd (show false = true from hs) Bool.false_ne_true
theorem op_lt : OpR X (compareOp .Lt) (rI0 fun i j => .bl (decide (i < j))) := opB0 fun _ _ _ _ _ _ _ q => lt_int q
theorem op_le : OpR X (compareOp .LtE) (rI0 fun i j => .bl (decide (i ≤ j))) := opB0 fun _ _ _ _ _ _ _ q => le_int q
theorem op_gt : OpR X (compareOp .Gt) (rI0 fun i j => .bl (decide (j < i))) := opB0 fun _ _ _ _ _ _ _ q => gt_int q
theorem op_isN : OpR X (compareOp .Is) (fun x y H Q => y = .non ∧ Q (.bl (decide (x = .non))) H) := by
  intro pins s σ H x y v u Q I rx ry h
  obtain ⟨rfl, q⟩ := h
  cases ry
  refine is_none_gen (fin_bl I q ?_)
  cases x <;> first
    | (cases rx; rfl)
    | (obtain ⟨t, rfl⟩ := rx; rfl)
theorem nomark (b : Expr) {op : CmpOp} (h : op ≠ .In := by decide) (h2 : op ≠ .NotIn := by decide) : behindInMarks op b = false := by
  have e1 : (op == CmpOp.In) = false := by cases op <;> first | rfl | exact absurd rfl h
  have e2 : (op == CmpOp.NotIn) = false := by cases op <;> first | rfl | exact absurd rfl h2
  cases b <;> simp [behindInMarks, e1, e2]
theorem pe_cmpR {op : CmpOp} {r : R2} (ho : OpR X (compareOp op) r) (ha : PE X a ta) (hb : PE X b tb) (hm : behindInMarks op b = false) : PE X (.Compare a [op] [b] pos) (tOp r ta tb) := by
  intro pins s σ H Q I h
  exact wpAny_Compare1 (binT ha hb I h fun v u s2 x y H2 I2 rx ry q => ho pins s2 σ H2 x y v u Q I2 rx ry q) hm
def tTest (t : TE) : TT := fun σ H Q => t σ H fun x H' => ∃ k, x = .bl k ∧ Q k H'
theorem pt_cmpR {op : CmpOp} {r : R2} (ho : OpR X (compareOp op) r) (ha : PE X a ta) (hb : PE X b tb) (hm : behindInMarks op b = false) : PT X (.Compare a [op] [b] pos) (tTest (tOp r ta tb)) := by
  intro pins s σ H Q I h
  refine wpAny_isTrue_Compare1 (thn (ha pins s σ H _ I h) fun v s1 ⟨x, H1, I1, r1, q1⟩ => thn (hb pins s1 σ H1 _ I1 q1) fun u s2 ⟨y, H2, I2, r2, q2⟩ =>
    thn (ho pins s2 σ H2 x y v u _ I2 r1 r2 q2) fun c s3 ⟨z, H3, I3, r3, k, e, q3⟩ => ?_) hm
  subst e
  cases r3
  exact wpAny_truthy_bool ⟨H3, I3, q3⟩
def tChain (r r' : R2) (ta tb tc : TE) : TE := fun σ H Q => ta σ H fun x H1 => tb σ H1 fun y H2 => r x y H2 fun z H3 => ∃ k, z = .bl k ∧
  (if k = true then tc σ H3 fun w' H4 => r' y w' H4 Q else Q (.bl false) H3)
theorem pe_chain {op op' : CmpOp} {r r' : R2} (ho : OpR X (compareOp op) r) (ho' : OpR X (compareOp op') r') (ha : PE X a ta) (hb : PE X b tb) (hc : PE X c tc)
    (hm : lastMarks [op, op'] [b, c] = false := by with_unfolding_all rfl) : PE X (.Compare a [op, op'] [b, c] pos) (tChain r r' ta tb tc) := by
  intro pins s σ H Q I h
  refine Compare_chain (thn (ha pins s σ H _ I h) fun v s1 ⟨x, H1, I1, r1, q1⟩ => chain_link (thn (hb pins s1 σ H1 _ I1 q1) fun u s2 ⟨y, H2, I2, r2, q2⟩ =>
    thn (ho pins s2 σ H2 x y v u _ I2 r1 r2 q2) fun d s3 ⟨z, H3, I3, r3, k, e, q3⟩ => ?_)) hm
  subst e
  cases r3
  refine wpAny_truthy_bool ?_
  cases k with
  | false => exact ite_ff ⟨.bl false, H3, I3, rfl, q3⟩
  | true => exact ite_tt (chain_last (thn (hc pins s3 σ H3 _ I3 q3) fun w' s4 ⟨z', H4, I4, r4, q4⟩ => ho' pins s4 σ H4 y z' u w' Q I4 r2 r4 q4))
theorem pt_chain {op op' : CmpOp} {r r' : R2} (ho : OpR X (compareOp op) r) (ho' : OpR X (compareOp op') r') (ha : PE X a ta) (hb : PE X b tb) (hc : PE X c tc)
    (hm : lastMarks [op, op'] [b, c] = false := by with_unfolding_all rfl) : PT X (.Compare a [op, op'] [b, c] pos) (tTest (tChain r r' ta tb tc)) := by
  intro pins s σ H Q I h
  refine isTrue_chain (thn (ha pins s σ H _ I h) fun v s1 ⟨x, H1, I1, r1, q1⟩ => test_link (thn (hb pins s1 σ H1 _ I1 q1) fun u s2 ⟨y, H2, I2, r2, q2⟩ =>
    thn (ho pins s2 σ H2 x y v u _ I2 r1 r2 q2) fun d s3 ⟨z, H3, I3, r3, k, e, q3⟩ => ?_)) hm
  subst e
  cases r3
  refine wpAny_truthy_bool ?_
  cases k with
  | false =>
    obtain ⟨k', e', q'⟩ := q3
    cases e'
    exact ite_ff ⟨H3, I3, q'⟩
  | true =>
    refine ite_tt (test_last (thn (hc pins s3 σ H3 _ I3 q3) fun w' s4 ⟨z', H4, I4, r4, q4⟩ => thn (ho' pins s4 σ H4 y z' u w' _ I4 r2 r4 q4) fun d' s5 ⟨z2, H5, I5, r5, k2, e2, q5⟩ => ?_))
    subst e2
    cases r5
    exact wpAny_truthy_bool ⟨H5, I5, q5⟩
theorem line63 : (sizeLine : Nat) < 2 ^ 63 := by rw [sizeLine_eq]; decide
theorem op_add_str : OpR X (binaryOp .Add) (fun x y H Q => ∃ i j, x = .str i ∧ y = .str j ∧ i.length + j.length ≤ sizeLine ∧ Q (.str (i ++ j)) H) := by
  intro pins s σ H x y v u Q I rx ry h
  obtain ⟨i, j, rfl, rfl, hz, q⟩ := h
  obtain ⟨t, rfl⟩ := rx
  obtain ⟨t', rfl⟩ := ry
  exact add_str (fun t' tk => ⟨.str (i ++ j), H, I.tok _, ⟨_, rfl⟩, q⟩) hz
theorem vals1 {x : V} {us : List Value} (r : Vals [x] us) : ∃ u, us = [u] ∧ RelV x u := by
  cases r with
  | cons r1 r2 => cases r2; exact ⟨_, rfl, r1⟩
theorem call_str_int : CallR X (.type "str") (fun xs H Q => ∃ i, xs = [.int i] ∧ i.natAbs.log2 < 1920 ∧ Q (.str (toString i)) H) := by
  intro pins s σ H xs us Q I r h
  obtain ⟨i, rfl, hz, q⟩ := h
  obtain ⟨u, rfl, t, rfl⟩ := vals1 r
  exact PySem.P.str_of_int hz ⟨.str _, H, I.tok _, ⟨_, rfl⟩, q⟩
end
end L2
namespace L2
open PySem PySem.Spec PyProof.Rows
structure ObjM (h : Heap) (x dx C : Addr) (mA : Str → Option Value) : Prop where
  obj : h.get? x = some (PySem.W.instObj C dx)
  ns : h.Ns1 dx mA
  ne : dx ≠ x
theorem lookIn_ns {h : Heap} {dx : Addr} {mA : Str → Option Value} (n : h.Ns1 dx mA) : ∃ od, h.get? dx = some od ∧ ∀ name, PySem.W.lookIn name od = some (mA name) := by
  obtain ⟨o, es, ep, ho, hd, hk, _, hm⟩ := n
  refine ⟨o, ho, fun name => ?_⟩
  have e := hm name
  unfold nsFind findBy at e
  rw [← Array.find?_toList] at e
  unfold PySem.W.lookIn
  rw [hd]
  dsimp only
  split
  · rename_i y q
    rw [q] at e
    exact congrArg some e
  · rename_i q
    rw [q] at e
    have a : es.toList.any (·.refKey) = false := by
      rw [List.any_eq_false]
      intro y hy
      obtain ⟨z, t, hkey⟩ := hk y (Array.mem_toList_iff.mp hy)
      simp [DictEntry.refKey, hkey]
    have a' : ¬ es.toList.any (·.refKey) = true := by rw [a]; exact Bool.false_ne_true
    rw [if_neg a']
    exact congrArg some e
theorem ObjM.look {h : Heap} {x dx C : Addr} {mA : Str → Option Value} (I : ObjM h x dx C mA) : ∃ od, PySem.W.InstAt h x (PySem.W.instObj C dx) C (some od) ∧ ∀ name, PySem.W.lookIn name od = some (mA name) :=
  let ⟨od, ho, hl⟩ := lookIn_ns I.ns
  ⟨od, ⟨I.obj, rfl, rfl, ho⟩, hl⟩
section
variable {prog : Program} {w : World} {A : Around} {E : Value → Shared → Prop} {s : Shared} {K : PySem.W.Frag} {x dx C f : Addr} {mA : Str → Option Value} {name : Str} {v : Value}
end
section
variable {P : Program} {w : World} {H H' : Hp} {h h' : Heap} {a C dx : Addr} {fs fs' : List (Str × V)}
theorem ins_get (hok : HOk P w H h) (e : H a = some (.ins C dx fs)) : ∃ mA, ObjM h a dx C mA ∧ (∀ f, RelO (fs.lookup f) (mA f)) ∧ PySem.Within mA (fs.map (·.1)) ∧ fs.length ≤ 1000 ∧ H dx = some (.own a) := by
  obtain ⟨d, z, ne, ob, mA, n, r, q⟩ := (show ObjOk P w H h a (.ins C dx fs) from hok a _ e)
  exact ⟨mA, ⟨ob, n, ne⟩, r, q, z, d⟩
end
structure Cls (K : PySem.W.Frag) (C : Addr) : Prop where
  pg : PySem.W.plainGet K C Str.empty = true
  hd : PySem.W.hasDictIn K C = true
  po : PySem.W.plainOver K C = true
  sa : PySem.W.findIn K (.ref C) "__setattr__" = some (some (.builtin "object.__setattr__"))
theorem Cls.get {K : PySem.W.Frag} {C : Addr} (c : Cls K C) (f : Str) : PySem.W.plainGet K C f = true := c.pg
section
variable {X : Cx} {pins : List (Addr × Obj)} {σ : St} {H : Hp} {s : Shared} {a C dx : Addr} {fs : List (Str × V)} {f : Str} {v : V} {A : Around} {E : Value → Shared → Prop}
end
section
variable {X : Cx} {o e value : Expr} {f : Str} {pos pos' tpos : Pos} {ta tv : TE}
end
section
variable {X : Cx} {pins : List (Addr × Obj)} {σ : St} {H : Hp} {s : Shared} {A : Around} {E : Value → Shared → Prop} {Q : Value → Shared → Prop} {c : Value} {b : Bool}
inductive TyOf (K : PySem.W.Frag) (H : Hp) : V → Value → Prop where
  | non : TyOf K H .non (.type "NoneType")
  | bl (x : Bool) : TyOf K H (.bl x) (.type "bool")
  | int (i : Int) : TyOf K H (.int i) (.type "int")
  | str (x : Str) : TyOf K H (.str x) (.type "str")
  | flt (x : UInt64) : TyOf K H (.flt x) (.type "float")
  | lst {a : Addr} {xs : List V} (e : H a = some (.lst xs)) : TyOf K H (.ref a) (.type "list")
  | frz {a : Addr} {o : Obj} {xs : List V} (e : H a = some (.frz o (.lst xs))) : TyOf K H (.ref a) (.type "list")
  | tup {a : Addr} {xs : List V} (e : H a = some (.tup xs)) : TyOf K H (.ref a) (.type "tuple")
  | dK {a : Addr} {kvs : List (Key × V)} (e : H a = some (.dK kvs)) : TyOf K H (.ref a) (.type "dict")
  | dT {a : Addr} {kvs : List (List Key × V)} (e : H a = some (.dT kvs)) : TyOf K H (.ref a) (.type "dict")
  | ins {a C dx : Addr} {fs : List (Str × V)} (e : H a = some (.ins C dx fs)) (cl : Cls K C) (ha : PySem.W.findIn K (.ref C) "__class__" = some (some (.builtin "object.__class__")))
      (hn : PySem.W.specialIn K (.builtin "object.__class__") "__get__" = some (some (.builtin "getset_descriptor.__get__"))) (htk : PySem.W.takesIn K (.builtin "object.__class__") = some true)
      (hm : PySem.W.mroIn K C (.type "object") = some true) : TyOf K H (.ref a) (.ref C)
theorem isinst_ok {x : V} {u t : Value} (I : Inv X pins σ H s) (rx : RelV x u) (ty : TyOf X.K H x t) (e : PySem.W.kitOne X.K t c = some b) (h : ∀ tk, Q (.bool b) { s with toks := tk }) :
    wpAny (model X.prog X.w) A (call (.builtin "isinstance") [u, c]) Q E s := by
  cases ty with
  | non => cases (show u = Value.none from rx); exact PySem.W.kia_one PySem.W.kitx_none I.kIn True.intro e (fun z => nomatch z) h
  | bl y => cases (show u = Value.bool y from rx); exact PySem.W.kia_one PySem.W.kitx_bool I.kIn True.intro e (fun z => nomatch z) h
  | int i => obtain ⟨t, q⟩ := (show ∃ t, u = Value.int i t from rx); cases q; exact PySem.W.kia_one PySem.W.kitx_int I.kIn True.intro e (fun z => nomatch z) h
  | str y => obtain ⟨t, q⟩ := (show ∃ t, u = Value.str y t from rx); cases q; exact PySem.W.kia_one PySem.W.kitx_str I.kIn True.intro e (fun z => nomatch z) h
  | flt y => obtain ⟨t, q⟩ := (show ∃ t, u = Value.float y t from rx); cases q; exact PySem.W.kia_one PySem.W.kitx_float I.kIn True.intro e (fun z => nomatch z) h
  | @lst a xs ea =>
    cases (show u = Value.ref a from rx)
    obtain ⟨_, _, n, _, h1⟩ := (show ObjOk X.prog X.w H s.heap a (.lst xs) from I.hok a _ ea)
    exact PySem.W.kia_one PySem.W.kitx_list I.kIn ⟨_, h1, rfl⟩ e (fun z => nomatch z) h
  | @frz a ob xs ea =>
    cases (show u = Value.ref a from rx)
    obtain ⟨_, _, _, n, _, h1⟩ := (show ObjOk X.prog X.w H s.heap a (.frz ob (.lst xs)) from I.hok a _ ea)
    exact PySem.W.kia_one PySem.W.kitx_list I.kIn ⟨_, h1, rfl⟩ e (fun z => nomatch z) h
  | @tup a xs ea =>
    cases (show u = Value.ref a from rx)
    obtain ⟨_, _, _, p⟩ := (show ObjOk X.prog X.w H s.heap a (.tup xs) from I.hok a _ ea)
    obtain ⟨o, h1, h2, _⟩ := p
    exact PySem.W.kia_one PySem.W.kitx_tuple I.kIn ⟨o, h1, h2⟩ e (fun z => nomatch z) h
  | @dK a kvs ea =>
    cases (show u = Value.ref a from rx)
    obtain ⟨_, _, vs, _, p⟩ := (show ObjOk X.prog X.w H s.heap a (.dK kvs) from I.hok a _ ea)
    obtain ⟨o, es, ep, h1, h2, _⟩ := p
    exact PySem.W.kia_one PySem.W.kitx_dict I.kIn ⟨o, h1, h2.1⟩ e (fun z => nomatch z) h
  | @dT a kvs ea =>
    cases (show u = Value.ref a from rx)
    obtain ⟨_, _, xs, _, o, es, ep, h1, h2, _⟩ := (show ObjOk X.prog X.w H s.heap a (.dT kvs) from I.hok a _ ea)
    exact PySem.W.kia_one PySem.W.kitx_dict I.kIn ⟨o, h1, h2.1⟩ e (fun z => nomatch z) h
  | @ins a C dx fs ea cl ha hn htk hm =>
    cases (show u = Value.ref a from rx)
    obtain ⟨mA, O, _⟩ := ins_get I.hok ea
    obtain ⟨od, J, _⟩ := O.look
    exact PySem.W.kia_one (PySem.W.kitx_own (cl.get _) cl.hd ha hn htk hm) I.kIn J e (fun z => nomatch z) h
end
end L2
namespace L2
open PySem PySem.Spec PyProof.Rows
structure Room (k : Nat) (A : Around) : Prop where
  hd : A.handled = none
  dp : A.depth + 3 * k + 5 < recursionLimit
  un : A.units + 16 * k + 200 < cLine
theorem Room.mono {j k : Nat} {A : Around} (r : Room k A) (h : j ≤ k) : Room j A := ⟨r.hd, by have := r.dp; omega, by have := r.un; omega⟩
theorem Room.deeper {k : Nat} {A : Around} (r : Room (k + 1) A) (env : Env) : Room k (A.deeper env) :=
  ⟨r.hd, by have := r.dp; show A.depth + 1 + 3 * k + 5 < _; omega, by have := r.un; show A.units + 3 + 16 * k + 200 < _; omega⟩
theorem Room.depth {k : Nat} {A : Around} (r : Room k A) : A.depth < recursionLimit := by have := r.dp; omega
theorem Room.units {k : Nat} {A : Around} (r : Room k A) : A.units + 64 < cLine := by have := r.un; omega
def tNil : TA := fun _ H Q => Q [] H
def tCons (ta : TE) (tr : TA) : TA := fun σ H Q => ta σ H fun x H1 => tr σ H1 fun xs H2 => Q (x :: xs) H2
section
variable {X : Cx} {e : Expr} {es : List Expr} {te : TE} {t : TA} {pos : Pos}
theorem pa_nil : PA X [] tNil := fun _ _ _ _ H Q I h => Calls.spliced_nil ⟨[], H, I, .nil, h⟩
theorem pa_cons (ha : PE X e te) (hr : PA X es t) (hs : starEach (e :: es) X.env = (false, eval e X.env) :: starEach es X.env := by rfl) : PA X (e :: es) (tCons te t) := by
  intro pos pins s σ H Q I h
  rw [hs]
  show wpAny _ _ (spliced ((false, eval e X.env) :: backTo pos (starEach es X.env))) _ _ s
  refine Calls.spliced_cons (thn (ha pins s σ H _ I h) fun u s1 ⟨x, H1, I1, r1, q1⟩ => ?_)
  exact thn (hr pos pins s1 σ H1 _ I1 q1) fun us s2 ⟨xs, H2, I2, r2, q2⟩ => ⟨x :: xs, H2, I2, .cons r1 r2, q2⟩
def tTup (t : TA) : TE := fun σ H Q => t σ H fun xs H1 => xs.length ≤ sizeLine ∧ ∀ p, H1 p = none → Q (.ref p) (upd H1 p (.tup xs))
def tLst (t : TA) : TE := fun σ H Q => t σ H fun xs H1 => xs.length ≤ sizeLine ∧ ∀ p, H1 p = none → Q (.ref p) (upd H1 p (.lst xs))
theorem pe_tup {x1} (h : PA X es t) : PE X (.Tuple es x1 pos) (tTup t) := by
  intro pins s σ H Q I hq
  refine wpAny_Tuple_spliced (thn (h pos pins s σ H _ I hq) fun us s1 ⟨xs, H1, I1, r, z, q⟩ => ⟨by rw [← r.length]; exact z, ?_⟩)
  have hf : H1 s1.heap.objs.size = none := I1.hok.fresh (Nat.le_refl _)
  refine ⟨.ref s1.heap.objs.size, upd H1 s1.heap.objs.size (.tup xs), I1.laid (t' := s1.toks) (fun b u e => Heap.get?_push_of_some _ e) (Nat.le_refl _) ?_, rfl, q _ hf⟩
  exact ⟨z, us, r, ⟨_, Heap.get?_push_size _ rfl, rfl, _, rfl⟩⟩
theorem pe_lst (h : PA X es t) : PE X (.List es pos) (tLst t) := by
  intro pins s σ H Q I hq
  refine wpAny_List_spliced (thn (h pos pins s σ H _ I hq) fun us s1 ⟨xs, H1, I1, r, z, q⟩ => ⟨by rw [← r.length]; exact z, ?_⟩)
  have hf : H1 s1.heap.objs.size = none := I1.hok.fresh (Nat.le_refl _)
  refine ⟨.ref s1.heap.objs.size, upd H1 s1.heap.objs.size (.lst xs), I1.laid (t' := s1.toks) (fun b u e => Heap.get?_push_of_some _ e) (Nat.le_refl _) ?_, rfl, q _ hf⟩
  exact ⟨z, us, 0, r, Heap.get?_push_size _ rfl⟩
end
abbrev Sp := List V → Hp → VK → XK → Prop
abbrev CXT := List Env → Hp → Shared → XK → Value → Shared → Prop
structure Env0 (P : Program) (w : World) (K : PySem.W.Frag) (mg : Str → Option Value) (base : Heap) (A : Around) (outer : List Env) (s : Shared) (H : Hp) : Prop where
  frames : A.frames = some outer
  mod : Mod K mg base
  bs : ∀ b o, base.get? b = some o → s.heap.get? b = some o ∧ H b = none
  bsz : base.objs.size ≤ s.heap.objs.size
  funs : s.heap.FunFrames base outer
  frf : ∀ b ∈ frs outer, H b = none
  hok : HOk P w H s.heap
  bare : AllBare s.gens
def CE (outer : List Env) (P : Program) (w : World) (H : Hp) (s : Shared) (Q : VK) (u : Value) (s' : Shared) : Prop :=
  ∃ v H', s'.os = s.os ∧ AllBare s'.gens ∧ Un (frs outer) [] H H' s.heap s'.heap ∧ HOk P w H' s'.heap ∧ RelV v u ∧ Q v H'
def CR (CX : CXT) (outer : List Env) (P : Program) (w : World) (H : Hp) (s : Shared) (Q : VK) (E : XK) (r : Result) (s' : Shared) : Prop :=
  match r with
  | .ok (.ret u) => CE outer P w H s Q u s'
  | .ok _ => False
  | .error e => CX outer H s E e s'
structure FnOk (P : Program) (w : World) (K : PySem.W.Frag) (mg : Str → Option Value) (base : Heap) (CX : CXT) (k : Nat) (f : Addr) (fd : FuncData) (ps : List Str) (sp : Sp) : Prop where
  len : ∀ vs H Q E, sp vs H Q E → vs.length = ps.length
  run : ∀ (A : Around) (outer : List Env) (s : Shared) (H : Hp) (args : Args) (us : List Value) (vs : List V) (Q : VK) (E : XK), Room k A → Env0 P w K mg base A outer s H → BindsTo s fd args (ps.zip us) → Vals vs us → sp vs H Q E →
    codeAny (model P w) A (.call (.ref f) args) (CR CX outer P w H s Q E) s
section
variable {X : Cx} {pins : List (Addr × Obj)} {σ : St} {H : Hp} {s s' : Shared}
theorem Inv.env0 (I : Inv X pins σ H s) : Env0 X.prog X.w X.K X.mg X.base X.A X.stack s H :=
  ⟨I.ok.frames, I.ok.mod, I.bs, Nat.le_trans I.ok.bsz I.sz, I.stack, I.stkFree, I.hok, I.bare⟩
theorem Inv.after {Q : VK} {u : Value} (I : Inv X pins σ H s) (h : CE X.stack X.prog X.w H s Q u s') : EP X pins σ Q u s' := by
  obtain ⟨v, H', os, bare, un, hok, r, q⟩ := h
  obtain ⟨hh, g, d, t, os'⟩ := s'
  obtain rfl : os' = s.os := os
  exact ⟨v, H', I.call (h' := hh) (g' := g) (d' := d) (t' := t) (ch := []) un hok bare (fun b z => absurd z (by simp)), r, q⟩
end
def tCall (sp : Sp) (dvs : List V) (E : XK) (t : TA) : TE := fun σ H Q => t σ H fun vs H1 => sp (vs ++ dvs) H1 Q E
def Binds (K : PySem.W.Frag) (fd : FuncData) (ps : List Str) (ds : List Value) : Prop :=
  ∀ (s : Shared) (us : List Value), K.In s.heap → (us ++ ds).length = ps.length → BindsTo s fd ⟨us, []⟩ (ps.zip (us ++ ds))
theorem Binds.all {K : PySem.W.Frag} {fd : FuncData} {ps : List Str} (h : ∀ us : List Value, us.length = ps.length → bindArgs fd ⟨us, []⟩ = pure (ps.zip us)) : Binds K fd ps [] := fun s us _ hl => by
  rw [List.append_nil] at hl ⊢
  exact .of_eq (h us hl)
def Passes (CX : CXT) (X : Cx) (E : XK) : Prop := ∀ (pins : List (Addr × Obj)) (σ : St) (H : Hp) (s : Shared) (e : Value) (s' : Shared), Inv X pins σ H s → CX X.stack H s E e s' → X.xe e s'
section
variable {X : Cx} {CX : CXT} {k : Nat} {f C : Addr} {fd : FuncData} {ps : List Str} {sp : Sp} {dvs : List V} {ds : List Value} {E : XK} {x m : Str} {p pos apos : Pos} {e o : Expr} {es : List Expr} {ta : TE} {t : TA}
theorem run_fn {pins : List (Addr × Obj)} {σ : St} {H : Hp} {s : Shared} {Q : VK} {us : List Value} {vs : List V} (F : FnOk X.prog X.w X.K X.mg X.base CX k f fd ps sp) (hr : Room k X.A) (hb : Binds X.K fd ps ds) (hd : Vals dvs ds) (hx : Passes CX X E)
    (I : Inv X pins σ H s) (r : Vals vs us) (h : sp (vs ++ dvs) H Q E) : wpAny (model X.prog X.w) X.A (call (.ref f) us) (EP X pins σ Q) X.xe s := by
  have r2 : Vals (vs ++ dvs) (us ++ ds) := r.append hd
  have hl : (us ++ ds).length = ps.length := by rw [← r2.length]; exact F.len _ _ _ _ h
  refine wpAny_call (codeAny_mono (F.run X.A X.stack s H ⟨us, []⟩ (us ++ ds) (vs ++ dvs) Q E hr I.env0 (hb s us I.kIn hl) r2 h) fun r s' hq => ?_)
  cases r with
  | error e => exact hx pins σ H s e s' I hq
  | ok fl =>
    cases fl with
    | ret u => exact I.after hq
    | next => exact False.elim hq
    | brk => exact False.elim hq
    | cont => exact False.elim hq
theorem pe_call (F : FnOk X.prog X.w X.K X.mg X.base CX k f fd ps sp) (hr : Room k X.A) (hg : Gl X x) (hm : X.mg x = some (.ref f)) (hk : PySem.W.keepIn X.K (.ref f) = true) (hb : Binds X.K fd ps ds) (hd : Vals dvs ds) (hx : Passes CX X E)
    (ha : PA X (e :: es) t) (hdb : (x == ("__debug__" : Str)) = false := by decide) (he : starEach (e :: es) X.env = (false, eval e X.env) :: starEach es X.env := by rfl) (hpl : (backTo pos (starEach es X.env)).any (·.1) = false := by rfl) :
    PE X (.Call (.Name x p) (e :: es) [] pos) (tCall sp dvs E t) := by
  intro pins s σ H Q I h
  refine wpAny_Call_Name_kw (ld_glob I hg hm ?_ hdb)
  refine PySem.W.callWith_K (h₀ := X.base) I.ok.mod.kin hk (thn (ha pos pins s σ H _ I h) fun us s1 ⟨vs, H1, I1, r, q⟩ => ⟨I1.kIn, ?_⟩) he hpl
  exact run_fn F hr hb hd hx I1 r q
theorem pe_call0 (F : FnOk X.prog X.w X.K X.mg X.base CX k f fd ps sp) (hr : Room k X.A) (hg : Gl X x) (hm : X.mg x = some (.ref f)) (hk : PySem.W.keepIn X.K (.ref f) = true) (hb : Binds X.K fd ps ds) (hd : Vals dvs ds) (hx : Passes CX X E)
    (hdb : (x == ("__debug__" : Str)) = false := by decide) : PE X (.Call (.Name x p) [] [] pos) (tCall sp dvs E tNil) := by
  intro pins s σ H Q I h
  refine wpAny_Call_Name_kw (ld_glob I hg hm ?_ hdb)
  exact PySem.W.callWith_K0 I.kIn hk (run_fn (us := []) F hr hb hd hx I .nil h)
end
section
variable {X : Cx} {CX : CXT} {k : Nat} {f C : Addr} {fd : FuncData} {ps ks : List Str} {sp : Sp} {E : XK} {x m : Str} {p pos apos kpos : Pos} {e o : Expr} {es : List Expr} {kws : List Keyword} {te ta : TE} {t tk : TA} {nm : Option Str}
variable {g : List Value → List Value → List Value} {gV : List V → List V → List V}
end
structure FnScope (N P : List Str) (sc : Scope) : Prop where
  kind : sc.kind = .function
  co : sc.isCoroutine = false
  gen : sc.isGenerator = false
  nd : N.Nodup
  pre : N.take P.length = P
  par : ∀ x ∈ P, sc.names.lookup x = some .local ∨ sc.names.lookup x = some .cell
  nofree : ∀ y ∈ sc.names, y.2 ≠ .free
theorem bindL_out {kindOf : Str → Option NameKind} {x : Str} : ∀ {binds : List (Str × Value)} {m : Str → Option Value}, (∀ v, (x, v) ∉ binds) → bindL kindOf binds m x = m x
  | [], _, _ => rfl
  | (n, v) :: r, m, h => by
    unfold bindL
    rw [bindL_out fun w hw => h w (List.mem_cons_of_mem _ hw)]
    split
    · have : x ≠ n := by rintro rfl; exact h v List.mem_cons_self
      simp [this]
    · rfl
theorem bindC_out {kindOf : Str → Option NameKind} {x : Str} : ∀ {binds : List (Str × Value)} {m : Str → Option Value}, (∀ v, (x, v) ∉ binds) → bindC kindOf binds m x = m x
  | [], _, _ => rfl
  | (n, v) :: r, m, h => by
    unfold bindC
    rw [bindC_out fun w hw => h w (List.mem_cons_of_mem _ hw)]
    split
    · rfl
    · have : x ≠ n := by rintro rfl; exact h v List.mem_cons_self
      simp [this]
theorem bindL_get {kindOf : Str → Option NameKind} {x : Str} {v : Value} : ∀ {P : List Str} {vs : List Value} {i : Nat} {m : Str → Option Value}, P.Nodup → P[i]? = some x → vs[i]? = some v → kindOf x = some .local →
    bindL kindOf (P.zip vs) m x = some v
  | [], _, _, _, _, h, _, _ => by simp at h
  | _ :: _, [], _, _, _, _, h, _ => by simp at h
  | p :: P, w :: vs, 0, m, nd, h1, h2, hk => by
    simp at h1 h2; subst h1; subst h2
    show bindL kindOf ((p, w) :: P.zip vs) m p = _
    unfold bindL
    rw [bindL_out fun v hv => (List.nodup_cons.mp nd).1 (List.of_mem_zip hv).1, if_pos hk]
    simp
  | p :: P, w :: vs, i + 1, m, nd, h1, h2, hk => by
    show bindL kindOf ((p, w) :: P.zip vs) m x = _
    unfold bindL
    exact bindL_get (i := i) (List.nodup_cons.mp nd).2 (by simpa using h1) (by simpa using h2) hk
theorem bindC_get {kindOf : Str → Option NameKind} {x : Str} {v : Value} : ∀ {P : List Str} {vs : List Value} {i : Nat} {m : Str → Option Value}, P.Nodup → P[i]? = some x → vs[i]? = some v → kindOf x ≠ some .local →
    bindC kindOf (P.zip vs) m x = some v
  | [], _, _, _, _, h, _, _ => by simp at h
  | _ :: _, [], _, _, _, _, h, _ => by simp at h
  | p :: P, w :: vs, 0, m, nd, h1, h2, hk => by
    simp at h1 h2; subst h1; subst h2
    show bindC kindOf ((p, w) :: P.zip vs) m p = _
    unfold bindC
    rw [bindC_out fun v hv => (List.nodup_cons.mp nd).1 (List.of_mem_zip hv).1, if_neg hk]
    simp
  | p :: P, w :: vs, i + 1, m, nd, h1, h2, hk => by
    show bindC kindOf ((p, w) :: P.zip vs) m x = _
    unfold bindC
    exact bindC_get (i := i) (List.nodup_cons.mp nd).2 (by simpa using h1) (by simpa using h2) hk
def start (N : List Str) (vs : List V) : St := vs.map some ++ List.replicate (N.length - vs.length) none
def cxOf (CX : CXT) (P : Program) (w : World) (K : PySem.W.Frag) (mg : Str → Option Value) (base : Heap) (N : List Str) (qual : Str) (scope : Scope) (f : Addr) (cd : Value) (A : Around) (outer : List Env) (s : Shared) (H : Hp) (E : XK) : Cx where
  prog := P
  w := w
  K := K
  mg := mg
  base := base
  A := A.deeper (envOfC qual scope s.heap.objs.size f cd)
  N := N
  s₀ := s
  H₀ := H
  env := envOfC qual scope s.heap.objs.size f cd
  outer := outer
  stack := envOfC qual scope s.heap.objs.size f cd :: outer
  ex := []
  calm := true
  fn := fun _ => true
  pn := []
  xe := fun e s' => wpAny (model P w) (A.deeper (envOfC qual scope s.heap.objs.size f cd)) (leaving (envOfC qual scope s.heap.objs.size f cd) e) (fun _ s'' => CX outer H s E e s'') (fun e' s'' => CX outer H s E e' s'') s'
theorem cell_has {sc : Scope} {n : Nat} {x : Str} (h : sc.names.lookup x = some .cell) : ∃ c, (cellsFrom n sc.names []).lookup x = some c := by
  have q := PySem.W.cellsFrom_some sc.names n [] (.inl h)
  exact Option.isSome_iff_exists.mp q
theorem inv_start {CX : CXT} {P : Program} {w : World} {K : PySem.W.Frag} {mg : Str → Option Value} {base : Heap} {N ps : List Str} {qual : Str} {scope : Scope} {f : Addr} {cd : Value} {A : Around} {outer : List Env} {s s1 : Shared} {H : Hp} {E : XK} {us : List Value} {vs : List V}
    (S : FnScope N ps scope) (hd : A.handled = none) (e0 : Env0 P w K mg base A outer s H) (hl : vs.length = ps.length) (r : Vals vs us)
    (x : InCallC s s.heap.objs.size (bindL (envOfC qual scope s.heap.objs.size f cd).kindOf (ps.zip us) fun _ => none) (cellsFrom (s.heap.objs.size + 1) scope.names []) (bindC (envOfC qual scope s.heap.objs.size f cd).kindOf (ps.zip us) fun _ => none) s1) :
    Inv (cxOf CX P w K mg base N qual scope f cd A outer s H E) [] (start N vs) H s1 := by
  have hpl : ps.length ≤ N.length := by have := congrArg List.length S.pre; rw [List.length_take] at this; omega
  obtain ⟨h1, tk, rfl, hk⟩ := x.done
  have noA : ∀ b : Addr, b ∉ (cxOf CX P w K mg base N qual scope f cd A outer s H E).ex := fun b z => absurd (show b ∈ ([] : List Addr) from z) (by simp)
  refine ⟨⟨e0.mod, S.kind, rfl, rfl, Nat.le_refl _, fun y z c h1 h2 => ?_, fun y hy => ?_, fun y c _ h => ?_, fun _ => hd, Around.frames_deeper e0.frames, .inr ⟨rfl, rfl⟩, fun b z => absurd z (noA b), e0.bs, e0.bsz, fun b _ _ => noA b, fun b z => absurd z (noA b), e0.funs, e0.frf⟩,
    rfl, e0.bare, Un.kept hk, ⟨_, x.toInCall.ns, fun i y v h1 h2 h3 => ?_⟩, fun y c h => ⟨_, x.cell y c h⟩, e0.hok.fresh (Nat.le_refl _), fun y c h => ?_, fun p hp => absurd (show p ∈ ([] : List (Addr × Obj)) from hp) (by simp), e0.hok.kept hk, ?_⟩
  · exact name_of_addr x.apart (PySem.mem_of_lookup h1) (PySem.mem_of_lookup h2)
  · have hy : scope.names.lookup y = some .cell ∨ scope.names.lookup y = some .free := hy
    rcases hy with hy | hy
    · exact cell_has hy
    · exact absurd rfl (S.nofree _ (PySem.mem_of_lookup hy))
  · exact Nat.le_of_lt (x.above y c (PySem.mem_of_lookup h))
  · have hi : i < vs.length := by
      unfold start at h2
      by_cases hi : i < vs.length
      · exact hi
      · rw [List.getElem?_append_right (by simpa using hi)] at h2
        rw [List.getElem?_replicate] at h2
        split at h2 <;> cases h2
    have ha : vs[i]? = some v := by
      unfold start at h2
      rw [List.getElem?_append_left (by simpa using hi), List.getElem?_map] at h2
      cases e : vs[i]? with
      | none => rw [e] at h2; cases h2
      | some a => rw [e] at h2; cases h2; rfl
    obtain ⟨u, hu, rv⟩ := r.get ha
    have hp : ps[i]? = some y := by
      rw [← S.pre, List.getElem?_take_of_lt (by omega)]; exact h1
    have ndP : ps.Nodup := by rw [← S.pre]; exact S.nd.sublist (List.take_sublist _ _)
    refine ⟨u, rv, ?_⟩
    rcases S.par y (List.mem_of_getElem? hp) with k | k
    · exact .inl ⟨k, bindL_get ndP hp hu k⟩
    · obtain ⟨c, e⟩ := cell_has (n := s.heap.objs.size + 1) k
      refine .inr ⟨.inl k, c, e, ?_⟩
      have q := x.cell y c e
      rw [bindC_get ndP hp hu (by show scope.names.lookup y ≠ _; rw [k]; decide)] at q
      exact q
  · exact e0.hok.fresh (Nat.le_of_lt (x.above y c (PySem.mem_of_lookup h)))
  · unfold start
    show _ = N.length
    rw [List.length_append, List.length_map, List.length_replicate]
    omega
theorem fn_of {CX : CXT} {P : Program} {w : World} {K : PySem.W.Frag} {mg : Str → Option Value} {base : Heap} {k : Nat} {f : Addr} {name qual : Str} {params : Arguments} {body : List Stmt} {scope : Scope} {dV kV doc pm cdv ct oc : Value} {an od : Option Addr}
    {osl : Array (Option Value)} {N ps : List Str} {sp : Sp} (lk : K.lookup f = some ⟨oc, od, .func (PySem.W.fnOf name qual params body scope dV kV doc pm an cdv ct), osl⟩) (hcd : PySem.W.codeIn K cdv qual = true) (S : FnScope N ps scope)
    (len : ∀ vs H Q E, sp vs H Q E → vs.length = ps.length)
    (hbody : ∀ (A : Around) (outer : List Env) (s : Shared) (H : Hp) (vs : List V) (Q : VK) (E : XK), Room k (A.deeper (envOfC qual scope s.heap.objs.size f cdv)) → sp vs H Q E →
      ∃ t, PSs (cxOf CX P w K mg base N qual scope f cdv A outer s H E) body t ∧ t { nx := fun _ H' => Q .non H', rt := Q } (start N vs) H) :
    FnOk P w K mg base CX (k + 1) f (PySem.W.fnOf name qual params body scope dV kV doc pm an cdv ct) ps sp := by
  refine ⟨len, fun A outer s H args us vs Q E hr e0 hb r hsp => ?_⟩
  have hl := len _ _ _ _ hsp
  have KX : K.In s.heap := e0.mod.kin.keeps fun b o e => (e0.bs b o e).1
  have lim : s.heap.NoLimit := e0.mod.nolimit.keeps fun b o e => (e0.bs b o e).1
  have hkind : ∀ y ∈ ps.zip us, scope.names.lookup y.1 = some .local ∨ (scope.names.lookup y.1 = some .cell ∧ ((cellsFrom (s.heap.objs.size + 1) scope.names []).lookup y.1).isSome = true) := fun ⟨n, v⟩ hy => by
    rcases S.par n (List.of_mem_zip hy).1 with q | q
    · exact .inl q
    · exact .inr ⟨q, PySem.W.cellsFrom_some _ _ _ (.inl q)⟩
  refine codeAny_call_function hr.depth (KX _ _ lk) rfl S.co S.gen rfl (PySem.W.codeRec_of KX hcd) (hb _ _ _ _ ?_)
  refine wpAny_newFunctionEnv_cells S.kind hkind fun env he s1 x => ?_
  subst he
  refine ⟨lim.keeps x.toInCall.keep, codeAny_func ?_⟩
  obtain ⟨t, ht, hq⟩ := hbody A outer s H vs Q E (hr.deeper _) hsp
  have I : Inv (cxOf CX P w K mg base N qual scope f cdv A outer s H E) [] (start N vs) H s1 := inv_start S hr.hd e0 hl r x
  refine wpAny_mono (ht [] s1 (start N vs) H _ I hq) (fun fl s' hs => ?_) fun e s' hs => hs
  have fin : ∀ {σ' : St} {H' : Hp} {v : V} {u : Value}, Inv (cxOf CX P w K mg base N qual scope f cdv A outer s H E) [] σ' H' s' → RelV v u → Q v H' → CE outer P w H s Q u s' :=
    fun {σ' H' v u} J rv q => ⟨v, H', J.os, J.bare, J.base, J.hok, rv, q⟩
  cases fl with
  | ret u =>
    obtain ⟨v, σ', H', J, rv, q⟩ := hs
    exact fin J rv q
  | next =>
    obtain ⟨σ', H', J, q⟩ := hs
    exact fin (v := V.non) (u := Value.none) J rfl q
  | brk =>
    obtain ⟨_, _, _, q⟩ := hs
    exact False.elim q
  | cont =>
    obtain ⟨_, _, _, q⟩ := hs
    exact False.elim q
end L2
namespace L2
open PySem PySem.Spec PyProof.Rows
section
variable {X : Cx} {x : Str} {p pos : Pos} {e : Expr} {es : List Expr} {t : TA} {id T : String} {r : List V → Hp → VK → Prop}
def tCB (r : List V → Hp → VK → Prop) (t : TA) : TE := fun σ H Q => t σ H fun vs H1 => r vs H1 Q
theorem pe_callB (hc : CallR X (.builtin id) r) (hg : Gl X x) (hm : X.mg x = none) (hv : bootBuiltins x = some (.builtin id)) (ha : PA X (e :: es) t) (hn : x ≠ "__name__" := by decide) (hdb : (x == ("__debug__" : Str)) = false := by decide)
    (he : starEach (e :: es) X.env = (false, eval e X.env) :: starEach es X.env := by rfl) (hpl : (backTo pos (starEach es X.env)).any (·.1) = false := by rfl) : PE X (.Call (.Name x p) (e :: es) [] pos) (tCB r t) := by
  intro pins s σ H Q I h
  refine wpAny_Call_Name_kw (ld_blt I hg hm hv ?_ hn hdb)
  exact PyProof.Rows.callWith_builtin1 (thn (ha pos pins s σ H _ I h) fun us s1 ⟨vs, H1, I1, r1, q1⟩ => hc pins s1 σ H1 vs us Q I1 r1 q1) he hpl
theorem pe_callTy (hc : CallR X (.type T) r) (hg : Gl X x) (hm : X.mg x = none) (hv : bootBuiltins x = some (.type T)) (ha : PA X (e :: es) t) (hn : x ≠ "__name__" := by decide) (hdb : (x == ("__debug__" : Str)) = false := by decide)
    (he : starEach (e :: es) X.env = (false, eval e X.env) :: starEach es X.env := by rfl) (hpl : (backTo pos (starEach es X.env)).any (·.1) = false := by rfl) : PE X (.Call (.Name x p) (e :: es) [] pos) (tCB r t) := by
  intro pins s σ H Q I h
  refine wpAny_Call_Name_kw (ld_blt I hg hm hv ?_ hn hdb)
  exact PyProof.Rows.callWith_type1 (thn (ha pos pins s σ H _ I h) fun us s1 ⟨vs, H1, I1, r1, q1⟩ => hc pins s1 σ H1 vs us Q I1 r1 q1) he hpl
end
end L2
namespace HT
open PySem PyProof.Rows
section
open PySem.SeqAt
open PySem.AutoSeq1 (wpAny_loadPart')
open PySem.MeetsSeq PySem.MeetsSeq2 PySem.MeetsSeq3
end
section
variable {prog : Program} {w : World} {A : Around} {E : Value → Shared → Prop} {s : Shared}
def sIx (n d : Nat) : Option Int → Nat
  | none => d
  | some v => if v < 0 then (v + (n : Int)).toNat else min v.toNat n
end
end HT
namespace L2
open PySem PySem.Spec PyProof.Rows
abbrev TO := St → Hp → (Option Int → Hp → Prop) → Prop
def PO (X : Cx) (e : Option Expr) (t : TO) : Prop :=
  ∀ (pins : List (Addr × Obj)) (s : Shared) (σ : St) (H : Hp) (Q : Option Int → Hp → Prop), Inv X pins σ H s → t σ H Q →
    wpAny (model X.prog X.w) X.A (evalPart e X.env) (fun u s' => ∃ o H', Inv X pins σ H' s' ∧ IsPart u o ∧ Q o H') X.xe s
def tNoPart : TO := fun _ H Q => Q none H
def tPart (t : TE) : TO := fun σ H Q => t σ H fun x H1 => ∃ i, x = .int i ∧ Q (some i) H1
section
variable {X : Cx} {e : Expr} {te : TE} {lo hi : Option Expr} {tl th : TO} {pos p2 : Pos}
theorem po_none : PO X none tNoPart := by
  intro pins s σ H Q I h
  rw [evalPart_none]
  exact wpAny_pure ⟨none, H, I, .none, h⟩
theorem po_some (h : PE X e te) : PO X (some e) (tPart te) := by
  intro pins s σ H Q I hw
  rw [evalPart_some]
  refine thn (h pins s σ H _ I hw) fun u s1 ⟨x, H1, I1, r1, q1⟩ => ?_
  obtain ⟨i, rfl, q⟩ := q1
  obtain ⟨t, rfl⟩ := r1
  exact ⟨some i, H1, I1, .int i t, q⟩
def SlR (X : Cx) (r : V → Option Int → Option Int → Hp → VK → Prop) : Prop :=
  ∀ (pins : List (Addr × Obj)) (s : Shared) (σ : St) (H : Hp) (x : V) (v vl vu : Value) (lo hi : Option Int) (sl : Addr) (Q : VK), Inv X pins σ H s → RelV x v → s.heap.IsSliceOf sl vl vu .none → IsPart vl lo → IsPart vu hi → r x lo hi H Q →
    ∃ T id, typeLookup (.type T) "__getitem__" = pure (some (.builtin id)) ∧ s.TypeIs v T ∧ wpAny (model X.prog X.w) X.A (getItem v (.ref sl)) (EP X pins σ Q) X.xe s
def tSl (r : V → Option Int → Option Int → Hp → VK → Prop) (te : TE) (tl th : TO) : TE := fun σ H Q => te σ H fun x H1 => tl σ H1 fun l H2 => th σ H2 fun u H3 => r x l u H3 Q
theorem pe_slice {r : V → Option Int → Option Int → Hp → VK → Prop} (hr : SlR X r) (he : PE X e te) (hl : PO X lo tl) (hu : PO X hi th) : PE X (.Subscript e (.Slice lo hi none p2) pos) (tSl r te tl th) := by
  intro pins s σ H Q I h
  refine Subscript_ (thn (he pins s σ H _ I h) fun v s1 ⟨x, H1, I1, r1, q1⟩ => ?_)
  refine wpAny_Slice (thn (hl pins s1 σ H1 _ I1 q1) fun vl s2 ⟨l, H2, I2, pl, q2⟩ => thn (hu pins s2 σ H2 _ I2 q2) fun vu s3 ⟨u, H3, I3, pu, q3⟩ => ?_)
  rw [evalPart_none]
  refine wpAny_pure ?_
  have I4 : Inv X pins σ H3 { s3 with heap := s3.heap.push { cls := .type "slice", data := .fields #[vl, vu, .none] } } := I3.kept (t' := s3.toks) fun b ob q => Heap.get?_push_of_some _ q
  obtain ⟨T, id, hT, ht, hg⟩ := hr pins { s3 with heap := s3.heap.push { cls := .type "slice", data := .fields #[vl, vu, .none] } } σ H3 x v vl vu l u s3.heap.objs.size Q I4 r1 (Heap.IsSliceOf.new ..) pl pu q3
  show wpAny (model X.prog X.w) X.A (subscriptTail e (.Slice lo hi none p2) v (.ref s3.heap.objs.size)) (EP X pins σ Q) X.xe { s3 with heap := s3.heap.push { cls := .type "slice", data := .fields #[vl, vu, .none] } }
  exact tail_any (ops := [.ref s3.heap.objs.size, v]) ht hT hg (by with_unfolding_all rfl)
def cutV (xs : List V) (lo hi : Option Int) : List V := (xs.drop (HT.sIx xs.length 0 lo)).take (HT.sIx xs.length xs.length hi - HT.sIx xs.length 0 lo)
theorem cutV_length (xs : List V) (lo hi : Option Int) : (cutV xs lo hi).length ≤ xs.length := by
  unfold cutV
  rw [List.length_take, List.length_drop]
  omega
end
end L2
namespace L2
open PySem PySem.Spec PyProof.Rows
def ixN (n : Nat) (i : Int) : Option Nat := if 0 ≤ i then (if i < n then some i.toNat else none) else if -(n : Int) ≤ i then some (i + n).toNat else none
def atI {α : Type} (xs : List α) (i : Int) : Option α := (ixN xs.length i).bind fun j => xs[j]?
theorem ixN_seq {n : Nat} {i : Int} {j : Nat} (h : ixN n i = some j) : seqIndex? i n = some j ∧ j < n ∧ -(n : Int) ≤ i ∧ i < n := by
  unfold ixN at h
  by_cases h0 : 0 ≤ i
  · rw [if_pos h0] at h
    by_cases h1 : i < n
    · rw [if_pos h1] at h
      have e : i.toNat = j := Option.some.inj h
      exact ⟨by rw [seqIndex_of h0 h1, e], by omega, by omega, h1⟩
    · rw [if_neg h1] at h; cases h
  · rw [if_neg h0] at h
    by_cases h1 : -(n : Int) ≤ i
    · rw [if_pos h1] at h
      have e : (i + n).toNat = j := Option.some.inj h
      exact ⟨by rw [seqIndex_neg (by omega) h1, e], by omega, h1, by omega⟩
    · rw [if_neg h1] at h; cases h
theorem atI_get {α : Type} {xs : List α} {i : Int} {v : α} (h : atI xs i = some v) : ∃ j, seqIndex? i xs.length = some j ∧ xs[j]? = some v ∧ j < xs.length ∧ -(xs.length : Int) ≤ i ∧ i < xs.length := by
  unfold atI at h
  cases e : ixN xs.length i with
  | none => rw [e] at h; cases h
  | some j =>
    rw [e] at h
    obtain ⟨h1, h2, h3, h4⟩ := ixN_seq e
    exact ⟨j, h1, h, h2, h3, h4⟩
theorem atI_nat {α : Type} {xs : List α} {j : Nat} {v : α} (h : xs[j]? = some v) : atI xs (j : Int) = some v := by
  have hj : j < xs.length := (List.getElem?_eq_some_iff.mp h).1
  have e : ixN xs.length (j : Int) = some j := by
    unfold ixN
    rw [if_pos (by omega), if_pos (by omega)]; simp
  unfold atI; rw [e]; exact h
def PlainIx (b : Expr) : Prop := ∀ o i, subscripted b false o i = operate [o, i] (getItem o i)
def IxR (X : Cx) (r : R2) : Prop :=
  ∀ (value slice : Expr) (pins : List (Addr × Obj)) (s : Shared) (σ : St) (H : Hp) (x y : V) (v u : Value) (Q : VK), Inv X pins σ H s → RelV x v → RelV y u → r x y H Q →
    subscripted slice false v u = operate [v, u] (getItem v u) → wpAny (model X.prog X.w) X.A (subscriptTail value slice v u) (EP X pins σ Q) X.xe s
def MtR (X : Cx) (id : String) (r : V → List V → Hp → VK → Prop) : Prop :=
  ∀ (pins : List (Addr × Obj)) (s : Shared) (σ : St) (H : Hp) (x : V) (xs : List V) (v : Value) (us : List Value) (Q : VK), Inv X pins σ H s → RelV x v → Vals xs us → r x xs H Q →
    wpAny (model X.prog X.w) X.A (call (.builtin id) (v :: us)) (EP X pins σ Q) X.xe s
section
variable {X : Cx} {a b : Expr} {ta tb : TE} {pos : Pos}
theorem pe_ix {r : R2} (hr : IxR X r) (ha : PE X a ta) (hb : PE X b tb) (hs : PlainIx b) : PE X (.Subscript a b pos) (tOp r ta tb) := by
  intro pins s σ H Q I h
  exact Subscript_ (binT ha hb I h fun v u s2 x y H2 I2 rx ry q => hr a b pins s2 σ H2 x y v u Q I2 rx ry q (hs _ _))
def rIxL (K : PySem.W.Frag) : R2 := fun x y H Q => ∃ p xs i v, x = .ref p ∧ y = .int i ∧ SqL K H p xs ∧ atI xs i = some v ∧ Q v H
def rIxT (K : PySem.W.Frag) : R2 := fun x y H Q => ∃ p xs i v, x = .ref p ∧ y = .int i ∧ SqT K H p xs ∧ atI xs i = some v ∧ Q v H
def rIxS : R2 := fun x y H Q => ∃ z i c, x = .str z ∧ y = .int i ∧ z.length ≤ sizeLine ∧ atI z.cps.toList i = some c ∧ Q (.str ⟨#[c]⟩) H
theorem ix_list : IxR X (rIxL X.K) := by
  intro value slice pins s σ H x y v u Q I rx ry h hs
  obtain ⟨p, xs, i, z, rfl, rfl, hq, he, q⟩ := h
  cases rx
  obtain ⟨t, rfl⟩ := ry
  obtain ⟨its, r, pl, hz⟩ := I.list hq
  obtain ⟨j, h1, h2, h3, h4, h5⟩ := atI_get he
  obtain ⟨w, ew, rw'⟩ := r.get h2
  have hl := r.length
  have hn := line63
  have fin : EP X pins σ Q w s := ⟨z, H, I, rw', q⟩
  by_cases h0 : 0 ≤ i
  · have hj : i.toNat = j := by
      rw [seqIndex_of h0 h5] at h1
      exact Option.some.inj h1
    exact item_listR pl.isList h0 (by omega) (by rw [hj]; simpa using ew) fin hs
  · have hj : (i + (its.toArray.size : Int)).toNat = j := by
      rw [seqIndex_neg (by omega) h4] at h1
      rw [List.size_toArray, ← hl]
      exact Option.some.inj h1
    exact subscriptTail_builtinR (x := w) pl.isList.typeIs slot_list_getitem.lookup
      (wpAny_getItem_list_neg (Q := fun r s' => r = w ∧ EP X pins σ Q r s') pl.isList (by omega) (by rw [List.size_toArray] <;> omega) (by omega) (by rw [hj]; simpa using ew) ⟨rfl, fin⟩) hs
theorem ix_tup : IxR X (rIxT X.K) := by
  intro value slice pins s σ H x y v u Q I rx ry h hs
  obtain ⟨p, xs, i, z, rfl, rfl, hq, he, q⟩ := h
  cases rx
  obtain ⟨t, rfl⟩ := ry
  obtain ⟨its, r, pl, hz⟩ := I.tuple hq
  obtain ⟨j, h1, h2, h3, h4, h5⟩ := atI_get he
  obtain ⟨w, ew, rw'⟩ := r.get h2
  have hl := r.length
  have hn := line63
  have fin : EP X pins σ Q w s := ⟨z, H, I, rw', q⟩
  exact subscriptTail_builtinR (x := w) pl.typeIs slot_tuple_getitem.lookup
    (getItem_tuple (j := j) (Q := fun r s' => r = w ∧ EP X pins σ Q r s') pl (by omega) (by omega) (by rw [List.size_toArray, ← hl]; exact h1) (by simpa using ew) ⟨rfl, fin⟩) hs
theorem ix_str : IxR X rIxS := by
  intro value slice pins s σ H x y v u Q I rx ry h hs
  obtain ⟨z, i, c, rfl, rfl, hz, he, q⟩ := h
  obtain ⟨t, rfl⟩ := rx
  obtain ⟨t', rfl⟩ := ry
  obtain ⟨j, h1, h2, h3, h4, h5⟩ := atI_get he
  have hl : z.cps.toList.length = z.length := by simp [Str.length]
  rw [hl] at h1 h4 h5
  have hn := line63
  exact tail_any (typeIs_str s z t) slot_str_getitem.lookup (getItem_str (c := c) (by
    have e1 : decide (i < -(2 ^ 63 : Int)) = false := decide_eq_false (by omega)
    have e2 : decide (i ≥ 2 ^ 63) = false := decide_eq_false (by omega)
    rw [e1, e2, Bool.or_false]) (by rw [h1]; simpa using h2) ⟨.str ⟨#[c]⟩, H, I.tok _, ⟨_, rfl⟩, q⟩) hs
theorem slice_bounds (lo hi : Option Int) (n : Nat) : (sliceBounds lo hi none n).1 = ((HT.sIx n 0 lo : Nat) : Int) ∧ (sliceBounds lo hi none n).2.1 = ((HT.sIx n n hi : Nat) : Int) ∧ (sliceBounds lo hi none n).2.2 = 1 := by
  refine ⟨?_, ?_, rfl⟩
  · cases lo with
    | none => simp [sliceBounds, HT.sIx]
    | some i =>
      simp only [sliceBounds, HT.sIx, Option.getD_none, show (1 : Int) > 0 by decide, if_true]
      by_cases h : i < 0
      · simp only [h, if_true] <;> omega
      · simp only [h, if_false] <;> omega
  · cases hi with
    | none => simp [sliceBounds, HT.sIx]
    | some i =>
      simp only [sliceBounds, HT.sIx, Option.getD_none, show (1 : Int) > 0 by decide, if_true]
      by_cases h : i < 0
      · simp only [h, if_true] <;> omega
      · simp only [h, if_false] <;> omega
theorem slicePick_cut (its : List Value) (lo hi : Option Int) : slicePick its.toArray lo hi none = ((its.drop (HT.sIx its.length 0 lo)).take (HT.sIx its.length its.length hi - HT.sIx its.length 0 lo)).toArray := by
  obtain ⟨h1, h2, h3⟩ := slice_bounds lo hi its.toArray.size
  unfold slicePick
  rw [h1, h2, h3]
  simp only [sliceRange_one, pick_run, List.size_toArray] <;> rfl
def rSlL (K : PySem.W.Frag) : V → Option Int → Option Int → Hp → VK → Prop := fun x lo hi H Q => ∃ a xs, x = .ref a ∧ SqL K H a xs ∧ ∀ p, H p = none → Q (.ref p) (upd H p (.lst (cutV xs lo hi)))
theorem sl_list : SlR X (rSlL X.K) := by
  intro pins s σ H x v vl vu lo hi sl Q I rx hs pl pu h
  obtain ⟨a, xs, rfl, hx, q⟩ := h
  cases rx
  obtain ⟨its, r, ht, hz⟩ := I.list hx
  have hlen := r.length
  refine ⟨"list", _, slot_list_getitem.lookup, ht.isList.typeIs, ?_⟩
  refine wpAny_getItem_list_slice ht.isList hs pl pu .none (by simp) ?_ (by rw [List.size_toArray] <;> omega)
  rw [slicePick_cut, ← hlen]
  refine ⟨.ref s.heap.objs.size, _, I.laid (t' := s.toks) (o := .lst (cutV xs lo hi)) (fun b ob q => Heap.get?_push_of_some _ q) (Nat.le_refl _) ?_, rfl, q _ (I.hok.fresh (Nat.le_refl _))⟩
  exact ⟨Nat.le_trans (cutV_length xs lo hi) hz, _, 0, (r.drop (HT.sIx xs.length 0 lo)).take (HT.sIx xs.length xs.length hi - HT.sIx xs.length 0 lo), Heap.get?_push_size _ rfl⟩
def flatV : V → Bool
  | .non => true
  | .bl _ => true
  | .int _ => true
  | .str _ => true
  | _ => false
def eqV : V → V → Bool
  | .non, .non => true
  | .bl a, .bl b => a == b
  | .bl a, .int b => (if a then 1 else 0) == b
  | .int a, .bl b => a == (if b then 1 else 0)
  | .int a, .int b => a == b
  | .str a, .str b => a == b
  | _, _ => false
theorem eqAt_V {A : Around} {s : Shared} {y x : V} {u v : Value} (ry : RelV y u) (rx : RelV x v) (fy : flatV y = true) (fx : flatV x = true) : SeqAt.EqAt A s u v (eqV y x) := by
  cases y with
  | non =>
    cases ry
    cases x with
    | non => cases rx; exact SeqAt.EqAt.same _
    | bl b => cases rx; exact SeqAt.EqAt.none_bool b
    | int b => obtain ⟨t, rfl⟩ := rx; exact SeqAt.EqAt.none_int b t
    | str b => obtain ⟨t, rfl⟩ := rx; exact SeqAt.EqAt.none_str b t
    | _ => exact absurd (show false = true from fx) Bool.false_ne_true
  | bl a =>
    cases ry
    cases x with
    | non => cases rx; exact SeqAt.EqAt.bool_none a
    | bl b => cases rx; exact SeqAt.EqAt.bool_bool a b
    | int b => obtain ⟨t, rfl⟩ := rx; exact SeqAt.EqAt.bool_int a b t
    | str b => obtain ⟨t, rfl⟩ := rx; exact SeqAt.EqAt.bool_str a b t
    | _ => exact absurd (show false = true from fx) Bool.false_ne_true
  | int a =>
    obtain ⟨t', rfl⟩ := ry
    cases x with
    | non => cases rx; exact SeqAt.EqAt.int_none a t'
    | bl b => cases rx; exact SeqAt.EqAt.int_bool a t' b
    | int b => obtain ⟨t, rfl⟩ := rx; exact SeqAt.EqAt.int_int a t' b t
    | str b => obtain ⟨t, rfl⟩ := rx; exact SeqAt.EqAt.int_str a t' b t
    | _ => exact absurd (show false = true from fx) Bool.false_ne_true
  | str a =>
    obtain ⟨t', rfl⟩ := ry
    cases x with
    | non => cases rx; exact SeqAt.EqAt.str_none a t'
    | bl b => cases rx; exact SeqAt.EqAt.str_bool a t' b
    | int b => obtain ⟨t, rfl⟩ := rx; exact SeqAt.EqAt.str_int a t' b t
    | str b => obtain ⟨t, rfl⟩ := rx; exact SeqAt.EqAt.str_str a t' b t
    | _ => exact absurd (show false = true from fx) Bool.false_ne_true
  | _ => exact absurd (show false = true from fy) Bool.false_ne_true
def eqU (x : V) (u : Value) : Bool := match u with
  | .none => eqV .non x
  | .bool b => eqV (.bl b) x
  | .int i _ => eqV (.int i) x
  | .str z _ => eqV (.str z) x
  | _ => false
theorem eqU_of {x y : V} {u : Value} (r : RelV y u) (f : flatV y = true) : eqU x u = eqV y x := by
  cases y with
  | non => cases r; rfl
  | bl b => cases r; rfl
  | int i => obtain ⟨t, rfl⟩ := r; rfl
  | str z => obtain ⟨t, rfl⟩ := r; rfl
  | _ => exact absurd (show false = true from f) Bool.false_ne_true
theorem any_eqU {x : V} : ∀ {xs : List V} {us : List Value}, Vals xs us → xs.all flatV = true → us.any (eqU x) = xs.any fun y => eqV y x
  | _, _, .nil, _ => rfl
  | y :: xs, u :: us, .cons r t, f => by
    rw [List.all_cons, Bool.and_eq_true] at f
    rw [List.any_cons, List.any_cons, eqU_of r f.1, any_eqU t f.2]
theorem mem_eqAt {A : Around} {s : Shared} {x : V} {v : Value} (rx : RelV x v) (fx : flatV x = true) : ∀ {xs : List V} {us : List Value}, Vals xs us → xs.all flatV = true → ∀ u ∈ us, SeqAt.EqAt A s u v (eqU x u)
  | _, _, .nil, _ => fun u hu => by cases hu
  | y :: xs, u :: us, .cons r t, f => fun u' hu => by
    rw [List.all_cons, Bool.and_eq_true] at f
    rcases List.mem_cons.mp hu with rfl | hu
    · rw [eqU_of r f.1]; exact eqAt_V r rx f.1 fx
    · exact mem_eqAt rx fx t f.2 u' hu
def inV (x : V) (xs : List V) : Bool := xs.any fun y => eqV y x
def rIn (K : PySem.W.Frag) (neg : Bool) : R2 := fun x y H Q => ∃ p xs, y = .ref p ∧ (SqL K H p xs ∨ SqT K H p xs) ∧ flatV x = true ∧ xs.all flatV = true ∧ Q (.bl (if neg then !inV x xs else inV x xs)) H
theorem op_in_seq : OpR X (compareOp .In) (rIn X.K false) := by
  intro pins s σ H x y v u Q I rx ry h
  obtain ⟨p, xs, rfl, hq, fx, fs, q⟩ := h
  cases ry
  rcases hq with hq | hq
  · obtain ⟨its, r, pl, hz⟩ := I.list hq
    refine SeqAt.in_listAt (eqU x) pl.isList (fun w hw => mem_eqAt rx fx r fs w (by simpa using hw)) ⟨.bl _, H, I, rfl, ?_⟩
    rw [show its.toArray.any (eqU x) = its.any (eqU x) by simp, any_eqU r fs]
    exact q
  · obtain ⟨its, r, pl, hz⟩ := I.tuple hq
    refine SeqAt.in_tupleAt (eqU x) pl (fun w hw => mem_eqAt rx fx r fs w (by simpa using hw)) ⟨.bl _, H, I, rfl, ?_⟩
    rw [show its.toArray.any (eqU x) = its.any (eqU x) by simp, any_eqU r fs]
    exact q
theorem call_len_seq : CallR X (.builtin "len") (fun xs H Q => ∃ p ys, xs = [.ref p] ∧ (SqL X.K H p ys ∨ SqT X.K H p ys) ∧ Q (.int ys.length) H) := by
  intro pins s σ H xs us Q I r h
  obtain ⟨p, ys, rfl, hq, q⟩ := h
  obtain ⟨u, rfl, rx⟩ := vals1 r
  cases rx
  have hn := line63
  rcases hq with hq | hq
  · obtain ⟨its, r', pl, hz⟩ := I.list hq
    have hlen := r'.length
    exact Calls.call_len_list pl.isList (by simp only [List.size_toArray] <;> omega) ⟨.int ys.length, H, I.tok _, ⟨s.toks + 1, by rw [List.size_toArray, hlen]⟩, q⟩
  · obtain ⟨its, r', pl, hz⟩ := I.tuple hq
    have hlen := r'.length
    exact len_tuple pl (by simp only [List.size_toArray] <;> omega) ⟨.int ys.length, H, I.tok _, ⟨s.toks + 1, by rw [List.size_toArray, hlen]⟩, q⟩
theorem call_len_str : CallR X (.builtin "len") (fun xs H Q => ∃ z, xs = [.str z] ∧ z.length ≤ sizeLine ∧ Q (.int z.length) H) := by
  intro pins s σ H xs us Q I r h
  obtain ⟨z, rfl, hz, q⟩ := h
  obtain ⟨u, rfl, t, rfl⟩ := vals1 r
  have hn := line63
  exact len_str (by omega) ⟨.int z.length, H, I.tok _, ⟨_, rfl⟩, q⟩
theorem call_list_of : CallR X (.type "list") (fun xs H Q => ∃ p ys, xs = [.ref p] ∧ (SqL X.K H p ys ∨ SqT X.K H p ys) ∧ ∀ l, H l = none → Q (.ref l) (upd H l (.lst ys))) := by
  intro pins s σ H xs us Q I r h
  obtain ⟨p, ys, rfl, hq, q⟩ := h
  obtain ⟨u, rfl, rx⟩ := vals1 r
  cases rx
  have fin : ∀ (its : List Value), Vals ys its → ys.length ≤ sizeLine → ∀ (h' : Heap) (c' : Nat), (∀ b o', s.heap.get? b = some o' → h'.get? b = some o') →
      h'.get? s.heap.objs.size = some { cls := .type "list", dict := none, data := .seq its.toArray c', slots := #[] } → EP X pins σ Q (.ref s.heap.objs.size) { s with heap := h' } := fun its r' hz h' c' kp e =>
    ⟨.ref s.heap.objs.size, _, I.laid (t' := s.toks) kp (Nat.le_refl _) (show ObjOk X.prog X.w _ h' _ (.lst ys) from ⟨hz, its, c', r', e⟩), rfl, q _ (I.hok.fresh (Nat.le_refl _))⟩
  rcases hq with hq | hq
  · obtain ⟨its, r', pl, hz⟩ := I.list hq
    have hlen := r'.length
    obtain ⟨o, ho, hc, n, hd⟩ := pl.isList
    exact call_list_seq p (.inl rfl) ho hc hd (fun h' c' kp e => fin its r' hz h' c' kp e) (by simp only [List.size_toArray] <;> omega)
  · obtain ⟨its, r', pl, hz⟩ := I.tuple hq
    have hlen := r'.length
    obtain ⟨o, ho, hc, n, hd⟩ := pl
    exact call_list_seq p (.inr rfl) ho hc hd (fun h' c' kp e => fin its r' hz h' c' kp e) (by simp only [List.size_toArray] <;> omega)
def tyV (K : PySem.W.Frag) (T : String) (x : V) (H : Hp) : Prop := match x with
  | .str _ => T = "str"
  | .int _ => T = "int"
  | .ref p => (T = "list" ∧ ∃ xs, SqL K H p xs) ∨ (T = "tuple" ∧ ∃ o, K.lookup p = some o ∧ o.cls = .type "tuple" ∧ o.dict = none) ∨
      (T = "dict" ∧ ((∃ kvs, H p = some (.dK kvs)) ∨ ∃ kvs, H p = some (.dT kvs))) ∨ (T = "set" ∧ ∃ S n, H p = some (.set S n))
  | _ => False
theorem tyV_is {pins : List (Addr × Obj)} {σ : St} {H : Hp} {s : Shared} {T : String} {x : V} {v : Value} (I : Inv X pins σ H s) (r : RelV x v) (ty : tyV X.K T x H) :
    s.TypeIs v T ∧ ∀ a, v = .ref a → ∃ ob, s.heap.get? a = some ob ∧ ob.dict = none := by
  cases x with
  | str z =>
    obtain ⟨t, rfl⟩ := r
    cases (show T = "str" from ty)
    exact ⟨typeIs_str s z t, fun _ e => nomatch e⟩
  | int i =>
    obtain ⟨t, rfl⟩ := r
    cases (show T = "int" from ty)
    exact ⟨typeIs_int s i t, fun _ e => nomatch e⟩
  | ref p =>
    cases r
    rcases ty with ⟨rfl, xs, hq⟩ | ⟨rfl, o, hk, hc, hd⟩ | ⟨rfl, hk⟩ | ⟨rfl, S, n, hk⟩
    · obtain ⟨its, _, pl, _⟩ := I.list hq
      refine ⟨pl.isList.typeIs, fun a e => ?_⟩
      cases e
      obtain ⟨o, n, e, c, hd, _⟩ := pl
      exact ⟨o, e, hd⟩
    · refine ⟨⟨o, I.kIn p o hk, hc⟩, fun a e => ?_⟩
      cases e
      exact ⟨o, I.kIn _ o hk, hd⟩
    · have z : ∃ o, s.heap.get? p = some o ∧ o.ExactDict := by
        rcases hk with ⟨kvs, hk⟩ | ⟨kvs, hk⟩
        · obtain ⟨_, _, _, _, o, _, _, e, ex, _⟩ := I.hok p _ hk
          exact ⟨o, e, ex⟩
        · obtain ⟨_, _, _, _, o, _, _, e, ex, _⟩ := I.hok p _ hk
          exact ⟨o, e, ex⟩
      obtain ⟨o, e, ex⟩ := z
      refine ⟨⟨o, e, ex.1⟩, fun a e2 => ?_⟩
      cases e2
      exact ⟨o, e, ex.2.1⟩
    · obtain ⟨o, _, _, _, e, ex, _⟩ := I.hok p _ hk
      refine ⟨⟨o, e, ex.1⟩, fun a e2 => ?_⟩
      cases e2
      exact ⟨o, e, ex.2.1⟩
  | _ => exact False.elim ty
def tBM (K : PySem.W.Frag) (T : String) (r : V → List V → Hp → VK → Prop) (to : TE) (t : TA) : TE := fun σ H Q => to σ H fun x H1 => tyV K T x H1 ∧ t σ H1 fun xs H2 => r x xs H2 Q
variable {o e : Expr} {es : List Expr} {to : TE} {t : TA} {name : Str} {apos cpos : Pos} {T id : String} {r : V → List V → Hp → VK → Prop}
theorem pe_bm (pa : PlainAttrs T) (slot : Slot T name id) (hty : typeOf (.builtin id) = pure (.type "method_descriptor")) (hm : MtR X id r) (ho : PE X o to) (ha : PA X (e :: es) t)
    (hbase : attributeBase o name X.env (eval o X.env) = eval o X.env := by rfl)
    (hfew : ((backTo cpos (starEach (e :: es) X.env)).all (fun x => !x.1) && (backToKw cpos (keywordEach [] X.env)).all (fun x => x.1.isSome)
      && decide ((e :: es).length + ([] : List Keyword).length + (if ([] : List Keyword).isEmpty then 0 else 1) < 30)) = true := by rfl)
    (hline : (apos.endLine == cpos.line) = true := by rfl) (hs : starEach (e :: es) X.env = (false, eval e X.env) :: starEach es X.env := by rfl) (hplain : (backTo cpos (starEach es X.env)).any (·.1) = false := by rfl) :
    PE X (.Call (.Attribute o name apos) (e :: es) [] cpos) (tBM X.K T r to t) := by
  intro pins s σ H Q I h
  refine wpAny_Call_method_late hbase hfew hline rfl (thn (ho pins s σ H _ I h) fun v s1 ⟨x, H1, I1, r1, ty, q1⟩ => ?_)
  obtain ⟨h1, h2⟩ := tyV_is I1 r1 ty
  refine ⟨T, id, pa, slot, hty, h1, h2, ?_⟩
  have hA := ha cpos pins s1 σ H1 _ I1 q1
  rw [hs] at hA ⊢
  refine Calls.callWith_builtin (by show (false || (backTo cpos (starEach es X.env)).any (·.1)) = false; rw [hplain] <;> rfl) (Calls.evalArgs_plain ?_)
  exact thn hA fun us s2 ⟨vs, H2, I2, r2, q2⟩ => hm pins s2 σ H2 x vs v us Q I2 r1 r2 q2
/- xs.append(e), list.index on a module's tuple .. are MtR facts of 06m -/
end
end L2
namespace L2
open PySem PySem.Spec PyProof.Rows
def MtM (X : Cx) (id : String) (r : V → List V → Hp → VK → Prop) : Prop :=
  ∀ (pins : List (Addr × Obj)) (s : Shared) (σ : St) (H : Hp) (x : V) (xs : List V) (v : Value) (us : List Value) (Q : VK), Inv X pins σ H s → RelV x v → Vals xs us → r x xs H Q →
    wpAny (model X.prog X.w) X.A (call (.builtin id) (v :: us)) (EP X pins σ Q) X.xe s
theorem Vals.one : ∀ {x : V} {us : List Value}, Vals [x] us → ∃ u, us = [u] ∧ RelV x u
  | _, _, .cons r .nil => ⟨_, rfl, r⟩
theorem Vals.two : ∀ {x y : V} {us : List Value}, Vals [x, y] us → ∃ u v, us = [u, v] ∧ RelV x u ∧ RelV y v
  | _, _, _, .cons r (.cons q .nil) => ⟨_, _, rfl, r, q⟩
theorem Vals.rep {xs : List V} {us : List Value} (h : Vals xs us) : ∀ k : Nat, Vals (List.replicate k xs).flatten (List.replicate k us).flatten
  | 0 => .nil
  | k + 1 => by
    rw [List.replicate_succ, List.replicate_succ, List.flatten_cons, List.flatten_cons]
    exact Vals.append h (Vals.rep h k)
theorem foldl_rep (its : List Value) : ∀ (k : Nat) (acc : List Value),
    List.foldl (fun x1 x2 => x1 ++ x2) acc.toArray (List.replicate k its.toArray) = (acc ++ (List.replicate k its).flatten).toArray
  | 0, acc => by simp
  | k + 1, acc => by
    have e : acc.toArray ++ its.toArray = (acc ++ its).toArray := by simp
    have e2 : (acc ++ its) ++ (List.replicate k its).flatten = acc ++ (List.replicate (k + 1) its).flatten := by
      rw [List.replicate_succ, List.flatten_cons, List.append_assoc]
    rw [← e2, ← foldl_rep its k (acc ++ its), ← e, List.replicate_succ, List.foldl_cons]
section
variable {X : Cx} {pins : List (Addr × Obj)} {σ : St} {H : Hp} {s : Shared} {l b : Addr} {xs ys zs : List V}
theorem Inv.lset {its its' : List Value} {n : Nat} {f : Array Value → Array Value} {t' : Nat} (I : Inv X pins σ H s) (hH : H l = some (.lst xs))
    (e : s.heap.get? l = some { cls := .type "list", data := .seq its.toArray n }) (hf : f its.toArray = its'.toArray) (hv : Vals ys its') (hz : ys.length ≤ sizeLine) :
    Inv X pins σ (upd H l (.lst ys)) { s with heap := s.heap.update l (Obj.mapSeq f), toks := t' } := by
  have q := PySem.IsL.update e f
  rw [hf] at q
  refine I.write (x := l) (e := l) (by rw [hH]; exact trivial) (.inl rfl) (fun b' u hb hu => (Heap.get?_update_other s.heap (Obj.mapSeq f) (Ne.symm hb)).trans hu) ⟨_, q⟩ ?_
  exact ⟨hz, its', _, hv, q⟩
theorem Inv.lnew {its : List Value} {t' : Nat} (I : Inv X pins σ H s) (hv : Vals ys its) (hz : ys.length ≤ sizeLine) :
    Inv X pins σ (upd H s.heap.objs.size (.lst ys)) { s with heap := s.heap.push { cls := .type "list", data := .seq its.toArray }, toks := t' } :=
  I.laid (fun _ _ q => Heap.get?_push_of_some _ q) (Nat.le_refl _) ⟨hz, its, 0, hv, Heap.get?_push_size _ rfl⟩
theorem Inv.fresh (I : Inv X pins σ H s) : H s.heap.objs.size = none := I.hok.fresh (Nat.le_refl _)
theorem Inv.lstM (I : Inv X pins σ H s) (hH : H l = some (.lst xs)) : xs.length ≤ sizeLine ∧ ∃ (its : List Value) (n : Nat), Vals xs its ∧ xs.length = its.length ∧ s.heap.get? l = some { cls := .type "list", data := .seq its.toArray n } := by
  obtain ⟨z, its, n, r, e⟩ := I.hok l _ hH
  exact ⟨z, its, n, r, r.length, e⟩
theorem notLongL {n : Nat} (h : n ≤ sizeLine) : Builtin.List.listTooLong n = false := by
  unfold Builtin.List.listTooLong
  exact decide_eq_false (by omega)
end
section
variable {X : Cx}
def rAppend : V → List V → Hp → VK → Prop := fun x vs H Q => ∃ l xs y, x = .ref l ∧ vs = [y] ∧ H l = some (.lst xs) ∧ xs.length < sizeLine ∧ Q .non (upd H l (.lst (xs ++ [y])))
theorem mt_append : MtM X "list.append" rAppend := by
  intro pins s σ H x vs v us Q I rx rv h
  obtain ⟨l, xs, y, rfl, rfl, hH, hz, q⟩ := h
  cases rx
  obtain ⟨u, rfl, ru⟩ := rv.one
  obtain ⟨z, its, n, r, hl, e⟩ := I.lstM hH
  refine call_meets F.slot_list_append ⟨_, e, rfl⟩ F.entry_list_append (F.args_list_append_2 _ _) (PySem.list_append l its.toArray n u (by rw [List.size_toArray]; omega)) ⟨e, ?_⟩
  refine ⟨.non, _, I.lset (its' := its ++ [u]) hH e (by simp) (r.append (.cons ru .nil)) ?_, rfl, q⟩
  rw [List.length_append, List.length_singleton]
  omega
def rExtend : V → List V → Hp → VK → Prop := fun x vs H Q => ∃ l b xs zs, x = .ref l ∧ vs = [.ref b] ∧ H l = some (.lst xs) ∧ H b = some (.lst zs) ∧ xs.length + zs.length ≤ sizeLine ∧ Q .non (upd H l (.lst (xs ++ zs)))
theorem mt_extend : MtM X "list.extend" rExtend := by
  intro pins s σ H x vs v us Q I rx rv h
  obtain ⟨l, b, xs, zs, rfl, rfl, hH, hB, hz, q⟩ := h
  cases rx
  obtain ⟨u, rfl, ru⟩ := rv.one
  cases ru
  obtain ⟨z, its, n, r, hl, e⟩ := I.lstM hH
  obtain ⟨z2, its2, n2, r2, hl2, e2⟩ := I.lstM hB
  have hsz : its.toArray.size + its2.toArray.size ≤ sizeLine := by rw [List.size_toArray, List.size_toArray]; omega
  have hlong : ¬ (!its.toArray.isEmpty && Builtin.List.listTooLong (its.toArray.size + its2.toArray.size)) = true := by
    rw [notLongL hsz, Bool.and_false]
    exact Bool.false_ne_true
  refine call_meets F.slot_list_extend ⟨_, e, rfl⟩ F.entry_list_extend (F.args_list_extend_2 _ _)
    (AutoSeq1.list_extend_list_list_0 l its.toArray n b its2.toArray n2 hlong (by rw [List.size_toArray]; omega) (by omega)) ⟨e, e2, ?_⟩
  refine ⟨.non, _, I.lset (its' := its ++ its2) hH e (by simp) (r.append r2) ?_, rfl, q⟩
  rw [List.length_append]
  omega
def rCat : R2 := fun x y H Q => ∃ l b xs zs, x = .ref l ∧ y = .ref b ∧ H l = some (.lst xs) ∧ H b = some (.lst zs) ∧ xs.length + zs.length ≤ sizeLine ∧ ∀ p, H p = none → Q (.ref p) (upd H p (.lst (xs ++ zs)))
theorem op_cat : OpR X (binaryOp .Add) rCat := by
  intro pins s σ H x y v u Q I rx ry h
  obtain ⟨l, b, xs, zs, rfl, rfl, hH, hB, hz, q⟩ := h
  cases rx
  cases ry
  obtain ⟨z, its, n, r, hl, e⟩ := I.lstM hH
  obtain ⟨z2, its2, n2, r2, hl2, e2⟩ := I.lstM hB
  refine PySem.P.add_list e e2 ?_ (by rw [List.size_toArray, List.size_toArray]; omega)
  have ea : its.toArray ++ its2.toArray = (its ++ its2).toArray := by simp
  rw [ea]
  exact ⟨.ref _, _, I.lnew (t' := s.toks) (r.append r2) (by rw [List.length_append]; omega), rfl, q _ I.fresh⟩
def rRep : R2 := fun x y H Q => ∃ l k xs, x = .ref l ∧ y = .int k ∧ H l = some (.lst xs) ∧ -(2 ^ 63) ≤ k ∧ k < 2 ^ 63 ∧ xs.length * k.toNat ≤ sizeLine ∧
  ∀ p, H p = none → Q (.ref p) (upd H p (.lst (List.replicate k.toNat xs).flatten))
theorem len_rep {α : Type} (xs : List α) (k : Nat) : (List.replicate k xs).flatten.length = k * xs.length := by
  induction k with
  | zero => simp
  | succ k ih => rw [List.replicate_succ, List.flatten_cons, List.length_append, ih, Nat.succ_mul, Nat.add_comm]
theorem op_rep : OpR X (binaryOp .Mult) rRep := by
  intro pins s σ H x y v u Q I rx ry h
  obtain ⟨l, k, xs, rfl, rfl, hH, h1, h2, hz, q⟩ := h
  cases rx
  obtain ⟨t, rfl⟩ := ry
  obtain ⟨z, its, n, r, hl, e⟩ := I.lstM hH
  have hlen : its.toArray.size * k.toNat ≤ sizeLine := by rw [List.size_toArray, ← hl]; exact hz
  have hcap : ¬ its.toArray.size * k.toNat > (2 ^ 63 - 1) / 8 := by
    have : (sizeLine : Nat) ≤ (2 ^ 63 - 1) / 8 := by decide
    omega
  have hfit : ¬ (!Builtin.List.listFitsIndex k) = true := by
    rw [fitsIndex_both h1 h2]
    exact Bool.false_ne_true
  have hlong : ¬ Builtin.List.listTooLong (its.toArray.size * k.toNat) = true := by
    rw [notLongL hlen]
    exact Bool.false_ne_true
  have hnew : List.foldl (fun x1 x2 => x1 ++ x2) #[] (List.replicate (if its.toArray.isEmpty = true then 0 else k.toNat) its.toArray) = (List.replicate k.toNat its).flatten.toArray := by
    have f0 : ∀ m : Nat, List.foldl (fun x1 x2 => x1 ++ x2) #[] (List.replicate m its.toArray) = (List.replicate m its).flatten.toArray := fun m => by
      have := foldl_rep its m []
      rw [List.nil_append] at this
      exact this
    rw [f0]
    cases its with
    | nil => simp
    | cons a r' => rw [if_neg (by simp)]
  refine wpAny_binaryOp_repeat_ref (T := "list") (U := "int") (by decide) ⟨_, e, rfl⟩ (fun s' => typeIs_int s' k t) noFill_list_mul F.fills_int_mul F.slot_int_rmul repeat_list F.slot_int_index.lookup
    (call_meets F.slot_int_rmul (typeIs_int s k t) F.entry_int_rmul (F.args_int_rmul_2 _ _) (int___rmul___int_list k t l its.toArray n)
      ⟨e, rfl, ⟨_, e, rfl⟩, call_meets F.slot_list_mul ⟨_, e, rfl⟩ F.entry_list_mul (F.args_list_mul_2 _ _) (AutoListH.list___mul___list_int_3 l its.toArray n k t hfit hcap hlong) ⟨e, ?_⟩⟩)
  rw [hnew]
  exact ⟨.ref _, _, I.lnew (t' := s.toks) (r.rep k.toNat) (by rw [len_rep, Nat.mul_comm]; exact hz), rfl, q _ I.fresh⟩
end
section
variable {prog : Program} {w : World} {A : Around} {E : Value → Shared → Prop} {s : Shared}
end
section
variable {X : Cx}
end
end L2
namespace L2
open PySem PySem.Spec PyProof.Rows
section
variable {κ : Type} [DecidableEq κ]
theorem KV.length {kvs : List (κ × V)} {vs : List (κ × Value)} (r : KV kvs vs) : kvs.length = vs.length := Paired.length r
end
section
variable {P : Program} {w : World} {H : Hp} {h : Heap} {a : Addr}
theorem rd_of {u : HO} (ok : HOk P w H h) (e : Rd H a u) : ObjOk P w H h a u := e.ok ok
theorem dk_rd {kvs : List (Key × V)} (ok : HOk P w H h) (e : Rd H a (.dK kvs)) : kvs.length ≤ sizeLine ∧ (a == sysModules) = false ∧ ∃ vs, KV kvs vs ∧ h.DictOf (mixKind P w) a vs :=
  show ObjOk P w H h a (.dK kvs) from rd_of ok e
theorem dk_of {kvs : List (Key × V)} (ok : HOk P w H h) (e : H a = some (.dK kvs)) : kvs.length ≤ sizeLine ∧ (a == sysModules) = false ∧ ∃ vs, KV kvs vs ∧ h.DictOf (mixKind P w) a vs := dk_rd ok (.inl e)
end
section
variable {X : Cx} {pins : List (Addr × Obj)} {σ : St} {H : Hp} {s : Shared} {a : Addr} {y v : V} {u r : Value} {o : Option V} {A : Around} {E : Value → Shared → Prop}
end
section
variable {X : Cx} {pins : List (Addr × Obj)} {σ : St} {H : Hp} {s : Shared} {a : Addr} {kvs : List (Key × V)} {k : Key} {u : Value} {A : Around} {E : Value → Shared → Prop}
end
section
variable {X : Cx} {o i e value : Expr} {pos pos' tpos : Pos} {td ty tv : TE}
end
section
variable {X : Cx} {pos : Pos}
end
section
variable {X : Cx} {pins : List (Addr × Obj)} {σ : St} {H : Hp} {s : Shared} {a : Addr} {y d : V} {u r : Value} {o : Option V} {A : Around} {E : Value → Shared → Prop}
end
section
variable {X : Cx} {o e f : Expr} {apos cpos : Pos} {td ty tx : TE}
end
section
variable {X : Cx} {pins : List (Addr × Obj)} {σ : St} {H : Hp} {s : Shared} {a : Addr} {kvs : List (Key × V)} {A : Around} {E : Value → Shared → Prop}
end
section
variable {X : Cx} {pins : List (Addr × Obj)} {σ : St} {H : Hp} {s : Shared} {a : Addr} {y : V} {u : Value} {A : Around} {E : Value → Shared → Prop}
end
end L2
namespace Att
open PySem PySem.W PySem.Calls PyProof.Rows
theorem ints_of_wellAll {P : Params} {h : Heap} : ∀ (ns : List Int) (vs : List Value), WellAll P h vs (ns.map WData.int) → IntsAre vs ns := by
  intro ns
  induction ns with
  | nil =>
    intro vs w
    rw [List.map_nil] at w
    cases w
    exact .nil
  | cons n ns ih =>
    intro vs w
    rw [List.map_cons] at w
    cases w with
    | cons a b =>
      cases a
      exact .cons _ _ (ih _ b)
theorem script_of {l : OpenLaw} {n : Nat} (hn : l.most = some n) {P : Params} {h : Heap} {args : List WData} {vals : List Value}
    (hpre : l.row.toRowW.claim.pre args = true) (hwl : WellAll P h vals args) :
    ∃ a vs ns, vals = [Value.ref a] ∧ args = [WData.list (ns.map WData.int)] ∧ h.get? a = some { cls := .type "list", data := .seq vs.toArray } ∧ IntsAre vs ns ∧ ns.length ≤ n := by
  have hsh : WShape.hasAll [] args [.list .int] = true := (pre_splitW hpre).1
  have hc : l.pre.holds [] { args := args } = true := (pre_splitW hpre).2
  obtain ⟨d, r, rfl, h1, h2⟩ := hasAllW_cons hsh
  obtain rfl := hasAllW_nil h2
  obtain ⟨xs, rfl, h3⟩ := hasW_list h1
  obtain ⟨ns, rfl⟩ := items_int h3
  have hlen : ns.length ≤ n := by
    unfold OpenLaw.pre at hc
    have h4 : (WTm.not (.lt (.lit (.int (n : Int))) (.len (.arg 0)))).holds [] { args := [.list (ns.map .int)] } = true := by
      have h4 := (holds_andW hc).1
      rw [hn] at h4
      exact h4
    have h5 := condW_of h4 (w_not (w_lt w_lit (w_len_list (w_arg rfl))))
    rw [List.length_map] at h5
    refine Nat.le_of_not_lt fun q => ?_
    have q' : (n : Int) < ((ns.length : Nat) : Int) := by omega
    first
      | (rw [decide_eq_true q'] at h5; exact absurd h5 (by decide))
      | (simp at h5; omega)
  cases hwl with
  | cons w1 w2 =>
    cases w2
    cases w1 with
    | list ho hall => exact ⟨_, _, ns, rfl, rfl, ho, ints_of_wellAll ns _ hall, hlen⟩
theorem post_true (l : OpenLaw) (args : List WData) : l.row.toRowW.claim.post args (.bool true) args = true :=
  postW_of (r := l.row.toRowW) (X := (true == true))
    (show WShape.has [] (.bool true) .bool = true by first | rfl | decide | simp [WShape.has, WShape.arms, WShape.armsAll])
    (show (WTm.eq .res (.lit (.bool true))).value [] { args := args, res := some (.bool true), after := args } = some (.bool (true == true)) from w_eq_bool (w_res rfl) w_lit) rfl
theorem attach_call {l : OpenLaw} {n : Nat} {q : Program} {loose : List Str} {XP : (Str → Option Value) → Heap → Prop} {YP : World → Heap → Prop} {d : DefRec}
    (hn : l.most = some n) (hdf : d.params.defaults = [])
    (call : ∀ (w : World) (s₀ s₁ : Shared) (mg mb : Str → Option Value) (fa : Addr) (o : Obj) (pm cd doc : Value) (a : Addr) (vs : List Value) (ns : List Int),
      Ground q loose [] XP w s₀ mg mb s₁.heap → YP w s₁.heap →
      s₁.heap.get? fa = some o → o.data = .func (docDef d.name d.params d.body d.scope pm cd doc) → s₁.heap.CodeRec cd d.name → mg d.name = some (.ref fa) →
      s₁.heap.get? a = some { cls := .type "list", data := .seq vs.toArray } → IntsAre vs ns → ns.length ≤ n → s₁.gens = #[] →
      codeAny (model l.prog w) callerA (.call (.ref fa) ⟨[.ref a], []⟩) (fun r s' => r = .ok (.ret (.bool true)) ∧ OldK s₁.heap s'.heap ∧ s'.os = s₁.os ∧ AllBare s'.gens) s₁) :
    WalkO q loose XP YP l.row.toRowW d [] (fun f vs => PySem.call f vs) := by
  intro w s₀ s₁ mg mb G Y fa o pm cd doc dV kV ho hd hcd hD hmg hg args vals as hpre hlay hrd hwl hlo
  obtain rfl : dV = .none := Dflts.none hD hdf
  obtain rfl : kV = .none := Dflts.noKw hD
  obtain ⟨a, vs, ns, rfl, rfl, hobj, hints, hlen⟩ := script_of hn hpre hwl
  refine enter_call (codeAny_mono (call w s₀ s₁ mg mb fa o pm cd doc a vs ns G Y ho (fd_plain hd) hcd hmg hobj hints hlen hg) fun r s' hq => ?_)
  obtain ⟨rfl, h2, h3, h4⟩ := hq
  exact ⟨.inl ⟨.bool true, .bool true, [], rfl, fun _ => rfl, .bool true, post_true l _, fun _ => ⟨List.Pairwise.nil, fun _ hm => (nomatch hm)⟩⟩, h2, h3, h4⟩
section
variable {prog : Program} {w : World} {A : Around} {E : Value → Shared → Prop} {s : Shared} {K : Frag}
end
end Att
namespace L2
open PySem PySem.Spec PyProof.Rows
theorem vals_ints : ∀ {vs : List Value} {ns : List Int}, IntsAre vs ns → Vals (ns.map V.int) vs
  | _, _, .nil => .nil
  | _, _, .cons n t h => .cons ⟨t, rfl⟩ (vals_ints h)
def Only (H : Hp) : Prop := ∀ b, H b = none ∨ ∃ o xs, H b = some (.frz o (.lst xs))
theorem law_call {P : Program} {w : World} {K : PySem.W.Frag} {mg mb : Str → Option Value} {CX : CXT} {k : Nat} {fa a : Addr} {fd : FuncData} {x : Str} {sp : Sp} {s₁ : Shared} {vs : List Value} {ns : List Int}
    (KX : K.In s₁.heap) (hns : s₁.heap.Ns mainGlobals mg) (hb : s₁.heap.Ns builtinsNs mb) (hbb : ∀ x : Str, x ≠ "__name__" → mb x = bootBuiltins x) (hlim : s₁.heap.NoLimit) (hbm : ∃ bm o, mg "__builtins__" = some (.ref bm) ∧ bm ≠ builtinsNs ∧ s₁.heap.get? bm = some o ∧ o.cls = .type "module" ∧ o.dict = some builtinsNs ∧ o.data = .plain) (hg : s₁.gens = #[])
    (ha : s₁.heap.get? a = some { cls := .type "list", data := .seq vs.toArray }) (hi : IntsAre vs ns) (hl : ns.length ≤ sizeLine) (hr : Room k callerA)
    (F : ∀ base : Heap, K.In base → base.Ns mainGlobals mg → FnOk P w K mg base CX k fa fd [x] sp) (hbind : ∀ (s : Shared) (u : Value), BindsTo s fd ⟨[u], []⟩ [(x, u)])
    (hsp : ∀ H : Hp, Only H → SqL K H a (ns.map V.int) → sp [.ref a] H (fun v _ => v = .bl true) fun _ _ _ => False)
    (hCX : ∀ H e s', CX [] H s₁ (fun _ _ _ => False) e s' → False) :
    codeAny (model P w) callerA (.call (.ref fa) ⟨[.ref a], []⟩) (fun r s' => r = .ok (.ret (.bool true)) ∧ OldK s₁.heap s'.heap ∧ s'.os = s₁.os ∧ AllBare s'.gens) s₁ := by
  have rv := vals_ints hi
  have lenV := hi.length
  -- from an abstract heap in which nothing but the script may be tracked
  have core : ∀ H : Hp, Only H → SqL K H a (ns.map V.int) → HOk P w H s₁.heap → (∀ b, H b ≠ none → b = a) → (H a ≠ none → K.lookup a = none) →
      codeAny (model P w) callerA (.call (.ref fa) ⟨[.ref a], []⟩) (fun r s' => r = .ok (.ret (.bool true)) ∧ OldK s₁.heap s'.heap ∧ s'.os = s₁.os ∧ AllBare s'.gens) s₁ := by
    intro H hO hS hok hA hK
    have base_of : ∀ {b : Addr} {o : Obj}, s₁.heap.get? b = some o → H b = none → (hidT s₁.heap H).get? b = some o := fun e n => hidT_get e n
    have noA : ∀ {b : Addr} {o : Obj} {es : Array DictEntry} {ep : Nat}, s₁.heap.get? b = some o → o.data = .dict es ep → H b = none := fun {b o es ep} e d => by
      cases q : H b with
      | none => rfl
      | some u =>
        have e' : b = a := hA b (by rw [q]; simp)
        subst e'
        rw [ha] at e; cases e
        have d' : Data.seq vs.toArray _ = Data.dict es ep := d
        cases d'
    have nsK : ∀ {b : Addr} {m : Str → Option Value}, s₁.heap.Ns b m → (hidT s₁.heap H).Ns b m := fun {b m} ⟨o, es, ep, e, d, r⟩ => ⟨o, es, ep, base_of e (noA e d), d, r⟩
    have hKb : K.In (hidT s₁.heap H) := fun b o e => base_of (KX b o e) (by
      cases q : H b with
      | none => rfl
      | some u =>
        have e' : b = a := hA b (by rw [q]; simp)
        subst e'
        rw [hK (by rw [q]; simp)] at e; cases e)
    have hbmK : ∃ bm o, mg "__builtins__" = some (.ref bm) ∧ bm ≠ builtinsNs ∧ (hidT s₁.heap H).get? bm = some o ∧ o.cls = .type "module" ∧ o.dict = some builtinsNs ∧ o.data = .plain := by
      obtain ⟨bm, o, b1, b2, b4, b5, b6⟩ := hbm
      refine ⟨bm, o, b1, b2, base_of b4 ?_, b5, b6⟩
      cases q : H bm with
      | none => rfl
      | some u =>
        have e' : bm = a := hA bm (by rw [q]; simp)
        subst e'
        rw [ha] at b4; cases b4
        exact absurd b5 (by simp)
    have hM : Mod K mg (hidT s₁.heap H) := ⟨hKb, nsK hns, ⟨mb, nsK hb, hbb⟩, let ⟨mc, h1, h2⟩ := hlim; ⟨mc, nsK h1, h2⟩, hbmK⟩
    have e0 : Env0 P w K mg (hidT s₁.heap H) callerA [] s₁ H := ⟨rfl, hM, fun b o e => of_hidT e, Nat.le_of_eq (hidT_size _ _), trivial, fun b hb => absurd (show b ∈ ([] : List Addr) from hb) (by simp), hok, .of_eq hg⟩
    refine codeAny_mono ((F _ hKb (nsK hns)).run callerA [] s₁ H ⟨[.ref a], []⟩ [.ref a] [.ref a] _ _ hr e0 (hbind s₁ (.ref a)) (.cons rfl .nil) (hsp H hO hS)) fun r s' h => ?_
    cases r with
    | error e => exact (hCX H e s' h).elim
    | ok fl =>
      cases fl with
      | next => exact False.elim h
      | brk => exact False.elim h
      | cont => exact False.elim h
      | ret u =>
        obtain ⟨v, H', os, bare, un, hok', r', q⟩ := h
        have q' : v = .bl true := q
        subst q'
        obtain rfl : u = Value.bool true := r'
        refine ⟨rfl, OldK.of_keep fun b o e => ?_, os, bare⟩
        cases q : H b with
        | none => exact un.keep b o e q (by intro z; exact absurd (show b ∈ ([] : List Addr) from z) (by simp)) (by simp)
        | some u =>
          rcases hO b with z | ⟨ob, xs, z⟩
          · rw [q] at z; cases z
          · have z2 := un.frzs b ob _ z
            obtain ⟨e1, _⟩ := hok b _ z
            obtain ⟨e2, _⟩ := hok' b _ z2
            rw [e] at e1; cases e1
            exact e2
  cases hk : K.lookup a with
  | some o =>
    -- the script is one of the module's own objects
    have e := KX a o hk
    rw [ha] at e
    cases e
    refine core (fun _ => none) (fun _ => .inl rfl) (.inr ⟨_, vs.toArray, _, hk, rfl, rfl, rfl, by rw [List.size_toArray, lenV]; exact hl, by simpa using rv⟩) (fun b u z => by have z' : (none : Option HO) = some u := z; cases z') (fun b z => absurd rfl z) fun z => absurd rfl z
  | none =>
    refine core (fun b => if b = a then some (.frz { cls := .type "list", data := .seq vs.toArray } (.lst (ns.map V.int))) else none) (fun b => ?_) (.inl (.inr ⟨{ cls := .type "list", data := .seq vs.toArray }, if_pos rfl⟩)) (fun b u z => ?_) (fun b z => ?_) fun _ => hk
    · by_cases hb : b = a
      · exact .inr ⟨_, _, if_pos hb⟩
      · exact .inl (if_neg hb)
    · by_cases hb : b = a
      · have z' := (if_pos hb).symm.trans z
        cases z'
        subst hb
        exact ⟨ha, by rw [List.length_map]; exact hl, vs, _, rv, ha⟩
      · have z' := (if_neg hb).symm.trans z
        cases z'
    · by_cases hb : b = a
      · exact hb
      · exact absurd (if_neg hb) z
end L2
namespace L2
open PySem PySem.Spec PyProof.Rows
theorem walk_of {l : PySem.W.OpenLaw} {n k : Nat} {q : Program} {loose : List Str} {XP : (Str → Option Value) → Heap → Prop} {YP : World → Heap → Prop} {d : DefRec} {K : Params → PySem.W.Frag} {CX : World → CXT} {sp : World → Sp} {x : Str}
    (hn : l.most = some n) (hn2 : n ≤ sizeLine) (hdf : d.params.defaults = []) (hr : Room k callerA)
    (hY : ∀ (w : World) (h : Heap), YP w h → (K w.params).In h)
    (F : ∀ (w : World) (mg : Str → Option Value) (fa : Addr) (h : Heap), (K w.params).In h → h.Ns mainGlobals mg → mg d.name = some (.ref fa) →
      ∃ fd : FuncData, (∀ (s : Shared) (u : Value), BindsTo s fd ⟨[u], []⟩ [(x, u)]) ∧
        ∀ base : Heap, (K w.params).In base → base.Ns mainGlobals mg → FnOk l.prog w (K w.params) mg base (CX w) k fa fd [x] (sp w))
    (hsp : ∀ (w : World) (H : Hp) (a : Addr) (ns : List Int), ns.length ≤ n → Only H → SqL (K w.params) H a (ns.map V.int) → sp w [.ref a] H (fun v _ => v = .bl true) fun _ _ _ => False)
    (hCX : ∀ (w : World) (H : Hp) (s : Shared) (e : Value) (s' : Shared), CX w [] H s (fun _ _ _ => False) e s' → False) :
    PySem.W.WalkO q loose XP YP l.row.toRowW d [] (fun f vs => PySem.call f vs) := by
  refine Att.attach_call hn hdf fun w s₀ s₁ mg mb fa o pm cd doc a vs ns G Y ho hd hcd hmg hobj hints hlen hg => ?_
  have KX := hY w _ Y
  obtain ⟨fd, hb, hF⟩ := F w mg fa _ KX G.T.g hmg
  exact law_call KX G.T.g G.T.b G.T.builtins G.T.nolimit G.T.bmain hg hobj hints (Nat.le_trans hlen hn2) hr hF hb (fun H hO hS => hsp w H a ns hlen hO hS) fun H e s' => hCX w H s₁ e s'
end L2
namespace L2
open PySem PySem.Spec PyProof.Rows
def defArgs (s : Stmt) : Arguments := match s with
  | .FunctionDef _ a _ _ _ _ _ _ _ _ => a
  | _ => { posonlyargs := [], args := [], vararg := none, kwonlyargs := [], kw_defaults := [], kwarg := none, defaults := [] }
def defBody (s : Stmt) : List Stmt := match s with
  | .FunctionDef _ _ b _ _ _ _ _ _ _ => b
  | _ => []
def defScope (s : Stmt) : Scope := match s with
  | .FunctionDef _ _ _ _ _ _ sc _ _ _ => sc
  | _ => { kind := .function, names := [], isGenerator := false, isCoroutine := false }
abbrev CX0 : CXT := fun _ _ _ _ _ _ => False
abbrev E0 : XK := fun _ _ _ => False
theorem pass0 {X : Cx} : Passes CX0 X E0 := fun _ _ _ _ _ _ _ h => h.elim
structure Fun (K : PySem.W.Frag) (x qual : Str) (st : Stmt) (f : Addr) (fd : FuncData) : Prop where
  ex : ∃ (oc : Value) (od : Option Addr) (kV doc pm : Value) (an : Option Addr) (cdv ct : Value) (osl : Array (Option Value)),
    fd = PySem.W.fnOf x qual (defArgs st) (defBody st) (defScope st) .none kV doc pm an cdv ct ∧ K.lookup f = some ⟨oc, od, .func fd, osl⟩ ∧ PySem.W.codeIn K cdv qual = true
  kp : PySem.W.keepIn K (.ref f) = true
section
variable {P : Program} {w : World} {K : PySem.W.Frag} {mg : Str → Option Value} {base : Heap}
theorem Fun.ok {x qual : Str} {st : Stmt} {f : Addr} {fd : FuncData} {N ps : List Str} {k : Nat} {sp : Sp} (F : Fun K x qual st f fd) (S : FnScope N ps (defScope st)) (len : ∀ vs H Q E, sp vs H Q E → vs.length = ps.length)
    (hbody : ∀ (cdv : Value) (A : Around) (outer : List Env) (s : Shared) (H : Hp) (vs : List V) (Q : VK) (E : XK), Room k (A.deeper (envOfC qual (defScope st) s.heap.objs.size f cdv)) → sp vs H Q E →
      ∃ t, PSs (cxOf CX0 P w K mg base N qual (defScope st) f cdv A outer s H E).nox (defBody st) t ∧ t { nx := fun _ H' => Q .non H', rt := Q } (start N vs) H) : FnOk P w K mg base CX0 (k + 1) f fd ps sp := by
  obtain ⟨oc, od, kV, doc, pm, an, cdv, ct, osl, rfl, lk, hcd⟩ := F.ex
  refine fn_of lk hcd S len fun A outer s H vs Q E hr hsp => ?_
  obtain ⟨t, h, q⟩ := hbody cdv A outer s H vs Q E hr hsp
  exact ⟨t, h.nox, q⟩
theorem Fun.binds {x qual : Str} {st : Stmt} {f : Addr} {fd : FuncData} {ps : List Str} (F : Fun K x qual st f fd)
    (h : ∀ (kV doc pm : Value) (an : Option Addr) (cdv ct : Value) (us : List Value), us.length = ps.length → bindArgs (PySem.W.fnOf x qual (defArgs st) (defBody st) (defScope st) .none kV doc pm an cdv ct) ⟨us, []⟩ = pure (ps.zip us)) : Binds K fd ps [] := by
  obtain ⟨oc, od, kV, doc, pm, an, cdv, ct, osl, rfl, lk, hcd⟩ := F.ex
  exact .all (h kV doc pm an cdv ct)
theorem fun_mk {x qual : Str} {st : Stmt} {f : Addr} {oc : Value} {od an : Option Addr} {osl : Array (Option Value)} {kV doc pm cdv ct : Value} (l : K.lookup f = some ⟨oc, od, .func (PySem.W.fnOf x qual (defArgs st) (defBody st) (defScope st) .none kV doc pm an cdv ct), osl⟩)
    (c : PySem.W.codeIn K cdv qual = true) (k : PySem.W.keepIn K (.ref f) = true) : Fun K x qual st f (PySem.W.fnOf x qual (defArgs st) (defBody st) (defScope st) .none kV doc pm an cdv ct) := ⟨⟨oc, od, kV, doc, pm, an, cdv, ct, osl, rfl, l, c⟩, k⟩
end
theorem hu_of {A : Around} {k : Nat} (hr : Room k A) : A.units + 1 < cLine := Nat.lt_of_le_of_lt (Nat.add_le_add_left (by decide : 1 ≤ 64) _) hr.units
theorem small1000 {n : Nat} (h : n ≤ 1000) : n < sizeLine := Nat.lt_of_le_of_lt h (by decide)
section
variable {X : Cx}
theorem pv (i : Nat) {x : Str} {pos : Pos} (hN : X.N[i]? = some x := by rfl) (hv : Vis X.env.scope x := by first | exact Or.inl rfl | exact Or.inr (Or.inl rfl) | exact Or.inr (Or.inr rfl)) (hd : (x == ("__debug__" : Str)) = false := by decide)
    (hcd : (x == ("__classdict__" : Str)) = false := by decide) : PE X (.Name x pos) (tVar i) := pe_var hN hv hd hcd
end
theorem iteF {A B : Prop} (h : B) : if false = true then A else B := by
  rw [if_neg Bool.false_ne_true]
  exact h
theorem iteT {A B : Prop} (h : A) : if true = true then A else B := by
  rw [if_pos rfl]
  exact h
theorem ite2 {c A B : Prop} [Decidable c] (h1 : c → A) (h2 : ¬ c → B) : if c then A else B := by
  by_cases h : c
  · rw [if_pos h]
    exact h1 h
  · rw [if_neg h]
    exact h2 h
def Same (H H' : Hp) : Prop := ∀ b o, H b = some o → H' b = some o
theorem Same.refl (H : Hp) : Same H H := fun _ _ h => h
theorem Same.trans {H H1 H2 : Hp} (a : Same H H1) (b : Same H1 H2) : Same H H2 := fun c o h => b c o (a c o h)
theorem Same.free {H H' : Hp} (e : Same H H') {l : Addr} (h : H' l = Option.none) : H l = Option.none := by
  cases q : H l with
  | none => rfl
  | some o =>
    rw [e l o q] at h
    cases h
theorem Same.seq {K : PySem.W.Frag} {H H' : Hp} {a : Addr} {xs : List V} (e : Same H H') (h : SqL K H a xs) : SqL K H' a xs := by
  rcases h with (h | ⟨o, h⟩) | h
  · exact .inl (.inl (e _ _ h))
  · exact .inl (.inr ⟨o, e _ _ h⟩)
  · exact .inr h
section
variable {κ : Type} [DecidableEq κ]
end
end L2
set_option maxHeartbeats 4000000
namespace L2
open PySem PySem.Spec PyProof.Rows
def closL (cells : List (Str × Addr)) : List (Str × NameKind) → List (Str × Addr) → List (Str × Addr)
  | [], acc => acc
  | (n, k) :: r, acc => if k = .free then (match cells.lookup n with | some c => closL cells r ((n, c) :: acc) | none => closL cells r acc) else closL cells r acc
theorem closL_sound {cells : List (Str × Addr)} {x : Str} {c : Addr} : ∀ (names : List (Str × NameKind)) (acc : List (Str × Addr)), (closL cells names acc).lookup x = some c →
    acc.lookup x = some c ∨ (cells.lookup x = some c ∧ (x, NameKind.free) ∈ names)
  | [], acc, h => .inl h
  | (n, k) :: r, acc, h => by
    unfold closL at h
    by_cases hk : k = .free
    · rw [if_pos hk] at h
      cases hc : cells.lookup n with
      | none =>
        rw [hc] at h
        rcases closL_sound r acc h with z | ⟨z, m⟩
        · exact .inl z
        · exact .inr ⟨z, List.mem_cons_of_mem _ m⟩
      | some d =>
        rw [hc] at h
        rcases closL_sound r ((n, d) :: acc) h with z | ⟨z, m⟩
        · rw [List.lookup_cons] at z
          by_cases hx : (x == n) = true
          · rw [hx] at z
            have e : x = n := by simpa using hx
            cases z
            subst e; subst hk
            exact .inr ⟨hc, List.mem_cons_self⟩
          · have hx' : (x == n) = false := by simpa using hx
            rw [hx'] at z
            exact .inl z
        · exact .inr ⟨z, List.mem_cons_of_mem _ m⟩
    · rw [if_neg hk] at h
      rcases closL_sound r acc h with z | ⟨z, m⟩
      · exact .inl z
      · exact .inr ⟨z, List.mem_cons_of_mem _ m⟩
theorem closL_whole {cells : List (Str × Addr)} {x : Str} {c : Addr} (hc : cells.lookup x = some c) : ∀ (names : List (Str × NameKind)) (acc : List (Str × Addr)), (acc.lookup x = some c ∨ (x, NameKind.free) ∈ names) →
    (closL cells names acc).lookup x = some c
  | [], acc, h => by
    rcases h with h | h
    · exact h
    · cases h
  | (n, k) :: r, acc, h => by
    unfold closL
    by_cases hk : k = .free
    · rw [if_pos hk]
      by_cases hx : (x == n) = true
      · have e : x = n := by simpa using hx
        subst e
        rw [hc]
        exact closL_whole hc r _ (.inl (by rw [List.lookup_cons, beq_self_eq_true]))
      · have hx' : (x == n) = false := by simpa using hx
        have m : acc.lookup x = some c ∨ (x, NameKind.free) ∈ r := by
          rcases h with h | h
          · exact .inl h
          · rcases List.mem_cons.mp h with z | z
            · injection z with z1 _
              rw [z1, beq_self_eq_true] at hx'
              cases hx'
            · exact .inr z
        cases hn : cells.lookup n with
        | none => exact closL_whole hc r acc m
        | some d =>
          refine closL_whole hc r _ (m.imp (fun z => ?_) fun z => z)
          rw [List.lookup_cons, hx']
          exact z
    · rw [if_neg hk]
      refine closL_whole hc r acc (h.imp (fun z => z) fun z => ?_)
      rcases List.mem_cons.mp z with z | z
      · injection z with _ z2
        exact absurd z2.symm hk
      · exact z
theorem closureFor_some {scope : Scope} {env : Env} (h : ∀ y ∈ scope.names, y.2 = .free → ∃ c, env.cells.lookup y.1 = some c) : closureFor scope env = pure (closL env.cells scope.names []) := by
  have go : ∀ (names : List (Str × NameKind)) (acc : List (Str × Addr)), (∀ y ∈ names, y.2 = .free → ∃ c, env.cells.lookup y.1 = some c) →
      (forIn names acc fun (x : Str × NameKind) (cs : List (Str × Addr)) => (if (x.2 == NameKind.free) = true then do let a ← cellOf env x.1; pure (ForInStep.yield ((x.1, a) :: cs)) else pure (ForInStep.yield cs) : Sem _)) = pure (closL env.cells names acc) := by
    intro names
    induction names with
    | nil => intro acc _; rfl
    | cons y r ih =>
      intro acc hy
      obtain ⟨n, k⟩ := y
      rw [List.forIn_cons]
      have hr := fun a => ih a fun z hz => hy z (List.mem_cons_of_mem _ hz)
      by_cases hk : k = .free
      · subst hk
        obtain ⟨c, hc⟩ := hy (n, .free) List.mem_cons_self rfl
        have hc' : env.cells.lookup n = some c := hc
        unfold closL
        simp only [beq_self_eq_true, if_true, cellOf, hc', pure_bind]
        exact hr _
      · have hb : (k == NameKind.free) = false := by simpa using hk
        unfold closL
        simp only [hb, Bool.false_eq_true, if_false, pure_bind, if_neg hk]
        exact hr _
  have g := go scope.names [] h
  simp only [closureFor]
  rw [g]
  rfl
def relab (env : Env) (n : Str) (k : NameKind) : NameKind := if (k == .free && env.scope.kind == .function && env.kindOf n == some .cell) = true then .cell else k
theorem lookup_relabel (env : Env) (x : Str) : ∀ (names : List (Str × NameKind)),
    (names.map fun (n, k) => if (k == NameKind.free && env.scope.kind == .function && env.kindOf n == some .cell) then (n, NameKind.cell) else (n, k)).lookup x = (names.lookup x).map (relab env x)
  | [] => rfl
  | (n, k) :: r => by
    have ih := lookup_relabel env x r
    show List.lookup x ((if (k == NameKind.free && env.scope.kind == .function && env.kindOf n == some .cell) = true then (n, NameKind.cell) else (n, k)) :: _) = _
    have e1 : (if (k == NameKind.free && env.scope.kind == .function && env.kindOf n == some .cell) = true then (n, NameKind.cell) else (n, k)) = (n, relab env n k) := by
      unfold relab; split <;> rfl
    rw [e1, List.lookup_cons, List.lookup_cons]
    cases hx : x == n with
    | true =>
      have e : x = n := by simpa using hx
      subst e
      rfl
    | false => exact ih
structure CompScope (X : Cx) (N : List Str) (cap : List (Option Nat)) (sc : Scope) : Prop where
  kind : sc.kind = .function
  nd : N.Nodup
  nocell : ∀ y ∈ sc.names, y.2 ≠ .cell
  names : ∀ y ∈ sc.names, y.2 = .local → sc.names.lookup y.1 = some .local
  free : ∀ y ∈ sc.names, y.2 = .free → X.env.scope.names.lookup y.1 = some .cell ∨ X.env.scope.names.lookup y.1 = some .free
  len : cap.length = N.length
  cap : ∀ i ∈ List.range cap.length, ∀ j, (cap[i]?).join = some j → X.N[j]? = N[i]? ∧ ∃ x, N[i]? = some x ∧ (x, NameKind.free) ∈ sc.names ∧ sc.names.lookup x = some .free
def cap0 (cap : List (Option Nat)) (σ : St) : St := cap.map fun o => o.bind fun j => (σ[j]?).join
def cxComp (X : Cx) (N : List Str) (scope : Scope) (s : Shared) (H : Hp) (fp : List Addr) : Cx where
  prog := X.prog
  w := X.w
  K := X.K
  mg := X.mg
  base := X.base
  A := X.A
  N := N
  s₀ := s
  H₀ := H
  env := compEnvC scope (closL X.env.cells scope.names []) s.heap.objs.size X.env
  outer := X.stack
  stack := X.stack
  ex := fp
  fn := fun _ => false
  calm := X.calm
  pn := []
  xe := fun _ _ => False
theorem inv_comp {X : Cx} {pins : List (Addr × Obj)} {σ : St} {H : Hp} {s : Shared} {N : List Str} {cap : List (Option Nat)} {sc : Scope} {fp : List Addr} {h' : Heap} {t' : Nat}
    (S : CompScope X N cap sc) (I : Inv X pins σ H s) (hfp : ∀ b ∈ fp, FpOk X pins H b ∧ ∃ o, s.heap.get? b = some o)
    (hns : h'.Ns s.heap.objs.size fun _ => none) (hk : ∀ b o, s.heap.get? b = some o → h'.get? b = some o) :
    Inv (cxComp X N sc s H fp) [] (cap0 cap σ) H { s with heap := h', toks := t' } := by
  have ltc : ∀ x c, X.env.cells.lookup x = some c → c < s.heap.objs.size := fun x c e => by
    obtain ⟨v, z⟩ := I.cell x c e
    exact z.lt
  have cl_of : ∀ x c, (closL X.env.cells sc.names []).lookup x = some c → X.env.cells.lookup x = some c ∧ (x, NameKind.free) ∈ sc.names := fun x c e => by
    rcases closL_sound _ _ e with z | z
    · cases z
    · exact z
  have kd : ∀ x k, (relabel sc X.env).names.lookup x = some k → (k = .cell ∨ k = .free) → sc.names.lookup x = some .free := fun x k e hk => by
    have e' : (sc.names.lookup x).map (relab X.env x) = some k := (lookup_relabel X.env x sc.names).symm.trans e
    cases hq : sc.names.lookup x with
    | none => rw [hq] at e'; cases e'
    | some kk =>
      rw [hq] at e'
      have e2 : relab X.env x kk = k := Option.some.inj e'
      by_cases hf : kk = .free
      · rw [hf]
      · have e3 : relab X.env x kk = kk := by
          unfold relab
          rw [if_neg]
          intro z
          have : (kk == NameKind.free) = true := by
            rw [Bool.and_eq_true, Bool.and_eq_true] at z
            exact z.1.1
          exact hf (by simpa using this)
        rw [e3] at e2
        subst e2
        rcases hk with z | z
        · exact absurd z (S.nocell _ (PySem.mem_of_lookup hq))
        · exact absurd z hf
  refine ⟨⟨I.ok.mod, S.kind, I.ok.glob, I.ok.blt, Nat.le_refl _, fun x y c h1 h2 => I.ok.inj x y c (cl_of x c h1).1 (cl_of y c h2).1, fun x hx => ?_, fun x c hf _ => absurd hf (by show ¬ (false = true); decide), I.ok.hd, I.ok.frames, .inl rfl, fun b hb => ?_, I.bs, Nat.le_trans I.ok.bsz I.sz, fun b o e hb => ?_, fun b hb z => ?_, I.stack, I.stkFree⟩,
    rfl, I.bare, Un.kept hk, ⟨_, hns, fun i x v e1 e2 e3 => ?_⟩, fun x c e => ?_, I.hok.fresh (Nat.le_refl _), fun x c e => ?_, fun p hp => absurd (show p ∈ ([] : List (Addr × Obj)) from hp) (by simp), I.hok.kept hk, ?_⟩
  · -- has
    have hx' : (relabel sc X.env).names.lookup x = some .cell ∨ (relabel sc X.env).names.lookup x = some .free := hx
    have hf : sc.names.lookup x = some .free := by
      rcases hx' with z | z
      · exact kd x _ z (.inl rfl)
      · exact kd x _ z (.inr rfl)
    have m := PySem.mem_of_lookup hf
    obtain ⟨c, hc⟩ := I.ok.has x (S.free _ m rfl)
    exact ⟨c, closL_whole hc _ _ (.inr m)⟩
  · -- exf
    obtain ⟨f, o, ho⟩ := hfp b hb
    exact ⟨Nat.ne_of_lt (Heap.lt_size ho), fun x c e => f.2.2.2.2.1 x c (cl_of x c e).1⟩
  · -- noex
    obtain ⟨f, _⟩ := hfp b hb
    rcases f.2.2.2.1 with z | z
    · exact I.ok.noex b o e z
    · exact absurd (Nat.lt_of_lt_of_le (Heap.lt_size e) (Nat.le_trans I.ok.bsz z)) (Nat.lt_irrefl _)
  · -- exfs
    obtain ⟨f, _⟩ := hfp b hb
    rcases List.mem_cons.mp (I.stkSub b z) with q | q
    · exact f.2.1 q
    · exact f.2.2.1 q
  · -- loc
    have hi : i < cap.length := by
      have := (List.getElem?_eq_some_iff.mp e2).1
      unfold cap0 at this
      rwa [List.length_map] at this
    have e2' : (cap[i]?).join.bind (fun j => (σ[j]?).join) = some v := by
      unfold cap0 at e2
      rw [List.getElem?_map] at e2
      cases hc : cap[i]? with
      | none => rw [hc] at e2; cases e2
      | some o =>
        rw [hc] at e2
        cases o with
        | none => cases e2
        | some j => exact Option.some.inj e2
    cases hj : (cap[i]?).join with
    | none => rw [hj] at e2'; cases e2'
    | some j =>
      rw [hj] at e2'
      obtain ⟨hN, y, hy, hm, hl⟩ := S.cap i (List.mem_range.mpr hi) j hj
      have e1' : N[i]? = some x := e1
      rw [e1'] at hy
      cases hy
      have hσ : σ[j]? = some (some v) := by
        have e3 : (σ[j]?).join = some v := e2'
        cases hq : σ[j]? with
        | none => rw [hq] at e3; cases e3
        | some o =>
          rw [hq] at e3
          have : o = some v := e3
          rw [this]
      have hXN : X.N[j]? = some x := hN.trans e1'
      have hkind := S.free _ hm rfl
      obtain ⟨m, hn, hl'⟩ := id I.loc
      obtain ⟨u, r, l⟩ := hl' j x v hXN hσ (by rcases hkind with z | z; exact .inr (.inl z); exact .inr (.inr z))
      refine ⟨u, r, .inr ⟨?_, ?_⟩⟩
      · show (relabel sc X.env).names.lookup x = some .cell ∨ (relabel sc X.env).names.lookup x = some .free
        have e4 : (relabel sc X.env).names.lookup x = some (relab X.env x .free) := (lookup_relabel X.env x sc.names).trans (by rw [hl]; rfl)
        rw [e4]
        unfold relab
        split
        · exact .inl rfl
        · exact .inr rfl
      · rcases l with ⟨k, _⟩ | ⟨_, c, hc, o, ho, hd⟩
        · have k' : X.env.scope.names.lookup x = some .local := k
          rcases hkind with z | z
          · have z' : X.env.scope.names.lookup x = some .cell := z
            rw [k'] at z'; cases z'
          · have z' : X.env.scope.names.lookup x = some .free := z
            rw [k'] at z'; cases z'
        · exact ⟨c, closL_whole hc _ _ (.inr hm), o, hk c o ho, hd⟩
  · -- cell
    obtain ⟨v, o, ho, hd⟩ := I.cell x c (cl_of x c e).1
    exact ⟨v, o, hk c o ho, hd⟩
  · exact I.freeC x c (cl_of x c e).1
  · show (cap0 cap σ).length = N.length
    unfold cap0
    rw [List.length_map, S.len]
end L2
set_option maxHeartbeats 4000000
namespace L2
open PySem PySem.Spec PyProof.Rows
theorem codeAny_compLoop_go {prog : Program} {w : World} {A : Around} {R : Result → Shared → Prop} {s : Shared} {elt target iter : Expr} {ifs : List Expr} {scope : Scope} {pos : Pos} {it acc : Value} {env : Env} (I : Nat → Shared → Prop)
    (turn : ∀ n s, I n s → wpAny (model prog w) A (pyNext it) (fun r s₁ => match r with
      | none => R (.ok .next) s₁
      | some v => wpAny (model prog w) A (letOwnedTupleGo target it v) (fun _ s₁' => wpAny (model prog w) A (assign target env v) (fun _ s₂ =>
          wpAny (model prog w) A (forIn ifs true fun c r => if r = true then do let ok ← isTrue c env (eval c env); pure (ForInStep.yield ok) else pure (ForInStep.yield r)) (fun ok s₃ =>
            if ok = true then wpAny (model prog w) A (eval elt env) (fun x s₄ =>
              wpAny (model prog w) A (call (.builtin "list.append") [acc, x]) (fun _ s₅ => ∃ m, m < n ∧ I m s₅) (notedBy (model prog w) A env fun e s' => R (.error e) s') s₄) (notedBy (model prog w) A env fun e s' => R (.error e) s') s₃
            else ∃ m, m < n ∧ I m s₃) (notedBy (model prog w) A env fun e s' => R (.error e) s') s₂) (notedBy (model prog w) A env fun e s' => R (.error e) s') s₁') (notedBy (model prog w) A env fun e s' => R (.error e) s') s₁) (notedBy (model prog w) A env fun e s' => R (.error e) s') s)
    (n : Nat) (h : I n s) :
    codeAny (model prog w) A (.compLoop (.ListComp elt [⟨target, iter, ifs, 0⟩] scope pos) 0 it acc env) R s := by
  refine codeAny_loop rfl I (fun n s hI => ?_) n h
  show wpAny _ A ((compTurn (.ListComp elt [⟨target, iter, ifs, 0⟩] scope pos) 0 it acc env).onRaise (fun x => do noteFrame x env; theTreesLotGoes x)) _ _ s
  refine wpAny_noted ?_
  rw [compTurn_list]
  refine wpAny_bind (wpAny_standAt (wpAny_bind (wpAny_mono (turn n s hI) (fun r s₁ h₁ => ?_) fun _ _ h' => h')))
  cases r with
  | none => exact wpAny_pure h₁
  | some v =>
    refine wpAny_bind (wpAny_mono h₁ (fun _ s₁' h₁' => ?_) fun _ _ h' => h')
    refine wpAny_bind (wpAny_mono h₁' (fun _ s₂ h₂ => wpAny_bind (wpAny_mono h₂ (fun ok s₃ h₃ => ?_) fun _ _ h' => h')) fun _ _ h' => h')
    cases ok with
    | false => exact wpAny_pure ⟨rfl, h₃⟩
    | true =>
      exact wpAny_bind (wpAny_bind (wpAny_mono h₃ (fun x s₄ h₄ => wpAny_bind (wpAny_mono h₄ (fun _ s₅ h₅ => wpAny_pure (wpAny_pure ⟨rfl, h₅⟩)) fun _ _ h' => h')) fun _ _ h' => h'))
def PTs (X : Cx) (ifs : List Expr) (t : TT) : Prop :=
  ∀ (pins : List (Addr × Obj)) (s : Shared) (σ : St) (H : Hp) (Q : Bool → Hp → Prop), Inv X pins σ H s → t σ H Q →
    wpAny (model X.prog X.w) X.A (forIn ifs true fun c r => if r = true then do let ok ← isTrue c X.env (eval c X.env); pure (ForInStep.yield ok) else pure (ForInStep.yield r)) (TP X pins σ Q) X.xe s
def tYes : TT := fun _ H Q => Q true H
theorem pts_nil {X : Cx} : PTs X [] tYes := fun _ _ _ H _ I h => wpAny_tests_nil ⟨H, I, h⟩
def LcGo (cap : List (Option Nat)) (g : TG) (tt : TT) (te : TE) (σ : St) (Q : VK) (J : It) (H1 : Hp) : Prop := ∀ D, H1 D = none →
  ∃ W : Nat → Nat → St → Hp → Prop, (∃ m, W 0 m (cap0 cap σ) (upd H1 D (.lst []))) ∧ ∀ i m σ' H', W i m σ' H' →
    (J.stop i H' ∧ Q (.ref D) H') ∨ (J.go i H' ∧ ∀ x H2, J.yld i H' x H2 → g x σ' H2 fun σ3 H3 => tt σ3 H3 fun b H4 =>
      if b = true then te σ3 H4 fun v H5 => ∃ acc, H5 D = some (.lst acc) ∧ acc.length < sizeLine ∧ ∃ m', m' < m ∧ W (i + 1) m' σ3 (upd H5 D (.lst (acc ++ [v])))
      else ∃ m', m' < m ∧ W (i + 1) m' σ3 H4)
def tLC (cap : List (Option Nat)) (wi : TI) (g : TG) (tt : TT) (te : TE) : TE := fun σ H Q => wi σ H (LcGo cap g tt te σ Q)
theorem comp_block {X : Cx} {pins : List (Addr × Obj)} {σ : St} {H2 : Hp} {s2 : Shared} {N : List Str} {cap : List (Option Nat)} {sc : Scope} {elt target iter : Expr} {ifs : List Expr} {pos : Pos} {g : TG} {tt : TT} {te : TE} {Q : VK}
    {it : Addr} {fp : List Addr} {tn : Nat → Heap → Prop} {J : It} {RR : Value → Addr → Result → Shared → Prop} {E : Value → Shared → Prop}
    (hc : X.calm = true) (S : CompScope X N cap sc)
    (hg : ∀ s H fp, PG (cxComp X N sc s H fp) target g) (ht : ∀ s H fp, PTs (cxComp X N sc s H fp) ifs tt) (he : ∀ s H fp, PE (cxComp X N sc s H fp) elt te)
    (I2 : Inv X pins σ H2 s2) (T : Turn X.prog X.w X.K target J fp it tn) (st2 : tn 0 s2.heap) (f2 : ∀ b ∈ fp, FpOk X pins H2 b)
    (h : LcGo cap g tt te σ Q J H2)
    (hRR : ∀ D C H' s', (∃ m, s'.heap.Ns C m) → H' C = none → s2.heap.objs.size ≤ C → Inv X pins σ H' s' → Q (.ref D) H' → RR (.ref D) C (.ok .next) s') :
    wpAny (model X.prog X.w) X.A (newList []) (fun acc s₃ => wpAny (model X.prog X.w) X.A (newFunctionEnv sc X.env.globals (closL X.env.cells sc.names []) [] X.env.qual none .none (some X.env)) (fun cenv s₄ =>
      codeAny (model X.prog X.w) X.A (.compStart (.ListComp elt [⟨target, iter, ifs, 0⟩] sc pos) 0 (.ref it) acc { cenv with scope := relabel sc X.env }) (RR acc cenv.locals) s₄) E s₃) E s2 := by
  refine wpAny_newObj_type ?_
  have fr := I2.fresh
  have I3 : Inv X pins σ (upd H2 s2.heap.objs.size (.lst [])) { s2 with heap := s2.heap.push { cls := .type "list", data := .seq ([] : List Value).toArray } } := I2.lnew (ys := []) (t' := s2.toks) .nil (Nat.zero_le _)
  obtain ⟨W, ⟨m0, w0⟩, turn⟩ := h _ fr
  have objs2 := T.obj 0 _ st2
  have f3 : ∀ b ∈ fp, FpOk X pins (upd H2 s2.heap.objs.size (.lst [])) b ∧ ∃ o, (s2.heap.push { cls := .type "list", data := .seq ([] : List Value).toArray }).get? b = some o := fun b hb => by
    obtain ⟨o, ho, _⟩ := objs2 b hb
    obtain ⟨a1, a2⟩ := f2 b hb
    refine ⟨⟨?_, a2⟩, o, Heap.get?_push_of_some _ ho⟩
    rw [upd_ne (Nat.ne_of_lt (Heap.lt_size ho))]
    exact a1
  have st3 : tn 0 (s2.heap.push { cls := .type "list", data := .seq ([] : List Value).toArray }) := T.keep _ _ _ st2 fun b _ o e => Heap.get?_push_of_some _ e
  generalize hs3 : ({ s2 with heap := s2.heap.push { cls := .type "list", data := .seq ([] : List Value).toArray } } : Shared) = s3 at I3
  have hh3 : s3.heap = s2.heap.push { cls := .type "list", data := .seq ([] : List Value).toArray } := by rw [← hs3]
  rw [← hh3] at f3 st3
  generalize hD : s2.heap.objs.size = D at *
  refine wpAny_newFunctionEnv S.nocell (by intro y hy; simp at hy) (fun h4 hns4 hsb4 => ?_) S.kind
  have k4 : ∀ b o, s3.heap.get? b = some o → h4.get? b = some o := fun b o e => hsb4.extBut b o (Nat.ne_of_lt (Heap.lt_size e)) (Heap.get?_push_of_some _ e)
  have I4 : Inv (cxComp X N sc s3 (upd H2 D (.lst [])) fp) [] (cap0 cap σ) (upd H2 D (.lst [])) { s3 with heap := h4, toks := s3.toks + ([] : List (Str × Value)).length } :=
    inv_comp S I3 f3 (by simpa using hns4) k4
  have st4 : tn 0 h4 := T.keep _ _ _ st3 fun b _ o e => k4 b o e
  have szC : D ≤ s3.heap.objs.size := by rw [hh3, Heap.size_push, hD]; exact Nat.le_succ _
  -- the iterator's own objects, seen from the block
  have fpX : ∀ {H' : Hp}, (∀ b ∈ fp, H' b = none) → ∀ b ∈ fp, FpOk (cxComp X N sc s3 (upd H2 D (.lst [])) fp) [] H' b := fun hn b hb =>
    ⟨hn b hb, (I4.ok.exf b hb).1, I4.ok.exfs b hb, .inl hb, (I4.ok.exf b hb).2, fun p hp => absurd (show p ∈ ([] : List (Addr × Obj)) from hp) (by simp)⟩
  have loop : ∀ s4 : Shared, s4 = { s3 with heap := h4, toks := s3.toks + ([] : List (Str × Value)).length } →
      codeAny (model X.prog X.w) X.A (.compLoop (.ListComp elt [⟨target, iter, ifs, 0⟩] sc pos) 0 (.ref it) (.ref D) (cxComp X N sc s3 (upd H2 D (.lst [])) fp).env) (RR (.ref D) s3.heap.objs.size) s4 := by
    rintro s4 rfl
    refine codeAny_compLoop_go (fun n s' => ∃ i σ' H', Inv (cxComp X N sc s3 (upd H2 D (.lst [])) fp) [] σ' H' s' ∧ tn i s'.heap ∧ (∀ b ∈ fp, H' b = none) ∧ W i n σ' H') ?_ m0 ⟨0, _, _, I4, st4, fun b hb => (f3 b hb).1.1, w0⟩
    rintro n s5 ⟨i, σ5, H5, I5, st5, fr5, w5⟩
    rcases turn i n σ5 H5 w5 with ⟨stop, qn⟩ | ⟨go, step⟩
    · refine wpAny_mono (T.done (cxComp X N sc s3 (upd H2 D (.lst [])) fp) rfl rfl rfl hc i [] s5 σ5 H5 _ I5 (fpX fr5) st5 stop) (fun r s6 ⟨hr, I6⟩ => ?_) fun _ _ z => z
      subst hr
      obtain ⟨m6, ns6, _⟩ := I6.loc
      refine hRR D _ H5 s6 ⟨m6, ns6⟩ I6.free szC ?_ qn
      refine I3.call' (ch := fp) I6.os I6.base I6.hok I6.bare fun b hb => ?_
      obtain ⟨f, _⟩ := f3 b hb
      exact ⟨f.2.2.2.1, f.2.1, f.2.2.2.2.1, f.2.2.2.2.2⟩
    · refine wpAny_mono (T.item (cxComp X N sc s3 (upd H2 D (.lst [])) fp) rfl rfl rfl hc i [] s5 σ5 H5 _ I5 (fpX fr5) st5 go) (fun r s6 ⟨u, hr, h6⟩ => ?_) fun _ _ z => z
      subst hr
      refine wpAny_mono h6 (fun _ s7 ⟨x, H7, I7, r7, y7, st7, fr7⟩ => ?_) fun _ _ z => z
      have I7' := I7.pinned (fpX fr7) (T.obj _ _ st7)
      refine wpAny_mono (hg s3 (upd H2 D (.lst [])) fp _ s7 σ5 H7 x u _ I7' r7 (step x H7 y7)) (fun _ s8 ⟨σ8, H8, I8, q8⟩ => ?_) fun _ _ z => False.elim z
      refine wpAny_mono (ht s3 (upd H2 D (.lst [])) fp _ s8 σ8 H8 _ I8 q8) (fun ok s9 ⟨H9, I9, q9⟩ => ?_) fun _ _ z => False.elim z
      have again : ∀ {σ7 : St} {H7 : Hp} {s' : Shared} {m' : Nat}, Inv (cxComp X N sc s3 (upd H2 D (.lst [])) fp) ([] ++ pinsAt fp s7.heap) σ7 H7 s' → m' < n → W (i + 1) m' σ7 H7 →
          ∃ m, m < n ∧ ∃ i σ' H', Inv (cxComp X N sc s3 (upd H2 D (.lst [])) fp) [] σ' H' s' ∧ tn i s'.heap ∧ (∀ b ∈ fp, H' b = none) ∧ W i m σ' H' := fun {σ7 H7 s' m'} I7 hm w7 => by
        refine ⟨m', hm, i + 1, σ7, H7, I7.unpinned, T.keep _ _ _ st7 fun b hb o e => (I7.pin (b, o) (List.mem_append_right _ (List.mem_append_right _ (mem_pinsAt hb e)))).1, fun b hb => ?_, w7⟩
        obtain ⟨o, e, d⟩ := T.obj _ _ st7 b hb
        exact (I7.pin (b, o) (List.mem_append_right _ (List.mem_append_right _ (mem_pinsAt hb e)))).2.1
      cases ok with
      | false =>
        rw [if_neg Bool.false_ne_true] at q9 ⊢
        obtain ⟨m', hm, w9⟩ := q9
        exact again I9 hm w9
      | true =>
        rw [if_pos rfl] at q9 ⊢
        refine wpAny_mono (he s3 (upd H2 D (.lst [])) fp _ s9 σ8 H9 _ I9 q9) (fun uv s10 ⟨v, H10, I10, r10, acc, hD10, hz, m', hm, w10⟩ => ?_) fun _ _ z => False.elim z
        refine wpAny_mono (mt_append (X := cxComp X N sc s3 (upd H2 D (.lst [])) fp) _ s10 σ8 H10 (.ref D) [v] (.ref D) [uv] (fun y H' => H' = upd H10 D (.lst (acc ++ [v]))) I10 rfl (.cons r10 .nil) ⟨D, acc, v, rfl, rfl, hD10, hz, rfl⟩) (fun _ s11 ⟨y, H11, I11, _, e11⟩ => ?_) fun _ _ z => False.elim z
        subst e11
        exact again I11 hm w10
  refine codeAny_compStart_list (loop _ ?_) (T.self X.A 0 _ _ _ (?_ : tn 0 _) (loop _ ?_))
  · rw [← hs3] <;> rfl
  · exact st4
  · rw [← hs3] <;> rfl
theorem clos_of {X : Cx} {pins : List (Addr × Obj)} {σ : St} {H : Hp} {s : Shared} {N : List Str} {cap : List (Option Nat)} {sc : Scope} (S : CompScope X N cap sc) (I : Inv X pins σ H s) : closureFor sc X.env = pure (closL X.env.cells sc.names []) :=
  closureFor_some fun y hy hf => I.ok.has y.1 (S.free y hy hf)
theorem pe_lcomp {X : Cx} {N : List Str} {cap : List (Option Nat)} {sc : Scope} {elt target iter : Expr} {ifs : List Expr} {pos : Pos} {wi : TI} {g : TG} {tt : TT} {te : TE}
    (hc : X.calm = true) (S : CompScope X N cap sc) (hi : PI X target iter wi)
    (hg : ∀ s H fp, PG (cxComp X N sc s H fp) target g) (ht : ∀ s H fp, PTs (cxComp X N sc s H fp) ifs tt) (he : ∀ s H fp, PE (cxComp X N sc s H fp) elt te)
    (hs : ∀ x, foldedSetIterable iter X.env x = pure x := by intro _; rfl) : PE X (.ListComp elt [⟨target, iter, ifs, 0⟩] sc pos) (tLC cap wi g tt te) := by
  intro pins s σ H Q I h
  rw [eval_ListComp]
  refine wpAny_comprehension_free (use := none) rfl hs (clos_of S I) S.kind S.names (thn (hi pins s σ H _ I h) fun v s1 h1 => thn h1 fun itv s2 h2 => ?_)
  obtain ⟨it, fp, tn, J, H2, e, I2, T, st2, f2, q2⟩ := h2
  subst e
  refine comp_block (RR := fun acc C => compPost (model X.prog X.w) X.A X.xe none (EP X pins σ Q) acc C) hc S hg ht he I2 T st2 f2 q2 ?_
  rintro D C H' s' ⟨m, ns⟩ hC hsz I' q
  refine ⟨m, ns, fun h' hs' => ⟨.ref D, H', ?_, rfl, q⟩⟩
  have hCl : C ≠ X.env.locals := Nat.ne_of_gt (Nat.lt_of_lt_of_le I2.lt hsz)
  exact I'.turned (it := C) (t' := s'.toks) (fun b o hb e => (hs'.2 b hb).trans e) hC hCl (.inr (Nat.le_trans I2.sz hsz))
    (fun x c e z => by
      obtain ⟨v, q⟩ := I2.cell x c e
      exact absurd (Nat.lt_of_lt_of_le q.lt (by rw [z]; exact hsz)) (Nat.lt_irrefl _))
    (fun p hp z => absurd (Nat.lt_of_lt_of_le (Heap.lt_size (I2.pin p hp).1) (by rw [z]; exact hsz)) (Nat.lt_irrefl _))
end L2
set_option maxHeartbeats 4000000
namespace L2
open PySem PySem.Spec PyProof.Rows
def ViewO (T : String) (v d : Addr) : HO := .ext fun h => h.get? v = some { cls := .type T, data := .fields #[.ref d] }
def SrcV (K : PySem.W.Frag) (H : Hp) (x : V) (ys : List V) : Prop := ∃ a, x = .ref a ∧ (SqL K H a ys ∨ SqT K H a ys ∨ (∃ kvs, H a = some (.dK kvs) ∧ ys = kvs.map fun p => kV p.1) ∨
  ∃ d kvs, H a = some (ViewO "dict_values" a d) ∧ H d = some (.dK kvs) ∧ ys = kvs.map (·.2))
def SrcU (prog : Program) (w : World) (A : Around) (s : Shared) (v : Value) (n : Nat) (P : Nat → Value → Prop) : Prop :=
  ∃ d oI St, d < s.heap.objs.size ∧ (∀ (E : Value → Shared → Prop) (Q : Value → Shared → Prop), Q (.ref s.heap.objs.size) { s with heap := s.heap.push oI } → wpAny (model prog w) A (pyIter v) Q E s) ∧
    Walks prog w A s.heap.objs.size [s.heap.objs.size, d] [s.heap.objs.size] n P St ∧ St 0 (s.heap.push oI)
theorem walks_imp {prog : Program} {w : World} {A : Around} {I : Addr} {fp wr : List Addr} {n : Nat} {P P' : Nat → Value → Prop} {St : Nat → Heap → Prop} (W : Walks prog w A I fp wr n P St) (h : ∀ i v, P i v → P' i v) : Walks prog w A I fp wr n P' St where
  sub := W.sub
  frame := W.frame
  item := fun i s Q E hi st hQ => W.item i s Q E hi st fun v h' tk hp st' hk => hQ v h' tk (h i v hp) st' hk
  done := W.done
  self := W.self
theorem kv_get {κ : Type} : ∀ {kvs : List (κ × V)} {vs : List (κ × Value)} {i : Nat} {q : κ × Value}, KV kvs vs → vs[i]? = some q → ∃ p, kvs[i]? = some p ∧ p.1 = q.1 ∧ RelV p.2 q.2
  | _, _, _, _, .nil, e => by simp at e
  | _, _, 0, _, .cons r _, e => by simp at e; subst e; exact ⟨_, rfl, r⟩
  | _, _, i + 1, q, .cons _ t, e => by
    obtain ⟨p, h1, h2⟩ := kv_get (i := i) (q := q) t (by simpa using e)
    exact ⟨p, by simpa using h1, h2⟩
theorem vals_at {xs : List V} {us : List Value} {i : Nat} {u : Value} (r : Vals xs us) (e : us[i]? = some u) : ∃ x, xs[i]? = some x ∧ RelV x u := by
  cases h : xs[i]? with
  | none => rw [r.none_of h] at e; cases e
  | some x =>
    obtain ⟨u', h1, h2⟩ := r.get h
    rw [e] at h1; cases h1
    exact ⟨x, rfl, h2⟩
theorem keyIs_rel {P : Program} {w : World} {k : Key} {u : Value} (h : (mixKind P w).is k u = true) : RelV (kV k) u := by
  rcases keyIs_shape (k := k) (v := u) h with ⟨i, t, rfl, rfl⟩ | ⟨x, t, rfl, rfl⟩
  · exact ⟨t, rfl⟩
  · exact ⟨t, rfl⟩
section
variable {X : Cx} {pins : List (Addr × Obj)} {σ : St} {H : Hp} {s : Shared}
theorem Inv.src {A : Around} {x : V} {v : Value} {ys : List V} (I : Inv X pins σ H s) (hh : A.handled = none) (r : RelV x v) (h : SrcV X.K H x ys) :
    SrcU X.prog X.w A s v ys.length (fun i u => ∃ y, ys[i]? = some y ∧ RelV y u) := by
  obtain ⟨a, rfl, h⟩ := h
  cases r
  rcases h with h | h | ⟨kvs, h, rfl⟩ | ⟨d, kvs, h, hd, rfl⟩
  · obtain ⟨its, rv, p, hz⟩ := I.list h
    have hlt : a < s.heap.objs.size := by obtain ⟨_, e, _⟩ := p.isList; exact Heap.lt_size e
    have W := Walks.list (prog := X.prog) (w := X.w) (A := A) hh s.heap.objs.size a (Nat.ne_of_lt hlt) its.toArray
    rw [show its.toArray.size = ys.length by rw [List.size_toArray, rv.length]] at W
    exact ⟨a, _, _, hlt, fun E Q q => wpAny_pyIter_list p.isList q, walks_imp W fun i u e => vals_at rv (by simpa using e), ⟨⟨_, Heap.get?_push_size _ rfl, rfl, rfl⟩, p.isList.push _⟩⟩
  · obtain ⟨its, rv, p, hz⟩ := I.tuple h
    have hlt : a < s.heap.objs.size := p.lt
    have p' : s.heap.IsTuple a its.toArray := p
    have W := Walks.tuple (prog := X.prog) (w := X.w) (A := A) hh s.heap.objs.size a (Nat.ne_of_lt hlt) its.toArray
    rw [show its.toArray.size = ys.length by rw [List.size_toArray, rv.length]] at W
    refine ⟨a, _, _, hlt, fun E Q q => wpAny_pyIter_tuple p' q, walks_imp W fun i u e => vals_at rv (by simpa using e), ⟨⟨_, Heap.get?_push_size _ rfl, rfl, rfl⟩, ?_⟩⟩
    obtain ⟨o, ho, c⟩ := p'
    exact ⟨o, Heap.get?_push_of_some _ ho, c⟩
  · obtain ⟨z, lo, vs, rel, dd⟩ := dk_of I.hok h
    obtain ⟨ep, hat⟩ := dd.dictAt
    have W := Walks.dictKeys (prog := X.prog) (w := X.w) (A := A) (knd := mixKind X.prog X.w) hh s.heap.objs.size a (Nat.ne_of_lt hat.lt_size) vs ep
    have hlen : vs.length = (kvs.map fun p => kV p.1).length := by rw [List.length_map, ← rel.length]
    rw [← hlen]
    refine ⟨a, _, _, hat.lt_size, fun E Q q => wpAny_pyIter_dict lo hat q, walks_imp W fun i u hu => ?_, ⟨⟨_, Heap.get?_push_size _ rfl, rfl, rfl⟩, hat.push _⟩⟩
    obtain ⟨k, x, e, hk⟩ := hu
    obtain ⟨p, hp, e1, _⟩ := kv_get rel e
    refine ⟨kV p.1, by rw [List.getElem?_map, hp]; rfl, ?_⟩
    rw [show p.1 = k from e1]
    exact keyIs_rel hk
  · obtain ⟨z, lo, vs, rel, dd⟩ := dk_of I.hok hd
    obtain ⟨ep, hat⟩ := dd.dictAt
    have hv : s.heap.IsValuesView a d := ⟨_, (I.hok a _ h).1, rfl, rfl⟩
    have W := Walks.dictValues (prog := X.prog) (w := X.w) (A := A) (knd := mixKind X.prog X.w) hh s.heap.objs.size d (Nat.ne_of_lt hat.lt_size) vs ep
    have hlen : vs.length = (kvs.map (·.2)).length := by rw [List.length_map, ← rel.length]
    rw [← hlen]
    refine ⟨d, _, _, hat.lt_size, fun E Q q => wpAny_pyIter_values hv hat q, walks_imp W fun i u hu => ?_, ⟨⟨_, Heap.get?_push_size _ rfl, rfl, rfl⟩, hat.push _⟩⟩
    obtain ⟨k, e⟩ := hu
    obtain ⟨p, hp, _, e2⟩ := kv_get rel e
    exact ⟨p.2, by rw [List.getElem?_map, hp]; rfl, e2⟩
theorem src_keep {h' : Heap} {oI : Obj} (hk : ∀ b o, b ∉ [s.heap.objs.size] → (s.heap.push oI).get? b = some o → h'.get? b = some o) : ∀ b o, s.heap.get? b = some o → h'.get? b = some o :=
  fun b o e => hk b o (fun hm => by rw [List.mem_singleton.mp hm] at e; exact Nat.lt_irrefl _ (Heap.lt_size e)) (Heap.get?_push_of_some _ e)
theorem src_lt {d : Addr} {oI : Obj} (hd : d < s.heap.objs.size) : ∀ b ∈ [s.heap.objs.size, d], b < (s.heap.push oI).objs.size := fun b hb => by
  rw [Heap.size_push]
  rcases List.mem_cons.mp hb with rfl | hb
  · exact Nat.lt_succ_self _
  · rw [List.mem_singleton.mp hb]; exact Nat.lt_succ_of_lt hd
theorem bl_at {bs : List Bool} {i : Nat} {u : Value} (h : ∃ y, (bs.map V.bl)[i]? = some y ∧ RelV y u) : ∃ b, bs[i]? = some b ∧ u = .bool b := by
  obtain ⟨y, e, r⟩ := h
  rw [List.getElem?_map] at e
  cases q : bs[i]? with
  | none => rw [q] at e; cases e
  | some b =>
    rw [q] at e
    cases e
    exact ⟨b, rfl, r⟩
theorem int_at {ns : List Int} {i : Nat} {u : Value} (h : ∃ y, (ns.map V.int)[i]? = some y ∧ RelV y u) : ∃ t, u = .int (ns.getD i 0) t := by
  obtain ⟨y, e, r⟩ := h
  rw [List.getElem?_map] at e
  cases q : ns[i]? with
  | none => rw [q] at e; cases e
  | some b =>
    rw [q] at e
    cases e
    obtain ⟨t, rfl⟩ := r
    exact ⟨t, by rw [List.getD_eq_getElem?_getD, q]; rfl⟩
theorem call_all_of (hc : X.calm = true) : CallR X (.builtin "all") (fun xs H Q => ∃ (x : V) (bs : List Bool), xs = [x] ∧ SrcV X.K H x (bs.map V.bl) ∧ Q (.bl (bs.all id)) H) := by
  intro pins s σ H xs us Q I r h
  obtain ⟨x, bs, rfl, hs, q⟩ := h
  obtain ⟨u, rfl, ru⟩ := vals1 r
  obtain ⟨d, oI, St, hd, it, W, st⟩ := I.src (A := X.A.in1) (I.ok.hd hc) ru hs
  refine call_all_walk (it _ _ ⟨_, _, _, _, _, _, fun i => (bs[i]?).getD true, rfl, W, st, fun i v s' Q' E' hP hQ => ?_, fun h' tk hk => ?_⟩)
  · obtain ⟨b, e, rfl⟩ := bl_at hP
    simp only [e, Option.getD_some] at hQ
    exact wpAny_truthy_bool hQ
  · rw [List.length_map, LSm.range_all]
    exact ⟨.bl _, H, I.kept (src_keep hk), rfl, q⟩
theorem preSum_list : ∀ (n : Nat) (ns : List Int), preSum (fun i => ns.getD i 0) n = (ns.take n).sum
  | 0, ns => by simp [preSum]
  | n + 1, ns => by
    show preSum (fun i => ns.getD i 0) n + ns.getD n 0 = (ns.take (n + 1)).sum
    rw [preSum_list n ns, List.take_add_one]
    cases q : ns[n]? with
    | none => simp [List.getD_eq_getElem?_getD, q]
    | some b => simp [List.getD_eq_getElem?_getD, q]
theorem call_sum_of (hc : X.calm = true) : CallR X (.builtin "sum") (fun xs H Q => ∃ (x : V) (ns : List Int), xs = [x] ∧ SrcV X.K H x (ns.map V.int) ∧ Q (.int ns.sum) H) := by
  intro pins s σ H xs us Q I r h
  obtain ⟨x, ns, rfl, hs, q⟩ := h
  obtain ⟨u, rfl, ru⟩ := vals1 r
  obtain ⟨d, oI, St, hd, it, W, st⟩ := I.src (A := X.A.in1) (I.ok.hd hc) ru hs
  rw [List.length_map] at W
  refine call_sum_walkAnyS (it _ _ ⟨_, _, _, _, _, _, _, fun i => ns.getD i 0, rfl, W.toS, st, src_lt hd, fun i v hP => int_at hP, fun s' t' hm => ?_⟩)
  rw [Moved.eq_with hm, preSum_list, List.take_length]
  exact ⟨.int _, H, I.kept (src_keep hm.heap), ⟨t', rfl⟩, q⟩
end
end L2
set_option maxHeartbeats 4000000
namespace L2
open PySem PySem.Spec PyProof.Rows
section
variable {X : Cx} {pins : List (Addr × Obj)} {σ : St} {H : Hp} {s : Shared}
theorem call_isinst : CallR X (.builtin "isinstance") (fun xs H Q => ∃ (x : V) (t : Value) (T : String) (b : Bool), xs = [x, .ty T] ∧ TyOf X.K H x t ∧ PySem.W.kitOne X.K t (.type T) = some b ∧ Q (.bl b) H) := by
  intro pins s σ H xs us Q I r h
  obtain ⟨x, t, T, b, rfl, ty, e, q⟩ := h
  obtain ⟨u, v, rfl, ru, rv⟩ := r.two
  obtain rfl : v = Value.type T := rv
  exact isinst_ok I ru ty e fun tk => ⟨.bl b, H, I.tok tk, rfl, q⟩
end
end L2
set_option maxHeartbeats 4000000
namespace L2
open PySem PySem.Spec PyProof.Rows
section
variable {X : Cx} {pins : List (Addr × Obj)} {σ : St} {H : Hp} {s : Shared}
mutual
def DatV (K : PySem.W.Frag) (H : Hp) : PyData → V → Prop
  | .none, x => x = .non
  | .bool b, x => x = .bl b
  | .int i, x => x = .int i
  | .str z, x => x = .str z
  | .list ds, x => ∃ a xs, x = .ref a ∧ SqL K H a xs ∧ DatVs K H ds xs
  | .tuple ds, x => ∃ a xs, x = .ref a ∧ SqT K H a xs ∧ DatVs K H ds xs
  | .dict _, _ => False
def DatVs (K : PySem.W.Frag) (H : Hp) : List PyData → List V → Prop
  | [], xs => xs = []
  | d :: ds, xs => ∃ y ys, xs = y :: ys ∧ DatV K H d y ∧ DatVs K H ds ys
end
mutual
theorem Inv.reads (I : Inv X pins σ H s) : ∀ (d : PyData) (x : V) (u : Value), DatV X.K H d x → RelV x u → ∃ as, Reads s.heap u d as
  | .none, x, u, h, r => by
    have h' : x = .non := by simpa [DatV] using h
    subst h'
    cases r
    exact ⟨_, .none⟩
  | .bool b, x, u, h, r => by
    have h' : x = .bl b := by simpa [DatV] using h
    subst h'
    cases r
    exact ⟨_, .bool b⟩
  | .int i, x, u, h, r => by
    have h' : x = .int i := by simpa [DatV] using h
    subst h'
    obtain ⟨t, rfl⟩ := r
    exact ⟨_, .int i t⟩
  | .str z, x, u, h, r => by
    have h' : x = .str z := by simpa [DatV] using h
    subst h'
    obtain ⟨t, rfl⟩ := r
    exact ⟨_, .str z t⟩
  | .list ds, x, u, h, r => by
    unfold DatV at h
    obtain ⟨a, xs, rfl, hq, hd⟩ := h
    cases r
    obtain ⟨its, rv, ⟨o, n, ho, hc, _, hdat⟩, _⟩ := I.list hq
    obtain ⟨as, ra⟩ := Inv.readsAll I ds xs its hd rv
    exact ⟨_, .list ho hc hdat (by simpa using ra)⟩
  | .tuple ds, x, u, h, r => by
    unfold DatV at h
    obtain ⟨a, xs, rfl, hq, hd⟩ := h
    cases r
    obtain ⟨its, rv, ⟨o, ho, hc, n, hdat⟩, _⟩ := I.tuple hq
    obtain ⟨as, ra⟩ := Inv.readsAll I ds xs its hd rv
    exact ⟨_, .tuple ho hc hdat (by simpa using ra)⟩
  | .dict _, x, u, h, r => by
    unfold DatV at h
    exact h.elim
theorem Inv.readsAll (I : Inv X pins σ H s) : ∀ (ds : List PyData) (xs : List V) (us : List Value), DatVs X.K H ds xs → Vals xs us → ∃ as, ReadsAll s.heap us ds as
  | [], xs, us, h, r => by
    have h' : xs = [] := by simpa [DatVs] using h
    subst h'
    cases r
    exact ⟨_, .nil⟩
  | d :: ds, xs, us, h, r => by
    unfold DatVs at h
    obtain ⟨y, ys, rfl, h1, h2⟩ := h
    cases r with
    | cons r1 r2 =>
      obtain ⟨as, ra⟩ := Inv.reads I d y _ h1 r1
      obtain ⟨bs, rb⟩ := Inv.readsAll I ds ys _ h2 r2
      exact ⟨_, .cons ra rb⟩
end
def rEqD (K : PySem.W.Frag) (neg : Bool) : R2 := fun x y H Q => ∃ da db, DatV K H da x ∧ DatV K H db y ∧ PySem.SeqAt.shaped da = true ∧ PySem.SeqAt.shaped db = true ∧ Q (.bl (if neg then !PyData.eqv da db else PyData.eqv da db)) H
theorem op_eqD (hu : X.A.units + 64 < cLine) : OpR X (compareOp .Eq) (rEqD X.K false) := by
  intro pins s σ H x y v u Q I rx ry h
  obtain ⟨da, db, h1, h2, sa, sb, q⟩ := h
  obtain ⟨as, ra⟩ := I.reads da x v h1 rx
  obtain ⟨bs, rb⟩ := I.reads db y u h2 ry
  exact eq_dataH ra rb sa sb hu ⟨.bl _, H, I, rfl, q⟩
theorem op_neD (hu : X.A.units + 64 < cLine) : OpR X (compareOp .NotEq) (rEqD X.K true) := by
  intro pins s σ H x y v u Q I rx ry h
  obtain ⟨da, db, h1, h2, sa, sb, q⟩ := h
  obtain ⟨as, ra⟩ := I.reads da x v h1 rx
  obtain ⟨bs, rb⟩ := I.reads db y u h2 ry
  exact ne_dataH ra rb sa sb hu ⟨.bl _, H, I, rfl, q⟩
end
end L2
set_option maxHeartbeats 4000000
namespace Srt
open PySem PyProof.Rows PySem.W
section
variable {n : Nat} {key : Nat → Int}
end
end Srt
set_option maxHeartbeats 4000000
namespace Srt
open PySem PyProof.Rows PySem.W
section
variable {prog : Program} {w : World} {A : Around} {E : Value → Shared → Prop} {s : Shared}
end
end Srt
set_option maxHeartbeats 4000000
namespace L2
open PySem PySem.Spec PyProof.Rows
section
variable {X : Cx} {pins : List (Addr × Obj)} {σ : St} {H H' : Hp} {s : Shared}
theorem ObjOk.there {P : Program} {w : World} {h : Heap} {a : Addr} {o : HO} (x : ObjOk P w H h a o) : ∃ ob, h.get? a = some ob := by
  cases o with
  | lst xs => obtain ⟨_, _, _, _, e⟩ := x; exact ⟨_, e⟩
  | tup xs => obtain ⟨_, _, _, ob, e, _⟩ := x; exact ⟨_, e⟩
  | dK kvs => obtain ⟨_, _, _, _, o, _, _, e, _⟩ := x; exact ⟨_, e⟩
  | dT kvs => obtain ⟨_, _, _, _, o, _, _, e, _⟩ := x; exact ⟨_, e⟩
  | set S n => obtain ⟨o, _, _, _, e, _⟩ := x; exact ⟨_, e⟩
  | ins C dx fs => obtain ⟨_, _, _, e, _⟩ := x; exact ⟨_, e⟩
  | own y => obtain ⟨_, e⟩ := x; exact ⟨_, e⟩
  | xd fs => obtain ⟨_, ⟨_, _, _, e, _⟩, _⟩ := x; exact ⟨_, e⟩
  | rng lo hi => obtain ⟨_, _, _, e⟩ := x; exact ⟨_, e⟩
  | frz ob u => obtain ⟨e, _⟩ := x; exact ⟨_, e⟩
  | tbl ps => exact ⟨_, show h.get? a = some _ from x⟩
  | ctab q pos => obtain ⟨_, e, _⟩ := x; exact ⟨_, e⟩
  | met f y => exact ⟨_, show h.get? a = some _ from x⟩
  | ext φ => obtain ⟨_, ⟨_, e⟩, _⟩ := x; exact ⟨_, e⟩
end
end L2
set_option maxHeartbeats 4000000
namespace L2
open PySem PySem.Spec PyProof.Rows
def compOk (XN : List Str) (xs : List (Str × NameKind)) (N : List Str) (cap : List (Option Nat)) (sc : Scope) : Bool :=
  decide (sc.kind = .function) && decide N.Nodup && sc.names.all (fun y => decide (y.2 ≠ .cell)) && sc.names.all (fun y => decide (y.2 = .local → sc.names.lookup y.1 = some .local)) &&
  sc.names.all (fun y => decide (y.2 = .free → xs.lookup y.1 = some .cell ∨ xs.lookup y.1 = some .free)) && decide (cap.length = N.length) &&
  (List.range cap.length).all fun i => match (cap[i]?).join with
    | some j => decide (XN[j]? = N[i]?) && (match N[i]? with | some x => decide (sc.names.lookup x = some .free) | none => false)
    | none => true
theorem compScope_of {X : Cx} {XN N : List Str} {xs : List (Str × NameKind)} {cap : List (Option Nat)} {sc : Scope} (hN : X.N = XN) (hS : X.env.scope.names = xs) (h : compOk XN xs N cap sc = true) : CompScope X N cap sc := by
  subst hN hS
  unfold compOk at h
  simp only [Bool.and_eq_true, List.all_eq_true, decide_eq_true_eq] at h
  obtain ⟨⟨⟨⟨⟨⟨h1, h2⟩, h3⟩, h4⟩, h5⟩, h6⟩, h7⟩ := h
  refine ⟨h1, h2, h3, h4, h5, h6, fun i hi j hj => ?_⟩
  have q := h7 i hi
  rw [hj] at q
  simp only [Bool.and_eq_true, decide_eq_true_eq] at q
  refine ⟨q.1, ?_⟩
  cases hx : N[i]? with
  | none => rw [hx] at q; exact absurd q.2 Bool.false_ne_true
  | some x =>
    rw [hx] at q
    have e : sc.names.lookup x = some .free := by simpa using q.2
    exact ⟨x, rfl, PySem.mem_of_lookup e, e⟩
theorem pe_ty {X : Cx} {x : Str} {T : String} {pos : Pos} (hg : Gl X x) (hm : X.mg x = none) (hv : bootBuiltins x = some (.type T)) (hn : x ≠ "__name__" := by decide) (hd : (x == ("__debug__" : Str)) = false := by decide) : PE X (.Name x pos) (tC (.ty T)) := pe_bltn (v := .ty T) hg hm hv rfl hn hd
theorem seq_cut {t u : TS} {D : Ends} {σ : St} {H : Hp} (J : St → Hp → Prop) (h1 : ∀ k : St → Hp → Prop, (∀ σ' H', J σ' H' → k σ' H') → t { D with nx := k } σ H) (h2 : ∀ σ' H', J σ' H' → u D σ' H') : tSeq t u D σ H := h1 (u D) h2
theorem at_in {xs : List Int} {i : Int} (h0 : 0 ≤ i) (h1 : i < (xs.length : Int)) : ∃ p ∈ xs, atI (xs.map V.int) i = some (.int p) := by
  have hj : i.toNat < xs.length := by omega
  have e : ((i.toNat : Nat) : Int) = i := Int.toNat_of_nonneg h0
  refine ⟨xs[i.toNat], List.getElem_mem hj, ?_⟩
  have q1 : (xs.map V.int)[i.toNat]? = some (.int xs[i.toNat]) := by rw [List.getElem?_map, List.getElem?_eq_getElem hj]; rfl
  have q2 := atI_nat q1
  rw [e] at q2
  exact q2
theorem pg_tupK {X : Cx} {K : PySem.W.Frag} {es : List Expr} {k : Nat} {t : TGs} {n : Nat} {pos : Pos} (hK : X.K = K) (hc : X.calm = true) (h : PGs X es t)
    (hn : (assignEach es X.env).length = n := by rfl) (hst : (assignEach es X.env).findIdx? (·.1) = none := by rfl) : PG X (.Tuple es k pos) (gTup K n t) := by
  subst hK
  exact pg_tup hc h hn hst
theorem Same.upd {H H' : Hp} {a : Addr} {o : HO} (e : Same H H') (h : H a = none) : Same H (L2.upd H' a o) := fun b u q => by
  rw [upd_ne (ne_of_none q h)]
  exact e b u q
end L2
namespace Tl
open L2
end Tl
set_option maxHeartbeats 400000
namespace Tl
end Tl
set_option maxHeartbeats 400000
namespace Tl
end Tl
set_option maxHeartbeats 400000
namespace Tl
end Tl
set_option maxHeartbeats 4000000
namespace L2
open PySem PySem.Spec PyProof.Rows
section
variable {X : Cx} {pins : List (Addr × Obj)} {σ : St} {H : Hp} {s : Shared}
end
end L2
set_option maxHeartbeats 4000000
namespace L2
open PySem PySem.Spec PyProof.Rows
section
variable {X : Cx} {pins : List (Addr × Obj)} {σ : St} {H : Hp} {s : Shared}
theorem for_it {J : It} {n : Nat} {g : TG} {tb : TS} {D : Ends} {σ : St} {H : Hp} (Pv : Nat → St → Hp → Prop) (h0 : Pv 0 σ H)
    (hgo : ∀ i σ H, i < n → Pv i σ H → J.go i H) (hstop : ∀ σ H, Pv n σ H → J.stop n H)
    (hs : ∀ i σ H x H', i < n → Pv i σ H → J.yld i H x H' → g x σ H' fun σ2 H2 => tb { D with nx := Pv (i + 1), ct := Pv (i + 1), bk := D.nx } σ2 H2) (hd : ∀ σ H, Pv n σ H → D.nx σ H) :
    ∃ W : Nat → Nat → St → Hp → Prop, (∃ m, W 0 m σ H) ∧ ∀ i m σ H, W i m σ H →
      (J.stop i H ∧ D.nx σ H) ∨ (J.go i H ∧ ∃ N : St → Hp → Prop, (∀ σ' H', N σ' H' → ∃ m', m' < m ∧ W (i + 1) m' σ' H') ∧ ∀ x H', J.yld i H x H' → g x σ H' fun σ2 H2 => tb { D with nx := N, ct := N, bk := D.nx } σ2 H2) := by
  refine ⟨fun i m σ H => m = n - i ∧ i ≤ n ∧ Pv i σ H, ⟨n, by simp, Nat.zero_le _, h0⟩, ?_⟩
  rintro i m σ H ⟨rfl, hi, p⟩
  by_cases hlt : i < n
  · exact .inr ⟨hgo i σ H hlt p, Pv (i + 1), fun σ' H' p' => ⟨n - (i + 1), by omega, rfl, hlt, p'⟩, fun x H' y => hs i σ H x H' hlt p y⟩
  · have e : i = n := by omega
    subst e
    exact .inl ⟨hstop σ H p, hd σ H p⟩
theorem lc_it {J : It} {n : Nat} {cap : List (Option Nat)} {g : TG} {tt : TT} {te : TE} {σ : St} {H1 : Hp} {Q : VK} (Pv : Nat → List V → Addr → St → Hp → Prop)
    (h0 : ∀ D, H1 D = none → Pv 0 [] D (cap0 cap σ) (upd H1 D (.lst [])))
    (hgo : ∀ i acc D σ H, i < n → Pv i acc D σ H → J.go i H) (hstop : ∀ acc D σ H, Pv n acc D σ H → J.stop n H)
    (hs : ∀ i acc D σ H x H' (R : St → Hp → Prop), i < n → (∀ acc' σ' H', Pv (i + 1) acc' D σ' H' → R σ' H') → Pv i acc D σ H → J.yld i H x H' → g x σ H' fun σ3 H3 => tt σ3 H3 fun b H4 =>
      if b = true then te σ3 H4 fun v H5 => ∃ acc, H5 D = some (.lst acc) ∧ acc.length < sizeLine ∧ R σ3 (upd H5 D (.lst (acc ++ [v]))) else R σ3 H4)
    (hd : ∀ acc D σ H, Pv n acc D σ H → Q (.ref D) H) : LcGo cap g tt te σ Q J H1 := by
  intro D hD
  refine ⟨fun i m σ' H' => m = n - i ∧ i ≤ n ∧ ∃ acc, Pv i acc D σ' H', ⟨n, by simp, Nat.zero_le _, [], h0 D hD⟩, ?_⟩
  rintro i m σ' H' ⟨rfl, hi, acc, p⟩
  by_cases hlt : i < n
  · refine .inr ⟨hgo i acc D σ' H' hlt p, fun x H2 y => ?_⟩
    have key := hs i acc D σ' H' x H2 (fun σ' H' => ∃ m', m' < n - i ∧ m' = n - (i + 1) ∧ i + 1 ≤ n ∧ ∃ acc, Pv (i + 1) acc D σ' H') hlt (fun acc' σ'' H'' p' => ⟨n - (i + 1), by omega, rfl, hlt, acc', p'⟩) p y
    exact key
  · have e : i = n := by omega
    subst e
    exact .inl ⟨hstop acc D σ' H' p, hd acc D σ' H' p⟩
end
end L2
set_option maxHeartbeats 4000000
namespace L2
open PySem PySem.Spec PyProof.Rows
section
variable {K : PySem.W.Frag} {cap : List (Option Nat)} {g : TG} {tt : TT} {te : TE} {σ : St} {H1 : Hp} {Q : VK}
theorem smallM {n : Nat} (h : n ≤ 1000000) : n < sizeLine := by rw [sizeLine_eq]; omega
theorem lc_rel {J : It} {n : Nat} (S : St → Prop) (P : Nat → List V → Addr → Hp → Prop)
    (hgo : ∀ i H', i < n → Same H1 H' → J.go i H') (hst : ∀ H', Same H1 H' → J.stop n H') (hn : n ≤ 1000000) (h0 : S (cap0 cap σ)) (p0 : ∀ D, H1 D = none → P 0 [] D (upd H1 D (.lst [])))
    (lenP : ∀ i acc D H, P i acc D H → acc.length ≤ i)
    (stab : ∀ i acc D H H', P i acc D H → (∀ b o, b ≠ D → H b = some o → H' b = some o) → P i acc D H')
    (step : ∀ (i : Nat) (acc : List V) (D : Addr) (σ' : St) (H' : Hp) (x : V) (H2 : Hp) (k : V → St → Hp → Prop) (r : St → Hp → Prop), i < n → S σ' → Same H1 H' → H1 D = none → H' D = some (.lst acc) → P i acc D H' → J.yld i H' x H2 →
      (∀ v σ3 H5, S σ3 → Same H' H5 → P (i + 1) (acc ++ [v]) D H5 → k v σ3 H5) → (∀ σ3 H4, S σ3 → Same H' H4 → P (i + 1) acc D H4 → r σ3 H4) →
      g x σ' H2 fun σ3 H3 => tt σ3 H3 fun b H4 => if b = true then te σ3 H4 (fun v H5 => k v σ3 H5) else r σ3 H4)
    (done : ∀ (acc : List V) (D : Addr) (σ' : St) (H' : Hp), H1 D = none → Same H1 H' → H' D = some (.lst acc) → P n acc D H' → Q (.ref D) H') : LcGo cap g tt te σ Q J H1 := by
  refine lc_it (n := n) (fun i acc D σ' H' => S σ' ∧ Same H1 H' ∧ H1 D = none ∧ H' D = some (.lst acc) ∧ P i acc D H') (fun D hD => ⟨h0, (Same.refl H1).upd hD, hD, upd_same, p0 D hD⟩)
    (fun i acc D σ' H' hi p => hgo i H' hi p.2.1) (fun acc D σ' H' p => hst H' p.2.1) (fun i acc D σ' H' x H2 R hi hR p y => ?_) (fun acc D σ' H' p => done acc D σ' H' p.2.2.1 p.2.1 p.2.2.2.1 p.2.2.2.2)
  obtain ⟨q1, q2, q3, q4, q5⟩ := p
  refine step i acc D σ' H' x H2 (fun v σ3 H5 => ∃ acc, H5 D = some (.lst acc) ∧ acc.length < sizeLine ∧ R σ3 (upd H5 D (.lst (acc ++ [v])))) R hi q1 q2 q3 q4 q5 y (fun v σ3 H5 s3 sm p5 => ?_) (fun σ3 H4 s3 sm p4 => ?_)
  · have hl := lenP i acc D H' q5
    refine ⟨acc, sm D _ q4, smallM (by omega), hR (acc ++ [v]) σ3 _ ⟨s3, (q2.trans sm).upd q3, q3, upd_same, stab _ _ _ _ _ p5 fun b o hb e => by rw [upd_ne hb]; exact e⟩⟩
  · exact hR acc σ3 H4 ⟨s3, q2.trans sm, q3, sm D _ q4, p4⟩
theorem lc_fm {J : It} {n : Nat} (S : St → Prop) (fs : Nat → Option V)
    (hgo : ∀ i H', i < n → Same H1 H' → J.go i H') (hst : ∀ H', Same H1 H' → J.stop n H') (hn : n ≤ 1000000) (h0 : S (cap0 cap σ))
    (step : ∀ (i : Nat) (σ' : St) (H' : Hp) (x : V) (H2 : Hp) (k : V → St → Hp → Prop) (r : St → Hp → Prop), i < n → S σ' → Same H1 H' → J.yld i H' x H2 →
      (∀ v σ3 H5, fs i = some v → S σ3 → Same H' H5 → k v σ3 H5) → (∀ σ3 H4, fs i = none → S σ3 → Same H' H4 → r σ3 H4) →
      g x σ' H2 fun σ3 H3 => tt σ3 H3 fun b H4 => if b = true then te σ3 H4 (fun v H5 => k v σ3 H5) else r σ3 H4)
    (done : ∀ D H', H1 D = none → Same H1 H' → H' D = some (.lst ((List.range n).filterMap fs)) → Q (.ref D) H') : LcGo cap g tt te σ Q J H1 := by
  refine lc_rel (n := n) S (fun i acc _ _ => acc = (List.range i).filterMap fs) hgo hst hn h0 (fun _ _ => rfl) (fun i acc D H e => ?_) (fun i acc D H H' e _ => e) (fun i acc D σ' H' x H2 k r hi s1 s2 hD hA e y hk hr => ?_) (fun acc D σ' H' hD sm hA e => done D H' hD sm (e ▸ hA))
  · subst e
    have := List.length_filterMap_le fs (List.range i)
    rw [List.length_range] at this
    exact this
  · subst e
    refine step i σ' H' x H2 k r hi s1 s2 y (fun v σ3 H5 hv s3 sm => hk v σ3 H5 s3 sm ?_) (fun σ3 H4 hv s3 sm => hr σ3 H4 s3 sm ?_)
    · rw [List.range_succ, List.filterMap_append]; simp [hv]
    · rw [List.range_succ, List.filterMap_append]; simp [hv]
theorem range_fm {xs : List V} {f : V → Option V} : (List.range xs.length).filterMap (fun i => xs[i]?.bind f) = xs.filterMap f := by
  have e : xs = (List.range xs.length).filterMap fun i => xs[i]? := by
    apply List.ext_getElem?
    intro i
    have key : ∀ n, n ≤ xs.length → (List.range n).filterMap (fun i => xs[i]?) = xs.take n := fun n => by
      induction n with
      | zero => intro _; simp
      | succ n ih =>
        intro hn
        rw [List.range_succ, List.filterMap_append, ih (by omega), List.take_add_one]
        simp [List.getElem?_eq_getElem (show n < xs.length by omega)]
    rw [key xs.length (Nat.le_refl _), List.take_length]
  conv => rhs; rw [e]
  rw [List.filterMap_filterMap]
theorem lc_listF {a : Addr} {xs : List V} (S : St → Prop) (f : V → Option V) (hn : xs.length ≤ 1000000) (h0 : S (cap0 cap σ)) (ha : SqL K H1 a xs)
    (step : ∀ (i : Nat) (x : V) (σ' : St) (H' : Hp) (k : V → St → Hp → Prop) (r : St → Hp → Prop), xs[i]? = some x → S σ' → Same H1 H' →
      (∀ v σ3 H5, f x = some v → S σ3 → Same H' H5 → k v σ3 H5) → (∀ σ3 H4, f x = none → S σ3 → Same H' H4 → r σ3 H4) →
      g x σ' H' fun σ3 H3 => tt σ3 H3 fun b H4 => if b = true then te σ3 H4 (fun v H5 => k v σ3 H5) else r σ3 H4)
    (done : ∀ D H', H1 D = none → Same H1 H' → H' D = some (.lst (xs.filterMap f)) → Q (.ref D) H') : LcGo cap g tt te σ Q (Itl K a) H1 := by
  refine lc_fm (n := xs.length) S (fun i => xs[i]?.bind f) (fun i H' hi sm => ⟨xs, xs[i], sm.seq ha, List.getElem?_eq_getElem hi⟩) (fun H' sm => ⟨xs, sm.seq ha, Nat.le_refl _⟩) hn h0 (fun i σ' H' x H2 k r hi s1 sm y hk hr => ?_) (fun D H' hD sm hA => done D H' hD sm (by rw [range_fm] at hA; exact hA))
  obtain ⟨e, y⟩ := y
  subst e
  have hx := y xs (sm.seq ha)
  refine step i x σ' H2 k r hx s1 sm (fun v σ3 H5 hv s3 sm3 => hk v σ3 H5 (by simp only [hx]; exact hv) s3 sm3) (fun σ3 H4 hv s3 sm3 => hr σ3 H4 (by simp only [hx]; exact hv) s3 sm3)
theorem fm_map {α β : Type} (f : α → β) (xs : List α) : xs.filterMap (fun x => some (f x)) = xs.map f := by
  rw [List.filterMap_eq_map']
theorem lc_listM {a : Addr} {xs : List V} (S : St → Prop) (f : V → V) (hn : xs.length ≤ 1000000) (h0 : S (cap0 cap σ)) (ha : SqL K H1 a xs)
    (step : ∀ (i : Nat) (x : V) (σ' : St) (H' : Hp) (k : V → St → Hp → Prop) (r : St → Hp → Prop), xs[i]? = some x → S σ' → Same H1 H' → (∀ σ3 H5, S σ3 → Same H' H5 → k (f x) σ3 H5) →
      g x σ' H' fun σ3 H3 => tt σ3 H3 fun b H4 => if b = true then te σ3 H4 (fun v H5 => k v σ3 H5) else r σ3 H4)
    (done : ∀ D H', H1 D = none → Same H1 H' → H' D = some (.lst (xs.map f)) → Q (.ref D) H') : LcGo cap g tt te σ Q (Itl K a) H1 :=
  lc_listF S (fun x => some (f x)) hn h0 ha (fun i x σ' H' k r hx s1 sm hk _ => step i x σ' H' k r hx s1 sm fun σ3 H5 s3 sm3 => hk (f x) σ3 H5 rfl s3 sm3) fun D H' hD sm hA => done D H' hD sm (by rw [fm_map] at hA; exact hA)
end
end L2
namespace L2
open PySem PySem.Spec PyProof.Rows
section
variable {K : PySem.W.Frag} {cap : List (Option Nat)} {g : TG} {tt : TT} {te : TE} {σ : St} {H1 : Hp} {Q : VK}
end
end L2
namespace L2
open PySem PySem.Spec PyProof.Rows
section
variable {K : PySem.W.Frag} {cap : List (Option Nat)} {g : TG} {tt : TT} {te : TE} {σ : St} {H1 : Hp} {Q : VK}
end
end L2
set_option maxHeartbeats 4000000
namespace L2
open PySem PySem.Spec PyProof.Rows
section
variable {X : Cx} {pins : List (Addr × Obj)} {σ : St} {H : Hp} {s : Shared}
end
end L2
set_option maxHeartbeats 1000000
namespace L2
open PySem PySem.Spec PyProof.Rows
theorem datvs_ints {K : PySem.W.Frag} {H : Hp} : ∀ ns : List Int, DatVs K H (ns.map PyData.int) (ns.map V.int)
  | [] => by simp [DatVs]
  | n :: ns => by
    rw [List.map_cons, List.map_cons]
    unfold DatVs
    exact ⟨_, _, rfl, by simp [DatV], datvs_ints ns⟩
theorem dat_ints {K : PySem.W.Frag} {H : Hp} {a : Addr} {ns : List Int} (h : SqL K H a (ns.map V.int)) : DatV K H (.list (ns.map PyData.int)) (.ref a) := by
  unfold DatV
  exact ⟨a, _, rfl, h, datvs_ints ns⟩
def pr (p : Int × Int) : PyData := .tuple [.int p.1, .int p.2]
theorem dat_pr {K : PySem.W.Frag} {H : Hp} {t : Addr} {p : Int × Int} (h : SqT K H t [.int p.1, .int p.2]) : DatV K H (pr p) (.ref t) := by
  unfold pr DatV
  exact ⟨t, _, rfl, h, by simp [DatVs, DatV]⟩
theorem datvs_prs {K : PySem.W.Frag} {H : Hp} : ∀ (ps : List (Int × Int)) (ts : List Addr), ts.length = ps.length → (∀ (j : Nat) (t : Addr) (p : Int × Int), ts[j]? = some t → ps[j]? = some p → SqT K H t [.int p.1, .int p.2]) → DatVs K H (ps.map pr) (ts.map V.ref)
  | [], [], _, _ => by simp [DatVs]
  | [], _ :: _, h, _ => by cases h
  | _ :: _, [], h, _ => by cases h
  | p :: ps, t :: ts, h, f => by
    rw [List.map_cons, List.map_cons]
    unfold DatVs
    exact ⟨_, _, rfl, dat_pr (f 0 t p rfl rfl), datvs_prs ps ts (by simpa using h) fun j t' p' h1 h2 => f (j + 1) t' p' (by simpa using h1) (by simpa using h2)⟩
theorem dat_prs {K : PySem.W.Frag} {H : Hp} {a : Addr} {ts : List Addr} {ps : List (Int × Int)} (h : SqL K H a (ts.map V.ref)) (hl : ts.length = ps.length) (f : ∀ (j : Nat) (t : Addr) (p : Int × Int), ts[j]? = some t → ps[j]? = some p → SqT K H t [.int p.1, .int p.2]) :
    DatV K H (.list (ps.map pr)) (.ref a) := by
  unfold DatV
  exact ⟨a, _, rfl, h, datvs_prs ps ts hl f⟩
theorem lay_ints : ∀ ns : List Int, PyData.canLayAll0 (ns.map PyData.int) = true ∧ PyData.depthAll (ns.map PyData.int) = 0
  | [] => by simp [PyData.canLayAll0, PyData.depthAll]
  | n :: ns => by
    obtain ⟨h1, h2⟩ := lay_ints ns
    rw [List.map_cons]
    unfold PyData.canLayAll0 PyData.depthAll
    simp [h1, h2, PyData.canLay0, PyData.depth]
theorem shaped_ints (ns : List Int) : PySem.SeqAt.shaped (.list (ns.map PyData.int)) = true := by
  obtain ⟨h1, h2⟩ := lay_ints ns
  simp [PySem.SeqAt.shaped, PyData.canLay0, PyData.depth, h1, h2]
theorem lay_prs : ∀ ps : List (Int × Int), PyData.canLayAll0 (ps.map pr) = true ∧ PyData.depthAll (ps.map pr) ≤ 1
  | [] => by simp [PyData.canLayAll0, PyData.depthAll]
  | p :: ps => by
    obtain ⟨h1, h2⟩ := lay_prs ps
    rw [List.map_cons]
    have c : (pr p).canLay0 = true := by simp [pr, PyData.canLay0, PyData.canLayAll0]
    have d : (pr p).depth = 1 := by simp [pr, PyData.depth, PyData.depthAll]
    unfold PyData.canLayAll0 PyData.depthAll
    rw [c, d]
    exact ⟨by simp [h1], by omega⟩
theorem shaped_prs (ps : List (Int × Int)) : PySem.SeqAt.shaped (.list (ps.map pr)) = true := by
  obtain ⟨h1, h2⟩ := lay_prs ps
  have c : (PyData.list (ps.map pr)).canLay0 = true := by unfold PyData.canLay0; exact h1
  have d : (PyData.list (ps.map pr)).depth ≤ 64 := by unfold PyData.depth; omega
  simp [PySem.SeqAt.shaped, c, d]
theorem shaped_refl {d : PyData} (h : PySem.SeqAt.shaped d = true) : PyData.eqv d d = true := PySem.SeqAt.eqv_refl d (PySem.SeqAt.canLay_of_shaped h)
end L2
set_option maxHeartbeats 1000000
namespace L2
open PySem PySem.Spec PyProof.Rows
section
variable {X : Cx} {pins : List (Addr × Obj)} {σ : St} {H : Hp} {s : Shared}
end
end L2
namespace Tl
open L2
end Tl
set_option maxHeartbeats 1000000
namespace L2
open PySem PySem.Spec PyProof.Rows
structure Kp (fs xs : List Addr) (h h' : Heap) : Prop where
  keep : ∀ b o, h.get? b = some o → b ∉ fs → b ∉ xs → h'.get? b = some o
  slot : ∀ b o, h.get? b = some o → b ∉ xs → ∃ sl, h'.get? b = some { o with slots := sl }
theorem Kp.trans {fs xs : List Addr} {h h1 h2 : Heap} (a : Kp fs xs h h1) (b : Kp fs xs h1 h2) : Kp fs xs h h2 :=
  ⟨fun c o e n1 n2 => b.keep c o (a.keep c o e n1 n2) n1 n2, fun c o e n => by
    obtain ⟨s1, e1⟩ := a.slot c o e n
    obtain ⟨s2, e2⟩ := b.slot c _ e1 n
    exact ⟨s2, e2⟩⟩
theorem Kp.mono {fs fs' xs xs' : List Addr} {h h1 : Heap} (a : Kp fs xs h h1) (hf : ∀ b ∈ fs, b ∈ fs') (hx : ∀ b ∈ xs, b ∈ xs') : Kp fs' xs' h h1 :=
  ⟨fun c o e n1 n2 => a.keep c o e (fun z => n1 (hf c z)) fun z => n2 (hx c z), fun c o e n => a.slot c o e fun z => n (hx c z)⟩
theorem Kp.drop {fs xs xs' : List Addr} {h h1 : Heap} (a : Kp fs xs h h1) (hx : ∀ b ∈ xs, b ∈ xs' ∨ h.get? b = none) : Kp fs xs' h h1 := by
  have n : ∀ c o, h.get? c = some o → c ∉ xs' → c ∉ xs := fun c o e n z => (hx c z).elim n fun q => by rw [q] at e; cases e
  exact ⟨fun c o e n1 n2 => a.keep c o e n1 (n c o e n2), fun c o e n2 => a.slot c o e (n c o e n2)⟩
theorem Kp.all {fs xs : List Addr} {h h1 : Heap} (k : ∀ b o, h.get? b = some o → b ∉ xs → h1.get? b = some o) : Kp fs xs h h1 := ⟨fun b o e _ n => k b o e n, fun b o e n => ⟨o.slots, k b o e n⟩⟩
theorem Kp.un {P : Program} {w : World} {fs xs : List Addr} {H : Hp} {h h' : Heap} (a : Kp fs xs h h') (hok : HOk P w H h) (fr : ∀ b ∈ fs, H b = none) (fx : ∀ b ∈ xs, H b = none) : Un fs xs H H h h' ∧ HOk P w H h' := by
  refine ⟨⟨fun b o e1 _ n1 n2 => a.keep b o e1 n1 n2, fun b o e1 _ _ n => a.slot b o e1 n, fun _ _ _ n _ => n, fun b o e1 n2 => ?_, fun _ _ q => q, fun _ _ _ q => q, fun _ ps q => ⟨#[], by rw [q]; simp⟩⟩, fun c o ea => ?_⟩
  · obtain ⟨sl, z⟩ := a.slot b o e1 n2; exact ⟨_, z⟩
  · refine (hok c o ea).stay (fun b u hb e1 => ?_) (fun _ q => q) fun _ _ q => q
    have : ∃ u, H b = some u := by
      rcases hb with rfl | hb
      · exact ⟨_, ea⟩
      · exact ⟨_, hb⟩
    obtain ⟨u', hu⟩ := this
    exact a.keep b u e1 (fun z => by rw [fr b z] at hu; cases hu) fun z => by rw [fx b z] at hu; cases hu
def Exc (e T C : Addr) (fl : Value) (h : Heap) : Prop :=
  ∃ oe vs oT ts, h.get? e = some oe ∧ oe.cls = .ref C ∧ oe.data = .fields vs ∧ vs[1]? = some (.ref T) ∧ vs[2]? = some .none ∧ T ≠ e ∧ h.get? T = some oT ∧ oT.data = .fields ts ∧ ts[3]? = some fl
section
variable {M : Model} {A : Around} {E : Value → Shared → Prop} {s : Shared} {base : Heap} {env : Env} {outer : List Env} {L e C T : Addr} {oe : Obj} {vs : Array Value} {Q : Unit → Shared → Prop}
theorem fields_nofr {h : Heap} {l : List Env} (hl : h.FunFrames base l) (he : h.get? e = some oe) (hd : oe.data = .fields vs) : e ∉ frs l := fun hm => by
  obtain ⟨_, o, ho, hnf⟩ := hl.mem hm
  rw [he] at ho; cases ho
  exact hnf vs hd
theorem note_new {head : Value} {b : Bool} (hfr : A.frames = some (env :: outer)) (hl : s.heap.FunFrames base (env :: outer)) (hf : env.frame = some L) (he : s.heap.get? e = some oe) (hc : oe.cls = .ref C) (hd : oe.data = .fields vs) (h1 : 1 < vs.size) (h2 : vs[2]? = some .none)
    (h : ∀ h' T, Kp (frs (env :: outer)) [e] s.heap h' → Exc e T C (rawInt L) h' → s.heap.get? T = none → Q () { s with heap := h' }) :
    wpAny M A (do let a ← frameOf env; let pl ← entryPlaceOf L b; let x ← EntryCells.newEntry head a .none (rawInt L) .none pl; setField (.ref e) 1 x) Q E s := by
  have hne := fields_nofr hl he hd
  refine wpAny_bind (wpAny_frameOf_fun hfr hl hf fun h₁ hs => ?_)
  refine wpAny_bind (wpAny_entryPlaceOf fun pl hpl => ?_)
  unfold EntryCells.newEntry newFields
  refine wpAny_bind (wpAny_newObj_type ?_ (hpl.sizeOk5 _ _ _ _ _))
  generalize hO : ({ cls := .type "traceback", dict := none, data := .fields ([head, .ref L, .none, rawInt L, .none] ++ (if pl.isEmpty then List.replicate 6 Value.none else pl)).toArray } : Obj) = O
  have he₁ : h₁.get? e = some oe := (hs.2.1 e hne).trans he
  have he₂ := Heap.get?_push_of_some (h := h₁) O he₁
  have hT : h₁.objs.size ≠ e := Nat.ne_of_gt (Heap.lt_size he₁)
  have hfree : O.isFreed = false := by subst hO; rfl
  have hT₂ : (h₁.push O).get? h₁.objs.size = some O := Heap.get?_push_size h₁ hfree
  refine wpAny_setField he₂ hd h1 (h _ h₁.objs.size ⟨fun c o e1 n1 n2 => ?_, fun c o e1 n2 => ?_⟩ ⟨_, _, O, _, Heap.get?_update_self _ he₂ (Obj.isFreed_of_fields (Obj.data_mapFields hd _)), (Obj.cls_mapFields _ _).trans hc, Obj.data_mapFields hd _, by simp [h1], ?_, hT, ?_, by subst hO; rfl, by simp⟩ ?_)
  · have hce : c ≠ e := by simpa using n2
    rw [Heap.get?_update_other _ _ (Ne.symm hce)]
    exact Heap.get?_push_of_some _ ((hs.2.1 c n1).trans e1)
  · have hce : c ≠ e := by simpa using n2
    obtain ⟨sl, z⟩ := hs.2.2 c o e1
    exact ⟨sl, by rw [Heap.get?_update_other _ _ (Ne.symm hce)]; exact Heap.get?_push_of_some _ z⟩
  · rw [Array.getElem?_setIfInBounds_ne (by decide)]; exact h2
  · rw [Heap.get?_update_other _ _ (Ne.symm hT)]; exact hT₂
  · cases q : s.heap.get? h₁.objs.size with
    | none => rfl
    | some o =>
      obtain ⟨sl, z⟩ := hs.2.2 _ o q
      exact absurd (Heap.lt_size z) (Nat.lt_irrefl _)
theorem note_first (hfr : A.frames = some (env :: outer)) (hl : s.heap.FunFrames base (env :: outer)) (hf : env.frame = some L) (he : s.heap.get? e = some oe) (hc : oe.cls = .ref C) (hd : oe.data = .fields vs) (h1 : vs[1]? = some .none) (h2 : vs[2]? = some .none)
    (h : ∀ h' T, Kp (frs (env :: outer)) [e] s.heap h' → Exc e T C (rawInt L) h' → s.heap.get? T = none → Q () { s with heap := h' }) : wpAny M A (noteFrame (.ref e) env) Q E s := by
  unfold noteFrame
  simp only [hf]
  refine wpAny_bind (wpAny_field he hd h1 ?_)
  rw [if_neg (by decide)]
  exact note_new hfr hl hf he hc hd (Array.getElem?_eq_some_iff.mp h1).1 h2 h
theorem note_next (hfr : A.frames = some (env :: outer)) (hl : s.heap.FunFrames base (env :: outer)) (hf : env.frame = some L) (x : Exc e T C .none s.heap)
    (h : ∀ h' T', Kp (frs (env :: outer)) [e, T] s.heap h' → Exc e T' C (rawInt L) h' → s.heap.get? T' = none → Q () { s with heap := h' }) : wpAny M A (noteFrame (.ref e) env) Q E s := by
  obtain ⟨oe, vs, oT, ts, he, hc, hd, h1, h2, hTe, hT, hdT, h3⟩ := x
  unfold noteFrame
  simp only [hf]
  refine wpAny_bind (wpAny_field he hd h1 ?_)
  rw [if_pos (show (Value.ref T != Value.none) = true from by simp)]
  refine wpAny_bind (wpAny_field hT hdT h3 ?_)
  rw [if_neg (show ¬ ((Value.none == rawInt L) = true) from by simp [rawInt])]
  refine wpAny_bind (wpAny_setField hT hdT (Array.getElem?_eq_some_iff.mp h3).1 ?_)
  have oth : ∀ b, b ≠ T → (s.heap.update T (Obj.mapFields (·.setIfInBounds 3 Value.none))).get? b = s.heap.get? b := fun b hb => Heap.get?_update_other _ _ (Ne.symm hb)
  have hTn : T ∉ frs (env :: outer) := fields_nofr hl hT hdT
  have k0 : Kp (frs (env :: outer)) [e, T] s.heap (s.heap.update T (Obj.mapFields (·.setIfInBounds 3 Value.none))) := .all fun b o e1 n => (oth b fun z => n (by simp [z])).trans e1
  refine note_new hfr (hl.of_keeps fun b o hb hnf => ⟨o, (oth b fun z => ?_).trans hb, rfl⟩) hf ((oth e (Ne.symm hTe)).trans he) hc hd (Array.getElem?_eq_some_iff.mp h1).1 h2 fun h' T' k x n => h h' T' (k0.trans (k.mono (fun _ z => z) (by simp))) x ?_
  · rw [z, hT] at hb; cases hb; exact hnf ts hdT
  · by_cases z : T' = T
    · rw [z, Heap.get?_update_self _ hT (Obj.isFreed_of_fields (Obj.data_mapFields hdT _))] at n; cases n
    · rw [← oth T' z]; exact n
theorem land {fl : Value} (x : Exc e T C fl s.heap) (h : ∀ h', Kp [] [T] s.heap h' → Exc e T C .none h' → Q () { s with heap := h' }) : wpAny M A (setFlight (.ref e) none) Q E s := by
  obtain ⟨oe, vs, oT, ts, he, hc, hd, h1, h2, hTe, hT, hdT, h3⟩ := x
  have h3z := (Array.getElem?_eq_some_iff.mp h3).1
  unfold setFlight
  refine wpAny_bind (wpAny_field he hd h1 ?_)
  rw [if_pos (show (Value.ref T != Value.none) = true from by simp)]
  have oth : ∀ b, b ≠ T → (s.heap.update T (Obj.mapFields (·.setIfInBounds 3 ((none : Option Addr).elim Value.none fun f => rawInt f)))).get? b = s.heap.get? b := fun b hb => Heap.get?_update_other _ _ (Ne.symm hb)
  refine wpAny_setField hT hdT h3z (h _ (.all fun b o e1 n => (oth b fun z => n (by simp [z])).trans e1) ⟨oe, vs, _, _, (oth e (Ne.symm hTe)).trans he, hc, hd, h1, h2, hTe, Heap.get?_update_self _ hT (Obj.isFreed_of_fields (Obj.data_mapFields hdT _)), Obj.data_mapFields hdT _, by simp [h3z]⟩)
theorem leave_next (hfr : A.frames = some (env :: outer)) (hl : s.heap.FunFrames base (env :: outer)) (hf : env.frame = some L) (x : Exc e T C .none s.heap)
    (h : ∀ h' T', Kp (frs (env :: outer)) [e, T] s.heap h' → Exc e T' C .none h' → s.heap.get? T' = none → Q () { s with heap := h' }) : wpAny M A (leaving env (.ref e)) Q E s := by
  unfold leaving
  refine wpAny_bind (note_next hfr hl hf x fun h' T' k x' n => land x' fun h2 k2 x2 => h h2 T' ?_ x2 n)
  have k2' : Kp (frs (env :: outer)) [e, T, T'] h' h2 := k2.mono (by simp) (by simp)
  exact ((k.mono (fun _ z => z) (by simp)).trans k2').drop (by intro b hb; simp at hb ⊢; rcases hb with rfl | rfl | rfl; exact .inl (.inl rfl); exact .inl (.inr rfl); exact .inr n)
theorem leave_first {h0 : Heap} {args : List Value} (hfr : A.frames = some (env :: outer)) (hl : h0.FunFrames base (env :: outer)) (hf : env.frame = some L) (mk : Heap.MadeExcOf h0 s.heap e (.ref C) args)
    (h : ∀ h' T', Kp (frs (env :: outer)) [] h0 h' → Exc e T' C .none h' → h0.get? T' = none → Q () { s with heap := h' }) : wpAny M A (leaving env (.ref e)) Q E s := by
  obtain ⟨t, he, _, _⟩ := mk.there
  unfold leaving
  refine wpAny_bind (note_first hfr (hl.of_keeps fun b o hb _ => ⟨o, mk.keeps b o hb, rfl⟩) hf he rfl rfl rfl rfl fun h' T' k x' n => land x' fun h2 k2 x2 => ?_)
  have n0 : h0.get? T' = none := by
    cases q : h0.get? T' with
    | none => rfl
    | some o => rw [mk.keeps _ _ q] at n; cases n
  refine h h2 T' ?_ x2 n0
  have k0 : Kp (frs (env :: outer)) [e, T'] h0 s.heap := .all fun b o e1 _ => mk.keeps b o e1
  refine ((k0.trans (k.mono (fun _ z => z) (by simp))).trans (k2.mono (by simp) (by simp))).drop ?_
  intro b hb; simp at hb; rcases hb with rfl | rfl
  · exact .inr mk.new
  · exact .inr n0
end
def CX1 (P : Program) (w : World) : CXT := fun outer H s E v s' => ∃ e T C H', v = .ref e ∧ s'.os = s.os ∧ AllBare s'.gens ∧ Un (frs outer) [] H H' s.heap s'.heap ∧ HOk P w H' s'.heap ∧ Exc e T C .none s'.heap ∧ H' e = none ∧ H' T = none ∧ s.heap.get? e = none ∧ s.heap.get? T = none ∧ E (.ref C) none H'
def Throws (X : Cx) (E : XK) : Prop := ∀ (pins : List (Addr × Obj)) (σ : St) (H : Hp) (s : Shared) (e C : Addr) (args : List Value) (h' : Heap), Inv X pins σ H s → Heap.MadeExcOf s.heap h' e (.ref C) args → E (.ref C) none H → X.xe (.ref e) { s with heap := h' }
theorem HOk.none {P : Program} {w : World} {H : Hp} {h : Heap} {b : Addr} (hok : HOk P w H h) (n : h.get? b = none) : H b = none := by
  cases q : H b with
  | none => rfl
  | some u =>
    obtain ⟨o, e1⟩ := (hok b u q).there
    rw [n] at e1; cases e1
section
variable {P : Program} {w : World} {K : PySem.W.Frag} {mg : Str → Option Value} {base : Heap} {N : List Str} {qual : Str} {scope : Scope} {f : Addr} {cd : Value} {A : Around} {outer : List Env} {s₀ : Shared} {H₀ : Hp} {E : XK}
theorem none_back {X : Cx} {pins : List (Addr × Obj)} {σ : St} {H : Hp} {s : Shared} (I : Inv X pins σ H s) (hx : X.ex = []) {b : Addr} (e : s.heap.get? b = none) : X.s₀.heap.get? b = none := by
  cases q : X.s₀.heap.get? b with
  | none => rfl
  | some o =>
    obtain ⟨o', z⟩ := I.base.there b o q (by rw [hx]; simp)
    rw [e] at z; cases z
theorem frs_cons {env : Env} {outer : List Env} {L : Addr} (h : env.frame = some L) : frs (env :: outer) = L :: frs outer := by simp [frs, h]
theorem un_leave {X : Cx} {pins : List (Addr × Obj)} {σ : St} {H : Hp} {s : Shared} {h' : Heap} {xs : List Addr} (I : Inv X pins σ H s) (hx : X.ex = []) (hs : X.stack = X.env :: X.outer) (hf : X.env.frame = some X.env.locals)
    (un : Un (frs X.stack) xs H H s.heap h') (h0 : ∀ b ∈ xs, X.s₀.heap.get? b = none) : Un (frs X.outer) [] X.H₀ H X.s₀.heap h' := by
  have nex : ∀ b, b ∉ X.ex := fun b => by rw [hx]; simp
  have nxs : ∀ b o, X.s₀.heap.get? b = some o → b ∉ xs := fun b o e z => by rw [h0 b z] at e; cases e
  have nL : ∀ b o, X.s₀.heap.get? b = some o → b ≠ X.env.locals := fun b o e => Nat.ne_of_lt (Nat.lt_of_lt_of_le (Heap.lt_size e) I.ok.above)
  have nst : ∀ b o, X.s₀.heap.get? b = some o → b ∉ frs X.outer → b ∉ frs X.stack := fun b o e n z => by
    rw [hs, frs_cons hf] at z
    exact (List.mem_cons.mp z).elim (nL b o e) n
  have ist : ∀ b, b ∈ frs X.outer → b ∈ frs X.stack := fun b z => by rw [hs, frs_cons hf]; exact .tail _ z
  refine ⟨fun b o e n hb _ => un.keep b o (I.base.keep b o e n hb (nex b)) (I.base.free b o e n (nex b)) (nst b o e hb) (nxs b o e), fun b o e n hb _ => ?_, fun b o e n _ => I.base.free b o e n (nex b), fun b o e _ => ?_, I.base.tups, I.base.frzs, I.base.tbls⟩
  · obtain ⟨s1, e1⟩ := I.base.slot b o e n hb (nex b)
    obtain ⟨s2, e2⟩ := un.slot b _ e1 (I.base.free b o e n (nex b)) (ist b hb) (nxs b o e)
    exact ⟨s2, e2⟩
  · obtain ⟨o', e1⟩ := I.base.there b o e (nex b)
    exact un.there b o' e1 (nxs b o e)
theorem two {p : Addr → Prop} {a b : Addr} (h1 : p a) (h2 : p b) : ∀ c ∈ [a, b], p c := by
  intro c hc
  rcases List.mem_cons.mp hc with rfl | hc
  · exact h1
  · rw [List.mem_singleton.mp hc]; exact h2
theorem passes1 : Passes (CX1 P w) (cxOf (CX1 P w) P w K mg base N qual scope f cd A outer s₀ H₀ E) E := by
  intro pins σ H s v s' I h
  obtain ⟨e, T, C, H', rfl, os, bare, un, hok, x, fe, fT, ne, nT, q⟩ := h
  have J := I.call' (ch := []) os un hok bare fun b z => absurd z (by simp)
  refine leave_next (env := envOfC qual scope s₀.heap.objs.size f cd) (outer := outer) J.ok.frames J.stack rfl x fun h' T' k x' nT' => ?_
  obtain ⟨un', hok'⟩ := k.un J.hok J.stkFree (two fe fT)
  exact ⟨e, T', C, H', rfl, J.os, J.bare, un_leave J rfl rfl rfl un' (two (none_back I rfl ne) (none_back I rfl nT)), hok', x', fe, J.hok.none nT', none_back I rfl ne, none_back J rfl nT', q⟩
theorem throws1 : Throws (cxOf (CX1 P w) P w K mg base N qual scope f cd A outer s₀ H₀ E) E := by
  intro pins σ H s e C args h' I mk q
  refine leave_first (h0 := s.heap) (env := envOfC qual scope s₀.heap.objs.size f cd) (outer := outer) I.ok.frames I.stack rfl mk fun h2 T' k x' nT' => ?_
  obtain ⟨un', hok'⟩ := k.un I.hok I.stkFree (fun b hb => by cases hb)
  exact ⟨e, T', C, H, rfl, I.os, I.bare, un_leave I rfl rfl rfl un' (fun b hb => by cases hb), hok', x', I.hok.none mk.new, I.hok.none nT', none_back I rfl mk.new, none_back I rfl nT', q⟩
end
end L2
set_option maxHeartbeats 1000000
namespace L2
open PySem PySem.Spec PyProof.Rows
section
variable {X : Cx} {e : Expr} {es : List Expr} {n k : Nat} {pos p : Pos} {x : Str}
end
def veb : List Value := [.type "ValueError", .type "Exception", .type "BaseException", .type "object"]
theorem exc_obj {K : PySem.W.Frag} {h : Heap} {C : Addr} {bmB : List Value} {newId : String} (X : K.In h) (q : PySem.W.excIn K C bmB newId = true) :
    ∃ bm N nm qn bs hdct sn sub ab col dd k0 k1 k2 k3 k5 mN, h.get? C = some (excClassObj nm qn C N bs bm hdct sn sub ab col dd k0 k1 k2 k3 k5 newId) ∧ h.Ns N mN ∧ mN "__init__" = none ∧ OwnTail h bmB bm := by
  unfold PySem.W.excIn at q
  split at q
  · rename_i dd cd sl ho
    split at q
    · rename_i C' bm k0 k1 k2 k3 n k5 hm hs
      simp only [Bool.and_eq_true, beq_iff_eq, Bool.not_eq_true'] at q
      obtain ⟨⟨⟨⟨⟨rfl, rfl⟩, hdel⟩, ht⟩, hok⟩, hni⟩ := q
      obtain ⟨nm, bs, mro, ns, qn, hd, sn, sub, ab, col, del⟩ := cd
      dsimp only at hm hdel hok hni
      subst hm hdel
      have hsl : sl = #[k0, k1, k2, k3, some (.builtin n), k5] := by
        obtain ⟨l⟩ := sl
        simp only at hs
        rw [hs]
      subst hsl
      exact ⟨bm, ns, nm, qn, bs, hd, sn, sub, ab, col, dd, k0, k1, k2, k3, k5, _, X _ _ ho, .of_isNs (PySem.W.isNs_of_in X hok), PySem.W.nsMap_none_of_in X hok hni, PySem.W.tail_of_in X ht⟩
    · cases q
  · cases q
section
variable {X : Cx} {x : Str} {C : Addr} {e : Expr} {es : List Expr} {t : TA} {np cpos pos : Pos} {E : XK}
def tRaise (E : XK) (C : Addr) (t : TA) : TS := fun _ σ H => t σ H fun vs H1 => vs.length ≤ 1000 ∧ E (.ref C) none H1
theorem ps_raise (hx : Throws X E) (hc : X.calm = true) (hg : Gl X x) (hm : X.mg x = some (.ref C)) (q : PySem.W.excIn X.K C veb "ValueError.__new__" = true) (ha : PA X (e :: es) t)
    (hdb : (x == ("__debug__" : Str)) = false := by decide) (he : starEach (e :: es) X.env = (false, eval e X.env) :: starEach es X.env := by rfl) (hpl : (backTo cpos (starEach es X.env)).any (·.1) = false := by rfl) :
    PS X (.Raise (some (.Call (.Name x np) (e :: es) [] cpos)) none pos) (tRaise E C t) := by
  intro pins s σ H D I h
  obtain ⟨bm, N, nm, qn, bs, hdct, sn, sub, ab, col, dd, k0, k1, k2, k3, k5, mN, hC, hN, hni, T⟩ := exc_obj I.mod.kin q
  refine wpAny_Raise_call_subT (C := C) (nm := nm) (q := qn) (N := N) (bs := bs) (bm := bm) (hdct := hdct) (sn := sn) (sub := sub) (ab := ab) (col := col) (dd := dd) (k0 := k0) (k1 := k1) (k2 := k2) (k3 := k3) (k5 := k5)
    PySem.F.excBase_ValueError (mN := mN) (T.hasType PySem.F.excBase_ValueError.hasBase) (I.ok.hd hc) (by rw [he]; show (false || (backTo cpos (starEach es X.env)).any (·.1)) = false; rw [hpl]; rfl) hni (ld_glob I hg hm ⟨rfl, ?_⟩ hdb)
  have hA := ha cpos pins s σ H _ I h
  rw [he] at hA ⊢
  refine Calls.evalArgs_plain (thn hA fun us s1 ⟨vs, H1, I1, r, z, q1⟩ => ?_)
  exact ⟨rfl, Nat.le_trans (by rw [← r.length]; exact z) (by decide), I1.bk _ _ hC, hN.keeps I1.bk, T.keeps I1.bk, fun h' ea mk => hx pins σ H1 s1 ea C us h' I1 mk q1⟩
end
end L2
set_option maxHeartbeats 1000000
namespace L2
open PySem PySem.Spec PyProof.Rows
def Quiet (e : Addr) (h : Heap) : Prop := ∃ oe vs, h.get? e = some oe ∧ oe.data = .fields vs ∧ vs[2]? = some .none
theorem entry_unchain : entryFor table "proto.unchain" = some Builtin.«proto.unchain» := entryFor_of_tree (by kernel_rfl)
section
variable {prog : Program} {w : World} {A : Around} {E : Value → Shared → Prop} {s : Shared}
theorem raiseNew_h {α : Type} {a e : Addr} {oa : Obj} {va : Array Value} {Q : α → Shared → Prop} (hh : A.handled = some (.ref e)) (hq : Quiet e s.heap) (ha : s.heap.get? a = some oa) (hd : oa.data = .fields va) (hz : 2 < va.size) (hne : e ≠ a)
    (h : E (.ref a) { s with heap := s.heap.update a (Obj.mapFields (·.setIfInBounds 2 (.ref e))) }) : wpAny (model prog w) A (raiseNew (.ref a) : Sem α) Q E s := by
  obtain ⟨oe, vs, he, hde, h2⟩ := hq
  unfold raiseNew
  refine wpAny_bind (wpAny_handled ?_)
  rw [hh]
  have hb : (Value.ref e != Value.ref a) = true := by
    simp only [bne_iff_ne, ne_eq]
    intro z; cases z; exact hne rfl
  simp only [hb, if_true]
  refine wpAny_bind (wpAny_holding (wpAny_runValue (codeAny_builtin entry_unchain ?_)))
  unfold Builtin.«proto.unchain»
  refine wpAny_bind (wpAny_field he hde h2 ?_)
  rw [if_pos (by decide)]
  refine wpAny_pure ?_
  show wpAny _ _ (do updateField a 2 (Value.ref e); throw (Value.ref a)) _ _ _
  refine wpAny_bind ?_
  unfold updateField
  refine wpAny_bind (wpAny_load ha ?_)
  simp only [hd, hz, if_true]
  refine wpAny_update ha ?_
  exact wpAny_throw h
theorem Quiet.keeps {e : Addr} {h h' : Heap} (q : Quiet e h) (k : ∀ o, h.get? e = some o → h'.get? e = some o) : Quiet e h' :=
  let ⟨oe, vs, h1, h2, h3⟩ := q; ⟨oe, vs, k _ h1, h2, h3⟩
theorem next_end_h {it l e : Addr} {i : Nat} {items : Array Value} {Q : Option Value → Shared → Prop} (hh : A.handled = some (.ref e)) (hq : Quiet e s.heap) (hne : e ≠ it)
    (hit : s.heap.IsListIter it l i) (hl : s.heap.IsList l items) (hx : items[i]? = none)
    (hQ : ∀ h', (∀ b o, b ≠ it → s.heap.get? b = some o → h'.get? b = some o) → Q none { s with heap := h' }) : wpAny (model prog w) A (pyNext (.ref it)) Q E s := by
  obtain ⟨o, ho, hc, hd⟩ := id hit
  obtain ⟨ol, hol, _, nl, hdl⟩ := hl
  unfold pyNext
  refine wpAny_bind (wpAny_attempt (wpAny_callSpecial?_slot (name := Str.ofString "__next__") hit.typeIs slot_listiter_next
    (wpAny_call_entry slot_listiter_next hit.typeIs entry_listiter_next ?_ (args_listiter_next _))))
  show wpAny _ _ (field (.ref it) 0 >>= _) _ _ s
  refine wpAny_bind (wpAny_field ho hd (x := .ref l) rfl ?_)
  show wpAny _ _ (if (Value.ref l == Value.none) = true then _ else _) _ _ s
  rw [if_neg (show ¬ ((Value.ref l == Value.none) = true) from Bool.false_ne_true)]
  show wpAny _ _ (field (.ref it) 1 >>= _) _ _ s
  refine wpAny_bind (wpAny_field ho hd (x := .int i 0) rfl ?_)
  show wpAny _ _ (seqItems? (.ref l) >>= _) _ _ s
  refine wpAny_bind (wpAny_seqItems hol hdl ?_)
  simp only [Int.toNat_natCast, hx]
  refine wpAny_bind (wpAny_rule (wpAny_bind (wpAny_setField ho hd (by simp) ?_)))
  show wpAny _ _ (newExc (.type "StopIteration") [] >>= _) _ _ _
  refine wpAny_bind ?_
  simp only [newExc, newTuple]
  refine wpAny_bind (wpAny_newObj_type ?_ (by size_fits))
  refine wpAny_bind (m := firstArgMember _ _) (wpAny_of_eq (a := Value.none) (by first | rfl | (simp only [firstArgMember]; rfl)) ?_)
  refine wpAny_newObj_type ?_ (by size_fits)
  generalize hg : s.heap.update it _ = g
  have kg : ∀ b o, b ≠ it → s.heap.get? b = some o → g.get? b = some o := fun b o n e1 => by subst hg; rw [Heap.get?_update_other _ _ (Ne.symm n)]; exact e1
  have kp : ∀ (O1 O2 : Obj) b o, b ≠ it → s.heap.get? b = some o → ((g.push O1).push O2).get? b = some o := fun O1 O2 b o n e1 => Heap.get?_push_of_some _ (Heap.get?_push_of_some _ (kg b o n e1))
  have hgz : g.objs.size = s.heap.objs.size := by subst hg; exact Heap.size_after_update ..
  have hes : e < s.heap.objs.size := by obtain ⟨oe, _, h1, _⟩ := hq; exact Heap.lt_size h1
  refine raiseNew_h (e := e) hh (hq.keeps fun o e1 => kp _ _ e o hne e1) (Heap.get?_push_size _ rfl) rfl (by rw [Array.size_append]; exact Nat.lt_of_lt_of_le (by decide : 2 < 6) (Nat.le_add_right _ _)) (Nat.ne_of_lt (Nat.lt_of_lt_of_le hes (by show s.heap.objs.size ≤ (Heap.push g _).objs.size; rw [Heap.size_push, hgz]; exact Nat.le_succ _))) ?_
  refine wpAny_bind (wpAny_isInstance (T := "StopIteration") (b := true) ⟨_, Heap.get?_update_self _ (Heap.get?_push_size _ rfl) rfl, rfl⟩ isSubtype_stop ?_)
  refine wpAny_pure (hQ _ fun b o n e1 => ?_)
  have hb := Heap.lt_size e1
  rw [Heap.get?_update_other _ _ (Nat.ne_of_gt (Nat.lt_of_lt_of_le hb (by show s.heap.objs.size ≤ (Heap.push g _).objs.size; rw [Heap.size_push, hgz]; exact Nat.le_succ _)))]
  exact kp _ _ b o n e1
theorem walks_list_h {e : Addr} (hh : A.handled = some (.ref e)) (I ax : Addr) (hne : ax ≠ I) (hei : e ≠ I) (items : Array Value) :
    Walks prog w A I [I, ax, e] [I] items.size (fun i v => items[i]? = some v) (fun i h => h.IsListIter I ax i ∧ h.IsList ax items ∧ Quiet e h) where
  sub := fun b hb => by simp at hb; simp [hb]
  frame := fun _ _ _ st hk => ⟨st.1.at fun o e => hk I (by simp) o e, st.2.1.at fun o e => hk ax (by simp) o e, st.2.2.keeps fun o e1 => hk e (by simp) o e1⟩
  item := fun i s Q E hi st hQ => by
    refine wpAny_pyNext_list_item st.1 st.2.1 (x := items[i]) (by simp [hi]) fun h' hit' hs' => ?_
    exact hQ _ h' s.toks (by simp [hi]) ⟨hit', st.2.1.extBut hs'.extBut hne, st.2.2.keeps fun o e1 => hs'.extBut e o hei e1⟩ fun b o hb e => hs'.extBut b o (fun h => hb (by simp [h])) e
  done := fun s Q E st hQ => next_end_h hh st.2.2 hei st.1 st.2.1 (by simp) fun h' he' => hQ h' s.toks fun b o hb e1 => he' b o (fun h => hb (by simp [h])) e1
  self := fun _ _ _ _ st hQ => wpAny_pyIter_listiter st.1 hQ
end
def excO (e C : Addr) : HO := .ext fun h => ∃ oe vs, h.get? e = some oe ∧ oe.cls = .ref C ∧ oe.data = .fields vs ∧ vs[2]? = some .none
theorem excO_ok {P : Program} {w : World} {H : Hp} {h : Heap} {e T C : Addr} {fl : Value} (x : Exc e T C fl h) : ObjOk P w H h e (excO e C) := by
  obtain ⟨oe, vs, _, _, h1, h2, h3, _, h4, _⟩ := x
  exact ⟨⟨oe, vs, h1, h2, h3, h4⟩, ⟨oe, h1⟩, fun a b ⟨o, v, e1, r⟩ k => ⟨o, v, k o e1, r⟩⟩
section
variable {X : Cx}
theorem call_any_h {e : Addr} (hA : X.A.handled = some (.ref e)) : CallR X (.builtin "any") (fun xs H Q => ∃ (a C : Addr) (bs : List Bool), xs = [.ref a] ∧ SqL X.K H a (bs.map V.bl) ∧ H e = some (excO e C) ∧ Q (.bl (bs.any id)) H) := by
  intro pins s σ H xs us Q I r h
  obtain ⟨a, C, bs, rfl, hs, he, q⟩ := h
  obtain ⟨u, rfl, ru⟩ := vals1 r
  cases ru
  obtain ⟨its, rv, p, hz⟩ := I.list hs
  have hlt : a < s.heap.objs.size := by obtain ⟨_, e, _⟩ := p.isList; exact Heap.lt_size e
  obtain ⟨⟨oe, vs, e1, e2, e3, e4⟩, _⟩ := (show ObjOk X.prog X.w H s.heap e (excO e C) from I.hok e _ he)
  have hle := Heap.lt_size e1
  have W := walks_list_h (prog := X.prog) (w := X.w) (A := X.A.in1) hA s.heap.objs.size a (Nat.ne_of_lt hlt) (Nat.ne_of_lt hle) its.toArray
  refine call_any_walk (wpAny_pyIter_list p.isList ⟨_, _, _, _, _, _, fun i => (bs[i]?).getD false, rfl, W, ⟨⟨_, Heap.get?_push_size _ rfl, rfl, rfl⟩, p.isList.push _, oe, vs, Heap.get?_push_of_some _ e1, e3, e4⟩, fun i v s' Q' E' hP hQ => ?_, fun h' tk hk => ?_⟩)
  · obtain ⟨b, e, rfl⟩ := bl_at (vals_at rv (by simpa using hP))
    simp only [e, Option.getD_some] at hQ
    exact wpAny_truthy_bool hQ
  · rw [show its.toArray.size = (bs.map V.bl).length by rw [List.size_toArray, rv.length], List.length_map, LSm.range_any]
    exact ⟨.bl _, H, I.kept (src_keep hk), rfl, q⟩
end
end L2
set_option maxHeartbeats 2000000
namespace L2
open PySem PySem.Spec PyProof.Rows
structure ExcTy (K : PySem.W.Frag) (C : Addr) : Prop where
  ga : PySem.W.findIn K (.ref C) "__getattribute__" = some (some (.builtin "BaseException.__getattribute__"))
  ka : PySem.W.findIn K (.ref C) "__getattr__" = some none
  ha : PySem.W.findIn K (.ref C) "__class__" = some (some (.builtin "object.__class__"))
  hm : PySem.W.mroIn K C (.type "object") = some true
  hb : PySem.W.mroIn K C (.type "BaseException") = some true
def ExcAt (e C : Addr) (h : Heap) : Prop := ∃ o, h.get? e = some o ∧ o.cls = .ref C
theorem excAt_ty {e C : Addr} (M : Model) (h : Heap) (p : ExcAt e C h) : PySem.W.Looks M h (typeOf (.ref e)) (.ref C) := by
  obtain ⟨o, h1, h2⟩ := p
  exact h2 ▸ (PySem.W.Looks.ld h1).andThen .now
section
open PySem.W PySem.Builtin PySem.Builtin.ObjectAttr PySem.Builtin.Getset_descriptor
variable {prog : Program} {w : World} {K : Frag} {A : Around} {E : Value → Shared → Prop} {h : Heap} {g : Array GenState} {d : Drawn} {t : Nat} {os : OsState} {e C : Addr}
theorem exc_check {M : Model} {nameV : Value} {Q : Unit → Shared → Prop} (Y : ExcTy K C) (X : K.In h) (p : ExcAt e C h) (hq : Q () ⟨h, g, d, t, os⟩) : wpAny M A (checkBuiltinCall "BaseException.__getattribute__" ⟨[.ref e, nameV], []⟩) Q E ⟨h, g, d, t, os⟩ := by
  have hk : builtinKind "BaseException.__getattribute__" = some .slot := by decide +kernel
  have hsplit : splitId "BaseException.__getattribute__" = some ("BaseException", "__getattribute__") := by decide +kernel
  have L0 := excAt_ty M h p
  have L1 := looks_mroIn (M := M) X Y.hb
  have ha := F.args_bexc_ga (.ref e) nameV
  simp only [checkBuiltinCall, hk, hsplit]
  refine wpAny_bind ?_
  unfold isInstance
  refine wpAny_bind (L0.at (L1.at ?_))
  repeat (any_goals (first | assumption | lk | wp_step))
theorem exc_get {R : Result → Shared → Prop} (Y : ExcTy K C) (X : K.In h) (p : ExcAt e C h) (hq : R (.ok (.ret (.ref C))) ⟨h, g, d, t, os⟩) :
    codeAny (model prog w) A (.call (.builtin "getset_descriptor.__get__") ⟨[.builtin "object.__class__", .ref e, .ref C], []⟩) R ⟨h, g, d, t, os⟩ := by
  have L0 := excAt_ty (model prog w) h p
  have L1 := looks_mroIn (M := model prog w) X Y.hm
  refine codeAny_call_builtin KF.slot_gs.plain KF.entry_gs (KF.slot_gs.check _ _ _ _ _ _ _ _ KF.type_class (KF.args_gs _ _ _) ?_)
  unfold Builtin.«getset_descriptor.__get__» descrGet
  rw [dga_obj]
  refine wpAny_bind (wpAny_pure ?_)
  unfold descrGetter descrCheckInstance descrNameAndClass isInstance
  simp only [KF.owner_class]
  repeat lk
  refine ⟨Code.quiet_builtin _ (by decide +kernel), codeAny_builtin KF.entry_class ?_⟩
  unfold Builtin.«object.__class__» shownTypeOf
  repeat lk
  exact hq
theorem exc_entry {tk : Tok} {Q : Fin → Shared → Prop} (Y : ExcTy K C) (X : K.In h) (p : ExcAt e C h) (hq : Q (.done (.ret (.ref C))) ⟨h, g, d, t, os⟩) :
    wpAny (model prog w) A (Builtin.«object.__getattribute__» ⟨[.ref e, .str "__class__" tk], []⟩) Q E ⟨h, g, d, t, os⟩ := by
  have L0 := excAt_ty (model prog w) h p
  have L1 := looks_findIn (M := model prog w) X Y.ha
  have hT5 : (⟨h, g, d, t, os⟩ : Shared).TypeIs (.builtin "object.__class__") "getset_descriptor" := F.typeOf_object_class
  have f5 := F.typeOf_object_class
  have f6 := F.slot_gs_get.lookup
  have f7 := F.slot_gs_set.lookup
  repeat (any_goals (first | assumption | with_reducible refine L0.at ?_ | with_reducible refine L1.at ?_ | wp_step))
  refine exc_get Y X p ?_
  repeat (any_goals (first | assumption | wp_step))
theorem exc_by {tk : Tok} {Q : Value → Shared → Prop} (Y : ExcTy K C) (X : K.In h) (p : ExcAt e C h) (hq : Q (.ref C) ⟨h, g, d, t, os⟩) : wpAny (model prog w) A (getAttrBy (.ref e) (.str "__class__" tk) false) Q E ⟨h, g, d, t, os⟩ := by
  have L0 := excAt_ty (model prog w) h p
  have L1 := looks_findIn (M := model prog w) X Y.ga
  have L2 := looks_findIn (M := model prog w) X Y.ka
  have f3 := F.excAttr_ValueError.ga.bind (.ref e)
  have hx2 : (Value.builtin "BaseException.__getattribute__" == Value.builtin "object.__getattribute__") = false := by decide +kernel
  have hx1 : (onTheHeap (Value.ref C) && Value.builtin "BaseException.__getattribute__" == Value.builtin "object.__getattribute__") = false := by rw [hx2]; rfl
  repeat (any_goals (first | assumption | with_reducible refine L0.at ?_ | with_reducible refine L1.at ?_ | with_reducible refine L2.at ?_ | wp_step))
  refine codeAny_call_builtin F.excAttr_ValueError.ga.plain F.entry_bexc_ga (exc_check Y X p (exc_entry Y X p ?_))
  repeat (any_goals (first | assumption | wp_step))
theorem exc_attr {Q : Option Value → Shared → Prop} (Y : ExcTy K C) (X : K.In h) (p : ExcAt e C h) (hq : Q (some (.ref C)) ⟨h, g, d, t + 1, os⟩) : wpAny (model prog w) A (getAttr? (.ref e) "__class__") Q E ⟨h, g, d, t, os⟩ := by
  unfold getAttr? getAttrBy?
  repeat (any_goals (first | assumption | with_reducible apply exc_by Y X p | wp_step))
theorem kitx_exc (Y : ExcTy K C) : KitX K (.ref e) (.ref C) (ExcAt e C) where
  ty := fun M h _ p => excAt_ty M h p
  it := fun _ _ X _ => by
    obtain ⟨cd, hc, _⟩ := Option.bind_eq_some_iff.mp Y.hm
    unfold clsIn at hc
    split at hc
    · rename_i c' d' cd' sl' ho
      intro A' Q' E' s' k q
      unfold isType loadHead
      exact wpAny_bind (wpAny_loadPart (k _ _ (X _ _ ho)) (wpAny_pure q))
    · cases hc
  ne := fun h tp dd its n sl X htp => by
    obtain ⟨cd, hc, _⟩ := Option.bind_eq_some_iff.mp Y.hm
    refine Bool.eq_false_iff.mpr fun q => ?_
    have z : C = tp := Value.ref.inj (beq_iff_eq.mp q)
    subst z
    unfold clsIn at hc
    split at hc
    · rename_i c' d' cd' sl' ho
      have z := (X _ _ ho).symm.trans htp
      cases z
    · cases hc
  ca := fun {prog w A E Q s} X p k => by obtain ⟨h, g, d, t, os⟩ := s; exact exc_attr Y X p k
end
section
variable {X : Cx}
theorem call_isinst_excC : CallR X (.builtin "isinstance") (fun xs H Q => ∃ (e C D : Addr) (b : Bool), xs = [.ref e, .ref D] ∧ H e = some (excO e C) ∧ ExcTy X.K C ∧ PySem.W.kitOne X.K (.ref C) (.ref D) = some b ∧ Q (.bl b) H) := by
  intro pins s σ H xs us Q I r h
  obtain ⟨e, C, D, b, rfl, he, Y, hk, q⟩ := h
  obtain ⟨u, v, rfl, ru, rv⟩ := r.two
  cases ru
  cases rv
  obtain ⟨⟨oe, vs, e1, e2, e3, e4⟩, _⟩ := (show ObjOk X.prog X.w H s.heap e (excO e C) from I.hok e _ he)
  exact PySem.W.kia_one (kitx_exc Y) I.kIn ⟨oe, e1, e2⟩ hk (fun z => nomatch z) fun tk => ⟨.bl b, H, I.tok tk, rfl, q⟩
theorem call_isinst_excT : CallR X (.builtin "isinstance") (fun xs H Q => ∃ (e C : Addr) (n : String) (b : Bool), xs = [.ref e, .ty n] ∧ H e = some (excO e C) ∧ ExcTy X.K C ∧ PySem.W.kitOne X.K (.ref C) (.type n) = some b ∧ Q (.bl b) H) := by
  intro pins s σ H xs us Q I r h
  obtain ⟨e, C, n, b, rfl, he, Y, hk, q⟩ := h
  obtain ⟨u, v, rfl, ru, rv⟩ := r.two
  cases ru
  cases rv
  obtain ⟨⟨oe, vs, e1, e2, e3, e4⟩, _⟩ := (show ObjOk X.prog X.w H s.heap e (excO e C) from I.hok e _ he)
  exact PySem.W.kia_one (kitx_exc Y) I.kIn ⟨oe, e1, e2⟩ hk (fun z => nomatch z) fun tk => ⟨.bl b, H, I.tok tk, rfl, q⟩
end
end L2
set_option maxHeartbeats 1000000
namespace L2
open PySem PySem.Spec PyProof.Rows
section
variable {X : Cx} {pins : List (Addr × Obj)} {σ : St} {H : Hp} {s : Shared} {h' : Heap} {e T C : Addr} {fl : Value}
theorem Inv.locNe (I : Inv X pins σ H s) {b : Addr} {o : Obj} {vs : Array Value} (e1 : s.heap.get? b = some o) (e2 : o.data = .fields vs) : b ≠ X.env.locals := by
  rintro rfl
  obtain ⟨m, ⟨ol, es, ep, ho, hd, _⟩, _⟩ := I.loc
  rw [e1] at ho; cases ho
  rw [e2] at hd; cases hd
theorem Inv.celNe (I : Inv X pins σ H s) {b : Addr} {o : Obj} {vs : Array Value} (e1 : s.heap.get? b = some o) (e2 : o.data = .fields vs) : ∀ x c, X.env.cells.lookup x = some c → c ≠ b := fun x c hc z => by
  subst z
  obtain ⟨v, oc, ho, hd⟩ := I.cell x c hc
  rw [e1] at ho; cases ho
  rw [e2] at hd; cases hd
theorem Inv.kp {t' : Nat} {xs : List Addr} (I : Inv X pins σ H s) (hx : X.ex = []) (hs : X.stack = X.env :: X.outer) (hf : X.env.frame = some X.env.locals) (k : Kp (frs X.stack) xs s.heap h') (fx : ∀ b ∈ xs, H b = none) (h0 : ∀ b ∈ xs, X.s₀.heap.get? b = none)
    (hr : ∀ b ∈ xs, ∀ o, s.heap.get? b = some o → ∃ vs, o.data = .fields vs) (hp : ∀ p ∈ X.pn ++ pins, p.1 ∉ xs) : Inv X pins σ H { s with heap := h', toks := t' } := by
  obtain ⟨un, hok⟩ := k.un I.hok I.stkFree fx
  have nx : ∀ b o, s.heap.get? b = some o → (∀ vs, o.data ≠ .fields vs) → b ∉ xs := fun b o e1 nf z => by
    obtain ⟨vs, q⟩ := hr b z o e1
    exact nf vs q
  have cell : ∀ c v, s.heap.IsCell c v → h'.IsCell c v := fun c v ⟨oc, ho, hd⟩ => by
    obtain ⟨sl, z⟩ := k.slot c oc ho (nx c oc ho fun vs q => by rw [hd] at q; cases q)
    exact ⟨_, z, hd⟩
  obtain ⟨m, ⟨ol, es, ep, ho, hd, r⟩, hl⟩ := id I.loc
  obtain ⟨sl, hL⟩ := k.slot _ ol ho (nx _ ol ho fun vs q => by rw [hd] at q; cases q)
  refine ⟨I.ok, I.os, I.bare, ?_, ⟨m, ⟨_, es, ep, hL, hd, r⟩, fun i x v a1 a2 a3 => ?_⟩, fun x c hc => ?_, I.free, I.freeC, fun p hpp => ?_, hok, I.len⟩
  · rw [hx]; exact un_leave I hx hs hf un h0
  · obtain ⟨u, ru, q⟩ := hl i x v a1 a2 a3
    refine ⟨u, ru, ?_⟩
    rcases q with q | ⟨q, c, e1, e2⟩
    · exact .inl q
    · exact .inr ⟨q, c, e1, cell c _ e2⟩
  · obtain ⟨v, q⟩ := I.cell x c hc
    exact ⟨v, cell c v q⟩
  · obtain ⟨a1, a2, a3, a4, a5⟩ := I.pin p hpp
    refine ⟨k.keep _ _ a1 (fun z => ?_) (hp p hpp), a2, a3, a4, a5⟩
    rw [hs, frs_cons hf] at z
    exact (List.mem_cons.mp z).elim a3 a4
theorem Inv.track (I : Inv X pins σ H s) (hx : X.ex = []) (x : Exc e T C fl s.heap) (fe : H e = none) (e0 : X.s₀.heap.get? e = none) (hp : ∀ p ∈ X.pn ++ pins, p.1 ≠ e) : Inv X pins σ (upd H e (excO e C)) s := by
  obtain ⟨oe, vs, oT, ts, h1, h2, h3, _⟩ := id x
  have ne : ∀ b u, H b = some u → b ≠ e := fun b u q z => by rw [z, fe] at q; cases q
  refine ⟨I.ok, I.os, I.bare, ⟨I.base.keep, I.base.slot, fun b o a1 a2 a3 => ?_, I.base.there, fun b xs q => ?_, fun b o u q => ?_, fun b ps q => ?_⟩, I.loc, I.cell, ?_, fun y c hc => ?_, fun p hpp => ?_, fun a o q => ?_, I.len⟩
  · rw [upd_ne (fun z => by rw [z, e0] at a1; cases a1)]; exact I.base.free b o a1 a2 a3
  · have := I.base.tups b xs q; rw [upd_ne (ne _ _ this)]; exact this
  · have := I.base.frzs b o u q; rw [upd_ne (ne _ _ this)]; exact this
  · obtain ⟨more, this⟩ := I.base.tbls b ps q; exact ⟨more, by rw [upd_ne (ne _ _ this)]; exact this⟩
  · rw [upd_ne (Ne.symm (I.locNe h1 h3))]; exact I.free
  · rw [upd_ne (I.celNe h1 h3 y c hc)]; exact I.freeC y c hc
  · obtain ⟨a1, a2, a3⟩ := I.pin p hpp
    exact ⟨a1, by rw [upd_ne (hp p hpp)]; exact a2, a3⟩
  · by_cases ha : a = e
    · subst ha
      rw [upd_same] at q; cases q
      exact excO_ok x
    · rw [upd_ne ha] at q
      exact (I.hok a o q).stay (fun _ _ _ z => z) (fun b z => by rw [upd_ne (ne _ _ z)]; exact z) fun b xs z => by rw [upd_ne (ne _ _ z)]; exact z
theorem Inv.gone {i : Nat} {n : Str} {v : Option Value} {m : Str → Option Value} {t' : Nat} (I : Inv X pins σ H s) (hN : X.N.Nodup) (hi : X.N[i]? = some n) (hn : s.heap.Ns X.env.locals m)
    (hl : ∀ (i : Nat) (x : Str) (v : V), X.N[i]? = some x → σ[i]? = some (some v) → Vis X.env.scope x → ∃ u, RelV v u ∧ Look X.env s.heap m x u)
    (hn' : h'.Ns X.env.locals (fun x => if x = n then v else m x)) (hs : Heap.SameBut X.env.locals s.heap h') : Inv X pins (σ.set i none) H { s with heap := h', toks := t' } := by
  have hiσ : i < σ.length := by rw [I.len]; exact (List.getElem?_eq_some_iff.mp hi).1
  have cne := I.cne
  have lt : ∀ b o, X.s₀.heap.get? b = some o → b ≠ X.env.locals := fun b o e => Nat.ne_of_lt (Nat.lt_of_lt_of_le (Heap.lt_size e) I.ok.above)
  refine ⟨I.ok, I.os, I.bare, ⟨fun b o e n hb hx => (hs.2 b (lt b o e)).trans (I.base.keep b o e n hb hx), fun b o e n hb hx => ?_, I.base.free, fun b o e hx => ?_, I.base.tups, I.base.frzs, I.base.tbls⟩, ⟨_, hn', fun j y v' e1 e2 e3 => ?_⟩, fun y c hc => ?_, I.free, I.freeC, fun p hp => ?_, fun b ob q => ?_, by simpa using I.len⟩
  · obtain ⟨sl, e1⟩ := I.base.slot b o e n hb hx
    exact ⟨sl, (hs.2 b (lt b o e)).trans e1⟩
  · obtain ⟨o', e1⟩ := I.base.there b o e hx
    exact ⟨o', (hs.2 b (lt b o e)).trans e1⟩
  · by_cases hj : j = i
    · subst hj
      rw [List.getElem?_set_self hiσ] at e2; cases e2
    · rw [List.getElem?_set_ne (Ne.symm hj)] at e2
      obtain ⟨u', r', q⟩ := hl j y v' e1 e2 e3
      refine ⟨u', r', ?_⟩
      rcases q with ⟨k, e⟩ | ⟨k, c, e, z⟩
      · refine .inl ⟨k, ?_⟩
        have : y ≠ n := fun e => hj (nodup_ix hN e1 (e ▸ hi))
        simp [this, e]
      · exact .inr ⟨k, c, e, z.sameBut hs (cne y c e)⟩
  · obtain ⟨w', z⟩ := I.cell y c hc
    exact ⟨w', z.sameBut hs (cne y c hc)⟩
  · obtain ⟨e, n, ne, nf, d⟩ := I.pin p hp
    exact ⟨(hs.2 p.1 ne).trans e, n, ne, nf, d⟩
  · refine (I.hok b ob q).stay (fun c w' hc r => (hs.2 c ?_).trans r) (fun _ r => r) fun _ _ r => r
    rintro rfl
    rcases hc with rfl | hc
    · rw [I.free] at q; cases q
    · rw [I.free] at hc; cases hc
end
abbrev Cx.inH (X : Cx) (e : Addr) : Cx := { X with A := X.A.mark (some (.ref e)), calm := false, xe := fun _ _ => False }
def TryX (X : Cx) (pins : List (Addr × Obj)) (ET : Addr → Hp → Prop) (v : Value) (s' : Shared) : Prop :=
  ∃ e T C σ' H', v = .ref e ∧ Inv X pins σ' H' s' ∧ Exc e T C .none s'.heap ∧ H' e = none ∧ H' T = none ∧ X.s₀.heap.get? e = none ∧ X.s₀.heap.get? T = none ∧ (∀ p ∈ X.pn ++ pins, p.1 ∉ [e, T]) ∧ ET C H'
abbrev Cx.tried (X : Cx) (pins : List (Addr × Obj)) (ET : Addr → Hp → Prop) : Cx := { X with pn := X.pn ++ pins, xe := TryX X pins ET }
section
variable {X : Cx} {pins ps : List (Addr × Obj)} {σ : St} {H : Hp} {s : Shared} {ET : Addr → Hp → Prop} {e : Addr}
theorem Inv.inH (I : Inv X pins σ H s) (e : Addr) : Inv (X.inH e) pins σ H s := by
  have ok := I.ok
  exact ⟨⟨ok.mod, ok.kind, ok.glob, ok.blt, ok.above, ok.inj, ok.has, ok.cab, (fun z => by cases z), ok.frames, ok.stk, ok.exf, ok.bs, ok.bsz, ok.noex, ok.exfs, ok.funs, ok.frf⟩, I.os, I.bare, I.base, I.loc, I.cell, I.free, I.freeC, I.pin, I.hok, I.len⟩
theorem Inv.outH (I : Inv (X.inH e) pins σ H s) (ok : X.Ok) : Inv X pins σ H s := ⟨ok, I.os, I.bare, I.base, I.loc, I.cell, I.free, I.freeC, I.pin, I.hok, I.len⟩
theorem Inv.tried (I : Inv X pins σ H s) (ET : Addr → Hp → Prop) : Inv (X.tried pins ET) [] σ H s := by
  have ok := I.ok
  exact ⟨⟨ok.mod, ok.kind, ok.glob, ok.blt, ok.above, ok.inj, ok.has, ok.cab, ok.hd, ok.frames, ok.stk, ok.exf, ok.bs, ok.bsz, ok.noex, ok.exfs, ok.funs, ok.frf⟩, I.os, I.bare, I.base, I.loc, I.cell, I.free, I.freeC, fun p hp => I.pin p (by simpa using hp), I.hok, I.len⟩
theorem Inv.untried (I : Inv (X.tried pins ET) ps σ H s) : Inv X pins σ H s := by
  have ok := I.ok
  exact ⟨⟨ok.mod, ok.kind, ok.glob, ok.blt, ok.above, ok.inj, ok.has, ok.cab, ok.hd, ok.frames, ok.stk, ok.exf, ok.bs, ok.bsz, ok.noex, ok.exfs, ok.funs, ok.frf⟩, I.os, I.bare, I.base, I.loc, I.cell, I.free, I.freeC, fun p hp => I.pin p (List.mem_append_left _ hp), I.hok, I.len⟩
theorem SP.untried {D : Ends} {f : Flow} (h : SP (X.tried pins ET) ps D f s) : SP X pins D f s := by
  cases f with
  | next => obtain ⟨σ', H', I, q⟩ := h; exact ⟨σ', H', I.untried, q⟩
  | brk => obtain ⟨σ', H', I, q⟩ := h; exact ⟨σ', H', I.untried, q⟩
  | cont => obtain ⟨σ', H', I, q⟩ := h; exact ⟨σ', H', I.untried, q⟩
  | ret u => obtain ⟨v, σ', H', I, r, q⟩ := h; exact ⟨v, σ', H', I.untried, r, q⟩
def EX (ET : Addr → Hp → Prop) : XK := fun c _ H' => ∃ C, c = .ref C ∧ ET C H'
theorem passesT (hx : X.ex = []) : Passes (CX1 X.prog X.w) (X.tried pins ET) (EX ET) := by
  intro ps σ H s v s' I h
  obtain ⟨e, T, C, H', rfl, os, bare, un, hok, x, fe, fT, ne, nT, C', hC, q⟩ := h
  cases hC
  have J := I.call' (ch := []) os un hok bare fun b z => absurd z (by simp)
  refine ⟨e, T, C, σ, H', rfl, J.untried, x, fe, fT, none_back I hx ne, none_back I hx nT, fun p hp z => ?_, q⟩
  have := (I.untried.pin p hp).1
  rcases List.mem_cons.mp z with z | z
  · rw [z, ne] at this; cases this
  · rw [List.mem_singleton.mp z, nT] at this; cases this
end
section
variable {X : Cx} {body : List Stmt} {x n : Str} {C0 : Addr} {b₀ : Stmt} {suite : List Stmt} {np hpos pos : Pos} {tb : (Addr → Hp → Prop) → TS} {th : Addr → TS} {i : Nat}
def tTry (K : PySem.W.Frag) (C0 : Addr) (i k : Nat) (tb : (Addr → Hp → Prop) → TS) (th : Addr → TS) : TS := fun D σ H =>
  tb (fun C H' => PySem.W.exmOne K (.ref C) (.ref C0) = some true ∧ ∀ (e : Addr) (σ' : L2.St), σ'.length = k → H' e = none →
    th e { nx := fun σ2 H2 => D.nx (σ2.set i none) H2, rt := D.rt, bk := fun σ2 H2 => D.bk (σ2.set i none) H2, ct := fun σ2 H2 => D.ct (σ2.set i none) H2 } (σ'.set i (some (.ref e))) (upd H' e (excO e C))) D σ H
theorem ps_try (hex : X.ex = []) (hs : X.stack = X.env :: X.outer) (hf : X.env.frame = some X.env.locals) (hb : ∀ pins ET, PSs (X.tried pins ET) body (tb ET)) (hg : Gl X x) (hm : X.mg x = some (.ref C0)) (hN : X.N.Nodup) (hi : X.N[i]? = some n) (hl : X.env.scope.names.lookup n = some .local)
    (hh : ∀ e, PSs (X.inH e) (b₀ :: suite) (th e)) (hdb : (x == ("__debug__" : Str)) = false := by decide) :
    PS X (.Try body [.ExceptHandler (some (.Name x np)) (some n) (b₀ :: suite) hpos] [] [] pos) (tTry X.K C0 i X.N.length tb th) := by
  intro pins s σ H D I h
  refine wpAny_Try_except (wpAny_mono (hb pins _ [] s σ H D (I.tried _) h) (fun f s1 q => ?_) fun v s1 q => ?_)
  · have q := q.untried
    cases f with
    | next => exact wpAny_execs_nil q
    | brk => exact q
    | cont => exact q
    | ret u => exact q
  · obtain ⟨e, T, C, σ', H', rfl, J, xx, fe, fT, e0, T0, hp, hmt, q⟩ := q
    have stk := J.stack
    rw [hs] at stk
    have recs : ∀ {T' : Addr} {fl : Value} {h : Heap}, Exc e T' C fl h → ∀ b ∈ [e, T'], ∀ o, h.get? b = some o → ∃ vs, o.data = .fields vs := fun {T' fl h} xx b hb o ho => by
      obtain ⟨oe, vs, oT, ts, h1, h2, h3, h4, h5, h6, h7, h8, h9⟩ := xx
      rcases List.mem_cons.mp hb with z | z
      · rw [z, h1] at ho; cases ho; exact ⟨_, h3⟩
      · rw [List.mem_singleton.mp z, h7] at ho; cases ho; exact ⟨_, h8⟩
    refine note_next (by rw [← hs]; exact J.ok.frames) stk hf xx fun h1 T1 k1 x1 n1 => ?_
    rw [← hs] at k1
    have J1 := J.kp (t' := s1.toks) hex hs hf k1 (two fe fT) (two e0 T0) (recs xx) hp
    have fT1 : H' T1 = none := J.hok.none n1
    have T10 := none_back J hex n1
    have hp1 : ∀ p ∈ X.pn ++ pins, p.1 ∉ [e, T1] := fun p hpp z => by
      rcases List.mem_cons.mp z with z | z
      · exact hp p hpp (by simp [z])
      · have := (J.pin p hpp).1; rw [List.mem_singleton.mp z, n1] at this; cases this
    refine land x1 fun h2 k2 x2 => ?_
    have J2 := J1.kp (t' := s1.toks) (h' := h2) hex hs hf (xs := [e, T1]) (k2.mono (by simp) (by simp)) (two fe fT1) (two e0 T10) (recs x1) hp1
    refine wpAny_handleBy_cons (codeAny_handlers_test ((ld_glob (J2.inH e) hg hm ?_ hdb))) (by intro z; cases z)
    have hty : PySem.W.Looks (model X.prog X.w) h2 (typeOf (.ref e)) (.ref C) := by
      obtain ⟨oe, vs, oT, ts, a1, a2, _⟩ := x2
      exact excAt_ty _ _ ⟨oe, a1, a2⟩
    refine (PySem.W.exm_one J2.kIn hty hmt).here ?_
    simp only [if_true]
    refine codeAny_handlers_suite_as (land x2 fun h3 k3 x3 => ?_)
    have J3 := J2.kp (t' := s1.toks) (h' := h3) hex hs hf (xs := [e, T1]) (k3.mono (by simp) (by simp)) (two fe fT1) (two e0 T10) (recs x2) hp1
    have J4 := J3.track hex x3 fe e0 fun p hpp z => hp1 p hpp (by simp [z])
    refine store_ok (X := X.inH e) (v := .ref e) (J4.inH e) hN hi (.inl hl) rfl (fun s5 J5 => ?_) (.inr hl)
    refine wpAny_mono (hh e pins s5 _ _ _ J5 (q e σ' J4.len fe)) (fun f s6 z => ?_) fun _ _ z => False.elim z
    have fin : ∀ {σ6 : St} {H6 : Hp} {R : Prop → Prop} {Q : Flow → Shared → Prop}, Inv (X.inH e) pins σ6 H6 s6 → (∀ s7, Inv X pins (σ6.set i none) H6 s7 → Q f s7) → wpAny (model X.prog X.w) X.A (do bindName X.env n .none; unbindBehindTheSuite X.env n hpos) (fun _ s7 => Q f s7) X.xe s6 := fun {σ6 H6 R Q} J6 hQ => by
      have J6 := J6.outH J.ok
      obtain ⟨m, hn, hlo⟩ := id J6.loc
      exact wpAny_nameGoes_keeps hl hn (by rw [J.ok.kind]; rfl) fun h' v hn' hs' => hQ _ (J6.gone (t' := s6.toks + 1) hN hi hn hlo hn' hs')
    cases f with
    | next => obtain ⟨σ6, H6, J6, q6⟩ := z; exact fin (R := id) J6 fun s7 J7 => ⟨_, _, J7, q6⟩
    | brk => obtain ⟨σ6, H6, J6, q6⟩ := z; exact fin (R := id) J6 fun s7 J7 => ⟨_, _, J7, q6⟩
    | cont => obtain ⟨σ6, H6, J6, q6⟩ := z; exact fin (R := id) J6 fun s7 J7 => ⟨_, _, J7, q6⟩
    | ret u => obtain ⟨v, σ6, H6, J6, r6, q6⟩ := z; exact fin (R := id) J6 fun s7 J7 => ⟨v, _, _, J7, r6, q6⟩
end
end L2
set_option maxHeartbeats 1000000
namespace L2
open PySem PySem.Spec PyProof.Rows
theorem passF {X : Cx} {P : Program} {w : World} : Passes (CX1 P w) X E0 := fun _ _ _ _ _ _ _ ⟨_, _, _, _, _, _, _, _, _, _, _, _, _, _, z⟩ => z.elim
theorem boot_ValueError : bootBuiltins "ValueError" = some (.type "ValueError") := PyProof.Rows.Boot.«ValueError»
section
variable {P : Program} {w : World} {K : PySem.W.Frag} {mg : Str → Option Value} {base : Heap}
theorem Fun.ok1 {x qual : Str} {st : Stmt} {f : Addr} {fd : FuncData} {N ps : List Str} {k : Nat} {sp : Sp} (F : Fun K x qual st f fd) (S : FnScope N ps (defScope st)) (len : ∀ vs H Q E, sp vs H Q E → vs.length = ps.length)
    (hbody : ∀ (cdv : Value) (A : Around) (outer : List Env) (s : Shared) (H : Hp) (vs : List V) (Q : VK) (E : XK), Room k (A.deeper (envOfC qual (defScope st) s.heap.objs.size f cdv)) → sp vs H Q E →
      ∃ t, PSs (cxOf (CX1 P w) P w K mg base N qual (defScope st) f cdv A outer s H E) (defBody st) t ∧ t { nx := fun _ H' => Q .non H', rt := Q } (start N vs) H) : FnOk P w K mg base (CX1 P w) (k + 1) f fd ps sp := by
  obtain ⟨oc, od, kV, doc, pm, an, cdv, ct, osl, rfl, lk, hcd⟩ := F.ex
  refine fn_of lk hcd S len fun A outer s H vs Q E hr hsp => ?_
  exact hbody cdv A outer s H vs Q E hr hsp
end
end L2
set_option maxHeartbeats 1000000
namespace L2
open PySem PySem.Spec PyProof.Rows
section
variable {P : Program} {w : World} {K : PySem.W.Frag} {mg : Str → Option Value} {base : Heap}
end
section
variable {X : Cx} {k : Nat} {f : Addr} {fd : FuncData} {ps : List Str} {sp : Sp} {x : Str} {p pos : Pos} {e : Expr} {es : List Expr} {t : TA}
end
end L2
set_option maxHeartbeats 1000000
namespace L2
open PySem PySem.Spec PyProof.Rows
section
variable {X : Cx} {tg : Expr}
end
section
variable {X : Cx}
end
end L2
set_option maxHeartbeats 4000000
namespace L2
open PySem PySem.Spec PyProof.Rows
section
variable {X : Cx} {pins : List (Addr × Obj)} {σ : St} {H : Hp} {s : Shared}
section
variable {prog : Program} {w : World} {A : Around} {R : Result → Shared → Prop} {I : Addr} {fp wr : List Addr} {n : Nat} {P : Nat → Value → Prop} {St : Nat → Heap → Prop} {dk : Str} {dv : Value}
end
end
end L2
set_option maxHeartbeats 4000000
namespace L2
open PySem PySem.Spec PyProof.Rows
section
variable {X : Cx} {pins : List (Addr × Obj)} {σ : St} {H : Hp} {s : Shared}
end
end L2
set_option maxHeartbeats 4000000
namespace Zp
open PySem PySem.Spec PyProof.Rows
section
variable {prog : Program} {w : World} {A : Around} {E : Value → Shared → Prop} {s : Shared}
end
end Zp
set_option maxHeartbeats 4000000
namespace Zp
open PySem PySem.Spec PyProof.Rows
section
variable {prog : Program} {w : World} {A : Around} {s : Shared} {R : Result → Shared → Prop} {xs ys : List Value}
end
section
variable {prog : Program} {w : World} {A : Around} {E : Value → Shared → Prop} {s : Shared} {xs ys : List Value}
end
end Zp
set_option maxHeartbeats 4000000
namespace L2
open PySem PySem.Spec PyProof.Rows
section
variable {X : Cx} {pins : List (Addr × Obj)} {σ : St} {H : Hp} {s : Shared}
end
end L2
set_option maxHeartbeats 400000
namespace Tl
end Tl
set_option maxHeartbeats 400000
namespace Tl
end Tl
set_option maxHeartbeats 400000
namespace Tl
end Tl
set_option maxHeartbeats 800000
namespace Tl
end Tl
set_option maxHeartbeats 1000000
namespace K8
open PySem PySem.Spec PyProof.Rows L2 Tl
def top (i : Nat) : Stmt := PySem.Challenge.pw_apartrow_k08_written.main.body.getD i (.Pass ⟨0, 0, 0, 0⟩)
abbrev s_is_whole : Stmt := top 9
abbrev s_is_kind : Stmt := top 10
abbrev s_is_heap : Stmt := top 11
abbrev s_check_heap : Stmt := top 12
abbrev s_runs : Stmt := top 17
abbrev s_written : Stmt := top 18
abbrev s_is_number : Stmt := top 19
abbrev s_number_read : Stmt := top 20
abbrev s_read : Stmt := top 21
abbrev s__law_cell_at : Stmt := top 23
abbrev s__law_draw : Stmt := top 24
abbrev s__law_heap : Stmt := top 25
abbrev s__law_number : Stmt := top 29
abbrev s__law_in : Stmt := top 30
abbrev s__law_refused : Stmt := top 31
abbrev s__law_right : Stmt := top 32
abbrev s__law_few : Stmt := top 33
abbrev s_law : Stmt := top 34
structure Ad where
  f_is_whole : Addr
  d_is_whole : FuncData
  f_is_kind : Addr
  d_is_kind : FuncData
  f_is_heap : Addr
  d_is_heap : FuncData
  f_check_heap : Addr
  d_check_heap : FuncData
  f_runs : Addr
  d_runs : FuncData
  f_written : Addr
  d_written : FuncData
  f_is_number : Addr
  d_is_number : FuncData
  f_number_read : Addr
  d_number_read : FuncData
  f_read : Addr
  d_read : FuncData
  f__law_cell_at : Addr
  d__law_cell_at : FuncData
  f__law_draw : Addr
  d__law_draw : FuncData
  f__law_heap : Addr
  d__law_heap : FuncData
  f__law_number : Addr
  d__law_number : FuncData
  f__law_in : Addr
  d__law_in : FuncData
  f__law_refused : Addr
  d__law_refused : FuncData
  f__law_right : Addr
  d__law_right : FuncData
  f__law_few : Addr
  d__law_few : FuncData
  f_law : Addr
  d_law : FuncData
  c_HeapError : Addr
  c_BadHeap : Addr
  c_BadNumber : Addr
  c_TooFew : Addr
  c_BadText : Addr
  g_GREATEST_KIND : Tok
  g_MOST_THINGS : Tok
  g_NO_THINGS : Tok
  g_FIGURES : Tok
  g_MOST_FIGURES : Tok
structure Df (K : PySem.W.Frag) (mg : Str → Option Value) (x : Str) (st : Stmt) (ps : List Str) (f : Addr) (fd : FuncData) : Prop where
  fn : Fun K x x st f fd
  mg : mg x = some (.ref f)
  bd : Binds K fd ps []
structure Txt (K : PySem.W.Frag) (mg : Str → Option Value) (Z : Ad) : Prop where
  is_whole : Df K mg "is_whole" s_is_whole ["value"] Z.f_is_whole Z.d_is_whole
  is_kind : Df K mg "is_kind" s_is_kind ["value"] Z.f_is_kind Z.d_is_kind
  is_heap : Df K mg "is_heap" s_is_heap ["value"] Z.f_is_heap Z.d_is_heap
  check_heap : Df K mg "check_heap" s_check_heap ["value"] Z.f_check_heap Z.d_check_heap
  runs : Df K mg "runs" s_runs ["heap"] Z.f_runs Z.d_runs
  written : Df K mg "written" s_written ["heap"] Z.f_written Z.d_written
  is_number : Df K mg "is_number" s_is_number ["figures"] Z.f_is_number Z.d_is_number
  number_read : Df K mg "number_read" s_number_read ["figures", "least", "greatest"] Z.f_number_read Z.d_number_read
  read : Df K mg "read" s_read ["text"] Z.f_read Z.d_read
  _law_cell_at : Df K mg "_law_cell_at" s__law_cell_at ["_law_script", "_law_k"] Z.f__law_cell_at Z.d__law_cell_at
  _law_draw : Df K mg "_law_draw" s__law_draw ["_law_cell", "_law_k", "_law_many_here"] Z.f__law_draw Z.d__law_draw
  _law_heap : Df K mg "_law_heap" s__law_heap ["_law_script"] Z.f__law_heap Z.d__law_heap
  _law_number : Df K mg "_law_number" s__law_number ["_law_text"] Z.f__law_number Z.d__law_number
  _law_in : Df K mg "_law_in" s__law_in ["_law_text"] Z.f__law_in Z.d__law_in
  _law_refused : Df K mg "_law_refused" s__law_refused ["_law_text"] Z.f__law_refused Z.d__law_refused
  _law_right : Df K mg "_law_right" s__law_right ["_law_text"] Z.f__law_right Z.d__law_right
  _law_few : Df K mg "_law_few" s__law_few [] Z.f__law_few Z.d__law_few
  law : Df K mg "law" s_law ["_law_script"] Z.f_law Z.d_law
  m_HeapError : mg "HeapError" = some (.ref Z.c_HeapError)
  m_BadHeap : mg "BadHeap" = some (.ref Z.c_BadHeap)
  x_BadHeap : PySem.W.excIn K Z.c_BadHeap veb "ValueError.__new__" = true
  y_BadHeap : ExcTy K Z.c_BadHeap
  v_BadHeap : PySem.W.kitOne K (.ref Z.c_BadHeap) (.type "ValueError") = some true
  e_BadHeap : PySem.W.exmOne K (.ref Z.c_BadHeap) (.ref Z.c_HeapError) = some true
  q_BadHeap_BadHeap : PySem.W.kitOne K (.ref Z.c_BadHeap) (.ref Z.c_BadHeap) = some true
  q_BadHeap_BadNumber : PySem.W.kitOne K (.ref Z.c_BadHeap) (.ref Z.c_BadNumber) = some false
  q_BadHeap_TooFew : PySem.W.kitOne K (.ref Z.c_BadHeap) (.ref Z.c_TooFew) = some false
  q_BadHeap_BadText : PySem.W.kitOne K (.ref Z.c_BadHeap) (.ref Z.c_BadText) = some false
  m_BadNumber : mg "BadNumber" = some (.ref Z.c_BadNumber)
  x_BadNumber : PySem.W.excIn K Z.c_BadNumber veb "ValueError.__new__" = true
  y_BadNumber : ExcTy K Z.c_BadNumber
  v_BadNumber : PySem.W.kitOne K (.ref Z.c_BadNumber) (.type "ValueError") = some true
  e_BadNumber : PySem.W.exmOne K (.ref Z.c_BadNumber) (.ref Z.c_HeapError) = some true
  q_BadNumber_BadHeap : PySem.W.kitOne K (.ref Z.c_BadNumber) (.ref Z.c_BadHeap) = some false
  q_BadNumber_BadNumber : PySem.W.kitOne K (.ref Z.c_BadNumber) (.ref Z.c_BadNumber) = some true
  q_BadNumber_TooFew : PySem.W.kitOne K (.ref Z.c_BadNumber) (.ref Z.c_TooFew) = some false
  q_BadNumber_BadText : PySem.W.kitOne K (.ref Z.c_BadNumber) (.ref Z.c_BadText) = some false
  m_TooFew : mg "TooFew" = some (.ref Z.c_TooFew)
  x_TooFew : PySem.W.excIn K Z.c_TooFew veb "ValueError.__new__" = true
  y_TooFew : ExcTy K Z.c_TooFew
  v_TooFew : PySem.W.kitOne K (.ref Z.c_TooFew) (.type "ValueError") = some true
  e_TooFew : PySem.W.exmOne K (.ref Z.c_TooFew) (.ref Z.c_HeapError) = some true
  q_TooFew_BadHeap : PySem.W.kitOne K (.ref Z.c_TooFew) (.ref Z.c_BadHeap) = some false
  q_TooFew_BadNumber : PySem.W.kitOne K (.ref Z.c_TooFew) (.ref Z.c_BadNumber) = some false
  q_TooFew_TooFew : PySem.W.kitOne K (.ref Z.c_TooFew) (.ref Z.c_TooFew) = some true
  q_TooFew_BadText : PySem.W.kitOne K (.ref Z.c_TooFew) (.ref Z.c_BadText) = some false
  m_BadText : mg "BadText" = some (.ref Z.c_BadText)
  x_BadText : PySem.W.excIn K Z.c_BadText veb "ValueError.__new__" = true
  y_BadText : ExcTy K Z.c_BadText
  v_BadText : PySem.W.kitOne K (.ref Z.c_BadText) (.type "ValueError") = some true
  e_BadText : PySem.W.exmOne K (.ref Z.c_BadText) (.ref Z.c_HeapError) = some true
  q_BadText_BadHeap : PySem.W.kitOne K (.ref Z.c_BadText) (.ref Z.c_BadHeap) = some false
  q_BadText_BadNumber : PySem.W.kitOne K (.ref Z.c_BadText) (.ref Z.c_BadNumber) = some false
  q_BadText_TooFew : PySem.W.kitOne K (.ref Z.c_BadText) (.ref Z.c_TooFew) = some false
  q_BadText_BadText : PySem.W.kitOne K (.ref Z.c_BadText) (.ref Z.c_BadText) = some true
  b_isinstance : mg "isinstance" = none
  b_int : mg "int" = none
  b_bool : mg "bool" = none
  b_list : mg "list" = none
  b_str : mg "str" = none
  b_all : mg "all" = none
  b_any : mg "any" = none
  b_len : mg "len" = none
  b_max : mg "max" = none
  b_sum : mg "sum" = none
  b_range : mg "range" = none
  b_ValueError : mg "ValueError" = none
  k_GREATEST_KIND : mg "GREATEST_KIND" = some (.int 999 Z.g_GREATEST_KIND)
  k_MOST_THINGS : mg "MOST_THINGS" = some (.int 1000000 Z.g_MOST_THINGS)
  k_NO_THINGS : mg "NO_THINGS" = some (.str "-" Z.g_NO_THINGS)
  k_FIGURES : mg "FIGURES" = some (.str "0123456789" Z.g_FIGURES)
  k_MOST_FIGURES : mg "MOST_FIGURES" = some (.int 7 Z.g_MOST_FIGURES)
end K8
set_option maxHeartbeats 1000000
namespace K8
open PySem PySem.Spec PyProof.Rows L2 Tl
seal PSs PS PE PT PW PA PG PGs PI PTs PC
section
variable {P : Program} {w : World} {K : PySem.W.Frag} {mg : Str → Option Value} {base : Heap} {Z : Ad}
theorem kit_int_int : PySem.W.kitOne K (.type "int") (.type "int") = some true := by rfl
theorem kit_int_bool : PySem.W.kitOne K (.type "int") (.type "bool") = some false := by rfl
theorem kit_list_list : PySem.W.kitOne K (.type "list") (.type "list") = some true := by rfl
theorem int_item {ns : List Int} {i : Nat} {x : V} (h : (ns.map V.int)[i]? = some x) : ∃ n, ns[i]? = some n ∧ x = .int n := by
  rw [List.getElem?_map] at h
  cases e : ns[i]? with
  | none => rw [e] at h; cases h
  | some n => rw [e] at h; exact ⟨n, rfl, (Option.some.inj h).symm⟩
def sp_is_whole : Sp := fun vs H Q _ => ∃ i : Int, vs = [.int i] ∧ Q (.bl true) H
theorem sc_is_whole : FnScope ["value"] ["value"] (defScope s_is_whole) := ⟨rfl, rfl, rfl, by decide +kernel, rfl, by decide +kernel, by decide +kernel⟩
theorem ok_is_whole (T : Txt K mg Z) : FnOk P w K mg base CX0 1 Z.f_is_whole Z.d_is_whole ["value"] sp_is_whole := by
  refine T.is_whole.fn.ok sc_is_whole (fun vs H Q E h => ?_) (fun cdv A outer s H vs Q E hr h => ?_)
  · obtain ⟨i, rfl, _⟩ := h
    rfl
  · obtain ⟨i, rfl, k⟩ := h
    refine ⟨_, (pss_one (ps_ret (pe_and (pe_callB call_isinst rfl T.b_isinstance boot_isinstance (pa_cons (pv 0) (pa_cons (pe_ty rfl T.b_int boot_int) pa_nil))) (pe_one (pe_not (pe_callB call_isinst rfl T.b_isinstance boot_isinstance (pa_cons (pv 0) (pa_cons (pe_ty rfl T.b_bool boot_bool) pa_nil)))))))), ?_⟩
    refine ⟨_, rfl, _, _, _, _, rfl, .int i, kit_int_int, true, rfl, iteT ?_⟩
    refine ⟨_, rfl, _, _, _, _, rfl, .int i, kit_int_bool, false, rfl, k⟩
def sp_is_kind : Sp := fun vs H Q _ => ∃ i : Int, vs = [.int i] ∧ Q (.bl (decide (0 ≤ i ∧ i ≤ 999))) H
theorem sc_is_kind : FnScope ["value"] ["value"] (defScope s_is_kind) := ⟨rfl, rfl, rfl, by decide +kernel, rfl, by decide +kernel, by decide +kernel⟩
theorem ok_is_kind (T : Txt K mg Z) : FnOk P w K mg base CX0 2 Z.f_is_kind Z.d_is_kind ["value"] sp_is_kind := by
  have G_is_whole := ok_is_whole (P := P) (w := w) (base := base) T
  refine T.is_kind.fn.ok sc_is_kind (fun vs H Q E h => ?_) (fun cdv A outer s H vs Q E hr h => ?_)
  · obtain ⟨i, rfl, _⟩ := h
    rfl
  · obtain ⟨i, rfl, k⟩ := h
    refine ⟨_, (pss_one (ps_ret (pe_and (pe_call G_is_whole (hr.mono (by decide)) rfl T.is_whole.mg T.is_whole.fn.kp T.is_whole.bd .nil pass0 (pa_cons (pv 0) pa_nil)) (pe_one (pe_chain op_le op_le pe_int (pv 0) (pe_glob (v := .int 999) rfl T.k_GREATEST_KIND ⟨_, rfl⟩)))))), ?_⟩
    refine ⟨_, rfl, i, rfl, true, rfl, iteT ?_⟩
    refine ⟨_, rfl, _, _, rfl, rfl, _, rfl, ?_⟩
    by_cases h0 : (0 : Int) ≤ i
    · rw [decide_eq_true h0]
      refine iteT ⟨_, _, rfl, rfl, ?_⟩
      have e : decide (i ≤ 999) = decide (0 ≤ i ∧ i ≤ 999) := by simp [h0]
      show Q (V.bl (decide (i ≤ 999))) H
      rw [e]
      exact k
    · rw [decide_eq_false h0]
      refine iteF ?_
      have e : decide (0 ≤ i ∧ i ≤ 999) = false := decide_eq_false fun h => h0 h.1
      rw [e] at k
      exact k
def sp_is_heap : Sp := fun vs H Q _ => ∃ (a : Addr) (ns : List Int), vs = [.ref a] ∧ H a = some (.lst (ns.map V.int)) ∧ ns.length ≤ 1000000 ∧ (∀ n ∈ ns, 0 ≤ n ∧ n ≤ 999) ∧ ∀ H', Same H H' → Q (.bl true) H'
theorem sc_is_heap : FnScope ["value"] ["value"] (defScope s_is_heap) := ⟨rfl, rfl, rfl, by decide +kernel, rfl, by decide +kernel, by decide +kernel⟩
theorem ok_is_heap (T : Txt K mg Z) : FnOk P w K mg base CX0 3 Z.f_is_heap Z.d_is_heap ["value"] sp_is_heap := by
  have G_is_kind := ok_is_kind (P := P) (w := w) (base := base) T
  refine T.is_heap.fn.ok sc_is_heap (fun vs H Q E h => ?_) (fun cdv A outer s H vs Q E hr h => ?_)
  · obtain ⟨a, ns, rfl, _⟩ := h
    rfl
  · obtain ⟨a, ns, rfl, ha, hl, hb, k⟩ := h
    refine ⟨_, (pss_cons (ps_if (PW.pt (pw_or (pt_not (pt_val (pe_callB call_isinst rfl T.b_isinstance boot_isinstance (pa_cons (pv 0) (pa_cons (pe_ty rfl T.b_list boot_list) pa_nil))))) (pw_or1 (pt_cmpR op_gt (pe_callB call_len_seq rfl T.b_len boot_len (pa_cons (pv 0) pa_nil)) (pe_glob (v := .int 1000000) rfl T.k_MOST_THINGS ⟨_, rfl⟩) (nomark _))))) (pss_one (ps_ret pe_bl)) pss_nil)
      (pss_one (ps_ret (pe_callB (call_all_of rfl) rfl T.b_all boot_all (pa_cons (pe_lcomp (N := ["kind"]) (cap := [none]) rfl (compScope_of (XN := ["value"]) (xs := (defScope s_is_heap).names) rfl rfl (by decide +kernel)) (pi_list (pv 0)) (fun _ _ _ => (pg_name (i := 0) (show (["kind"] : List Str).Nodup by decide +kernel) rfl (Or.inl rfl) (Or.inr rfl))) (fun _ _ _ => pts_nil) (fun _ _ _ => (pe_call G_is_kind (hr.mono (by decide)) rfl T.is_kind.mg T.is_kind.fn.kp T.is_kind.bd .nil pass0 (pa_cons (pv 0) pa_nil)))) pa_nil))))), ?_⟩
    refine ⟨_, rfl, _, _, _, _, rfl, .lst ha, kit_list_list, true, rfl, iteF ?_⟩
    refine ⟨_, rfl, a, _, rfl, .inl (.of ha), _, _, rfl, rfl, _, rfl, ?_⟩
    have hlen : decide ((1000000 : Int) < ((ns.map V.int).length : Int)) = false := decide_eq_false (by rw [List.length_map]; omega)
    rw [hlen]
    refine iteF ?_
    refine ⟨_, rfl, a, rfl, ⟨_, .of ha⟩, lc_listM (fun σ => ∃ v, σ = [v]) (fun _ => .bl true) (by rw [List.length_map]; omega) ⟨none, rfl⟩ (.of ha) ?_ ?_⟩
    · rintro i x σ' H' k2 r hx ⟨v, rfl⟩ sm hk
      obtain ⟨n, hn, rfl⟩ := int_item hx
      refine ⟨_, rfl, n, rfl, ?_⟩
      have e : decide (0 ≤ n ∧ n ≤ 999) = true := decide_eq_true (hb n (List.mem_of_getElem? hn))
      rw [e]
      exact hk _ _ ⟨_, rfl⟩ (Same.refl _)
    · intro D H' hD sm hA
      refine ⟨.ref D, List.replicate ns.length true, rfl, ⟨D, rfl, .inl (.of ?_)⟩, ?_⟩
      · rw [hA, List.map_replicate, List.map_const', List.length_map]
      · have e : (List.replicate ns.length true).all id = true := by simp
        rw [e]
        exact k H' sm
def sp_check_heap : Sp := fun vs H Q _ => ∃ (a : Addr) (ns : List Int), vs = [.ref a] ∧ H a = some (.lst (ns.map V.int)) ∧ ns.length ≤ 1000000 ∧ (∀ n ∈ ns, 0 ≤ n ∧ n ≤ 999) ∧ ∀ H', Same H H' → Q .non H'
theorem sc_check_heap : FnScope ["value"] ["value"] (defScope s_check_heap) := ⟨rfl, rfl, rfl, by decide +kernel, rfl, by decide +kernel, by decide +kernel⟩
theorem ok_check_heap (T : Txt K mg Z) : FnOk P w K mg base CX0 4 Z.f_check_heap Z.d_check_heap ["value"] sp_check_heap := by
  have G_is_heap := ok_is_heap (P := P) (w := w) (base := base) T
  refine T.check_heap.fn.ok sc_check_heap (fun vs H Q E h => ?_) (fun cdv A outer s H vs Q E hr h => ?_)
  · obtain ⟨a, ns, rfl, _⟩ := h
    rfl
  · obtain ⟨a, ns, rfl, ha, hl, hb, k⟩ := h
    refine ⟨_, (pss_one (ps_if (pt_not (pt_val (pe_call G_is_heap (hr.mono (by decide)) rfl T.is_heap.mg T.is_heap.fn.kp T.is_heap.bd .nil pass0 (pa_cons (pv 0) pa_nil)))) pss_never pss_nil)), ?_⟩
    exact ⟨_, rfl, a, ns, rfl, ha, hl, hb, fun H' s' => ⟨true, rfl, iteF (k H' s')⟩⟩
theorem tyL {H : Hp} {l : Addr} {xs : List V} (h : H l = some (.lst xs)) : tyV K "list" (.ref l) H := .inl ⟨rfl, _, .of h⟩
end
end K8
set_option maxHeartbeats 1000000
namespace K8
open PySem PySem.Spec PyProof.Rows L2 Tl
seal PSs PS PE PT PW PA PG PGs PI PTs PC
section
variable {P : Program} {w : World} {K : PySem.W.Frag} {mg : Str → Option Value} {base : Heap} {Z : Ad}
theorem at_j {ns : List Int} {i : Int} (j : Nat) (e : i = (j : Int)) (h : j < ns.length) : atI (ns.map V.int) i = some (.int (ns.getD j 0)) := by
  subst e
  refine atI_nat ?_
  rw [List.getElem?_map, List.getElem?_eq_getElem h, List.getD_eq_getElem?_getD, List.getElem?_eq_getElem h]
  rfl
end
end K8
set_option maxHeartbeats 1000000
namespace K8
open PySem PySem.Spec PyProof.Rows L2 Tl
seal PSs PS PE PT PW PA PG PGs PI PTs PC
section
variable {P : Program} {w : World} {K : PySem.W.Frag} {mg : Str → Option Value} {base : Heap} {Z : Ad}
def intsOf : List Expr → Option (List Int)
  | [] => some []
  | .Constant (.int i) _ _ :: r => (intsOf r).map fun l => i :: l
  | _ => none
unseal PSs PS PE PT PW PA PG PGs PI PTs PC in
theorem pa_ints {X : Cx} : ∀ {es : List Expr} {ns : List Int}, intsOf es = some ns → PA X es (fun _ H Q => Q (ns.map V.int) H)
  | [], ns, h => by
    cases (Option.some.inj h : [] = ns)
    exact pa_nil
  | .Constant (.int i) j p :: r, ns, h => by
    have h' : (intsOf r).map (fun l => i :: l) = some ns := h
    cases q : intsOf r with
    | none => rw [q] at h'; cases h'
    | some l =>
      rw [q] at h'
      cases (Option.some.inj h' : i :: l = ns)
      exact pa_cons pe_int (pa_ints q)
def tInts (es : List Expr) : TA := fun _ H Q => ∃ ns : List Int, intsOf es = some ns ∧ Q (ns.map V.int) H
unseal PSs PS PE PT PW PA PG PGs PI PTs PC in
theorem pa_consts {X : Cx} {es : List Expr} : PA X es (tInts es) := fun pos pins s σ H Q I h => by
  obtain ⟨ns, e, q⟩ := h
  exact pa_ints e pos pins s σ H Q I q
def sp__law_cell_at (K : PySem.W.Frag) : Sp := fun vs H Q _ => ∃ (a : Addr) (ns : List Int) (k : Int), vs = [.ref a, .int k] ∧ SqL K H a (ns.map V.int) ∧ 0 ≤ k ∧ ∀ r : Int, Q (.int r) H
theorem sc__law_cell_at : FnScope ["_law_script", "_law_k"] ["_law_script", "_law_k"] (defScope s__law_cell_at) := ⟨rfl, rfl, rfl, by decide +kernel, rfl, by decide +kernel, by decide +kernel⟩
theorem ok__law_cell_at (T : Txt K mg Z) : FnOk P w K mg base CX0 1 Z.f__law_cell_at Z.d__law_cell_at ["_law_script", "_law_k"] (sp__law_cell_at K) := by
  refine T._law_cell_at.fn.ok sc__law_cell_at (fun vs H Q E h => ?_) (fun cdv A outer s H vs Q E hr h => ?_)
  · obtain ⟨a, ns, k, rfl, _⟩ := h
    rfl
  · obtain ⟨a, ns, k, rfl, ha, h0, q⟩ := h
    refine ⟨_, (pss_cons (ps_if (pt_cmpR op_lt (pv 1) (pe_callB call_len_seq rfl T.b_len boot_len (pa_cons (pv 0) pa_nil)) (nomark _)) (pss_one (ps_ret (pe_ix ix_list (pv 0) (pv 1) (fun _ _ => rfl)))) pss_nil)
      (pss_one (ps_ret pe_int))), ?_⟩
    refine ⟨_, rfl, _, rfl, a, _, rfl, .inl ha, _, _, rfl, rfl, _, rfl, ?_⟩
    refine ite2 (fun h1 => ?_) (fun h1 => ?_)
    · have h1' : k < ((ns.map V.int).length : Int) := of_decide_eq_true h1
      rw [List.length_map] at h1'
      have hk : k.toNat < ns.length := by omega
      have e : ((k.toNat : Nat) : Int) = k := Int.toNat_of_nonneg h0
      refine ⟨_, rfl, _, rfl, a, _, k, .int ns[k.toNat], rfl, rfl, ha, ?_, q _⟩
      have q1 : (ns.map V.int)[k.toNat]? = some (.int ns[k.toNat]) := by rw [List.getElem?_map, List.getElem?_eq_getElem hk]; rfl
      have q2 := atI_nat q1
      rw [e] at q2
      exact q2
    · exact q 0
def sp__law_draw : Sp := fun vs H Q _ => ∃ c k m : Int, vs = [.int c, .int k, .int m] ∧ 0 < m ∧ ∀ r H', 0 ≤ r → r < m → Same H H' → Q (.int r) H'
theorem at_pos {xs : List V} {n : Nat} (hl : xs.length = n) (hp : ∀ x ∈ xs, ∃ p : Int, x = .int p ∧ 0 < p) {i : Int} (h0 : 0 ≤ i) (h1 : i < n) : ∃ p : Int, atI xs i = some (.int p) ∧ 0 < p := by
  have hj : i.toNat < xs.length := by omega
  have e : ((i.toNat : Nat) : Int) = i := Int.toNat_of_nonneg h0
  obtain ⟨p, hx, h2⟩ := hp _ (List.getElem_mem hj)
  refine ⟨p, ?_, h2⟩
  rw [← e, ← hx]
  exact atI_nat (List.getElem?_eq_getElem hj)
theorem sc__law_draw : FnScope ["_law_cell", "_law_k", "_law_many_here", "_law_primes"] ["_law_cell", "_law_k", "_law_many_here"] (defScope s__law_draw) := ⟨rfl, rfl, rfl, by decide +kernel, rfl, by decide +kernel, by decide +kernel⟩
theorem ok__law_draw (T : Txt K mg Z) : FnOk P w K mg base CX0 1 Z.f__law_draw Z.d__law_draw ["_law_cell", "_law_k", "_law_many_here"] sp__law_draw := by
  refine T._law_draw.fn.ok sc__law_draw (fun vs H Q E h => ?_) (fun cdv A outer s H vs Q E hr h => ?_)
  · obtain ⟨c, k, m, rfl, _⟩ := h
    rfl
  · obtain ⟨c, k, m, rfl, hm, q⟩ := h
    refine ⟨_, (pss_cons (ps_set (i := 3) sc__law_draw.nd rfl (Or.inl rfl) (pe_tup pa_consts))
      (pss_one (ps_ret (pe_op op_mod (pe_op op_mod (pe_op op_add (pe_op op_mul (pv 0) pe_int) (pe_op op_mul (pv 1) pe_int)) (pe_ix ix_tup (pv 3) (pe_op op_mod (pv 1) pe_int) (fun _ _ => rfl))) (pv 2))))), ?_⟩
    refine ⟨[1000003, 1000033, 1000037, 1000039, 1000081, 1000099, 1000117, 1000121, 1000133, 1000151, 1000159, 1000171, 1000183, 1000187, 1000193, 1000199], by decide +kernel, by show 16 ≤ sizeLine; decide, fun t ht => ?_⟩
    obtain ⟨p, hp, p0⟩ := at_pos (xs := ([1000003, 1000033, 1000037, 1000039, 1000081, 1000099, 1000117, 1000121, 1000133, 1000151, 1000159, 1000171, 1000183, 1000187, 1000193, 1000199] : List Int).map V.int) (n := 16) rfl
      (by
        intro x hx
        obtain ⟨p, hp, rfl⟩ := List.mem_map.mp hx
        refine ⟨p, rfl, ?_⟩
        have all : ∀ p ∈ ([1000003, 1000033, 1000037, 1000039, 1000081, 1000099, 1000117, 1000121, 1000133, 1000151, 1000159, 1000171, 1000183, 1000187, 1000193, 1000199] : List Int), 0 < p := by decide
        exact all p hp)
      (Int.emod_nonneg k (by decide : (16 : Int) ≠ 0)) (Int.emod_lt_of_pos k (by decide : (0 : Int) < 16))
    refine ⟨_, rfl, _, _, rfl, rfl, .inr ⟨by decide, by decide⟩, _, rfl, _, _, rfl, rfl, .inr ⟨by decide, by decide⟩, _, _, rfl, rfl, ?_⟩
    refine ⟨_, rfl, _, rfl, _, _, rfl, rfl, (by show (0 : Int) < 16; decide), t, _, _, _, rfl, rfl, .of upd_same, hp, _, _, rfl, rfl, p0, _, rfl, _, _, rfl, rfl, hm, ?_⟩
    exact q _ _ (Int.emod_nonneg _ (by omega)) (Int.emod_lt_of_pos _ hm) ((Same.refl H).upd ht)
def sp__law_heap (K : PySem.W.Frag) : Sp := fun vs H Q _ => ∃ (a : Addr) (ns : List Int), vs = [.ref a] ∧ SqL K H a (ns.map V.int) ∧ ns.length ≤ 63 ∧
  ∀ (l : Addr) (ms : List Int) (H' : Hp), ms.length = ns.length → (∀ n ∈ ms, 0 ≤ n ∧ n ≤ 999) → Same H H' → H l = none → H' l = some (.lst (ms.map V.int)) → Q (.ref l) H'
theorem sc__law_heap : FnScope ["_law_script", "_law_few_here", "_law_lean", "_law_heap_here", "_law_k", "_law_kind"] ["_law_script"] (defScope s__law_heap) := ⟨rfl, rfl, rfl, by decide +kernel, rfl, by decide +kernel, by decide +kernel⟩
theorem ok__law_heap (T : Txt K mg Z) : FnOk P w K mg base CX0 2 Z.f__law_heap Z.d__law_heap ["_law_script"] (sp__law_heap K) := by
  have G__law_cell_at := ok__law_cell_at (P := P) (w := w) (base := base) T
  have G__law_draw := ok__law_draw (P := P) (w := w) (base := base) T
  refine T._law_heap.fn.ok sc__law_heap (fun vs H Q E h => ?_) (fun cdv A outer s H vs Q E hr h => ?_)
  · obtain ⟨a, ns, rfl, _⟩ := h
    rfl
  · obtain ⟨a, ns, rfl, ha, hl, k⟩ := h
    refine ⟨_, (pss_cons (ps_set (i := 1) sc__law_heap.nd rfl (Or.inl rfl) (pe_ix ix_tup (pe_tup (pa_cons pe_int (pa_cons pe_int (pa_cons pe_int (pa_cons pe_int pa_nil))))) (pe_call G__law_draw (hr.mono (by decide)) rfl T._law_draw.mg T._law_draw.fn.kp T._law_draw.bd .nil pass0 (pa_cons (pe_call G__law_cell_at (hr.mono (by decide)) rfl T._law_cell_at.mg T._law_cell_at.fn.kp T._law_cell_at.bd .nil pass0 (pa_cons (pv 0) (pa_cons pe_int pa_nil))) (pa_cons pe_int (pa_cons pe_int pa_nil)))) (fun _ _ => rfl)))
      (pss_cons (ps_set (i := 2) sc__law_heap.nd rfl (Or.inl rfl) (pe_call G__law_draw (hr.mono (by decide)) rfl T._law_draw.mg T._law_draw.fn.kp T._law_draw.bd .nil pass0 (pa_cons (pe_call G__law_cell_at (hr.mono (by decide)) rfl T._law_cell_at.mg T._law_cell_at.fn.kp T._law_cell_at.bd .nil pass0 (pa_cons (pv 0) (pa_cons pe_int pa_nil))) (pa_cons pe_int (pa_cons pe_int pa_nil)))))
      (pss_cons (ps_set (i := 3) sc__law_heap.nd rfl (Or.inl rfl) (pe_lst pa_nil))
      (pss_cons (ps_for PassesOwn.never rfl (pi_range1 rfl T.b_range (pa_cons (pe_callB call_len_seq rfl T.b_len boot_len (pa_cons (pv 0) pa_nil)) pa_nil)) (pg_name (i := 4) sc__law_heap.nd rfl (Or.inl rfl)) (pss_cons (ps_set (i := 5) sc__law_heap.nd rfl (Or.inl rfl) (pe_op op_add (pe_op op_mod (pe_op op_mul (pe_call G__law_draw (hr.mono (by decide)) rfl T._law_draw.mg T._law_draw.fn.kp T._law_draw.bd .nil pass0 (pa_cons (pe_ix ix_list (pv 0) (pv 4) (fun _ _ => rfl)) (pa_cons (pe_op op_add (pe_op op_mod (pv 4) pe_int) pe_int) (pa_cons (pv 1) pa_nil)))) pe_int) pe_int) (pe_ix ix_tup (pe_tup (pa_cons pe_int (pa_cons pe_int pa_nil))) (pe_op op_mod (pv 4) pe_int) (fun _ _ => rfl))))
      (pss_cons (ps_if (PW.pt (pw_and (pt_cmpR op_lt (pv 2) pe_int (nomark _)) (pw_and1 (pt_cmpR op_lt (pe_call G__law_draw (hr.mono (by decide)) rfl T._law_draw.mg T._law_draw.fn.kp T._law_draw.bd .nil pass0 (pa_cons (pe_ix ix_list (pv 0) (pv 4) (fun _ _ => rfl)) (pa_cons (pe_op op_add (pe_op op_mod (pv 4) pe_int) pe_int) (pa_cons pe_int pa_nil)))) (pe_op op_sub (pe_op op_mul pe_int (pv 2)) pe_int) (nomark _))))) (pss_one (ps_set (i := 5) sc__law_heap.nd rfl (Or.inl rfl) pe_int)) pss_nil)
      (pss_cons (ps_if (PW.pt (pw_and (pt_cmpR op_in_seq (pv 2) (pe_tup (pa_cons pe_int (pa_cons pe_int pa_nil))) rfl) (pw_and1 (pt_cmpR op_gt (pe_call G__law_draw (hr.mono (by decide)) rfl T._law_draw.mg T._law_draw.fn.kp T._law_draw.bd .nil pass0 (pa_cons (pe_ix ix_list (pv 0) (pv 4) (fun _ _ => rfl)) (pa_cons (pe_op op_add (pe_op op_mod (pv 4) pe_int) pe_int) (pa_cons pe_int pa_nil)))) pe_int (nomark _))))) (pss_one (ps_set (i := 5) sc__law_heap.nd rfl (Or.inl rfl) (pe_op op_sub pe_int (pe_op op_mod (pe_op op_mod (pv 4) (pe_op op_add (pv 1) pe_int)) pe_int)))) pss_nil)
      (pss_cons (ps_if (PW.pt (pw_and (pt_cmpR op_gt (pv 2) pe_int (nomark _)) (pw_and1 (pt_cmpR op_eq (pe_op op_mod (pv 4) pe_int) pe_int (nomark _))))) (pss_one (ps_set (i := 5) sc__law_heap.nd rfl (Or.inl rfl) pe_int)) pss_nil)
      (pss_one (ps_expr (pe_bm PySem.F.plainAttrs_list PySem.F.slot_list_append PySem.F.type_list_append mt_append (pv 3) (pa_cons (pv 5) pa_nil)))))))))
      (pss_one (ps_ret (pv 3))))))), ?_⟩
    refine ⟨by show 4 ≤ sizeLine; decide, fun t ht => ?_⟩
    have s1 : Same H (upd H t (.tup [.int 2, .int 3, .int 7, .int 60])) := (Same.refl H).upd ht
    refine ⟨_, rfl, a, ns, 0, rfl, s1.seq ha, Int.le_refl _, fun c0 => ⟨c0, 6, 4, rfl, by decide, fun r H2 r0 r1 s2 => ?_⟩⟩
    obtain ⟨few, hfew, hat⟩ := at_in (xs := [2, 3, 7, 60]) r0 r1
    have f0 : 0 < few := by
      simp only [List.mem_cons, List.not_mem_nil, or_false] at hfew
      omega
    refine ⟨t, [.int 2, .int 3, .int 7, .int 60], r, .int few, rfl, rfl, .of (s2 t _ upd_same), hat, ?_⟩
    have s02 : Same H H2 := s1.trans s2
    refine ⟨_, rfl, a, ns, 1, rfl, s02.seq ha, by decide, fun c1 => ⟨c1, 7, 9, rfl, by decide, fun lean H3 l0 l1 s3 => ?_⟩⟩
    have s03 : Same H H3 := s02.trans s3
    refine ⟨Nat.zero_le _, fun l hl0 => ?_⟩
    have hlH : H l = none := s03.free hl0
    have s04 : Same H (upd H3 l (.lst [])) := s03.upd hlH
    have elen : (((ns.map V.int).length : Int)).toNat = ns.length := by rw [List.length_map]; omega
    refine ⟨_, rfl, a, _, rfl, .inl (s04.seq ha), _, rfl, by rw [List.length_map]; omega, by rw [List.length_map]; omega, ?_⟩
    rw [elen]
    refine for_range (lo := 0) (n := ns.length) (fun i σ H4 => ∃ (v4 v5 : Option V) (ms : List Int), σ = [some (.ref a), some (.int few), some (.int lean), some (.ref l), v4, v5] ∧ ms.length = i ∧ (∀ n ∈ ms, 0 ≤ n ∧ n ≤ 999) ∧ Same H H4 ∧ H4 l = some (.lst (ms.map V.int)))
      ⟨none, none, [], rfl, rfl, (fun _ h => nomatch h), s04, upd_same⟩ (fun i σ H4 hi hP => ?_) (fun σ H4 hP => ?_)
    · obtain ⟨v4, v5, ms, rfl, hml, hmb, s4, h4⟩ := hP
      have hik : (0 : Int) ≤ 0 + (i : Int) := by omega
      have hat4 : atI (ns.map V.int) (0 + (i : Int)) = some (.int ns[i]) := by
        have q1 : (ns.map V.int)[i]? = some (.int ns[i]) := by rw [List.getElem?_map, List.getElem?_eq_getElem hi]; rfl
        have q2 := atI_nat q1
        rw [Int.zero_add]
        exact q2
      have m2 := Int.emod_nonneg (0 + (i : Int)) (by decide : (2 : Int) ≠ 0)
      have m2' := Int.emod_lt_of_pos (0 + (i : Int)) (by decide : (0 : Int) < 2)
      refine seq_cut (fun σ' H' => ∃ z : Int, σ' = [some (.ref a), some (.int few), some (.int lean), some (.ref l), some (.int (0 + (i : Int))), some (.int z)] ∧ 0 ≤ z ∧ z ≤ 999 ∧ Same H H' ∧ H' l = some (.lst (ms.map V.int))) (fun k hk => ?_) (fun σ' H' hz => ?_)
      · refine ⟨_, rfl, _, rfl, a, _, _, _, rfl, rfl, s4.seq ha, hat4, _, rfl, _, _, rfl, rfl, (by show (0 : Int) < 5; decide), _, _, rfl, rfl, _, rfl, _, _, few, rfl, f0, fun r H5 r0 r1 s5 => ?_⟩
        refine ⟨_, _, rfl, rfl, .inr ⟨by decide, by decide⟩, _, _, rfl, rfl, (by show (0 : Int) < 99; decide), ?_⟩
        refine ⟨by show 2 ≤ sizeLine; decide, fun t ht => ?_⟩
        obtain ⟨p, hp, hat⟩ := at_in (xs := [900, 3]) m2 m2'
        refine ⟨_, rfl, _, _, rfl, rfl, (by show (0 : Int) < 2; decide), t, [.int 900, .int 3], _, .int p, rfl, rfl, .of upd_same, hat, _, _, rfl, rfl, hk _ _ ⟨_, rfl, ?_, ?_, ?_, ?_⟩⟩
        · have := Int.emod_nonneg (r * 7) (by decide : (99 : Int) ≠ 0)
          simp only [List.mem_cons, List.not_mem_nil, or_false] at hp
          omega
        · have := Int.emod_lt_of_pos (r * 7) (by decide : (0 : Int) < 99)
          simp only [List.mem_cons, List.not_mem_nil, or_false] at hp
          omega
        · exact (s4.trans s5).upd ((s4.trans s5).free ht)
        · have e5 := s5 l _ h4
          rw [upd_ne (ne_of_none e5 ht)]
          exact e5
      obtain ⟨z, rfl, z0, z1, s5, h5⟩ := hz
      refine seq_cut (fun σ' H' => ∃ z : Int, σ' = [some (.ref a), some (.int few), some (.int lean), some (.ref l), some (.int (0 + (i : Int))), some (.int z)] ∧ 0 ≤ z ∧ z ≤ 999 ∧ Same H H' ∧ H' l = some (.lst (ms.map V.int))) (fun k hk => ?_) (fun σ' H' hz => ?_)
      · refine ⟨_, rfl, _, _, rfl, rfl, _, rfl, ite2 (fun _ => ?_) (fun _ => ?_)⟩
        · refine ⟨_, rfl, _, rfl, a, _, _, _, rfl, rfl, s5.seq ha, hat4, _, rfl, _, _, rfl, rfl, (by show (0 : Int) < 7; decide), _, _, rfl, rfl, _, _, 8, rfl, by decide, fun r H6 r0 r1 s6 => ?_⟩
          refine ⟨_, rfl, _, _, rfl, rfl, .inl ⟨by decide, by decide⟩, _, _, rfl, rfl, _, _, rfl, rfl, _, rfl, ite2 (fun _ => ?_) (fun _ => ?_)⟩
          · exact hk _ _ ⟨5, rfl, by decide, by decide, s5.trans s6, s6 l _ h5⟩
          · exact hk _ _ ⟨z, rfl, z0, z1, s5.trans s6, s6 l _ h5⟩
        · exact iteF (hk _ _ ⟨z, rfl, z0, z1, s5, h5⟩)
      obtain ⟨z, rfl, z0, z1, s5, h5⟩ := hz
      refine seq_cut (fun σ' H' => ∃ z : Int, σ' = [some (.ref a), some (.int few), some (.int lean), some (.ref l), some (.int (0 + (i : Int))), some (.int z)] ∧ 0 ≤ z ∧ z ≤ 999 ∧ Same H H' ∧ H' l = some (.lst (ms.map V.int))) (fun k hk => ?_) (fun σ' H' hz => ?_)
      · refine ⟨_, rfl, by show 2 ≤ sizeLine; decide, fun t ht => ?_⟩
        have ht0 := s5.free ht
        have s6 := s5.upd (o := .tup [.int 5, .int 6]) ht0
        have h6 : (upd H' t (.tup [.int 5, .int 6])) l = some (.lst (ms.map V.int)) := by rw [upd_ne (ne_of_none h5 ht)]; exact h5
        refine ⟨t, [.int 5, .int 6], rfl, .inr (.of upd_same), rfl, rfl, _, rfl, ite2 (fun _ => ?_) (fun _ => ?_)⟩
        · refine ⟨_, rfl, _, rfl, a, _, _, _, rfl, rfl, s6.seq ha, hat4, _, rfl, _, _, rfl, rfl, (by show (0 : Int) < 7; decide), _, _, rfl, rfl, _, _, 9, rfl, by decide, fun r H7 r0 r1 s7 => ?_⟩
          refine ⟨_, _, rfl, rfl, _, rfl, ite2 (fun _ => ?_) (fun _ => ?_)⟩
          · refine ⟨_, rfl, _, rfl, _, _, rfl, rfl, _, _, rfl, rfl, (by show (0 : Int) < few + 1; omega), _, _, rfl, rfl, (by show (0 : Int) < 11; decide), _, _, rfl, rfl, hk _ _ ⟨_, rfl, ?_, ?_, s6.trans s7, s7 l _ h6⟩⟩
            · have := Int.emod_lt_of_pos ((0 + (i : Int)) % (few + 1)) (by decide : (0 : Int) < 11)
              omega
            · have := Int.emod_nonneg ((0 + (i : Int)) % (few + 1)) (by decide : (11 : Int) ≠ 0)
              omega
          · exact hk _ _ ⟨z, rfl, z0, z1, s6.trans s7, s7 l _ h6⟩
        · exact iteF (hk _ _ ⟨z, rfl, z0, z1, s6, h6⟩)
      obtain ⟨z, rfl, z0, z1, s5, h5⟩ := hz
      refine seq_cut (fun σ' H' => ∃ z : Int, σ' = [some (.ref a), some (.int few), some (.int lean), some (.ref l), some (.int (0 + (i : Int))), some (.int z)] ∧ 0 ≤ z ∧ z ≤ 999 ∧ Same H H' ∧ H' l = some (.lst (ms.map V.int))) (fun k hk => ?_) (fun σ' H' hz => ?_)
      · refine ⟨_, rfl, _, _, rfl, rfl, _, rfl, ite2 (fun _ => ?_) (fun _ => ?_)⟩
        · refine ⟨_, rfl, _, _, rfl, rfl, (by show (0 : Int) < 2; decide), rfl, _, rfl, ite2 (fun _ => ?_) (fun _ => ?_)⟩
          · exact hk _ _ ⟨11, rfl, by decide, by decide, s5, h5⟩
          · exact hk _ _ ⟨z, rfl, z0, z1, s5, h5⟩
        · exact iteF (hk _ _ ⟨z, rfl, z0, z1, s5, h5⟩)
      obtain ⟨z, rfl, z0, z1, s5, h5⟩ := hz
      refine ⟨_, rfl, .inl ⟨rfl, _, .of h5⟩, _, rfl, l, _, _, rfl, rfl, h5, by rw [List.length_map]; exact small1000 (by omega), ?_⟩
      refine ⟨_, _, ms ++ [z], rfl, by rw [List.length_append, hml]; rfl, fun n hn => ?_, s5.upd hlH, ?_⟩
      · rcases List.mem_append.mp hn with q | q
        · exact hmb n q
        · rw [List.mem_singleton.mp q]; exact ⟨z0, z1⟩
      · rw [upd_same, List.map_append]; rfl
    · obtain ⟨v4, v5, ms, rfl, hml, hmb, s4, h4⟩ := hP
      exact ⟨_, rfl, k l ms H4 hml hmb s4 hlH h4⟩
end
end K8
set_option maxHeartbeats 1000000
namespace K8
open PySem PySem.Spec PyProof.Rows L2 Tl
seal PSs PS PE PT PW PA PG PGs PI PTs PC
section
variable {P : Program} {w : World} {K : PySem.W.Frag} {mg : Str → Option Value} {base : Heap} {Z : Ad}
end
end K8
set_option maxHeartbeats 1000000
namespace K8
open PySem PySem.Spec PyProof.Rows L2 Tl
seal PSs PS PE PT PW PA PG PGs PI PTs PC
section
variable {P : Program} {w : World} {K : PySem.W.Frag} {mg : Str → Option Value} {base : Heap} {Z : Ad}
theorem nextS {t u : TS} {D : Ends} {σ : L2.St} {H : Hp} (h : tSeq t u D σ H) : tNext { D with nx := tSeq t u D } σ H := h
theorem nxS {t u : TS} {D : Ends} {σ : L2.St} {H : Hp} (h : tSeq t u D σ H) : ({ D with nx := tSeq t u D } : Ends).nx σ H := h
theorem nextI {D : Ends} {σ : L2.St} {H : Hp} (h : D.nx σ H) : tNext D σ H := h
def sp_law (K : PySem.W.Frag) : Sp := fun vs H Q _ => ∃ (a : Addr) (ns : List Int), vs = [.ref a] ∧ SqL K H a (ns.map V.int) ∧ ns.length ≤ 63 ∧ ∀ H', Q (.bl true) H'
end
end K8
set_option maxHeartbeats 4000000
namespace L2
open PySem PySem.Spec PyProof.Rows PySem.W
section
variable {X : Cx} {pins : List (Addr × Obj)} {σ : St} {H : Hp} {s : Shared}
end
end L2
namespace Srt
open PySem PyProof.Rows PySem.W
section
variable {prog : Program} {w : World} {A : Around} {E : Value → Shared → Prop} {s : Shared}
end
end Srt
namespace L2
open PySem PySem.Spec PyProof.Rows PySem.W
section
variable {X : Cx} {pins : List (Addr × Obj)} {σ : St} {H : Hp} {s : Shared}
end
end L2
namespace L2
open PySem PySem.Spec PyProof.Rows PySem.W
section
variable {P : Program} {w : World} {K : PySem.W.Frag} {mg : Str → Option Value} {base : Heap}
end
end L2
set_option maxHeartbeats 4000000
namespace L2
open PySem PySem.Spec PyProof.Rows PySem.W
end L2
set_option maxHeartbeats 4000000
namespace L2
open PySem PySem.Spec PyProof.Rows PySem.W
end L2
set_option maxHeartbeats 4000000
namespace L2
open PySem PySem.Spec PyProof.Rows
section
variable {X : Cx} {pins : List (Addr × Obj)} {σ : St} {H : Hp} {s : Shared}
end
section
variable {X : Cx} {pins : List (Addr × Obj)} {σ : St} {H : Hp} {s : Shared}
end
section
variable {X : Cx} {pins : List (Addr × Obj)} {σ : St} {H : Hp} {s : Shared} {tg : Expr}
end
end L2
set_option maxHeartbeats 4000000
namespace L2
open PySem PySem.Spec PyProof.Rows
section
variable {X : Cx} {st : Stmt} {rest : List Stmt} {t : TS}
def tFirst (t : TS) : TS := fun D σ H => t { D with nx := fun _ _ => False } σ H
theorem pss_first (h1 : PS X st t) : PSs X (st :: rest) (tFirst t) := by
  intro pins s σ H D I h
  refine wpAny_execs_cons (thn (h1 pins s σ H { D with nx := fun _ _ => False } I h) fun f s1 q => ?_)
  cases f with
  | next =>
    obtain ⟨σ', H', I', q⟩ := q
    exact q.elim
  | ret v => exact q
  | brk => exact q
  | cont => exact q
end
end L2
set_option maxHeartbeats 4000000
namespace L2
open PySem PySem.Spec PyProof.Rows PySem.Builtin PySem.Builtin.Str
section
variable {X : Cx}
theorem call_int_str : CallR X (.type "int") (fun xs H Q => ∃ (x : Str) (n : Int), xs = [.str x] ∧ PySem.intText? x = some n ∧ x.length ≤ 640 ∧ Q (.int n) H) := by
  intro pins s σ H xs us Q I r h
  obtain ⟨x, n, rfl, hn, hl, q⟩ := h
  obtain ⟨u, rfl, t, rfl⟩ := vals1 r
  exact PySem.W.KIN.call_text hn hl ⟨.int n, H, I.tok _, ⟨_, rfl⟩, q⟩
def stripV (x y : Str) : Str := if stripSame y.cps.contains true true x then x else stripped y.cps.contains true true x
theorem mt_str_strip : MtM X "str.strip" (fun x vs H Q => ∃ a b : Str, x = .str a ∧ vs = [.str b] ∧ a.length ≤ sizeLine ∧ Q (.str (stripV a b)) H) := by
  intro pins s σ H x vs v us Q I rx rv h
  obtain ⟨a, b, rfl, rfl, hz, q⟩ := h
  obtain ⟨t, rfl⟩ := (show ∃ t, v = Value.str a t from rx)
  obtain ⟨u, rfl, ru⟩ := rv.one
  obtain ⟨t2, rfl⟩ := (show ∃ t, u = Value.str b t from ru)
  refine call_gives PySem.F.slot_str_strip (typeIs_str _ _ _) PySem.F.entry_str_strip (PySem.F.args_str_strip_2 _ _) (gives_str_strip_chars a b t t2) ?_
  unfold stripV at q
  cases e : stripSame b.cps.contains true true a with
  | true =>
    rw [e] at q
    exact ⟨.str a, H, I, ⟨t, rfl⟩, q⟩
  | false =>
    rw [e] at q
    exact ⟨fits_stripped _ _ _ hz, .str _, H, I.tok _, ⟨_, rfl⟩, q⟩
theorem str_rel : ∀ {l : List (Str × Tok)}, Vals (l.map fun p => V.str p.1) (strValues l)
  | [] => .nil
  | p :: l => .cons ⟨p.2, rfl⟩ str_rel
theorem mt_str_split : MtM X "str.split" (fun x vs H Q => ∃ a b : Str, x = .str a ∧ vs = [.str b] ∧ (b.length == 0) = false ∧ a.length + 2 ≤ sizeLine ∧ ∀ l, H l = none → Q (.ref l) (upd H l (.lst ((Txt.split a b).map V.str)))) := by
  intro pins s σ H x vs v us Q I rx rv h
  obtain ⟨a, b, rfl, rfl, hy, hz, q⟩ := h
  obtain ⟨t, rfl⟩ := (show ∃ t, v = Value.str a t from rx)
  obtain ⟨u, rfl, ru⟩ := rv.one
  obtain ⟨t2, rfl⟩ := (show ∃ t, u = Value.str b t from ru)
  have fin : ∀ (l : List (Str × Tok)) (k : Nat), l.map (·.1) = Txt.split a b → l.length ≤ sizeLine → EP X pins σ Q (.ref s.heap.objs.size) { s with heap := s.heap.push { cls := .type "list", data := .seq (strValues l).toArray }, toks := k } := fun l k e hl => by
    have e2 : (Txt.split a b).map V.str = l.map fun p => V.str p.1 := by rw [← e, List.map_map]; rfl
    exact ⟨.ref _, _, I.lnew (ys := (Txt.split a b).map V.str) (by rw [e2]; exact str_rel) (by rw [e2, List.length_map]; exact hl), rfl, q _ I.fresh⟩
  have hn : (partsBetween a (occurrences a b 0 a.length (a.length + 1)) b.length).length ≤ sizeLine := by
    have e1 := StrLaws.occ_length_le a b 0 a.length (a.length + 1)
    rw [length_partsBetween]; omega
  cases h1 : (decide (a.length < b.length) || decide (strKind a < strKind b))
  · cases hf : (occurrences a b 0 a.length (a.length + 1)).isEmpty
    · refine call_meets F.slot_str_split (typeIs_str _ _ _) F.entry_str_split (F.args_str_split_2 _ _) (meets_str_split_sep a b t t2 h1 hy hf (by omega) hn) ?_
      show wants (EP X pins σ Q) X.xe _ { s with toks := _, heap := s.heap.push { cls := .type "list", data := .seq (strsFrom s.toks (partsBetween a (occurrences a b 0 a.length (a.length + 1)) b.length)).toArray } }
      rw [strsFrom_eq]
      exact fin (numbered s.toks _) _ ((numbered_texts _ _).trans ((if_neg (ne_true_of_eq_false h1)).trans (if_neg (ne_true_of_eq_false hf))).symm) (by
        have := congrArg List.length (numbered_texts s.toks (partsBetween a (occurrences a b 0 a.length (a.length + 1)) b.length))
        rw [List.length_map] at this
        rw [this]; exact hn)
    · exact call_meets F.slot_str_split (typeIs_str _ _ _) F.entry_str_split (F.args_str_split_2 _ _) (meets_str_split_not_found a b t t2 h1 hy hf)
        (fin [(a, t)] s.toks ((if_neg (ne_true_of_eq_false h1)).trans (if_pos hf)).symm (by show 1 ≤ sizeLine; decide))
  · exact call_meets F.slot_str_split (typeIs_str _ _ _) F.entry_str_split (F.args_str_split_2 _ _) (meets_str_split_cannot_occur a b t t2 h1)
      (fin [(a, t)] s.toks (if_pos h1).symm (by show 1 ≤ sizeLine; decide))
theorem mt_str_partition : MtM X "str.partition" (fun x vs H Q => ∃ a b : Str, x = .str a ∧ vs = [.str b] ∧ (b.length == 0) = false ∧ a.length ≤ sizeLine ∧ ∀ p, H p = none → Q (.ref p) (upd H p (.tup [.str (Txt.partition a b).1, .str (Txt.partition a b).2.1, .str (Txt.partition a b).2.2]))) := by
  intro pins s σ H x vs v us Q I rx rv h
  obtain ⟨a, b, rfl, rfl, hy, hz, q⟩ := h
  obtain ⟨t, rfl⟩ := (show ∃ t, v = Value.str a t from rx)
  obtain ⟨u, rfl, ru⟩ := rv.one
  obtain ⟨t2, rfl⟩ := (show ∃ t, u = Value.str b t from ru)
  refine call_meets F.slot_str_partition (typeIs_str _ _ _) F.entry_str_partition (F.args_str_partition_2 _ _) (meets_str_partition a b t t2 hy hz) ?_
  have fin : ∀ (ta tb tc : Tok) (k : Nat), EP X pins σ Q (.ref s.heap.objs.size) { s with heap := s.heap.push { cls := .type "tuple", data := .seq [.str (Txt.partition a b).1 ta, .str (Txt.partition a b).2.1 tb, .str (Txt.partition a b).2.2 tc].toArray }, toks := k } := fun ta tb tc k =>
    ⟨.ref _, _, I.laid (o := .tup [.str (Txt.partition a b).1, .str (Txt.partition a b).2.1, .str (Txt.partition a b).2.2]) (fun _ _ e => Heap.get?_push_of_some _ e) (Nat.le_refl _) ⟨by show 3 ≤ sizeLine; decide, [.str (Txt.partition a b).1 ta, .str (Txt.partition a b).2.1 tb, .str (Txt.partition a b).2.2 tc], .cons ⟨_, rfl⟩ (.cons ⟨_, rfl⟩ (.cons ⟨_, rfl⟩ .nil)), _, Heap.get?_push_size _ rfl, rfl, 0, rfl⟩, rfl, q _ I.fresh⟩
  have f' := fin
  unfold Txt.partition at f'
  revert f'
  cases occurrences a b 0 a.length 1 with
  | nil => intro f'; exact f' _ _ _ _
  | cons i r => intro f'; exact f' _ _ _ _
end
end L2
set_option maxHeartbeats 4000000
namespace L2
open PySem PySem.Spec PyProof.Rows PySem.Builtin PySem.Builtin.Str
section
variable {X : Cx}
theorem strs_of : ∀ {ts : List Str} {us : List Value}, Vals (ts.map V.str) us → ∃ l : List (Str × Tok), us = strValues l ∧ l.map (·.1) = ts
  | [], _, .nil => ⟨[], rfl, rfl⟩
  | x :: ts, _, .cons r rs => by
    obtain ⟨t, rfl⟩ := (show ∃ t, _ = Value.str x t from r)
    obtain ⟨l, rfl, e⟩ := strs_of (ts := ts) rs
    exact ⟨(x, t) :: l, rfl, by rw [List.map_cons, e]⟩
theorem mt_str_join : MtM X "str.join" (fun x vs H Q => ∃ (b : Str) (a : Addr) (ts : List Str), x = .str b ∧ vs = [.ref a] ∧ H a = some (.lst (ts.map V.str)) ∧ JoinOk b ts = true ∧ Q (.str (Txt.join b ts)) H) := by
  intro pins s σ H x vs v us Q I rx rv h
  obtain ⟨b, a, ts, rfl, rfl, ha, hok, q⟩ := h
  obtain ⟨t, rfl⟩ := (show ∃ t, v = Value.str b t from rx)
  obtain ⟨u, rfl, ru⟩ := rv.one
  cases ru
  obtain ⟨z, its, n, r, hl, e⟩ := I.lstM ha
  obtain ⟨l, rfl, el⟩ := strs_of r
  exact SC.join (l := l) ⟨_, e, rfl, _, rfl⟩ el hok fun t' k => ⟨.str _, H, I.kept (t' := k) (fun _ _ e => e), ⟨t', rfl⟩, q⟩
end
end L2
set_option maxHeartbeats 4000000
namespace L2
open PySem PySem.Spec PyProof.Rows
def tFmt (te : TE) : TE := fun σ H Q => te σ H fun v H1 => ∃ i : Int, v = .int i ∧ i.natAbs.log2 < 1920 ∧ Q (.str (Str.ofString (toString i))) H1
def PJE (X : Cx) (es : List Expr) (T : Str → TE) : Prop :=
  ∀ (pins : List (Addr × Obj)) (s : Shared) (σ : St) (H : Hp) (out : Str) (Q : VK), Inv X pins σ H s → T out σ H Q → wpAny (model X.prog X.w) X.A (joinParts out (evalEach es X.env)) (EP X pins σ Q) X.xe s
def tJ0 : Str → TE := fun out _ H Q => out.length ≤ sizeLine ∧ Q (.str out) H
def tJ1 (te : TE) (T : Str → TE) : Str → TE := fun out σ H Q => te σ H fun v H1 => ∃ y : Str, v = .str y ∧ out.length + y.length ≤ sizeLine ∧ T (out ++ y) σ H1 Q
section
variable {X : Cx} {e e1 e2 : Expr} {es : List Expr} {te : TE} {T : Str → TE} {pos : Pos}
theorem pe_fmt (h : PE X e te) : PE X (.FormattedValue e (-1) none pos) (tFmt te) := by
  intro pins s σ H Q I q
  refine FormattedValue_plain (thn (h pins s σ H _ I q) fun u s1 ⟨v, H1, I1, r1, q1⟩ => ?_)
  obtain ⟨i, rfl, hi, q2⟩ := q1
  obtain ⟨t, rfl⟩ := (show ∃ t, u = Value.int i t from r1)
  exact formatField_int_small hi ⟨.str _, H1, I1.tok _, ⟨_, rfl⟩, q2⟩
theorem pje_nil : PJE X [] tJ0 := fun _ _ _ _ out _ I h => joinParts_nil ⟨.str out, _, I.tok _, ⟨_, rfl⟩, h.2⟩ h.1
theorem pje_cons (h1 : PE X e te) (h2 : PJE X es T) : PJE X (e :: es) (tJ1 te T) := by
  intro pins s σ H out Q I h
  refine joinParts_cons (thn (h1 pins s σ H _ I h) fun u s1 ⟨v, H1, I1, r1, q1⟩ => ?_)
  obtain ⟨y, rfl, hz, q2⟩ := q1
  obtain ⟨t, rfl⟩ := (show ∃ t, u = Value.str y t from r1)
  have hl : (out ++ y).length = out.length + y.length := strLen_append _ _
  exact ⟨by omega, h2 pins s1 σ H1 (out ++ y) Q I1 q2⟩
theorem pe_joined (h : PJE X (e1 :: e2 :: es) T) : PE X (.JoinedStr (e1 :: e2 :: es) pos) (T Str.empty) := by
  intro pins s σ H Q I q
  exact JoinedStr_many (h pins s σ H Str.empty Q I q)
end
end L2
set_option maxHeartbeats 4000000
namespace L2
open PySem PySem.Spec PyProof.Rows PySem.Builtin PySem.Builtin.Str
def cutS (x : Str) (lo hi : Option Int) : Str := if (strSliceIndices lo hi 1 x.length).length == x.length then x else ⟨((strSliceIndices lo hi 1 x.length).filterMap (x.cps[·]?)).toArray⟩
section
variable {X : Cx}
theorem part_of {v : Value} {o : Option Int} (h : IsPart v o) : ∃ p : Option (Int × Tok), v = partValue p ∧ p.map (·.1) = o := by
  cases h with
  | none => exact ⟨none, rfl, rfl⟩
  | int i t => exact ⟨some (i, t), rfl, rfl⟩
theorem sl_str : SlR X (fun x lo hi H Q => ∃ a : Str, x = .str a ∧ (cutS a lo hi).length ≤ sizeLine ∧ Q (.str (cutS a lo hi)) H) := by
  intro pins s σ H x v vl vu lo hi sl Q I rx hs pl pu h
  obtain ⟨a, rfl, hz, q⟩ := h
  obtain ⟨t, rfl⟩ := (show ∃ t, v = Value.str a t from rx)
  obtain ⟨p1, rfl, e1⟩ := part_of pl
  obtain ⟨p2, rfl, e2⟩ := part_of pu
  refine ⟨"str", _, F.slot_str_getitem.lookup, typeIs_str _ _ _, ?_⟩
  refine wpAny_getItem_str_slice (l := p1) (u := p2) (st := none) hs rfl ?_
  unfold sliceMade slicePicked
  rw [e1, e2]
  unfold cutS at q hz
  by_cases c : ((strSliceIndices lo hi 1 a.length).length == a.length) = true
  · rw [if_pos c] at q
    have c' : ((Option.map (·.1) (none : Option (Int × Tok))).getD 1 == 1 && (strSliceIndices lo hi ((Option.map (·.1) (none : Option (Int × Tok))).getD 1) a.length).length == a.length) = true := by
      show (true && _) = true
      rw [Bool.true_and]; exact c
    rw [if_pos c']
    exact ⟨.str a, H, I, ⟨t, rfl⟩, q⟩
  · rw [if_neg c] at q hz
    have c' : ¬ ((Option.map (·.1) (none : Option (Int × Tok))).getD 1 == 1 && (strSliceIndices lo hi ((Option.map (·.1) (none : Option (Int × Tok))).getD 1) a.length).length == a.length) = true := by
      show ¬ (true && _) = true
      rw [Bool.true_and]; exact c
    rw [if_neg c']
    exact ⟨hz, .str _, H, I.tok _, ⟨_, rfl⟩, q⟩
end
end L2
set_option maxHeartbeats 4000000
namespace L2
open PySem PySem.Spec PyProof.Rows PySem.Builtin PySem.Builtin.Str
section
variable {X : Cx}
theorem op_rep_str : OpR X (binaryOp .Mult) (fun x y H Q => ∃ (a : Str) (n : Int), x = .str a ∧ y = .int n ∧ MulOk a n ∧ Q (.str (Txt.mul a n)) H) := by
  intro pins s σ H x y v u Q I rx ry h
  obtain ⟨a, n, rfl, rfl, hok, q⟩ := h
  obtain ⟨t, rfl⟩ := (show ∃ t, v = Value.str a t from rx)
  obtain ⟨t2, rfl⟩ := (show ∃ t, u = Value.int n t from ry)
  exact SB.mul hok fun t' k => ⟨.str _, H, I.kept (t' := k) (fun _ _ e => e), ⟨t', rfl⟩, q⟩
end
end L2
set_option maxHeartbeats 1000000
namespace Tx
open PySem PySem.Builtin PySem.Builtin.Str PySem.W PySem.NumText L2
def star : Str := ⟨#[42]⟩
def blank : Str := ⟨#[32]⟩
def figs : Str := ⟨#[48, 49, 50, 51, 52, 53, 54, 55, 56, 57]⟩
theorem star_eq : ("*" : Str) = star := by decide +kernel
theorem blank_eq : (" " : Str) = blank := by decide +kernel
theorem figs_eq : ("0123456789" : Str) = figs := by decide +kernel
theorem empty_eq : ("" : Str) = Str.empty := by decide +kernel
theorem ext {a b : Str} (h : a.cps.toList = b.cps.toList) : a = b := Str.ext' (Array.toList_inj.mp h)
theorem len (a : Str) : a.length = a.cps.toList.length := by simp [Str.length]
theorem isEmpty_iff (a : Str) : a = Str.empty ↔ a.cps.toList = [] := ⟨fun h => by rw [h]; rfl, fun h => ext h⟩
theorem figs_has (c : Nat) : figs.cps.contains c = decide (48 ≤ c ∧ c ≤ 57) := by
  rw [Bool.eq_iff_iff, decide_eq_true_iff]
  simp [figs]
  omega
theorem tw_all {p : Nat → Bool} : ∀ {l : List Nat}, (∀ c ∈ l, p c = true) → l.takeWhile p = l
  | [], _ => rfl
  | c :: l, h => by rw [List.takeWhile_cons_of_pos (h c (by simp)), tw_all fun d hd => h d (by simp [hd])]
theorem tw_not {p : Nat → Bool} : ∀ {l : List Nat}, (∃ c ∈ l, p c = false) → (l.takeWhile p).length < l.length
  | [], h => by obtain ⟨c, hc, _⟩ := h; cases hc
  | c :: l, h => by
    by_cases hp : p c = true
    · rw [List.takeWhile_cons_of_pos hp]
      have : ∃ d ∈ l, p d = false := by
        obtain ⟨d, hd, e⟩ := h
        rcases List.mem_cons.mp hd with rfl | hd
        · rw [hp] at e; cases e
        · exact ⟨d, hd, e⟩
      have := tw_not this
      simp only [List.length_cons]
      omega
    · rw [List.takeWhile_cons_of_neg hp]
      simp
theorem dw_head {p : Nat → Bool} : ∀ {l : List Nat}, (∃ c ∈ l, p c = false) → ∃ c r, l.drop (l.takeWhile p).length = c :: r ∧ p c = false
  | [], h => by obtain ⟨c, hc, _⟩ := h; cases hc
  | c :: l, h => by
    by_cases hp : p c = true
    · rw [List.takeWhile_cons_of_pos hp]
      have : ∃ d ∈ l, p d = false := by
        obtain ⟨d, hd, e⟩ := h
        rcases List.mem_cons.mp hd with rfl | hd
        · rw [hp] at e; cases e
        · exact ⟨d, hd, e⟩
      simpa using dw_head this
    · rw [List.takeWhile_cons_of_neg hp]
      exact ⟨c, l, rfl, by simpa using hp⟩
theorem stripV_eq (x y : Str) : stripV x y = strSub x (stripLo y.cps.contains true x) (stripHi y.cps.contains true x (stripLo y.cps.contains true x)) := PyProof.Rows.stripBy_eq _ _ _ _
def allD (x : Str) : Bool := x.cps.toList.all fun c => decide (48 ≤ c ∧ c ≤ 57)
theorem allD_iff (x : Str) : allD x = true ↔ AllDigits x.cps.toList := by
  unfold allD AllDigits
  generalize x.cps.toList = l
  simp
theorem strip_figs (x : Str) : stripV x figs = Str.empty ↔ allD x = true := by
  rw [isEmpty_iff, stripV_eq, StrLaws.strSub_toList]
  have hg : (fun c => figs.cps.contains c) = fun c => decide (48 ≤ c ∧ c ≤ 57) := funext figs_has
  have hg' : figs.cps.contains = fun c => decide (48 ≤ c ∧ c ≤ 57) := hg
  rw [hg']
  unfold stripHi stripLo allD
  simp only [if_true, len]
  generalize x.cps.toList = l
  generalize (fun c => decide (48 ≤ c ∧ c ≤ 57) : Nat → Bool) = p
  by_cases h : ∀ c ∈ l, p c = true
  · have h1 := tw_all h
    rw [h1]
    simp [h]
    exact h
  · have h' : ∃ c ∈ l, p c = false := by
      simpa using h
    obtain ⟨c, r, e1, e2⟩ := dw_head h'
    have e3 : l.all p = false := by
      obtain ⟨d, hd, e⟩ := h'
      rw [Bool.eq_false_iff]
      intro z
      rw [List.all_eq_true.mp z d hd] at e
      cases e
    rw [e3]
    simp only [Bool.false_eq_true, iff_false]
    intro z
    have l1 : (l.drop (l.takeWhile p).length).length = l.length - (l.takeWhile p).length := List.length_drop
    have l2 : ((l.drop (l.takeWhile p).length).reverse.takeWhile p).length < (l.drop (l.takeWhile p).length).reverse.length := tw_not ⟨c, by rw [e1]; simp, e2⟩
    rw [List.length_reverse] at l2
    have l3 := congrArg List.length z
    rw [List.length_take, l1] at l3
    simp only [List.length_nil] at l3
    omega
def isNum (x : Str) : Bool := decide (1 ≤ x.length) && decide (x.length ≤ 7) && allD x && (decide (x.cps.toList = [48]) || !decide (x.cps.toList.head? = some 48))
def numV (x : Str) : Int := ((digitsVal x.cps.toList : Nat) : Int)
theorem isNum_intText {x : Str} (h : isNum x = true) : PySem.intText? x = some (numV x) := by
  unfold isNum at h
  simp only [Bool.and_eq_true, decide_eq_true_iff] at h
  obtain ⟨⟨⟨h1, h2⟩, h3⟩, _⟩ := h
  refine intText_digits ((allD_iff x).mp h3) ?_ (by omega)
  intro z
  rw [len, z] at h1
  simp at h1
theorem dv_snoc (l : List Nat) (c : Nat) : digitsVal (l ++ [c]) = digitsVal l * 10 + (c - 48) := by simp [digitsVal]
theorem dv_pos {c : Nat} {l : List Nat} (h : 48 < c) : 0 < digitsVal (c :: l) := by
  have : ∀ (l : List Nat) (n : Nat), 0 < n → 0 < l.foldl (fun acc c => acc * 10 + (c - 48)) n := by
    intro l
    induction l with
    | nil => intro n h; exact h
    | cons d l ih => intro n h; exact ih _ (by show 0 < n * 10 + (d - 48); omega)
  exact this l _ (by show 0 < 0 * 10 + (c - 48); omega)
theorem snoc_ind {P : List Nat → Prop} (h0 : P []) (h1 : ∀ l c, P l → P (l ++ [c])) : ∀ l, P l := by
  intro l
  have : ∀ r : List Nat, P r.reverse := by
    intro r
    induction r with
    | nil => exact h0
    | cons c r ih => rw [List.reverse_cons]; exact h1 _ _ ih
  have e := this l.reverse
  rwa [List.reverse_reverse] at e
theorem dv_lt : ∀ l : List Nat, AllDigits l → digitsVal l < 10 ^ l.length := by
  refine snoc_ind (fun _ => by decide) fun l c ih h => ?_
  have h1 := ih fun d hd => h d (by simp [hd])
  have h2 := h c (by simp)
  rw [dv_snoc, List.length_append, Nat.pow_add]
  simp only [List.length_singleton]
  omega
theorem dc (c : Nat) (h : 48 ≤ c ∧ c ≤ 57) : (Nat.digitChar (c - 48)).toNat = c := by
  have : ∀ d : Nat, d < 10 → (Nat.digitChar d).toNat = d + 48 := by decide
  rw [this _ (by omega)]
  omega
theorem dig_back : ∀ l : List Nat, AllDigits l → l ≠ [] → (l = [48] ∨ l.head? ≠ some 48) → (Nat.toDigits 10 (digitsVal l)).map Char.toNat = l := by
  refine snoc_ind (fun _ h => absurd rfl h) fun l c ih h _ hz => ?_
  have h2 := h c (by simp)
  have h3 : AllDigits l := fun d hd => h d (by simp [hd])
  by_cases hl : l = []
  · subst hl
    have e : digitsVal ([] ++ [c]) = c - 48 := by rw [dv_snoc]; simp [digitsVal]
    rw [e, Nat.toDigits_of_lt_base (by omega)]
    show [(Nat.digitChar (c - 48)).toNat] = [c]
    rw [dc c h2]
  · obtain ⟨d, r, rfl⟩ : ∃ d r, l = d :: r := by
      cases l with
      | nil => exact absurd rfl hl
      | cons d r => exact ⟨d, r, rfl⟩
    have hd : d ≠ 48 := by
      rcases hz with z | z
      · have := congrArg List.length z
        simp at this
      · simpa using z
    have h4 := h3 d (by simp)
    have hp : 0 < digitsVal (d :: r) := dv_pos (by omega)
    have e := ih h3 hl (.inr (by simpa using hd))
    rw [dv_snoc, Nat.mul_comm, ← Nat.toDigits_append_toDigits (by decide) hp (by omega), List.map_append, e, Nat.toDigits_of_lt_base (by omega)]
    show _ ++ [(Nat.digitChar (c - 48)).toNat] = _
    rw [dc c h2]
theorem isNum_text {x : Str} (h : isNum x = true) : x = Str.ofString (toString (numV x)) := by
  unfold isNum at h
  simp only [Bool.and_eq_true, decide_eq_true_iff, Bool.or_eq_true, Bool.not_eq_true', decide_eq_false_iff_not] at h
  obtain ⟨⟨⟨h1, h2⟩, h3⟩, h4⟩ := h
  have hne : x.cps.toList ≠ [] := by
    intro z
    rw [len, z] at h1
    simp at h1
  refine ext ?_
  unfold numV
  rw [KIN.signs_num]
  exact (dig_back _ ((allD_iff x).mp h3) hne h4).symm
theorem numV_nn (x : Str) : 0 ≤ numV x := Int.natCast_nonneg _
theorem numV_lt {x : Str} (h : isNum x = true) : numV x < 10000000 := by
  unfold isNum at h
  simp only [Bool.and_eq_true, decide_eq_true_iff] at h
  obtain ⟨⟨⟨h1, h2⟩, h3⟩, _⟩ := h
  have a := dv_lt _ ((allD_iff x).mp h3)
  rw [len] at h2
  have b : 10 ^ x.cps.toList.length ≤ 10 ^ 7 := Nat.pow_le_pow_right (by decide) h2
  unfold numV
  have : (10 : Nat) ^ 7 = 10000000 := by decide
  omega
theorem isNum_free {x : Str} (h : isNum x = true) : 42 ∉ x.cps.toList := by
  unfold isNum at h
  simp only [Bool.and_eq_true] at h
  intro z
  have := (allD_iff x).mp h.1.2 42 z
  omega
def rdW (w : Str) : Option (Int × Int) :=
  if (Txt.partition w star).2.1 ≠ Str.empty ∧ isNum (Txt.partition w star).1 = true ∧ isNum (Txt.partition w star).2.2 = true ∧ numV (Txt.partition w star).1 ≤ 999 ∧ numV (Txt.partition w star).2.2 ≠ 0
  then some (numV (Txt.partition w star).1, numV (Txt.partition w star).2.2) else none
def tx (p : Int × Int) : Str := Str.ofString (toString p.1) ++ star ++ Str.ofString (toString p.2)
theorem part_sign (w : Str) : (Txt.partition w star).2.1 = Str.empty ∨ (Txt.partition w star).2.1 = star := by
  unfold Txt.partition
  cases occurrences w star 0 w.length 1 with
  | nil => exact .inl rfl
  | cons i r => exact .inr rfl
theorem rdW_tx {w : Str} {p : Int × Int} (h : rdW w = some p) : w = tx p ∧ 0 ≤ p.1 ∧ p.1 ≤ 999 ∧ 1 ≤ p.2 ∧ p.2 < 10000000 := by
  unfold rdW at h
  split at h
  · rename_i c
    obtain ⟨c1, c2, c3, c4, c5⟩ := c
    cases h
    have hs := (part_sign w).resolve_left c1
    have e := PySem.StrLaws.partition_sum w star
    rw [hs] at e
    refine ⟨?_, numV_nn _, c4, ?_, numV_lt c3⟩
    · unfold tx
      rw [← isNum_text c2, ← isNum_text c3]
      exact e.symm
    · have := numV_nn (Txt.partition w star).2.2
      show 1 ≤ numV _
      omega
  · cases h
theorem cps_app (a b : Str) : (a ++ b).cps.toList = a.cps.toList ++ b.cps.toList := by rw [Str.cps_append, Array.toList_append]
theorem first_split {p q a b : List Nat} : p ++ 42 :: q = a ++ 42 :: b → 42 ∉ p → 42 ∉ a → p = a ∧ q = b := by
  induction p generalizing a with
  | nil =>
    intro e _ ha
    cases a with
    | nil => exact ⟨rfl, by simpa using e⟩
    | cons c a =>
      simp at e
      exact absurd (by simp [e.1]) ha
  | cons c p ih =>
    intro e hp ha
    cases a with
    | nil =>
      simp at e
      exact absurd (by simp [e.1]) hp
    | cons d a =>
      simp at e
      obtain ⟨h1, h2⟩ := ih e.2 (fun z => hp (by simp [z])) (fun z => ha (by simp [z]))
      rw [e.1, h1]
      exact ⟨rfl, h2⟩
theorem star_l : star.cps.toList = [42] := rfl
theorem part_free {w : Str} : 42 ∉ (Txt.partition w star).1.cps.toList := by
  have at_of : ∀ i, w.cps.toList[i]? = some 42 → StrLaws.At w star w.length i := fun i h => (StrLaws.subAt_one w 42 i).mpr h
  intro z
  rcases PyProof.Rows.partition_head w star with ⟨e, n⟩ | ⟨i, e, _, n⟩
  · rw [e] at z
    obtain ⟨i, hi, e2⟩ := List.getElem_of_mem z
    exact n i (at_of i (by rw [List.getElem?_eq_getElem hi, e2]))
  · rw [e, StrLaws.strSub_toList, List.drop_zero] at z
    obtain ⟨k, hk, e2⟩ := List.getElem_of_mem z
    rw [List.length_take] at hk
    rw [List.getElem_take] at e2
    exact n k (by omega) (at_of k (by rw [List.getElem?_eq_getElem (by omega), e2]))
theorem part_of {w a b : Str} (h : w = a ++ star ++ b) (ha : 42 ∉ a.cps.toList) : Txt.partition w star = (a, star, b) := by
  have hs : (Txt.partition w star).2.1 = star := by
    refine (part_sign w).resolve_left fun z => ?_
    have f := StrLaws.found_one w 42
    have hm : 42 ∈ w.cps.toList := by rw [h, cps_app, cps_app, star_l]; simp
    rw [decide_eq_true hm] at f
    revert z f
    show (Txt.partition w star).2.1 = Str.empty → (!(occurrences w star 0 w.length 1).isEmpty) = true → False
    unfold Txt.partition
    cases occurrences w star 0 w.length 1 with
    | nil => intro _ f; cases f
    | cons i r => intro z _; exact absurd (show star = Str.empty from z) (by decide)
  have e := StrLaws.partition_sum w star
  rw [hs] at e
  have e2 := congrArg (fun x : Str => x.cps.toList) (e.trans h)
  simp only [cps_app, star_l, List.append_assoc, List.singleton_append] at e2
  obtain ⟨h1, h2⟩ := first_split e2 part_free ha
  exact Prod.ext (ext h1) (Prod.ext hs (ext h2))
theorem rdW_two {w a b : Str} (h : Txt.split w star = [a, b]) : rdW w = if isNum a = true ∧ isNum b = true ∧ numV a ≤ 999 ∧ numV b ≠ 0 then some (numV a, numV b) else none := by
  have hj := StrLaws.join_split w star
  rw [h] at hj
  have ha := StrLaws.split_free w 42 a (by rw [show (⟨#[42]⟩ : Str) = star from rfl, h]; simp)
  have e := part_of (show w = a ++ star ++ b from hj.symm) ha
  unfold rdW
  rw [e]
  have : star ≠ Str.empty := by decide
  simp [this]
theorem rdW_not {w : Str} (h : (Txt.split w star).length ≠ 2) : rdW w = none := by
  cases e : rdW w with
  | none => rfl
  | some p =>
    exfalso
    unfold rdW at e
    split at e
    · rename_i c
      obtain ⟨c1, c2, c3, c4, c5⟩ := c
      have hs := (part_sign w).resolve_left c1
      have e1 := StrLaws.partition_sum w star
      rw [hs] at e1
      have f1 := isNum_free c2
      have f2 := isNum_free c3
      generalize (Txt.partition w star).1 = p1 at *
      generalize (Txt.partition w star).2.2 = p2 at *
      have hj := StrLaws.join_split w star
      have hfr := StrLaws.split_free w 42
      rw [show (⟨#[42]⟩ : Str) = star from rfl] at hfr
      have hp := PyProof.Rows.split_pos w star
      generalize Txt.split w star = ps at *
      match ps, hp, h, hj, hfr with
      | [a], _, _, hj, hfr =>
        have : a = w := hj
        refine hfr a (by simp) ?_
        rw [this, ← e1, cps_app, cps_app, star_l]
        simp
      | [a, b], _, h, _, _ => exact h rfl
      | a :: b :: c :: r, _, _, hj, hfr =>
        have hj2 : a ++ star ++ (b ++ star ++ Str.join star (c :: r)) = w := hj
        have e2 := congrArg (fun x : Str => x.cps.toList) (e1.trans hj2.symm)
        simp only [cps_app, star_l, List.append_assoc, List.singleton_append] at e2
        obtain ⟨_, h2⟩ := first_split e2 f1 (hfr a (by simp))
        rw [h2] at f2
        simp at f2
    · cases e
def rdP : Option Int → List Str → Option (List (Int × Int))
  | _, [] => some []
  | o, w :: ws => match rdW w with
    | none => none
    | some p => if o = some p.1 then none else (rdP (some p.1) ws).map (p :: ·)
def lastK (acc : List (Int × Int)) : Option Int := acc.getLast?.map (·.1)
def sm (rs : List (Int × Int)) : Int := (rs.map (·.2)).sum
def exL (rs : List (Int × Int)) : List Int := rs.flatMap fun p => List.replicate p.2.toNat p.1
def Rn : Option Int → List (Int × Int) → Prop
  | _, [] => True
  | o, p :: r => o ≠ some p.1 ∧ 0 ≤ p.1 ∧ p.1 ≤ 999 ∧ 1 ≤ p.2 ∧ p.2 < 10000000 ∧ Rn (some p.1) r
theorem rdP_rn : ∀ {ws : List Str} {o : Option Int} {rs : List (Int × Int)}, rdP o ws = some rs → Rn o rs ∧ rs.map tx = ws
  | [], o, rs, h => by cases h; exact ⟨trivial, rfl⟩
  | w :: ws, o, rs, h => by
    unfold rdP at h
    cases e : rdW w with
    | none => rw [e] at h; cases h
    | some p =>
      rw [e] at h
      simp only at h
      split at h
      · cases h
      · rename_i ho
        obtain ⟨r, hr, rfl⟩ := Option.map_eq_some_iff.mp h
        obtain ⟨h1, h2⟩ := rdP_rn hr
        obtain ⟨t1, t2, t3, t4, t5⟩ := rdW_tx e
        exact ⟨⟨ho, t2, t3, t4, t5, h1⟩, by rw [List.map_cons, h2, ← t1]⟩
theorem Rn.snoc : ∀ {acc : List (Int × Int)} {o : Option Int} {p : Int × Int}, Rn o acc → (if acc = [] then o else lastK acc) ≠ some p.1 → 0 ≤ p.1 → p.1 ≤ 999 → 1 ≤ p.2 → p.2 < 10000000 → Rn o (acc ++ [p])
  | [], o, p, _, h, h1, h2, h3, h4 => ⟨by simpa using h, h1, h2, h3, h4, trivial⟩
  | q :: r, o, p, hr, h, h1, h2, h3, h4 => by
    obtain ⟨a, b, c, d, e, f⟩ := hr
    refine ⟨a, b, c, d, e, Rn.snoc f ?_ h1 h2 h3 h4⟩
    cases r with
    | nil => simpa [lastK] using h
    | cons q2 r => simpa [lastK] using h
theorem sm_app (a b : List (Int × Int)) : sm (a ++ b) = sm a + sm b := by simp [sm]
theorem sm_nn : ∀ {rs : List (Int × Int)} {o : Option Int}, Rn o rs → 0 ≤ sm rs
  | [], _, _ => by simp [sm]
  | p :: r, o, h => by
    have := sm_nn h.2.2.2.2.2
    have := h.2.2.2.1
    show 0 ≤ p.2 + sm r
    omega
theorem len_exL : ∀ {rs : List (Int × Int)} {o : Option Int}, Rn o rs → ((exL rs).length : Int) = sm rs
  | [], _, _ => by simp [sm, exL]
  | p :: r, o, h => by
    have e := len_exL h.2.2.2.2.2
    have h1 := h.2.2.2.1
    have : exL (p :: r) = List.replicate p.2.toNat p.1 ++ exL r := rfl
    rw [this, List.length_append, List.length_replicate]
    show _ = p.2 + sm r
    omega
theorem exL_snoc (acc : List (Int × Int)) (p : Int × Int) : exL (acc ++ [p]) = exL acc ++ List.replicate p.2.toNat p.1 := by simp [exL]
theorem exL_last {acc : List (Int × Int)} {o : Option Int} (h : Rn o acc) : (exL acc).getLast? = lastK acc := by
  induction acc generalizing o with
  | nil => rfl
  | cons p r ih =>
    have : exL (p :: r) = List.replicate p.2.toNat p.1 ++ exL r := rfl
    rw [this]
    have h1 := h.2.2.2.1
    cases r with
    | nil =>
      obtain ⟨n, hn⟩ : ∃ n, p.2.toNat = n + 1 := ⟨p.2.toNat - 1, by omega⟩
      rw [hn]
      simp [exL, lastK, List.getLast?_replicate]
    | cons q r =>
      have e := ih h.2.2.2.2.2
      rw [List.getLast?_append, e]
      have e2 : lastK (p :: q :: r) = lastK (q :: r) := by simp [lastK]
      rw [e2]
      have e3 : ∃ z, lastK (q :: r) = some z := by
        unfold lastK
        rw [List.getLast?_eq_some_getLast (List.cons_ne_nil q r)]
        exact ⟨_, rfl⟩
      obtain ⟨z, hz⟩ := e3
      rw [hz]
      rfl
theorem exL_kinds : ∀ {rs : List (Int × Int)} {o : Option Int}, Rn o rs → ∀ n ∈ exL rs, 0 ≤ n ∧ n ≤ 999
  | [], _, _, n, hn => by simp [exL] at hn
  | p :: r, o, h, n, hn => by
    have : exL (p :: r) = List.replicate p.2.toNat p.1 ++ exL r := rfl
    rw [this, List.mem_append] at hn
    rcases hn with z | z
    · rw [(List.mem_replicate.mp z).2]; exact ⟨h.2.1, h.2.2.1⟩
    · exact exL_kinds h.2.2.2.2.2 n z
def runsI : List Int → List (Int × Int)
  | [] => []
  | x :: r => match runsI r with
    | (y, m) :: q => if x = y then (y, m + 1) :: q else (x, 1) :: (y, m) :: q
    | [] => [(x, 1)]
theorem runs_ex : ∀ {rs : List (Int × Int)} {o : Option Int}, Rn o rs → runsI (exL rs) = rs
  | [], _, _ => rfl
  | (k, m) :: r, o, h => by
    have e := runs_ex h.2.2.2.2.2
    have h1 : 1 ≤ m := h.2.2.2.1
    have step : ∀ n : Nat, runsI (List.replicate (n + 1) k ++ exL r) = (k, (n : Int) + 1) :: r := by
      intro n
      induction n with
      | zero =>
        show (match runsI (exL r) with | (y, m) :: q => if k = y then (y, m + 1) :: q else (k, 1) :: (y, m) :: q | [] => [(k, 1)]) = _
        rw [e]
        cases r with
        | nil => rfl
        | cons p q =>
          obtain ⟨y, m2⟩ := p
          have hy : k ≠ y := fun z => h.2.2.2.2.2.1 (by rw [z])
          simp [hy]
      | succ n ih =>
        show (match runsI (List.replicate (n + 1) k ++ exL r) with | (y, m) :: q => if k = y then (y, m + 1) :: q else (k, 1) :: (y, m) :: q | [] => [(k, 1)]) = _
        rw [ih]
        simp
    have := step (m.toNat - 1)
    have e3 : m.toNat - 1 + 1 = m.toNat := by omega
    have e4 : ((m.toNat - 1 : Nat) : Int) + 1 = m := by omega
    rw [e3, e4] at this
    exact this
def minus : Str := ⟨#[45]⟩
theorem minus_eq : ("-" : Str) = minus := by decide +kernel
def rdT (t : Str) : Option (List (Int × Int)) := if t = minus then some [] else match rdP none (Txt.split t blank) with
  | none => none
  | some rs => if sm rs ≤ 1000000 then some rs else none
theorem rdT_some {t : Str} {rs : List (Int × Int)} (h : rdT t = some rs) : Rn none rs ∧ sm rs ≤ 1000000 ∧ (t = minus → rs = []) ∧ (t ≠ minus → Txt.join blank (rs.map tx) = t ∧ rs ≠ []) := by
  unfold rdT at h
  split at h
  · rename_i e
    cases h
    exact ⟨trivial, by simp [sm], fun _ => rfl, fun n => absurd e n⟩
  · rename_i ne
    split at h
    · cases h
    · rename_i rs' e
      split at h
      · rename_i hs
        cases h
        obtain ⟨h1, h2⟩ := rdP_rn e
        refine ⟨h1, hs, fun z => absurd z ne, fun _ => ⟨?_, ?_⟩⟩
        · rw [h2]
          exact (StrLaws.glued_eq_join blank _).trans (StrLaws.join_split t blank)
        · intro z
          have hp := PyProof.Rows.split_pos t blank
          rw [← h2, z] at hp
          simp at hp
      · cases h
def At (ws : List Str) (i : Nat) (acc : List (Int × Int)) : Prop := Rn none acc ∧ rdP none ws = (rdP (lastK acc) (ws.drop i)).map (acc ++ ·)
theorem At.zero (ws : List Str) : At ws 0 [] := ⟨trivial, by
  show rdP none ws = (rdP none ws).map ([] ++ ·)
  simp⟩
theorem At.nop {ws : List Str} {i : Nat} {acc : List (Int × Int)} {w : Str} (h : At ws i acc) (hw : ws[i]? = some w) (e : rdW w = none) : rdP none ws = none := by
  obtain ⟨hi, e2⟩ := List.getElem?_eq_some_iff.mp hw
  rw [h.2, List.drop_eq_getElem_cons hi, e2]
  simp [rdP, e]
theorem At.same {ws : List Str} {i : Nat} {acc : List (Int × Int)} {w : Str} {p : Int × Int} (h : At ws i acc) (hw : ws[i]? = some w) (e : rdW w = some p) (hk : lastK acc = some p.1) : rdP none ws = none := by
  obtain ⟨hi, e2⟩ := List.getElem?_eq_some_iff.mp hw
  rw [h.2, List.drop_eq_getElem_cons hi, e2]
  simp [rdP, e, hk]
theorem At.next {ws : List Str} {i : Nat} {acc : List (Int × Int)} {w : Str} {p : Int × Int} (h : At ws i acc) (hw : ws[i]? = some w) (e : rdW w = some p) (hk : lastK acc ≠ some p.1) : At ws (i + 1) (acc ++ [p]) := by
  obtain ⟨hi, e2⟩ := List.getElem?_eq_some_iff.mp hw
  obtain ⟨_, t2, t3, t4, t5⟩ := rdW_tx e
  refine ⟨h.1.snoc ?_ t2 t3 t4 t5, ?_⟩
  · split
    · rename_i z
      rw [z] at hk
      exact hk
    · exact hk
  · rw [h.2, List.drop_eq_getElem_cons hi, e2]
    have : lastK (acc ++ [p]) = some p.1 := by simp [lastK]
    rw [this]
    simp only [rdP, e, if_neg hk, Option.map_map]
    congr 1
    funext x
    simp
theorem At.done {ws : List Str} {acc : List (Int × Int)} (h : At ws ws.length acc) : rdP none ws = some acc := by
  rw [h.2]
  simp [rdP]
theorem At.over {ws : List Str} {i : Nat} {acc : List (Int × Int)} (h : At ws i acc) (hs : 1000000 < sm acc) : ∀ rs, rdP none ws = some rs → ¬ sm rs ≤ 1000000 := by
  intro rs e
  have e0 := (rdP_rn e).1
  rw [h.2] at e
  obtain ⟨r, hr, rfl⟩ := Option.map_eq_some_iff.mp e
  have := sm_nn (rdP_rn hr).1
  rw [sm_app]
  omega
structure RA (ns : List Int) (i st : Nat) (acc : List (Int × Int)) : Prop where
  rn : Rn none acc
  ex : exL acc = ns.take st
  go : i < ns.length → st ≤ i ∧ (∀ j, st ≤ j → j ≤ i → ns.getD j 0 = ns.getD st 0) ∧ lastK acc ≠ some (ns.getD st 0)
  fin : i = ns.length → st = i
theorem RA.zero (ns : List Int) : RA ns 0 0 [] := ⟨trivial, by simp [exL], fun _ => ⟨Nat.le_refl _, fun j _ h => by rw [Nat.le_zero.mp h], by simp [lastK]⟩, fun _ => rfl⟩
theorem RA.keep {ns : List Int} {i st : Nat} {acc : List (Int × Int)} (h : RA ns i st acc) (hi : i + 1 < ns.length) (e : ns.getD (i + 1) 0 = ns.getD st 0) : RA ns (i + 1) st acc := by
  obtain ⟨g1, g2, g3⟩ := h.go (by omega)
  refine ⟨h.rn, h.ex, fun _ => ⟨by omega, fun j h1 h2 => ?_, g3⟩, fun z => by omega⟩
  rcases Nat.lt_or_ge j (i + 1) with z | z
  · exact g2 j h1 (by omega)
  · rw [show j = i + 1 by omega]; exact e
theorem RA.cut {ns : List Int} {i st : Nat} {acc : List (Int × Int)} (h : RA ns i st acc) (hi : i < ns.length) (hl : ns.length ≤ 1000000) (hb : ∀ n ∈ ns, 0 ≤ n ∧ n ≤ 999) (e : i + 1 = ns.length ∨ ns.getD (i + 1) 0 ≠ ns.getD st 0) :
    RA ns (i + 1) (i + 1) (acc ++ [(ns.getD st 0, ((i + 1 : Nat) : Int) - st)]) := by
  obtain ⟨g1, g2, g3⟩ := h.go hi
  have hst : ns.getD st 0 ∈ ns := by
    rw [List.getD_eq_getElem?_getD, List.getElem?_eq_getElem (by omega)]
    exact List.getElem_mem _
  have hk := hb _ hst
  refine ⟨h.rn.snoc ?_ hk.1 hk.2 (by show (1 : Int) ≤ _; omega) (by show _ < (10000000 : Int); omega), ?_, fun hi2 => ⟨Nat.le_refl _, fun j h1 h2 => by rw [show j = i + 1 by omega], ?_⟩, fun _ => rfl⟩
  · split
    · intro z; cases z
    · exact g3
  · rw [exL_snoc, h.ex]
    have e1 : ns.take (i + 1) = ns.take st ++ (ns.drop st).take (i + 1 - st) := by
      conv => lhs; rw [show i + 1 = st + (i + 1 - st) by omega]
      rw [List.take_add]
    rw [e1]
    congr 1
    symm
    have e2 : (((i + 1 : Nat) : Int) - (st : Int)).toNat = i + 1 - st := by omega
    show _ = List.replicate (((i + 1 : Nat) : Int) - (st : Int)).toNat (ns.getD st 0)
    rw [e2, List.eq_replicate_iff]
    refine ⟨by rw [List.length_take, List.length_drop]; omega, fun b hb2 => ?_⟩
    obtain ⟨j, hj, e3⟩ := List.getElem_of_mem hb2
    rw [List.length_take, List.length_drop] at hj
    rw [List.getElem_take, List.getElem_drop] at e3
    have := g2 (st + j) (by omega) (by omega)
    rw [← this, List.getD_eq_getElem?_getD, List.getElem?_eq_getElem (by omega)]
    exact e3.symm
  · have : lastK (acc ++ [(ns.getD st 0, ((i + 1 : Nat) : Int) - st)]) = some (ns.getD st 0) := by simp [lastK]
    rw [this]
    intro z
    rcases e with e | e
    · omega
    · exact e (Option.some.inj z).symm
theorem RA.done {ns : List Int} {st : Nat} {acc : List (Int × Int)} (h : RA ns ns.length st acc) : runsI ns = acc := by
  have e := h.ex
  rw [h.fin rfl, List.take_length] at e
  rw [← e]
  exact runs_ex h.rn
theorem RA.len {ns : List Int} {i st : Nat} {acc : List (Int × Int)} (h : RA ns i st acc) : acc.length ≤ ns.length := by
  have e := len_exL h.rn
  have e2 : ∀ {rs : List (Int × Int)} {o : Option Int}, Rn o rs → (rs.length : Int) ≤ sm rs := by
    intro rs
    induction rs with
    | nil => intro o _; simp [sm]
    | cons p r ih =>
      intro o hr
      have := ih hr.2.2.2.2.2
      have := hr.2.2.2.1
      show ((r.length + 1 : Nat) : Int) ≤ p.2 + sm r
      omega
  have := e2 h.rn
  have e3 : (exL acc).length ≤ ns.length := by rw [h.ex, List.length_take]; omega
  omega
end Tx
set_option maxHeartbeats 1000000
namespace K8
open PySem PySem.Spec PyProof.Rows L2 Tl
seal PSs PS PE PT PW PA PG PGs PI PTs PC
section
variable {P : Program} {w : World} {K : PySem.W.Frag} {mg : Str → Option Value} {base : Heap} {Z : Ad}
open Tx
def TsAt (H : Hp) : List Addr → List (Int × Int) → Prop
  | [], [] => True
  | t :: ts, p :: rs => H t = some (.tup [.int p.1, .int p.2]) ∧ TsAt H ts rs
  | _, _ => False
theorem TsAt.mono {H H' : Hp} (h : ∀ t p q, H t = some (.tup [.int p, .int q]) → H' t = some (.tup [.int p, .int q])) : ∀ {ts : List Addr} {rs : List (Int × Int)}, TsAt H ts rs → TsAt H' ts rs
  | [], [], _ => trivial
  | t :: ts, p :: rs, ⟨h1, h2⟩ => ⟨h _ _ _ h1, h2.mono h⟩
  | [], _ :: _, h => h.elim
  | _ :: _, [], h => h.elim
theorem TsAt.same {H H' : Hp} {ts : List Addr} {rs : List (Int × Int)} (h : TsAt H ts rs) (s : Same H H') : TsAt H' ts rs := h.mono fun _ _ _ e => s _ _ e
theorem TsAt.set {H : Hp} {l : Addr} {xs ys : List V} {ts : List Addr} {rs : List (Int × Int)} (h : TsAt H ts rs) (hl : H l = some (.lst xs)) : TsAt (upd H l (.lst ys)) ts rs := h.mono fun t p q e => by
  rw [upd_ne (ne_of e hl (fun z => by cases z))]
  exact e
theorem TsAt.snoc {H : Hp} {t : Addr} {p : Int × Int} (ht : H t = some (.tup [.int p.1, .int p.2])) : ∀ {ts : List Addr} {rs : List (Int × Int)}, TsAt H ts rs → TsAt H (ts ++ [t]) (rs ++ [p])
  | [], [], _ => ⟨ht, trivial⟩
  | _ :: _, _ :: _, ⟨h1, h2⟩ => ⟨h1, h2.snoc ht⟩
  | [], _ :: _, h => h.elim
  | _ :: _, [], h => h.elim
theorem TsAt.len {H : Hp} : ∀ {ts : List Addr} {rs : List (Int × Int)}, TsAt H ts rs → ts.length = rs.length
  | [], [], _ => rfl
  | _ :: _, _ :: _, ⟨_, h2⟩ => congrArg (· + 1) h2.len
  | [], _ :: _, h => h.elim
  | _ :: _, [], h => h.elim
theorem TsAt.get {H : Hp} : ∀ {ts : List Addr} {rs : List (Int × Int)} {j : Nat} {t : Addr}, TsAt H ts rs → ts[j]? = some t → ∃ p, rs[j]? = some p ∧ H t = some (.tup [.int p.1, .int p.2])
  | [], [], j, t, _, h => by simp at h
  | _ :: _, p :: _, 0, t, ⟨h1, _⟩, h => by
    cases (Option.some.inj h : _ = t)
    exact ⟨p, rfl, h1⟩
  | _ :: ts, _ :: rs, j + 1, t, ⟨_, h2⟩, h => h2.get (ts := ts) (rs := rs) (j := j) h
  | [], _ :: _, _, _, h, _ => h.elim
  | _ :: _, [], _, _, h, _ => h.elim
theorem atN {ns : List Int} {j : Nat} (h : j < ns.length) : atI (ns.map V.int) ((j : Nat) : Int) = some (.int (ns.getD j 0)) := by
  have q1 : (ns.map V.int)[j]? = some (.int (ns.getD j 0)) := by
    rw [List.getElem?_map, List.getElem?_eq_getElem h, List.getD_eq_getElem?_getD, List.getElem?_eq_getElem h]
    rfl
  exact atI_nat q1
def sp_runs : Sp := fun vs H Q _ => ∃ (a : Addr) (ns : List Int), vs = [.ref a] ∧ H a = some (.lst (ns.map V.int)) ∧ ns.length ≤ 30000 ∧ (∀ n ∈ ns, 0 ≤ n ∧ n ≤ 999) ∧
  ∀ (l : Addr) (ts : List Addr) (H' : Hp), Same H H' → H l = none → H' l = some (.lst (ts.map V.ref)) → TsAt H' ts (runsI ns) → Q (.ref l) H'
theorem sc_runs : FnScope ["heap", "parts", "start", "place"] ["heap"] (defScope s_runs) := ⟨rfl, rfl, rfl, by decide +kernel, rfl, by decide +kernel, by decide +kernel⟩
theorem ok_runs (T : Txt K mg Z) : FnOk P w K mg base CX0 1 Z.f_runs Z.d_runs ["heap"] sp_runs := by
  refine T.runs.fn.ok sc_runs (fun vs H Q E h => ?_) (fun cdv A outer s H vs Q E hr h => ?_)
  · obtain ⟨a, ns, rfl, _⟩ := h
    rfl
  · obtain ⟨a, ns, rfl, ha, hl, hb, k⟩ := h
    refine ⟨_, (pss_cons (ps_set (i := 1) sc_runs.nd rfl (Or.inl rfl) (pe_lst pa_nil))
      (pss_cons (ps_set (i := 2) sc_runs.nd rfl (Or.inl rfl) pe_int)
      (pss_cons (ps_for PassesOwn.never rfl (pi_range2 rfl T.b_range (pa_cons pe_int (pa_cons (pe_op op_add (pe_callB call_len_seq rfl T.b_len boot_len (pa_cons (pv 0) pa_nil)) pe_int) pa_nil))) (pg_name (i := 3) sc_runs.nd rfl (Or.inl rfl)) (pss_one (ps_if (PW.pt (pw_or (pt_cmpR op_eq (pv 3) (pe_callB call_len_seq rfl T.b_len boot_len (pa_cons (pv 0) pa_nil)) (nomark _)) (pw_or1 (pt_cmpR op_ne (pe_ix ix_list (pv 0) (pv 3) (fun _ _ => rfl)) (pe_ix ix_list (pv 0) (pv 2) (fun _ _ => rfl)) (nomark _))))) (pss_cons (ps_expr (pe_bm PySem.F.plainAttrs_list PySem.F.slot_list_append PySem.F.type_list_append mt_append (pv 1) (pa_cons (pe_tup (pa_cons (pe_ix ix_list (pv 0) (pv 2) (fun _ _ => rfl)) (pa_cons (pe_op op_sub (pv 3) (pv 2)) pa_nil))) pa_nil)))
      (pss_one (ps_set (i := 2) sc_runs.nd rfl (Or.inl rfl) (pv 3)))) pss_nil)))
      (pss_one (ps_ret (pv 1)))))), ?_⟩
    refine ⟨by show 0 ≤ sizeLine; decide, fun l hl0 => ?_⟩
    have s1 : Same H (upd H l (.lst [])) := (Same.refl H).upd hl0
    refine ⟨_, rfl, a, _, rfl, .inl (.of (s1 a _ ha)), _, _, rfl, rfl, 1, _, rfl, ⟨by decide, by decide, by rw [List.length_map]; omega, by rw [List.length_map]; omega⟩, ?_⟩
    have en : (((ns.map V.int).length : Int) + 1 - 1).toNat = ns.length := by rw [List.length_map]; omega
    rw [en]
    refine for_range (lo := 1) (n := ns.length) (fun i σ H2 => ∃ (v : Option V) (st : Nat) (acc : List (Int × Int)) (ts : List Addr), σ = [some (.ref a), some (.ref l), some (.int ((st : Nat) : Int)), v] ∧ Same H H2 ∧ H2 l = some (.lst (ts.map V.ref)) ∧ TsAt H2 ts acc ∧ RA ns i st acc)
      ⟨none, 0, [], [], rfl, s1, upd_same, trivial, RA.zero ns⟩ (fun i σ H2 hi hP => ?_) (fun σ H2 hP => ?_)
    · obtain ⟨v, st, acc, ts, rfl, s2, h2, tA, ra⟩ := hP
      have hst := (ra.go hi).1
      have ei : (1 : Int) + (i : Int) = ((i + 1 : Nat) : Int) := by omega
      rw [ei]
      have ha2 := s2 a _ ha
      refine ⟨_, rfl, _, rfl, a, _, rfl, .inl (.of ha2), rfl, _, rfl, ite2 (fun hc => iteT ?_) (fun hc => ?_)⟩
      · have hc' : V.int ((i + 1 : Nat) : Int) = V.int ((ns.map V.int).length : Int) := of_decide_eq_true hc
        injection hc' with hc'
        rw [List.length_map] at hc'
        have e : i + 1 = ns.length ∨ ns.getD (i + 1) 0 ≠ ns.getD st 0 := .inl (by omega)
        refine ⟨_, rfl, tyL h2, _, rfl, _, rfl, a, _, _, _, rfl, rfl, .of ha2, atN (by omega), _, rfl, _, rfl, _, _, rfl, rfl, by show 2 ≤ sizeLine; decide, fun t ht => ?_⟩
        have htl : t ≠ l := fun z => by rw [z, h2] at ht; cases ht
        have h3 : (upd H2 t (.tup [.int (ns.getD st 0), .int (((i + 1 : Nat) : Int) - (st : Int))])) l = some (.lst (ts.map V.ref)) := by rw [upd_ne (Ne.symm htl)]; exact h2
        have tA3 : TsAt (upd H2 t (.tup [.int (ns.getD st 0), .int (((i + 1 : Nat) : Int) - (st : Int))])) ts acc := tA.mono fun u p q e => by rw [upd_ne (ne_of_none e ht)]; exact e
        refine ⟨l, _, _, rfl, rfl, h3, by rw [List.length_map, tA.len]; exact smallM (by have := ra.len; omega), ?_⟩
        refine ⟨_, rfl, _, i + 1, _, ts ++ [t], rfl, (s2.upd (s2.free ht)).upd hl0, ?_, (tA3.snoc (p := (ns.getD st 0, ((i + 1 : Nat) : Int) - (st : Int))) upd_same).set h3, ra.cut hi (by omega) hb e⟩
        rw [upd_same, List.map_append]
        rfl
      · have hc' : i + 1 < ns.length := by
          rcases Nat.lt_or_ge (i + 1) ns.length with z | z
          · exact z
          · exact absurd (decide_eq_true (show V.int ((i + 1 : Nat) : Int) = V.int ((ns.map V.int).length : Int) by rw [List.length_map]; congr 1; omega)) hc
        refine ⟨_, rfl, _, rfl, a, _, _, _, rfl, rfl, .of ha2, atN hc', _, rfl, _, rfl, a, _, _, _, rfl, rfl, .of ha2, atN (by omega), rfl, _, rfl, ite2 (fun hd => ?_) (fun hd => ?_)⟩
        · have e : i + 1 = ns.length ∨ ns.getD (i + 1) 0 ≠ ns.getD st 0 := .inr fun z => by
            rw [z] at hd
            simp at hd
          refine ⟨_, rfl, tyL h2, _, rfl, _, rfl, a, _, _, _, rfl, rfl, .of ha2, atN (by omega), _, rfl, _, rfl, _, _, rfl, rfl, by show 2 ≤ sizeLine; decide, fun t ht => ?_⟩
          have htl : t ≠ l := fun z => by rw [z, h2] at ht; cases ht
          have h3 : (upd H2 t (.tup [.int (ns.getD st 0), .int (((i + 1 : Nat) : Int) - (st : Int))])) l = some (.lst (ts.map V.ref)) := by rw [upd_ne (Ne.symm htl)]; exact h2
          have tA3 : TsAt (upd H2 t (.tup [.int (ns.getD st 0), .int (((i + 1 : Nat) : Int) - (st : Int))])) ts acc := tA.mono fun u p q e => by rw [upd_ne (ne_of_none e ht)]; exact e
          refine ⟨l, _, _, rfl, rfl, h3, by rw [List.length_map, tA.len]; exact smallM (by have := ra.len; omega), ?_⟩
          refine ⟨_, rfl, _, i + 1, _, ts ++ [t], rfl, (s2.upd (s2.free ht)).upd hl0, ?_, (tA3.snoc (p := (ns.getD st 0, ((i + 1 : Nat) : Int) - (st : Int))) upd_same).set h3, ra.cut hi (by omega) hb e⟩
          rw [upd_same, List.map_append]
          rfl
        · have e : ns.getD (i + 1) 0 = ns.getD st 0 := by
            by_cases z : ns.getD (i + 1) 0 = ns.getD st 0
            · exact z
            · exact absurd (show (!decide (V.int (ns.getD (i + 1) 0) = V.int (ns.getD st 0))) = true by rw [decide_eq_false (fun q => z (V.int.inj q))]; rfl) hd
          exact ⟨_, st, acc, ts, rfl, s2, h2, tA, ra.keep hc' e⟩
    · obtain ⟨v, st, acc, ts, rfl, s2, h2, tA, ra⟩ := hP
      rw [← ra.done] at tA
      exact ⟨_, rfl, k l ts H2 s2 hl0 h2 tA⟩
end
end K8
set_option maxHeartbeats 1000000
namespace K8
open PySem PySem.Spec PyProof.Rows L2 Tl
seal PSs PS PE PT PW PA PG PGs PI PTs PC
section
variable {P : Program} {w : World} {K : PySem.W.Frag} {mg : Str → Option Value} {base : Heap} {Z : Ad}
open Tx
theorem log_ok {i : Int} (h0 : 0 ≤ i) (h1 : i < 10000000000) : i.natAbs.log2 < 1920 := by
  by_cases z : i.natAbs = 0
  · rw [z]; decide
  · rw [Nat.log2_lt z]
    exact Nat.lt_of_lt_of_le (show i.natAbs < 10000000000 by omega) (by decide +kernel)
theorem num_len {i : Int} (h0 : 0 ≤ i) (h1 : i < 10000000000) : (Str.ofString (toString i)).length ≤ 10 := PySem.W.KT.len_num h0 (by omega)
theorem tx_len {p : Int × Int} (h0 : 0 ≤ p.1) (h1 : p.1 ≤ 999) (h2 : 1 ≤ p.2) (h3 : p.2 < 10000000) : (tx p).length ≤ 21 := by
  have a := num_len h0 (by omega)
  have b := num_len (show 0 ≤ p.2 by omega) (by omega)
  unfold tx
  rw [Str.length_append, Str.length_append]
  show _ + 1 + _ ≤ 21
  omega
def ftx (H : Hp) : V → V
  | .ref t => match H t with
    | some (.tup [.int k, .int m]) => .str (tx (k, m))
    | _ => .non
  | _ => .non
theorem ftx_map {H : Hp} : ∀ {ts : List Addr} {rs : List (Int × Int)}, TsAt H ts rs → (ts.map V.ref).map (ftx H) = (rs.map tx).map V.str
  | [], [], _ => rfl
  | t :: ts, p :: rs, ⟨h1, h2⟩ => by
    have e : ftx H (.ref t) = .str (tx p) := by
      show (match H t with | some (.tup [.int k, .int m]) => V.str (tx (k, m)) | _ => .non) = _
      rw [h1]
    rw [List.map_cons, List.map_cons, e, ftx_map h2]
    rfl
  | [], _ :: _, h => h.elim
  | _ :: _, [], h => h.elim
theorem rn_mem : ∀ {rs : List (Int × Int)} {o : Option Int}, Rn o rs → ∀ p ∈ rs, 0 ≤ p.1 ∧ p.1 ≤ 999 ∧ 1 ≤ p.2 ∧ p.2 < 10000000
  | [], _, _, p, h => nomatch h
  | q :: r, o, h, p, hp => by
    rcases List.mem_cons.mp hp with rfl | hp
    · exact ⟨h.2.1, h.2.2.1, h.2.2.2.1, h.2.2.2.2.1⟩
    · exact rn_mem h.2.2.2.2.2 p hp
theorem runsI_len : ∀ ns : List Int, (runsI ns).length ≤ ns.length
  | [] => Nat.le_refl _
  | x :: r => by
    have h := runsI_len r
    unfold runsI
    cases e : runsI r with
    | nil => simp
    | cons p q =>
      rw [e] at h
      obtain ⟨y, m⟩ := p
      simp only
      split
      · simp at h ⊢; omega
      · simp at h ⊢; omega
theorem runsI_mem : ∀ {ns : List Int}, (∀ n ∈ ns, 0 ≤ n ∧ n ≤ 999) → ∀ p ∈ runsI ns, 0 ≤ p.1 ∧ p.1 ≤ 999 ∧ 1 ≤ p.2 ∧ p.2 ≤ ns.length
  | [], _, p, h => nomatch h
  | x :: r, hb, p, hp => by
    have h := runsI_mem (ns := r) fun n hn => hb n (by simp [hn])
    have hx := hb x (by simp)
    unfold runsI at hp
    cases e : runsI r with
    | nil =>
      rw [e] at hp
      simp at hp
      subst hp
      exact ⟨hx.1, hx.2, by show (1 : Int) ≤ 1; decide, by show (1 : Int) ≤ _; rw [List.length_cons]; omega⟩
    | cons q t =>
      obtain ⟨y, m⟩ := q
      rw [e] at hp h
      have h0 := h (y, m) (by simp)
      have hq : ∀ q ∈ t, 0 ≤ q.1 ∧ q.1 ≤ 999 ∧ 1 ≤ q.2 ∧ q.2 ≤ (x :: r).length := fun q hq => by
        have := h q (by simp [hq])
        rw [List.length_cons]
        omega
      simp only at hp h0
      split at hp
      · rcases List.mem_cons.mp hp with rfl | hp
        · rw [List.length_cons]; simp only; omega
        · exact hq p hp
      · rcases List.mem_cons.mp hp with rfl | hp
        · exact ⟨hx.1, hx.2, by show (1 : Int) ≤ 1; decide, by show (1 : Int) ≤ _; rw [List.length_cons]; omega⟩
        · rcases List.mem_cons.mp hp with rfl | hp
          · rw [List.length_cons]; simp only; omega
          · exact hq p hp
def wrT (ns : List Int) : Str := if ns = [] then minus else Txt.join blank ((runsI ns).map tx)
theorem join_ok {ns : List Int} (hl : ns.length ≤ 30000) (hb : ∀ n ∈ ns, 0 ≤ n ∧ n ≤ 999) : JoinOk blank ((runsI ns).map tx) = true := by
  have h := StrLaws.joinFits (sep := blank) (texts := (runsI ns).map tx) (B := 21) (fun y hy => by
    obtain ⟨p, hp, rfl⟩ := List.mem_map.mp hy
    have := runsI_mem hb p hp
    exact tx_len this.1 this.2.1 this.2.2.1 (by omega)) (by
    rw [List.length_map]
    have := runsI_len ns
    show _ * 21 + _ * 1 ≤ _
    omega)
  unfold JoinOk
  rw [h]
  rfl
def sp_written : Sp := fun vs H Q _ => ∃ (a : Addr) (ns : List Int), vs = [.ref a] ∧ H a = some (.lst (ns.map V.int)) ∧ ns.length ≤ 30000 ∧ (∀ n ∈ ns, 0 ≤ n ∧ n ≤ 999) ∧ ∀ H', Same H H' → Q (.str (wrT ns)) H'
theorem sc_written : FnScope ["heap"] ["heap"] (defScope s_written) := ⟨rfl, rfl, rfl, by decide +kernel, rfl, by decide +kernel, by decide +kernel⟩
theorem ok_written (T : Txt K mg Z) : FnOk P w K mg base CX0 5 Z.f_written Z.d_written ["heap"] sp_written := by
  have G_check_heap := ok_check_heap (P := P) (w := w) (base := base) T
  have G_runs := ok_runs (P := P) (w := w) (base := base) T
  refine T.written.fn.ok sc_written (fun vs H Q E h => ?_) (fun cdv A outer s H vs Q E hr h => ?_)
  · obtain ⟨a, ns, rfl, _⟩ := h
    rfl
  · obtain ⟨a, ns, rfl, ha, hl, hb, k⟩ := h
    refine ⟨_, (pss_cons (ps_expr (pe_call G_check_heap (hr.mono (by decide)) rfl T.check_heap.mg T.check_heap.fn.kp T.check_heap.bd .nil pass0 (pa_cons (pv 0) pa_nil)))
      (pss_cons (ps_if (pt_cmpR op_eq (pe_callB call_len_seq rfl T.b_len boot_len (pa_cons (pv 0) pa_nil)) pe_int (nomark _)) (pss_one (ps_ret (pe_glob (v := .str "-") rfl T.k_NO_THINGS ⟨_, rfl⟩))) pss_nil)
      (pss_one (ps_ret (pe_bm PySem.F.plainAttrs_str PySem.F.slot_str_join PySem.F.type_str_join mt_str_join pe_str (pa_cons (pe_lcomp (N := ["kind", "many"]) (cap := [none, none]) rfl (compScope_of (XN := ["heap"]) (xs := (defScope s_written).names) rfl rfl (by decide +kernel)) (pi_list (pe_call G_runs (hr.mono (by decide)) rfl T.runs.mg T.runs.fn.kp T.runs.bd .nil pass0 (pa_cons (pv 0) pa_nil))) (fun _ _ _ => (pg_tupK (K := K) (n := 2) rfl rfl (pgs_cons (pg_name (i := 0) (show (["kind", "many"] : List Str).Nodup by decide +kernel) rfl (Or.inl rfl) (Or.inr rfl)) (pgs_cons (pg_name (i := 1) (show (["kind", "many"] : List Str).Nodup by decide +kernel) rfl (Or.inl rfl) (Or.inr rfl)) pgs_nil)))) (fun _ _ _ => pts_nil) (fun _ _ _ => (pe_joined (pje_cons (pe_fmt (pv 0)) (pje_cons pe_str (pje_cons (pe_fmt (pv 1)) pje_nil)))))) pa_nil)))))), ?_⟩
    refine ⟨_, rfl, a, ns, rfl, ha, by omega, hb, fun H1 s1 => ?_⟩
    refine ⟨_, rfl, a, _, rfl, .inl (.of (s1 a _ ha)), rfl, _, rfl, ite2 (fun hc => ?_) (fun hc => ?_)⟩
    · have e : ns = [] := by
        have := of_decide_eq_true hc
        injection this with this
        rw [List.length_map] at this
        exact List.length_eq_zero_iff.mp (by omega)
      have e2 : wrT ns = ("-" : Str) := by rw [minus_eq]; unfold wrT; rw [if_pos e]
      have := k H1 s1
      rw [e2] at this
      exact this
    · have e : ns ≠ [] := fun z => hc (by rw [z]; rfl)
      refine ⟨rfl, _, rfl, a, ns, rfl, s1 a _ ha, hl, hb, fun l ts H2 s2 hl2 h2 tA => ?_⟩
      refine ⟨l, rfl, ⟨_, .of h2⟩, lc_listM (fun σ => ∃ v1 v2, σ = [v1, v2]) (ftx H2) (by rw [List.length_map, tA.len]; have := runsI_len ns; omega) ⟨none, none, rfl⟩ (.of h2) ?_ ?_⟩
      · rintro i x σ' H3 k2 r hx ⟨v1, v2, rfl⟩ sm hk
        rw [List.getElem?_map] at hx
        cases et : ts[i]? with
        | none => rw [et] at hx; cases hx
        | some t =>
          rw [et] at hx
          cases hx
          obtain ⟨p, hp, ht⟩ := tA.get et
          have ef : ftx H2 (.ref t) = .str (tx p) := by
            show (match H2 t with | some (.tup [.int k, .int m]) => V.str (tx (k, m)) | _ => .non) = _
            rw [ht]
          rw [ef] at hk
          have hm := runsI_mem hb p (List.mem_of_getElem? hp)
          have n1 := num_len hm.1 (by omega)
          have n2 := num_len (show 0 ≤ p.2 by omega) (by omega)
          have z1 : 10 ≤ sizeLine := by decide
          have z2 : 22 ≤ sizeLine := by decide
          have l1 : (Str.empty ++ Str.ofString (toString p.1)).length ≤ 10 := by rw [Str.empty_append]; exact n1
          have l2 : (Str.empty ++ Str.ofString (toString p.1) ++ Str.ofString "*").length ≤ 11 := by
            rw [Str.length_append]
            have : (Str.ofString "*").length = 1 := by decide +kernel
            omega
          refine ⟨t, _, rfl, .of (sm t _ ht), rfl, _, _, rfl, _, _, rfl, rfl, ?_⟩
          refine ⟨_, rfl, p.1, rfl, log_ok hm.1 (by omega), _, rfl, by show 0 + _ ≤ _; omega, ?_⟩
          refine ⟨_, rfl, ?_, _, rfl, p.2, rfl, log_ok (by omega) (by omega), _, rfl, by omega, ?_⟩
          · have : (Str.ofString "*").length = 1 := by decide +kernel
            omega
          refine ⟨by rw [Str.length_append]; omega, ?_⟩
          have et : Str.empty ++ Str.ofString (toString p.1) ++ Str.ofString "*" ++ Str.ofString (toString p.2) = tx p := by
            rw [Str.empty_append, star_eq]
            rfl
          rw [et]
          exact hk _ _ ⟨_, _, rfl⟩ (Same.refl _)
      · intro D H3 hD sm hA
        rw [ftx_map tA] at hA
        refine ⟨_, D, _, rfl, rfl, hA, ?_, ?_⟩
        · rw [blank_eq]; exact join_ok hl hb
        · have := k H3 (s1.trans (s2.trans sm))
          unfold wrT at this
          rw [if_neg e] at this
          rw [blank_eq]
          exact this
end
end K8
set_option maxHeartbeats 1000000
namespace K8
open PySem PySem.Spec PyProof.Rows L2 Tl
seal PSs PS PE PT PW PA PG PGs PI PTs PC
section
variable {P : Program} {w : World} {K : PySem.W.Frag} {mg : Str → Option Value} {base : Heap} {Z : Ad}
open Tx
theorem zero_eq : ("0" : Str) = (⟨#[48]⟩ : Str) := by decide +kernel
theorem isNum_no1 {x : Str} (h : ¬ 1 ≤ x.length) : isNum x = false := by
  unfold isNum
  rw [decide_eq_false h]
  rfl
theorem isNum_no2 {x : Str} (h : ¬ x.length ≤ 7) : isNum x = false := by
  unfold isNum
  rw [decide_eq_false h]
  simp
theorem isNum_no3 {x : Str} (h : stripV x figs ≠ Str.empty) : isNum x = false := by
  unfold isNum
  have : allD x = false := by
    cases e : allD x with
    | false => rfl
    | true => exact absurd ((strip_figs x).mpr e) h
  rw [this]
  simp
theorem head_at {x : Str} (h : 1 ≤ x.length) : ∃ c, atI x.cps.toList 0 = some c ∧ x.cps.toList.head? = some c := by
  rw [len] at h
  cases e : x.cps.toList with
  | nil => rw [e] at h; simp at h
  | cons c r => exact ⟨c, atI_nat (j := 0) rfl, rfl⟩
theorem isNum_is {x : Str} {c : Nat} (h1 : 1 ≤ x.length) (h2 : x.length ≤ 7) (h3 : stripV x figs = Str.empty) (h4 : x.cps.toList.head? = some c) : isNum x = (decide (V.str x = V.str ("0" : Str)) || !decide (V.str ⟨#[c]⟩ = V.str ("0" : Str))) := by
  unfold isNum
  rw [decide_eq_true h1, decide_eq_true h2, (strip_figs x).mp h3, h4, zero_eq]
  have e1 : decide (V.str x = V.str (⟨#[48]⟩ : Str)) = decide (x.cps.toList = [48]) := by
    rw [Bool.eq_iff_iff, decide_eq_true_iff, decide_eq_true_iff]
    exact ⟨fun z => by injection z with z; rw [z], fun z => by rw [show x = (⟨#[48]⟩ : Str) from Tx.ext z]⟩
  have e2 : decide (V.str (⟨#[c]⟩ : Str) = V.str (⟨#[48]⟩ : Str)) = decide (some c = some 48) := by
    rw [Bool.eq_iff_iff, decide_eq_true_iff, decide_eq_true_iff]
    exact ⟨fun z => by
      injection z with z
      have := congrArg (fun y : Str => y.cps.toList) z
      simpa using this, fun z => by rw [Option.some.inj z]⟩
  rw [e1, e2]
  rfl
def sp_is_number : Sp := fun vs H Q _ => ∃ x : Str, vs = [.str x] ∧ x.length ≤ 10000 ∧ Q (.bl (isNum x)) H
theorem sc_is_number : FnScope ["figures"] ["figures"] (defScope s_is_number) := ⟨rfl, rfl, rfl, by decide +kernel, rfl, by decide +kernel, by decide +kernel⟩
theorem ok_is_number (T : Txt K mg Z) : FnOk P w K mg base CX0 1 Z.f_is_number Z.d_is_number ["figures"] sp_is_number := by
  refine T.is_number.fn.ok sc_is_number (fun vs H Q E h => ?_) (fun cdv A outer s H vs Q E hr h => ?_)
  · obtain ⟨x, rfl, _⟩ := h
    rfl
  · obtain ⟨x, rfl, hl, k⟩ := h
    refine ⟨_, (pss_cons (ps_if (PW.pt (pw_or (pt_not (pt_chain op_le op_le pe_int (pe_callB call_len_str rfl T.b_len boot_len (pa_cons (pv 0) pa_nil)) (pe_glob (v := .int 7) rfl T.k_MOST_FIGURES ⟨_, rfl⟩))) (pw_or1 (pt_cmpR op_ne (pe_bm PySem.F.plainAttrs_str PySem.F.slot_str_strip PySem.F.type_str_strip mt_str_strip (pv 0) (pa_cons (pe_glob (v := .str "0123456789") rfl T.k_FIGURES ⟨_, rfl⟩) pa_nil)) pe_str (nomark _))))) (pss_one (ps_ret pe_bl)) pss_nil)
      (pss_one (ps_ret (pe_or (pe_cmpR op_eq (pv 0) pe_str (nomark _)) (pe_one (pe_cmpR op_ne (pe_ix ix_str (pv 0) pe_int (fun _ _ => rfl)) pe_str (nomark _))))))), ?_⟩
    have hz : x.length ≤ sizeLine := Nat.le_trans hl (by decide)
    refine ⟨_, rfl, x, rfl, hz, _, _, rfl, rfl, _, rfl, ite2 (fun h1 => ?_) (fun h1 => ?_)⟩
    · have h1' : 1 ≤ x.length := by have := of_decide_eq_true h1; omega
      refine ⟨_, _, rfl, rfl, _, rfl, ite2 (fun hn => iteT ?_) (fun hn => ?_)⟩
      · have h2 : ¬ x.length ≤ 7 := fun z => by
          rw [decide_eq_true (show (x.length : Int) ≤ 7 by omega)] at hn
          cases hn
        rw [isNum_no2 h2] at k
        exact k
      have h2 : x.length ≤ 7 := by
        rcases Nat.lt_or_ge 7 x.length with z | z
        · exact absurd (show (!decide ((x.length : Int) ≤ 7)) = true by rw [decide_eq_false (by omega)]; rfl) hn
        · exact z
      refine ⟨_, rfl, rfl, x, _, rfl, rfl, hz, rfl, _, rfl, ?_⟩
      rw [figs_eq, empty_eq]
      refine ite2 (fun hs => ?_) (fun hs => ?_)
      · have h3 : stripV x figs ≠ Str.empty := fun z => by
          rw [z] at hs
          simp at hs
        rw [isNum_no3 h3] at k
        exact k
      have h3 : stripV x figs = Str.empty := by
        by_cases z : stripV x figs = Str.empty
        · exact z
        · exact absurd (show (!decide (V.str (stripV x figs) = V.str Str.empty)) = true by rw [decide_eq_false (fun q => z (V.str.inj q))]; rfl) hs
      obtain ⟨c, hc, hh⟩ := head_at h1'
      rw [isNum_is h1' h2 h3 hh] at k
      refine ⟨_, rfl, rfl, _, rfl, ite2 (fun hd => ?_) (fun hd => ?_)⟩
      · rw [hd] at k
        exact k
      · rw [Bool.eq_false_iff.mpr hd, Bool.false_or] at k
        exact ⟨_, rfl, x, 0, c, rfl, rfl, hz, hc, rfl, k⟩
    · have h1' : ¬ 1 ≤ x.length := fun z => h1 (decide_eq_true (show (1 : Int) ≤ x.length by omega))
      rw [isNum_no1 h1'] at k
      exact ⟨_, rfl, iteT (iteT k)⟩
theorem msg_ok {σ : L2.St} {H : Hp} {Q : VK} {a b : Int} {A B : Str} (h1 : σ[1]? = some (some (.int a))) (h2 : σ[2]? = some (some (.int b))) (a0 : 0 ≤ a) (a1 : a ≤ 1000000) (b0 : 0 ≤ b) (b1 : b ≤ 1000000) (hA : A.length ≤ 100) (hB : B.length ≤ 100)
    (k : ∀ z, Q (.str z) H) : tJ1 (tC (V.str A)) (tJ1 (tFmt (tVar 1)) (tJ1 (tC (V.str B)) (tJ1 (tFmt (tVar 2)) tJ0))) Str.empty σ H Q := by
  have n1 := num_len a0 (by omega)
  have n2 := num_len b0 (by omega)
  have z2 : 300 ≤ sizeLine := by decide
  have z0 : Str.empty.length = 0 := rfl
  refine ⟨A, rfl, by omega, .int a, h1, a, rfl, log_ok a0 (by omega), _, rfl, ?_, B, rfl, ?_, .int b, h2, b, rfl, log_ok b0 (by omega), _, rfl, ?_, ?_, k _⟩ <;> (repeat rw [Str.length_append]) <;> omega
def sp_number_read (CB : Addr) : Sp := fun vs H Q E => ∃ (x : Str) (a b : Int), vs = [.str x, .int a, .int b] ∧ x.length ≤ 10000 ∧ 0 ≤ a ∧ a ≤ 1000000 ∧ 0 ≤ b ∧ b ≤ 1000000 ∧
  ((isNum x = true ∧ a ≤ numV x ∧ numV x ≤ b) → Q (.int (numV x)) H) ∧ (¬ (isNum x = true ∧ a ≤ numV x ∧ numV x ≤ b) → E (.ref CB) none H)
theorem sc_number_read : FnScope ["figures", "least", "greatest", "number"] ["figures", "least", "greatest"] (defScope s_number_read) := ⟨rfl, rfl, rfl, by decide +kernel, rfl, by decide +kernel, by decide +kernel⟩
theorem ok_number_read (T : Txt K mg Z) : FnOk P w K mg base (CX1 P w) 2 Z.f_number_read Z.d_number_read ["figures", "least", "greatest"] (sp_number_read Z.c_BadText) := by
  have G_is_number := ok_is_number (P := P) (w := w) (base := base) T
  refine T.number_read.fn.ok1 sc_number_read (fun vs H Q E h => ?_) (fun cdv A outer s H vs Q E hr h => ?_)
  · obtain ⟨x, a, b, rfl, _⟩ := h
    rfl
  · obtain ⟨x, a, b, rfl, hl, a0, a1, b0, b1, kQ, kE⟩ := h
    refine ⟨_, (pss_cons (ps_if (pt_not (pt_val (pe_call G_is_number (hr.mono (by decide)) rfl T.is_number.mg T.is_number.fn.kp T.is_number.bd .nil pass0 (pa_cons (pv 0) pa_nil)))) (pss_one (ps_raise throws1 rfl rfl T.m_BadText T.x_BadText (pa_cons pe_str pa_nil))) pss_nil)
      (pss_cons (ps_set (i := 3) sc_number_read.nd rfl (Or.inl rfl) (pe_callTy call_int_str rfl T.b_int boot_int (pa_cons (pv 0) pa_nil)))
      (pss_cons (ps_if (pt_not (pt_chain op_le op_le (pv 1) (pv 3) (pv 2))) (pss_one (ps_raise throws1 rfl rfl T.m_BadText T.x_BadText (pa_cons (pe_joined (pje_cons pe_str (pje_cons (pe_fmt (pv 1)) (pje_cons pe_str (pje_cons (pe_fmt (pv 2)) pje_nil))))) pa_nil))) pss_nil)
      (pss_one (ps_ret (pv 3)))))), ?_⟩
    refine ⟨_, rfl, x, rfl, hl, _, rfl, ite2 (fun hn => ?_) (fun hn => ?_)⟩
    · have hn' : isNum x = false := by simpa using hn
      refine ⟨by show 1 ≤ 1000; decide, kE fun z => ?_⟩
      rw [z.1] at hn'
      cases hn'
    have hn' : isNum x = true := by simpa using hn
    have hx7 : x.length ≤ 640 := by
      unfold isNum at hn'
      simp only [Bool.and_eq_true, decide_eq_true_iff] at hn'
      omega
    refine ⟨_, rfl, x, _, rfl, isNum_intText hn', hx7, ?_⟩
    refine ⟨_, rfl, _, rfl, _, _, rfl, rfl, _, rfl, ite2 (fun h1 => ?_) (fun h1 => ?_)⟩
    · refine ⟨_, rfl, _, _, rfl, rfl, _, rfl, ite2 (fun h2 => ?_) (fun h2 => ?_)⟩
      · refine msg_ok rfl rfl a0 a1 b0 b1 (by decide +kernel) (by decide +kernel) fun z => ⟨by show 1 ≤ 1000; decide, kE fun w => ?_⟩
        rw [decide_eq_true w.2.2] at h2
        cases h2
      · refine ⟨_, rfl, kQ ⟨hn', of_decide_eq_true h1, ?_⟩⟩
        simpa using h2
    · refine ⟨_, rfl, iteT ?_⟩
      refine msg_ok rfl rfl a0 a1 b0 b1 (by decide +kernel) (by decide +kernel) fun z => ⟨by show 1 ≤ 1000; decide, kE fun w => ?_⟩
      exact h1 (decide_eq_true w.2.1)
end
end K8
set_option maxHeartbeats 1000000
namespace K8
open PySem PySem.Spec PyProof.Rows L2 Tl
seal PSs PS PE PT PW PA PG PGs PI PTs PC
section
variable {P : Program} {w : World} {K : PySem.W.Frag} {mg : Str → Option Value} {base : Heap} {Z : Ad}
open Tx
theorem kit_str_str : PySem.W.kitOne K (.type "str") (.type "str") = some true := by rfl
theorem kit_none_str : PySem.W.kitOne K (.type "NoneType") (.type "str") = some false := by rfl
theorem kit_int_str : PySem.W.kitOne K (.type "int") (.type "str") = some false := by rfl
theorem kit_list_str : PySem.W.kitOne K (.type "list") (.type "str") = some false := by rfl
theorem kit_bool_str : PySem.W.kitOne K (.type "bool") (.type "str") = some false := by rfl
theorem rdT_none1 {x : Str} (hx : x ≠ minus) (h : rdP none (Txt.split x blank) = none) : rdT x = none := by
  unfold rdT
  rw [if_neg hx, h]
theorem rdT_none2 {x : Str} (hx : x ≠ minus) (h : ∀ rs, rdP none (Txt.split x blank) = some rs → ¬ sm rs ≤ 1000000) : rdT x = none := by
  unfold rdT
  rw [if_neg hx]
  cases e : rdP none (Txt.split x blank) with
  | none => rfl
  | some rs => simp only; rw [if_neg (h rs e)]
theorem rdT_some1 {x : Str} {rs : List (Int × Int)} (hx : x ≠ minus) (h : rdP none (Txt.split x blank) = some rs) (hs : sm rs ≤ 1000000) : rdT x = some rs := by
  unfold rdT
  rw [if_neg hx, h]
  simp only
  rw [if_pos hs]
theorem atI_last {xs : List Int} {v : Int} (h : xs.getLast? = some v) : atI (xs.map V.int) (-1) = some (.int v) := by
  have h1 : xs ≠ [] := fun z => by rw [z] at h; cases h
  have h2 : 0 < xs.length := List.length_pos_iff.mpr h1
  unfold atI ixN
  rw [List.length_map]
  rw [List.getLast?_eq_getElem?] at h
  have e : xs[xs.length - 1]? = some v := h
  have e2 : ((-1 : Int) + (xs.length : Int)).toNat = xs.length - 1 := by omega
  simp only [show ¬ ((0 : Int) ≤ -1) by decide, if_false]
  rw [if_pos (by omega), e2]
  show (xs.map V.int)[xs.length - 1]? = _
  rw [List.getElem?_map, e]
  rfl
theorem rep_one (n : Nat) (k : Int) : (List.replicate n [V.int k]).flatten = (List.replicate n k).map V.int := by
  induction n with
  | zero => rfl
  | succ n ih => rw [List.replicate_succ, List.flatten_cons, ih, List.replicate_succ]; rfl
def sp_read (CB : Addr) : Sp := fun vs H Q E => ∃ x : Str, vs = [.str x] ∧ x.length ≤ 5000 ∧
  (∀ rs l H', rdT x = some rs → Same H H' → H l = none → H' l = some (.lst ((exL rs).map V.int)) → Q (.ref l) H') ∧ (rdT x = none → ∀ H', Same H H' → E (.ref CB) none H')
theorem sc_read : FnScope ["text", "heap", "part", "sides", "kind", "many"] ["text"] (defScope s_read) := ⟨rfl, rfl, rfl, by decide +kernel, rfl, by decide +kernel, by decide +kernel⟩
theorem ok_read (T : Txt K mg Z) : FnOk P w K mg base (CX1 P w) 3 Z.f_read Z.d_read ["text"] (sp_read Z.c_BadText) := by
  have G_number_read := ok_number_read (P := P) (w := w) (base := base) T
  refine T.read.fn.ok1 sc_read (fun vs H Q E h => ?_) (fun cdv A outer s H vs Q E hr h => ?_)
  · obtain ⟨x, rfl, _⟩ := h
    rfl
  · obtain ⟨x, rfl, hl, kQ, kE⟩ := h
    refine ⟨_, (pss_cons (ps_if (pt_not (pt_val (pe_callB call_isinst rfl T.b_isinstance boot_isinstance (pa_cons (pv 0) (pa_cons (pe_ty rfl T.b_str boot_str) pa_nil))))) (pss_one (ps_raise throws1 rfl rfl T.m_BadText T.x_BadText (pa_cons pe_str pa_nil))) pss_nil)
      (pss_cons (ps_if (pt_cmpR op_eq (pv 0) (pe_glob (v := .str "-") rfl T.k_NO_THINGS ⟨_, rfl⟩) (nomark _)) (pss_one (ps_ret (pe_lst pa_nil))) pss_nil)
      (pss_cons (ps_set (i := 1) sc_read.nd rfl (Or.inl rfl) (pe_lst pa_nil))
      (pss_cons (ps_for PassesOwn.leaving rfl (pi_list (pe_bm PySem.F.plainAttrs_str PySem.F.slot_str_split PySem.F.type_str_split mt_str_split (pv 0) (pa_cons pe_str pa_nil))) (pg_name (i := 2) sc_read.nd rfl (Or.inl rfl)) (pss_cons (ps_set (i := 3) sc_read.nd rfl (Or.inl rfl) (pe_bm PySem.F.plainAttrs_str PySem.F.slot_str_split PySem.F.type_str_split mt_str_split (pv 2) (pa_cons pe_str pa_nil)))
      (pss_cons (ps_if (pt_cmpR op_ne (pe_callB call_len_seq rfl T.b_len boot_len (pa_cons (pv 3) pa_nil)) pe_int (nomark _)) (pss_one (ps_raise throws1 rfl rfl T.m_BadText T.x_BadText (pa_cons pe_str pa_nil))) pss_nil)
      (pss_cons (ps_set (i := 4) sc_read.nd rfl (Or.inl rfl) (pe_call G_number_read (hr.mono (by decide)) rfl T.number_read.mg T.number_read.fn.kp T.number_read.bd .nil passes1 (pa_cons (pe_ix ix_list (pv 3) pe_int (fun _ _ => rfl)) (pa_cons pe_int (pa_cons (pe_glob (v := .int 999) rfl T.k_GREATEST_KIND ⟨_, rfl⟩) pa_nil)))))
      (pss_cons (ps_set (i := 5) sc_read.nd rfl (Or.inl rfl) (pe_call G_number_read (hr.mono (by decide)) rfl T.number_read.mg T.number_read.fn.kp T.number_read.bd .nil passes1 (pa_cons (pe_ix ix_list (pv 3) pe_int (fun _ _ => rfl)) (pa_cons pe_int (pa_cons (pe_op op_sub (pe_glob (v := .int 1000000) rfl T.k_MOST_THINGS ⟨_, rfl⟩) (pe_callB call_len_seq rfl T.b_len boot_len (pa_cons (pv 1) pa_nil))) pa_nil)))))
      (pss_cons (ps_if (PW.pt (pw_and (pt_cmpR op_gt (pe_callB call_len_seq rfl T.b_len boot_len (pa_cons (pv 1) pa_nil)) pe_int (nomark _)) (pw_and1 (pt_cmpR op_eq (pe_ix ix_list (pv 1) (pe_un un_neg pe_int) (fun _ _ => rfl)) (pv 4) (nomark _))))) (pss_one (ps_raise throws1 rfl rfl T.m_BadText T.x_BadText (pa_cons pe_str pa_nil))) pss_nil)
      (pss_one (ps_expr (pe_bm PySem.F.plainAttrs_list PySem.F.slot_list_extend PySem.F.type_list_extend mt_extend (pv 1) (pa_cons (pe_op op_rep (pe_lst (pa_cons (pv 4) pa_nil)) (pv 5)) pa_nil))))))))))
      (pss_one (ps_ret (pv 1))))))), ?_⟩
    refine ⟨_, rfl, _, _, _, _, rfl, .str x, kit_str_str, true, rfl, iteF ?_⟩
    refine ⟨_, rfl, rfl, _, rfl, ?_⟩
    rw [minus_eq]
    refine ite2 (fun hm => ?_) (fun hm => ?_)
    · have hm' : x = minus := V.str.inj (of_decide_eq_true hm)
      have e : rdT x = some [] := by unfold rdT; rw [if_pos hm']
      exact ⟨by show 0 ≤ sizeLine; decide, fun l hl0 => kQ [] l _ e ((Same.refl H).upd hl0) hl0 upd_same⟩
    have hx : x ≠ minus := fun z => hm (decide_eq_true (congrArg V.str z))
    refine nextS ?_
    refine ⟨by show 0 ≤ sizeLine; decide, fun l hl0 => ?_⟩
    have s1 : Same H (upd H l (.lst [])) := (Same.refl H).upd hl0
    have hz : x.length + 2 ≤ sizeLine := Nat.le_trans (show x.length + 2 ≤ 10000 by omega) (by decide)
    refine ⟨_, rfl, rfl, x, _, rfl, rfl, by decide +kernel, hz, fun lw hlw => ?_⟩
    rw [blank_eq]
    generalize hws : Txt.split x blank = ws
    have hw0 : ∀ w ∈ ws, w.length ≤ 5000 := fun w hw => by
      rw [← hws] at hw
      exact Nat.le_trans (PyProof.Rows.part_short hw) hl
    have nel : lw ≠ l := fun z => by rw [z, upd_same] at hlw; cases hlw
    have s2 : Same H (upd (upd H l (.lst [])) lw (.lst (ws.map V.str))) := s1.upd (s1.free hlw)
    refine ⟨lw, rfl, ⟨_, .of upd_same⟩, for_list (K := K) (a := lw) (xs := ws.map V.str) (fun i σ H2 => ∃ (v2 v3 v4 v5 : Option V) (acc : List (Int × Int)), σ = [some (.str x), some (.ref l), v2, v3, v4, v5] ∧ Same H H2 ∧ H2 l = some (.lst ((exL acc).map V.int)) ∧ H2 lw = some (.lst (ws.map V.str)) ∧ Tx.At ws i acc ∧ sm acc ≤ 1000000)
      ⟨none, none, none, none, [], rfl, s2, by rw [upd_ne (Ne.symm nel), upd_same]; rfl, upd_same, Tx.At.zero ws, by decide⟩ (fun i σ H2 _ ⟨_, _, _, _, _, _, _, _, h4, _⟩ => .of h4) ?_ ?_⟩
    · rintro i y σ H2 hy ⟨v2, v3, v4, v5, acc, rfl, s3, h3, h4, at1, hs⟩
      rw [List.getElem?_map] at hy
      cases ew : ws[i]? with
      | none => rw [ew] at hy; cases hy
      | some w =>
      rw [ew] at hy
      cases hy
      have hwl := hw0 w (List.mem_of_getElem? ew)
      have hwz : w.length + 2 ≤ sizeLine := Nat.le_trans (show w.length + 2 ≤ 10000 by omega) (by decide)
      refine ⟨_, rfl, rfl, w, _, rfl, rfl, by decide +kernel, hwz, fun sd hsd => ?_⟩
      rw [star_eq]
      generalize hps : Txt.split w star = ps
      have hp0 : ∀ p ∈ ps, p.length ≤ 10000 := fun p hp => by
        rw [← hps] at hp
        exact Nat.le_trans (PyProof.Rows.part_short hp) (by omega)
      have ned : sd ≠ l := fun z => by rw [z, h3] at hsd; cases hsd
      have newd : sd ≠ lw := fun z => by rw [z, h4] at hsd; cases hsd
      have s4 : Same H (upd H2 sd (.lst (ps.map V.str))) := s3.upd (s3.free hsd)
      have h3' : (upd H2 sd (.lst (ps.map V.str))) l = some (.lst ((exL acc).map V.int)) := by rw [upd_ne (Ne.symm ned)]; exact h3
      have h4' : (upd H2 sd (.lst (ps.map V.str))) lw = some (.lst (ws.map V.str)) := by rw [upd_ne (Ne.symm newd)]; exact h4
      have h5 : (upd H2 sd (.lst (ps.map V.str))) sd = some (.lst (ps.map V.str)) := upd_same
      generalize upd H2 sd (.lst (ps.map V.str)) = H3 at s4 h3' h4' h5
      refine ⟨_, rfl, sd, _, rfl, .inl (.of h5), rfl, _, rfl, ite2 (fun hc => ?_) (fun hc => ?_)⟩
      · have hn : (Txt.split w star).length ≠ 2 := fun z => by
          rw [hps] at z
          rw [List.length_map, z] at hc
          simp at hc
        exact ⟨by show 1 ≤ 1000; decide, kE (rdT_none1 hx (by rw [hws]; exact at1.nop ew (rdW_not hn))) H3 s4⟩
      have hn : ps.length = 2 := by
        rcases Nat.decEq ps.length 2 with z | z
        · refine absurd (show (!decide (V.int ((ps.map V.str).length : Int) = V.int 2)) = true from ?_) hc
          rw [decide_eq_false fun q => z (by rw [List.length_map] at q; injection q with q; omega)]
          rfl
        · exact z
      obtain ⟨a, b, rfl⟩ : ∃ a b, ps = [a, b] := by
        match ps, hn with
        | [a, b], _ => exact ⟨a, b, rfl⟩
      have hW := rdW_two hps
      refine nextS ?_
      refine ⟨_, rfl, sd, _, _, _, rfl, rfl, .of h5, atI_nat (j := 0) rfl, _, _, _, rfl, hp0 a (by simp), by decide, by decide, by decide, by decide, fun ha => ?_, fun ha => ?_⟩
      · have hle := len_exL at1.1
        have hnn := sm_nn at1.1
        refine ⟨_, rfl, sd, _, _, _, rfl, rfl, .of h5, atI_nat (j := 1) rfl, _, rfl, l, _, rfl, .inl (.of h3'), _, _, rfl, rfl, _, _, _, rfl, hp0 b (by simp), by decide, by decide, by rw [List.length_map]; omega, by rw [List.length_map]; omega, fun hb => ?_, fun hb => ?_⟩
        · rw [List.length_map, hle] at hb
          have hb0 : numV b ≠ 0 := by omega
          rw [if_pos ⟨ha.1, hb.1, ha.2.2, hb0⟩] at hW
          refine nxS ?_
          refine seq_cut (fun σ' H' => σ' = [some (.str x), some (.ref l), some (.str w), some (.ref sd), some (.int (numV a)), some (.int (numV b))] ∧ H' = H3 ∧ lastK acc ≠ some (numV a)) (fun k hk => ?_) (fun σ' H' hj => ?_)
          · refine ⟨_, rfl, l, _, rfl, .inl (.of h3'), _, _, rfl, rfl, _, rfl, ite2 (fun h6 => ?_) (fun h6 => iteF ?_)⟩
            · have h6' : 0 < (exL acc).length := by
                have := of_decide_eq_true h6
                rw [List.length_map] at this
                omega
              obtain ⟨kd, hkd⟩ : ∃ kd, (exL acc).getLast? = some kd := by
                rw [List.getLast?_eq_some_getLast (List.ne_nil_of_length_pos h6')]
                exact ⟨_, rfl⟩
              have hkl : lastK acc = some kd := by rw [← exL_last at1.1]; exact hkd
              refine ⟨_, rfl, _, rfl, l, _, _, _, rfl, rfl, .of h3', atI_last hkd, _, rfl, rfl, _, rfl, ite2 (fun h7 => ?_) (fun h7 => ?_)⟩
              · have h7' : kd = numV a := V.int.inj (of_decide_eq_true h7)
                exact ⟨by show 1 ≤ 1000; decide, kE (rdT_none1 hx (by rw [hws]; exact at1.same ew hW (by rw [hkl, h7']))) H3 s4⟩
              · refine hk _ _ ⟨rfl, rfl, fun z => h7 ?_⟩
                rw [hkl] at z
                rw [Option.some.inj z]
                exact decide_eq_true rfl
            · refine hk _ _ ⟨rfl, rfl, fun z => h6 ?_⟩
              rw [← exL_last at1.1] at z
              refine decide_eq_true ?_
              rw [List.length_map]
              have : 0 < (exL acc).length := by
                cases e : exL acc with
                | nil => rw [e] at z; cases z
                | cons _ _ => simp
              omega
          · obtain ⟨rfl, rfl, hk⟩ := hj
            have hm1 : 1 ≤ numV b := by have := numV_nn b; omega
            refine ⟨_, rfl, tyL h3', _, rfl, by show 1 ≤ sizeLine; decide, fun one hone => ?_⟩
            have no1 : one ≠ l := fun z => by rw [z, h3'] at hone; cases hone
            have no2 : one ≠ lw := fun z => by rw [z, h4'] at hone; cases hone
            have hML : (1000000 : Nat) ≤ sizeLine := by decide
            refine ⟨_, rfl, one, _, _, rfl, rfl, upd_same, by omega, by omega, by show 1 * _ ≤ _; omega, fun rp hrp => ?_⟩
            rw [rep_one]
            have nr1 : rp ≠ l := fun z => by rw [z, upd_ne (Ne.symm no1), h3'] at hrp; cases hrp
            have nr2 : rp ≠ lw := fun z => by rw [z, upd_ne (Ne.symm no2), h4'] at hrp; cases hrp
            have s5 := s4.upd (o := .lst [.int (numV a)]) (s4.free hone)
            have s6 := s5.upd (o := .lst ((List.replicate (numV b).toNat (numV a)).map V.int)) (s5.free hrp)
            refine ⟨l, rp, _, _, rfl, rfl, by rw [upd_ne (Ne.symm nr1), upd_ne (Ne.symm no1)]; exact h3', upd_same, ?_, ?_⟩
            · rw [List.length_map, List.length_map, List.length_replicate]
              omega
            · refine ⟨_, _, _, _, acc ++ [(numV a, numV b)], rfl, s6.upd hl0, ?_, ?_, at1.next ew hW hk, ?_⟩
              · rw [upd_same, exL_snoc, List.map_append]
              · rw [upd_ne nel, upd_ne (Ne.symm nr2), upd_ne (Ne.symm no2)]; exact h4'
              · rw [sm_app]
                show sm acc + (numV b + 0) ≤ 1000000
                omega
        · refine kE ?_ H3 s4
          rw [List.length_map, hle] at hb
          by_cases hb1 : isNum b = true ∧ numV b ≠ 0
          · rw [if_pos ⟨ha.1, hb1.1, ha.2.2, hb1.2⟩] at hW
            have hbig : 1000000 < sm acc + numV b := by
              have := numV_nn b
              rcases Int.lt_or_le 1000000 (sm acc + numV b) with z | z
              · exact z
              · exact absurd ⟨hb1.1, by have := hb1.2; omega, by omega⟩ hb
            by_cases hk : lastK acc = some (numV a)
            · exact rdT_none1 hx (by rw [hws]; exact at1.same ew hW hk)
            · refine rdT_none2 hx ?_
              rw [hws]
              refine (at1.next ew hW hk).over ?_
              rw [sm_app]
              show 1000000 < sm acc + (numV b + 0)
              omega
          · rw [if_neg fun z => hb1 ⟨z.2.1, z.2.2.2⟩] at hW
            exact rdT_none1 hx (by rw [hws]; exact at1.nop ew hW)
      · refine kE (rdT_none1 hx ?_) H3 s4
        rw [if_neg fun z => ha ⟨z.1, numV_nn a, z.2.2.1⟩] at hW
        rw [hws]
        exact at1.nop ew hW
    · rintro σ H2 ⟨v2, v3, v4, v5, acc, rfl, s3, h3, h4, at1, hs⟩
      rw [List.length_map] at at1
      exact ⟨_, rfl, kQ acc l H2 (rdT_some1 hx (by rw [hws]; exact at1.done) hs) s3 hl0 h3⟩
def NoText (H : Hp) (v : V) : Prop := v = .non ∨ (∃ i, v = .int i) ∨ (∃ b, v = .bl b) ∨ ∃ a xs, v = .ref a ∧ H a = some (.lst xs)
def sp_read0 (CB : Addr) : Sp := fun vs H Q E => ∃ v : V, vs = [v] ∧ NoText H v ∧ ∀ H', Same H H' → E (.ref CB) none H'
theorem ok_read0 (T : Txt K mg Z) : FnOk P w K mg base (CX1 P w) 1 Z.f_read Z.d_read ["text"] (sp_read0 Z.c_BadText) := by
  refine T.read.fn.ok1 sc_read (fun vs H Q E h => ?_) (fun cdv A outer s H vs Q E hr h => ?_)
  · obtain ⟨v, rfl, _⟩ := h
    rfl
  · obtain ⟨v, rfl, hv, kE⟩ := h
    refine ⟨_, (pss_first (ps_if (pt_not (pt_val (pe_callB call_isinst rfl T.b_isinstance boot_isinstance (pa_cons (pv 0) (pa_cons (pe_ty rfl T.b_str boot_str) pa_nil))))) (pss_one (ps_raise throws1 rfl rfl T.m_BadText T.x_BadText (pa_cons pe_str pa_nil))) pss_nil)), ?_⟩
    rcases hv with rfl | ⟨i, rfl⟩ | ⟨b, rfl⟩ | ⟨a, xs, rfl, ha⟩
    · exact ⟨_, rfl, _, _, _, _, rfl, .non, kit_none_str, false, rfl, iteT ⟨by show 1 ≤ 1000; decide, kE H (Same.refl H)⟩⟩
    · exact ⟨_, rfl, _, _, _, _, rfl, .int i, kit_int_str, false, rfl, iteT ⟨by show 1 ≤ 1000; decide, kE H (Same.refl H)⟩⟩
    · exact ⟨_, rfl, _, _, _, _, rfl, .bl b, kit_bool_str, false, rfl, iteT ⟨by show 1 ≤ 1000; decide, kE H (Same.refl H)⟩⟩
    · exact ⟨_, rfl, _, _, _, _, rfl, .lst ha, kit_list_str, false, rfl, iteT ⟨by show 1 ≤ 1000; decide, kE H (Same.refl H)⟩⟩
end
end K8
set_option maxHeartbeats 1000000
namespace K8
open PySem PySem.Spec PyProof.Rows L2 Tl
seal PSs PS PE PT PW PA PG PGs PI PTs PC
section
variable {P : Program} {w : World} {K : PySem.W.Frag} {mg : Str → Option Value} {base : Heap} {Z : Ad}
open Tx
def numO (x : Str) : V := if isNum x = true then .int (numV x) else .non
def sp__law_number : Sp := fun vs H Q _ => ∃ x : Str, vs = [.str x] ∧ x.length ≤ 10000 ∧ Q (numO x) H
theorem sc__law_number : FnScope ["_law_text"] ["_law_text"] (defScope s__law_number) := ⟨rfl, rfl, rfl, by decide +kernel, rfl, by decide +kernel, by decide +kernel⟩
theorem ok__law_number (T : Txt K mg Z) : FnOk P w K mg base CX0 1 Z.f__law_number Z.d__law_number ["_law_text"] sp__law_number := by
  refine T._law_number.fn.ok sc__law_number (fun vs H Q E h => ?_) (fun cdv A outer s H vs Q E hr h => ?_)
  · obtain ⟨x, rfl, _⟩ := h
    rfl
  · obtain ⟨x, rfl, hl, k⟩ := h
    refine ⟨_, (pss_cons (ps_if (PW.pt (pw_or (pt_cmpR op_eq (pv 0) pe_str (nomark _)) (pw_or (pt_cmpR op_gt (pe_callB call_len_str rfl T.b_len boot_len (pa_cons (pv 0) pa_nil)) pe_int (nomark _)) (pw_or (pt_cmpR op_ne (pe_bm PySem.F.plainAttrs_str PySem.F.slot_str_strip PySem.F.type_str_strip mt_str_strip (pv 0) (pa_cons pe_str pa_nil)) pe_str (nomark _)) (pw_or1 (PW.pt (pw_and (pt_cmpR op_eq (pe_ix ix_str (pv 0) pe_int (fun _ _ => rfl)) pe_str (nomark _)) (pw_and1 (pt_cmpR op_ne (pv 0) pe_str (nomark _)))))))))) (pss_one (ps_ret pe_non)) pss_nil)
      (pss_one (ps_ret (pe_callTy call_int_str rfl T.b_int boot_int (pa_cons (pv 0) pa_nil))))), ?_⟩
    have hz : x.length ≤ sizeLine := Nat.le_trans hl (by decide)
    have kN : isNum x = false → Q .non H := fun e => by
      unfold numO at k
      rw [e] at k
      exact k
    refine ⟨_, rfl, rfl, _, rfl, ?_⟩
    rw [empty_eq]
    refine ite2 (fun h0 => iteT ?_) (fun h0 => ?_)
    · have h0' : x = Str.empty := V.str.inj (of_decide_eq_true h0)
      exact kN (isNum_no1 (by rw [h0']; decide))
    have h1' : 1 ≤ x.length := by
      rcases Nat.lt_or_ge x.length 1 with z | z
      · refine absurd (decide_eq_true (congrArg V.str ((isEmpty_iff x).mpr ?_))) h0
        rw [len] at z
        exact List.length_eq_zero_iff.mp (by omega)
      · exact z
    refine ⟨_, rfl, x, rfl, hz, _, _, rfl, rfl, _, rfl, ite2 (fun h2 => iteT ?_) (fun h2 => ?_)⟩
    · have := of_decide_eq_true h2
      exact kN (isNum_no2 (by omega))
    have h2' : x.length ≤ 7 := by
      rcases Nat.lt_or_ge 7 x.length with z | z
      · exact absurd (decide_eq_true (show (7 : Int) < x.length by omega)) h2
      · exact z
    refine ⟨_, rfl, rfl, x, _, rfl, rfl, hz, rfl, _, rfl, ?_⟩
    rw [figs_eq]
    refine ite2 (fun hs => iteT ?_) (fun hs => ?_)
    · have h3 : stripV x figs ≠ Str.empty := fun z => by
        rw [z] at hs
        simp at hs
      exact kN (isNum_no3 h3)
    have h3 : stripV x figs = Str.empty := by
      by_cases z : stripV x figs = Str.empty
      · exact z
      · exact absurd (show (!decide (V.str (stripV x figs) = V.str Str.empty)) = true by rw [decide_eq_false (fun q => z (V.str.inj q))]; rfl) hs
    obtain ⟨c, hc, hh⟩ := head_at h1'
    have eN := isNum_is h1' h2' h3 hh
    have kY : isNum x = true → ∃ n, PySem.intText? x = some n ∧ Q (.int n) H := fun e => by
      refine ⟨_, isNum_intText e, ?_⟩
      unfold numO at k
      rw [e] at k
      exact k
    refine ⟨_, rfl, x, 0, c, rfl, rfl, hz, hc, rfl, _, rfl, ite2 (fun h5 => ?_) (fun h5 => ?_)⟩
    · refine ⟨_, rfl, rfl, _, rfl, ite2 (fun h6 => ?_) (fun h6 => ?_)⟩
      · refine kN ?_
        rw [eN, h5, show decide (V.str x = V.str ("0" : Str)) = false by simpa using h6]
        rfl
      · obtain ⟨n, hn, q⟩ := kY (by
          rw [eN, show decide (V.str x = V.str ("0" : Str)) = true by simpa using h6]
          rfl)
        exact ⟨_, rfl, x, n, rfl, hn, by omega, q⟩
    · refine iteF ?_
      obtain ⟨n, hn, q⟩ := kY (by
        rw [eN, Bool.eq_false_iff.mpr h5]
        simp)
      exact ⟨_, rfl, x, n, rfl, hn, by omega, q⟩
end
end K8
set_option maxHeartbeats 1000000
namespace K8
open PySem PySem.Spec PyProof.Rows L2 Tl
seal PSs PS PE PT PW PA PG PGs PI PTs PC
section
variable {P : Program} {w : World} {K : PySem.W.Frag} {mg : Str → Option Value} {base : Heap} {Z : Ad}
open Tx
def fsn (H : Hp) : V → V
  | .ref t => match H t with
    | some (.tup [.int k, .int m]) => .int m
    | _ => .non
  | _ => .non
theorem fsn_at {H : Hp} {t : Addr} {p : Int × Int} (h1 : H t = some (.tup [.int p.1, .int p.2])) : fsn H (.ref t) = .int p.2 := by
  show (match H t with | some (.tup [.int k, .int m]) => V.int m | _ => .non) = _
  rw [h1]
theorem fsn_map {H : Hp} : ∀ {ts : List Addr} {rs : List (Int × Int)}, TsAt H ts rs → (ts.map V.ref).map (fsn H) = (rs.map (·.2)).map V.int
  | [], [], _ => rfl
  | t :: ts, p :: rs, ⟨h1, h2⟩ => by
    rw [List.map_cons, List.map_cons, fsn_at h1, fsn_map h2]
    rfl
  | [], _ :: _, h => h.elim
  | _ :: _, [], h => h.elim
theorem TsAt.dat {H : Hp} {l : Addr} {ts : List Addr} {rs : List (Int × Int)} (h : TsAt H ts rs) (hl : H l = some (.lst (ts.map V.ref))) : DatV K H (.list (rs.map pr)) (.ref l) :=
  dat_prs (.of hl) h.len fun j t p h1 h2 => by
    obtain ⟨q, h3, h4⟩ := h.get h1
    rw [h2] at h3
    cases h3
    exact .of h4
theorem eqv_nil (l : List PyData) : PyData.eqv (.list l) (.list []) = l.isEmpty := by
  cases l <;> simp [PyData.eqv, PyData.eqvAll]
theorem TsAt.free {H : Hp} {p : Addr} {o : HO} {ts : List Addr} {rs : List (Int × Int)} (h : TsAt H ts rs) (hp : H p = none) : TsAt (upd H p o) ts rs := h.mono fun t a b e => by rw [upd_ne (ne_of_none e hp)]; exact e
theorem TsAt.last {H : Hp} : ∀ {ts : List Addr} {rs : List (Int × Int)}, TsAt H ts rs → rs ≠ [] → ∃ t k m, (ts.map V.ref).getLast? = some (.ref t) ∧ H t = some (.tup [.int k, .int m]) ∧ lastK rs = some k
  | [], [], _, h => absurd rfl h
  | [t], [p], ⟨h1, _⟩, _ => ⟨t, p.1, p.2, rfl, h1, rfl⟩
  | t :: u :: ts, p :: q :: rs, ⟨_, h2⟩, _ => by
    obtain ⟨t2, k, m, e1, e2, e3⟩ := TsAt.last h2 (List.cons_ne_nil _ _)
    refine ⟨t2, k, m, ?_, e2, ?_⟩
    · rw [← e1]; simp
    · rw [← e3]; simp [lastK]
  | [], _ :: _, h, _ => h.elim
  | _ :: _, [], h, _ => h.elim
  | [_], _ :: _ :: _, ⟨_, h⟩, _ => h.elim
  | _ :: _ :: _, [_], ⟨_, h⟩, _ => h.elim
theorem atI_lastV {xs : List V} {v : V} (h : xs.getLast? = some v) : atI xs (-1) = some v := by
  have h1 : xs ≠ [] := fun z => by rw [z] at h; cases h
  have h2 : 0 < xs.length := List.length_pos_iff.mpr h1
  unfold atI ixN
  rw [List.getLast?_eq_getElem?] at h
  have e : xs[xs.length - 1]? = some v := h
  have e2 : ((-1 : Int) + (xs.length : Int)).toNat = xs.length - 1 := by omega
  simp only [show ¬ ((0 : Int) ≤ -1) by decide, if_false]
  rw [if_pos (by omega), e2]
  exact e
theorem numO_yes {x : Str} (h : isNum x = true) : numO x = .int (numV x) := by unfold numO; rw [if_pos h]
theorem numO_no {x : Str} (h : ¬ isNum x = true) : numO x = .non := by unfold numO; rw [if_neg h]
theorem split_few {x : Str} : (Txt.split x blank).length ≤ x.length + 2 := PyProof.Rows.split_le x blank
def sp__law_in : Sp := fun vs H Q _ => ∃ x : Str, vs = [.str x] ∧ x.length ≤ 5000 ∧
  (∀ rs l ts H', rdT x = some rs → rs.length ≤ 5002 → Same H H' → H l = none → H' l = some (.lst (ts.map V.ref)) → TsAt H' ts rs → Q (.ref l) H') ∧ (rdT x = none → ∀ H', Same H H' → Q .non H')
theorem sc__law_in : FnScope ["_law_text", "_law_runs", "_law_word", "_law_kind", "_law_sign", "_law_many_here"] ["_law_text"] (defScope s__law_in) := ⟨rfl, rfl, rfl, by decide +kernel, rfl, by decide +kernel, by decide +kernel⟩
theorem ok__law_in (T : Txt K mg Z) : FnOk P w K mg base CX0 2 Z.f__law_in Z.d__law_in ["_law_text"] sp__law_in := by
  have G__law_number := ok__law_number (P := P) (w := w) (base := base) T
  refine T._law_in.fn.ok sc__law_in (fun vs H Q E h => ?_) (fun cdv A outer s H vs Q E hr h => ?_)
  · obtain ⟨x, rfl, _⟩ := h
    rfl
  · obtain ⟨x, rfl, hl, kQ, kN⟩ := h
    have hu64 := hr.units
    refine ⟨_, (pss_cons (ps_if (pt_cmpR op_eq (pv 0) pe_str (nomark _)) (pss_one (ps_ret (pe_lst pa_nil))) pss_nil)
      (pss_cons (ps_set (i := 1) sc__law_in.nd rfl (Or.inl rfl) (pe_lst pa_nil))
      (pss_cons (ps_for PassesOwn.never rfl (pi_list (pe_bm PySem.F.plainAttrs_str PySem.F.slot_str_split PySem.F.type_str_split mt_str_split (pv 0) (pa_cons pe_str pa_nil))) (pg_name (i := 2) sc__law_in.nd rfl (Or.inl rfl)) (pss_cons (ps_asg (pe_bm PySem.F.plainAttrs_str PySem.F.slot_str_partition PySem.F.type_str_partition mt_str_partition (pv 2) (pa_cons pe_str pa_nil)) (pg_tup (n := 3) rfl (pgs_cons (pg_name (i := 3) sc__law_in.nd rfl (Or.inl rfl)) (pgs_cons (pg_name (i := 4) sc__law_in.nd rfl (Or.inl rfl)) (pgs_cons (pg_name (i := 5) sc__law_in.nd rfl (Or.inl rfl)) pgs_nil)))))
      (pss_cons (ps_par (i := 3) (j := 5) rfl sc__law_in.nd rfl rfl (by decide) rfl rfl (pa_cons (pe_call G__law_number (hr.mono (by decide)) rfl T._law_number.mg T._law_number.fn.kp T._law_number.bd .nil pass0 (pa_cons (pv 3) pa_nil)) (pa_cons (pe_call G__law_number (hr.mono (by decide)) rfl T._law_number.mg T._law_number.fn.kp T._law_number.bd .nil pass0 (pa_cons (pv 5) pa_nil)) pa_nil)) rfl)
      (pss_cons (ps_if (PW.pt (pw_or (pt_cmpR op_eq (pv 4) pe_str (nomark _)) (pw_or (pt_cmpR op_isN (pv 3) pe_non (nomark _)) (pw_or (pt_cmpR op_isN (pv 5) pe_non (nomark _)) (pw_or (pt_cmpR op_gt (pv 3) pe_int (nomark _)) (pw_or1 (pt_cmpR op_eq (pv 5) pe_int (nomark _)))))))) (pss_one (ps_ret pe_non)) pss_nil)
      (pss_cons (ps_if (PW.pt (pw_and (pt_cmpR (op_neD hu64) (pv 1) (pe_lst pa_nil) (nomark _)) (pw_and1 (pt_cmpR op_eq (pe_ix ix_tup (pe_ix ix_list (pv 1) (pe_un un_neg pe_int) (fun _ _ => rfl)) pe_int (fun _ _ => rfl)) (pv 3) (nomark _))))) (pss_one (ps_ret pe_non)) pss_nil)
      (pss_one (ps_expr (pe_bm PySem.F.plainAttrs_list PySem.F.slot_list_append PySem.F.type_list_append mt_append (pv 1) (pa_cons (pe_tup (pa_cons (pv 3) (pa_cons (pv 5) pa_nil))) pa_nil)))))))))
      (pss_one (ps_ret (pe_ifExp (pt_cmpR op_lt (pe_callB (call_sum_of rfl) rfl T.b_sum boot_sum (pa_cons (pe_lcomp (N := ["_law_kind", "_law_many_here"]) (cap := [none, none]) rfl (compScope_of (XN := ["_law_text", "_law_runs", "_law_word", "_law_kind", "_law_sign", "_law_many_here"]) (xs := (defScope s__law_in).names) rfl rfl (by decide +kernel)) (pi_list (pv 1)) (fun _ _ _ => (pg_tupK (K := K) (n := 2) rfl rfl (pgs_cons (pg_name (i := 0) (show (["_law_kind", "_law_many_here"] : List Str).Nodup by decide +kernel) rfl (Or.inl rfl) (Or.inr rfl)) (pgs_cons (pg_name (i := 1) (show (["_law_kind", "_law_many_here"] : List Str).Nodup by decide +kernel) rfl (Or.inl rfl) (Or.inr rfl)) pgs_nil)))) (fun _ _ _ => pts_nil) (fun _ _ _ => (pv 1))) pa_nil)) pe_int (nomark _)) (pv 1) pe_non)))))), ?_⟩
    refine ⟨_, rfl, rfl, _, rfl, ?_⟩
    rw [minus_eq]
    refine ite2 (fun hm => ?_) (fun hm => ?_)
    · have hm' : x = minus := V.str.inj (of_decide_eq_true hm)
      have e : rdT x = some [] := by unfold rdT; rw [if_pos hm']
      exact ⟨by show 0 ≤ sizeLine; decide, fun l hl0 => kQ [] l [] _ e (by decide) ((Same.refl H).upd hl0) hl0 upd_same trivial⟩
    have hx : x ≠ minus := fun z => hm (decide_eq_true (congrArg V.str z))
    refine nextS ?_
    refine ⟨by show 0 ≤ sizeLine; decide, fun l hl0 => ?_⟩
    have s1 : Same H (upd H l (.lst [])) := (Same.refl H).upd hl0
    have hz : x.length + 2 ≤ sizeLine := Nat.le_trans (show x.length + 2 ≤ 10000 by omega) (by decide)
    refine ⟨_, rfl, rfl, x, _, rfl, rfl, by decide +kernel, hz, fun lw hlw => ?_⟩
    rw [blank_eq]
    have hwl0 : (Txt.split x blank).length ≤ 5002 := Nat.le_trans split_few (by omega)
    generalize hws : Txt.split x blank = ws at hwl0
    have hw0 : ∀ w ∈ ws, w.length ≤ 5000 := fun w hw => by
      rw [← hws] at hw
      exact Nat.le_trans (PyProof.Rows.part_short hw) hl
    have nel : lw ≠ l := fun z => by rw [z, upd_same] at hlw; cases hlw
    have s2 : Same H (upd (upd H l (.lst [])) lw (.lst (ws.map V.str))) := s1.upd (s1.free hlw)
    refine ⟨lw, rfl, ⟨_, .of upd_same⟩, for_list (K := K) (a := lw) (xs := ws.map V.str) (fun i σ H2 => ∃ (v2 v3 v4 v5 : Option V) (acc : List (Int × Int)) (ts : List Addr), σ = [some (.str x), some (.ref l), v2, v3, v4, v5] ∧ Same H H2 ∧ H2 l = some (.lst (ts.map V.ref)) ∧ H2 lw = some (.lst (ws.map V.str)) ∧ Tx.At ws i acc ∧ TsAt H2 ts acc ∧ acc.length = i)
      ⟨none, none, none, none, [], [], rfl, s2, by rw [upd_ne (Ne.symm nel), upd_same]; rfl, upd_same, Tx.At.zero ws, trivial, rfl⟩ (fun i σ H2 _ ⟨_, _, _, _, _, _, _, _, _, h4, _⟩ => .of h4) ?_ ?_⟩
    · rintro i y σ H2 hy ⟨v2, v3, v4, v5, acc, ts, rfl, s3, h3, h4, at1, tA, hal⟩
      rw [List.getElem?_map] at hy
      cases ew : ws[i]? with
      | none => rw [ew] at hy; cases hy
      | some w =>
      rw [ew] at hy
      cases hy
      have hil : i < ws.length := (List.getElem?_eq_some_iff.mp ew).1
      have hwl := hw0 w (List.mem_of_getElem? ew)
      have hwz : w.length ≤ sizeLine := Nat.le_trans (show w.length ≤ 10000 by omega) (by decide)
      refine ⟨_, rfl, rfl, w, _, rfl, rfl, by decide +kernel, hwz, fun p hp => ?_⟩
      rw [star_eq]
      obtain ⟨f1, f2, f3⟩ := PyProof.Rows.fact_partition w star
      have hW : rdW w = if (Txt.partition w star).2.1 ≠ Str.empty ∧ isNum (Txt.partition w star).1 = true ∧ isNum (Txt.partition w star).2.2 = true ∧ numV (Txt.partition w star).1 ≤ 999 ∧ numV (Txt.partition w star).2.2 ≠ 0
        then some (numV (Txt.partition w star).1, numV (Txt.partition w star).2.2) else none := rfl
      generalize (Txt.partition w star).1 = pk at f1 hW
      generalize (Txt.partition w star).2.1 = sg at f2 hW
      generalize (Txt.partition w star).2.2 = pm at f3 hW
      have np : p ≠ l := fun z => by rw [z, h3] at hp; cases hp
      have np2 : p ≠ lw := fun z => by rw [z, h4] at hp; cases hp
      have s4 : Same H (upd H2 p (.tup [.str pk, .str sg, .str pm])) := s3.upd (s3.free hp)
      have h3' : (upd H2 p (.tup [.str pk, .str sg, .str pm])) l = some (.lst (ts.map V.ref)) := by rw [upd_ne (Ne.symm np)]; exact h3
      have h4' : (upd H2 p (.tup [.str pk, .str sg, .str pm])) lw = some (.lst (ws.map V.str)) := by rw [upd_ne (Ne.symm np2)]; exact h4
      have tA' : TsAt (upd H2 p (.tup [.str pk, .str sg, .str pm])) ts acc := tA.free hp
      refine ⟨p, _, rfl, .of upd_same, rfl, _, _, rfl, _, _, rfl, _, _, rfl, rfl, ?_⟩
      generalize upd H2 p (.tup [.str pk, .str sg, .str pm]) = H3 at s4 h3' h4' tA'
      refine nxS ?_
      refine ⟨_, rfl, pk, rfl, by omega, _, rfl, pm, rfl, by omega, _, _, rfl, ?_⟩
      refine nxS ?_
      refine seq_cut (fun σ' H' => σ' = [some (.str x), some (.ref l), some (.str w), some (.int (numV pk)), some (.str sg), some (.int (numV pm))] ∧ H' = H3 ∧ rdW w = some (numV pk, numV pm)) (fun k hk => ?_) (fun σ' H' hj => ?_)
      · refine ⟨_, rfl, rfl, _, rfl, ?_⟩
        rw [empty_eq]
        refine ite2 (fun h0 => iteT ?_) (fun h0 => ?_)
        · have h0' : sg = Str.empty := V.str.inj (of_decide_eq_true h0)
          rw [if_neg fun z => z.1 h0'] at hW
          exact kN (rdT_none1 hx (by rw [hws]; exact at1.nop ew hW)) H3 s4
        have h0' : sg ≠ Str.empty := fun z => h0 (decide_eq_true (congrArg V.str z))
        by_cases hk1 : isNum pk = true
        · rw [numO_yes hk1]
          refine ⟨_, rfl, rfl, _, rfl, iteF ?_⟩
          by_cases hm1 : isNum pm = true
          · rw [numO_yes hm1]
            refine ⟨_, rfl, rfl, _, rfl, iteF ?_⟩
            refine ⟨_, rfl, _, _, rfl, rfl, _, rfl, ite2 (fun h9 => iteT ?_) (fun h9 => ?_)⟩
            · have := of_decide_eq_true h9
              rw [if_neg fun z => by omega] at hW
              exact kN (rdT_none1 hx (by rw [hws]; exact at1.nop ew hW)) H3 s4
            have h9' : numV pk ≤ 999 := by
              rcases Int.lt_or_le 999 (numV pk) with z | z
              · exact absurd (decide_eq_true z) h9
              · exact z
            refine ⟨_, rfl, rfl, _, rfl, ite2 (fun h8 => ?_) (fun h8 => ?_)⟩
            · have h8' : numV pm = 0 := V.int.inj (of_decide_eq_true h8)
              rw [if_neg fun z => z.2.2.2.2 h8'] at hW
              exact kN (rdT_none1 hx (by rw [hws]; exact at1.nop ew hW)) H3 s4
            · have h8' : numV pm ≠ 0 := fun z => h8 (decide_eq_true (congrArg V.int z))
              rw [if_pos ⟨h0', hk1, hm1, h9', h8'⟩] at hW
              exact hk _ _ ⟨rfl, rfl, hW⟩
          · rw [numO_no hm1]
            rw [if_neg fun z => hm1 z.2.2.1] at hW
            exact ⟨_, rfl, rfl, _, rfl, iteT (iteT (kN (rdT_none1 hx (by rw [hws]; exact at1.nop ew hW)) H3 s4))⟩
        · rw [numO_no hk1]
          rw [if_neg fun z => hk1 z.2.1] at hW
          exact ⟨_, rfl, rfl, _, rfl, iteT (iteT (kN (rdT_none1 hx (by rw [hws]; exact at1.nop ew hW)) H3 s4))⟩
      obtain ⟨rfl, eH, hW2⟩ := hj
      rw [eH]
      clear hW
      have hlk : lastK acc = some (numV pk) → ∀ H5, Same H H5 → Q .non H5 := fun e H5 s5 => kN (rdT_none1 hx (by rw [hws]; exact at1.same ew hW2 e)) H5 s5
      refine seq_cut (fun σ2 H5 => σ2 = [some (.str x), some (.ref l), some (.str w), some (.int (numV pk)), some (.str sg), some (.int (numV pm))] ∧ Same H H5 ∧ H5 l = some (.lst (ts.map V.ref)) ∧ H5 lw = some (.lst (ws.map V.str)) ∧ TsAt H5 ts acc ∧ lastK acc ≠ some (numV pk)) (fun k hk => ?_) (fun σ2 H5 hj => ?_)
      · refine ⟨_, rfl, by show 0 ≤ sizeLine; decide, fun e he => ?_⟩
        have s5 := s4.upd (o := .lst []) (s4.free he)
        have h5 := (show (upd H3 e (.lst [])) l = some (.lst (ts.map V.ref)) by rw [upd_ne (ne_of_none h3' he)]; exact h3')
        have h6 := (show (upd H3 e (.lst [])) lw = some (.lst (ws.map V.str)) by rw [upd_ne (ne_of_none h4' he)]; exact h4')
        have tA5 := tA'.free (o := .lst []) he
        have d2 : DatV K (upd H3 e (.lst [])) (.list []) (.ref e) := dat_ints (ns := []) (.of upd_same)
        generalize upd H3 e (.lst []) = H6 at s5 h5 h6 tA5 d2
        refine ⟨_, _, tA5.dat h5, d2, shaped_prs acc, shaped_ints [], _, rfl, ?_⟩
        show if (!PyData.eqv (.list (acc.map pr)) (.list [])) = true then _ else _
        rw [eqv_nil]
        by_cases hacc : acc = []
        · subst hacc
          exact iteF (iteF (hk _ _ ⟨rfl, s5, h5, h6, tA5, by simp [lastK]⟩))
        · have hne : (!(acc.map pr).isEmpty) = true := by
            cases acc with
            | nil => exact absurd rfl hacc
            | cons _ _ => rfl
          rw [hne]
          obtain ⟨t, kd, m, e1, e2, e3⟩ := tA5.last hacc
          refine iteT ?_
          refine ⟨_, rfl, _, rfl, l, _, _, _, rfl, rfl, .of h5, atI_lastV e1, t, _, _, _, rfl, rfl, .of e2, atI_nat (j := 0) rfl, _, rfl, rfl, _, rfl, ite2 (fun h7 => ?_) (fun h7 => ?_)⟩
          · have h7' : kd = numV pk := V.int.inj (of_decide_eq_true h7)
            exact hlk (by rw [e3, h7']) H6 s5
          · refine hk _ _ ⟨rfl, s5, h5, h6, tA5, fun z => h7 ?_⟩
            rw [e3] at z
            rw [Option.some.inj z]
            exact decide_eq_true rfl
      · obtain ⟨rfl, s5, h5, h6, tA5, hk⟩ := hj
        refine ⟨_, rfl, tyL h5, _, rfl, _, rfl, by show 2 ≤ sizeLine; decide, fun t ht => ?_⟩
        have n1 : t ≠ l := fun z => by rw [z, h5] at ht; cases ht
        have n2 : t ≠ lw := fun z => by rw [z, h6] at ht; cases ht
        have h5' : (upd H5 t (.tup [.int (numV pk), .int (numV pm)])) l = some (.lst (ts.map V.ref)) := by rw [upd_ne (Ne.symm n1)]; exact h5
        refine ⟨l, _, _, rfl, rfl, h5', by rw [List.length_map, tA5.len, hal]; exact smallM (by omega), ?_⟩
        refine ⟨_, _, _, _, acc ++ [(numV pk, numV pm)], ts ++ [t], rfl, (s5.upd (s5.free ht)).upd hl0, ?_, ?_, at1.next ew hW2 hk, ((tA5.free ht).snoc (p := (numV pk, numV pm)) upd_same).set h5', by rw [List.length_append, hal]; rfl⟩
        · rw [upd_same, List.map_append]; rfl
        · rw [upd_ne nel, upd_ne (Ne.symm n2)]; exact h6
    · rintro σ H2 ⟨v2, v3, v4, v5, acc, ts, rfl, s3, h3, h4, at1, tA, hal⟩
      rw [List.length_map] at at1 hal
      have e1 := at1.done
      refine ⟨_, rfl, l, rfl, ⟨_, .of h3⟩, lc_listM (fun σ => ∃ v1 v2, σ = [v1, v2]) (fsn H2) (by rw [List.length_map, tA.len]; omega) ⟨none, none, rfl⟩ (.of h3) ?_ ?_⟩
      · rintro i y σ' H3 k2 r hy ⟨v1, v2, rfl⟩ sm' hk
        rw [List.getElem?_map] at hy
        cases et : ts[i]? with
        | none => rw [et] at hy; cases hy
        | some t =>
          rw [et] at hy
          cases hy
          obtain ⟨p, hp, ht⟩ := tA.get et
          rw [fsn_at ht] at hk
          exact ⟨t, _, rfl, .of (sm' t _ ht), rfl, _, _, rfl, _, _, rfl, rfl, _, rfl, hk _ _ ⟨_, _, rfl⟩ (Same.refl _)⟩
      · intro D H3 hD sm' hA
        rw [fsn_map tA] at hA
        have s4 := s3.trans sm'
        refine ⟨.ref D, _, rfl, ⟨D, rfl, .inl (.of hA)⟩, _, _, rfl, rfl, _, rfl, ite2 (fun h9 => ?_) (fun h9 => ?_)⟩
        · have h9' : sm acc < 1000001 := of_decide_eq_true h9
          exact ⟨_, rfl, kQ acc l ts H3 (rdT_some1 hx (by rw [hws]; exact e1) (by omega)) (by omega) s4 hl0 (sm' l _ h3) (tA.same sm')⟩
        · refine kN (rdT_none2 hx fun rs hrs hle => h9 ?_) H3 s4
          rw [hws, e1] at hrs
          cases hrs
          exact decide_eq_true (show sm acc < 1000001 by omega)
end
end K8
set_option maxHeartbeats 1000000
namespace K8
open PySem PySem.Spec PyProof.Rows L2 Tl
seal PSs PS PE PT PW PA PG PGs PI PTs PC
section
variable {P : Program} {w : World} {K : PySem.W.Frag} {mg : Str → Option Value} {base : Heap} {Z : Ad}
open Tx
def sp__law_refused : Sp := fun vs H Q _ => ∃ x : Str, vs = [.str x] ∧ x.length ≤ 5000 ∧ rdT x = none ∧ ∀ H', Same H H' → Q (.bl true) H'
theorem sc__law_refused : FnScope ["_law_text", "error", "_law_others"] ["_law_text"] (defScope s__law_refused) := ⟨rfl, rfl, rfl, by decide +kernel, rfl, by decide +kernel, by decide +kernel⟩
theorem ok__law_refused (T : Txt K mg Z) : FnOk P w K mg base CX0 4 Z.f__law_refused Z.d__law_refused ["_law_text"] sp__law_refused := by
  have G_read := ok_read (P := P) (w := w) (base := base) T
  refine T._law_refused.fn.ok sc__law_refused (fun vs H Q E h => ?_) (fun cdv A outer s H vs Q E hr h => ?_)
  · obtain ⟨x, rfl, _⟩ := h
    rfl
  · obtain ⟨x, rfl, hl, hn, k⟩ := h
    refine ⟨_, (pss_cons (ps_try (i := 1) rfl rfl rfl (fun _ _ => (pss_one (ps_expr (pe_call G_read (hr.mono (by decide)) rfl T.read.mg T.read.fn.kp T.read.bd .nil (passesT rfl) (pa_cons (pv 0) pa_nil))))) rfl T.m_HeapError sc__law_refused.nd rfl rfl (fun _ => (pss_cons (ps_set (i := 2) sc__law_refused.nd rfl (Or.inl rfl) (pe_lst (pa_cons (pe_callB call_isinst_excC rfl T.b_isinstance boot_isinstance (pa_cons (pv 1) (pa_cons (pe_glob (v := .ref Z.c_BadHeap) rfl T.m_BadHeap rfl) pa_nil))) (pa_cons (pe_callB call_isinst_excC rfl T.b_isinstance boot_isinstance (pa_cons (pv 1) (pa_cons (pe_glob (v := .ref Z.c_BadNumber) rfl T.m_BadNumber rfl) pa_nil))) (pa_cons (pe_callB call_isinst_excC rfl T.b_isinstance boot_isinstance (pa_cons (pv 1) (pa_cons (pe_glob (v := .ref Z.c_TooFew) rfl T.m_TooFew rfl) pa_nil))) pa_nil)))))
      (pss_one (ps_ret (pe_and (pe_callB call_isinst_excC rfl T.b_isinstance boot_isinstance (pa_cons (pv 1) (pa_cons (pe_glob (v := .ref Z.c_BadText) rfl T.m_BadText rfl) pa_nil))) (pe_and (pe_callB call_isinst_excT rfl T.b_isinstance boot_isinstance (pa_cons (pv 1) (pa_cons (pe_ty rfl T.b_ValueError boot_ValueError) pa_nil))) (pe_one (pe_not (pe_callB (call_any_h rfl) rfl T.b_any boot_any (pa_cons (pv 2) pa_nil)))))))))))
      (pss_one (ps_ret pe_bl))), ?_⟩
    refine ⟨_, rfl, x, rfl, hl, (fun rs l H' e => by rw [hn] at e; cases e), fun _ H1 s1 => ⟨Z.c_BadText, rfl, T.e_BadText, fun e σ' hσ he => ?_⟩⟩
    obtain ⟨x0, x1, x2, rfl⟩ : ∃ x0 x1 x2, σ' = [x0, x1, x2] := by
      match σ', hσ with
      | [x0, x1, x2], _ => exact ⟨x0, x1, x2, rfl⟩
    have s2 : Same H (upd H1 e (excO e Z.c_BadText)) := s1.upd (s1.free he)
    refine ⟨_, rfl, e, Z.c_BadText, Z.c_BadHeap, _, rfl, upd_same, T.y_BadText, T.q_BadText_BadHeap, ?_⟩
    refine ⟨_, rfl, e, Z.c_BadText, Z.c_BadNumber, _, rfl, upd_same, T.y_BadText, T.q_BadText_BadNumber, ?_⟩
    refine ⟨_, rfl, e, Z.c_BadText, Z.c_TooFew, _, rfl, upd_same, T.y_BadText, T.q_BadText_TooFew, ?_⟩
    refine ⟨by show 3 ≤ sizeLine; decide, fun ol hol => ?_⟩
    have s3 : Same H (upd (upd H1 e (excO e Z.c_BadText)) ol (.lst [.bl false, .bl false, .bl false])) := s2.upd (s2.free hol)
    have ne : e ≠ ol := ne_of_none upd_same hol
    have he3 : (upd (upd H1 e (excO e Z.c_BadText)) ol (.lst [.bl false, .bl false, .bl false])) e = some (excO e Z.c_BadText) := by rw [upd_ne ne]; exact upd_same
    refine ⟨_, rfl, e, Z.c_BadText, Z.c_BadText, _, rfl, he3, T.y_BadText, T.q_BadText_BadText, true, rfl, iteT ?_⟩
    refine ⟨_, rfl, e, Z.c_BadText, "ValueError", _, rfl, he3, T.y_BadText, T.v_BadText, true, rfl, iteT ?_⟩
    exact ⟨_, rfl, ol, Z.c_BadText, [false, false, false], rfl, .of upd_same, he3, false, rfl, k _ s3⟩
def sp__law_refused0 : Sp := fun vs H Q _ => ∃ v : V, vs = [v] ∧ NoText H v ∧ ∀ H', Same H H' → Q (.bl true) H'
theorem ok__law_refused0 (T : Txt K mg Z) : FnOk P w K mg base CX0 2 Z.f__law_refused Z.d__law_refused ["_law_text"] sp__law_refused0 := by
  have G_read0 := ok_read0 (P := P) (w := w) (base := base) T
  refine T._law_refused.fn.ok sc__law_refused (fun vs H Q E h => ?_) (fun cdv A outer s H vs Q E hr h => ?_)
  · obtain ⟨x, rfl, _⟩ := h
    rfl
  · obtain ⟨x, rfl, hn, k⟩ := h
    refine ⟨_, (pss_cons (ps_try (i := 1) rfl rfl rfl (fun _ _ => (pss_one (ps_expr (pe_call G_read0 (hr.mono (by decide)) rfl T.read.mg T.read.fn.kp T.read.bd .nil (passesT rfl) (pa_cons (pv 0) pa_nil))))) rfl T.m_HeapError sc__law_refused.nd rfl rfl (fun _ => (pss_cons (ps_set (i := 2) sc__law_refused.nd rfl (Or.inl rfl) (pe_lst (pa_cons (pe_callB call_isinst_excC rfl T.b_isinstance boot_isinstance (pa_cons (pv 1) (pa_cons (pe_glob (v := .ref Z.c_BadHeap) rfl T.m_BadHeap rfl) pa_nil))) (pa_cons (pe_callB call_isinst_excC rfl T.b_isinstance boot_isinstance (pa_cons (pv 1) (pa_cons (pe_glob (v := .ref Z.c_BadNumber) rfl T.m_BadNumber rfl) pa_nil))) (pa_cons (pe_callB call_isinst_excC rfl T.b_isinstance boot_isinstance (pa_cons (pv 1) (pa_cons (pe_glob (v := .ref Z.c_TooFew) rfl T.m_TooFew rfl) pa_nil))) pa_nil)))))
      (pss_one (ps_ret (pe_and (pe_callB call_isinst_excC rfl T.b_isinstance boot_isinstance (pa_cons (pv 1) (pa_cons (pe_glob (v := .ref Z.c_BadText) rfl T.m_BadText rfl) pa_nil))) (pe_and (pe_callB call_isinst_excT rfl T.b_isinstance boot_isinstance (pa_cons (pv 1) (pa_cons (pe_ty rfl T.b_ValueError boot_ValueError) pa_nil))) (pe_one (pe_not (pe_callB (call_any_h rfl) rfl T.b_any boot_any (pa_cons (pv 2) pa_nil)))))))))))
      (pss_one (ps_ret pe_bl))), ?_⟩
    refine ⟨_, rfl, x, rfl, hn, fun H1 s1 => ⟨Z.c_BadText, rfl, T.e_BadText, fun e σ' hσ he => ?_⟩⟩
    obtain ⟨x0, x1, x2, rfl⟩ : ∃ x0 x1 x2, σ' = [x0, x1, x2] := by
      match σ', hσ with
      | [x0, x1, x2], _ => exact ⟨x0, x1, x2, rfl⟩
    have s2 : Same H (upd H1 e (excO e Z.c_BadText)) := s1.upd (s1.free he)
    refine ⟨_, rfl, e, Z.c_BadText, Z.c_BadHeap, _, rfl, upd_same, T.y_BadText, T.q_BadText_BadHeap, ?_⟩
    refine ⟨_, rfl, e, Z.c_BadText, Z.c_BadNumber, _, rfl, upd_same, T.y_BadText, T.q_BadText_BadNumber, ?_⟩
    refine ⟨_, rfl, e, Z.c_BadText, Z.c_TooFew, _, rfl, upd_same, T.y_BadText, T.q_BadText_TooFew, ?_⟩
    refine ⟨by show 3 ≤ sizeLine; decide, fun ol hol => ?_⟩
    have s3 : Same H (upd (upd H1 e (excO e Z.c_BadText)) ol (.lst [.bl false, .bl false, .bl false])) := s2.upd (s2.free hol)
    have ne : e ≠ ol := ne_of_none upd_same hol
    have he3 : (upd (upd H1 e (excO e Z.c_BadText)) ol (.lst [.bl false, .bl false, .bl false])) e = some (excO e Z.c_BadText) := by rw [upd_ne ne]; exact upd_same
    refine ⟨_, rfl, e, Z.c_BadText, Z.c_BadText, _, rfl, he3, T.y_BadText, T.q_BadText_BadText, true, rfl, iteT ?_⟩
    refine ⟨_, rfl, e, Z.c_BadText, "ValueError", _, rfl, he3, T.y_BadText, T.v_BadText, true, rfl, iteT ?_⟩
    exact ⟨_, rfl, ol, Z.c_BadText, [false, false, false], rfl, .of upd_same, he3, false, rfl, k _ s3⟩
theorem exL_app (a b : List (Int × Int)) : exL (a ++ b) = exL a ++ exL b := by simp [exL]
theorem sm_pos {rs : List (Int × Int)} (h : ∀ p ∈ rs, 0 ≤ p.1 ∧ p.1 ≤ 999 ∧ 1 ≤ p.2 ∧ p.2 < 10000000) : 0 ≤ sm rs := by
  induction rs with
  | nil => simp [sm]
  | cons p r ih =>
    have := ih fun q hq => h q (by simp [hq])
    have := h p (by simp)
    show 0 ≤ p.2 + sm r
    omega
theorem exL_len {rs : List (Int × Int)} (h : ∀ p ∈ rs, 0 ≤ p.1 ∧ p.1 ≤ 999 ∧ 1 ≤ p.2 ∧ p.2 < 10000000) : ((exL rs).length : Int) = sm rs := by
  induction rs with
  | nil => simp [sm, exL]
  | cons p r ih =>
    have e := ih fun q hq => h q (by simp [hq])
    have := h p (by simp)
    have e2 : exL (p :: r) = List.replicate p.2.toNat p.1 ++ exL r := rfl
    rw [e2, List.length_append, List.length_replicate]
    show _ = p.2 + sm r
    omega
theorem wr_back {x : Str} {rs : List (Int × Int)} (h : rdT x = some rs) : wrT (exL rs) = x := by
  obtain ⟨h1, _, h3, h4⟩ := rdT_some h
  by_cases z : x = minus
  · rw [h3 z, z]
    rfl
  · obtain ⟨h5, h6⟩ := h4 z
    have hne : exL rs ≠ [] := fun w => by
      have e := runs_ex h1
      rw [w] at e
      exact h6 e.symm
    unfold wrT
    rw [if_neg hne, runs_ex h1]
    exact h5
def sp__law_right : Sp := fun vs H Q _ => ∃ x : Str, vs = [.str x] ∧ x.length ≤ 5000 ∧ ∀ H', Same H H' → Q (.bl true) H'
theorem sc__law_right : FnScope ["_law_text", "_law_runs", "_law_due", "_law_kind", "_law_many_here", "_law_found"] ["_law_text"] (defScope s__law_right) := ⟨rfl, rfl, rfl, by decide +kernel, rfl, by decide +kernel, by decide +kernel⟩
theorem ok__law_right (T : Txt K mg Z) : FnOk P w K mg base CX0 6 Z.f__law_right Z.d__law_right ["_law_text"] sp__law_right := by
  have G__law_in := ok__law_in (P := P) (w := w) (base := base) T
  have G__law_refused := ok__law_refused (P := P) (w := w) (base := base) T
  have G_read := ok_read (P := P) (w := w) (base := base) T
  have G_written := ok_written (P := P) (w := w) (base := base) T
  refine T._law_right.fn.ok sc__law_right (fun vs H Q E h => ?_) (fun cdv A outer s H vs Q E hr h => ?_)
  · obtain ⟨x, rfl, _⟩ := h
    rfl
  · obtain ⟨x, rfl, hl, k⟩ := h
    have hu64 := hr.units
    refine ⟨_, (pss_cons (ps_set (i := 1) sc__law_right.nd rfl (Or.inl rfl) (pe_call G__law_in (hr.mono (by decide)) rfl T._law_in.mg T._law_in.fn.kp T._law_in.bd .nil pass0 (pa_cons (pv 0) pa_nil)))
      (pss_cons (ps_if (pt_cmpR op_isN (pv 1) pe_non (nomark _)) (pss_one (ps_ret (pe_call G__law_refused (hr.mono (by decide)) rfl T._law_refused.mg T._law_refused.fn.kp T._law_refused.bd .nil pass0 (pa_cons (pv 0) pa_nil)))) pss_nil)
      (pss_cons (ps_if (pt_cmpR op_gt (pe_callB (call_sum_of rfl) rfl T.b_sum boot_sum (pa_cons (pe_lcomp (N := ["_law_kind", "_law_many_here"]) (cap := [none, none]) rfl (compScope_of (XN := ["_law_text", "_law_runs", "_law_due", "_law_kind", "_law_many_here", "_law_found"]) (xs := (defScope s__law_right).names) rfl rfl (by decide +kernel)) (pi_list (pv 1)) (fun _ _ _ => (pg_tupK (K := K) (n := 2) rfl rfl (pgs_cons (pg_name (i := 0) (show (["_law_kind", "_law_many_here"] : List Str).Nodup by decide +kernel) rfl (Or.inl rfl) (Or.inr rfl)) (pgs_cons (pg_name (i := 1) (show (["_law_kind", "_law_many_here"] : List Str).Nodup by decide +kernel) rfl (Or.inl rfl) (Or.inr rfl)) pgs_nil)))) (fun _ _ _ => pts_nil) (fun _ _ _ => (pv 1))) pa_nil)) pe_int (nomark _)) (pss_one (ps_ret pe_bl)) pss_nil)
      (pss_cons (ps_set (i := 2) sc__law_right.nd rfl (Or.inl rfl) (pe_lst pa_nil))
      (pss_cons (ps_for PassesOwn.never rfl (pi_list (pv 1)) (pg_tup (n := 2) rfl (pgs_cons (pg_name (i := 3) sc__law_right.nd rfl (Or.inl rfl)) (pgs_cons (pg_name (i := 4) sc__law_right.nd rfl (Or.inl rfl)) pgs_nil))) (pss_one (ps_set (i := 2) sc__law_right.nd rfl (Or.inl rfl) (pe_op op_cat (pv 2) (pe_op op_rep (pe_lst (pa_cons (pv 3) pa_nil)) (pv 4))))))
      (pss_cons (ps_set (i := 5) sc__law_right.nd rfl (Or.inl rfl) (pe_call G_read (hr.mono (by decide)) rfl T.read.mg T.read.fn.kp T.read.bd .nil passF (pa_cons (pv 0) pa_nil)))
      (pss_cons (ps_if (PW.pt (pw_or (pt_not (pt_val (pe_callB call_isinst rfl T.b_isinstance boot_isinstance (pa_cons (pv 5) (pa_cons (pe_ty rfl T.b_list boot_list) pa_nil))))) (pw_or (pt_cmpR (op_neD hu64) (pv 5) (pv 2) (nomark _)) (pw_or1 (pt_cmpR op_ne (pe_call G_written (hr.mono (by decide)) rfl T.written.mg T.written.fn.kp T.written.bd .nil pass0 (pa_cons (pv 5) pa_nil)) (pv 0) (nomark _)))))) (pss_one (ps_ret pe_bl)) pss_nil)
      (pss_cons (ps_expr (pe_bm PySem.F.plainAttrs_list PySem.F.slot_list_append PySem.F.type_list_append mt_append (pv 5) (pa_cons pe_int pa_nil)))
      (pss_one (ps_ret (pe_cmpR (op_eqD hu64) (pe_call G_read (hr.mono (by decide)) rfl T.read.mg T.read.fn.kp T.read.bd .nil passF (pa_cons (pv 0) pa_nil)) (pv 2) (nomark _)))))))))))), ?_⟩
    refine ⟨_, rfl, x, rfl, hl, fun rs l ts H1 e1 hrl s1 hl0 h1 tA => ?_, fun hn H1 s1 => ?_⟩
    · refine ⟨_, rfl, rfl, _, rfl, iteF ?_⟩
      refine nextS ?_
      have hmem := rn_mem (rdT_some e1).1
      refine ⟨_, rfl, l, rfl, ⟨_, .of h1⟩, lc_listM (fun σ => ∃ v1 v2, σ = [v1, v2]) (fsn H1) (by rw [List.length_map, tA.len]; omega) ⟨none, none, rfl⟩ (.of h1) ?_ ?_⟩
      · rintro i y σ' H3 k2 r hy ⟨v1, v2, rfl⟩ sm' hk
        rw [List.getElem?_map] at hy
        cases et : ts[i]? with
        | none => rw [et] at hy; cases hy
        | some t =>
          rw [et] at hy
          cases hy
          obtain ⟨p, hp, ht⟩ := tA.get et
          rw [fsn_at ht] at hk
          exact ⟨t, _, rfl, .of (sm' t _ ht), rfl, _, _, rfl, _, _, rfl, rfl, _, rfl, hk _ _ ⟨_, _, rfl⟩ (Same.refl _)⟩
      intro D H3 hD sm' hA
      rw [fsn_map tA] at hA
      have s3 := s1.trans sm'
      refine ⟨.ref D, _, rfl, ⟨D, rfl, .inl (.of hA)⟩, _, _, rfl, rfl, _, rfl, ite2 (fun h9 => k H3 s3) (fun h9 => ?_)⟩
      have h9' : sm rs ≤ 30000 := by
        rcases Int.lt_or_le 30000 (sm rs) with z | z
        · exact absurd (decide_eq_true z) h9
        · exact z
      refine nextS ?_
      refine ⟨by show 0 ≤ sizeLine; decide, fun du0 hdu0 => ?_⟩
      have h3 := sm' l _ h1
      have tA3 := tA.same sm'
      have s4 := s3.upd (o := .lst []) (s3.free hdu0)
      have h4 : (upd H3 du0 (.lst [])) l = some (.lst (ts.map V.ref)) := by rw [upd_ne (ne_of_none h3 hdu0)]; exact h3
      have tA4 := tA3.free (o := .lst []) hdu0
      refine ⟨_, rfl, l, rfl, ⟨_, .of h4⟩, for_list (K := K) (a := l) (xs := ts.map V.ref) (fun i σ H5 => ∃ (v3 v4 v5 : Option V) (du : Addr), σ = [some (.str x), some (.ref l), some (.ref du), v3, v4, v5] ∧ Same H H5 ∧ H5 l = some (.lst (ts.map V.ref)) ∧ TsAt H5 ts rs ∧ H5 du = some (.lst ((exL (rs.take i)).map V.int)) ∧ H du = none)
        ⟨none, none, none, du0, rfl, s4, h4, tA4, upd_same, s3.free hdu0⟩ (fun i σ H2 _ ⟨_, _, _, _, _, _, h5, _⟩ => .of h5) ?_ ?_⟩
      · rintro i y σ H5 hy ⟨v3, v4, v5, du, rfl, s5, h5, tA5, hdu, hdu0'⟩
        rw [List.getElem?_map] at hy
        cases et : ts[i]? with
        | none => rw [et] at hy; cases hy
        | some t =>
        rw [et] at hy
        cases hy
        obtain ⟨p, hp, ht⟩ := tA5.get et
        have hpm := hmem p (List.mem_of_getElem? hp)
        have etk : rs.take (i + 1) = rs.take i ++ [p] := by rw [List.take_add_one, hp]; rfl
        have hsm : sm (rs.take i) + p.2 ≤ 30000 := by
          have e2 : sm rs = sm (rs.take (i + 1)) + sm (rs.drop (i + 1)) := by rw [← sm_app, List.take_append_drop]
          have := sm_pos (rs := rs.drop (i + 1)) fun q hq => hmem q (List.mem_of_mem_drop hq)
          rw [etk, sm_app, show sm [p] = p.2 from by simp [sm]] at e2
          omega
        have hsl := exL_len (rs := rs.take i) fun q hq => hmem q (List.mem_of_mem_take hq)
        have hsp := sm_pos (rs := rs.take i) fun q hq => hmem q (List.mem_of_mem_take hq)
        have hML : (30000 : Nat) ≤ sizeLine := by decide
        refine ⟨t, _, rfl, .of ht, rfl, _, _, rfl, _, _, rfl, rfl, ?_⟩
        refine ⟨_, rfl, _, rfl, by show 1 ≤ sizeLine; decide, fun one hone => ?_⟩
        refine ⟨_, rfl, one, _, _, rfl, rfl, upd_same, by omega, by omega, by show 1 * _ ≤ _; omega, fun rp hrp => ?_⟩
        rw [rep_one]
        have s6 := s5.upd (o := .lst [.int p.1]) (s5.free hone)
        have s7 := s6.upd (o := .lst ((List.replicate p.2.toNat p.1).map V.int)) (s6.free hrp)
        have hdu6 : (upd H5 one (.lst [.int p.1])) du = some (.lst ((exL (rs.take i)).map V.int)) := by rw [upd_ne (ne_of_none hdu hone)]; exact hdu
        have h6 : (upd H5 one (.lst [.int p.1])) l = some (.lst (ts.map V.ref)) := by rw [upd_ne (ne_of_none h5 hone)]; exact h5
        have tA6 := tA5.free (o := .lst [.int p.1]) hone
        generalize upd H5 one (.lst [.int p.1]) = H6 at hrp s6 s7 hdu6 h6 tA6
        have hdu7 : (upd H6 rp (.lst ((List.replicate p.2.toNat p.1).map V.int))) du = some (.lst ((exL (rs.take i)).map V.int)) := by rw [upd_ne (ne_of_none hdu6 hrp)]; exact hdu6
        have h7 : (upd H6 rp (.lst ((List.replicate p.2.toNat p.1).map V.int))) l = some (.lst (ts.map V.ref)) := by rw [upd_ne (ne_of_none h6 hrp)]; exact h6
        have tA7 := tA6.free (o := .lst ((List.replicate p.2.toNat p.1).map V.int)) hrp
        have hrp7 : (upd H6 rp (.lst ((List.replicate p.2.toNat p.1).map V.int))) rp = some (.lst ((List.replicate p.2.toNat p.1).map V.int)) := upd_same
        generalize upd H6 rp (.lst ((List.replicate p.2.toNat p.1).map V.int)) = H7 at s7 hdu7 h7 tA7 hrp7
        refine ⟨du, rp, _, _, rfl, rfl, hdu7, hrp7, ?_, fun nw hnw => ?_⟩
        · rw [List.length_map, List.length_map, List.length_replicate]
          omega
        · refine ⟨_, _, _, nw, rfl, s7.upd (s7.free hnw), by rw [upd_ne (ne_of_none h7 hnw)]; exact h7, tA7.free hnw, ?_, s7.free hnw⟩
          rw [upd_same, etk, exL_app, List.map_append]
          simp [exL]
      · rintro σ H5 ⟨v3, v4, v5, du, rfl, s5, h5, tA5, hdu, hdu0'⟩
        rw [List.length_map, tA5.len, List.take_length] at hdu
        refine nxS ?_
        have hexk := exL_kinds (rdT_some e1).1
        have hexl : (exL rs).length ≤ 30000 := by
          have := exL_len hmem
          omega
        refine ⟨_, rfl, x, rfl, hl, fun rs' fl H6 e6 s6 hf0 hf => ?_, fun hn => by rw [e1] at hn; cases hn⟩
        rw [e1] at e6
        cases e6
        have hdu6 := s6 du _ hdu
        refine ⟨_, rfl, _, _, _, _, rfl, .lst hf, kit_list_list, true, rfl, iteF ?_⟩
        refine ⟨_, rfl, _, rfl, _, _, dat_ints (.of hf), dat_ints (.of hdu6), shaped_ints _, shaped_ints _, _, rfl, ?_⟩
        show if (!PyData.eqv (.list ((exL rs).map PyData.int)) (.list ((exL rs).map PyData.int))) = true then _ else _
        rw [shaped_refl (shaped_ints _)]
        refine iteF ?_
        refine ⟨_, rfl, fl, exL rs, rfl, hf, hexl, hexk, fun H7 s7 => ?_⟩
        rw [wr_back e1]
        refine ⟨_, rfl, rfl, _, rfl, ?_⟩
        rw [decide_eq_true (rfl : V.str x = V.str x)]
        refine iteF ?_
        refine nextS ?_
        have s07 := s5.trans (s6.trans s7)
        have hf7 := s7 fl _ hf
        have hdu7 := s7 du _ hdu6
        have nfd : du ≠ fl := ne_of_none hdu hf0
        have hfH := s5.free hf0
        refine ⟨_, rfl, tyL hf7, fl, _, _, rfl, rfl, hf7, by rw [List.length_map]; exact smallM (by omega), ?_⟩
        have s8 := s07.upd (o := .lst ((exL rs).map V.int ++ [.int 0])) hfH
        have hdu8 : (upd H7 fl (.lst ((exL rs).map V.int ++ [.int 0]))) du = some (.lst ((exL rs).map V.int)) := by rw [upd_ne nfd]; exact hdu7
        generalize upd H7 fl (.lst ((exL rs).map V.int ++ [.int 0])) = H8 at s8 hdu8
        refine ⟨_, rfl, x, rfl, hl, fun rs' f2 H9 e9 s9 hf20 hf2 => ?_, fun hn => by rw [e1] at hn; cases hn⟩
        rw [e1] at e9
        cases e9
        refine ⟨_, rfl, _, _, dat_ints (.of hf2), dat_ints (.of (s9 du _ hdu8)), shaped_ints _, shaped_ints _, ?_⟩
        show Q (V.bl (PyData.eqv _ _)) H9
        rw [shaped_refl (shaped_ints _)]
        exact k H9 (s8.trans s9)
    · exact ⟨_, rfl, rfl, _, rfl, iteT ⟨_, rfl, x, rfl, hl, hn, fun H2 s2 => k H2 (s1.trans s2)⟩⟩
end
end K8
set_option maxHeartbeats 1000000
namespace K8
open PySem PySem.Spec PyProof.Rows L2 Tl
seal PSs PS PE PT PW PA PG PGs PI PTs PC
section
variable {P : Program} {w : World} {K : PySem.W.Frag} {mg : Str → Option Value} {base : Heap} {Z : Ad}
open Tx
def fewA : List Str := ["", "-", " ", "--", "0*1", "0*0", "00*1", "0*01", "5*1 5*1", "5*2 6*1 5*1", "5", "5*", "*5", "*", "5**1"]
def fewB : List Str := ["999*1", "1000*1", "0*1 ", " 0*1", "0*1  1*1", "0 *1", "0* 1", "-1*1", "1*-1", "+1*1", "1*1*1"]
def fewC : List Str := ["5*1000001", "5*9999999", "5*99999999", "5*600000 6*600000", "5*1\n", "5*1\t6*1", "5x1", "5*1,6*1"]
def nines : Str := Txt.mul "9" 4000
def fewD : List Str := [nines ++ ("*1" : Str), ("1*" : Str) ++ nines, "5*1 -", "5*1_0", "5*3 4*2 5*3"]
theorem nines_len : nines.length ≤ 4000 := PyProof.Rows.len_mul_one (c := 57) (by decide +kernel) (by decide)
theorem nines_ok : MulOk ("9" : Str) 4000 := by
  have e : ("9" : Str).length = 1 := by decide +kernel
  refine ⟨by decide, fun _ _ => ?_, fun _ _ => ?_⟩
  · rw [e]; decide
  · rw [e]; decide
theorem short1 : ∀ x ∈ fewA, x.length ≤ 5000 := by decide +kernel
theorem short2 : ∀ x ∈ fewB, x.length ≤ 5000 := by decide +kernel
theorem short3 : ∀ x ∈ fewC, x.length ≤ 5000 := by decide +kernel
theorem short4 : ∀ x ∈ fewD, x.length ≤ 5000 := by
  have n := nines_len
  have e1 : ("*1" : Str).length = 2 := by decide +kernel
  have e2 : ("1*" : Str).length = 2 := by decide +kernel
  have e3 : ∀ x ∈ (["5*1 -", "5*1_0", "5*3 4*2 5*3"] : List Str), x.length ≤ 5000 := by decide +kernel
  intro x hx
  unfold fewD at hx
  rcases List.mem_cons.mp hx with rfl | hx
  · rw [Str.length_append]; omega
  rcases List.mem_cons.mp hx with rfl | hx
  · rw [Str.length_append]; omega
  exact e3 x hx
def sp__law_few : Sp := fun vs H Q _ => vs = [] ∧ ∀ (l : Addr) (xs : List Str) (H' : Hp), Same H H' → H l = none → H' l = some (.lst (xs.map V.str)) → xs.length ≤ 100 → (∀ x ∈ xs, x.length ≤ 5000) → Q (.ref l) H'
theorem sc__law_few : FnScope ["_law_some"] [] (defScope s__law_few) := ⟨rfl, rfl, rfl, by decide +kernel, rfl, by decide +kernel, by decide +kernel⟩
theorem ok__law_few (T : Txt K mg Z) : FnOk P w K mg base CX0 1 Z.f__law_few Z.d__law_few [] sp__law_few := by
  refine T._law_few.fn.ok sc__law_few (fun vs H Q E h => ?_) (fun cdv A outer s H vs Q E hr h => ?_)
  · obtain ⟨rfl, _⟩ := h
    rfl
  · obtain ⟨rfl, k⟩ := h
    refine ⟨_, (pss_cons (ps_set (i := 0) sc__law_few.nd rfl (Or.inl rfl) (pe_lst (pa_cons pe_str (pa_cons pe_str (pa_cons pe_str (pa_cons pe_str (pa_cons pe_str (pa_cons pe_str (pa_cons pe_str (pa_cons pe_str (pa_cons pe_str (pa_cons pe_str (pa_cons pe_str (pa_cons pe_str (pa_cons pe_str (pa_cons pe_str (pa_cons pe_str pa_nil)))))))))))))))))
      (pss_cons (ps_set (i := 0) sc__law_few.nd rfl (Or.inl rfl) (pe_op op_cat (pv 0) (pe_lst (pa_cons pe_str (pa_cons pe_str (pa_cons pe_str (pa_cons pe_str (pa_cons pe_str (pa_cons pe_str (pa_cons pe_str (pa_cons pe_str (pa_cons pe_str (pa_cons pe_str (pa_cons pe_str pa_nil))))))))))))))
      (pss_cons (ps_set (i := 0) sc__law_few.nd rfl (Or.inl rfl) (pe_op op_cat (pv 0) (pe_lst (pa_cons pe_str (pa_cons pe_str (pa_cons pe_str (pa_cons pe_str (pa_cons pe_str (pa_cons pe_str (pa_cons pe_str (pa_cons pe_str pa_nil)))))))))))
      (pss_one (ps_ret (pe_op op_cat (pv 0) (pe_lst (pa_cons (pe_op op_add_str (pe_op op_rep_str pe_str pe_int) pe_str) (pa_cons (pe_op op_add_str pe_str (pe_op op_rep_str pe_str pe_int)) (pa_cons pe_str (pa_cons pe_str (pa_cons pe_str pa_nil)))))))))))), ?_⟩
    refine ⟨by show 15 ≤ sizeLine; decide, fun l1 h1 => ?_⟩
    have s1 : Same H (upd H l1 (.lst (fewA.map V.str))) := (Same.refl H).upd h1
    refine ⟨_, rfl, by show 11 ≤ sizeLine; decide, fun l2 h2 => ?_⟩
    have s2 : Same H (upd (upd H l1 (.lst (fewA.map V.str))) l2 (.lst (fewB.map V.str))) := s1.upd (s1.free h2)
    have n2 : l1 ≠ l2 := ne_of_none (o := .lst (fewA.map V.str)) upd_same h2
    refine ⟨l1, l2, fewA.map V.str, fewB.map V.str, rfl, rfl, by rw [upd_ne n2]; exact upd_same, upd_same, by show 26 ≤ sizeLine; decide, fun l3 h3 => ?_⟩
    have s3 := s2.upd (o := .lst (fewA.map V.str ++ fewB.map V.str)) (s2.free h3)
    refine ⟨_, rfl, by show 8 ≤ sizeLine; decide, fun l4 h4 => ?_⟩
    have s4 := s3.upd (o := .lst (fewC.map V.str)) (s3.free h4)
    have n4 : l3 ≠ l4 := ne_of_none (o := .lst (fewA.map V.str ++ fewB.map V.str)) upd_same h4
    refine ⟨l3, l4, fewA.map V.str ++ fewB.map V.str, fewC.map V.str, rfl, rfl, by rw [upd_ne n4]; exact upd_same, upd_same, by show 34 ≤ sizeLine; decide, fun l5 h5 => ?_⟩
    have s5 := s4.upd (o := .lst ((fewA.map V.str ++ fewB.map V.str) ++ fewC.map V.str)) (s4.free h5)
    have nl := nines_len
    have e1 : ("*1" : Str).length = 2 := by decide +kernel
    have e2 : ("1*" : Str).length = 2 := by decide +kernel
    have hML : (30000 : Nat) ≤ sizeLine := by decide
    refine ⟨_, rfl, _, _, rfl, rfl, nines_ok, ?_⟩
    have hnn : Txt.mul (Str.ofString "9") 4000 = nines := rfl
    rw [hnn]
    have m1 : nines.length + (Str.ofString "*1").length ≤ sizeLine := by
      have : (Str.ofString "*1").length = 2 := e1
      omega
    have m2 : (Str.ofString "1*").length + nines.length ≤ sizeLine := by
      have : (Str.ofString "1*").length = 2 := e2
      omega
    have hD : (nines ++ Str.ofString "*1") :: (Str.ofString "1*" ++ nines) :: (["5*1 -", "5*1_0", "5*3 4*2 5*3"] : List Str) = fewD := rfl
    have sD := short4
    rw [← hD] at sD
    clear hD
    generalize nines = N at m1 m2 hnn sD
    refine ⟨N, _, rfl, rfl, m1, _, _, rfl, rfl, nines_ok, ?_⟩
    rw [hnn]
    refine ⟨_, N, rfl, rfl, m2, ?_⟩
    generalize N ++ Str.ofString "*1" = N1 at sD
    generalize Str.ofString "1*" ++ N = N2 at sD
    obtain ⟨fewE, hE⟩ : ∃ f : List Str, f = N1 :: N2 :: (["5*1 -", "5*1_0", "5*3 4*2 5*3"] : List Str) := ⟨_, rfl⟩
    rw [← hE] at sD
    refine ⟨by show 5 ≤ sizeLine; decide, fun l6 h6 => ?_⟩
    have s6 := s5.upd (o := .lst ((N1 :: N2 :: (["5*1 -", "5*1_0", "5*3 4*2 5*3"] : List Str)).map V.str)) (s5.free h6)
    have n6 : l5 ≠ l6 := ne_of_none (o := .lst ((fewA.map V.str ++ fewB.map V.str) ++ fewC.map V.str)) upd_same h6
    refine ⟨l5, l6, (fewA.map V.str ++ fewB.map V.str) ++ fewC.map V.str, (N1 :: N2 :: (["5*1 -", "5*1_0", "5*3 4*2 5*3"] : List Str)).map V.str, rfl, rfl, by rw [upd_ne n6]; exact upd_same, upd_same, by show 39 ≤ sizeLine; decide, fun l7 h7 => ?_⟩
    have s7 := s6.upd (o := .lst (((fewA.map V.str ++ fewB.map V.str) ++ fewC.map V.str) ++ (N1 :: N2 :: (["5*1 -", "5*1_0", "5*3 4*2 5*3"] : List Str)).map V.str)) (s6.free h7)
    refine k l7 (((fewA ++ fewB) ++ fewC) ++ (N1 :: N2 :: (["5*1 -", "5*1_0", "5*3 4*2 5*3"] : List Str))) _ s7 (s6.free h7) ?_ (by show 39 ≤ 100; decide) fun x hx => ?_
    · rw [List.map_append, List.map_append, List.map_append]
      exact upd_same
    · rcases List.mem_append.mp hx with hx | hx
      · rcases List.mem_append.mp hx with hx | hx
        · rcases List.mem_append.mp hx with hx | hx
          · exact short1 x hx
          · exact short2 x hx
        · exact short3 x hx
      · rw [← hE] at hx
        exact sD x hx
end
end K8
set_option maxHeartbeats 1000000
namespace K8
open PySem PySem.Spec PyProof.Rows L2 Tl
seal PSs PS PE PT PW PA PG PGs PI PTs PC
section
variable {P : Program} {w : World} {K : PySem.W.Frag} {mg : Str → Option Value} {base : Heap} {Z : Ad}
open Tx
theorem datvs_strs {H : Hp} : ∀ ns : List Str, DatVs K H (ns.map PyData.str) (ns.map V.str)
  | [] => by simp [DatVs]
  | n :: ns => by
    rw [List.map_cons, List.map_cons]
    unfold DatVs
    exact ⟨_, _, rfl, by simp [DatV], datvs_strs ns⟩
theorem dat_strs {H : Hp} {a : Addr} {ns : List Str} (h : SqL K H a (ns.map V.str)) : DatV K H (.list (ns.map PyData.str)) (.ref a) := by
  unfold DatV
  exact ⟨a, _, rfl, h, datvs_strs ns⟩
theorem ok_of {x : Str} (h : ∀ c ∈ x.cps.toList, c < 1114112) : PyData.strOk x = true := by
  unfold PyData.strOk
  rw [Array.all_eq_true']
  intro c hc
  exact decide_eq_true (h c (by simpa using hc))
theorem num_sg {i : Int} (h0 : 0 ≤ i) : ∀ c ∈ (Str.ofString (toString i)).cps.toList, c < 1114112 := by
  obtain ⟨m, rfl⟩ := Int.eq_ofNat_of_zero_le h0
  intro c hc
  rw [PySem.W.KIN.signs_num] at hc
  obtain ⟨ch, hch, e⟩ := List.mem_map.mp hc
  have r := digit_range (Nat.isDigit_of_mem_toDigits (by decide) (by decide) hch)
  omega
theorem tx_ok {p : Int × Int} (h0 : 0 ≤ p.1) (h1 : 0 ≤ p.2) : PyData.strOk (tx p) = true := by
  refine ok_of fun c hc => ?_
  unfold tx at hc
  rw [cps_app, cps_app, List.mem_append, List.mem_append] at hc
  rcases hc with (hc | hc) | hc
  · exact num_sg h0 c hc
  · rw [star_l] at hc
    rw [List.mem_singleton.mp hc]
    decide
  · exact num_sg h1 c hc
theorem lay_strs : ∀ ns : List Str, (∀ x ∈ ns, PyData.strOk x = true) → PyData.canLayAll0 (ns.map PyData.str) = true ∧ PyData.depthAll (ns.map PyData.str) = 0
  | [], _ => by simp [PyData.canLayAll0, PyData.depthAll]
  | n :: ns, h => by
    obtain ⟨h1, h2⟩ := lay_strs ns fun x hx => h x (by simp [hx])
    rw [List.map_cons]
    unfold PyData.canLayAll0 PyData.depthAll
    simp [h1, h2, PyData.canLay0, PyData.depth, h n (by simp)]
theorem shaped_strs (ns : List Str) (h : ∀ x ∈ ns, PyData.strOk x = true) : PySem.SeqAt.shaped (.list (ns.map PyData.str)) = true := by
  obtain ⟨h1, h2⟩ := lay_strs ns h
  simp [PySem.SeqAt.shaped, PyData.canLay0, PyData.depth, h1, h2]
theorem cut_len (x : Str) (lo hi : Option Int) : (cutS x lo hi).length ≤ x.length := by
  unfold cutS
  split
  · exact Nat.le_refl _
  · have h1 := sliceIndices_le lo hi x.length
    rw [len]
    show (List.filterMap _ _).toArray.toList.length ≤ _
    refine Nat.le_trans (List.length_filterMap_le _ _) h1
theorem at_some {α : Type} {xs : List α} {i : Int} (h0 : 0 ≤ i) (h1 : i < (xs.length : Int)) : ∃ c, atI xs i = some c ∧ c ∈ xs := by
  have hj : i.toNat < xs.length := by omega
  have e : ((i.toNat : Nat) : Int) = i := Int.toNat_of_nonneg h0
  have q := atI_nat (xs := xs) (List.getElem?_eq_getElem hj)
  rw [e] at q
  exact ⟨_, q, List.getElem_mem _⟩
theorem wrT_len {ns : List Int} (hl : ns.length ≤ 63) (hb : ∀ n ∈ ns, 0 ≤ n ∧ n ≤ 999) : (wrT ns).length ≤ 1400 := by
  unfold wrT
  split
  · decide
  · have h1 := StrLaws.join_length_le blank ((runsI ns).map tx)
    have h2 := StrLaws.sumLen_le (B := 21) ((runsI ns).map tx) fun y hy => by
      obtain ⟨p, hp, rfl⟩ := List.mem_map.mp hy
      have := runsI_mem hb p hp
      exact tx_len this.1 this.2.1 this.2.2.1 (by omega)
    have h3 := runsI_len ns
    have e : (Txt.join blank ((runsI ns).map tx)).length = (Str.join blank ((runsI ns).map tx)).length := congrArg Str.length (StrLaws.glued_eq_join blank _)
    rw [e]
    rw [List.length_map] at h1 h2
    have : blank.length = 1 := rfl
    rw [this] at h1
    omega
theorem sc_law : FnScope ["_law_script", "_law_heap_here", "_law_words", "_law_many_here", "_law_k", "_law_text", "_law_handed", "_law_cell", "_law_at", "_law_sign"] ["_law_script"] (defScope s_law) := ⟨rfl, rfl, rfl, by decide +kernel, rfl, by decide +kernel, by decide +kernel⟩
theorem ok_law (T : Txt K mg Z) : FnOk P w K mg base CX0 7 Z.f_law Z.d_law ["_law_script"] (sp_law K) := by
  have G__law_heap := ok__law_heap (P := P) (w := w) (base := base) T
  have G_written := ok_written (P := P) (w := w) (base := base) T
  have G__law_right := ok__law_right (P := P) (w := w) (base := base) T
  have G__law_cell_at := ok__law_cell_at (P := P) (w := w) (base := base) T
  have G__law_draw := ok__law_draw (P := P) (w := w) (base := base) T
  have G__law_few := ok__law_few (P := P) (w := w) (base := base) T
  have G__law_refused0 := ok__law_refused0 (P := P) (w := w) (base := base) T
  refine T.law.fn.ok sc_law (fun vs H Q E h => ?_) (fun cdv A outer s H vs Q E hr h => ?_)
  · obtain ⟨a, ns, rfl, _⟩ := h
    rfl
  · obtain ⟨a, ss, rfl, ha, hl, k⟩ := h
    have hu := hu_of hr
    have hu64 := hr.units
    refine ⟨_, (pss_cons (ps_set (i := 1) sc_law.nd rfl (Or.inl rfl) (pe_call G__law_heap (hr.mono (by decide)) rfl T._law_heap.mg T._law_heap.fn.kp T._law_heap.bd .nil pass0 (pa_cons (pv 0) pa_nil)))
      (pss_cons (ps_par (i := 2) (j := 3) rfl sc_law.nd rfl rfl (by decide) rfl rfl (pa_cons (pe_lst pa_nil) (pa_cons pe_int pa_nil)) rfl)
      (pss_cons (ps_for PassesOwn.never rfl (pi_range1 rfl T.b_range (pa_cons (pe_callB call_len_seq rfl T.b_len boot_len (pa_cons (pv 1) pa_nil)) pa_nil)) (pg_name (i := 4) sc_law.nd rfl (Or.inl rfl)) (pss_cons (ps_set (i := 3) sc_law.nd rfl (Or.inl rfl) (pe_op op_add (pv 3) pe_int))
      (pss_one (ps_if (PW.pt (pw_or (pt_cmpR op_eq (pe_op op_add (pv 4) pe_int) (pe_callB call_len_seq rfl T.b_len boot_len (pa_cons (pv 1) pa_nil)) (nomark _)) (pw_or1 (pt_cmpR op_ne (pe_ix ix_list (pv 1) (pe_op op_add (pv 4) pe_int) (fun _ _ => rfl)) (pe_ix ix_list (pv 1) (pv 4) (fun _ _ => rfl)) (nomark _))))) (pss_cons (ps_expr (pe_bm PySem.F.plainAttrs_list PySem.F.slot_list_append PySem.F.type_list_append mt_append (pv 2) (pa_cons (pe_op op_add_str (pe_op op_add_str (pe_callTy call_str_int rfl T.b_str boot_str (pa_cons (pe_ix ix_list (pv 1) (pv 4) (fun _ _ => rfl)) pa_nil)) pe_str) (pe_callTy call_str_int rfl T.b_str boot_str (pa_cons (pv 3) pa_nil))) pa_nil)))
      (pss_one (ps_set (i := 3) sc_law.nd rfl (Or.inl rfl) pe_int))) pss_nil))))
      (pss_cons (ps_set (i := 5) sc_law.nd rfl (Or.inl rfl) (pe_ifExp (pt_cmpR (op_neD hu64) (pv 2) (pe_lst pa_nil) (nomark _)) (pe_bm PySem.F.plainAttrs_str PySem.F.slot_str_join PySem.F.type_str_join mt_str_join pe_str (pa_cons (pv 2) pa_nil)) pe_str))
      (pss_cons (ps_set (i := 6) sc_law.nd rfl (Or.inl rfl) (pe_callTy call_list_of rfl T.b_list boot_list (pa_cons (pv 1) pa_nil)))
      (pss_cons (ps_if (PW.pt (pw_or (pt_cmpR op_ne (pe_call G_written (hr.mono (by decide)) rfl T.written.mg T.written.fn.kp T.written.bd .nil pass0 (pa_cons (pv 6) pa_nil)) (pv 5) (nomark _)) (pw_or (pt_cmpR (op_neD hu64) (pv 6) (pv 1) (nomark _)) (pw_or1 (pt_not (pt_val (pe_call G__law_right (hr.mono (by decide)) rfl T._law_right.mg T._law_right.fn.kp T._law_right.bd .nil pass0 (pa_cons (pv 5) pa_nil)))))))) (pss_one (ps_ret pe_bl)) pss_nil)
      (pss_cons (ps_set (i := 7) sc_law.nd rfl (Or.inl rfl) (pe_op op_add (pe_call G__law_cell_at (hr.mono (by decide)) rfl T._law_cell_at.mg T._law_cell_at.fn.kp T._law_cell_at.bd .nil pass0 (pa_cons (pv 0) (pa_cons pe_int pa_nil))) (pe_op op_mul pe_int (pe_call G__law_cell_at (hr.mono (by decide)) rfl T._law_cell_at.mg T._law_cell_at.fn.kp T._law_cell_at.bd .nil pass0 (pa_cons (pv 0) (pa_cons pe_int pa_nil))))))
      (pss_cons (ps_for PassesOwn.never rfl (pi_range1 rfl T.b_range (pa_cons pe_int pa_nil)) (pg_name (i := 4) sc_law.nd rfl (Or.inl rfl)) (pss_cons (ps_set (i := 8) sc_law.nd rfl (Or.inl rfl) (pe_call G__law_draw (hr.mono (by decide)) rfl T._law_draw.mg T._law_draw.fn.kp T._law_draw.bd .nil pass0 (pa_cons (pe_op op_add (pv 7) (pv 4)) (pa_cons pe_int (pa_cons (pe_op op_add (pe_callB call_len_str rfl T.b_len boot_len (pa_cons (pv 5) pa_nil)) pe_int) pa_nil)))))
      (pss_cons (ps_set (i := 9) sc_law.nd rfl (Or.inl rfl) (pe_ix ix_tup (pe_tup (pa_cons pe_str (pa_cons (pe_ix ix_str pe_str (pe_call G__law_draw (hr.mono (by decide)) rfl T._law_draw.mg T._law_draw.fn.kp T._law_draw.bd .nil pass0 (pa_cons (pe_op op_add (pv 7) (pv 4)) (pa_cons pe_int (pa_cons pe_int pa_nil)))) (fun _ _ => rfl)) pa_nil))) (pe_call G__law_draw (hr.mono (by decide)) rfl T._law_draw.mg T._law_draw.fn.kp T._law_draw.bd .nil pass0 (pa_cons (pe_op op_add (pv 7) (pv 4)) (pa_cons pe_int (pa_cons pe_int pa_nil)))) (fun _ _ => rfl)))
      (pss_one (ps_if (pt_not (pt_val (pe_call G__law_right (hr.mono (by decide)) rfl T._law_right.mg T._law_right.fn.kp T._law_right.bd .nil pass0 (pa_cons (pe_op op_add_str (pe_op op_add_str (pe_slice sl_str (pv 5) po_none (po_some (pv 8))) (pv 9)) (pe_slice sl_str (pv 5) (po_some (pe_op op_add (pv 8) (pe_call G__law_draw (hr.mono (by decide)) rfl T._law_draw.mg T._law_draw.fn.kp T._law_draw.bd .nil pass0 (pa_cons (pe_op op_add (pv 7) (pv 4)) (pa_cons pe_int (pa_cons pe_int pa_nil)))))) po_none)) pa_nil)))) (pss_one (ps_ret pe_bl)) pss_nil)))))
      (pss_cons (ps_if (pt_not (pt_val (pe_callB (call_all_of rfl) rfl T.b_all boot_all (pa_cons (pe_lcomp (N := ["_law_other"]) (cap := [none]) rfl (compScope_of (XN := ["_law_script", "_law_heap_here", "_law_words", "_law_many_here", "_law_k", "_law_text", "_law_handed", "_law_cell", "_law_at", "_law_sign"]) (xs := (defScope s_law).names) rfl rfl (by decide +kernel)) (pi_list (pe_call0 G__law_few (hr.mono (by decide)) rfl T._law_few.mg T._law_few.fn.kp T._law_few.bd .nil pass0)) (fun _ _ _ => (pg_name (i := 0) (show (["_law_other"] : List Str).Nodup by decide +kernel) rfl (Or.inl rfl) (Or.inr rfl))) (fun _ _ _ => pts_nil) (fun _ _ _ => (pe_call G__law_right (hr.mono (by decide)) rfl T._law_right.mg T._law_right.fn.kp T._law_right.bd .nil pass0 (pa_cons (pv 0) pa_nil)))) pa_nil)))) (pss_one (ps_ret pe_bl)) pss_nil)
      (pss_one (ps_ret (pe_callB (call_all_of rfl) rfl T.b_all boot_all (pa_cons (pe_lcomp (N := ["_law_thing"]) (cap := [none]) rfl (compScope_of (XN := ["_law_script", "_law_heap_here", "_law_words", "_law_many_here", "_law_k", "_law_text", "_law_handed", "_law_cell", "_law_at", "_law_sign"]) (xs := (defScope s_law).names) rfl rfl (by decide +kernel)) (pi_list (pe_lst (pa_cons pe_non (pa_cons pe_int (pa_cons (pe_lst (pa_cons pe_str pa_nil)) (pa_cons pe_bl pa_nil)))))) (fun _ _ _ => (pg_name (i := 0) (show (["_law_thing"] : List Str).Nodup by decide +kernel) rfl (Or.inl rfl) (Or.inr rfl))) (fun _ _ _ => pts_nil) (fun _ _ _ => (pe_call G__law_refused0 (hr.mono (by decide)) rfl T._law_refused.mg T._law_refused.fn.kp T._law_refused.bd .nil pass0 (pa_cons (pv 0) pa_nil)))) pa_nil))))))))))))), ?_⟩
    refine ⟨_, rfl, a, ss, rfl, ha, hl, fun l ns H1 hnl hnb s1 hl0 hl1 => ?_⟩
    have hnl63 : ns.length ≤ 63 := by omega
    have ha1 := s1.seq ha
    clear ha s1 hl0
    refine ⟨by show 0 ≤ sizeLine; decide, fun lw hlw => ⟨_, _, rfl, ?_⟩⟩
    refine nxS ?_
    have nlw : l ≠ lw := ne_of_none hl1 hlw
    have ha2 : Same H1 (upd H1 lw (.lst [])) := (Same.refl H1).upd hlw
    have elen : (((ns.map V.int).length : Int)).toNat = ns.length := by rw [List.length_map]; omega
    refine ⟨_, rfl, l, _, rfl, .inl (.of (by rw [upd_ne nlw]; exact hl1)), _, rfl, by rw [List.length_map]; omega, by rw [List.length_map]; omega, ?_⟩
    rw [elen]
    refine for_range (lo := 0) (n := ns.length) (fun i σ H2 => ∃ (v4 : Option V) (st : Nat) (acc : List (Int × Int)), σ = [some (.ref a), some (.ref l), some (.ref lw), some (.int ((i : Int) - (st : Int))), v4, none, none, none, none, none] ∧ H2 l = some (.lst (ns.map V.int)) ∧ Same H1 H2 ∧ H2 lw = some (.lst ((acc.map tx).map V.str)) ∧ RA ns i st acc)
      ⟨none, 0, [], rfl, by rw [upd_ne nlw]; exact hl1, ha2, upd_same, RA.zero ns⟩ (fun i σ H2 hi hP => ?_) (fun σ H2 hP => ?_)
    · obtain ⟨v4, st, acc, rfl, hl2, ha2, hw2, ra⟩ := hP
      obtain ⟨g1, g2, g3⟩ := ra.go hi
      have gi := g2 i g1 (Nat.le_refl _)
      have ei : (0 : Int) + (i : Int) = (i : Int) := by omega
      rw [ei]
      refine ⟨_, rfl, _, _, rfl, rfl, ?_⟩
      have em : (i : Int) - (st : Int) + 1 = ((i + 1 : Nat) : Int) - (st : Int) := by omega
      have e0 : ((i + 1 : Nat) : Int) - ((i + 1 : Nat) : Int) = 0 := by omega
      have hk : 0 ≤ ns.getD i 0 ∧ ns.getD i 0 ≤ 999 := by
        refine hnb _ ?_
        rw [List.getD_eq_getElem?_getD, List.getElem?_eq_getElem hi]
        exact List.getElem_mem _
      refine ⟨_, rfl, _, _, rfl, rfl, _, rfl, l, _, rfl, .inl (.of hl2), rfl, _, rfl, ite2 (fun hc => iteT ?_) (fun hc => ?_)⟩
      · have hc' : V.int ((i : Int) + 1) = V.int ((ns.map V.int).length : Int) := of_decide_eq_true hc
        injection hc' with hc'
        rw [List.length_map] at hc'
        have e : i + 1 = ns.length ∨ ns.getD (i + 1) 0 ≠ ns.getD st 0 := .inl (by omega)
        refine ⟨_, rfl, tyL hw2, _, rfl, _, rfl, l, _, _, _, rfl, rfl, .of hl2, atN hi, _, rfl, log_ok hk.1 (by omega), _, _, rfl, rfl, ?_, ?_⟩
        · have := num_len hk.1 (by omega)
          have e1 : (Str.ofString "*").length = 1 := by decide +kernel
          have hML : (30000 : Nat) ≤ sizeLine := by decide
          show (Str.ofString _).length + (Str.ofString "*").length ≤ _
          omega
        refine ⟨_, rfl, ((i + 1 : Nat) : Int) - (st : Int), by rw [← em], log_ok (by omega) (by omega), _, _, rfl, rfl, ?_, ?_⟩
        · have n1 := num_len hk.1 (by omega)
          have n2 := num_len (show 0 ≤ ((i + 1 : Nat) : Int) - (st : Int) by omega) (by omega)
          have e1 : (Str.ofString "*").length = 1 := by decide +kernel
          have hML : (30000 : Nat) ≤ sizeLine := by decide
          show (Str.ofString _ ++ Str.ofString "*").length + (Str.ofString _).length ≤ _
          rw [Str.length_append]
          omega
        refine ⟨lw, _, _, rfl, rfl, hw2, by rw [List.length_map, List.length_map]; exact smallM (by have := ra.len; omega), ?_⟩
        refine ⟨_, i + 1, acc ++ [(ns.getD st 0, ((i + 1 : Nat) : Int) - (st : Int))], by rw [e0]; rfl, by rw [upd_ne nlw]; exact hl2, ?_, ?_, ra.cut hi (by omega) hnb e⟩
        · exact ha2.upd hlw
        · rw [upd_same, List.map_append, List.map_append, ← gi]
          show some (HO.lst (_ ++ [V.str (Str.ofString (toString (ns.getD i 0)) ++ Str.ofString "*" ++ Str.ofString (toString (((i + 1 : Nat) : Int) - (st : Int))))])) = _
          rw [star_eq]
          rfl
      · have hc' : i + 1 < ns.length := by
          rcases Nat.lt_or_ge (i + 1) ns.length with z | z
          · exact z
          · exact absurd (decide_eq_true (show V.int ((i : Int) + 1) = V.int ((ns.map V.int).length : Int) by rw [List.length_map]; congr 1; omega)) hc
        refine ⟨_, rfl, _, rfl, _, _, rfl, rfl, l, _, _, _, rfl, rfl, .of hl2, at_j (i + 1) (by omega) hc', _, rfl, _, rfl, l, _, _, _, rfl, rfl, .of hl2, atN (by omega), rfl, _, rfl, ite2 (fun hd => ?_) (fun hd => ?_)⟩
        · have e : i + 1 = ns.length ∨ ns.getD (i + 1) 0 ≠ ns.getD st 0 := .inr fun z => by
            rw [z, gi] at hd
            simp at hd
          refine ⟨_, rfl, tyL hw2, _, rfl, _, rfl, l, _, _, _, rfl, rfl, .of hl2, atN hi, _, rfl, log_ok hk.1 (by omega), _, _, rfl, rfl, ?_, ?_⟩
          · have := num_len hk.1 (by omega)
            have e1 : (Str.ofString "*").length = 1 := by decide +kernel
            have hML : (30000 : Nat) ≤ sizeLine := by decide
            show (Str.ofString _).length + (Str.ofString "*").length ≤ _
            omega
          refine ⟨_, rfl, ((i + 1 : Nat) : Int) - (st : Int), by rw [← em], log_ok (by omega) (by omega), _, _, rfl, rfl, ?_, ?_⟩
          · have n1 := num_len hk.1 (by omega)
            have n2 := num_len (show 0 ≤ ((i + 1 : Nat) : Int) - (st : Int) by omega) (by omega)
            have e1 : (Str.ofString "*").length = 1 := by decide +kernel
            have hML : (30000 : Nat) ≤ sizeLine := by decide
            show (Str.ofString _ ++ Str.ofString "*").length + (Str.ofString _).length ≤ _
            rw [Str.length_append]
            omega
          refine ⟨lw, _, _, rfl, rfl, hw2, by rw [List.length_map, List.length_map]; exact smallM (by have := ra.len; omega), ?_⟩
          refine ⟨_, i + 1, acc ++ [(ns.getD st 0, ((i + 1 : Nat) : Int) - (st : Int))], by rw [e0]; rfl, by rw [upd_ne nlw]; exact hl2, ?_, ?_, ra.cut hi (by omega) hnb e⟩
          · exact ha2.upd hlw
          · rw [upd_same, List.map_append, List.map_append, ← gi]
            show some (HO.lst (_ ++ [V.str (Str.ofString (toString (ns.getD i 0)) ++ Str.ofString "*" ++ Str.ofString (toString (((i + 1 : Nat) : Int) - (st : Int))))])) = _
            rw [star_eq]
            rfl
        · have e : ns.getD (i + 1) 0 = ns.getD st 0 := by
            by_cases z : ns.getD (i + 1) 0 = ns.getD i 0
            · rw [z, gi]
            · exact absurd (show (!decide (V.int (ns.getD (i + 1) 0) = V.int (ns.getD i 0))) = true by rw [decide_eq_false (fun q => z (V.int.inj q))]; rfl) hd
          exact ⟨_, st, acc, by rw [← em]; rfl, hl2, ha2, hw2, ra.keep hc' e⟩
    · obtain ⟨v4, st, acc, rfl, hl2, ha2, hw2, ra⟩ := hP
      have er := ra.done
      clear ra
      subst er
      have ha3 := ha2.seq ha1
      clear ha1 ha2 hlw hl1
      refine nxS ?_
      have htok : ∀ x ∈ (runsI ns).map tx, PyData.strOk x = true := fun x hx => by
        obtain ⟨p, hp, rfl⟩ := List.mem_map.mp hx
        have := runsI_mem hnb p hp
        exact tx_ok this.1 (by omega)
      refine seq_cut (fun σ' H3 => σ' = [some (.ref a), some (.ref l), some (.ref lw), some (.int ((ns.length : Int) - (st : Int))), v4, some (.str (wrT ns)), none, none, none, none] ∧ H3 l = some (.lst (ns.map V.int)) ∧ SqL K H3 a (ss.map V.int)) (fun k2 hk2 => ?_) (fun σ' H3 hz => ?_)
      · refine ⟨_, rfl, by show 0 ≤ sizeLine; decide, fun e he => ?_⟩
        have s3 : Same H2 (upd H2 e (.lst [])) := (Same.refl H2).upd he
        have d2 : DatV K (upd H2 e (.lst [])) (.list []) (.ref e) := dat_ints (ns := []) (.of upd_same)
        generalize upd H2 e (.lst []) = H3 at s3 d2
        have hw3 := s3 lw _ hw2
        refine ⟨_, _, dat_strs (.of hw3), d2, shaped_strs _ htok, shaped_ints [], _, rfl, ?_⟩
        show if (!PyData.eqv (.list (((runsI ns).map tx).map PyData.str)) (.list [])) = true then _ else _
        rw [eqv_nil]
        by_cases hn : ns = []
        · have e1 : wrT ns = ("-" : Str) := by rw [minus_eq]; unfold wrT; rw [if_pos hn]
          rw [e1] at hk2
          subst hn
          exact iteF (hk2 _ _ ⟨rfl, s3 l _ hl2, s3.seq ha3⟩)
        · have hne : (!(((runsI ns).map tx).map PyData.str).isEmpty) = true := by
            have : runsI ns ≠ [] := by
              cases ns with
              | nil => exact absurd rfl hn
              | cons x r =>
                unfold runsI
                split
                · split <;> simp
                · simp
            cases e2 : runsI ns with
            | nil => exact absurd e2 this
            | cons _ _ => rfl
          rw [hne]
          have e1 : wrT ns = Txt.join blank ((runsI ns).map tx) := by unfold wrT; rw [if_neg hn]
          refine iteT ⟨rfl, _, rfl, _, lw, _, rfl, rfl, hw3, by rw [blank_eq]; exact join_ok (by omega) hnb, ?_⟩
          rw [blank_eq, ← e1]
          exact hk2 _ _ ⟨rfl, s3 l _ hl2, s3.seq ha3⟩
      obtain ⟨rfl, hl3, ha4⟩ := hz
      clear hl2 hw2 ha3
      refine ⟨_, rfl, l, _, rfl, .inl (.of hl3), fun hd hhd => ?_⟩
      have n1 : l ≠ hd := ne_of_none hl3 hhd
      have hl4 : (upd H3 hd (.lst (ns.map V.int))) l = some (.lst (ns.map V.int)) := by rw [upd_ne n1]; exact hl3
      have hh4 : (upd H3 hd (.lst (ns.map V.int))) hd = some (.lst (ns.map V.int)) := upd_same
      have ha5 : SqL K (upd H3 hd (.lst (ns.map V.int))) a (ss.map V.int) := ((Same.refl H3).upd hhd).seq ha4
      generalize upd H3 hd (.lst (ns.map V.int)) = H4 at hl4 hh4 ha5
      have hwl := wrT_len hnl63 hnb
      refine nxS ?_
      refine ⟨_, rfl, hd, ns, rfl, hh4, by omega, hnb, fun H5 s5 => ⟨_, rfl, rfl, _, rfl, ?_⟩⟩
      rw [decide_eq_true (rfl : V.str (wrT ns) = V.str (wrT ns))]
      refine iteF ?_
      refine ⟨_, rfl, _, rfl, _, _, dat_ints (.of (s5 hd _ hh4)), dat_ints (.of (s5 l _ hl4)), shaped_ints ns, shaped_ints ns, _, rfl, ?_⟩
      rw [shaped_refl (shaped_ints ns)]
      refine iteF ?_
      refine ⟨_, rfl, wrT ns, rfl, by omega, fun H6 s6 => ⟨true, rfl, iteF (nextS ?_)⟩⟩
      have ha7 := (s5.trans s6).seq ha5
      refine ⟨_, rfl, a, ss, 3, rfl, ha7, by decide, fun c3 => ⟨_, rfl, a, ss, 0, rfl, ha7, by decide, fun c0 => ?_⟩⟩
      refine ⟨_, _, rfl, rfl, .inl ⟨by decide, by decide⟩, _, _, rfl, rfl, ?_⟩
      refine nxS ?_
      generalize wrT ns = tx0 at hwl
      have htz : tx0.length ≤ sizeLine := Nat.le_trans (show tx0.length ≤ 10000 by omega) (by decide)
      refine ⟨2, rfl, by decide, by decide, for_range (lo := 0) (n := 2) (fun i σ H7 => ∃ v4 v8 v9 : Option V, σ = [some (.ref a), some (.ref l), some (.ref lw), some (.int ((ns.length : Int) - (st : Int))), v4, some (.str tx0), some (.ref hd), some (.int (c3 + 7 * c0)), v8, v9])
        ⟨_, _, _, rfl⟩ (fun i σ H7 hi hP => ?_) (fun σ H7 hP => ?_)⟩
      · obtain ⟨v4, v8, v9, rfl⟩ := hP
        refine ⟨_, rfl, _, rfl, _, _, rfl, rfl, _, rfl, tx0, rfl, htz, _, _, rfl, rfl, _, _, _, rfl, by omega, fun at0 H8 a0 a1 s8 => ?_⟩
        refine nxS ?_
        have hs14 : (("0123456789* -x" : Str).cps.toList.length : Int) = 14 := by decide +kernel
        have hs1 : ("0123456789* -x" : Str).length ≤ sizeLine := by decide +kernel
        refine ⟨_, rfl, _, rfl, _, _, rfl, rfl, _, _, _, rfl, by decide, fun r H9 r0 r1 s9 => ?_⟩
        obtain ⟨c, hc, _⟩ := at_some (xs := ("0123456789* -x" : Str).cps.toList) r0 (by rw [hs14]; exact r1)
        refine ⟨_, _, c, rfl, rfl, hs1, hc, by show 2 ≤ sizeLine; decide, fun t ht => ?_⟩
        refine ⟨_, rfl, _, rfl, _, _, rfl, rfl, _, _, _, rfl, by decide, fun q Ha q0 q1 sa => ?_⟩
        obtain ⟨y, hy, hym⟩ := at_some (xs := [V.str ("" : Str), V.str ⟨#[c]⟩]) q0 q1
        obtain ⟨sg, rfl, hsg⟩ : ∃ sg : Str, y = .str sg ∧ sg.length ≤ 1 := by
          rcases List.mem_cons.mp hym with rfl | hym
          · exact ⟨_, rfl, by decide +kernel⟩
          · rw [List.mem_singleton.mp hym]
            exact ⟨_, rfl, by show 1 ≤ 1; decide⟩
        refine ⟨t, _, _, _, rfl, rfl, .of (sa t _ upd_same), hy, ?_⟩
        have hML : (30000 : Nat) ≤ sizeLine := by decide
        have l1 := cut_len tx0 none (some at0)
        refine ⟨_, rfl, _, rfl, at0, rfl, tx0, rfl, by omega, _, rfl, _, _, rfl, rfl, by omega, ?_⟩
        refine ⟨_, rfl, _, rfl, _, rfl, _, rfl, _, _, rfl, rfl, _, _, _, rfl, by decide, fun d Hb d0 d1 sb => ?_⟩
        have l2 := cut_len tx0 (some (at0 + d)) none
        have l3 : (cutS tx0 none (some at0) ++ sg).length ≤ 1401 := by rw [Str.length_append]; omega
        refine ⟨_, _, rfl, rfl, _, rfl, tx0, rfl, by omega, _, _, rfl, rfl, by omega, _, rfl, by rw [Str.length_append]; omega, fun Hc sc => ?_⟩
        exact ⟨true, rfl, iteF ⟨_, _, _, rfl⟩⟩
      · obtain ⟨v4, v8, v9, rfl⟩ := hP
        refine nxS ?_
        refine ⟨rfl, fun fl xs H8 s8 hf0 hf hxl hxs => ?_⟩
        refine ⟨fl, rfl, ⟨_, .of hf⟩, lc_listM (fun σ => ∃ v, σ = [v]) (fun _ => .bl true) (by rw [List.length_map]; omega) ⟨none, rfl⟩ (.of hf) ?_ ?_⟩
        · rintro i y σ' H9 k2 r hy ⟨v, rfl⟩ sm' hk
          rw [List.getElem?_map] at hy
          cases et : xs[i]? with
          | none => rw [et] at hy; cases hy
          | some z =>
            rw [et] at hy
            cases hy
            exact ⟨_, rfl, z, rfl, hxs z (List.mem_of_getElem? et), fun Ha sa => hk _ _ ⟨_, rfl⟩ sa⟩
        intro D H9 hD sm' hA
        refine ⟨.ref D, List.replicate xs.length true, rfl, ⟨D, rfl, .inl (.of ?_)⟩, ?_⟩
        · rw [hA, List.map_replicate, List.map_const', List.length_map]
        have e1 : (List.replicate xs.length true).all id = true := by simp
        rw [e1]
        refine ⟨true, rfl, iteF (nextI ?_)⟩
        refine ⟨by show 1 ≤ sizeLine; decide, fun il hil => ⟨by show 4 ≤ sizeLine; decide, fun ll hll => ?_⟩⟩
        have nil' : il ≠ ll := ne_of_none upd_same hll
        refine ⟨ll, rfl, ⟨_, .of upd_same⟩, lc_listM (fun σ => ∃ v, σ = [v]) (fun _ => .bl true) (by show 4 ≤ 1000000; decide) ⟨none, rfl⟩ (.of upd_same) ?_ ?_⟩
        · rintro i y σ' Ha k2 r hy ⟨v, rfl⟩ sm2 hk
          have hil2 : Ha il = some (.lst [.str ("0*1" : Str)]) := sm2 il _ (by rw [upd_ne nil']; exact upd_same)
          refine ⟨_, rfl, y, rfl, ?_, fun Hb sb => hk _ _ ⟨_, rfl⟩ sb⟩
          have hm := List.mem_of_getElem? hy
          simp only [List.mem_cons, List.not_mem_nil, or_false] at hm
          rcases hm with rfl | rfl | rfl | rfl
          · exact .inl rfl
          · exact .inr (.inl ⟨_, rfl⟩)
          · exact .inr (.inr (.inr ⟨il, _, rfl, hil2⟩))
          · exact .inr (.inr (.inl ⟨_, rfl⟩))
        · intro D2 Ha hD2 sm2 hA2
          refine ⟨.ref D2, [true, true, true, true], rfl, ⟨D2, rfl, .inl (.of hA2)⟩, k Ha⟩
end
end K8
set_option maxHeartbeats 1000000
namespace K8
open PySem PySem.Spec PyProof.Rows L2 Tl
theorem all_mk {l : PySem.W.OpenLaw} {w : World} {K : PySem.W.Frag} {h : Heap} {mg : Str → Option Value} {fa f1 f2 f3 f4 f5 f6 f7 f8 f9 f10 f11 f12 f13 f14 f15 f16 f17 f18 C_HeapError C_BadHeap C_BadNumber C_TooFew C_BadText : Addr} (X : K.In h) (G : h.Ns mainGlobals mg) (hfa : mg "law" = some (.ref fa))
    {od1 an1 od2 an2 od3 an3 od4 an4 od5 an5 od6 an6 od7 an7 od8 an8 od9 an9 od10 an10 od11 an11 od12 an12 od13 an13 od14 an14 od15 an15 od16 an16 od17 an17 od18 an18 : Option Addr} {sl1 sl2 sl3 sl4 sl5 sl6 sl7 sl8 sl9 sl10 sl11 sl12 sl13 sl14 sl15 sl16 sl17 sl18 : Array (Option Value)} {oc1 kV1 dc1 pm1 cd1 ct1 oc2 kV2 dc2 pm2 cd2 ct2 oc3 kV3 dc3 pm3 cd3 ct3 oc4 kV4 dc4 pm4 cd4 ct4 oc5 kV5 dc5 pm5 cd5 ct5 oc6 kV6 dc6 pm6 cd6 ct6 oc7 kV7 dc7 pm7 cd7 ct7 oc8 kV8 dc8 pm8 cd8 ct8 oc9 kV9 dc9 pm9 cd9 ct9 oc10 kV10 dc10 pm10 cd10 ct10 oc11 kV11 dc11 pm11 cd11 ct11 oc12 kV12 dc12 pm12 cd12 ct12 oc13 kV13 dc13 pm13 cd13 ct13 oc14 kV14 dc14 pm14 cd14 ct14 oc15 kV15 dc15 pm15 cd15 ct15 oc16 kV16 dc16 pm16 cd16 ct16 oc17 kV17 dc17 pm17 cd17 ct17 oc18 kV18 dc18 pm18 cd18 ct18 : Value} {g_GREATEST_KIND g_MOST_THINGS g_NO_THINGS g_FIGURES g_MOST_FIGURES : Tok} 
    (a1 : PySem.W.nsIn K mainGlobals "is_whole" = some (some (.ref f1)))
    (l1 : K.lookup f1 = some ⟨oc1, od1, .func (PySem.W.fnOf "is_whole" "is_whole" (defArgs s_is_whole) (defBody s_is_whole) (defScope s_is_whole) .none kV1 dc1 pm1 an1 cd1 ct1), sl1⟩)
    (c1 : PySem.W.codeIn K cd1 "is_whole" = true)
    (k1 : PySem.W.keepIn K (.ref f1) = true)
    (a2 : PySem.W.nsIn K mainGlobals "is_kind" = some (some (.ref f2)))
    (l2 : K.lookup f2 = some ⟨oc2, od2, .func (PySem.W.fnOf "is_kind" "is_kind" (defArgs s_is_kind) (defBody s_is_kind) (defScope s_is_kind) .none kV2 dc2 pm2 an2 cd2 ct2), sl2⟩)
    (c2 : PySem.W.codeIn K cd2 "is_kind" = true)
    (k2 : PySem.W.keepIn K (.ref f2) = true)
    (a3 : PySem.W.nsIn K mainGlobals "is_heap" = some (some (.ref f3)))
    (l3 : K.lookup f3 = some ⟨oc3, od3, .func (PySem.W.fnOf "is_heap" "is_heap" (defArgs s_is_heap) (defBody s_is_heap) (defScope s_is_heap) .none kV3 dc3 pm3 an3 cd3 ct3), sl3⟩)
    (c3 : PySem.W.codeIn K cd3 "is_heap" = true)
    (k3 : PySem.W.keepIn K (.ref f3) = true)
    (a4 : PySem.W.nsIn K mainGlobals "check_heap" = some (some (.ref f4)))
    (l4 : K.lookup f4 = some ⟨oc4, od4, .func (PySem.W.fnOf "check_heap" "check_heap" (defArgs s_check_heap) (defBody s_check_heap) (defScope s_check_heap) .none kV4 dc4 pm4 an4 cd4 ct4), sl4⟩)
    (c4 : PySem.W.codeIn K cd4 "check_heap" = true)
    (k4 : PySem.W.keepIn K (.ref f4) = true)
    (a5 : PySem.W.nsIn K mainGlobals "runs" = some (some (.ref f5)))
    (l5 : K.lookup f5 = some ⟨oc5, od5, .func (PySem.W.fnOf "runs" "runs" (defArgs s_runs) (defBody s_runs) (defScope s_runs) .none kV5 dc5 pm5 an5 cd5 ct5), sl5⟩)
    (c5 : PySem.W.codeIn K cd5 "runs" = true)
    (k5 : PySem.W.keepIn K (.ref f5) = true)
    (a6 : PySem.W.nsIn K mainGlobals "written" = some (some (.ref f6)))
    (l6 : K.lookup f6 = some ⟨oc6, od6, .func (PySem.W.fnOf "written" "written" (defArgs s_written) (defBody s_written) (defScope s_written) .none kV6 dc6 pm6 an6 cd6 ct6), sl6⟩)
    (c6 : PySem.W.codeIn K cd6 "written" = true)
    (k6 : PySem.W.keepIn K (.ref f6) = true)
    (a7 : PySem.W.nsIn K mainGlobals "is_number" = some (some (.ref f7)))
    (l7 : K.lookup f7 = some ⟨oc7, od7, .func (PySem.W.fnOf "is_number" "is_number" (defArgs s_is_number) (defBody s_is_number) (defScope s_is_number) .none kV7 dc7 pm7 an7 cd7 ct7), sl7⟩)
    (c7 : PySem.W.codeIn K cd7 "is_number" = true)
    (k7 : PySem.W.keepIn K (.ref f7) = true)
    (a8 : PySem.W.nsIn K mainGlobals "number_read" = some (some (.ref f8)))
    (l8 : K.lookup f8 = some ⟨oc8, od8, .func (PySem.W.fnOf "number_read" "number_read" (defArgs s_number_read) (defBody s_number_read) (defScope s_number_read) .none kV8 dc8 pm8 an8 cd8 ct8), sl8⟩)
    (c8 : PySem.W.codeIn K cd8 "number_read" = true)
    (k8 : PySem.W.keepIn K (.ref f8) = true)
    (a9 : PySem.W.nsIn K mainGlobals "read" = some (some (.ref f9)))
    (l9 : K.lookup f9 = some ⟨oc9, od9, .func (PySem.W.fnOf "read" "read" (defArgs s_read) (defBody s_read) (defScope s_read) .none kV9 dc9 pm9 an9 cd9 ct9), sl9⟩)
    (c9 : PySem.W.codeIn K cd9 "read" = true)
    (k9 : PySem.W.keepIn K (.ref f9) = true)
    (a10 : PySem.W.nsIn K mainGlobals "_law_cell_at" = some (some (.ref f10)))
    (l10 : K.lookup f10 = some ⟨oc10, od10, .func (PySem.W.fnOf "_law_cell_at" "_law_cell_at" (defArgs s__law_cell_at) (defBody s__law_cell_at) (defScope s__law_cell_at) .none kV10 dc10 pm10 an10 cd10 ct10), sl10⟩)
    (c10 : PySem.W.codeIn K cd10 "_law_cell_at" = true)
    (k10 : PySem.W.keepIn K (.ref f10) = true)
    (a11 : PySem.W.nsIn K mainGlobals "_law_draw" = some (some (.ref f11)))
    (l11 : K.lookup f11 = some ⟨oc11, od11, .func (PySem.W.fnOf "_law_draw" "_law_draw" (defArgs s__law_draw) (defBody s__law_draw) (defScope s__law_draw) .none kV11 dc11 pm11 an11 cd11 ct11), sl11⟩)
    (c11 : PySem.W.codeIn K cd11 "_law_draw" = true)
    (k11 : PySem.W.keepIn K (.ref f11) = true)
    (a12 : PySem.W.nsIn K mainGlobals "_law_heap" = some (some (.ref f12)))
    (l12 : K.lookup f12 = some ⟨oc12, od12, .func (PySem.W.fnOf "_law_heap" "_law_heap" (defArgs s__law_heap) (defBody s__law_heap) (defScope s__law_heap) .none kV12 dc12 pm12 an12 cd12 ct12), sl12⟩)
    (c12 : PySem.W.codeIn K cd12 "_law_heap" = true)
    (k12 : PySem.W.keepIn K (.ref f12) = true)
    (a13 : PySem.W.nsIn K mainGlobals "_law_number" = some (some (.ref f13)))
    (l13 : K.lookup f13 = some ⟨oc13, od13, .func (PySem.W.fnOf "_law_number" "_law_number" (defArgs s__law_number) (defBody s__law_number) (defScope s__law_number) .none kV13 dc13 pm13 an13 cd13 ct13), sl13⟩)
    (c13 : PySem.W.codeIn K cd13 "_law_number" = true)
    (k13 : PySem.W.keepIn K (.ref f13) = true)
    (a14 : PySem.W.nsIn K mainGlobals "_law_in" = some (some (.ref f14)))
    (l14 : K.lookup f14 = some ⟨oc14, od14, .func (PySem.W.fnOf "_law_in" "_law_in" (defArgs s__law_in) (defBody s__law_in) (defScope s__law_in) .none kV14 dc14 pm14 an14 cd14 ct14), sl14⟩)
    (c14 : PySem.W.codeIn K cd14 "_law_in" = true)
    (k14 : PySem.W.keepIn K (.ref f14) = true)
    (a15 : PySem.W.nsIn K mainGlobals "_law_refused" = some (some (.ref f15)))
    (l15 : K.lookup f15 = some ⟨oc15, od15, .func (PySem.W.fnOf "_law_refused" "_law_refused" (defArgs s__law_refused) (defBody s__law_refused) (defScope s__law_refused) .none kV15 dc15 pm15 an15 cd15 ct15), sl15⟩)
    (c15 : PySem.W.codeIn K cd15 "_law_refused" = true)
    (k15 : PySem.W.keepIn K (.ref f15) = true)
    (a16 : PySem.W.nsIn K mainGlobals "_law_right" = some (some (.ref f16)))
    (l16 : K.lookup f16 = some ⟨oc16, od16, .func (PySem.W.fnOf "_law_right" "_law_right" (defArgs s__law_right) (defBody s__law_right) (defScope s__law_right) .none kV16 dc16 pm16 an16 cd16 ct16), sl16⟩)
    (c16 : PySem.W.codeIn K cd16 "_law_right" = true)
    (k16 : PySem.W.keepIn K (.ref f16) = true)
    (a17 : PySem.W.nsIn K mainGlobals "_law_few" = some (some (.ref f17)))
    (l17 : K.lookup f17 = some ⟨oc17, od17, .func (PySem.W.fnOf "_law_few" "_law_few" (defArgs s__law_few) (defBody s__law_few) (defScope s__law_few) .none kV17 dc17 pm17 an17 cd17 ct17), sl17⟩)
    (c17 : PySem.W.codeIn K cd17 "_law_few" = true)
    (k17 : PySem.W.keepIn K (.ref f17) = true)
    (a18 : PySem.W.nsIn K mainGlobals "law" = some (some (.ref f18)))
    (l18 : K.lookup f18 = some ⟨oc18, od18, .func (PySem.W.fnOf "law" "law" (defArgs s_law) (defBody s_law) (defScope s_law) .none kV18 dc18 pm18 an18 cd18 ct18), sl18⟩)
    (c18 : PySem.W.codeIn K cd18 "law" = true)
    (k18 : PySem.W.keepIn K (.ref f18) = true)
    (aC_HeapError : PySem.W.nsIn K mainGlobals "HeapError" = some (some (.ref C_HeapError)))
    (aC_BadHeap : PySem.W.nsIn K mainGlobals "BadHeap" = some (some (.ref C_BadHeap)))
    (aC_BadNumber : PySem.W.nsIn K mainGlobals "BadNumber" = some (some (.ref C_BadNumber)))
    (aC_TooFew : PySem.W.nsIn K mainGlobals "TooFew" = some (some (.ref C_TooFew)))
    (aC_BadText : PySem.W.nsIn K mainGlobals "BadText" = some (some (.ref C_BadText)))
    (xx_BadHeap : PySem.W.excIn K C_BadHeap veb "ValueError.__new__" = true)
    (ga_BadHeap : PySem.W.findIn K (.ref C_BadHeap) "__getattribute__" = some (some (.builtin "BaseException.__getattribute__")))
    (ka_BadHeap : PySem.W.findIn K (.ref C_BadHeap) "__getattr__" = some none)
    (ha_BadHeap : PySem.W.findIn K (.ref C_BadHeap) "__class__" = some (some (.builtin "object.__class__")))
    (ho_BadHeap : PySem.W.mroIn K C_BadHeap (.type "object") = some true)
    (hb_BadHeap : PySem.W.mroIn K C_BadHeap (.type "BaseException") = some true)
    (q_ve_BadHeap : PySem.W.kitOne K (.ref C_BadHeap) (.type "ValueError") = some true)
    (xe_BadHeap : PySem.W.exmOne K (.ref C_BadHeap) (.ref C_HeapError) = some true)
    (q_BadHeap_BadHeap : PySem.W.kitOne K (.ref C_BadHeap) (.ref C_BadHeap) = some true)
    (q_BadHeap_BadNumber : PySem.W.kitOne K (.ref C_BadHeap) (.ref C_BadNumber) = some false)
    (q_BadHeap_TooFew : PySem.W.kitOne K (.ref C_BadHeap) (.ref C_TooFew) = some false)
    (q_BadHeap_BadText : PySem.W.kitOne K (.ref C_BadHeap) (.ref C_BadText) = some false)
    (xx_BadNumber : PySem.W.excIn K C_BadNumber veb "ValueError.__new__" = true)
    (ga_BadNumber : PySem.W.findIn K (.ref C_BadNumber) "__getattribute__" = some (some (.builtin "BaseException.__getattribute__")))
    (ka_BadNumber : PySem.W.findIn K (.ref C_BadNumber) "__getattr__" = some none)
    (ha_BadNumber : PySem.W.findIn K (.ref C_BadNumber) "__class__" = some (some (.builtin "object.__class__")))
    (ho_BadNumber : PySem.W.mroIn K C_BadNumber (.type "object") = some true)
    (hb_BadNumber : PySem.W.mroIn K C_BadNumber (.type "BaseException") = some true)
    (q_ve_BadNumber : PySem.W.kitOne K (.ref C_BadNumber) (.type "ValueError") = some true)
    (xe_BadNumber : PySem.W.exmOne K (.ref C_BadNumber) (.ref C_HeapError) = some true)
    (q_BadNumber_BadHeap : PySem.W.kitOne K (.ref C_BadNumber) (.ref C_BadHeap) = some false)
    (q_BadNumber_BadNumber : PySem.W.kitOne K (.ref C_BadNumber) (.ref C_BadNumber) = some true)
    (q_BadNumber_TooFew : PySem.W.kitOne K (.ref C_BadNumber) (.ref C_TooFew) = some false)
    (q_BadNumber_BadText : PySem.W.kitOne K (.ref C_BadNumber) (.ref C_BadText) = some false)
    (xx_TooFew : PySem.W.excIn K C_TooFew veb "ValueError.__new__" = true)
    (ga_TooFew : PySem.W.findIn K (.ref C_TooFew) "__getattribute__" = some (some (.builtin "BaseException.__getattribute__")))
    (ka_TooFew : PySem.W.findIn K (.ref C_TooFew) "__getattr__" = some none)
    (ha_TooFew : PySem.W.findIn K (.ref C_TooFew) "__class__" = some (some (.builtin "object.__class__")))
    (ho_TooFew : PySem.W.mroIn K C_TooFew (.type "object") = some true)
    (hb_TooFew : PySem.W.mroIn K C_TooFew (.type "BaseException") = some true)
    (q_ve_TooFew : PySem.W.kitOne K (.ref C_TooFew) (.type "ValueError") = some true)
    (xe_TooFew : PySem.W.exmOne K (.ref C_TooFew) (.ref C_HeapError) = some true)
    (q_TooFew_BadHeap : PySem.W.kitOne K (.ref C_TooFew) (.ref C_BadHeap) = some false)
    (q_TooFew_BadNumber : PySem.W.kitOne K (.ref C_TooFew) (.ref C_BadNumber) = some false)
    (q_TooFew_TooFew : PySem.W.kitOne K (.ref C_TooFew) (.ref C_TooFew) = some true)
    (q_TooFew_BadText : PySem.W.kitOne K (.ref C_TooFew) (.ref C_BadText) = some false)
    (xx_BadText : PySem.W.excIn K C_BadText veb "ValueError.__new__" = true)
    (ga_BadText : PySem.W.findIn K (.ref C_BadText) "__getattribute__" = some (some (.builtin "BaseException.__getattribute__")))
    (ka_BadText : PySem.W.findIn K (.ref C_BadText) "__getattr__" = some none)
    (ha_BadText : PySem.W.findIn K (.ref C_BadText) "__class__" = some (some (.builtin "object.__class__")))
    (ho_BadText : PySem.W.mroIn K C_BadText (.type "object") = some true)
    (hb_BadText : PySem.W.mroIn K C_BadText (.type "BaseException") = some true)
    (q_ve_BadText : PySem.W.kitOne K (.ref C_BadText) (.type "ValueError") = some true)
    (xe_BadText : PySem.W.exmOne K (.ref C_BadText) (.ref C_HeapError) = some true)
    (q_BadText_BadHeap : PySem.W.kitOne K (.ref C_BadText) (.ref C_BadHeap) = some false)
    (q_BadText_BadNumber : PySem.W.kitOne K (.ref C_BadText) (.ref C_BadNumber) = some false)
    (q_BadText_TooFew : PySem.W.kitOne K (.ref C_BadText) (.ref C_TooFew) = some false)
    (q_BadText_BadText : PySem.W.kitOne K (.ref C_BadText) (.ref C_BadText) = some true)
    (z_isinstance : PySem.W.nsIn K mainGlobals "isinstance" = some none)
    (z_int : PySem.W.nsIn K mainGlobals "int" = some none)
    (z_bool : PySem.W.nsIn K mainGlobals "bool" = some none)
    (z_list : PySem.W.nsIn K mainGlobals "list" = some none)
    (z_str : PySem.W.nsIn K mainGlobals "str" = some none)
    (z_all : PySem.W.nsIn K mainGlobals "all" = some none)
    (z_any : PySem.W.nsIn K mainGlobals "any" = some none)
    (z_len : PySem.W.nsIn K mainGlobals "len" = some none)
    (z_max : PySem.W.nsIn K mainGlobals "max" = some none)
    (z_sum : PySem.W.nsIn K mainGlobals "sum" = some none)
    (z_range : PySem.W.nsIn K mainGlobals "range" = some none)
    (z_ValueError : PySem.W.nsIn K mainGlobals "ValueError" = some none)
    (y_GREATEST_KIND : PySem.W.nsIn K mainGlobals "GREATEST_KIND" = some (some (.int 999 g_GREATEST_KIND)))
    (y_MOST_THINGS : PySem.W.nsIn K mainGlobals "MOST_THINGS" = some (some (.int 1000000 g_MOST_THINGS)))
    (y_NO_THINGS : PySem.W.nsIn K mainGlobals "NO_THINGS" = some (some (.str "-" g_NO_THINGS)))
    (y_FIGURES : PySem.W.nsIn K mainGlobals "FIGURES" = some (some (.str "0123456789" g_FIGURES)))
    (y_MOST_FIGURES : PySem.W.nsIn K mainGlobals "MOST_FIGURES" = some (some (.int 7 g_MOST_FIGURES)))
    : ∃ fd : FuncData, (∀ (s : Shared) (v : Value), BindsTo s fd ⟨[v], []⟩ [("_law_script", v)]) ∧ ∀ base : Heap, K.In base → base.Ns mainGlobals mg → FnOk l.prog w K mg base CX0 7 fa fd ["_law_script"] (sp_law K) := by
  have e := hfa.symm.trans (PySem.W.mg_of X G a18)
  cases e
  have F1 := fun_mk (st := s_is_whole) l1 c1 k1
  have B1 := F1.binds (ps := ["value"]) fun _ _ _ _ _ _ us hl => match us, hl with | [_], _ => rfl
  have F2 := fun_mk (st := s_is_kind) l2 c2 k2
  have B2 := F2.binds (ps := ["value"]) fun _ _ _ _ _ _ us hl => match us, hl with | [_], _ => rfl
  have F3 := fun_mk (st := s_is_heap) l3 c3 k3
  have B3 := F3.binds (ps := ["value"]) fun _ _ _ _ _ _ us hl => match us, hl with | [_], _ => rfl
  have F4 := fun_mk (st := s_check_heap) l4 c4 k4
  have B4 := F4.binds (ps := ["value"]) fun _ _ _ _ _ _ us hl => match us, hl with | [_], _ => rfl
  have F5 := fun_mk (st := s_runs) l5 c5 k5
  have B5 := F5.binds (ps := ["heap"]) fun _ _ _ _ _ _ us hl => match us, hl with | [_], _ => rfl
  have F6 := fun_mk (st := s_written) l6 c6 k6
  have B6 := F6.binds (ps := ["heap"]) fun _ _ _ _ _ _ us hl => match us, hl with | [_], _ => rfl
  have F7 := fun_mk (st := s_is_number) l7 c7 k7
  have B7 := F7.binds (ps := ["figures"]) fun _ _ _ _ _ _ us hl => match us, hl with | [_], _ => rfl
  have F8 := fun_mk (st := s_number_read) l8 c8 k8
  have B8 := F8.binds (ps := ["figures", "least", "greatest"]) fun _ _ _ _ _ _ us hl => match us, hl with | [_, _, _], _ => rfl
  have F9 := fun_mk (st := s_read) l9 c9 k9
  have B9 := F9.binds (ps := ["text"]) fun _ _ _ _ _ _ us hl => match us, hl with | [_], _ => rfl
  have F10 := fun_mk (st := s__law_cell_at) l10 c10 k10
  have B10 := F10.binds (ps := ["_law_script", "_law_k"]) fun _ _ _ _ _ _ us hl => match us, hl with | [_, _], _ => rfl
  have F11 := fun_mk (st := s__law_draw) l11 c11 k11
  have B11 := F11.binds (ps := ["_law_cell", "_law_k", "_law_many_here"]) fun _ _ _ _ _ _ us hl => match us, hl with | [_, _, _], _ => rfl
  have F12 := fun_mk (st := s__law_heap) l12 c12 k12
  have B12 := F12.binds (ps := ["_law_script"]) fun _ _ _ _ _ _ us hl => match us, hl with | [_], _ => rfl
  have F13 := fun_mk (st := s__law_number) l13 c13 k13
  have B13 := F13.binds (ps := ["_law_text"]) fun _ _ _ _ _ _ us hl => match us, hl with | [_], _ => rfl
  have F14 := fun_mk (st := s__law_in) l14 c14 k14
  have B14 := F14.binds (ps := ["_law_text"]) fun _ _ _ _ _ _ us hl => match us, hl with | [_], _ => rfl
  have F15 := fun_mk (st := s__law_refused) l15 c15 k15
  have B15 := F15.binds (ps := ["_law_text"]) fun _ _ _ _ _ _ us hl => match us, hl with | [_], _ => rfl
  have F16 := fun_mk (st := s__law_right) l16 c16 k16
  have B16 := F16.binds (ps := ["_law_text"]) fun _ _ _ _ _ _ us hl => match us, hl with | [_], _ => rfl
  have F17 := fun_mk (st := s__law_few) l17 c17 k17
  have B17 := F17.binds (ps := []) fun _ _ _ _ _ _ us hl => match us, hl with | [], _ => rfl
  have F18 := fun_mk (st := s_law) l18 c18 k18
  have B18 := F18.binds (ps := ["_law_script"]) fun _ _ _ _ _ _ us hl => match us, hl with | [_], _ => rfl
  have T : Txt K mg {
      f_is_whole := f1,
      d_is_whole := (PySem.W.fnOf "is_whole" "is_whole" (defArgs s_is_whole) (defBody s_is_whole) (defScope s_is_whole) .none kV1 dc1 pm1 an1 cd1 ct1),
      f_is_kind := f2,
      d_is_kind := (PySem.W.fnOf "is_kind" "is_kind" (defArgs s_is_kind) (defBody s_is_kind) (defScope s_is_kind) .none kV2 dc2 pm2 an2 cd2 ct2),
      f_is_heap := f3,
      d_is_heap := (PySem.W.fnOf "is_heap" "is_heap" (defArgs s_is_heap) (defBody s_is_heap) (defScope s_is_heap) .none kV3 dc3 pm3 an3 cd3 ct3),
      f_check_heap := f4,
      d_check_heap := (PySem.W.fnOf "check_heap" "check_heap" (defArgs s_check_heap) (defBody s_check_heap) (defScope s_check_heap) .none kV4 dc4 pm4 an4 cd4 ct4),
      f_runs := f5,
      d_runs := (PySem.W.fnOf "runs" "runs" (defArgs s_runs) (defBody s_runs) (defScope s_runs) .none kV5 dc5 pm5 an5 cd5 ct5),
      f_written := f6,
      d_written := (PySem.W.fnOf "written" "written" (defArgs s_written) (defBody s_written) (defScope s_written) .none kV6 dc6 pm6 an6 cd6 ct6),
      f_is_number := f7,
      d_is_number := (PySem.W.fnOf "is_number" "is_number" (defArgs s_is_number) (defBody s_is_number) (defScope s_is_number) .none kV7 dc7 pm7 an7 cd7 ct7),
      f_number_read := f8,
      d_number_read := (PySem.W.fnOf "number_read" "number_read" (defArgs s_number_read) (defBody s_number_read) (defScope s_number_read) .none kV8 dc8 pm8 an8 cd8 ct8),
      f_read := f9,
      d_read := (PySem.W.fnOf "read" "read" (defArgs s_read) (defBody s_read) (defScope s_read) .none kV9 dc9 pm9 an9 cd9 ct9),
      f__law_cell_at := f10,
      d__law_cell_at := (PySem.W.fnOf "_law_cell_at" "_law_cell_at" (defArgs s__law_cell_at) (defBody s__law_cell_at) (defScope s__law_cell_at) .none kV10 dc10 pm10 an10 cd10 ct10),
      f__law_draw := f11,
      d__law_draw := (PySem.W.fnOf "_law_draw" "_law_draw" (defArgs s__law_draw) (defBody s__law_draw) (defScope s__law_draw) .none kV11 dc11 pm11 an11 cd11 ct11),
      f__law_heap := f12,
      d__law_heap := (PySem.W.fnOf "_law_heap" "_law_heap" (defArgs s__law_heap) (defBody s__law_heap) (defScope s__law_heap) .none kV12 dc12 pm12 an12 cd12 ct12),
      f__law_number := f13,
      d__law_number := (PySem.W.fnOf "_law_number" "_law_number" (defArgs s__law_number) (defBody s__law_number) (defScope s__law_number) .none kV13 dc13 pm13 an13 cd13 ct13),
      f__law_in := f14,
      d__law_in := (PySem.W.fnOf "_law_in" "_law_in" (defArgs s__law_in) (defBody s__law_in) (defScope s__law_in) .none kV14 dc14 pm14 an14 cd14 ct14),
      f__law_refused := f15,
      d__law_refused := (PySem.W.fnOf "_law_refused" "_law_refused" (defArgs s__law_refused) (defBody s__law_refused) (defScope s__law_refused) .none kV15 dc15 pm15 an15 cd15 ct15),
      f__law_right := f16,
      d__law_right := (PySem.W.fnOf "_law_right" "_law_right" (defArgs s__law_right) (defBody s__law_right) (defScope s__law_right) .none kV16 dc16 pm16 an16 cd16 ct16),
      f__law_few := f17,
      d__law_few := (PySem.W.fnOf "_law_few" "_law_few" (defArgs s__law_few) (defBody s__law_few) (defScope s__law_few) .none kV17 dc17 pm17 an17 cd17 ct17),
      f_law := fa,
      d_law := (PySem.W.fnOf "law" "law" (defArgs s_law) (defBody s_law) (defScope s_law) .none kV18 dc18 pm18 an18 cd18 ct18),
      c_HeapError := C_HeapError,
      c_BadHeap := C_BadHeap,
      c_BadNumber := C_BadNumber,
      c_TooFew := C_TooFew,
      c_BadText := C_BadText,
      g_GREATEST_KIND := g_GREATEST_KIND,
      g_MOST_THINGS := g_MOST_THINGS,
      g_NO_THINGS := g_NO_THINGS,
      g_FIGURES := g_FIGURES,
      g_MOST_FIGURES := g_MOST_FIGURES } := {
      is_whole := ⟨F1, PySem.W.mg_of X G a1, B1⟩,
      is_kind := ⟨F2, PySem.W.mg_of X G a2, B2⟩,
      is_heap := ⟨F3, PySem.W.mg_of X G a3, B3⟩,
      check_heap := ⟨F4, PySem.W.mg_of X G a4, B4⟩,
      runs := ⟨F5, PySem.W.mg_of X G a5, B5⟩,
      written := ⟨F6, PySem.W.mg_of X G a6, B6⟩,
      is_number := ⟨F7, PySem.W.mg_of X G a7, B7⟩,
      number_read := ⟨F8, PySem.W.mg_of X G a8, B8⟩,
      read := ⟨F9, PySem.W.mg_of X G a9, B9⟩,
      _law_cell_at := ⟨F10, PySem.W.mg_of X G a10, B10⟩,
      _law_draw := ⟨F11, PySem.W.mg_of X G a11, B11⟩,
      _law_heap := ⟨F12, PySem.W.mg_of X G a12, B12⟩,
      _law_number := ⟨F13, PySem.W.mg_of X G a13, B13⟩,
      _law_in := ⟨F14, PySem.W.mg_of X G a14, B14⟩,
      _law_refused := ⟨F15, PySem.W.mg_of X G a15, B15⟩,
      _law_right := ⟨F16, PySem.W.mg_of X G a16, B16⟩,
      _law_few := ⟨F17, PySem.W.mg_of X G a17, B17⟩,
      law := ⟨F18, PySem.W.mg_of X G a18, B18⟩,
      m_HeapError := PySem.W.mg_of X G aC_HeapError,
      m_BadHeap := PySem.W.mg_of X G aC_BadHeap,
      m_BadNumber := PySem.W.mg_of X G aC_BadNumber,
      m_TooFew := PySem.W.mg_of X G aC_TooFew,
      m_BadText := PySem.W.mg_of X G aC_BadText,
      x_BadHeap := xx_BadHeap,
      y_BadHeap := ⟨ga_BadHeap, ka_BadHeap, ha_BadHeap, ho_BadHeap, hb_BadHeap⟩,
      v_BadHeap := q_ve_BadHeap,
      e_BadHeap := xe_BadHeap,
      q_BadHeap_BadHeap := q_BadHeap_BadHeap,
      q_BadHeap_BadNumber := q_BadHeap_BadNumber,
      q_BadHeap_TooFew := q_BadHeap_TooFew,
      q_BadHeap_BadText := q_BadHeap_BadText,
      x_BadNumber := xx_BadNumber,
      y_BadNumber := ⟨ga_BadNumber, ka_BadNumber, ha_BadNumber, ho_BadNumber, hb_BadNumber⟩,
      v_BadNumber := q_ve_BadNumber,
      e_BadNumber := xe_BadNumber,
      q_BadNumber_BadHeap := q_BadNumber_BadHeap,
      q_BadNumber_BadNumber := q_BadNumber_BadNumber,
      q_BadNumber_TooFew := q_BadNumber_TooFew,
      q_BadNumber_BadText := q_BadNumber_BadText,
      x_TooFew := xx_TooFew,
      y_TooFew := ⟨ga_TooFew, ka_TooFew, ha_TooFew, ho_TooFew, hb_TooFew⟩,
      v_TooFew := q_ve_TooFew,
      e_TooFew := xe_TooFew,
      q_TooFew_BadHeap := q_TooFew_BadHeap,
      q_TooFew_BadNumber := q_TooFew_BadNumber,
      q_TooFew_TooFew := q_TooFew_TooFew,
      q_TooFew_BadText := q_TooFew_BadText,
      x_BadText := xx_BadText,
      y_BadText := ⟨ga_BadText, ka_BadText, ha_BadText, ho_BadText, hb_BadText⟩,
      v_BadText := q_ve_BadText,
      e_BadText := xe_BadText,
      q_BadText_BadHeap := q_BadText_BadHeap,
      q_BadText_BadNumber := q_BadText_BadNumber,
      q_BadText_TooFew := q_BadText_TooFew,
      q_BadText_BadText := q_BadText_BadText,
      b_isinstance := PySem.W.mg_none_of X G z_isinstance,
      b_int := PySem.W.mg_none_of X G z_int,
      b_bool := PySem.W.mg_none_of X G z_bool,
      b_list := PySem.W.mg_none_of X G z_list,
      b_str := PySem.W.mg_none_of X G z_str,
      b_all := PySem.W.mg_none_of X G z_all,
      b_any := PySem.W.mg_none_of X G z_any,
      b_len := PySem.W.mg_none_of X G z_len,
      b_max := PySem.W.mg_none_of X G z_max,
      b_sum := PySem.W.mg_none_of X G z_sum,
      b_range := PySem.W.mg_none_of X G z_range,
      b_ValueError := PySem.W.mg_none_of X G z_ValueError,
      k_GREATEST_KIND := PySem.W.mg_of X G y_GREATEST_KIND,
      k_MOST_THINGS := PySem.W.mg_of X G y_MOST_THINGS,
      k_NO_THINGS := PySem.W.mg_of X G y_NO_THINGS,
      k_FIGURES := PySem.W.mg_of X G y_FIGURES,
      k_MOST_FIGURES := PySem.W.mg_of X G y_MOST_FIGURES }
  exact ⟨PySem.W.fnOf "law" "law" (defArgs s_law) (defBody s_law) (defScope s_law) .none kV18 dc18 pm18 an18 cd18 ct18, fun s v => .of_eq rfl, fun base _ _ => ok_law T⟩
theorem walk {l : PySem.W.OpenLaw} {q : Program} {loose : List Str} {XP : (Str → Option Value) → Heap → Prop} {YP : World → Heap → Prop} {d : DefRec} {K : Params → PySem.W.Frag} (hn : l.most = some 63) (hdf : d.params.defaults = [])
    (hY : ∀ (w : World) (h : Heap), YP w h → (K w.params).In h)
    (F : ∀ (w : World) (mg : Str → Option Value) (fa : Addr) (h : Heap), (K w.params).In h → h.Ns mainGlobals mg → mg d.name = some (.ref fa) →
      ∃ fd : FuncData, (∀ (s : Shared) (u : Value), BindsTo s fd ⟨[u], []⟩ [("_law_script", u)]) ∧ ∀ base : Heap, (K w.params).In base → base.Ns mainGlobals mg → FnOk l.prog w (K w.params) mg base CX0 7 fa fd ["_law_script"] (sp_law (K w.params))) :
    PySem.W.WalkO q loose XP YP l.row.toRowW d [] (fun f vs => PySem.call f vs) :=
  L2.walk_of (n := 63) (k := 7) (x := "_law_script") (CX := fun _ => CX0) (sp := fun w => sp_law (K w.params)) hn (by decide) hdf ⟨rfl, by decide, by decide⟩ hY F (fun _ _ a ns hl _ hS => ⟨a, ns, rfl, hS, hl, fun _ => rfl⟩) fun _ _ _ _ _ z => z
end K8
open PySem PySem.W PyProof.Rows
def PySem.W.Fast.tw11602159752666370776 : Unit := ()
def PySem.W.Fast.tw12363109283527609805 : Unit := ()
def PySem.W.Fast.tw13628665419477703815 : Unit := ()
def PySem.W.Fast.tw14028995934029332427 : Unit := ()
def PySem.W.Fast.tw15991826648065295914 : Unit := ()
def PySem.W.Fast.tw16053212560172735650 : Unit := ()
def PySem.W.Fast.tw17207547112408979946 : Unit := ()
def PySem.W.Fast.tw17744041155542462284 : Unit := ()
def PySem.W.Fast.tw6271890597676784689 : Unit := ()
def PySem.W.Fast.tw8014540389739093801 : Unit := ()
def PySem.W.Fast.tw8965346836354256107 : Unit := ()
set_option maxRecDepth 100000 in
set_option maxHeartbeats 0 in
theorem PySem.Challenge.cw_apartrow_k08_written_holds : PySem.Challenge.rw_apartrow_k08_written.Holds := by
  w_on; o_law; k_head; (case hw => w_witness2)
  k_fill
  refine K8.walk (l := PySem.Challenge.rw_apartrow_k08_written) rfl rfl (fun w h Y => PySem.W.kIn_of Y) ?F
  case F =>
    intro w mg fa h KX G hmg
    refine' K8.all_mk KX G hmg ?a1 ?l1 ?c1 ?k1 ?a2 ?l2 ?c2 ?k2 ?a3 ?l3 ?c3 ?k3 ?a4 ?l4 ?c4 ?k4 ?a5 ?l5 ?c5 ?k5 ?a6 ?l6 ?c6 ?k6 ?a7 ?l7 ?c7 ?k7 ?a8 ?l8 ?c8 ?k8 ?a9 ?l9 ?c9 ?k9 ?a10 ?l10 ?c10 ?k10 ?a11 ?l11 ?c11 ?k11 ?a12 ?l12 ?c12 ?k12 ?a13 ?l13 ?c13 ?k13 ?a14 ?l14 ?c14 ?k14 ?a15 ?l15 ?c15 ?k15 ?a16 ?l16 ?c16 ?k16 ?a17 ?l17 ?c17 ?k17 ?a18 ?l18 ?c18 ?k18 ?aC_HeapError ?aC_BadHeap ?aC_BadNumber ?aC_TooFew ?aC_BadText ?xx_BadHeap ?ga_BadHeap ?ka_BadHeap ?ha_BadHeap ?ho_BadHeap ?hb_BadHeap ?q_ve_BadHeap ?xe_BadHeap ?q_BadHeap_BadHeap ?q_BadHeap_BadNumber ?q_BadHeap_TooFew ?q_BadHeap_BadText ?xx_BadNumber ?ga_BadNumber ?ka_BadNumber ?ha_BadNumber ?ho_BadNumber ?hb_BadNumber ?q_ve_BadNumber ?xe_BadNumber ?q_BadNumber_BadHeap ?q_BadNumber_BadNumber ?q_BadNumber_TooFew ?q_BadNumber_BadText ?xx_TooFew ?ga_TooFew ?ka_TooFew ?ha_TooFew ?ho_TooFew ?hb_TooFew ?q_ve_TooFew ?xe_TooFew ?q_TooFew_BadHeap ?q_TooFew_BadNumber ?q_TooFew_TooFew ?q_TooFew_BadText ?xx_BadText ?ga_BadText ?ka_BadText ?ha_BadText ?ho_BadText ?hb_BadText ?q_ve_BadText ?xe_BadText ?q_BadText_BadHeap ?q_BadText_BadNumber ?q_BadText_TooFew ?q_BadText_BadText ?z_isinstance ?z_int ?z_bool ?z_list ?z_str ?z_all ?z_any ?z_len ?z_max ?z_sum ?z_range ?z_ValueError ?y_GREATEST_KIND ?y_MOST_THINGS ?y_NO_THINGS ?y_FIGURES ?y_MOST_FIGURES
    (case a1 => k_is)
    (case l1 => k_is)
    (case c1 => k_is)
    (case k1 => k_is)
    (case a2 => k_is)
    (case l2 => k_is)
    (case c2 => k_is)
    (case k2 => k_is)
    (case a3 => k_is)
    (case l3 => k_is)
    (case c3 => k_is)
    (case k3 => k_is)
    (case a4 => k_is)
    (case l4 => k_is)
    (case c4 => k_is)
    (case k4 => k_is)
    (case a5 => k_is)
    (case l5 => k_is)
    (case c5 => k_is)
    (case k5 => k_is)
    (case a6 => k_is)
    (case l6 => k_is)
    (case c6 => k_is)
    (case k6 => k_is)
    (case a7 => k_is)
    (case l7 => k_is)
    (case c7 => k_is)
    (case k7 => k_is)
    (case a8 => k_is)
    (case l8 => k_is)
    (case c8 => k_is)
    (case k8 => k_is)
    (case a9 => k_is)
    (case l9 => k_is)
    (case c9 => k_is)
    (case k9 => k_is)
    (case a10 => k_is)
    (case l10 => k_is)
    (case c10 => k_is)
    (case k10 => k_is)
    (case a11 => k_is)
    (case l11 => k_is)
    (case c11 => k_is)
    (case k11 => k_is)
    (case a12 => k_is)
    (case l12 => k_is)
    (case c12 => k_is)
    (case k12 => k_is)
    (case a13 => k_is)
    (case l13 => k_is)
    (case c13 => k_is)
    (case k13 => k_is)
    (case a14 => k_is)
    (case l14 => k_is)
    (case c14 => k_is)
    (case k14 => k_is)
    (case a15 => k_is)
    (case l15 => k_is)
    (case c15 => k_is)
    (case k15 => k_is)
    (case a16 => k_is)
    (case l16 => k_is)
    (case c16 => k_is)
    (case k16 => k_is)
    (case a17 => k_is)
    (case l17 => k_is)
    (case c17 => k_is)
    (case k17 => k_is)
    (case a18 => k_is)
    (case l18 => k_is)
    (case c18 => k_is)
    (case k18 => k_is)
    (case aC_HeapError => k_is)
    (case aC_BadHeap => k_is)
    (case aC_BadNumber => k_is)
    (case aC_TooFew => k_is)
    (case aC_BadText => k_is)
    (case xx_BadHeap => k_exc)
    (case ga_BadHeap => k_is)
    (case ka_BadHeap => k_is)
    (case ha_BadHeap => k_is)
    (case ho_BadHeap => k_is)
    (case hb_BadHeap => k_is)
    (case q_ve_BadHeap => kit_is)
    (case xe_BadHeap => kts_exm)
    (case q_BadHeap_BadHeap => kit_is)
    (case q_BadHeap_BadNumber => kit_is)
    (case q_BadHeap_TooFew => kit_is)
    (case q_BadHeap_BadText => kit_is)
    (case xx_BadNumber => k_exc)
    (case ga_BadNumber => k_is)
    (case ka_BadNumber => k_is)
    (case ha_BadNumber => k_is)
    (case ho_BadNumber => k_is)
    (case hb_BadNumber => k_is)
    (case q_ve_BadNumber => kit_is)
    (case xe_BadNumber => kts_exm)
    (case q_BadNumber_BadHeap => kit_is)
    (case q_BadNumber_BadNumber => kit_is)
    (case q_BadNumber_TooFew => kit_is)
    (case q_BadNumber_BadText => kit_is)
    (case xx_TooFew => k_exc)
    (case ga_TooFew => k_is)
    (case ka_TooFew => k_is)
    (case ha_TooFew => k_is)
    (case ho_TooFew => k_is)
    (case hb_TooFew => k_is)
    (case q_ve_TooFew => kit_is)
    (case xe_TooFew => kts_exm)
    (case q_TooFew_BadHeap => kit_is)
    (case q_TooFew_BadNumber => kit_is)
    (case q_TooFew_TooFew => kit_is)
    (case q_TooFew_BadText => kit_is)
    (case xx_BadText => k_exc)
    (case ga_BadText => k_is)
    (case ka_BadText => k_is)
    (case ha_BadText => k_is)
    (case ho_BadText => k_is)
    (case hb_BadText => k_is)
    (case q_ve_BadText => kit_is)
    (case xe_BadText => kts_exm)
    (case q_BadText_BadHeap => kit_is)
    (case q_BadText_BadNumber => kit_is)
    (case q_BadText_TooFew => kit_is)
    (case q_BadText_BadText => kit_is)
    (case z_isinstance => k_is)
    (case z_int => k_is)
    (case z_bool => k_is)
    (case z_list => k_is)
    (case z_str => k_is)
    (case z_all => k_is)
    (case z_any => k_is)
    (case z_len => k_is)
    (case z_max => k_is)
    (case z_sum => k_is)
    (case z_range => k_is)
    (case z_ValueError => k_is)
    (case y_GREATEST_KIND => k_is)
    (case y_MOST_THINGS => k_is)
    (case y_NO_THINGS => k_is)
    (case y_FIGURES => k_is)
    (case y_MOST_FIGURES => k_is)

