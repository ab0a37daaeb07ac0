import PyProof.Rows.All
import Wide.All
import OpenK.AllK
import Wide.FinOn
import PyProof.EqAt
import PyProof.EqKinds
import PyProof.TupleCall
import KE.BitLaws
import PySem.Challenge.RW_pagerooms_k04_no_rules_and_no_rooms
set_option Elab.async false
set_option linter.all false
set_option maxRecDepth 100000
namespace L2
open PySem PySem.Spec PyProof.Rows
abbrev Key := Sum Int Str
def keyIs : Key → Value → Bool
  | .inl k, v => Value.isInt k v
  | .inr x, v => Value.isStrOf x v
def keyH (w : World) : Key → Int
  | .inl k => hashInt k
  | .inr x => hashStr w x
theorem keyIs_shape : ∀ {k : Key} {v : Value}, keyIs k v = true → (∃ i t, k = Sum.inl i ∧ v = Value.int i t) ∨ (∃ x t, k = Sum.inr x ∧ v = Value.str x t)
  | .inl i, v, h => by
    obtain ⟨t, e⟩ := Value.isInt_shape (k := i) (v := v) h
    exact .inl ⟨i, t, rfl, e⟩
  | .inr x, v, h => by
    obtain ⟨t, e⟩ := Value.isStrOf_shape (x := x) (v := v) h
    exact .inr ⟨x, t, rfl, e⟩
theorem keyIs_int (i : Int) (t : Tok) : keyIs (.inl i) (.int i t) = true := by simp [keyIs, Value.isInt]
theorem keyIs_str (x : Str) (t : Tok) : keyIs (.inr x) (.str x t) = true := by simp [keyIs, Value.isStrOf]
theorem key_ll (a b : Int) : decide ((Sum.inl a : Key) = Sum.inl b) = (a == b) := by
  by_cases e : a = b
  · subst e; simp
  · have h : ¬ (Sum.inl a : Key) = Sum.inl b := fun q => e (Sum.inl.inj q)
    rw [decide_eq_false h]
    exact (beq_eq_false_iff_ne.mpr e).symm
theorem key_rr (a b : Str) : decide ((Sum.inr a : Key) = Sum.inr b) = decide (a = b) := by
  by_cases e : a = b
  · subst e; simp
  · have h : ¬ (Sum.inr a : Key) = Sum.inr b := fun q => e (Sum.inr.inj q)
    rw [decide_eq_false h, decide_eq_false e]
theorem key_lr (a : Int) (b : Str) : decide ((Sum.inl a : Key) = Sum.inr b) = false := decide_eq_false (fun q => nomatch q)
theorem key_rl (a : Str) (b : Int) : decide ((Sum.inr a : Key) = Sum.inl b) = false := decide_eq_false (fun q => nomatch q)
def mixKind (prog : Program) (w : World) : PySem.KeyKind prog w Key where
  is := keyIs
  hash := keyH w
  inj := fun v a b ha hb => by
    rcases keyIs_shape ha with ⟨i, t, rfl, rfl⟩ | ⟨x, t, rfl, rfl⟩
    · rcases keyIs_shape hb with ⟨j, u, rfl, e⟩ | ⟨y, u, rfl, e⟩
      · injection e with e1 _; rw [e1]
      · exact nomatch e
    · rcases keyIs_shape hb with ⟨j, u, rfl, e⟩ | ⟨y, u, rfl, e⟩
      · exact nomatch e
      · injection e with e1 _; rw [e1]
  byValue := fun k v h => by
    rcases keyIs_shape h with ⟨i, t, rfl, rfl⟩ | ⟨x, t, rfl, rfl⟩ <;> rfl
  pyHash := fun hv h => by
    rcases keyIs_shape hv with ⟨i, t, rfl, rfl⟩ | ⟨x, t, rfl, rfl⟩
    · exact wpAny_pyHash_int h
    · exact wpAny_pyHash_str h
  eqBool := fun hu hv h => by
    rcases keyIs_shape hu with ⟨i, t, rfl, rfl⟩ | ⟨x, t, rfl, rfl⟩
    · rcases keyIs_shape hv with ⟨j, u, rfl, rfl⟩ | ⟨y, u, rfl, rfl⟩
      · rw [key_ll] at h; exact wpAny_eqBool_int h
      · rw [key_lr] at h; exact SeqAt.EqAt.int_str i t y u _ _ _ _ h
    · rcases keyIs_shape hv with ⟨j, u, rfl, rfl⟩ | ⟨y, u, rfl, rfl⟩
      · rw [key_rl] at h; exact SeqAt.EqAt.str_int x t j u _ _ _ _ h
      · rw [key_rr] at h; exact wpAny_eqBool_str h
  «strs» := fun k x t v h => by
    rcases keyIs_shape h with ⟨i, u, rfl, e⟩ | ⟨y, u, rfl, e⟩
    · exact nomatch e
    · injection e with e1 _
      subst e1
      cases v <;> rfl
theorem mixKind_int (prog : Program) (w : World) (i : Int) (t : Tok) : (mixKind prog w).is (.inl i) (.int i t) = true := keyIs_int i t
theorem mixKind_str (prog : Program) (w : World) (x : Str) (t : Tok) : (mixKind prog w).is (.inr x) (.str x t) = true := keyIs_str x t
end L2
namespace L2
open PySem PySem.Spec PyProof.Rows
inductive V where
  | non | bl (b : Bool) | int (i : Int) | str (x : Str) | byt (b : Array UInt8) | flt (b : UInt64) | ref (a : Addr) | ty (n : String)
  deriving DecidableEq
def RelV : V → Value → Prop
  | .non, u => u = Value.none
  | .bl b, u => u = Value.bool b
  | .int i, u => ∃ t, u = Value.int i t
  | .str x, u => ∃ t, u = Value.str x t
  | .byt b, u => ∃ t, u = Value.bytes b t
  | .flt b, u => ∃ t, u = Value.float b t
  | .ref a, u => u = Value.ref a
  | .ty n, u => u = Value.type n
abbrev Vals : List V → List Value → Prop := Paired RelV
theorem Vals.length {xs : List V} {us : List Value} (r : Vals xs us) : xs.length = us.length := Paired.length r
theorem Vals.get : ∀ {xs : List V} {us : List Value} {i : Nat} {x : V}, Vals xs us → xs[i]? = some x → ∃ u, us[i]? = some u ∧ RelV x u
  | _, _, _, _, .nil, e => by simp at e
  | _, _, 0, _, .cons r _, e => by simp at e; subst e; exact ⟨_, rfl, r⟩
  | _, _, i + 1, x, .cons _ t, e => by
    obtain ⟨u, h1, h2⟩ := Vals.get (i := i) (x := x) t (by simpa using e)
    exact ⟨u, by simpa using h1, h2⟩
theorem Vals.set {x : V} {u : Value} (r : RelV x u) : ∀ {xs : List V} {us : List Value} (i : Nat), Vals xs us → Vals (xs.set i x) (us.set i u)
  | _, _, _, .nil => .nil
  | _, _, 0, .cons _ t => .cons r t
  | _, _, i + 1, .cons q t => .cons q (Vals.set r i t)
theorem Vals.append : ∀ {xs ys : List V} {us ws : List Value}, Vals xs us → Vals ys ws → Vals (xs ++ ys) (us ++ ws)
  | _, _, _, _, .nil, s => s
  | _, _, _, _, .cons r t, s => .cons r (Vals.append t s)
theorem Vals.take : ∀ {xs : List V} {us : List Value} (n : Nat), Vals xs us → Vals (xs.take n) (us.take n)
  | _, _, 0, _ => .nil
  | _, _, _ + 1, .nil => .nil
  | _, _, n + 1, .cons r t => .cons r (Vals.take n t)
theorem Vals.drop : ∀ {xs : List V} {us : List Value} (n : Nat), Vals xs us → Vals (xs.drop n) (us.drop n)
  | _, _, 0, r => r
  | _, _, _ + 1, .nil => .nil
  | _, _, n + 1, .cons _ t => Vals.drop n t
theorem Vals.none_of : ∀ {xs : List V} {us : List Value} {i : Nat}, Vals xs us → xs[i]? = none → us[i]? = none := fun {xs us i} r e => by
  have h1 := r.length
  have h2 : xs.length ≤ i := List.getElem?_eq_none_iff.mp e
  exact List.getElem?_eq_none_iff.mpr (by omega)
def RelO : Option V → Option Value → Prop
  | some v, some u => RelV v u
  | none, none => True
  | _, _ => False
def KV {κ : Type} : List (κ × V) → List (κ × Value) → Prop := Paired fun (p : κ × V) (q : κ × Value) => p.1 = q.1 ∧ RelV p.2 q.2
def kV : Key → V
  | .inl i => .int i
  | .inr x => .str x
inductive HO where
  /-- a list -/
  | lst (xs : List V)
  /-- a tuple (never changes) -/
  | tup (xs : List V)
  /-- a dict whose keys are ints and texts; one whose keys are tuples of ints and texts (the empty one is both) -/
  | dK (kvs : List (Key × V)) | dT (kvs : List (List Key × V))
  /-- a set of ints: its members, its size -/
  | set (S : Int → Bool) (n : Nat)
  /-- an instance of the class at C, its dict at dx, its attributes -/
  | ins (C dx : Addr) (fs : List (Str × V))
  /-- the dict of the instance at x -/
  | own (x : Addr)
  /-- the dict of an exception -/
  | xd (fs : List (Str × V))
  /-- a bound method, f of x -/
  | met (f x : Addr)
  /-- a range object lo, lo + 1, .. below hi -/
  | rng (lo hi : Int)
  /-- a thing that is known to the object (the script; a dict while a loop walks it): read, never written while it is so -/
  | frz (o : Obj) (u : HO)
  /-- a code object's table -/
  | tbl (ps : Array Value)
  /-- any other thing, by what is true of its one object (a def of one's own: SetO a S n := HO.ext fun h => ..) -/
  | ext (φ : Heap → Prop)
abbrev Hp := Addr → Option HO
def upd (H : Hp) (a : Addr) (o : HO) : Hp := fun b => if b = a then some o else H b
theorem upd_same {H : Hp} {a : Addr} {o : HO} : upd H a o a = some o := by unfold upd; rw [if_pos rfl]
theorem upd_ne {H : Hp} {a b : Addr} {o : HO} (h : b ≠ a) : upd H a o b = H b := by unfold upd; rw [if_neg h]
theorem upd_upd {H : Hp} {a : Addr} {o u : HO} : upd (upd H a o) a u = upd H a u := by
  funext b; unfold upd; split <;> rfl
theorem ne_of {H : Hp} {a b : Addr} {o u : HO} (h : H a = some o) (h' : H b = some u) (d : o ≠ u) : a ≠ b := by
  intro e; subst e; rw [h] at h'; exact d (Option.some.inj h')
theorem ne_of_none {H : Hp} {a b : Addr} {o : HO} (h : H a = some o) (h' : H b = none) : a ≠ b := by
  intro e; subst e; rw [h] at h'; cases h'
section
variable (P : Program) (w : World)
def ObjOk (H : Hp) (h : Heap) (a : Addr) : HO → Prop
  | .lst xs => xs.length ≤ sizeLine ∧ ∃ (its : List Value) (n : Nat), Vals xs its ∧ h.get? a = some { cls := .type "list", data := .seq its.toArray n }
  | .tup xs => xs.length ≤ sizeLine ∧ ∃ its : List Value, Vals xs its ∧ IsTup h a its.toArray
  | .dK kvs => kvs.length ≤ sizeLine ∧ (a == sysModules) = false ∧ ∃ vs, KV kvs vs ∧ h.DictOf (mixKind P w) a vs
  | .dT kvs => kvs.length ≤ sizeLine ∧ (a == sysModules) = false ∧ ∃ xs : List (List Key × Addr × Value),
      Paired (fun (p : List Key × V) (q : List Key × Addr × Value) => p.1 = q.1 ∧ H q.2.1 = some (.tup (p.1.map kV)) ∧ RelV p.2 q.2.2) kvs xs ∧
      ∃ o es ep, h.get? a = some o ∧ o.ExactDict ∧ o.data = .dict es ep ∧ es.toList = xs.map (entryOfKey (tupleKind (mixKind P w))) ∧ (xs.map (·.1)).Nodup
  | .set S n => h.SetOf (intKind P w) a S n
  | .ins C dx fs => H dx = some (.own a) ∧ fs.length ≤ 1000 ∧ dx ≠ a ∧ h.get? a = some (PySem.W.instObj C dx) ∧
      ∃ mA, h.Ns1 dx mA ∧ (∀ f, RelO (fs.lookup f) (mA f)) ∧ PySem.Within mA (fs.map (·.1))
  | .own _ => ∃ o, h.get? a = some o
  | .xd fs => ∃ mA, h.Ns1 a mA ∧ ∀ f, RelO (fs.lookup f) (mA f)
  | .rng lo hi => ∃ t u v, h.get? a = some { cls := .type "range", data := .fields #[.int lo t, .int hi u, .int 1 v] }
  | .frz o u => h.get? a = some o ∧ ObjOk H h a u
  | .tbl ps => h.get? a = some { cls := .none, data := .fields ps }
  | .met f x => h.get? a = some (PySem.W.methodObj (.ref f) (.ref x))
  | .ext φ => φ h ∧ (∃ o, h.get? a = some o) ∧ ∀ h1 h2 : Heap, φ h1 → (∀ o, h1.get? a = some o → h2.get? a = some o) → φ h2
def HOk (H : Hp) (h : Heap) : Prop := ∀ a o, H a = some o → ObjOk P w H h a o
end
section
variable {P : Program} {w : World} {H H' : Hp} {h h' : Heap} {a : Addr} {o : HO}
theorem ObjOk.lt (x : ObjOk P w H h a o) : a < h.objs.size := by
  cases o with
  | lst xs => obtain ⟨_, _, _, _, e⟩ := x; exact Heap.lt_size e
  | tup xs => obtain ⟨_, _, _, p⟩ := x; exact p.lt
  | dK kvs => obtain ⟨_, _, _, _, o, _, _, e, _⟩ := x; exact Heap.lt_size e
  | dT kvs => obtain ⟨_, _, _, _, o, _, _, e, _⟩ := x; exact Heap.lt_size e
  | set S n => obtain ⟨o, _, _, _, e, _⟩ := x; exact Heap.lt_size e
  | ins C dx fs => obtain ⟨_, _, _, e, _⟩ := x; exact Heap.lt_size e
  | own y => obtain ⟨_, e⟩ := x; exact Heap.lt_size e
  | xd fs => obtain ⟨_, ⟨_, _, _, e, _⟩, _⟩ := x; exact Heap.lt_size e
  | rng lo hi => obtain ⟨_, _, _, e⟩ := x; exact Heap.lt_size e
  | frz ob u => obtain ⟨e, _⟩ := x; exact Heap.lt_size e
  | tbl ps => exact Heap.lt_size (show h.get? a = some _ from x)
  | met f y => exact Heap.lt_size (show h.get? a = some _ from x)
  | ext φ => obtain ⟨_, ⟨_, e⟩, _⟩ := x; exact Heap.lt_size e
theorem Paired.mapP {α β : Type} {F G : α → β → Prop} : ∀ {l₁ : List α} {l₂ : List β}, Paired F l₁ l₂ → (∀ a b, F a b → G a b) → Paired G l₁ l₂
  | _, _, .nil, _ => .nil
  | _, _, .cons r t, f => .cons (f _ _ r) (Paired.mapP t f)
theorem ObjOk.stay (x : ObjOk P w H h a o) (k : ∀ b u, (b = a ∨ H b = some (.own a)) → h.get? b = some u → h'.get? b = some u)
    (ho : ∀ b, H b = some (.own a) → H' b = some (.own a)) (ht : ∀ b xs, H b = some (.tup xs) → H' b = some (.tup xs)) : ObjOk P w H' h' a o := by
  induction o with
  | lst xs => obtain ⟨z, its, n, r, e⟩ := x; exact ⟨z, its, n, r, k _ _ (.inl rfl) e⟩
  | tup xs => obtain ⟨z, its, r, ob, e, c⟩ := x; exact ⟨z, its, r, ob, k _ _ (.inl rfl) e, c⟩
  | dK kvs => obtain ⟨z, y, vs, r, ob, es, ep, e, c⟩ := x; exact ⟨z, y, vs, r, ob, es, ep, k _ _ (.inl rfl) e, c⟩
  | dT kvs =>
    obtain ⟨z, y, xs, r, ob, es, ep, e, c⟩ := x
    exact ⟨z, y, xs, Paired.mapP r fun p q z => ⟨z.1, ht _ _ z.2.1, z.2.2⟩, ob, es, ep, k _ _ (.inl rfl) e, c⟩
  | set S n => obtain ⟨ob, es, ep, t, e, c⟩ := x; exact ⟨ob, es, ep, t, k _ _ (.inl rfl) e, c⟩
  | ins C dx fs =>
    obtain ⟨d, z, ne, e, mA, ⟨od, es, ep, e2, c⟩, r⟩ := x
    exact ⟨ho _ d, z, ne, k _ _ (.inl rfl) e, mA, ⟨od, es, ep, k _ _ (.inr d) e2, c⟩, r⟩
  | own y => obtain ⟨ob, e⟩ := x; exact ⟨ob, k _ _ (.inl rfl) e⟩
  | xd fs => obtain ⟨mA, ⟨od, es, ep, e, c⟩, r⟩ := x; exact ⟨mA, ⟨od, es, ep, k _ _ (.inl rfl) e, c⟩, r⟩
  | rng lo hi => obtain ⟨t, u, v, e⟩ := x; exact ⟨t, u, v, k _ _ (.inl rfl) e⟩
  | frz ob u ih => obtain ⟨e, q⟩ := x; exact ⟨k _ _ (.inl rfl) e, ih q⟩
  | tbl ps =>
    have e : h.get? a = some { cls := .none, data := .fields ps } := x
    show h'.get? a = some { cls := .none, data := .fields ps }
    exact k a _ (.inl rfl) e
  | met f y =>
    have e : h.get? a = some (PySem.W.methodObj (.ref f) (.ref y)) := x
    show h'.get? a = some (PySem.W.methodObj (.ref f) (.ref y))
    exact k a _ (.inl rfl) e
  | ext φ => obtain ⟨p, ⟨o, e⟩, st⟩ := x; exact ⟨st _ _ p fun o q => k _ _ (.inl rfl) q, ⟨o, k _ _ (.inl rfl) e⟩, st⟩
theorem HOk.lt (x : HOk P w H h) (e : H a = some o) : a < h.objs.size := (x a o e).lt
theorem HOk.fresh (x : HOk P w H h) (e : h.objs.size ≤ a) : H a = none := by
  cases q : H a with
  | none => rfl
  | some u => exact absurd (Nat.lt_of_lt_of_le (x.lt q) e) (Nat.lt_irrefl _)
theorem HOk.kept (x : HOk P w H h) (k : ∀ b u, h.get? b = some u → h'.get? b = some u) : HOk P w H h' := fun a o e =>
  (x a o e).stay (fun b u _ q => k b u q) (fun _ q => q) fun _ _ q => q
theorem HOk.laid (x : HOk P w H h) (k : ∀ b u, h.get? b = some u → h'.get? b = some u) (hp : h.objs.size ≤ a) (new : ObjOk P w (upd H a o) h' a o) : HOk P w (upd H a o) h' := fun b u e => by
  have hn := x.fresh hp
  by_cases hb : b = a
  · subst hb; rw [upd_same] at e; cases e; exact new
  · rw [upd_ne hb] at e
    exact (x b u e).stay (fun c v _ q => k c v q) (fun c q => by rw [upd_ne (ne_of_none q hn)]; exact q) fun c xs q => by rw [upd_ne (ne_of_none q hn)]; exact q
end
def Rd (H : Hp) (a : Addr) (u : HO) : Prop := H a = some u ∨ ∃ o, H a = some (.frz o u)
theorem Rd.of {H : Hp} {a : Addr} {u : HO} (h : H a = some u) : Rd H a u := .inl h
theorem Rd.ok {P : Program} {w : World} {H : Hp} {h : Heap} {a : Addr} {u : HO} (r : Rd H a u) (x : HOk P w H h) : ObjOk P w H h a u := by
  rcases r with r | ⟨o, r⟩
  · exact x a u r
  · obtain ⟨_, q⟩ := x a _ r
    exact q
def Mut : Option HO → Prop
  | some (.lst _) => True
  | some (.dK _) => True
  | some (.dT _) => True
  | some (.set _ _) => True
  | some (.ins _ _ _) => True
  | some (.ext _) => True
  | _ => False
section
variable {P : Program} {w : World} {H : Hp} {h h' : Heap} {x e : Addr} {o' : HO}
theorem HOk.write (ok : HOk P w H h) (mu : Mut (H x)) (he : e = x ∨ H e = some (.own x)) (k : ∀ b u, b ≠ e → h.get? b = some u → h'.get? b = some u) (heo : ∃ u, h'.get? e = some u)
    (new : ObjOk P w (upd H x o') h' x o') : HOk P w (upd H x o') h' := fun b u q => by
  have nown : ∀ c y, H c = some (.own y) → c ≠ x := fun c y r z => by subst z; rw [r] at mu; exact mu
  have ntup : ∀ c xs, H c = some (.tup xs) → c ≠ x := fun c xs r z => by subst z; rw [r] at mu; exact mu
  by_cases hb : b = x
  · subst hb; rw [upd_same] at q; cases q; exact new
  · rw [upd_ne hb] at q
    by_cases hbe : b = e
    · have q' : H b = some (.own x) := by
        rcases he with z | z
        · exact absurd (hbe.trans z) hb
        · rw [hbe]; exact z
      rw [q] at q'; cases q'
      obtain ⟨v, hv⟩ := heo
      exact ⟨v, by rw [hbe]; exact hv⟩
    · refine (ok b u q).stay (fun c v hc r => k c v ?_ r) (fun c r => by rw [upd_ne (nown c b r)]; exact r) fun c xs r => by rw [upd_ne (ntup c xs r)]; exact r
      rcases hc with rfl | hc
      · exact hbe
      · rintro rfl
        rcases he with z | z
        · exact nown c b hc z
        · rw [hc] at z; cases z; exact hb rfl
end
structure Un (fs ex : List Addr) (H H' : Hp) (h h' : Heap) : Prop where
  keep : ∀ b o, h.get? b = some o → H b = none → b ∉ fs → b ∉ ex → h'.get? b = some o
  slot : ∀ b o, h.get? b = some o → H b = none → b ∈ fs → b ∉ ex → ∃ sl, h'.get? b = some { o with slots := sl }
  free : ∀ b o, h.get? b = some o → H b = none → b ∉ ex → H' b = none
  there : ∀ b o, h.get? b = some o → b ∉ ex → ∃ o', h'.get? b = some o'
  tups : ∀ b xs, H b = some (.tup xs) → H' b = some (.tup xs)
  frzs : ∀ b o u, H b = some (.frz o u) → H' b = some (.frz o u)
  tbls : ∀ b ps, H b = some (.tbl ps) → ∃ more, H' b = some (.tbl (ps ++ more))
section
variable {fs fs' ex ex' : List Addr} {H H1 H2 : Hp} {h h1 h2 h' : Heap} {a x e : Addr} {o : HO}
theorem Un.any (u : Un fs ex H H1 h h1) {b : Addr} {ob : Obj} (q : h.get? b = some ob) (n : H b = none) (hx : b ∉ ex) : ∃ sl, h1.get? b = some { ob with slots := sl } := by
  by_cases hb : b ∈ fs
  · exact u.slot b ob q n hb hx
  · exact ⟨ob.slots, u.keep b ob q n hb hx⟩
theorem Un.trans (a : Un fs ex H H1 h h1) (b : Un fs ex H1 H2 h1 h2) : Un fs ex H H2 h h2 where
  keep := fun c ob q n hc hx => b.keep c ob (a.keep c ob q n hc hx) (a.free c ob q n hx) hc hx
  slot := fun c ob q n hc hx => by
    obtain ⟨sl, e1⟩ := a.slot c ob q n hc hx
    obtain ⟨sl', e2⟩ := b.slot c _ e1 (a.free c ob q n hx) hc hx
    exact ⟨sl', e2⟩
  free := fun c ob q n hx => by
    obtain ⟨o', e1⟩ := a.there c ob q hx
    exact b.free c o' e1 (a.free c ob q n hx) hx
  there := fun c ob q hx => by
    obtain ⟨o', e1⟩ := a.there c ob q hx
    exact b.there c o' e1 hx
  tups := fun c xs q => b.tups c xs (a.tups c xs q)
  frzs := fun c ob xs q => b.frzs c ob xs (a.frzs c ob xs q)
  tbls := fun c ps q => by
    obtain ⟨m1, e1⟩ := a.tbls c ps q
    obtain ⟨m2, e2⟩ := b.tbls c _ e1
    exact ⟨m1 ++ m2, by rw [e2, Array.append_assoc]⟩
theorem Un.kept (k : ∀ b u, h.get? b = some u → h'.get? b = some u) : Un fs ex H H h h' :=
  ⟨fun b ob q _ _ _ => k b ob q, fun b ob q _ _ _ => ⟨ob.slots, k b ob q⟩, fun _ _ _ n _ => n, fun b ob q _ => ⟨ob, k b ob q⟩, fun _ _ q => q, fun _ _ _ q => q, fun _ ps q => ⟨#[], by rw [q]; simp⟩⟩
theorem Un.refl : Un fs ex H H h h := Un.kept fun _ _ q => q
theorem Un.laid (k : ∀ b u, h.get? b = some u → h'.get? b = some u) (hp : h.objs.size ≤ a) (hn : H a = none) : Un fs ex H (upd H a o) h h' where
  keep := fun b u q _ _ _ => k b u q
  slot := fun b u q _ _ _ => ⟨u.slots, k b u q⟩
  free := fun b u q n _ => by rw [upd_ne (Nat.ne_of_lt (Nat.lt_of_lt_of_le (Heap.lt_size q) hp))]; exact n
  there := fun b u q _ => ⟨u, k b u q⟩
  tups := fun b xs q => by rw [upd_ne (ne_of_none q hn)]; exact q
  frzs := fun b u xs q => by rw [upd_ne (ne_of_none q hn)]; exact q
  tbls := fun b ps q => ⟨#[], by rw [upd_ne (ne_of_none q hn), q]; simp⟩
theorem Un.write (mu : Mut (H x)) (he : e = x ∨ H e = some (.own x)) (k : ∀ b u, b ≠ e → h.get? b = some u → h'.get? b = some u) (heo : ∃ u, h'.get? e = some u) : Un fs ex H (upd H x o) h h' := by
  have hx : ∀ b, H b = none → b ≠ x := fun b n z => by subst z; rw [n] at mu; exact mu
  have hb : ∀ b, H b = none → b ≠ e := fun b n z => by
    subst z
    rcases he with r | r
    · exact hx b n r
    · rw [n] at r; cases r
  have hm : ∀ b u, H b = some u → ¬ Mut (some u) → b ≠ x := fun b u q nm z => by subst z; rw [q] at mu; exact nm mu
  refine ⟨fun b u q n _ _ => k b u (hb b n) q, fun b u q n _ _ => ⟨u.slots, k b u (hb b n) q⟩, fun b u q n _ => by rw [upd_ne (hx b n)]; exact n, fun b u q _ => ?_,
    fun b xs q => by rw [upd_ne (hm b _ q fun z => z)]; exact q, fun b u xs q => by rw [upd_ne (hm b _ q fun z => z)]; exact q, fun b ps q => ⟨#[], by rw [upd_ne (hm b _ q fun z => z), q]; simp⟩⟩
  by_cases hbe : b = e
  · subst hbe; exact heo
  · exact ⟨u, k b u hbe q⟩
theorem Un.mono (u : Un fs ex H H1 h h1) (hs : ∀ b ∈ fs, b ∈ fs') (hx : ∀ b ∈ ex, b ∈ ex') : Un fs' ex' H H1 h h1 :=
  ⟨fun b ob q n hb he => u.keep b ob q n (fun z => hb (hs b z)) fun z => he (hx b z), fun _ _ q n _ he => u.any q n fun z => he (hx _ z), fun b ob q n he => u.free b ob q n fun z => he (hx b z), fun b ob q he => u.there b ob q fun z => he (hx b z), u.tups, u.frzs, u.tbls⟩
end
def trk (h : Heap) (H : Hp) : List Addr := (List.range h.objs.size).filter fun a => (H a).isSome
def hidT (h : Heap) (H : Hp) : Heap := PySem.W.hideAll h (trk h H)
theorem hidT_size (h : Heap) (H : Hp) : (hidT h H).objs.size = h.objs.size := PySem.W.hideAll_size _ _
theorem hidT_get {h : Heap} {H : Hp} {b : Addr} {o : Obj} (e : h.get? b = some o) (n : H b = none) : (hidT h H).get? b = some o :=
  PySem.W.hideAll_get _ e fun hm => by
    have q : (H b).isSome = true := (List.mem_filter.mp hm).2
    rw [n] at q; simp at q
theorem of_hidT {h : Heap} {H : Hp} {b : Addr} {o : Obj} (e : (hidT h H).get? b = some o) : h.get? b = some o ∧ H b = none := by
  have e' : h.get? b = some o := PySem.W.of_hideAll (trk h H) e
  refine ⟨e', ?_⟩
  cases q : H b with
  | none => rfl
  | some x =>
    have hm : b ∈ trk h H := List.mem_filter.mpr ⟨List.mem_range.mpr (Heap.lt_size e'), by simp [q]⟩
    have z : (hidT h H).get? b = none := PySem.W.hideAll_none (trk h H) hm
    rw [z] at e; cases e
def allNews (g h : Heap) (L : Addr) : List (Addr × Obj) := (List.range h.objs.size).filterMap fun a => if a = L ∨ (g.get? a).isSome = true then none else (h.get? a).map fun o => (a, o)
def rest (g h : Heap) (L d : Addr) : List (Addr × Obj) := (allNews g h L).filter fun p => decide (p.1 ≠ d)
end L2
namespace L2
open PySem PySem.Spec PyProof.Rows
structure Mod (K : PySem.W.Frag) (mg : Str → Option Value) (base : Heap) : Prop where
  kin : K.In base
  glob : base.Ns mainGlobals mg
  blt : ∃ mb, base.Ns builtinsNs mb ∧ ∀ x : Str, x ≠ "__name__" → mb x = bootBuiltins x
  nolimit : base.NoLimit
structure Cx where
  prog : Program
  w : World
  K : PySem.W.Frag
  mg : Str → Option Value
  base : Heap
  A : Around
  N : List Str
  s_0 : Shared
  H_0 : Hp
  env : Env
  outer : List Env
  stack : List Env
  ex : List Addr
  fn : Str → Bool
  calm : Bool
  pn : List (Addr × Obj)
  xe : Value → Shared → Prop
def frs (l : List Env) : List Addr := l.filterMap (·.frame)
abbrev Cx.fs (X : Cx) : List Addr := frs X.outer
def Vis (sc : Scope) (x : Str) : Prop := sc.names.lookup x = some .local ∨ sc.names.lookup x = some .cell ∨ sc.names.lookup x = some .free
def Loc (sc : Scope) (x : Str) : Prop := sc.names.lookup x = some .local ∨ sc.names.lookup x = some .cell
def Look (env : Env) (h : Heap) (m : Str → Option Value) (x : Str) (u : Value) : Prop :=
  (env.kindOf x = some .local ∧ m x = some u) ∨ ((env.kindOf x = some .cell ∨ env.kindOf x = some .free) ∧ ∃ c, env.cells.lookup x = some c ∧ h.IsCell c (some u))
structure Cx.Ok (X : Cx) : Prop where
  mod : Mod X.K X.mg X.base
  kind : X.env.scope.kind = .function
  glob : X.env.globals = mainGlobals
  blt : X.env.builtins = builtinsNs
  above : X.s_0.heap.objs.size ≤ X.env.locals
  inj : ∀ x y c, X.env.cells.lookup x = some c → X.env.cells.lookup y = some c → x = y
  has : ∀ x, (X.env.kindOf x = some .cell ∨ X.env.kindOf x = some .free) → ∃ c, X.env.cells.lookup x = some c
  cab : ∀ x c, X.fn x = true → X.env.cells.lookup x = some c → X.s_0.heap.objs.size ≤ c
  hd : X.calm = true → X.A.handled = none
  frames : X.A.frames = some X.stack
  stk : X.stack = X.outer ∨ (X.stack = X.env :: X.outer ∧ X.env.frame = some X.env.locals)
  exf : ∀ b ∈ X.ex, b ≠ X.env.locals ∧ ∀ x c, X.env.cells.lookup x = some c → c ≠ b
  bs : ∀ b o, X.base.get? b = some o → X.s_0.heap.get? b = some o ∧ X.H_0 b = none
  bsz : X.base.objs.size ≤ X.s_0.heap.objs.size
  noex : ∀ b o, X.base.get? b = some o → b ∉ X.ex
  exfs : ∀ b ∈ X.ex, b ∉ X.fs
  funs : X.s_0.heap.FunFrames X.base X.outer
  frf : ∀ b ∈ X.fs, X.H_0 b = none
structure Inv (X : Cx) (pins : List (Addr × Obj)) (σ : List (Option V)) (H : Hp) (s : Shared) : Prop where
  ok : X.Ok
  os : s.os = X.s_0.os
  bare : AllBare s.gens
  base : Un X.fs X.ex X.H_0 H X.s_0.heap s.heap
  loc : ∃ m, s.heap.Ns X.env.locals m ∧ ∀ (i : Nat) (x : Str) (v : V), X.N[i]? = some x → σ[i]? = some (some v) → Vis X.env.scope x → ∃ u, RelV v u ∧ Look X.env s.heap m x u
  cell : ∀ x c, X.env.cells.lookup x = some c → ∃ v, s.heap.IsCell c v
  free : H X.env.locals = none
  freeC : ∀ x c, X.env.cells.lookup x = some c → H c = none
  pin : ∀ p ∈ X.pn ++ pins, s.heap.get? p.1 = some p.2 ∧ H p.1 = none ∧ p.1 ≠ X.env.locals ∧ p.1 ∉ X.fs ∧ ∀ v, p.2.data ≠ .cell v
  hok : HOk X.prog X.w H s.heap
  len : σ.length = X.N.length
section
variable {X : Cx} {pins : List (Addr × Obj)} {σ : List (Option V)} {H H' : Hp} {s : Shared} {h' : Heap}
theorem Cx.Ok.nofr (ok : X.Ok) {b : Addr} {o : Obj} (e : X.base.get? b = some o) : b ∉ X.fs := fun hb => by
  have := (ok.funs.mem hb).1
  rw [e] at this; cases this
theorem Inv.bs (I : Inv X pins σ H s) : ∀ b o, X.base.get? b = some o → s.heap.get? b = some o ∧ H b = none := fun b o e =>
  ⟨I.base.keep b o (I.ok.bs b o e).1 (I.ok.bs b o e).2 (I.ok.nofr e) (I.ok.noex b o e), I.base.free b o (I.ok.bs b o e).1 (I.ok.bs b o e).2 (I.ok.noex b o e)⟩
theorem Inv.bk (I : Inv X pins σ H s) : ∀ b o, X.base.get? b = some o → s.heap.get? b = some o := fun b o e => (I.bs b o e).1
theorem Inv.mod (I : Inv X pins σ H s) : Mod X.K X.mg X.base := I.ok.mod
theorem Inv.kIn (I : Inv X pins σ H s) : X.K.In s.heap := I.ok.mod.kin.keeps I.bk
theorem Inv.nolimit (I : Inv X pins σ H s) : s.heap.NoLimit := I.ok.mod.nolimit.keeps I.bk
theorem Inv.fr (I : Inv X pins σ H s) : ∃ m, Fr X.base X.env.locals s.heap m :=
  let ⟨m, hn, _⟩ := I.loc
  ⟨m, hn, I.bk, Nat.le_trans I.ok.bsz I.ok.above⟩
theorem Inv.lt (I : Inv X pins σ H s) : X.env.locals < s.heap.objs.size := let ⟨_, hn, _⟩ := I.loc; hn.lt
theorem Inv.sz (I : Inv X pins σ H s) : X.s_0.heap.objs.size ≤ s.heap.objs.size := Nat.le_trans I.ok.above (Nat.le_of_lt I.lt)
theorem Inv.nofs (I : Inv X pins σ H s) {a : Addr} (h : s.heap.objs.size ≤ a) : a ∉ X.fs := fun hb => by
  obtain ⟨_, o, ho, _⟩ := I.ok.funs.mem hb
  exact absurd (Nat.lt_of_lt_of_le (Heap.lt_size ho) (Nat.le_trans I.sz h)) (Nat.lt_irrefl _)
theorem Inv.cne (I : Inv X pins σ H s) : ∀ x c, X.env.cells.lookup x = some c → c ≠ X.env.locals := fun x c e z => by
  obtain ⟨v, o, ho, hd⟩ := I.cell x c e
  obtain ⟨m, ⟨o', es, ep, ho', hd', _⟩, _⟩ := I.loc
  rw [z, ho'] at ho; cases ho; rw [hd'] at hd; cases hd
theorem Inv.funs (I : Inv X pins σ H s) : s.heap.FunFrames X.base X.outer := by
  have all : ∀ (l : List Env), (∀ b ∈ frs l, b ∈ X.fs) → X.s_0.heap.FunFrames X.base l → s.heap.FunFrames X.base l := by
    intro l
    induction l with
    | nil => intro _ _; trivial
    | cons env r ih =>
      intro hs hl
      obtain ⟨hk, ⟨L, o, hf, hn, ho, hd⟩, hr⟩ := hl
      have hL : L ∈ X.fs := hs L (by unfold frs; rw [List.filterMap_cons, hf]; exact List.mem_cons_self)
      obtain ⟨sl, e⟩ := I.base.slot L o ho (I.ok.frf L hL) hL fun z => I.ok.exfs L z hL
      exact ⟨hk, ⟨L, _, hf, hn, e, hd⟩, ih (fun b hb => hs b (by unfold frs; rw [List.filterMap_cons, hf]; exact List.mem_cons_of_mem _ hb)) hr⟩
  exact all X.outer (fun _ hb => hb) I.ok.funs
theorem Inv.stack (I : Inv X pins σ H s) : s.heap.FunFrames X.base X.stack := by
  rcases I.ok.stk with e | ⟨e, hf⟩
  · rw [e]; exact I.funs
  · rw [e]
    obtain ⟨m, hn, _⟩ := I.loc
    refine .cons (by rw [I.ok.kind]; decide) hf hn ?_ I.funs
    exact Heap.get?_none_of_le (Nat.le_trans I.ok.bsz I.ok.above)
theorem Inv.stkSub (I : Inv X pins σ H s) : ∀ b ∈ frs X.stack, b ∈ X.env.locals :: X.fs := fun b hb => by
  rcases I.ok.stk with e | ⟨e, hf⟩
  · rw [e] at hb; exact List.mem_cons_of_mem _ hb
  · rw [e] at hb
    unfold frs at hb
    rw [List.filterMap_cons, hf] at hb
    exact hb
theorem Inv.stkFree (I : Inv X pins σ H s) : ∀ b ∈ frs X.stack, H b = none := fun b hb => by
  rcases List.mem_cons.mp (I.stkSub b hb) with e | hb
  · rw [e]; exact I.free
  · obtain ⟨_, o, ho, _⟩ := I.ok.funs.mem hb
    exact I.base.free b o ho (I.ok.frf b hb) fun z => I.ok.exfs b z hb
theorem Inv.step {g' : Array GenState} {t' : Nat} {d' : Drawn} {ch : List Addr} (I : Inv X pins σ H s)
    (hch : ∀ b ∈ ch, (b ∈ X.ex ∨ X.s_0.heap.objs.size ≤ b) ∧ b ≠ X.env.locals ∧ (∀ x c, X.env.cells.lookup x = some c → c ≠ b) ∧ ∀ p ∈ X.pn ++ pins, p.1 ≠ b)
    (keep : ∀ b o, b ≠ X.env.locals → b ∉ X.fs → b ∉ ch → s.heap.get? b = some o → H b = none → h'.get? b = some o)
    (slot : ∀ b o, b ≠ X.env.locals → b ∈ X.fs → b ∉ ch → s.heap.get? b = some o → H b = none → ∃ sl, h'.get? b = some { o with slots := sl }) (free : ∀ b o, b ∉ ch → s.heap.get? b = some o → H b = none → H' b = none)
    (there : ∀ b o, b ∉ ch → s.heap.get? b = some o → ∃ o', h'.get? b = some o')
    (tups : ∀ b xs, H b = some (.tup xs) → H' b = some (.tup xs)) (frzs : ∀ b o u, H b = some (.frz o u) → H' b = some (.frz o u)) (tbls : ∀ b ps, H b = some (.tbl ps) → ∃ more, H' b = some (.tbl (ps ++ more)))
    (ns : ∀ m, s.heap.Ns X.env.locals m → h'.Ns X.env.locals m) (hok : HOk X.prog X.w H' h') (hg : AllBare g') :
    Inv X pins σ H' { s with heap := h', gens := g', drawn := d', toks := t' } := by
  have neL : ∀ b o, X.s_0.heap.get? b = some o → b ≠ X.env.locals := fun b o e => Nat.ne_of_lt (Nat.lt_of_lt_of_le (Heap.lt_size e) I.ok.above)
  have neC : ∀ b o, X.s_0.heap.get? b = some o → b ∉ X.ex → b ∉ ch := fun b o e hx hb => by
    rcases (hch b hb).1 with z | z
    · exact hx z
    · exact absurd (Nat.lt_of_lt_of_le (Heap.lt_size e) z) (Nat.lt_irrefl _)
  have cellK : ∀ x c, X.env.cells.lookup x = some c → ∀ v, s.heap.IsCell c v → h'.IsCell c v := fun x c e v ⟨o, ho, hd⟩ => by
    have nch : c ∉ ch := fun z => (hch c z).2.2.1 x c e rfl
    by_cases hc : c ∈ X.fs
    · obtain ⟨sl, q⟩ := slot c o (I.cne x c e) hc nch ho (I.freeC x c e)
      exact ⟨_, q, hd⟩
    · exact ⟨o, keep c o (I.cne x c e) hc nch ho (I.freeC x c e), hd⟩
  refine ⟨I.ok, I.os, hg, ⟨fun b o e n hb hx => ?_, fun b o e n hb hx => ?_, fun b o e n hx => ?_, fun b o e hx => ?_, fun b xs e => tups b xs (I.base.tups b xs e), fun b o xs e => frzs b o xs (I.base.frzs b o xs e), fun b ps e => ?_⟩, ?_, fun x c e => ?_, ?_, fun x c e => ?_, fun p hp => ?_, hok, I.len⟩
  · exact keep b o (neL b o e) hb (neC b o e hx) (I.base.keep b o e n hb hx) (I.base.free b o e n hx)
  · obtain ⟨sl, e1⟩ := I.base.slot b o e n hb hx
    obtain ⟨sl', e2⟩ := slot b _ (neL b o e) hb (neC b o e hx) e1 (I.base.free b o e n hx)
    exact ⟨sl', e2⟩
  · obtain ⟨o', e1⟩ := I.base.there b o e hx
    exact free b o' (neC b o e hx) e1 (I.base.free b o e n hx)
  · obtain ⟨o', e1⟩ := I.base.there b o e hx
    exact there b o' (neC b o e hx) e1
  · obtain ⟨m1, e1⟩ := I.base.tbls b ps e
    obtain ⟨m2, e2⟩ := tbls b _ e1
    exact ⟨m1 ++ m2, by rw [e2, Array.append_assoc]⟩
  · obtain ⟨m, hn, hl⟩ := I.loc
    refine ⟨m, ns m hn, fun i x v e1 e2 e3 => ?_⟩
    obtain ⟨u, r, l⟩ := hl i x v e1 e2 e3
    refine ⟨u, r, ?_⟩
    rcases l with l | ⟨k, c, e, z⟩
    · exact .inl l
    · exact .inr ⟨k, c, e, cellK x c e _ z⟩
  · obtain ⟨v, z⟩ := I.cell x c e
    exact ⟨v, cellK x c e v z⟩
  · obtain ⟨m, ⟨o, _, _, ho, _⟩, _⟩ := I.loc
    exact free _ o (fun z => (hch _ z).2.1 rfl) ho I.free
  · obtain ⟨v, o, ho, hd⟩ := I.cell x c e
    exact free c o (fun z => (hch c z).2.2.1 x c e rfl) ho (I.freeC x c e)
  · obtain ⟨e, n, ne, nf, d⟩ := I.pin p hp
    have nch : p.1 ∉ ch := fun z => (hch p.1 z).2.2.2 p hp rfl
    exact ⟨keep p.1 p.2 ne nf nch e n, free p.1 p.2 nch e n, ne, nf, d⟩
theorem Inv.un {t' : Nat} (I : Inv X pins σ H s) (u : Un X.fs [] H H' s.heap h') (hok : HOk X.prog X.w H' h') : Inv X pins σ H' { s with heap := h', toks := t' } := by
  obtain ⟨m, ⟨o, es, ep, ho, r⟩, _⟩ := id I.loc
  obtain ⟨sl, hL⟩ := u.any ho I.free (by simp)
  exact I.step (g' := s.gens) (d' := s.drawn) (ch := []) (fun _ z => nomatch z) (fun b o _ hb _ e n => u.keep b o e n hb (by simp)) (fun b o _ hb _ e n => u.slot b o e n hb (by simp)) (fun b o _ e n => u.free b o e n (by simp)) (fun b o _ e => u.there b o e (by simp)) u.tups u.frzs u.tbls (fun m' hm => by
    obtain ⟨o', es', ep', ho', r'⟩ := hm
    rw [ho] at ho'; cases ho'
    exact ⟨_, es', ep', hL, r'⟩) hok I.bare
theorem Inv.call {g' : Array GenState} {t' : Nat} {d' : Drawn} {ch : List Addr} (I : Inv X pins σ H s) (u : Un (frs X.stack) ch H H' s.heap h') (hok : HOk X.prog X.w H' h') (hg : AllBare g')
    (hch : ∀ b ∈ ch, (b ∈ X.ex ∨ X.s_0.heap.objs.size ≤ b) ∧ b ≠ X.env.locals ∧ (∀ x c, X.env.cells.lookup x = some c → c ≠ b) ∧ ∀ p ∈ X.pn ++ pins, p.1 ≠ b) :
    Inv X pins σ H' { s with heap := h', gens := g', drawn := d', toks := t' } := by
  obtain ⟨m, ⟨o, es, ep, ho, r⟩, _⟩ := id I.loc
  obtain ⟨sl, hL⟩ := u.any ho I.free fun z => (hch _ z).2.1 rfl
  exact I.step (ch := ch) hch (fun b o hL hb hc e n => u.keep b o e n (fun z => (List.mem_cons.mp (I.stkSub b z)).elim hL hb) hc) (fun b o _ _ hc e n => u.any e n hc) (fun b o hc e n => u.free b o e n hc) (fun b o hc e => u.there b o e hc) u.tups u.frzs u.tbls (fun m' hm => by
    obtain ⟨o', es', ep', ho', r'⟩ := hm
    rw [ho] at ho'; cases ho'
    exact ⟨_, es', ep', hL, r'⟩) hok hg
theorem Inv.turned {t' : Nat} {it : Addr} (I : Inv X pins σ H s) (k : ∀ b o, b ≠ it → s.heap.get? b = some o → h'.get? b = some o) (hn : H it = none) (hL : it ≠ X.env.locals)
    (h1 : it ∈ X.ex ∨ X.s_0.heap.objs.size ≤ it) (h2 : ∀ x c, X.env.cells.lookup x = some c → c ≠ it) (h3 : ∀ p ∈ X.pn ++ pins, p.1 ≠ it) : Inv X pins σ H { s with heap := h', toks := t' } := by
  have nit : ∀ b u, H b = some u → b ≠ it := fun b u e z => by rw [z, hn] at e; cases e
  refine I.step (g' := s.gens) (d' := s.drawn) (ch := [it]) (fun b hb => ?_) (fun b o _ _ hc e _ => k b o (fun z => hc (by simp [z])) e) (fun b o _ _ hc e _ => ⟨o.slots, k b o (fun z => hc (by simp [z])) e⟩) (fun _ _ _ _ n => n)
    (fun b o hc e => ⟨o, k b o (fun z => hc (by simp [z])) e⟩) (fun _ _ e => e) (fun _ _ _ e => e) (fun b ps e => ⟨#[], by rw [e]; simp⟩) (fun m hm => ?_) (fun b u e => ?_) I.bare
  · have e : b = it := by simpa using hb
    subst e
    exact ⟨h1, hL, h2, h3⟩
  · obtain ⟨o, es, ep, ho, r⟩ := hm
    exact ⟨o, es, ep, k _ o (Ne.symm hL) ho, r⟩
  · refine (I.hok b u e).stay (fun c v hc q => k c v ?_ q) (fun _ q => q) fun _ _ q => q
    rcases hc with z | z
    · rw [z]; exact nit b u e
    · exact nit c _ z
theorem Inv.tok (I : Inv X pins σ H s) (t : Nat) : Inv X pins σ H { s with toks := t } := I.un (h' := s.heap) (t' := t) Un.refl I.hok
theorem Inv.kept {t' : Nat} (I : Inv X pins σ H s) (k : ∀ b u, s.heap.get? b = some u → h'.get? b = some u) : Inv X pins σ H { s with heap := h', toks := t' } := I.un (Un.kept k) (I.hok.kept k)
theorem Inv.laid {a : Addr} {o : HO} {t' : Nat} (I : Inv X pins σ H s) (k : ∀ b u, s.heap.get? b = some u → h'.get? b = some u) (hp : s.heap.objs.size ≤ a) (new : ObjOk X.prog X.w (upd H a o) h' a o) :
    Inv X pins σ (upd H a o) { s with heap := h', toks := t' } := I.un (Un.laid k hp (I.hok.fresh hp)) (I.hok.laid k hp new)
theorem Inv.write {x e : Addr} {o : HO} {t' : Nat} (I : Inv X pins σ H s) (mu : Mut (H x)) (he : e = x ∨ H e = some (.own x)) (k : ∀ b u, b ≠ e → s.heap.get? b = some u → h'.get? b = some u) (heo : ∃ u, h'.get? e = some u)
    (new : ObjOk X.prog X.w (upd H x o) h' x o) : Inv X pins σ (upd H x o) { s with heap := h', toks := t' } := I.un (Un.write mu he k heo) (I.hok.write mu he k heo new)
theorem Inv.weak {σ' : List (Option V)} (I : Inv X pins σ H s) (hl : σ'.length = σ.length) (w : ∀ (i : Nat) v, σ'[i]? = some (some v) → σ[i]? = some (some v)) : Inv X pins σ' H s :=
  ⟨I.ok, I.os, I.bare, I.base, let ⟨m, hn, hl'⟩ := I.loc; ⟨m, hn, fun i x v e1 e2 e3 => hl' i x v e1 (w i v e2) e3⟩, I.cell, I.free, I.freeC, I.pin, I.hok, hl.trans I.len⟩
theorem Inv.pins_of {pins' : List (Addr × Obj)} (I : Inv X pins σ H s) (h : ∀ p ∈ pins', s.heap.get? p.1 = some p.2 ∧ H p.1 = none ∧ p.1 ≠ X.env.locals ∧ p.1 ∉ X.fs ∧ ∀ v, p.2.data ≠ .cell v) : Inv X pins' σ H s :=
  ⟨I.ok, I.os, I.bare, I.base, I.loc, I.cell, I.free, I.freeC, fun p hp => (List.mem_append.mp hp).elim (fun z => I.pin p (List.mem_append_left _ z)) (h p), I.hok, I.len⟩
theorem nodup_ix {N : List Str} (hN : N.Nodup) {i j : Nat} {x : Str} (a : N[i]? = some x) (b : N[j]? = some x) : i = j := by
  obtain ⟨h1, e1⟩ := List.getElem?_eq_some_iff.mp a
  obtain ⟨h2, e2⟩ := List.getElem?_eq_some_iff.mp b
  exact (List.getElem_inj hN).mp (e1.trans e2.symm)
theorem store_ok2 {M : Model} {A : Around} {E : Value → Shared → Prop} {i : Nat} {x : Str} {v : V} {u : Value} {Q : Unit → Shared → Prop} (I : Inv X pins σ H s) (hN : X.N.Nodup) (hi : X.N[i]? = some x) (hx : Loc X.env.scope x) (r : RelV v u)
    (h : ∀ s', Inv X pins (σ.set i (some v)) H s' → (∃ a, Heap.SameBut a s.heap s'.heap ∧ (a = X.env.locals ∨ X.env.cells.lookup x = some a)) → Q () s') (hf : X.fn x = true ∨ X.env.scope.names.lookup x = some .local := by first | exact .inl rfl | exact .inr rfl | assumption) : wpAny M A (storeName X.env x u) Q E s := by
  obtain ⟨m, hn, hl⟩ := id I.loc
  have hcls : (X.env.scope.kind == .class || (X.env.scope.kind == .module && X.env.locals != X.env.globals)) = false := by rw [I.ok.kind]; rfl
  have hiσ : i < σ.length := by rw [I.len]; exact (List.getElem?_eq_some_iff.mp hi).1
  have cne := I.cne
  have tracked : ∀ {a : Addr} {h' : Heap}, (∃ o, s.heap.get? a = some o ∧ H a = none) → Heap.SameBut a s.heap h' → HOk X.prog X.w H h' := fun {a h'} ha hs b ob e => by
    obtain ⟨_, _, hfree⟩ := ha
    refine (I.hok b ob e).stay (fun c w' hc q => (hs.2 c ?_).trans q) (fun _ q => q) fun _ _ q => q
    rintro rfl
    rcases hc with rfl | hc
    · rw [hfree] at e; cases e
    · rw [hfree] at hc; cases hc
  rcases hx with hk | hk
  · refine wpAny_storeName_local hk hn (fun h' hn' hs => ?_) hcls
    obtain ⟨oL, _, _, hoL, _⟩ := id hn
    refine h _ ⟨I.ok, I.os, I.bare, ⟨fun b o e n hb hx => ?_, fun b o e n hb hx => ?_, I.base.free, fun b o e hx => ?_, I.base.tups, I.base.frzs, I.base.tbls⟩, ⟨_, hn', fun j y v' e1 e2 e3 => ?_⟩, fun y c e => ?_, I.free, I.freeC, fun p hp => ?_, tracked ⟨oL, hoL, I.free⟩ hs, by simpa using I.len⟩ ⟨_, hs, .inl rfl⟩
    · exact (hs.2 b (Nat.ne_of_lt (Nat.lt_of_lt_of_le (Heap.lt_size e) I.ok.above))).trans (I.base.keep b o e n hb hx)
    · obtain ⟨sl, e1⟩ := I.base.slot b o e n hb hx
      exact ⟨sl, (hs.2 b (Nat.ne_of_lt (Nat.lt_of_lt_of_le (Heap.lt_size e) I.ok.above))).trans e1⟩
    · obtain ⟨o', e1⟩ := I.base.there b o e hx
      exact ⟨o', (hs.2 b (Nat.ne_of_lt (Nat.lt_of_lt_of_le (Heap.lt_size e) I.ok.above))).trans e1⟩
    · by_cases hj : j = i
      · subst hj
        rw [hi] at e1; cases e1
        rw [List.getElem?_set_self hiσ] at e2
        cases e2
        exact ⟨u, r, .inl ⟨hk, by simp⟩⟩
      · rw [List.getElem?_set_ne (Ne.symm hj)] at e2
        obtain ⟨u', r', q⟩ := hl j y v' e1 e2 e3
        refine ⟨u', r', ?_⟩
        rcases q with ⟨k, e⟩ | ⟨k, c, e, z⟩
        · refine .inl ⟨k, ?_⟩
          have : y ≠ x := fun e => hj (nodup_ix hN e1 (e ▸ hi))
          simp [this, e]
        · exact .inr ⟨k, c, e, z.sameBut hs (cne y c e)⟩
    · obtain ⟨w', z⟩ := I.cell y c e
      exact ⟨w', z.sameBut hs (cne y c e)⟩
    · obtain ⟨e, n, ne, nf, d⟩ := I.pin p hp
      exact ⟨(hs.2 p.1 ne).trans e, n, ne, nf, d⟩
  · have hfn : X.fn x = true := by
      rcases hf with z | z
      · exact z
      · rw [z] at hk; cases hk
    obtain ⟨c, hc⟩ := I.ok.has x (.inl hk)
    obtain ⟨w', z⟩ := I.cell x c hc
    refine wpAny_storeName_cell I.ok.kind hk hc z (fun h' hc' hs => ?_)
    obtain ⟨oc, hoc, hocd⟩ := id z
    refine h { s with heap := h' } ⟨I.ok, I.os, I.bare, ⟨fun b o e n hb hx => ?_, fun b o e n hb hx => ?_, I.base.free, fun b o e hx => ?_, I.base.tups, I.base.frzs, I.base.tbls⟩, ⟨m, hn.sameBut hs (Ne.symm (cne x c hc)), fun j y v' e1 e2 e3 => ?_⟩, fun y c' e => ?_, I.free, I.freeC, fun p hp => ?_, tracked ⟨oc, hoc, I.freeC x c hc⟩ hs, by simpa using I.len⟩ ⟨c, hs, .inr hc⟩
    · exact (hs.2 b (Nat.ne_of_lt (Nat.lt_of_lt_of_le (Heap.lt_size e) (I.ok.cab x c hfn hc)))).trans (I.base.keep b o e n hb hx)
    · obtain ⟨sl, e1⟩ := I.base.slot b o e n hb hx
      exact ⟨sl, (hs.2 b (Nat.ne_of_lt (Nat.lt_of_lt_of_le (Heap.lt_size e) (I.ok.cab x c hfn hc)))).trans e1⟩
    · obtain ⟨o', e1⟩ := I.base.there b o e hx
      exact ⟨o', (hs.2 b (Nat.ne_of_lt (Nat.lt_of_lt_of_le (Heap.lt_size e) (I.ok.cab x c hfn hc)))).trans e1⟩
    · by_cases hj : j = i
      · subst hj
        rw [hi] at e1; cases e1
        rw [List.getElem?_set_self hiσ] at e2
        cases e2
        exact ⟨u, r, .inr ⟨.inl hk, c, hc, hc'⟩⟩
      · rw [List.getElem?_set_ne (Ne.symm hj)] at e2
        obtain ⟨u', r', q⟩ := hl j y v' e1 e2 e3
        refine ⟨u', r', ?_⟩
        rcases q with q | ⟨k, c', e, z'⟩
        · exact .inl q
        · refine .inr ⟨k, c', e, z'.sameBut hs ?_⟩
          rintro rfl
          exact hj (nodup_ix hN e1 (I.ok.inj _ _ _ e hc ▸ hi))
    · by_cases hcc : c' = c
      · subst hcc; exact ⟨_, hc'⟩
      · obtain ⟨w2, z2⟩ := I.cell y c' e
        exact ⟨w2, z2.sameBut hs hcc⟩
    · obtain ⟨e, n, ne, nf, d⟩ := I.pin p hp
      refine ⟨(hs.2 p.1 ?_).trans e, n, ne, nf, d⟩
      intro q
      rw [q, hoc] at e
      have q' : oc = p.2 := Option.some.inj e
      exact d w' (by rw [← q']; exact hocd)
theorem store_ok {M : Model} {A : Around} {E : Value → Shared → Prop} {i : Nat} {x : Str} {v : V} {u : Value} {Q : Unit → Shared → Prop} (I : Inv X pins σ H s) (hN : X.N.Nodup) (hi : X.N[i]? = some x) (hx : Loc X.env.scope x) (r : RelV v u)
    (h : ∀ s', Inv X pins (σ.set i (some v)) H s' → Q () s') (hf : X.fn x = true ∨ X.env.scope.names.lookup x = some .local := by first | exact .inl rfl | exact .inr rfl | assumption) : wpAny M A (storeName X.env x u) Q E s :=
  store_ok2 I hN hi hx r (fun s' I' _ => h s' I') hf
theorem Inv.call' {s' : Shared} {ch : List Addr} (I : Inv X pins σ H s) (ho : s'.os = s.os) (u : Un (frs X.stack) ch H H' s.heap s'.heap) (hok : HOk X.prog X.w H' s'.heap) (hg : AllBare s'.gens)
    (hch : ∀ b ∈ ch, (b ∈ X.ex ∨ X.s_0.heap.objs.size ≤ b) ∧ b ≠ X.env.locals ∧ (∀ x c, X.env.cells.lookup x = some c → c ≠ b) ∧ ∀ p ∈ X.pn ++ pins, p.1 ≠ b) : Inv X pins σ H' s' := by
  obtain ⟨h', g', d', t', o'⟩ := s'
  have e : o' = s.os := ho
  subst e
  exact I.call (g' := g') (t' := t') (d' := d') u hok hg hch
end
abbrev XK := Value → Option Addr → Hp → Prop
abbrev St := List (Option V)
abbrev VK := V → Hp → Prop
abbrev TE := St → Hp → VK → Prop
abbrev TT := St → Hp → (Bool → Hp → Prop) → Prop
abbrev TA := St → Hp → (List V → Hp → Prop) → Prop
structure Ends where
  nx : St → Hp → Prop
  rt : VK
  bk : St → Hp → Prop := fun _ _ => False
  ct : St → Hp → Prop := fun _ _ => False
abbrev TS := Ends → St → Hp → Prop
def EP (X : Cx) (pins : List (Addr × Obj)) (σ : St) (Q : VK) (u : Value) (s' : Shared) : Prop := ∃ v H', Inv X pins σ H' s' ∧ RelV v u ∧ Q v H'
def TP (X : Cx) (pins : List (Addr × Obj)) (σ : St) (Q : Bool → Hp → Prop) (b : Bool) (s' : Shared) : Prop := ∃ H', Inv X pins σ H' s' ∧ Q b H'
def AP (X : Cx) (pins : List (Addr × Obj)) (σ : St) (Q : List V → Hp → Prop) (us : List Value) (s' : Shared) : Prop := ∃ vs H', Inv X pins σ H' s' ∧ Vals vs us ∧ Q vs H'
def SP (X : Cx) (pins : List (Addr × Obj)) (D : Ends) (f : Flow) (s' : Shared) : Prop :=
  match f with
  | .next => ∃ σ' H', Inv X pins σ' H' s' ∧ D.nx σ' H'
  | .brk => ∃ σ' H', Inv X pins σ' H' s' ∧ D.bk σ' H'
  | .cont => ∃ σ' H', Inv X pins σ' H' s' ∧ D.ct σ' H'
  | .ret u => ∃ v σ' H', Inv X pins σ' H' s' ∧ RelV v u ∧ D.rt v H'
def PE (X : Cx) (e : Expr) (t : TE) : Prop :=
  ∀ (pins : List (Addr × Obj)) (s : Shared) (σ : St) (H : Hp) (Q : VK), Inv X pins σ H s → t σ H Q → wpAny (model X.prog X.w) X.A (eval e X.env) (EP X pins σ Q) X.xe s
def PT (X : Cx) (e : Expr) (t : TT) : Prop :=
  ∀ (pins : List (Addr × Obj)) (s : Shared) (σ : St) (H : Hp) (Q : Bool → Hp → Prop), Inv X pins σ H s → t σ H Q → wpAny (model X.prog X.w) X.A (isTrue e X.env (eval e X.env)) (TP X pins σ Q) X.xe s
def PW (X : Cx) (e : Expr) (t : TT) : Prop :=
  ∀ (whole : Sem Value) (pins : List (Addr × Obj)) (s : Shared) (σ : St) (H : Hp) (Q : Bool → Hp → Prop), Inv X pins σ H s → t σ H Q → wpAny (model X.prog X.w) X.A (isTrue e X.env whole) (TP X pins σ Q) X.xe s
theorem PW.pt {X : Cx} {e : Expr} {t : TT} (h : PW X e t) : PT X e t := h _
def PA (X : Cx) (es : List Expr) (t : TA) : Prop :=
  ∀ (pos : Pos) (pins : List (Addr × Obj)) (s : Shared) (σ : St) (H : Hp) (Q : List V → Hp → Prop), Inv X pins σ H s → t σ H Q → wpAny (model X.prog X.w) X.A (spliced (backTo pos (starEach es X.env))) (AP X pins σ Q) X.xe s
def PS (X : Cx) (st : Stmt) (t : TS) : Prop :=
  ∀ (pins : List (Addr × Obj)) (s : Shared) (σ : St) (H : Hp) (D : Ends), Inv X pins σ H s → t D σ H → wpAny (model X.prog X.w) X.A (exec st X.env) (SP X pins D) X.xe s
def PSs (X : Cx) (st : List Stmt) (t : TS) : Prop :=
  ∀ (pins : List (Addr × Obj)) (s : Shared) (σ : St) (H : Hp) (D : Ends), Inv X pins σ H s → t D σ H → wpAny (model X.prog X.w) X.A (execs st X.env) (SP X pins D) X.xe s
theorem thn {α : Type} {t : Sem α} {Q Q' : α → Shared → Prop} {M : Model} {A : Around} {E : Value → Shared → Prop} {s : Shared} (h : wpAny M A t Q E s) (hQ : ∀ a s, Q a s → Q' a s) : wpAny M A t Q' E s := wpAny_mono h hQ fun _ _ x => x
end L2
namespace L2
open PySem PySem.Spec PyProof.Rows
section
variable {X : Cx}
def tVar (i : Nat) : TE := fun σ H Q => ∃ v, σ[i]? = some (some v) ∧ Q v H
def tC (v : V) : TE := fun _ H Q => Q v H
theorem pe_var {i : Nat} {x : Str} {pos : Pos} (hN : X.N[i]? = some x) (hv : Vis X.env.scope x) (hd : (x == ("__debug__" : Str)) = false := by decide) (hcd : (x == ("__classdict__" : Str)) = false := by decide) : PE X (.Name x pos) (tVar i) := by
  intro pins s σ H Q I h
  obtain ⟨v, e, h⟩ := h
  obtain ⟨m, hn, hl⟩ := I.loc
  obtain ⟨u, r, l⟩ := hl i x v hN e hv
  have fin : EP X pins σ Q u s := ⟨v, H, I, r, h⟩
  rcases l with ⟨hk, hm⟩ | ⟨hk, c, hc, hcell⟩
  · exact wpAny_Name (wpAny_loadName_local I.ok.kind hk hn hm fin) hd
  · rcases hk with hk | hk
    · exact wpAny_Name (wpAny_loadName_cell I.ok.kind hk hc hcell fin) hd
    · exact wpAny_Name (wpAny_loadName_free I.ok.kind hk hc hcell fin hcd) hd
theorem pe_int {i j pos} : PE X (.Constant (.int i) j pos) (tC (.int i)) := fun _ _ _ H _ I h => wpAny_Constant_int ⟨.int i, H, I.tok _, ⟨_, rfl⟩, h⟩
theorem pe_bl {b j pos} : PE X (.Constant (.bool b) j pos) (tC (.bl b)) := fun _ _ _ H _ I h => Constant_bool ⟨.bl b, H, I, rfl, h⟩
theorem pe_non {j pos} : PE X (.Constant .none j pos) (tC .non) := fun _ _ _ H _ I h => Constant_none ⟨.non, H, I, rfl, h⟩
theorem pe_str {x j pos} : PE X (.Constant (.str x) j pos) (tC (.str x)) := fun _ _ _ H _ I h => Calls.Constant_str ⟨.str x, H, I.tok _, ⟨_, rfl⟩, h⟩
def Gl (X : Cx) (x : Str) : Prop := X.env.kindOf x = some .globalImplicit
theorem ld_glob {E : Value → Shared → Prop} {pins : List (Addr × Obj)} {s : Shared} {σ : St} {H : Hp} {x : Str} {u : Value} {pos : Pos} {Q : Value → Shared → Prop} (I : Inv X pins σ H s) (hg : Gl X x) (hm : X.mg x = some u) (h : Q u s)
    (hd : (x == ("__debug__" : Str)) = false := by decide) : wpAny (model X.prog X.w) X.A (eval (.Name x pos) X.env) Q E s :=
  Calls.Name_function_global I.ok.kind hg (Calls.loadGlobal_global (by rw [I.ok.glob]; exact I.mod.glob.keeps I.bk) hm h) hd
theorem ld_blt {E : Value → Shared → Prop} {pins : List (Addr × Obj)} {s : Shared} {σ : St} {H : Hp} {x : Str} {u : Value} {pos : Pos} {Q : Value → Shared → Prop} (I : Inv X pins σ H s) (hg : Gl X x) (hm : X.mg x = none) (hv : bootBuiltins x = some u) (h : Q u s)
    (hn : x ≠ "__name__" := by decide) (hd : (x == ("__debug__" : Str)) = false := by decide) : wpAny (model X.prog X.w) X.A (eval (.Name x pos) X.env) Q E s := by
  obtain ⟨mb, h1, h2⟩ := I.mod.blt
  exact Calls.Name_function_global I.ok.kind hg (Calls.loadGlobal_builtin (by rw [I.ok.glob]; exact I.mod.glob.keeps I.bk) hm (by rw [I.ok.blt]; exact h1.keeps I.bk) ((h2 x hn).trans hv) h) hd
theorem pe_glob {x : Str} {v : V} {u : Value} {pos : Pos} (hg : Gl X x) (hm : X.mg x = some u) (r : RelV v u) (hd : (x == ("__debug__" : Str)) = false := by decide) : PE X (.Name x pos) (tC v) :=
  fun _ _ _ H _ I h => ld_glob I hg hm ⟨v, H, I, r, h⟩ hd
theorem pe_bltn {x : Str} {v : V} {u : Value} {pos : Pos} (hg : Gl X x) (hm : X.mg x = none) (hv : bootBuiltins x = some u) (r : RelV v u) (hn : x ≠ "__name__" := by decide) (hd : (x == ("__debug__" : Str)) = false := by decide) : PE X (.Name x pos) (tC v) :=
  fun _ _ _ H _ I h => ld_blt I hg hm hv ⟨v, H, I, r, h⟩ hn hd
def t2I (ta tb : TE) (k : Int → Int → Hp → Prop) : St → Hp → Prop := fun σ H => ta σ H fun x H1 => tb σ H1 fun y H2 => ∃ i j, x = .int i ∧ y = .int j ∧ k i j H2
def tAdd (ta tb : TE) : TE := fun σ H Q => t2I ta tb (fun i j H2 => Q (.int (i + j)) H2) σ H
def tSub (ta tb : TE) : TE := fun σ H Q => t2I ta tb (fun i j H2 => Q (.int (i - j)) H2) σ H
def tMul (ta tb : TE) : TE := fun σ H Q => t2I ta tb (fun i j H2 => (-(2 ^ 64) < i ∧ i < 2 ^ 64) ∧ Q (.int (i * j)) H2) σ H
variable {a b : Expr} {ta tb : TE} {pos : Pos}
def PC (X : Cx) (op : CmpOp) (a b : Expr) (t : TE) : Prop :=
  ∀ (pins : List (Addr × Obj)) (s : Shared) (σ : St) (H : Hp) (Q : VK), Inv X pins σ H s → t σ H Q →
    wpAny (model X.prog X.w) X.A (eval a X.env) (fun v s₁ => wpAny (model X.prog X.w) X.A (eval b X.env) (fun u s₂ => wpAny (model X.prog X.w) X.A (compareOp op v u) (EP X pins σ Q) X.xe s₂) X.xe s₁) X.xe s
theorem nobehind (b : Expr) {op : CmpOp} (h : op ≠ .In) (h2 : op ≠ .NotIn) : behindInMarks op b = false := by
  have e1 : (op == CmpOp.In) = false := by cases op <;> first | rfl | exact absurd rfl h
  have e2 : (op == CmpOp.NotIn) = false := by cases op <;> first | rfl | exact absurd rfl h2
  cases b <;> simp [behindInMarks, e1, e2]
def tCmp (p : Int → Int → Bool) (ta tb : TE) : TE := fun σ H Q => t2I ta tb (fun i j H2 => Q (.bl (p i j)) H2) σ H
abbrev tLt : TE → TE → TE := tCmp fun i j => decide (i < j)
abbrev tLe : TE → TE → TE := tCmp fun i j => decide (i ≤ j)
abbrev tGt : TE → TE → TE := tCmp fun i j => decide (j < i)
abbrev tGe : TE → TE → TE := tCmp fun i j => decide (j ≤ i)
abbrev tEqI : TE → TE → TE := tCmp fun i j => decide (i = j)
abbrev tNeI : TE → TE → TE := tCmp fun i j => !decide (i = j)
def tIsN (ta : TE) : TE := fun σ H Q => ta σ H fun x H1 => Q (.bl (decide (x = .non))) H1
def tNotN (ta : TE) : TE := fun σ H Q => ta σ H fun x H1 => Q (.bl (!decide (x = .non))) H1
def tB (t : TE) : TT := fun σ H Q => t σ H fun x H1 => ∃ c, x = .bl c ∧ Q c H1
theorem pt_cmp {op : CmpOp} {t : TE} (h : PC X op a b t) (h1 : behindInMarks op b = false := by first | exact nobehind _ (by decide) (by decide) | rfl) : PT X (.Compare a [op] [b] pos) (tB t) := by
  intro pins s σ H Q I hw
  refine wpAny_isTrue_Compare1 (thn (h pins s σ H _ I hw) fun v s1 h1 => thn h1 fun u s2 h2 => thn h2 fun c s3 ⟨x, H1, I1, r1, q1⟩ => ?_) h1
  obtain ⟨d, rfl, q⟩ := q1
  cases r1
  exact wpAny_truthy_bool ⟨H1, I1, q⟩
theorem pt_val {e : Expr} {t : TE} (h : PE X e t) (he : ∀ whole, isTrue e X.env whole = (do let v ← whole; standAt e.pos; holding [v] (truthy v)) := by intro _; rfl) : PT X e (tB t) := by
  intro pins s σ H Q I hw
  refine isTrue_plain (thn (h pins s σ H _ I hw) fun v s1 ⟨x, H1, I1, r1, q1⟩ => ?_) (he _)
  obtain ⟨d, rfl, q⟩ := q1
  cases r1
  exact wpAny_truthy_bool ⟨H1, I1, q⟩
variable {tA tB' : TT} {rest : List Expr}
def tAnd (t u : TT) : TT := fun σ H Q => t σ H fun c H1 => if c = true then u σ H1 Q else Q false H1
def tOr (t u : TT) : TT := fun σ H Q => t σ H fun c H1 => if c = true then Q true H1 else u σ H1 Q
def tNot (t : TT) : TT := fun σ H Q => t σ H fun c H1 => Q (!c) H1
theorem pw_and1 (ha : PT X a tA) : PW X (.BoolOp .And [a] pos) tA := by
  intro wh pins s σ H Q I h
  refine isTrue_and (thn (ha pins s σ H Q I h) fun c s1 e => ?_)
  cases c with
  | true => exact isTrue_and_nil e
  | false => exact e
theorem pw_or1 (ha : PT X a tA) : PW X (.BoolOp .Or [a] pos) tA := by
  intro wh pins s σ H Q I h
  refine isTrue_or (thn (ha pins s σ H Q I h) fun c s1 e => ?_)
  cases c with
  | false => exact isTrue_or_nil e
  | true => exact e
theorem pw_and (ha : PT X a tA) (hb : PW X (.BoolOp .And (b :: rest) pos) tB') : PW X (.BoolOp .And (a :: b :: rest) pos) (tAnd tA tB') := by
  intro wh pins s σ H Q I h
  refine isTrue_and (thn (ha pins s σ H _ I h) fun c s1 ⟨H1, I1, q1⟩ => ?_)
  cases c with
  | true => exact hb wh pins s1 σ H1 Q I1 q1
  | false => exact ⟨H1, I1, q1⟩
theorem pw_or (ha : PT X a tA) (hb : PW X (.BoolOp .Or (b :: rest) pos) tB') : PW X (.BoolOp .Or (a :: b :: rest) pos) (tOr tA tB') := by
  intro wh pins s σ H Q I h
  refine isTrue_or (thn (ha pins s σ H _ I h) fun c s1 ⟨H1, I1, q1⟩ => ?_)
  cases c with
  | true => exact ⟨H1, I1, q1⟩
  | false => exact hb wh pins s1 σ H1 Q I1 q1
theorem pt_not (ha : PT X a tA) : PT X (.UnaryOp .Not a pos) (tNot tA) := by
  intro pins s σ H Q I h
  exact isTrue_not (ha pins s σ H (fun c H1 => Q (!c) H1) I h)
def tAndV (ta tb : TE) : TE := fun σ H Q => ta σ H fun x H1 => ∃ c, x = .bl c ∧ if c = true then tb σ H1 Q else Q (.bl false) H1
def tOrV (ta tb : TE) : TE := fun σ H Q => ta σ H fun x H1 => ∃ c, x = .bl c ∧ if c = true then Q (.bl true) H1 else tb σ H1 Q
def tNotV (ta : TE) : TE := fun σ H Q => ta σ H fun x H1 => ∃ c, x = .bl c ∧ Q (.bl (!c)) H1
theorem pe_one {op} {t : TE} (h : PE X a t) : PE X (.BoolOp op [a] pos) t := fun pins s σ H Q I hw => BoolOp_one (h pins s σ H Q I hw)
theorem pe_and (ha : PE X a ta) (hb : PE X (.BoolOp .And (b :: rest) pos) tb) : PE X (.BoolOp .And (a :: b :: rest) pos) (tAndV ta tb) := by
  intro pins s σ H Q I h
  refine BoolOp_and (thn (ha pins s σ H _ I h) fun v s1 ⟨x, H1, I1, r1, q1⟩ => ?_)
  obtain ⟨c, rfl, q1⟩ := q1
  cases r1
  refine wpAny_truthy_bool ?_
  cases c with
  | true => exact hb pins s1 σ H1 Q I1 q1
  | false => exact ⟨.bl false, H1, I1, rfl, q1⟩
def tIf (t : TT) (ta tb : TE) : TE := fun σ H Q => t σ H fun c H1 => if c = true then ta σ H1 Q else tb σ H1 Q
end
end L2
namespace L2
open PySem PySem.Spec PyProof.Rows
def SqL (K : PySem.W.Frag) (H : Hp) (a : Addr) (xs : List V) : Prop :=
  Rd H a (.lst xs) ∨
    ∃ (o : Obj) (its : Array Value) (n : Nat), K.lookup a = some o ∧ o.cls = .type "list" ∧ o.dict = none ∧ o.data = .seq its n ∧ its.size ≤ sizeLine ∧ Vals xs its.toList
def SqT (K : PySem.W.Frag) (H : Hp) (a : Addr) (xs : List V) : Prop :=
  Rd H a (.tup xs) ∨
    ∃ (o : Obj) (its : Array Value) (n : Nat), K.lookup a = some o ∧ o.cls = .type "tuple" ∧ o.data = .seq its n ∧ its.size ≤ sizeLine ∧ Vals xs its.toList
def absV : Value → Option V
  | .none => some .non
  | .bool b => some (.bl b)
  | .int i _ => some (.int i)
  | .str x _ => some (.str x)
  | .bytes b _ => some (.byt b)
  | .float b _ => some (.flt b)
  | .ref a => some (.ref a)
  | .type n => some (.ty n)
  | _ => none
theorem RelV.abs {x : V} {u : Value} (r : RelV x u) : absV u = some x := by
  cases x with
  | non => cases r; rfl
  | bl _ => cases r; rfl
  | int _ => obtain ⟨t, rfl⟩ := r; rfl
  | str _ => obtain ⟨t, rfl⟩ := r; rfl
  | byt _ => obtain ⟨t, rfl⟩ := r; rfl
  | flt _ => obtain ⟨t, rfl⟩ := r; rfl
  | ref _ => cases r; rfl
  | ty _ => cases r; rfl
theorem RelV.inj {x y : V} {u : Value} (r : RelV x u) (q : RelV y u) : x = y := Option.some.inj (r.abs.symm.trans q.abs)
theorem Vals.inj : ∀ {xs ys : List V} {us : List Value}, Vals xs us → Vals ys us → xs = ys
  | _, _, _, .nil, .nil => rfl
  | _, _, _, .cons r t, .cons r' t' => by rw [r.inj r', Vals.inj t t']
section
variable {X : Cx} {pins : List (Addr × Obj)} {σ : St} {H : Hp} {s : Shared} {a : Addr} {xs ys : List V}
theorem SqL.of {K : PySem.W.Frag} (h : H a = some (.lst xs)) : SqL K H a xs := .inl (.inl h)
theorem SqT.of {K : PySem.W.Frag} (h : H a = some (.tup xs)) : SqT K H a xs := .inl (.inl h)
theorem Inv.list (I : Inv X pins σ H s) (h : SqL X.K H a xs) : ∃ its : List Value, Vals xs its ∧ PlainL s.heap a its.toArray ∧ xs.length ≤ sizeLine := by
  rcases h with h | ⟨o, its, n, hk, hc, hd, hs, hz, r⟩
  · obtain ⟨z, its, n, r, e⟩ := h.ok I.hok
    exact ⟨its, r, ⟨_, n, e, rfl, rfl, rfl⟩, z⟩
  · refine ⟨its.toList, r, ⟨o, n, I.kIn a o hk, hc, hd, by simpa using hs⟩, ?_⟩
    have e := r.length
    simp only [Array.length_toList] at e
    omega
theorem Inv.tuple (I : Inv X pins σ H s) (h : SqT X.K H a xs) : ∃ its : List Value, Vals xs its ∧ IsTup s.heap a its.toArray ∧ xs.length ≤ sizeLine := by
  rcases h with h | ⟨o, its, n, hk, hc, hs, hz, r⟩
  · obtain ⟨z, its, r, p⟩ := h.ok I.hok
    exact ⟨its, r, p, z⟩
  · refine ⟨its.toList, r, ⟨o, I.kIn a o hk, hc, n, by simpa using hs⟩, ?_⟩
    have e := r.length
    simp only [Array.length_toList] at e
    omega
theorem Inv.list_inj (I : Inv X pins σ H s) (h : SqL X.K H a xs) (h' : SqL X.K H a ys) : xs = ys := by
  obtain ⟨its, r, ⟨o, n, e, _, _, d⟩, _⟩ := I.list h
  obtain ⟨its', r', ⟨o', n', e', _, _, d'⟩, _⟩ := I.list h'
  rw [e] at e'; cases e'
  rw [d] at d'
  injection d' with d1 _
  have : its = its' := by simpa using congrArg Array.toList d1
  subst this
  exact r.inj r'
end
abbrev Cx.wish (X : Cx) (E : Value → Shared → Prop) : Cx := { X with xe := E }
abbrev Cx.nox (X : Cx) : Cx := X.wish fun _ _ => False
theorem Cx.Ok.wish {X : Cx} (ok : X.Ok) (E : Value → Shared → Prop) : (X.wish E).Ok :=
  ⟨ok.mod, ok.kind, ok.glob, ok.blt, ok.above, ok.inj, ok.has, ok.cab, ok.hd, ok.frames, ok.stk, ok.exf, ok.bs, ok.bsz, ok.noex, ok.exfs, ok.funs, ok.frf⟩
theorem Cx.Ok.unwish {X : Cx} {E : Value → Shared → Prop} (ok : (X.wish E).Ok) : X.Ok :=
  ⟨ok.mod, ok.kind, ok.glob, ok.blt, ok.above, ok.inj, ok.has, ok.cab, ok.hd, ok.frames, ok.stk, ok.exf, ok.bs, ok.bsz, ok.noex, ok.exfs, ok.funs, ok.frf⟩
section
variable {X : Cx} {pins : List (Addr × Obj)} {σ : St} {H : Hp} {s : Shared} {E : Value → Shared → Prop}
theorem Inv.wish (I : Inv X pins σ H s) (E : Value → Shared → Prop) : Inv (X.wish E) pins σ H s := ⟨I.ok.wish E, I.os, I.bare, I.base, I.loc, I.cell, I.free, I.freeC, I.pin, I.hok, I.len⟩
theorem Inv.unwish (I : Inv (X.wish E) pins σ H s) : Inv X pins σ H s := ⟨I.ok.unwish, I.os, I.bare, I.base, I.loc, I.cell, I.free, I.freeC, I.pin, I.hok, I.len⟩
theorem SP.unwish {D : Ends} {f : Flow} {s' : Shared} (h : SP (X.wish E) pins D f s') : SP X pins D f s' := by
  cases f with
  | next => obtain ⟨σ', H', I, q⟩ := h; exact ⟨σ', H', I.unwish, q⟩
  | brk => obtain ⟨σ', H', I, q⟩ := h; exact ⟨σ', H', I.unwish, q⟩
  | cont => obtain ⟨σ', H', I, q⟩ := h; exact ⟨σ', H', I.unwish, q⟩
  | ret u => obtain ⟨v, σ', H', I, r, q⟩ := h; exact ⟨v, σ', H', I.unwish, r, q⟩
theorem PE.nox {e : Expr} {t : TE} (h : PE X.nox e t) : PE X e t := fun pins s σ H Q I hw =>
  wpAny_mono (h pins s σ H Q (I.wish _) hw) (fun _ _ ⟨v, H', I', r, q⟩ => ⟨v, H', I'.unwish, r, q⟩) fun _ _ z => False.elim z
theorem PT.nox {e : Expr} {t : TT} (h : PT X.nox e t) : PT X e t := fun pins s σ H Q I hw =>
  wpAny_mono (h pins s σ H Q (I.wish _) hw) (fun _ _ ⟨H', I', q⟩ => ⟨H', I'.unwish, q⟩) fun _ _ z => False.elim z
theorem PSs.nox {st : List Stmt} {t : TS} (h : PSs X.nox st t) : PSs X st t := fun pins s σ H D I hw =>
  wpAny_mono (h pins s σ H D (I.wish _) hw) (fun _ _ q => q.unwish) fun _ _ z => False.elim z
end
section
variable {X : Cx} {st : Stmt} {rest : List Stmt} {t u : TS} {e : Expr} {te : TE} {pos : Pos}
def tNext : TS := fun D σ H => D.nx σ H
def tSeq (t u : TS) : TS := fun D σ H => t { D with nx := u D } σ H
theorem pss_nil : PSs X [] tNext := fun _ _ σ H _ I h => wpAny_execs_nil ⟨σ, H, I, h⟩
theorem pss_cons (h1 : PS X st t) (h2 : PSs X rest u) : PSs X (st :: rest) (tSeq t u) := by
  intro pins s σ H D I h
  refine wpAny_execs_cons (thn (h1 pins s σ H { D with nx := u D } I h) fun f s1 q => ?_)
  cases f with
  | next =>
    obtain ⟨σ', H', I', q⟩ := q
    exact h2 pins s1 σ' H' D I' q
  | ret v => exact q
  | brk => exact q
  | cont => exact q
theorem pss_one (h1 : PS X st t) : PSs X [st] t := by
  intro pins s σ H D I h
  refine wpAny_execs_cons (thn (h1 pins s σ H D I h) fun f s1 q => ?_)
  cases f with
  | next => exact wpAny_execs_nil q
  | ret v => exact q
  | brk => exact q
  | cont => exact q
def tBreak : TS := fun D σ H => D.bk σ H
def tCont : TS := fun D σ H => D.ct σ H
theorem Inv.quiet {pins : List (Addr × Obj)} {σ : St} {H : Hp} {s : Shared} (I : Inv X pins σ H s) : interactive X.env = false := by simp [interactive, I.ok.kind]
def tDrop (te : TE) : TS := fun D σ H => te σ H fun _ H1 => D.nx σ H1
theorem ps_expr (he : PE X e te) (hs : swapsWith e none pos.line X.env = pure false := by rfl) : PS X (.Expr e pos) (tDrop te) := by
  intro pins s σ H D I h
  exact wpAny_Expr_any (thn (he pins s σ H _ I h) fun v s1 ⟨x, H1, I1, r1, q1⟩ => ⟨σ, H1, I1, q1⟩) I.quiet hs
def tRet (te : TE) : TS := fun D σ H => te σ H D.rt
theorem ps_ret (he : PE X e te) : PS X (.Return (some e) pos) (tRet te) := by
  intro pins s σ H D I h
  exact wpAny_Return_some (thn (he pins s σ H _ I h) fun v s1 ⟨x, H1, I1, r1, q1⟩ => ⟨x, σ, H1, I1, r1, q1⟩)
def tRetN : TS := fun D _ H => D.rt .non H
def tIfS (c : TT) (t u : TS) : TS := fun D σ H => c σ H fun b H1 => if b = true then t D σ H1 else u D σ H1
theorem ps_if {c : Expr} {a b : List Stmt} {tc : TT} (hc : PT X c tc) (ha : PSs X a t) (hb : PSs X b u) : PS X (.If c a b pos) (tIfS tc t u) := by
  intro pins s σ H D I h
  refine wpAny_If (thn (hc pins s σ H _ I h) fun d s1 ⟨H1, I1, q1⟩ => ?_)
  cases d with
  | true => exact ha pins s1 σ H1 D I1 q1
  | false => exact hb pins s1 σ H1 D I1 q1
def tNever : TS := fun _ _ _ => False
theorem ps_never : PS X st tNever := fun _ _ _ _ _ _ h => h.elim
theorem pss_never {sts : List Stmt} : PSs X sts tNever := fun _ _ _ _ _ _ h => h.elim
end
abbrev TG := V → St → Hp → (St → Hp → Prop) → Prop
abbrev TGs := List V → St → Hp → (St → Hp → Prop) → Prop
def PG (X : Cx) (target : Expr) (t : TG) : Prop :=
  ∀ (pins : List (Addr × Obj)) (s : Shared) (σ : St) (H : Hp) (v : V) (u : Value) (Q : St → Hp → Prop), Inv X pins σ H s → RelV v u → t v σ H Q →
    wpAny (model X.prog X.w) X.A (assign target X.env u) (fun _ s' => ∃ σ' H', Inv X pins σ' H' s' ∧ Q σ' H') X.xe s
def PGs (X : Cx) (ts : List Expr) (t : TGs) : Prop :=
  ∀ (pins : List (Addr × Obj)) (s : Shared) (σ : St) (H : Hp) (vs : List V) (us : List Value) (Q : St → Hp → Prop), Inv X pins σ H s → Vals vs us → t vs σ H Q →
    wpAny (model X.prog X.w) X.A (assignInOrder ((assignEach ts X.env).map (·.2)) us) (fun _ s' => ∃ σ' H', Inv X pins σ' H' s' ∧ Q σ' H') X.xe s
abbrev TSet := V → V → V → Hp → (Hp → Prop) → Prop
def PSet (X : Cx) (t : TSet) : Prop :=
  ∀ (pins : List (Addr × Obj)) (s : Shared) (σ : St) (H : Hp) (o i v : V) (ov iv u : Value) (Q : Hp → Prop), Inv X pins σ H s → RelV o ov → RelV i iv → RelV v u → t o i v H Q →
    wpAny (model X.prog X.w) X.A (setItem ov iv u) (fun _ s' => ∃ H', Inv X pins σ H' s' ∧ Q H') X.xe s
abbrev TIp := V → V → Hp → VK → Prop
def PIp (X : Cx) (op : Operator) (t : TIp) : Prop :=
  ∀ (pins : List (Addr × Obj)) (s : Shared) (σ : St) (H : Hp) (x y : V) (v u : Value) (Q : VK), Inv X pins σ H s → RelV x v → RelV y u → t x y H Q →
    wpAny (model X.prog X.w) X.A (inplaceOp op v u) (EP X pins σ Q) X.xe s
section
variable {X : Cx} {pos : Pos}
def gName (i : Nat) : TG := fun v σ H Q => Q (σ.set i (some v)) H
theorem pg_name {i : Nat} {x : Str} (hN : X.N.Nodup) (hi : X.N[i]? = some x) (hx : Loc X.env.scope x) (hf : X.fn x = true ∨ X.env.scope.names.lookup x = some .local := by first | exact .inl rfl | exact .inr rfl | assumption) : PG X (.Name x pos) (gName i) := by
  intro pins s σ H v u Q I r h
  exact wpAny_assign_Name (store_ok I hN hi hx r (fun s' I' => ⟨_, H, I', h⟩) hf)
def gNil : TGs := fun vs σ H Q => vs = [] ∧ Q σ H
def gCons (t : TG) (u : TGs) : TGs := fun vs σ H Q => ∃ v r, vs = v :: r ∧ t v σ H fun σ' H' => u r σ' H' Q
theorem pgs_nil : PGs X [] gNil := by
  intro pins s σ H vs us Q I r h
  obtain ⟨e, h⟩ := h
  subst e
  cases r
  exact assignInOrder_nil ⟨σ, H, I, h⟩
theorem pgs_cons {e : Expr} {es : List Expr} {t : TG} {u : TGs} (h1 : PG X e t) (h2 : PGs X es u)
    (hs : (assignEach (e :: es) X.env).map (·.2) = assign e X.env :: (assignEach es X.env).map (·.2) := by rfl) : PGs X (e :: es) (gCons t u) := by
  intro pins s σ H vs us Q I r h
  obtain ⟨v, vr, e1, h⟩ := h
  subst e1
  cases r with
  | cons r rr =>
    rw [hs]
    refine assignInOrder_cons (thn (h1 pins s σ H _ _ _ I r h) fun _ s1 ⟨σ1, H1, I1, q1⟩ => ?_)
    exact h2 pins s1 σ1 H1 _ _ Q I1 rr q1
def gTup (K : PySem.W.Frag) (n : Nat) (t : TGs) : TG := fun v σ H Q => ∃ a xs, v = .ref a ∧ SqT K H a xs ∧ xs.length = n ∧ t xs σ H Q
theorem pg_tup {es : List Expr} {k : Nat} {t : TGs} {n : Nat} (hc : X.calm = true) (h : PGs X es t)
    (hn : (assignEach es X.env).length = n := by rfl) (hst : (assignEach es X.env).findIdx? (·.1) = none := by rfl) : PG X (.Tuple es k pos) (gTup X.K n t) := by
  intro pins s σ H v u Q I r hw
  obtain ⟨a, xs, e1, hq, hl, hw⟩ := hw
  subst e1
  cases r
  obtain ⟨its, rv, ht, hz⟩ := I.tuple hq
  refine assign_Tuple_tuple (I.ok.hd hc) ht (by simp [hn, ← hl, rv.length]) hst fun h' hx => ?_
  have I1 : Inv X pins σ H { s with heap := h' } := I.kept (t' := s.toks) fun b o e => hx b o (Nat.ne_of_lt (Heap.lt_size e)) e
  exact h pins _ σ H xs _ Q I1 (by simpa using rv) hw
def gSub (to ti : TE) (t : TSet) : TG := fun v σ H Q => to σ H fun o H1 => ti σ H1 fun i H2 => t o i v H2 fun H3 => Q σ H3
theorem pg_sub {o i : Expr} {to ti : TE} {t : TSet} (ho : PE X o to) (hi : PE X i ti) (hs : PSet X t)
    (ha : ∀ v, assign (.Subscript o i pos) X.env v = (do
      let ov ← holding [v] (eval o X.env)
      let iv ← holding [v, ov] (eval i X.env)
      standAt pos
      holding [v, ov, iv] (setItem ov iv v)
      release [v, ov, iv] []) := by intro _; rfl) : PG X (.Subscript o i pos) (gSub to ti t) := by
  intro pins s σ H v u Q I r h
  rw [ha]
  refine wpAny_bind (wpAny_holding (thn (ho pins s σ H _ I h) fun ov s1 ⟨x, H1, I1, r1, q1⟩ => ?_))
  refine wpAny_bind (wpAny_holding (thn (hi pins s1 σ H1 _ I1 q1) fun iv s2 ⟨y, H2, I2, r2, q2⟩ => ?_))
  refine wpAny_bind (wpAny_standAt (wpAny_bind (wpAny_holding (thn (hs pins s2 σ H2 x y v ov iv u _ I2 r1 r2 r q2) fun _ s3 ⟨H3, I3, q3⟩ => ?_))))
  exact wpAny_release ⟨σ, H3, I3, q3⟩
def tAsg (te : TE) (g : TG) : TS := fun D σ H => te σ H fun x H1 => g x σ H1 D.nx
theorem ps_asg {tg e : Expr} {te : TE} {g : TG} (he : PE X e te) (hg : PG X tg g) (hs : swapsWithSole [tg] e pos.line X.env = pure false := by rfl) (hw : swappedStores [tg] e X.env = pure none := by rfl)
    (h1 : (assignEach [tg] X.env).map (·.2) = [assign tg X.env] := by rfl) : PS X (.Assign [tg] e pos) (tAsg te g) := by
  intro pins s σ H D I h
  refine wpAny_Assign_stores (thn (he pins s σ H _ I h) fun v s1 ⟨x, H1, I1, r1, q1⟩ => ?_) hs hw
  rw [h1]
  exact thn (hg pins s1 σ H1 x v _ I1 r1 q1) fun _ s2 q => q
def tPar (i j : Nat) (ta : TA) : TS := fun D σ H => ta σ H fun vs H1 => ∃ v w, vs = [v, w] ∧ D.nx ((σ.set i (some v)).set j (some w)) H1
def tAug (i : Nat) (te : TE) (ti : TIp) : TS := fun D σ H => ∃ x, σ[i]? = some (some x) ∧ te σ H fun y H1 => ti x y H1 fun z H2 => D.nx (σ.set i (some z)) H2
def tAugS (to ti te : TE) (tget : V → V → Hp → VK → Prop) (tip : TIp) (tset : TSet) : TS := fun D σ H => to σ H fun o H1 => ti σ H1 fun i H2 => tget o i H2 fun x H3 => te σ H3 fun y H4 => tip x y H4 fun z H5 => tset o i z H5 fun H6 => D.nx σ H6
def PGet (X : Cx) (t : V → V → Hp → VK → Prop) : Prop :=
  ∀ (pins : List (Addr × Obj)) (s : Shared) (σ : St) (H : Hp) (o i : V) (ov iv : Value) (Q : VK), Inv X pins σ H s → RelV o ov → RelV i iv → t o i H Q →
    wpAny (model X.prog X.w) X.A (getItem ov iv) (EP X pins σ Q) X.xe s
def ipI (f : Int → Int → Int) : TIp := fun x y H Q => ∃ i j, x = .int i ∧ y = .int j ∧ Q (.int (f i j)) H
end
section
variable {X : Cx} {pos : Pos}
def tWhile (c : TT) (tb : TS) : TS := fun D σ H => ∃ W : Nat → St → Hp → Prop, (∃ m, W m σ H) ∧ ∀ m σ H, W m σ H →
  c σ H fun b H1 => if b = true then ∃ N : St → Hp → Prop, (∀ σ' H', N σ' H' → ∃ m', m' < m ∧ W m' σ' H') ∧ tb { D with nx := N, ct := N, bk := D.nx } σ H1 else D.nx σ H1
theorem ps_while {c : Expr} {body : List Stmt} {tc : TT} {tb : TS} (hp : PassesOwn (model X.prog X.w) X.A X.env X.xe) (hc : PT X c tc) (hb : PSs X body tb) : PS X (.While c body [] pos) (tWhile tc tb) := by
  intro pins s σ H D I h
  obtain ⟨W, ⟨m0, w0⟩, turn⟩ := h
  refine wpAny_While (codeAny_whileLoop (fun n s' => ∃ σ' H', Inv X pins σ' H' s' ∧ W n σ' H') ?_ m0 ⟨σ, H, I, w0⟩)
  rintro n s1 ⟨σ1, H1, I1, w1⟩
  refine wpAny_passesOwn hp (thn (hc pins s1 σ1 H1 _ I1 (turn n σ1 H1 w1)) fun b s2 ⟨H2, I2, q2⟩ => ?_)
  cases b with
  | true =>
    obtain ⟨N, hN, q2⟩ := q2
    rw [if_pos rfl]
    refine wpAny_passesOwn hp (thn (hb pins s2 σ1 H2 _ I2 q2) fun f s3 q3 => ?_)
    cases f with
    | next =>
      obtain ⟨σ3, H3, I3, n3⟩ := q3
      obtain ⟨m', hm, w3⟩ := hN σ3 H3 n3
      exact ⟨m', hm, σ3, H3, I3, w3⟩
    | cont =>
      obtain ⟨σ3, H3, I3, n3⟩ := q3
      obtain ⟨m', hm, w3⟩ := hN σ3 H3 n3
      exact ⟨m', hm, σ3, H3, I3, w3⟩
    | brk => exact q3
    | ret v => exact q3
  | false =>
    rw [if_neg Bool.false_ne_true]
    exact wpAny_execs_nil ⟨σ1, H2, I2, q2⟩
end
structure It where
  go : Nat → Hp → Prop
  yld : Nat → Hp → V → Hp → Prop
  stop : Nat → Hp → Prop
def FpOk (X : Cx) (pins : List (Addr × Obj)) (H : Hp) (b : Addr) : Prop :=
  H b = none ∧ b ≠ X.env.locals ∧ b ∉ X.fs ∧ (b ∈ X.ex ∨ X.s_0.heap.objs.size ≤ b) ∧ (∀ x c, X.env.cells.lookup x = some c → c ≠ b) ∧ ∀ p ∈ X.pn ++ pins, p.1 ≠ b
theorem Inv.fpOk {X : Cx} {pins : List (Addr × Obj)} {σ : St} {H H' : Hp} {s : Shared} {b : Addr} (I : Inv X pins σ H s) (hb : s.heap.objs.size ≤ b) (hn : H' b = none) : FpOk X pins H' b := by
  refine ⟨hn, Nat.ne_of_gt (Nat.lt_of_lt_of_le I.lt hb), I.nofs hb, .inr (Nat.le_trans I.sz hb), fun x c e z => ?_, fun p hp z => ?_⟩
  · obtain ⟨v, q⟩ := I.cell x c e
    exact absurd (Nat.lt_of_lt_of_le q.lt (by rw [z]; exact hb)) (Nat.lt_irrefl _)
  · exact absurd (Nat.lt_of_lt_of_le (Heap.lt_size (I.pin p hp).1) (by rw [z]; exact hb)) (Nat.lt_irrefl _)
structure Turn (P : Program) (w : World) (K : PySem.W.Frag) (tg : Expr) (J : It) (fp : List Addr) (it : Addr) (tn : Nat → Heap → Prop) : Prop where
  mem : it ∈ fp
  obj : ∀ i h, tn i h → ∀ b ∈ fp, ∃ o, h.get? b = some o ∧ ∀ v, o.data ≠ .cell v
  keep : ∀ i h h', tn i h → (∀ b ∈ fp, ∀ o, h.get? b = some o → h'.get? b = some o) → tn i h'
  item : ∀ (X : Cx), X.prog = P → X.w = w → X.K = K → X.calm = true → ∀ (i : Nat) (pins : List (Addr × Obj)) (s : Shared) (σ : St) (H : Hp) (E : Value → Shared → Prop), Inv X pins σ H s → (∀ b ∈ fp, FpOk X pins H b) → tn i s.heap → J.go i H →
    wpAny (model P w) X.A (pyNext (.ref it)) (fun r s1 => ∃ u, r = some u ∧
      wpAny (model P w) X.A (letOwnedTupleGo tg (.ref it) u) (fun _ s2 => ∃ x H', Inv X pins σ H' s2 ∧ RelV x u ∧ J.yld i H x H' ∧ tn (i + 1) s2.heap ∧ ∀ b ∈ fp, H' b = none) E s1) E s
  done : ∀ (X : Cx), X.prog = P → X.w = w → X.K = K → X.calm = true → ∀ (i : Nat) (pins : List (Addr × Obj)) (s : Shared) (σ : St) (H : Hp) (E : Value → Shared → Prop), Inv X pins σ H s → (∀ b ∈ fp, FpOk X pins H b) → tn i s.heap → J.stop i H →
    wpAny (model P w) X.A (pyNext (.ref it)) (fun r s1 => r = none ∧ Inv X pins σ H s1) E s
  self : ∀ (A : Around) (i : Nat) (s : Shared) (Q : Value → Shared → Prop) (E : Value → Shared → Prop), tn i s.heap → Q (.ref it) s → wpAny (model P w) A (pyIter (.ref it)) Q E s
abbrev TI := St → Hp → (It → Hp → Prop) → Prop
def PIE (X : Cx) (pins : List (Addr × Obj)) (σ : St) (tg : Expr) (R : It → Hp → Prop) (itv : Value) (s2 : Shared) : Prop :=
  ∃ (it : Addr) (fp : List Addr) (tn : Nat → Heap → Prop) (J : It) (H' : Hp), itv = .ref it ∧ Inv X pins σ H' s2 ∧ Turn X.prog X.w X.K tg J fp it tn ∧ tn 0 s2.heap ∧ (∀ b ∈ fp, FpOk X pins H' b) ∧ R J H'
def PI (X : Cx) (tg iter : Expr) (wi : TI) : Prop :=
  ∀ (pins : List (Addr × Obj)) (s : Shared) (σ : St) (H : Hp) (R : It → Hp → Prop), Inv X pins σ H s → wi σ H R →
    wpAny (model X.prog X.w) X.A (eval iter X.env) (fun v s1 => wpAny (model X.prog X.w) X.A (pyIter v) (PIE X pins σ tg R) X.xe s1) X.xe s
theorem go_of {M : Model} {A : Around} {E : Value → Shared → Prop} {s : Shared} {tg : Expr} {it : Addr} {u : Value} {o : Obj} {n : String} {vs : Array Value} {Q : Unit → Shared → Prop} (ho : s.heap.get? it = some o) (hc : o.cls = .type n) (hd : o.data = .fields vs)
    (hn : ["enumerate", "zip", "dict_itemiterator", "dict_reverseitemiterator", "odict_iterator", "itertools.zip_longest", "itertools.pairwise"].contains n = false) (hQ : Q () s) : wpAny M A (letOwnedTupleGo tg (.ref it) u) Q E s := by
  unfold letOwnedTupleGo
  cases tg <;> first
    | exact wpAny_pure hQ
    | (cases u <;> first
        | exact wpAny_pure hQ
        | (refine wpAny_bind (wpAny_load ho ?_)
           rw [hc, hd]
           show wpAny M A (if (["enumerate", "zip", "dict_itemiterator", "dict_reverseitemiterator", "odict_iterator", "itertools.zip_longest", "itertools.pairwise"].contains n && vs[0]? == some (rawInt _)) = true then _ else _) Q E s
           rw [if_neg (by intro h; rw [hn, Bool.false_and] at h; cases h)]
           exact wpAny_pure hQ))
def Itl (K : PySem.W.Frag) (a : Addr) : It :=
  ⟨fun i H => ∃ xs x, SqL K H a xs ∧ xs[i]? = some x, fun i H x H' => H' = H ∧ ∀ xs, SqL K H a xs → xs[i]? = some x, fun i H => ∃ xs, SqL K H a xs ∧ xs.length ≤ i⟩
def Itt (K : PySem.W.Frag) (a : Addr) : It :=
  ⟨fun i H => ∃ xs x, SqT K H a xs ∧ xs[i]? = some x, fun i H x H' => H' = H ∧ ∀ xs, SqT K H a xs → xs[i]? = some x, fun i H => ∃ xs, SqT K H a xs ∧ xs.length ≤ i⟩
def Itr (lo : Int) (n : Nat) : It := ⟨fun i _ => i < n, fun i H x H' => H' = H ∧ x = .int (lo + i), fun i _ => n ≤ i⟩
theorem turn_list {P : Program} {w : World} {K : PySem.W.Frag} {tg : Expr} (a it : Addr) : Turn P w K tg (Itl K a) [it] it (fun i h => h.IsListIter it a i) where
  mem := by simp
  obj := fun i h st b hb => by
    have e : b = it := by simpa using hb
    subst e
    obtain ⟨o, e, c, d⟩ := st
    exact ⟨o, e, fun v z => by rw [d] at z; cases z⟩
  keep := fun i h h' st k => st.at fun o e => k it (by simp) o e
  item := by
    intro X hP hw hK hc i pins s σ H E I hf st hg
    subst hP hw hK
    obtain ⟨xs, x, hq, hx⟩ := hg
    obtain ⟨its, rv, p, hz⟩ := I.list hq
    obtain ⟨u, hu, ru⟩ := rv.get hx
    obtain ⟨f0, f1, f2, f3, f4, f5⟩ := hf it (by simp)
    refine wpAny_pyNext_list_item st p.isList (x := u) (by simpa using hu) fun h' st' sb => ?_
    have I1 : Inv X pins σ H { s with heap := h' } := I.turned (t' := s.toks) (fun b o hb e => (sb.2 b hb).trans e) f0 f1 f3 f4 f5
    obtain ⟨o, e, c, d⟩ := id st'
    exact ⟨u, rfl, go_of (s := { s with heap := h' }) e c d (by decide) ⟨x, H, I1, ru, ⟨rfl, fun ys hy => by rw [I.list_inj hy hq]; exact hx⟩, st', fun b hb => (hf b hb).1⟩⟩
  done := by
    intro X hP hw hK hc i pins s σ H E I hf st hg
    subst hP hw hK
    obtain ⟨xs, hq, hx⟩ := hg
    obtain ⟨its, rv, p, hz⟩ := I.list hq
    obtain ⟨f0, f1, f2, f3, f4, f5⟩ := hf it (by simp)
    have hl := rv.length
    exact wpAny_pyNext_list_end (I.ok.hd hc) st p.isList (by simp; omega) fun h' eb => ⟨rfl, I.turned (t' := s.toks) (fun b o hb e => eb b o hb e) f0 f1 f3 f4 f5⟩
  self := fun _ _ _ _ _ st h => wpAny_pyIter_listiter st h
theorem turn_range {P : Program} {w : World} {K : PySem.W.Frag} {tg : Expr} (it : Addr) (lo : Int) (n : Nat) : Turn P w K tg (Itr lo n) [it] it (fun i h => IsRangeIter h it (lo + (i : Nat) * 1) ((n : Int) - (i : Nat)) 1) where
  mem := by simp
  obj := fun i h st b hb => by
    have e : b = it := by simpa using hb
    subst e
    exact ⟨_, st, fun v z => by
      have z' : Data.fields _ = Data.cell v := z
      cases z'⟩
  keep := fun i h h' st k => k it (by simp) _ st
  item := by
    intro X hP hw hK hc i pins s σ H E I hf st hg
    subst hP hw hK
    obtain ⟨f0, f1, f2, f3, f4, f5⟩ := hf it (by simp)
    have W := Walks.range (prog := X.prog) (w := X.w) (I.ok.hd hc) it lo 1 n
    refine W.item i s _ _ hg st fun v h' tk hv st' kk => ?_
    obtain ⟨t, rfl⟩ := hv
    have I1 : Inv X pins σ H { s with heap := h', toks := tk } := I.turned (fun b o hb e => kk b o (by simpa using hb) e) f0 f1 f3 f4 f5
    refine ⟨_, rfl, go_of (s := { s with heap := h', toks := tk }) (n := "range_iterator") st' rfl rfl (by decide) ⟨.int (lo + i), H, I1, ⟨t, ?_⟩, ⟨rfl, rfl⟩, st', fun b hb => (hf b hb).1⟩⟩
    rw [Int.mul_one]
  done := by
    intro X hP hw hK hc i pins s σ H E I hf st hg
    subst hP hw hK
    obtain ⟨f0, f1, f2, f3, f4, f5⟩ := hf it (by simp)
    exact wpAny_pyNext_range_end (I.ok.hd hc) st (by have : n ≤ i := hg; omega) fun h' eb => ⟨rfl, I.turned (t' := s.toks) (fun b o hb e => eb b o hb e) f0 f1 f3 f4 f5⟩
  self := fun _ _ _ _ _ st h => wpAny_pyIter_rangeiter st h
end L2
namespace L2
open PySem PySem.Spec PyProof.Rows
section
variable {X : Cx} {tg : Expr}
def iList (K : PySem.W.Frag) (tl : TE) : TI := fun σ H R => tl σ H fun x H1 => ∃ a, x = .ref a ∧ (∃ xs, SqL K H1 a xs) ∧ R (Itl K a) H1
def iTup (K : PySem.W.Frag) (tl : TE) : TI := fun σ H R => tl σ H fun x H1 => ∃ a, x = .ref a ∧ (∃ xs, SqT K H1 a xs) ∧ R (Itt K a) H1
theorem pi_list {l : Expr} {tl : TE} (hl : PE X l tl) : PI X tg l (iList X.K tl) := by
  intro pins s σ H R I h
  refine thn (hl pins s σ H _ I h) fun v s1 ⟨x, H1, I1, r1, q1⟩ => ?_
  obtain ⟨a, e, ⟨xs, hq⟩, q⟩ := q1
  subst e
  cases r1
  obtain ⟨its, rv, p, hz⟩ := I1.list hq
  refine wpAny_pyIter_list p.isList ?_
  refine ⟨s1.heap.objs.size, [s1.heap.objs.size], _, _, H1, rfl, I1.kept (t' := s1.toks) fun b o e => Heap.get?_push_of_some _ e, turn_list a _, ⟨_, Heap.get?_push_size _ rfl, rfl, rfl⟩, fun b hb => ?_, q⟩
  have e : b = s1.heap.objs.size := by simpa using hb
  subst e
  exact I1.fpOk (Nat.le_refl _) (I1.hok.fresh (Nat.le_refl _))
theorem range_it {pins : List (Addr × Obj)} {σ : St} {H : Hp} {s : Shared} {R : It → Hp → Prop} {E : Value → Shared → Prop} {lo hi : Int} {t u v : Tok} {tk : Nat} (I : Inv X pins σ H s) (h1 : -(2 ^ 62) ≤ lo) (h2 : lo < 2 ^ 62) (h3 : -(2 ^ 62) ≤ hi) (h4 : hi < 2 ^ 62)
    (q : R (Itr lo (hi - lo).toNat) H) : wpAny (model X.prog X.w) X.A (pyIter (.ref s.heap.objs.size)) (PIE X pins σ tg R) E { s with heap := s.heap.push { cls := .type "range", data := .fields #[.int lo t, .int hi u, .int 1 v] }, toks := tk } := by
  refine wpAny_pyIter_range (IsRange.new ..) (small_one h1 h2 h3 h4) ?_
  have I1 : Inv X pins σ H { s with heap := s.heap.push { cls := .type "range", data := .fields #[.int lo t, .int hi u, .int 1 v] }, toks := tk } := I.kept fun b o e => Heap.get?_push_of_some _ e
  refine ⟨(s.heap.push { cls := .type "range", data := .fields #[.int lo t, .int hi u, .int 1 v] }).objs.size, [(s.heap.push { cls := .type "range", data := .fields #[.int lo t, .int hi u, .int 1 v] }).objs.size], _, _, H, rfl,
    I1.kept (t' := tk) fun b o e => Heap.get?_push_of_some _ e, turn_range _ lo (hi - lo).toNat, ?_, fun b hb => ?_, q⟩
  · have e1 : lo + ((0 : Nat) : Int) * 1 = lo := by simp
    have e2 : (((hi - lo).toNat : Nat) : Int) - ((0 : Nat) : Int) = Builtin.Range.rangeSize lo hi 1 := by rw [rangeSize_one]; split <;> omega
    show IsRangeIter _ _ (lo + ((0 : Nat) : Int) * 1) ((((hi - lo).toNat : Nat) : Int) - ((0 : Nat) : Int)) 1
    rw [e1, e2]
    exact Heap.get?_push_size _ rfl
  · have e : b = (s.heap.push { cls := .type "range", data := .fields #[.int lo t, .int hi u, .int 1 v] }).objs.size := by simpa using hb
    subst e
    exact I1.fpOk (Nat.le_refl _) (I1.hok.fresh (Nat.le_refl _))
def iRng1 (ta : TA) : TI := fun σ H R => ta σ H fun vs H1 => ∃ j : Int, vs = [.int j] ∧ -(2 ^ 62) ≤ j ∧ j < 2 ^ 62 ∧ R (Itr 0 j.toNat) H1
def iRng2 (ta : TA) : TI := fun σ H R => ta σ H fun vs H1 => ∃ i j : Int, vs = [.int i, .int j] ∧ (-(2 ^ 62) ≤ i ∧ i < 2 ^ 62 ∧ -(2 ^ 62) ≤ j ∧ j < 2 ^ 62) ∧ R (Itr i (j - i).toNat) H1
theorem pi_range1 {a : Expr} {ta : TA} {p pos : Pos} (hg : Gl X "range") (hm : X.mg "range" = none) (ha : PA X [a] ta) (hs : starEach [a] X.env = [(false, eval a X.env)] := by rfl) : PI X tg (.Call (.Name "range" p) [a] [] pos) (iRng1 ta) := by
  intro pins s σ H R I h
  refine Call_ (ld_blt I hg hm boot_range (PyProof.Rows.callWith_type1 (thn (ha pos pins s σ H _ I h) fun us s1 ⟨vs, H1, I1, r1, q1⟩ => ?_) hs rfl))
  obtain ⟨j, e, q1, q2, q⟩ := q1
  subst e
  cases r1 with
  | cons r rr =>
    cases rr
    obtain ⟨t, rfl⟩ := r
    exact call_range_1 (range_it I1 (by omega) (by omega) q1 q2 (by simpa using q))
def tFor (wi : TI) (g : TG) (tb : TS) : TS := fun D σ H => wi σ H fun J H1 => ∃ W : Nat → Nat → St → Hp → Prop, (∃ m, W 0 m σ H1) ∧ ∀ i m σ H, W i m σ H →
  (J.stop i H ∧ D.nx σ H) ∨ (J.go i H ∧ ∃ N : St → Hp → Prop, (∀ σ' H', N σ' H' → ∃ m', m' < m ∧ W (i + 1) m' σ' H') ∧ ∀ x H', J.yld i H x H' → g x σ H' fun σ2 H2 => tb { D with nx := N, ct := N, bk := D.nx } σ2 H2)
def pinsAt (fp : List Addr) (h : Heap) : List (Addr × Obj) := fp.filterMap fun b => (h.get? b).map fun o => (b, o)
theorem mem_pinsAt {fp : List Addr} {h : Heap} {b : Addr} {o : Obj} (hb : b ∈ fp) (e : h.get? b = some o) : (b, o) ∈ pinsAt fp h := List.mem_filterMap.mpr ⟨b, hb, by rw [e]; rfl⟩
theorem of_pinsAt {fp : List Addr} {h : Heap} {p : Addr × Obj} (hp : p ∈ pinsAt fp h) : p.1 ∈ fp ∧ h.get? p.1 = some p.2 := by
  obtain ⟨b, hb, e⟩ := List.mem_filterMap.mp hp
  cases q : h.get? b with
  | none => rw [q] at e; cases e
  | some o =>
    rw [q] at e
    have e' : (b, o) = p := Option.some.inj e
    subst e'
    exact ⟨hb, q⟩
theorem Inv.pinned {pins : List (Addr × Obj)} {σ : St} {H : Hp} {s : Shared} {fp : List Addr} (I : Inv X pins σ H s) (hf : ∀ b ∈ fp, FpOk X pins H b) (ho : ∀ b ∈ fp, ∃ o, s.heap.get? b = some o ∧ ∀ v, o.data ≠ .cell v) : Inv X (pins ++ pinsAt fp s.heap) σ H s :=
  I.pins_of fun p hp => (List.mem_append.mp hp).elim (fun z => I.pin p (List.mem_append_right _ z)) fun z => by
    obtain ⟨hb, e⟩ := of_pinsAt z
    obtain ⟨f0, f1, f2, _⟩ := hf p.1 hb
    obtain ⟨o, e', d⟩ := ho p.1 hb
    rw [e] at e'; cases e'
    exact ⟨e, f0, f1, f2, d⟩
theorem Inv.unpinned {pins pl : List (Addr × Obj)} {σ : St} {H : Hp} {s : Shared} (I : Inv X (pins ++ pl) σ H s) : Inv X pins σ H s := I.pins_of fun p hp => I.pin p (List.mem_append_right _ (List.mem_append_left _ hp))
theorem ps_for {iter : Expr} {body : List Stmt} {wi : TI} {g : TG} {tb : TS} {pos : Pos} (hp : PassesOwn (model X.prog X.w) X.A X.env X.xe) (hc : X.calm = true) (hi : PI X tg iter wi) (hg : PG X tg g) (hb : PSs X body tb)
    (hs : ∀ x, foldedSetIterable iter X.env x = pure x := by intro _; rfl) : PS X (.For tg iter body [] pos) (tFor wi g tb) := by
  intro pins s σ H D I h
  refine wpAny_For (thn (hi pins s σ H _ I h) fun v s1 h1 => thn h1 fun itv s2 h2 => ?_) hs
  obtain ⟨it, fp, tn, J, H2, e, I2, T, st2, f2, W, ⟨m0, w0⟩, turn⟩ := h2
  subst e
  -- what stays true of the iterator's objects through the loop
  have stat : ∀ {H' : Hp}, (∀ b ∈ fp, H' b = none) → ∀ b ∈ fp, FpOk X pins H' b := fun hn b hb => ⟨hn b hb, (f2 b hb).2⟩
  refine codeAny_forLoop_any (fun n s' => ∃ i σ' H', Inv X pins σ' H' s' ∧ tn i s'.heap ∧ (∀ b ∈ fp, H' b = none) ∧ W i n σ' H') ?_ m0 ⟨0, σ, H2, I2, st2, fun b hb => (f2 b hb).1, w0⟩
  rintro n s3 ⟨i, σ3, H3, I3, st3, fr3, w3⟩
  rcases turn i n σ3 H3 w3 with ⟨stop, qn⟩ | ⟨go, N, hN, step⟩
  · refine wpAny_passesOwn hp (thn (T.done X rfl rfl rfl hc i pins s3 σ3 H3 X.xe I3 (stat fr3) st3 stop) fun r s4 ⟨hr, I4⟩ => ?_)
    subst hr
    exact wpAny_execs_nil ⟨σ3, H3, I4, qn⟩
  · refine wpAny_passesOwn hp (thn (T.item X rfl rfl rfl hc i pins s3 σ3 H3 X.xe I3 (stat fr3) st3 go) fun r s4 ⟨u, hr, h4⟩ => ?_)
    subst hr
    refine wpAny_passesOwn hp (thn h4 fun _ s5 ⟨x, H5, I5, r5, y5, st5, fr5⟩ => ?_)
    have I5' := I5.pinned (stat fr5) (T.obj _ _ st5)
    refine wpAny_passesOwn hp (thn (hg _ s5 σ3 H5 x u _ I5' r5 (step x H5 y5)) fun _ s6 ⟨σ6, H6, I6, q6⟩ => ?_)
    refine wpAny_passesOwn hp (thn (hb _ s6 σ6 H6 _ I6 q6) fun f s7 q7 => ?_)
    have again : ∀ {σ7 : St} {H7 : Hp}, Inv X (pins ++ pinsAt fp s5.heap) σ7 H7 s7 → N σ7 H7 → ∃ m, m < n ∧ ∃ i σ' H', Inv X pins σ' H' s7 ∧ tn i s7.heap ∧ (∀ b ∈ fp, H' b = none) ∧ W i m σ' H' := fun {σ7 H7} I7 n7 => by
      obtain ⟨m', hm, w7⟩ := hN σ7 H7 n7
      refine ⟨m', hm, i + 1, σ7, H7, I7.unpinned, T.keep _ _ _ st5 fun b hb o e => (I7.pin (b, o) (List.mem_append_right _ (List.mem_append_right _ (mem_pinsAt hb e)))).1, fun b hb => ?_, w7⟩
      obtain ⟨o, e, d⟩ := T.obj _ _ st5 b hb
      exact (I7.pin (b, o) (List.mem_append_right _ (List.mem_append_right _ (mem_pinsAt hb e)))).2.1
    cases f with
    | next => obtain ⟨σ7, H7, I7, n7⟩ := q7; exact again I7 n7
    | cont => obtain ⟨σ7, H7, I7, n7⟩ := q7; exact again I7 n7
    | brk => obtain ⟨σ7, H7, I7, q7⟩ := q7; exact ⟨σ7, H7, I7.unpinned, q7⟩
    | ret v => obtain ⟨x7, σ7, H7, I7, r7, q7⟩ := q7; exact ⟨x7, σ7, H7, I7.unpinned, r7, q7⟩
end
theorem for_list {K : PySem.W.Frag} {a : Addr} {xs : List V} {g : TG} {tb : TS} {D : Ends} {σ : St} {H : Hp} (Pv : Nat → St → Hp → Prop) (h0 : Pv 0 σ H) (hl : ∀ i σ H, i ≤ xs.length → Pv i σ H → SqL K H a xs)
    (hs : ∀ i x σ H, xs[i]? = some x → Pv i σ H → g x σ H fun σ2 H2 => tb { D with nx := Pv (i + 1), ct := Pv (i + 1), bk := D.nx } σ2 H2) (hd : ∀ σ H, Pv xs.length σ H → D.nx σ H) :
    ∃ W : Nat → Nat → St → Hp → Prop, (∃ m, W 0 m σ H) ∧ ∀ i m σ H, W i m σ H →
      ((Itl K a).stop i H ∧ D.nx σ H) ∨ ((Itl K a).go i H ∧ ∃ N : St → Hp → Prop, (∀ σ' H', N σ' H' → ∃ m', m' < m ∧ W (i + 1) m' σ' H') ∧ ∀ x H', (Itl K a).yld i H x H' → g x σ H' fun σ2 H2 => tb { D with nx := N, ct := N, bk := D.nx } σ2 H2) := by
  refine ⟨fun i m σ H => m = xs.length - i ∧ i ≤ xs.length ∧ Pv i σ H, ⟨xs.length, by simp, Nat.zero_le _, h0⟩, ?_⟩
  rintro i m σ H ⟨rfl, hi, p⟩
  have q := hl i σ H hi p
  by_cases hlt : i < xs.length
  · refine .inr ⟨⟨xs, xs[i], q, by simp [hlt]⟩, Pv (i + 1), fun σ' H' p' => ⟨xs.length - (i + 1), by omega, rfl, hlt, p'⟩, fun x H' y => ?_⟩
    obtain ⟨e, y⟩ := y
    subst e
    exact hs i x σ _ (y xs q) p
  · have e : i = xs.length := by omega
    subst e
    exact .inl ⟨⟨xs, q, Nat.le_refl _⟩, hd σ H p⟩
theorem for_range {lo : Int} {n : Nat} {g : TG} {tb : TS} {D : Ends} {σ : St} {H : Hp} (Pv : Nat → St → Hp → Prop) (h0 : Pv 0 σ H)
    (hs : ∀ i σ H, i < n → Pv i σ H → g (.int (lo + i)) σ H fun σ2 H2 => tb { D with nx := Pv (i + 1), ct := Pv (i + 1), bk := D.nx } σ2 H2) (hd : ∀ σ H, Pv n σ H → D.nx σ H) :
    ∃ W : Nat → Nat → St → Hp → Prop, (∃ m, W 0 m σ H) ∧ ∀ i m σ H, W i m σ H →
      ((Itr lo n).stop i H ∧ D.nx σ H) ∨ ((Itr lo n).go i H ∧ ∃ N : St → Hp → Prop, (∀ σ' H', N σ' H' → ∃ m', m' < m ∧ W (i + 1) m' σ' H') ∧ ∀ x H', (Itr lo n).yld i H x H' → g x σ H' fun σ2 H2 => tb { D with nx := N, ct := N, bk := D.nx } σ2 H2) := by
  refine ⟨fun i m σ H => m = n - i ∧ i ≤ n ∧ Pv i σ H, ⟨n, by simp, Nat.zero_le _, h0⟩, ?_⟩
  rintro i m σ H ⟨rfl, hi, p⟩
  by_cases hlt : i < n
  · refine .inr ⟨hlt, Pv (i + 1), fun σ' H' p' => ⟨n - (i + 1), by omega, rfl, hlt, p'⟩, fun x H' y => ?_⟩
    obtain ⟨e, y⟩ := y
    subst e y
    exact hs i σ _ hlt p
  · have e : i = n := by omega
    subst e
    exact .inl ⟨Nat.le_refl _, hd σ H p⟩
end L2
namespace L2
open PySem PySem.Spec PyProof.Rows
abbrev R2 := V → V → Hp → VK → Prop
def OpR (X : Cx) (f : Value → Value → Sem Value) (r : R2) : Prop :=
  ∀ (pins : List (Addr × Obj)) (s : Shared) (σ : St) (H : Hp) (x y : V) (v u : Value) (Q : VK), Inv X pins σ H s → RelV x v → RelV y u → r x y H Q →
    wpAny (model X.prog X.w) X.A (f v u) (EP X pins σ Q) X.xe s
def UnR (X : Cx) (f : Value → Sem Value) (r : V → Hp → VK → Prop) : Prop :=
  ∀ (pins : List (Addr × Obj)) (s : Shared) (σ : St) (H : Hp) (x : V) (v : Value) (Q : VK), Inv X pins σ H s → RelV x v → r x H Q →
    wpAny (model X.prog X.w) X.A (f v) (EP X pins σ Q) X.xe s
def CallR (X : Cx) (f : Value) (r : List V → Hp → VK → Prop) : Prop :=
  ∀ (pins : List (Addr × Obj)) (s : Shared) (σ : St) (H : Hp) (xs : List V) (us : List Value) (Q : VK), Inv X pins σ H s → Vals xs us → r xs H Q →
    wpAny (model X.prog X.w) X.A (call f us) (EP X pins σ Q) X.xe s
def TruR (X : Cx) (r : V → Hp → (Bool → Hp → Prop) → Prop) : Prop :=
  ∀ (pins : List (Addr × Obj)) (s : Shared) (σ : St) (H : Hp) (x : V) (v : Value) (Q : Bool → Hp → Prop), Inv X pins σ H s → RelV x v → r x H Q →
    wpAny (model X.prog X.w) X.A (truthy v) (TP X pins σ Q) X.xe s
def tOp (r : R2) (ta tb : TE) : TE := fun σ H Q => ta σ H fun x H1 => tb σ H1 fun y H2 => r x y H2 Q
def tUn (r : V → Hp → VK → Prop) (ta : TE) : TE := fun σ H Q => ta σ H fun x H1 => r x H1 Q
def rI (C : Int → Int → Prop) (g : Int → Int → V) : R2 := fun x y H Q => ∃ i j, x = .int i ∧ y = .int j ∧ C i j ∧ Q (g i j) H
def rI0 (g : Int → Int → V) : R2 := fun x y H Q => ∃ i j, x = .int i ∧ y = .int j ∧ Q (g i j) H
def rU (g : Int → V) : V → Hp → VK → Prop := fun x H Q => ∃ i, x = .int i ∧ Q (g i) H
section
variable {X : Cx} {a b c : Expr} {ta tb tc : TE} {pos : Pos}
theorem binT (ha : PE X a ta) (hb : PE X b tb) {pins : List (Addr × Obj)} {s : Shared} {σ : St} {H : Hp} {R : V → V → Hp → Prop} (I : Inv X pins σ H s)
    (h : ta σ H fun x H1 => tb σ H1 fun y H2 => R x y H2) {Q : Value → Shared → Prop} {f : Value → Value → Sem Value}
    (hf : ∀ v u s2 x y H2, Inv X pins σ H2 s2 → RelV x v → RelV y u → R x y H2 → wpAny (model X.prog X.w) X.A (f v u) Q X.xe s2) :
    wpAny (model X.prog X.w) X.A (eval a X.env) (fun v s₁ => wpAny (model X.prog X.w) X.A (eval b X.env) (fun u s₂ => wpAny (model X.prog X.w) X.A (f v u) Q X.xe s₂) X.xe s₁) X.xe s := by
  refine thn (ha pins s σ H _ I h) fun v s1 ⟨x, H1, I1, r1, q1⟩ => ?_
  refine thn (hb pins s1 σ H1 _ I1 q1) fun u s2 ⟨y, H2, I2, r2, q2⟩ => ?_
  exact hf v u s2 x y H2 I2 r1 r2 q2
theorem pe_op {op : Operator} {r : R2} (ho : OpR X (binaryOp op) r) (ha : PE X a ta) (hb : PE X b tb) : PE X (.BinOp a op b pos) (tOp r ta tb) := by
  intro pins s σ H Q I h
  exact wpAny_BinOp (binT ha hb I h fun v u s2 x y H2 I2 rx ry q => ho pins s2 σ H2 x y v u Q I2 rx ry q)
theorem pe_un {op : UnaryOp} {r : V → Hp → VK → Prop} (ho : UnR X (unaryOp op) r) (ha : PE X a ta) : PE X (.UnaryOp op a pos) (tUn r ta) := by
  intro pins s σ H Q I h
  exact UnaryOp_ (thn (ha pins s σ H _ I h) fun v s1 ⟨x, H1, I1, r1, q1⟩ => ho pins s1 σ H1 x v Q I1 r1 q1)
theorem opI {f : Value → Value → Sem Value} {C : Int → Int → Prop} {g : Int → Int → Int}
    (rule : ∀ (i j : Int) (t u : Tok) (s : Shared) (Q : Value → Shared → Prop) (E : Value → Shared → Prop), C i j → Q (.int (g i j) s.toks) { s with toks := s.toks + 1 } → wpAny (model X.prog X.w) X.A (f (.int i t) (.int j u)) Q E s) :
    OpR X f (rI C fun i j => .int (g i j)) := by
  intro pins s σ H x y v u Q I rx ry h
  obtain ⟨i, j, rfl, rfl, hc, q⟩ := h
  obtain ⟨t, rfl⟩ := rx
  obtain ⟨t', rfl⟩ := ry
  exact rule i j t t' s _ _ hc ⟨.int (g i j), H, I.tok _, ⟨_, rfl⟩, q⟩
theorem opI0 {f : Value → Value → Sem Value} {g : Int → Int → Int}
    (rule : ∀ (i j : Int) (t u : Tok) (s : Shared) (Q : Value → Shared → Prop) (E : Value → Shared → Prop), Q (.int (g i j) s.toks) { s with toks := s.toks + 1 } → wpAny (model X.prog X.w) X.A (f (.int i t) (.int j u)) Q E s) :
    OpR X f (rI0 fun i j => .int (g i j)) := by
  intro pins s σ H x y v u Q I rx ry h
  obtain ⟨i, j, rfl, rfl, q⟩ := h
  obtain ⟨t, rfl⟩ := rx
  obtain ⟨t', rfl⟩ := ry
  exact rule i j t t' s _ _ ⟨.int (g i j), H, I.tok _, ⟨_, rfl⟩, q⟩
theorem opB0 {f : Value → Value → Sem Value} {g : Int → Int → Bool}
    (rule : ∀ (i j : Int) (t u : Tok) (s : Shared) (Q : Value → Shared → Prop) (E : Value → Shared → Prop), Q (.bool (g i j)) s → wpAny (model X.prog X.w) X.A (f (.int i t) (.int j u)) Q E s) :
    OpR X f (rI0 fun i j => .bl (g i j)) := by
  intro pins s σ H x y v u Q I rx ry h
  obtain ⟨i, j, rfl, rfl, q⟩ := h
  obtain ⟨t, rfl⟩ := rx
  obtain ⟨t', rfl⟩ := ry
  exact rule i j t t' s _ _ ⟨.bl (g i j), H, I, rfl, q⟩
def CDiv (i j : Int) : Prop := 0 < j ∧ j < 1073741824
def CDivN (i j : Int) : Prop := j ≠ 0 ∧ j.natAbs < 1073741824
def CPow (i j : Int) : Prop := 0 ≤ j ∧ j ≤ 1000000 ∧ i.natAbs < 2 ^ 64
def CMul (i j : Int) : Prop := (-(2 ^ 64) < i ∧ i < 2 ^ 64) ∨ (-(2 ^ 64) < j ∧ j < 2 ^ 64)
theorem CMul.ok {i j : Int} (h : CMul i j) : IntMulOk i j := by
  rcases h with ⟨h1, h2⟩ | ⟨h1, h2⟩
  · exact .of_left (intBits_le_64 h1 h2)
  · exact .of_right (intBits_le_64 h1 h2)
theorem op_add : OpR X (binaryOp .Add) (rI0 fun i j => .int (i + j)) := opI0 fun _ _ _ _ _ _ _ q => add_int q
theorem op_sub : OpR X (binaryOp .Sub) (rI0 fun i j => .int (i - j)) := opI0 fun _ _ _ _ _ _ _ q => sub_int q
theorem op_mul : OpR X (binaryOp .Mult) (rI CMul fun i j => .int (i * j)) := opI fun _ _ _ _ _ _ _ hc q => mul_int q hc.ok
theorem op_fdiv : OpR X (binaryOp .FloorDiv) (rI CDiv fun i j => .int (i / j)) := opI fun i j _ _ _ _ _ hc q => by
  have h1 : (0 : Int) < j := hc.1
  have h2 : j < 1073741824 := hc.2
  exact floordiv_int (by omega) (by rw [Int.fdiv_eq_ediv_of_nonneg i (by omega)]; exact q) (.inl (PyProof.noPylong_small (by omega)))
theorem op_mod : OpR X (binaryOp .Mod) (rI (fun _ j => 0 < j) fun i j => .int (i % j)) := opI fun i j _ _ _ _ _ hc q => by
  have h1 : (0 : Int) < j := hc
  exact mod_int' (by omega) (by rw [Int.fmod_eq_emod_of_nonneg i (by omega)]; exact q)
theorem op_pow : OpR X (binaryOp .Pow) (rI CPow fun i j => .int (i ^ j.toNat)) := opI fun _ _ _ _ _ _ _ hc q => pow_int_small hc.1 hc.2.1 hc.2.2 q
theorem iop_add : OpR X (inplaceOp .Add) (rI0 fun i j => .int (i + j)) := opI0 fun _ _ _ _ _ _ _ q => iadd_int q
theorem unI {f : Value → Sem Value} {g : Int → Int}
    (rule : ∀ (i : Int) (t : Tok) (s : Shared) (Q : Value → Shared → Prop) (E : Value → Shared → Prop), Q (.int (g i) s.toks) { s with toks := s.toks + 1 } → wpAny (model X.prog X.w) X.A (f (.int i t)) Q E s) :
    UnR X f (rU fun i => .int (g i)) := by
  intro pins s σ H x v Q I rx h
  obtain ⟨i, rfl, q⟩ := h
  obtain ⟨t, rfl⟩ := rx
  exact rule i t s _ _ ⟨.int (g i), H, I.tok _, ⟨_, rfl⟩, q⟩
theorem un_neg : UnR X (unaryOp .USub) (rU fun i => .int (-i)) := unI fun _ _ _ _ _ q => neg_int q
end
def scal : V → V → Bool
  | .non, .non => true | .non, .int _ => true | .int _, .non => true | .non, .bl _ => true | .bl _, .non => true | .non, .str _ => true | .str _, .non => true
  | .int _, .int _ => true | .bl _, .bl _ => true | .str _, .str _ => true | .byt _, .byt _ => true
  | .int _, .str _ => true | .str _, .int _ => true | .bl _, .str _ => true | .str _, .bl _ => true
  | _, _ => false
def rEq : R2 := fun x y H Q => scal x y = true ∧ Q (.bl (decide (x = y))) H
def rNe : R2 := fun x y H Q => scal x y = true ∧ Q (.bl (!decide (x = y))) H
theorem dec_int {i j : Int} : decide (V.int i = V.int j) = (i == j) := by
  rw [Bool.eq_iff_iff]
  simp
theorem dec_bl {i j : Bool} : decide (V.bl i = V.bl j) = (i == j) := by
  rw [Bool.eq_iff_iff]
  simp
theorem dec_str {i j : Str} : decide (V.str i = V.str j) = (i == j) := by
  rw [Bool.eq_iff_iff]
  simp
theorem dec_byt {i j : Array UInt8} : decide (V.byt i = V.byt j) = (i.toList == j.toList) := by
  rw [Bool.eq_iff_iff]
  cases i
  cases j
  simp
section
variable {X : Cx} {a b c : Expr} {ta tb tc : TE} {pos : Pos}
theorem fin_bl {pins : List (Addr × Obj)} {σ : St} {H : Hp} {s : Shared} {Q : VK} {k k' : Bool} (I : Inv X pins σ H s) (q : Q (.bl k) H) (e : k = k') : EP X pins σ Q (.bool k') s := by
  subst e
  exact ⟨.bl k, H, I, rfl, q⟩
theorem op_eq : OpR X (compareOp .Eq) rEq := by
  intro pins s σ H x y v u Q I rx ry h
  obtain ⟨hs, q⟩ := h
  cases x with
  | non =>
    cases rx
    cases y with
    | non => cases ry; exact PySem.EqNone.eq_none_none (fin_bl I q (by simp))
    | bl j => cases ry; exact PySem.EqNone.eq_none_bool (fin_bl I q (by simp))
    | int j => obtain ⟨t', rfl⟩ := ry; exact PySem.EqNone.eq_none_int (fin_bl I q (by simp))
    | str j => obtain ⟨t', rfl⟩ := ry; exact PySem.EqNone.eq_none_str (fin_bl I q (by simp))
    | _ => exact absurd (show false = true from hs) Bool.false_ne_true
  | bl i =>
    cases rx
    cases y with
    | non => cases ry; exact PySem.EqNone.eq_bool_none (fin_bl I q (by simp))
    | bl j => cases ry; exact eq_bool (fin_bl I q dec_bl)
    | str j => obtain ⟨t', rfl⟩ := ry; exact PySem.EqMixed.eq_bool_str (fin_bl I q (by simp))
    | _ => exact absurd (show false = true from hs) Bool.false_ne_true
  | int i =>
    obtain ⟨t, rfl⟩ := rx
    cases y with
    | non => cases ry; exact PySem.EqNone.eq_int_none (fin_bl I q (by simp))
    | int j => obtain ⟨t', rfl⟩ := ry; exact eq_int (fin_bl I q dec_int)
    | str j => obtain ⟨t', rfl⟩ := ry; exact PySem.EqMixed.eq_int_str (fin_bl I q (by simp))
    | _ => exact absurd (show false = true from hs) Bool.false_ne_true
  | str i =>
    obtain ⟨t, rfl⟩ := rx
    cases y with
    | non => cases ry; exact PySem.EqNone.eq_str_none (fin_bl I q (by simp))
    | bl j => cases ry; exact PySem.EqMixed.eq_str_bool (fin_bl I q (by simp))
    | int j => obtain ⟨t', rfl⟩ := ry; exact PySem.EqMixed.eq_str_int (fin_bl I q (by simp))
    | str j => obtain ⟨t', rfl⟩ := ry; exact eq_str (fin_bl I q dec_str)
    | _ => exact absurd (show false = true from hs) Bool.false_ne_true
  | byt i =>
    obtain ⟨t, rfl⟩ := rx
    cases y with
    | byt j => obtain ⟨t', rfl⟩ := ry; exact PySem.W.eq_bytes (fin_bl I q dec_byt)
    | _ => exact absurd (show false = true from hs) Bool.false_ne_true
  | _ => cases y <;> exact absurd (show false = true from hs) Bool.false_ne_true
theorem op_ne : OpR X (compareOp .NotEq) rNe := by
  intro pins s σ H x y v u Q I rx ry h
  obtain ⟨hs, q⟩ := h
  cases x with
  | non =>
    cases rx
    cases y with
    | non => cases ry; exact PySem.EqNone.ne_none_none (fin_bl I q (by simp))
    | bl j => cases ry; exact PySem.EqNone.ne_none_bool (fin_bl I q (by simp))
    | int j => obtain ⟨t', rfl⟩ := ry; exact PySem.EqNone.ne_none_int (fin_bl I q (by simp))
    | str j => obtain ⟨t', rfl⟩ := ry; exact PySem.EqNone.ne_none_str (fin_bl I q (by simp))
    | _ => exact absurd (show false = true from hs) Bool.false_ne_true
  | bl i =>
    cases rx
    cases y with
    | non => cases ry; exact PySem.EqNone.ne_bool_none (fin_bl I q (by simp))
    | bl j => cases ry; exact ne_bool (fin_bl I q (congrArg not dec_bl))
    | str j => obtain ⟨t', rfl⟩ := ry; exact PySem.EqMixed.ne_bool_str (fin_bl I q (by simp))
    | _ => exact absurd (show false = true from hs) Bool.false_ne_true
  | int i =>
    obtain ⟨t, rfl⟩ := rx
    cases y with
    | non => cases ry; exact PySem.EqNone.ne_int_none (fin_bl I q (by simp))
    | int j => obtain ⟨t', rfl⟩ := ry; exact ne_int (fin_bl I q (congrArg not dec_int))
    | str j => obtain ⟨t', rfl⟩ := ry; exact PySem.EqMixed.ne_int_str (fin_bl I q (by simp))
    | _ => exact absurd (show false = true from hs) Bool.false_ne_true
  | str i =>
    obtain ⟨t, rfl⟩ := rx
    cases y with
    | non => cases ry; exact PySem.EqNone.ne_str_none (fin_bl I q (by simp))
    | bl j => cases ry; exact PySem.EqMixed.ne_str_bool (fin_bl I q (by simp))
    | int j => obtain ⟨t', rfl⟩ := ry; exact PySem.EqMixed.ne_str_int (fin_bl I q (by simp))
    | str j => obtain ⟨t', rfl⟩ := ry; exact ne_str (fin_bl I q (congrArg not dec_str))
    | _ => exact absurd (show false = true from hs) Bool.false_ne_true
  | byt i =>
    obtain ⟨t, rfl⟩ := rx
    cases y with
    | byt j => obtain ⟨t', rfl⟩ := ry; exact PySem.W.ne_bytes (fin_bl I q (congrArg not dec_byt))
    | _ => exact absurd (show false = true from hs) Bool.false_ne_true
  | _ => cases y <;> exact absurd (show false = true from hs) Bool.false_ne_true
theorem op_lt : OpR X (compareOp .Lt) (rI0 fun i j => .bl (decide (i < j))) := opB0 fun _ _ _ _ _ _ _ q => lt_int q
theorem op_ge : OpR X (compareOp .GtE) (rI0 fun i j => .bl (decide (j ≤ i))) := opB0 fun _ _ _ _ _ _ _ q => ge_int q
theorem op_isN : OpR X (compareOp .Is) (fun x y H Q => y = .non ∧ Q (.bl (decide (x = .non))) H) := by
  intro pins s σ H x y v u Q I rx ry h
  obtain ⟨rfl, q⟩ := h
  cases ry
  refine is_none_gen (fin_bl I q ?_)
  cases x <;> first
    | (cases rx; rfl)
    | (obtain ⟨t, rfl⟩ := rx; rfl)
theorem op_notN : OpR X (compareOp .IsNot) (fun x y H Q => y = .non ∧ Q (.bl (!decide (x = .non))) H) := by
  intro pins s σ H x y v u Q I rx ry h
  obtain ⟨rfl, q⟩ := h
  cases ry
  refine isnot_none_gen (fin_bl I q ?_)
  cases x <;> first
    | (cases rx; rfl)
    | (obtain ⟨t, rfl⟩ := rx; rfl)
def isObj : HO → Bool
  | .lst _ => true
  | .ins _ _ _ => true
  | _ => false
theorem OpR.or {f : Value → Value → Sem Value} {r r' : R2} (h : OpR X f r) (h' : OpR X f r') : OpR X f (fun x y H Q => r x y H Q ∨ r' x y H Q) := by
  intro pins s σ H x y v u Q I rx ry q
  rcases q with q | q
  · exact h pins s σ H x y v u Q I rx ry q
  · exact h' pins s σ H x y v u Q I rx ry q
theorem nomark (b : Expr) {op : CmpOp} (h : op ≠ .In := by decide) (h2 : op ≠ .NotIn := by decide) : behindInMarks op b = false := by
  have e1 : (op == CmpOp.In) = false := by cases op <;> first | rfl | exact absurd rfl h
  have e2 : (op == CmpOp.NotIn) = false := by cases op <;> first | rfl | exact absurd rfl h2
  cases b <;> simp [behindInMarks, e1, e2]
theorem pe_cmpR {op : CmpOp} {r : R2} (ho : OpR X (compareOp op) r) (ha : PE X a ta) (hb : PE X b tb) (hm : behindInMarks op b = false) : PE X (.Compare a [op] [b] pos) (tOp r ta tb) := by
  intro pins s σ H Q I h
  exact wpAny_Compare1 (binT ha hb I h fun v u s2 x y H2 I2 rx ry q => ho pins s2 σ H2 x y v u Q I2 rx ry q) hm
def tTest (t : TE) : TT := fun σ H Q => t σ H fun x H' => ∃ k, x = .bl k ∧ Q k H'
theorem pt_cmpR {op : CmpOp} {r : R2} (ho : OpR X (compareOp op) r) (ha : PE X a ta) (hb : PE X b tb) (hm : behindInMarks op b = false) : PT X (.Compare a [op] [b] pos) (tTest (tOp r ta tb)) := by
  intro pins s σ H Q I h
  refine wpAny_isTrue_Compare1 (thn (ha pins s σ H _ I h) fun v s1 ⟨x, H1, I1, r1, q1⟩ => thn (hb pins s1 σ H1 _ I1 q1) fun u s2 ⟨y, H2, I2, r2, q2⟩ =>
    thn (ho pins s2 σ H2 x y v u _ I2 r1 r2 q2) fun c s3 ⟨z, H3, I3, r3, k, e, q3⟩ => ?_) hm
  subst e
  cases r3
  exact wpAny_truthy_bool ⟨H3, I3, q3⟩
def tChain (r r' : R2) (ta tb tc : TE) : TE := fun σ H Q => ta σ H fun x H1 => tb σ H1 fun y H2 => r x y H2 fun z H3 => ∃ k, z = .bl k ∧
  (if k = true then tc σ H3 fun w' H4 => r' y w' H4 Q else Q (.bl false) H3)
def TruV (K : PySem.W.Frag) (x : V) (H : Hp) (k : Bool) : Prop :=
  match x with
  | .non => k = false
  | .bl b => k = b
  | .int i => k = (i != 0)
  | .str y => y.length ≤ sizeLine ∧ k = ((y.length : Int) != 0)
  | .byt y => y.size ≤ sizeLine ∧ k = ((y.size : Int) != 0)
  | .ref p => (∃ xs, SqL K H p xs ∧ k = !xs.isEmpty) ∨ (∃ xs, SqT K H p xs ∧ k = !xs.isEmpty) ∨ ∃ kvs, H p = some (.dK kvs) ∧ k = !kvs.isEmpty
  | _ => False
theorem line63 : (sizeLine : Nat) < 2 ^ 63 := by rw [sizeLine_eq]; decide
theorem op_add_str : OpR X (binaryOp .Add) (fun x y H Q => ∃ i j, x = .str i ∧ y = .str j ∧ i.length + j.length ≤ sizeLine ∧ Q (.str (i ++ j)) H) := by
  intro pins s σ H x y v u Q I rx ry h
  obtain ⟨i, j, rfl, rfl, hz, q⟩ := h
  obtain ⟨t, rfl⟩ := rx
  obtain ⟨t', rfl⟩ := ry
  exact add_str (fun t' tk => ⟨.str (i ++ j), H, I.tok _, ⟨_, rfl⟩, q⟩) hz
def PlainIxT (b : Expr) : Prop := ∀ o i, subscripted b false o i = operate [o, i] (getItem o i)
theorem vals1 {x : V} {us : List Value} (r : Vals [x] us) : ∃ u, us = [u] ∧ RelV x u := by
  cases r with
  | cons r1 r2 => cases r2; exact ⟨_, rfl, r1⟩
theorem vals2 {x y : V} {us : List Value} (r : Vals [x, y] us) : ∃ u w', us = [u, w'] ∧ RelV x u ∧ RelV y w' := by
  cases r with
  | cons r1 r2 =>
    cases r2 with
    | cons r3 r4 => cases r4; exact ⟨_, _, rfl, r1, r3⟩
theorem call_abs : CallR X (.builtin "abs") (fun xs H Q => ∃ i, xs = [.int i] ∧ Q (.int (if i < 0 then -i else i)) H) := by
  intro pins s σ H xs us Q I r h
  obtain ⟨i, rfl, q⟩ := h
  obtain ⟨u, rfl, t, rfl⟩ := vals1 r
  exact call_abs_int fun u tk => ⟨.int (if i < 0 then -i else i), H, I.tok _, ⟨_, rfl⟩, q⟩
theorem call_min2 (hc : X.calm = true) : CallR X (.builtin "min") (fun xs H Q => ∃ i j, xs = [.int i, .int j] ∧ Q (.int (if j < i then j else i)) H) := by
  intro pins s σ H xs us Q I r h
  obtain ⟨i, j, rfl, q⟩ := h
  obtain ⟨u, w', rfl, ⟨t, rfl⟩, ⟨t', rfl⟩⟩ := vals2 r
  refine min_two_ints (I.ok.hd hc) fun h' tk k => ⟨_, H, I.kept k, ?_, q⟩
  by_cases hj : j < i
  · rw [if_pos hj, if_pos hj]; exact ⟨_, rfl⟩
  · rw [if_neg hj, if_neg hj]; exact ⟨_, rfl⟩
theorem call_int1 : CallR X (.type "int") (fun xs H Q => (∃ i, xs = [.int i] ∧ Q (.int i) H) ∨ ∃ k, xs = [.bl k] ∧ Q (.int (if k then 1 else 0)) H) := by
  intro pins s σ H xs us Q I r h
  rcases h with ⟨i, rfl, q⟩ | ⟨k, rfl, q⟩
  · obtain ⟨u, rfl, t, rfl⟩ := vals1 r
    exact call_int_int ⟨.int i, H, I, ⟨_, rfl⟩, q⟩
  · obtain ⟨u, rfl, r1⟩ := vals1 r
    cases r1
    exact call_int_bool ⟨.int (if k then 1 else 0), H, I.tok _, ⟨_, rfl⟩, q⟩
def LenV (K : PySem.W.Frag) (x : V) (H : Hp) (n : Nat) : Prop :=
  match x with
  | .str y => y.length ≤ sizeLine ∧ n = y.length
  | .byt y => y.size ≤ sizeLine ∧ n = y.size
  | .ref p => (∃ xs, SqL K H p xs ∧ n = xs.length) ∨ ∃ xs, SqT K H p xs ∧ n = xs.length
  | _ => False
end
end L2
namespace L2
open PySem PySem.Spec PyProof.Rows
structure ObjM (h : Heap) (x dx C : Addr) (mA : Str → Option Value) : Prop where
  obj : h.get? x = some (PySem.W.instObj C dx)
  ns : h.Ns1 dx mA
  ne : dx ≠ x
theorem lookIn_ns {h : Heap} {dx : Addr} {mA : Str → Option Value} (n : h.Ns1 dx mA) : ∃ od, h.get? dx = some od ∧ ∀ name, PySem.W.lookIn name od = some (mA name) := by
  obtain ⟨o, es, ep, ho, hd, hk, _, hm⟩ := n
  refine ⟨o, ho, fun name => ?_⟩
  have e := hm name
  unfold nsFind findBy at e
  rw [← Array.find?_toList] at e
  unfold PySem.W.lookIn
  rw [hd]
  dsimp only
  split
  · rename_i y q
    rw [q] at e
    exact congrArg some e
  · rename_i q
    rw [q] at e
    have a : es.toList.any (·.refKey) = false := by
      rw [List.any_eq_false]
      intro y hy
      obtain ⟨z, t, hkey⟩ := hk y (Array.mem_toList_iff.mp hy)
      simp [DictEntry.refKey, hkey]
    have a' : ¬ es.toList.any (·.refKey) = true := by rw [a]; exact Bool.false_ne_true
    rw [if_neg a']
    exact congrArg some e
theorem ObjM.look {h : Heap} {x dx C : Addr} {mA : Str → Option Value} (I : ObjM h x dx C mA) : ∃ od, PySem.W.InstAt h x (PySem.W.instObj C dx) C (some od) ∧ ∀ name, PySem.W.lookIn name od = some (mA name) :=
  let ⟨od, ho, hl⟩ := lookIn_ns I.ns
  ⟨od, ⟨I.obj, rfl, rfl, ho⟩, hl⟩
section
variable {prog : Program} {w : World} {A : Around} {E : Value → Shared → Prop} {s : Shared} {K : PySem.W.Frag} {x dx C f : Addr} {mA : Str → Option Value} {name : Str} {v : Value}
theorem get_map {expr : Bool} {Q : Value → Shared → Prop} (X : K.In s.heap) (I : ObjM s.heap x dx C mA) (hg : PySem.W.plainGet K C name = true) (hh : PySem.W.hasDictIn K C = true)
    (ha : PySem.W.findIn K (.ref C) name = some none) (hv : mA name = some v) (hv' : PySem.W.handedIn v = true) (h : Q v { s with toks := s.toks + 1 }) :
    wpAny (model prog w) A (getAttr (.ref x) name expr) Q E s := by
  obtain ⟨od, J, hl⟩ := I.look
  exact PySem.W.get_value X J (PySem.W.plainGet_of hg).1 (PySem.W.findObj_own hh ha rfl (by rw [hl, hv])) hv' h
theorem get_meth {pl : Sem Bool} {Q : Value × List Value → Shared → Prop} (X : K.In s.heap) (I : ObjM s.heap x dx C mA) (hg : PySem.W.plainGet K C name = true)
    (hf : PySem.W.findIn K (.ref C) name = some (some (.ref f))) (ht : PySem.W.isFn K (.ref f) = true) (hv : mA name = none) (h : Q (.ref f, [.ref x]) s) :
    wpAny (model prog w) A (getMethod (.ref x) name pl) Q E s := by
  obtain ⟨od, J, hl⟩ := I.look
  exact PySem.W.method_fn X J (PySem.W.plainGet_of hg).1 (PySem.W.plainGet_of hg).2 hf (beq_iff_eq.mp ht) (by show (PySem.W.lookIn name od).map (·.isSome) = some false; rw [hl, hv]; rfl) h
theorem set_map {ns : List Str} {Q : Unit → Shared → Prop} (X : K.In s.heap) (I : ObjM s.heap x dx C mA)
    (hs : PySem.W.findIn K (.ref C) "__setattr__" = some (some (.builtin "object.__setattr__"))) (hp : PySem.W.plainOver K C = true) (ht : PySem.W.takerIn K C name = some none) (hh : PySem.W.hasDictIn K C = true)
    (hw : PySem.Within mA ns) (hsz : ns.length ≤ sizeLine)
    (h : ∀ h', ObjM h' x dx C (fun y => if y = name then some v else mA y) → Heap.SameBut dx s.heap h' → Q () { s with heap := h', toks := s.toks + 2 }) :
    wpAny (model prog w) A (setAttr (.ref x) name v) Q E s := by
  obtain ⟨od, J, hl⟩ := I.look
  refine PySem.W.set_plain X J hs (PySem.W.osa_open (s := { s with toks := s.toks + 1 }) (r := none) X J hp ht fun b => ?_)
  obtain ⟨cd, hc, hd'⟩ := PySem.W.any_some hh
  have hx : s.heap.get? x = some ⟨.ref C, some dx, .plain, #[]⟩ := I.obj
  refine wpAny_bind (wpAny_pure (wpAny_bind (wpAny_bind (wpAny_loadPart hx (wpAny_bind (PySem.W.Looks.here (s := { s with toks := s.toks + 1 }) (PySem.W.looks_clsIn X hc) ?_))))))
  rw [hd']
  refine wpAny_pure (a := some dx) (wpAny_bind (wpAny_pure (wpAny_bind ?_)))
  refine wpAny_nsSet1 (s := { s with toks := s.toks + 1 }) I.ns fun h' hn2 hs2 => ?_
  obtain ⟨oD, esD, epD, hoD, hdD, hcD⟩ := hn2.count (PySem.Within.cons name v hw)
  refine wpAny_bind (wpAny_lookBehind hoD (by rw [hdD]; exact pastItsLine_dict (Nat.le_trans hcD (by rw [List.length_cons]; omega))) ?_)
  exact wpAny_pure (h _ ⟨(hs2.2 _ (Ne.symm I.ne)).trans I.obj, hn2, I.ne⟩ hs2)
theorem make_map {R : Result → Shared → Prop} {vs : List Value} {kw : List (Str × Value)} (X : K.In s.heap) (hm : PySem.W.makesIn K C = true)
    (hi : PySem.W.findIn K (.ref C) "__init__" = some (some (.ref f))) (hf : PySem.W.typeIn K (.ref f) = some (.type "function"))
    (h : codeAny (model prog w) (A.under (.builtin "type.__call__" ⟨.ref C :: vs, kw⟩)) (.call (.ref f) ⟨.ref (s.heap.objs.size + 1) :: vs, kw⟩) (PySem.W.InitBack (s.heap.objs.size + 1) R)
      { s with heap := (s.heap.push PySem.W.emptyDict).push (PySem.W.instObj C s.heap.objs.size) }) :
    codeAny (model prog w) A (.call (.ref C) ⟨vs, kw⟩) R s := by
  obtain ⟨hh, g, d, t, os⟩ := s
  exact PySem.W.make_core (PySem.W.makes_of X hm) (PySem.W.looks_findIn X hi) (fun self => PySem.W.bind_fn X self hf) (.inl rfl) h
end
def putF (f : Str) (v : V) : List (Str × V) → List (Str × V)
  | [] => [(f, v)]
  | (g, x) :: r => if g = f then (g, v) :: r else (g, x) :: putF f v r
theorem lookup_putF (f g : Str) (v : V) : ∀ fs : List (Str × V), (putF f v fs).lookup g = if g = f then some v else fs.lookup g
  | [] => by
    show List.lookup g [(f, v)] = _
    by_cases h : g = f
    · have hb : (g == f) = true := beq_iff_eq.mpr h
      simp only [List.lookup, hb, if_pos h]
    · have hb : (g == f) = false := beq_eq_false_iff_ne.mpr h
      simp only [List.lookup, hb, if_neg h]
  | (k, x) :: r => by
    have ih := lookup_putF f g v r
    rw [show putF f v ((k, x) :: r) = (if k = f then (k, v) :: r else (k, x) :: putF f v r) from rfl]
    by_cases hk : k = f
    · rw [if_pos hk]
      by_cases h : g = k
      · have hb : (g == k) = true := beq_iff_eq.mpr h
        simp only [List.lookup, hb, if_pos (h.trans hk)]
      · have hb : (g == k) = false := beq_eq_false_iff_ne.mpr h
        simp only [List.lookup, hb, if_neg (fun e : g = f => h (e.trans hk.symm))]
    · rw [if_neg hk]
      by_cases h : g = k
      · have hb : (g == k) = true := beq_iff_eq.mpr h
        simp only [List.lookup, hb, if_neg (fun e : g = f => hk (h.symm.trans e))]
      · have hb : (g == k) = false := beq_eq_false_iff_ne.mpr h
        simp only [List.lookup, hb]
        exact ih
theorem keys_putF (f : Str) (v : V) : ∀ fs : List (Str × V), f ∈ (putF f v fs).map (·.1) ∧ ∀ g, g ∈ fs.map (·.1) → g ∈ (putF f v fs).map (·.1)
  | [] => ⟨by simp [putF], fun g h => by simp at h⟩
  | (k, x) :: r => by
    obtain ⟨i1, i2⟩ := keys_putF f v r
    rw [show putF f v ((k, x) :: r) = (if k = f then (k, v) :: r else (k, x) :: putF f v r) from rfl]
    by_cases hk : k = f
    · rw [if_pos hk]
      subst hk
      exact ⟨by simp, fun g h => by simpa using h⟩
    · rw [if_neg hk]
      refine ⟨?_, fun g h => ?_⟩
      · rw [List.map_cons]
        exact List.mem_cons_of_mem _ i1
      · rw [List.map_cons] at h ⊢
        rcases List.mem_cons.mp h with e | e
        · exact List.mem_cons.mpr (.inl e)
        · exact List.mem_cons_of_mem _ (i2 g e)
theorem length_putF (f : Str) (v : V) : ∀ fs : List (Str × V), (putF f v fs).length ≤ fs.length + 1
  | [] => by simp [putF]
  | (k, x) :: r => by
    have ih := length_putF f v r
    rw [show putF f v ((k, x) :: r) = (if k = f then (k, v) :: r else (k, x) :: putF f v r) from rfl]
    by_cases hk : k = f
    · rw [if_pos hk, List.length_cons, List.length_cons]; omega
    · rw [if_neg hk, List.length_cons, List.length_cons]; omega
theorem RelO.some_of {v : V} {o : Option Value} (r : RelO (some v) o) : ∃ u, o = some u ∧ RelV v u := by
  cases o with
  | none => exact (show False from r).elim
  | some u => exact ⟨u, rfl, r⟩
theorem RelO.none_of {o : Option Value} (r : RelO none o) : o = none := by
  cases o with
  | none => rfl
  | some u => exact (show False from r).elim
theorem handed_of {v : V} {u : Value} (r : RelV v u) : PySem.W.handedIn u = true := by
  cases v with
  | non => cases (show u = Value.none from r); rfl
  | bl b => cases (show u = Value.bool b from r); rfl
  | int i => obtain ⟨t, e⟩ := (show ∃ t, u = Value.int i t from r); cases e; rfl
  | str x => obtain ⟨t, e⟩ := (show ∃ t, u = Value.str x t from r); cases e; rfl
  | byt b => obtain ⟨t, e⟩ := (show ∃ t, u = Value.bytes b t from r); cases e; rfl
  | flt b => obtain ⟨t, e⟩ := (show ∃ t, u = Value.float b t from r); cases e; rfl
  | ref a => cases (show u = Value.ref a from r); rfl
  | ty n => cases (show u = Value.type n from r); rfl
section
variable {P : Program} {w : World} {H H' : Hp} {h h' : Heap} {a C dx : Addr} {fs fs' : List (Str × V)}
theorem ins_get (hok : HOk P w H h) (e : H a = some (.ins C dx fs)) : ∃ mA, ObjM h a dx C mA ∧ (∀ f, RelO (fs.lookup f) (mA f)) ∧ PySem.Within mA (fs.map (·.1)) ∧ fs.length ≤ 1000 ∧ H dx = some (.own a) := by
  obtain ⟨d, z, ne, ob, mA, n, r, q⟩ := (show ObjOk P w H h a (.ins C dx fs) from hok a _ e)
  exact ⟨mA, ⟨ob, n, ne⟩, r, q, z, d⟩
end
structure Cls (K : PySem.W.Frag) (C : Addr) : Prop where
  pg : PySem.W.plainGet K C Str.empty = true
  hd : PySem.W.hasDictIn K C = true
  po : PySem.W.plainOver K C = true
  sa : PySem.W.findIn K (.ref C) "__setattr__" = some (some (.builtin "object.__setattr__"))
theorem Cls.get {K : PySem.W.Frag} {C : Addr} (c : Cls K C) (f : Str) : PySem.W.plainGet K C f = true := c.pg
def NoAttr (K : PySem.W.Frag) (C : Addr) (f : Str) : Prop := PySem.W.findIn K (.ref C) f = some none
theorem NoAttr.taker {K : PySem.W.Frag} {C : Addr} {f : Str} (n : NoAttr K C f) : PySem.W.takerIn K C f = some none := by
  unfold PySem.W.takerIn
  rw [show PySem.W.findIn K (.ref C) f = some none from n]
  rfl
structure Con (K : PySem.W.Frag) (C : Addr) (f : Str) (v : V) (u : Value) : Prop where
  at_ : PySem.W.findIn K (.ref C) f = some (some u)
  rel : RelV v u
  get : PySem.W.specialIn K u "__get__" = some none
  cp : PySem.W.copiedNames.contains f = false
structure Meth (K : PySem.W.Frag) (C : Addr) (m : Str) (f : Addr) : Prop where
  at_ : PySem.W.findIn K (.ref C) m = some (some (.ref f))
  fn : PySem.W.isFn K (.ref f) = true
  kp : PySem.W.keepIn K (.ref f) = true
section
variable {X : Cx} {pins : List (Addr × Obj)} {σ : St} {H : Hp} {s : Shared} {a C dx : Addr} {fs : List (Str × V)} {f : Str} {v : V} {A : Around} {E : Value → Shared → Prop}
theorem getattr_ok {b : Bool} {Q : Value → Shared → Prop} (I : Inv X pins σ H s) (e : H a = some (.ins C dx fs)) (c : Cls X.K C) (n : NoAttr X.K C f) (l : fs.lookup f = some v)
    (h : ∀ u s', Inv X pins σ H s' → RelV v u → Q u s') : wpAny (model X.prog X.w) A (getAttr (.ref a) f b) Q E s := by
  obtain ⟨mA, O, r, _, _, _⟩ := ins_get I.hok e
  obtain ⟨u, hu, ru⟩ := RelO.some_of (v := v) (o := mA f) (by rw [← l]; exact r f)
  exact get_map I.kIn O (c.get f) c.hd n hu (handed_of ru) (h u _ (I.tok _) ru)
theorem getmeth_ok {m : Str} {g : Addr} {pl : Sem Bool} {Q : Value × List Value → Shared → Prop} (I : Inv X pins σ H s) (e : H a = some (.ins C dx fs)) (c : Cls X.K C) (k : Meth X.K C m g) (l : fs.lookup m = none)
    (h : Q (.ref g, [.ref a]) s) : wpAny (model X.prog X.w) A (getMethod (.ref a) m pl) Q E s := by
  obtain ⟨mA, O, r, _, _, _⟩ := ins_get I.hok e
  have hn : mA m = none := RelO.none_of (by rw [← l]; exact r m)
  exact get_meth I.kIn O (c.get m) k.at_ k.fn hn h
theorem setattr_ok {y : V} {u : Value} {Q : Unit → Shared → Prop} (I : Inv X pins σ H s) (e : H a = some (.ins C dx fs)) (c : Cls X.K C) (n : NoAttr X.K C f) (hl : fs.length < 1000) (ry : RelV y u)
    (h : ∀ s', Inv X pins σ (upd H a (.ins C dx (putF f y fs))) s' → Q () s') : wpAny (model X.prog X.w) A (setAttr (.ref a) f u) Q E s := by
  obtain ⟨mA, O, r, wi, _, ho⟩ := ins_get I.hok e
  have hz : (fs.map (·.1)).length ≤ sizeLine := by rw [List.length_map, sizeLine_eq]; omega
  refine set_map I.kIn O c.sa c.po n.taker c.hd wi hz fun h' O' sb => h _ ?_
  have hd : ∃ o, h'.get? dx = some o := let ⟨o, _, _, e', _⟩ := O'.ns; ⟨o, e'⟩
  refine I.write (x := a) (e := dx) (by rw [e]; exact True.intro) (.inr ho) (fun b q hb z => (sb.2 b hb).trans z) hd ?_
  refine ⟨by rw [upd_ne O.ne]; exact ho, ?_, O.ne, O'.obj, _, O'.ns, fun g => ?_, fun g hg => ?_⟩
  · have := length_putF f y fs; omega
  · show RelO ((putF f y fs).lookup g) (if g = f then some u else mA g)
    rw [lookup_putF]
    by_cases q : g = f
    · rw [if_pos q, if_pos q]; exact ry
    · rw [if_neg q, if_neg q]; exact r g
  · by_cases q : g = f
    · rw [q]; exact (keys_putF f y fs).1
    · refine (keys_putF f y fs).2 g (wi g fun z => hg ?_)
      show (if g = f then some u else mA g) = none
      rw [if_neg q]; exact z
theorem Inv.made (I : Inv X pins σ H s) : Inv X pins σ (upd (upd H s.heap.objs.size (.own (s.heap.objs.size + 1))) (s.heap.objs.size + 1) (.ins C s.heap.objs.size []))
    { s with heap := (s.heap.push PySem.W.emptyDict).push (PySem.W.instObj C s.heap.objs.size) } := by
  have e1 : (s.heap.push PySem.W.emptyDict).get? s.heap.objs.size = some PySem.W.emptyDict := Heap.get?_push_size s.heap rfl
  have e2 : ((s.heap.push PySem.W.emptyDict).push (PySem.W.instObj C s.heap.objs.size)).get? (s.heap.objs.size + 1) = some (PySem.W.instObj C s.heap.objs.size) := by
    have := Heap.get?_push_size (s.heap.push PySem.W.emptyDict) (o := PySem.W.instObj C s.heap.objs.size) rfl
    rwa [Heap.size_push] at this
  have e3 : (s.heap.push PySem.W.emptyDict).Ns s.heap.objs.size (fun _ => none) := ⟨PySem.W.emptyDict, #[], _, e1, rfl, (fun e he => absurd he (by simp)), fun _ => rfl⟩
  have I1 := I.laid (a := s.heap.objs.size) (o := .own (s.heap.objs.size + 1)) (h' := s.heap.push PySem.W.emptyDict) (t' := s.toks) (fun b u q => Heap.get?_push_of_some _ q) (Nat.le_refl _) ⟨_, e1⟩
  refine I1.laid (a := s.heap.objs.size + 1) (o := .ins C s.heap.objs.size []) (t' := s.toks) (fun b u q => Heap.get?_push_of_some _ q) (Nat.le_of_eq (Heap.size_push _ _)) ?_
  have ne : s.heap.objs.size ≠ s.heap.objs.size + 1 := Nat.ne_of_lt (Nat.lt_succ_self _)
  refine ⟨by rw [upd_ne ne, upd_same], Nat.zero_le _, ne, e2, fun _ => none, (Heap.Ns1.of_empty e3).at fun o q => Heap.get?_push_of_some _ q, fun _ => True.intro, fun y hy => absurd rfl hy⟩
theorem attr_of {prog : Program} {w : World} {env : Env} {e : Expr} {f : Str} {pos : Pos} {s : Shared} {Q : Value → Shared → Prop} (hb : attributeBase e f env (eval e env) = eval e env)
    (h : wpAny (model prog w) A (eval e env) (fun o s₁ => wpAny (model prog w) A (getAttr o f true) Q E s₁) E s) : wpAny (model prog w) A (eval (.Attribute e f pos) env) Q E s :=
  Attribute_any_ h (by rw [arm_eval_Attribute, hb])
end
def tFld (K : PySem.W.Frag) (ta : TE) (f : Str) : TE := fun σ H Q => ta σ H fun x H1 => ∃ a C dx fs v, x = .ref a ∧ H1 a = some (.ins C dx fs) ∧ Cls K C ∧ NoAttr K C f ∧ fs.lookup f = some v ∧ Q v H1
def tCon (K : PySem.W.Frag) (ta : TE) (f : Str) : TE := fun σ H Q => ta σ H fun x H1 => ∃ a C dx fs v u, x = .ref a ∧ H1 a = some (.ins C dx fs) ∧ Cls K C ∧ Con K C f v u ∧ fs.lookup f = none ∧ Q v H1
def sFld (K : PySem.W.Frag) (ta tv : TE) (f : Str) : TS := fun D σ H => tv σ H fun y H1 => ta σ H1 fun x H2 => ∃ a C dx fs, x = .ref a ∧ H2 a = some (.ins C dx fs) ∧ Cls K C ∧ NoAttr K C f ∧ fs.length < 1000 ∧
  D.nx σ (upd H2 a (.ins C dx (putF f y fs)))
def InOp (X : Cx) (op : Operator) (rd : V → V → Hp → VK → Prop) : Prop :=
  ∀ (pins : List (Addr × Obj)) (s : Shared) (σ : St) (H : Hp) (x y : V) (u v : Value) (Q : VK), Inv X pins σ H s → RelV x u → RelV y v → rd x y H Q → wpAny (model X.prog X.w) X.A (inplaceOp op u v) (EP X pins σ Q) X.xe s
def sFldAug (K : PySem.W.Frag) (ta tv : TE) (rd : V → V → Hp → VK → Prop) (f : Str) : TS := fun D σ H => ta σ H fun x H1 => ∃ a C dx fs v, x = .ref a ∧ H1 a = some (.ins C dx fs) ∧ Cls K C ∧ NoAttr K C f ∧ fs.lookup f = some v ∧
  tv σ H1 fun y H2 => rd v y H2 fun z H3 => ∃ dx' fs', H3 a = some (.ins C dx' fs') ∧ fs'.length < 1000 ∧ D.nx σ (upd H3 a (.ins C dx' (putF f z fs')))
section
variable {X : Cx} {o e value : Expr} {f : Str} {pos pos' tpos : Pos} {ta tv : TE}
theorem pe_fld (he : PE X e ta) (hb : attributeBase e f X.env (eval e X.env) = eval e X.env) : PE X (.Attribute e f pos) (tFld X.K ta f) := by
  intro pins s σ H Q I h
  refine attr_of hb (thn (he pins s σ H _ I h) fun u s1 ⟨x, H1, I1, rx, a, C, dx, fs, v, ex, ea, c, n, l, q⟩ => ?_)
  subst ex
  obtain rfl : u = Value.ref a := rx
  exact getattr_ok I1 ea c n l fun u' s2 I2 ru => ⟨v, H1, I2, ru, q⟩
theorem ps_fld (ha : PE X o ta) (hv : PE X value tv) (hs : swapsWith value (some (.Attribute o f pos')) pos.line X.env = pure false) : PS X (.Assign [.Attribute o f pos'] value pos) (sFld X.K ta tv f) := by
  intro pins s σ H D I h
  refine plainObj_wpAny_Assign_Attribute (thn (hv pins s σ H _ I h) fun u s1 ⟨y, H1, I1, ry, q⟩ => thn (ha pins s1 σ H1 _ I1 q) fun ov s2 ⟨x, H2, I2, rx, a, C, dx, fs, ex, ea, c, n, l, q2⟩ => ?_) hs
  subst ex
  obtain rfl : ov = Value.ref a := rx
  exact setattr_ok I2 ea c n l ry fun s3 I3 => ⟨σ, _, I3, q2⟩
theorem ps_fldaug {op : Operator} {rd : V → V → Hp → VK → Prop} (ha : PE X o ta) (hv : PE X value tv) (hop : InOp X op rd) : PS X (.AugAssign (.Attribute o f tpos) op value pos) (sFldAug X.K ta tv rd f) := by
  intro pins s σ H D I h
  refine wpAny_AugAssign_AttributeAny (thn (ha pins s σ H _ I h) fun ov s1 ⟨x, H1, I1, rx, a, C, dx, fs, v, ex, ea, c, n, l, q⟩ => ?_)
  subst ex
  obtain rfl : ov = Value.ref a := rx
  refine getattr_ok I1 ea c n l fun u s2 I2 ru => thn (hv pins s2 σ H1 _ I2 q) fun w3 s3 ⟨y, H2, I3, ry, q3⟩ => thn (hop pins s3 σ H2 v y u w3 _ I3 ru ry q3) fun w4 s4 ⟨z, H3, I4, rz, dx', fs', ea', l', q4⟩ => ?_
  exact setattr_ok I4 ea' c n l' rz fun s5 I5 => ⟨σ, _, I5, q4⟩
def rAdd : V → V → Hp → VK → Prop := fun x y H Q => ∃ i j, x = .int i ∧ y = .int j ∧ Q (.int (i + j)) H
def rSub : V → V → Hp → VK → Prop := fun x y H Q => ∃ i j, x = .int i ∧ y = .int j ∧ Q (.int (i - j)) H
end
section
variable {X : Cx} {pins : List (Addr × Obj)} {σ : St} {H : Hp} {s : Shared} {A : Around} {E : Value → Shared → Prop} {Q : Value → Shared → Prop} {c : Value} {b : Bool}
inductive TyOf (K : PySem.W.Frag) (H : Hp) : V → Value → Prop where
  | non : TyOf K H .non (.type "NoneType")
  | bl (x : Bool) : TyOf K H (.bl x) (.type "bool")
  | int (i : Int) : TyOf K H (.int i) (.type "int")
  | str (x : Str) : TyOf K H (.str x) (.type "str")
  | flt (x : UInt64) : TyOf K H (.flt x) (.type "float")
  | lst {a : Addr} {xs : List V} (e : H a = some (.lst xs)) : TyOf K H (.ref a) (.type "list")
  | frz {a : Addr} {o : Obj} {xs : List V} (e : H a = some (.frz o (.lst xs))) : TyOf K H (.ref a) (.type "list")
  | tup {a : Addr} {xs : List V} (e : H a = some (.tup xs)) : TyOf K H (.ref a) (.type "tuple")
  | dK {a : Addr} {kvs : List (Key × V)} (e : H a = some (.dK kvs)) : TyOf K H (.ref a) (.type "dict")
  | dT {a : Addr} {kvs : List (List Key × V)} (e : H a = some (.dT kvs)) : TyOf K H (.ref a) (.type "dict")
  | ins {a C dx : Addr} {fs : List (Str × V)} (e : H a = some (.ins C dx fs)) (cl : Cls K C) (ha : PySem.W.findIn K (.ref C) "__class__" = some (some (.builtin "object.__class__")))
      (hn : PySem.W.specialIn K (.builtin "object.__class__") "__get__" = some (some (.builtin "getset_descriptor.__get__"))) (htk : PySem.W.takesIn K (.builtin "object.__class__") = some true)
      (hm : PySem.W.mroIn K C (.type "object") = some true) : TyOf K H (.ref a) (.ref C)
end
end L2
namespace L2
open PySem PySem.Spec PyProof.Rows
structure Room (k : Nat) (A : Around) : Prop where
  hd : A.handled = none
  dp : A.depth + 3 * k + 5 < recursionLimit
  un : A.units + 16 * k + 200 < cLine
  gd : A.guards = some []
theorem Room.mono {j k : Nat} {A : Around} (r : Room k A) (h : j ≤ k) : Room j A := ⟨r.hd, by have := r.dp; omega, by have := r.un; omega, r.gd⟩
theorem Room.deeper {k : Nat} {A : Around} (r : Room (k + 1) A) (env : Env) : Room k (A.deeper env) :=
  ⟨r.hd, by have := r.dp; show A.depth + 1 + 3 * k + 5 < _; omega, by have := r.un; show A.units + 3 + 16 * k + 200 < _; omega, r.gd⟩
theorem Room.in1 {k : Nat} {A : Around} (r : Room (k + 1) A) : Room k A.in1 :=
  ⟨r.hd, by have := r.dp; show A.depth + 3 * k + 5 < _; omega, by have := r.un; show A.units + 1 + 16 * k + 200 < _; omega, r.gd⟩
theorem make_depth {A : Around} {C : Addr} {us : List Value} {kw : List (Str × Value)} : (A.under (.builtin "type.__call__" ⟨.ref C :: us, kw⟩)).depth = A.depth + 1 := by
  first | rfl | simp [Around.under, Code.weight, Code.isCreation, Code.isGuard, Code.isCaller, Code.frames, Code.isFrame, guardIds]
theorem make_units {A : Around} {C : Addr} {us : List Value} {kw : List (Str × Value)} : (A.under (.builtin "type.__call__" ⟨.ref C :: us, kw⟩)).units = A.units + 1 := by
  first | rfl | simp [Around.under, Code.cUnits, Code.frames, Code.isFrame]
theorem make_guards {A : Around} {C : Addr} {us : List Value} {kw : List (Str × Value)} : (A.under (.builtin "type.__call__" ⟨.ref C :: us, kw⟩)).guards = A.guards := by
  first | rfl | (cases h : A.guards <;> simp [Around.under, Code.guards, Code.isGuard, guardIds, pushGuards, h])
theorem Room.make {k : Nat} {A : Around} (r : Room (k + 1) A) (C : Addr) (us : List Value) (kw : List (Str × Value)) : Room k (A.under (.builtin "type.__call__" ⟨.ref C :: us, kw⟩)) :=
  ⟨r.hd, by have := r.dp; rw [make_depth]; omega, by have := r.un; rw [make_units]; omega, by rw [make_guards]; exact r.gd⟩
theorem Room.depth {k : Nat} {A : Around} (r : Room k A) : A.depth < recursionLimit := by have := r.dp; omega
theorem Room.units {k : Nat} {A : Around} (r : Room k A) : A.units + 64 < cLine := by have := r.un; omega
def tNil : TA := fun _ H Q => Q [] H
def tCons (ta : TE) (tr : TA) : TA := fun σ H Q => ta σ H fun x H1 => tr σ H1 fun xs H2 => Q (x :: xs) H2
section
variable {X : Cx} {e : Expr} {es : List Expr} {te : TE} {t : TA} {pos : Pos}
theorem pa_nil : PA X [] tNil := fun _ _ _ _ H Q I h => Calls.spliced_nil ⟨[], H, I, .nil, h⟩
theorem pa_cons (ha : PE X e te) (hr : PA X es t) (hs : starEach (e :: es) X.env = (false, eval e X.env) :: starEach es X.env := by rfl) : PA X (e :: es) (tCons te t) := by
  intro pos pins s σ H Q I h
  rw [hs]
  show wpAny _ _ (spliced ((false, eval e X.env) :: backTo pos (starEach es X.env))) _ _ s
  refine Calls.spliced_cons (thn (ha pins s σ H _ I h) fun u s1 ⟨x, H1, I1, r1, q1⟩ => ?_)
  exact thn (hr pos pins s1 σ H1 _ I1 q1) fun us s2 ⟨xs, H2, I2, r2, q2⟩ => ⟨x :: xs, H2, I2, .cons r1 r2, q2⟩
def tTup (t : TA) : TE := fun σ H Q => t σ H fun xs H1 => xs.length ≤ sizeLine ∧ ∀ p, H1 p = none → Q (.ref p) (upd H1 p (.tup xs))
def tLst (t : TA) : TE := fun σ H Q => t σ H fun xs H1 => xs.length ≤ sizeLine ∧ ∀ p, H1 p = none → Q (.ref p) (upd H1 p (.lst xs))
theorem pe_tup {x1} (h : PA X es t) : PE X (.Tuple es x1 pos) (tTup t) := by
  intro pins s σ H Q I hq
  refine wpAny_Tuple_spliced (thn (h pos pins s σ H _ I hq) fun us s1 ⟨xs, H1, I1, r, z, q⟩ => ⟨by rw [← r.length]; exact z, ?_⟩)
  have hf : H1 s1.heap.objs.size = none := I1.hok.fresh (Nat.le_refl _)
  refine ⟨.ref s1.heap.objs.size, upd H1 s1.heap.objs.size (.tup xs), I1.laid (t' := s1.toks) (fun b u e => Heap.get?_push_of_some _ e) (Nat.le_refl _) ?_, rfl, q _ hf⟩
  exact ⟨z, us, r, ⟨_, Heap.get?_push_size _ rfl, rfl, _, rfl⟩⟩
theorem pe_lst (h : PA X es t) : PE X (.List es pos) (tLst t) := by
  intro pins s σ H Q I hq
  refine wpAny_List_spliced (thn (h pos pins s σ H _ I hq) fun us s1 ⟨xs, H1, I1, r, z, q⟩ => ⟨by rw [← r.length]; exact z, ?_⟩)
  have hf : H1 s1.heap.objs.size = none := I1.hok.fresh (Nat.le_refl _)
  refine ⟨.ref s1.heap.objs.size, upd H1 s1.heap.objs.size (.lst xs), I1.laid (t' := s1.toks) (fun b u e => Heap.get?_push_of_some _ e) (Nat.le_refl _) ?_, rfl, q _ hf⟩
  exact ⟨z, us, 0, r, Heap.get?_push_size _ rfl⟩
end
abbrev Sp := List V → Hp → VK → XK → Prop
abbrev CXT := List Env → Hp → Shared → XK → Value → Shared → Prop
structure Env0 (P : Program) (w : World) (K : PySem.W.Frag) (mg : Str → Option Value) (base : Heap) (A : Around) (outer : List Env) (s : Shared) (H : Hp) : Prop where
  frames : A.frames = some outer
  mod : Mod K mg base
  bs : ∀ b o, base.get? b = some o → s.heap.get? b = some o ∧ H b = none
  bsz : base.objs.size ≤ s.heap.objs.size
  funs : s.heap.FunFrames base outer
  frf : ∀ b ∈ frs outer, H b = none
  hok : HOk P w H s.heap
  bare : AllBare s.gens
def CE (outer : List Env) (P : Program) (w : World) (H : Hp) (s : Shared) (Q : VK) (u : Value) (s' : Shared) : Prop :=
  ∃ v H', s'.os = s.os ∧ AllBare s'.gens ∧ Un (frs outer) [] H H' s.heap s'.heap ∧ HOk P w H' s'.heap ∧ RelV v u ∧ Q v H'
def CR (CX : CXT) (outer : List Env) (P : Program) (w : World) (H : Hp) (s : Shared) (Q : VK) (E : XK) (r : Result) (s' : Shared) : Prop :=
  match r with
  | .ok (.ret u) => CE outer P w H s Q u s'
  | .ok _ => False
  | .error e => CX outer H s E e s'
structure FnOk (P : Program) (w : World) (K : PySem.W.Frag) (mg : Str → Option Value) (base : Heap) (CX : CXT) (k : Nat) (f : Addr) (fd : FuncData) (ps : List Str) (sp : Sp) : Prop where
  len : ∀ vs H Q E, sp vs H Q E → vs.length = ps.length
  run : ∀ (A : Around) (outer : List Env) (s : Shared) (H : Hp) (args : Args) (us : List Value) (vs : List V) (Q : VK) (E : XK), Room k A → Env0 P w K mg base A outer s H → BindsTo s fd args (ps.zip us) → Vals vs us → sp vs H Q E →
    codeAny (model P w) A (.call (.ref f) args) (CR CX outer P w H s Q E) s
theorem FnOk.mono {P : Program} {w : World} {K : PySem.W.Frag} {mg : Str → Option Value} {base : Heap} {CX : CXT} {j k : Nat} {f : Addr} {fd : FuncData} {ps : List Str} {sp : Sp} (F : FnOk P w K mg base CX j f fd ps sp) (h : j ≤ k) :
    FnOk P w K mg base CX k f fd ps sp := ⟨F.len, fun A outer s H args us vs Q E hr => F.run A outer s H args us vs Q E (hr.mono h)⟩
theorem FnOk.imp {P : Program} {w : World} {K : PySem.W.Frag} {mg : Str → Option Value} {base : Heap} {CX : CXT} {k : Nat} {f : Addr} {fd : FuncData} {ps : List Str} {sp sp' : Sp} (F : FnOk P w K mg base CX k f fd ps sp)
    (h : ∀ vs H Q E, sp' vs H Q E → sp vs H Q E) : FnOk P w K mg base CX k f fd ps sp' :=
  ⟨fun vs H Q E q => F.len vs H Q E (h _ _ _ _ q), fun A outer s H args us vs Q E hr he hb hv hs => F.run A outer s H args us vs Q E hr he hb hv (h _ _ _ _ hs)⟩
theorem Env0.make {P : Program} {w : World} {K : PySem.W.Frag} {mg : Str → Option Value} {base : Heap} {A : Around} {outer : List Env} {s : Shared} {H : Hp} (e : Env0 P w K mg base A outer s H) (C : Addr) (us : List Value) (kw : List (Str × Value)) :
    Env0 P w K mg base (A.under (.builtin "type.__call__" ⟨.ref C :: us, kw⟩)) outer s H := ⟨by first | exact e.frames | (simpa [Around.under, Code.envs, Code.isFrame, pushEnvs] using e.frames), e.mod, e.bs, e.bsz, e.funs, e.frf, e.hok, e.bare⟩
theorem Env0.in1 {P : Program} {w : World} {K : PySem.W.Frag} {mg : Str → Option Value} {base : Heap} {A : Around} {outer : List Env} {s : Shared} {H : Hp} (e : Env0 P w K mg base A outer s H) :
    Env0 P w K mg base A.in1 outer s H := ⟨e.frames, e.mod, e.bs, e.bsz, e.funs, e.frf, e.hok, e.bare⟩
section
variable {X : Cx} {pins : List (Addr × Obj)} {σ : St} {H : Hp} {s s' : Shared}
theorem Inv.env0 (I : Inv X pins σ H s) : Env0 X.prog X.w X.K X.mg X.base X.A X.stack s H :=
  ⟨I.ok.frames, I.ok.mod, I.bs, Nat.le_trans I.ok.bsz I.sz, I.stack, I.stkFree, I.hok, I.bare⟩
theorem Inv.after {Q : VK} {u : Value} (I : Inv X pins σ H s) (h : CE X.stack X.prog X.w H s Q u s') : EP X pins σ Q u s' := by
  obtain ⟨v, H', os, bare, un, hok, r, q⟩ := h
  obtain ⟨hh, g, d, t, os'⟩ := s'
  obtain rfl : os' = s.os := os
  exact ⟨v, H', I.call (h' := hh) (g' := g) (d' := d) (t' := t) (ch := []) un hok bare (fun b z => absurd z (by simp)), r, q⟩
end
def tCall (sp : Sp) (dvs : List V) (E : XK) (t : TA) : TE := fun σ H Q => t σ H fun vs H1 => sp (vs ++ dvs) H1 Q E
def tMeth (C : Addr) (m : Str) (sp : Sp) (dvs : List V) (E : XK) (ta : TE) (t : TA) : TE := fun σ H Q => ta σ H fun x H1 => ∃ a dx fs, x = .ref a ∧ H1 a = some (.ins C dx fs) ∧ fs.lookup m = none ∧
  t σ H1 fun vs H2 => sp (x :: (vs ++ dvs)) H2 Q E
def tMake (C : Addr) (sp : Sp) (dvs : List V) (E : XK) (t : TA) : TE := fun σ H Q => t σ H fun vs H1 => ∀ x dx, H1 x = none → H1 dx = none → dx ≠ x →
  sp (.ref x :: (vs ++ dvs)) (upd (upd H1 dx (.own x)) x (.ins C dx [])) (fun v H2 => v = .non ∧ Q (.ref x) H2) E
def Binds (K : PySem.W.Frag) (fd : FuncData) (ps : List Str) (ds : List Value) : Prop :=
  ∀ (s : Shared) (us : List Value), K.In s.heap → (us ++ ds).length = ps.length → BindsTo s fd ⟨us, []⟩ (ps.zip (us ++ ds))
theorem Binds.all {K : PySem.W.Frag} {fd : FuncData} {ps : List Str} (h : ∀ us : List Value, us.length = ps.length → bindArgs fd ⟨us, []⟩ = pure (ps.zip us)) : Binds K fd ps [] := fun s us _ hl => by
  rw [List.append_nil] at hl ⊢
  exact .of_eq (h us hl)
def Passes (CX : CXT) (X : Cx) (E : XK) : Prop := ∀ (pins : List (Addr × Obj)) (σ : St) (H : Hp) (s : Shared) (e : Value) (s' : Shared), Inv X pins σ H s → CX X.stack H s E e s' → X.xe e s'
section
variable {X : Cx} {CX : CXT} {k : Nat} {f C : Addr} {fd : FuncData} {ps : List Str} {sp : Sp} {dvs : List V} {ds : List Value} {E : XK} {x m : Str} {p pos apos : Pos} {e o : Expr} {es : List Expr} {ta : TE} {t : TA}
theorem run_fn {pins : List (Addr × Obj)} {σ : St} {H : Hp} {s : Shared} {Q : VK} {us : List Value} {vs : List V} (F : FnOk X.prog X.w X.K X.mg X.base CX k f fd ps sp) (hr : Room k X.A) (hb : Binds X.K fd ps ds) (hd : Vals dvs ds) (hx : Passes CX X E)
    (I : Inv X pins σ H s) (r : Vals vs us) (h : sp (vs ++ dvs) H Q E) : wpAny (model X.prog X.w) X.A (call (.ref f) us) (EP X pins σ Q) X.xe s := by
  have r2 : Vals (vs ++ dvs) (us ++ ds) := r.append hd
  have hl : (us ++ ds).length = ps.length := by rw [← r2.length]; exact F.len _ _ _ _ h
  refine wpAny_call (codeAny_mono (F.run X.A X.stack s H ⟨us, []⟩ (us ++ ds) (vs ++ dvs) Q E hr I.env0 (hb s us I.kIn hl) r2 h) fun r s' hq => ?_)
  cases r with
  | error e => exact hx pins σ H s e s' I hq
  | ok fl =>
    cases fl with
    | ret u => exact I.after hq
    | next => exact False.elim hq
    | brk => exact False.elim hq
    | cont => exact False.elim hq
theorem pe_call (F : FnOk X.prog X.w X.K X.mg X.base CX k f fd ps sp) (hr : Room k X.A) (hg : Gl X x) (hm : X.mg x = some (.ref f)) (hk : PySem.W.keepIn X.K (.ref f) = true) (hb : Binds X.K fd ps ds) (hd : Vals dvs ds) (hx : Passes CX X E)
    (ha : PA X (e :: es) t) (hdb : (x == ("__debug__" : Str)) = false := by decide) (he : starEach (e :: es) X.env = (false, eval e X.env) :: starEach es X.env := by rfl) (hpl : (backTo pos (starEach es X.env)).any (·.1) = false := by rfl) :
    PE X (.Call (.Name x p) (e :: es) [] pos) (tCall sp dvs E t) := by
  intro pins s σ H Q I h
  refine wpAny_Call_Name_kw (ld_glob I hg hm ?_ hdb)
  refine PySem.W.callWith_K (h₀ := X.base) I.ok.mod.kin hk (thn (ha pos pins s σ H _ I h) fun us s1 ⟨vs, H1, I1, r, q⟩ => ⟨I1.kIn, ?_⟩) he hpl
  exact run_fn F hr hb hd hx I1 r q
theorem pe_meth {pl : Sem Bool} (he : PE X o ta) (c : Cls X.K C) (hm : Meth X.K C m f) (F : FnOk X.prog X.w X.K X.mg X.base CX k f fd ps sp) (hr : Room k X.A) (hb : Binds X.K fd ps ds) (hd : Vals dvs ds) (hx : Passes CX X E) (ha : PA X (e :: es) t)
    (hst : starEach (e :: es) X.env = (false, eval e X.env) :: starEach es X.env := by rfl) (hpl : (backTo pos (starEach es X.env)).any (·.1) = false := by rfl)
    (ht : eval (.Call (.Attribute o m apos) (e :: es) [] pos) X.env = (do
      let ov ← eval o X.env
      standAt apos.atName
      let (f, first) ← holding [ov] (getMethod ov m pl)
      callWith pos f first (backTo pos (starEach (e :: es) X.env)) (backToKw pos (keywordEach [] X.env))) := by rfl) :
    PE X (.Call (.Attribute o m apos) (e :: es) [] pos) (tMeth C m sp dvs E ta t) := by
  intro pins s σ H Q I h
  refine PySem.W.methodCall_KW (pl := pl) (thn (he pins s σ H _ I h) fun u s1 ⟨x, H1, I1, rx, a, dx, fs, ex, ea, l, q⟩ => ?_) ht
  subst ex
  obtain rfl : u = Value.ref a := rx
  refine getmeth_ok I1 ea c hm l ?_
  refine PySem.W.callWith_K (first := [.ref a]) (h₀ := X.base) I.ok.mod.kin hm.kp (thn (ha pos pins s1 σ H1 _ I1 q) fun us s2 ⟨vs, H2, I2, r, q2⟩ => ⟨I2.kIn, ?_⟩) hst hpl
  exact run_fn (us := .ref a :: us) (vs := .ref a :: vs) F hr hb hd hx I2 (.cons rfl r) q2
theorem pe_meth0 {pl : Sem Bool} (he : PE X o ta) (c : Cls X.K C) (hm : Meth X.K C m f) (F : FnOk X.prog X.w X.K X.mg X.base CX k f fd ps sp) (hr : Room k X.A) (hb : Binds X.K fd ps ds) (hd : Vals dvs ds) (hx : Passes CX X E)
    (ht : eval (.Call (.Attribute o m apos) [] [] pos) X.env = (do
      let ov ← eval o X.env
      standAt apos.atName
      let (f, first) ← holding [ov] (getMethod ov m pl)
      callWith pos f first (backTo pos (starEach [] X.env)) (backToKw pos (keywordEach [] X.env))) := by rfl) :
    PE X (.Call (.Attribute o m apos) [] [] pos) (tMeth C m sp dvs E ta tNil) := by
  intro pins s σ H Q I h
  refine PySem.W.methodCall_KW (pl := pl) (thn (he pins s σ H _ I h) fun u s1 ⟨x, H1, I1, rx, a, dx, fs, ex, ea, l, q⟩ => ?_) ht
  subst ex
  obtain rfl : u = Value.ref a := rx
  refine getmeth_ok I1 ea c hm l ?_
  exact PySem.W.callWith_K0 (first := [.ref a]) I1.kIn hm.kp (run_fn (us := [.ref a]) (vs := [.ref a]) F hr hb hd hx I1 (.cons rfl .nil) q)
structure Mk (K : PySem.W.Frag) (C f : Addr) : Prop where
  makes : PySem.W.makesIn K C = true
  init : PySem.W.findIn K (.ref C) "__init__" = some (some (.ref f))
  fn : PySem.W.isFn K (.ref f) = true
  kp : PySem.W.keepIn K (.ref C) = true
theorem run_make {pins : List (Addr × Obj)} {σ : St} {H : Hp} {s : Shared} {Q : VK} {us : List Value} {vs : List V} (M : Mk X.K C f) (F : FnOk X.prog X.w X.K X.mg X.base CX k f fd ps sp) (hr : Room (k + 1) X.A) (hb : Binds X.K fd ps ds) (hd : Vals dvs ds)
    (hx : Passes CX X E) (I : Inv X pins σ H s) (r : Vals vs us)
    (h : ∀ x dx, H x = none → H dx = none → dx ≠ x → sp (.ref x :: (vs ++ dvs)) (upd (upd H dx (.own x)) x (.ins C dx [])) (fun v H2 => v = .non ∧ Q (.ref x) H2) E) :
    wpAny (model X.prog X.w) X.A (call (.ref C) us) (EP X pins σ Q) X.xe s := by
  have hq := h (s.heap.objs.size + 1) s.heap.objs.size (I.hok.fresh (Nat.le_succ _)) (I.hok.fresh (Nat.le_refl _)) (Nat.ne_of_lt (Nat.lt_succ_self _))
  have I2 := Inv.made (C := C) I
  have r2 : Vals (V.ref (s.heap.objs.size + 1) :: (vs ++ dvs)) (Value.ref (s.heap.objs.size + 1) :: (us ++ ds)) := .cons rfl (r.append hd)
  have hl : (Value.ref (s.heap.objs.size + 1) :: us ++ ds).length = ps.length := by
    have e := r2.length
    rw [F.len _ _ _ _ hq] at e
    exact e.symm
  refine wpAny_call (make_map (f := f) I.kIn M.makes M.init (beq_iff_eq.mp M.fn) (codeAny_mono (F.run _ X.stack _ _ ⟨Value.ref (s.heap.objs.size + 1) :: us, []⟩ (Value.ref (s.heap.objs.size + 1) :: (us ++ ds)) _ _ E (hr.make C us [])
    (I2.env0.make C us []) (hb _ (Value.ref (s.heap.objs.size + 1) :: us) I2.kIn hl) r2 hq) fun r s' hq' => ?_))
  cases r with
  | error e => exact hx pins σ _ _ e s' I2 hq'
  | ok fl =>
    cases fl with
    | ret u =>
      obtain ⟨v, H', I3, rv, ev, q3⟩ := I2.after hq'
      subst ev
      exact ⟨rv, ⟨V.ref (s.heap.objs.size + 1), H', I3, rfl, q3⟩⟩
    | next => exact False.elim hq'
    | brk => exact False.elim hq'
    | cont => exact False.elim hq'
theorem pe_make (M : Mk X.K C f) (F : FnOk X.prog X.w X.K X.mg X.base CX k f fd ps sp) (hr : Room (k + 1) X.A) (hg : Gl X x) (hm : X.mg x = some (.ref C)) (hb : Binds X.K fd ps ds) (hd : Vals dvs ds) (hx : Passes CX X E)
    (ha : PA X (e :: es) t) (hdb : (x == ("__debug__" : Str)) = false := by decide) (he : starEach (e :: es) X.env = (false, eval e X.env) :: starEach es X.env := by rfl) (hpl : (backTo pos (starEach es X.env)).any (·.1) = false := by rfl) :
    PE X (.Call (.Name x p) (e :: es) [] pos) (tMake C sp dvs E t) := by
  intro pins s σ H Q I h
  refine wpAny_Call_Name_kw (ld_glob I hg hm ?_ hdb)
  refine PySem.W.callWith_K (h₀ := X.base) I.ok.mod.kin M.kp (thn (ha pos pins s σ H _ I h) fun us s1 ⟨vs, H1, I1, r, q⟩ => ⟨I1.kIn, ?_⟩) he hpl
  exact run_make M F hr hb hd hx I1 r q
end
def PK (X : Cx) (kws : List Keyword) (t : TA) : Prop :=
  ∀ (pos : Pos) (pins : List (Addr × Obj)) (s : Shared) (σ : St) (H : Hp) (Q : List V → Hp → Prop), Inv X pins σ H s → t σ H Q → wpAny (model X.prog X.w) X.A (evalAll ((backToKw pos (keywordEach kws X.env)).map (·.2))) (AP X pins σ Q) X.xe s
section
variable {X : Cx} {CX : CXT} {k : Nat} {f C : Addr} {fd : FuncData} {ps ks : List Str} {sp : Sp} {E : XK} {x m : Str} {p pos apos kpos : Pos} {e o : Expr} {es : List Expr} {kws : List Keyword} {te ta : TE} {t tk : TA} {nm : Option Str}
theorem pk_nil : PK X [] tNil := fun _ _ _ _ H Q I h => wpAny_evalAll_nil ⟨[], H, I, .nil, h⟩
theorem pk_cons (ha : PE X e te) (hr : PK X kws t) : PK X (⟨nm, e, kpos⟩ :: kws) (tCons te t) := by
  intro pos pins s σ H Q I h
  show wpAny _ _ (evalAll ((do let v ← eval e X.env; standAt pos; pure v) :: (backToKw pos (keywordEach kws X.env)).map (·.2))) _ _ s
  refine wpAny_evalAll_cons (wpAny_bind (thn (ha pins s σ H _ I h) fun u s1 ⟨x, H1, I1, r1, q1⟩ => wpAny_bind (wpAny_standAt (wpAny_pure ?_))))
  exact thn (hr pos pins s1 σ H1 _ I1 q1) fun us s2 ⟨xs, H2, I2, r2, q2⟩ => ⟨x :: xs, H2, I2, .cons r1 r2, q2⟩
structure KBinds (K : PySem.W.Frag) (fd : FuncData) (ps ks : List Str) (g : List Value → List Value → List Value) (gV : List V → List V → List V) : Prop where
  to : ∀ (s : Shared) (us ws : List Value), K.In s.heap → (g us ws).length = ps.length → BindsTo s fd ⟨us, ks.zip ws⟩ (ps.zip (g us ws))
  rel : ∀ {vs : List V} {us : List Value} {zs : List V} {ws : List Value}, Vals vs us → Vals zs ws → Vals (gV vs zs) (g us ws)
def tCallK (sp : Sp) (gV : List V → List V → List V) (E : XK) (t tk : TA) : TE := fun σ H Q => t σ H fun vs H1 => tk σ H1 fun zs H2 => sp (gV vs zs) H2 Q E
variable {g : List Value → List Value → List Value} {gV : List V → List V → List V}
theorem run_fnk {pins : List (Addr × Obj)} {σ : St} {H : Hp} {s : Shared} {Q : VK} {us ws : List Value} {vs zs : List V} (F : FnOk X.prog X.w X.K X.mg X.base CX k f fd ps sp) (hr : Room k X.A) (hb : KBinds X.K fd ps ks g gV) (hx : Passes CX X E)
    (I : Inv X pins σ H s) (r : Vals vs us) (rz : Vals zs ws) (h : sp (gV vs zs) H Q E) : wpAny (model X.prog X.w) X.A (call (.ref f) us (ks.zip ws)) (EP X pins σ Q) X.xe s := by
  have r2 := hb.rel r rz
  have hl : (g us ws).length = ps.length := by rw [← r2.length]; exact F.len _ _ _ _ h
  refine wpAny_call (codeAny_mono (F.run X.A X.stack s H ⟨us, ks.zip ws⟩ (g us ws) (gV vs zs) Q E hr I.env0 (hb.to s us ws I.kIn hl) r2 h) fun r s' hq => ?_)
  cases r with
  | error e => exact hx pins σ H s e s' I hq
  | ok fl =>
    cases fl with
    | ret u => exact I.after hq
    | next => exact False.elim hq
    | brk => exact False.elim hq
    | cont => exact False.elim hq
theorem pe_callK (F : FnOk X.prog X.w X.K X.mg X.base CX k f fd ps sp) (hr : Room k X.A) (hg : Gl X x) (hm : X.mg x = some (.ref f)) (hk : PySem.W.keepIn X.K (.ref f) = true) (hb : KBinds X.K fd ps ks g gV) (hx : Passes CX X E)
    (ha : PA X (e :: es) t) (hkw : PK X kws tk) (hall : (backToKw pos (keywordEach kws X.env)).all (·.1.isSome) = true := by rfl) (hks : (backToKw pos (keywordEach kws X.env)).filterMap (·.1) = ks := by rfl)
    (hdb : (x == ("__debug__" : Str)) = false := by decide) (he : starEach (e :: es) X.env = (false, eval e X.env) :: starEach es X.env := by rfl)
    (hpl : ((backTo pos (starEach (e :: es) X.env)).any (·.1) || (backToKw pos (keywordEach kws X.env)).any (·.1.isNone)) = false := by rfl) :
    PE X (.Call (.Name x p) (e :: es) kws pos) (tCallK sp gV E t tk) := by
  intro pins s σ H Q I h
  refine wpAny_Call_Name_kw (ld_glob I hg hm ?_ hdb)
  refine PySem.W.callWith_KW (h₀ := X.base) I.ok.mod.kin hk hall (thn (ha pos pins s σ H _ I h) fun us s1 ⟨vs, H1, I1, r, q⟩ => ?_) hpl he
  refine thn (hkw pos pins s1 σ H1 _ I1 q) fun ws s2 ⟨zs, H2, I2, rz, q2⟩ => ⟨I2.kIn, ?_⟩
  rw [hks]
  exact run_fnk F hr hb hx I2 r rz q2
end
structure FnScope (N P : List Str) (sc : Scope) : Prop where
  kind : sc.kind = .function
  co : sc.isCoroutine = false
  gen : sc.isGenerator = false
  nd : N.Nodup
  pre : N.take P.length = P
  par : ∀ x ∈ P, sc.names.lookup x = some .local ∨ sc.names.lookup x = some .cell
  nofree : ∀ y ∈ sc.names, y.2 ≠ .free
theorem bindL_out {kindOf : Str → Option NameKind} {x : Str} : ∀ {binds : List (Str × Value)} {m : Str → Option Value}, (∀ v, (x, v) ∉ binds) → bindL kindOf binds m x = m x
  | [], _, _ => rfl
  | (n, v) :: r, m, h => by
    unfold bindL
    rw [bindL_out fun w hw => h w (List.mem_cons_of_mem _ hw)]
    split
    · have : x ≠ n := by rintro rfl; exact h v List.mem_cons_self
      simp [this]
    · rfl
theorem bindC_out {kindOf : Str → Option NameKind} {x : Str} : ∀ {binds : List (Str × Value)} {m : Str → Option Value}, (∀ v, (x, v) ∉ binds) → bindC kindOf binds m x = m x
  | [], _, _ => rfl
  | (n, v) :: r, m, h => by
    unfold bindC
    rw [bindC_out fun w hw => h w (List.mem_cons_of_mem _ hw)]
    split
    · rfl
    · have : x ≠ n := by rintro rfl; exact h v List.mem_cons_self
      simp [this]
theorem bindL_get {kindOf : Str → Option NameKind} {x : Str} {v : Value} : ∀ {P : List Str} {vs : List Value} {i : Nat} {m : Str → Option Value}, P.Nodup → P[i]? = some x → vs[i]? = some v → kindOf x = some .local →
    bindL kindOf (P.zip vs) m x = some v
  | [], _, _, _, _, h, _, _ => by simp at h
  | _ :: _, [], _, _, _, _, h, _ => by simp at h
  | p :: P, w :: vs, 0, m, nd, h1, h2, hk => by
    simp at h1 h2; subst h1; subst h2
    show bindL kindOf ((p, w) :: P.zip vs) m p = _
    unfold bindL
    rw [bindL_out fun v hv => (List.nodup_cons.mp nd).1 (List.of_mem_zip hv).1, if_pos hk]
    simp
  | p :: P, w :: vs, i + 1, m, nd, h1, h2, hk => by
    show bindL kindOf ((p, w) :: P.zip vs) m x = _
    unfold bindL
    exact bindL_get (i := i) (List.nodup_cons.mp nd).2 (by simpa using h1) (by simpa using h2) hk
theorem bindC_get {kindOf : Str → Option NameKind} {x : Str} {v : Value} : ∀ {P : List Str} {vs : List Value} {i : Nat} {m : Str → Option Value}, P.Nodup → P[i]? = some x → vs[i]? = some v → kindOf x ≠ some .local →
    bindC kindOf (P.zip vs) m x = some v
  | [], _, _, _, _, h, _, _ => by simp at h
  | _ :: _, [], _, _, _, _, h, _ => by simp at h
  | p :: P, w :: vs, 0, m, nd, h1, h2, hk => by
    simp at h1 h2; subst h1; subst h2
    show bindC kindOf ((p, w) :: P.zip vs) m p = _
    unfold bindC
    rw [bindC_out fun v hv => (List.nodup_cons.mp nd).1 (List.of_mem_zip hv).1, if_neg hk]
    simp
  | p :: P, w :: vs, i + 1, m, nd, h1, h2, hk => by
    show bindC kindOf ((p, w) :: P.zip vs) m x = _
    unfold bindC
    exact bindC_get (i := i) (List.nodup_cons.mp nd).2 (by simpa using h1) (by simpa using h2) hk
def start (N : List Str) (vs : List V) : St := vs.map some ++ List.replicate (N.length - vs.length) none
def cxOf (CX : CXT) (P : Program) (w : World) (K : PySem.W.Frag) (mg : Str → Option Value) (base : Heap) (N : List Str) (qual : Str) (scope : Scope) (f : Addr) (cd : Value) (A : Around) (outer : List Env) (s : Shared) (H : Hp) (E : XK) : Cx where
  prog := P
  w := w
  K := K
  mg := mg
  base := base
  A := A.deeper (envOfC qual scope s.heap.objs.size f cd)
  N := N
  s_0 := s
  H_0 := H
  env := envOfC qual scope s.heap.objs.size f cd
  outer := outer
  stack := envOfC qual scope s.heap.objs.size f cd :: outer
  ex := []
  calm := true
  fn := fun _ => true
  pn := []
  xe := fun e s' => wpAny (model P w) (A.deeper (envOfC qual scope s.heap.objs.size f cd)) (leaving (envOfC qual scope s.heap.objs.size f cd) e) (fun _ s'' => CX outer H s E e s'') (fun e' s'' => CX outer H s E e' s'') s'
theorem cell_has {sc : Scope} {n : Nat} {x : Str} (h : sc.names.lookup x = some .cell) : ∃ c, (cellsFrom n sc.names []).lookup x = some c := by
  have q := PySem.W.cellsFrom_some sc.names n [] (.inl h)
  exact Option.isSome_iff_exists.mp q
theorem inv_start {CX : CXT} {P : Program} {w : World} {K : PySem.W.Frag} {mg : Str → Option Value} {base : Heap} {N ps : List Str} {qual : Str} {scope : Scope} {f : Addr} {cd : Value} {A : Around} {outer : List Env} {s s1 : Shared} {H : Hp} {E : XK} {us : List Value} {vs : List V}
    (S : FnScope N ps scope) (hd : A.handled = none) (e0 : Env0 P w K mg base A outer s H) (hl : vs.length = ps.length) (r : Vals vs us)
    (x : InCallC s s.heap.objs.size (bindL (envOfC qual scope s.heap.objs.size f cd).kindOf (ps.zip us) fun _ => none) (cellsFrom (s.heap.objs.size + 1) scope.names []) (bindC (envOfC qual scope s.heap.objs.size f cd).kindOf (ps.zip us) fun _ => none) s1) :
    Inv (cxOf CX P w K mg base N qual scope f cd A outer s H E) [] (start N vs) H s1 := by
  have hpl : ps.length ≤ N.length := by have := congrArg List.length S.pre; rw [List.length_take] at this; omega
  obtain ⟨h1, tk, rfl, hk⟩ := x.done
  have noA : ∀ b : Addr, b ∉ (cxOf CX P w K mg base N qual scope f cd A outer s H E).ex := fun b z => absurd (show b ∈ ([] : List Addr) from z) (by simp)
  refine ⟨⟨e0.mod, S.kind, rfl, rfl, Nat.le_refl _, fun y z c h1 h2 => ?_, fun y hy => ?_, fun y c _ h => ?_, fun _ => hd, Around.frames_deeper e0.frames, .inr ⟨rfl, rfl⟩, fun b z => absurd z (noA b), e0.bs, e0.bsz, fun b _ _ => noA b, fun b z => absurd z (noA b), e0.funs, e0.frf⟩,
    rfl, e0.bare, Un.kept hk, ⟨_, x.toInCall.ns, fun i y v h1 h2 h3 => ?_⟩, fun y c h => ⟨_, x.cell y c h⟩, e0.hok.fresh (Nat.le_refl _), fun y c h => ?_, fun p hp => absurd (show p ∈ ([] : List (Addr × Obj)) from hp) (by simp), e0.hok.kept hk, ?_⟩
  · exact name_of_addr x.apart (PySem.mem_of_lookup h1) (PySem.mem_of_lookup h2)
  · have hy : scope.names.lookup y = some .cell ∨ scope.names.lookup y = some .free := hy
    rcases hy with hy | hy
    · exact cell_has hy
    · exact absurd rfl (S.nofree _ (PySem.mem_of_lookup hy))
  · exact Nat.le_of_lt (x.above y c (PySem.mem_of_lookup h))
  · have hi : i < vs.length := by
      unfold start at h2
      by_cases hi : i < vs.length
      · exact hi
      · rw [List.getElem?_append_right (by simpa using hi)] at h2
        rw [List.getElem?_replicate] at h2
        split at h2 <;> cases h2
    have ha : vs[i]? = some v := by
      unfold start at h2
      rw [List.getElem?_append_left (by simpa using hi), List.getElem?_map] at h2
      cases e : vs[i]? with
      | none => rw [e] at h2; cases h2
      | some a => rw [e] at h2; cases h2; rfl
    obtain ⟨u, hu, rv⟩ := r.get ha
    have hp : ps[i]? = some y := by
      rw [← S.pre, List.getElem?_take_of_lt (by omega)]; exact h1
    have ndP : ps.Nodup := by rw [← S.pre]; exact S.nd.sublist (List.take_sublist _ _)
    refine ⟨u, rv, ?_⟩
    rcases S.par y (List.mem_of_getElem? hp) with k | k
    · exact .inl ⟨k, bindL_get ndP hp hu k⟩
    · obtain ⟨c, e⟩ := cell_has (n := s.heap.objs.size + 1) k
      refine .inr ⟨.inl k, c, e, ?_⟩
      have q := x.cell y c e
      rw [bindC_get ndP hp hu (by show scope.names.lookup y ≠ _; rw [k]; decide)] at q
      exact q
  · exact e0.hok.fresh (Nat.le_of_lt (x.above y c (PySem.mem_of_lookup h)))
  · unfold start
    show _ = N.length
    rw [List.length_append, List.length_map, List.length_replicate]
    omega
theorem fn_of {CX : CXT} {P : Program} {w : World} {K : PySem.W.Frag} {mg : Str → Option Value} {base : Heap} {k : Nat} {f : Addr} {name qual : Str} {params : Arguments} {body : List Stmt} {scope : Scope} {dV kV doc pm cdv ct oc : Value} {an od : Option Addr}
    {osl : Array (Option Value)} {N ps : List Str} {sp : Sp} (lk : K.lookup f = some ⟨oc, od, .func (PySem.W.fnOf name qual params body scope dV kV doc pm an cdv ct), osl⟩) (hcd : PySem.W.codeIn K cdv qual = true) (S : FnScope N ps scope)
    (len : ∀ vs H Q E, sp vs H Q E → vs.length = ps.length)
    (hbody : ∀ (A : Around) (outer : List Env) (s : Shared) (H : Hp) (vs : List V) (Q : VK) (E : XK), Room k (A.deeper (envOfC qual scope s.heap.objs.size f cdv)) → sp vs H Q E →
      ∃ t, PSs (cxOf CX P w K mg base N qual scope f cdv A outer s H E) body t ∧ t { nx := fun _ H' => Q .non H', rt := Q } (start N vs) H) :
    FnOk P w K mg base CX (k + 1) f (PySem.W.fnOf name qual params body scope dV kV doc pm an cdv ct) ps sp := by
  refine ⟨len, fun A outer s H args us vs Q E hr e0 hb r hsp => ?_⟩
  have hl := len _ _ _ _ hsp
  have KX : K.In s.heap := e0.mod.kin.keeps fun b o e => (e0.bs b o e).1
  have lim : s.heap.NoLimit := e0.mod.nolimit.keeps fun b o e => (e0.bs b o e).1
  have hkind : ∀ y ∈ ps.zip us, scope.names.lookup y.1 = some .local ∨ (scope.names.lookup y.1 = some .cell ∧ ((cellsFrom (s.heap.objs.size + 1) scope.names []).lookup y.1).isSome = true) := fun ⟨n, v⟩ hy => by
    rcases S.par n (List.of_mem_zip hy).1 with q | q
    · exact .inl q
    · exact .inr ⟨q, PySem.W.cellsFrom_some _ _ _ (.inl q)⟩
  refine codeAny_call_function hr.depth (KX _ _ lk) rfl S.co S.gen rfl (PySem.W.codeRec_of KX hcd) (hb _ _ _ _ ?_)
  refine wpAny_newFunctionEnv_cells S.kind hkind fun env he s1 x => ?_
  subst he
  refine ⟨lim.keeps x.toInCall.keep, codeAny_func ?_⟩
  obtain ⟨t, ht, hq⟩ := hbody A outer s H vs Q E (hr.deeper _) hsp
  have I : Inv (cxOf CX P w K mg base N qual scope f cdv A outer s H E) [] (start N vs) H s1 := inv_start S hr.hd e0 hl r x
  refine wpAny_mono (ht [] s1 (start N vs) H _ I hq) (fun fl s' hs => ?_) fun e s' hs => hs
  have fin : ∀ {σ' : St} {H' : Hp} {v : V} {u : Value}, Inv (cxOf CX P w K mg base N qual scope f cdv A outer s H E) [] σ' H' s' → RelV v u → Q v H' → CE outer P w H s Q u s' :=
    fun {σ' H' v u} J rv q => ⟨v, H', J.os, J.bare, J.base, J.hok, rv, q⟩
  cases fl with
  | ret u =>
    obtain ⟨v, σ', H', J, rv, q⟩ := hs
    exact fin J rv q
  | next =>
    obtain ⟨σ', H', J, q⟩ := hs
    exact fin (v := V.non) (u := Value.none) J rfl q
  | brk =>
    obtain ⟨_, _, _, q⟩ := hs
    exact False.elim q
  | cont =>
    obtain ⟨_, _, _, q⟩ := hs
    exact False.elim q
end L2
namespace L2
open PySem PySem.Spec PyProof.Rows
section
variable {X : Cx} {x : Str} {p pos : Pos} {e : Expr} {es : List Expr} {t : TA} {id T : String} {r : List V → Hp → VK → Prop}
def tCB (r : List V → Hp → VK → Prop) (t : TA) : TE := fun σ H Q => t σ H fun vs H1 => r vs H1 Q
theorem pe_callB (hc : CallR X (.builtin id) r) (hg : Gl X x) (hm : X.mg x = none) (hv : bootBuiltins x = some (.builtin id)) (ha : PA X (e :: es) t) (hn : x ≠ "__name__" := by decide) (hdb : (x == ("__debug__" : Str)) = false := by decide)
    (he : starEach (e :: es) X.env = (false, eval e X.env) :: starEach es X.env := by rfl) (hpl : (backTo pos (starEach es X.env)).any (·.1) = false := by rfl) : PE X (.Call (.Name x p) (e :: es) [] pos) (tCB r t) := by
  intro pins s σ H Q I h
  refine wpAny_Call_Name_kw (ld_blt I hg hm hv ?_ hn hdb)
  exact PyProof.Rows.callWith_builtin1 (thn (ha pos pins s σ H _ I h) fun us s1 ⟨vs, H1, I1, r1, q1⟩ => hc pins s1 σ H1 vs us Q I1 r1 q1) he hpl
theorem pe_callTy (hc : CallR X (.type T) r) (hg : Gl X x) (hm : X.mg x = none) (hv : bootBuiltins x = some (.type T)) (ha : PA X (e :: es) t) (hn : x ≠ "__name__" := by decide) (hdb : (x == ("__debug__" : Str)) = false := by decide)
    (he : starEach (e :: es) X.env = (false, eval e X.env) :: starEach es X.env := by rfl) (hpl : (backTo pos (starEach es X.env)).any (·.1) = false := by rfl) : PE X (.Call (.Name x p) (e :: es) [] pos) (tCB r t) := by
  intro pins s σ H Q I h
  refine wpAny_Call_Name_kw (ld_blt I hg hm hv ?_ hn hdb)
  exact PyProof.Rows.callWith_type1 (thn (ha pos pins s σ H _ I h) fun us s1 ⟨vs, H1, I1, r1, q1⟩ => hc pins s1 σ H1 vs us Q I1 r1 q1) he hpl
end
end L2
namespace HT
open PySem PyProof.Rows
def lexLt : List Int → List Int → Bool
  | [], [] => false
  | [], _ :: _ => true
  | _ :: _, [] => false
  | x :: xs, y :: ys => if x = y then lexLt xs ys else decide (x < y)
theorem lexLt_cons (x y : Int) (xs ys : List Int) : lexLt (x :: xs) (y :: ys) = if x = y then lexLt xs ys else decide (x < y) := rfl
theorem lexLt_nil_nil : lexLt [] [] = false := rfl
theorem lexLt_nil_cons (y : Int) (ys : List Int) : lexLt [] (y :: ys) = true := rfl
theorem lexLt_cons_nil (x : Int) (xs : List Int) : lexLt (x :: xs) [] = false := rfl
theorem eqAt_int (A : Around) (s : Shared) (a : Int) (t : Tok) (c : Int) (u : Tok) : ∃ e, SeqAt.EqAt A s (.int a t) (.int c u) e ∧ (e = true ↔ a = c) :=
  ⟨(a == c), SeqAt.EqAt.int_int a t c u, by simp⟩
theorem rcLt_int (A : Around) (s : Shared) (a : Int) (t : Tok) (c : Int) (u : Tok) (prog : Program) (w : World) (E : Value → Shared → Prop) (Q : Value → Shared → Prop) (h : Q (.bool (decide (a < c))) s) :
    wpAny (model prog w) A (richCompare .Lt (.int a t) (.int c u)) Q E s :=
  (PyProof.Rows.lt_int h : wpAny (model prog w) A (compareOp .Lt (.int a t) (.int c u)) Q E s)
section
open PySem.SeqAt
open PySem.AutoSeq1 (wpAny_loadPart')
open PySem.MeetsSeq PySem.MeetsSeq2 PySem.MeetsSeq3
theorem tuple_lt_ints (l b : Addr) (items items2 : Array Value) (n n2 : Nat) (dd dd2 : Option Addr) (sl sl2 : Array (Option Value)) (ns ms : List Int) (hi : IntsAre items.toList ns) (hj : IntsAre items2.toList ms) :
    Meets (Builtin.«tuple.__lt__» ⟨[.ref l, .ref b], []⟩)
      (fun _ R s => s.heap.get? l = some { cls := .type "tuple", dict := dd, data := .seq items n, slots := sl } ∧ s.heap.get? b = some { cls := .type "tuple", dict := dd2, data := .seq items2 n2, slots := sl2 } ∧
        R (.ok (.ret (.bool (lexLt ns ms)))) s) :=
  .of_wp fun prog w A R s h => by
    obtain ⟨hp, g, d, tk, os⟩ := s; obtain ⟨hl, hb, h⟩ := h
    have f2 := AutoSeq1.sub_tuple_tuple
    have z1 : items.size = ns.length := by rw [← hi.length]; simp
    have z2 : items2.size = ms.length := by rw [← hj.length]; simp
    wp_walk using wpAny_loadPart' hl, wpAny_loadPart' hb, wpAny_forIn_list _ (fun rest b s' => b.1 = none ∧ s' = ⟨hp, g, d, tk, os⟩ ∧ ∃ (vs ws : List Value) (ns' ms' : List Int), rest = vs.zip ws ∧
      IntsAre vs ns' ∧ IntsAre ws ms' ∧ ns'.length + items2.size = ms'.length + items.size ∧ R (.ok (.ret (.bool (lexLt ns' ms')))) ⟨hp, g, d, tk, os⟩) _
    case turn =>
      rintro ⟨y, x⟩ rest b s' ⟨hb', rfl, vs, ws, ns', ms', hz, hvi, hwi, hlen, hR⟩
      cases hvi with
      | nil => rw [List.zip_nil_left] at hz; cases hz
      | cons a t hvi' =>
        cases hwi with
        | nil => rw [List.zip_nil_right] at hz; cases hz
        | cons c u hwi' =>
          rw [List.zip_cons_cons] at hz
          injection hz with hyx hrest
          injection hyx with hy hx
          subst hy hx
          rw [lexLt_cons] at hR
          simp only [List.length_cons] at hlen
          obtain ⟨e, he, hiff⟩ := eqAt_int A.in1 ⟨hp, g, d, tk, os⟩ a t c u
          refine wpAny_bind (he prog w _ _ ?_)
          cases e with
          | true =>
            rw [if_pos (hiff.mp rfl)] at hR
            wp_walk
            exact ⟨rfl, rfl, _, _, _, _, hrest, hvi', hwi', by omega, hR⟩
          | false =>
            rw [if_neg (fun q => absurd (hiff.mpr q) Bool.false_ne_true)] at hR
            have hri := rcLt_int A.in1 ⟨hp, g, d, tk, os⟩ a t c u prog w
            wp_walk using hri
            exact ⟨_, rfl, by simpa using hR⟩
    case fin =>
      rintro ⟨b1, b2⟩ s' ⟨hb', rfl, vs, ws, ns', ms', hz, hvi, hwi, hlen, hR⟩
      simp only at hb'
      subst hb'
      have hv : lexLt ns' ms' = decide (items.size < items2.size) := by
        cases hvi with
        | nil =>
          cases hwi with
          | nil =>
            simp only [List.length_nil] at hlen
            rw [lexLt_nil_nil]
            exact (decide_eq_false (by omega)).symm
          | cons c u hw =>
            simp only [List.length_nil, List.length_cons] at hlen
            rw [lexLt_nil_cons]
            exact (decide_eq_true (by omega)).symm
        | cons a t hv =>
          cases hwi with
          | nil =>
            simp only [List.length_nil, List.length_cons] at hlen
            rw [lexLt_cons_nil]
            exact (decide_eq_false (by omega)).symm
          | cons c u hw =>
            rw [List.zip_cons_cons] at hz
            cases hz
      rw [hv] at hR
      wp_walk
      exact ⟨_, rfl, by simpa [Builtin.Tuple.tupleCompareSizes] using hR⟩
    case h =>
      exact ⟨rfl, rfl, items.toList, items2.toList, ns, ms, rfl, hi, hj, by omega, h⟩
end
section
variable {prog : Program} {w : World} {A : Around} {E : Value → Shared → Prop} {s : Shared}
theorem lt_tupInts {l b : Addr} {items items2 : Array Value} {ns ms : List Int} {Q : Value → Shared → Prop} (hl : IsTup s.heap l items) (hb : IsTup s.heap b items2) (hi : IntsAre items.toList ns) (hj : IntsAre items2.toList ms)
    (hu : A.units < cLine) (h : Q (.bool (lexLt ns ms)) s) : wpAny (model prog w) A (compareOp .Lt (.ref l) (.ref b)) Q E s := by
  obtain ⟨⟨cls, dd, data, sl⟩, ho, hc, n, hd⟩ := id hl
  obtain ⟨⟨cls2, dd2, data2, sl2⟩, ho2, hc2, n2, hd2⟩ := id hb
  simp only at hc hd hc2 hd2
  subst hc hd hc2 hd2
  exact richCompare_meets_room (op := .Lt) ⟨_, ho, rfl⟩ ⟨_, ho2, rfl⟩ PySem.F.slot_tuple_lt PySem.F.entry_tuple_lt (PySem.F.args_tuple_lt_2 _ _) (tuple_lt_ints l b items items2 n n2 dd dd2 sl sl2 ns ms hi hj)
    ⟨ho, ho2, show Value.bool (lexLt ns ms) ≠ Value.notImplemented ∧ Q (.bool (lexLt ns ms)) s from ⟨(fun x => nomatch x), h⟩⟩ hu
def sIx (n d : Nat) : Option Int → Nat
  | none => d
  | some v => if v < 0 then (v + (n : Int)).toNat else min v.toNat n
theorem sIx_le (n d : Nat) (hd : d ≤ n) (o : Option Int) : sIx n d o ≤ n := by
  cases o with
  | none => exact hd
  | some v =>
    show (if v < 0 then (v + (n : Int)).toNat else min v.toNat n) ≤ n
    by_cases hv : v < 0
    · rw [if_pos hv]; omega
    · rw [if_neg hv]; exact Nat.min_le_right _ _
end
end HT
namespace L2
open PySem PySem.Spec PyProof.Rows
abbrev TO := St → Hp → (Option Int → Hp → Prop) → Prop
def PO (X : Cx) (e : Option Expr) (t : TO) : Prop :=
  ∀ (pins : List (Addr × Obj)) (s : Shared) (σ : St) (H : Hp) (Q : Option Int → Hp → Prop), Inv X pins σ H s → t σ H Q →
    wpAny (model X.prog X.w) X.A (evalPart e X.env) (fun u s' => ∃ o H', Inv X pins σ H' s' ∧ IsPart u o ∧ Q o H') X.xe s
def tNoPart : TO := fun _ H Q => Q none H
def tPart (t : TE) : TO := fun σ H Q => t σ H fun x H1 => ∃ i, x = .int i ∧ Q (some i) H1
section
variable {X : Cx} {e : Expr} {te : TE} {lo hi : Option Expr} {tl th : TO} {pos p2 : Pos}
theorem po_none : PO X none tNoPart := by
  intro pins s σ H Q I h
  rw [evalPart_none]
  exact wpAny_pure ⟨none, H, I, .none, h⟩
theorem po_some (h : PE X e te) : PO X (some e) (tPart te) := by
  intro pins s σ H Q I hw
  rw [evalPart_some]
  refine thn (h pins s σ H _ I hw) fun u s1 ⟨x, H1, I1, r1, q1⟩ => ?_
  obtain ⟨i, rfl, q⟩ := q1
  obtain ⟨t, rfl⟩ := r1
  exact ⟨some i, H1, I1, .int i t, q⟩
def SlR (X : Cx) (r : V → Option Int → Option Int → Hp → VK → Prop) : Prop :=
  ∀ (pins : List (Addr × Obj)) (s : Shared) (σ : St) (H : Hp) (x : V) (v vl vu : Value) (lo hi : Option Int) (sl : Addr) (Q : VK), Inv X pins σ H s → RelV x v → s.heap.IsSliceOf sl vl vu .none → IsPart vl lo → IsPart vu hi → r x lo hi H Q →
    ∃ T id, typeLookup (.type T) "__getitem__" = pure (some (.builtin id)) ∧ s.TypeIs v T ∧ wpAny (model X.prog X.w) X.A (getItem v (.ref sl)) (EP X pins σ Q) X.xe s
theorem SlR.or {r r' : V → Option Int → Option Int → Hp → VK → Prop} (h : SlR X r) (h' : SlR X r') : SlR X (fun x lo hi H Q => r x lo hi H Q ∨ r' x lo hi H Q) := by
  intro pins s σ H x v vl vu lo hi sl Q I rx hs pl pu q
  rcases q with q | q
  · exact h pins s σ H x v vl vu lo hi sl Q I rx hs pl pu q
  · exact h' pins s σ H x v vl vu lo hi sl Q I rx hs pl pu q
def tSl (r : V → Option Int → Option Int → Hp → VK → Prop) (te : TE) (tl th : TO) : TE := fun σ H Q => te σ H fun x H1 => tl σ H1 fun l H2 => th σ H2 fun u H3 => r x l u H3 Q
theorem pe_slice {r : V → Option Int → Option Int → Hp → VK → Prop} (hr : SlR X r) (he : PE X e te) (hl : PO X lo tl) (hu : PO X hi th) : PE X (.Subscript e (.Slice lo hi none p2) pos) (tSl r te tl th) := by
  intro pins s σ H Q I h
  refine Subscript_ (thn (he pins s σ H _ I h) fun v s1 ⟨x, H1, I1, r1, q1⟩ => ?_)
  refine wpAny_Slice (thn (hl pins s1 σ H1 _ I1 q1) fun vl s2 ⟨l, H2, I2, pl, q2⟩ => thn (hu pins s2 σ H2 _ I2 q2) fun vu s3 ⟨u, H3, I3, pu, q3⟩ => ?_)
  rw [evalPart_none]
  refine wpAny_pure ?_
  have I4 : Inv X pins σ H3 { s3 with heap := s3.heap.push { cls := .type "slice", data := .fields #[vl, vu, .none] } } := I3.kept (t' := s3.toks) fun b ob q => Heap.get?_push_of_some _ q
  obtain ⟨T, id, hT, ht, hg⟩ := hr pins { s3 with heap := s3.heap.push { cls := .type "slice", data := .fields #[vl, vu, .none] } } σ H3 x v vl vu l u s3.heap.objs.size Q I4 r1 (Heap.IsSliceOf.new ..) pl pu q3
  show wpAny (model X.prog X.w) X.A (subscriptTail e (.Slice lo hi none p2) v (.ref s3.heap.objs.size)) (EP X pins σ Q) X.xe { s3 with heap := s3.heap.push { cls := .type "slice", data := .fields #[vl, vu, .none] } }
  exact tail_any (ops := [.ref s3.heap.objs.size, v]) ht hT hg (by with_unfolding_all rfl)
def cutV (xs : List V) (lo hi : Option Int) : List V := (xs.drop (HT.sIx xs.length 0 lo)).take (HT.sIx xs.length xs.length hi - HT.sIx xs.length 0 lo)
def rSlT (K : PySem.W.Frag) : V → Option Int → Option Int → Hp → VK → Prop := fun x lo hi H Q => ∃ a xs, x = .ref a ∧ SqT K H a xs ∧
  ¬ (HT.sIx xs.length 0 lo = 0 ∧ HT.sIx xs.length xs.length hi = xs.length) ∧ ∀ p, H p = none → Q (.ref p) (upd H p (.tup (cutV xs lo hi)))
def rLtT (K : PySem.W.Frag) : R2 := fun x y H Q => ∃ a b ns ms, x = .ref a ∧ y = .ref b ∧ SqT K H a (ns.map V.int) ∧ SqT K H b (ms.map V.int) ∧ Q (.bl (HT.lexLt ns ms)) H
def rCatT (K : PySem.W.Frag) : R2 := fun x y H Q => ∃ a b xs ys, x = .ref a ∧ y = .ref b ∧ SqT K H a xs ∧ SqT K H b ys ∧ xs ≠ [] ∧ xs.length + ys.length ≤ sizeLine ∧
  (ys = [] → Q (.ref a) H) ∧ (ys ≠ [] → ∀ p, H p = none → Q (.ref p) (upd H p (.tup (xs ++ ys))))
end
end L2
namespace L2
open PySem PySem.Spec PyProof.Rows
def ixN (n : Nat) (i : Int) : Option Nat := if 0 ≤ i then (if i < n then some i.toNat else none) else if -(n : Int) ≤ i then some (i + n).toNat else none
def atI {α : Type} (xs : List α) (i : Int) : Option α := (ixN xs.length i).bind fun j => xs[j]?
theorem ixN_seq {n : Nat} {i : Int} {j : Nat} (h : ixN n i = some j) : seqIndex? i n = some j ∧ j < n ∧ -(n : Int) ≤ i ∧ i < n := by
  unfold ixN at h
  by_cases h0 : 0 ≤ i
  · rw [if_pos h0] at h
    by_cases h1 : i < n
    · rw [if_pos h1] at h
      have e : i.toNat = j := Option.some.inj h
      exact ⟨by rw [seqIndex_of h0 h1, e], by omega, by omega, h1⟩
    · rw [if_neg h1] at h; cases h
  · rw [if_neg h0] at h
    by_cases h1 : -(n : Int) ≤ i
    · rw [if_pos h1] at h
      have e : (i + n).toNat = j := Option.some.inj h
      exact ⟨by rw [seqIndex_neg (by omega) h1, e], by omega, h1, by omega⟩
    · rw [if_neg h1] at h; cases h
theorem atI_get {α : Type} {xs : List α} {i : Int} {v : α} (h : atI xs i = some v) : ∃ j, seqIndex? i xs.length = some j ∧ xs[j]? = some v ∧ j < xs.length ∧ -(xs.length : Int) ≤ i ∧ i < xs.length := by
  unfold atI at h
  cases e : ixN xs.length i with
  | none => rw [e] at h; cases h
  | some j =>
    rw [e] at h
    obtain ⟨h1, h2, h3, h4⟩ := ixN_seq e
    exact ⟨j, h1, h, h2, h3, h4⟩
theorem atI_nat {α : Type} {xs : List α} {j : Nat} {v : α} (h : xs[j]? = some v) : atI xs (j : Int) = some v := by
  have hj : j < xs.length := (List.getElem?_eq_some_iff.mp h).1
  have e : ixN xs.length (j : Int) = some j := by
    unfold ixN
    rw [if_pos (by omega), if_pos (by omega)]; simp
  unfold atI; rw [e]; exact h
def PlainIx (b : Expr) : Prop := ∀ o i, subscripted b false o i = operate [o, i] (getItem o i)
def IxR (X : Cx) (r : R2) : Prop :=
  ∀ (value slice : Expr) (pins : List (Addr × Obj)) (s : Shared) (σ : St) (H : Hp) (x y : V) (v u : Value) (Q : VK), Inv X pins σ H s → RelV x v → RelV y u → r x y H Q →
    subscripted slice false v u = operate [v, u] (getItem v u) → wpAny (model X.prog X.w) X.A (subscriptTail value slice v u) (EP X pins σ Q) X.xe s
def MtR (X : Cx) (id : String) (r : V → List V → Hp → VK → Prop) : Prop :=
  ∀ (pins : List (Addr × Obj)) (s : Shared) (σ : St) (H : Hp) (x : V) (xs : List V) (v : Value) (us : List Value) (Q : VK), Inv X pins σ H s → RelV x v → Vals xs us → r x xs H Q →
    wpAny (model X.prog X.w) X.A (call (.builtin id) (v :: us)) (EP X pins σ Q) X.xe s
section
variable {X : Cx} {a b : Expr} {ta tb : TE} {pos : Pos}
theorem IxR.or {r r' : R2} (h : IxR X r) (h' : IxR X r') : IxR X (fun x y H Q => r x y H Q ∨ r' x y H Q) := by
  intro value slice pins s σ H x y v u Q I rx ry q hs
  rcases q with q | q
  · exact h value slice pins s σ H x y v u Q I rx ry q hs
  · exact h' value slice pins s σ H x y v u Q I rx ry q hs
theorem MtR.or {id : String} {r r' : V → List V → Hp → VK → Prop} (h : MtR X id r) (h' : MtR X id r') : MtR X id (fun x xs H Q => r x xs H Q ∨ r' x xs H Q) := by
  intro pins s σ H x xs v us Q I rx rs q
  rcases q with q | q
  · exact h pins s σ H x xs v us Q I rx rs q
  · exact h' pins s σ H x xs v us Q I rx rs q
theorem pe_ix {r : R2} (hr : IxR X r) (ha : PE X a ta) (hb : PE X b tb) (hs : PlainIx b) : PE X (.Subscript a b pos) (tOp r ta tb) := by
  intro pins s σ H Q I h
  exact Subscript_ (binT ha hb I h fun v u s2 x y H2 I2 rx ry q => hr a b pins s2 σ H2 x y v u Q I2 rx ry q (hs _ _))
def rIxL (K : PySem.W.Frag) : R2 := fun x y H Q => ∃ p xs i v, x = .ref p ∧ y = .int i ∧ SqL K H p xs ∧ atI xs i = some v ∧ Q v H
def rIxT (K : PySem.W.Frag) : R2 := fun x y H Q => ∃ p xs i v, x = .ref p ∧ y = .int i ∧ SqT K H p xs ∧ atI xs i = some v ∧ Q v H
def rIxS : R2 := fun x y H Q => ∃ z i c, x = .str z ∧ y = .int i ∧ z.length ≤ sizeLine ∧ atI z.cps.toList i = some c ∧ Q (.str ⟨#[c]⟩) H
theorem ix_list : IxR X (rIxL X.K) := by
  intro value slice pins s σ H x y v u Q I rx ry h hs
  obtain ⟨p, xs, i, z, rfl, rfl, hq, he, q⟩ := h
  cases rx
  obtain ⟨t, rfl⟩ := ry
  obtain ⟨its, r, pl, hz⟩ := I.list hq
  obtain ⟨j, h1, h2, h3, h4, h5⟩ := atI_get he
  obtain ⟨w, ew, rw'⟩ := r.get h2
  have hl := r.length
  have hn := line63
  have fin : EP X pins σ Q w s := ⟨z, H, I, rw', q⟩
  by_cases h0 : 0 ≤ i
  · have hj : i.toNat = j := by
      rw [seqIndex_of h0 h5] at h1
      exact Option.some.inj h1
    exact item_listR pl.isList h0 (by omega) (by rw [hj]; simpa using ew) fin hs
  · have hj : (i + (its.toArray.size : Int)).toNat = j := by
      rw [seqIndex_neg (by omega) h4] at h1
      rw [List.size_toArray, ← hl]
      exact Option.some.inj h1
    exact subscriptTail_builtinR (x := w) pl.isList.typeIs slot_list_getitem.lookup
      (wpAny_getItem_list_neg (Q := fun r s' => r = w ∧ EP X pins σ Q r s') pl.isList (by omega) (by rw [List.size_toArray] <;> omega) (by omega) (by rw [hj]; simpa using ew) ⟨rfl, fin⟩) hs
def rIx (K : PySem.W.Frag) : R2 := fun x y H Q => rIxL K x y H Q ∨ rIxT K x y H Q ∨ rIxS x y H Q
theorem mapSeq_set (its : List Value) (n j : Nat) (u : Value) : Obj.mapSeq (·.setIfInBounds j u) { cls := .type "list", data := .seq its.toArray n } = { cls := .type "list", data := .seq (its.set j u).toArray n } := by
  simp [Obj.mapSeq]
theorem Inv.lst {pins : List (Addr × Obj)} {σ : St} {H : Hp} {s : Shared} {p : Addr} {xs : List V} (I : Inv X pins σ H s) (h : H p = some (.lst xs)) :
    ∃ (its : List Value) (n : Nat), Vals xs its ∧ s.heap.get? p = some { cls := .type "list", data := .seq its.toArray n } ∧ xs.length ≤ sizeLine := by
  obtain ⟨z, its, n, r, e⟩ := I.hok p _ h
  exact ⟨its, n, r, e, z⟩
theorem Inv.lstUpd {pins : List (Addr × Obj)} {σ : St} {H : Hp} {s : Shared} {p : Addr} {xs ys : List V} {its its' : List Value} {n n' : Nat} {f : Obj → Obj} (I : Inv X pins σ H s) (h : H p = some (.lst xs))
    (ho : s.heap.get? p = some { cls := .type "list", data := .seq its.toArray n }) (hf : f { cls := .type "list", data := .seq its.toArray n } = { cls := .type "list", data := .seq its'.toArray n' }) (r : Vals ys its') (hz : ys.length ≤ sizeLine) (t : Nat) :
    Inv X pins σ (upd H p (.lst ys)) { s with heap := s.heap.update p f, toks := t } := by
  have e : (s.heap.update p f).get? p = some { cls := .type "list", data := .seq its'.toArray n' } := by
    rw [Heap.get?_update_self f ho (by rw [hf] <;> rfl), hf]
  refine I.write (x := p) (e := p) (by rw [h]; trivial) (.inl rfl) (fun b u hb q => (Heap.get?_update_other _ _ (Ne.symm hb)).trans q) ⟨_, e⟩ ?_
  exact ⟨hz, its', n', r, e⟩
def rSetL : V → V → V → Hp → (Hp → Prop) → Prop := fun o i v H Q => ∃ p xs k j, o = .ref p ∧ i = .int k ∧ H p = some (.lst xs) ∧ ixN xs.length k = some j ∧ Q (upd H p (.lst (xs.set j v)))
theorem set_list : PSet X rSetL := by
  intro pins s σ H o i v ov iv u Q I ro ri rv h
  obtain ⟨p, xs, k, j, rfl, rfl, hp, hj, q⟩ := h
  cases ro
  obtain ⟨t, rfl⟩ := ri
  obtain ⟨its, n, r, ho, hz⟩ := I.lst hp
  obtain ⟨h1, h2, h3, h4⟩ := ixN_seq hj
  have hl := r.length
  have hn := line63
  have I' : Inv X pins σ (upd H p (.lst (xs.set j v))) { s with heap := s.heap.update p (Obj.mapSeq (·.setIfInBounds j u)) } :=
    I.lstUpd hp ho (mapSeq_set its n j u) (r.set rv j) (by rw [List.length_set]; exact hz) s.toks
  by_cases h0 : 0 ≤ k
  · have hk : k.toNat = j := by
      rw [seqIndex_of h0 h4] at h1
      exact Option.some.inj h1
    exact PySem.W.ki_setAt ho h0 (by omega) (by rw [List.size_toArray, ← hl]; exact h4) (by rw [hk]; exact ⟨_, I', q⟩)
  · have hk : (k + (its.toArray.size : Int)).toNat = j := by
      rw [seqIndex_neg (by omega) h3] at h1
      rw [List.size_toArray, ← hl]
      exact Option.some.inj h1
    exact PySem.W.ki_setBack ho (by omega) (by rw [List.size_toArray, ← hl]; exact h3) (by omega) (by rw [hk]; exact ⟨_, I', q⟩)
def rSlL (K : PySem.W.Frag) : V → Option Int → Option Int → Hp → VK → Prop := fun x lo hi H Q => ∃ a xs, x = .ref a ∧ SqL K H a xs ∧ ∀ p, H p = none → Q (.ref p) (upd H p (.lst (cutV xs lo hi)))
def flatV : V → Bool
  | .non => true
  | .bl _ => true
  | .int _ => true
  | .str _ => true
  | _ => false
def eqV : V → V → Bool
  | .non, .non => true
  | .bl a, .bl b => a == b
  | .bl a, .int b => (if a then 1 else 0) == b
  | .int a, .bl b => a == (if b then 1 else 0)
  | .int a, .int b => a == b
  | .str a, .str b => a == b
  | _, _ => false
theorem eqAt_V {A : Around} {s : Shared} {y x : V} {u v : Value} (ry : RelV y u) (rx : RelV x v) (fy : flatV y = true) (fx : flatV x = true) : SeqAt.EqAt A s u v (eqV y x) := by
  cases y with
  | non =>
    cases ry
    cases x with
    | non => cases rx; exact SeqAt.EqAt.same _
    | bl b => cases rx; exact SeqAt.EqAt.none_bool b
    | int b => obtain ⟨t, rfl⟩ := rx; exact SeqAt.EqAt.none_int b t
    | str b => obtain ⟨t, rfl⟩ := rx; exact SeqAt.EqAt.none_str b t
    | _ => exact absurd (show false = true from fx) Bool.false_ne_true
  | bl a =>
    cases ry
    cases x with
    | non => cases rx; exact SeqAt.EqAt.bool_none a
    | bl b => cases rx; exact SeqAt.EqAt.bool_bool a b
    | int b => obtain ⟨t, rfl⟩ := rx; exact SeqAt.EqAt.bool_int a b t
    | str b => obtain ⟨t, rfl⟩ := rx; exact SeqAt.EqAt.bool_str a b t
    | _ => exact absurd (show false = true from fx) Bool.false_ne_true
  | int a =>
    obtain ⟨t', rfl⟩ := ry
    cases x with
    | non => cases rx; exact SeqAt.EqAt.int_none a t'
    | bl b => cases rx; exact SeqAt.EqAt.int_bool a t' b
    | int b => obtain ⟨t, rfl⟩ := rx; exact SeqAt.EqAt.int_int a t' b t
    | str b => obtain ⟨t, rfl⟩ := rx; exact SeqAt.EqAt.int_str a t' b t
    | _ => exact absurd (show false = true from fx) Bool.false_ne_true
  | str a =>
    obtain ⟨t', rfl⟩ := ry
    cases x with
    | non => cases rx; exact SeqAt.EqAt.str_none a t'
    | bl b => cases rx; exact SeqAt.EqAt.str_bool a t' b
    | int b => obtain ⟨t, rfl⟩ := rx; exact SeqAt.EqAt.str_int a t' b t
    | str b => obtain ⟨t, rfl⟩ := rx; exact SeqAt.EqAt.str_str a t' b t
    | _ => exact absurd (show false = true from fx) Bool.false_ne_true
  | _ => exact absurd (show false = true from fy) Bool.false_ne_true
def eqU (x : V) (u : Value) : Bool := match u with
  | .none => eqV .non x
  | .bool b => eqV (.bl b) x
  | .int i _ => eqV (.int i) x
  | .str z _ => eqV (.str z) x
  | _ => false
theorem eqU_of {x y : V} {u : Value} (r : RelV y u) (f : flatV y = true) : eqU x u = eqV y x := by
  cases y with
  | non => cases r; rfl
  | bl b => cases r; rfl
  | int i => obtain ⟨t, rfl⟩ := r; rfl
  | str z => obtain ⟨t, rfl⟩ := r; rfl
  | _ => exact absurd (show false = true from f) Bool.false_ne_true
theorem any_eqU {x : V} : ∀ {xs : List V} {us : List Value}, Vals xs us → xs.all flatV = true → us.any (eqU x) = xs.any fun y => eqV y x
  | _, _, .nil, _ => rfl
  | y :: xs, u :: us, .cons r t, f => by
    rw [List.all_cons, Bool.and_eq_true] at f
    rw [List.any_cons, List.any_cons, eqU_of r f.1, any_eqU t f.2]
theorem mem_eqAt {A : Around} {s : Shared} {x : V} {v : Value} (rx : RelV x v) (fx : flatV x = true) : ∀ {xs : List V} {us : List Value}, Vals xs us → xs.all flatV = true → ∀ u ∈ us, SeqAt.EqAt A s u v (eqU x u)
  | _, _, .nil, _ => fun u hu => by cases hu
  | y :: xs, u :: us, .cons r t, f => fun u' hu => by
    rw [List.all_cons, Bool.and_eq_true] at f
    rcases List.mem_cons.mp hu with rfl | hu
    · rw [eqU_of r f.1]; exact eqAt_V r rx f.1 fx
    · exact mem_eqAt rx fx t f.2 u' hu
def inV (x : V) (xs : List V) : Bool := xs.any fun y => eqV y x
def rIn (K : PySem.W.Frag) (neg : Bool) : R2 := fun x y H Q => ∃ p xs, y = .ref p ∧ (SqL K H p xs ∨ SqT K H p xs) ∧ flatV x = true ∧ xs.all flatV = true ∧ Q (.bl (if neg then !inV x xs else inV x xs)) H
theorem op_notIn_seq : OpR X (compareOp .NotIn) (rIn X.K true) := by
  intro pins s σ H x y v u Q I rx ry h
  obtain ⟨p, xs, rfl, hq, fx, fs, q⟩ := h
  cases ry
  rcases hq with hq | hq
  · obtain ⟨its, r, pl, hz⟩ := I.list hq
    refine SeqAt.notIn_listAt (eqU x) pl.isList (fun w hw => mem_eqAt rx fx r fs w (by simpa using hw)) ⟨.bl _, H, I, rfl, ?_⟩
    rw [show its.toArray.any (eqU x) = its.any (eqU x) by simp, any_eqU r fs]
    exact q
  · obtain ⟨its, r, pl, hz⟩ := I.tuple hq
    refine SeqAt.notIn_tupleAt (eqU x) pl (fun w hw => mem_eqAt rx fx r fs w (by simpa using hw)) ⟨.bl _, H, I, rfl, ?_⟩
    rw [show its.toArray.any (eqU x) = its.any (eqU x) by simp, any_eqU r fs]
    exact q
theorem call_len_seq : CallR X (.builtin "len") (fun xs H Q => ∃ p ys, xs = [.ref p] ∧ (SqL X.K H p ys ∨ SqT X.K H p ys) ∧ Q (.int ys.length) H) := by
  intro pins s σ H xs us Q I r h
  obtain ⟨p, ys, rfl, hq, q⟩ := h
  obtain ⟨u, rfl, rx⟩ := vals1 r
  cases rx
  have hn := line63
  rcases hq with hq | hq
  · obtain ⟨its, r', pl, hz⟩ := I.list hq
    have hlen := r'.length
    exact Calls.call_len_list pl.isList (by simp only [List.size_toArray] <;> omega) ⟨.int ys.length, H, I.tok _, ⟨s.toks + 1, by rw [List.size_toArray, hlen]⟩, q⟩
  · obtain ⟨its, r', pl, hz⟩ := I.tuple hq
    have hlen := r'.length
    exact len_tuple pl (by simp only [List.size_toArray] <;> omega) ⟨.int ys.length, H, I.tok _, ⟨s.toks + 1, by rw [List.size_toArray, hlen]⟩, q⟩
theorem CallR.or {f : Value} {r r' : List V → Hp → VK → Prop} (h : CallR X f r) (h' : CallR X f r') : CallR X f (fun xs H Q => r xs H Q ∨ r' xs H Q) := by
  intro pins s σ H xs us Q I rs q
  rcases q with q | q
  · exact h pins s σ H xs us Q I rs q
  · exact h' pins s σ H xs us Q I rs q
theorem call_list_of : CallR X (.type "list") (fun xs H Q => ∃ p ys, xs = [.ref p] ∧ (SqL X.K H p ys ∨ SqT X.K H p ys) ∧ ∀ l, H l = none → Q (.ref l) (upd H l (.lst ys))) := by
  intro pins s σ H xs us Q I r h
  obtain ⟨p, ys, rfl, hq, q⟩ := h
  obtain ⟨u, rfl, rx⟩ := vals1 r
  cases rx
  have fin : ∀ (its : List Value), Vals ys its → ys.length ≤ sizeLine → ∀ (h' : Heap) (c' : Nat), (∀ b o', s.heap.get? b = some o' → h'.get? b = some o') →
      h'.get? s.heap.objs.size = some { cls := .type "list", dict := none, data := .seq its.toArray c', slots := #[] } → EP X pins σ Q (.ref s.heap.objs.size) { s with heap := h' } := fun its r' hz h' c' kp e =>
    ⟨.ref s.heap.objs.size, _, I.laid (t' := s.toks) kp (Nat.le_refl _) (show ObjOk X.prog X.w _ h' _ (.lst ys) from ⟨hz, its, c', r', e⟩), rfl, q _ (I.hok.fresh (Nat.le_refl _))⟩
  rcases hq with hq | hq
  · obtain ⟨its, r', pl, hz⟩ := I.list hq
    have hlen := r'.length
    obtain ⟨o, ho, hc, n, hd⟩ := pl.isList
    exact call_list_seq p (.inl rfl) ho hc hd (fun h' c' kp e => fin its r' hz h' c' kp e) (by simp only [List.size_toArray] <;> omega)
  · obtain ⟨its, r', pl, hz⟩ := I.tuple hq
    have hlen := r'.length
    obtain ⟨o, ho, hc, n, hd⟩ := pl
    exact call_list_seq p (.inr rfl) ho hc hd (fun h' c' kp e => fin its r' hz h' c' kp e) (by simp only [List.size_toArray] <;> omega)
def tyV (K : PySem.W.Frag) (T : String) (x : V) (H : Hp) : Prop := match x with
  | .str _ => T = "str"
  | .int _ => T = "int"
  | .ref p => (T = "list" ∧ ∃ xs, SqL K H p xs) ∨ (T = "tuple" ∧ ∃ o, K.lookup p = some o ∧ o.cls = .type "tuple" ∧ o.dict = none) ∨
      (T = "dict" ∧ ((∃ kvs, H p = some (.dK kvs)) ∨ ∃ kvs, H p = some (.dT kvs))) ∨ (T = "set" ∧ ∃ S n, H p = some (.set S n))
  | _ => False
theorem tyV_is {pins : List (Addr × Obj)} {σ : St} {H : Hp} {s : Shared} {T : String} {x : V} {v : Value} (I : Inv X pins σ H s) (r : RelV x v) (ty : tyV X.K T x H) :
    s.TypeIs v T ∧ ∀ a, v = .ref a → ∃ ob, s.heap.get? a = some ob ∧ ob.dict = none := by
  cases x with
  | str z =>
    obtain ⟨t, rfl⟩ := r
    cases (show T = "str" from ty)
    exact ⟨typeIs_str s z t, fun _ e => nomatch e⟩
  | int i =>
    obtain ⟨t, rfl⟩ := r
    cases (show T = "int" from ty)
    exact ⟨typeIs_int s i t, fun _ e => nomatch e⟩
  | ref p =>
    cases r
    rcases ty with ⟨rfl, xs, hq⟩ | ⟨rfl, o, hk, hc, hd⟩ | ⟨rfl, hk⟩ | ⟨rfl, S, n, hk⟩
    · obtain ⟨its, _, pl, _⟩ := I.list hq
      refine ⟨pl.isList.typeIs, fun a e => ?_⟩
      cases e
      obtain ⟨o, n, e, c, hd, _⟩ := pl
      exact ⟨o, e, hd⟩
    · refine ⟨⟨o, I.kIn p o hk, hc⟩, fun a e => ?_⟩
      cases e
      exact ⟨o, I.kIn _ o hk, hd⟩
    · have z : ∃ o, s.heap.get? p = some o ∧ o.ExactDict := by
        rcases hk with ⟨kvs, hk⟩ | ⟨kvs, hk⟩
        · obtain ⟨_, _, _, _, o, _, _, e, ex, _⟩ := I.hok p _ hk
          exact ⟨o, e, ex⟩
        · obtain ⟨_, _, _, _, o, _, _, e, ex, _⟩ := I.hok p _ hk
          exact ⟨o, e, ex⟩
      obtain ⟨o, e, ex⟩ := z
      refine ⟨⟨o, e, ex.1⟩, fun a e2 => ?_⟩
      cases e2
      exact ⟨o, e, ex.2.1⟩
    · obtain ⟨o, _, _, _, e, ex, _⟩ := I.hok p _ hk
      refine ⟨⟨o, e, ex.1⟩, fun a e2 => ?_⟩
      cases e2
      exact ⟨o, e, ex.2.1⟩
  | _ => exact False.elim ty
def tBM0 (K : PySem.W.Frag) (T : String) (r : V → List V → Hp → VK → Prop) (to : TE) : TE := fun σ H Q => to σ H fun x H1 => tyV K T x H1 ∧ r x [] H1 Q
def tBM (K : PySem.W.Frag) (T : String) (r : V → List V → Hp → VK → Prop) (to : TE) (t : TA) : TE := fun σ H Q => to σ H fun x H1 => tyV K T x H1 ∧ t σ H1 fun xs H2 => r x xs H2 Q
variable {o e : Expr} {es : List Expr} {to : TE} {t : TA} {name : Str} {apos cpos : Pos} {T id : String} {r : V → List V → Hp → VK → Prop}
theorem pe_bm0 (pa : PlainAttrs T) (slot : Slot T name id) (hty : typeOf (.builtin id) = pure (.type "method_descriptor")) (hm : MtR X id r) (ho : PE X o to)
    (hbase : attributeBase o name X.env (eval o X.env) = eval o X.env := by rfl) (hline : (apos.endLine == cpos.line) = true := by rfl) : PE X (.Call (.Attribute o name apos) [] [] cpos) (tBM0 X.K T r to) := by
  intro pins s σ H Q I h
  refine wpAny_Call_method0_late hbase hline (thn (ho pins s σ H _ I h) fun v s1 ⟨x, H1, I1, r1, ty, q1⟩ => ?_)
  obtain ⟨h1, h2⟩ := tyV_is I1 r1 ty
  exact ⟨T, id, pa, slot, hty, h1, h2, Calls.callWith_builtin rfl (PySem.evalArgs_none (hm pins s1 σ H1 x [] v [] Q I1 r1 .nil q1))⟩
theorem pe_bm (pa : PlainAttrs T) (slot : Slot T name id) (hty : typeOf (.builtin id) = pure (.type "method_descriptor")) (hm : MtR X id r) (ho : PE X o to) (ha : PA X (e :: es) t)
    (hbase : attributeBase o name X.env (eval o X.env) = eval o X.env := by rfl)
    (hfew : ((backTo cpos (starEach (e :: es) X.env)).all (fun x => !x.1) && (backToKw cpos (keywordEach [] X.env)).all (fun x => x.1.isSome)
      && decide ((e :: es).length + ([] : List Keyword).length + (if ([] : List Keyword).isEmpty then 0 else 1) < 30)) = true := by rfl)
    (hline : (apos.endLine == cpos.line) = true := by rfl) (hs : starEach (e :: es) X.env = (false, eval e X.env) :: starEach es X.env := by rfl) (hplain : (backTo cpos (starEach es X.env)).any (·.1) = false := by rfl) :
    PE X (.Call (.Attribute o name apos) (e :: es) [] cpos) (tBM X.K T r to t) := by
  intro pins s σ H Q I h
  refine wpAny_Call_method_late hbase hfew hline rfl (thn (ho pins s σ H _ I h) fun v s1 ⟨x, H1, I1, r1, ty, q1⟩ => ?_)
  obtain ⟨h1, h2⟩ := tyV_is I1 r1 ty
  refine ⟨T, id, pa, slot, hty, h1, h2, ?_⟩
  have hA := ha cpos pins s1 σ H1 _ I1 q1
  rw [hs] at hA ⊢
  refine Calls.callWith_builtin (by show (false || (backTo cpos (starEach es X.env)).any (·.1)) = false; rw [hplain] <;> rfl) (Calls.evalArgs_plain ?_)
  exact thn hA fun us s2 ⟨vs, H2, I2, r2, q2⟩ => hm pins s2 σ H2 x vs v us Q I2 r1 r2 q2
/- xs.append(e), list.index on a module's tuple .. are MtR facts of 06m -/
end
end L2
namespace L2
open PySem PySem.Spec PyProof.Rows
def MtM (X : Cx) (id : String) (r : V → List V → Hp → VK → Prop) : Prop :=
  ∀ (pins : List (Addr × Obj)) (s : Shared) (σ : St) (H : Hp) (x : V) (xs : List V) (v : Value) (us : List Value) (Q : VK), Inv X pins σ H s → RelV x v → Vals xs us → r x xs H Q →
    wpAny (model X.prog X.w) X.A (call (.builtin id) (v :: us)) (EP X pins σ Q) X.xe s
theorem Vals.one : ∀ {x : V} {us : List Value}, Vals [x] us → ∃ u, us = [u] ∧ RelV x u
  | _, _, .cons r .nil => ⟨_, rfl, r⟩
theorem Vals.two : ∀ {x y : V} {us : List Value}, Vals [x, y] us → ∃ u v, us = [u, v] ∧ RelV x u ∧ RelV y v
  | _, _, _, .cons r (.cons q .nil) => ⟨_, _, rfl, r, q⟩
theorem Vals.zero : ∀ {us : List Value}, Vals [] us → us = []
  | _, .nil => rfl
theorem Vals.dropLast {xs : List V} {us : List Value} (h : Vals xs us) : Vals xs.dropLast us.dropLast := by
  induction h with
  | nil => exact .nil
  | cons r t ih =>
    cases t with
    | nil => exact .nil
    | cons q t' => exact .cons r ih
theorem Vals.eraseIdx : ∀ {xs : List V} {us : List Value} (i : Nat), Vals xs us → Vals (xs.eraseIdx i) (us.eraseIdx i)
  | _, _, _, .nil => .nil
  | _, _, 0, .cons _ t => t
  | _, _, i + 1, .cons r t => .cons r (Vals.eraseIdx i t)
theorem Vals.reverse {xs : List V} {us : List Value} (h : Vals xs us) : Vals xs.reverse us.reverse := by
  induction h with
  | nil => exact .nil
  | cons r t ih => rw [List.reverse_cons, List.reverse_cons]; exact Vals.append ih (.cons r .nil)
theorem Vals.rep {xs : List V} {us : List Value} (h : Vals xs us) : ∀ k : Nat, Vals (List.replicate k xs).flatten (List.replicate k us).flatten
  | 0 => .nil
  | k + 1 => by
    rw [List.replicate_succ, List.replicate_succ, List.flatten_cons, List.flatten_cons]
    exact Vals.append h (Vals.rep h k)
theorem erase_last {α : Type} (l : List α) : l.eraseIdx (l.length - 1) = l.dropLast := by
  induction l with
  | nil => rfl
  | cons a r ih =>
    cases r with
    | nil => rfl
    | cons b r =>
      have e : (a :: b :: r).length - 1 = ((b :: r).length - 1) + 1 := by
        have h1 : (a :: b :: r).length = r.length + 2 := rfl
        have h2 : (b :: r).length = r.length + 1 := rfl
        omega
      rw [e, List.eraseIdx_cons_succ, ih]
      all_goals rfl
theorem foldl_rep (its : List Value) : ∀ (k : Nat) (acc : List Value),
    List.foldl (fun x1 x2 => x1 ++ x2) acc.toArray (List.replicate k its.toArray) = (acc ++ (List.replicate k its).flatten).toArray
  | 0, acc => by simp
  | k + 1, acc => by
    have e : acc.toArray ++ its.toArray = (acc ++ its).toArray := by simp
    have e2 : (acc ++ its) ++ (List.replicate k its).flatten = acc ++ (List.replicate (k + 1) its).flatten := by
      rw [List.replicate_succ, List.flatten_cons, List.append_assoc]
    rw [← e2, ← foldl_rep its k (acc ++ its), ← e, List.replicate_succ, List.foldl_cons]
section
variable {X : Cx} {pins : List (Addr × Obj)} {σ : St} {H : Hp} {s : Shared} {l b : Addr} {xs ys zs : List V}
theorem Inv.lset {its its' : List Value} {n : Nat} {f : Array Value → Array Value} {t' : Nat} (I : Inv X pins σ H s) (hH : H l = some (.lst xs))
    (e : s.heap.get? l = some { cls := .type "list", data := .seq its.toArray n }) (hf : f its.toArray = its'.toArray) (hv : Vals ys its') (hz : ys.length ≤ sizeLine) :
    Inv X pins σ (upd H l (.lst ys)) { s with heap := s.heap.update l (Obj.mapSeq f), toks := t' } := by
  have q := PySem.IsL.update e f
  rw [hf] at q
  refine I.write (x := l) (e := l) (by rw [hH]; exact trivial) (.inl rfl) (fun b' u hb hu => (Heap.get?_update_other s.heap (Obj.mapSeq f) (Ne.symm hb)).trans hu) ⟨_, q⟩ ?_
  exact ⟨hz, its', _, hv, q⟩
theorem Inv.lnew {its : List Value} {t' : Nat} (I : Inv X pins σ H s) (hv : Vals ys its) (hz : ys.length ≤ sizeLine) :
    Inv X pins σ (upd H s.heap.objs.size (.lst ys)) { s with heap := s.heap.push { cls := .type "list", data := .seq its.toArray }, toks := t' } :=
  I.laid (fun _ _ q => Heap.get?_push_of_some _ q) (Nat.le_refl _) ⟨hz, its, 0, hv, Heap.get?_push_size _ rfl⟩
theorem Inv.fresh (I : Inv X pins σ H s) : H s.heap.objs.size = none := I.hok.fresh (Nat.le_refl _)
theorem Inv.lstM (I : Inv X pins σ H s) (hH : H l = some (.lst xs)) : xs.length ≤ sizeLine ∧ ∃ (its : List Value) (n : Nat), Vals xs its ∧ xs.length = its.length ∧ s.heap.get? l = some { cls := .type "list", data := .seq its.toArray n } := by
  obtain ⟨z, its, n, r, e⟩ := I.hok l _ hH
  exact ⟨z, its, n, r, r.length, e⟩
theorem notLongL {n : Nat} (h : n ≤ sizeLine) : Builtin.List.listTooLong n = false := by
  unfold Builtin.List.listTooLong
  exact decide_eq_false (by omega)
end
section
variable {X : Cx}
def rAppend : V → List V → Hp → VK → Prop := fun x vs H Q => ∃ l xs y, x = .ref l ∧ vs = [y] ∧ H l = some (.lst xs) ∧ xs.length < sizeLine ∧ Q .non (upd H l (.lst (xs ++ [y])))
theorem mt_append : MtM X "list.append" rAppend := by
  intro pins s σ H x vs v us Q I rx rv h
  obtain ⟨l, xs, y, rfl, rfl, hH, hz, q⟩ := h
  cases rx
  obtain ⟨u, rfl, ru⟩ := rv.one
  obtain ⟨z, its, n, r, hl, e⟩ := I.lstM hH
  refine call_meets F.slot_list_append ⟨_, e, rfl⟩ F.entry_list_append (F.args_list_append_2 _ _) (PySem.list_append l its.toArray n u (by rw [List.size_toArray]; omega)) ⟨e, ?_⟩
  refine ⟨.non, _, I.lset (its' := its ++ [u]) hH e (by simp) (r.append (.cons ru .nil)) ?_, rfl, q⟩
  rw [List.length_append, List.length_singleton]
  omega
def rExtend : V → List V → Hp → VK → Prop := fun x vs H Q => ∃ l b xs zs, x = .ref l ∧ vs = [.ref b] ∧ H l = some (.lst xs) ∧ H b = some (.lst zs) ∧ xs.length + zs.length ≤ sizeLine ∧ Q .non (upd H l (.lst (xs ++ zs)))
def rPop : V → List V → Hp → VK → Prop := fun x vs H Q => ∃ l xs y, x = .ref l ∧ vs = [] ∧ H l = some (.lst xs) ∧ xs[xs.length - 1]? = some y ∧ Q y (upd H l (.lst xs.dropLast))
theorem mt_pop : MtM X "list.pop" rPop := by
  intro pins s σ H x vs v us Q I rx rv h
  obtain ⟨l, xs, y, rfl, rfl, hH, hy, q⟩ := h
  cases rx
  have hus := rv.zero
  subst hus
  obtain ⟨z, its, n, r, hl, e⟩ := I.lstM hH
  obtain ⟨u, hu, ru⟩ := r.get hy
  have hy' : its.toArray[its.toArray.size - 1]? = some u := by
    show its.toArray[its.length - 1]? = some u
    rw [← Array.getElem?_toList, ← hl]
    exact hu
  refine call_meets F.slot_list_pop ⟨_, e, rfl⟩ F.entry_list_pop (F.args_list_pop_1 _) (MeetsSeq.list_pop_last l its.toArray n u hy' (by rw [List.size_toArray]; omega)) ⟨e, ?_⟩
  refine ⟨y, _, I.lset (its' := its.dropLast) hH e ?_ r.dropLast ?_, ru, q⟩
  · show its.toArray.eraseIdxIfInBounds (its.toArray.size - 1) = its.dropLast.toArray
    rw [List.size_toArray, List.eraseIdxIfInBounds_toArray, erase_last]
  · rw [List.length_dropLast]
    omega
def rPopAt : V → List V → Hp → VK → Prop := fun x vs H Q => ∃ l xs i k y, x = .ref l ∧ vs = [.int i] ∧ H l = some (.lst xs) ∧ -(2 ^ 63) ≤ i ∧ i < 2 ^ 63 ∧ seqIndex? i xs.length = some k ∧ xs[k]? = some y ∧ Q y (upd H l (.lst (xs.eraseIdx k)))
def rReverse : V → List V → Hp → VK → Prop := fun x vs H Q => ∃ l xs, x = .ref l ∧ vs = [] ∧ H l = some (.lst xs) ∧ Q .non (upd H l (.lst xs.reverse))
def rClear : V → List V → Hp → VK → Prop := fun x vs H Q => ∃ l xs, x = .ref l ∧ vs = [] ∧ H l = some (.lst xs) ∧ Q .non (upd H l (.lst []))
def rCat : R2 := fun x y H Q => ∃ l b xs zs, x = .ref l ∧ y = .ref b ∧ H l = some (.lst xs) ∧ H b = some (.lst zs) ∧ xs.length + zs.length ≤ sizeLine ∧ ∀ p, H p = none → Q (.ref p) (upd H p (.lst (xs ++ zs)))
theorem op_cat : OpR X (binaryOp .Add) rCat := by
  intro pins s σ H x y v u Q I rx ry h
  obtain ⟨l, b, xs, zs, rfl, rfl, hH, hB, hz, q⟩ := h
  cases rx
  cases ry
  obtain ⟨z, its, n, r, hl, e⟩ := I.lstM hH
  obtain ⟨z2, its2, n2, r2, hl2, e2⟩ := I.lstM hB
  refine PySem.P.add_list e e2 ?_ (by rw [List.size_toArray, List.size_toArray]; omega)
  have ea : its.toArray ++ its2.toArray = (its ++ its2).toArray := by simp
  rw [ea]
  exact ⟨.ref _, _, I.lnew (t' := s.toks) (r.append r2) (by rw [List.length_append]; omega), rfl, q _ I.fresh⟩
def rRep : R2 := fun x y H Q => ∃ l k xs, x = .ref l ∧ y = .int k ∧ H l = some (.lst xs) ∧ -(2 ^ 63) ≤ k ∧ k < 2 ^ 63 ∧ xs.length * k.toNat ≤ sizeLine ∧
  ∀ p, H p = none → Q (.ref p) (upd H p (.lst (List.replicate k.toNat xs).flatten))
theorem len_rep {α : Type} (xs : List α) (k : Nat) : (List.replicate k xs).flatten.length = k * xs.length := by
  induction k with
  | zero => simp
  | succ k ih => rw [List.replicate_succ, List.flatten_cons, List.length_append, ih, Nat.succ_mul, Nat.add_comm]
theorem op_rep : OpR X (binaryOp .Mult) rRep := by
  intro pins s σ H x y v u Q I rx ry h
  obtain ⟨l, k, xs, rfl, rfl, hH, h1, h2, hz, q⟩ := h
  cases rx
  obtain ⟨t, rfl⟩ := ry
  obtain ⟨z, its, n, r, hl, e⟩ := I.lstM hH
  have hlen : its.toArray.size * k.toNat ≤ sizeLine := by rw [List.size_toArray, ← hl]; exact hz
  have hcap : ¬ its.toArray.size * k.toNat > (2 ^ 63 - 1) / 8 := by
    have : (sizeLine : Nat) ≤ (2 ^ 63 - 1) / 8 := by decide
    omega
  have hfit : ¬ (!Builtin.List.listFitsIndex k) = true := by
    rw [fitsIndex_both h1 h2]
    exact Bool.false_ne_true
  have hlong : ¬ Builtin.List.listTooLong (its.toArray.size * k.toNat) = true := by
    rw [notLongL hlen]
    exact Bool.false_ne_true
  have hnew : List.foldl (fun x1 x2 => x1 ++ x2) #[] (List.replicate (if its.toArray.isEmpty = true then 0 else k.toNat) its.toArray) = (List.replicate k.toNat its).flatten.toArray := by
    have f0 : ∀ m : Nat, List.foldl (fun x1 x2 => x1 ++ x2) #[] (List.replicate m its.toArray) = (List.replicate m its).flatten.toArray := fun m => by
      have := foldl_rep its m []
      rw [List.nil_append] at this
      exact this
    rw [f0]
    cases its with
    | nil => simp
    | cons a r' => rw [if_neg (by simp)]
  refine wpAny_binaryOp_repeat_ref (T := "list") (U := "int") (by decide) ⟨_, e, rfl⟩ (fun s' => typeIs_int s' k t) noFill_list_mul F.fills_int_mul F.slot_int_rmul repeat_list F.slot_int_index.lookup
    (call_meets F.slot_int_rmul (typeIs_int s k t) F.entry_int_rmul (F.args_int_rmul_2 _ _) (int___rmul___int_list k t l its.toArray n)
      ⟨e, rfl, ⟨_, e, rfl⟩, call_meets F.slot_list_mul ⟨_, e, rfl⟩ F.entry_list_mul (F.args_list_mul_2 _ _) (AutoListH.list___mul___list_int_3 l its.toArray n k t hfit hcap hlong) ⟨e, ?_⟩⟩)
  rw [hnew]
  exact ⟨.ref _, _, I.lnew (t' := s.toks) (r.rep k.toNat) (by rw [len_rep, Nat.mul_comm]; exact hz), rfl, q _ I.fresh⟩
end
section
variable {prog : Program} {w : World} {A : Around} {E : Value → Shared → Prop} {s : Shared}
end
section
variable {X : Cx}
end
end L2
namespace L2
open PySem PySem.Spec PyProof.Rows
theorem Vals.ints : ∀ {ns : List Int} {us : List Value}, Vals (ns.map V.int) us → IntsAre us ns
  | [], us, h => by
    rw [List.map_nil] at h
    cases h
    exact IntsAre.nil
  | n :: ns, us, h => by
    rw [List.map_cons] at h
    cases h with
    | cons r t =>
      obtain ⟨k, rfl⟩ := r
      exact IntsAre.cons n k (Vals.ints t)
theorem Vals.strs : ∀ {xs : List Str} {us : List Value}, Vals (xs.map V.str) us → StrsAre us xs
  | [], us, h => by
    rw [List.map_nil] at h
    cases h
    exact StrsAre.nil
  | x :: xs, us, h => by
    rw [List.map_cons] at h
    cases h with
    | cons r t =>
      obtain ⟨k, rfl⟩ := r
      exact StrsAre.cons x k (Vals.strs t)
theorem Vals.ref1 {a : Addr} {us : List Value} (r : Vals [V.ref a] us) : us = [Value.ref a] := by
  cases r with
  | cons r t =>
    cases t
    cases r
    rfl
section
variable {prog : Program} {w : World} {A : Around} {E : Value → Shared → Prop} {s : Shared} {l : Addr} {its : List Value} {ns : List Int} {Q : Value → Shared → Prop}
end
section
variable {X : Cx}
def rSum (K : PySem.W.Frag) : List V → Hp → VK → Prop := fun vs H Q => ∃ (a : Addr) (ns : List Int), vs = [V.ref a] ∧ SqL K H a (ns.map V.int) ∧ Q (.int ns.sum) H
def rMax (K : PySem.W.Frag) : List V → Hp → VK → Prop := fun vs H Q => ∃ (a : Addr) (ns : List Int), vs = [V.ref a] ∧ SqL K H a (ns.map V.int) ∧ 0 < ns.length ∧ ∀ m, m ∈ ns → (∀ y, y ∈ ns → y ≤ m) → Q (.int m) H
def rMin (K : PySem.W.Frag) : List V → Hp → VK → Prop := fun vs H Q => ∃ (a : Addr) (ns : List Int), vs = [V.ref a] ∧ SqL K H a (ns.map V.int) ∧ 0 < ns.length ∧ ∀ m, m ∈ ns → (∀ y, y ∈ ns → m ≤ y) → Q (.int m) H
def rSorted (K : PySem.W.Frag) : List V → Hp → VK → Prop := fun vs H Q => ∃ (a : Addr) (ns : List Int), vs = [V.ref a] ∧ SqL K H a (ns.map V.int) ∧ ns.length < 64 ∧
  ∀ (ns' : List Int) (p : Addr), ns'.Perm ns → ns'.Pairwise (· ≤ ·) → H p = none → Q (.ref p) (upd H p (.lst (ns'.map V.int)))
def rSortedS (K : PySem.W.Frag) : List V → Hp → VK → Prop := fun vs H Q => ∃ (a : Addr) (xs : List Str), vs = [V.ref a] ∧ SqL K H a (xs.map V.str) ∧ xs.length < 64 ∧
  ∀ (ys : List Str) (p : Addr), ys.Perm xs → sortedS ys = true → H p = none → Q (.ref p) (upd H p (.lst (ys.map V.str)))
def rSort : V → List V → Hp → VK → Prop := fun x xs H Q => ∃ (a : Addr) (ns : List Int), x = V.ref a ∧ xs = [] ∧ H a = some (.lst (ns.map V.int)) ∧ ns.length < 64 ∧
  ∀ ns' : List Int, ns'.Perm ns → ns'.Pairwise (· ≤ ·) → Q .non (upd H a (.lst (ns'.map V.int)))
end
section
variable {X : Cx}
def rIndex (K : PySem.W.Frag) : V → List V → Hp → VK → Prop := fun x xs H Q => ∃ (a : Addr) (ys : List V) (y : V) (j : Nat) (z : V), x = V.ref a ∧ xs = [y] ∧ SqL K H a ys ∧ flatV y = true ∧ ys.all flatV = true ∧ ys[j]? = some z ∧ eqV z y = true ∧
  (∀ (m : Nat) (z' : V), m < j → ys[m]? = some z' → eqV z' y = false) ∧ Q (.int (j : Nat)) H
end
section
variable {X : Cx}
end
section
variable {X : Cx}
def rAny (K : PySem.W.Frag) : List V → Hp → VK → Prop := fun vs H Q => ∃ (a : Addr) (bs : List Bool), vs = [V.ref a] ∧ SqL K H a (bs.map V.bl) ∧ Q (.bl (bs.any id)) H
def rAll (K : PySem.W.Frag) : List V → Hp → VK → Prop := fun vs H Q => ∃ (a : Addr) (bs : List Bool), vs = [V.ref a] ∧ SqL K H a (bs.map V.bl) ∧ Q (.bl (bs.all id)) H
end
mutual
inductive Dp (K : PySem.W.Frag) (H : Hp) : V → PyData → Prop
  | non : Dp K H .non .none
  | bl (b : Bool) : Dp K H (.bl b) (.bool b)
  | int (i : Int) : Dp K H (.int i) (.int i)
  | str (x : Str) : Dp K H (.str x) (.str x)
  | lst {a : Addr} {xs : List V} {ds : List PyData} : SqL K H a xs → DpAll K H xs ds → Dp K H (.ref a) (.list ds)
  | tup {a : Addr} {xs : List V} {ds : List PyData} : SqT K H a xs → DpAll K H xs ds → Dp K H (.ref a) (.tuple ds)
inductive DpAll (K : PySem.W.Frag) (H : Hp) : List V → List PyData → Prop
  | nil : DpAll K H [] []
  | cons {v : V} {vs : List V} {d : PyData} {ds : List PyData} : Dp K H v d → DpAll K H vs ds → DpAll K H (v :: vs) (d :: ds)
end
section
variable {X : Cx} {pins : List (Addr × Obj)} {σ : St} {H : Hp} {s : Shared}
mutual
theorem Dp.reads (I : Inv X pins σ H s) : ∀ (d : PyData) (v : V) (u : Value), Dp X.K H v d → RelV v u → ∃ as, Reads s.heap u d as
  | .none, _, _, h, r => by
    cases h
    cases r
    exact ⟨_, Reads.none⟩
  | .bool b, _, _, h, r => by
    cases h
    cases r
    exact ⟨_, Reads.bool b⟩
  | .int i, _, _, h, r => by
    cases h
    obtain ⟨t, rfl⟩ := r
    exact ⟨_, Reads.int i t⟩
  | .str x, _, _, h, r => by
    cases h
    obtain ⟨t, rfl⟩ := r
    exact ⟨_, Reads.str x t⟩
  | .list ds, _, _, h, r => by
    cases h with
    | lst hs ha =>
      cases r
      obtain ⟨its, rv, ⟨o, n, ho, hc, _, hd⟩, _⟩ := I.list hs
      obtain ⟨as, hr⟩ := Dp.readsAll I ds _ its ha rv
      exact ⟨_, Reads.list ho hc hd hr⟩
  | .tuple ds, _, _, h, r => by
    cases h with
    | tup hs ha =>
      cases r
      obtain ⟨its, rv, ⟨o, ho, hc, n, hd⟩, _⟩ := I.tuple hs
      obtain ⟨as, hr⟩ := Dp.readsAll I ds _ its ha rv
      exact ⟨_, Reads.tuple ho hc hd hr⟩
  | .dict _, _, _, h, _ => by cases h
theorem Dp.readsAll (I : Inv X pins σ H s) : ∀ (ds : List PyData) (vs : List V) (us : List Value), DpAll X.K H vs ds → Vals vs us → ∃ as, ReadsAll s.heap us ds as
  | [], _, _, h, r => by
    cases h
    cases r
    exact ⟨_, ReadsAll.nil⟩
  | d :: ds, _, _, h, r => by
    cases h with
    | cons h1 h2 =>
      cases r with
      | cons r1 r2 =>
        obtain ⟨as, q1⟩ := Dp.reads I d _ _ h1 r1
        obtain ⟨bs, q2⟩ := Dp.readsAll I ds _ _ h2 r2
        exact ⟨_, ReadsAll.cons q1 q2⟩
end
end
section
variable {X : Cx}
def rEqD (K : PySem.W.Frag) : R2 := fun x y H Q => ∃ d e, Dp K H x d ∧ Dp K H y e ∧ SeqAt.shaped d = true ∧ SeqAt.shaped e = true ∧ Q (.bl (PyData.eqv d e)) H
def rNeD (K : PySem.W.Frag) : R2 := fun x y H Q => ∃ d e, Dp K H x d ∧ Dp K H y e ∧ SeqAt.shaped d = true ∧ SeqAt.shaped e = true ∧ Q (.bl (!PyData.eqv d e)) H
theorem op_neD (hu : X.A.units + 64 < cLine) : OpR X (compareOp .NotEq) (rNeD X.K) := by
  intro pins s σ H x y v u Q I rx ry h
  obtain ⟨d, e, hd, he, sd, se, q⟩ := h
  obtain ⟨as, r1⟩ := Dp.reads I d x v hd rx
  obtain ⟨bs, r2⟩ := Dp.reads I e y u he ry
  exact SeqAt.compareNe_shaped r1 r2 sd se hu ⟨.bl _, H, I, rfl, q⟩
end
end L2
namespace L2
open PySem PySem.Spec PyProof.Rows
abbrev CellAt (h : Heap) (c : Addr) (v : Option Value) : Prop := h.IsCell c v
def relS (scope sc : Scope) : Scope :=
  { scope with names := scope.names.map fun (n, k) => if (k == .free && sc.kind == .function && sc.names.lookup n == some .cell) then (n, .cell) else (n, k) }
def cloFrom (cells : List (Str × Addr)) : List (Str × NameKind) → List (Str × Addr) → List (Str × Addr)
  | [], acc => acc
  | (n, k) :: r, acc => if k == .free then cloFrom cells r ((n, (cells.lookup n).getD 0) :: acc) else cloFrom cells r acc
theorem closure_loop (env : Env) (f : Str × NameKind → List (Str × Addr) → Sem (ForInStep (List (Str × Addr))))
    (hf : ∀ n k c, f (n, k) c = if k == .free then (do let a ← cellOf env n; pure (.yield ((n, a) :: c))) else pure (.yield c)) :
    ∀ (names : List (Str × NameKind)) (acc : List (Str × Addr)), (∀ y ∈ names, y.2 = .free → ∃ c, env.cells.lookup y.1 = some c) → forIn names acc f = pure (cloFrom env.cells names acc)
  | [], acc, _ => by rw [List.forIn_nil]; rfl
  | (n, k) :: r, acc, h => by
    rw [List.forIn_cons, hf]
    have ih := fun acc => closure_loop env f hf r acc fun y hy => h y (List.mem_cons_of_mem _ hy)
    unfold cloFrom
    by_cases hk : (k == NameKind.free) = true
    · rw [if_pos hk, if_pos hk]
      obtain ⟨c, hc⟩ := h (n, k) List.mem_cons_self (by simpa using hk)
      have e : cellOf env n = pure c := by unfold cellOf; rw [hc]
      rw [e]
      have e2 : (env.cells.lookup n).getD 0 = c := by rw [hc]; rfl
      rw [e2]
      exact ih _
    · rw [if_neg hk, if_neg hk]
      exact ih _
theorem closure_ok {scope : Scope} {env : Env} (h : ∀ y ∈ scope.names, y.2 = .free → ∃ c, env.cells.lookup y.1 = some c) : closureFor scope env = pure (cloFrom env.cells scope.names []) := by
  simp only [closureFor]
  rw [closure_loop env _ (fun n k c => rfl) scope.names [] h]
  rfl
theorem mem_lookup {α : Type} : ∀ {l : List (Str × α)} {n : Str} {c : α}, (n, c) ∈ l → ∃ c', l.lookup n = some c'
  | (k, v) :: r, n, c, h => by
    rw [List.lookup_cons]
    cases hb : n == k with
    | true => exact ⟨_, rfl⟩
    | false =>
      rcases List.mem_cons.mp h with e | h
      · cases e; simp at hb
      · exact mem_lookup h
theorem cloFrom_mem {cells : List (Str × Addr)} : ∀ {names : List (Str × NameKind)} {acc : List (Str × Addr)} {n : Str} {c : Addr}, (n, c) ∈ cloFrom cells names acc → (n, c) ∈ acc ∨ ((n, .free) ∈ names ∧ c = (cells.lookup n).getD 0)
  | [], _, _, _, h => .inl h
  | (m, k) :: r, acc, n, c, h => by
    unfold cloFrom at h
    split at h
    · rename_i hk
      have hk : k = .free := by simpa using hk
      rcases cloFrom_mem h with h | ⟨h1, h2⟩
      · rcases List.mem_cons.mp h with e | h
        · cases e; exact .inr ⟨hk ▸ List.mem_cons_self, rfl⟩
        · exact .inl h
      · exact .inr ⟨List.mem_cons_of_mem _ h1, h2⟩
    · rcases cloFrom_mem h with h | ⟨h1, h2⟩
      · exact .inl h
      · exact .inr ⟨List.mem_cons_of_mem _ h1, h2⟩
theorem cloFrom_acc {cells : List (Str × Addr)} : ∀ {names : List (Str × NameKind)} {acc : List (Str × Addr)} {p : Str × Addr}, p ∈ acc → p ∈ cloFrom cells names acc
  | [], _, _, h => h
  | (m, k) :: r, acc, p, h => by
    unfold cloFrom
    split
    · exact cloFrom_acc (List.mem_cons_of_mem _ h)
    · exact cloFrom_acc h
theorem cloFrom_has {cells : List (Str × Addr)} : ∀ {names : List (Str × NameKind)} {acc : List (Str × Addr)} {n : Str}, (n, .free) ∈ names → (n, (cells.lookup n).getD 0) ∈ cloFrom cells names acc
  | (m, k) :: r, acc, n, h => by
    unfold cloFrom
    rcases List.mem_cons.mp h with e | h
    · cases e
      exact cloFrom_acc List.mem_cons_self
    · split
      · exact cloFrom_has h
      · exact cloFrom_has h
theorem cells_mem : ∀ {names : List (Str × NameKind)} {h : Heap} {acc : List (Str × Addr)} {x : Str} {c : Addr}, (x, c) ∈ cellsFrom h.objs.size names acc →
    (x, c) ∈ acc ∨ ((x, .cell) ∈ names ∧ h.objs.size ≤ c ∧ CellAt (pushCells h names) c none)
  | [], _, _, _, _, h => .inl h
  | (n, k) :: r, h, acc, x, c, hm => by
    unfold cellsFrom at hm
    unfold pushCells
    split at hm
    · rename_i hk
      rw [if_pos hk]
      have hk : k = .cell := by simpa using hk
      rw [← Heap.size_push h { cls := .type "cell", data := .cell none }] at hm
      rcases cells_mem hm with hm | ⟨h1, h2, h3⟩
      · rcases List.mem_cons.mp hm with e | hm
        · cases e
          exact .inr ⟨hk ▸ List.mem_cons_self, Nat.le_refl _, _, pushCells_keeps r _ _ _ (Heap.get?_push_size _ rfl), rfl⟩
        · exact .inl hm
      · rw [Heap.size_push] at h2
        exact .inr ⟨List.mem_cons_of_mem _ h1, Nat.le_of_succ_le h2, h3⟩
    · rename_i hk
      rw [if_neg hk]
      rcases cells_mem hm with hm | ⟨h1, h2, h3⟩
      · exact .inl hm
      · exact .inr ⟨List.mem_cons_of_mem _ h1, h2, h3⟩
theorem cells_acc : ∀ {names : List (Str × NameKind)} {n : Nat} {acc : List (Str × Addr)} {p : Str × Addr}, p ∈ acc → p ∈ cellsFrom n names acc
  | [], _, _, _, h => h
  | (m, k) :: r, n, acc, p, h => by
    unfold cellsFrom
    split
    · exact cells_acc (List.mem_cons_of_mem _ h)
    · exact cells_acc h
theorem cells_has : ∀ {names : List (Str × NameKind)} {n : Nat} {acc : List (Str × Addr)} {x : Str}, (x, .cell) ∈ names → ∃ c, (x, c) ∈ cellsFrom n names acc
  | (m, k) :: r, n, acc, x, h => by
    unfold cellsFrom
    rcases List.mem_cons.mp h with e | h
    · cases e
      exact ⟨n, cells_acc List.mem_cons_self⟩
    · split
      · exact cells_has h
      · exact cells_has h
theorem cells_inj : ∀ {names : List (Str × NameKind)} {h : Heap} {acc : List (Str × Addr)} {x y : Str} {c : Addr}, (∀ p ∈ acc, p.2 < h.objs.size) → (∀ x y c, (x, c) ∈ acc → (y, c) ∈ acc → x = y) →
    (x, c) ∈ cellsFrom h.objs.size names acc → (y, c) ∈ cellsFrom h.objs.size names acc → x = y
  | [], _, _, _, _, _, _, hi, h1, h2 => hi _ _ _ h1 h2
  | (n, k) :: r, h, acc, x, y, c, hl, hi, h1, h2 => by
    unfold cellsFrom at h1 h2
    split at h1
    · rename_i hk
      rw [if_pos hk] at h2
      rw [← Heap.size_push h { cls := .type "cell", data := .cell none }] at h1 h2
      refine cells_inj (h := h.push _) (fun p hp => ?_) (fun x y c a b => ?_) h1 h2
      · rw [Heap.size_push]
        rcases List.mem_cons.mp hp with rfl | hp
        · exact Nat.lt_succ_self _
        · exact Nat.lt_succ_of_lt (hl p hp)
      · rcases List.mem_cons.mp a with e | a <;> rcases List.mem_cons.mp b with e' | b
        · cases e; cases e'; rfl
        · cases e; exact absurd (hl _ b) (Nat.lt_irrefl _)
        · cases e'; exact absurd (hl _ a) (Nat.lt_irrefl _)
        · exact hi _ _ _ a b
    · rename_i hk
      rw [if_neg hk] at h2
      exact cells_inj hl hi h1 h2
theorem newEnv_comp {M : Model} {A : Around} {E : Value → Shared → Prop} {s : Shared} {scope : Scope} {globals : Addr} {closure : List (Str × Addr)} {qual : Str} {func : Option Addr} {code : Value} {around : Env} {builtins : Addr} {Q : Env → Shared → Prop}
    (h : Q (newEnv scope s.heap.objs.size globals (cellsFrom (s.heap.objs.size + 1) scope.names closure) qual func code (some around) builtins)
      { s with heap := pushCells (s.heap.push { cls := .type "dict", data := .dict #[] }) scope.names }) :
    wpAny M A (newFunctionEnv scope globals closure [] qual func code (some around) builtins) Q E s := by
  simp only [newFunctionEnv, Option.isSome_some, if_true]
  refine wpAny_bind (wpAny_alloc ?_)
  refine wpAny_bind (wpAny_layCells _ (fun n k c => rfl) scope.names closure _ _ ?_)
  rw [show ({ s with heap := s.heap.push { cls := .type "dict", data := .dict #[] } } : Shared).heap.objs.size = s.heap.objs.size + 1 from Heap.size_push ..]
  rw [List.forIn_nil]
  exact wpAny_bind (wpAny_pure (wpAny_pure h))
theorem lookup_relS {sc : Scope} : ∀ {names : List (Str × NameKind)} {x : Str} {k : NameKind},
    (names.map fun (n, k) => if (k == NameKind.free && sc.kind == .function && sc.names.lookup n == some .cell) then (n, NameKind.cell) else (n, k)).lookup x = some k →
    ∃ k', names.lookup x = some k' ∧ (k = k' ∨ (k' = .free ∧ k = .cell))
  | [], _, _, h => by simp at h
  | (n, k₀) :: r, x, k, h => by
    have ih := @lookup_relS sc r x k
    have h' : List.lookup x ((if (k₀ == NameKind.free && sc.kind == .function && sc.names.lookup n == some .cell) = true then (n, NameKind.cell) else (n, k₀)) :: (r.map _)) = some k := h
    cases hx : x == n with
    | true =>
      simp only [List.lookup_cons, hx]
      by_cases hc : (k₀ == NameKind.free && sc.kind == .function && sc.names.lookup n == some .cell) = true
      · rw [if_pos hc] at h'
        simp only [List.lookup_cons, hx] at h'
        cases h'
        simp only [Bool.and_eq_true, beq_iff_eq] at hc
        exact ⟨k₀, rfl, .inr ⟨hc.1.1, rfl⟩⟩
      · rw [if_neg hc] at h'
        simp only [List.lookup_cons, hx] at h'
        cases h'
        exact ⟨_, rfl, .inl rfl⟩
    | false =>
      simp only [List.lookup_cons, hx]
      by_cases hc : (k₀ == NameKind.free && sc.kind == .function && sc.names.lookup n == some .cell) = true
      · rw [if_pos hc] at h'
        simp only [List.lookup_cons, hx] at h'
        exact ih h'
      · rw [if_neg hc] at h'
        simp only [List.lookup_cons, hx] at h'
        exact ih h'
structure BlkOk (N : List Str) (sc scope : Scope) (own : List (Str × Nat)) : Prop where
  kind : scope.kind = .function
  uniq : ∀ y ∈ scope.names, scope.names.lookup y.1 = some y.2
  ix : ∀ p ∈ own, N[p.2]? = some p.1
  free : ∀ y ∈ scope.names, y.2 = .free → sc.names.lookup y.1 = some .cell ∨ sc.names.lookup y.1 = some .free
  own : ∀ y ∈ scope.names, y.2 = .local ∨ y.2 = .cell → y.1 ∈ own.map (·.1) ∨ y.1 ∉ N
def wipe (σ : St) : List Nat → St
  | [] => σ
  | v :: vs => (wipe σ vs).set v none
theorem wipe_length (σ : St) : ∀ vs : List Nat, (wipe σ vs).length = σ.length
  | [] => rfl
  | v :: vs => by unfold wipe; rw [List.length_set, wipe_length σ vs]
theorem wipe_some {σ : St} {i : Nat} {x : V} : ∀ {vs : List Nat}, (wipe σ vs)[i]? = some (some x) → σ[i]? = some (some x) ∧ i ∉ vs
  | [], h => ⟨h, by simp⟩
  | v :: vs, h => by
    unfold wipe at h
    by_cases hi : v = i
    · subst hi
      by_cases hv : v < (wipe σ vs).length
      · rw [List.getElem?_set_self hv] at h; cases h
      · rw [List.getElem?_eq_none (by simpa using hv)] at h; cases h
    · rw [List.getElem?_set_ne hi] at h
      obtain ⟨h1, h2⟩ := wipe_some h
      exact ⟨h1, by simp only [List.mem_cons, not_or]; exact ⟨fun e => hi e.symm, h2⟩⟩
abbrev Cx.blk (X : Cx) (s : Shared) (H : Hp) (scope : Scope) (cenv : Env) (fp : List Addr) : Cx := { X with s_0 := s, H_0 := H, env := cenv, outer := X.stack, ex := fp, fn := fun x => scope.names.lookup x == some .cell, pn := [], xe := fun _ _ => False }
section
variable {X : Cx} {pins : List (Addr × Obj)} {σ : St} {H : Hp} {s : Shared}
theorem block_start {scope : Scope} {own : List (Str × Nat)} {fp : List Addr} (I : Inv X pins σ H s) (ok : BlkOk X.N X.env.scope scope own) (hN : X.N.Nodup) (hfp : ∀ b ∈ fp, FpOk X pins H b ∧ b < s.heap.objs.size) :
    Inv (X.blk s H scope (compEnvC scope (cellsFrom (s.heap.objs.size + 1) scope.names (cloFrom X.env.cells scope.names [])) s.heap.objs.size X.env) fp) [] (wipe σ (own.map (·.2))) H { s with heap := pushCells (s.heap.push { cls := .type "dict", data := .dict #[] }) scope.names } := by
  have hfree : ∀ y ∈ scope.names, y.2 = .free → ∃ c, X.env.cells.lookup y.1 = some c := fun y hy e => by
    rcases ok.free y hy e with k | k
    · exact I.ok.has _ (.inl k)
    · exact I.ok.has _ (.inr k)
  generalize hcenv : compEnvC scope (cellsFrom (s.heap.objs.size + 1) scope.names (cloFrom X.env.cells scope.names [])) s.heap.objs.size X.env = cenv
  have kp : ∀ b o, s.heap.get? b = some o → (pushCells (s.heap.push { cls := .type "dict", data := .dict #[] }) scope.names).get? b = some o := fun b o e => pushCells_keeps _ _ _ _ (Heap.get?_push_of_some _ e)
  have hL : cenv.locals = s.heap.objs.size := by rw [← hcenv]; rfl
  have hcl : cenv.cells = cellsFrom (s.heap.objs.size + 1) scope.names (cloFrom X.env.cells scope.names []) := by rw [← hcenv]; rfl
  have hsc : cenv.scope = relS scope X.env.scope := by rw [← hcenv]; rfl
  rw [← Heap.size_push s.heap { cls := .type "dict", data := .dict #[] }] at hcl
  have cm : ∀ {y c}, (y, c) ∈ cloFrom X.env.cells scope.names [] → X.env.cells.lookup y = some c ∧ c < s.heap.objs.size := fun {y c} hm => by
    rcases cloFrom_mem hm with hm | ⟨h1, rfl⟩
    · cases hm
    · obtain ⟨c, hc⟩ := hfree _ h1 rfl
      rw [hc]
      obtain ⟨w, z⟩ := I.cell _ _ hc
      exact ⟨rfl, z.lt⟩
  have mem : ∀ {y c}, cenv.cells.lookup y = some c → (X.env.cells.lookup y = some c ∧ c < s.heap.objs.size) ∨ (s.heap.objs.size + 1 ≤ c ∧ CellAt (pushCells (s.heap.push { cls := .type "dict", data := .dict #[] }) scope.names) c none) := fun {y c} e => by
    rw [hcl] at e
    rcases cells_mem (PySem.mem_of_lookup e) with hm | ⟨_, h2, h3⟩
    · exact .inl (cm hm)
    · rw [Heap.size_push] at h2; exact .inr ⟨h2, h3⟩
  have look : ∀ {y}, scope.names.lookup y = some .free → ∃ c, cenv.cells.lookup y = some c ∧ X.env.cells.lookup y = some c := fun {y} hl => by
    have hy : (y, NameKind.free) ∈ scope.names := PySem.mem_of_lookup hl
    obtain ⟨c', e'⟩ := mem_lookup (cells_acc (names := scope.names) (n := (s.heap.push { cls := .type "dict", data := .dict #[] }).objs.size) (cloFrom_has (cells := X.env.cells) (acc := []) hy))
    rw [← hcl] at e'
    refine ⟨c', e', ?_⟩
    rw [hcl] at e'
    rcases cells_mem (PySem.mem_of_lookup e') with hm | ⟨h1, _, _⟩
    · exact (cm hm).1
    · have := ok.uniq _ h1
      rw [hl] at this; cases this
  have okB : (X.blk s H scope cenv fp).Ok := by
    refine ⟨I.ok.mod, by show cenv.scope.kind = _; rw [hsc]; exact ok.kind, by show cenv.globals = _; rw [← hcenv]; exact I.ok.glob, by show cenv.builtins = _; rw [← hcenv]; exact I.ok.blt, by show s.heap.objs.size ≤ cenv.locals; rw [hL]; exact Nat.le_refl _,
      fun y z c e1 e2 => ?_, fun y hy => ?_, fun y c z e => ?_, I.ok.hd, I.ok.frames, .inl rfl, fun b hb => ⟨?_, fun y c e z => ?_⟩, I.bs, Nat.le_trans I.ok.bsz I.sz, fun b o e hb => ?_, fun b hb z => ?_, I.stack, I.stkFree⟩
    · have e1 : cenv.cells.lookup y = some c := e1
      have e2 : cenv.cells.lookup z = some c := e2
      rw [hcl] at e1 e2
      refine cells_inj (fun p hp => ?_) (fun y z c a b => I.ok.inj y z c (cm a).1 (cm b).1) (PySem.mem_of_lookup e1) (PySem.mem_of_lookup e2)
      rw [Heap.size_push]
      exact Nat.lt_succ_of_lt (cm (y := p.1) (c := p.2) hp).2
    · show ∃ c, cenv.cells.lookup y = some c
      have key : ∀ k, cenv.kindOf y = some k → (k = .cell ∨ k = .free) → ∃ c, cenv.cells.lookup y = some c := fun k hk hk' => by
        unfold Env.kindOf at hk
        rw [hsc] at hk
        obtain ⟨k', e, r⟩ := lookup_relS hk
        have : k' = .cell ∨ k' = .free := by
          rcases r with rfl | ⟨rfl, _⟩
          · exact hk'
          · exact .inr rfl
        rcases this with rfl | rfl
        · obtain ⟨c, hm⟩ := cells_has (n := (s.heap.push { cls := .type "dict", data := .dict #[] }).objs.size) (acc := cloFrom X.env.cells scope.names []) (PySem.mem_of_lookup e)
          obtain ⟨c', e'⟩ := mem_lookup hm
          exact ⟨c', by rw [hcl]; exact e'⟩
        · obtain ⟨c, h1, _⟩ := look e
          exact ⟨c, h1⟩
      rcases hy with hy | hy
      · exact key _ hy (.inl rfl)
      · exact key _ hy (.inr rfl)
    · have z : (scope.names.lookup y == some NameKind.cell) = true := z
      have z : scope.names.lookup y = some .cell := by simpa using z
      have e : cenv.cells.lookup y = some c := e
      rw [hcl] at e
      rcases cells_mem (PySem.mem_of_lookup e) with hm | ⟨_, h2, _⟩
      · rcases cloFrom_mem hm with hm | ⟨h1, _⟩
        · cases hm
        · have q := ok.uniq _ h1
          rw [z] at q; cases q
      · rw [Heap.size_push] at h2
        exact Nat.le_of_succ_le h2
    · show b ≠ cenv.locals
      rw [hL]; exact Nat.ne_of_lt (hfp b hb).2
    · have e : cenv.cells.lookup y = some c := e
      rcases mem e with ⟨h1, _⟩ | ⟨h1, _⟩
      · exact (hfp b hb).1.2.2.2.2.1 y c h1 z
      · have h2 : s.heap.objs.size + 1 ≤ b := by rw [← z]; exact h1
        exact absurd (Nat.lt_of_lt_of_le (hfp b hb).2 (Nat.le_of_succ_le h2)) (Nat.lt_irrefl _)
    · rcases (hfp b hb).1.2.2.2.1 with z | z
      · exact I.ok.noex b o e z
      · exact absurd (Nat.lt_of_lt_of_le (Heap.lt_size e) (Nat.le_trans I.ok.bsz z)) (Nat.lt_irrefl _)
    · rcases List.mem_cons.mp (I.stkSub b z) with z | z
      · exact (hfp b hb).1.2.1 z
      · exact (hfp b hb).1.2.2.1 z
  refine ⟨okB, rfl, I.bare, Un.kept kp, ⟨fun _ => none, ?_, fun i y av e1 e2 e3 => ?_⟩, fun y c e => ?_, ?_, fun y c e => ?_, fun p hp => ?_, I.hok.kept kp, by rw [wipe_length]; exact I.len⟩
  · show Heap.Ns _ cenv.locals _
    rw [hL]
    exact Heap.Ns.keeps (Heap.Ns.new ..) fun b o e => pushCells_keeps _ _ _ _ e
  · obtain ⟨e2, hne⟩ := wipe_some e2
    have hfr : scope.names.lookup y = some .free ∧ (cenv.kindOf y = some .cell ∨ cenv.kindOf y = some .free) := by
      have key : ∀ k, cenv.scope.names.lookup y = some k → k = .local ∨ k = .cell ∨ k = .free → scope.names.lookup y = some .free ∧ (cenv.kindOf y = some .cell ∨ cenv.kindOf y = some .free) := fun k hk hk' => by
        have hk0 := hk
        rw [hsc] at hk
        obtain ⟨k', e, r⟩ := lookup_relS hk
        have no : ¬ (k' = .local ∨ k' = .cell) := fun hh => by
          rcases ok.own _ (PySem.mem_of_lookup e) hh with e' | e'
          · obtain ⟨p, hp, hpy⟩ := List.mem_map.mp e'
            have e3 := ok.ix p hp
            have : p.1 = y := hpy
            rw [this] at e3
            exact hne (List.mem_map.mpr ⟨p, hp, nodup_ix hN e3 e1⟩)
          · exact e' (List.mem_of_getElem? e1)
        rcases r with rfl | ⟨rfl, rfl⟩
        · rcases hk' with rfl | rfl | rfl
          · exact absurd (.inl rfl) no
          · exact absurd (.inr rfl) no
          · exact ⟨e, .inr hk0⟩
        · exact ⟨e, .inl hk0⟩
      have e3 : Vis cenv.scope y := e3
      rcases e3 with e3 | e3 | e3
      · exact key _ e3 (.inl rfl)
      · exact key _ e3 (.inr (.inl rfl))
      · exact key _ e3 (.inr (.inr rfl))
    obtain ⟨m, hn, hl⟩ := I.loc
    have hvis : Vis X.env.scope y := (ok.free _ (PySem.mem_of_lookup hfr.1) rfl).elim (fun k => .inr (.inl k)) (fun k => .inr (.inr k))
    obtain ⟨w, r, q⟩ := hl i y av e1 e2 hvis
    refine ⟨w, r, .inr ⟨hfr.2, ?_⟩⟩
    obtain ⟨c, h1, h2⟩ := look hfr.1
    rcases q with ⟨k, _⟩ | ⟨_, c', e', z⟩
    · have k : X.env.scope.names.lookup y = some .local := k
      rcases ok.free _ (PySem.mem_of_lookup hfr.1) rfl with k' | k' <;> rw [show X.env.scope.names.lookup y = _ from k'] at k <;> cases k
    · rw [h2] at e'; cases e'
      exact ⟨c, h1, z.keeps kp⟩
  · have e : cenv.cells.lookup y = some c := e
    rcases mem e with ⟨h1, _⟩ | ⟨_, z⟩
    · obtain ⟨w, z⟩ := I.cell y c h1
      exact ⟨w, z.keeps kp⟩
    · exact ⟨_, z⟩
  · show H cenv.locals = none
    rw [hL]; exact I.hok.fresh (Nat.le_refl _)
  · have e : cenv.cells.lookup y = some c := e
    rcases mem e with ⟨h1, _⟩ | ⟨h1, _⟩
    · exact I.freeC y c h1
    · exact I.hok.fresh (Nat.le_of_succ_le h1)
  · exact absurd (show p ∈ ([] : List (Addr × Obj)) ++ [] from hp) (by simp)
theorem app_ok {E : Value → Shared → Prop} {D : Addr} {xs : List V} {y : V} {v : Value} {Q : Value → Shared → Prop} (I : Inv X pins σ H s) (hD : H D = some (.lst xs)) (hz : xs.length < sizeLine) (r : RelV y v)
    (h : ∀ s', Inv X pins σ (upd H D (.lst (xs ++ [y]))) s' → Q .none s') : wpAny (model X.prog X.w) X.A (call (.builtin "list.append") [.ref D, v]) Q E s := by
  obtain ⟨hz', its, n, ri, e⟩ := I.hok D _ hD
  have hl := ri.length
  refine append_at (hsz := by rw [List.size_toArray]; omega) e fun h' sb ho' => ?_
  refine h { s with heap := h' } (I.write (t' := s.toks) (by rw [hD]; trivial) (.inl rfl) (fun b u hb q => (sb.2 b hb).trans q) ⟨_, ho'⟩ ⟨by rw [List.length_append]; exact hz, its ++ [v], n + 1, ri.append (.cons r .nil), ?_⟩)
  rw [ho']
  simp
def PTs (X : Cx) (ifs : List Expr) (t : TT) : Prop :=
  ∀ (pins : List (Addr × Obj)) (s : Shared) (σ : St) (H : Hp) (Q : Bool → Hp → Prop), Inv X pins σ H s → t σ H Q →
    wpAny (model X.prog X.w) X.A (forIn ifs true fun c r => if r = true then do let ok ← isTrue c X.env (eval c X.env); pure (ForInStep.yield ok) else pure (ForInStep.yield r)) (TP X pins σ Q) X.xe s
def tYes : TT := fun _ H Q => Q true H
theorem pts_one {c : Expr} {t : TT} (h : PT X c t) : PTs X [c] t := fun pins s σ H Q I hw => wpAny_tests_one (h pins s σ H Q I hw)
end
theorem thnF {α : Type} {t : Sem α} {Q Q' : α → Shared → Prop} {M : Model} {A : Around} {E : Value → Shared → Prop} {s : Shared} (h : wpAny M A t Q (fun _ _ => False) s) (hQ : ∀ a s, Q a s → Q' a s) : wpAny M A t Q' E s := wpAny_mono h hQ fun _ _ z => False.elim z
theorem compLoop_any {prog : Program} {w : World} {A : Around} {R : Result → Shared → Prop} {s : Shared} {elt target iter : Expr} {ifs : List Expr} {scope : Scope} {pos : Pos} {it acc : Value} {env : Env} (I : Nat → Shared → Prop)
    (turn : ∀ n s, I n s → wpAny (model prog w) A (pyNext it) (fun r s₁ => match r with
      | none => R (.ok .next) s₁
      | some v => wpAny (model prog w) A (letOwnedTupleGo target it v) (fun _ s₁' => wpAny (model prog w) A (assign target env v) (fun _ s₂ =>
          wpAny (model prog w) A (forIn ifs true fun c r => if r = true then do let ok ← isTrue c env (eval c env); pure (ForInStep.yield ok) else pure (ForInStep.yield r)) (fun ok s₃ =>
            if ok = true then wpAny (model prog w) A (eval elt env) (fun x s₄ =>
              wpAny (model prog w) A (call (.builtin "list.append") [acc, x]) (fun _ s₅ => ∃ m, m < n ∧ I m s₅) (notedBy (model prog w) A env fun e s' => R (.error e) s') s₄) (notedBy (model prog w) A env fun e s' => R (.error e) s') s₃
            else ∃ m, m < n ∧ I m s₃) (notedBy (model prog w) A env fun e s' => R (.error e) s') s₂) (notedBy (model prog w) A env fun e s' => R (.error e) s') s₁') (notedBy (model prog w) A env fun e s' => R (.error e) s') s₁) (notedBy (model prog w) A env fun e s' => R (.error e) s') s)
    (n : Nat) (h : I n s) :
    codeAny (model prog w) A (.compLoop (.ListComp elt [⟨target, iter, ifs, 0⟩] scope pos) 0 it acc env) R s := by
  refine codeAny_loop rfl I (fun n s hI => ?_) n h
  show wpAny _ A ((compTurn (.ListComp elt [⟨target, iter, ifs, 0⟩] scope pos) 0 it acc env).onRaise (fun x => do noteFrame x env; theTreesLotGoes x)) _ _ s
  refine wpAny_noted ?_
  rw [compTurn_list]
  refine wpAny_bind (wpAny_standAt (wpAny_bind (wpAny_mono (turn n s hI) (fun r s₁ h₁ => ?_) fun _ _ h' => h')))
  cases r with
  | none => exact wpAny_pure h₁
  | some v =>
    refine wpAny_bind (wpAny_mono h₁ (fun _ s₁' h₁' => ?_) fun _ _ h' => h')
    refine wpAny_bind (wpAny_mono h₁' (fun _ s₂ h₂ => wpAny_bind (wpAny_mono h₂ (fun ok s₃ h₃ => ?_) fun _ _ h' => h')) fun _ _ h' => h')
    cases ok with
    | false => exact wpAny_pure ⟨rfl, h₃⟩
    | true =>
      exact wpAny_bind (wpAny_bind (wpAny_mono h₃ (fun x s₄ h₄ => wpAny_bind (wpAny_mono h₄ (fun _ s₅ h₅ => wpAny_pure (wpAny_pure ⟨rfl, h₅⟩)) fun _ _ h' => h')) fun _ _ h' => h'))
section
variable {X : Cx}
def tLc (wi : TI) (g : TG) (tt : TT) (te : TE) (vs : List Nat) : TE := fun σ H Q => wi σ H fun J H1 => ∀ D, H1 D = none → ∃ W : Nat → Nat → Hp → Prop, (∃ m, W 0 m (upd H1 D (.lst []))) ∧ ∀ i m H, W i m H →
  (J.stop i H ∧ Q (.ref D) H) ∨ (J.go i H ∧ ∃ Nx : Hp → Prop, (∀ H', Nx H' → ∃ m', m' < m ∧ W (i + 1) m' H') ∧ ∀ x H', J.yld i H x H' → g x (wipe σ vs) H' fun σ2 H2 => wipe σ2 vs = wipe σ vs ∧ tt σ2 H2 fun b H3 =>
    if b = true then te σ2 H3 fun y H4 => ∃ acc, H4 D = some (.lst acc) ∧ acc.length < sizeLine ∧ Nx (upd H4 D (.lst (acc ++ [y]))) else Nx H3)
theorem lc_core {pins : List (Addr × Obj)} {s : Shared} {σ : St} {H : Hp} {Q : VK} {elt tg iter : Expr} {ifs : List Expr} {scope : Scope} {own : List (Str × Nat)} {pos pos' : Pos} {wi : TI} {g : TG} {tt : TT} {te : TE} {use : Option (Value → Sem Unit)} {Qf : Value → Shared → Prop}
    (hc : X.calm = true) (hN : X.N.Nodup) (I : Inv X pins σ H s) (hi : PI X tg iter wi) (ok : BlkOk X.N X.env.scope scope own)
    (hg : ∀ (s : Shared) (H : Hp) (C : Addr) (cl : List (Str × Addr)) (fp : List Addr), PG (X.blk s H scope (compEnvC scope cl C X.env) fp) tg g) (ht : ∀ (s : Shared) (H : Hp) (C : Addr) (cl : List (Str × Addr)) (fp : List Addr), PTs (X.blk s H scope (compEnvC scope cl C X.env) fp) ifs tt)
    (he : ∀ (s : Shared) (H : Hp) (C : Addr) (cl : List (Str × Addr)) (fp : List Addr), PE (X.blk s H scope (compEnvC scope cl C X.env) fp) elt te) (hs : ∀ x, foldedSetIterable iter X.env x = pure x)
    (h : tLc wi g tt te (own.map (·.2)) σ H Q)
    (hRR : ∀ D C s' m H', Inv X pins σ H' s' → Q (.ref D) H' → s'.heap.Ns C m → FpOk X pins H' C → compPost (model X.prog X.w) X.A X.xe use Qf (.ref D) C (.ok .next) s') :
    wpAny (model X.prog X.w) X.A (comprehension (.ListComp elt [⟨tg, iter, ifs, 0⟩] scope pos) scope X.env pos' (newList []) false (eval iter X.env) use) Qf X.xe s := by
  have hfree : ∀ y ∈ scope.names, y.2 = .free → ∃ c, X.env.cells.lookup y.1 = some c := fun y hy e => by
    rcases ok.free y hy e with k | k
    · exact I.ok.has _ (.inl k)
    · exact I.ok.has _ (.inr k)
  refine wpAny_comprehension_free (use := use) rfl hs (closure_ok hfree) ok.kind (fun y hy e => by rw [ok.uniq y hy, e])
    (thn (hi pins s σ H _ I h) fun xv s1 hx => thn hx fun itv s2 h2 => ?_)
  obtain ⟨it, fp, tn, J, H2, e, I2, T, st2, f2, q⟩ := h2
  subst e
  refine wpAny_newObj_type (newEnv_comp ?_) (by show 0 ≤ sizeLine; decide)
  generalize hD : s2.heap.objs.size = D
  have hDn : H2 D = none := I2.hok.fresh (Nat.le_of_eq hD)
  obtain ⟨W, ⟨m0, w0⟩, turn⟩ := q D hDn
  -- the new list
  generalize hs3 : ({ s2 with heap := s2.heap.push { cls := .type "list", data := .seq ([] : List Value).toArray } } : Shared) = s3
  have I3 : Inv X pins σ (upd H2 D (.lst [])) s3 := by
    rw [← hs3]
    refine I2.laid (t' := s2.toks) (fun b o e => Heap.get?_push_of_some _ e) (Nat.le_of_eq hD) ⟨Nat.zero_le _, [], 0, .nil, ?_⟩
    rw [← hD]
    exact Heap.get?_push_size _ rfl
  have h3 : s3.heap = s2.heap.push { cls := .type "list", data := .seq ([] : List Value).toArray } := by rw [← hs3]
  have sz : ∀ b ∈ fp, b < s2.heap.objs.size := fun b hb => by
    obtain ⟨o, e, _⟩ := T.obj _ _ st2 b hb
    exact Heap.lt_size e
  have f3 : ∀ b ∈ fp, FpOk X pins (upd H2 D (.lst [])) b ∧ b < s3.heap.objs.size := fun b hb => by
    have hlt := sz b hb
    refine ⟨⟨?_, (f2 b hb).2⟩, by rw [h3, Heap.size_push]; exact Nat.lt_succ_of_lt hlt⟩
    rw [upd_ne (by rw [← hD]; exact Nat.ne_of_lt hlt)]
    exact (f2 b hb).1
  have st3 : tn 0 s3.heap := T.keep _ _ _ st2 fun b _ o e => by rw [h3]; exact Heap.get?_push_of_some _ e
  have I4 := block_start I3 ok hN f3
  have pg := hg s3 (upd H2 D (.lst [])) s3.heap.objs.size (cellsFrom (s3.heap.objs.size + 1) scope.names (cloFrom X.env.cells scope.names [])) fp
  have pt := ht s3 (upd H2 D (.lst [])) s3.heap.objs.size (cellsFrom (s3.heap.objs.size + 1) scope.names (cloFrom X.env.cells scope.names [])) fp
  have pe := he s3 (upd H2 D (.lst [])) s3.heap.objs.size (cellsFrom (s3.heap.objs.size + 1) scope.names (cloFrom X.env.cells scope.names [])) fp
  show codeAny _ _ (.compStart (.ListComp elt [⟨tg, iter, ifs, 0⟩] scope pos) 0 (.ref it) (.ref D) (compEnvC scope (cellsFrom (s3.heap.objs.size + 1) scope.names (cloFrom X.env.cells scope.names [])) s3.heap.objs.size X.env)) (compPost (model X.prog X.w) X.A X.xe use Qf (.ref D) s3.heap.objs.size) { s3 with heap := pushCells (s3.heap.push { cls := .type "dict", data := .dict #[] }) scope.names }
  have nfp : ∀ b ∈ fp, (upd H2 D (.lst [])) b = none := fun b hb => (f3 b hb).1.1
  generalize hce : compEnvC scope (cellsFrom (s3.heap.objs.size + 1) scope.names (cloFrom X.env.cells scope.names [])) s3.heap.objs.size X.env = ce at I4 pg pt pe ⊢
  have cL : ce.locals = s3.heap.objs.size := by subst hce; rfl
  generalize hH3 : upd H2 D (.lst []) = H3 at I3 I4 pg pt pe w0 nfp f3
  generalize hs4 : ({ s3 with heap := pushCells (s3.heap.push { cls := .type "dict", data := .dict #[] }) scope.names } : Shared) = s4 at I4 ⊢
  have st4 : tn 0 s4.heap := T.keep _ _ _ st3 fun b _ o e => by rw [← hs4]; exact pushCells_keeps _ _ _ _ (Heap.get?_push_of_some _ e)
  have stat : ∀ {σ' : St} {H' : Hp} {s' : Shared}, Inv (X.blk s3 H3 scope ce fp) [] σ' H' s' → (∀ b ∈ fp, H' b = none) → ∀ b ∈ fp, FpOk (X.blk s3 H3 scope ce fp) [] H' b := fun {σ' H' s'} I' hn b hb =>
    ⟨hn b hb, (I'.ok.exf b hb).1, I'.ok.exfs b hb, .inl hb, fun x c e => (I'.ok.exf b hb).2 x c e, fun p hp => absurd (show p ∈ ([] : List (Addr × Obj)) ++ [] from hp) (by simp)⟩
  have loop : codeAny (model X.prog X.w) X.A (.compLoop (.ListComp elt [⟨tg, iter, ifs, 0⟩] scope pos) 0 (.ref it) (.ref D) ce) (compPost (model X.prog X.w) X.A X.xe use Qf (.ref D) s3.heap.objs.size) s4 := by
    refine compLoop_any (fun n s' => ∃ i H', Inv (X.blk s3 H3 scope ce fp) [] (wipe σ (own.map (·.2))) H' s' ∧ tn i s'.heap ∧ (∀ b ∈ fp, H' b = none) ∧ W i n H') ?_ m0 ⟨0, H3, I4, st4, nfp, w0⟩
    rintro n s5 ⟨i, H5, I5, st5, n5, w5⟩
    rcases turn i n H5 w5 with ⟨stop, qq⟩ | ⟨go, Nx, hNx, step⟩
    · have td := T.done (X.blk s3 H3 scope ce fp) rfl rfl rfl hc i [] s5 _ H5 (fun _ _ => False) I5 (stat I5 n5) st5 stop
      refine thnF td fun r s6 ⟨hr, I6⟩ => ?_
      subst hr
      -- back in the def's context
      have I7 : Inv X pins σ H5 s6 := I3.call' (ch := fp) I6.os I6.base I6.hok I6.bare fun b hb => ⟨(f3 b hb).1.2.2.2.1, (f3 b hb).1.2.1, (f3 b hb).1.2.2.2.2.1, (f3 b hb).1.2.2.2.2.2⟩
      have nC : H5 s3.heap.objs.size = none := by
        have z : H5 ce.locals = none := I6.free
        rw [cL] at z
        exact z
      obtain ⟨m, hn, _⟩ := I6.loc
      have hn : s6.heap.Ns ce.locals m := hn
      rw [cL] at hn
      exact hRR D s3.heap.objs.size s6 m H5 I7 qq hn (I3.fpOk (Nat.le_refl _) nC)
    · have ti := T.item (X.blk s3 H3 scope ce fp) rfl rfl rfl hc i [] s5 _ H5 (fun _ _ => False) I5 (stat I5 n5) st5 go
      refine thnF ti fun r s6 ⟨u, hr, h6⟩ => ?_
      subst hr
      refine thnF h6 fun _ s7 ⟨x, H7, I7, r7, y7, st7, n7⟩ => ?_
      have I7' := I7.pinned (stat I7 n7) (T.obj _ _ st7)
      refine thnF (pg _ s7 _ H7 x u _ I7' r7 (step x H7 y7)) fun _ s8 ⟨σ8, H8, I8, hw8, q8⟩ => ?_
      refine thnF (pt _ s8 σ8 H8 _ I8 q8) fun b s9 ⟨H9, I9, q9⟩ => ?_
      -- the turn's end
      have fin : ∀ {s' : Shared} {H' : Hp}, Inv (X.blk s3 H3 scope ce fp) ([] ++ pinsAt fp s7.heap) σ8 H' s' → Nx H' → ∃ m, m < n ∧ ∃ i H', Inv (X.blk s3 H3 scope ce fp) [] (wipe σ (own.map (·.2))) H' s' ∧ tn i s'.heap ∧ (∀ b ∈ fp, H' b = none) ∧ W i m H' := fun {s' H'} I' nx => by
        obtain ⟨m', hm, w'⟩ := hNx H' nx
        have pin' : ∀ b ∈ fp, ∀ o, s7.heap.get? b = some o → s'.heap.get? b = some o ∧ H' b = none := fun b hb o e =>
          let z := I'.pin (b, o) (List.mem_append_right _ (List.mem_append_right _ (mem_pinsAt hb e)))
          ⟨z.1, z.2.1⟩
        have hl : (wipe σ (own.map (·.2))).length = σ8.length := by rw [← hw8, wipe_length]
        refine ⟨m', hm, i + 1, H', (I'.unpinned (pins := [])).weak hl (fun j v e => ?_), T.keep _ _ _ st7 fun b hb o e => (pin' b hb o e).1, fun b hb => ?_, w'⟩
        · rw [← hw8] at e
          exact (wipe_some e).1
        · obtain ⟨o, e, _⟩ := T.obj _ _ st7 b hb
          exact (pin' b hb o e).2
      cases b with
      | false =>
        simp only [Bool.false_eq_true, if_false] at q9 ⊢
        exact fin I9 q9
      | true =>
        simp only [if_true] at q9 ⊢
        refine thnF (pe _ s9 σ8 H9 _ I9 q9) fun z s10 ⟨yv, H10, I10, r10, acc, hD10, hz10, nx⟩ => ?_
        exact app_ok (X := X.blk s3 H3 scope ce fp) I10 hD10 hz10 r10 fun s11 I11 => fin I11 nx
  exact codeAny_compStart_list loop (T.self X.A 0 _ _ _ st4 loop)
theorem pe_lc {elt tg iter : Expr} {ifs : List Expr} {scope : Scope} {own : List (Str × Nat)} {pos : Pos} {wi : TI} {g : TG} {tt : TT} {te : TE} (hc : X.calm = true) (hN : X.N.Nodup) (hi : PI X tg iter wi) (ok : BlkOk X.N X.env.scope scope own)
    (hg : ∀ (s : Shared) (H : Hp) (C : Addr) (cl : List (Str × Addr)) (fp : List Addr), PG (X.blk s H scope (compEnvC scope cl C X.env) fp) tg g) (ht : ∀ (s : Shared) (H : Hp) (C : Addr) (cl : List (Str × Addr)) (fp : List Addr), PTs (X.blk s H scope (compEnvC scope cl C X.env) fp) ifs tt)
    (he : ∀ (s : Shared) (H : Hp) (C : Addr) (cl : List (Str × Addr)) (fp : List Addr), PE (X.blk s H scope (compEnvC scope cl C X.env) fp) elt te) (hs : ∀ x, foldedSetIterable iter X.env x = pure x := by intro _; rfl) :
    PE X (.ListComp elt [⟨tg, iter, ifs, 0⟩] scope pos) (tLc wi g tt te (own.map (·.2))) := by
  intro pins s σ H Q I h
  rw [eval_ListComp]
  refine lc_core hc hN I hi ok hg ht he hs h fun D C s' m H' I' q hn f => ⟨m, hn, fun h'' sb => ?_⟩
  obtain ⟨f0, f1, f2, f3, f4, f5⟩ := f
  exact ⟨.ref D, H', I'.turned (t' := s'.toks) (fun b o hb e => (sb.2 b hb).trans e) f0 f1 f3 f4 f5, rfl, q⟩
end
theorem lc_list {K : PySem.W.Frag} {a : Addr} {xs : List V} {g : TG} {tt : TT} {te : TE} {vs : List Nat} {σ : St} {H1 : Hp} {D : Addr} {Qd : Hp → Prop} (Pv : Nat → Hp → Prop) (h0 : Pv 0 (upd H1 D (.lst []))) (hl : ∀ i H, i ≤ xs.length → Pv i H → SqL K H a xs)
    (hs : ∀ i x H, xs[i]? = some x → Pv i H → g x (wipe σ vs) H fun σ2 H2 => wipe σ2 vs = wipe σ vs ∧ tt σ2 H2 fun b H3 =>
      if b = true then te σ2 H3 fun y H4 => ∃ acc, H4 D = some (.lst acc) ∧ acc.length < sizeLine ∧ Pv (i + 1) (upd H4 D (.lst (acc ++ [y]))) else Pv (i + 1) H3) (hd : ∀ H, Pv xs.length H → Qd H) :
    ∃ W : Nat → Nat → Hp → Prop, (∃ m, W 0 m (upd H1 D (.lst []))) ∧ ∀ i m H, W i m H →
      ((Itl K a).stop i H ∧ Qd H) ∨ ((Itl K a).go i H ∧ ∃ Nx : Hp → Prop, (∀ H', Nx H' → ∃ m', m' < m ∧ W (i + 1) m' H') ∧ ∀ x H', (Itl K a).yld i H x H' → g x (wipe σ vs) H' fun σ2 H2 => wipe σ2 vs = wipe σ vs ∧ tt σ2 H2 fun b H3 =>
        if b = true then te σ2 H3 fun y H4 => ∃ acc, H4 D = some (.lst acc) ∧ acc.length < sizeLine ∧ Nx (upd H4 D (.lst (acc ++ [y]))) else Nx H3) := by
  refine ⟨fun i m H => m = xs.length - i ∧ i ≤ xs.length ∧ Pv i H, ⟨xs.length, by simp, Nat.zero_le _, h0⟩, ?_⟩
  rintro i m H ⟨rfl, hi, p⟩
  have q := hl i H hi p
  by_cases hlt : i < xs.length
  · refine .inr ⟨⟨xs, xs[i], q, by simp [hlt]⟩, Pv (i + 1), fun H' p' => ⟨xs.length - (i + 1), by omega, rfl, hlt, p'⟩, fun x H' y => ?_⟩
    obtain ⟨e, y⟩ := y
    subst e
    exact hs i x _ (y xs q) p
  · have e : i = xs.length := by omega
    subst e
    exact .inl ⟨⟨xs, q, Nat.le_refl _⟩, hd H p⟩
def blkC (N : List Str) (sc scope : Scope) (own : List (Str × Nat)) : Bool :=
  (match scope.kind with | .function => true | _ => false) && (scope.names.all fun y => decide (scope.names.lookup y.1 = some y.2)) && (own.all fun p => decide (N[p.2]? = some p.1)) &&
    (scope.names.all fun y => match y.2 with
      | .free => (match sc.names.lookup y.1 with | some .cell => true | some .free => true | _ => false)
      | .local => decide (y.1 ∈ own.map (·.1)) || decide (y.1 ∉ N)
      | .cell => decide (y.1 ∈ own.map (·.1)) || decide (y.1 ∉ N)
      | _ => true)
theorem blkOk_by {N : List Str} {sc scope : Scope} {own : List (Str × Nat)} (h : blkC N sc scope own = true) : BlkOk N sc scope own := by
  unfold blkC at h
  simp only [Bool.and_eq_true, List.all_eq_true, decide_eq_true_eq] at h
  obtain ⟨⟨⟨h1, h2⟩, h3⟩, h4⟩ := h
  refine ⟨?_, h2, h3, fun y hy e => ?_, fun y hy e => ?_⟩
  · split at h1
    · assumption
    · cases h1
  · have q := h4 y hy
    simp only [e] at q
    split at q <;> first | exact .inl (by assumption) | exact .inr (by assumption) | cases q
  · have q := h4 y hy
    rcases e with e | e <;> (simp only [e, Bool.or_eq_true, decide_eq_true_eq] at q; exact q)
end L2
namespace L2
open PySem PySem.Spec PyProof.Rows
section
variable {prog : Program} {w : World} {A : Around} {R : Result → Shared → Prop} {s : Shared} {elt t0 i0 t1 i1 : Expr} {ifs0 ifs1 : List Expr} {scope : Scope} {pos : Pos} {it acc : Value} {env : Env}
end
section
variable {X : Cx}
def tLc2 (wi : TI) (g : TG) (tt : TT) (wi1 : TI) (g1 : TG) (tt1 : TT) (te : TE) (vs vs1 : List Nat) : TE := fun σ H Q => wi σ H fun J H1 => ∀ D, H1 D = none → ∃ W : Nat → Nat → Hp → Prop, (∃ m, W 0 m (upd H1 D (.lst []))) ∧ ∀ i m H, W i m H →
  (J.stop i H ∧ Q (.ref D) H) ∨ (J.go i H ∧ ∃ Nx : Hp → Prop, (∀ H', Nx H' → ∃ m', m' < m ∧ W (i + 1) m' H') ∧ ∀ x H', J.yld i H x H' → g x (wipe σ vs) H' fun σ2 H2 => wipe σ2 vs = wipe σ vs ∧ tt σ2 H2 fun b H3 =>
    if b = true then wi1 σ2 H3 fun J1 H4 => ∃ W1 : Nat → Nat → Hp → Prop, (∃ m, W1 0 m H4) ∧ ∀ j k H, W1 j k H →
      (J1.stop j H ∧ Nx H) ∨ (J1.go j H ∧ ∃ Nx1 : Hp → Prop, (∀ H', Nx1 H' → ∃ k', k' < k ∧ W1 (j + 1) k' H') ∧ ∀ x H', J1.yld j H x H' → g1 x (wipe σ2 vs1) H' fun σ3 H5 => wipe σ3 vs1 = wipe σ2 vs1 ∧ tt1 σ3 H5 fun b H6 =>
        if b = true then te σ3 H6 fun y H7 => ∃ acc, H7 D = some (.lst acc) ∧ acc.length < sizeLine ∧ Nx1 (upd H7 D (.lst (acc ++ [y]))) else Nx1 H6)
    else Nx H3)
end
end L2
namespace L2
open PySem PySem.Spec PyProof.Rows
section
variable {κ : Type} [DecidableEq κ]
def valV (kvs : List (κ × V)) (k : κ) : Option V := (kvs.find? fun kv => decide (kv.1 = k)).map (·.2)
def putK (kvs : List (κ × V)) (k : κ) (v : V) : List (κ × V) :=
  if (kvs.any fun kv => decide (kv.1 = k)) = true then kvs.map (fun kv => if kv.1 = k then (kv.1, v) else kv) else kvs ++ [(k, v)]
def dropK (kvs : List (κ × V)) (k : κ) : List (κ × V) := kvs.filter fun kv => decide (kv.1 ≠ k)
theorem valV_pos {p : κ × V} {r : List (κ × V)} {k : κ} (e : p.1 = k) : valV (p :: r) k = some p.2 := by simp [valV, List.find?_cons, e]
theorem valV_neg {p : κ × V} {r : List (κ × V)} {k : κ} (e : ¬ p.1 = k) : valV (p :: r) k = valV r k := by simp [valV, List.find?_cons, e]
theorem valV_any (k : κ) : ∀ kvs : List (κ × V), (kvs.any fun kv => decide (kv.1 = k)) = (valV kvs k).isSome
  | [] => rfl
  | p :: r => by
    rw [List.any_cons]
    by_cases e : p.1 = k
    · simp only [valV_pos e, decide_eq_true e, Bool.true_or, Option.isSome_some]
    · rw [valV_neg e, decide_eq_false e, Bool.false_or]; exact valV_any k r
theorem valV_map (k j : κ) (y : V) : ∀ kvs : List (κ × V), valV (kvs.map fun kv => if kv.1 = k then (kv.1, y) else kv) j = (valV kvs j).map fun x => if j = k then y else x
  | [] => rfl
  | p :: r => by
    have ih := valV_map k j y r
    rw [List.map_cons]
    by_cases h : p.1 = k
    · rw [if_pos h]
      by_cases e : p.1 = j
      · rw [valV_pos (p := (p.1, y)) e, valV_pos e, Option.map_some, if_pos (e.symm.trans h)]
      · rw [valV_neg (p := (p.1, y)) e, valV_neg e, ih]
    · rw [if_neg h]
      by_cases e : p.1 = j
      · rw [valV_pos (p := p) e, valV_pos e, Option.map_some, if_neg (fun z => h (e.trans z))]
      · rw [valV_neg (p := p) e, valV_neg e, ih]
theorem valV_snoc (k j : κ) (y : V) : ∀ kvs : List (κ × V), valV kvs k = none → valV (kvs ++ [(k, y)]) j = if j = k then some y else valV kvs j
  | [], _ => by
    by_cases e : k = j
    · rw [if_pos e.symm]; exact valV_pos (p := (k, y)) e
    · rw [if_neg (fun z => e z.symm)]; exact valV_neg (p := (k, y)) e
  | p :: r, hn => by
    rw [List.cons_append]
    have hk : ¬ p.1 = k := fun z => by rw [valV_pos z] at hn; cases hn
    rw [valV_neg hk] at hn
    have ih := valV_snoc k j y r hn
    by_cases e : p.1 = j
    · rw [valV_pos e, valV_pos e, if_neg (fun z => hk (e.trans z))]
    · rw [valV_neg e, valV_neg e, ih]
theorem valV_put (kvs : List (κ × V)) (k j : κ) (y : V) : valV (putK kvs k y) j = if j = k then some y else valV kvs j := by
  unfold putK
  by_cases a : (kvs.any fun kv => decide (kv.1 = k)) = true
  · rw [if_pos a, valV_map]
    rw [valV_any] at a
    by_cases e : j = k
    · obtain ⟨x, hx⟩ := Option.isSome_iff_exists.mp a
      rw [if_pos e, e, hx, Option.map_some, if_pos rfl]
    · rw [if_neg e]
      cases valV kvs j with
      | none => rfl
      | some x => rw [Option.map_some, if_neg e]
  · rw [if_neg a]
    refine valV_snoc k j y kvs ?_
    rw [valV_any] at a
    cases q : valV kvs k with
    | none => rfl
    | some x => rw [q] at a; exact (a rfl).elim
theorem length_putK (kvs : List (κ × V)) (k : κ) (v : V) : (putK kvs k v).length ≤ kvs.length + 1 := by
  unfold putK
  split
  · rw [List.length_map]; omega
  · rw [List.length_append, List.length_cons, List.length_nil]; omega
theorem putK_new {kvs : List (κ × V)} {k : κ} (v : V) (h : valV kvs k = none) : putK kvs k v = kvs ++ [(k, v)] := by
  unfold putK
  rw [valV_any, h]
  exact if_neg (by decide)
theorem RelO.isSome_eq {o : Option V} {u : Option Value} (r : RelO o u) : o.isSome = u.isSome := by
  cases o with
  | none => cases u with
    | none => rfl
    | some _ => exact (show False from r).elim
  | some _ => cases u with
    | none => exact (show False from r).elim
    | some _ => rfl
theorem RelO.getD {o : Option V} {u : Option Value} {d : V} {d' : Value} (r : RelO o u) (rd : RelV d d') : RelV (o.getD d) (u.getD d') := by
  cases o with
  | none => cases u with
    | none => exact rd
    | some _ => exact (show False from r).elim
  | some _ => cases u with
    | none => exact (show False from r).elim
    | some _ => exact r
theorem KV.val {kvs : List (κ × V)} {vs : List (κ × Value)} (r : KV kvs vs) (k : κ) : RelO (valV kvs k) (valueAt vs k) := by
  unfold KV at r
  induction r with
  | nil => exact True.intro
  | @cons p q ps qs h t ih =>
    obtain ⟨h1, h2⟩ := h
    by_cases e : p.1 = k
    · have e' : q.1 = k := h1.symm.trans e
      have b : valueAt (q :: qs) k = some q.2 := by simp [valueAt, List.find?_cons, e']
      rw [valV_pos e, b]; exact h2
    · have e' : ¬ q.1 = k := fun z => e (h1.trans z)
      have b : valueAt (q :: qs) k = valueAt qs k := by simp [valueAt, List.find?_cons, e']
      rw [valV_neg e, b]; exact ih
theorem KV.any {kvs : List (κ × V)} {vs : List (κ × Value)} (r : KV kvs vs) (k : κ) : (kvs.any fun kv => decide (kv.1 = k)) = vs.any fun kv => decide (kv.1 = k) := by
  unfold KV at r
  induction r with
  | nil => rfl
  | cons h t ih => rw [List.any_cons, List.any_cons, ih, h.1]
theorem KV.repl {kvs : List (κ × V)} {vs : List (κ × Value)} (r : KV kvs vs) (k : κ) {y : V} {u : Value} (ry : RelV y u) :
    KV (kvs.map fun kv => if kv.1 = k then (kv.1, y) else kv) (vs.map fun kv => if kv.1 = k then (kv.1, u) else kv) := by
  unfold KV at r ⊢
  induction r with
  | nil => exact .nil
  | @cons p q ps qs h t ih =>
    rw [List.map_cons, List.map_cons]
    refine .cons ?_ ih
    obtain ⟨h1, h2⟩ := h
    by_cases e : p.1 = k
    · rw [if_pos e, if_pos (h1.symm.trans e)]; exact ⟨h1, ry⟩
    · rw [if_neg e, if_neg (fun z => e (h1.trans z))]; exact ⟨h1, h2⟩
theorem KV.put {kvs : List (κ × V)} {vs : List (κ × Value)} (r : KV kvs vs) (k : κ) {y : V} {u : Value} (ry : RelV y u) : KV (putK kvs k y) (stored vs k u) := by
  unfold putK stored
  rw [r.any k]
  by_cases e : (vs.any fun kv => decide (kv.1 = k)) = true
  · rw [if_pos e, if_pos e]; exact r.repl k ry
  · rw [if_neg e, if_neg e]; exact Paired.snoc r ⟨rfl, ry⟩
theorem KV.drop {kvs : List (κ × V)} {vs : List (κ × Value)} (r : KV kvs vs) (k : κ) : KV (dropK kvs k) (without vs k) := by
  unfold KV at r ⊢
  unfold dropK without
  induction r with
  | nil => exact .nil
  | @cons p q ps qs h t ih =>
    obtain ⟨h1, h2⟩ := h
    rw [List.filter_cons, List.filter_cons]
    by_cases e : p.1 = k
    · have a : ¬ decide (p.1 ≠ k) = true := by simp [e]
      have b : ¬ decide (q.1 ≠ k) = true := by simp [h1.symm.trans e]
      rw [if_neg a, if_neg b]; exact ih
    · have e' : ¬ q.1 = k := fun z => e (h1.trans z)
      have a : decide (p.1 ≠ k) = true := by simp [e]
      have b : decide (q.1 ≠ k) = true := by simp [e']
      rw [if_pos a, if_pos b]; exact .cons ⟨h1, h2⟩ ih
theorem KV.keys {kvs : List (κ × V)} {vs : List (κ × Value)} (r : KV kvs vs) : kvs.map (·.1) = vs.map (·.1) := by
  unfold KV at r
  induction r with
  | nil => rfl
  | cons h t ih => rw [List.map_cons, List.map_cons, ih, h.1]
theorem KV.length {kvs : List (κ × V)} {vs : List (κ × Value)} (r : KV kvs vs) : kvs.length = vs.length := Paired.length r
theorem dropK_le (kvs : List (κ × V)) (k : κ) : (dropK kvs k).length ≤ kvs.length := List.length_filter_le _ _
end
theorem kV_is {P : Program} {w : World} {k : Key} {u : Value} (r : RelV (kV k) u) : (mixKind P w).is k u = true := by
  cases k with
  | inl i => obtain ⟨t, e⟩ := (show ∃ t, u = Value.int i t from r); subst e; exact mixKind_int P w i t
  | inr x => obtain ⟨t, e⟩ := (show ∃ t, u = Value.str x t from r); subst e; exact mixKind_str P w x t
theorem items_are {P : Program} {w : World} : ∀ {ks : List Key} {us : List Value}, Vals (ks.map kV) us → ItemsAre (mixKind P w) ks us
  | [], _, r => by rw [List.map_nil] at r; cases r; exact .nil
  | k :: ks, _, r => by
    rw [List.map_cons] at r
    cases r with
    | cons h t => exact .cons (kV_is h) (items_are t)
abbrev KT (H : Hp) : List (List Key × V) → List (List Key × Addr × Value) → Prop := Paired fun p q => p.1 = q.1 ∧ H q.2.1 = some (.tup (p.1.map kV)) ∧ RelV p.2 q.2.2
theorem KT.val {H : Hp} {kvs : List (List Key × V)} {xs : List (List Key × Addr × Value)} (r : KT H kvs xs) (k : List Key) : RelO (valV kvs k) ((atKey xs k).map (·.2)) := by
  induction r with
  | nil => exact True.intro
  | @cons p q ps qs h t ih =>
    obtain ⟨h1, _, h2⟩ := h
    by_cases e : p.1 = k
    · have e' : q.1 = k := h1.symm.trans e
      have b : atKey (q :: qs) k = some q.2 := by simp [atKey, List.find?_cons, e']
      rw [valV_pos e, b]; exact h2
    · have e' : ¬ q.1 = k := fun z => e (h1.trans z)
      have b : atKey (q :: qs) k = atKey qs k := by simp [atKey, List.find?_cons, e']
      rw [valV_neg e, b]; exact ih
theorem KT.repl {H : Hp} {kvs : List (List Key × V)} {xs : List (List Key × Addr × Value)} (r : KT H kvs xs) (k : List Key) {y : V} {u : Value} (ry : RelV y u) :
    KT H (kvs.map fun kv => if kv.1 = k then (kv.1, y) else kv) (xs.map (putAt k u)) := by
  induction r with
  | nil => exact .nil
  | @cons p q ps qs h t ih =>
    rw [List.map_cons, List.map_cons]
    refine .cons ?_ ih
    obtain ⟨h1, h2, h3⟩ := h
    unfold putAt
    by_cases e : p.1 = k
    · rw [if_pos e, if_pos (h1.symm.trans e)]; exact ⟨h1, h2, ry⟩
    · rw [if_neg e, if_neg (fun z => e (h1.trans z))]; exact ⟨h1, h2, h3⟩
theorem KT.put {H : Hp} {kvs : List (List Key × V)} {xs : List (List Key × Addr × Value)} (r : KT H kvs xs) (k : List Key) {b : Addr} {y : V} {u : Value} (hb : H b = some (.tup (k.map kV))) (ry : RelV y u) :
    KT H (putK kvs k y) (storedH xs k b u) := by
  have e : (kvs.any fun kv => decide (kv.1 = k)) = (atKey xs k).isSome := by
    rw [valV_any, (r.val k).isSome_eq, Option.isSome_map]
  unfold putK storedH
  rw [e]
  by_cases q : (atKey xs k).isSome = true
  · rw [if_pos q, if_pos q]; exact r.repl k ry
  · rw [if_neg q, if_neg q]; exact Paired.snoc r ⟨rfl, hb, ry⟩
theorem KT.keeps {H H' : Hp} {kvs : List (List Key × V)} {xs : List (List Key × Addr × Value)} (r : KT H kvs xs) (ht : ∀ b ys, H b = some (.tup ys) → H' b = some (.tup ys)) : KT H' kvs xs :=
  Paired.mapP r fun _ _ z => ⟨z.1, ht _ _ z.2.1, z.2.2⟩
section
variable {P : Program} {w : World} {H : Hp} {h : Heap} {a : Addr}
theorem rd_of {u : HO} (ok : HOk P w H h) (e : Rd H a u) : ObjOk P w H h a u := e.ok ok
theorem dk_rd {kvs : List (Key × V)} (ok : HOk P w H h) (e : Rd H a (.dK kvs)) : kvs.length ≤ sizeLine ∧ (a == sysModules) = false ∧ ∃ vs, KV kvs vs ∧ h.DictOf (mixKind P w) a vs :=
  show ObjOk P w H h a (.dK kvs) from rd_of ok e
theorem dk_of {kvs : List (Key × V)} (ok : HOk P w H h) (e : H a = some (.dK kvs)) : kvs.length ≤ sizeLine ∧ (a == sysModules) = false ∧ ∃ vs, KV kvs vs ∧ h.DictOf (mixKind P w) a vs := dk_rd ok (.inl e)
theorem key_of {ks : List Key} (ok : HOk P w H h) (e : H a = some (.tup (ks.map kV))) : (tupleKind (mixKind P w)).is h ks a := by
  obtain ⟨_, its, r, o, h1, h2, n, h3⟩ := (show ObjOk P w H h a (.tup (ks.map kV)) from ok a _ e)
  exact ⟨o, its.toArray, n, h1, h2, h3, by simpa using items_are r⟩
theorem dt_rd {kvs : List (List Key × V)} (ok : HOk P w H h) (e : Rd H a (.dT kvs)) : kvs.length ≤ sizeLine ∧ (a == sysModules) = false ∧
    ∃ xs, KT H kvs xs ∧ h.DictOfH (tupleKind (mixKind P w)) a xs := by
  obtain ⟨z, y, xs, r, o, es, ep, h1, h2, h3, h4, h5⟩ := (show ObjOk P w H h a (.dT kvs) from rd_of ok e)
  refine ⟨z, y, xs, r, o, es, ep, h1, h2, h3, h4, fun x hx => ?_, h5⟩
  have all : ∀ {l : List (List Key × V)} {m : List (List Key × Addr × Value)}, KT H l m → ∀ x ∈ m, (tupleKind (mixKind P w)).is h x.1 x.2.1 := by
    intro l m q
    induction q with
    | nil => intro x hx; exact nomatch hx
    | @cons p q ps qs hq t ih =>
      intro x hx
      rcases List.mem_cons.mp hx with e | hx
      · subst e
        exact key_of ok (by rw [← hq.1]; exact hq.2.1)
      · exact ih x hx
  exact all r x hx
theorem dt_of {kvs : List (List Key × V)} (ok : HOk P w H h) (e : H a = some (.dT kvs)) : kvs.length ≤ sizeLine ∧ (a == sysModules) = false ∧
    ∃ xs, KT H kvs xs ∧ h.DictOfH (tupleKind (mixKind P w)) a xs := dt_rd ok (.inl e)
end
def DGet (H : Hp) (a : Addr) (y : V) (r : Option V) : Prop :=
  (∃ kvs k, Rd H a (.dK kvs) ∧ y = kV k ∧ r = valV kvs k) ∨ ∃ kvs k b, Rd H a (.dT kvs) ∧ y = .ref b ∧ H b = some (.tup (k.map kV)) ∧ r = valV kvs k
def DPut (H : Hp) (a : Addr) (y v : V) (H' : Hp) : Prop :=
  (∃ kvs k, H a = some (.dK kvs) ∧ y = kV k ∧ kvs.length < sizeLine ∧ H' = upd H a (.dK (putK kvs k v))) ∨
  ∃ kvs k b, H a = some (.dT kvs) ∧ y = .ref b ∧ H b = some (.tup (k.map kV)) ∧ kvs.length < sizeLine ∧ H' = upd H a (.dT (putK kvs k v))
theorem DGet.k {H : Hp} {a : Addr} {kvs : List (Key × V)} {k : Key} (e : H a = some (.dK kvs)) : DGet H a (kV k) (valV kvs k) := .inl ⟨kvs, k, .inl e, rfl, rfl⟩
theorem DGet.t {H : Hp} {a b : Addr} {kvs : List (List Key × V)} {k : List Key} (e : H a = some (.dT kvs)) (eb : H b = some (.tup (k.map kV))) : DGet H a (.ref b) (valV kvs k) := .inr ⟨kvs, k, b, .inl e, rfl, eb, rfl⟩
theorem DPut.k {H : Hp} {a : Addr} {kvs : List (Key × V)} {k : Key} {v : V} (e : H a = some (.dK kvs)) (hl : kvs.length < sizeLine) : DPut H a (kV k) v (upd H a (.dK (putK kvs k v))) := .inl ⟨kvs, k, e, rfl, hl, rfl⟩
theorem DPut.t {H : Hp} {a b : Addr} {kvs : List (List Key × V)} {k : List Key} {v : V} (e : H a = some (.dT kvs)) (eb : H b = some (.tup (k.map kV))) (hl : kvs.length < sizeLine) :
    DPut H a (.ref b) v (upd H a (.dT (putK kvs k v))) := .inr ⟨kvs, k, b, e, rfl, eb, hl, rfl⟩
section
variable {X : Cx} {pins : List (Addr × Obj)} {σ : St} {H : Hp} {s : Shared} {a : Addr} {y v : V} {u r : Value} {o : Option V} {A : Around} {E : Value → Shared → Prop}
theorem Inv.big (I : Inv X pins σ H s) : sysModules < s.heap.objs.size := by
  have h : mainGlobals < s.heap.objs.size := (I.mod.glob.keeps I.bk).lt
  exact Nat.lt_trans (by decide) h
theorem d_getItem {Q : Value → Shared → Prop} (hu : A.units + 1 < cLine) (I : Inv X pins σ H s) (g : DGet H a y (some v)) (ry : RelV y u) (h : ∀ w' s', Inv X pins σ H s' → RelV v w' → Q w' s') :
    wpAny (model X.prog X.w) A (getItem (.ref a) u) Q E s := by
  rcases g with ⟨kvs, k, e, ey, l⟩ | ⟨kvs, k, b, e, ey, eb, l⟩
  · subst ey
    obtain ⟨z, hd, vs, rel, dd⟩ := dk_rd I.hok e
    obtain ⟨w', hw, rw'⟩ := RelO.some_of (v := v) (o := valueAt vs k) (by rw [l]; exact rel.val k)
    exact wpAny_getItem_of (kV_is ry) dd.mapOf hw (h w' _ (I.tok _) rw')
  · subst ey
    cases (show u = Value.ref b from ry)
    obtain ⟨z, hd, xs, rel, dd⟩ := dt_rd I.hok e
    obtain ⟨w', hw, rw'⟩ := RelO.some_of (v := v) (o := (atKey xs k).map (·.2)) (by rw [l]; exact rel.val k)
    obtain ⟨p, hp, hp2⟩ := Option.map_eq_some_iff.mp hw
    refine wpAny_getItem_heap (tupleKind_room_in1 hu) (key_of I.hok eb) dd hp ?_
    rw [hp2]
    exact h w' _ (I.tok _) rw'
theorem d_in {Q : Value → Shared → Prop} (hu : A.units + 1 < cLine) (I : Inv X pins σ H s) (g : DGet H a y o) (ry : RelV y u) (h : ∀ s', Inv X pins σ H s' → Q (.bool o.isSome) s') :
    wpAny (model X.prog X.w) A (compareOp .In u (.ref a)) Q E s := by
  rcases g with ⟨kvs, k, e, ey, l⟩ | ⟨kvs, k, b, e, ey, eb, l⟩
  · subst ey
    obtain ⟨z, hd, vs, rel, dd⟩ := dk_rd I.hok e
    refine wpAny_in_of (kV_is ry) hd dd.mapOf ?_
    rw [← (rel.val k).isSome_eq, ← l]
    exact h _ (I.tok _)
  · subst ey
    cases (show u = Value.ref b from ry)
    obtain ⟨z, hd, xs, rel, dd⟩ := dt_rd I.hok e
    refine wpAny_in_heap (tupleKind_room_in1 hu) (key_of I.hok eb) hd dd ?_
    have q := (rel.val k).isSome_eq
    rw [Option.isSome_map] at q
    rw [← q, ← l]
    exact h _ (I.tok _)
theorem d_notIn {Q : Value → Shared → Prop} (hu : A.units + 1 < cLine) (I : Inv X pins σ H s) (g : DGet H a y o) (ry : RelV y u) (h : ∀ s', Inv X pins σ H s' → Q (.bool (!o.isSome)) s') :
    wpAny (model X.prog X.w) A (compareOp .NotIn u (.ref a)) Q E s := by
  rcases g with ⟨kvs, k, e, ey, l⟩ | ⟨kvs, k, b, e, ey, eb, l⟩
  · subst ey
    obtain ⟨z, hd, vs, rel, dd⟩ := dk_rd I.hok e
    refine wpAny_notIn_of (kV_is ry) hd dd.mapOf ?_
    rw [← (rel.val k).isSome_eq, ← l]
    exact h _ (I.tok _)
  · subst ey
    cases (show u = Value.ref b from ry)
    obtain ⟨z, hd, xs, rel, dd⟩ := dt_rd I.hok e
    refine wpAny_notIn_heap (tupleKind_room_in1 hu) (key_of I.hok eb) hd dd ?_
    have q := (rel.val k).isSome_eq
    rw [Option.isSome_map] at q
    rw [← q, ← l]
    exact h _ (I.tok _)
theorem d_write {h' : Heap} {t' : Nat} {ob : HO} (I : Inv X pins σ H s) (mu : Mut (H a)) (hs : Heap.SameBut a s.heap h') (he : ∃ q, h'.get? a = some q) (new : ObjOk X.prog X.w (upd H a ob) h' a ob) :
    Inv X pins σ (upd H a ob) { s with heap := h', toks := t' } :=
  I.write (x := a) (e := a) mu (.inl rfl) (fun b q hb z => (hs.2 b hb).trans z) he new
theorem dk_new {P : Program} {w : World} {H' : Hp} {h' : Heap} {kvs : List (Key × V)} {vs : List (Key × Value)} (z : kvs.length ≤ sizeLine) (hd : (a == sysModules) = false) (rel : KV kvs vs) (dd : h'.DictOf (mixKind P w) a vs) :
    ObjOk P w H' h' a (.dK kvs) := ⟨z, hd, vs, rel, dd⟩
theorem d_setItem {H' : Hp} {Q : Unit → Shared → Prop} (hu : A.units + 1 < cLine) (I : Inv X pins σ H s) (g : DPut H a y v H') (ry : RelV y u) (rv : RelV v r) (h : ∀ s', Inv X pins σ H' s' → Q () s') :
    wpAny (model X.prog X.w) A (setItem (.ref a) u r) Q E s := by
  rcases g with ⟨kvs, k, e, ey, l, eH⟩ | ⟨kvs, k, b, e, ey, eb, l, eH⟩
  · subst ey eH
    obtain ⟨z, hd, vs, rel, dd⟩ := dk_of I.hok e
    have hz : vs.length ≤ sizeLine := by rw [← rel.length]; exact z
    have hl : (putK kvs k v).length ≤ sizeLine := by have := length_putK kvs k v; omega
    refine wpAny_setItem_pairs (hsz := hz) (kV_is ry) dd fun h' dd' hs => h _ ?_
    have he : ∃ q, h'.get? a = some q := let ⟨q, _, _, hq, _⟩ := dd'; ⟨q, hq⟩
    exact d_write I (by rw [e]; exact True.intro) hs he (dk_new hl hd (rel.put k rv) dd')
  · subst ey eH
    cases (show u = Value.ref b from ry)
    obtain ⟨z, hd, xs, rel, dd⟩ := dt_of I.hok e
    have hz : xs.length ≤ sizeLine := by rw [← Paired.length rel]; exact z
    have hl : (putK kvs k v).length ≤ sizeLine := by have := length_putK kvs k v; omega
    refine wpAny_setItem_heap (hsz := hz) (tupleKind_room_in1 hu) (key_of I.hok eb) dd fun h' dd' hs => h _ ?_
    obtain ⟨q, es, ep, hq, h2, h3, h4, _, h5⟩ := dd'
    refine d_write I (by rw [e]; exact True.intro) hs ⟨q, hq⟩ ⟨hl, hd, _, (rel.put k eb rv).keeps fun c ys ec => ?_, q, es, ep, hq, h2, h3, h4, h5⟩
    rw [upd_ne (ne_of ec e (fun z => nomatch z))]
    exact ec
end
section
variable {X : Cx} {pins : List (Addr × Obj)} {σ : St} {H : Hp} {s : Shared} {a : Addr} {kvs : List (Key × V)} {k : Key} {u : Value} {A : Around} {E : Value → Shared → Prop}
theorem d_delItem {Q : Unit → Shared → Prop} (I : Inv X pins σ H s) (e : H a = some (.dK kvs)) (ry : RelV (kV k) u) (l : (valV kvs k).isSome = true) (h : ∀ s', Inv X pins σ (upd H a (.dK (dropK kvs k))) s' → Q () s') :
    wpAny (model X.prog X.w) A (delItem (.ref a) u) Q E s := by
  obtain ⟨z, hd, vs, rel, dd⟩ := dk_of I.hok e
  refine wpAny_delItem_slot dd.typeIs (by decide) PySem.F.slot_dict_delitem
    (call_meetsIn PySem.F.slot_dict_delitem dd.typeIs PySem.F.entry_dict_delitem (PySem.F.args_dict_delitem_2 _ _) (meets_dict_delitem_pairs (mixKind X.prog X.w) a (kV_is ry)) ⟨vs, dd, by rw [← rel.length]; exact z, by rw [← (rel.val k).isSome_eq]; exact l, fun h' dd' hs => h _ ?_⟩)
  have he : ∃ q, h'.get? a = some q := let ⟨q, _, _, hq, _⟩ := dd'; ⟨q, hq⟩
  exact d_write I (by rw [e]; exact True.intro) hs he (dk_new (Nat.le_trans (dropK_le kvs k) z) hd (rel.drop k) dd')
theorem d_len {Q : Value → Shared → Prop} (I : Inv X pins σ H s) (e : Rd H a (.dK kvs)) (h : ∀ t s', Inv X pins σ H s' → Q (.int kvs.length t) s') : wpAny (model X.prog X.w) A (call (.builtin "len") [.ref a]) Q E s := by
  obtain ⟨z, hd, vs, rel, dd⟩ := dk_rd I.hok e
  refine call_len_dict hd dd (by rw [← rel.length]; rw [sizeLine_eq] at z; omega) ?_
  rw [← rel.length]
  exact h _ _ (I.tok _)
end
def NoSl (i : Expr) : Prop := ∀ ov iv, subscripted i false ov iv = operate [ov, iv] (getItem ov iv)
theorem subD_of {prog : Program} {w : World} {A : Around} {E : Value → Shared → Prop} {s : Shared} {env : Env} {value slice : Expr} {pos : Pos} {T id : String} {Q : Value → Shared → Prop}
    (hl : typeLookup (.type T) "__getitem__" = pure (some (.builtin id))) (hs : NoSl slice)
    (h : wpAny (model prog w) A (eval value env) (fun o s₁ => wpAny (model prog w) A (eval slice env) (fun i s₂ => s₂.TypeIs o T ∧ wpAny (model prog w) A (getItem o i) Q E s₂) E s₁) E s) :
    wpAny (model prog w) A (eval (.Subscript value slice pos) env) Q E s := by
  refine Subscript_ (wpAny_mono h (fun o s₁ h₁ => wpAny_mono h₁ (fun i s₂ h₂ => ?_) fun _ _ x => x) fun _ _ x => x)
  obtain ⟨hT, h₂⟩ := h₂
  unfold subscriptTail
  refine wpAny_bind ?_
  rw [getitemInPython_of_ne hT.not_modules]
  refine wpAny_bind (wpAny_specialOf hT hl ?_)
  have fin : wpAny (model prog w) A (subscripted slice false o i) (fun r s₃ => wpAny (model prog w) A (letTemporaryGo value o r >>= fun _ => pure r) Q E s₃) E s₂ := by
    rw [hs o i]
    exact wpAny_operating (wpAny_mono h₂ (fun r s₃ h₃ => wpAny_bind (wpAny_letTemporaryGo (wpAny_pure h₃))) fun _ _ x => x)
  first
    | exact wpAny_pure (wpAny_bind fin)
    | exact wpAny_bind (wpAny_pure (wpAny_bind fin))
    | exact wpAny_bind fin
theorem dict_typeIs {X : Cx} {pins : List (Addr × Obj)} {σ : St} {H : Hp} {s : Shared} {a : Addr} {y : V} {o : Option V} (I : Inv X pins σ H s) (g : DGet H a y o) : s.TypeIs (.ref a) "dict" := by
  rcases g with ⟨kvs, k, e, _, _⟩ | ⟨kvs, k, b, e, _, _, _⟩
  · obtain ⟨_, _, vs, _, dd⟩ := dk_rd I.hok e
    exact dd.typeIs
  · obtain ⟨_, _, xs, _, dd⟩ := dt_rd I.hok e
    exact dd.typeIs
def tDGet (td ty : TE) : TE := fun σ H Q => td σ H fun x H1 => ty σ H1 fun y H2 => ∃ a v, x = .ref a ∧ DGet H2 a y (some v) ∧ Q v H2
def tDIn (ty td : TE) : TE := fun σ H Q => ty σ H fun y H1 => td σ H1 fun x H2 => ∃ a o, x = .ref a ∧ DGet H2 a y o ∧ Q (.bl o.isSome) H2
def tDNotIn (ty td : TE) : TE := fun σ H Q => ty σ H fun y H1 => td σ H1 fun x H2 => ∃ a o, x = .ref a ∧ DGet H2 a y o ∧ Q (.bl (!o.isSome)) H2
def sDPut (td ty tv : TE) : TS := fun D σ H => tv σ H fun v H1 => td σ H1 fun x H2 => ty σ H2 fun y H3 => ∃ a H4, x = .ref a ∧ DPut H3 a y v H4 ∧ D.nx σ H4
def sDAug (td ty tv : TE) (rd : V → V → Hp → VK → Prop) : TS := fun D σ H => td σ H fun x H1 => ty σ H1 fun y H2 => ∃ a v, x = .ref a ∧ DGet H2 a y (some v) ∧
  tv σ H2 fun y2 H3 => rd v y2 H3 fun z H4 => ∃ H5, DPut H4 a y z H5 ∧ D.nx σ H5
def sDDel (td ty : TE) : TS := fun D σ H => td σ H fun x H1 => ty σ H1 fun y H2 => ∃ a kvs k, x = .ref a ∧ H2 a = some (.dK kvs) ∧ y = kV k ∧ (valV kvs k).isSome = true ∧ D.nx σ (upd H2 a (.dK (dropK kvs k)))
section
variable {X : Cx} {o i e value : Expr} {pos pos' tpos : Pos} {td ty tv : TE}
theorem pe_dget (hu : X.A.units + 1 < cLine) (ho : PE X o td) (hi : PE X i ty) (hs : NoSl i) : PE X (.Subscript o i pos) (tDGet td ty) := by
  intro pins s σ H Q I h
  refine subD_of PySem.F.slot_dict_getitem.lookup hs (thn (ho pins s σ H _ I h) fun u s1 ⟨x, H1, I1, rx, q1⟩ => thn (hi pins s1 σ H1 _ I1 q1) fun iv s2 ⟨y, H2, I2, ry, a, v, ex, g, q2⟩ => ?_)
  subst ex
  obtain rfl : u = Value.ref a := rx
  exact ⟨dict_typeIs I2 g, d_getItem hu I2 g ry fun w' s3 I3 rw' => ⟨v, H2, I3, rw', q2⟩⟩
theorem pc_din (hu : X.A.units + 1 < cLine) (hi : PE X i ty) (ho : PE X o td) : PC X .In i o (tDIn ty td) := by
  intro pins s σ H Q I h
  refine thn (hi pins s σ H _ I h) fun iv s1 ⟨y, H1, I1, ry, q1⟩ => thn (ho pins s1 σ H1 _ I1 q1) fun u s2 ⟨x, H2, I2, rx, a, ov, ex, g, q2⟩ => ?_
  subst ex
  obtain rfl : u = Value.ref a := rx
  exact d_in hu I2 g ry fun s3 I3 => ⟨.bl ov.isSome, H2, I3, rfl, q2⟩
theorem pc_dnotin (hu : X.A.units + 1 < cLine) (hi : PE X i ty) (ho : PE X o td) : PC X .NotIn i o (tDNotIn ty td) := by
  intro pins s σ H Q I h
  refine thn (hi pins s σ H _ I h) fun iv s1 ⟨y, H1, I1, ry, q1⟩ => thn (ho pins s1 σ H1 _ I1 q1) fun u s2 ⟨x, H2, I2, rx, a, ov, ex, g, q2⟩ => ?_
  subst ex
  obtain rfl : u = Value.ref a := rx
  exact d_notIn hu I2 g ry fun s3 I3 => ⟨.bl (!ov.isSome), H2, I3, rfl, q2⟩
theorem ps_dput (hu : X.A.units + 1 < cLine) (ho : PE X o td) (hi : PE X i ty) (hv : PE X value tv) (hs : swapsWith value (some (.Subscript o i pos')) pos.line X.env = pure false) :
    PS X (.Assign [.Subscript o i pos'] value pos) (sDPut td ty tv) := by
  intro pins s σ H D I h
  refine wpAny_Assign_Subscript (thn (hv pins s σ H _ I h) fun r s1 ⟨v, H1, I1, rv, q1⟩ => thn (ho pins s1 σ H1 _ I1 q1) fun u s2 ⟨x, H2, I2, rx, q2⟩ => thn (hi pins s2 σ H2 _ I2 q2) fun iv s3 ⟨y, H3, I3, ry, a, H4, ex, g, q3⟩ => ?_) hs
  subst ex
  obtain rfl : u = Value.ref a := rx
  exact d_setItem hu I3 g ry rv fun s4 I4 => ⟨σ, H4, I4, q3⟩
theorem ps_ddel (ho : PE X o td) (hi : PE X i ty) : PS X (.Delete [.Subscript o i tpos] pos) (sDDel td ty) := by
  intro pins s σ H D I h
  refine wpAny_Delete (wpAny_deleteEach_cons (wpAny_delete_Subscript (thn (ho pins s σ H _ I h) fun u s1 ⟨x, H1, I1, rx, q1⟩ => thn (hi pins s1 σ H1 _ I1 q1) fun iv s2 ⟨y, H2, I2, ry, a, kvs, k, ex, e, ey, l, q2⟩ => ?_)))
  subst ex ey
  obtain rfl : u = Value.ref a := rx
  exact d_delItem I2 e ry l fun s3 I3 => wpAny_deleteEach_nil ⟨σ, _, I3, q2⟩
end
theorem dk_empty {P : Program} {w : World} {H : Hp} (h : Heap) (hb : sysModules < h.objs.size) : ObjOk P w H (h.push { cls := .type "dict", data := .dict #[] }) h.objs.size (.dK []) :=
  ⟨Nat.zero_le _, beq_eq_false_iff_ne.mpr (Ne.symm (Nat.ne_of_lt hb)), [], .nil, Heap.DictOf.new h⟩
def tDNewK : TE := fun _ H Q => ∀ p, H p = none → Q (.ref p) (upd H p (.dK []))
def tDNewT : TE := fun _ H Q => ∀ p, H p = none → Q (.ref p) (upd H p (.dT []))
section
variable {X : Cx} {pos : Pos}
theorem pe_dnewK : PE X (.Dict [] [] pos) tDNewK := fun pins s σ H Q I h =>
  wpAny_Dict_empty ⟨.ref s.heap.objs.size, _, I.laid (a := s.heap.objs.size) (o := .dK []) (t' := s.toks) (fun _ _ q => Heap.get?_push_of_some _ q) (Nat.le_refl _) (dk_empty s.heap I.big), rfl, h _ (I.hok.fresh (Nat.le_refl _))⟩
end
def tPairs : List (TE × TE) → St → Hp → (List (V × V) → Hp → Prop) → Prop
  | [], _, H, Q => Q [] H
  | (tk, tv) :: r, σ, H, Q => tk σ H fun x H1 => tv σ H1 fun y H2 => tPairs r σ H2 fun ps H3 => Q ((x, y) :: ps) H3
abbrev VV : List (V × V) → List (Value × Value) → Prop := Paired fun p q => RelV p.1 q.1 ∧ RelV p.2 q.2
def PPs (X : Cx) (pos : Pos) (keys : List (Option Expr)) (values : List Expr) (trs : List (TE × TE)) : Prop :=
  ∀ (pins : List (Addr × Obj)) (s : Shared) (σ : St) (H : Hp) (Q : List (V × V) → Hp → Prop), Inv X pins σ H s → tPairs trs σ H Q →
    wpAny (model X.prog X.w) X.A (evalPairs (pairTrees keys values X.env pos)) (fun vs s' => ∃ ps H', Inv X pins σ H' s' ∧ VV ps vs ∧ Q ps H') X.xe s
def mergeK (kvs more : List (Key × V)) : List (Key × V) := more.foldl (fun acc kv => putK acc kv.1 kv.2) kvs
def tDisp (trs : List (TE × TE)) : TE := fun σ H Q => ∀ p, H p = none → tPairs trs σ (upd H p (.dK [])) fun ps H2 => H2 p = some (.dK []) ∧ ∃ kvs : List (Key × V), ps = kvs.map (fun kv => (kV kv.1, kv.2)) ∧ kvs.length ≤ 15 ∧ Q (.ref p) (upd H2 p (.dK (mergeK [] kvs)))
structure M1 (X : Cx) (o : Expr) (m : Str) (apos : Pos) (e : Expr) (cpos : Pos) : Prop where
  base : attributeBase o m X.env (eval o X.env) = eval o X.env
  few : ((backTo cpos (starEach [e] X.env)).all (fun x => !x.1) && (backToKw cpos (keywordEach [] X.env)).all (fun x => x.1.isSome)
    && decide (([e] : List Expr).length + ([] : List Keyword).length + (if ([] : List Keyword).isEmpty then 0 else 1) < 30)) = true
  line : (apos.endLine == cpos.line) = true
  trees : backTo cpos (starEach [e] X.env) = [(false, eval e X.env)]
structure M2 (X : Cx) (o : Expr) (m : Str) (apos : Pos) (e f : Expr) (cpos : Pos) : Prop where
  base : attributeBase o m X.env (eval o X.env) = eval o X.env
  few : ((backTo cpos (starEach [e, f] X.env)).all (fun x => !x.1) && (backToKw cpos (keywordEach [] X.env)).all (fun x => x.1.isSome)
    && decide (([e, f] : List Expr).length + ([] : List Keyword).length + (if ([] : List Keyword).isEmpty then 0 else 1) < 30)) = true
  line : (apos.endLine == cpos.line) = true
  trees : backTo cpos (starEach [e, f] X.env) = [(false, eval e X.env), (false, eval f X.env)]
def IsD (H : Hp) (a : Addr) : Prop := (∃ kvs, Rd H a (.dK kvs)) ∨ ∃ kvs, Rd H a (.dT kvs)
theorem isD_at {X : Cx} {pins : List (Addr × Obj)} {σ : St} {H : Hp} {s : Shared} {a : Addr} (I : Inv X pins σ H s) (d : IsD H a) :
    s.TypeIs (.ref a) "dict" ∧ (∀ b, Value.ref a = .ref b → ∃ ob, s.heap.get? b = some ob ∧ ob.dict = none) ∧ (a == sysModules) = false := by
  rcases d with ⟨kvs, e⟩ | ⟨kvs, e⟩
  · obtain ⟨_, hd, vs, _, dd⟩ := dk_rd I.hok e
    refine ⟨dd.typeIs, fun b q => ?_, hd⟩
    cases q
    obtain ⟨ob, _, _, h1, h2, _⟩ := dd
    exact ⟨ob, h1, h2.2.1⟩
  · obtain ⟨_, hd, xs, _, dd⟩ := dt_rd I.hok e
    refine ⟨dd.typeIs, fun b q => ?_, hd⟩
    cases q
    obtain ⟨ob, _, _, h1, h2, _⟩ := dd
    exact ⟨ob, h1, h2.2.1⟩
section
variable {X : Cx} {pins : List (Addr × Obj)} {σ : St} {H : Hp} {s : Shared} {a : Addr} {y d : V} {u r : Value} {o : Option V} {A : Around} {E : Value → Shared → Prop}
theorem d_get1 {Q : Value → Shared → Prop} (hu : A.units + 1 < cLine) (I : Inv X pins σ H s) (g : DGet H a y o) (ry : RelV y u) (h : ∀ w' s', Inv X pins σ H s' → RelV (o.getD .non) w' → Q w' s') :
    wpAny (model X.prog X.w) A (call (.builtin "dict.get") [.ref a, u]) Q E s := by
  rcases g with ⟨kvs, k, e, ey, l⟩ | ⟨kvs, k, b, e, ey, eb, l⟩
  · subst ey
    obtain ⟨z, hd, vs, rel, dd⟩ := dk_rd I.hok e
    refine call_meetsIn PySem.F.slot_dict_get dd.typeIs PySem.F.entry_dict_get (PySem.F.args_dict_get_2 _ _) (meets_dict_get (mixKind X.prog X.w) a (kV_is ry) hd) ⟨_, dd.mapOf, h _ _ (I.tok _) ?_⟩
    rw [l]
    exact (rel.val k).getD rfl
  · subst ey
    cases (show u = Value.ref b from ry)
    obtain ⟨z, hd, xs, rel, dd⟩ := dt_rd I.hok e
    refine call_meetsIn PySem.F.slot_dict_get dd.typeIs PySem.F.entry_dict_get (PySem.F.args_dict_get_2 _ _) (meetsH_dict_get (tupleKind (mixKind X.prog X.w)) a b hd) ⟨tupleKind_room_in1 hu, k, xs, key_of I.hok eb, dd, h _ _ (I.tok _) ?_⟩
    rw [l]
    exact (rel.val k).getD rfl
end
def tDGet1 (td ty : TE) : TE := fun σ H Q => td σ H fun x H1 => ∃ a, x = .ref a ∧ IsD H1 a ∧ ty σ H1 fun y H2 => ∃ o, DGet H2 a y o ∧ Q (o.getD .non) H2
def tDGet2 (td ty tx : TE) : TE := fun σ H Q => td σ H fun x H1 => ∃ a, x = .ref a ∧ IsD H1 a ∧ ty σ H1 fun y H2 => tx σ H2 fun z H3 => ∃ o, DGet H3 a y o ∧ Q (o.getD z) H3
def tDPop1 (td ty : TE) : TE := fun σ H Q => td σ H fun x H1 => ∃ a, x = .ref a ∧ IsD H1 a ∧ ty σ H1 fun y H2 => ∃ kvs k v, H2 a = some (.dK kvs) ∧ y = kV k ∧ valV kvs k = some v ∧ Q v (upd H2 a (.dK (dropK kvs k)))
def tDPop2 (td ty tx : TE) : TE := fun σ H Q => td σ H fun x H1 => ∃ a, x = .ref a ∧ IsD H1 a ∧ ty σ H1 fun y H2 => tx σ H2 fun z H3 => ∃ kvs k, H3 a = some (.dK kvs) ∧ y = kV k ∧
  (∀ v, valV kvs k = some v → Q v (upd H3 a (.dK (dropK kvs k)))) ∧ (valV kvs k = none → Q z H3)
section
variable {X : Cx} {o e f : Expr} {apos cpos : Pos} {td ty tx : TE}
theorem pe_dget1 (hu : X.A.units + 1 < cLine) (ho : PE X o td) (he : PE X e ty) (m : M1 X o "get" apos e cpos) : PE X (.Call (.Attribute o "get" apos) [e] [] cpos) (tDGet1 td ty) := by
  intro pins s σ H Q I h
  refine wpAny_Call_method m.base m.few m.line PySem.F.plainAttrs_dict PySem.F.slot_dict_get PySem.F.type_dict_get (thn (ho pins s σ H _ I h) fun u s1 ⟨x, H1, I1, rx, a, ex, d, q1⟩ => ?_)
  subst ex
  obtain rfl : u = Value.ref a := rx
  obtain ⟨t1, t2, _⟩ := isD_at I1 d
  refine ⟨t1, t2, ?_⟩
  rw [m.trees]
  refine Calls.callWith_builtin rfl (Calls.evalArgs_plain (Calls.spliced_cons (thn (he pins s1 σ H1 _ I1 q1) fun iv s2 ⟨y, H2, I2, ry, ov, g, q2⟩ => Calls.spliced_nil ?_)))
  exact d_get1 hu I2 g ry fun w' s3 I3 rw' => ⟨_, H2, I3, rw', q2⟩
end
section
variable {X : Cx} {pins : List (Addr × Obj)} {σ : St} {H : Hp} {s : Shared} {a : Addr} {kvs : List (Key × V)} {A : Around} {E : Value → Shared → Prop}
end
section
variable {X : Cx} {pins : List (Addr × Obj)} {σ : St} {H : Hp} {s : Shared} {a : Addr} {y : V} {u : Value} {A : Around} {E : Value → Shared → Prop}
end
end L2
namespace L2
open PySem PySem.Spec PyProof.Rows
section
variable {prog : Program} {w : World} {A : Around} {E : Value → Shared → Prop}
end
section
variable {X : Cx}
end
end L2
namespace L2
open PySem PySem.Spec PyProof.Rows
section
variable {X : Cx} {pins : List (Addr × Obj)} {σ : St} {H : Hp} {s : Shared} {h' : Heap}
theorem Inv.turnedNew {t' : Nat} {ch : List Addr} {T : Addr} {ob : HO} (I : Inv X pins σ H s) (k : ∀ b o, b ∉ ch → s.heap.get? b = some o → h'.get? b = some o) (hf : ∀ b ∈ ch, FpOk X pins H b) (hT : s.heap.objs.size ≤ T)
    (new : ObjOk X.prog X.w (upd H T ob) h' T ob) : Inv X pins σ (upd H T ob) { s with heap := h', toks := t' } := by
  have hn : H T = none := I.hok.fresh hT
  have nit : ∀ b u, H b = some u → b ∉ ch := fun b u e z => by
    have q := (hf b z).1
    rw [q] at e; cases e
  refine I.step (g' := s.gens) (d' := s.drawn) (ch := ch) (fun b hb => ⟨(hf b hb).2.2.2.1, (hf b hb).2.1, (hf b hb).2.2.2.2.1, (hf b hb).2.2.2.2.2⟩) (fun b o _ _ hc e _ => k b o hc e) (fun b o _ _ hc e _ => ⟨o.slots, k b o hc e⟩)
    (fun b o _ e n => ?_) (fun b o hc e => ⟨o, k b o hc e⟩) (fun b xs e => ?_) (fun b o u e => ?_) (fun b ps e => ⟨#[], ?_⟩) (fun m hm => ?_) (fun b u e => ?_) I.bare
  · rw [upd_ne (Nat.ne_of_lt (Nat.lt_of_lt_of_le (Heap.lt_size e) hT))]; exact n
  · rw [upd_ne (ne_of_none e hn)]; exact e
  · rw [upd_ne (ne_of_none e hn)]; exact e
  · rw [upd_ne (ne_of_none e hn), e]; simp
  · obtain ⟨o, es, ep, ho, r⟩ := hm
    exact ⟨o, es, ep, k _ o (fun z => (hf _ z).2.1 rfl) ho, r⟩
  · by_cases hb : b = T
    · subst hb
      rw [upd_same] at e
      cases e
      exact new
    · rw [upd_ne hb] at e
      refine (I.hok b u e).stay (fun c v hc q => k c v ?_ q) (fun c q => by rw [upd_ne (ne_of_none q hn)]; exact q) fun c xs q => by rw [upd_ne (ne_of_none q hn)]; exact q
      rcases hc with z | z
      · rw [z]; exact nit b u e
      · exact nit c _ z
end
def tLock (t : TS) : TS := fun D σ H => ∃ d u, H d = some u ∧ Mut (some u) ∧ ∀ od, t ⟨fun σ' H' => H' d = some (.frz od u) ∧ D.nx σ' (upd H' d u), fun v H' => H' d = some (.frz od u) ∧ D.rt v (upd H' d u), fun σ' H' => H' d = some (.frz od u) ∧ D.bk σ' (upd H' d u), fun σ' H' => H' d = some (.frz od u) ∧ D.ct σ' (upd H' d u)⟩ σ (upd H d (.frz od u))
def tLockE (t : TE) : TE := fun σ H Q => ∃ d u, H d = some u ∧ Mut (some u) ∧ ∀ od, t σ (upd H d (.frz od u)) fun v H' => H' d = some (.frz od u) ∧ Q v (upd H' d u)
section
variable {X : Cx}
end
def Itc (lo c : Int) (n : Nat) : It := ⟨fun i _ => i < n, fun i H x H' => H' = H ∧ x = .int (lo + (i : Nat) * c), fun i _ => n ≤ i⟩
def RgC (i j c : Int) (n : Nat) : Prop := c ≠ 0 ∧ c.natAbs < 1073741824 ∧ Builtin.Range.small i j c = true ∧ Builtin.Range.rangeSize i j c = n
theorem RgC.neg {i j : Int} (ha : -(2 ^ 62) ≤ i) (ha' : i < 2 ^ 62) (hb : -(2 ^ 62) ≤ j) (hb' : j < 2 ^ 62) : RgC i j (-1) (i - j).toNat :=
  ⟨by decide, by decide, PySem.W.small_down ha ha' hb hb', PySem.W.rangeSize_downNat i j⟩
def iRng3 (ta : TA) : TI := fun σ H R => ta σ H fun vs H1 => ∃ (i j c : Int) (n : Nat), vs = [.int i, .int j, .int c] ∧ RgC i j c n ∧ R (Itc i c n) H1
section
variable {X : Cx} {tg : Expr}
end
def Itv (K : PySem.W.Frag) (a : Addr) (n : Nat) : It :=
  ⟨fun i H => i < n ∧ ∃ (xs : List V) (x : V), SqL K H a xs ∧ xs[n - 1 - i]? = some x, fun i H x H' => H' = H ∧ ∀ xs, SqL K H a xs → xs[n - 1 - i]? = some x, fun i _ => n ≤ i⟩
def iRev (K : PySem.W.Frag) (ta : TA) : TI := fun σ H R => ta σ H fun vs H1 => ∃ (a : Addr) (xs : List V), vs = [.ref a] ∧ SqL K H1 a xs ∧ R (Itv K a xs.length) H1
section
variable {X : Cx} {tg : Expr}
end
def Its (x : Str) : It := ⟨fun i _ => i < x.cps.size, fun i H v H' => H' = H ∧ ∃ c, x.cps[i]? = some c ∧ v = .str ⟨#[c]⟩, fun i _ => x.cps.size ≤ i⟩
def iStr (te : TE) : TI := fun σ H R => te σ H fun v H1 => ∃ x, v = .str x ∧ R (Its x) H1
section
variable {prog : Program} {w : World} {A : Around} {E : Value → Shared → Prop} {s : Shared}
theorem iter_keys {d : Addr} {o : Obj} {es : Array DictEntry} {ep : Nat} {Q : Value → Shared → Prop} (hd : (d == sysModules) = false) (ho : s.heap.get? d = some o) (hc : o.ExactDict) (hdat : o.data = .dict es ep)
    (hQ : Q (.ref s.heap.objs.size) { s with heap := s.heap.push { cls := .type "dict_keyiterator", data := .fields #[.ref d, .int 0 0, .int es.size 0, .int ep 0] } }) :
    wpAny (model prog w) A (pyIter (.ref d)) Q E s := by
  have hT : s.TypeIs (.ref d) "dict" := ⟨o, ho, hc.1⟩
  refine wpAny_pyIter_slot hT F.slot_dict_iter (wpAny_call_entry F.slot_dict_iter hT F.entry_dict_iter ?_ (F.args_dict_iter_1 _))
  unfold Builtin.«dict.__iter__»
  refine wpAny_bind ?_
  unfold Builtin.Dict.dictSlotNone
  refine wpAny_bind (wpAny_notOrdered_dict hT ?_)
  show wpAny _ _ (pure (Value.ref d)) _ _ s
  refine wpAny_pure ?_
  show wpAny _ _ (Builtin.Dict.showsAll d >>= _) _ _ s
  unfold Builtin.Dict.showsAll
  rw [if_neg (by rw [hd]; exact Bool.false_ne_true)]
  refine wpAny_bind (wpAny_pure ?_)
  refine wpAny_bind (wpAny_dictEntries ho hdat ?_)
  refine wpAny_bind (wpAny_dictEpoch ho hdat ?_)
  refine wpAny_bind (wpAny_newObj_type (wpAny_pure ⟨_, rfl, "dict_keyiterator", _, ⟨_, Heap.get?_push_size _ rfl, rfl⟩, F.slot_dict_keyiterator_next.lookup, ?_⟩))
  simpa [rawInt] using hQ
theorem next_key_item {it d : Addr} {i n ep : Nat} {od : Obj} {es : Array DictEntry} {en : DictEntry} {Q : Option Value → Shared → Prop} (hit : s.heap.IsKeyIter it d i n ep) (hod : s.heap.get? d = some od) (hdd : od.data = .dict es ep)
    (hsz : es.size = n) (hx : es[i]? = some en) (hQ : ∀ h', h'.IsKeyIter it d (i + 1) n ep → Heap.SameBut it s.heap h' → Q (some en.key) { s with heap := h' }) : wpAny (model prog w) A (pyNext (.ref it)) Q E s := by
  obtain ⟨o, ho, hc, hd⟩ := id hit
  unfold pyNext
  refine wpAny_bind (wpAny_attempt (wpAny_callSpecial?_slot (name := Str.ofString "__next__") hit.typeIs F.slot_dict_keyiterator_next
    (wpAny_call_entry F.slot_dict_keyiterator_next hit.typeIs F.entry_dict_keyiterator_next ?_ (F.args_dict_keyiterator_next_1 _))))
  refine wpAny_bind (wpAny_pure ?_)
  refine wpAny_bind ?_
  refine wpAny_bind ?_
  first | refine wpAny_bind (wpAny_typeNameOfWhole_keyiter hit.typeIs (wpAny_pure ?_)) | refine wpAny_bind (wpAny_typeNameOf_keyiter hit.typeIs (wpAny_pure ?_))
  refine wpAny_bind (wpAny_fieldsOf ho hd ?_)
  have hown : Builtin.Dict_items.ownsTuple "dict_keyiterator" = false := by decide
  simp only [hown, Bool.false_eq_true, if_false]
  show wpAny _ _ (if (Value.ref d == Value.none) = true then _ else _) _ _ s
  rw [if_neg (show ¬ ((Value.ref d == Value.none) = true) from Bool.false_ne_true)]
  refine wpAny_bind (wpAny_pure ?_)
  refine wpAny_bind (wpAny_dictEntries hod hdd ?_)
  rw [if_neg (by rw [hsz]; simp)]
  refine wpAny_bind (wpAny_pure ?_)
  refine wpAny_bind (wpAny_dictEpoch hod hdd ?_)
  rw [if_neg (by simp)]
  refine wpAny_pure ?_
  obtain ⟨hlt', hen⟩ := Array.getElem?_eq_some_iff.mp hx
  simp only [show ¬ ((i : Int) < 0) from by omega, if_false, Int.toNat_natCast, Array.getElem?_eq_getElem hlt']
  refine wpAny_bind ?_
  first | refine wpAny_bind (wpAny_typeNameOfWhole_keyiter hit.typeIs (wpAny_pure ?_)) | refine wpAny_bind (wpAny_typeNameOf_keyiter hit.typeIs (wpAny_pure ?_))
  refine wpAny_bind (wpAny_isOneOf_keyiter hit.typeIs ?_)
  show wpAny _ _ (setField (.ref it) 1 (rawInt ((i : Int) + 1)) >>= _) _ _ s
  refine wpAny_bind (wpAny_setField ho hd (by simp) ?_)
  have hit' : (s.heap.update it (Obj.mapFields (·.setIfInBounds 1 (rawInt ((i : Int) + 1))))).IsKeyIter it d (i + 1) n ep :=
    ⟨_, Heap.get?_update_self _ ho (Obj.isFreed_of_fields (Obj.data_mapFields hd _)), (Obj.cls_mapFields ..).trans hc, by rw [Obj.data_mapFields hd]; simp [rawInt]⟩
  refine wpAny_bind (wpAny_holding ?_)
  refine wpAny_bind (wpAny_isOneOf_keyiter (s := { s with heap := s.heap.update it (Obj.mapFields (·.setIfInBounds 1 (rawInt ((i : Int) + 1)))) }) hit'.typeIs ?_)
  show wpAny _ _ (pure es[i].key) _ _ _
  rw [hen]
  exact wpAny_pure (wpAny_pure ⟨_, rfl, wpAny_pure (hQ _ hit' (Heap.SameBut.update ..))⟩)
theorem next_key_end {it d : Addr} {i n ep : Nat} {od : Obj} {es : Array DictEntry} {Q : Option Value → Shared → Prop} (hh : A.handled = none) (hit : s.heap.IsKeyIter it d i n ep) (hod : s.heap.get? d = some od) (hdd : od.data = .dict es ep)
    (hsz : es.size = n) (hge : n ≤ i) (hQ : ∀ h', Heap.ExtBut it s.heap h' → Q none { s with heap := h' }) : wpAny (model prog w) A (pyNext (.ref it)) Q E s := by
  obtain ⟨o, ho, hc, hd⟩ := id hit
  unfold pyNext
  refine wpAny_bind (wpAny_attempt (wpAny_callSpecial?_slot (name := Str.ofString "__next__") hit.typeIs F.slot_dict_keyiterator_next
    (wpAny_call_entry F.slot_dict_keyiterator_next hit.typeIs F.entry_dict_keyiterator_next ?_ (F.args_dict_keyiterator_next_1 _))))
  refine wpAny_bind (wpAny_pure ?_)
  refine wpAny_bind ?_
  refine wpAny_bind ?_
  first | refine wpAny_bind (wpAny_typeNameOfWhole_keyiter hit.typeIs (wpAny_pure ?_)) | refine wpAny_bind (wpAny_typeNameOf_keyiter hit.typeIs (wpAny_pure ?_))
  refine wpAny_bind (wpAny_fieldsOf ho hd ?_)
  have hown : Builtin.Dict_items.ownsTuple "dict_keyiterator" = false := by decide
  simp only [hown, Bool.false_eq_true, if_false]
  show wpAny _ _ (if (Value.ref d == Value.none) = true then _ else _) _ _ s
  rw [if_neg (show ¬ ((Value.ref d == Value.none) = true) from Bool.false_ne_true)]
  refine wpAny_bind (wpAny_pure ?_)
  refine wpAny_bind (wpAny_dictEntries hod hdd ?_)
  rw [if_neg (by rw [hsz]; simp)]
  refine wpAny_bind (wpAny_pure ?_)
  refine wpAny_bind (wpAny_dictEpoch hod hdd ?_)
  rw [if_neg (by simp)]
  refine wpAny_pure ?_
  have hge' : es.size ≤ i := by rw [hsz]; exact hge
  simp only [show ¬ ((i : Int) < 0) from by omega, if_false, Int.toNat_natCast, Array.getElem?_eq_none hge']
  refine wpAny_bind ?_
  first | refine wpAny_bind (wpAny_typeNameOfWhole_keyiter hit.typeIs (wpAny_pure ?_)) | refine wpAny_bind (wpAny_typeNameOf_keyiter hit.typeIs (wpAny_pure ?_))
  show wpAny _ _ (setField (.ref it) 0 .none >>= _) _ _ s
  refine wpAny_bind (wpAny_setField ho hd (by simp) ?_)
  show wpAny _ _ (newExc (.type "StopIteration") [] >>= _) _ _ _
  refine wpAny_bind ?_
  simp only [newExc, newTuple]
  refine wpAny_bind (wpAny_newObj_type ?_ (by size_fits))
  refine wpAny_bind (m := firstArgMember _ _) (wpAny_of_eq (a := Value.none) (by first | rfl | (simp only [firstArgMember]; rfl)) ?_)
  refine wpAny_newObj_type ?_ (by size_fits)
  simp only [raiseNew]
  refine wpAny_bind (wpAny_handled ?_)
  rw [show A.in1.handled = none from hh]
  refine wpAny_bind (wpAny_pure (wpAny_throw ?_))
  refine wpAny_bind (wpAny_isInstance (T := "StopIteration") (b := true) ⟨_, Heap.get?_push_size _ rfl, rfl⟩ isSubtype_stop ?_)
  exact wpAny_pure (hQ _ (((Heap.SameBut.update ..).extBut.push _).push _))
end
theorem kv_get {κ : Type} {kvs : List (κ × V)} {vs : List (κ × Value)} (h : KV kvs vs) : ∀ {i : Nat} {k : κ} {v : V}, kvs[i]? = some (k, v) → ∃ u, vs[i]? = some (k, u) ∧ RelV v u := by
  unfold KV at h
  induction h with
  | nil => intro i k v e; simp at e
  | @cons a b l₁ l₂ r t ih =>
    intro i k v e
    cases i with
    | zero =>
      simp only [List.getElem?_cons_zero, Option.some.injEq] at e
      subst e
      refine ⟨b.2, ?_, r.2⟩
      simp only [List.getElem?_cons_zero]
      exact congrArg some (Prod.ext r.1.symm rfl)
    | succ j =>
      simp only [List.getElem?_cons_succ] at e ⊢
      exact ih e
theorem relV_key {k : Key} {u : Value} (h : keyIs k u = true) : RelV (kV k) u := by
  rcases keyIs_shape h with ⟨i, t, rfl, rfl⟩ | ⟨x, t, rfl, rfl⟩
  · exact ⟨t, rfl⟩
  · exact ⟨t, rfl⟩
section
variable {X : Cx} {pins : List (Addr × Obj)} {σ : St} {H : Hp} {s : Shared} {d : Addr} {o : Obj}
end
def Itk (d : Addr) (o : Obj) (kvs : List (Key × V)) : It :=
  ⟨fun i H => H d = some (.frz o (.dK kvs)) ∧ i < kvs.length, fun i H x H' => H' = H ∧ ∃ k v, kvs[i]? = some (k, v) ∧ x = kV k, fun i H => H d = some (.frz o (.dK kvs)) ∧ kvs.length ≤ i⟩
def Itkt (d : Addr) (o : Obj) (kvs : List (List Key × V)) : It :=
  ⟨fun i H => H d = some (.frz o (.dT kvs)) ∧ i < kvs.length, fun i H x H' => H' = H ∧ ∃ (k : List Key) (v : V) (q : Addr), kvs[i]? = some (k, v) ∧ x = .ref q ∧ H q = some (.tup (k.map kV)), fun i H => H d = some (.frz o (.dT kvs)) ∧ kvs.length ≤ i⟩
def Itd (d : Addr) (o : Obj) (kvs : List (Key × V)) : It :=
  ⟨fun i H => H d = some (.frz o (.dK kvs)) ∧ i < kvs.length, fun i H x H' => H' = H ∧ ∃ k, kvs[i]? = some (k, x), fun i H => H d = some (.frz o (.dK kvs)) ∧ kvs.length ≤ i⟩
def Iti (d : Addr) (o : Obj) (kvs : List (Key × V)) : It :=
  ⟨fun i H => H d = some (.frz o (.dK kvs)) ∧ i < kvs.length, fun i H x H' => ∃ T k v, kvs[i]? = some (k, v) ∧ x = .ref T ∧ H T = none ∧ H' = upd H T (.tup [kV k, v]), fun i H => H d = some (.frz o (.dK kvs)) ∧ kvs.length ≤ i⟩
section
variable {P : Program} {w : World} {K : PySem.W.Frag} {tg : Expr} {d : Addr} {o : Obj} {es : Array DictEntry} {ep : Nat}
end
def iKeys (td : TE) : TI := fun σ H R => td σ H fun x H1 => ∃ d o, x = .ref d ∧ ((∃ kvs, H1 d = some (.frz o (.dK kvs)) ∧ R (Itk d o kvs) H1) ∨ ∃ kvs, H1 d = some (.frz o (.dT kvs)) ∧ R (Itkt d o kvs) H1)
def iVals (td : TE) : TI := fun σ H R => td σ H fun x H1 => ∃ d o kvs, x = .ref d ∧ H1 d = some (.frz o (.dK kvs)) ∧ R (Itd d o kvs) H1
def iItems (td : TE) : TI := fun σ H R => td σ H fun x H1 => ∃ d o kvs, x = .ref d ∧ H1 d = some (.frz o (.dK kvs)) ∧ R (Iti d o kvs) H1
def iKeysM (td : TE) : TI := fun σ H R => td σ H fun x H1 => ∃ d o kvs, x = .ref d ∧ H1 d = some (.frz o (.dK kvs)) ∧ R (Itk d o kvs) H1
section
variable {X : Cx} {tg e : Expr} {td : TE} {apos cpos : Pos}
end
def Ite (K : PySem.W.Frag) (a : Addr) : It :=
  ⟨fun i H => ∃ (xs : List V) (x : V), SqL K H a xs ∧ xs[i]? = some x, fun i H v H' => ∃ T x, v = .ref T ∧ H T = none ∧ H' = upd H T (.tup [.int (i : Nat), x]) ∧ ∀ xs, SqL K H a xs → xs[i]? = some x, fun i H => ∃ xs : List V, SqL K H a xs ∧ xs.length ≤ i⟩
theorem turn_enum {P : Program} {w : World} {K : PySem.W.Frag} {elts : List Expr} {kk : Nat} {tpos : Pos} (a e it : Addr) :
    Turn P w K (.Tuple elts kk tpos) (Ite K a) [e, it] e (fun i h => (∃ old, IsEnum h e it ((i : Nat) : Int) old) ∧ h.IsListIter it a i ∧ e ≠ it) where
  mem := by simp
  obj := fun i h st b hb => by
    obtain ⟨⟨old, he⟩, ⟨o, ho, hc, hd⟩, _⟩ := st
    have e' : b = e ∨ b = it := by simpa using hb
    rcases e' with z | z
    · rw [z]; exact ⟨_, he, fun v q => nomatch q⟩
    · rw [z]; exact ⟨o, ho, fun v q => by rw [hd] at q; cases q⟩
  keep := fun i h h' st k => let ⟨⟨old, he⟩, hi, hne⟩ := st; ⟨⟨old, k e (by simp) _ he⟩, hi.at fun o q => k it (by simp) o q, hne⟩
  item := by
    intro X hP hw hK hc i pins s σ H E I hf st hg
    subst hP hw hK
    obtain ⟨⟨old, he⟩, hit, hne⟩ := st
    obtain ⟨xs, x, hq, hx⟩ := hg
    obtain ⟨its, rv, p, hz⟩ := I.list hq
    obtain ⟨u, hu, ru⟩ := rv.get hx
    have hel : e < s.heap.objs.size := Heap.lt_size he
    have hil : it < s.heap.objs.size := by obtain ⟨_, q, _⟩ := hit; exact Heap.lt_size q
    refine wpAny_pyNext_enum_item he hit p.isList (x := u) (by simpa using hu) hne fun h' ho hit' hT hsz hk => ?_
    refine ⟨_, rfl, wpAny_letOwnedTupleGo_enum (s := { s with heap := h', toks := s.toks + 1 }) ho fun h'' he' sb => ?_⟩
    have hT2 : h''.get? s.heap.objs.size = some { cls := .type "tuple", data := .seq #[.int i s.toks, u] } := (sb.2 _ (Nat.ne_of_gt hel)).trans hT
    have new : ObjOk X.prog X.w (upd H s.heap.objs.size (.tup [.int (i : Nat), x])) h'' s.heap.objs.size (.tup [.int (i : Nat), x]) :=
      ⟨by show 2 ≤ sizeLine; decide, [.int i s.toks, u], .cons ⟨_, rfl⟩ (.cons ru .nil), ⟨_, hT2, rfl, _, rfl⟩⟩
    have I1 : Inv X pins σ (upd H s.heap.objs.size (.tup [.int (i : Nat), x])) { s with heap := h'', toks := s.toks + 1 } :=
      I.turnedNew (ch := [e, it]) (fun b ob hb q => (sb.2 b (fun z => hb (by simp [z]))).trans (hk b ob (fun z => hb (by simp [z])) (fun z => hb (by simp [z])) q)) hf (Nat.le_refl _) new
    refine ⟨.ref s.heap.objs.size, _, I1, rfl, ⟨_, x, rfl, I.hok.fresh (Nat.le_refl _), rfl, fun ys hy => by rw [I.list_inj hy hq]; exact hx⟩, ⟨⟨u, ?_⟩, hit'.at fun o q => (sb.2 it (Ne.symm hne)).trans q, hne⟩, fun b hb => ?_⟩
    · have e1 : ((i + 1 : Nat) : Int) = (i : Int) + 1 := by omega
      rw [e1]; exact he'
    · have hb' : b < s.heap.objs.size := by
        have e' : b = e ∨ b = it := by simpa using hb
        rcases e' with z | z
        · rw [z]; exact hel
        · rw [z]; exact hil
      rw [upd_ne (Nat.ne_of_lt hb')]
      exact (hf b hb).1
  done := by
    intro X hP hw hK hc i pins s σ H E I hf st hg
    subst hP hw hK
    obtain ⟨⟨old, he⟩, hit, hne⟩ := st
    obtain ⟨xs, hq, hx⟩ := hg
    obtain ⟨its, rv, p, hz⟩ := I.list hq
    obtain ⟨f0, f1, f2, f3, f4, f5⟩ := hf it (by simp)
    have hl := rv.length
    exact wpAny_pyNext_enum_end (I.ok.hd hc) he hit p.isList (by simp; omega) fun h' eb => ⟨rfl, I.turned (t' := s.toks) (fun b o hb q => eb b o hb q) f0 f1 f3 f4 f5⟩
  self := fun A i s Q E st h => let ⟨⟨_, he⟩, _⟩ := st; wpAny_pyIter_enum he h
def iEnum (K : PySem.W.Frag) (ta : TA) : TI := fun σ H R => ta σ H fun vs H1 => ∃ a xs, vs = [.ref a] ∧ SqL K H1 a xs ∧ R (Ite K a) H1
theorem pi_enum {X : Cx} {e : Expr} {ta : TA} {p pos tpos : Pos} {elts : List Expr} {kk : Nat} (hg : Gl X "enumerate") (hm : X.mg "enumerate" = none) (ha : PA X [e] ta) (hs : starEach [e] X.env = [(false, eval e X.env)] := by rfl) :
    PI X (.Tuple elts kk tpos) (.Call (.Name "enumerate" p) [e] [] pos) (iEnum X.K ta) := by
  intro pins s σ H R I h
  refine Call_ (ld_blt I hg hm boot_enumerate (PyProof.Rows.callWith_type1 (thn (ha pos pins s σ H _ I h) fun us s1 ⟨vs, H1, I1, r1, q1⟩ => ?_) hs rfl))
  obtain ⟨a, xs, ex, hq, q⟩ := q1
  subst ex
  cases r1 with
  | cons r rr =>
    cases rr
    cases r
    obtain ⟨its, rv, p', hz⟩ := I1.list hq
    refine call_enumerate_list p'.isList fun h' he hit hsz hk => wpAny_pyIter_enum he ?_
    have I2 : Inv X pins σ H1 { s1 with heap := h' } := I1.kept (t' := s1.toks) hk
    refine ⟨s1.heap.objs.size + 1, [s1.heap.objs.size + 1, s1.heap.objs.size], _, _, H1, rfl, I2, turn_enum a (s1.heap.objs.size + 1) s1.heap.objs.size, ⟨⟨.none, he⟩, hit, Nat.succ_ne_self _⟩, fun b hb => ?_, q⟩
    have e' : b = s1.heap.objs.size + 1 ∨ b = s1.heap.objs.size := by simpa using hb
    have hle : s1.heap.objs.size ≤ b := by
      rcases e' with z | z
      · rw [z]; exact Nat.le_add_right _ _
      · rw [z]; exact Nat.le_refl _
    exact I1.fpOk hle (I1.hok.fresh hle)
def Itz (K : PySem.W.Frag) (a b : Addr) : It :=
  ⟨fun i H => ∃ (xs ys : List V) (x y : V), SqL K H a xs ∧ SqL K H b ys ∧ xs[i]? = some x ∧ ys[i]? = some y,
    fun i H v H' => ∃ T x y, v = .ref T ∧ H T = none ∧ H' = upd H T (.tup [x, y]) ∧ (∀ xs, SqL K H a xs → xs[i]? = some x) ∧ ∀ ys, SqL K H b ys → ys[i]? = some y,
    fun i H => ∃ xs ys : List V, SqL K H a xs ∧ SqL K H b ys ∧ (xs.length ≤ i ∨ ys.length ≤ i)⟩
def iZip (K : PySem.W.Frag) (ta : TA) : TI := fun σ H R => ta σ H fun vs H1 => ∃ a b xs ys, vs = [.ref a, .ref b] ∧ SqL K H1 a xs ∧ SqL K H1 b ys ∧ R (Itz K a b) H1
end L2
section 
namespace Bits
open PySem PyProof.Rows
end Bits
end 
section 
namespace TL
open PySem PySem.Builtin PySem.Builtin.Str PySem.StrLaws
abbrev tl (x : Str) : List Nat := x.cps.toList
def pre (S l : List Nat) : Bool := l.take S.length == S
def spl (S : List Nat) : Nat → List Nat → List Nat → List (List Nat)
  | _, acc, [] => [acc]
  | 0, acc, c :: r => if pre S (c :: r) = true then acc :: spl S (S.length - 1) [] r else spl S 0 (acc ++ [c]) r
  | k + 1, acc, _ :: r => spl S k acc r
def par (S : List Nat) : List Nat → List Nat → Option (List Nat × List Nat)
  | _, [] => none
  | acc, c :: r => if pre S (c :: r) = true then some (acc, (c :: r).drop S.length) else par S (acc ++ [c]) r
def joinL (S : List Nat) : List (List Nat) → List Nat
  | [] => []
  | [p] => p
  | p :: q :: r => p ++ (S ++ joinL S (q :: r))
def numL (n : Nat) : List Nat := (Nat.toDigits 10 n).map Char.toNat
def wstep (st : List (List Nat) × List Nat) (c : Nat) : List (List Nat) × List Nat :=
  if Unicode.isSpace c = true then (if st.2 = [] then st else (st.1 ++ [st.2], [])) else (st.1, st.2 ++ [c])
def wfin (st : List (List Nat) × List Nat) : List (List Nat) := if st.2 = [] then st.1 else st.1 ++ [st.2]
end TL
end 
namespace L2
open PySem PySem.Spec PyProof.Rows
theorem notLong {n : Nat} (h : n ≤ 16777216) : Builtin.Str.tooLong n = false := by
  have e : (2 : Nat) ^ 24 = 16777216 := by decide
  unfold Builtin.Str.tooLong sizeLine
  exact decide_eq_false (by omega)
def rNewStrs (ys : List Str) : Hp → VK → Prop := fun H Q => ∀ p, H p = none → Q (.ref p) (upd H p (.lst (ys.map V.str)))
section
variable {X : Cx} {pins : List (Addr × Obj)} {σ : St} {H : Hp} {s : Shared} {Q : VK}
end
section
variable {X : Cx}
theorem mt0 {id : String} {C : Str → Prop} {g : Str → V} (rule : ∀ (a : Str) (t : Tok) (s : Shared) (Q : Value → Shared → Prop), C a → (∀ (u : Value) (k : Nat), RelV (g a) u → Q u { s with toks := k }) →
    wpAny (model X.prog X.w) X.A (call (.builtin id) [.str a t]) Q X.xe s) : MtR X id (fun x xs H Q => ∃ a, x = .str a ∧ xs = [] ∧ C a ∧ Q (g a) H) := by
  intro pins s σ H x xs v us Q I rx rs h
  obtain ⟨a, rfl, rfl, hc, h⟩ := h
  obtain ⟨t, rfl⟩ := rx
  cases rs
  exact rule a t s _ hc fun u k r => ⟨g a, H, I.tok k, r, h⟩
theorem mt_upper : MtR X "str.upper" (fun x xs H Q => ∃ a, x = .str a ∧ xs = [] ∧ a.length ≤ 5592405 ∧ Q (.str (Txt.upper a)) H) :=
  mt0 (C := fun a => a.length ≤ 5592405) (g := fun a => .str (Txt.upper a)) fun a _ s _ hc h =>
    PySem.SC.upper (notLong (by have h1 : a.length ≤ 5592405 := hc; have := PyProof.Rows.len_upper a; omega)) (h _ (s.toks + 1) ⟨_, rfl⟩)
end
section
variable {X : Cx} {o e : Expr} {to te : TE}
def tM0 (r : V → List V → Hp → VK → Prop) (to : TE) : TE := fun σ H Q => to σ H fun x H1 => (∃ a, x = .str a) ∧ r x [] H1 Q
def tM1 (r : V → List V → Hp → VK → Prop) (to te : TE) : TE := fun σ H Q => to σ H fun x H1 => (∃ a, x = .str a) ∧ te σ H1 fun y H2 => r x [y] H2 Q
theorem pe_m0 {id : String} {name : Str} {apos pos : Pos} {r : V → List V → Hp → VK → Prop} (slot : Slot "str" name id) (ty : typeOf (.builtin id) = pure (.type "method_descriptor")) (rule : MtR X id r) (ho : PE X o to)
    (hbase : attributeBase o name X.env (eval o X.env) = eval o X.env := by rfl) (hline : (apos.endLine == pos.line) = true := by rfl) : PE X (.Call (.Attribute o name apos) [] [] pos) (tM0 r to) := by
  intro pins s σ H Q I h
  refine PySem.Call_method0 hbase hline (thn (ho pins s σ H _ I h) fun v s1 ⟨x, H1, I1, r1, q1⟩ => ?_)
  obtain ⟨⟨a, rfl⟩, q1⟩ := q1
  obtain ⟨t, rfl⟩ := _root_.id r1
  exact ⟨"str", _, F.plainAttrs_str, slot, ty, typeIs_str _ _ _, (fun _ e => nomatch e), Calls.callWith_builtin rfl (PySem.evalArgs_none (rule pins s1 σ H1 _ [] _ [] Q I1 r1 .nil q1))⟩
theorem pe_upper {apos pos : Pos} (ho : PE X o to) (hbase : attributeBase o "upper" X.env (eval o X.env) = eval o X.env := by rfl) (hline : (apos.endLine == pos.line) = true := by rfl) :
    PE X (.Call (.Attribute o "upper" apos) [] [] pos) (tM0 (fun x xs H Q => ∃ a, x = .str a ∧ xs = [] ∧ a.length ≤ 5592405 ∧ Q (.str (Txt.upper a)) H) to) :=
  pe_m0 F.slot_str_upper F.type_str_upper mt_upper ho hbase hline
end
end L2
namespace L2
open PySem PySem.Spec PyProof.Rows
section
variable {X : Cx}
end
theorem IsPart.raw {v : Value} {o : Option Int} (p : IsPart v o) : ∃ l : Option (Int × Tok), v = partValue l ∧ l.map (·.1) = o := by
  cases p with
  | none => exact ⟨none, rfl, rfl⟩
  | int i t => exact ⟨some (i, t), rfl, rfl⟩
def clipS (n d : Nat) : Option Int → Int
  | none => (d : Int)
  | some i => max 0 (min (if i < 0 then i + (n : Int) else i) (n : Int))
theorem clipS_eq (n d : Nat) (o : Option Int) : clipS n d o = ((HT.sIx n d o : Nat) : Int) := by
  cases o with
  | none => rfl
  | some v =>
    show max (0 : Int) (min (if v < 0 then v + (n : Int) else v) (n : Int)) = (((if v < 0 then (v + (n : Int)).toNat else min v.toNat n) : Nat) : Int)
    by_cases hv : v < 0
    · simp only [if_pos hv]
      omega
    · simp only [if_neg hv]
      omega
theorem sidx_clip (a b : Option Int) (n : Nat) : Builtin.Str.strSliceIndices a b 1 n = sliceRange (clipS n 0 a) (clipS n n b) 1 := by
  have h1 : ((1 : Int) > 0) = True := by simp
  cases a <;> cases b <;> first
    | rfl
    | (simp only [Builtin.Str.strSliceIndices, clipS, h1, if_true]; rfl)
    | simp [Builtin.Str.strSliceIndices, clipS]
theorem sidx (a b : Option Int) (n : Nat) : Builtin.Str.strSliceIndices a b 1 n = (List.range (HT.sIx n n b - HT.sIx n 0 a)).map (fun k => HT.sIx n 0 a + k) := by
  rw [sidx_clip, clipS_eq, clipS_eq]
  generalize HT.sIx n 0 a = p
  generalize HT.sIx n n b = q
  simp only [sliceRange, show ((1 : Int) > 0) = True from by simp, if_true]
  by_cases hlt : (p : Int) < q
  · have e3 : (((q : Int) - p + 1 - 1) / 1).toNat = q - p := by first | omega | (simp; done) | (simp; omega)
    simp only [hlt, if_true, e3]
    refine List.map_congr_left fun k _ => ?_
    omega
  · have : q - p = 0 := by omega
    simp [hlt, this]
def cutS (z : Str) (lo hi : Option Int) : Str :=
  ⟨((z.cps.toList.drop (HT.sIx z.length 0 lo)).take (HT.sIx z.length z.length hi - HT.sIx z.length 0 lo)).toArray⟩
theorem sliceText_cut (z : Str) (lo hi : Option Int) : PySem.StrLaws.sliceText z lo hi = cutS z lo hi := by
  have h1 : HT.sIx z.length 0 lo ≤ z.length := HT.sIx_le _ _ (Nat.zero_le _) _
  have h2 : HT.sIx z.length z.length hi ≤ z.length := HT.sIx_le _ _ (Nat.le_refl _) _
  have hp : HT.sIx z.length 0 lo ≤ max (HT.sIx z.length 0 lo) (HT.sIx z.length z.length hi) := Nat.le_max_left _ _
  have hq : max (HT.sIx z.length 0 lo) (HT.sIx z.length z.length hi) ≤ z.length := Nat.max_le.mpr ⟨h1, h2⟩
  have hd : max (HT.sIx z.length 0 lo) (HT.sIx z.length z.length hi) - HT.sIx z.length 0 lo = HT.sIx z.length z.length hi - HT.sIx z.length 0 lo := by omega
  have e : Builtin.Str.strSliceIndices lo hi 1 z.length =
      Builtin.Str.strSliceIndices (some ((HT.sIx z.length 0 lo : Nat) : Int)) (some ((max (HT.sIx z.length 0 lo) (HT.sIx z.length z.length hi) : Nat) : Int)) 1 z.length := by
    rw [PySem.StrLaws.strSliceIndices_plain hp hq, hd, sidx]
  have e2 : PySem.StrLaws.sliceText z lo hi =
      PySem.StrLaws.sliceText z (some ((HT.sIx z.length 0 lo : Nat) : Int)) (some ((max (HT.sIx z.length 0 lo) (HT.sIx z.length z.length hi) : Nat) : Int)) := by
    unfold PySem.StrLaws.sliceText
    rw [e]
  rw [e2, PySem.StrLaws.sliceText_nat z hp hq, hd]
  rfl
theorem cutS_length (z : Str) (lo hi : Option Int) : (cutS z lo hi).length ≤ z.length := by
  show (((z.cps.toList.drop (HT.sIx z.length 0 lo)).take (HT.sIx z.length z.length hi - HT.sIx z.length 0 lo)).toArray).size ≤ z.cps.size
  rw [List.size_toArray, List.length_take, List.length_drop, Array.length_toList]
  omega
def rSlS : V → Option Int → Option Int → Hp → VK → Prop := fun x lo hi H Q => ∃ z, x = .str z ∧ z.length ≤ sizeLine ∧ Q (.str (cutS z lo hi)) H
theorem sl_str {X : Cx} : SlR X rSlS := by
  intro pins s σ H x v vl vu lo hi sl Q I rx hs pl pu h
  obtain ⟨z, rfl, hz, q⟩ := h
  obtain ⟨t, rfl⟩ := rx
  obtain ⟨os, hos, hcs, hds⟩ := hs
  obtain ⟨l, rfl, rfl⟩ := IsPart.raw pl
  obtain ⟨u, rfl, rfl⟩ := IsPart.raw pu
  refine ⟨"str", _, F.slot_str_getitem.lookup, typeIs_str _ _ _, ?_⟩
  refine wpAny_getItem_str_slice (l := l) (u := u) (st := none) ⟨os, hos, hcs, hds⟩ rfl ?_
  have hl : (PySem.StrLaws.sliceText z (l.map (·.1)) (u.map (·.1))).length ≤ sizeLine := by
    rw [sliceText_cut]
    exact Nat.le_trans (cutS_length z _ _) hz
  rw [← sliceText_cut] at q
  unfold PySem.StrLaws.sliceText at q hl
  show Made.post (if ((1 : Int) == 1 && (Builtin.Str.strSliceIndices (l.map (·.1)) (u.map (·.1)) 1 z.length).length == z.length) = true then Made.val (.str z t)
    else Made.str ⟨((Builtin.Str.strSliceIndices (l.map (·.1)) (u.map (·.1)) 1 z.length).filterMap (z.cps[·]?)).toArray⟩) (EP X pins σ Q) s
  by_cases c : ((1 : Int) == 1 && (Builtin.Str.strSliceIndices (l.map (·.1)) (u.map (·.1)) 1 z.length).length == z.length) = true
  · rw [if_pos c] at q ⊢
    exact ⟨.str z, H, I, ⟨t, rfl⟩, q⟩
  · rw [if_neg c] at q hl ⊢
    exact ⟨hl, .str _, H, I.tok _, ⟨_, rfl⟩, q⟩
end L2
namespace Att
open PySem PySem.W PySem.Calls PyProof.Rows
theorem ints_of_wellAll {P : Params} {h : Heap} : ∀ (ns : List Int) (vs : List Value), WellAll P h vs (ns.map WData.int) → IntsAre vs ns := by
  intro ns
  induction ns with
  | nil =>
    intro vs w
    rw [List.map_nil] at w
    cases w
    exact .nil
  | cons n ns ih =>
    intro vs w
    rw [List.map_cons] at w
    cases w with
    | cons a b =>
      cases a
      exact .cons _ _ (ih _ b)
theorem script_of {l : OpenLaw} {n : Nat} (hn : l.most = some n) {P : Params} {h : Heap} {args : List WData} {vals : List Value}
    (hpre : l.row.toRowW.claim.pre args = true) (hwl : WellAll P h vals args) :
    ∃ a vs ns, vals = [Value.ref a] ∧ args = [WData.list (ns.map WData.int)] ∧ h.get? a = some { cls := .type "list", data := .seq vs.toArray } ∧ IntsAre vs ns ∧ ns.length ≤ n := by
  have hsh : WShape.hasAll [] args [.list .int] = true := (pre_splitW hpre).1
  have hc : l.pre.holds [] { args := args } = true := (pre_splitW hpre).2
  obtain ⟨d, r, rfl, h1, h2⟩ := hasAllW_cons hsh
  obtain rfl := hasAllW_nil h2
  obtain ⟨xs, rfl, h3⟩ := hasW_list h1
  obtain ⟨ns, rfl⟩ := items_int h3
  have hlen : ns.length ≤ n := by
    unfold OpenLaw.pre at hc
    have h4 : (WTm.not (.lt (.lit (.int (n : Int))) (.len (.arg 0)))).holds [] { args := [.list (ns.map .int)] } = true := by
      have h4 := (holds_andW hc).1
      rw [hn] at h4
      exact h4
    have h5 := condW_of h4 (w_not (w_lt w_lit (w_len_list (w_arg rfl))))
    rw [List.length_map] at h5
    refine Nat.le_of_not_lt fun q => ?_
    have q' : (n : Int) < ((ns.length : Nat) : Int) := by omega
    first
      | (rw [decide_eq_true q'] at h5; exact absurd h5 (by decide))
      | (simp at h5; omega)
  cases hwl with
  | cons w1 w2 =>
    cases w2
    cases w1 with
    | list ho hall => exact ⟨_, _, ns, rfl, rfl, ho, ints_of_wellAll ns _ hall, hlen⟩
theorem post_true (l : OpenLaw) (args : List WData) : l.row.toRowW.claim.post args (.bool true) args = true :=
  postW_of (r := l.row.toRowW) (X := (true == true))
    (show WShape.has [] (.bool true) .bool = true by first | rfl | decide | simp [WShape.has, WShape.arms, WShape.armsAll])
    (show (WTm.eq .res (.lit (.bool true))).value [] { args := args, res := some (.bool true), after := args } = some (.bool (true == true)) from w_eq_bool (w_res rfl) w_lit) rfl
theorem attach_call {l : OpenLaw} {n : Nat} {q : Program} {loose : List Str} {XP : (Str → Option Value) → Heap → Prop} {YP : World → Heap → Prop} {d : DefRec}
    (hn : l.most = some n) (hdf : d.params.defaults = [])
    (call : ∀ (w : World) (s₀ s₁ : Shared) (mg mb : Str → Option Value) (fa : Addr) (o : Obj) (pm cd doc : Value) (a : Addr) (vs : List Value) (ns : List Int),
      Ground q loose [] XP w s₀ mg mb s₁.heap → YP w s₁.heap →
      s₁.heap.get? fa = some o → o.data = .func (docDef d.name d.params d.body d.scope pm cd doc) → s₁.heap.CodeRec cd d.name → mg d.name = some (.ref fa) →
      s₁.heap.get? a = some { cls := .type "list", data := .seq vs.toArray } → IntsAre vs ns → ns.length ≤ n → s₁.gens = #[] →
      codeAny (model l.prog w) callerA (.call (.ref fa) ⟨[.ref a], []⟩) (fun r s' => r = .ok (.ret (.bool true)) ∧ OldK s₁.heap s'.heap ∧ s'.os = s₁.os ∧ AllBare s'.gens) s₁) :
    WalkO q loose XP YP l.row.toRowW d [] (fun f vs => PySem.call f vs) := by
  intro w s₀ s₁ mg mb G Y fa o pm cd doc dV kV ho hd hcd hD hmg hg args vals as hpre hlay hrd hwl hlo
  obtain rfl : dV = .none := Dflts.none hD hdf
  obtain rfl : kV = .none := Dflts.noKw hD
  obtain ⟨a, vs, ns, rfl, rfl, hobj, hints, hlen⟩ := script_of hn hpre hwl
  refine enter_call (codeAny_mono (call w s₀ s₁ mg mb fa o pm cd doc a vs ns G Y ho (fd_plain hd) hcd hmg hobj hints hlen hg) fun r s' hq => ?_)
  obtain ⟨rfl, h2, h3, h4⟩ := hq
  exact ⟨.inl ⟨.bool true, .bool true, [], rfl, fun _ => rfl, .bool true, post_true l _, fun _ => ⟨List.Pairwise.nil, fun _ hm => (nomatch hm)⟩⟩, h2, h3, h4⟩
section
variable {prog : Program} {w : World} {A : Around} {E : Value → Shared → Prop} {s : Shared} {K : Frag}
def noObjs (h : Heap) : Heap := { h with objs := #[] }
def ledger (h : Heap) (L d : Addr) : List (Addr × Obj) := (List.range h.objs.size).filterMap fun a => if a = L ∨ a = d then none else (h.get? a).map fun o => (a, o)
end
end Att
namespace L2
open PySem PySem.Spec PyProof.Rows
theorem vals_ints : ∀ {vs : List Value} {ns : List Int}, IntsAre vs ns → Vals (ns.map V.int) vs
  | _, _, .nil => .nil
  | _, _, .cons n t h => .cons ⟨t, rfl⟩ (vals_ints h)
def Only (H : Hp) : Prop := ∀ b, H b = none ∨ ∃ o xs, H b = some (.frz o (.lst xs))
end L2
namespace L2
open PySem PySem.Spec PyProof.Rows
abbrev KOf {K : PySem.W.Frag} {h : Heap} (_ : K.In h) : PySem.W.Frag := K
end L2
/- THE LAST THEOREM (shape; LID, My.* are yours):
   My.Adr: a structure of the addresses that your layer names (classes, functions); My.Txt K t: a structure (Prop) of the equations over K;
   My.txt_mk : {K} {implicit addresses ..} (e1 : nsIn K mainGlobals "law" = some (some (.ref f))) (e2 : K.lookup f = some ⟨oc, od, .func (fnOf "law" "law" params body scope dV kV doc pm an cdv ct), sl⟩) (e3 : codeIn K cdv "law" = true) .. : ∃ t, My.Txt K t
(the tactic k_is has no namespace: write k_is) -/
namespace L2
open PySem PySem.Spec PyProof.Rows
def inClass (s : Stmt) (j : Nat) : Stmt := match s with
  | .ClassDef _ _ _ body _ _ _ _ _ _ _ => body.getD j (.Pass ⟨0, 0, 0, 0⟩)
  | _ => .Pass ⟨0, 0, 0, 0⟩
def defArgs (s : Stmt) : Arguments := match s with
  | .FunctionDef _ a _ _ _ _ _ _ _ _ => a
  | _ => { posonlyargs := [], args := [], vararg := none, kwonlyargs := [], kw_defaults := [], kwarg := none, defaults := [] }
def defBody (s : Stmt) : List Stmt := match s with
  | .FunctionDef _ _ b _ _ _ _ _ _ _ => b
  | _ => []
def defScope (s : Stmt) : Scope := match s with
  | .FunctionDef _ _ _ _ _ _ sc _ _ _ => sc
  | _ => { kind := .function, names := [], isGenerator := false, isCoroutine := false }
abbrev CX0 : CXT := fun _ _ _ _ _ _ => False
abbrev E0 : XK := fun _ _ _ => False
theorem pass0 {X : Cx} : Passes CX0 X E0 := fun _ _ _ _ _ _ _ h => h.elim
structure Fun (K : PySem.W.Frag) (x qual : Str) (st : Stmt) (f : Addr) (fd : FuncData) : Prop where
  ex : ∃ (oc : Value) (od : Option Addr) (kV doc pm : Value) (an : Option Addr) (cdv ct : Value) (osl : Array (Option Value)),
    fd = PySem.W.fnOf x qual (defArgs st) (defBody st) (defScope st) .none kV doc pm an cdv ct ∧ K.lookup f = some ⟨oc, od, .func fd, osl⟩ ∧ PySem.W.codeIn K cdv qual = true
  kp : PySem.W.keepIn K (.ref f) = true
section
variable {P : Program} {w : World} {K : PySem.W.Frag} {mg : Str → Option Value} {base : Heap}
theorem Fun.ok {x qual : Str} {st : Stmt} {f : Addr} {fd : FuncData} {N ps : List Str} {k : Nat} {sp : Sp} (F : Fun K x qual st f fd) (S : FnScope N ps (defScope st)) (len : ∀ vs H Q E, sp vs H Q E → vs.length = ps.length)
    (hbody : ∀ (cdv : Value) (A : Around) (outer : List Env) (s : Shared) (H : Hp) (vs : List V) (Q : VK) (E : XK), Room k (A.deeper (envOfC qual (defScope st) s.heap.objs.size f cdv)) → sp vs H Q E →
      ∃ t, PSs (cxOf CX0 P w K mg base N qual (defScope st) f cdv A outer s H E).nox (defBody st) t ∧ t { nx := fun _ H' => Q .non H', rt := Q } (start N vs) H) : FnOk P w K mg base CX0 (k + 1) f fd ps sp := by
  obtain ⟨oc, od, kV, doc, pm, an, cdv, ct, osl, rfl, lk, hcd⟩ := F.ex
  refine fn_of lk hcd S len fun A outer s H vs Q E hr hsp => ?_
  obtain ⟨t, h, q⟩ := hbody cdv A outer s H vs Q E hr hsp
  exact ⟨t, h.nox, q⟩
theorem Fun.binds {x qual : Str} {st : Stmt} {f : Addr} {fd : FuncData} {ps : List Str} (F : Fun K x qual st f fd)
    (h : ∀ (kV doc pm : Value) (an : Option Addr) (cdv ct : Value) (us : List Value), us.length = ps.length → bindArgs (PySem.W.fnOf x qual (defArgs st) (defBody st) (defScope st) .none kV doc pm an cdv ct) ⟨us, []⟩ = pure (ps.zip us)) : Binds K fd ps [] := by
  obtain ⟨oc, od, kV, doc, pm, an, cdv, ct, osl, rfl, lk, hcd⟩ := F.ex
  exact .all (h kV doc pm an cdv ct)
theorem fun_mk {x qual : Str} {st : Stmt} {f : Addr} {oc : Value} {od an : Option Addr} {osl : Array (Option Value)} {kV doc pm cdv ct : Value} (l : K.lookup f = some ⟨oc, od, .func (PySem.W.fnOf x qual (defArgs st) (defBody st) (defScope st) .none kV doc pm an cdv ct), osl⟩)
    (c : PySem.W.codeIn K cdv qual = true) (k : PySem.W.keepIn K (.ref f) = true) : Fun K x qual st f (PySem.W.fnOf x qual (defArgs st) (defBody st) (defScope st) .none kV doc pm an cdv ct) := ⟨⟨oc, od, kV, doc, pm, an, cdv, ct, osl, rfl, l, c⟩, k⟩
end
theorem hu_of {A : Around} {k : Nat} (hr : Room k A) : A.units + 1 < cLine := Nat.lt_of_le_of_lt (Nat.add_le_add_left (by decide : 1 ≤ 64) _) hr.units
theorem small1000 {n : Nat} (h : n ≤ 1000) : n < sizeLine := Nat.lt_of_le_of_lt h (by decide)
section
variable {X : Cx}
theorem pv (i : Nat) {x : Str} {pos : Pos} (hN : X.N[i]? = some x := by rfl) (hv : Vis X.env.scope x := by first | exact Or.inl rfl | exact Or.inr (Or.inl rfl) | exact Or.inr (Or.inr rfl)) (hd : (x == ("__debug__" : Str)) = false := by decide)
    (hcd : (x == ("__classdict__" : Str)) = false := by decide) : PE X (.Name x pos) (tVar i) := pe_var hN hv hd hcd
theorem call_lenD : CallR X (.builtin "len") (fun xs H Q => ∃ a kvs, xs = [V.ref a] ∧ H a = some (.dK kvs) ∧ Q (.int kvs.length) H) := by
  intro pins s σ H xs us Q I r h
  obtain ⟨a, kvs, rfl, ha, q⟩ := h
  obtain ⟨u, rfl, ru⟩ := vals1 r
  cases ru
  exact d_len I (.inl ha) fun t s' I' => ⟨.int kvs.length, H, I', ⟨t, rfl⟩, q⟩
end
theorem iteF {A B : Prop} (h : B) : if false = true then A else B := by
  rw [if_neg Bool.false_ne_true]
  exact h
theorem iteT {A B : Prop} (h : A) : if true = true then A else B := by
  rw [if_pos rfl]
  exact h
def Same (H H' : Hp) : Prop := ∀ b o, H b = some o → H' b = some o
theorem Same.refl (H : Hp) : Same H H := fun _ _ h => h
theorem Same.trans {H H1 H2 : Hp} (a : Same H H1) (b : Same H1 H2) : Same H H2 := fun c o h => b c o (a c o h)
theorem Same.free {H H' : Hp} (e : Same H H') {l : Addr} (h : H' l = Option.none) : H l = Option.none := by
  cases q : H l with
  | none => rfl
  | some o =>
    rw [e l o q] at h
    cases h
theorem Same.seq {K : PySem.W.Frag} {H H' : Hp} {a : Addr} {xs : List V} (e : Same H H') (h : SqL K H a xs) : SqL K H' a xs := by
  rcases h with (h | ⟨o, h⟩) | h
  · exact .inl (.inl (e _ _ h))
  · exact .inl (.inr ⟨o, e _ _ h⟩)
  · exact .inr h
section
variable {κ : Type} [DecidableEq κ]
theorem valV_not {kvs : List (κ × V)} {k : κ} (h : valV kvs k = none) : ¬ k ∈ kvs.map (·.1) := by
  intro m
  obtain ⟨p, hp, e⟩ := List.mem_map.mp m
  have q : (kvs.any fun kv => decide (kv.1 = k)) = true := List.any_eq_true.mpr ⟨p, hp, decide_eq_true e⟩
  rw [valV_any, h] at q
  exact absurd q (by simp)
theorem valV_in {kvs : List (κ × V)} {k : κ} {v : V} (h : valV kvs k = some v) : k ∈ kvs.map (·.1) := by
  have q : (kvs.any fun kv => decide (kv.1 = k)) = true := by
    rw [valV_any, h]
    all_goals rfl
  obtain ⟨p, hp, e⟩ := List.any_eq_true.mp q
  exact List.mem_map.mpr ⟨p, hp, of_decide_eq_true e⟩
theorem nd_snoc : ∀ {l : List κ} {k : κ}, l.Nodup → ¬ k ∈ l → (l ++ [k]).Nodup
  | [], k, _, _ => by simp
  | a :: r, k, h, hk => by
    obtain ⟨h1, h2⟩ := List.nodup_cons.mp h
    show (a :: (r ++ [k])).Nodup
    refine List.nodup_cons.mpr ⟨fun m => ?_, nd_snoc h2 fun m => hk (List.mem_cons.mpr (Or.inr m))⟩
    rcases List.mem_append.mp m with q | q
    · exact h1 q
    · exact hk (List.mem_cons.mpr (Or.inl (List.mem_singleton.mp q).symm))
theorem nd_putK {kvs : List (κ × V)} {k : κ} (v : V) (hn : (kvs.map (·.1)).Nodup) (h : valV kvs k = none) : ((putK kvs k v).map (·.1)).Nodup := by
  rw [putK_new v h, List.map_append]
  exact nd_snoc hn (valV_not h)
theorem dropK_pos {p : κ × V} {r : List (κ × V)} {k : κ} (e : p.1 = k) : dropK (p :: r) k = dropK r k := by
  unfold dropK
  rw [List.filter_cons, if_neg (by simp [e])]
theorem dropK_neg {p : κ × V} {r : List (κ × V)} {k : κ} (e : ¬ p.1 = k) : dropK (p :: r) k = p :: dropK r k := by
  unfold dropK
  rw [List.filter_cons, if_pos (by simp [e])]
theorem dropK_no : ∀ {kvs : List (κ × V)} {k : κ}, ¬ k ∈ kvs.map (·.1) → dropK kvs k = kvs
  | [], _, _ => rfl
  | p :: r, k, h => by
    have h' : ¬ k ∈ r.map (·.1) := fun m => by
      obtain ⟨q, hq, e⟩ := List.mem_map.mp m
      exact h (List.mem_map.mpr ⟨q, List.mem_cons.mpr (Or.inr hq), e⟩)
    rw [dropK_neg fun e => h (List.mem_map.mpr ⟨p, List.mem_cons.mpr (Or.inl rfl), e⟩), dropK_no h']
theorem dropK_mem {kvs : List (κ × V)} {k : κ} {p : κ × V} (h : p ∈ dropK kvs k) : p ∈ kvs := (List.mem_filter.mp h).1
theorem nd_dropK : ∀ {kvs : List (κ × V)} {k : κ}, (kvs.map (·.1)).Nodup → ((dropK kvs k).map (·.1)).Nodup
  | [], _, _ => List.nodup_nil
  | p :: r, k, h => by
    have h : (p.1 :: r.map (·.1)).Nodup := h
    obtain ⟨h1, h2⟩ := List.nodup_cons.mp h
    by_cases e : p.1 = k
    · rw [dropK_pos e]
      exact nd_dropK h2
    · rw [dropK_neg e]
      show (p.1 :: (dropK r k).map (·.1)).Nodup
      refine List.nodup_cons.mpr ⟨fun m => h1 ?_, nd_dropK h2⟩
      obtain ⟨q, hq, eq⟩ := List.mem_map.mp m
      exact List.mem_map.mpr ⟨q, dropK_mem hq, eq⟩
theorem dropK_len : ∀ {kvs : List (κ × V)} {k : κ}, (kvs.map (·.1)).Nodup → k ∈ kvs.map (·.1) → (dropK kvs k).length + 1 = kvs.length
  | [], _, _, m => by simp at m
  | p :: r, k, h, m => by
    have h : (p.1 :: r.map (·.1)).Nodup := h
    have m : k = p.1 ∨ k ∈ r.map (·.1) := List.mem_cons.mp m
    obtain ⟨h1, h2⟩ := List.nodup_cons.mp h
    by_cases e : p.1 = k
    · subst e
      rw [dropK_pos rfl, dropK_no h1]
      all_goals rfl
    · have m' : k ∈ r.map (·.1) := m.resolve_left fun z => e z.symm
      have q := dropK_len h2 m'
      rw [dropK_neg e, List.length_cons, List.length_cons]
      omega
end
theorem at_of {xs : List V} {z : Int} {j : Nat} {v : V} (e : z = (j : Int)) (h : xs[j]? = some v) : atI xs z = some v := by
  rw [e]
  exact atI_nat h
theorem nd_ix {α : Type} {l : List α} (hN : l.Nodup) {i j : Nat} {x : α} (a : l[i]? = some x) (b : l[j]? = some x) : i = j := by
  obtain ⟨h1, e1⟩ := List.getElem?_eq_some_iff.mp a
  obtain ⟨h2, e2⟩ := List.getElem?_eq_some_iff.mp b
  exact (List.getElem_inj hN).mp (e1.trans e2.symm)
theorem sum_set : ∀ {l : List Int} {j : Nat} {z y : Int}, l[j]? = some z → (l.set j y).sum = l.sum - z + y
  | [], j, z, y, h => by simp at h
  | a :: r, 0, z, y, h => by
    have e : a = z := Option.some.inj h
    subst e
    show (y :: r).sum = (a :: r).sum - a + y
    rw [List.sum_cons, List.sum_cons]
    omega
  | a :: r, j + 1, z, y, h => by
    have ih := sum_set (l := r) (j := j) (z := z) (y := y) h
    show (a :: r.set j y).sum = (a :: r).sum - z + y
    rw [List.sum_cons, List.sum_cons, ih]
    omega
theorem Same.made {H H1 : Hp} {x dx C : Addr} (nx : H x = Option.none) (nd : H dx = Option.none) (k : ∀ b o, (upd (upd H dx (.own x)) x (.ins C dx [])) b = some o → b ≠ x → H1 b = some o) : Same H H1 := fun b o e =>
  k b o (by rw [upd_ne (ne_of_none e nx), upd_ne (ne_of_none e nd)]; exact e) (ne_of_none e nx)
end L2
section
set_option Elab.async false
set_option linter.all false
set_option maxRecDepth 100000
set_option maxHeartbeats 4000000
namespace Srt
open PySem PyProof.Rows
section
variable {M : Model} {A : Around} {E : Value → Shared → Prop} {J : Shared → Prop}
def wpJ (M : Model) (A : Around) (E : Value → Shared → Prop) (J : Shared → Prop) {α : Type} (m : StateT SortSt Sem α) (Q : α → SortSt → Prop) (st : SortSt) : Prop :=
  ∀ s, J s → wpAny M A (m.run st) (fun r s' => J s' ∧ Q r.1 r.2) E s
end
structure Cmp (prog : Program) (w : World) (A : Around) (J : Shared → Prop) (kind : SortKind) (S : Keyed → Prop) (blt : Keyed → Keyed → Bool) : Prop where
  asym : ∀ x y, blt x y = true → blt y x = false
  tr : ∀ x y z, blt y x = false → blt z y = false → blt z x = false
  run : ∀ (x y : Keyed) (s : Shared) (E : Value → Shared → Prop), S x → S y → J s → wpAny (model prog w) A (keyLt' kind x.1 y.1) (fun c s' => J s' ∧ c = blt x y) E s
def gt (xs : Array Keyed) (i : Nat) : Keyed := xs.getD i (Value.none, Value.none)
section
variable {prog : Program} {w : World} {A : Around} {E : Value → Shared → Prop} {J : Shared → Prop} {kind : SortKind} {S : Keyed → Prop} {blt : Keyed → Keyed → Bool}
end
def gallop' : Bool → Keyed → Array Keyed → Nat → Nat → Nat → StateT SortSt Sem (Option Nat) := sortPriv% PySem.Builtin.gallop
end Srt
end
section
set_option Elab.async false
set_option linter.all false
set_option maxRecDepth 100000
set_option maxHeartbeats 4000000
namespace Srt
open PySem PyProof.Rows
section
variable {prog : Program} {w : World} {A : Around} {E : Value → Shared → Prop} {J : Shared → Prop} {kind : SortKind} {S : Keyed → Prop} {blt : Keyed → Keyed → Bool}
def bey (blt : Keyed → Keyed → Bool) (left : Bool) (key : Keyed) (arr : Array Keyed) (base i : Nat) : Bool := if left then blt (gt arr (base + i)) key else !(blt key (gt arr (base + i)))
end
end Srt
end
section
set_option Elab.async false
set_option linter.all false
set_option maxRecDepth 100000
set_option maxHeartbeats 4000000
namespace Srt
open PySem PyProof.Rows
def setMinGallop' (g : Nat) : StateT SortSt Sem Unit := modify fun s => SortSt.mk' (kindOf s) (arrOf s) (pendingOf s) g (failedOf s)
def mergeLo' : Array Keyed → Array Keyed → StateT SortSt Sem (Array Keyed) := sortPriv% PySem.Builtin.mergeLo
def mergeHi' : Array Keyed → Array Keyed → StateT SortSt Sem (Array Keyed) := sortPriv% PySem.Builtin.mergeHi
section
variable {blt : Keyed → Keyed → Bool}
def Le (blt : Keyed → Keyed → Bool) (x y : Keyed) : Prop := blt y x = false
structure MI (blt : Keyed → Keyed → Bool) (tot out rA rB : List Keyed) : Prop where
  perm : (out ++ rA ++ rB).Perm tot
  so : out.Pairwise (Le blt)
  sa : rA.Pairwise (Le blt)
  sb : rB.Pairwise (Le blt)
  la : ∀ x ∈ out, ∀ y ∈ rA, Le blt x y
  lb : ∀ x ∈ out, ∀ y ∈ rB, Le blt x y
def Fin2 (blt : Keyed → Keyed → Bool) (tot xs : List Keyed) : Prop := xs.Perm tot ∧ xs.Pairwise (Le blt)
end
end Srt
end
section
set_option Elab.async false
set_option linter.all false
set_option maxRecDepth 100000
set_option maxHeartbeats 4000000
namespace Srt
open PySem PyProof.Rows
def SSeg (blt : Keyed → Keyed → Bool) (xs : Array Keyed) (lo hi : Nat) : Prop := ∀ i j, lo ≤ i → i ≤ j → j < hi → Le blt (gt xs i) (gt xs j)
def SameG (st st' : SortSt) : Prop := kindOf st' = kindOf st ∧ arrOf st' = arrOf st ∧ pendingOf st' = pendingOf st ∧ failedOf st' = failedOf st
theorem SameG.refl (st : SortSt) : SameG st st := ⟨rfl, rfl, rfl, rfl⟩
theorem SameG.set {st st' : SortSt} (h : SameG st st') (g : Nat) : SameG st (SortSt.mk' (kindOf st') (arrOf st') (pendingOf st') g (failedOf st')) := h
section
variable {prog : Program} {w : World} {A : Around} {E : Value → Shared → Prop} {J : Shared → Prop} {kind : SortKind} {S : Keyed → Prop} {blt : Keyed → Keyed → Bool}
end
end Srt
end
section
set_option Elab.async false
set_option linter.all false
set_option maxRecDepth 100000
set_option maxHeartbeats 4000000
namespace Srt
open PySem PyProof.Rows
section
variable {blt : Keyed → Keyed → Bool}
structure MH (blt : Keyed → Keyed → Bool) (tot lA lB R : List Keyed) : Prop where
  perm : (lA ++ lB ++ R).Perm tot
  sr : R.Pairwise (Le blt)
  sa : lA.Pairwise (Le blt)
  sb : lB.Pairwise (Le blt)
  la : ∀ x ∈ lA, ∀ y ∈ R, Le blt x y
  lb : ∀ x ∈ lB, ∀ y ∈ R, Le blt x y
end
section
variable {prog : Program} {w : World} {A : Around} {E : Value → Shared → Prop} {J : Shared → Prop} {kind : SortKind} {S : Keyed → Prop} {blt : Keyed → Keyed → Bool}
end
end Srt
end
section
set_option Elab.async false
set_option linter.all false
set_option maxRecDepth 100000
set_option maxHeartbeats 4000000
namespace Srt
open PySem PyProof.Rows
structure Upd (lo : Nat) (st st' : SortSt) : Prop where
  kd : kindOf st' = kindOf st
  fl : failedOf st' = failedOf st
  pd : pendingOf st' = pendingOf st
  pm : (arrOf st').Perm (arrOf st)
  lw : ∀ i, i < lo → gt (arrOf st') i = gt (arrOf st) i
theorem Upd.refl (lo : Nat) (st : SortSt) : Upd lo st st := ⟨rfl, rfl, rfl, Array.Perm.refl _, fun _ _ => rfl⟩
theorem Upd.trans {lo : Nat} {s1 s2 s3 : SortSt} (a : Upd lo s1 s2) (b : Upd lo s2 s3) : Upd lo s1 s3 := ⟨b.kd.trans a.kd, b.fl.trans a.fl, b.pd.trans a.pd, b.pm.trans a.pm, fun i h => (b.lw i h).trans (a.lw i h)⟩
theorem Upd.size {lo : Nat} {s1 s2 : SortSt} (a : Upd lo s1 s2) : (arrOf s2).size = (arrOf s1).size := a.pm.size_eq
def countRun2 : Nat → Nat → StateT SortSt Sem (Option Nat) := sortPriv% PySem.Builtin.countRun
def NSeg (blt : Keyed → Keyed → Bool) (xs : Array Keyed) (lo hi : Nat) : Prop := ∀ i j, lo ≤ i → i ≤ j → j < hi → Le blt (gt xs j) (gt xs i)
section
variable {prog : Program} {w : World} {A : Around} {E : Value → Shared → Prop} {J : Shared → Prop} {kind : SortKind} {S : Keyed → Prop} {blt : Keyed → Keyed → Bool}
end
end Srt
end
section
set_option Elab.async false
set_option linter.all false
set_option maxRecDepth 100000
set_option maxHeartbeats 4000000
namespace Srt
open PySem PyProof.Rows
section
variable {prog : Program} {w : World} {A : Around} {E : Value → Shared → Prop} {J : Shared → Prop} {kind : SortKind} {S : Keyed → Prop} {blt : Keyed → Keyed → Bool}
def wr (xs : Array Keyed) (sa : Nat) (m : List Keyed) : Array Keyed := m.zipIdx.foldl (fun a (p : Keyed × Nat) => a.setIfInBounds (sa + p.2) p.1) xs
end
end Srt
end
section
set_option Elab.async false
set_option linter.all false
set_option maxRecDepth 100000
set_option maxHeartbeats 4000000
namespace Srt
open PySem PyProof.Rows
section
variable {prog : Program} {w : World} {A : Around} {E : Value → Shared → Prop} {J : Shared → Prop} {kind : SortKind} {S : Keyed → Prop} {blt : Keyed → Keyed → Bool}
end
end Srt
end
section
set_option Elab.async false
set_option linter.all false
set_option maxRecDepth 100000
set_option maxHeartbeats 4000000
namespace Srt
open PySem PyProof.Rows
section
variable {blt : Keyed → Keyed → Bool}
def PR (blt : Keyed → Keyed → Bool) (arr : Array Keyed) : Nat → List (Nat × Nat × Nat) → Nat → Prop
  | s, [], e => s = e
  | s, (a, n, _) :: r, e => a = s ∧ 1 ≤ n ∧ SSeg blt arr a (a + n) ∧ PR blt arr (a + n) r e
theorem PR.le {arr : Array Keyed} : ∀ {p : List (Nat × Nat × Nat)} {s e : Nat}, PR blt arr s p e → s + p.length ≤ e
  | [], s, e, h => by have h : s = e := h; simp; omega
  | (a, n, w) :: r, s, e, h => by
    obtain ⟨h1, h2, h3, h4⟩ := h
    have := PR.le h4
    simp only [List.length_cons]
    omega
theorem PR.congr {arr arr' : Array Keyed} : ∀ {p : List (Nat × Nat × Nat)} {s e : Nat}, PR blt arr s p e → (∀ q, s ≤ q → q < e → gt arr' q = gt arr q) → PR blt arr' s p e
  | [], s, e, h, _ => h
  | (a, n, w) :: r, s, e, h, g => by
    obtain ⟨h1, h2, h3, h4⟩ := h
    have hle := PR.le h4
    refine ⟨h1, h2, fun i j a1 a2 a3 => ?_, PR.congr h4 fun q q1 q2 => g q (by omega) q2⟩
    rw [g i (by omega) (by omega), g j (by omega) (by omega)]
    exact h3 i j a1 a2 a3
theorem PR.append {arr : Array Keyed} : ∀ {p q : List (Nat × Nat × Nat)} {s e : Nat}, PR blt arr s (p ++ q) e → ∃ m, PR blt arr s p m ∧ PR blt arr m q e
  | [], q, s, e, h => ⟨s, rfl, h⟩
  | (a, n, w) :: r, q, s, e, h => by
    obtain ⟨h1, h2, h3, h4⟩ := h
    obtain ⟨m, h5, h6⟩ := PR.append h4
    exact ⟨m, ⟨h1, h2, h3, h5⟩, h6⟩
end
section
variable {prog : Program} {w : World} {A : Around} {E : Value → Shared → Prop} {J : Shared → Prop} {kind : SortKind} {S : Keyed → Prop} {blt : Keyed → Keyed → Bool} {a0 : Array Keyed}
structure SB (blt : Keyed → Keyed → Bool) (kind : SortKind) (a0 : Array Keyed) (lo : Nat) (st : SortSt) : Prop where
  kd : kindOf st = kind
  fl : failedOf st = none
  pm : (arrOf st).Perm a0
  pr : PR blt (arrOf st) 0 (pendingOf st).toList lo
end
end Srt
end
section
set_option Elab.async false
set_option linter.all false
set_option maxRecDepth 100000
set_option maxHeartbeats 4000000
namespace Pg
open PySem PySem.Spec PyProof.Rows L2
section
variable {X : Cx}
def rInsert0 : V → List V → Hp → VK → Prop := fun x vs H Q => ∃ l xs y, x = .ref l ∧ vs = [.int 0, y] ∧ H l = some (.lst xs) ∧ xs.length < sizeLine ∧ Q .non (upd H l (.lst (y :: xs)))
theorem mt_insert0 : MtM X "list.insert" rInsert0 := by
  intro pins s σ H x vs v us Q I rx rv h
  obtain ⟨l, xs, y, rfl, rfl, hH, hz, q⟩ := h
  cases rx
  obtain ⟨u0, u, rfl, ru0, ru⟩ := rv.two
  obtain ⟨t, rfl⟩ := ru0
  obtain ⟨z, its, n, r, hl, e⟩ := I.lstM hH
  refine call_meets F.slot_list_insert ⟨_, e, rfl⟩ F.entry_list_insert (F.args_list_insert_3 _ _ _) (PySem.AutoSeq1.list_insert_list_int_val_1 l its.toArray n 0 t u (by decide) (by rw [List.size_toArray]; omega)) ⟨e, ?_⟩
  refine ⟨.non, _, I.lset (its' := u :: its) hH e ?_ (.cons ru r) ?_, rfl, q⟩
  · show (its.toArray.extract 0 (if (0 : Int) < 0 then ((0 : Int) + (its.toArray.size : Int)).toNat else min (0 : Int).toNat its.toArray.size)).push u ++ its.toArray.extract (if (0 : Int) < 0 then ((0 : Int) + (its.toArray.size : Int)).toNat else min (0 : Int).toNat its.toArray.size) = (u :: its).toArray
    simp
  · show xs.length + 1 ≤ sizeLine
    omega
def rSetOf (K : PySem.W.Frag) : List V → Hp → VK → Prop := fun vs H Q => ∃ (a : Addr) (ns : List Int), vs = [V.ref a] ∧ SqL K H a (ns.map V.int) ∧ ns.length + 1 < scanBound ∧
  ∀ (p : Addr) (us : List Int), H p = none → us.Nodup → (∀ k, k ∈ us ↔ k ∈ ns) → Q (.ref p) (upd H p (.set (fun k => us.any (· == k)) us.length))
theorem ints_of : ∀ {ns : List Int} {us : List Value}, Vals (ns.map V.int) us → IntsAre us ns
  | [], _, .nil => .nil
  | n :: ns, _, .cons r t => by
    obtain ⟨k, rfl⟩ := r
    exact .cons n k (ints_of t)
theorem firstMet_nodup (val : Nat → Int) : ∀ i, (firstMet val i).Nodup
  | 0 => by rw [firstMet_zero]; exact List.nodup_nil
  | i + 1 => by
    rw [firstMet_succ]
    unfold step_dedup
    have ih := firstMet_nodup val i
    split
    · exact ih
    · rename_i h
      refine nd_snoc ih fun m => ?_
      apply h
      first
        | exact List.any_eq_true.mpr ⟨_, m, by simp⟩
        | simpa using m
theorem firstMet_mem (ns : List Int) (k : Int) : k ∈ firstMet (fun i => ns.getD i 0) ns.length ↔ k ∈ ns := by
  have h := firstMet_any (fun i => ns.getD i 0) ns.length k
  have e : (List.range ns.length).map (fun i => ns.getD i 0) = ns := by
    apply List.ext_getElem
    · simp
    · intro i h1 h2
      simp at h1
      simp [h1]
  rw [e] at h
  constructor
  · intro m
    have : (firstMet (fun i => ns.getD i 0) ns.length).any (· == k) = true := List.any_eq_true.mpr ⟨k, m, by simp⟩
    rw [h] at this
    obtain ⟨x, hx, ex⟩ := List.any_eq_true.mp this
    simp at ex; subst ex; exact hx
  · intro m
    have : ns.any (· == k) = true := List.any_eq_true.mpr ⟨k, m, by simp⟩
    rw [← h] at this
    obtain ⟨x, hx, ex⟩ := List.any_eq_true.mp this
    simp at ex; subst ex; exact hx
theorem call_setOf (hh : X.A.handled = none) : CallR X (.type "set") (rSetOf X.K) := by
  intro pins s σ H xs us Q I r h
  obtain ⟨a, ns, rfl, hS, hb, q⟩ := h
  obtain ⟨u, rfl, ru⟩ := vals1 r
  cases ru
  obtain ⟨its, rv, pl, hz⟩ := I.list hS
  have hi := ints_of rv
  have hlen : its.length = ns.length := hi.length
  obtain ⟨o, n, ho, hc, hd, hda⟩ := pl
  have hl : s.heap.IsList a its.toArray := by
    first
      | exact ⟨o, ho, hc, n, hda⟩
      | exact ⟨o, n, ho, hc, hda⟩
      | exact ⟨o, ho, hc, hd, n, hda⟩
  refine call_set_list (ns := ns) hh hl (by simpa using hi) (by rw [List.size_toArray, hlen]; exact hb) fun h' tk hS' hk => ?_
  have hsz : its.toArray.size = ns.length := by rw [List.size_toArray, hlen]
  rw [hsz] at hS'
  refine ⟨.ref s.heap.objs.size, _, I.laid (t' := tk) (fun b u e => hk b u (Heap.lt_size e) e) (Nat.le_refl _) ?_, rfl, q s.heap.objs.size (firstMet (fun i => ns.getD i 0) ns.length) (I.hok.fresh (Nat.le_refl _)) (firstMet_nodup _ _) (firstMet_mem ns)⟩
  exact hS'
theorem call_lenS : CallR X (.builtin "len") (fun xs H Q => ∃ a S n, xs = [V.ref a] ∧ H a = some (.set S n) ∧ Q (.int n) H) := by
  intro pins s σ H xs us Q I r h
  obtain ⟨a, S, n, rfl, ha, q⟩ := h
  obtain ⟨u, rfl, ru⟩ := vals1 r
  cases ru
  obtain ⟨o, es, ep, t, ho, hex, hd, _, _, hb, hf, hn⟩ := (show s.heap.SetOf (intKind X.prog X.w) a S n from I.hok a _ ha)
  subst hn
  refine call_len_set ho hex hd hf (by have : scanBound ≤ 2 ^ 40 := by decide
                                       omega) ⟨.int es.size, H, I.tok _, ⟨_, rfl⟩, q⟩
def rIsi (K : PySem.W.Frag) : List V → Hp → VK → Prop := fun vs H Q => ∃ x t c b, vs = [x, .ty c] ∧ TyOf K H x t ∧ PySem.W.kitOne K t (.type c) = some b ∧ Q (.bl b) H
def rIsiT (K : PySem.W.Frag) : List V → Hp → VK → Prop := fun vs H Q => ∃ (x : V) (t : Value) (tp : Addr) (cs : List String) (b : Bool), vs = [x, .ref tp] ∧ TyOf K H x t ∧ H tp = some (.tup (cs.map V.ty)) ∧ PySem.W.kitAny K t (cs.map Value.type) = some b ∧ Q (.bl b) H
def tCut (t u : TS) : TS := fun D σ H => ∃ M : L2.St → Hp → Prop, t { D with nx := M } σ H ∧ ∀ σ' H', M σ' H' → u D σ' H'
theorem pss_cut {st : Stmt} {rest : List Stmt} {t u : TS} (h1 : PS X st t) (h2 : PSs X rest u) : PSs X (st :: rest) (tCut t u) := by
  intro pins s σ H D I h
  obtain ⟨M, h, hM⟩ := h
  refine wpAny_execs_cons (thn (h1 pins s σ H { D with nx := M } I h) fun f s1 q => ?_)
  cases f with
  | next =>
    obtain ⟨σ', H', I', q⟩ := q
    exact h2 pins s1 σ' H' D I' (hM σ' H' q)
  | ret v => exact q
  | brk => exact q
  | cont => exact q
end
section
variable {K : PySem.W.Frag}
example : PySem.W.kitOne K (.type "list") (.type "tuple") = some false := by first | decide +kernel | kernel_rfl
example : PySem.W.kitAny K (.type "int") [.type "list", .type "tuple"] = some false := by first | decide +kernel | kernel_rfl
end
end Pg
end
section
set_option Elab.async false
set_option linter.all false
set_option maxRecDepth 100000
set_option maxHeartbeats 4000000
namespace Pg
open PySem PySem.Spec PyProof.Rows L2
section
variable {σ : L2.St} {H : Hp} {Q : VK} {D : Ends}
theorem rd_var {i : Nat} {v : V} (h : σ[i]? = some (some v)) (q : Q v H) : tVar i σ H Q := ⟨v, h, q⟩
theorem rd_c {v : V} (q : Q v H) : tC v σ H Q := q
theorem rd_next (q : D.nx σ H) : tNext D σ H := q
theorem rd_seq {t u : TS} (q : t { D with nx := u D } σ H) : tSeq t u D σ H := q
theorem rd_drop {te : TE} (q : te σ H fun _ H1 => D.nx σ H1) : tDrop te D σ H := q
theorem rd_ret {te : TE} (q : te σ H D.rt) : tRet te D σ H := q
theorem rd_retN (q : D.rt .non H) : tRetN D σ H := q
theorem rd_ifs {c : TT} {t u : TS} (q : c σ H fun b H1 => if b = true then t D σ H1 else u D σ H1) : tIfS c t u D σ H := q
theorem rd_asg {te : TE} {g : TG} (q : te σ H fun x H1 => g x σ H1 D.nx) : tAsg te g D σ H := q
theorem rd_gname {i : Nat} {v : V} {R : L2.St → Hp → Prop} (q : R (σ.set i (some v)) H) : gName i v σ H R := q
theorem rd_gsub {to ti : TE} {t : TSet} {v : V} {R : L2.St → Hp → Prop} (q : to σ H fun o H1 => ti σ H1 fun i H2 => t o i v H2 fun H3 => R σ H3) : gSub to ti t v σ H R := q
theorem rd_op {r : R2} {ta tb : TE} (q : ta σ H fun x H1 => tb σ H1 fun y H2 => r x y H2 Q) : tOp r ta tb σ H Q := q
theorem rd_un {r : V → Hp → VK → Prop} {ta : TE} (q : ta σ H fun x H1 => r x H1 Q) : tUn r ta σ H Q := q
theorem rd_i0 {g : Int → Int → V} {i j : Int} (q : Q (g i j) H) : rI0 g (.int i) (.int j) H Q := ⟨i, j, rfl, rfl, q⟩
theorem rd_i {C : Int → Int → Prop} {g : Int → Int → V} {i j : Int} (c : C i j) (q : Q (g i j) H) : rI C g (.int i) (.int j) H Q := ⟨i, j, rfl, rfl, c, q⟩
theorem rd_test {t : TE} {R : Bool → Hp → Prop} (q : t σ H fun x H' => ∃ k, x = .bl k ∧ R k H') : tTest t σ H R := q
theorem rd_tb {t : TE} {R : Bool → Hp → Prop} (q : t σ H fun x H' => ∃ k, x = .bl k ∧ R k H') : tB t σ H R := q
theorem rd_bl {b : Bool} {R : Bool → Hp → Prop} (q : R b H) : ∃ k, V.bl b = .bl k ∧ R k H := ⟨b, rfl, q⟩
theorem rd_and {t u : TT} {R : Bool → Hp → Prop} (q : t σ H fun c H1 => if c = true then u σ H1 R else R false H1) : tAnd t u σ H R := q
theorem rd_or {t u : TT} {R : Bool → Hp → Prop} (q : t σ H fun c H1 => if c = true then R true H1 else u σ H1 R) : tOr t u σ H R := q
theorem rd_not {t : TT} {R : Bool → Hp → Prop} (q : t σ H fun c H1 => R (!c) H1) : tNot t σ H R := q
theorem rd_if {t : TT} {ta tb : TE} (q : t σ H fun c H1 => if c = true then ta σ H1 Q else tb σ H1 Q) : tIf t ta tb σ H Q := q
theorem rd_nil {R : List V → Hp → Prop} (q : R [] H) : tNil σ H R := q
theorem rd_cons {ta : TE} {tr : TA} {R : List V → Hp → Prop} (q : ta σ H fun x H1 => tr σ H1 fun xs H2 => R (x :: xs) H2) : tCons ta tr σ H R := q
theorem rd_cb {r : List V → Hp → VK → Prop} {t : TA} (q : t σ H fun vs H1 => r vs H1 Q) : tCB r t σ H Q := q
theorem rd_tup {t : TA} (q : t σ H fun xs H1 => xs.length ≤ sizeLine ∧ ∀ p, H1 p = none → Q (.ref p) (upd H1 p (.tup xs))) : tTup t σ H Q := q
theorem rd_lst {t : TA} (q : t σ H fun xs H1 => xs.length ≤ sizeLine ∧ ∀ p, H1 p = none → Q (.ref p) (upd H1 p (.lst xs))) : tLst t σ H Q := q
theorem rd_call {sp : Sp} {dvs : List V} {E : XK} {t : TA} (q : t σ H fun vs H1 => sp (vs ++ dvs) H1 Q E) : tCall sp dvs E t σ H Q := q
theorem rd_callK {sp : Sp} {gV : List V → List V → List V} {E : XK} {t tk : TA} (q : t σ H fun vs H1 => tk σ H1 fun zs H2 => sp (gV vs zs) H2 Q E) : tCallK sp gV E t tk σ H Q := q
theorem rd_make {C : Addr} {sp : Sp} {dvs : List V} {E : XK} {t : TA} (q : t σ H fun vs H1 => ∀ x dx, H1 x = none → H1 dx = none → dx ≠ x → sp (.ref x :: (vs ++ dvs)) (upd (upd H1 dx (.own x)) x (.ins C dx [])) (fun v H2 => v = .non ∧ Q (.ref x) H2) E) : tMake C sp dvs E t σ H Q := q
theorem rd_bm {K : PySem.W.Frag} {T : String} {r : V → List V → Hp → VK → Prop} {to : TE} {t : TA} (q : to σ H fun x H1 => tyV K T x H1 ∧ t σ H1 fun xs H2 => r x xs H2 Q) : tBM K T r to t σ H Q := q
theorem rd_bm0 {K : PySem.W.Frag} {T : String} {r : V → List V → Hp → VK → Prop} {to : TE} (q : to σ H fun x H1 => tyV K T x H1 ∧ r x [] H1 Q) : tBM0 K T r to σ H Q := q
theorem rd_eq {x y : V} (h : scal x y = true) (q : Q (.bl (decide (x = y))) H) : rEq x y H Q := ⟨h, q⟩
theorem rd_ne {x y : V} (h : scal x y = true) (q : Q (.bl (!decide (x = y))) H) : rNe x y H Q := ⟨h, q⟩
theorem rd_andV {ta tb : TE} (q : ta σ H fun x H1 => ∃ c, x = .bl c ∧ if c = true then tb σ H1 Q else Q (.bl false) H1) : tAndV ta tb σ H Q := q
theorem rd_orV {ta tb : TE} (q : ta σ H fun x H1 => ∃ c, x = .bl c ∧ if c = true then Q (.bl true) H1 else tb σ H1 Q) : tOrV ta tb σ H Q := q
theorem rd_exc {b : Bool} {R : Bool → Prop} (q : R b) : ∃ k, V.bl b = .bl k ∧ R k := ⟨b, rfl, q⟩
theorem rd_ixl {K : PySem.W.Frag} {p : Addr} {xs : List V} {i : Int} {v : V} (h : SqL K H p xs) (e : atI xs i = some v) (q : Q v H) : rIxL K (.ref p) (.int i) H Q := ⟨p, xs, i, v, rfl, rfl, h, e, q⟩
theorem rd_setl {p : Addr} {xs : List V} {k : Int} {j : Nat} {v : V} {R : Hp → Prop} (h : H p = some (.lst xs)) (e : ixN xs.length k = some j) (q : R (upd H p (.lst (xs.set j v)))) : rSetL (.ref p) (.int k) v H R := ⟨p, xs, k, j, rfl, rfl, h, e, q⟩
theorem iteD {p A B : Prop} [Decidable p] (h1 : p → A) (h2 : ¬ p → B) : if decide p = true then A else B := by
  by_cases h : p
  · rw [decide_eq_true h]; exact iteT (h1 h)
  · rw [decide_eq_false h]; exact iteF (h2 h)
theorem iteDn {p A B : Prop} [Decidable p] (h1 : ¬ p → A) (h2 : p → B) : if (!decide p) = true then A else B := by
  by_cases h : p
  · rw [decide_eq_true h]; exact iteF (h2 h)
  · rw [decide_eq_false h]; exact iteT (h1 h)
theorem same_new {p : Addr} {o : HO} (h : H p = none) : Same H (upd H p o) := fun b u e => by rw [upd_ne (ne_of_none e h)]; exact e
end
def Kp (S : List Addr) (H H' : Hp) : Prop := ∀ b o, H b = some o → b ∉ S → H' b = some o
theorem Kp.refl {S H} : Kp S H H := fun _ _ h _ => h
theorem Kp.trans {S H H1 H2} (a : Kp S H H1) (b : Kp S H1 H2) : Kp S H H2 := fun c o h n => b c o (a c o h n) n
theorem Kp.new {S H H'} {p : Addr} {o : HO} (a : Kp S H H') (h : H' p = none) : Kp S H (upd H' p o) := fun c u e n => by
  have q := a c u e n
  rw [upd_ne (ne_of_none q h)]; exact q
theorem Kp.put {S H H'} {p : Addr} {o : HO} (a : Kp S H H') (h : p ∈ S) : Kp S H (upd H' p o) := fun c u e n => by
  have hn : c ≠ p := by rintro rfl; exact n h
  rw [upd_ne hn]; exact a c u e n
theorem Kp.own {S H H'} {p : Addr} {o : HO} (a : Kp S H H') (h : H p = none) : Kp S H (upd H' p o) := fun c u e n => by
  rw [upd_ne (ne_of_none e h)]; exact a c u e n
theorem Kp.mono {S S' H H'} (a : Kp S H H') (h : ∀ x ∈ S, x ∈ S') : Kp S' H H' := fun c o e n => a c o e fun m => n (h c m)
theorem Kp.of_same {S H H'} (a : Same H H') : Kp S H H' := fun c o e _ => a c o e
theorem Kp.same {H H'} (a : Kp [] H H') : Same H H' := fun c o e => a c o e (by simp)
end Pg
namespace Pg
open PySem PySem.Spec PyProof.Rows L2
theorem rd_u {H : Hp} {Q : VK} {g : Int → V} {i : Int} (q : Q (g i) H) : rU g (.int i) H Q := ⟨i, rfl, q⟩
end Pg
namespace Pg
open PySem PySem.Spec PyProof.Rows L2
section
variable {σ : L2.St} {H : Hp} {D : Ends}
theorem rd_for {wi : TI} {g : TG} {tb : TS} (q : wi σ H fun J H1 => ∃ W : Nat → Nat → L2.St → Hp → Prop, (∃ m, W 0 m σ H1) ∧ ∀ i m σ H, W i m σ H →
  (J.stop i H ∧ D.nx σ H) ∨ (J.go i H ∧ ∃ N : L2.St → Hp → Prop, (∀ σ' H', N σ' H' → ∃ m', m' < m ∧ W (i + 1) m' σ' H') ∧ ∀ x H', J.yld i H x H' → g x σ H' fun σ2 H2 => tb { D with nx := N, ct := N, bk := D.nx } σ2 H2)) : tFor wi g tb D σ H := q
theorem rd_rng1 {ta : TA} {R : It → Hp → Prop} (q : ta σ H fun vs H1 => ∃ j : Int, vs = [.int j] ∧ -(2 ^ 62) ≤ j ∧ j < 2 ^ 62 ∧ R (Itr 0 j.toNat) H1) : iRng1 ta σ H R := q
theorem rd_rng2 {ta : TA} {R : It → Hp → Prop} (q : ta σ H fun vs H1 => ∃ i j : Int, vs = [.int i, .int j] ∧ (-(2 ^ 62) ≤ i ∧ i < 2 ^ 62 ∧ -(2 ^ 62) ≤ j ∧ j < 2 ^ 62) ∧ R (Itr i (j - i).toNat) H1) : iRng2 ta σ H R := q
theorem rd_ilist {K : PySem.W.Frag} {tl : TE} {R : It → Hp → Prop} (q : tl σ H fun x H1 => ∃ a, x = .ref a ∧ (∃ xs, SqL K H1 a xs) ∧ R (Itl K a) H1) : iList K tl σ H R := q
theorem rd_ienum {K : PySem.W.Frag} {ta : TA} {R : It → Hp → Prop} (q : ta σ H fun vs H1 => ∃ a xs, vs = [.ref a] ∧ SqL K H1 a xs ∧ R (Ite K a) H1) : iEnum K ta σ H R := q
theorem rd_fld {Q : VK} {K : PySem.W.Frag} {ta : TE} {f : Str} (q : ta σ H fun x H1 => ∃ a C dx fs v, x = .ref a ∧ H1 a = some (.ins C dx fs) ∧ Cls K C ∧ NoAttr K C f ∧ fs.lookup f = some v ∧ Q v H1) : tFld K ta f σ H Q := q
theorem rd_tlc {Q : VK} {wi : TI} {g : TG} {tt : TT} {te : TE} {vs : List Nat} (q : wi σ H fun J H1 => ∀ D, H1 D = none → ∃ W : Nat → Nat → Hp → Prop, (∃ m, W 0 m (upd H1 D (.lst []))) ∧ ∀ i m H, W i m H →
  (J.stop i H ∧ Q (.ref D) H) ∨ (J.go i H ∧ ∃ Nx : Hp → Prop, (∀ H', Nx H' → ∃ m', m' < m ∧ W (i + 1) m' H') ∧ ∀ x H', J.yld i H x H' → g x (wipe σ vs) H' fun σ2 H2 => wipe σ2 vs = wipe σ vs ∧ tt σ2 H2 fun b H3 =>
    if b = true then te σ2 H3 fun y H4 => ∃ acc, H4 D = some (.lst acc) ∧ acc.length < sizeLine ∧ Nx (upd H4 D (.lst (acc ++ [y]))) else Nx H3)) : tLc wi g tt te vs σ H Q := q
end
end Pg
namespace Pg
open PySem PySem.Spec PyProof.Rows L2
theorem iteNT {A B : Prop} (h : B) : if (!true) = true then A else B := iteF h
theorem iteNF {A B : Prop} (h : A) : if (!false) = true then A else B := iteT h
end Pg
namespace Pg
open PySem PySem.Spec PyProof.Rows L2
theorem rd_yes {σ : L2.St} {H : Hp} {R : Bool → Hp → Prop} (q : R true H) : tYes σ H R := q
end Pg
namespace Pg
open PySem PySem.Spec PyProof.Rows L2
section
variable {σ : L2.St} {H : Hp} {D : Ends} {Q : VK} {K : PySem.W.Frag}
theorem rd_sfld {ta tv : TE} {f : Str} (q : tv σ H fun y H1 => ta σ H1 fun x H2 => ∃ a C dx fs, x = .ref a ∧ H2 a = some (.ins C dx fs) ∧ Cls K C ∧ NoAttr K C f ∧ fs.length < 1000 ∧ D.nx σ (upd H2 a (.ins C dx (putF f y fs)))) : sFld K ta tv f D σ H := q
theorem rd_meth {C : Addr} {m : Str} {sp : Sp} {dvs : List V} {E : XK} {ta : TE} {t : TA} (q : ta σ H fun x H1 => ∃ a dx fs, x = .ref a ∧ H1 a = some (.ins C dx fs) ∧ fs.lookup m = none ∧ t σ H1 fun vs H2 => sp (x :: (vs ++ dvs)) H2 Q E) : tMeth C m sp dvs E ta t σ H Q := q
theorem rd_dget {td ty : TE} (q : td σ H fun x H1 => ty σ H1 fun y H2 => ∃ a v, x = .ref a ∧ DGet H2 a y (some v) ∧ Q v H2) : tDGet td ty σ H Q := q
theorem rd_din {td ty : TE} (q : ty σ H fun y H1 => td σ H1 fun x H2 => ∃ a o, x = .ref a ∧ DGet H2 a y o ∧ Q (.bl o.isSome) H2) : tDIn ty td σ H Q := q
theorem rd_dput {td ty tv : TE} (q : tv σ H fun v H1 => td σ H1 fun x H2 => ty σ H2 fun y H3 => ∃ a H4, x = .ref a ∧ DPut H3 a y v H4 ∧ D.nx σ H4) : sDPut td ty tv D σ H := q
theorem rd_dnewK (q : ∀ p, H p = none → Q (.ref p) (upd H p (.dK []))) : tDNewK σ H Q := q
end
end Pg
namespace Pg
open PySem PySem.Spec PyProof.Rows L2
theorem rd_ddel {σ : L2.St} {H : Hp} {D : Ends} {td ty : TE} (q : td σ H fun x H1 => ty σ H1 fun y H2 => ∃ a kvs k, x = .ref a ∧ H2 a = some (.dK kvs) ∧ y = kV k ∧ (valV kvs k).isSome = true ∧ D.nx σ (upd H2 a (.dK (dropK kvs k)))) : sDDel td ty D σ H := q
end Pg
end
section
set_option Elab.async false
set_option linter.all false
set_option maxRecDepth 100000
set_option maxHeartbeats 4000000
namespace Srt
open PySem PyProof.Rows
section
variable {prog : Program} {w : World} {A : Around} {E : Value → Shared → Prop} {s : Shared} {kind : SortKind} {S : Keyed → Prop} {blt : Keyed → Keyed → Bool}
end
def bltI (x y : Keyed) : Bool := decide (numOf x.1 < numOf y.1)
def lexlt (x y : Int × Int) : Bool := decide (x.1 < y.1) || (decide (x.1 = y.1) && decide (x.2 < y.2))
def addrOf : Value → Addr
  | .ref a => a
  | _ => 0
def bltP (f : Addr → Int × Int) (x y : Keyed) : Bool := lexlt (f (addrOf x.1)) (f (addrOf y.1))
def PairAt (h : Heap) (a : Addr) (x y : Int) : Prop := ∃ o n t u, h.get? a = some o ∧ o.cls = .type "tuple" ∧ o.data = .seq #[.int x t, .int y u] n
end Srt
namespace Pg
open PySem PySem.Spec PyProof.Rows L2
section
variable {X : Cx}
def rSortedI (K : PySem.W.Frag) : List V → Hp → VK → Prop := fun vs H Q => ∃ (a : Addr) (ns : List Int), vs = [V.ref a] ∧ SqL K H a (ns.map V.int) ∧
  ∀ (ns' : List Int) (p : Addr), ns'.Perm ns → ns'.Pairwise (· ≤ ·) → H p = none → Q (.ref p) (upd H p (.lst (ns'.map V.int)))
def rSortedP (K : PySem.W.Frag) : List V → Hp → VK → Prop := fun vs H Q => ∃ (a : Addr) (ts : List Addr) (f : Addr → Int × Int), vs = [V.ref a] ∧ SqL K H a (ts.map V.ref) ∧ (∀ t ∈ ts, H t = some (.tup [.int (f t).1, .int (f t).2])) ∧
  ∀ (ts' : List Addr) (p : Addr), ts'.Perm ts → ts'.Pairwise (fun a b => Srt.lexlt (f b) (f a) = false) → H p = none → Q (.ref p) (upd H p (.lst (ts'.map V.ref)))
theorem keys_vals {prog : Program} {w : World} : ∀ {kvs : List (Key × V)} {vs : List (Key × Value)} {us : List Value}, KV kvs vs → us.length = vs.length → (∀ (j : Nat) (v : Value), us[j]? = some v → ∃ k x, vs[j]? = some (k, x) ∧ (mixKind prog w).is k v = true) → Vals (kvs.map (fun kv => kV kv.1)) us
  | _, _, [], .nil, _, _ => .nil
  | _, _, _ :: _, .nil, h, _ => by simp at h
  | _, _, [], .cons _ _, h, _ => by simp at h
  | _, _, u :: us, .cons (a := p) (b := q) r t, h, g => by
    obtain ⟨k, x, e, hk⟩ := g 0 u rfl
    have e : q = (k, x) := Option.some.inj e
    subst e
    refine .cons ?_ (keys_vals t (by simpa using h) fun j v hv => by
      obtain ⟨k, x, e1, e2⟩ := g (j + 1) v (by simpa using hv)
      exact ⟨k, x, by simpa using e1, e2⟩)
    have e1 : p.1 = k := r.1
    show RelV (kV p.1) u
    rw [e1]
    rcases keyIs_shape (show keyIs k u = true from hk) with ⟨i, t, rfl, rfl⟩ | ⟨y, t, rfl, rfl⟩
    · exact ⟨t, rfl⟩
    · exact ⟨t, rfl⟩
theorem call_listD (hh : X.A.handled = none) : CallR X (.type "list") (fun xs H Q => ∃ a kvs, xs = [V.ref a] ∧ H a = some (.dK kvs) ∧ ∀ l, H l = none → Q (.ref l) (upd H l (.lst (kvs.map (fun kv => kV kv.1))))) := by
  intro pins s σ H xs us Q I r h
  obtain ⟨a, kvs, rfl, ha, q⟩ := h
  obtain ⟨u, rfl, ru⟩ := vals1 r
  cases ru
  obtain ⟨hz, hsm, vs, rkv, ⟨o, es, ep, ho, hex, hd, hk, hpr, hnd⟩⟩ := (show ObjOk X.prog X.w H s.heap a (.dK kvs) from I.hok a _ ha)
  have hlen : vs.length = kvs.length := (PySem.Paired.length rkv).symm
  refine PySem.W.kdl_call (PySem.W.kdl_dict (knd := mixKind X.prog X.w) (kvs := vs) (ep := ep) hsm) hh ⟨o, es, ho, hex, hd, hk, hpr, hnd⟩ (by rw [hlen]; exact hz) fun h' tk acc c' keep hat hit => ?_
  refine ⟨.ref s.heap.objs.size, _, I.laid (t' := tk) (o := .lst (kvs.map (fun kv => kV kv.1))) keep (Nat.le_refl _) ⟨by rw [List.length_map]; exact hz, acc.toList, c', ?_, ?_⟩, rfl, q s.heap.objs.size (I.hok.fresh (Nat.le_refl _))⟩
  · refine keys_vals (prog := X.prog) (w := X.w) rkv ?_ ?_
    · rw [Array.length_toList, hit.1]
    · intro j v hv
      obtain ⟨k, x, e1, e2⟩ := hit.2 j v (by rw [← Array.getElem?_toList]; exact hv)
      exact ⟨k, x, e1, e2⟩
  · simpa using hat
end
end Pg
end
section
set_option Elab.async false
set_option linter.all false
set_option maxRecDepth 100000
set_option maxHeartbeats 4000000
namespace Srt
open PySem PyProof.Rows
section
variable {prog : Program} {w : World} {A : Around} {E : Value → Shared → Prop} {s : Shared} {kind : SortKind} {S : Keyed → Prop} {blt : Keyed → Keyed → Bool}
end
end Srt
end
section
set_option Elab.async false
set_option linter.all false
set_option maxRecDepth 100000
set_option maxHeartbeats 4000000
namespace Pg
open PySem PySem.Spec PyProof.Rows L2
theorem while_W {c : TT} {tb : TS} {D : Ends} {σ : L2.St} {H : Hp} (Pv : L2.St → Hp → Prop) (mu : L2.St → Hp → Nat) (h0 : Pv σ H)
    (hs : ∀ σ H, Pv σ H → c σ H fun b H1 => if b = true then ∃ N : L2.St → Hp → Prop, (∀ σ' H', N σ' H' → ∃ m', m' < mu σ H ∧ m' = mu σ' H' ∧ Pv σ' H') ∧ tb { D with nx := N, ct := N, bk := D.nx } σ H1 else D.nx σ H1) : tWhile c tb D σ H :=
  ⟨fun m σ H => m = mu σ H ∧ Pv σ H, ⟨_, rfl, h0⟩, fun m σ H ⟨e, p⟩ => by subst e; exact hs σ H p⟩
theorem dpAll_ints {K : PySem.W.Frag} {H : Hp} : ∀ ns : List Int, DpAll K H (ns.map V.int) (ns.map PyData.int)
  | [] => .nil
  | n :: ns => .cons (.int n) (dpAll_ints ns)
theorem dp_ints {K : PySem.W.Frag} {H : Hp} {p : Addr} {ns : List Int} (h : H p = some (.lst (ns.map V.int))) : Dp K H (.ref p) (.list (ns.map PyData.int)) := .lst (SqL.of h) (dpAll_ints ns)
theorem shaped_ints : ∀ ns : List Int, SeqAt.shaped (.list (ns.map PyData.int)) = true := by
  intro ns
  have h1 : ∀ ns : List Int, PyData.canLayAll0 (ns.map PyData.int) = true := by
    intro ns
    induction ns with
    | nil => simp [PyData.canLayAll0]
    | cons n ns ih => simp [PyData.canLayAll0, PyData.canLay0, ih]
  have h2 : ∀ ns : List Int, PyData.depthAll (ns.map PyData.int) ≤ 1 := by
    intro ns
    induction ns with
    | nil => simp [PyData.depthAll]
    | cons n ns ih => simp [PyData.depthAll, PyData.depth]; omega
  unfold SeqAt.shaped
  rw [Bool.and_eq_true]
  refine ⟨by simp [PyData.canLay0, h1], decide_eq_true ?_⟩
  have := h2 ns
  simp only [PyData.depth]
  omega
theorem eqv_ints : ∀ ns ms : List Int, PyData.eqv (.list (ns.map PyData.int)) (.list (ms.map PyData.int)) = decide (ns = ms) := by
  intro ns
  induction ns with
  | nil => intro ms; cases ms <;> simp [PyData.eqv, PyData.eqvAll]
  | cons n ns ih =>
    intro ms
    cases ms with
    | nil => simp [PyData.eqv, PyData.eqvAll]
    | cons m ms =>
      have := ih ms
      simp only [PyData.eqv] at this
      simp only [List.map_cons, PyData.eqv, PyData.eqvAll, this]
      by_cases h1 : n = m <;> by_cases h2 : ns = ms <;> simp [h1, h2]
theorem rd_neI {K : PySem.W.Frag} {H : Hp} {p q : Addr} {ns ms : List Int} {Q : VK} (h : H p = some (.lst (ns.map V.int))) (h' : H q = some (.lst (ms.map V.int))) (k : Q (.bl (!decide (ns = ms))) H) : rNeD K (.ref p) (.ref q) H Q :=
  ⟨_, _, dp_ints h, dp_ints h', shaped_ints _, shaped_ints _, by rw [eqv_ints]; exact k⟩
theorem rd_neNil {K : PySem.W.Frag} {H : Hp} {p q : Addr} {ns : List Int} {Q : VK} (h : H p = some (.lst (ns.map V.int))) (h' : H q = some (.lst [])) (k : Q (.bl (!decide (ns = []))) H) : rNeD K (.ref p) (.ref q) H Q :=
  rd_neI (ms := []) h h' k
theorem ne_ri {g dk : Addr} {H : Hp} {x y : V} {ns : List Int} (h : H dk = some (.lst [.ref g, x, y])) (h' : H g = some (.lst (ns.map V.int))) : dk ≠ g :=
  ne_of h h' (by
    intro z
    cases ns with
    | nil => cases z
    | cons n ns => simp at z)
def DeckAt (H : Hp) (dk g : Addr) (c : Int) : Prop := ∃ (ns : List Int) (fold cnt : Int), H dk = some (.lst [.ref g, .int fold, .int cnt]) ∧ H g = some (.lst (ns.map V.int)) ∧ 0 ≤ fold ∧ fold < 2305843009213693951 ∧ 0 ≤ cnt ∧ cnt ≤ c
theorem DeckAt.mono {H dk g c c'} (h : DeckAt H dk g c) (l : c ≤ c') : DeckAt H dk g c' := by
  obtain ⟨ns, fold, cnt, h1, h2, h3, h4, h5, h6⟩ := h
  exact ⟨ns, fold, cnt, h1, h2, h3, h4, h5, Int.le_trans h6 l⟩
theorem DeckAt.keep {H H' dk g c} (h : DeckAt H dk g c) (k : Same H H') : DeckAt H' dk g c := by
  obtain ⟨ns, fold, cnt, h1, h2, h3⟩ := h
  exact ⟨ns, fold, cnt, k _ _ h1, k _ _ h2, h3⟩
theorem DeckAt.dk {H dk g c} (h : DeckAt H dk g c) : ∃ o, H dk = some o := by obtain ⟨ns, fold, cnt, h1, _⟩ := h; exact ⟨_, h1⟩
theorem DeckAt.gr {H dk g c} (h : DeckAt H dk g c) : ∃ o, H g = some o := by obtain ⟨ns, fold, cnt, _, h1, _⟩ := h; exact ⟨_, h1⟩
theorem DeckAt.off {H dk g c} {p : Addr} (h : DeckAt H dk g c) (hp : H p = none) : p ∉ [dk, g] := by
  obtain ⟨o, e⟩ := h.dk
  obtain ⟨o', e'⟩ := h.gr
  simp only [List.mem_cons, List.not_mem_nil, or_false, not_or]
  exact ⟨(ne_of_none e hp).symm, (ne_of_none e' hp).symm⟩
theorem Kp.none {S H H'} {p : Addr} (k : Kp S H H') (n : p ∉ S) (h : H' p = none) : H p = none := by
  cases e : H p with
  | none => rfl
  | some o => rw [k _ _ e n] at h; cases h
theorem DeckAt.put {H dk g c} {p : Addr} {o : HO} (h : DeckAt H dk g c) (hp : p ∉ [dk, g]) : DeckAt (upd H p o) dk g c := by
  obtain ⟨ns, fold, cnt, h1, h2, h3⟩ := h
  simp only [List.mem_cons, List.not_mem_nil, or_false, not_or] at hp
  exact ⟨ns, fold, cnt, by rw [upd_ne (Ne.symm hp.1)]; exact h1, by rw [upd_ne (Ne.symm hp.2)]; exact h2, h3⟩
theorem flat_ints (ns : List Int) : (ns.map V.int).all flatV = true := by
  rw [List.all_eq_true]
  intro x hx
  obtain ⟨n, _, rfl⟩ := List.mem_map.mp hx
  rfl
theorem in_pos {x : V} {ns : List Int} (h : inV x (ns.map V.int) = true) : 0 < ns.length := by
  cases ns with
  | nil => simp [inV] at h
  | cons n ns => simp
theorem nodup_le : ∀ {us ns : List Int}, us.Nodup → (∀ x, x ∈ us → x ∈ ns) → us.length ≤ ns.length
  | [], ns, _, _ => Nat.zero_le _
  | u :: us, ns, h, hm => by
    obtain ⟨h1, h2⟩ := List.nodup_cons.mp h
    have hu : u ∈ ns := hm u (List.mem_cons_self)
    have q := nodup_le (us := us) (ns := ns.erase u) h2 fun x hx => by
      have hne : x ≠ u := fun e => h1 (e ▸ hx)
      exact (List.mem_erase_of_ne hne).mpr (hm x (List.mem_cons_of_mem _ hx))
    rw [List.length_erase_of_mem hu] at q
    have : 0 < ns.length := List.length_pos_of_mem hu
    simp only [List.length_cons]
    omega
def spTake : Sp := fun vs H Q _ => ∃ (dk g : Addr) (c many : Int), vs = [.ref dk, .int many] ∧ DeckAt H dk g c ∧ 0 < many ∧ many < 1073741824 ∧ c ≤ 1000000 ∧
  ∀ (r : Int) (H' : Hp), 0 ≤ r → r < many → DeckAt H' dk g (c + 1) → Kp [dk, g] H H' → Q (.int r) H'
def spDeck (K : PySem.W.Frag) : Sp := fun vs H Q _ => ∃ (s : Addr) (ns : List Int), vs = [.ref s] ∧ SqL K H s (ns.map V.int) ∧ ns.length ≤ 63 ∧
  ∀ (dk g : Addr) (H' : Hp), H dk = none → H g = none → DeckAt H' dk g 0 → Same H H' → Q (.ref dk) H'
def spPool : Sp := fun vs H Q _ => ∃ (dk g : Addr) (c : Int), vs = [.ref dk] ∧ DeckAt H dk g c ∧ c ≤ 900000 ∧
  ∀ (l : Addr) (ns : List Int) (H' : Hp), H l = none → H' l = some (.lst (ns.map V.int)) → 0 < ns.length → ns.length ≤ 200 → DeckAt H' dk g (c + 300) → Kp [dk, g] H H' → Q (.ref l) H'
def spTrace : Sp := fun vs H Q _ => ∃ (dk g : Addr) (c most : Int), vs = [.ref dk, .int most] ∧ DeckAt H dk g c ∧ c ≤ 800000 ∧ 0 ≤ most ∧ most ≤ 200 ∧
  ∀ (l : Addr) (ns : List Int) (H' : Hp), H l = none → H' l = some (.lst (ns.map V.int)) → (ns.length : Int) ≤ most → DeckAt H' dk g (c + 800) → Kp [dk, g] H H' → Q (.ref l) H'
def spRoom : Sp := fun vs H Q _ => ∃ (dk g l : Addr) (c : Int) (ns : List Int), vs = [.ref dk, .ref l] ∧ DeckAt H dk g c ∧ c ≤ 900000 ∧ H l = some (.lst (ns.map V.int)) ∧ ns.length ≤ 250 ∧ l ≠ dk ∧ l ≠ g ∧
  ∀ (r : Int) (H' : Hp), 1 ≤ r → r ≤ 300 → DeckAt H' dk g (c + 10) → Kp [dk, g] H H' → Q (.int r) H'
theorem atI_pick {zs : List Int} {r : Int} (h0 : 0 ≤ r) (h1 : r < zs.length) : ∃ z, z ∈ zs ∧ atI (zs.map V.int) r = some (.int z) := by
  obtain ⟨j, rfl⟩ := Int.eq_ofNat_of_zero_le h0
  have hj : j < zs.length := by omega
  refine ⟨zs[j], List.getElem_mem hj, at_of rfl ?_⟩
  rw [List.getElem?_map, List.getElem?_eq_getElem hj]
  rfl
theorem int_at {ns : List Int} {i : Nat} {y : V} (hi : (ns.map V.int)[i]? = some y) : ∃ z, y = V.int z := by
  rw [List.getElem?_map] at hi
  cases e : ns[i]? with
  | none => rw [e] at hi; cases hi
  | some z => rw [e] at hi; exact ⟨z, (Option.some.inj hi).symm⟩
def lenAt (g : Addr) (H : Hp) : Nat := match H g with
  | some (.lst xs) => xs.length
  | _ => 0
theorem lenAt_of {g : Addr} {H : Hp} {xs : List V} (h : H g = some (.lst xs)) : lenAt g H = xs.length := by unfold lenAt; rw [h]
theorem atI_last' {xs : List V} {v : V} (h : xs[xs.length - 1]? = some v) : atI xs (-1) = some v := by
  unfold atI ixN
  have hl : 0 < xs.length := by
    cases xs with
    | nil => simp at h
    | cons a r => simp
  rw [if_neg (by decide), if_pos (by omega)]
  show xs[(-1 + (xs.length : Int)).toNat]? = some v
  have e : (-1 + (xs.length : Int)).toNat = xs.length - 1 := by omega
  rw [e]; exact h
theorem last_int {ns : List Int} (h : ns ≠ []) : ∃ z, (ns.map V.int)[(ns.map V.int).length - 1]? = some (V.int z) := by
  refine ⟨ns.getLast h, ?_⟩
  rw [List.length_map, List.getElem?_map, ← List.getLast?_eq_getElem?, List.getLast?_eq_some_getLast h]
  rfl
theorem ixN_last {n : Nat} (h : 0 < n) : ixN n (-1) = some (n - 1) := by
  unfold ixN
  rw [if_neg (by decide), if_pos (by omega)]
  congr 1
  omega
def flatD (v : V) (d : PyData) : Prop := (v = .non ∧ d = .none) ∨ (∃ i, v = .int i ∧ d = .int i) ∨ ∃ x, v = .str x ∧ d = .str x ∧ PyData.canLay0 (.str x) = true
def Da (H : Hp) : Nat → V → PyData → Prop
  | 0, v, d => flatD v d
  | n + 1, v, d => flatD v d ∨ (∃ (a : Addr) (xs : List V) (ds : List PyData), v = .ref a ∧ d = .list ds ∧ H a = some (.lst xs) ∧ ds.length ≤ 1000 ∧ Paired (Da H n) xs ds) ∨
      ∃ (a : Addr) (xs : List V) (ds : List PyData), v = .ref a ∧ d = .tuple ds ∧ H a = some (.tup xs) ∧ ds.length ≤ 1000 ∧ Paired (Da H n) xs ds
theorem paired_imp {F G : V → PyData → Prop} (f : ∀ a b, F a b → G a b) : ∀ {l1 : List V} {l2 : List PyData}, Paired F l1 l2 → Paired G l1 l2
  | _, _, .nil => .nil
  | _, _, .cons r t => .cons (f _ _ r) (paired_imp f t)
theorem Da.keep {H H' : Hp} (s : Same H H') : ∀ (n : Nat) {v : V} {d : PyData}, Da H n v d → Da H' n v d
  | 0, _, _, h => h
  | n + 1, _, _, h => by
    rcases h with h | ⟨a, xs, ds, h1, h2, h3, h4, h5⟩ | ⟨a, xs, ds, h1, h2, h3, h4, h5⟩
    · exact .inl h
    · exact .inr (.inl ⟨a, xs, ds, h1, h2, s _ _ h3, h4, paired_imp (fun _ _ z => Da.keep s n z) h5⟩)
    · exact .inr (.inr ⟨a, xs, ds, h1, h2, s _ _ h3, h4, paired_imp (fun _ _ z => Da.keep s n z) h5⟩)
theorem flatD.dp {K : PySem.W.Frag} {H : Hp} {v : V} {d : PyData} (h : flatD v d) : Dp K H v d ∧ SeqAt.shaped d = true ∧ PyData.eqv d d = true := by
  rcases h with ⟨rfl, rfl⟩ | ⟨i, rfl, rfl⟩ | ⟨x, rfl, rfl, hx⟩
  · exact ⟨.non, by decide, rfl⟩
  · exact ⟨.int i, by simp [SeqAt.shaped, PyData.canLay0, PyData.depth], by simp [PyData.eqv]⟩
  · exact ⟨.str x, by simp [SeqAt.shaped, hx, PyData.depth], by simp [PyData.eqv]⟩
theorem flatD.ty {K : PySem.W.Frag} {H : Hp} {v : V} {d : PyData} (h : flatD v d) : ∃ t, TyOf K H v t ∧ PySem.W.kitAny K t [.type "list", .type "tuple"] = some false ∧ PySem.W.kitOne K t (.type "bool") = some false := by
  rcases h with ⟨rfl, rfl⟩ | ⟨i, rfl, rfl⟩ | ⟨x, rfl, rfl, hx⟩
  · exact ⟨_, .non, by kernel_rfl, by kernel_rfl⟩
  · exact ⟨_, .int i, by kernel_rfl, by kernel_rfl⟩
  · exact ⟨_, .str x, by kernel_rfl, by kernel_rfl⟩
def SeqH (H : Hp) (b : Bool) (p : Addr) (xs : List V) : Prop := (b = true ∧ H p = some (.lst xs)) ∨ (b = false ∧ H p = some (.tup xs))
theorem SeqH.keep {H H' b p xs} (h : SeqH H b p xs) (s : Same H H') : SeqH H' b p xs := by
  rcases h with ⟨e, h⟩ | ⟨e, h⟩
  · exact .inl ⟨e, s _ _ h⟩
  · exact .inr ⟨e, s _ _ h⟩
theorem SeqH.ty {K : PySem.W.Frag} {H b p xs} (h : SeqH H b p xs) : ∃ t, TyOf K H (.ref p) t ∧ PySem.W.kitAny K t [.type "list", .type "tuple"] = some true ∧ PySem.W.kitOne K t (.type "list") = some b ∧ PySem.W.kitOne K t (.type "tuple") = some (!b) := by
  rcases h with ⟨rfl, h⟩ | ⟨rfl, h⟩
  · exact ⟨_, .lst h, by kernel_rfl, by kernel_rfl, by kernel_rfl⟩
  · exact ⟨_, .tup h, by kernel_rfl, by kernel_rfl, by kernel_rfl⟩
theorem SeqH.sq {K : PySem.W.Frag} {H b p xs} (h : SeqH H b p xs) : SqL K H p xs ∨ SqT K H p xs := by
  rcases h with ⟨rfl, h⟩ | ⟨rfl, h⟩
  · exact .inl (SqL.of h)
  · exact .inr (SqT.of h)
theorem Da.split {H : Hp} {x y : V} {d : PyData} : ∀ {n : Nat}, Da H n x d → Da H n y d → (flatD x d ∧ flatD y d) ∨
    ∃ (m : Nat) (p q : Addr) (xs ys : List V) (ds : List PyData) (b : Bool), n = m + 1 ∧ x = .ref p ∧ y = .ref q ∧ SeqH H b p xs ∧ SeqH H b q ys ∧ ds.length ≤ 1000 ∧ Paired (Da H m) xs ds ∧ Paired (Da H m) ys ds
  | 0, h1, h2 => .inl ⟨h1, h2⟩
  | n + 1, h1, h2 => by
    rcases h1 with h1 | ⟨p, xs, ds, rfl, rfl, e1, l1, r1⟩ | ⟨p, xs, ds, rfl, rfl, e1, l1, r1⟩
    · rcases h2 with h2 | ⟨q, ys, ds', rfl, e, _⟩ | ⟨q, ys, ds', rfl, e, _⟩
      · exact .inl ⟨h1, h2⟩
      · subst e
        rcases h1 with ⟨_, z⟩ | ⟨i, _, z⟩ | ⟨x, _, z, _⟩ <;> cases z
      · subst e
        rcases h1 with ⟨_, z⟩ | ⟨i, _, z⟩ | ⟨x, _, z, _⟩ <;> cases z
    · rcases h2 with h2 | ⟨q, ys, ds', rfl, e, e2, l2, r2⟩ | ⟨q, ys, ds', rfl, e, _⟩
      · rcases h2 with ⟨_, z⟩ | ⟨i, _, z⟩ | ⟨x, _, z, _⟩ <;> cases z
      · cases e
        exact .inr ⟨n, p, q, xs, ys, ds, true, rfl, rfl, rfl, .inl ⟨rfl, e1⟩, .inl ⟨rfl, e2⟩, l1, r1, r2⟩
      · cases e
    · rcases h2 with h2 | ⟨q, ys, ds', rfl, e, _⟩ | ⟨q, ys, ds', rfl, e, e2, l2, r2⟩
      · rcases h2 with ⟨_, z⟩ | ⟨i, _, z⟩ | ⟨x, _, z, _⟩ <;> cases z
      · cases e
      · cases e
        exact .inr ⟨n, p, q, xs, ys, ds, false, rfl, rfl, rfl, .inr ⟨rfl, e1⟩, .inr ⟨rfl, e2⟩, l1, r1, r2⟩
def spSame (n : Nat) : Sp := fun vs H Q _ => ∃ (x y : V) (d : PyData), vs = [x, y] ∧ Da H n x d ∧ Da H n y d ∧ ∀ H', Same H H' → Q (.bl true) H'
end Pg
end
section
set_option Elab.async false
set_option linter.all false
namespace Pg
abbrev Zs := List (Int × Bool)
def rotQ (xs : Zs) (h : Nat) : Zs := xs.drop h ++ xs.take h
def marksN (q : Zs) : Nat := (q.filter (·.2)).length
theorem marksN_rot {p : Int} {r : Zs} : marksN (r ++ [(p, false)]) < marksN ((p, true) :: r) := by
  simp [marksN, List.filter_append]
def sweepQ : Zs → Zs
  | (p, true) :: r => sweepQ (r ++ [(p, false)])
  | q => q
termination_by q => marksN q
decreasing_by exact marksN_rot
theorem sweepQ_true (p : Int) (r : Zs) : sweepQ ((p, true) :: r) = sweepQ (r ++ [(p, false)]) := by rw [sweepQ]
theorem sweepQ_false (p : Int) (r : Zs) : sweepQ ((p, false) :: r) = (p, false) :: r := by
  rw [sweepQ]
  intro p' r' h
  cases h
def markQ (page : Int) (q : Zs) : Zs := q.map fun z => if z.1 = page then (z.1, true) else z
def askQ (room : Int) (q : Zs) (page : Int) : Zs × Bool × Option Int :=
  if page ∈ q.map (·.1) then (markQ page q, true, none)
  else if (q.length : Int) = room then ((sweepQ q).tail ++ [(page, true)], false, (sweepQ q).head?.map (·.1))
  else (q ++ [(page, true)], false, none)
def runQ (room : Int) : Zs → List Int → List (Int × Bool × Option Int)
  | _, [] => []
  | q, page :: rest => (page, (askQ room q page).2.1, (askQ room q page).2.2) :: runQ room (askQ room q page).1 rest
def endQ (room : Int) : Zs → List Int → Zs
  | q, [] => q
  | q, page :: rest => endQ room (askQ room q page).1 rest
theorem runQ_snoc (room : Int) : ∀ (pre : List Int) (q : Zs) (page : Int), runQ room q (pre ++ [page]) = runQ room q pre ++ [(page, (askQ room (endQ room q pre) page).2.1, (askQ room (endQ room q pre) page).2.2)]
  | [], q, page => rfl
  | x :: pre, q, page => by
    show _ :: runQ room _ (pre ++ [page]) = _ :: (runQ room _ pre ++ _)
    rw [runQ_snoc room pre]
    rfl
theorem endQ_snoc (room : Int) : ∀ (pre : List Int) (q : Zs) (page : Int), endQ room q (pre ++ [page]) = (askQ room (endQ room q pre) page).1
  | [], q, page => rfl
  | x :: pre, q, page => endQ_snoc room pre _ page
theorem runQ_len (room : Int) : ∀ (ns : List Int) (q : Zs), (runQ room q ns).length = ns.length
  | [], _ => rfl
  | x :: r, q => by simp [runQ, runQ_len room r]
theorem rotQ_len (xs : Zs) (h : Nat) : (rotQ xs h).length = xs.length := by
  unfold rotQ; simp; omega
theorem rotQ_head {xs : Zs} {h : Nat} {x : Int × Bool} (e : xs[h]? = some x) : rotQ xs h = x :: (xs.drop (h + 1) ++ xs.take h) := by
  obtain ⟨hl, e⟩ := List.getElem?_eq_some_iff.mp e
  unfold rotQ
  rw [List.drop_eq_getElem_cons hl, e]
  rfl
theorem rotQ_set {xs : Zs} {h : Nat} {x y : Int × Bool} (e : xs[h]? = some x) : rotQ (xs.set h y) ((h + 1) % xs.length) = (xs.drop (h + 1) ++ xs.take h) ++ [y] := by
  obtain ⟨hl, e⟩ := List.getElem?_eq_some_iff.mp e
  unfold rotQ
  by_cases hn : h + 1 < xs.length
  · rw [Nat.mod_eq_of_lt hn, List.drop_set_of_lt (by omega)]
    have : (xs.set h y).take (h + 1) = xs.take h ++ [y] := by
      rw [List.take_succ, List.take_set_of_le (Nat.le_refl _)]
      simp [hl]
    rw [this, List.append_assoc]
  · have hn' : h + 1 = xs.length := by omega
    rw [hn', Nat.mod_self]
    have h1 : xs.drop xs.length = [] := by simp
    have h2 : (xs.set h y).take 0 = [] := by simp
    rw [h1, h2, List.append_nil, List.nil_append]
    have : xs.set h y = xs.take h ++ y :: xs.drop (h + 1) := List.set_eq_take_append_cons_drop .. |>.trans (by rw [if_pos hl])
    rw [List.drop_zero, this, hn', h1]
theorem rotQ_zero (xs : Zs) : rotQ xs 0 = xs := by simp [rotQ]
theorem rotQ_mem {xs : Zs} {h : Nat} {z : Int × Bool} : z ∈ rotQ xs h ↔ z ∈ xs := by
  unfold rotQ
  rw [List.mem_append, Or.comm, ← List.mem_append, List.take_append_drop]
theorem rotQ_map (f : Int × Bool → Int × Bool) (xs : Zs) (h : Nat) : rotQ (xs.map f) h = (rotQ xs h).map f := by
  unfold rotQ; rw [List.map_append, List.map_drop, List.map_take]
theorem marksN_set {xs : Zs} {h : Nat} {p : Int} (e : xs[h]? = some (p, true)) : marksN (xs.set h (p, false)) < marksN xs := by
  obtain ⟨hl, e⟩ := List.getElem?_eq_some_iff.mp e
  have h1 : xs = xs.take h ++ (p, true) :: xs.drop (h + 1) := by
    rw [← e, ← List.drop_eq_getElem_cons hl, List.take_append_drop]
  have h2 : xs.set h (p, false) = xs.take h ++ (p, false) :: xs.drop (h + 1) := List.set_eq_take_append_cons_drop .. |>.trans (by rw [if_pos hl])
  rw [h2]
  conv => rhs; rw [h1]
  simp [marksN, List.filter_append]
theorem set_mark {zs : Zs} {j : Nat} {p : Int} {b : Bool} (nd : (zs.map (·.1)).Nodup) (e : zs[j]? = some (p, b)) : zs.set j (p, true) = markQ p zs := by
  apply List.ext_getElem?
  intro i
  unfold markQ
  rw [List.getElem?_map]
  by_cases hij : j = i
  · subst hij
    rw [List.getElem?_set_self (List.getElem?_eq_some_iff.mp e).1, e]
    simp
  · rw [List.getElem?_set_ne hij]
    cases q : zs[i]? with
    | none => rfl
    | some z =>
      have hz : z.1 ≠ p := by
        intro ez
        have h1 : (zs.map (·.1))[i]? = some p := by rw [List.getElem?_map, q]; simp [ez]
        have h2 : (zs.map (·.1))[j]? = some p := by rw [List.getElem?_map, e]; rfl
        obtain ⟨a1, a2⟩ := List.getElem?_eq_some_iff.mp h1
        obtain ⟨b1, b2⟩ := List.getElem?_eq_some_iff.mp h2
        exact hij ((List.getElem_inj nd).mp (b2.trans a2.symm))
      simp [hz]
theorem mark_fst (p : Int) (zs : Zs) : (markQ p zs).map (·.1) = zs.map (·.1) := by
  unfold markQ
  rw [List.map_map]
  apply List.map_congr_left
  intro z _
  simp only [Function.comp]
  split <;> rfl
theorem sweepQ_head : ∀ (q : Zs), q ≠ [] → ∃ p r, sweepQ q = (p, false) :: r := by
  intro q
  generalize hn : marksN q = n
  induction n using Nat.strongRecOn generalizing q with
  | _ n ih =>
    intro hne
    match q, hne with
    | (p, true) :: r, _ =>
      rw [sweepQ_true]
      exact ih _ (hn ▸ marksN_rot) _ rfl (by simp)
    | (p, false) :: r, _ => rw [sweepQ_false]; exact ⟨p, r, rfl⟩
theorem sweepQ_fst_perm : ∀ (q : Zs), ((sweepQ q).map (·.1)).Perm (q.map (·.1)) := by
  intro q
  generalize hn : marksN q = n
  induction n using Nat.strongRecOn generalizing q with
  | _ n ih =>
    match q with
    | [] => rw [sweepQ]; intro _ _ h; cases h
    | (p, true) :: r =>
      rw [sweepQ_true]
      refine (ih _ (hn ▸ marksN_rot) _ rfl).trans ?_
      simp only [List.map_append, List.map_cons, List.map_nil]
      exact List.perm_append_singleton ..
    | (p, false) :: r => rw [sweepQ_false]
end Pg
end
section
set_option Elab.async false
set_option linter.all false
set_option maxRecDepth 100000
set_option maxHeartbeats 4000000
namespace Pg
open PySem PySem.Spec PyProof.Rows L2
theorem putF_new {f : Str} {v : V} : ∀ {fs : List (Str × V)}, (fs.all fun q => !decide (q.1 = f)) = true → putF f v fs = fs ++ [(f, v)]
  | [], _ => rfl
  | (g, u) :: r, h => by
    simp only [List.all_cons, Bool.and_eq_true] at h
    have hg : ¬ g = f := by simpa using h.1
    show (if g = f then _ else _) = _
    rw [if_neg hg, putF_new h.2]
    rfl
def rfl0 (room : Int) : List (Str × V) := [("room", .int room)]
def rflds (room : Int) (rg mk st : Addr) (hand : Int) : List (Str × V) := [("room", .int room), ("ring", .ref rg), ("marks", .ref mk), ("seats", .ref st), ("hand", .int hand)]
section
variable {room hand y : Int} {rg mk st : Addr}
theorem rf_room : (rflds room rg mk st hand).lookup ("room" : Str) = some (.int room) := by rfl
theorem rf_ring : (rflds room rg mk st hand).lookup ("ring" : Str) = some (.ref rg) := by rfl
theorem rf_marks : (rflds room rg mk st hand).lookup ("marks" : Str) = some (.ref mk) := by rfl
theorem rf_seats : (rflds room rg mk st hand).lookup ("seats" : Str) = some (.ref st) := by rfl
theorem rf_hand : (rflds room rg mk st hand).lookup ("hand" : Str) = some (.int hand) := by rfl
theorem rf_ask : (rflds room rg mk st hand).lookup ("ask" : Str) = none := by rfl
theorem rf_sweep : (rflds room rg mk st hand).lookup ("sweep" : Str) = none := by rfl
theorem rf_put : putF "hand" (.int y) (rflds room rg mk st hand) = rflds room rg mk st y := by
  unfold rflds
  show (if ("room" : Str) = "hand" then _ else _) = _
  rw [if_neg (by decide +kernel)]
  show _ :: (if ("ring" : Str) = "hand" then _ else _) = _
  rw [if_neg (by decide +kernel)]
  show _ :: _ :: (if ("marks" : Str) = "hand" then _ else _) = _
  rw [if_neg (by decide +kernel)]
  show _ :: _ :: _ :: (if ("seats" : Str) = "hand" then _ else _) = _
  rw [if_neg (by decide +kernel)]
  show _ :: _ :: _ :: _ :: (if ("hand" : Str) = "hand" then _ else _) = _
  rw [if_pos rfl]
end
structure Seats (kvs : List (Key × V)) (ring : List Int) : Prop where
  nd : (kvs.map (·.1)).Nodup
  len : kvs.length = ring.length
  on : ∀ (j : Nat) (p : Int), ring[j]? = some p → valV kvs (Sum.inl p : Key) = some (.int j)
  no : ∀ p : Int, p ∉ ring → valV kvs (Sum.inl p : Key) = none
theorem Seats.nil : Seats [] [] := ⟨List.nodup_nil, rfl, fun j p h => by simp at h, fun p _ => rfl⟩
theorem valV_drop {κ : Type} [DecidableEq κ] (k j : κ) : ∀ kvs : List (κ × V), valV (dropK kvs k) j = if j = k then none else valV kvs j
  | [] => by simp [dropK, valV]
  | p :: r => by
    by_cases e : p.1 = k
    · rw [dropK_pos e, valV_drop k j r]
      by_cases hj : j = k
      · rw [if_pos hj, if_pos hj]
      · rw [if_neg hj, if_neg hj, valV_neg (by rw [e]; exact fun z => hj z.symm)]
    · rw [dropK_neg e]
      by_cases hj : p.1 = j
      · rw [valV_pos hj, valV_pos hj, if_neg (by rw [← hj]; exact e)]
      · rw [valV_neg hj, valV_neg hj, valV_drop k j r]
theorem inl_ne {p q : Int} (h : p ≠ q) : ¬ (Sum.inl p : Key) = Sum.inl q := fun z => h (Sum.inl.inj z)
theorem Seats.add {kvs : List (Key × V)} {ring : List Int} {page : Int} (S : Seats kvs ring) (h : page ∉ ring) : Seats (putK kvs (Sum.inl page) (.int ring.length)) (ring ++ [page]) := by
  have e := S.no page h
  refine ⟨nd_putK _ S.nd e, by rw [putK_new _ e]; simp [S.len], fun j p hj => ?_, fun p hp => ?_⟩
  · rw [valV_put]
    by_cases hjl : j < ring.length
    · rw [List.getElem?_append_left hjl] at hj
      have hne : p ≠ page := by rintro rfl; exact h (List.mem_of_getElem? hj)
      rw [if_neg (inl_ne hne)]
      exact S.on j p hj
    · rw [List.getElem?_append_right (by omega)] at hj
      obtain ⟨h1, h2⟩ := List.getElem?_eq_some_iff.mp hj
      simp at h1
      have hj0 : j = ring.length := by omega
      subst hj0
      simp at h2
      rw [if_pos (by rw [h2])]
  · rw [valV_put]
    simp only [List.mem_append, List.mem_singleton, not_or] at hp
    rw [if_neg (inl_ne hp.2)]
    exact S.no p hp.1
theorem Seats.swap {kvs : List (Key × V)} {ring : List Int} {page g : Int} {j : Nat} (S : Seats kvs ring) (nd : ring.Nodup) (h : page ∉ ring) (hj : ring[j]? = some g) : Seats (putK (dropK kvs (Sum.inl g)) (Sum.inl page) (.int j)) (ring.set j page) := by
  have hg : g ∈ ring := List.mem_of_getElem? hj
  have hne : page ≠ g := by rintro rfl; exact h hg
  have hjl := (List.getElem?_eq_some_iff.mp hj).1
  have e : valV (dropK kvs (Sum.inl g : Key)) (Sum.inl page) = none := by rw [valV_drop, if_neg (inl_ne hne)]; exact S.no page h
  have hin : (Sum.inl g : Key) ∈ kvs.map (·.1) := valV_in (S.on j g hj)
  refine ⟨nd_putK _ (nd_dropK S.nd) e, ?_, fun i p hi => ?_, fun p hp => ?_⟩
  · rw [putK_new _ e, List.length_append, List.length_set, ← S.len]
    exact dropK_len S.nd hin
  · rw [valV_put]
    by_cases hij : j = i
    · subst hij
      rw [List.getElem?_set_self hjl] at hi
      cases hi
      rw [if_pos rfl]
    · rw [List.getElem?_set_ne hij] at hi
      have h1 : p ≠ page := by rintro rfl; exact h (List.mem_of_getElem? hi)
      have h2 : p ≠ g := by
        rintro rfl
        exact hij (nd_ix nd hj hi)
      rw [if_neg (inl_ne h1), valV_drop, if_neg (inl_ne h2)]
      exact S.on i p hi
  · have h1 : p ≠ page := by
      rintro rfl
      exact hp (List.mem_of_getElem? (List.getElem?_set_self hjl))
    rw [valV_put, if_neg (inl_ne h1), valV_drop]
    by_cases h2 : p = g
    · rw [if_pos (by rw [h2])]
    · rw [if_neg (inl_ne h2)]
      refine S.no p fun hm => hp ?_
      obtain ⟨i, hi⟩ := List.mem_iff_getElem?.mp hm
      refine List.mem_of_getElem? (i := i) ?_
      rw [List.getElem?_set_ne]
      · exact hi
      · rintro rfl
        rw [hj] at hi
        exact h2 (Option.some.inj hi).symm
theorem fst_rot (zs : Zs) (h : Nat) (p : Int) : p ∈ (rotQ zs h).map (·.1) ↔ p ∈ zs.map (·.1) := by
  simp only [List.mem_map]
  constructor
  · rintro ⟨z, hz, e⟩; exact ⟨z, rotQ_mem.mp hz, e⟩
  · rintro ⟨z, hz, e⟩; exact ⟨z, rotQ_mem.mpr hz, e⟩
theorem nd_set : ∀ {l : List Int} {j : Nat} {x : Int}, l.Nodup → x ∉ l → (l.set j x).Nodup
  | [], _, _, _, _ => List.nodup_nil
  | b :: r, 0, x, nd, h => by
    obtain ⟨h1, h2⟩ := List.nodup_cons.mp nd
    exact List.nodup_cons.mpr ⟨fun m => h (List.mem_cons_of_mem _ m), h2⟩
  | b :: r, j + 1, x, nd, h => by
    obtain ⟨h1, h2⟩ := List.nodup_cons.mp nd
    refine List.nodup_cons.mpr ⟨fun m => ?_, nd_set h2 fun m => h (List.mem_cons_of_mem _ m)⟩
    rcases List.mem_or_eq_of_mem_set m with m | m
    · exact h1 m
    · exact h (by rw [m]; exact List.mem_cons_self)
structure RingAt (C : Addr) (H : Hp) (p rg mk st : Addr) (room : Int) (zs : Zs) (hand : Nat) : Prop where
  ob : ∃ dx, H p = some (.ins C dx (rflds room rg mk st hand))
  r : H rg = some (.lst ((zs.map (·.1)).map V.int))
  m : H mk = some (.lst ((zs.map (·.2)).map V.bl))
  s : ∃ kvs, H st = some (.dK kvs) ∧ Seats kvs (zs.map (·.1))
  ne : rg ≠ mk
  nd : (zs.map (·.1)).Nodup
  r1 : 1 ≤ room
  le : (zs.length : Int) ≤ room
  hd : (zs.length : Int) < room → hand = 0
  hl : (hand : Int) < room
  sm : zs.length ≤ 500
def trueAt (mk : Addr) (H : Hp) : Nat := match H mk with
  | some (.lst xs) => (xs.filter fun v => decide (v = V.bl true)).length
  | _ => 0
theorem trueAt_of {mk : Addr} {H : Hp} {ys : Zs} (h : H mk = some (.lst ((ys.map (·.2)).map V.bl))) : trueAt mk H = marksN ys := by
  unfold trueAt marksN
  rw [h]
  show ((((ys.map (·.2)).map V.bl)).filter fun v => decide (v = V.bl true)).length = _
  rw [List.filter_map, List.filter_map, List.length_map, List.length_map]
  congr 1
  apply List.filter_congr
  intro z _
  simp
theorem set_fst {ys : Zs} {h : Nat} {p : Int} {b c : Bool} (e : ys[h]? = some (p, b)) : (ys.set h (p, c)).map (·.1) = ys.map (·.1) := by
  obtain ⟨hl, e⟩ := List.getElem?_eq_some_iff.mp e
  rw [List.map_set]
  apply List.ext_getElem?
  intro i
  by_cases hi : h = i
  · subst hi
    rw [List.getElem?_set_self (by simpa using hl), List.getElem?_map, List.getElem?_eq_getElem hl, e]
    rfl
  · rw [List.getElem?_set_ne hi]
theorem ixN_nat {n j : Nat} (h : j < n) : ixN n (j : Int) = some j := by
  unfold ixN
  rw [if_pos (by omega), if_pos (by omega)]
  simp
def spRInit (C : Addr) : Sp := fun vs H Q _ => ∃ (p dx : Addr) (room : Int), vs = [.ref p, .int room] ∧ H p = some (.ins C dx []) ∧ 1 ≤ room ∧
  ∀ (rg mk st : Addr) (H' : Hp), H rg = none → H mk = none → H st = none → RingAt C H' p rg mk st room [] 0 → Kp [p] H H' → Q .non H'
def spSweep (C : Addr) : Sp := fun vs H Q _ => ∃ (p rg mk st : Addr) (room : Int) (zs : Zs) (hand : Nat), vs = [.ref p] ∧ RingAt C H p rg mk st room zs hand ∧ (zs.length : Int) = room ∧
  ∀ (zs' : Zs) (seat : Nat) (H' : Hp), (seat : Int) < room → rotQ zs' seat = sweepQ (rotQ zs hand) → zs'.map (·.1) = zs.map (·.1) → RingAt C H' p rg mk st room zs' ((seat + 1) % zs.length) → Kp [p, mk] H H' → Q (.int seat) H'
def stepV (s : Int × Bool × Option Int) : List V := [.int s.1, .str (if s.2.1 then "hit" else "fault"), match s.2.2 with | none => .non | some g => .int g]
def stepD (s : Int × Bool × Option Int) : PyData := .tuple [.int s.1, .str (if s.2.1 then "hit" else "fault"), match s.2.2 with | none => .none | some g => .int g]
def spAsk (C : Addr) : Sp := fun vs H Q _ => ∃ (p rg mk st : Addr) (room page : Int) (zs : Zs) (hand : Nat), vs = [.ref p, .int page] ∧ RingAt C H p rg mk st room zs hand ∧ zs.length < 500 ∧
  ∀ (t : Addr) (zs' : Zs) (hand' : Nat) (H' : Hp), H t = none → H' t = some (.tup (stepV (page, (askQ room (rotQ zs hand) page).2.1, (askQ room (rotQ zs hand) page).2.2))) →
    rotQ zs' hand' = (askQ room (rotQ zs hand) page).1 → zs'.length ≤ zs.length + 1 → RingAt C H' p rg mk st room zs' hand' → Kp [p, rg, mk, st] H H' → Q (.ref t) H'
end Pg
namespace Pg
open PySem PySem.Spec PyProof.Rows L2
theorem RingAt.keep {C : Addr} {H H' : Hp} {p rg mk st : Addr} {room : Int} {zs : Zs} {hand : Nat} (R : RingAt C H p rg mk st room zs hand) (s : Same H H') : RingAt C H' p rg mk st room zs hand := by
  obtain ⟨⟨dx, p1⟩, r1, m1, ⟨kvs, s1, S1⟩, a1, a2, a3, a4, a5, a6, a7⟩ := R
  exact ⟨⟨dx, s _ _ p1⟩, s _ _ r1, s _ _ m1, ⟨kvs, s _ _ s1, S1⟩, a1, a2, a3, a4, a5, a6, a7⟩
theorem RingAt.put {C : Addr} {H : Hp} {p rg mk st l : Addr} {o : HO} {room : Int} {zs : Zs} {hand : Nat} (R : RingAt C H p rg mk st room zs hand) (h1 : p ≠ l) (h2 : rg ≠ l) (h3 : mk ≠ l) (h4 : st ≠ l) : RingAt C (upd H l o) p rg mk st room zs hand := by
  obtain ⟨⟨dx, p1⟩, r1, m1, ⟨kvs, s1, S1⟩, a1, a2, a3, a4, a5, a6, a7⟩ := R
  exact ⟨⟨dx, by rw [upd_ne h1]; exact p1⟩, by rw [upd_ne h2]; exact r1, by rw [upd_ne h3]; exact m1, ⟨kvs, by rw [upd_ne h4]; exact s1, S1⟩, a1, a2, a3, a4, a5, a6, a7⟩
def spCheck : Sp := fun vs H Q _ => ∃ room : Int, vs = [.int room] ∧ 1 ≤ room ∧ Q .non H
def spEmptyC (C : Addr) : Sp := fun vs H Q _ => ∃ (tr : V) (room : Int), vs = [tr, .int room, .str "clock"] ∧ 1 ≤ room ∧
  ∀ (x rg mk st : Addr) (H' : Hp), H x = none → H rg = none → H mk = none → H st = none → RingAt C H' x rg mk st room [] 0 → Same H H' → Q (.ref x) H'
abbrev Steps := List (Int × Bool × Option Int)
def StepsAt (H : Hp) (ts : List Addr) (ss : Steps) : Prop := Paired (fun t s => H t = some (.tup (stepV s))) ts ss
theorem StepsAt.imp {H H' : Hp} : ∀ {ts : List Addr} {ss : Steps}, StepsAt H ts ss → (∀ t xs, H t = some (.tup xs) → H' t = some (.tup xs)) → StepsAt H' ts ss
  | _, _, .nil, _ => .nil
  | _, _, .cons r t, f => .cons (f _ _ r) (StepsAt.imp t f)
theorem StepsAt.snoc {H : Hp} : ∀ {ts : List Addr} {ss : Steps} {t : Addr} {s : Int × Bool × Option Int}, StepsAt H ts ss → H t = some (.tup (stepV s)) → StepsAt H (ts ++ [t]) (ss ++ [s])
  | _, _, _, _, .nil, h => .cons h .nil
  | _, _, _, _, .cons r t, h => .cons r (StepsAt.snoc t h)
theorem StepsAt.len {H : Hp} : ∀ {ts : List Addr} {ss : Steps}, StepsAt H ts ss → ts.length = ss.length
  | _, _, .nil => rfl
  | _, _, .cons r t => by simp [StepsAt.len t]
def spWalkC : Sp := fun vs H Q _ => ∃ (tr : Addr) (room : Int) (ns : List Int), vs = [.ref tr, .int room, .str "clock"] ∧ H tr = some (.lst (ns.map V.int)) ∧ 1 ≤ room ∧ ns.length ≤ 400 ∧
  ∀ (l : Addr) (ts : List Addr) (H' : Hp), H l = none → H' l = some (.lst (ts.map V.ref)) → StepsAt H' ts (runQ room [] ns) → Same H H' → Q (.ref l) H'
theorem take_snoc {α : Type} {l : List α} {i : Nat} {x : α} (h : l[i]? = some x) : l.take (i + 1) = l.take i ++ [x] := by
  rw [List.take_succ, h]; rfl
end Pg
end
section
set_option Elab.async false
set_option linter.all false
set_option maxRecDepth 100000
set_option maxHeartbeats 4000000
namespace Pg
open PySem PySem.Spec PyProof.Rows L2
theorem askQ_nd (room : Int) (q : Zs) (p : Int) (h : (q.map (·.1)).Nodup) : ((askQ room q p).1.map (·.1)).Nodup := by
  unfold askQ
  split
  · show ((markQ p q).map (·.1)).Nodup
    rw [mark_fst]; exact h
  · rename_i hp
    split
    · show (((sweepQ q).tail ++ [(p, true)]).map (·.1)).Nodup
      have hperm := sweepQ_fst_perm q
      have h1 : ((sweepQ q).map (·.1)).Nodup := hperm.nodup_iff.mpr h
      have h2 : p ∉ (sweepQ q).map (·.1) := fun m => hp (hperm.mem_iff.mp m)
      rw [List.map_append]
      refine nd_snoc ?_ fun m => h2 ?_
      · rw [List.map_tail]
        exact h1.sublist (List.tail_sublist _)
      · rw [List.map_tail] at m
        exact List.mem_of_mem_tail m
    · show ((q ++ [(p, true)]).map (·.1)).Nodup
      rw [List.map_append]
      exact nd_snoc h hp
def QcAt (H : Hp) (as : List Addr) (q : Zs) : Prop := Paired (fun a (z : Int × Bool) => H a = some (.lst [.int z.1, .bl z.2])) as q
theorem QcAt.imp {H H' : Hp} : ∀ {as : List Addr} {q : Zs}, QcAt H as q → (∀ a ∈ as, ∀ o, H a = some o → H' a = some o) → QcAt H' as q
  | _, _, .nil, _ => .nil
  | _, _, .cons r t, f => .cons (f _ List.mem_cons_self _ r) (QcAt.imp t fun a m => f a (List.mem_cons_of_mem _ m))
theorem QcAt.snoc {H : Hp} : ∀ {as : List Addr} {q : Zs} {a : Addr} {z : Int × Bool}, QcAt H as q → H a = some (.lst [.int z.1, .bl z.2]) → QcAt H (as ++ [a]) (q ++ [z])
  | _, _, _, _, .nil, h => .cons h .nil
  | _, _, _, _, .cons r t, h => .cons r (QcAt.snoc t h)
theorem QcAt.len {H : Hp} : ∀ {as : List Addr} {q : Zs}, QcAt H as q → as.length = q.length
  | _, _, .nil => rfl
  | _, _, .cons r t => by simp [QcAt.len t]
theorem QcAt.get {H : Hp} : ∀ {as : List Addr} {q : Zs} {i : Nat} {z : Int × Bool}, QcAt H as q → q[i]? = some z → ∃ a, as[i]? = some a ∧ H a = some (.lst [.int z.1, .bl z.2])
  | _, _, _, _, .nil, h => by simp at h
  | _, _, 0, _, .cons r t, h => by simp at h; subst h; exact ⟨_, rfl, r⟩
  | _, _, i + 1, z, .cons r t, h => by
    obtain ⟨a, h1, h2⟩ := QcAt.get (i := i) (z := z) t (by simpa using h)
    exact ⟨a, by simpa using h1, h2⟩
theorem QcAt.set {H : Hp} : ∀ {as : List Addr} {q : Zs} {i : Nat} {a : Addr} {z : Int × Bool}, QcAt H as q → as.Nodup → as[i]? = some a → QcAt (upd H a (.lst [.int z.1, .bl z.2])) as (q.set i z)
  | _, _, _, _, _, .nil, _, h => by simp at h
  | _, _, 0, a, z, .cons r t, nd, h => by
    simp at h
    subst h
    obtain ⟨h1, h2⟩ := List.nodup_cons.mp nd
    refine .cons upd_same (QcAt.imp t fun b m o e => ?_)
    rw [upd_ne]; exact e
    rintro rfl; exact h1 m
  | _, _, i + 1, a, z, .cons (a := b) r t, nd, h => by
    obtain ⟨h1, h2⟩ := List.nodup_cons.mp nd
    have h' : _ := h
    simp at h'
    refine .cons ?_ (QcAt.set t h2 h')
    rw [upd_ne]; exact r
    rintro rfl; exact h1 (List.mem_of_getElem? h')
def spClocked : Sp := fun vs H Q _ => ∃ (tr : Addr) (room : Int) (ns : List Int), vs = [.ref tr, .int room] ∧ H tr = some (.lst (ns.map V.int)) ∧ 1 ≤ room ∧ ns.length ≤ 400 ∧
  ∀ (l : Addr) (ts : List Addr) (H' : Hp), H l = none → H' l = some (.lst (ts.map V.ref)) → StepsAt H' ts (runQ room [] ns) → Same H H' → Q (.ref l) H'
end Pg
end
section
set_option Elab.async false
set_option linter.all false
namespace Pg
abbrev Ts := List (Int × Int)
def askT (room : Int) (ren : Bool) (T : Ts) (i : Int) (p : Int) : Ts × Bool × Option Int :=
  if p ∈ T.map (·.1) then ((if ren then T.filter (fun t => !decide (t.1 = p)) ++ [(p, i)] else T), true, none)
  else if (T.length : Int) = room then (T.tail ++ [(p, i)], false, T.head?.map (·.1))
  else (T ++ [(p, i)], false, none)
def runT (room : Int) (ren : Bool) : Ts → Nat → List Int → List (Int × Bool × Option Int)
  | _, _, [] => []
  | T, i, p :: r => (p, (askT room ren T i p).2.1, (askT room ren T i p).2.2) :: runT room ren (askT room ren T i p).1 (i + 1) r
def endT (room : Int) (ren : Bool) : Ts → Nat → List Int → Ts
  | T, _, [] => T
  | T, i, p :: r => endT room ren (askT room ren T i p).1 (i + 1) r
theorem runT_snoc (room : Int) (ren : Bool) : ∀ (pre : List Int) (T : Ts) (i : Nat) (p : Int), runT room ren T i (pre ++ [p]) = runT room ren T i pre ++ [(p, (askT room ren (endT room ren T i pre) (i + pre.length : Nat) p).2.1, (askT room ren (endT room ren T i pre) (i + pre.length : Nat) p).2.2)]
  | [], T, i, p => rfl
  | x :: pre, T, i, p => by
    show _ :: runT room ren _ (i + 1) (pre ++ [p]) = _ :: (runT room ren _ (i + 1) pre ++ _)
    rw [runT_snoc room ren pre]
    have e : i + 1 + pre.length = i + (x :: pre).length := by simp; omega
    rw [e]
    rfl
theorem endT_snoc (room : Int) (ren : Bool) : ∀ (pre : List Int) (T : Ts) (i : Nat) (p : Int), endT room ren T i (pre ++ [p]) = (askT room ren (endT room ren T i pre) (i + pre.length : Nat) p).1
  | [], T, i, p => rfl
  | x :: pre, T, i, p => by
    show endT room ren _ (i + 1) (pre ++ [p]) = _
    rw [endT_snoc room ren pre]
    have e : i + 1 + pre.length = i + (x :: pre).length := by simp; omega
    rw [e]
    rfl
theorem runT_len (room : Int) (ren : Bool) : ∀ (ns : List Int) (T : Ts) (i : Nat), (runT room ren T i ns).length = ns.length
  | [], _, _ => rfl
  | x :: r, T, i => by simp [runT, runT_len room ren r]
structure TI (T : Ts) (i : Int) : Prop where
  nd : (T.map (·.1)).Nodup
  rise : T.Pairwise (fun a b => a.2 < b.2)
  below : ∀ t ∈ T, t.2 < i
theorem nd_snoc' {l : List Int} {k : Int} (h : l.Nodup) (hk : k ∉ l) : (l ++ [k]).Nodup := by
  rw [List.nodup_append]
  exact ⟨h, by simp, fun a ha b hb => by simp at hb; subst hb; rintro rfl; exact hk ha⟩
theorem TI.snoc {T : Ts} {i : Int} {p : Int} (h : TI T i) (hp : p ∉ T.map (·.1)) : TI (T ++ [(p, i)]) (i + 1) := by
  refine ⟨?_, ?_, fun t ht => ?_⟩
  · rw [List.map_append]; exact nd_snoc' h.nd hp
  · rw [List.pairwise_append]
    exact ⟨h.rise, by simp, fun a ha b hb => by simp at hb; subst hb; exact h.below a ha⟩
  · rcases List.mem_append.mp ht with ht | ht
    · have := h.below t ht; omega
    · simp at ht; subst ht; show i < i + 1; omega
theorem TI.sub {T T' : Ts} {i : Int} (h : TI T i) (s : T'.Sublist T) : TI T' i :=
  ⟨h.nd.sublist (s.map _), h.rise.sublist s, fun t ht => h.below t (s.subset ht)⟩
theorem TI.up {T : Ts} {i : Int} (h : TI T i) : TI T (i + 1) := ⟨h.nd, h.rise, fun t ht => by have := h.below t ht; omega⟩
theorem filter_out (T : Ts) (p : Int) : p ∉ (T.filter (fun t => !decide (t.1 = p))).map (·.1) := by
  intro m
  obtain ⟨t, ht, e⟩ := List.mem_map.mp m
  have := (List.mem_filter.mp ht).2
  simp at this
  exact this e
theorem askT_nd {room : Int} {ren : Bool} {T : Ts} {i p : Int} (h : (T.map (·.1)).Nodup) : ((askT room ren T i p).1.map (·.1)).Nodup := by
  unfold askT
  split
  · cases ren with
    | true =>
      show ((T.filter (fun t => !decide (t.1 = p)) ++ [(p, i)]).map (·.1)).Nodup
      rw [List.map_append]
      exact nd_snoc' (h.sublist (List.filter_sublist.map _)) (filter_out T p)
    | false => exact h
  · rename_i hp
    split
    · show ((T.tail ++ [(p, i)]).map (·.1)).Nodup
      rw [List.map_append]
      refine nd_snoc' (h.sublist ((List.tail_sublist T).map _)) fun m => hp ?_
      rw [List.map_tail] at m
      exact List.mem_of_mem_tail m
    · show ((T ++ [(p, i)]).map (·.1)).Nodup
      rw [List.map_append]
      exact nd_snoc' h hp
theorem askT_len {room : Int} {ren : Bool} {T : Ts} {i p : Int} : (askT room ren T i p).1.length ≤ T.length + 1 := by
  unfold askT
  split
  · cases ren with
    | true =>
      simp
      exact List.length_filter_le _ _
    | false => simp
  · split
    · simp
    · simp
theorem endT_len {room : Int} {ren : Bool} : ∀ (ns : List Int) (T : Ts) (i : Nat), (endT room ren T i ns).length ≤ T.length + ns.length
  | [], T, i => Nat.le_refl _
  | x :: r, T, i => by
    have h1 := endT_len (room := room) (ren := ren) r (askT room ren T i x).1 (i + 1)
    have h2 := askT_len (room := room) (ren := ren) (T := T) (i := i) (p := x)
    show (endT room ren (askT room ren T i x).1 (i + 1) r).length ≤ _
    simp only [List.length_cons]
    omega
theorem TI.nil (i : Int) : TI [] i := ⟨List.nodup_nil, List.Pairwise.nil, fun t ht => by simp at ht⟩
end Pg
end
section
set_option Elab.async false
set_option linter.all false
set_option maxRecDepth 100000
set_option maxHeartbeats 4000000
namespace Pg
open PySem PySem.Spec PyProof.Rows L2
theorem for_by {J : It} {n : Nat} {g : TG} {tb : TS} {D : Ends} {σ : L2.St} {H : Hp} (Pv : Nat → L2.St → Hp → Prop) (h0 : Pv 0 σ H) (hg : ∀ i σ H, i < n → Pv i σ H → J.go i H) (hst : ∀ σ H, Pv n σ H → J.stop n H)
    (hs : ∀ i σ H x H', i < n → Pv i σ H → J.yld i H x H' → g x σ H' fun σ2 H2 => tb { D with nx := Pv (i + 1), ct := Pv (i + 1), bk := D.nx } σ2 H2) (hd : ∀ σ H, Pv n σ H → D.nx σ H) :
    ∃ W : Nat → Nat → L2.St → Hp → Prop, (∃ m, W 0 m σ H) ∧ ∀ i m σ H, W i m σ H →
      (J.stop i H ∧ D.nx σ H) ∨ (J.go i H ∧ ∃ N : L2.St → Hp → Prop, (∀ σ' H', N σ' H' → ∃ m', m' < m ∧ W (i + 1) m' σ' H') ∧ ∀ x H', J.yld i H x H' → g x σ H' fun σ2 H2 => tb { D with nx := N, ct := N, bk := D.nx } σ2 H2) := by
  refine ⟨fun i m σ H => m = n - i ∧ i ≤ n ∧ Pv i σ H, ⟨n, by simp, Nat.zero_le _, h0⟩, ?_⟩
  rintro i m σ H ⟨rfl, hi, p⟩
  by_cases hlt : i < n
  · exact .inr ⟨hg i σ H hlt p, Pv (i + 1), fun σ' H' p' => ⟨n - (i + 1), by omega, rfl, hlt, p'⟩, fun x H' y => hs i σ H x H' hlt p y⟩
  · have e : i = n := by omega
    subst e
    exact .inl ⟨hst σ H p, hd σ H p⟩
def dOf (g : Int × Int → V) (T : Ts) : List (Key × V) := T.map fun t => ((Sum.inl t.1 : Key), g t)
section
variable {g : Int × Int → V}
theorem dOf_no {T : Ts} {p : Int} (h : p ∉ T.map (·.1)) : valV (dOf g T) (Sum.inl p : Key) = none := by
  induction T with
  | nil => rfl
  | cons t r ih =>
    have h1 : t.1 ≠ p := fun e => h (by simp [e])
    show valV (((Sum.inl t.1 : Key), g t) :: dOf g r) (Sum.inl p) = none
    rw [valV_neg (fun z => h1 (Sum.inl.inj z))]
    exact ih fun m => h (by simp; right; simpa using m)
theorem dOf_at {T : Ts} {t : Int × Int} (nd : (T.map (·.1)).Nodup) (h : t ∈ T) : valV (dOf g T) (Sum.inl t.1 : Key) = some (g t) := by
  induction T with
  | nil => simp at h
  | cons u r ih =>
    have nd' : (u.1 :: r.map (·.1)).Nodup := nd
    obtain ⟨n1, n2⟩ := List.nodup_cons.mp nd'
    show valV (((Sum.inl u.1 : Key), g u) :: dOf g r) (Sum.inl t.1) = some (g t)
    rcases List.mem_cons.mp h with e | h
    · subst e; rw [valV_pos rfl]
    · have hne : u.1 ≠ t.1 := fun e => n1 (by rw [e]; exact List.mem_map_of_mem h)
      rw [valV_neg (fun z => hne (Sum.inl.inj z))]
      exact ih n2 h
theorem dOf_drop (T : Ts) (p : Int) : dropK (dOf g T) (Sum.inl p : Key) = dOf g (T.filter fun t => !decide (t.1 = p)) := by
  unfold dropK dOf
  rw [List.filter_map]
  congr 1
  apply List.filter_congr
  intro t _
  simp only [Function.comp]
  by_cases e : t.1 = p
  · simp [e]
  · have : ¬ (Sum.inl t.1 : Key) = Sum.inl p := fun z => e (Sum.inl.inj z)
    simp [e, this]
theorem dOf_put {T : Ts} {p i : Int} (h : p ∉ T.map (·.1)) : putK (dOf g T) (Sum.inl p : Key) (g (p, i)) = dOf g (T ++ [(p, i)]) := by
  rw [putK_new _ (dOf_no h)]
  unfold dOf
  rw [List.map_append]
  rfl
theorem dOf_len (T : Ts) : (dOf g T).length = T.length := by unfold dOf; simp
end
abbrev LD (T : Ts) : List (Key × V) := dOf (fun _ => .bl true) T
abbrev SD (T : Ts) : List (Key × V) := dOf (fun t => .int t.2) T
def lf (room : Int) (ren : Bool) (ln : Addr) : List (Str × V) := [("room", .int room), ("renews", .bl ren), ("line", .ref ln)]
section
variable {room : Int} {ren : Bool} {ln : Addr}
theorem lf_room : (lf room ren ln).lookup ("room" : Str) = some (.int room) := by rfl
theorem lf_ren : (lf room ren ln).lookup ("renews" : Str) = some (.bl ren) := by rfl
theorem lf_line : (lf room ren ln).lookup ("line" : Str) = some (.ref ln) := by rfl
theorem lf_ask : (lf room ren ln).lookup ("ask" : Str) = none := by rfl
end
structure LineAt (C : Addr) (H : Hp) (p ln : Addr) (room : Int) (ren : Bool) (T : Ts) : Prop where
  ob : ∃ dx, H p = some (.ins C dx (lf room ren ln))
  d : H ln = some (.dK (LD T))
  nd : (T.map (·.1)).Nodup
  sm : T.length ≤ 500
theorem LineAt.keep {C : Addr} {H H' : Hp} {p ln : Addr} {room : Int} {ren : Bool} {T : Ts} (h : LineAt C H p ln room ren T) (s : Same H H') : LineAt C H' p ln room ren T := by
  obtain ⟨⟨dx, h1⟩, h2, h3, h4⟩ := h
  exact ⟨⟨dx, s _ _ h1⟩, s _ _ h2, h3, h4⟩
theorem LineAt.put {C : Addr} {H : Hp} {p ln l : Addr} {o : HO} {room : Int} {ren : Bool} {T : Ts} (h : LineAt C H p ln room ren T) (n1 : p ≠ l) (n2 : ln ≠ l) : LineAt C (upd H l o) p ln room ren T := by
  obtain ⟨⟨dx, h1⟩, h2, h3, h4⟩ := h
  exact ⟨⟨dx, by rw [upd_ne n1]; exact h1⟩, by rw [upd_ne n2]; exact h2, h3, h4⟩
def spLInit (C : Addr) : Sp := fun vs H Q _ => ∃ (p dx : Addr) (room : Int) (ren : Bool), vs = [.ref p, .int room, .bl ren] ∧ H p = some (.ins C dx []) ∧
  ∀ (ln : Addr) (H' : Hp), H ln = none → LineAt C H' p ln room ren [] → Kp [p] H H' → Q .non H'
def spLAsk (C : Addr) : Sp := fun vs H Q _ => ∃ (p ln : Addr) (room page i : Int) (ren : Bool) (T : Ts), vs = [.ref p, .int page] ∧ LineAt C H p ln room ren T ∧ 1 ≤ room ∧ T.length < 500 ∧
  ∀ (t : Addr) (H' : Hp), H t = none → H' t = some (.tup (stepV (page, (askT room ren T i page).2.1, (askT room ren T i page).2.2))) →
    LineAt C H' p ln room ren (askT room ren T i page).1 → Kp [p, ln] H H' → Q (.ref t) H'
def ruleOf (ren : Bool) : Str := if ren then "last" else "first"
def spEmptyL (C : Addr) : Sp := fun vs H Q _ => ∃ (tr : V) (room : Int) (ren : Bool), vs = [tr, .int room, .str (ruleOf ren)] ∧
  ∀ (x ln : Addr) (H' : Hp), H x = none → H ln = none → LineAt C H' x ln room ren [] → Same H H' → Q (.ref x) H'
def spWalkL : Sp := fun vs H Q _ => ∃ (tr : Addr) (room : Int) (ren : Bool) (ns : List Int), vs = [.ref tr, .int room, .str (ruleOf ren)] ∧ H tr = some (.lst (ns.map V.int)) ∧ 1 ≤ room ∧ ns.length ≤ 400 ∧
  ∀ (l : Addr) (ts : List Addr) (H' : Hp), H l = none → H' l = some (.lst (ts.map V.ref)) → StepsAt H' ts (runT room ren [] 0 ns) → Same H H' → Q (.ref l) H'
def spLined : Sp := fun vs H Q _ => ∃ (tr : Addr) (room : Int) (ren : Bool) (ns : List Int), vs = [.ref tr, .int room, .str (ruleOf ren)] ∧ H tr = some (.lst (ns.map V.int)) ∧ 1 ≤ room ∧ ns.length ≤ 400 ∧
  ∀ (l : Addr) (ts : List Addr) (H' : Hp), H l = none → H' l = some (.lst (ts.map V.ref)) → StepsAt H' ts (runT room ren [] 0 ns) → Same H H' → Q (.ref l) H'
end Pg
end
section
set_option Elab.async false
set_option linter.all false
set_option maxRecDepth 100000
set_option maxHeartbeats 4000000
namespace Pg
open PySem PySem.Spec PyProof.Rows L2
section
variable {σ : L2.St} {H : Hp} {K : PySem.W.Frag}
theorem rd_gtup {a : Addr} {xs : List V} {n : Nat} {t : TGs} {Q : L2.St → Hp → Prop} (h : H a = some (.tup xs)) (e : xs.length = n) (q : t xs σ H Q) : gTup K n t (.ref a) σ H Q := ⟨a, xs, rfl, .inl (.inl h), e, q⟩
theorem rd_gcons {t : TG} {u : TGs} {v : V} {r : List V} {Q : L2.St → Hp → Prop} (q : t v σ H fun σ' H' => u r σ' H' Q) : gCons t u (v :: r) σ H Q := ⟨v, r, rfl, q⟩
theorem rd_gnil {Q : L2.St → Hp → Prop} (q : Q σ H) : gNil [] σ H Q := ⟨rfl, q⟩
end
def PrsAt (H : Hp) (ts : List Addr) (D : Ts) : Prop := Paired (fun t (z : Int × Int) => H t = some (.tup [.int z.2, .int z.1])) ts D
theorem PrsAt.imp {H H' : Hp} : ∀ {ts : List Addr} {D : Ts}, PrsAt H ts D → (∀ t xs, H t = some (.tup xs) → H' t = some (.tup xs)) → PrsAt H' ts D
  | _, _, .nil, _ => .nil
  | _, _, .cons r t, f => .cons (f _ _ r) (PrsAt.imp t f)
theorem PrsAt.snoc {H : Hp} : ∀ {ts : List Addr} {D : Ts} {a : Addr} {z : Int × Int}, PrsAt H ts D → H a = some (.tup [.int z.2, .int z.1]) → PrsAt H (ts ++ [a]) (D ++ [z])
  | _, _, _, _, .nil, h => .cons h .nil
  | _, _, _, _, .cons r t, h => .cons r (PrsAt.snoc t h)
theorem PrsAt.len {H : Hp} : ∀ {ts : List Addr} {D : Ts}, PrsAt H ts D → ts.length = D.length
  | _, _, .nil => rfl
  | _, _, .cons r t => by simp [PrsAt.len t]
theorem PrsAt.fst {H : Hp} : ∀ {ts : List Addr} {D : Ts} {t : Addr}, PrsAt H ts D → t ∈ ts → ∃ z ∈ D, H t = some (.tup [.int z.2, .int z.1])
  | _, _, t, .cons (a := a) (b := z) r q, h => by
    rcases List.mem_cons.mp h with e | h
    · subst e; exact ⟨z, List.mem_cons_self, r⟩
    · obtain ⟨z', m, e⟩ := PrsAt.fst q h
      exact ⟨z', List.mem_cons_of_mem _ m, e⟩
def prOf (H : Hp) (t : Addr) : Int × Int := match H t with
  | some (.tup [.int x, .int y]) => (x, y)
  | _ => (0, 0)
theorem prOf_at {H : Hp} {t : Addr} {x y : Int} (h : H t = some (.tup [.int x, .int y])) : prOf H t = (x, y) := by unfold prOf; rw [h]
theorem PrsAt.pr {H : Hp} {ts : List Addr} {D : Ts} (h : PrsAt H ts D) (t : Addr) (m : t ∈ ts) : H t = some (.tup [.int (prOf H t).1, .int (prOf H t).2]) := by
  obtain ⟨z, _, e⟩ := h.fst m
  rw [prOf_at e]; exact e
theorem map_put {D : Ts} {p i : Int} (h : p ∈ D.map (·.1)) : putK (SD D) (Sum.inl p : Key) (V.int i) = SD (D.map fun t => if t.1 = p then (p, i) else t) := by
  obtain ⟨t, ht, e⟩ := List.mem_map.mp h
  have ha : (SD D).any (fun kv => decide (kv.1 = (Sum.inl p : Key))) = true := by
    rw [List.any_eq_true]
    exact ⟨_, List.mem_map_of_mem ht, by simp [e]⟩
  unfold putK
  rw [if_pos ha]
  unfold SD dOf
  rw [List.map_map, List.map_map]
  apply List.map_congr_left
  intro u _
  simp only [Function.comp]
  by_cases e : u.1 = p
  · rw [if_pos (by rw [e]), if_pos e, e]
  · rw [if_neg (fun z => e (Sum.inl.inj z)), if_neg e]
end Pg
end
section
set_option Elab.async false
set_option linter.all false
set_option maxRecDepth 100000
set_option maxHeartbeats 4000000
namespace Srt
open PySem PyProof.Rows
end Srt
namespace Pg
open PySem PySem.Spec PyProof.Rows L2
section
variable {X : Cx} {x : Str} {p pos : Pos} {e : Expr} {es : List Expr} {kws : List Keyword} {t tk : TA} {id : String} {ks : List Str}
def CallKR (X : Cx) (f : Value) (ks : List Str) (r : List V → List V → Hp → VK → Prop) : Prop :=
  ∀ (pins : List (Addr × Obj)) (s : Shared) (σ : L2.St) (H : Hp) (xs zs : List V) (us ws : List Value) (Q : VK), Inv X pins σ H s → Vals xs us → Vals zs ws → r xs zs H Q →
    wpAny (model X.prog X.w) X.A (call f us (ks.zip ws)) (EP X pins σ Q) X.xe s
def tCBK (r : List V → List V → Hp → VK → Prop) (t tk : TA) : TE := fun σ H Q => t σ H fun vs H1 => tk σ H1 fun zs H2 => r vs zs H2 Q
def rSortedR (K : PySem.W.Frag) : List V → List V → Hp → VK → Prop := fun vs zs H Q => ∃ (a : Addr) (ns : List Int), vs = [V.ref a] ∧ zs = [V.bl true] ∧ SqL K H a (ns.map V.int) ∧
  ∀ (ns' : List Int) (p : Addr), ns'.Perm ns → ns'.Pairwise (· ≥ ·) → H p = none → Q (.ref p) (upd H p (.lst (ns'.map V.int)))
def RngO (r : Addr) (i j c : Int) : HO := .ext fun h => ∃ t u v, IsRange h r i j c t u v
def rRange3 : List V → Hp → VK → Prop := fun vs H Q => ∃ i j c : Int, vs = [.int i, .int j, .int c] ∧ c ≠ 0 ∧ c.natAbs < 1073741824 ∧ ∀ r, H r = none → Q (.ref r) (upd H r (RngO r i j c))
def rListR : List V → Hp → VK → Prop := fun vs H Q => ∃ (r : Addr) (i j c : Int) (n : Nat), vs = [.ref r] ∧ H r = some (RngO r i j c) ∧ RgC i j c n ∧ n ≤ sizeLine ∧
  ∀ l, H l = none → Q (.ref l) (upd H l (.lst ((List.range n).map fun k : Nat => V.int (i + (k : Int) * c))))
end
end Pg
end
section
set_option Elab.async false
set_option linter.all false
set_option maxRecDepth 100000
namespace Pg
def ddp : List Int → List Int
  | [] => []
  | x :: r => if x ∈ r then ddp r else x :: ddp r
theorem ddp_mem (x : Int) : ∀ l, x ∈ ddp l ↔ x ∈ l
  | [] => by simp [ddp]
  | y :: r => by
    unfold ddp
    split
    · rename_i h
      rw [ddp_mem x r, List.mem_cons]
      constructor
      · exact .inr
      · rintro (rfl | h')
        · exact h
        · exact h'
    · rw [List.mem_cons, List.mem_cons, ddp_mem x r]
theorem ddp_nd : ∀ l, (ddp l).Nodup
  | [] => List.nodup_nil
  | y :: r => by
    unfold ddp
    split
    · exact ddp_nd r
    · rename_i h
      exact List.nodup_cons.mpr ⟨fun m => h ((ddp_mem y r).mp m), ddp_nd r⟩
def dc (l : List Int) : Nat := (ddp l).length
theorem dc_of {us l : List Int} (h : us.Nodup) (m : ∀ k, k ∈ us ↔ k ∈ l) : us.length = dc l :=
  ((List.perm_ext_iff_of_nodup h (ddp_nd l)).mpr fun k => (m k).trans (ddp_mem k l).symm).length_eq
theorem dc_le (l : List Int) : dc l ≤ l.length := by
  unfold dc
  induction l with
  | nil => simp [ddp]
  | cons x r ih =>
    unfold ddp
    split
    · simp; omega
    · simp; omega
def recS (l : List Int) : List Int := l.foldl (fun R p => R.filter (fun x => !decide (x = p)) ++ [p]) []
theorem snocInd {α : Type} {M : List α → Prop} (h0 : M []) (hs : ∀ l p, M l → M (l ++ [p])) : ∀ l, M l := by
  have key : ∀ l : List α, M l.reverse := by
    intro l
    induction l with
    | nil => exact h0
    | cons x r ih => rw [List.reverse_cons]; exact hs _ _ ih
  intro l
  have := key l.reverse
  rwa [List.reverse_reverse] at this
def lastIdx (l : List Int) (p : Int) : Option Nat := ((List.range l.length).filter (fun k => l[k]? == some p)).getLast?
theorem lastIdx_nil (p : Int) : lastIdx [] p = none := rfl
theorem lastIdx_snoc (l : List Int) (x p : Int) : lastIdx (l ++ [x]) p = if x = p then some l.length else lastIdx l p := by
  unfold lastIdx
  have e : (l ++ [x]).length = l.length + 1 := by simp
  rw [e, List.range_succ, List.filter_append]
  have e1 : (List.range l.length).filter (fun k => (l ++ [x])[k]? == some p) = (List.range l.length).filter (fun k => l[k]? == some p) := by
    apply List.filter_congr
    intro k hk
    rw [List.getElem?_append_left (by simpa using hk)]
  rw [e1]
  have e2 : (l ++ [x])[l.length]? = some x := by simp
  by_cases hx : x = p
  · rw [List.filter_cons_of_pos (by rw [e2, hx]; simp), if_pos hx]
    simp
  · rw [List.filter_cons_of_neg (by rw [e2]; simp [hx]), if_neg hx]
    simp
theorem lastIdx_lt {l : List Int} {p : Int} {j : Nat} (h : lastIdx l p = some j) : j < l.length := by
  have := List.mem_of_getLast? h
  simpa using (List.mem_filter.mp this).1
def depthAt (l : List Int) (p : Int) : Option Nat := (lastIdx l p).map fun j => dc (l.drop (j + 1) ++ [p])
def within (r : Nat) : Option Nat → Bool
  | none => false
  | some d => decide (d ≤ r)
def lastN (r : Nat) (l : List Int) : List Int := l.drop (l.length - r)
def deps : List Int → List Int → List (Option Nat)
  | _, [] => []
  | pre, p :: r => depthAt pre p :: deps (pre ++ [p]) r
def outN (ds : List (Option Nat)) (r : Nat) : Nat := (ds.filter fun d => !within r d).length
def curveN (ns : List Int) : Nat := max 1 (dc ns)
def curveOf (ns : List Int) : List Int := (List.range (curveN ns)).map fun k => (outN (deps [] ns) (k + 1) : Int)
end Pg
end
section
set_option Elab.async false
set_option linter.all false
set_option maxRecDepth 100000
set_option maxHeartbeats 4000000
namespace Pg
open PySem PySem.Spec PyProof.Rows L2
section
variable {σ : L2.St} {H : Hp} {Q : VK}
theorem rd_sl {r : V → Option Int → Option Int → Hp → VK → Prop} {te : TE} {tl th : TO} (q : te σ H fun x H1 => tl σ H1 fun l H2 => th σ H2 fun u H3 => r x l u H3 Q) : tSl r te tl th σ H Q := q
theorem rd_part {t : TE} {R : Option Int → Hp → Prop} (q : t σ H fun x H1 => ∃ i, x = .int i ∧ R (some i) H1) : tPart t σ H R := q
theorem rd_pint {i : Int} {R : Int → Prop} (q : R i) : ∃ k, V.int i = .int k ∧ R k := ⟨i, rfl, q⟩
theorem rd_cbk {r : List V → List V → Hp → VK → Prop} {t tk : TA} (q : t σ H fun vs H1 => tk σ H1 fun zs H2 => r vs zs H2 Q) : tCBK r t tk σ H Q := q
end
def rLenQ (K : PySem.W.Frag) : List V → Hp → VK → Prop := fun xs H Q => ∃ p ys, xs = [V.ref p] ∧ (SqL K H p ys ∨ SqT K H p ys) ∧ Q (.int ys.length) H
theorem putK_le {κ : Type} [DecidableEq κ] (kvs : List (κ × V)) (k : κ) (v : V) : (putK kvs k v).length ≤ kvs.length + 1 := by
  unfold putK
  split <;> simp
def optV : Option Nat → V
  | none => .non
  | some n => .int (n : Int)
def optD : Option Nat → PyData
  | none => .none
  | some n => .int (n : Int)
def prevs : List Int → List Int → List (Option Nat)
  | _, [] => []
  | pre, p :: r => lastIdx pre p :: prevs (pre ++ [p]) r
theorem prevs_snoc : ∀ (l pre : List Int) (p : Int), prevs pre (l ++ [p]) = prevs pre l ++ [lastIdx (pre ++ l) p]
  | [], pre, p => by simp [prevs]
  | x :: r, pre, p => by
    show lastIdx pre x :: prevs (pre ++ [x]) (r ++ [p]) = lastIdx pre x :: (prevs (pre ++ [x]) r ++ _)
    rw [prevs_snoc r]
    simp
theorem prevs_len : ∀ (l pre : List Int), (prevs pre l).length = l.length
  | [], _ => rfl
  | x :: r, pre => by simp [prevs, prevs_len r]
theorem prevs_at : ∀ (l pre : List Int) (i : Nat) (p : Int), l[i]? = some p → (prevs pre l)[i]? = some (lastIdx (pre ++ l.take i) p)
  | [], _, _, _, h => by simp at h
  | x :: r, pre, 0, p, h => by simp at h; subst h; simp [prevs]
  | x :: r, pre, i + 1, p, h => by
    have := prevs_at r (pre ++ [x]) i p (by simpa using h)
    simp [prevs]
    simpa using this
def spOf (f : List Int → List V) : Sp := fun vs H Q _ => ∃ (tr : Addr) (ns : List Int), vs = [.ref tr] ∧ H tr = some (.lst (ns.map V.int)) ∧ ns.length ≤ 400 ∧
  ∀ (l : Addr) (H' : Hp), H l = none → H' l = some (.lst (f ns)) → Same H H' → Q (.ref l) H'
def spPrevs : Sp := spOf fun ns => (prevs [] ns).map optV
def spDeps : Sp := spOf fun ns => (deps [] ns).map optV
def spCurve : Sp := spOf fun ns => (curveOf ns).map V.int
def spRight : Sp := fun vs H Q _ => ∃ (tr l : Addr) (ns : List Int), vs = [.ref tr, .ref l] ∧ H tr = some (.lst (ns.map V.int)) ∧ ns.length ≤ 400 ∧ H l = some (.lst ((curveOf ns).map V.int)) ∧ ∀ H', Same H H' → Q (.bl true) H'
end Pg
end
section
set_option Elab.async false
set_option linter.all false
set_option maxRecDepth 100000
set_option maxHeartbeats 4000000
namespace Pg
open PySem PySem.Spec PyProof.Rows L2 PySem.W
abbrev farBody (p1 p2 p3 p4 p5 p6 : Pos) (k : Nat) : Expr := .Tuple [.UnaryOp .USub (.Subscript (.Name "due" p1) (.Name "page" p2) p3) p4, .Name "page" p5] k p6
abbrev tup2 (x y : Value) : Obj := { cls := .type "tuple", data := .seq #[x, y] }
section
variable {prog : Program} {w : World} {A : Around} {E : Value → Shared → Prop} {s : Shared} {p1 p2 p3 p4 p5 p6 : Pos} {k : Nat}
theorem lam_eval {env : Env} {m : Str → Option Value} {cc d : Addr} {vs : List (Key × Value)} {p v : Int} {t tv : Tok} {Q : Value → Shared → Prop} (hk : env.scope.kind = .function) (hd : env.kindOf "due" = some .free) (hp : env.kindOf "page" = some .local) (hc : env.cells.lookup ("due" : Str) = some cc)
    (hcell : s.heap.IsCell cc (some (.ref d))) (hn : s.heap.Ns env.locals m) (hm : m "page" = some (.int p t)) (dd : s.heap.DictOf (mixKind prog w) d vs) (hv : valueAt vs (Sum.inl p : Key) = some (.int v tv))
    (h : ∀ tk t1 t', Q (.ref s.heap.objs.size) { s with heap := s.heap.push (tup2 (.int (-v) t1) (.int p t')), toks := tk }) : wpAny (model prog w) A (eval (farBody p1 p2 p3 p4 p5 p6 k) env) Q E s := by
  refine wpAny_Tuple_spliced ?_
  show wpAny _ _ (spliced ((false, eval (.UnaryOp .USub (.Subscript (.Name "due" p1) (.Name "page" p2) p3) p4) env) :: _)) _ _ s
  refine Calls.spliced_cons (UnaryOp_ (subD_of PySem.F.slot_dict_getitem.lookup (fun _ _ => rfl) (wpAny_Name (wpAny_loadName_free hk hd hc hcell ?_) (by decide)) ))
  refine wpAny_Name (wpAny_loadName_local hk hp hn hm ⟨dd.typeIs, ?_⟩) (by decide)
  refine wpAny_getItem_of (knd := mixKind prog w) (k := (Sum.inl p : Key)) (kV_is ⟨t, rfl⟩) dd.mapOf hv ?_
  refine neg_int ?_
  refine Calls.spliced_cons (wpAny_Name (wpAny_loadName_local hk hp hn hm ?_) (by decide))
  refine Calls.spliced_nil ⟨by show 2 ≤ sizeLine; decide, ?_⟩
  exact h _ _ _
theorem lam_call {args : Arguments} {scope : Scope} {qual : Str} {pm ctv : Value} {q c' cc d : Addr} {vs : List (Key × Value)} {p v : Int} {t tv : Tok} {Q : Value → Shared → Prop} (hroom : A.depth < recursionLimit)
    (ho : s.heap.get? q = some (kla_obj "<lambda>" qual args (farBody p1 p2 p3 p4 p5 p6 k) scope [("due", cc)] pm c' ctv)) (hcd : s.heap.CodeRec (.ref c') qual) (lim : s.heap.NoLimit)
    (hbind : bindArgs (kla_fn "<lambda>" qual args (farBody p1 p2 p3 p4 p5 p6 k) scope [("due", cc)] pm (.ref c') ctv) ⟨[.int p t], []⟩ = pure [(("page" : Str), Value.int p t)])
    (hco : scope.isCoroutine = false) (hgen : scope.isGenerator = false) (hk : scope.kind = .function) (hnc : ∀ x ∈ scope.names, x.2 ≠ .cell) (hd : scope.names.lookup ("due" : Str) = some NameKind.free) (hp : scope.names.lookup ("page" : Str) = some NameKind.local)
    (hcell : s.heap.IsCell cc (some (.ref d))) (dd : s.heap.DictOf (mixKind prog w) d vs) (hv : valueAt vs (Sum.inl p : Key) = some (.int v tv))
    (h : ∀ h' tk t' t1 t2, (∀ b o, s.heap.get? b = some o → h'.get? b = some o) → s.heap.objs.size ≤ t' → h'.get? t' = some (tup2 (.int (-v) t1) (.int p t2)) → Q (.ref t') { s with heap := h', toks := tk }) :
    wpAny (model prog w) A (call (.ref q) [.int p t]) Q E s := by
  refine wpAny_call (kla_callFunE hroom ho rfl hco hgen rfl hcd ?_)
  rw [hbind]
  refine wpAny_pure (wpAny_newFunctionEnv hnc (fun x hx => ?_) (fun h1 hns hsb => ⟨lim.fresh _ hsb, ?_⟩) hk)
  · rw [List.mem_singleton.mp hx]; exact hp
  have keep : ∀ b o, s.heap.get? b = some o → h1.get? b = some o := fun b o e => hsb.extBut b o (Nat.ne_of_lt (Heap.lt_size e)) (Heap.get?_push_of_some _ e)
  refine kla_codeExpr ?_
  refine lam_eval (d := d) (env := newEnv scope s.heap.objs.size mainGlobals [("due", cc)] (qual ++ ".<locals>.") (some q) (.ref c') none builtinsNs) hk hd hp rfl ?_ hns rfl ?_ hv fun tk t1 t' => ?_
  · obtain ⟨o, e1, e2⟩ := hcell
    exact ⟨o, keep _ _ e1, e2⟩
  · obtain ⟨o, es, ep, e1, r⟩ := dd
    exact ⟨o, es, ep, keep _ _ e1, r⟩
  · have hsz : s.heap.objs.size ≤ h1.objs.size := by
      have := hns.lt
      exact Nat.le_of_lt this
    exact h _ tk _ t1 t' (fun b o e => Heap.get?_push_of_some _ (keep b o e)) hsz (Heap.get?_push_size _ rfl)
end
end Pg
end
section
set_option Elab.async false
set_option linter.all false
set_option maxRecDepth 100000
set_option maxHeartbeats 4000000
namespace Pg
open PySem PySem.Spec PyProof.Rows L2 PySem.W
def Kept (g h : Heap) : Prop := ∀ b o, g.get? b = some o → h.get? b = some o
theorem Kept.refl (g : Heap) : Kept g g := fun _ _ e => e
theorem Kept.trans {a b c : Heap} (x : Kept a b) (y : Kept b c) : Kept a c := fun b o e => y b o (x b o e)
def lt2 (a b c d : Int) : Bool := decide (a < c ∨ (a = c ∧ b < d))
theorem lex2 {a b c d : Int} : HT.lexLt [a, b] [c, d] = lt2 a b c d := by
  show (if a = c then (if b = d then false else decide (b < d)) else decide (a < c)) = _
  unfold lt2
  by_cases h1 : a = c
  · by_cases h2 : b = d
    · simp [h1, h2]
    · simp [h1, h2]
  · simp [h1]
section
variable {prog : Program} {w : World} {A : Around} {E : Value → Shared → Prop} {s : Shared} {R : Result → Shared → Prop}
def TurnK (prog : Program) (w : World) (A : Around) (s : Shared) (g : Heap) (q : Addr) (ks : List Int) (fa fb : Int → Int) : Prop :=
  ∀ (k : Int) (t : Tok) (h : Heap) (tk : Nat), k ∈ ks → Kept g h → wpAny (model prog w) A.in1 (call (.ref q) [.int k t]) (fun x s'' => ∃ h' tk' t' t1 t2, s'' = { s with heap := h', toks := tk' } ∧ x = .ref t' ∧ Kept h h' ∧ h'.get? t' = some (tup2 (.int (fa k) t1) (.int (fb k) t2))) (fun _ _ => False) { s with heap := h, toks := tk }
theorem min_loop_keys {d q I S : Addr} {ks : List Int} {es : Array DictEntry} {od : Obj} {ep : Nat} {g : Heap} {fa fb : Int → Int}
    (hh : A.handled = none) (hu : A.in1.units < cLine)
    (hd : g.get? d = some od) (hdd : od.data = .dict es ep) (hes : ∀ (i : Nat) (k : Int), ks[i]? = some k → ∃ (en : DictEntry) (t : Tok), es[i]? = some en ∧ en.key = .int k t) (hsz : es.size = ks.length)
    (hI : g.objs.size ≤ I) (hS : g.objs.size ≤ S) (hSI : S ≠ I) (turn : TurnK prog w A s g q ks fa fb)
    (hR : ∀ k t h' tk', k ∈ ks → (∀ k' ∈ ks, lt2 (fa k') (fb k') (fa k) (fb k) = false) → Kept g h' → R (.ok (.ret (.int k t))) { s with heap := h', toks := tk' }) :
    ∀ (r j : Nat) (h : Heap) (tk : Nat) (kb : Int) (tb t1 t2 : Tok) (bt : Addr) (c : Nat), ks.length - (j + 1) = r → j + 1 ≤ ks.length → Kept g h → h.get? S = some (seqObj "list" #[.int kb tb, .ref bt] c) → h.IsKeyIter I d (j + 1) ks.length ep →
      h.get? bt = some (tup2 (.int (fa kb) t1) (.int (fb kb) t2)) → kb ∈ ks → (∀ (j' : Nat) (k' : Int), j' ≤ j → ks[j']? = some k' → lt2 (fa k') (fb k') (fa kb) (fb kb) = false) →
      codeAny (model prog w) A (.builtin "min.loop" ⟨[.ref I, .ref q, .ref S], []⟩) R { s with heap := h, toks := tk } := by
  have hname : (toString "min" ++ toString ".loop" : String) = "min.loop" := by decide
  have neI : ∀ b o, g.get? b = some o → b ≠ I := fun b o e => Nat.ne_of_lt (Nat.lt_of_lt_of_le (Heap.lt_size e) hI)
  have neS : ∀ b o, g.get? b = some o → b ≠ S := fun b o e => Nat.ne_of_lt (Nat.lt_of_lt_of_le (Heap.lt_size e) hS)
  intro r
  induction r with
  | zero =>
    intro j h tk kb tb t1 t2 bt c hr hj hk hSo hit hbt hkb hbest
    have hin : j + 1 = ks.length := by omega
    refine codeAny_builtin PySem.F.entry_min_loop ?_
    rw [Around.under_plainId PySem.F.plain_min_loop _]
    show wpAny _ A.in1 (seqItems? (.ref S) >>= _) _ _ _
    refine wpAny_bind (wpAny_seqItems hSo rfl ?_)
    show wpAny _ A.in1 (tryCatch (pyNext (.ref I)) _ >>= _) _ _ _
    refine wpAny_bind (wpAny_tryCatch (next_key_end (s := { s with heap := h, toks := tk }) hh hit (hk _ _ hd) hdd hsz (Nat.le_of_eq hin.symm) fun h' eb => ?_))
    have hS' : h'.get? S = some (seqObj "list" #[.int kb tb, .ref bt] c) := eb S _ hSI hSo
    have s1 := Heap.SameBut.update h' S (Obj.mapSeq fun _ => (#[] : Array Value))
    show wpAny _ A.in1 (updateSeq S (fun _ => #[]) >>= _) _ _ _
    refine wpAny_bind ?_
    refine wpAny_updateSeq hS' rfl (wpAny_bind (wpAny_letGo (wpAny_pure ?_)))
    refine hR kb tb _ _ hkb (fun k' hk' => ?_) fun b o e => (s1.2 b (neS b o e)).trans (eb b o (neI b o e) (hk b o e))
    obtain ⟨j', hj', e'⟩ := List.getElem_of_mem hk'
    exact hbest j' k' (by omega) (by rw [← e']; exact List.getElem?_eq_getElem hj')
  | succ r ih =>
    intro j h tk kb tb t1 t2 bt c hr hj hk hSo hit hbt hkb hbest
    have hlt : j + 1 < ks.length := by omega
    obtain ⟨k, hkk⟩ : ∃ k, ks[j + 1]? = some k := ⟨_, List.getElem?_eq_getElem hlt⟩
    obtain ⟨en, t, hen, hkey⟩ := hes _ _ hkk
    refine codeAny_builtin PySem.F.entry_min_loop ?_
    rw [Around.under_plainId PySem.F.plain_min_loop _]
    show wpAny _ A.in1 (seqItems? (.ref S) >>= _) _ _ _
    refine wpAny_bind (wpAny_seqItems hSo rfl ?_)
    show wpAny _ A.in1 (tryCatch (pyNext (.ref I)) _ >>= _) _ _ _
    refine wpAny_bind (wpAny_tryCatch (next_key_item (s := { s with heap := h, toks := tk }) hit (hk _ _ hd) hdd hsz hen fun h' hit' sb => ?_))
    rw [hkey]
    have k1 : Kept g h' := fun b o e => (sb.2 b (neI b o e)).trans (hk b o e)
    show wpAny _ A.in1 (tryCatch (holding [.int k t] (call (.ref q) [.int k t])) _ >>= _) _ _ _
    refine wpAny_bind (wpAny_tryCatch (wpAny_holding (wpAny_mono (turn k t h' tk (List.mem_of_getElem? hkk) k1) (fun x s'' he => ?_) fun _ _ hF => hF.elim)))
    obtain ⟨h2, tk2, nt, u1, u2, rfl, rfl, k2, hnt⟩ := he
    have nbI : bt ≠ I := fun z => by
      obtain ⟨oi, hoi, hci, _⟩ := hit
      rw [z, hoi] at hbt
      have e := Option.some.inj hbt
      rw [e] at hci
      exact absurd (show Value.type "tuple" = Value.type "dict_keyiterator" from hci) (by decide)
    have hS2 : h2.get? S = some (seqObj "list" #[.int kb tb, .ref bt] c) := k2 _ _ ((sb.2 S hSI).trans hSo)
    have hb2 : h2.get? bt = some (tup2 (.int (fa kb) t1) (.int (fb kb) t2)) := k2 _ _ ((sb.2 bt nbI).trans hbt)
    have hit2 : h2.IsKeyIter I d (j + 1 + 1) ks.length ep := by
      obtain ⟨oi, hoi, hci⟩ := hit'
      exact ⟨oi, k2 _ _ hoi, hci⟩
    show wpAny _ A.in1 (tryCatch (holding [.int k t, .ref nt] (richCompare .Lt (.ref nt) (.ref bt) >>= _)) _ >>= _) _ _ _
    refine wpAny_bind (wpAny_tryCatch (wpAny_holding (wpAny_bind (HT.lt_tupInts (s := { s with heap := h2, toks := tk2 }) (ns := [fa k, fb k]) (ms := [fa kb, fb kb]) ⟨_, hnt, rfl, 0, rfl⟩ ⟨_, hb2, rfl, 0, rfl⟩ (.cons _ _ (.cons _ _ .nil)) (.cons _ _ (.cons _ _ .nil)) hu ?_))))
    rw [lex2]
    refine wpAny_bind (wpAny_holding (wpAny_truthy_bool ?_))
    refine wpAny_bind (wpAny_letGo (wpAny_pure ?_))
    by_cases hb' : lt2 (fa k) (fb k) (fa kb) (fb kb) = true
    · have s1 := Heap.SameBut.update h2 S (Obj.mapSeq fun _ => #[.int k t, .ref nt])
      obtain ⟨c2, hc2⟩ : ∃ c2, (h2.update S (Obj.mapSeq fun _ => #[.int k t, .ref nt])).get? S = some (seqObj "list" #[.int k t, .ref nt] c2) := ⟨_, get?_update_seq hS2 fun _ => #[.int k t, .ref nt]⟩
      have nSt : nt ≠ S := fun z => by
        rw [z, hS2] at hnt
        have e := congrArg Obj.cls (Option.some.inj hnt)
        exact absurd (show Value.type "list" = Value.type "tuple" from e) (by decide)
      simp only [hb', if_true]
      refine wpAny_bind ?_
      refine wpAny_updateSeq hS2 rfl (wpAny_bind (wpAny_letGo ?_))
      rw [hname]
      refine wpAny_pure ⟨plainId_quiet PySem.F.plain_min_loop _, ih (j + 1) _ _ k t u1 u2 nt c2 (by omega) hlt (fun b o e => (s1.2 b (neS b o e)).trans (k2 _ _ (k1 _ _ e))) hc2 ?_ ((s1.2 nt nSt).trans hnt) (List.mem_of_getElem? hkk) fun j' k' hj' e' => ?_⟩
      · obtain ⟨oi, hoi, hci⟩ := hit2
        exact ⟨oi, (s1.2 I hSI.symm).trans hoi, hci⟩
      · by_cases e : j' = j + 1
        · subst e
          rw [hkk] at e'; cases e'
          unfold lt2; simp
        · have hb1 := hbest j' k' (by omega) e'
          unfold lt2 at hb1 hb' ⊢
          simp only [decide_eq_false_iff_not, decide_eq_true_eq] at hb1 hb' ⊢
          omega
    · have hbf : lt2 (fa k) (fb k) (fa kb) (fb kb) = false := by simpa using hb'
      simp only [hbf, Bool.false_eq_true, if_false]
      refine wpAny_bind (wpAny_letGo ?_)
      rw [hname]
      refine wpAny_pure ⟨plainId_quiet PySem.F.plain_min_loop _, ih (j + 1) _ _ kb tb t1 t2 bt c (by omega) hlt (k1.trans k2) hS2 hit2 hb2 hkb fun j' k' hj' e' => ?_⟩
      by_cases e : j' = j + 1
      · subst e
        rw [hkk] at e'; cases e'
        exact hbf
      · exact hbest j' k' (by omega) e'
theorem min_keys {d q : Addr} {ks : List Int} {es : Array DictEntry} {od : Obj} {ep : Nat} {fa fb : Int → Int} {Q : Value → Shared → Prop}
    (hh : A.handled = none) (hu : A.in1.units < cLine) (hsm : (d == sysModules) = false) (hne : 0 < ks.length)
    (hd : s.heap.get? d = some od) (hx : od.ExactDict) (hdd : od.data = .dict es ep) (hes : ∀ (i : Nat) (k : Int), ks[i]? = some k → ∃ (en : DictEntry) (t : Tok), es[i]? = some en ∧ en.key = .int k t) (hsz : es.size = ks.length)
    (turn : TurnK prog w A s s.heap q ks fa fb)
    (hQ : ∀ k t h' tk', k ∈ ks → (∀ k' ∈ ks, lt2 (fa k') (fb k') (fa k) (fb k) = false) → Kept s.heap h' → Q (.int k t) { s with heap := h', toks := tk' }) :
    wpAny (model prog w) A (call (.builtin "min") [.ref d] [(Str.ofString "key", .ref q)]) Q E s := by
  have hname : (toString "min" ++ toString ".loop" : String) = "min.loop" := by decide
  refine kmk_tree PySem.F.kind_min PySem.F.plain_min PySem.F.entry_min (kmk_min_key _ _) ?_
  show wpAny _ A.in1 (Builtin.Builtins.bindParams "min" ["key", "default"] 0 ⟨[], [(Str.ofString "key", .ref q)]⟩ >>= _) _ _ s
  refine wpAny_bind (wpAny_of_eq (show Builtin.Builtins.bindParams "min" ["key", "default"] 0 ⟨[], [(Str.ofString "key", .ref q)]⟩ = pure [some (.ref q), none] from rfl) ?_)
  refine wpAny_bind (wpAny_pure ?_)
  refine wpAny_bind (iter_keys hsm hd hx hdd ?_)
  refine wpAny_bind (wpAny_newList ?_ (Nat.zero_le _))
  rw [hname]
  obtain ⟨oIt, hoIt⟩ : ∃ oIt : Obj, oIt = { cls := .type "dict_keyiterator", data := .fields #[.ref d, .int 0 0, .int es.size 0, .int ep 0] } := ⟨_, rfl⟩
  rw [← hoIt]
  have hS : (s.heap.push oIt).objs.size = s.heap.objs.size + 1 := size_push' ..
  have hSI : (s.heap.push oIt).objs.size ≠ s.heap.objs.size := by rw [hS]; exact Nat.ne_of_gt (Nat.lt_succ_self _)
  refine wpAny_pure ⟨plainId_quiet PySem.F.plain_min_loop _, ?_⟩
  have gI : ((s.heap.push oIt).push (seqObj "list" #[] 0)).get? s.heap.objs.size = some oIt := Heap.get?_push_of_some _ (Heap.get?_push_size _ (by rw [hoIt]; rfl))
  have gS : ((s.heap.push oIt).push (seqObj "list" #[] 0)).get? (s.heap.push oIt).objs.size = some (seqObj "list" #[] 0) := Heap.get?_push_size _ rfl
  have k0 : Kept s.heap ((s.heap.push oIt).push (seqObj "list" #[] 0)) := fun b o e => Heap.get?_push_of_some _ (Heap.get?_push_of_some _ e)
  have it0 : ((s.heap.push oIt).push (seqObj "list" #[] 0)).IsKeyIter s.heap.objs.size d 0 ks.length ep := ⟨_, gI, by rw [hoIt], by rw [hoIt, hsz]; rfl⟩
  obtain ⟨k, hkk⟩ : ∃ k, ks[0]? = some k := ⟨_, List.getElem?_eq_getElem hne⟩
  obtain ⟨en, t, hen, hkey⟩ := hes _ _ hkk
  have neI : ∀ b o, s.heap.get? b = some o → b ≠ s.heap.objs.size := fun b o e => Nat.ne_of_lt (Heap.lt_size e)
  have neS : ∀ b o, s.heap.get? b = some o → b ≠ (s.heap.push oIt).objs.size := fun b o e => by rw [hS]; exact Nat.ne_of_lt (Nat.lt_succ_of_lt (Heap.lt_size e))
  generalize hSS : (s.heap.push oIt).objs.size = S at *
  generalize hII : s.heap.objs.size = I at *
  refine codeAny_builtin PySem.F.entry_min_loop ?_
  rw [Around.under_plainId PySem.F.plain_min_loop _]
  show wpAny _ A.in1 (seqItems? (.ref _) >>= _) _ _ _
  refine wpAny_bind (wpAny_seqItems gS rfl ?_)
  show wpAny _ A.in1 (tryCatch (pyNext (.ref I)) _ >>= _) _ _ _
  refine wpAny_bind (wpAny_tryCatch (next_key_item (s := { s with heap := (s.heap.push oIt).push (seqObj "list" #[] 0) }) it0 (k0 _ _ hd) hdd hsz hen fun h' hit' sb => ?_))
  rw [hkey]
  have k1 : Kept s.heap h' := fun b o e => (sb.2 b (neI b o e)).trans (k0 b o e)
  show wpAny _ A.in1 (tryCatch (holding [.int k t] (call (.ref q) [.int k t])) _ >>= _) _ _ _
  refine wpAny_bind (wpAny_tryCatch (wpAny_holding (wpAny_mono (turn k t h' s.toks (List.mem_of_getElem? hkk) k1) (fun x s'' he => ?_) fun _ _ hF => hF.elim)))
  obtain ⟨h2, tk2, nt, u1, u2, rfl, rfl, k2, hnt⟩ := he
  have hS2 : h2.get? S = some (seqObj "list" #[] 0) := k2 _ _ ((sb.2 S hSI).trans gS)
  have s1 := Heap.SameBut.update h2 S (Obj.mapSeq fun _ => #[.int k t, .ref nt])
  obtain ⟨c2, hc2⟩ : ∃ c2, (h2.update S (Obj.mapSeq fun _ => #[.int k t, .ref nt])).get? S = some (seqObj "list" #[.int k t, .ref nt] c2) := ⟨_, get?_update_seq hS2 fun _ => #[.int k t, .ref nt]⟩
  have nSt : nt ≠ S := fun z => by
        rw [z, hS2] at hnt
        have e := congrArg Obj.cls (Option.some.inj hnt)
        exact absurd (show Value.type "list" = Value.type "tuple" from e) (by decide)
  show wpAny _ A.in1 (updateSeq S (fun _ => #[.int k t, .ref nt]) >>= _) _ _ _
  refine wpAny_bind ?_
  refine wpAny_updateSeq hS2 rfl ?_
  rw [hname]
  refine wpAny_pure ⟨plainId_quiet PySem.F.plain_min_loop _, min_loop_keys (g := s.heap) hh hu hd hdd hes hsz (by omega) (by omega) hSI turn hQ _ 0 _ _ k t u1 u2 nt c2 rfl hne (fun b o e => (s1.2 b (neS b o e)).trans (k2 _ _ (k1 _ _ e))) hc2 ?_ ((s1.2 nt nSt).trans hnt) (List.mem_of_getElem? hkk) fun j' k' hj' e' => ?_⟩
  · obtain ⟨oi, hoi, hci⟩ := hit'
    exact ⟨oi, (s1.2 I hSI.symm).trans (k2 _ _ hoi), hci⟩
  · have e : j' = 0 := by omega
    subst e
    rw [hkk] at e'; cases e'
    unfold lt2; simp
end
end Pg
end
section
set_option Elab.async false
set_option linter.all false
set_option maxRecDepth 100000
set_option maxHeartbeats 4000000
namespace Pg
open PySem PySem.Spec PyProof.Rows L2 PySem.W
def CodeO (c : Addr) (qual : Str) : HO := .ext fun h => h.CodeRec (.ref c) qual
def LamO (q c : Addr) (qual : Str) (args : Arguments) (body : Expr) (scope : Scope) (clos : List (Str × Addr)) (pm : Value) : HO := .ext fun h => ∃ ctv, h.get? q = some (kla_obj "<lambda>" qual args body scope clos pm c ctv)
def tabOne (pos : Pos) (c : Addr) : Array Value := #[rawInt pos.line, rawInt pos.col, .ref c]
def LamTab (P : Addr) (pos : Pos) (qual : Str) (H : Hp) : Prop := H P = some (.tbl #[]) ∨ ∃ c, H P = some (.tbl (tabOne pos c)) ∧ H c = some (CodeO c qual)
def BMain (mg : Str → Option Value) (base : Heap) : Prop := ∃ bm ob, mg "__builtins__" = some (.ref bm) ∧ bm ≠ builtinsNs ∧ base.get? bm = some ob ∧ ob.cls = .type "module" ∧ ob.dict = some builtinsNs ∧ ob.data = .plain
theorem codeRec_keep {c : Addr} {qual : Str} {h1 h2 : Heap} (x : h1.CodeRec (.ref c) qual) (k : ∀ o, h1.get? c = some o → h2.get? c = some o) : h2.CodeRec (.ref c) qual := by
  obtain ⟨c', o, vs, tq, e, ho, r⟩ := x
  cases e
  exact ⟨c, o, vs, tq, rfl, k _ ho, r⟩
theorem codeRec_there {c : Addr} {qual : Str} {h1 : Heap} (x : h1.CodeRec (.ref c) qual) : ∃ o, h1.get? c = some o := by
  obtain ⟨c', o, vs, tq, e, ho, r⟩ := x
  cases e
  exact ⟨o, ho⟩
section
variable {X : Cx}
def tLam (P : Addr) (pos : Pos) (qual : Str) (args : Arguments) (body : Expr) (scope : Scope) (clos : List (Str × Addr)) (pm : Value) : TE := fun σ H Q =>
  LamTab P pos qual H ∧ ∀ (H' : Hp) (q c : Addr), H q = none → Kp [P] H H' → H' P = some (.tbl (tabOne pos c)) → H' c = some (CodeO c qual) → H' q = some (LamO q c qual args body scope clos pm) → Q (.ref q) H'
theorem pe_lam {P c : Addr} {pos : Pos} {args : Arguments} {body : Expr} {scope : Scope} {clos : List (Str × Addr)} (hcode : X.env.code = .ref c) (hP : codeHdIn X.K c P = true) (hbm : BMain X.mg X.base) (hcl : closureFor scope X.env = pure clos) (hdef : defaultsOf args X.env = ([], [])) :
    PE X (.Lambda args body scope pos) (tLam P pos (X.env.qual ++ "<lambda>") args body scope clos ((X.mg "__name__").getD .none)) := by
  intro pins s σ H Q I ⟨ht, h⟩
  refine kla_eval hdef ?_
  have C := codeHd_of_K I.kIn hP
  have hgs : s.heap.Ns mainGlobals X.mg := I.mod.glob.keeps I.bk
  have bP : ∀ b o, X.base.get? b = some o → ∀ u, H P = some u → b ≠ P := fun b o e u hu z => by
    have := (I.bs b o e).2
    rw [z, hu] at this; cases this
  have hgP : ∀ u, H P = some u → mainGlobals ≠ P := fun u hu => by
    obtain ⟨o, es, ep, e, _⟩ := I.mod.glob
    exact bP _ _ e u hu
  have hB : ∀ u, H P = some u → s.heap.BuiltinsAt X.mg P := fun u hu => by
    obtain ⟨bm, ob, b1, b2, b3, b4, b5, b6⟩ := hbm
    refine ⟨bm, ob, b1, b2, fun q => ?_, bP _ _ b3 u hu, I.bk _ _ b3, b4, b5, b6⟩
    obtain ⟨o, es, ep, e, hd, _⟩ := I.mod.glob
    rw [q, e] at b3; cases b3; rw [hd] at b6; cases b6
  rcases ht with hp | ⟨c', hp, hc'⟩
  · have hPo : s.heap.get? P = some (tabObj #[]) := I.hok P _ hp
    refine kla_makeFunction (mg := X.mg) hcl I.ok.glob hgs hcode C hPo trivial rfl (hgP _ hp) (hB _ hp) fun c' ctv h' tk hx hge hlt hrec htb => ?_
    have hrec1 := hrec
    generalize hob : kla_obj "<lambda>" (X.env.qual ++ "<lambda>") args body scope clos ((X.mg "__name__").getD .none) c' ctv = ob
    have htb' : h'.get? P = some (tabObj (tabOne pos c')) := by
      have e : (#[] ++ #[rawInt pos.line, rawInt pos.col, Value.ref c'] : Array Value) = tabOne pos c' := by unfold tabOne; simp
      rw [e] at htb
      exact htb
    have hPl : P < s.heap.objs.size := Heap.lt_size hPo
    have hq : s.heap.objs.size ≤ h'.objs.size := Nat.le_trans hge (Nat.le_of_lt hlt)
    have nPc : P ≠ c' := Nat.ne_of_lt (Nat.lt_of_lt_of_le hPl hge)
    have nPq : P ≠ h'.objs.size := Nat.ne_of_lt (Nat.lt_of_lt_of_le hPl hq)
    have ncq : c' ≠ h'.objs.size := Nat.ne_of_lt hlt
    have old : ∀ b o, b ≠ P → s.heap.get? b = some o → (h'.push ob).get? b = some o := fun b o n e => Heap.get?_push_of_some _ (hx b o n e)
    have fr1 : H c' = none := I.hok.fresh hge
    have fr2 : H h'.objs.size = none := I.hok.fresh hq
    have hob' : (h'.push ob).get? h'.objs.size = some ob := Heap.get?_push_size _ (by rw [← hob]; rfl)
    let H' : Hp := upd (upd (upd H P (.tbl (tabOne pos c'))) c' (CodeO c' (X.env.qual ++ "<lambda>"))) h'.objs.size (LamO h'.objs.size c' (X.env.qual ++ "<lambda>") args body scope clos ((X.mg "__name__").getD .none))
    have eP : H' P = some (.tbl (tabOne pos c')) := by show upd _ _ _ P = _; rw [upd_ne nPq, upd_ne nPc, upd_same]
    have eC : H' c' = some (CodeO c' (X.env.qual ++ "<lambda>")) := by show upd _ _ _ c' = _; rw [upd_ne ncq, upd_same]
    have eQ : H' h'.objs.size = some (LamO h'.objs.size c' (X.env.qual ++ "<lambda>") args body scope clos ((X.mg "__name__").getD .none)) := upd_same
    have eO : ∀ b, b ≠ P → b ≠ c' → b ≠ h'.objs.size → H' b = H b := fun b n1 n2 n3 => by show upd _ _ _ b = _; rw [upd_ne n3, upd_ne n2, upd_ne n1]
    have kO : ∀ b u, H b = some u → b ≠ P → H' b = some u := fun b u e n => by rw [eO b n (fun z => by rw [z, fr1] at e; cases e) (fun z => by rw [z, fr2] at e; cases e)]; exact e
    have nP : ∀ b u, H b = some u → u ≠ .tbl #[] → b ≠ P := fun b u e n z => by rw [z, hp] at e; cases e; exact n rfl
    have hun : Un X.fs [] H H' s.heap (h'.push ob) := by
      refine ⟨fun b o e n _ _ => old b o (fun z => by rw [z, hp] at n; cases n) e, fun b o e n _ _ => ⟨o.slots, old b o (fun z => by rw [z, hp] at n; cases n) e⟩, fun b o e n _ => ?_, fun b o e _ => ?_, fun b xs e => kO b _ e (nP b _ e (by intro z; cases z)), fun b o u e => kO b _ e (nP b _ e (by intro z; cases z)), fun b ps e => ?_⟩
      · rw [eO b (fun z => by rw [z, hp] at n; cases n) (Nat.ne_of_lt (Nat.lt_of_lt_of_le (Heap.lt_size e) hge)) (Nat.ne_of_lt (Nat.lt_of_lt_of_le (Heap.lt_size e) hq))]
        exact n
      · by_cases z : b = P
        · exact ⟨_, Heap.get?_push_of_some _ (by rw [z]; exact htb')⟩
        · exact ⟨o, old b o z e⟩
      · by_cases z : b = P
        · subst z
          rw [hp] at e; cases e
          exact ⟨tabOne pos c', by rw [eP]; simp⟩
        · exact ⟨#[], by rw [kO b _ e z]; simp⟩
    have hok' : HOk X.prog X.w H' (h'.push ob) := fun b u e => by
      by_cases z1 : b = P
      · subst z1
        rw [eP] at e; cases e
        exact Heap.get?_push_of_some _ htb'
      by_cases z2 : b = c'
      · subst z2
        rw [eC] at e; cases e
        have r2 : (h'.push ob).CodeRec (.ref b) (X.env.qual ++ "<lambda>") := codeRec_keep hrec fun o q => Heap.get?_push_of_some _ q
        exact ⟨r2, codeRec_there r2, fun h1 h2 x k => codeRec_keep x k⟩
      by_cases z3 : b = h'.objs.size
      · subst z3
        rw [eQ] at e; cases e
        exact ⟨⟨ctv, by rw [hob', ← hob]⟩, ⟨_, hob'⟩, fun h1 h2 ⟨ct, x⟩ k => ⟨ct, k _ x⟩⟩
      rw [eO b z1 z2 z3] at e
      refine (I.hok b u e).stay (fun y v hy q => old y v ?_ q) (fun y q => ?_) fun y xs q => ?_
      · rcases hy with rfl | hy
        · exact z1
        · exact nP y _ hy (by intro z; cases z)
      · exact kO y _ q (nP y _ q (by intro z; cases z))
      · exact kO y _ q (nP y _ q (by intro z; cases z))
    exact ⟨.ref _, H', I.un (t' := tk) hun hok', rfl, h H' _ c' fr2 (fun b u e n => kO b u e (by simpa using n)) eP eC eQ⟩
  · have hPo : s.heap.get? P = some (tabObj (tabOne pos c')) := I.hok P _ hp
    refine kla_makeFunctionHit (mg := X.mg) (cv := .ref c') hcl I.ok.glob hgs hcode C hPo (by unfold tabOne; trivial) (by unfold tabOne; simp [codeAmong, rawInt]) (hB _ hp) fun ctv h' tk hk hsz => ?_
    have fr2 : H h'.objs.size = none := I.hok.fresh hsz
    have nq : ∀ b u, H b = some u → b ≠ h'.objs.size := fun b u e z => by rw [z, fr2] at e; cases e
    have hq := I.laid (t' := tk) (h' := h'.push (kla_obj "<lambda>" (X.env.qual ++ "<lambda>") args body scope clos ((X.mg "__name__").getD .none) c' ctv)) (a := h'.objs.size) (o := LamO h'.objs.size c' (X.env.qual ++ "<lambda>") args body scope clos ((X.mg "__name__").getD .none)) (fun b u e => Heap.get?_push_of_some _ (hk b u e)) hsz ⟨⟨ctv, Heap.get?_push_size _ rfl⟩, ⟨_, Heap.get?_push_size _ rfl⟩, fun h1 h2 ⟨ct, x⟩ k => ⟨ct, k _ x⟩⟩
    exact ⟨.ref _, _, hq, rfl, h _ _ c' fr2 (fun b u e _ => by rw [upd_ne (nq b u e)]; exact e) (by rw [upd_ne (nq _ _ hp)]; exact hp) (by rw [upd_ne (nq _ _ hc')]; exact hc') upd_same⟩
end
end Pg
end
section
set_option Elab.async false
set_option linter.all false
set_option maxRecDepth 100000
set_option maxHeartbeats 4000000
namespace Pg
open PySem PySem.Spec PyProof.Rows L2 PySem.W
abbrev dI (Z : List (Int × Int)) : List (Key × V) := Z.map fun z => ((Sum.inl z.1 : Key), V.int z.2)
structure LamScope (scope : Scope) : Prop where
  co : scope.isCoroutine = false
  gen : scope.isGenerator = false
  kd : scope.kind = .function
  nc : ∀ x ∈ scope.names, x.2 ≠ .cell
  due : scope.names.lookup ("due" : Str) = some NameKind.free
  page : scope.names.lookup ("page" : Str) = some NameKind.local
def FarOf (Z : List (Int × Int)) (k : Int) : Prop := ∃ v, (k, v) ∈ Z ∧ ∀ z ∈ Z, z.2 < v ∨ (z.2 = v ∧ k ≤ z.1)
section
variable {X : Cx} {p0 p1 p2 p3 p4 p5 p6 pd pos posL kpos : Pos} {k : Nat}
def tFar (i : Nat) (P : Addr) (pos : Pos) (qual : Str) : TE := fun σ H Q => ∃ (d : Addr) (Z : List (Int × Int)), σ[i]? = some (some (.ref d)) ∧ H d = some (.dK (dI Z)) ∧ (Z.map (·.1)).Nodup ∧ Z ≠ [] ∧ LamTab P pos qual H ∧
  ∀ (H' : Hp) (n : Int), Kp [P] H H' → LamTab P pos qual H' → FarOf Z n → Q (.int n) H'
theorem pairs_get {K : Type} [DecidableEq K] {prog : Program} {w : World} {knd : KeyKind prog w K} {es : List DictEntry} {kvs : List (K × Value)} (h : Pairs knd es kvs) : ∀ {i : Nat} {k : K} {u : Value}, kvs[i]? = some (k, u) → ∃ en, es[i]? = some en ∧ knd.is k en.key = true ∧ en.val = u := by
  induction h with
  | nil => intro i k u e; simp at e
  | cons h1 h2 _ ih =>
    intro i k u e
    cases i with
    | zero => cases e; exact ⟨_, rfl, h1, h2⟩
    | succ i => exact ih (by simpa using e)
theorem valueAt_mem {K : Type} [DecidableEq K] {kvs : List (K × Value)} {k : K} {u : Value} (nd : (kvs.map (·.1)).Nodup) (h : (k, u) ∈ kvs) : valueAt kvs k = some u := by
  induction kvs with
  | nil => cases h
  | cons z r ih =>
    rw [List.map_cons, List.nodup_cons] at nd
    unfold valueAt
    rw [List.find?_cons]
    rcases List.mem_cons.mp h with e | h
    · subst e; simp
    · have ne : ¬ z.1 = k := fun e => nd.1 (by rw [e]; exact List.mem_map_of_mem (f := (·.1)) h)
      simp only [ne, decide_false]
      exact ih nd.2 h
theorem pe_far {i : Nat} {P c cc : Addr} {args : Arguments} {scope : Scope} (hcode : X.env.code = .ref c) (hP : codeHdIn X.K c P = true) (hbm : BMain X.mg X.base) (hcl : closureFor scope X.env = pure [(("due" : Str), cc)]) (hdef : defaultsOf args X.env = ([], [])) (hS : LamScope scope)
    (hbind : ∀ (pm ctv : Value) (c' : Addr) (n : Int) (t : Tok), bindArgs (kla_fn "<lambda>" (X.env.qual ++ "<lambda>") args (farBody p1 p2 p3 p4 p5 p6 k) scope [("due", cc)] pm (.ref c') ctv) ⟨[.int n t], []⟩ = pure [(("page" : Str), Value.int n t)])
    (hN : X.N[i]? = some "due") (hk : X.env.scope.names.lookup ("due" : Str) = some .cell) (hcc : X.env.cells.lookup ("due" : Str) = some cc) (hg : Gl X "min") (hm : X.mg "min" = none) (hc : X.calm = true) (hdp : X.A.in1.depth < recursionLimit) (hu : X.A.in1.units < cLine) :
    PE X (.Call (.Name "min" p0) [.Name "due" pd] [⟨some "key", .Lambda args (farBody p1 p2 p3 p4 p5 p6 k) scope posL, kpos⟩] pos) (tFar i P posL (X.env.qual ++ "<lambda>")) := by
  intro pins s σ H Q I ⟨d, Z, hσ, hd, nd, hne, ht, h⟩
  refine wpAny_Call_Name_kw (ld_blt I hg hm rfl ?_)
  have ha : PA X [.Name "due" pd] (tCons (tVar i) tNil) := pa_cons (pe_var hN (Or.inr (Or.inl hk))) pa_nil
  have hkw : PK X [⟨some "key", .Lambda args (farBody p1 p2 p3 p4 p5 p6 k) scope posL, kpos⟩] (tCons (tLam P posL (X.env.qual ++ "<lambda>") args (farBody p1 p2 p3 p4 p5 p6 k) scope [("due", cc)] ((X.mg "__name__").getD .none)) tNil) := pk_cons (pe_lam hcode hP hbm hcl hdef) pk_nil
  refine callWith_kw (thn (ha pos pins s σ H (fun vs H1 => vs = [.ref d] ∧ H1 = H) I ⟨_, hσ, rfl, rfl⟩) fun us s1 ⟨vs, H1, I1, r1, q1⟩ => ?_) rfl rfl rfl rfl
  obtain ⟨rfl, rfl⟩ := q1
  rw [Vals.ref1 r1]
  refine thn (hkw pos pins s1 σ H1 (fun zs H2 => ∃ q c', zs = [.ref q] ∧ Kp [P] H1 H2 ∧ H2 P = some (.tbl (tabOne posL c')) ∧ H2 c' = some (CodeO c' (X.env.qual ++ "<lambda>")) ∧ H2 q = some (LamO q c' (X.env.qual ++ "<lambda>") args (farBody p1 p2 p3 p4 p5 p6 k) scope [("due", cc)] ((X.mg "__name__").getD .none))) I1 ⟨ht, fun H2 q c' _ x1 x2 x3 x4 => ⟨q, c', rfl, x1, x2, x3, x4⟩⟩) fun ws s2 ⟨zs, H2, I2, r2, q2⟩ => ?_
  obtain ⟨q, c', rfl, kp, hp2, hc2, hq2⟩ := q2
  rw [Vals.ref1 r2]
  have nPd : d ≠ P := fun z => by
    rcases ht with e | ⟨_, e, _⟩ <;> (rw [z, e] at hd; cases hd)
  have hd2 : H2 d = some (.dK (dI Z)) := kp _ _ hd (by simpa using nPd)
  obtain ⟨hz, hsm, vs, rel, dd⟩ := dk_of I2.hok hd2
  obtain ⟨⟨ctv, hqo⟩, _⟩ := I2.hok q _ hq2
  obtain ⟨hrec, _⟩ := I2.hok c' _ hc2
  obtain ⟨m, hns, hl⟩ := I2.loc
  obtain ⟨ud, rd, lk⟩ := hl i "due" _ hN hσ (Or.inr (Or.inl hk))
  obtain rfl : ud = .ref d := rd
  have hcell : s2.heap.IsCell cc (some (.ref d)) := by
    rcases lk with ⟨hkl, _⟩ | ⟨_, c2, e2, z⟩
    · have : X.env.scope.names.lookup ("due" : Str) = some .local := hkl
      rw [hk] at this; cases this
    · rw [hcc] at e2; cases e2; exact z
  obtain ⟨od, es, ep, ho, hx, hdd, hks, hpr, hnd⟩ := id dd
  have hlen : vs.length = Z.length := by rw [← rel.length, List.length_map]
  have hes : ∀ (j : Nat) (n : Int), (Z.map (·.1))[j]? = some n → ∃ (en : DictEntry) (t : Tok), es[j]? = some en ∧ en.key = .int n t := fun j n e => by
    rw [List.getElem?_map] at e
    obtain ⟨z, ez, e⟩ := Option.map_eq_some_iff.mp e
    have e1 : (dI Z)[j]? = some ((Sum.inl n : Key), V.int z.2) := by rw [List.getElem?_map, ez, ← e]; rfl
    obtain ⟨u, hu1, _⟩ := kv_get rel e1
    obtain ⟨en, h1, h2, _⟩ := pairs_get hpr hu1
    obtain ⟨t, ht⟩ := relV_key (show keyIs (Sum.inl n : Key) en.key = true from h2)
    exact ⟨en, t, by rw [← Array.getElem?_toList]; exact h1, ht⟩
  have valZ : ∀ n v, (n, v) ∈ Z → ∃ t, valueAt vs (Sum.inl n : Key) = some (.int v t) := fun n v hm => by
    obtain ⟨j, hj, ej⟩ := List.getElem_of_mem hm
    have e1 : (dI Z)[j]? = some ((Sum.inl n : Key), V.int v) := by rw [List.getElem?_map, List.getElem?_eq_getElem hj, ej]; rfl
    obtain ⟨u, hu1, t, hut⟩ := kv_get rel e1
    rw [hut] at hu1
    exact ⟨t, valueAt_mem hnd (List.mem_of_getElem? hu1)⟩
  have hfn : ∃ f : Int → Int, ∀ n v, (n, v) ∈ Z → f n = v := by
    refine ⟨fun n => ((Z.find? fun z => decide (z.1 = n)).map (·.2)).getD 0, fun n v hm => ?_⟩
    have aux : ∀ Z : List (Int × Int), (Z.map (·.1)).Nodup → (n, v) ∈ Z → Z.find? (fun z => decide (z.1 = n)) = some (n, v) := by
      intro Z
      induction Z with
      | nil => intro _ h; cases h
      | cons z r ih =>
        intro nd h
        rw [List.map_cons, List.nodup_cons] at nd
        rw [List.find?_cons]
        rcases List.mem_cons.mp h with e | h
        · subst e; simp
        · have ne : ¬ z.1 = n := fun e => nd.1 (by rw [e]; exact List.mem_map_of_mem (f := (·.1)) h)
          simp only [ne, decide_false]
          exact ih nd.2 h
    show ((Z.find? fun z => decide (z.1 = n)).map (·.2)).getD 0 = v
    rw [aux Z nd hm]; rfl
  obtain ⟨f, hf⟩ := hfn
  refine min_keys (s := s2) (ks := Z.map (·.1)) (fa := fun n => -(f n)) (fb := fun n => n) (I2.ok.hd hc) hu hsm (by rw [List.length_map]; exact List.length_pos_iff.mpr hne) ho hx hdd hes (by rw [List.length_map, ← hlen, ← hpr.length]; simp) (fun n t h1 tk hn hk1 => ?_) fun n t h1 tk hn hbest hk1 => ?_
  · obtain ⟨⟨n', v⟩, hmz, rfl⟩ := List.mem_map.mp hn
    obtain ⟨tv, hval⟩ := valZ n' v hmz
    have hcell1 : h1.IsCell cc (some (.ref d)) := by
      obtain ⟨o, e1, e2⟩ := hcell
      exact ⟨o, hk1 _ _ e1, e2⟩
    have dd1 : h1.DictOf (mixKind X.prog X.w) d vs := ⟨od, es, ep, hk1 _ _ ho, hx, hdd, hks, hpr, hnd⟩
    refine lam_call (s := { s2 with heap := h1, toks := tk }) (A := X.A.in1) hdp (hk1 _ _ hqo) (codeRec_keep hrec fun o e => hk1 _ _ e) (I2.nolimit.keeps hk1) (hbind _ _ _ _ _) hS.co hS.gen hS.kd hS.nc hS.due hS.page hcell1 dd1 hval fun h' tk' t' t1 t2 kk _ ht' => ?_
    refine ⟨h', tk', t', t1, t2, rfl, rfl, kk, ?_⟩
    show h'.get? t' = some (tup2 (.int (-(f n')) t1) (.int n' t2))
    rw [hf n' v hmz]
    exact ht'
  · refine ⟨.int n, H2, I2.kept hk1, ⟨t, rfl⟩, h H2 n kp (Or.inr ⟨c', hp2, hc2⟩) ?_⟩
    obtain ⟨⟨n', v⟩, hmz, rfl⟩ := List.mem_map.mp hn
    refine ⟨v, hmz, fun z hz => ?_⟩
    have hb := hbest z.1 (List.mem_map_of_mem hz)
    dsimp only at hb
    rw [hf z.1 z.2 hz, hf n' v hmz] at hb
    unfold lt2 at hb
    simp only [decide_eq_false_iff_not] at hb
    omega
end
structure FunC (K : PySem.W.Frag) (x qual : Str) (st : Stmt) (f : Addr) (fd : FuncData) (c P : Addr) : Prop where
  ex : ∃ (oc : Value) (od : Option Addr) (kV doc pm : Value) (an : Option Addr) (ct : Value) (osl : Array (Option Value)),
    fd = PySem.W.fnOf x qual (defArgs st) (defBody st) (defScope st) .none kV doc pm an (.ref c) ct ∧ K.lookup f = some ⟨oc, od, .func fd, osl⟩ ∧ PySem.W.codeIn K (.ref c) qual = true
  kp : PySem.W.keepIn K (.ref f) = true
  hd : codeHdIn K c P = true
section
variable {P : Program} {w : World} {K : PySem.W.Frag} {mg : Str → Option Value} {base : Heap}
theorem FunC.fn {x qual : Str} {st : Stmt} {f : Addr} {fd : FuncData} {c p : Addr} (F : FunC K x qual st f fd c p) : Fun K x qual st f fd := by
  obtain ⟨oc, od, kV, doc, pm, an, ct, osl, e, l, q⟩ := F.ex
  exact ⟨⟨oc, od, kV, doc, pm, an, .ref c, ct, osl, e, l, q⟩, F.kp⟩
theorem FunC.ok {x qual : Str} {st : Stmt} {f : Addr} {fd : FuncData} {N ps : List Str} {k : Nat} {sp : Sp} {c p : Addr} (F : FunC K x qual st f fd c p) (S : FnScope N ps (defScope st)) (len : ∀ vs H Q E, sp vs H Q E → vs.length = ps.length)
    (hbody : ∀ (A : Around) (outer : List Env) (s : Shared) (H : Hp) (vs : List V) (Q : VK) (E : XK), Room k (A.deeper (envOfC qual (defScope st) s.heap.objs.size f (.ref c))) → sp vs H Q E →
      ∃ t, PSs (cxOf CX0 P w K mg base N qual (defScope st) f (.ref c) A outer s H E).nox (defBody st) t ∧ t { nx := fun _ H' => Q .non H', rt := Q } (start N vs) H) : FnOk P w K mg base CX0 (k + 1) f fd ps sp := by
  obtain ⟨oc, od, kV, doc, pm, an, ct, osl, rfl, lk, hcd⟩ := F.ex
  refine fn_of lk hcd S len fun A outer s H vs Q E hr hsp => ?_
  obtain ⟨t, h, q⟩ := hbody A outer s H vs Q E hr hsp
  exact ⟨t, h.nox, q⟩
end
end Pg
end
section
set_option Elab.async false
set_option linter.all false
set_option maxRecDepth 100000
set_option maxHeartbeats 4000000
namespace Pg
open PySem PySem.Spec PyProof.Rows L2 PySem.W
def OnlyT (p : Addr) (H : Hp) : Prop := H p = some (.tbl #[]) ∧ ∀ b, b = p ∨ H b = none ∨ ∃ o xs, H b = some (.frz o (.lst xs))
theorem law_callT {P : Program} {w : World} {K : PySem.W.Frag} {mg mb : Str → Option Value} {CX : CXT} {k : Nat} {fa a p c : Addr} {fd : FuncData} {x : Str} {sp : Sp} {s₁ : Shared} {vs : List Value} {ns : List Int}
    (KX : K.In s₁.heap) (hns : s₁.heap.Ns mainGlobals mg) (hb : s₁.heap.Ns builtinsNs mb) (hbb : ∀ x : Str, x ≠ "__name__" → mb x = bootBuiltins x) (hlim : s₁.heap.NoLimit) (hg : s₁.gens = #[]) (hbm : BMain mg s₁.heap)
    (hp : s₁.heap.get? p = some (tabObj #[])) (hcp : codeHdIn K c p = true) (hkp : K.lookup p = none)
    (ha : s₁.heap.get? a = some { cls := .type "list", data := .seq vs.toArray }) (hi : IntsAre vs ns) (hl : ns.length ≤ sizeLine) (hr : Room k callerA)
    (F : ∀ base : Heap, K.In base → base.Ns mainGlobals mg → BMain mg base → FnOk P w K mg base CX k fa fd [x] sp) (hbind : ∀ (s : Shared) (u : Value), BindsTo s fd ⟨[u], []⟩ [(x, u)])
    (hsp : ∀ H : Hp, OnlyT p H → SqL K H a (ns.map V.int) → sp [.ref a] H (fun v _ => v = .bl true) fun _ _ _ => False)
    (hCX : ∀ H e s', CX [] H s₁ (fun _ _ _ => False) e s' → False) :
    codeAny (model P w) callerA (.call (.ref fa) ⟨[.ref a], []⟩) (fun r s' => r = .ok (.ret (.bool true)) ∧ OldK s₁.heap s'.heap ∧ s'.os = s₁.os ∧ AllBare s'.gens) s₁ := by
  have rv := vals_ints hi
  have lenV := hi.length
  have nap : a ≠ p := fun z => by
    rw [z, hp] at ha
    have e := congrArg Obj.cls (Option.some.inj ha)
    exact absurd (show Value.none = Value.type "list" from e) (by decide)
  have core : ∀ H : Hp, OnlyT p H → SqL K H a (ns.map V.int) → HOk P w H s₁.heap → (∀ b, H b ≠ none → b = a ∨ b = p) → (H a ≠ none → K.lookup a = none) →
      codeAny (model P w) callerA (.call (.ref fa) ⟨[.ref a], []⟩) (fun r s' => r = .ok (.ret (.bool true)) ∧ OldK s₁.heap s'.heap ∧ s'.os = s₁.os ∧ AllBare s'.gens) s₁ := by
    intro H hO hS hok hA hK
    have base_of : ∀ {b : Addr} {o : Obj}, s₁.heap.get? b = some o → H b = none → (hidT s₁.heap H).get? b = some o := fun e n => hidT_get e n
    have noA : ∀ {b : Addr} {o : Obj}, s₁.heap.get? b = some o → (∀ its n, o.data ≠ .seq its n) → (∀ fs, o.data ≠ .fields fs) → H b = none := fun {b o} e d1 d2 => by
      cases q : H b with
      | none => rfl
      | some u =>
        rcases hA b (by rw [q]; simp) with e' | e'
        · subst e'
          rw [ha] at e; cases e
          exact absurd rfl (d1 _ _)
        · subst e'
          rw [hp] at e; cases e
          exact absurd rfl (d2 _)
    have nsK : ∀ {b : Addr} {m : Str → Option Value}, s₁.heap.Ns b m → (hidT s₁.heap H).Ns b m := fun {b m} ⟨o, es, ep, e, d, r⟩ => ⟨o, es, ep, base_of e (noA e (fun _ _ z => by rw [d] at z; cases z) (fun _ z => by rw [d] at z; cases z)), d, r⟩
    have hKb : K.In (hidT s₁.heap H) := fun b o e => base_of (KX b o e) (by
      cases q : H b with
      | none => rfl
      | some u =>
        rcases hA b (by rw [q]; simp) with e' | e'
        · subst e'
          rw [hK (by rw [q]; simp)] at e; cases e
        · subst e'
          rw [hkp] at e; cases e)
    have hB : BMain mg (hidT s₁.heap H) := by
      obtain ⟨bm, ob, b1, b2, b3, b4, b5, b6⟩ := hbm
      exact ⟨bm, ob, b1, b2, base_of b3 (noA b3 (fun _ _ z => by rw [b6] at z; cases z) (fun _ z => by rw [b6] at z; cases z)), b4, b5, b6⟩
    have hM : Mod K mg (hidT s₁.heap H) := ⟨hKb, nsK hns, ⟨mb, nsK hb, hbb⟩, let ⟨mc, h1, h2⟩ := hlim; ⟨mc, nsK h1, h2⟩⟩
    have e0 : Env0 P w K mg (hidT s₁.heap H) callerA [] s₁ H := ⟨rfl, hM, fun b o e => of_hidT e, Nat.le_of_eq (hidT_size _ _), trivial, fun b hb => absurd (show b ∈ ([] : List Addr) from hb) (by simp), hok, .of_eq hg⟩
    refine codeAny_mono ((F _ hKb (nsK hns) hB).run callerA [] s₁ H ⟨[.ref a], []⟩ [.ref a] [.ref a] _ _ hr e0 (hbind s₁ (.ref a)) (.cons rfl .nil) (hsp H hO hS)) fun r s' h => ?_
    cases r with
    | error e => exact (hCX H e s' h).elim
    | ok fl =>
      cases fl with
      | next => exact False.elim h
      | brk => exact False.elim h
      | cont => exact False.elim h
      | ret u =>
        obtain ⟨v, H', os, bare, un, hok', r', q⟩ := h
        have q' : v = .bl true := q
        subst q'
        obtain rfl : u = Value.bool true := r'
        refine ⟨rfl, ⟨fun b o e => ?_, fun b o e => un.there b o e (by simp)⟩, os, bare⟩
        by_cases ebp : b = p
        · subst ebp
          rw [hp] at e; cases e
          obtain ⟨more, em⟩ := un.tbls b #[] hO.1
          exact .inr (.inl ⟨((codeHd_of_K KX hcp).tab hp).isCodeTable, rfl, #[], more, rfl, hok' b _ em⟩)
        refine .inl ?_
        cases q : H b with
        | none => exact un.keep b o e q (by intro z; exact absurd (show b ∈ ([] : List Addr) from z) (by simp)) (by simp)
        | some u =>
          rcases hO.2 b with z | z | ⟨ob, xs, z⟩
          · exact absurd z ebp
          · rw [q] at z; cases z
          · have z2 := un.frzs b ob _ z
            obtain ⟨e1, _⟩ := hok b _ z
            obtain ⟨e2, _⟩ := hok' b _ z2
            rw [e] at e1; cases e1
            exact e2
  cases hk : K.lookup a with
  | some o =>
    have e := KX a o hk
    rw [ha] at e
    cases e
    refine core (fun b => if b = p then some (.tbl #[]) else none) ⟨if_pos rfl, fun b => ?_⟩ (.inr ⟨_, vs.toArray, _, hk, rfl, rfl, rfl, by rw [List.size_toArray, lenV]; exact hl, by simpa using rv⟩) (fun b u z => ?_) (fun b z => ?_) fun z => absurd (if_neg nap) z
    · by_cases hb : b = p
      · exact .inl hb
      · exact .inr (.inl (if_neg hb))
    · by_cases hb : b = p
      · have z' := (if_pos hb).symm.trans z
        cases z'
        subst hb
        exact hp
      · have z' := (if_neg hb).symm.trans z
        cases z'
    · by_cases hb : b = p
      · exact .inr hb
      · exact absurd (if_neg hb) z
  | none =>
    refine core (fun b => if b = a then some (.frz { cls := .type "list", data := .seq vs.toArray } (.lst (ns.map V.int))) else if b = p then some (.tbl #[]) else none) ⟨(if_neg nap.symm).trans (if_pos rfl), fun b => ?_⟩ (.inl (.inr ⟨{ cls := .type "list", data := .seq vs.toArray }, if_pos rfl⟩)) (fun b u z => ?_) (fun b z => ?_) fun _ => hk
    · by_cases hb : b = a
      · exact .inr (.inr ⟨_, _, if_pos hb⟩)
      · by_cases hb2 : b = p
        · exact .inl hb2
        · exact .inr (.inl ((if_neg hb).trans (if_neg hb2)))
    · by_cases hb : b = a
      · have z' := (if_pos hb).symm.trans z
        cases z'
        subst hb
        exact ⟨ha, by rw [List.length_map]; exact hl, vs, _, rv, ha⟩
      · by_cases hb2 : b = p
        · have z' := ((if_neg hb).trans (if_pos hb2)).symm.trans z
          cases z'
          subst hb2
          exact hp
        · have z' := ((if_neg hb).trans (if_neg hb2)).symm.trans z
          cases z'
    · by_cases hb : b = a
      · exact .inl hb
      · by_cases hb2 : b = p
        · exact .inr hb2
        · exact absurd ((if_neg hb).trans (if_neg hb2)) z
theorem walk_ofT {l : PySem.W.OpenLaw} {n k : Nat} {q : Program} {loose : List Str} {XP : (Str → Option Value) → Heap → Prop} {YP : World → Heap → Prop} {d : DefRec} {K : Params → PySem.W.Frag} {CX : CXT} {sp : PySem.W.Frag → Sp} {x : Str} (p : Addr)
    (hn : l.most = some n) (hn2 : n ≤ sizeLine) (hdf : d.params.defaults = []) (hr : Room k callerA)
    (hY : ∀ (w : World) (h : Heap), YP w h → (K w.params).In h ∧ h.get? p = some (tabObj #[]))
    (F : ∀ (w : World) (mg : Str → Option Value) (fa : Addr) (h : Heap), (K w.params).In h → h.Ns mainGlobals mg → mg d.name = some (.ref fa) →
      ∃ (fd : FuncData) (c : Addr), (∀ (s : Shared) (u : Value), BindsTo s fd ⟨[u], []⟩ [(x, u)]) ∧ codeHdIn (K w.params) c p = true ∧ (K w.params).lookup p = none ∧
        ∀ base : Heap, (K w.params).In base → base.Ns mainGlobals mg → BMain mg base → FnOk l.prog w (K w.params) mg base CX k fa fd [x] (sp (K w.params)))
    (hsp : ∀ (K : PySem.W.Frag) (H : Hp) (a : Addr) (ns : List Int), ns.length ≤ n → OnlyT p H → SqL K H a (ns.map V.int) → sp K [.ref a] H (fun v _ => v = .bl true) fun _ _ _ => False)
    (hCX : ∀ (H : Hp) (s : Shared) (e : Value) (s' : Shared), CX [] H s (fun _ _ _ => False) e s' → False) :
    PySem.W.WalkO q loose XP YP l.row.toRowW d [] (fun f vs => PySem.call f vs) := by
  refine Att.attach_call hn hdf fun w s₀ s₁ mg mb fa o pm cd doc a vs ns G Y ho hd hcd hmg hobj hints hlen hg => ?_
  obtain ⟨KX, hp⟩ := hY w _ Y
  obtain ⟨fd, c, hb, hc, hk, hF⟩ := F w mg fa _ KX G.T.g hmg
  exact law_callT KX G.T.g G.T.b G.T.builtins G.T.nolimit hg G.T.bmain hp hc hk hobj hints (Nat.le_trans hlen hn2) hr hF hb (fun H hO hS => hsp (K w.params) H a ns hlen hO hS) fun H e s' => hCX H s₁ e s'
end Pg
end
section
set_option Elab.async false
set_option linter.all false
set_option maxRecDepth 100000
set_option maxHeartbeats 4000000
namespace Pg
open PySem PySem.Spec PyProof.Rows L2
def nx (ns : List Int) (i : Nat) (p : Int) : Nat := i + (ns.drop i).idxOf p
theorem nx_ge (ns : List Int) (i : Nat) (p : Int) : i ≤ nx ns i p := Nat.le_add_right _ _
theorem nx_le {ns : List Int} {i : Nat} (h : i ≤ ns.length) (p : Int) : nx ns i p ≤ ns.length := by
  unfold nx
  have := List.idxOf_le_length (a := p) (l := ns.drop i)
  rw [List.length_drop] at this
  omega
theorem drop_at {ns : List Int} {i : Nat} {q : Int} (h : ns[i]? = some q) : ns.drop i = q :: ns.drop (i + 1) := by
  obtain ⟨hl, e⟩ := List.getElem?_eq_some_iff.mp h
  rw [List.drop_eq_getElem_cons hl, e]
theorem nx_step {ns : List Int} {i : Nat} {p q : Int} (h : ns[i]? = some q) (n : q ≠ p) : nx ns i p = nx ns (i + 1) p := by
  unfold nx
  rw [drop_at h, List.idxOf_cons]
  have : (q == p) = false := by simpa using n
  rw [this]
  simp
  omega
theorem nx_at {ns : List Int} {i : Nat} {p : Int} (h : nx ns i p < ns.length) : ns[nx ns i p]? = some p := by
  unfold nx at *
  have hl : (ns.drop i).idxOf p < (ns.drop i).length := by rw [List.length_drop]; omega
  have := List.getElem_idxOf hl
  rw [List.getElem_drop] at this
  rw [List.getElem?_eq_getElem h, this]
theorem nx_first {ns : List Int} {i j : Nat} {p : Int} (h1 : i ≤ j) (h2 : j < nx ns i p) : ns[j]? ≠ some p := by
  intro e
  obtain ⟨k, rfl⟩ : ∃ k, j = i + k := ⟨j - i, by omega⟩
  unfold nx at h2
  have h3 : k < (ns.drop i).idxOf p := by omega
  have e2 : (ns.drop i)[k]? = some p := by rw [List.getElem?_drop]; exact e
  obtain ⟨hl, e3⟩ := List.getElem?_eq_some_iff.mp e2
  have h4 : ¬ ((ns.drop i)[k] == p) = true := by
    have := List.not_of_lt_findIdx (p := (· == p)) (xs := ns.drop i) (i := k) h3
    simpa using this
  rw [e3] at h4
  simp at h4
theorem lastIdx_some {l : List Int} : ∀ {p : Int} {j : Nat}, lastIdx l p = some j → l[j]? = some p ∧ ∀ k, j < k → l[k]? ≠ some p := by
  induction l using snocInd with
  | h0 => intro p j h; rw [lastIdx_nil] at h; cases h
  | hs l x ih =>
    intro p j h
    rw [lastIdx_snoc] at h
    split at h
    · rename_i e
      cases h
      subst e
      refine ⟨by simp, fun k hk => ?_⟩
      rw [List.getElem?_eq_none (by simp; omega)]
      simp
    · rename_i e
      obtain ⟨h1, h2⟩ := ih h
      have hl := lastIdx_lt h
      refine ⟨by rw [List.getElem?_append_left hl]; exact h1, fun k hk => ?_⟩
      by_cases hk2 : k < l.length
      · rw [List.getElem?_append_left hk2]; exact h2 k hk
      · by_cases e2 : k = l.length
        · subst e2; simp; exact e
        · rw [List.getElem?_eq_none (by simp; omega)]; simp
theorem lastIdx_none {l : List Int} : ∀ {p : Int}, lastIdx l p = none → ∀ k : Nat, l[k]? ≠ some p := by
  induction l using snocInd with
  | h0 => intro p _ k; simp
  | hs l x ih =>
    intro p h k
    rw [lastIdx_snoc] at h
    split at h
    · cases h
    · rename_i e
      by_cases hk2 : k < l.length
      · rw [List.getElem?_append_left hk2]; exact ih h k
      · by_cases e2 : k = l.length
        · subst e2; simp; exact e
        · rw [List.getElem?_eq_none (by simp; omega)]; simp
def Nx (ns : List Int) (k i v : Nat) : Prop := (i < v ∧ v < k ∧ ns[v]? = ns[i]? ∧ ∀ j, i < j → j < v → ns[j]? ≠ ns[i]?) ∨ (v = ns.length ∧ ∀ j, i < j → j < k → ns[j]? ≠ ns[i]?)
def NxAll (ns : List Int) (k : Nat) (ts : List Nat) : Prop := ts.length = ns.length ∧ ∀ i v, ts[i]? = some v → Nx ns k i v
theorem nxAll_zero (ns : List Int) : NxAll ns 0 (List.replicate ns.length ns.length) := by
  refine ⟨by simp, fun i v h => .inr ⟨?_, fun j _ h => by omega⟩⟩
  rw [List.getElem?_replicate] at h
  split at h
  · cases h; rfl
  · cases h
theorem nxAll_none {ns : List Int} {k : Nat} {ts : List Nat} {q : Int} (h : NxAll ns k ts) (hk : ns[k]? = some q) (hn : lastIdx (ns.take k) q = none) : NxAll ns (k + 1) ts := by
  refine ⟨h.1, fun i v e => ?_⟩
  rcases h.2 i v e with ⟨a, b, c, d⟩ | ⟨a, b⟩
  · exact .inl ⟨a, by omega, c, d⟩
  · refine .inr ⟨a, fun j h1 h2 => ?_⟩
    by_cases ej : j = k
    · subst ej
      have := lastIdx_none hn i
      rw [List.getElem?_take_of_lt h1] at this
      rw [hk]
      exact fun z => this z.symm
    · exact b j h1 (by omega)
theorem nxAll_some {ns : List Int} {k b : Nat} {ts : List Nat} {q : Int} (h : NxAll ns k ts) (hk : ns[k]? = some q) (hn : lastIdx (ns.take k) q = some b) : NxAll ns (k + 1) (ts.set b k) := by
  have hbk : b < k := by
    have := lastIdx_lt hn
    rw [List.length_take] at this
    omega
  have hkl : k < ns.length := (List.getElem?_eq_some_iff.mp hk).1
  obtain ⟨h1, h2⟩ := lastIdx_some hn
  rw [List.getElem?_take_of_lt hbk] at h1
  have h2' : ∀ j, b < j → j < k → ns[j]? ≠ some q := fun j a c => by
    have := h2 j a
    rw [List.getElem?_take_of_lt c] at this
    exact this
  refine ⟨by rw [List.length_set]; exact h.1, fun i v e => ?_⟩
  by_cases eb : i = b
  · subst eb
    rw [List.getElem?_set_self (by rw [h.1]; omega)] at e
    cases e
    exact .inl ⟨hbk, by omega, by rw [hk, h1], fun j a c => by rw [h1]; exact h2' j a c⟩
  · rw [List.getElem?_set_ne (Ne.symm eb)] at e
    rcases h.2 i v e with ⟨a, c, d, f⟩ | ⟨a, c⟩
    · exact .inl ⟨a, by omega, d, f⟩
    · refine .inr ⟨a, fun j g1 g2 => ?_⟩
      by_cases ej : j = k
      · subst ej
        intro z
        rw [hk] at z
        by_cases hib : i < b
        · exact c b hib hbk (by rw [h1, z])
        · exact h2' i (by omega) g1 z.symm
      · exact c j g1 (by omega)
def nextsOf (ns : List Int) : List Nat := (List.range ns.length).map fun i => nx ns (i + 1) (ns.getD i 0)
theorem nextsOf_at {ns : List Int} {i : Nat} {p : Int} (h : ns[i]? = some p) : (nextsOf ns)[i]? = some (nx ns (i + 1) p) := by
  have hl := (List.getElem?_eq_some_iff.mp h).1
  unfold nextsOf
  rw [List.getElem?_map, List.getElem?_range hl]
  simp [h]
theorem nxAll_end {ns : List Int} {ts : List Nat} (h : NxAll ns ns.length ts) : ts = nextsOf ns := by
  refine List.ext_getElem? fun i => ?_
  by_cases hi : i < ns.length
  · have hp := List.getElem?_eq_getElem hi
    rw [nextsOf_at hp]
    have hv := List.getElem?_eq_getElem (l := ts) (i := i) (by rw [h.1]; exact hi)
    rw [hv]
    congr 1
    generalize ts[i]'(by rw [h.1]; exact hi) = v at *
    generalize ns[i] = p at *
    have g1 := nx_ge ns (i + 1) p
    have g2 := nx_le (ns := ns) (i := i + 1) (by omega) p
    rcases h.2 i v hv with ⟨a, b, c, d⟩ | ⟨a, b⟩
    · rw [hp] at c d
      rcases Nat.lt_trichotomy v (nx ns (i + 1) p) with z | z | z
      · exact absurd c (nx_first (by omega) z)
      · exact z
      · exact absurd (nx_at (ns := ns) (i := i + 1) (p := p) (by omega)) (d _ (by omega) z)
    · rw [hp] at b
      by_cases z : nx ns (i + 1) p < ns.length
      · exact absurd (nx_at z) (b _ (by omega) z)
      · omega
  · rw [List.getElem?_eq_none (by rw [h.1]; omega), List.getElem?_eq_none (by unfold nextsOf; simp; omega)]
def ZF (ns : List Int) (i : Nat) (ps : List Int) : List (Int × Int) := ps.map fun p => (p, (nx ns i p : Int))
theorem ZF_keys (ns : List Int) (i : Nat) (ps : List Int) : (ZF ns i ps).map (·.1) = ps := by
  unfold ZF
  rw [List.map_map]
  exact List.map_id _
theorem ZF_len (ns : List Int) (i : Nat) (ps : List Int) : (ZF ns i ps).length = ps.length := by unfold ZF; simp
theorem ZF_step {ns : List Int} {i : Nat} {q : Int} (h : ns[i]? = some q) {ps : List Int} (n : q ∉ ps) : ZF ns i ps = ZF ns (i + 1) ps := by
  unfold ZF
  refine List.map_congr_left fun p hp => ?_
  rw [nx_step h fun e => n (e ▸ hp)]
theorem FarOf.alone {Z : List (Int × Int)} {a b : Int} (h1 : FarOf Z a) (h2 : FarOf Z b) : a = b := by
  obtain ⟨v, m1, f1⟩ := h1
  obtain ⟨u, m2, f2⟩ := h2
  have x := f1 _ m2
  have y := f2 _ m1
  dsimp only at x y
  omega
open Classical in
noncomputable def farP (ns : List Int) (i : Nat) (ps : List Int) : Int := if h : ∃ k, FarOf (ZF ns i ps) k then h.choose else 0
theorem farP_of {ns : List Int} {i : Nat} {ps : List Int} {k : Int} (h : FarOf (ZF ns i ps) k) : farP ns i ps = k := by
  have hx : ∃ k, FarOf (ZF ns i ps) k := ⟨k, h⟩
  unfold farP
  rw [dif_pos hx]
  exact hx.choose_spec.alone h
theorem FarOf.mem {ns : List Int} {i : Nat} {ps : List Int} {k : Int} (h : FarOf (ZF ns i ps) k) : k ∈ ps := by
  obtain ⟨v, m, _⟩ := h
  rw [← ZF_keys ns i ps]
  exact List.mem_map_of_mem (f := (·.1)) m
theorem FarOf.perm {ns : List Int} {i : Nat} {ps qs : List Int} {k : Int} (h : FarOf (ZF ns i ps) k) (p : ps.Perm qs) : FarOf (ZF ns i qs) k := by
  obtain ⟨v, m, f⟩ := h
  have q : (ZF ns i ps).Perm (ZF ns i qs) := p.map _
  exact ⟨v, q.mem_iff.mp m, fun z hz => f z (q.mem_iff.mpr hz)⟩
noncomputable def askF (ns : List Int) (room : Int) (ps : List Int) (i : Nat) (p : Int) : List Int × Bool × Option Int :=
  if p ∈ ps then (ps, true, none) else if (ps.length : Int) = room then (ps.erase (farP ns (i + 1) ps) ++ [p], false, some (farP ns (i + 1) ps)) else (ps ++ [p], false, none)
noncomputable def endF (ns : List Int) (room : Int) : Nat → List Int
  | 0 => []
  | i + 1 => match ns[i]? with
    | some p => (askF ns room (endF ns room i) i p).1
    | none => endF ns room i
noncomputable def runF (ns : List Int) (room : Int) : Nat → List (Int × Bool × Option Int)
  | 0 => []
  | i + 1 => match ns[i]? with
    | some p => runF ns room i ++ [(p, (askF ns room (endF ns room i) i p).2.1, (askF ns room (endF ns room i) i p).2.2)]
    | none => runF ns room i
theorem endF_step {ns : List Int} {room : Int} {i : Nat} {p : Int} (h : ns[i]? = some p) : endF ns room (i + 1) = (askF ns room (endF ns room i) i p).1 := by
  show (match ns[i]? with | some p => (askF ns room (endF ns room i) i p).1 | none => endF ns room i) = _
  rw [h]
theorem runF_step {ns : List Int} {room : Int} {i : Nat} {p : Int} (h : ns[i]? = some p) : runF ns room (i + 1) = runF ns room i ++ [(p, (askF ns room (endF ns room i) i p).2.1, (askF ns room (endF ns room i) i p).2.2)] := by
  show (match ns[i]? with | some p => runF ns room i ++ [(p, (askF ns room (endF ns room i) i p).2.1, (askF ns room (endF ns room i) i p).2.2)] | none => runF ns room i) = _
  rw [h]
theorem askF_nd {ns : List Int} {room : Int} {ps : List Int} {i : Nat} {p : Int} (h : ps.Nodup) : (askF ns room ps i p).1.Nodup := by
  unfold askF
  split
  · exact h
  · rename_i n
    split
    · exact nd_snoc' (h.erase _) fun m => n (List.mem_of_mem_erase m)
    · exact nd_snoc' h n
theorem askF_len {ns : List Int} {room : Int} {ps : List Int} {i : Nat} {p : Int} : (askF ns room ps i p).1.length ≤ ps.length + 1 := by
  unfold askF
  split
  · show ps.length ≤ _; omega
  · split
    · have := List.length_erase_le (a := farP ns (i + 1) ps) (l := ps)
      show (ps.erase (farP ns (i + 1) ps) ++ [p]).length ≤ _
      simp; omega
    · show (ps ++ [p]).length ≤ _
      simp
theorem endF_len (ns : List Int) (room : Int) : ∀ i, (endF ns room i).length ≤ i
  | 0 => Nat.le_refl _
  | i + 1 => by
    have := endF_len ns room i
    cases h : ns[i]? with
    | some p => rw [endF_step h]; exact Nat.le_trans askF_len (by omega)
    | none => unfold endF; rw [h]; show (endF ns room i).length ≤ _; omega
theorem runF_len (ns : List Int) (room : Int) : ∀ i, i ≤ ns.length → (runF ns room i).length = i
  | 0, _ => rfl
  | i + 1, h => by
    have := runF_len ns room i (by omega)
    rw [runF_step (List.getElem?_eq_getElem (by omega : i < ns.length))]
    simp [this]
end Pg
end
section
set_option Elab.async false
set_option linter.all false
set_option maxRecDepth 100000
set_option maxHeartbeats 4000000
namespace Pg
open PySem PySem.Spec PyProof.Rows L2
def noTab : Option HO → Bool
  | some (.tbl _) => false
  | some (.ext _) => false
  | _ => true
theorem LamTab.kp {P : Addr} {pos : Pos} {q : Str} {H H' : Hp} {S : List Addr} (h : LamTab P pos q H) (k : Kp S H H') (n : ∀ b ∈ S, noTab (H b) = true) : LamTab P pos q H' := by
  rcases h with h | ⟨c, h1, h2⟩
  · exact .inl (k _ _ h fun m => by have := n _ m; rw [h] at this; cases this)
  · exact .inr ⟨c, k _ _ h1 fun m => (by have := n _ m; rw [h1] at this; cases this), k _ _ h2 fun m => (by have := n _ m; rw [h2] at this; cases this)⟩
theorem LamTab.keep {P : Addr} {pos : Pos} {q : Str} {H H' : Hp} (h : LamTab P pos q H) (k : Same H H') : LamTab P pos q H' := h.kp (S := []) (fun b o e _ => k b o e) (fun _ m => by cases m)
theorem LamTab.put {P l : Addr} {pos : Pos} {q : Str} {H : Hp} {o : HO} (h : LamTab P pos q H) (n : noTab (H l) = true) : LamTab P pos q (upd H l o) :=
  h.kp (S := [l]) (Kp.refl.put (by simp)) (fun b m => by rw [List.mem_singleton.mp m]; exact n)
theorem LamTab.off {P l : Addr} {pos : Pos} {q : Str} {H : Hp} (h : LamTab P pos q H) (n : noTab (H l) = true) : l ≠ P := by
  rintro rfl
  rcases h with h | ⟨c, h1, h2⟩
  · rw [h] at n; cases n
  · rw [h1] at n; cases n
theorem LamTab.there {P : Addr} {pos : Pos} {q : Str} {H : Hp} (h : LamTab P pos q H) : ∃ o, H P = some o := by
  rcases h with h | ⟨c, h1, h2⟩
  · exact ⟨_, h⟩
  · exact ⟨_, h1⟩
def af (room : Int) (nl : Addr) (i : Int) (dd : Addr) : List (Str × V) := [("room", .int room), ("nexts", .ref nl), ("at", .int i), ("due", .ref dd)]
section
variable {room i : Int} {nl dd : Addr}
theorem af_room : (af room nl i dd).lookup ("room" : Str) = some (.int room) := by rfl
theorem af_nexts : (af room nl i dd).lookup ("nexts" : Str) = some (.ref nl) := by rfl
theorem af_at : (af room nl i dd).lookup ("at" : Str) = some (.int i) := by rfl
theorem af_due : (af room nl i dd).lookup ("due" : Str) = some (.ref dd) := by rfl
theorem af_ask : (af room nl i dd).lookup ("ask" : Str) = none := by rfl
theorem af_far : (af room nl i dd).lookup ("farthest" : Str) = none := by rfl
theorem af_put {j : Int} : putF "at" (.int j) (af room nl i dd) = af room nl j dd := by rfl
end
abbrev natsV (ts : List Nat) : List V := ts.map fun v : Nat => V.int (v : Int)
structure AheadAt (C : Addr) (H : Hp) (p nl dd : Addr) (room : Int) (ns : List Int) (i : Nat) (ps : List Int) : Prop where
  ob : ∃ dx, H p = some (.ins C dx (af room nl i dd))
  nx : H nl = some (.lst (natsV (nextsOf ns)))
  du : H dd = some (.dK (SD (ZF ns i ps)))
  nd : ps.Nodup
  sm : ps.length ≤ 500
section
variable {C : Addr} {H H' : Hp} {p nl dd l : Addr} {room : Int} {ns : List Int} {i : Nat} {ps : List Int} {o : HO}
theorem AheadAt.keep (h : AheadAt C H p nl dd room ns i ps) (s : Same H H') : AheadAt C H' p nl dd room ns i ps := by
  obtain ⟨⟨dx, h1⟩, h2, h3, h4, h5⟩ := h
  exact ⟨⟨dx, s _ _ h1⟩, s _ _ h2, s _ _ h3, h4, h5⟩
theorem AheadAt.put (h : AheadAt C H p nl dd room ns i ps) (n1 : p ≠ l) (n2 : nl ≠ l) (n3 : dd ≠ l) : AheadAt C (upd H l o) p nl dd room ns i ps := by
  obtain ⟨⟨dx, h1⟩, h2, h3, h4, h5⟩ := h
  exact ⟨⟨dx, by rw [upd_ne n1]; exact h1⟩, by rw [upd_ne n2]; exact h2, by rw [upd_ne n3]; exact h3, h4, h5⟩
end
def spNexts : Sp := spOf fun ns => natsV (nextsOf ns)
def spAInit (C : Addr) : Sp := fun vs H Q _ => ∃ (p dx tr : Addr) (room : Int) (ns : List Int), vs = [.ref p, .int room, .ref tr] ∧ H p = some (.ins C dx []) ∧ H tr = some (.lst (ns.map V.int)) ∧ ns.length ≤ 400 ∧
  ∀ (nl dd : Addr) (H' : Hp), H nl = none → H dd = none → AheadAt C H' p nl dd room ns 0 [] → Kp [p] H H' → Q .non H'
def spFar (C P : Addr) (pos : Pos) (q : Str) : Sp := fun vs H Q _ => ∃ (p dx dd : Addr) (fs : List (Str × V)) (Z : List (Int × Int)), vs = [.ref p] ∧ H p = some (.ins C dx fs) ∧ fs.lookup ("due" : Str) = some (.ref dd) ∧ H dd = some (.dK (dI Z)) ∧ (Z.map (·.1)).Nodup ∧ Z ≠ [] ∧ LamTab P pos q H ∧
  ∀ (H' : Hp) (n : Int), Kp [P] H H' → LamTab P pos q H' → FarOf Z n → Q (.int n) H'
def spAAsk (C P : Addr) (pos : Pos) (q : Str) : Sp := fun vs H Q _ => ∃ (p nl dd : Addr) (room page : Int) (ns : List Int) (i : Nat) (ps : List Int), vs = [.ref p, .int page] ∧ AheadAt C H p nl dd room ns i ps ∧ ns[i]? = some page ∧ 1 ≤ room ∧ ps.length < 500 ∧ i < 1000 ∧ LamTab P pos q H ∧
  ∀ (t : Addr) (H' : Hp), H t = none → H' t = some (.tup (stepV (page, (askF ns room ps i page).2.1, (askF ns room ps i page).2.2))) →
    AheadAt C H' p nl dd room ns (i + 1) (askF ns room ps i page).1 → Kp [p, dd, P] H H' → LamTab P pos q H' → Q (.ref t) H'
def spEmptyA (C : Addr) : Sp := fun vs H Q _ => ∃ (tr : Addr) (room : Int) (ns : List Int), vs = [.ref tr, .int room, .str "far"] ∧ H tr = some (.lst (ns.map V.int)) ∧ ns.length ≤ 400 ∧
  ∀ (x nl dd : Addr) (H' : Hp), H x = none → H nl = none → H dd = none → AheadAt C H' x nl dd room ns 0 [] → Same H H' → Q (.ref x) H'
def spWalkF (P : Addr) (pos : Pos) (q : Str) : Sp := fun vs H Q _ => ∃ (tr : Addr) (room : Int) (ns : List Int), vs = [.ref tr, .int room, .str "far"] ∧ H tr = some (.lst (ns.map V.int)) ∧ 1 ≤ room ∧ ns.length ≤ 400 ∧ LamTab P pos q H ∧
  ∀ (l : Addr) (ts : List Addr) (H' : Hp), H l = none → H' l = some (.lst (ts.map V.ref)) → StepsAt H' ts (runF ns room ns.length) → Kp [P] H H' → LamTab P pos q H' → Q (.ref l) H'
def spLawFar : Sp := fun vs H Q _ => ∃ (tr : Addr) (room : Int) (ns : List Int), vs = [.ref tr, .int room] ∧ H tr = some (.lst (ns.map V.int)) ∧ 1 ≤ room ∧ ns.length ≤ 400 ∧
  ∀ (l : Addr) (ts : List Addr) (H' : Hp), H l = none → H' l = some (.lst (ts.map V.ref)) → StepsAt H' ts (runF ns room ns.length) → Same H H' → Q (.ref l) H'
def spLawFst : Sp := fun vs H Q _ => ∃ (tr hl : Addr) (i : Nat) (ns hs : List Int), vs = [.ref tr, .int (i : Int), .ref hl] ∧ H tr = some (.lst (ns.map V.int)) ∧ H hl = some (.lst (hs.map V.int)) ∧ ns.length ≤ 400 ∧ hs.length ≤ 400 ∧ i < ns.length ∧ hs ≠ [] ∧ hs.Nodup ∧
  ∀ (n : Int) (H' : Hp), FarOf (ZF ns (i + 1) hs) n → Same H H' → Q (.int n) H'
theorem rd_far {i : Nat} {P d : Addr} {pos : Pos} {qual : Str} {σ : L2.St} {H : Hp} {Q : VK} {Z : List (Int × Int)} (h1 : σ[i]? = some (some (.ref d))) (h2 : H d = some (.dK (dI Z))) (h3 : (Z.map (·.1)).Nodup) (h4 : Z ≠ []) (h5 : LamTab P pos qual H)
    (h6 : ∀ (H' : Hp) (n : Int), Kp [P] H H' → LamTab P pos qual H' → FarOf Z n → Q (.int n) H') : tFar i P pos qual σ H Q := ⟨d, Z, h1, h2, h3, h4, h5, h6⟩
end Pg
namespace Pg
open PySem PySem.Spec PyProof.Rows L2
theorem room_in1 {k : Nat} {A : Around} (r : Room k A) : A.in1.depth < recursionLimit ∧ A.in1.units < cLine := by
  have h1 := r.dp
  have h2 := r.un
  exact ⟨by show A.depth < _; omega, by show A.units + 1 < _; omega⟩
end Pg
namespace Pg
open PySem PySem.Spec PyProof.Rows L2
def goneF : Option Int → V
  | none => .non
  | some g => .int g
def wordF (b : Bool) : Str := if b then "hit" else "fault"
theorem stepV_F (p : Int) (b : Bool) (g : Option Int) : stepV (p, b, g) = [.int p, .str (wordF b), goneF g] := by cases g <;> rfl
theorem ZF_put {ns : List Int} {i : Nat} {p : Int} {ps : List Int} (h : ns[i]? = some p) (hp : p ∈ ps) : putK (SD (ZF ns i ps)) (Sum.inl p : Key) (V.int (nx ns (i + 1) p : Nat)) = SD (ZF ns (i + 1) ps) := by
  rw [map_put (by rw [ZF_keys]; exact hp)]
  congr 1
  unfold ZF
  rw [List.map_map]
  refine List.map_congr_left fun q _ => ?_
  show (if q = p then (p, ((nx ns (i + 1) p : Nat) : Int)) else (q, ((nx ns i q : Nat) : Int))) = _
  by_cases e : q = p
  · subst e; rw [if_pos rfl]
  · rw [if_neg e, nx_step h (Ne.symm e)]
theorem ZF_new {ns : List Int} {i : Nat} {p : Int} {ps : List Int} (hp : p ∉ ps) : putK (SD (ZF ns i ps)) (Sum.inl p : Key) (V.int (nx ns i p : Nat)) = SD (ZF ns i (ps ++ [p])) := by
  have := dOf_put (g := fun t => V.int t.2) (T := ZF ns i ps) (p := p) (i := (nx ns i p : Nat)) (by rw [ZF_keys]; exact hp)
  rw [this]
  unfold ZF
  rw [List.map_append]
  rfl
theorem ZF_drop {ns : List Int} {i : Nat} {g : Int} {ps : List Int} (nd : ps.Nodup) : dropK (SD (ZF ns i ps)) (Sum.inl g : Key) = SD (ZF ns i (ps.erase g)) := by
  rw [dOf_drop]
  congr 1
  rw [nd.erase_eq_filter]
  unfold ZF
  rw [List.filter_map]
  congr 1
theorem ZF_has {ns : List Int} {i : Nat} {g : Int} {ps : List Int} (nd : ps.Nodup) (h : g ∈ ps) : valV (SD (ZF ns i ps)) (Sum.inl g : Key) = some (V.int (nx ns i g : Nat)) := by
  have := dOf_at (g := fun t => V.int t.2) (T := ZF ns i ps) (t := (g, ((nx ns i g : Nat) : Int))) (by rw [ZF_keys]; exact nd) (List.mem_map.mpr ⟨g, h, rfl⟩)
  exact this
theorem ZF_no {ns : List Int} {i : Nat} {g : Int} {ps : List Int} (h : g ∉ ps) : valV (SD (ZF ns i ps)) (Sum.inl g : Key) = none := dOf_no (by rw [ZF_keys]; exact h)
theorem rd_dnotin {σ : L2.St} {H : Hp} {Q : VK} {td ty : TE} (q : ty σ H fun y H1 => td σ H1 fun x H2 => ∃ a o, x = .ref a ∧ DGet H2 a y o ∧ Q (.bl (!o.isSome)) H2) : tDNotIn ty td σ H Q := q
end Pg
end
section
set_option Elab.async false
set_option linter.all false
set_option maxRecDepth 100000
set_option maxHeartbeats 4000000
namespace Pg
open PySem PySem.Spec PyProof.Rows L2
section
variable {X : Cx}
def rRemove : V → List V → Hp → VK → Prop := fun x vs H Q => ∃ (l : Addr) (ns : List Int) (g : Int), x = .ref l ∧ vs = [.int g] ∧ H l = some (.lst (ns.map V.int)) ∧ g ∈ ns ∧ Q .non (upd H l (.lst ((ns.erase g).map V.int)))
end
end Pg
namespace Pg
open PySem PySem.Spec PyProof.Rows L2
theorem rd_rng3 {σ : L2.St} {H : Hp} {ta : TA} {R : It → Hp → Prop} (q : ta σ H fun vs H1 => ∃ (i j c : Int) (n : Nat), vs = [.int i, .int j, .int c] ∧ RgC i j c n ∧ R (Itc i c n) H1) : iRng3 ta σ H R := q
def goneN (ns : List Int) (i : Nat) (p : Int) : Bool := !decide (nx ns i p < ns.length)
theorem flt_t {α : Type} {l : List α} {x : α} {f : α → Bool} (h : f x = true) : (l ++ [x]).filter f = l.filter f ++ [x] := by
  simp [h]
theorem flt_f {α : Type} {l : List α} {x : α} {f : α → Bool} (h : f x = false) : (l ++ [x]).filter f = l.filter f := by
  simp [h]
end Pg
namespace Pg
open PySem PySem.Spec PyProof.Rows L2
theorem DeckAt.kp {H H' : Hp} {dk g P : Addr} {c : Int} {pos : Pos} {q : Str} (h : DeckAt H dk g c) (t : LamTab P pos q H) (k : Kp [P] H H') : DeckAt H' dk g c := by
  obtain ⟨ns, fold, cnt, h1, h2, r⟩ := h
  exact ⟨ns, fold, cnt, k _ _ h1 (by simpa using t.off (by rw [h1]; rfl)), k _ _ h2 (by simpa using t.off (by rw [h2]; rfl)), r⟩
theorem LamTab.deck {H H' : Hp} {dk g P : Addr} {c : Int} {pos : Pos} {q : Str} (t : LamTab P pos q H) (h : DeckAt H dk g c) (k : Kp [dk, g] H H') : LamTab P pos q H' := by
  obtain ⟨ns, fold, cnt, h1, h2, r⟩ := h
  refine t.kp k fun b hb => ?_
  simp only [List.mem_cons, List.not_mem_nil, or_false] at hb
  rcases hb with rfl | rfl
  · rw [h1]; rfl
  · rw [h2]; rfl
end Pg
end
section
set_option Elab.async false
set_option linter.all false
set_option maxRecDepth 100000
set_option maxHeartbeats 4000000
namespace Pg
open PySem PySem.Spec PyProof.Rows L2
def StepOk (room : Int) (C : List Int) (p : Int) (b : Bool) (g : Option Int) (C' : List Int) : Prop :=
  (b = true ∧ p ∈ C ∧ g = none ∧ C'.Perm C) ∨ (b = false ∧ p ∉ C ∧ g = none ∧ (C.length : Int) ≠ room ∧ C'.Perm (p :: C)) ∨
  (∃ q, b = false ∧ p ∉ C ∧ g = some q ∧ q ∈ C ∧ (C.length : Int) = room ∧ C'.Perm (p :: C.erase q))
inductive RunOk (room : Int) : List Int → List Int → Steps → Prop
  | nil (C : List Int) : RunOk room C [] []
  | cons {C C' ns : List Int} {ss : Steps} {p : Int} {b : Bool} {g : Option Int} : StepOk room C p b g C' → RunOk room C' ns ss → RunOk room C (p :: ns) ((p, b, g) :: ss)
theorem StepOk.nd {room : Int} {C C' : List Int} {p : Int} {b : Bool} {g : Option Int} (h : StepOk room C p b g C') (nd : C.Nodup) : C'.Nodup := by
  rcases h with ⟨_, _, _, q⟩ | ⟨_, n, _, _, q⟩ | ⟨x, _, n, _, _, _, q⟩
  · exact q.nodup_iff.mpr nd
  · exact q.nodup_iff.mpr (List.nodup_cons.mpr ⟨n, nd⟩)
  · exact q.nodup_iff.mpr (List.nodup_cons.mpr ⟨fun m => n (List.mem_of_mem_erase m), nd.erase _⟩)
theorem StepOk.len {room : Int} {C C' : List Int} {p : Int} {b : Bool} {g : Option Int} (h : StepOk room C p b g C') (l : (C.length : Int) ≤ room) : (C'.length : Int) ≤ room := by
  rcases h with ⟨_, _, _, q⟩ | ⟨_, n, _, k, q⟩ | ⟨x, _, n, _, m, k, q⟩
  · rw [q.length_eq]; exact l
  · rw [q.length_eq]; simp; omega
  · rw [q.length_eq, List.length_cons, List.length_erase_of_mem m]
    have : 0 < C.length := List.length_pos_of_mem m
    omega
abbrev fN (ss : Steps) : Nat := (ss.filter fun s => !s.2.1).length
theorem fN_cons (p : Int) (b : Bool) (g : Option Int) (ss : Steps) : fN ((p, b, g) :: ss) = (if b = true then 0 else 1) + fN ss := by
  unfold fN
  rw [List.filter_cons]
  cases b
  · simp; omega
  · simp
theorem run_len {room : Int} {C ns : List Int} {ss : Steps} (h : RunOk room C ns ss) : ss.length = ns.length := by
  induction h with
  | nil => rfl
  | cons _ _ ih => simp [ih]
theorem okT (room : Int) (ren : Bool) (hr : 1 ≤ room) : ∀ (ns : List Int) (T : Ts) (i : Nat), (T.map (·.1)).Nodup → RunOk room (T.map (·.1)) ns (runT room ren T i ns)
  | [], T, i, _ => .nil _
  | p :: r, T, i, nd => by
    have ih := okT room ren hr r (askT room ren T i p).1 (i + 1) (askT_nd nd)
    refine .cons ?_ ih
    unfold askT
    by_cases h1 : p ∈ T.map (·.1)
    · rw [if_pos h1]
      refine .inl ⟨rfl, h1, rfl, ?_⟩
      cases ren with
      | false => exact .refl _
      | true =>
        have : ((T.filter fun t => !decide (t.1 = p)) ++ [(p, (i : Int))]).map (·.1) = (T.map (·.1)).erase p ++ [p] := by
          rw [List.map_append, nd.erase_eq_filter, List.filter_map]
          congr 1
        show (((T.filter fun t => !decide (t.1 = p)) ++ [(p, (i : Int))]).map (·.1)).Perm _
        rw [this]
        exact (List.perm_append_singleton p _).trans (List.perm_cons_erase h1).symm
    · rw [if_neg h1]
      by_cases h2 : (T.length : Int) = room
      · rw [if_pos h2]
        cases T with
        | nil => simp at h2; omega
        | cons z rr =>
          refine .inr (.inr ⟨z.1, rfl, h1, rfl, List.mem_cons_self, by rw [List.length_map]; exact h2, ?_⟩)
          show ((rr ++ [(p, (i : Int))]).map (·.1)).Perm (p :: (z.1 :: rr.map (·.1)).erase z.1)
          rw [List.map_append, List.erase_cons_head]
          exact List.perm_append_singleton p _
      · rw [if_neg h2]
        refine .inr (.inl ⟨rfl, h1, rfl, by rw [List.length_map]; exact h2, ?_⟩)
        rw [List.map_append]
        exact List.perm_append_singleton p _
theorem okQ (room : Int) (hr : 1 ≤ room) : ∀ (ns : List Int) (q : Zs), (q.map (·.1)).Nodup → RunOk room (q.map (·.1)) ns (runQ room q ns)
  | [], q, _ => .nil _
  | p :: r, q, nd => by
    have ih := okQ room hr r (askQ room q p).1 (askQ_nd room q p nd)
    refine .cons ?_ ih
    unfold askQ
    by_cases h1 : p ∈ q.map (·.1)
    · rw [if_pos h1]
      refine .inl ⟨rfl, h1, rfl, ?_⟩
      rw [mark_fst]
    · rw [if_neg h1]
      by_cases h2 : (q.length : Int) = room
      · rw [if_pos h2]
        obtain ⟨z, rr, e⟩ := sweepQ_head q (fun z => by rw [z] at h2; simp at h2; omega)
        have hp := sweepQ_fst_perm q
        rw [e] at hp ⊢
        have hz : z ∈ q.map (·.1) := hp.mem_iff.mp List.mem_cons_self
        refine .inr (.inr ⟨z, rfl, h1, rfl, hz, by rw [List.length_map]; exact h2, ?_⟩)
        show ((rr ++ [(p, true)]).map (·.1)).Perm (p :: (q.map (·.1)).erase z)
        rw [List.map_append]
        refine (List.perm_append_singleton p _).trans (List.Perm.cons p ?_)
        have := hp.erase z
        rw [List.map_cons, List.erase_cons_head] at this
        exact this
      · rw [if_neg h2]
        refine .inr (.inl ⟨rfl, h1, rfl, by rw [List.length_map]; exact h2, ?_⟩)
        rw [List.map_append]
        exact List.perm_append_singleton p _
inductive FarRun (room : Int) : List Int → List Int → Steps → Prop
  | nil (C : List Int) : FarRun room C [] []
  | cons {C C' ns : List Int} {ss : Steps} {p : Int} {b : Bool} {g : Option Int} : StepOk room C p b g C' → (∀ q, g = some q → ∀ c ∈ C, ns.idxOf c ≤ ns.idxOf q) → FarRun room C' ns ss → FarRun room C (p :: ns) ((p, b, g) :: ss)
theorem FarRun.ok {room : Int} {C ns : List Int} {ss : Steps} (h : FarRun room C ns ss) : RunOk room C ns ss := by
  induction h with
  | nil => exact .nil _
  | cons a _ _ ih => exact .cons a ih
def cb (b : Prop) [Decidable b] : Nat := if b then 1 else 0
abbrev nN (ns : List Int) (t : Nat) (S : List Int) : Nat := S.countP fun c => decide (ns.idxOf c < t)
end Pg
end
section
set_option Elab.async false
set_option linter.all false
set_option maxRecDepth 100000
set_option maxHeartbeats 4000000
namespace Pg
open PySem PySem.Spec PyProof.Rows L2
theorem FarOf.ex : ∀ {Z : List (Int × Int)}, Z ≠ [] → ∃ k, FarOf Z k
  | [], h => absurd rfl h
  | [z], _ => ⟨z.1, z.2, by simp, fun y hy => by rw [List.mem_singleton.mp hy]; exact .inr ⟨rfl, Int.le_refl _⟩⟩
  | z :: y :: r, _ => by
    obtain ⟨k, v, m, f⟩ := FarOf.ex (Z := y :: r) (by simp)
    by_cases h : v < z.2 ∨ (v = z.2 ∧ z.1 < k)
    · refine ⟨z.1, z.2, List.mem_cons_self, fun x hx => ?_⟩
      rcases List.mem_cons.mp hx with e | hx
      · subst e; exact .inr ⟨rfl, Int.le_refl _⟩
      · have := f x hx
        omega
    · refine ⟨k, v, List.mem_cons_of_mem _ m, fun x hx => ?_⟩
      rcases List.mem_cons.mp hx with e | hx
      · subst e; omega
      · exact f x hx
theorem FarOf.far {ns : List Int} {i : Nat} {ps : List Int} {k : Int} (h : FarOf (ZF ns i ps) k) : ∀ c ∈ ps, nx ns i c ≤ nx ns i k := by
  obtain ⟨v, m, f⟩ := h
  obtain ⟨p, hp, e⟩ := List.mem_map.mp m
  injection e with e1 e2
  subst e1
  intro c hc
  have := f _ (List.mem_map.mpr ⟨c, hc, rfl⟩)
  dsimp only at this
  omega
theorem askF_ok {ns : List Int} {room : Int} {ps : List Int} {i : Nat} {p : Int} (hr : 1 ≤ room) : StepOk room ps p (askF ns room ps i p).2.1 (askF ns room ps i p).2.2 (askF ns room ps i p).1 ∧ ∀ q, (askF ns room ps i p).2.2 = some q → ∀ c ∈ ps, nx ns (i + 1) c ≤ nx ns (i + 1) q := by
  unfold askF
  by_cases h1 : p ∈ ps
  · rw [if_pos h1]
    exact ⟨.inl ⟨rfl, h1, rfl, .refl _⟩, fun q e => by cases e⟩
  · rw [if_neg h1]
    by_cases h2 : (ps.length : Int) = room
    · rw [if_pos h2]
      obtain ⟨k, hk⟩ := FarOf.ex (Z := ZF ns (i + 1) ps) (fun z => by
        have : ps.length = 0 := by rw [← ZF_len ns (i + 1) ps, z]; rfl
        omega)
      rw [farP_of hk]
      exact ⟨.inr (.inr ⟨k, rfl, h1, rfl, hk.mem, h2, List.perm_append_singleton p _⟩), fun q e => by cases e; exact hk.far⟩
    · rw [if_neg h2]
      exact ⟨.inr (.inl ⟨rfl, h1, rfl, h2, List.perm_append_singleton p _⟩), fun q e => by cases e⟩
theorem runF_at {ns : List Int} {room : Int} : ∀ {n i : Nat} {p : Int}, n ≤ ns.length → i < n → ns[i]? = some p → (runF ns room n)[i]? = some (p, (askF ns room (endF ns room i) i p).2.1, (askF ns room (endF ns room i) i p).2.2)
  | 0, i, p, _, h, _ => by omega
  | n + 1, i, p, hn, h, hp => by
    have hl := runF_len ns room n (by omega)
    rw [runF_step (List.getElem?_eq_getElem (by omega : n < ns.length))]
    by_cases e : i = n
    · subst e
      rw [List.getElem?_eq_getElem (by omega : i < ns.length)] at hp
      cases hp
      rw [List.getElem?_append_right (by omega)]
      simp [hl]
    · rw [List.getElem?_append_left (by omega)]
      exact runF_at (by omega) (by omega) hp
theorem farRun_from {ns : List Int} {room : Int} (hr : 1 ≤ room) : ∀ (k i : Nat), ns.length - i = k → i ≤ ns.length → FarRun room (endF ns room i) (ns.drop i) ((runF ns room ns.length).drop i)
  | 0, i, h, hi => by
    have : i = ns.length := by omega
    subst this
    have hl := runF_len ns room ns.length (Nat.le_refl _)
    rw [List.drop_length, List.drop_eq_nil_of_le (by omega)]
    exact .nil _
  | k + 1, i, h, hi => by
    have hlt : i < ns.length := by omega
    have hp := List.getElem?_eq_getElem hlt
    have ih := farRun_from (ns := ns) hr k (i + 1) (by omega) (by omega)
    generalize ns[i] = p at *
    have hs := runF_at (ns := ns) (room := room) (Nat.le_refl ns.length) hlt hp
    obtain ⟨hl2, e2⟩ := List.getElem?_eq_some_iff.mp hs
    rw [drop_at hp, List.drop_eq_getElem_cons hl2, e2]
    rw [endF_step hp] at ih
    obtain ⟨a, b⟩ := askF_ok (ns := ns) (room := room) (ps := endF ns room i) (i := i) (p := p) hr
    refine .cons a (fun q hq c hc => ?_) ih
    have := b q hq c hc
    unfold nx at this
    omega
theorem farRun_all {ns : List Int} {room : Int} (hr : 1 ≤ room) : FarRun room [] ns (runF ns room ns.length) := by
  have := farRun_from (ns := ns) hr ns.length 0 (by omega) (Nat.zero_le _)
  simpa [endF] using this
inductive Rl
  | L (ren : Bool)
  | C
  | A
def ruleS : Rl → Str
  | .L ren => ruleOf ren
  | .C => "clock"
  | .A => "far"
noncomputable def run4 (r : Rl) (room : Int) (ns : List Int) : Steps := match r with
  | .L ren => runT room ren [] 0 ns
  | .C => runQ room [] ns
  | .A => runF ns room ns.length
theorem ok4 (r : Rl) {room : Int} (hr : 1 ≤ room) (ns : List Int) : RunOk room [] ns (run4 r room ns) := by
  cases r with
  | L ren => exact okT room ren hr ns [] 0 List.nodup_nil
  | C => exact okQ room hr ns [] List.nodup_nil
  | A => exact (farRun_all hr).ok
theorem len4 (r : Rl) {room : Int} (hr : 1 ≤ room) (ns : List Int) : (run4 r room ns).length = ns.length := run_len (ok4 r hr ns)
theorem all_fit {room : Int} {C ns : List Int} {ss : Steps} (h : RunOk room C ns ss) : C.Nodup → (dc (C ++ ns) : Int) ≤ room → fN ss + C.length = dc (C ++ ns) := by
  induction h with
  | nil C =>
    intro nd _
    have := dc_of (us := C) (l := C ++ []) nd (fun k => by simp)
    simp [fN, this]
  | @cons C C' ns ss p b g hs hr ih =>
    intro nd hd
    have nd' := hs.nd nd
    rw [fN_cons]
    rcases hs with ⟨rfl, m, rfl, q⟩ | ⟨rfl, n, rfl, k, q⟩ | ⟨x, rfl, n, rfl, m, k, q⟩
    · have e : dc (C' ++ ns) = dc (C ++ p :: ns) := by
        refine dc_of (ddp_nd _) fun x => ?_
        rw [ddp_mem]
        simp only [List.mem_append, List.mem_cons, q.mem_iff]
        constructor
        · rintro (a | a)
          · exact .inl a
          · exact .inr (.inr a)
        · rintro (a | a | a)
          · exact .inl a
          · exact .inl (a ▸ m)
          · exact .inr a
      have := ih nd' (by rw [e]; exact hd)
      rw [q.length_eq, e] at this
      simpa using this
    · have e : dc (C' ++ ns) = dc (C ++ p :: ns) := by
        refine dc_of (ddp_nd _) fun x => ?_
        rw [ddp_mem]
        simp only [List.mem_append, List.mem_cons, q.mem_iff]
        constructor
        · rintro ((a | a) | a)
          · exact .inr (.inl a)
          · exact .inl a
          · exact .inr (.inr a)
        · rintro (a | a | a)
          · exact .inl (.inr a)
          · exact .inl (.inl a)
          · exact .inr a
      have := ih nd' (by rw [e]; exact hd)
      rw [q.length_eq, e, List.length_cons] at this
      simp
      omega
    · have h1 : (p :: C).length ≤ (ddp (C ++ p :: ns)).length := nodup_le (List.nodup_cons.mpr ⟨n, nd⟩) (fun y hy => by
        rw [ddp_mem]
        rcases List.mem_cons.mp hy with e | hy
        · subst e; simp
        · simp [hy])
      have h2 : (dc (C ++ p :: ns) : Int) ≤ room := hd
      unfold dc at h2
      rw [List.length_cons] at h1
      omega
end Pg
namespace Pg
open PySem PySem.Spec PyProof.Rows L2
theorem StepsAt.at {H : Hp} : ∀ {ts : List Addr} {ss : Steps} {j : Nat} {t : Addr}, StepsAt H ts ss → ts[j]? = some t → ∃ s, ss[j]? = some s ∧ H t = some (.tup (stepV s))
  | _, _, _, _, .nil, e => by simp at e
  | _, _, 0, _, .cons r _, e => by cases e; exact ⟨_, rfl, r⟩
  | _, _, j + 1, _, .cons _ q, e => StepsAt.at (j := j) q (by simpa using e)
theorem StepsAt.at' {H : Hp} {ts : List Addr} {ss : Steps} {j : Nat} {y : V} (h : StepsAt H ts ss) (e : (ts.map V.ref)[j]? = some y) : ∃ t p b g, y = .ref t ∧ ss[j]? = some (p, b, g) ∧ H t = some (.tup [.int p, .str (wordF b), goneF g]) := by
  rw [List.getElem?_map] at e
  obtain ⟨t, ht, rfl⟩ := Option.map_eq_some_iff.mp e
  obtain ⟨⟨p, b, g⟩, h1, h2⟩ := h.at ht
  rw [stepV_F] at h2
  exact ⟨t, p, b, g, rfl, h1, h2⟩
theorem word_fault (b : Bool) : decide (V.str (wordF b) = V.str "fault") = !b := by cases b <;> decide +kernel
end Pg
namespace Pg
open PySem PySem.Spec PyProof.Rows L2
theorem rd_izip {σ : L2.St} {H : Hp} {K : PySem.W.Frag} {ta : TA} {R : It → Hp → Prop} (q : ta σ H fun vs H1 => ∃ a b xs ys, vs = [.ref a, .ref b] ∧ SqL K H1 a xs ∧ SqL K H1 b ys ∧ R (Itz K a b) H1) : iZip K ta σ H R := q
def spHeld : Sp := fun vs H Q _ => ∃ (tr l : Addr) (room : Int) (ns : List Int) (ts : List Addr) (ss : Steps), vs = [.ref tr, .ref l, .int room] ∧ H tr = some (.lst (ns.map V.int)) ∧ H l = some (.lst (ts.map V.ref)) ∧ StepsAt H ts ss ∧ RunOk room [] ns ss ∧ 1 ≤ room ∧ ns.length ≤ 400 ∧
  ∀ H' : Hp, Same H H' → Q (.bl true) H'
end Pg
namespace Pg
open PySem PySem.Spec PyProof.Rows L2
end Pg
end
section
set_option Elab.async false
set_option linter.all false
set_option maxRecDepth 100000
set_option maxHeartbeats 4000000
namespace St
open PySem
def Rise (xs : Array Nat) : Prop := xs.toList.Pairwise (· < ·)
theorem Rise.at {xs : Array Nat} (h : Rise xs) {i j : Nat} (hi : i < j) (hj : j < xs.size) : xs[i]'(by omega) < xs[j] := by
  have := List.pairwise_iff_getElem.mp h i j (by simpa using (by omega : i < xs.size)) (by simpa using hj) hi
  simpa using this
def isBelow (xs : Array Nat) (j p : Nat) : Prop := p ≤ xs.size ∧ (∀ i (h : i < xs.size), i < p → xs[i] < j) ∧ (∀ i (h : i < xs.size), p ≤ i → j ≤ xs[i])
theorem isBelow.uniq {xs : Array Nat} {j p q : Nat} (h : isBelow xs j p) (h' : isBelow xs j q) : p = q := by
  rcases Nat.lt_trichotomy p q with z | z | z
  · have hp : p < xs.size := Nat.lt_of_lt_of_le z h'.1
    have a := h.2.2 p hp (Nat.le_refl _)
    have b := h'.2.1 p hp z
    omega
  · exact z
  · have hp : q < xs.size := Nat.lt_of_lt_of_le z h.1
    have a := h'.2.2 q hp (Nat.le_refl _)
    have b := h.2.1 q hp z
    omega
def Free (t : SetTable) (j : Nat) : Prop := t.place[SetTable.below t.place j]? ≠ some j
structure Good (L : Bool) (t : SetTable) : Prop where
  led : t.led = L
  up : Rise t.place
end St
end
section
set_option Elab.async false
set_option linter.all false
set_option maxRecDepth 100000
set_option maxHeartbeats 4000000
namespace St
open PySem PyProof.Rows
def kOf : Value → Int
  | .int n _ => n
  | _ => 0
abbrev keysOf (es : Array (Int × Value)) : List Int := es.toList.map fun e => kOf e.2
def SetG (prog : Program) (w : World) (L : Bool) (h : Heap) (a : Addr) (ks : List Int) : Prop :=
  ∃ o es ep t, h.get? a = some o ∧ o.ExactSet ∧ o.data = .set es ep t ∧ ElemsOf (intKind prog w) es.toList ∧ (keysOf es).Perm ks ∧ ks.Nodup ∧ es.size < scanBound ∧ t.fits es.size = true ∧ Good L t
theorem SetG.at {prog : Program} {w : World} {L : Bool} {h h' : Heap} {a : Addr} {ks : List Int} (x : SetG prog w L h a ks) (k : ∀ o, h.get? a = some o → h'.get? a = some o) : SetG prog w L h' a ks := by
  obtain ⟨o, es, ep, t, e, r⟩ := x
  exact ⟨o, es, ep, t, k _ e, r⟩
section
variable {prog : Program} {w : World}
variable {A : Around} {E : Value → Shared → Prop} {s : Shared}
def addL (ks : List Int) (k : Int) : List Int := if k ∈ ks then ks else ks ++ [k]
end
end St
end
section
set_option Elab.async false
set_option linter.all false
set_option maxRecDepth 100000
set_option maxHeartbeats 4000000
namespace St
open PySem PyProof.Rows
def ddl (ns : List Int) : List Int := ns.foldl addL []
section
variable {prog : Program} {w : World} {A : Around} {E : Value → Shared → Prop} {s : Shared}
abbrev byText (w : World) : Bool := w.params.followText "set-order"
end
end St
end
section
set_option Elab.async false
set_option linter.all false
set_option maxRecDepth 100000
set_option maxHeartbeats 4000000
namespace St
open PySem PyProof.Rows
section
variable {prog : Program} {w : World} {A : Around} {E : Value → Shared → Prop} {s : Shared}
def IsSI (h : Heap) (I : Addr) (f : Value) (i : Nat) (a : Addr) (n ep : Nat) : Prop := h.get? I = some { cls := .type "set_iterator", data := .fields #[f, .int i 0, .ref a, .int n 0, .int ep 0] }
theorem IsSI.typeIs {I a : Addr} {f : Value} {i n ep : Nat} (x : IsSI s.heap I f i a n ep) : s.TypeIs (.ref I) "set_iterator" := ⟨_, x, rfl⟩
end
end St
end
section
set_option Elab.async false
set_option linter.all false
set_option maxRecDepth 100000
set_option maxHeartbeats 4000000
namespace St
open PySem PyProof.Rows
section
variable {prog : Program} {w : World} {A : Around} {E : Value → Shared → Prop} {s : Shared}
end
end St
end
section
set_option Elab.async false
set_option linter.all false
set_option maxRecDepth 100000
set_option maxHeartbeats 4000000
namespace St
open PySem PyProof.Rows
section
variable {prog : Program} {w : World} {A : Around} {E : Value → Shared → Prop} {s : Shared}
end
end St
end
section
set_option Elab.async false
set_option linter.all false
set_option maxRecDepth 100000
set_option maxHeartbeats 4000000
namespace St
open PySem PyProof.Rows PySem.W
section
variable {prog : Program} {w : World} {A : Around} {E : Value → Shared → Prop} {s : Shared}
end
end St
end
section
set_option Elab.async false
set_option linter.all false
set_option maxRecDepth 100000
set_option maxHeartbeats 4000000
namespace Srt
open PySem PyProof.Rows
end Srt
namespace Pg
open PySem PySem.Spec PyProof.Rows L2
section
variable {X : Cx}
def SetO (prog : Program) (w : World) (p : Addr) (ks : List Int) : HO := .ext fun h => St.SetG prog w (!St.byText w) h p ks
def rSetG (prog : Program) (w : World) (K : PySem.W.Frag) : List V → Hp → VK → Prop := fun vs H Q => ∃ (a : Addr) (ns : List Int), vs = [V.ref a] ∧ SqL K H a (ns.map V.int) ∧ ns.length + 1 < scanBound ∧ ∀ p, H p = none → Q (.ref p) (upd H p (SetO prog w p (St.ddl ns)))
def rSortedG (prog : Program) (w : World) : List V → Hp → VK → Prop := fun vs H Q => ∃ (a : Addr) (ks : List Int), vs = [V.ref a] ∧ H a = some (SetO prog w a ks) ∧ ks.length ≤ sizeLine ∧ ∀ (ns : List Int) (p : Addr), ns.Perm ks → ns.Pairwise (· ≤ ·) → H p = none → Q (.ref p) (upd H p (.lst (ns.map V.int)))
end
end Pg
end
section
set_option Elab.async false
set_option linter.all false
set_option maxRecDepth 100000
set_option maxHeartbeats 4000000
namespace Srt
open PySem PyProof.Rows
section
variable {prog : Program} {w : World} {A : Around} {E : Value → Shared → Prop} {s : Shared}
end
end Srt
namespace Pg
open PySem PySem.Spec PyProof.Rows L2
section
variable {X : Cx}
def rSortedK : List V → Hp → VK → Prop := fun vs H Q => ∃ (a : Addr) (kvs : List (Key × V)) (ks : List Int), vs = [V.ref a] ∧ H a = some (.dK kvs) ∧ kvs.map (·.1) = ks.map Sum.inl ∧
  ∀ (ns : List Int) (p : Addr), ns.Perm ks → ns.Pairwise (· ≤ ·) → H p = none → Q (.ref p) (upd H p (.lst (ns.map V.int)))
def rRepr (K : PySem.W.Frag) : List V → Hp → VK → Prop := fun vs H Q => ∃ (a : Addr) (d : PyData), vs = [V.ref a] ∧ Dp K H (.ref a) d ∧ d.showable = true ∧ d.hasDict = false ∧ d.depth ≤ 60 ∧ d.shown.length ≤ sizeLine ∧ Q (.str d.shown) H
def CDivL (_ j : Int) : Prop := 0 < j ∧ j.natAbs.log2 < 9000
end
end Pg
end
section
set_option Elab.async false
set_option linter.all false
set_option maxRecDepth 100000
set_option maxHeartbeats 4000000
namespace Pg
open PySem PySem.Spec PyProof.Rows L2
abbrev Cell := Addr × HO
def Fr (S : List Addr) (H H' : Hp) : Prop := (∀ b o, H b = some o → b ∉ S → H' b = some o) ∧ ∀ b, H' b = none → H b = none
theorem Fr.refl {S H} : Fr S H H := ⟨fun _ _ h _ => h, fun _ h => h⟩
theorem Fr.trans {S H H1 H2} (a : Fr S H H1) (b : Fr S H1 H2) : Fr S H H2 := ⟨fun c o h n => b.1 c o (a.1 c o h n) n, fun c h => a.2 c (b.2 c h)⟩
theorem Fr.mono {S S' H H'} (a : Fr S H H') (h : ∀ x ∈ S, x ∈ S') : Fr S' H H' := ⟨fun c o e n => a.1 c o e fun m => n (h c m), a.2⟩
theorem Fr.of_same {S H H'} (a : Same H H') : Fr S H H' := ⟨fun c o e _ => a c o e, fun b h => by
  cases e : H b with
  | none => rfl
  | some o => rw [a b o e] at h; cases h⟩
theorem Fr.same {H H'} (a : Fr [] H H') : Same H H' := fun c o e => a.1 c o e (by simp)
theorem upd_none {H : Hp} {p b : Addr} {o : HO} (h : upd H p o b = none) : H b = none := by
  by_cases e : b = p
  · subst e; rw [upd_same] at h; cases h
  · rw [upd_ne e] at h; exact h
theorem Fr.upd {S H H'} {p : Addr} {o : HO} (a : Fr S H H') (h : p ∈ S ∨ H p = none) : Fr S H (upd H' p o) := ⟨fun c u e n => by
  have hn : c ≠ p := by
    rintro rfl
    rcases h with h | h
    · exact n h
    · rw [e] at h; cases h
  rw [upd_ne hn]; exact a.1 c u e n, fun b e => a.2 b (upd_none e)⟩
theorem Fr.kp {S H H'} (a : Fr S H H') : Kp S H H' := a.1
def New (H H' : Hp) (C : List Cell) : Prop := (C.map (·.1)).Nodup ∧ ∀ x ∈ C, H x.1 = none ∧ H' x.1 = some x.2
structure Tr (J : Hp → Prop) (O S : List Addr) (H0 H : Hp) (L : List Cell) : Prop where
  fr : Fr (O ++ S) H0 H
  j : J H
  loc : ∀ H1 H2 : Hp, (∀ b ∈ O, H2 b = H1 b) → J H1 → J H2
  od : ∀ b ∈ O, H b ≠ none
  at_ : ∀ x ∈ L, H x.1 = some x.2
  nw : ∀ x ∈ L, H0 x.1 = none ∨ x.1 ∈ S
  nO : ∀ x ∈ L, x.1 ∉ O
  nd : (L.map (·.1)).Nodup
inductive At : List Cell → Addr → HO → HO → List Cell → Prop
  | head {p : Addr} {o o' : HO} {L : List Cell} : At ((p, o) :: L) p o o' ((p, o') :: L)
  | tail {x : Cell} {p : Addr} {o o' : HO} {L L' : List Cell} : At L p o o' L' → At (x :: L) p o o' (x :: L')
section
variable {J J' : Hp → Prop} {O S : List Addr} {H0 H H' : Hp} {L L' C : List Cell} {p : Addr} {o o' : HO}
theorem Tr.get (t : Tr J O S H0 H L) (h : (p, o) ∈ L) : H p = some o := t.at_ _ h
theorem At.mem (a : At L p o o' L') : (p, o) ∈ L := by
  induction a with
  | head => simp
  | tail _ ih => exact List.mem_cons_of_mem _ ih
theorem At.app (a : At L p o o' L') : At (C ++ L) p o o' (C ++ L') := by
  induction C with
  | nil => exact a
  | cons x C ih => exact .tail ih
theorem At.keys (a : At L p o o' L') : L'.map (·.1) = L.map (·.1) := by
  induction a with
  | head => rfl
  | tail _ ih => simp [ih]
theorem At.out (a : At L p o o' L') (nd : (L.map (·.1)).Nodup) : ∀ x ∈ L', x = (p, o') ∨ (x ∈ L ∧ x.1 ≠ p) := by
  induction a with
  | head =>
    intro x hx
    rcases List.mem_cons.mp hx with e | hx
    · exact .inl e
    · refine .inr ⟨List.mem_cons_of_mem _ hx, fun e => ?_⟩
      have := (List.nodup_cons.mp (show (_ :: _).Nodup from nd)).1
      exact this (by simpa using ⟨x.2, by rw [← e]; exact hx⟩)
  | tail a ih =>
    rename_i y _ _ _ _ _
    intro x hx
    have nd' := List.nodup_cons.mp (show (y.1 :: _).Nodup from nd)
    rcases List.mem_cons.mp hx with e | hx
    · subst e
      refine .inr ⟨List.mem_cons_self, fun e => nd'.1 ?_⟩
      have := a.mem
      simpa using ⟨_, by rw [e]; exact this⟩
    · rcases ih nd'.2 x hx with e | ⟨h1, h2⟩
      · exact .inl e
      · exact .inr ⟨List.mem_cons_of_mem _ h1, h2⟩
theorem Tr.gone (t : Tr J O S H0 H L) (hp : H p = none) : p ∉ O := fun m => t.od p m hp
theorem Tr.free (t : Tr J O S H0 H L) (hp : H p = none) : H0 p = none := t.fr.2 p hp
theorem Tr.off (t : Tr J O S H0 H L) (hp : H p = none) : p ∉ L.map (·.1) := fun m => by
  obtain ⟨x, hx, e⟩ := List.mem_map.mp m
  have := t.at_ x hx
  rw [e, hp] at this; cases this
theorem Tr.new (t : Tr J O S H0 H L) (hp : H p = none) : Tr J O S H0 (upd H p o) ((p, o) :: L) where
  fr := t.fr.upd (.inr (t.free hp))
  j := t.loc H _ (fun b hb => upd_ne (fun e => t.od b hb (by rw [e]; exact hp))) t.j
  loc := t.loc
  od := fun b hb e => t.od b hb (upd_none e)
  at_ := fun x hx => by
    rcases List.mem_cons.mp hx with e | hx
    · subst e; exact upd_same
    · have := t.at_ x hx
      rw [upd_ne (ne_of_none this hp)]; exact this
  nw := fun x hx => by
    rcases List.mem_cons.mp hx with e | hx
    · subst e; exact .inl (t.free hp)
    · exact t.nw x hx
  nO := fun x hx => by
    rcases List.mem_cons.mp hx with e | hx
    · subst e; exact t.gone hp
    · exact t.nO x hx
  nd := List.nodup_cons.mpr ⟨t.off hp, t.nd⟩
theorem Tr.put (t : Tr J O S H0 H L) (a : At L p o o' L') : Tr J O S H0 (upd H p o') L' where
  fr := t.fr.upd (by
    rcases t.nw _ a.mem with h | h
    · exact .inr h
    · exact .inl (List.mem_append_right _ h))
  j := t.loc H _ (fun b hb => upd_ne (fun e => t.nO _ a.mem (by rw [← e]; exact hb))) t.j
  loc := t.loc
  od := fun b hb e => t.od b hb (upd_none e)
  at_ := fun x hx => by
    rcases a.out t.nd x hx with e | ⟨h1, h2⟩
    · subst e; exact upd_same
    · rw [upd_ne h2]; exact t.at_ x h1
  nw := fun x hx => by
    rcases a.out t.nd x hx with e | ⟨h1, h2⟩
    · subst e; exact t.nw (p, o) a.mem
    · exact t.nw x h1
  nO := fun x hx => by
    rcases a.out t.nd x hx with e | ⟨h1, h2⟩
    · subst e; exact t.nO (p, o) a.mem
    · exact t.nO x h1
  nd := by rw [a.keys]; exact t.nd
theorem Tr.perm (t : Tr J O S H0 H L) (e : L.Perm L') : Tr J O S H0 H L' :=
  ⟨t.fr, t.j, t.loc, t.od, fun x hx => t.at_ x (e.mem_iff.mpr hx), fun x hx => t.nw x (e.mem_iff.mpr hx), fun x hx => t.nO x (e.mem_iff.mpr hx), (e.map (·.1)).nodup_iff.mp t.nd⟩
theorem Tr.sub (t : Tr J O S H0 H L) (e : L'.Sublist L) : Tr J O S H0 H L' :=
  ⟨t.fr, t.j, t.loc, t.od, fun x hx => t.at_ x (e.subset hx), fun x hx => t.nw x (e.subset hx), fun x hx => t.nO x (e.subset hx), t.nd.sublist (e.map _)⟩
theorem Tr.step (t : Tr J O S H0 H L) (f : Fr O H H') (j' : J' H') (loc : ∀ H1 H2 : Hp, (∀ b ∈ O, H2 b = H1 b) → J' H1 → J' H2) (od : ∀ b ∈ O, H' b ≠ none) : Tr J' O S H0 H' L :=
  ⟨t.fr.trans (f.mono fun x hx => List.mem_append_left _ hx), j', loc, od, fun x hx => f.1 _ _ (t.at_ x hx) (t.nO x hx), t.nw, t.nO, t.nd⟩
theorem Tr.same (t : Tr J O S H0 H L) (s : Same H H') (d : ∀ b ∈ O, H' b = H b) : Tr J O S H0 H' L :=
  t.step (Fr.of_same s) (t.loc H H' d t.j) t.loc fun b hb e => t.od b hb (by rw [← d b hb]; exact e)
theorem Tr.add (t : Tr J O S H0 H L) (t' : Tr J' O S H0 H' L) (n : New H H' C) : Tr J' O S H0 H' (C ++ L) :=
  ⟨t'.fr, t'.j, t'.loc, t'.od, fun x hx => by
    rcases List.mem_append.mp hx with h | h
    · exact (n.2 x h).2
    · exact t'.at_ x h, fun x hx => by
    rcases List.mem_append.mp hx with h | h
    · exact .inl (t.free (n.2 x h).1)
    · exact t'.nw x h, fun x hx => by
    rcases List.mem_append.mp hx with h | h
    · exact t.gone (n.2 x h).1
    · exact t'.nO x h, by
    rw [List.map_append]
    refine List.nodup_append.mpr ⟨n.1, t'.nd, fun a ha b hb e => ?_⟩
    obtain ⟨x, hx, rfl⟩ := List.mem_map.mp ha
    subst e
    exact t.off (n.2 x hx).1 hb⟩
theorem Tr.ends (t : Tr J [] [] H0 H L) : Same H0 H := Fr.same t.fr
theorem Tr.old (t : Tr J O S H0 H L) (h : H0 p = some o) (n1 : p ∉ O) (n2 : p ∉ S) : H p = some o := t.fr.1 p o h (by simp [n1, n2])
end
theorem Tr.start {H : Hp} : Tr (fun _ => True) [] [] H H [] := ⟨Fr.refl, trivial, fun _ _ _ _ => trivial, by simp, by simp, by simp, by simp, by simp⟩
section
variable {J : Hp → Prop} {O S : List Addr} {H0 H : Hp} {L L' : List Cell} {Q : VK} {p : Addr} {xs : List V} {y : V}
@[elab_as_elim] theorem Tr.nw1 {motive : Hp → Prop} {o : HO} (t : Tr J O S H0 H L) (hp : H p = none) (q : ∀ H', Tr J O S H0 H' ((p, o) :: L) → motive H') : motive (upd H p o) := q _ (t.new hp)
@[elab_as_elim] theorem Tr.pt {motive : Hp → Prop} {o o' : HO} (t : Tr J O S H0 H L) (a : At L p o o' L') (q : ∀ H', Tr J O S H0 H' L' → motive H') : motive (upd H p o') := q _ (t.put a)
end
end Pg
end
section
set_option Elab.async false
set_option linter.all false
set_option maxRecDepth 100000
set_option maxHeartbeats 4000000
namespace Pg
open PySem PySem.Spec PyProof.Rows L2
mutual
inductive Dt (C : List Cell) : V → PyData → Prop
  | non : Dt C .non .none
  | bl (b : Bool) : Dt C (.bl b) (.bool b)
  | int (i : Int) : Dt C (.int i) (.int i)
  | str (x : Str) : Dt C (.str x) (.str x)
  | lst {a : Addr} {xs : List V} {ds : List PyData} : (a, HO.lst xs) ∈ C → DtAll C xs ds → Dt C (.ref a) (.list ds)
  | tup {a : Addr} {xs : List V} {ds : List PyData} : (a, HO.tup xs) ∈ C → DtAll C xs ds → Dt C (.ref a) (.tuple ds)
inductive DtAll (C : List Cell) : List V → List PyData → Prop
  | nil : DtAll C [] []
  | cons {v : V} {vs : List V} {d : PyData} {ds : List PyData} : Dt C v d → DtAll C vs ds → DtAll C (v :: vs) (d :: ds)
end
mutual
theorem Dt.mono {C C' : List Cell} (s : ∀ x ∈ C, x ∈ C') : ∀ {v : V} {d : PyData}, Dt C v d → Dt C' v d
  | _, _, .non => .non
  | _, _, .bl b => .bl b
  | _, _, .int i => .int i
  | _, _, .str x => .str x
  | _, _, .lst h a => .lst (s _ h) (DtAll.mono s a)
  | _, _, .tup h a => .tup (s _ h) (DtAll.mono s a)
theorem DtAll.mono {C C' : List Cell} (s : ∀ x ∈ C, x ∈ C') : ∀ {v : List V} {d : List PyData}, DtAll C v d → DtAll C' v d
  | _, _, .nil => .nil
  | _, _, .cons h t => .cons (Dt.mono s h) (DtAll.mono s t)
end
mutual
theorem Dt.dp {K : PySem.W.Frag} {H : Hp} {C : List Cell} (s : ∀ x ∈ C, H x.1 = some x.2) : ∀ {v : V} {d : PyData}, Dt C v d → Dp K H v d
  | _, _, .non => .non
  | _, _, .bl b => .bl b
  | _, _, .int i => .int i
  | _, _, .str x => .str x
  | _, _, .lst h a => .lst (SqL.of (s _ h)) (DtAll.dp s a)
  | _, _, .tup h a => .tup (SqT.of (s _ h)) (DtAll.dp s a)
theorem DtAll.dp {K : PySem.W.Frag} {H : Hp} {C : List Cell} (s : ∀ x ∈ C, H x.1 = some x.2) : ∀ {v : List V} {d : List PyData}, DtAll C v d → DpAll K H v d
  | _, _, .nil => .nil
  | _, _, .cons h t => .cons (Dt.dp s h) (DtAll.dp s t)
end
theorem DtAll.snoc {C : List Cell} : ∀ {vs : List V} {ds : List PyData} {v : V} {d : PyData}, DtAll C vs ds → Dt C v d → DtAll C (vs ++ [v]) (ds ++ [d])
  | _, _, _, _, .nil, h => .cons h .nil
  | _, _, _, _, .cons h t, h' => .cons h (DtAll.snoc t h')
theorem DtAll.len {C : List Cell} : ∀ {vs : List V} {ds : List PyData}, DtAll C vs ds → vs.length = ds.length
  | _, _, .nil => rfl
  | _, _, .cons _ t => by simp [DtAll.len t]
theorem DtAll.ints {C : List Cell} : ∀ ns : List Int, DtAll C (ns.map V.int) (ns.map PyData.int)
  | [] => .nil
  | n :: ns => .cons (.int n) (DtAll.ints ns)
theorem DtAll.at {C : List Cell} : ∀ {vs : List V} {ds : List PyData} {i : Nat} {v : V}, DtAll C vs ds → vs[i]? = some v → ∃ d, ds[i]? = some d ∧ Dt C v d
  | _, _, _, _, .nil, h => by simp at h
  | _, _, 0, _, .cons r t, h => by simp at h; subst h; exact ⟨_, rfl, r⟩
  | _, _, i + 1, _, .cons r t, h => by
    obtain ⟨d, h1, h2⟩ := DtAll.at (i := i) t (by simpa using h)
    exact ⟨d, by simpa using h1, h2⟩
mutual
def nodes : PyData → Nat
  | .list xs => 1 + nodesAll xs
  | .tuple xs => 1 + nodesAll xs
  | _ => 1
def nodesAll : List PyData → Nat
  | [] => 0
  | x :: xs => nodes x + nodesAll xs
end
mutual
/-- ints of some sixty figures, short texts, no dicts, not deep -/
def okD : Nat → PyData → Prop
  | _, .none => True
  | _, .bool _ => True
  | _, .int i => i.natAbs < 2 ^ 200
  | _, .str x => PyData.strOk x = true ∧ (reprText x).length ≤ 200
  | 0, _ => False
  | n + 1, .list xs => okAll n xs
  | n + 1, .tuple xs => okAll n xs
  | _, _ => False
def okAll : Nat → List PyData → Prop
  | _, [] => True
  | n, x :: xs => okD n x ∧ okAll n xs
end
mutual
theorem ok_show : ∀ (d : PyData) (n : Nat), okD n d → d.showable = true ∧ d.hasDict = false ∧ d.depth ≤ n ∧ d.canLay0 = true
  | .none, n, _ => by simp [PyData.showable, PyData.hasDict, PyData.depth, PyData.canLay0]
  | .bool _, n, _ => by simp [PyData.showable, PyData.hasDict, PyData.depth, PyData.canLay0]
  | .int i, n, h => by
    have h' : i.natAbs < 2 ^ 200 := by cases n <;> simpa [okD] using h
    refine ⟨?_, by simp [PyData.hasDict], by simp [PyData.depth], by simp [PyData.canLay0]⟩
    simp only [PyData.showable, decide_eq_true_eq]
    by_cases h0 : i.natAbs = 0
    · rw [h0]; decide
    · exact Nat.lt_trans ((Nat.log2_lt h0).mpr h') (by decide)
  | .str x, n, h => by
    have h' : PyData.strOk x = true ∧ (reprText x).length ≤ 200 := by cases n <;> simpa [okD] using h
    exact ⟨by simp [PyData.showable], by simp [PyData.hasDict], by simp [PyData.depth], by simpa [PyData.canLay0] using h'.1⟩
  | .list xs, 0, h => by simp [okD] at h
  | .list xs, n + 1, h => by
    obtain ⟨h1, h2, h3, h4⟩ := ok_shows xs n (by simpa [okD] using h)
    exact ⟨by simpa [PyData.showable] using h1, by simpa [PyData.hasDict] using h2, by simp only [PyData.depth]; omega, by simpa [PyData.canLay0] using h4⟩
  | .tuple xs, 0, h => by simp [okD] at h
  | .tuple xs, n + 1, h => by
    obtain ⟨h1, h2, h3, h4⟩ := ok_shows xs n (by simpa [okD] using h)
    exact ⟨by simpa [PyData.showable] using h1, by simpa [PyData.hasDict] using h2, by simp only [PyData.depth]; omega, by simpa [PyData.canLay0] using h4⟩
  | .dict _, n, h => by cases n <;> simp [okD] at h
theorem ok_shows : ∀ (ds : List PyData) (n : Nat), okAll n ds → PyData.showableAll ds = true ∧ PyData.hasDictAll ds = false ∧ PyData.depthAll ds ≤ n ∧ PyData.canLayAll0 ds = true
  | [], n, _ => by simp [PyData.showableAll, PyData.hasDictAll, PyData.depthAll, PyData.canLayAll0]
  | d :: ds, n, h => by
    have h' : okD n d ∧ okAll n ds := by simpa [okAll] using h
    obtain ⟨a1, a2, a3, a4⟩ := ok_show d n h'.1
    obtain ⟨b1, b2, b3, b4⟩ := ok_shows ds n h'.2
    refine ⟨by simp [PyData.showableAll, a1, b1], by simp [PyData.hasDictAll, a2, b2], by simp only [PyData.depthAll]; omega, by simp [PyData.canLayAll0, a4, b4]⟩
end
theorem ok_shaped {d : PyData} {n : Nat} (h : okD n d) (hn : n ≤ 60) : SeqAt.shaped d = true := by
  obtain ⟨_, _, h3, h4⟩ := ok_show d n h
  unfold SeqAt.shaped
  rw [Bool.and_eq_true]
  exact ⟨h4, decide_eq_true (by omega)⟩
theorem sumlen (ts : List Str) (k : Nat) (acc : Str) : (textFrom k acc ts).length ≤ acc.length + (ts.map fun t => t.length + 2).sum := by
  induction ts generalizing k acc with
  | nil => simp [textFrom]
  | cons t r ih =>
    have := ih (k + 1) (acc ++ (if k > 0 then ", " else "" : String) ++ t)
    have e : (acc ++ (if k > 0 then ", " else "" : String) ++ t).length = acc.length + (if k > 0 then 2 else 0) + t.length := by
      rw [strLen_append, strLen_append]
      split <;> rfl
    rw [e] at this
    show (textFrom (k + 1) _ r).length ≤ _
    simp only [List.map_cons, List.sum_cons]
    have z : (if k > 0 then 2 else 0 : Nat) ≤ 2 := by split <;> omega
    omega
theorem joinlen : ∀ ts : List Str, (Str.join ", " ts).length ≤ (ts.map fun t => t.length + 2).sum
  | [] => by simp [Str.join]; rfl
  | [x] => by simp [Str.join]
  | x :: y :: r => by
    have := joinlen (y :: r)
    show (x ++ (", " : Str) ++ Str.join ", " (y :: r)).length ≤ _
    rw [strLen_append, strLen_append]
    simp only [List.map_cons, List.sum_cons] at this ⊢
    have : (", " : Str).length = 2 := rfl
    omega
theorem int_len {i : Int} (h : i.natAbs < 2 ^ 200) : (Str.ofString (toString i)).length ≤ 201 := by
  have h' : i.natAbs.log2 < 200 := by
    by_cases h0 : i.natAbs = 0
    · rw [h0]; decide
    · exact (Nat.log2_lt h0).mpr h
  have := PySem.int_text_length_le (a := i) (by decide : 0 < 200) h'
  have e : (Str.ofString (toString i)).length = (toString i).length := by
    first | exact ofString_length _ | exact PySem.ofString_length _ | exact Str.ofString_length _
  omega
mutual
theorem ok_len : ∀ (d : PyData) (n : Nat), okD n d → d.shown.length + 3 ≤ 208 * nodes d
  | .none, n, _ => by simp [PyData.shown, nodes]; decide
  | .bool b, n, _ => by cases b <;> (simp [PyData.shown, nodes]; decide)
  | .int i, n, h => by
    have h' : i.natAbs < 2 ^ 200 := by cases n <;> simpa [okD] using h
    have := int_len h'
    simp only [PyData.shown, nodes]
    show (Str.ofString (toString i)).length + 3 ≤ _
    omega
  | .str x, n, h => by
    have h' : PyData.strOk x = true ∧ (reprText x).length ≤ 200 := by cases n <;> simpa [okD] using h
    simp only [PyData.shown, nodes]
    omega
  | .list xs, 0, h => by simp [okD] at h
  | .list xs, n + 1, h => by
    have := ok_lens xs n (by simpa [okD] using h)
    have s := sumlen (PyData.shownAll xs) 0 "["
    have e : (("[" : Str)).length = 1 := rfl
    simp only [PyData.shown, nodes, listText]
    rw [strLen_append]
    have e2 : (("]" : Str)).length = 1 := rfl
    omega
  | .tuple xs, 0, h => by simp [okD] at h
  | .tuple xs, n + 1, h => by
    have := ok_lens xs n (by simpa [okD] using h)
    have s := joinlen (PyData.shownAll xs)
    simp only [PyData.shown, nodes, tupleText]
    rw [strLen_append, strLen_append]
    have e : (("(" : Str)).length = 1 := rfl
    have e2 : ((if (PyData.shownAll xs).length == 1 then ",)" else ")" : String) : Str).length ≤ 2 := by split <;> decide
    omega
  | .dict _, n, h => by cases n <;> simp [okD] at h
theorem ok_lens : ∀ (ds : List PyData) (n : Nat), okAll n ds → ((PyData.shownAll ds).map fun t => t.length + 2).sum ≤ 208 * nodesAll ds
  | [], n, _ => by simp [PyData.shownAll, nodesAll]
  | d :: ds, n, h => by
    have h' : okD n d ∧ okAll n ds := by simpa [okAll] using h
    have a := ok_len d n h'.1
    have b := ok_lens ds n h'.2
    simp only [PyData.shownAll, List.map_cons, List.sum_cons, nodesAll]
    omega
end
theorem nodesAll_le : ∀ {xs : List PyData} {m : Nat}, (∀ x ∈ xs, nodes x ≤ m) → nodesAll xs ≤ m * xs.length
  | [], m, _ => by simp [nodesAll]
  | x :: xs, m, h => by
    have a := h x List.mem_cons_self
    have b := nodesAll_le (xs := xs) (m := m) fun y hy => h y (List.mem_cons_of_mem _ hy)
    simp only [nodesAll, List.length_cons, Nat.mul_add]
    omega
end Pg
end
section
set_option Elab.async false
set_option linter.all false
set_option maxRecDepth 100000
set_option maxHeartbeats 4000000
namespace Pg
open PySem PySem.Spec PyProof.Rows L2
theorem deck_loc {bg g : Addr} {c : Int} (H1 H2 : Hp) (h : ∀ b ∈ [bg, g], H2 b = H1 b) (d : DeckAt H1 bg g c) : DeckAt H2 bg g c := by
  obtain ⟨ns, fold, cnt, h1, h2, h3⟩ := d
  exact ⟨ns, fold, cnt, by rw [h bg (by simp)]; exact h1, by rw [h g (by simp)]; exact h2, h3⟩
theorem deck_od {bg g : Addr} {c : Int} {H : Hp} (d : DeckAt H bg g c) : ∀ b ∈ [bg, g], H b ≠ none := by
  obtain ⟨o, e⟩ := d.dk
  obtain ⟨o', e'⟩ := d.gr
  intro b hb
  simp at hb
  rcases hb with rfl | rfl
  · rw [e]; simp
  · rw [e']; simp
abbrev TB (bg g : Addr) (c : Int) (S : List Addr) (H0 H : Hp) (L : List Cell) : Prop := Tr (fun H => DeckAt H bg g c) [bg, g] S H0 H L
theorem TB.start {bg g : Addr} {c : Int} {H : Hp} (d : DeckAt H bg g c) : TB bg g c [] H H [] := ⟨Fr.refl, d, fun H1 H2 => deck_loc H1 H2, deck_od d, by simp, by simp, by simp, by simp⟩
theorem TB.step {bg g : Addr} {c c' : Int} {S : List Addr} {H0 H H' : Hp} {L : List Cell} (t : TB bg g c S H0 H L) (d : DeckAt H' bg g c') (f : Fr [bg, g] H H') : TB bg g c' S H0 H' L :=
  Tr.step t f d (fun H1 H2 => deck_loc H1 H2) (deck_od d)
theorem TB.up {bg g : Addr} {c c' : Int} {S : List Addr} {H0 H : Hp} {L : List Cell} (t : TB bg g c S H0 H L) (h : c ≤ c') : TB bg g c' S H0 H L := TB.step t (DeckAt.mono t.j h) Fr.refl
def spDraw : Sp := fun vs H Q _ => ∃ (bg g : Addr) (c many : Int), vs = [.ref bg, .int many] ∧ DeckAt H bg g c ∧ 0 < many ∧ many < 18446744073709551616 ∧ c ≤ 1000000 ∧
  ∀ (r : Int) (H' : Hp), 0 ≤ r → r < many → DeckAt H' bg g (c + 1) → Fr [bg, g] H H' → Q (.int r) H'
def spBag (K : PySem.W.Frag) : Sp := spDeck K
def pagesIn (ns : List Int) : Prop := ∀ x ∈ ns, 0 ≤ x ∧ x ≤ 1000000000
def spPages : Sp := fun vs H Q _ => ∃ (bg g : Addr) (c : Int), vs = [.ref bg] ∧ DeckAt H bg g c ∧ c ≤ 900000 ∧
  ∀ (l : Addr) (ns : List Int) (H' : Hp), H l = none → H' l = some (.lst (ns.map V.int)) → ns.length = 9 → pagesIn ns → DeckAt H' bg g (c + 2) → Fr [bg, g] H H' → Q (.ref l) H'
def spLine : Sp := fun vs H Q _ => ∃ (bg g : Addr) (c most : Int), vs = [.ref bg, .int most] ∧ DeckAt H bg g c ∧ c ≤ 800000 ∧ 0 ≤ most ∧ most ≤ 300 ∧
  ∀ (l : Addr) (ns : List Int) (H' : Hp), H l = none → H' l = some (.lst (ns.map V.int)) → (ns.length : Int) ≤ most → pagesIn ns → DeckAt H' bg g (c + 1300) → Fr [bg, g] H H' → Q (.ref l) H'
def spMenu (lo hi : Int) (k : Int) : Sp := fun vs H Q _ => ∃ (bg g : Addr) (c : Int), vs = [.ref bg] ∧ DeckAt H bg g c ∧ c ≤ 900000 ∧
  ∀ (r : Int) (H' : Hp), lo ≤ r → r ≤ hi → DeckAt H' bg g (c + k) → Fr [bg, g] H H' → Q (.int r) H'
theorem rd_dget1 {σ : L2.St} {H : Hp} {Q : VK} {td ty : TE} (q : td σ H fun x H1 => ∃ a, x = .ref a ∧ IsD H1 a ∧ ty σ H1 fun y H2 => ∃ o, DGet H2 a y o ∧ Q (o.getD .non) H2) : tDGet1 td ty σ H Q := q
theorem rd_ikeys {σ : L2.St} {H : Hp} {td : TE} {R : It → Hp → Prop} (q : td σ H fun x H1 => ∃ d o, x = .ref d ∧ ((∃ kvs, H1 d = some (.frz o (.dK kvs)) ∧ R (Itk d o kvs) H1) ∨ ∃ kvs, H1 d = some (.frz o (.dT kvs)) ∧ R (Itkt d o kvs) H1)) : iKeys td σ H R := q
theorem rd_fldaug {σ : L2.St} {H : Hp} {D : Ends} {K : PySem.W.Frag} {ta tv : TE} {rd : V → V → Hp → VK → Prop} {f : Str} (q : ta σ H fun x H1 => ∃ a C dx fs v, x = .ref a ∧ H1 a = some (.ins C dx fs) ∧ Cls K C ∧ NoAttr K C f ∧ fs.lookup f = some v ∧
  tv σ H1 fun y H2 => rd v y H2 fun z H3 => ∃ dx' fs', H3 a = some (.ins C dx' fs') ∧ fs'.length < 1000 ∧ D.nx σ (upd H3 a (.ins C dx' (putF f z fs')))) : sFldAug K ta tv rd f D σ H := q
theorem rd_izipB {σ : L2.St} {H : Hp} {K : PySem.W.Frag} {ta : TA} {R : It → Hp → Prop} (q : ta σ H fun vs H1 => ∃ a b xs ys, vs = [.ref a, .ref b] ∧ SqL K H1 a xs ∧ SqL K H1 b ys ∧ R (Itz K a b) H1) : iZip K ta σ H R := q
theorem Tr.drop {J : Hp → Prop} {O S : List Addr} {H0 H : Hp} {x : Cell} {L : List Cell} (t : Tr J O S H0 H (x :: L)) : Tr J O S H0 H L := t.sub (List.sublist_cons_self x L)
theorem rd_nopartB {σ : L2.St} {H : Hp} {R : Option Int → Hp → Prop} (q : R none H) : tNoPart σ H R := q
end Pg
end
section
set_option Elab.async false
set_option linter.all false
set_option maxRecDepth 100000
set_option maxHeartbeats 4000000
namespace Pg
open PySem PySem.Spec PyProof.Rows L2
section
variable {J : Hp → Prop} {O S : List Addr} {H0 H H' : Hp} {L L' L1 L2 : List Cell} {p d x dx C : Addr} {o o' o1 o2 o1' o2' : HO}
end
def putT (T : Ts) (p i : Int) : Ts := if p ∈ T.map (·.1) then T.map (fun t => if t.1 = p then (p, i) else t) else T ++ [(p, i)]
theorem putT_keys {T : Ts} {p i : Int} (nd : (T.map (·.1)).Nodup) : ((putT T p i).map (·.1)).Nodup := by
  unfold putT
  by_cases h : p ∈ T.map (·.1)
  · rw [if_pos h, List.map_map]
    have e : T.map ((fun x : Int × Int => x.1) ∘ fun t => if t.1 = p then (p, i) else t) = T.map (·.1) := by
      apply List.map_congr_left
      intro t _
      simp only [Function.comp]
      split
      · rename_i z; exact z.symm
      · rfl
    rw [e]; exact nd
  · rw [if_neg h, List.map_append]
    exact nd_snoc nd h
theorem putT_mem {T : Ts} {p i : Int} (nd : (T.map (·.1)).Nodup) (q t : Int) : (q, t) ∈ putT T p i ↔ (q = p ∧ t = i) ∨ (q ≠ p ∧ (q, t) ∈ T) := by
  unfold putT
  by_cases h : p ∈ T.map (·.1)
  · rw [if_pos h]
    constructor
    · intro m
      obtain ⟨u, hu, e⟩ := List.mem_map.mp m
      by_cases z : u.1 = p
      · rw [if_pos z] at e; cases e; exact .inl ⟨rfl, rfl⟩
      · rw [if_neg z] at e; subst e; exact .inr ⟨z, hu⟩
    · rintro (⟨rfl, rfl⟩ | ⟨z, m⟩)
      · obtain ⟨u, hu, e⟩ := List.mem_map.mp h
        exact List.mem_map.mpr ⟨u, hu, if_pos e⟩
      · exact List.mem_map.mpr ⟨_, m, if_neg z⟩
  · rw [if_neg h]
    constructor
    · intro m
      rcases List.mem_append.mp m with m | m
      · refine .inr ⟨fun z => h ?_, m⟩
        rw [← z]; exact List.mem_map_of_mem (f := (·.1)) m
      · simp at m; exact .inl m
    · rintro (⟨rfl, rfl⟩ | ⟨z, m⟩)
      · simp
      · exact List.mem_append_left _ m
def oldT (w n : Int) (T : Ts) : Ts := T.filter fun t => decide (t.2 < n - w + 1)
def newT (w n : Int) (T : Ts) : Ts := T.filter fun t => !decide (t.2 < n - w + 1)
def dropTs (Z : Ts) (l : List Int) : Ts := Z.filter fun t => !decide (t.1 ∈ l)
structure WinT (w : Int) (l : List Int) (T : Ts) : Prop where
  nd : (T.map (·.1)).Nodup
  mem : ∀ p t : Int, (p, t) ∈ T ↔ ∃ j : Nat, t = j ∧ lastIdx l p = some j ∧ (l.length : Int) - w ≤ j
theorem WinT.nil {w : Int} : WinT w [] [] := ⟨by simp, fun p t => by simp [lastIdx_nil]⟩
theorem WinT.len {w : Int} {l : List Int} {T : Ts} (h : WinT w l T) : T.length ≤ l.length := by
  have e : (T.map (·.1)).length ≤ l.length := nodup_le h.nd fun p hp => by
    obtain ⟨u, hu, e⟩ := List.mem_map.mp hp
    obtain ⟨j, _, hj, _⟩ := (h.mem u.1 u.2).mp hu
    rw [e] at hj
    unfold lastIdx at hj
    have hm := List.mem_of_getLast? hj
    have := (List.mem_filter.mp hm).2
    exact List.mem_of_getElem? (by simpa using this)
  simpa using e
theorem WinT.step {w : Int} {l : List Int} {T : Ts} (hw : 1 ≤ w) (h : WinT w l T) (p : Int) : WinT w (l ++ [p]) (newT w l.length (putT T p l.length)) := by
  refine ⟨(putT_keys h.nd).sublist (List.filter_sublist.map _), fun q t => ?_⟩
  unfold newT
  rw [List.mem_filter, putT_mem h.nd, lastIdx_snoc, h.mem]
  simp only [List.length_append, List.length_singleton, Bool.not_eq_true', decide_eq_false_iff_not]
  constructor
  · rintro ⟨⟨rfl, rfl⟩ | ⟨hne, j, rfl, hj, hb⟩, ht⟩
    · exact ⟨l.length, rfl, by simp, by push_cast; omega⟩
    · exact ⟨j, rfl, by rw [if_neg (fun z => hne z.symm)]; exact hj, by push_cast; omega⟩
  · rintro ⟨j, rfl, hj, hb⟩
    push_cast at hb
    by_cases e : p = q
    · rw [if_pos e] at hj
      cases hj
      exact ⟨.inl ⟨e.symm, rfl⟩, by omega⟩
    · rw [if_neg e] at hj
      exact ⟨.inr ⟨fun z => e z.symm, j, rfl, hj, by omega⟩, by omega⟩
structure LastT (l : List Int) (T : Ts) : Prop where
  nd : (T.map (·.1)).Nodup
  mem : ∀ p t : Int, (p, t) ∈ T ↔ ∃ j : Nat, t = j ∧ lastIdx l p = some j
theorem LastT.nil : LastT [] [] := ⟨by simp, fun p t => by simp [lastIdx_nil]⟩
theorem LastT.step {l : List Int} {T : Ts} (h : LastT l T) (p : Int) : LastT (l ++ [p]) (putT T p l.length) := by
  refine ⟨putT_keys h.nd, fun q t => ?_⟩
  rw [putT_mem h.nd, lastIdx_snoc, h.mem]
  constructor
  · rintro (⟨rfl, rfl⟩ | ⟨hne, j, rfl, hj⟩)
    · exact ⟨l.length, rfl, by simp⟩
    · exact ⟨j, rfl, by rw [if_neg (fun z => hne z.symm)]; exact hj⟩
  · rintro ⟨j, rfl, hj⟩
    by_cases e : p = q
    · rw [if_pos e] at hj
      cases hj
      exact .inl ⟨e.symm, rfl⟩
    · rw [if_neg e] at hj
      exact .inr ⟨fun z => e z.symm, j, rfl, hj⟩
theorem LastT.val {l : List Int} {T : Ts} (h : LastT l T) (p : Int) : valV (SD T) (Sum.inl p : Key) = (lastIdx l p).map fun j => V.int (j : Int) := by
  cases e : lastIdx l p with
  | none =>
    refine dOf_no fun m => ?_
    obtain ⟨u, hu, z⟩ := List.mem_map.mp m
    obtain ⟨j, _, hj⟩ := (h.mem u.1 u.2).mp hu
    rw [z, e] at hj; cases hj
  | some j => exact dOf_at (g := fun t => .int t.2) h.nd ((h.mem p j).mpr ⟨j, rfl, e⟩)
def hitW (w : Int) (l : List Int) (p : Int) : Bool := match lastIdx l p with
  | some j => decide ((l.length : Int) - w ≤ j)
  | none => false
def goneW (w : Int) (l : List Int) (p : Int) : List Int := if w ≤ l.length then (match l[l.length - w.toNat]? with
  | some q => if lastIdx (l ++ [p]) q = some (l.length - w.toNat) then [q] else []
  | none => []) else []
theorem WinT.hit {w : Int} {l : List Int} {T : Ts} (h : WinT w l T) (p : Int) : decide (p ∈ T.map (·.1)) = hitW w l p := by
  unfold hitW
  cases e : lastIdx l p with
  | none =>
    simp only [decide_eq_false_iff_not]
    intro m
    obtain ⟨u, hu, z⟩ := List.mem_map.mp m
    obtain ⟨j, _, hj, _⟩ := (h.mem u.1 u.2).mp hu
    rw [z, e] at hj; cases hj
  | some j =>
    simp only
    rw [decide_eq_decide]
    constructor
    · intro m
      obtain ⟨u, hu, z⟩ := List.mem_map.mp m
      obtain ⟨k, _, hk, hb⟩ := (h.mem u.1 u.2).mp hu
      rw [z, e] at hk; cases hk; exact hb
    · intro hb
      exact List.mem_map.mpr ⟨(p, (j : Int)), (h.mem p j).mpr ⟨j, rfl, e, hb⟩, rfl⟩
theorem lastIdx_at {l : List Int} {p : Int} {j : Nat} (h : lastIdx l p = some j) : l[j]? = some p := by
  unfold lastIdx at h
  have := (List.mem_filter.mp (List.mem_of_getLast? h)).2
  simpa using this
theorem WinT.gone {w : Int} {l : List Int} {T : Ts} (hw : 1 ≤ w) (h : WinT w l T) (p : Int) {ns : List Int} (hp : ns.Perm ((oldT w l.length (putT T p l.length)).map (·.1))) : ns = goneW w l p := by
  have mem : ∀ q, q ∈ ns ↔ ∃ j : Nat, lastIdx (l ++ [p]) q = some j ∧ (j : Int) = l.length - w := by
    intro q
    rw [hp.mem_iff]
    unfold oldT
    constructor
    · intro m
      obtain ⟨u, hu, rfl⟩ := List.mem_map.mp m
      obtain ⟨h1, h2⟩ := List.mem_filter.mp hu
      simp only [decide_eq_true_eq] at h2
      rcases (putT_mem h.nd u.1 u.2).mp h1 with ⟨e1, e2⟩ | ⟨e1, e2⟩
      · omega
      · obtain ⟨j, e3, hj, hb⟩ := (h.mem u.1 u.2).mp e2
        exact ⟨j, by rw [lastIdx_snoc, if_neg (fun z => e1 z.symm)]; exact hj, by omega⟩
    · rintro ⟨j, hj, e⟩
      rw [lastIdx_snoc] at hj
      by_cases z : p = q
      · rw [if_pos z] at hj; cases hj; omega
      · rw [if_neg z] at hj
        refine List.mem_map.mpr ⟨(q, (j : Int)), List.mem_filter.mpr ⟨(putT_mem h.nd q j).mpr (.inr ⟨fun y => z y.symm, (h.mem q j).mpr ⟨j, rfl, hj, by omega⟩⟩), by simp only [decide_eq_true_eq]; omega⟩, rfl⟩
  have nd : ns.Nodup := hp.nodup_iff.mpr ((putT_keys h.nd).sublist (List.filter_sublist.map _))
  unfold goneW
  by_cases hle : w ≤ l.length
  · rw [if_pos hle]
    cases e : l[l.length - w.toNat]? with
    | none =>
      have := List.getElem?_eq_none_iff.mp e
      omega
    | some q =>
      simp only
      have all : ∀ r ∈ ns, r = q := by
        intro r hr
        obtain ⟨j, hj, ej⟩ := (mem r).mp hr
        have := lastIdx_at hj
        have ej' : j = l.length - w.toNat := by omega
        rw [ej', List.getElem?_append_left (by omega), e] at this
        exact (Option.some.inj this).symm
      by_cases hl : lastIdx (l ++ [p]) q = some (l.length - w.toNat)
      · rw [if_pos hl]
        have hq : q ∈ ns := (mem q).mpr ⟨_, hl, by omega⟩
        cases ns with
        | nil => simp at hq
        | cons a r =>
          have ea := all a List.mem_cons_self
          subst ea
          cases r with
          | nil => rfl
          | cons b r =>
            have eb := all b (by simp)
            subst eb
            simp at nd
      · rw [if_neg hl]
        cases ns with
        | nil => rfl
        | cons a r =>
          have ea := all a List.mem_cons_self
          subst ea
          obtain ⟨j, hj, ej⟩ := (mem a).mp List.mem_cons_self
          exact absurd (by rw [hj]; congr 1; omega) hl
  · rw [if_neg hle]
    cases ns with
    | nil => rfl
    | cons a r =>
      obtain ⟨j, hj, ej⟩ := (mem a).mp List.mem_cons_self
      omega
abbrev WStep := Int × Bool × List Int
def stepW (w : Int) (l : List Int) (p : Int) : WStep := (p, hitW w l p, goneW w l p)
def runW (w : Int) : List Int → List Int → List WStep
  | _, [] => []
  | pre, p :: r => stepW w pre p :: runW w (pre ++ [p]) r
def wordS (b : Bool) : Str := if b then "hit" else "fault"
def wstepD (s : WStep) : PyData := .tuple [.int s.1, .str (wordS s.2.1), .tuple (s.2.2.map PyData.int)]
def spWCheck : Sp := fun vs H Q _ => ∃ w : Int, vs = [.int w] ∧ 1 ≤ w ∧ Q .non H
def spWWalk : Sp := fun vs H Q _ => ∃ (tr : Addr) (w : Int) (ns : List Int), vs = [.ref tr, .int w] ∧ H tr = some (.lst (ns.map V.int)) ∧ 1 ≤ w ∧ ns.length ≤ 400 ∧
  ∀ (l : Addr) (xs : List V) (C : List Cell) (H' : Hp), New H H' ((l, .lst xs) :: C) → DtAll C xs ((runW w [] ns).map wstepD) → Same H H' → Q (.ref l) H'
def wf (w n : Int) (d : Addr) : List (Str × V) := [("size", .int w), ("asked", .int n), ("latest", .ref d)]
def spWInit (C : Addr) : Sp := fun vs H Q _ => ∃ (p dx : Addr) (w : Int), vs = [.ref p, .int w] ∧ H p = some (.ins C dx []) ∧
  ∀ (d : Addr) (H' : Hp), H d = none → H' p = some (.ins C dx (wf w 0 d)) → H' d = some (.dK []) → Fr [p] H H' → Q .non H'
def spWAsk (C : Addr) : Sp := fun vs H Q _ => ∃ (p dx d : Addr) (w n page : Int) (T : Ts), vs = [.ref p, .int page] ∧ H p = some (.ins C dx (wf w n d)) ∧ H d = some (.dK (SD T)) ∧ (T.map (·.1)).Nodup ∧ T.length ≤ 1000 ∧
  ∀ (t gl : Addr) (ns : List Int) (H' : Hp), H t = none → H gl = none → t ≠ gl → H' t = some (.tup [.bl (decide (page ∈ T.map (·.1))), .ref gl]) → H' gl = some (.lst (ns.map V.int)) → ns.Perm ((oldT w n (putT T page n)).map (·.1)) → ns.Pairwise (· ≤ ·) →
    H' p = some (.ins C dx (wf w (n + 1) d)) → H' d = some (.dK (SD (newT w n (putT T page n)))) → Fr [p, d] H H' → Q (.ref t) H'
section
variable {J : Hp → Prop} {O S : List Addr} {H0 H : Hp} {L L1 L2 : List Cell} {M : Addr → List Cell} {p d dx C : Addr} {Q : VK} {E : XK} {w n page : Int} {T : Ts}
end
end Pg
end
section
set_option Elab.async false
set_option linter.all false
set_option maxRecDepth 100000
set_option maxHeartbeats 4000000
namespace Pg
open PySem PySem.Spec PyProof.Rows L2
def workW (w : Int) (l : List Int) : List Int := ((St.ddl l).filter (hitW w l)).mergeSort (fun a b => decide (a ≤ b))
def worksW (w : Int) : List Int → List Int → List (List Int)
  | _, [] => []
  | pre, p :: r => workW w (pre ++ [p]) :: worksW w (pre ++ [p]) r
def rowC (as : List Addr) (ws : List (List Int)) : List Cell := (as.zip ws).map fun x => (x.1, HO.lst (x.2.map V.int))
def rowsD (ws : List (List Int)) : PyData := .list (ws.map fun x => .list (x.map PyData.int))
theorem rd_neSame {K : PySem.W.Frag} {H : Hp} {C : List Cell} {Q : VK} {x y : V} {d : PyData} (n : Nat) (s : ∀ x ∈ C, H x.1 = some x.2) (h1 : Dt C x d) (h2 : Dt C y d) (ok : okD n d) (hn : n ≤ 60) (q : Q (.bl false) H) : rNeD K x y H Q := by
  have hs := ok_shaped ok hn
  refine ⟨d, d, Dt.dp s h1, Dt.dp s h2, hs, hs, ?_⟩
  rw [show PyData.eqv d d = true from SeqAt.eqv_refl d (ok_show d n ok).2.2.2]
  exact q
def spWorks : Sp := fun vs H Q _ => ∃ (tr : Addr) (w : Int) (ns : List Int), vs = [.ref tr, .int w] ∧ H tr = some (.lst (ns.map V.int)) ∧ 1 ≤ w ∧ ns.length ≤ 400 ∧
  ∀ (l : Addr) (as : List Addr) (H' : Hp), as.length = ns.length → New H H' ((l, .lst (as.map V.ref)) :: rowC as (worksW w [] ns)) → Same H H' → Q (.ref l) H'
def spAtWork (C : Addr) : Sp := fun vs H Q _ => ∃ (p dx d : Addr) (w n : Int) (T : Ts), vs = [.ref p] ∧ H p = some (.ins C dx (wf w n d)) ∧ H d = some (.dK (SD T)) ∧
  ∀ (l : Addr) (ns : List Int) (H' : Hp), H l = none → H' l = some (.lst (ns.map V.int)) → ns.Perm (T.map (·.1)) → ns.Pairwise (· ≤ ·) → Same H H' → Q (.ref l) H'
end Pg
end
section
set_option Elab.async false
set_option linter.all false
set_option maxRecDepth 100000
set_option maxHeartbeats 4000000
namespace Pg
open PySem PySem.Spec PyProof.Rows L2
def TrayAt (H : Hp) (tr g : Addr) (c : Int) : Prop := ∃ (ns : List Int) (cur fold cnt : Int), H tr = some (.lst [.ref g, .int cur, .int fold, .int cnt]) ∧ H g = some (.lst (ns.map V.int)) ∧ 0 ≤ fold ∧ fold < 2305843009213693951 ∧ 0 ≤ cnt ∧ cnt ≤ c
theorem TrayAt.mono {H tr g c c'} (h : TrayAt H tr g c) (l : c ≤ c') : TrayAt H tr g c' := by
  obtain ⟨ns, cur, fold, cnt, h1, h2, h3, h4, h5, h6⟩ := h
  exact ⟨ns, cur, fold, cnt, h1, h2, h3, h4, h5, Int.le_trans h6 l⟩
theorem tray_loc {tr g : Addr} {c : Int} (H1 H2 : Hp) (h : ∀ b ∈ [tr, g], H2 b = H1 b) (d : TrayAt H1 tr g c) : TrayAt H2 tr g c := by
  obtain ⟨ns, cur, fold, cnt, h1, h2, h3⟩ := d
  exact ⟨ns, cur, fold, cnt, by rw [h tr (by simp)]; exact h1, by rw [h g (by simp)]; exact h2, h3⟩
theorem tray_od {tr g : Addr} {c : Int} {H : Hp} (d : TrayAt H tr g c) : ∀ b ∈ [tr, g], H b ≠ none := by
  obtain ⟨ns, cur, fold, cnt, h1, h2, h3⟩ := d
  intro b hb
  simp at hb
  rcases hb with rfl | rfl
  · rw [h1]; simp
  · rw [h2]; simp
def rule3 (r : Nat) : Str := match r with | 0 => "first" | 1 => "last" | _ => "clock"
abbrev TY (tr g : Addr) (c : Int) (S : List Addr) (H0 H : Hp) (L : List Cell) : Prop := Tr (fun H => TrayAt H tr g c) [tr, g] S H0 H L
section
variable {tr g : Addr} {c c' : Int} {S : List Addr} {H0 H H' : Hp} {L : List Cell} {Q : VK} {E : XK}
theorem TY.start (d : TrayAt H tr g c) : TY tr g c [] H H [] := ⟨Fr.refl, d, fun H1 H2 => tray_loc H1 H2, tray_od d, by simp, by simp, by simp, by simp⟩
theorem TY.step (t : TY tr g c S H0 H L) (d : TrayAt H' tr g c') (f : Fr [tr, g] H H') : TY tr g c' S H0 H' L := Tr.step t f d (fun H1 H2 => tray_loc H1 H2) (tray_od d)
theorem TY.up (t : TY tr g c S H0 H L) (h : c ≤ c') : TY tr g c' S H0 H L := TY.step t (TrayAt.mono t.j h) Fr.refl
def spTray (K : PySem.W.Frag) : Sp := fun vs H Q _ => ∃ (s : Addr) (ns : List Int), vs = [.ref s] ∧ SqL K H s (ns.map V.int) ∧ ns.length ≤ 63 ∧
  ∀ (tr g : Addr) (H' : Hp), H tr = none → H g = none → TrayAt H' tr g 0 → Same H H' → Q (.ref tr) H'
def spTDraw : Sp := fun vs H Q _ => ∃ (tr g : Addr) (c many : Int), vs = [.ref tr, .int many] ∧ TrayAt H tr g c ∧ 0 < many ∧ many < 18446744073709551616 ∧ c ≤ 1000000 ∧
  ∀ (r : Int) (H' : Hp), 0 ≤ r → r < many → TrayAt H' tr g (c + 1) → Fr [tr, g] H H' → Q (.int r) H'
def spTNum (lo hi k m : Int) : Sp := fun vs H Q _ => ∃ (tr g : Addr) (c : Int), vs = [.ref tr] ∧ TrayAt H tr g c ∧ c ≤ m ∧
  ∀ (r : Int) (H' : Hp), lo ≤ r → r ≤ hi → TrayAt H' tr g (c + k) → Fr [tr, g] H H' → Q (.int r) H'
theorem rd_notV {σ : L2.St} {H : Hp} {Q : VK} {ta : TE} (q : ta σ H fun x H1 => ∃ c, x = .bl c ∧ Q (.bl (!c)) H1) : tNotV ta σ H Q := q
def spAlike (n : Nat) : Sp := fun vs H Q _ => ∃ (x y : V) (d : PyData) (C : List Cell), vs = [x, y] ∧ (∀ c ∈ C, H c.1 = some c.2) ∧ Dt C x d ∧ Dt C y d ∧ okD n d ∧ nodes d ≤ 100000 ∧ Q (.bl true) H
def spSizes : Sp := fun vs H Q _ => ∃ (tr g : Addr) (c : Int), vs = [.ref tr] ∧ TrayAt H tr g c ∧ c ≤ 900000 ∧
  ∀ (l : Addr) (m e w : Int) (r : Nat) (H' : Hp), 1 ≤ m → m ≤ 100 → 1 ≤ e → e ≤ 30 → 1 ≤ w → w ≤ 300 → r < 3 → H l = none → H' l = some (.lst [.int m, .int e, .int w, .str (rule3 r)]) → TrayAt H' tr g (c + 8) → Fr [tr, g] H H' → Q (.ref l) H'
def spPage : Sp := fun vs H Q _ => ∃ (tr g la : Addr) (c many : Int) (ls : List Int), vs = [.ref tr, .int many, .ref la] ∧ TrayAt H tr g c ∧ la ≠ tr ∧ la ≠ g ∧ H la = some (.lst (ls.map V.int)) ∧ c ≤ 900000 ∧ 1 ≤ many ∧ many ≤ 1000 ∧ ls.length ≤ 1000 ∧ (∀ x ∈ ls, 0 ≤ x ∧ x < many) ∧
  ∀ (r : Int) (H' : Hp), 0 ≤ r → r < many → TrayAt H' tr g (c + 2) → Fr [tr, g] H H' → Q (.int r) H'
def spTurns : Sp := fun vs H Q _ => ∃ (tr g : Addr) (c many least most : Int), vs = [.ref tr, .int many, .int least, .int most] ∧ TrayAt H tr g c ∧ c ≤ 900000 ∧
  ∀ (r : Int) (H' : Hp), (r = least ∨ r = most ∨ r = 120) → (r ≤ least ∨ r ≤ most) → TrayAt H' tr g (c + 1) → Fr [tr, g] H H' → Q (.int r) H'
def spRequest : Sp := fun vs H Q _ => ∃ (tr g la : Addr) (c many each : Int) (ls : List Int), vs = [.ref tr, .int many, .int each, .ref la] ∧ TrayAt H tr g c ∧ la ≠ tr ∧ la ≠ g ∧ H la = some (.lst (ls.map V.int)) ∧ c ≤ 800000 ∧ 1 ≤ many ∧ many ≤ 1000 ∧ 1 ≤ each ∧ each ≤ 1000 ∧ ls.length ≤ 900 ∧ (∀ x ∈ ls, 0 ≤ x ∧ x < many) ∧
  ∀ (t : Addr) (wr : Bool) (leaf at' much : Int) (H' : Hp), H t = none → H' t = some (.tup [.str (if wr then "write" else "read"), .int leaf, .int at', .int much]) → 0 ≤ leaf → leaf < many → 0 ≤ at' → at' < each → much.natAbs < 2 ^ 200 →
    H' la = some (.lst ((ls ++ [leaf]).map V.int)) → TrayAt H' tr g (c + 15) → Fr [tr, g, la] H H' → Q (.ref t) H'
end
end Pg
end
section
set_option Elab.async false
set_option linter.all false
set_option maxRecDepth 100000
set_option maxHeartbeats 4000000
namespace Pg
open PySem PySem.Spec PyProof.Rows L2
def Lies (h : Heap) (x : Addr) (o : Obj) (T : Addr) (fl : Value) : Prop :=
  ∃ vs oT ts, h.get? x = some { o with data := .fields vs } ∧ vs.size = 6 ∧ vs[1]? = some (.ref T) ∧ T ≠ x ∧ h.get? T = some oT ∧ oT.data = .fields ts ∧ ts[3]? = some fl ∧ vs[2]? = some .none
def But (fs S : List Addr) (h h' : Heap) : Prop := (∀ b u, h.get? b = some u → b ∉ fs → b ∉ S → h'.get? b = some u) ∧ (∀ b u, h.get? b = some u → b ∉ S → ∃ sl, h'.get? b = some { u with slots := sl }) ∧ ∀ b u, h.get? b = some u → ∃ u', h'.get? b = some u'
theorem But.trans {fs S S' : List Addr} {h h1 h2 : Heap} (a : But fs S h h1) (b : But fs S' h1 h2) : But fs (S ++ S') h h2 := by
  refine ⟨fun c u e n1 n2 => ?_, fun c u e n => ?_, fun c u e => ?_⟩
  · simp at n2
    exact b.1 c u (a.1 c u e n1 n2.1) n1 n2.2
  · simp at n
    obtain ⟨sl, e1⟩ := a.2.1 c u e n.1
    obtain ⟨sl', e2⟩ := b.2.1 c _ e1 n.2
    exact ⟨sl', e2⟩
  · obtain ⟨u', e1⟩ := a.2.2 c u e
    exact b.2.2 c u' e1
theorem But.mono {fs S S' : List Addr} {h h' : Heap} (a : But fs S h h') (k : ∀ b u, h.get? b = some u → b ∈ S → b ∈ S') : But fs S' h h' :=
  ⟨fun c u e n1 n2 => a.1 c u e n1 fun m => n2 (k c u e m), fun c u e n => a.2.1 c u e fun m => n (k c u e m), a.2.2⟩
theorem But.frames {fs S : List Addr} {base h h' : Heap} {l : List Env} (a : But fs S h h') (n : ∀ b ∈ S, ∀ o, h.get? b = some o → ∃ vs, o.data = .fields vs) (hl : h.FunFrames base l) : h'.FunFrames base l :=
  hl.of_keeps fun b o e hd => by
    obtain ⟨sl, e'⟩ := a.2.1 b o e fun m => by
      obtain ⟨vs, q⟩ := n b m o e
      exact hd vs q
    exact ⟨_, e', rfl⟩
section
variable {M : Model} {A : Around} {E : Value → Shared → Prop} {s : Shared} {base : Heap} {env : Env} {outer : List Env} {L x T : Addr} {o : Obj} {vs : Array Value} {fl : Value} {Q : Unit → Shared → Prop}
theorem exc_entry {head : Value} {hadNext : Bool} (hfr : A.frames = some (env :: outer)) (hl : s.heap.FunFrames base (env :: outer)) (hf : env.frame = some L) (he : s.heap.get? x = some { o with data := .fields vs }) (hsz : vs.size = 6) (hv2 : vs[2]? = some .none)
    (h : ∀ h' T, s.heap.objs.size ≤ T → But (frs (env :: outer)) [x] s.heap h' → Lies h' x o T (rawInt L) → Q () { s with heap := h' }) :
    wpAny M A (do let a ← frameOf env; let pl ← entryPlaceOf L hadNext; let b ← EntryCells.newEntry head a .none (rawInt L) .none pl; setField (.ref x) 1 b) Q E s := by
  have hx : x ∉ frs (env :: outer) := fun hm => by
    obtain ⟨_, u, hu, hn⟩ := hl.mem hm
    rw [he] at hu
    cases hu
    exact hn vs rfl
  refine wpAny_bind (wpAny_frameOf_fun hfr hl hf fun h1 hs => ?_)
  refine wpAny_bind (wpAny_entryPlaceOf fun pl hpl => ?_)
  unfold EntryCells.newEntry newFields
  refine wpAny_bind (wpAny_newObj_type ?_ (hpl.sizeOk5 _ _ _ _ _))
  have he1 : h1.get? x = some { o with data := .fields vs } := (hs.2.1 x hx).trans he
  obtain ⟨ob, eob⟩ : ∃ ob : Obj, ob = { cls := .type "traceback", dict := none, data := .fields ([head, .ref L, .none, rawInt L, .none] ++ (if pl.isEmpty then List.replicate 6 Value.none else pl)).toArray } := ⟨_, rfl⟩
  rw [← eob]
  have he2 := Heap.get?_push_of_some (h := h1) ob he1
  refine wpAny_setField he2 rfl (by rw [hsz]; decide) (h _ h1.objs.size ?_ ⟨fun b u e n1 n2 => ?_, fun b u e n => ?_, fun b u e => ?_⟩ ?_)
  · exact Nat.le_of_eq hs.1.symm
  · rw [Heap.get?_update_other _ _ (by simp at n2; exact fun z => n2 z.symm)]
    exact Heap.get?_push_of_some _ ((hs.2.1 b n1).trans e)
  · obtain ⟨sl, e'⟩ := hs.2.2 b u e
    refine ⟨sl, ?_⟩
    rw [Heap.get?_update_other _ _ (by simp at n; exact fun z => n z.symm)]
    exact Heap.get?_push_of_some _ e'
  · obtain ⟨sl, e'⟩ := hs.2.2 b u e
    by_cases z : b = x
    · subst z
      exact ⟨_, Heap.get?_update_self _ he2 (Obj.isFreed_of_fields rfl)⟩
    · rw [Heap.get?_update_other _ _ (fun y => z y.symm)]
      exact ⟨_, Heap.get?_push_of_some _ e'⟩
  · have hne : h1.objs.size ≠ x := Nat.ne_of_gt (Heap.lt_size he1)
    have hT := (Heap.get?_update_other (h1.push ob) (Obj.mapFields (·.setIfInBounds 1 (Value.ref h1.objs.size))) (Ne.symm hne)).trans (Heap.get?_push_size h1 (by rw [eob]; rfl))
    refine ⟨vs.setIfInBounds 1 (.ref h1.objs.size), ob, _, Heap.get?_update_self _ he2 (Obj.isFreed_of_fields rfl), by simp [hsz], by simp [hsz], hne, hT, by rw [eob], ?_, by simp [hv2]⟩
    first | (simp; done) | (rcases hpl with rfl | ⟨_, _, _, _, _, _, _, rfl⟩ <;> simp)
theorem exc_note_first (hfr : A.frames = some (env :: outer)) (hl : s.heap.FunFrames base (env :: outer)) (hf : env.frame = some L) (he : s.heap.get? x = some { o with data := .fields vs }) (hsz : vs.size = 6) (h1 : vs[1]? = some .none) (hv2 : vs[2]? = some .none)
    (h : ∀ h' T, s.heap.objs.size ≤ T → But (frs (env :: outer)) [x] s.heap h' → Lies h' x o T (rawInt L) → Q () { s with heap := h' }) : wpAny M A (noteFrame (.ref x) env) Q E s := by
  unfold noteFrame
  simp only [hf]
  refine wpAny_bind (wpAny_field he rfl h1 ?_)
  rw [if_neg (by decide)]
  exact exc_entry hfr hl hf he hsz hv2 h
theorem exc_note_next (hfr : A.frames = some (env :: outer)) (hl : s.heap.FunFrames base (env :: outer)) (hf : env.frame = some L) (hx : Lies s.heap x o T .none)
    (h : ∀ h' T', s.heap.objs.size ≤ T' → But (frs (env :: outer)) [x, T] s.heap h' → Lies h' x o T' (rawInt L) → Q () { s with heap := h' }) : wpAny M A (noteFrame (.ref x) env) Q E s := by
  obtain ⟨vs, oT, ts, he, hsz, h1, hne, hT, hd, h3, hv2⟩ := hx
  unfold noteFrame
  simp only [hf]
  refine wpAny_bind (wpAny_field he rfl h1 ?_)
  rw [if_pos (show (Value.ref T != Value.none) = true from by simp)]
  refine wpAny_bind (wpAny_field hT hd h3 ?_)
  rw [if_neg (show ¬ ((Value.none == rawInt L) = true) from by simp [rawInt])]
  refine wpAny_bind (wpAny_setField hT hd (Array.getElem?_eq_some_iff.mp h3).1 ?_)
  have other : ∀ b, b ≠ T → (s.heap.update T (Obj.mapFields (·.setIfInBounds 3 Value.none))).get? b = s.heap.get? b := fun b hb => Heap.get?_update_other _ _ (Ne.symm hb)
  have selfT := Heap.get?_update_self (Obj.mapFields (·.setIfInBounds 3 Value.none)) hT (Obj.isFreed_of_fields (Obj.data_mapFields hd _))
  have b1 : But (frs (env :: outer)) [T] s.heap (s.heap.update T (Obj.mapFields (·.setIfInBounds 3 Value.none))) := ⟨fun b u e _ n => (other b (by simpa using n)).trans e, fun b u e n => ⟨u.slots, (other b (by simpa using n)).trans e⟩, fun b u e => by
    by_cases z : b = T
    · subst z; exact ⟨_, selfT⟩
    · exact ⟨u, (other b z).trans e⟩⟩
  refine exc_entry (s := { s with heap := s.heap.update T (Obj.mapFields (·.setIfInBounds 3 Value.none)) }) hfr (b1.frames (fun b hb u e => by
    simp at hb
    subst hb
    rw [hT] at e
    cases e
    exact ⟨ts, hd⟩) hl) hf ((other x (Ne.symm hne)).trans he) hsz hv2 fun h' T' nT b2 l' => h h' T' ?_ ((b1.trans b2).mono fun b _ _ m => by simp at m ⊢; exact m.symm) l'
  have e : (s.heap.update T (Obj.mapFields (·.setIfInBounds 3 Value.none))).objs.size = s.heap.objs.size := Heap.size_after_update ..
  rw [← e]
  exact nT
theorem exc_land (hx : Lies s.heap x o T fl) (h : ∀ h', But (frs (env :: outer)) [T] s.heap h' → Lies h' x o T .none → Q () { s with heap := h' }) : wpAny M A (setFlight (.ref x) none) Q E s := by
  obtain ⟨vs, oT, ts, he, hsz, h1, hne, hT, hd, h3, hv2⟩ := hx
  unfold setFlight
  refine wpAny_bind (wpAny_field he rfl h1 ?_)
  rw [if_pos (show (Value.ref T != Value.none) = true from by simp)]
  have hs3 := (Array.getElem?_eq_some_iff.mp h3).1
  have other : ∀ b, b ≠ T → (s.heap.update T (Obj.mapFields (·.setIfInBounds 3 ((none : Option Addr).elim Value.none fun f => rawInt f)))).get? b = s.heap.get? b := fun b hb => Heap.get?_update_other _ _ (Ne.symm hb)
  have selfT := Heap.get?_update_self (Obj.mapFields (·.setIfInBounds 3 ((none : Option Addr).elim Value.none fun f => rawInt f))) hT (Obj.isFreed_of_fields (Obj.data_mapFields hd _))
  refine wpAny_setField hT hd hs3 (h _ ⟨fun b u e _ n => (other b (by simpa using n)).trans e, fun b u e n => ⟨u.slots, (other b (by simpa using n)).trans e⟩, fun b u e => ?_⟩ ⟨vs, _, _, (other x (Ne.symm hne)).trans he, hsz, h1, hne, selfT, Obj.data_mapFields hd _, by simp [hs3], hv2⟩)
  by_cases z : b = T
  · subst z; exact ⟨_, selfT⟩
  · exact ⟨u, (other b z).trans e⟩
theorem exc_leave_first (hfr : A.frames = some (env :: outer)) (hl : s.heap.FunFrames base (env :: outer)) (hf : env.frame = some L) (he : s.heap.get? x = some { o with data := .fields vs }) (hsz : vs.size = 6) (h1 : vs[1]? = some .none) (hv2 : vs[2]? = some .none)
    (h : ∀ h' T, s.heap.objs.size ≤ T → But (frs (env :: outer)) [x] s.heap h' → Lies h' x o T .none → Q () { s with heap := h' }) : wpAny M A (leaving env (.ref x)) Q E s := by
  unfold leaving
  refine wpAny_bind (exc_note_first hfr hl hf he hsz h1 hv2 fun h1 T nT b1 l1 => ?_)
  refine exc_land (s := { s with heap := h1 }) (env := env) (outer := outer) l1 fun h2 b2 l2 => h h2 T nT ((b1.trans b2).mono fun b u e m => ?_) l2
  simp at m ⊢
  rcases m with m | m
  · exact m
  · subst m; exact absurd (Heap.lt_size e) (Nat.not_lt.mpr nT)
theorem exc_leave_next (hfr : A.frames = some (env :: outer)) (hl : s.heap.FunFrames base (env :: outer)) (hf : env.frame = some L) (hx : Lies s.heap x o T .none)
    (h : ∀ h' T', s.heap.objs.size ≤ T' → But (frs (env :: outer)) [x, T] s.heap h' → Lies h' x o T' .none → Q () { s with heap := h' }) : wpAny M A (leaving env (.ref x)) Q E s := by
  unfold leaving
  refine wpAny_bind (exc_note_next hfr hl hf hx fun h1 T1 nT b1 l1 => ?_)
  refine exc_land (s := { s with heap := h1 }) (env := env) (outer := outer) l1 fun h2 b2 l2 => h h2 T1 nT ((b1.trans b2).mono fun b u e m => ?_) l2
  simp at m ⊢
  rcases m with m | m | m
  · exact .inl m
  · exact .inr m
  · subst m; exact absurd (Heap.lt_size e) (Nat.not_lt.mpr nT)
end
def excO (C dx : Addr) : Obj := { cls := .ref C, dict := some dx, data := .fields #[] }
def ExcH (x C dx : Addr) : HO := .ext fun h => ∃ vs : Array Value, h.get? x = some { excO C dx with data := .fields vs } ∧ vs.size = 6 ∧ vs[2]? = some .none
theorem excH_ok {P : Program} {w : World} {H : Hp} {h : Heap} {x C dx T : Addr} {fl : Value} (l : Lies h x (excO C dx) T fl) : ObjOk P w H h x (ExcH x C dx) := by
  obtain ⟨vs, oT, ts, he, hsz, _, _, _, _, _, hv2⟩ := l
  exact ⟨⟨vs, he, hsz, hv2⟩, ⟨_, he⟩, fun h1 h2 ⟨vs, e, z⟩ k => ⟨vs, k _ e, z⟩⟩
def CXE (P : Program) (w : World) : CXT := fun outer H s E e s' => ∃ (x C dx T : Addr) (H' : Hp), e = .ref x ∧ Lies s'.heap x (excO C dx) T .none ∧ s.heap.objs.size ≤ T ∧ H' T = none ∧ H' x = some (ExcH x C dx) ∧
  s'.os = s.os ∧ AllBare s'.gens ∧ Un (frs outer) [] H H' s.heap s'.heap ∧ HOk P w H' s'.heap ∧ E (.ref x) (some dx) H'
theorem but_hok {P : Program} {w : World} {H : Hp} {h h' : Heap} {fs : List Addr} {x C dx T T' : Addr} {fl : Value} (ok : HOk P w H h) (b : But fs [x, T] h h') (hf : ∀ c ∈ fs, H c = none) (hT : H T = none) (hx : H x = some (ExcH x C dx)) (l : Lies h' x (excO C dx) T' fl) : HOk P w H h' := fun a o e => by
  by_cases hax : a = x
  · subst hax
    rw [hx] at e
    cases e
    exact excH_ok l
  · refine (ok a o e).stay (fun c u hc q => b.1 c u q ?_ ?_) (fun _ q => q) fun _ _ q => q
    · intro m
      have := hf c m
      rcases hc with rfl | z
      · rw [e] at this; cases this
      · rw [z] at this; cases this
    · intro m
      simp at m
      rcases m with rfl | rfl
      · rcases hc with z | z
        · exact hax z.symm
        · rw [hx] at z; cases z
      · rcases hc with rfl | z
        · rw [e] at hT; cases hT
        · rw [z] at hT; cases hT
theorem passE {P : Program} {w : World} {K : PySem.W.Frag} {mg : Str → Option Value} {base : Heap} {N : List Str} {qual : Str} {scope : Scope} {f : Addr} {cd : Value} {A : Around} {outer : List Env} {s0 : Shared} {H0 : Hp} {E : XK} :
    Passes (CXE P w) (cxOf (CXE P w) P w K mg base N qual scope f cd A outer s0 H0 E) E := by
  intro pins σ H s e s' I hx
  obtain ⟨x, C, dx, T, H', rfl, l, nT, hT, hxx, os, bare, un, hok, hE⟩ := hx
  have J := I.call' (ch := []) os un hok bare (fun b z => absurd z (by simp))
  have above := I.ok.above
  have sz := I.sz
  show wpAny (model P w) (A.deeper (envOfC qual scope s0.heap.objs.size f cd)) (leaving (envOfC qual scope s0.heap.objs.size f cd) (.ref x)) _ _ s'
  have hl : s'.heap.FunFrames base (envOfC qual scope s0.heap.objs.size f cd :: outer) := J.stack
  refine exc_leave_next (base := base) (outer := outer) (L := s0.heap.objs.size) I.ok.frames hl rfl l fun h'' T' nT' b l' => ?_
  have free : ∀ c ∈ frs (envOfC qual scope s0.heap.objs.size f cd :: outer), H' c = none := J.stkFree
  refine ⟨x, C, dx, T', H', rfl, l', ?_, J.hok.fresh nT', hxx, J.os, bare, ?_, but_hok hok b free hT hxx l', hE⟩
  · exact Nat.le_trans J.sz nT'
  · -- against the entry
    have jb : Un (frs outer) [] H0 H' s0.heap s'.heap := J.base
    have inS : ∀ c u, s0.heap.get? c = some u → H0 c = none → c ∉ [x, T] := fun c u e n m => by
      have := Heap.lt_size e
      simp at m
      rcases m with rfl | rfl
      · have z := jb.free c u e n (by simp)
        rw [hxx] at z
        cases z
      · exact absurd (Nat.lt_of_lt_of_le this (Nat.le_trans sz nT)) (Nat.lt_irrefl _)
    have hL : ∀ c u, s0.heap.get? c = some u → c ∉ frs outer → c ∉ frs (envOfC qual scope s0.heap.objs.size f cd :: outer) := fun c u e n m => by
      have m' : c = s0.heap.objs.size ∨ c ∈ frs outer := by
        unfold frs at m
        rw [List.filterMap_cons] at m
        exact List.mem_cons.mp m
      rcases m' with z | z
      · exact absurd (Heap.lt_size e) (by rw [z]; exact Nat.lt_irrefl _)
      · exact n z
    refine ⟨fun c u e n hc _ => b.1 c u (jb.keep c u e n hc (by simp)) (hL c u e hc) (inS c u e n), fun c u e n hc _ => ?_, fun c u e n _ => jb.free c u e n (by simp), fun c u e _ => ?_, jb.tups, jb.frzs, jb.tbls⟩
    · obtain ⟨sl, e'⟩ := jb.slot c u e n hc (by simp)
      obtain ⟨sl', e''⟩ := b.2.1 c _ e' (inS c u e n)
      exact ⟨sl', e''⟩
    · obtain ⟨u', e'⟩ := jb.there c u e (by simp)
      exact b.2.2 c u' e'
end Pg
end
section
set_option Elab.async false
set_option linter.all false
set_option maxRecDepth 100000
set_option maxHeartbeats 4000000
namespace PySem
section
variable {prog : Program} {w : World} {A : Around} {R : Result → Shared → Prop} {h : Heap} {g : Array GenState} {d : Drawn} {t : Nat} {os : OsState}
variable {nm q : Str} {C N f : Addr} {bs bm bmB : List Value} {hdct : Bool} {sn : List Str} {sub : List Value} {ab : Bool} {col : Option Bool} {dd : Option Addr} {k0 k1 k2 k3 k5 : Option Value} {B newId initId : String}
theorem exc_make_tc (F : ExcBaseFacts B newId initId bmB) (T : OwnTail h bmB bm) {rest : List Value} (hC : h.get? C = some (excClassObj nm q C N bs bm hdct sn sub ab col dd k0 k1 k2 k3 k5 newId))
    (hi : W.Looks (model prog w) h (typeLookup (.ref C) "__init__") (some (.ref f))) (hb : ∀ self, W.Looks (model prog w) h (bindSpecial (.ref f) self) (.ref f, [self])) (hrest : rest.length ≤ sizeLine)
    {Q : Fin → Shared → Prop} {E : Value → Shared → Prop}
    (hq : codeAny (model prog w) A (.call (.ref f) ⟨.ref (h.objs.size + 1) :: rest, []⟩) (fun r s' => match r with | .ok (.ret v) => v = .none ∧ Q (.done (.ret (.ref (h.objs.size + 1)))) s' | .error e => E e s' | _ => False)
      ⟨(h.push { cls := .type "tuple", data := .seq rest.toArray }).push { cls := .ref C, data := .fields #[.ref h.objs.size, .none, .none, .none, .bool false, .none] }, g, d, t, os⟩) :
    wpAny (model prog w) A (Builtin.«type.__call__» ⟨.ref C :: rest, []⟩) Q E ⟨h, g, d, t, os⟩ := by
  repeat (first | with_reducible refine wpAny_loadPart_at hC ?_ | with_reducible refine wpAny_madeBy_exc hC ?_ | wp_step)
  refine codeAny_call_builtin_code (Code.quiet_builtin _ F.quiet) (wpAny_check_new_subU F F.hasB T hC ?_)
  refine codeAny_exc_new_subU F F.hasB F T hC ?_ hrest
  show wpAny _ _ _ _ _ _
  have k : ∀ b o, h.get? b = some o → ((h.push { cls := .type "tuple", data := .seq rest.toArray }).push { cls := .ref C, data := .fields #[.ref h.objs.size, .none, .none, .none, .bool false, .none] }).get? b = some o := fun b o e => Heap.get?_push_of_some _ (Heap.get?_push_of_some _ e)
  have hC1 := k _ _ hC
  have hget : ((h.push { cls := .type "tuple", data := .seq rest.toArray }).push { cls := .ref C, data := .fields #[.ref h.objs.size, .none, .none, .none, .bool false, .none] }).get? (h.objs.size + 1) = some { cls := .ref C, data := .fields #[.ref h.objs.size, .none, .none, .none, .bool false, .none] } := by heap_get
  have hcC : (Value.ref C :: bm).contains (.ref C) = true := by simp
  unfold isInstance
  repeat (first | with_reducible refine wpAny_loadPart_at hget ?_ | (with_reducible refine wpAny_isSubtype_exc hC1 ?_; rw [hcC]) | wp_step)
  show wpAny _ _ (typeLookup (.ref C) _) _ _ _
  refine (hi.keeps k).at ?_
  refine wpAny_holding (wpAny_bind (((hb _).keeps k).at ?_))
  refine wpAny_bind (wpAny_call (codeAny_mono hq fun r s' z => ?_))
  rcases r with e | (v | _ | _ | _) <;> first | exact z | exact z.elim | skip
  obtain ⟨rfl, z⟩ := z
  exact wpAny_pure (wpAny_pure z)
theorem exc_make (F : ExcBaseFacts B newId initId bmB) (T : OwnTail h bmB bm) {rest : List Value} (hC : h.get? C = some (excClassObj nm q C N bs bm hdct sn sub ab col dd k0 k1 k2 k3 k5 newId))
    (hi : W.Looks (model prog w) h (typeLookup (.ref C) "__init__") (some (.ref f))) (hb : ∀ self, W.Looks (model prog w) h (bindSpecial (.ref f) self) (.ref f, [self])) (hrest : rest.length ≤ sizeLine)
    (hq : codeAny (model prog w) (A.under (.builtin "type.__call__" ⟨.ref C :: rest, []⟩)) (.call (.ref f) ⟨.ref (h.objs.size + 1) :: rest, []⟩) (W.InitBack (h.objs.size + 1) R)
      ⟨(h.push { cls := .type "tuple", data := .seq rest.toArray }).push { cls := .ref C, data := .fields #[.ref h.objs.size, .none, .none, .none, .bool false, .none] }, g, d, t, os⟩) :
    codeAny (model prog w) A (.call (.ref C) ⟨rest, []⟩) R ⟨h, g, d, t, os⟩ := by
  have f1 := tc_lookup
  have f2 := tc_bind (.ref C)
  have hT : (⟨h, g, d, t, os⟩ : Shared).TypeIs (.ref C) "type" := ⟨_, hC, rfl⟩
  refine codeAny_of_tree ?_
  show wpAny _ _ (callAny (.ref C) _) _ _ _
  repeat (any_goals (first | assumption | with_reducible refine wpAny_loadPart_at hC ?_ | wp_step))
  refine ⟨rfl, ?_⟩
  refine codeAny_call_builtin_at (Code.quiet_builtin _ (by decide +kernel)) entry_typeCall (wpAny_check_type_call_sub hC (exc_make_tc F T hC hi hb hrest ?_))
  refine codeAny_mono hq fun r s' z => ?_
  rcases r with e | (v | _ | _ | _) <;> exact z
end
end PySem
end
section
set_option Elab.async false
set_option linter.all false
set_option maxRecDepth 100000
set_option maxHeartbeats 4000000
namespace PySem
open PySem.W PySem.Builtin PySem.Builtin.ObjectAttr
def overB : List Value → Bool
  | .ref _ :: r => overB r
  | l => l == [.type "ValueError", .type "Exception", .type "BaseException", .type "object"]
theorem overB_passes (self : Value) : ∀ {l : List Value}, overB l = true → refuseLoop self "__setattr__" l = pure ()
  | [], e => by cases e
  | .ref c :: r, e => by rw [refuseLoop_ref]; exact overB_passes self e
  | .type n :: r, e => by
    have e' : (Value.type n :: r) = [.type "ValueError", .type "Exception", .type "BaseException", .type "object"] := beq_iff_eq.mp e
    rw [e']
    exact PySem.F.store_ValueError.passes self
  | .none :: r, e | .bool _ :: r, e | .int _ _ :: r, e | .float _ _ :: r, e | .str _ _ :: r, e | .builtin _ :: r, e => by simp [overB] at e
theorem overB_has : ∀ {l : List Value}, overB l = true → l.contains (.type "object") = true
  | [], e => by cases e
  | .ref c :: r, e => by rw [List.contains_cons, overB_has (l := r) e, Bool.or_true]
  | .type n :: r, e => by
    have e' : (Value.type n :: r) = [.type "ValueError", .type "Exception", .type "BaseException", .type "object"] := beq_iff_eq.mp e
    rw [e']
    decide +kernel
  | .none :: r, e | .bool _ :: r, e | .int _ _ :: r, e | .float _ _ :: r, e | .str _ _ :: r, e | .builtin _ :: r, e => by simp [overB] at e
section
variable {prog : Program} {w : World} {K : Frag} {A : Around} {s : Shared} {x C : Addr} {R : Result → Shared → Prop}
theorem osa_openE {ox : Obj} {od : Option Obj} {name : Str} {tk : Tok} {v : Value} {r : Option Value} {cd : ClassData} (X : K.In s.heap) (I : InstAt s.heap x ox C od) (hc : clsIn K C = some cd) (ho : overB cd.mro = true) (ht : takerIn K C name = some r)
    (h : ∀ b, wpAny (model prog w) A.in1 (match r with | some a => setByDescriptor a (.ref x) v | none => storeInOwnDict (.ref x) (.ref C) (.str name tk) name v b)
      (fun fin s' => match fin with | .done f => R (.ok f) s' | .again c' => c'.quiet = true ∧ codeAny (model prog w) A c' R s') (fun e s' => R (.error e) s') s) :
    codeAny (model prog w) A (.call (.builtin "object.__setattr__") ⟨[.ref x, .str name tk, v], []⟩) R s := by
  have SF := PySem.F.store_object
  have ne : cd.mro.isEmpty = false := by cases q : cd.mro with | nil => rw [q] at ho; cases ho | cons _ _ => rfl
  have sub : Looks (model prog w) s.heap (isInstance (.ref x) (.type "object")) true := I.type.andThen (looks_mroIn X (by unfold mroIn; rw [hc, Option.bind_some, if_neg (by rw [ne]; decide), overB_has ho]))
  refine codeAny_call_builtin SF.slot.plain SF.entry (@check_slot (model prog w) _ _ s "object.__setattr__" "object" "__setattr__" (.ref x) [.str name tk, v] [] _ SF.kind SF.split sub (SF.args (.ref x) (.str name tk) v) ?_)
  obtain ⟨attr, ha, hr⟩ := Option.bind_eq_some_iff.mp ht
  have hm : Looks (model prog w) s.heap (mroOf (.ref C)) cd.mro := (looks_clsIn X hc).andThen .now
  have L3 : Looks (model prog w) s.heap (storeTaker? attr) r := by
    cases attr with
    | none => cases hr; exact .now
    | some a =>
      obtain ⟨b, hb, rfl⟩ := Option.map_eq_some_iff.mp hr
      refine (looks_takesIn X hb).andThen ?_
      cases b <;> exact .now
  rw [osa_eq, refuse_eq]
  refine wpAny_bind (wpAny_bind (I.type.here (wpAny_bind (hm.here ?_))))
  rw [overB_passes _ ho]
  refine wpAny_pure (wpAny_bind (I.type.here (wpAny_bind ((looks_findIn X ha).here (wpAny_bind (L3.here ?_))))))
  exact h _
theorem exc_store {E : Value → Shared → Prop} {ox : Obj} {name : Str} {v : Value} {cd : ClassData} {vs : Array Value} {Q : Unit → Shared → Prop} (X : K.In s.heap) (hx : s.heap.get? x = some { cls := .ref C, dict := none, data := .fields vs, slots := #[] })
    (hs : findIn K (.ref C) "__setattr__" = some (some (.builtin "object.__setattr__"))) (hc : clsIn K C = some cd) (ho : overB cd.mro = true) (hd : cd.hasDict = true) (ht : takerIn K C name = some none)
    (h : ∀ h' tk, h'.Ns1 s.heap.objs.size (fun y => if y = name then some v else none) → h'.get? x = some { cls := .ref C, dict := some s.heap.objs.size, data := .fields vs, slots := #[] } → (∀ b o, b ≠ x → s.heap.get? b = some o → h'.get? b = some o) → Q () { s with heap := h', toks := tk }) :
    wpAny (model prog w) A (setAttr (.ref x) name v) Q E s := by
  have I : InstAt s.heap x { cls := .ref C, dict := none, data := .fields vs, slots := #[] } C none := ⟨hx, rfl, rfl, trivial⟩
  refine set_plain X I hs (osa_openE (s := { s with toks := s.toks + 1 }) (r := none) X I hc ho ht fun b => ?_)
  have hx₁ : (s.heap.push { cls := .type "dict", data := .dict #[] }).get? x = some { cls := .ref C, dict := none, data := .fields vs, slots := #[] } := Heap.get?_push_of_some _ hx
  have hxs : x ≠ s.heap.objs.size := Nat.ne_of_lt (Heap.lt_size hx)
  refine wpAny_bind (wpAny_pure (wpAny_bind (wpAny_bind (wpAny_loadPart hx (wpAny_bind (PySem.W.Looks.here (s := { s with toks := s.toks + 1 }) (PySem.W.looks_clsIn X hc) ?_))))))
  rw [hd]
  refine wpAny_bind (wpAny_alloc' ?_)
  refine wpAny_bind (wpAny_update' hx₁ ?_)
  refine wpAny_pure ?_
  have hgd : ((s.heap.push { cls := .type "dict", data := .dict #[] }).update x fun o => { cls := o.cls, dict := some s.heap.objs.size, data := o.data, slots := o.slots }).get? s.heap.objs.size
      = some { cls := .type "dict", data := .dict #[] } :=
    (Heap.get?_update_ne _ _ _ _ hxs.symm).trans (Heap.get?_push_at rfl rfl)
  have hnd : ((s.heap.push { cls := .type "dict", data := .dict #[] }).update x fun o => { cls := o.cls, dict := some s.heap.objs.size, data := o.data, slots := o.slots }).Ns s.heap.objs.size (fun _ => none) :=
    ⟨_, #[], _, hgd, rfl, fun e he => absurd he (by simp), fun _ => rfl⟩
  show wpAny _ _ (storeInDict s.heap.objs.size (.str name _) name v) _ _ _
  unfold storeInDict newKeyGuard
  refine wpAny_bind (wpAny_pure (wpAny_bind (wpAny_nsSet1 (Heap.Ns1.of_empty hnd) fun h' hn' hs => ?_)))
  obtain ⟨oD, esD, epD, hoD, hdD, hcD⟩ := hn'.count (Within.cons name v Within.nil)
  refine wpAny_bind (wpAny_lookBehind hoD (by rw [hdD]; exact pastItsLine_dict (Nat.le_trans hcD (by rw [List.length_cons, List.length_nil, sizeLine_eq]; omega))) ?_)
  refine wpAny_pure (h h' _ hn' ?_ fun b ob hb e => ?_)
  · exact (hs.2 x hxs).trans (Heap.get?_update_self _ hx₁ rfl)
  · exact (hs.2 b (Nat.ne_of_lt (Heap.lt_size e))).trans ((Heap.get?_update_ne _ _ _ _ hb).trans (Heap.get?_push_of_some _ e))
end
end PySem
end
section
set_option Elab.async false
set_option linter.all false
set_option maxRecDepth 100000
set_option maxHeartbeats 4000000
namespace PySem
section
variable {prog : Program} {w : World} {A : Around} {R : Result → Shared → Prop} {h : Heap} {g : Array GenState} {d : Drawn} {t : Nat} {os : OsState}
variable {nm q : Str} {C N f : Addr} {bs bm bmB : List Value} {hdct : Bool} {sn : List Str} {sub : List Value} {ab : Bool} {col : Option Bool} {dd : Option Addr} {k0 k1 k2 k3 k5 : Option Value} {B newId initId : String}
theorem exc_init (F : ExcBaseFacts B newId initId bmB) (T : OwnTail h bmB bm) {rest : List Value} {x : Addr} {ox : Obj} {vs : Array Value} {nid : String} (hC : h.get? C = some (excClassObj nm q C N bs bm hdct sn sub ab col dd k0 k1 k2 k3 k5 nid))
    (hx : h.get? x = some { cls := .ref C, dict := ox.dict, data := .fields vs, slots := ox.slots }) (hv : vs.size = 6) {a0 : Addr} (h0 : vs[0]? = some (.ref a0)) (hrest : rest.length ≤ sizeLine)
    (hq : R (.ok (.ret .none)) ⟨(h.push { cls := .type "tuple", data := .seq rest.toArray }).update x (Obj.mapFields (·.setIfInBounds 0 (.ref h.objs.size))), g, d, t, os⟩) :
    codeAny (model prog w) A (.call (.builtin initId) ⟨.ref x :: rest, []⟩) R ⟨h, g, d, t, os⟩ := by
  refine codeAny_call_builtin F.init.plain F.initEntry (wpAny_check_init_subU F T hC hx rfl ?_)
  have hx1 := Heap.get?_push_of_some { cls := .type "tuple", data := .seq rest.toArray } hx
  repeat (first | with_reducible refine wpAny_loadPart_at hx ?_ | with_reducible refine wpAny_loadPart_at hx1 ?_ | with_reducible refine wpAny_setField hx1 rfl (by rw [hv]; decide) ?_ | wp_step)
  rw [h0]
  refine wpAny_pure (wpAny_bind (wpAny_setField hx1 rfl (by rw [hv]; decide) ?_))
  repeat wp_step
  exact hq
end
end PySem
end
section
set_option Elab.async false
set_option linter.all false
set_option maxRecDepth 100000
set_option maxHeartbeats 4000000
namespace Pg
open PySem PySem.Spec PyProof.Rows L2
abbrev bmV : List Value := [.type "ValueError", .type "Exception", .type "BaseException", .type "object"]
def excInF (K : PySem.W.Frag) (C : Addr) (newId : String) : Bool := match K.lookup C with
  | some ⟨.type "type", _, .cls cd, sl⟩ => (match cd.mro, sl.toList with
    | .ref C' :: bm, [_, _, _, _, some (.builtin n), _] => C' == C && n == newId && !cd.hasDel && PySem.W.tailIn K bmV bm
    | _, _ => false)
  | _ => false
theorem excF_of {K : PySem.W.Frag} {h : Heap} {C : Addr} {newId : String} (X : K.In h) (q : excInF K C newId = true) :
    ∃ nm qn N bs bm hdct sn sub ab col dd k0 k1 k2 k3 k5, h.get? C = some (excClassObj nm qn C N bs bm hdct sn sub ab col dd k0 k1 k2 k3 k5 newId) ∧ OwnTail h bmV bm := by
  unfold excInF at q
  split at q
  · rename_i dd cd sl ho
    split at q
    · rename_i C' bm k0 k1 k2 k3 n k5 hm hs
      simp only [Bool.and_eq_true, beq_iff_eq, Bool.not_eq_true'] at q
      obtain ⟨⟨⟨rfl, rfl⟩, hdel⟩, ht⟩ := q
      obtain ⟨nm, bs, mro, ns, qn, hd, sn, sub, ab, col, del⟩ := cd
      dsimp only at hm hdel
      subst hm hdel
      have hsl : sl = #[k0, k1, k2, k3, some (.builtin n), k5] := by
        obtain ⟨l⟩ := sl
        simp only at hs
        rw [hs]
      subst hsl
      exact ⟨nm, qn, ns, bs, bm, hd, sn, sub, ab, col, dd, k0, k1, k2, k3, k5, X _ _ ho, PySem.W.tail_of_in X ht⟩
    · cases q
  · cases q
structure ECls (K : PySem.W.Frag) (C f : Addr) : Prop where
  ex : excInF K C "ValueError.__new__" = true
  init : PySem.W.findIn K (.ref C) "__init__" = some (some (.ref f))
  fn : PySem.W.isFn K (.ref f) = true
  kp : PySem.W.keepIn K (.ref C) = true
  sa : PySem.W.findIn K (.ref C) "__setattr__" = some (some (.builtin "object.__setattr__"))
  ov : ((PySem.W.clsIn K C).any fun cd => overB cd.mro && cd.hasDict) = true
  ga : PySem.W.findIn K (.ref C) "__getattribute__" = some (some (.builtin "BaseException.__getattribute__"))
  gr : PySem.W.findIn K (.ref C) "__getattr__" = some none
def ExcN (x C : Addr) (od : Option Addr) : HO := .ext fun h => ∃ (vs : Array Value) (a0 : Addr), h.get? x = some { cls := .ref C, dict := od, data := .fields vs } ∧ vs.size = 6 ∧ vs[0]? = some (.ref a0) ∧ vs[1]? = some .none ∧ vs[2]? = some .none
theorem excN_ok {P : Program} {w : World} {H : Hp} {h : Heap} {x C a0 : Addr} {od : Option Addr} {vs : Array Value} (e : h.get? x = some { cls := .ref C, dict := od, data := .fields vs }) (z : vs.size = 6) (h0 : vs[0]? = some (.ref a0)) (h1 : vs[1]? = some .none) (hv2 : vs[2]? = some .none) : ObjOk P w H h x (ExcN x C od) :=
  ⟨⟨vs, a0, e, z, h0, h1, hv2⟩, ⟨_, e⟩, fun h1 h2 ⟨vs, a, e, z⟩ k => ⟨vs, a, k _ e, z⟩⟩
section
variable {X : Cx} {CX : CXT} {k : Nat} {f C : Addr} {fd : FuncData} {ps : List Str} {sp : Sp} {E : XK} {ds : List Value} {dvs : List V}
theorem run_emake {pins : List (Addr × Obj)} {σ : L2.St} {H : Hp} {s : Shared} {Q : VK} {us : List Value} {vs : List V} (M : ECls X.K C f) (F : FnOk X.prog X.w X.K X.mg X.base CX k f fd ps sp) (hr : Room (k + 1) X.A) (hb : Binds X.K fd ps ds) (hd : Vals dvs ds)
    (hx : Passes CX X E) (I : Inv X pins σ H s) (r : Vals vs us) (hus : us.length ≤ sizeLine)
    (h : ∀ x, H x = none → sp (.ref x :: (vs ++ dvs)) (upd H x (ExcN x C none)) (fun v H2 => v = .non ∧ Q (.ref x) H2) E) :
    wpAny (model X.prog X.w) X.A (call (.ref C) us) (EP X pins σ Q) X.xe s := by
  have hq := h (s.heap.objs.size + 1) (I.hok.fresh (Nat.le_succ _))
  have I1 : Inv X pins σ H { s with heap := s.heap.push { cls := .type "tuple", data := .seq us.toArray } } := I.kept (t' := s.toks) fun b u e => Heap.get?_push_of_some _ e
  have e2 : ((s.heap.push { cls := .type "tuple", data := .seq us.toArray }).push { cls := .ref C, data := .fields #[.ref s.heap.objs.size, .none, .none, .none, .bool false, .none] }).get? (s.heap.objs.size + 1) = some { cls := .ref C, data := .fields #[.ref s.heap.objs.size, .none, .none, .none, .bool false, .none] } := by heap_get
  have I2 : Inv X pins σ (upd H (s.heap.objs.size + 1) (ExcN (s.heap.objs.size + 1) C none)) { s with heap := (s.heap.push { cls := .type "tuple", data := .seq us.toArray }).push { cls := .ref C, data := .fields #[.ref s.heap.objs.size, .none, .none, .none, .bool false, .none] } } :=
    I1.laid (t' := s.toks) (fun b u e => Heap.get?_push_of_some _ e) (Nat.le_of_eq (Heap.size_push _ _)) (excN_ok e2 rfl rfl rfl rfl)
  have r2 : Vals (V.ref (s.heap.objs.size + 1) :: (vs ++ dvs)) (Value.ref (s.heap.objs.size + 1) :: (us ++ ds)) := .cons rfl (r.append hd)
  have hl : (Value.ref (s.heap.objs.size + 1) :: us ++ ds).length = ps.length := by
    have e := r2.length
    rw [F.len _ _ _ _ hq] at e
    exact e.symm
  obtain ⟨nm, qn, N, bs, bm, hdct, sn, sub, ab, col, dd, k0, k1, k2, k3, k5, hC, T⟩ := excF_of I.kIn M.ex
  refine wpAny_call (exc_make PySem.F.excBase_ValueError T hC (PySem.W.looks_findIn I.kIn M.init) (fun self => PySem.W.bind_fn I.kIn self (beq_iff_eq.mp M.fn)) hus
    (codeAny_mono (F.run _ X.stack _ _ ⟨Value.ref (s.heap.objs.size + 1) :: us, []⟩ (Value.ref (s.heap.objs.size + 1) :: (us ++ ds)) _ _ E (hr.make C us [])
    (I2.env0.make C us []) (hb _ (Value.ref (s.heap.objs.size + 1) :: us) I2.kIn hl) r2 hq) fun r s' hq' => ?_))
  cases r with
  | error e => exact hx pins σ _ _ e s' I2 hq'
  | ok fl =>
    cases fl with
    | ret u =>
      obtain ⟨v, H', I3, rv, ev, q3⟩ := I2.after hq'
      subst ev
      exact ⟨rv, ⟨V.ref (s.heap.objs.size + 1), H', I3, rfl, q3⟩⟩
    | next => exact False.elim hq'
    | brk => exact False.elim hq'
    | cont => exact False.elim hq'
def tEMake (C : Addr) (sp : Sp) (dvs : List V) (E : XK) (t : TA) : TE := fun σ H Q => t σ H fun vs H1 => vs.length ≤ sizeLine ∧ ∀ x, H1 x = none → sp (.ref x :: (vs ++ dvs)) (upd H1 x (ExcN x C none)) (fun v H2 => v = .non ∧ Q (.ref x) H2) E
theorem pe_emake {x : Str} {p pos : Pos} {e : Expr} {es : List Expr} {t : TA} (M : ECls X.K C f) (F : FnOk X.prog X.w X.K X.mg X.base CX k f fd ps sp) (hr : Room (k + 1) X.A) (hg : Gl X x) (hm : X.mg x = some (.ref C)) (hb : Binds X.K fd ps ds) (hd : Vals dvs ds) (hx : Passes CX X E)
    (ha : PA X (e :: es) t) (hdb : (x == ("__debug__" : Str)) = false := by decide) (he : starEach (e :: es) X.env = (false, eval e X.env) :: starEach es X.env := by rfl) (hpl : (backTo pos (starEach es X.env)).any (·.1) = false := by rfl) :
    PE X (.Call (.Name x p) (e :: es) [] pos) (tEMake C sp dvs E t) := by
  intro pins s σ H Q I h
  refine wpAny_Call_Name_kw (ld_glob I hg hm ?_ hdb)
  refine PySem.W.callWith_K (h₀ := X.base) I.ok.mod.kin M.kp (thn (ha pos pins s σ H _ I h) fun us s1 ⟨vs, H1, I1, r, z, q⟩ => ⟨I1.kIn, ?_⟩) he hpl
  exact run_emake (us := us) M F hr hb hd hx I1 r (by rw [← r.length]; exact z) q
end
end Pg
end
section
set_option Elab.async false
set_option linter.all false
set_option maxRecDepth 100000
set_option maxHeartbeats 4000000
namespace PySem.W
theorem callWith_B {M : Model} {A : Around} {E : Value → Shared → Prop} {s : Shared} {K : Frag} {env : Env} {pos : Pos} {id : String} {first : List Value} {Q : Value → Shared → Prop} {e : Expr} {rest : List Expr}
    (h : wpAny M A (spliced (backTo pos (starEach (e :: rest) env))) (fun vs s₁ => K.In s₁.heap ∧ wpAny M A (call (.builtin id) (first ++ vs)) Q E s₁) E s)
    (he : starEach (e :: rest) env = (false, eval e env) :: starEach rest env := by rfl) (hplain : (backTo pos (starEach rest env)).any (·.1) = false := by rfl) :
    wpAny M A (callWith pos (.builtin id) first (backTo pos (starEach (e :: rest) env)) []) Q E s := by
  rw [he] at h ⊢
  exact callWith_of (by show ((false || (backTo pos (starEach rest env)).any (·.1)) || false) = false; rw [hplain]; rfl) (fun _ _ => ⟨_, .inr (.inl rfl), .now⟩) (Calls.evalArgs_plain h)
end PySem.W
namespace Pg
open PySem PySem.Spec PyProof.Rows L2
structure EBase (K : PySem.W.Frag) (P : Addr) : Prop where
  get : PySem.W.specialIn K (.ref P) "__getattribute__" = some (some (.builtin "type.__getattribute__"))
  rd : PySem.W.readsIn K P (.type "type") = true
  ini : PySem.W.findCls K (.ref P) (.type "type") "__init__" = some (.val (.builtin "ValueError.__init__"))
theorem handed_vi : PySem.W.handedIn (.builtin "ValueError.__init__") = true := by decide +kernel
section
variable {X : Cx} {C P f : Addr} {o e : Expr} {es : List Expr} {pos apos : Pos} {ta : TE} {t : TA}
def tEInit (K : PySem.W.Frag) (P : Addr) (ta : TE) (t : TA) : TE := fun σ H Q => ta σ H fun v H1 => v = .ref P ∧ t σ H1 fun vs H2 => ∃ x rest C f od, vs = .ref x :: rest ∧ rest.length ≤ sizeLine ∧ ECls K C f ∧ H2 x = some (ExcN x C od) ∧ Q .non H2
theorem upd_id {H : Hp} {a : Addr} {o : HO} (h : H a = some o) : upd H a o = H := by
  funext b
  unfold upd
  split
  · rename_i z; rw [z, h]
  · rfl
theorem pe_einit {pl : Sem Bool} (he : PE X o ta) (B : EBase X.K P) (ha : PA X (e :: es) t)
    (hst : starEach (e :: es) X.env = (false, eval e X.env) :: starEach es X.env := by rfl) (hpl : (backTo pos (starEach es X.env)).any (·.1) = false := by rfl)
    (ht : eval (.Call (.Attribute o "__init__" apos) (e :: es) [] pos) X.env = (do
      let ov ← eval o X.env
      standAt apos.atName
      let (f, first) ← holding [ov] (getMethod ov "__init__" pl)
      callWith pos f first (backTo pos (starEach (e :: es) X.env)) (backToKw pos (keywordEach [] X.env))) := by rfl) :
    PE X (.Call (.Attribute o "__init__" apos) (e :: es) [] pos) (tEInit X.K P ta t) := by
  intro pins s σ H Q I h
  refine PySem.W.methodCall_KW (pl := pl) (thn (he pins s σ H _ I h) fun u s1 ⟨x, H1, I1, rx, ex, q⟩ => ?_) ht
  subst ex
  obtain rfl : u = Value.ref P := rx
  refine PySem.W.method_cls I1.kIn B.get (PySem.W.cls_value I1.kIn B.rd B.ini handed_vi ?_)
  have I2 := I1.tok (s1.toks + 1)
  refine PySem.W.callWith_B (K := X.K) (first := []) (thn (ha pos pins _ σ H1 _ I2 q) fun us s2 ⟨vs, H2, I3, r, q2⟩ => ⟨I3.kIn, ?_⟩) hst hpl
  obtain ⟨x, rest, C, f, od, rfl, hz, M, hx, q3⟩ := q2
  obtain ⟨u0, us, rfl, r0, rr⟩ : ∃ u0 us', us = u0 :: us' ∧ RelV (.ref x) u0 ∧ Vals rest us' := by cases r with | cons a b => exact ⟨_, _, rfl, a, b⟩
  obtain rfl : u0 = Value.ref x := r0
  obtain ⟨nm, qn, N, bs, bm, hdct, sn, sub, ab, col, dd, k0, k1, k2, k3, k5, hC, T⟩ := excF_of I3.kIn M.ex
  obtain ⟨⟨fv, a0, ex, z, h0, h1, hv2⟩, _, _⟩ := I3.hok x _ hx
  refine wpAny_call (exc_init (ox := { cls := .ref C, dict := od, data := .fields fv }) PySem.F.excBase_ValueError T hC ex z h0 (by rw [← rr.length]; exact hz) ?_)
  have ex1 := Heap.get?_push_of_some (h := s2.heap) { cls := .type "tuple", data := .seq us.toArray } ex
  have I4 : Inv X pins σ H2 { s2 with heap := s2.heap.push { cls := .type "tuple", data := .seq us.toArray } } := I3.kept (t' := s2.toks) fun b u e => Heap.get?_push_of_some _ e
  refine ⟨.non, H2, ?_, rfl, q3⟩
  have I5 := I4.write (x := x) (e := x) (o := ExcN x C od) (t' := s2.toks) (by rw [hx]; exact True.intro) (.inl rfl) (fun b u hb e => (Heap.get?_update_other _ (Obj.mapFields (·.setIfInBounds 0 (.ref s2.heap.objs.size))) (Ne.symm hb)).trans e) ⟨_, Heap.get?_update_self _ ex1 rfl⟩
    (excN_ok (a0 := s2.heap.objs.size) (Heap.get?_update_self _ ex1 rfl) (by simp [z]) (by simp [z]) (by simp [h1]) (by simp [hv2]))
  rw [upd_id hx] at I5
  exact I5
end
end Pg
end
section
set_option Elab.async false
set_option linter.all false
set_option maxRecDepth 100000
set_option maxHeartbeats 4000000
namespace Pg
open PySem PySem.Spec PyProof.Rows L2
section
variable {X : Cx} {pins : List (Addr × Obj)} {σ : L2.St} {H : Hp} {s : Shared}
theorem Inv.writeNew {x d : Addr} {o u : HO} {h' : Heap} {t' : Nat} (I : L2.Inv X pins σ H s) (mu : Mut (H x)) (hd : s.heap.objs.size ≤ d) (k : ∀ b u, b ≠ x → s.heap.get? b = some u → h'.get? b = some u) (heo : ∃ u, h'.get? x = some u)
    (new : ∀ H', ObjOk X.prog X.w H' h' x o) (new' : ∀ H', ObjOk X.prog X.w H' h' d u) : L2.Inv X pins σ (upd (upd H d u) x o) { s with heap := h', toks := t' } := by
  have hn : H d = none := I.hok.fresh hd
  have hdx : d ≠ x := fun e => by subst e; rw [hn] at mu; exact mu
  have uw : Un X.fs [] H (upd H x o) s.heap h' := Un.write mu (.inl rfl) k heo
  have ok := I.hok.write (o' := o) mu (.inl rfl) k heo (new _)
  have sub : ∀ b v, upd H x o b = some v → upd (upd H d u) x o b = some v := fun b v e => by
    unfold upd at e ⊢
    by_cases z : b = x
    · rw [if_pos z] at e ⊢; exact e
    · rw [if_neg z] at e ⊢
      by_cases y : b = d
      · rw [y, hn] at e; cases e
      · rw [if_neg y]; exact e
  refine I.un ⟨uw.keep, uw.slot, fun c q e n m => ?_, uw.there, fun a xs e => sub _ _ (uw.tups a xs e), fun a o' u' e => sub _ _ (uw.frzs a o' u' e), fun a p e => let ⟨m, q⟩ := uw.tbls a p e; ⟨m, sub _ _ q⟩⟩ fun b v e => ?_
  · have := uw.free c q e n m
    have cd : c ≠ d := fun z => by subst z; exact absurd (Heap.lt_size e) (Nat.not_lt.mpr hd)
    unfold upd at this ⊢
    by_cases z : c = x
    · rw [if_pos z] at this; cases this
    · rw [if_neg z, if_neg cd]; exact n
  · by_cases z : b = x
    · subst z
      rw [upd_same] at e
      cases e
      exact new _
    · rw [upd_ne z] at e
      by_cases y : b = d
      · subst y
        rw [upd_same] at e
        cases e
        exact new' _
      · rw [upd_ne y] at e
        exact (ok b v (by rw [upd_ne z]; exact e)).stay (fun _ _ _ q => q) (fun c q => sub c _ q) fun c xs q => sub c _ q
def sEFld (K : PySem.W.Frag) (ta tv : TE) (f : Str) : TS := fun D σ H => tv σ H fun y H1 => ta σ H1 fun x H2 => ∃ a C g, x = .ref a ∧ ECls K C g ∧ NoAttr K C f ∧ H2 a = some (ExcN a C none) ∧
  ∀ dx, H2 dx = none → dx ≠ a → D.nx σ (upd (upd H2 dx (.xd [(f, y)])) a (ExcN a C (some dx)))
theorem ps_efld {o value : Expr} {f : Str} {pos pos' : Pos} {ta tv : TE} (ha : PE X o ta) (hv : PE X value tv) (hs : swapsWith value (some (.Attribute o f pos')) pos.line X.env = pure false) : PS X (.Assign [.Attribute o f pos'] value pos) (sEFld X.K ta tv f) := by
  intro pins s σ H D I h
  refine plainObj_wpAny_Assign_Attribute (thn (hv pins s σ H _ I h) fun u s1 ⟨y, H1, I1, ry, q⟩ => thn (ha pins s1 σ H1 _ I1 q) fun ov s2 ⟨x, H2, I2, rx, a, C, g, ex, M, n, ea, q2⟩ => ?_) hs
  subst ex
  obtain rfl : ov = Value.ref a := rx
  obtain ⟨⟨fv, a0, e, z, h0, h1, hv2⟩, _, _⟩ := I2.hok a _ ea
  obtain ⟨cd, hc, ho⟩ := PySem.W.any_some M.ov
  rw [Bool.and_eq_true] at ho
  refine exc_store (ox := { cls := .none, data := .plain }) I2.kIn e M.sa hc ho.1 ho.2 n.taker fun h' tk hn hx k => ?_
  have hne : s2.heap.objs.size ≠ a := Nat.ne_of_gt (Heap.lt_size e)
  refine ⟨σ, _, Inv.writeNew (d := s2.heap.objs.size) (u := .xd [(f, y)]) (o := ExcN a C (some s2.heap.objs.size)) I2 (by rw [ea]; exact True.intro) (Nat.le_refl _) (fun b u hb q => k b u hb q) ⟨_, hx⟩ (fun _ => excN_ok hx z h0 h1 hv2) (fun _ => ⟨_, hn, fun g => ?_⟩), q2 _ (I2.hok.fresh (Nat.le_refl _)) hne⟩
  by_cases y' : g = f
  · subst y'
    simp [List.lookup]
    exact ry
  · have : (g == f) = false := by simp [y']
    simp [List.lookup, this, y']
    trivial
end
end Pg
end
section
set_option Elab.async false
set_option linter.all false
set_option maxRecDepth 100000
set_option maxHeartbeats 4000000
namespace PySem
section
variable {M : Model} {A : Around} {E : Value → Shared → Prop} {env : Env} {nm q : Str} {C N : Addr} {bs bm bmB : List Value} {hdct : Bool} {sn : List Str} {sub : List Value} {ab : Bool} {col : Option Bool} {dd : Option Addr} {k0 k1 k2 k3 k5 : Option Value} {newId : String}
theorem exc_raise {s : Shared} {x : Sem Value} {Q : Flow → Shared → Prop} (hbase : bmB.contains (.type "BaseException") = true) (hh : A.handled = none)
    (h : wpAny M A x (fun v s₁ => ∃ (e : Addr) (od : Option Addr) (vs : Array Value) (C N : Addr) (nm q : Str) (bs bm : List Value) (hdct : Bool) (sn : List Str) (sub : List Value) (ab : Bool) (col : Option Bool) (dd : Option Addr) (k0 k1 k2 k3 k5 : Option Value), v = .ref e ∧ s₁.heap.get? C = some (excClassObj nm q C N bs bm hdct sn sub ab col dd k0 k1 k2 k3 k5 newId) ∧ OwnTail s₁.heap bmB bm ∧
      s₁.heap.get? e = some { cls := .ref C, dict := od, data := .fields vs } ∧ vs[1]? = some .none ∧ E (.ref e) s₁) E s) :
    wpAny M A (raiseStmt env (some x) none) Q E s := by
  unfold raiseStmt
  refine wpAny_bind (wpAny_mono h (fun v s₁ h₁ => ?_) fun _ _ x => x)
  obtain ⟨e, od, vs, C, N, nm, q, bs, bm, hdct, sn, sub, ab, col, dd, k0, k1, k2, k3, k5, rfl, hC, T, he, hv1, hE⟩ := h₁
  have hcB : (Value.ref C :: bm).contains (.type "BaseException") = true := by rw [List.contains_cons, T.hasType hbase, Bool.or_true]
  obtain ⟨hp, g, d, tk, os⟩ := s₁
  repeat (first | with_reducible refine wpAny_loadPart_at he ?_ | with_reducible refine wpAny_loadPart_at hC ?_ | (with_reducible refine wpAny_isSubtype_exc hC ?_; rw [hcB]) | wp_step)
  rw [hv1]
  refine wpAny_pure ?_
  rw [if_neg (by decide)]
  exact wpAny_pure (wpAny_raiseNew_none hh hE)
end
end PySem
namespace Pg
open PySem PySem.Spec PyProof.Rows L2
def Raises (X : Cx) (E : XK) : Prop := ∀ (pins : List (Addr × Obj)) (σ : L2.St) (H : Hp) (s : Shared) (x C dx : Addr), L2.Inv X pins σ H s → H x = some (ExcN x C (some dx)) → E (.ref x) (some dx) (upd H x (ExcH x C dx)) → X.xe (.ref x) s
theorem raisesE {P : Program} {w : World} {K : PySem.W.Frag} {mg : Str → Option Value} {base : Heap} {N : List Str} {qual : Str} {scope : Scope} {f : Addr} {cd : Value} {A : Around} {outer : List Env} {s0 : Shared} {H0 : Hp} {E : XK} :
    Raises (cxOf (CXE P w) P w K mg base N qual scope f cd A outer s0 H0 E) E := by
  intro pins σ H s x C dx I hx hE
  obtain ⟨⟨vs, a0, e, z, h0, h1, hv2⟩, _⟩ := I.hok x _ hx
  show wpAny (model P w) (A.deeper (envOfC qual scope s0.heap.objs.size f cd)) (leaving (envOfC qual scope s0.heap.objs.size f cd) (.ref x)) _ _ s
  have hl : s.heap.FunFrames base (envOfC qual scope s0.heap.objs.size f cd :: outer) := I.stack
  have free : ∀ c ∈ frs (envOfC qual scope s0.heap.objs.size f cd :: outer), H c = none := I.stkFree
  refine exc_leave_first (base := base) (outer := outer) (L := s0.heap.objs.size) (o := excO C dx) (vs := vs) I.ok.frames hl rfl e z h1 hv2 fun h'' T nT b l => ?_
  have jb : Un (frs outer) [] H0 H s0.heap s.heap := I.base
  have hTx : T ≠ x := fun q => by subst q; exact absurd (Heap.lt_size e) (Nat.not_lt.mpr nT)
  have nx : ∀ c u, s0.heap.get? c = some u → H0 c = none → c ≠ x := fun c u e n m => by
    have q := jb.free c u e n (by simp)
    rw [m, hx] at q
    cases q
  have hL : ∀ c u, s0.heap.get? c = some u → c ∉ frs outer → c ∉ frs (envOfC qual scope s0.heap.objs.size f cd :: outer) := fun c u e n m => by
    have m' : c = s0.heap.objs.size ∨ c ∈ frs outer := by
      unfold frs at m
      rw [List.filterMap_cons] at m
      exact List.mem_cons.mp m
    rcases m' with z | z
    · exact absurd (Heap.lt_size e) (by rw [z]; exact Nat.lt_irrefl _)
    · exact n z
  have up : ∀ c v, H c = some v → (∀ φ, v ≠ .ext φ) → upd H x (ExcH x C dx) c = some v := fun c v q n => by
    rw [upd_ne]
    · exact q
    · intro m
      rw [m, hx] at q
      cases q
      exact n _ rfl
  have un : Un (frs outer) [] H0 (upd H x (ExcH x C dx)) s0.heap h'' := by
    refine ⟨fun c u e n hc _ => b.1 c u (jb.keep c u e n hc (by simp)) (hL c u e hc) (by simpa using nx c u e n), fun c u e n hc _ => ?_, fun c u e n _ => ?_, fun c u e _ => ?_, fun c xs q => up _ _ (jb.tups c xs q) (fun φ z => by cases z), fun c o u q => up _ _ (jb.frzs c o u q) (fun φ z => by cases z), fun c p q => ?_⟩
    · obtain ⟨sl, e'⟩ := jb.slot c u e n hc (by simp)
      obtain ⟨sl', e''⟩ := b.2.1 c _ e' (by simpa using nx c u e n)
      exact ⟨sl', e''⟩
    · rw [upd_ne (nx c u e n)]
      exact jb.free c u e n (by simp)
    · obtain ⟨u', e'⟩ := jb.there c u e (by simp)
      exact b.2.2 c u' e'
    · obtain ⟨m, q'⟩ := jb.tbls c p q
      exact ⟨m, up _ _ q' (fun φ z => by cases z)⟩
  refine ⟨x, C, dx, T, upd H x (ExcH x C dx), rfl, l, Nat.le_trans I.sz nT, by rw [upd_ne hTx]; exact I.hok.fresh nT, upd_same, I.os, I.bare, un, fun a o q => ?_, hE⟩
  by_cases hax : a = x
  · subst hax
    rw [upd_same] at q
    cases q
    exact excH_ok l
  · rw [upd_ne hax] at q
    refine (I.hok a o q).stay (fun c u hc q' => b.1 c u q' ?_ ?_) (fun c q' => up c _ q' fun φ z => by cases z) fun c xs q' => up c _ q' fun φ z => by cases z
    · intro m
      have := free c m
      rcases hc with rfl | z
      · rw [q] at this; cases this
      · rw [z] at this; cases this
    · intro m
      simp at m
      subst m
      rcases hc with z | z
      · exact hax z.symm
      · rw [hx] at z; cases z
def sRaise (K : PySem.W.Frag) (E : XK) (ta : TE) : TS := fun D σ H => ta σ H fun v H1 => ∃ x C g dx, v = .ref x ∧ ECls K C g ∧ H1 x = some (ExcN x C (some dx)) ∧ E (.ref x) (some dx) (upd H1 x (ExcH x C dx))
theorem ps_raise {X : Cx} {E : XK} {e : Expr} {pos : Pos} {ta : TE} (R : Raises X E) (hc : X.calm = true) (he : PE X e ta) (hev : evalOpt (some e) X.env = some (eval e X.env) := by rfl) (hn : evalOpt none X.env = none := by rfl) : PS X (.Raise (some e) none pos) (sRaise X.K E ta) := by
  intro pins s σ H D I h
  show wpAny _ _ (standAt pos >>= fun _ => raiseStmt X.env _ _) _ _ _
  refine wpAny_bind (wpAny_standAt ?_)
  rw [hev, hn]
  refine exc_raise (newId := "ValueError.__new__") (bmB := bmV) (by decide +kernel) (I.ok.hd hc) ?_
  refine wpAny_bind (thn (he pins s σ H _ I h) fun u s1 ⟨v, H1, I1, rv, x, C, g, dx, ev, M, hx, hE⟩ => wpAny_bind (wpAny_standAt (wpAny_pure ?_)))
  subst ev
  obtain rfl : u = Value.ref x := rv
  obtain ⟨nm, qn, N, bs, bm, hdct, sn, sub, ab, col, dd, k0, k1, k2, k3, k5, hC, T⟩ := excF_of I1.kIn M.ex
  have w1 := (I1.hok x _ hx).1
  obtain ⟨vs, a0, e1, _, _, v1, _⟩ := w1
  exact ⟨x, some dx, vs, C, N, nm, qn, bs, bm, hdct, sn, sub, ab, col, dd, k0, k1, k2, k3, k5, rfl, hC, T, e1, v1, R pins σ H1 s1 x C dx I1 hx hE⟩
end Pg
end
section
set_option Elab.async false
set_option linter.all false
set_option maxRecDepth 100000
set_option maxHeartbeats 4000000
namespace Pg
open PySem PySem.Spec PyProof.Rows L2
section
variable {X : Cx} {pins : List (Addr × Obj)} {σ : L2.St} {H : Hp} {s : Shared}
abbrev onPn (X : Cx) (pn : List (Addr × Obj)) (E : Value → Shared → Prop) : Cx := { X with pn := pn, xe := E }
theorem okPn {pn : List (Addr × Obj)} {E : Value → Shared → Prop} (ok : X.Ok) : (onPn X pn E).Ok :=
  ⟨ok.mod, ok.kind, ok.glob, ok.blt, ok.above, ok.inj, ok.has, ok.cab, ok.hd, ok.frames, ok.stk, ok.exf, ok.bs, ok.bsz, ok.noex, ok.exfs, ok.funs, ok.frf⟩
theorem okUn {pn : List (Addr × Obj)} {E : Value → Shared → Prop} (ok : (onPn X pn E).Ok) : X.Ok :=
  ⟨ok.mod, ok.kind, ok.glob, ok.blt, ok.above, ok.inj, ok.has, ok.cab, ok.hd, ok.frames, ok.stk, ok.exf, ok.bs, ok.bsz, ok.noex, ok.exfs, ok.funs, ok.frf⟩
theorem toPn (I : L2.Inv X pins σ H s) (E : Value → Shared → Prop) : L2.Inv (onPn X (X.pn ++ pins) E) [] σ H s :=
  ⟨okPn I.ok, I.os, I.bare, I.base, I.loc, I.cell, I.free, I.freeC, fun p hp => I.pin p (by simpa using hp), I.hok, I.len⟩
theorem ofPn {pins' : List (Addr × Obj)} {E : Value → Shared → Prop} (I : L2.Inv (onPn X (X.pn ++ pins) E) pins' σ H s) : L2.Inv X pins σ H s :=
  ⟨okUn I.ok, I.os, I.bare, I.base, I.loc, I.cell, I.free, I.freeC, fun p hp => I.pin p (List.mem_append_left _ hp), I.hok, I.len⟩
theorem spPn {E : Value → Shared → Prop} {D : Ends} {f : Flow} (h : SP (onPn X (X.pn ++ pins) E) [] D f s) : SP X pins D f s := by
  cases f with
  | next => obtain ⟨σ', H', I, q⟩ := h; exact ⟨σ', H', ofPn I, q⟩
  | brk => obtain ⟨σ', H', I, q⟩ := h; exact ⟨σ', H', ofPn I, q⟩
  | cont => obtain ⟨σ', H', I, q⟩ := h; exact ⟨σ', H', ofPn I, q⟩
  | ret u => obtain ⟨v, σ', H', I, r, q⟩ := h; exact ⟨v, σ', H', ofPn I, r, q⟩
theorem Inv.noted {x T T' C dx : Addr} {fl : Value} {h' : Heap} (I : L2.Inv X pins σ H s) (b : But (frs X.stack) [x, T] s.heap h') (hx : H x = some (ExcH x C dx)) (l : Lies h' x (excO C dx) T' fl) (fp : FpOk X pins H T) : L2.Inv X pins σ H { s with heap := h' } := by
  have nx : ∀ c, H c = none → c ≠ x := fun c n m => by rw [m, hx] at n; cases n
  refine I.call (g' := s.gens) (t' := s.toks) (d' := s.drawn) (ch := [T]) ⟨fun c u e n hc hT => b.1 c u e hc ?_, fun c u e n hc hT => b.2.1 c u e ?_, fun c u e n _ => n, fun c u e _ => b.2.2 c u e, fun _ _ q => q, fun _ _ _ q => q, fun _ p q => ⟨#[], by simpa using q⟩⟩ (but_hok I.hok b I.stkFree fp.1 hx l) I.bare fun c hc => ?_
  · simp at hT ⊢; exact ⟨nx c n, hT⟩
  · simp at hT ⊢; exact ⟨nx c n, hT⟩
  · obtain rfl : c = T := by simpa using hc
    obtain ⟨_, h2, _, h4, h5, h6⟩ := fp
    exact ⟨h4, h2, h5, h6⟩
def XT (X : Cx) (pins : List (Addr × Obj)) (Eh : L2.St → XK) (e : Value) (s' : Shared) : Prop :=
  ∃ (σ : L2.St) (H : Hp) (x C dx T : Addr), e = .ref x ∧ Lies s'.heap x (excO C dx) T .none ∧ H x = some (ExcH x C dx) ∧ FpOk X pins H T ∧ L2.Inv X pins σ H s' ∧ Eh σ (.ref x) (some dx) H
theorem try_pass {Eh : L2.St → XK} {pins' : List (Addr × Obj)} {e : Value} {s' : Shared} (I : L2.Inv (onPn X (X.pn ++ pins) (XT X pins Eh)) pins' σ H s) (h : CXE X.prog X.w X.stack H s (Eh σ) e s') : XT X pins Eh e s' := by
  obtain ⟨x, C, dx, T, H', rfl, l, nT, hT, hxx, os, bare, un, hok, hE⟩ := h
  have I0 := ofPn I
  have J := I0.call' (ch := []) os un hok bare (fun b z => absurd z (by simp))
  exact ⟨σ, H', x, C, dx, T, rfl, l, hxx, I0.fpOk nT hT, J, hE⟩
end
end Pg
end
section
set_option Elab.async false
set_option linter.all false
set_option maxRecDepth 100000
set_option maxHeartbeats 4000000
namespace Pg
open PySem PySem.Spec PyProof.Rows L2
section
variable {X : Cx} {pins : List (Addr × Obj)} {σ : L2.St} {H : Hp} {s : Shared}
theorem unbind_ok {M : Model} {A : Around} {E : Value → Shared → Prop} {i : Nat} {x : Str} {v : V} {Q : Unit → Shared → Prop} (I : L2.Inv X pins σ H s) (hN : X.N.Nodup) (hi : X.N[i]? = some x) (hk : X.env.kindOf x = some .local) (hv : σ[i]? = some (some v)) (hs0 : X.env.scope.names.lookup x = some .local)
    (h : ∀ s', L2.Inv X pins (σ.set i none) H s' → Q () s') : wpAny M A (unbindName X.env x) Q E s := by
  obtain ⟨m, hn, hl⟩ := id I.loc
  have hcls : (X.env.scope.kind == .class || (X.env.scope.kind == .module && X.env.locals != X.env.globals)) = false := by rw [I.ok.kind]; rfl
  have hiσ : i < σ.length := by rw [I.len]; exact (List.getElem?_eq_some_iff.mp hi).1
  have cne := I.cne
  have tracked : ∀ {a : Addr} {h' : Heap}, (∃ o, s.heap.get? a = some o ∧ H a = none) → Heap.SameBut a s.heap h' → HOk X.prog X.w H h' := fun {a h'} ha hs b ob e => by
    obtain ⟨_, _, hfree⟩ := ha
    refine (I.hok b ob e).stay (fun c w' hc q => (hs.2 c ?_).trans q) (fun _ q => q) fun _ _ q => q
    rintro rfl
    rcases hc with rfl | hc
    · rw [hfree] at e; cases e
    · rw [hfree] at hc; cases hc
  obtain ⟨u, r, q⟩ := hl i x v hi hv (.inl hs0)
  have hm : m x = some u := by
    rcases q with ⟨_, e⟩ | ⟨k, _⟩
    · exact e
    · rw [hk] at k; rcases k with k | k <;> cases k
  refine wpAny_unbindName_local hk hn hm hcls fun h' u' hn' hs => ?_
  obtain ⟨oL, _, _, hoL, _⟩ := id hn
  refine h _ ⟨I.ok, I.os, I.bare, ⟨fun b o e n hb hx => ?_, fun b o e n hb hx => ?_, I.base.free, fun b o e hx => ?_, I.base.tups, I.base.frzs, I.base.tbls⟩, ⟨_, hn', fun j y v' e1 e2 e3 => ?_⟩, fun y c e => ?_, I.free, I.freeC, fun p hp => ?_, tracked ⟨oL, hoL, I.free⟩ hs, by simpa using I.len⟩
  · exact (hs.2 b (Nat.ne_of_lt (Nat.lt_of_lt_of_le (Heap.lt_size e) I.ok.above))).trans (I.base.keep b o e n hb hx)
  · obtain ⟨sl, e1⟩ := I.base.slot b o e n hb hx
    exact ⟨sl, (hs.2 b (Nat.ne_of_lt (Nat.lt_of_lt_of_le (Heap.lt_size e) I.ok.above))).trans e1⟩
  · obtain ⟨o', e1⟩ := I.base.there b o e hx
    exact ⟨o', (hs.2 b (Nat.ne_of_lt (Nat.lt_of_lt_of_le (Heap.lt_size e) I.ok.above))).trans e1⟩
  · by_cases hj : j = i
    · subst hj
      rw [List.getElem?_set_self hiσ] at e2
      cases e2
    · rw [List.getElem?_set_ne (Ne.symm hj)] at e2
      obtain ⟨u', r', q⟩ := hl j y v' e1 e2 e3
      refine ⟨u', r', ?_⟩
      rcases q with ⟨k, e⟩ | ⟨k, c, e, z⟩
      · refine .inl ⟨k, ?_⟩
        have : y ≠ x := fun e => hj (nodup_ix hN e1 (e ▸ hi))
        simp [this, e]
      · exact .inr ⟨k, c, e, z.sameBut hs (cne y c e)⟩
  · obtain ⟨v, q⟩ := I.cell y c e
    exact ⟨v, q.sameBut hs (cne y c e)⟩
  · obtain ⟨e, n1, n2, n3, n4⟩ := I.pin p hp
    exact ⟨(hs.2 p.1 n2).trans e, n1, n2, n3, n4⟩
theorem behind_ok {A : Around} {E : Value → Shared → Prop} {i : Nat} {x : Str} {pos : Pos} {Q : Unit → Shared → Prop} (I : L2.Inv X pins σ H s) (hN : X.N.Nodup) (hi : X.N[i]? = some x) (hk : X.env.kindOf x = some .local) (hs0 : X.env.scope.names.lookup x = some .local) (hx : Loc X.env.scope x)
    (h : ∀ s', L2.Inv X pins (σ.set i none) H s' → Q () s') : wpAny (model X.prog X.w) A (do bindName X.env x .none; unbindBehindTheSuite X.env x pos) Q E s := by
  have hiσ : i < σ.length := by rw [I.len]; exact (List.getElem?_eq_some_iff.mp hi).1
  unfold bindName unbindBehindTheSuite
  refine wpAny_bind (wpAny_bind (wpAny_holding (wpAny_point (wpAny_bind (store_ok (v := .non) I hN hi hx rfl (fun s1 I1 => wpAny_point (wpAny_onRaise ?_)) (.inr hs0))))))
  refine unbind_ok I1 hN hi hk (List.getElem?_set_self hiσ) hs0 fun s2 I2 => ?_
  rw [List.set_set] at I2
  exact h s2 I2
end
end Pg
end
section
set_option Elab.async false
set_option linter.all false
set_option maxRecDepth 100000
set_option maxHeartbeats 4000000
namespace Pg
open PySem PySem.Spec PyProof.Rows L2
abbrev markX (X : Cx) (pn : List (Addr × Obj)) (e : Value) : Cx := { X with A := X.A.mark (some e), calm := false, pn := pn, xe := fun _ _ => False }
section
variable {X : Cx} {pins : List (Addr × Obj)} {σ : L2.St} {H : Hp} {s : Shared} {e : Value}
theorem toMark (I : L2.Inv X pins σ H s) : L2.Inv (markX X (X.pn ++ pins) e) [] σ H s :=
  ⟨⟨I.ok.mod, I.ok.kind, I.ok.glob, I.ok.blt, I.ok.above, I.ok.inj, I.ok.has, I.ok.cab, fun z => (by cases z), I.ok.frames, I.ok.stk, I.ok.exf, I.ok.bs, I.ok.bsz, I.ok.noex, I.ok.exfs, I.ok.funs, I.ok.frf⟩, I.os, I.bare, I.base, I.loc, I.cell, I.free, I.freeC, fun p hp => I.pin p (by simpa using hp), I.hok, I.len⟩
theorem ofMark {pins' : List (Addr × Obj)} (ok : X.Ok) (I : L2.Inv (markX X (X.pn ++ pins) e) pins' σ H s) : L2.Inv X pins σ H s :=
  ⟨ok, I.os, I.bare, I.base, I.loc, I.cell, I.free, I.freeC, fun p hp => I.pin p (List.mem_append_left _ hp), I.hok, I.len⟩
end
def sTry (C : Addr) (i : Nat) (Eh : L2.St → Hp → L2.St → XK) (tb : L2.St → Hp → TS) (ts : TS) : TS := fun D σ H => tb σ H D σ H ∧
  ∀ σ' x dx H', Eh σ H σ' (.ref x) (some dx) H' → H' x = some (ExcH x C dx) ∧ ts { nx := fun σ2 H2 => D.nx (σ2.set i none) H2, rt := D.rt, bk := fun σ2 H2 => D.bk (σ2.set i none) H2, ct := fun σ2 H2 => D.ct (σ2.set i none) H2 } (σ'.set i (some (.ref x))) H'
section
variable {X : Cx} {C f : Addr} {body suite : List Stmt} {b0 : Stmt} {y n : Str} {np hpos pos : Pos} {i : Nat} {Eh : L2.St → Hp → L2.St → XK} {tb : L2.St → Hp → TS} {ts : TS}
end
end Pg
end
section
set_option Elab.async false
set_option linter.all false
set_option maxRecDepth 100000
set_option maxHeartbeats 4000000
namespace Pg
open PySem PySem.Spec PyProof.Rows L2
def PassesS (CX : CXT) (X : Cx) (E : L2.St → XK) : Prop := ∀ (pins : List (Addr × Obj)) (σ : L2.St) (H : Hp) (s : Shared) (e : Value) (s' : Shared), L2.Inv X pins σ H s → CX X.stack H s (E σ) e s' → X.xe e s'
theorem pass_try {X : Cx} {pins : List (Addr × Obj)} {Eh : L2.St → XK} : PassesS (CXE X.prog X.w) (onPn X (X.pn ++ pins) (XT X pins Eh)) Eh := fun pins' σ H s e s' I h => try_pass I h
section
variable {X : Cx} {CX : CXT} {k : Nat} {f C : Addr} {fd : FuncData} {ps ks : List Str} {sp : Sp} {dvs : List V} {ds : List Value} {E : L2.St → XK} {x m : Str} {p pos apos : Pos} {e o : Expr} {es : List Expr} {kws : List Keyword} {ta : TE} {t tk : TA} {g : List Value → List Value → List Value} {gV : List V → List V → List V}
def tCallS (sp : Sp) (dvs : List V) (E : L2.St → XK) (t : TA) : TE := fun σ H Q => t σ H fun vs H1 => sp (vs ++ dvs) H1 Q (E σ)
def tCallKS (sp : Sp) (gV : List V → List V → List V) (E : L2.St → XK) (t tk : TA) : TE := fun σ H Q => t σ H fun vs H1 => tk σ H1 fun zs H2 => sp (gV vs zs) H2 Q (E σ)
theorem run_fnkS {pins : List (Addr × Obj)} {σ : L2.St} {H : Hp} {s : Shared} {Q : VK} {us ws : List Value} {vs zs : List V} (F : FnOk X.prog X.w X.K X.mg X.base CX k f fd ps sp) (hr : Room k X.A) (hb : KBinds X.K fd ps ks g gV) (hx : PassesS CX X E)
    (I : L2.Inv X pins σ H s) (r : Vals vs us) (rz : Vals zs ws) (h : sp (gV vs zs) H Q (E σ)) : wpAny (model X.prog X.w) X.A (call (.ref f) us (ks.zip ws)) (EP X pins σ Q) X.xe s := by
  have r2 := hb.rel r rz
  have hl : (g us ws).length = ps.length := by rw [← r2.length]; exact F.len _ _ _ _ h
  refine wpAny_call (codeAny_mono (F.run X.A X.stack s H ⟨us, ks.zip ws⟩ (g us ws) (gV vs zs) Q (E σ) hr I.env0 (hb.to s us ws I.kIn hl) r2 h) fun r s' hq => ?_)
  cases r with
  | error e => exact hx pins σ H s e s' I hq
  | ok fl =>
    cases fl with
    | ret u => exact I.after hq
    | next => exact False.elim hq
    | brk => exact False.elim hq
    | cont => exact False.elim hq
theorem pe_callKS0 (F : FnOk X.prog X.w X.K X.mg X.base CX k f fd ps sp) (hr : Room k X.A) (hg : Gl X x) (hm : X.mg x = some (.ref f)) (hk : PySem.W.keepIn X.K (.ref f) = true) (hb : KBinds X.K fd ps ks g gV) (hx : PassesS CX X E)
    (hkw : PK X kws tk) (hall : (backToKw pos (keywordEach kws X.env)).all (·.1.isSome) = true := by rfl) (hks : (backToKw pos (keywordEach kws X.env)).filterMap (·.1) = ks := by rfl)
    (hdb : (x == ("__debug__" : Str)) = false := by decide) (hpl : ((backToKw pos (keywordEach kws X.env)).any (·.1.isNone)) = false := by rfl) :
    PE X (.Call (.Name x p) [] kws pos) (tCallKS sp gV E tNil tk) := by
  intro pins s σ H Q I h
  refine wpAny_Call_Name_kw (ld_glob I hg hm ?_ hdb)
  refine PySem.W.callWith_KW0 (h₀ := X.base) I.ok.mod.kin hk hall ?_ hpl
  refine thn (hkw pos pins s σ H _ I h) fun ws s2 ⟨zs, H2, I2, rz, q2⟩ => ⟨I2.kIn, ?_⟩
  rw [hks]
  exact run_fnkS (us := []) (vs := []) F hr hb hx I2 .nil rz q2
end
end Pg
end
section
set_option Elab.async false
set_option linter.all false
set_option maxRecDepth 100000
set_option maxHeartbeats 4000000
namespace PySem
open PySem.W PySem.Builtin PySem.Builtin.ObjectAttr
section
variable {prog : Program} {w : World} {A : Around} {E : Value → Shared → Prop} {s : Shared} {K : Frag} {x C : Addr} {ox : Obj} {od : Option Obj} {name : Str} {cd : ClassData}
theorem exc_check_ga {nameV : Value} {Q : Unit → Shared → Prop} (X : K.In s.heap) (I : InstAt s.heap x ox C od) (hc : clsIn K C = some cd) (hb : cd.mro.contains (.type "BaseException") = true) (hq : Q () s) :
    wpAny (model prog w) A (checkBuiltinCall "BaseException.__getattribute__" ⟨[.ref x, nameV], []⟩) Q E s := by
  have ne : cd.mro.isEmpty = false := by cases q : cd.mro with | nil => rw [q] at hb; cases hb | cons _ _ => rfl
  have sub : Looks (model prog w) s.heap (isInstance (.ref x) (.type "BaseException")) true := I.type.andThen (looks_mroIn X (by unfold mroIn; rw [hc, Option.bind_some, if_neg (by rw [ne]; decide), hb]))
  exact @check_slot (model prog w) _ _ s "BaseException.__getattribute__" "BaseException" "__getattribute__" (.ref x) [nameV] [] _ (by decide +kernel) (by decide +kernel) sub (F.args_bexc_ga (.ref x) nameV) hq
theorem exc_get {expr : Bool} {v : Value} {Q : Value → Shared → Prop} (X : K.In s.heap) (I : InstAt s.heap x ox C od) (hc : clsIn K C = some cd) (hb : cd.mro.contains (.type "BaseException") = true)
    (hga : findIn K (.ref C) "__getattribute__" = some (some (.builtin "BaseException.__getattribute__"))) (hgr : findIn K (.ref C) "__getattr__" = some none)
    (hf : findObj K C od name = some (.value v)) (hh : handedIn v = true) (h : Q v { s with toks := s.toks + 1 }) : wpAny (model prog w) A (getAttr (.ref x) name expr) Q E s := by
  have FB := F.attrBase_ValueError
  have f3 := FB.ga.bind (.ref x)
  have hx0 : (expr && onTheHeap (Value.builtin "BaseException.__getattribute__")) = false := by cases expr <;> rfl
  have hx2 : (Value.builtin "BaseException.__getattribute__" == Value.builtin "object.__getattribute__") = false := by decide +kernel
  have hx1 : (onTheHeap (Value.ref C) && Value.builtin "BaseException.__getattribute__" == Value.builtin "object.__getattribute__") = false := by rw [hx2]; rfl
  have L0 := I.type (M := model prog w)
  have L1 := looks_findIn (M := model prog w) X hga
  have L2 := looks_findIn (M := model prog w) X hgr
  have L3 := looks_find (M := model prog w) X I hf
  obtain ⟨hp, g, d, t, os⟩ := s
  unfold getAttr getAttrBy
  refine wpAny_bind (wpAny_mkText (wpAny_holding (wpAny_bind (L0.at (wpAny_bind (L1.at ?_))))))
  dsimp only
  rw [hx1, if_neg (by decide)]
  unfold getAttrByItsOwn hookBefore
  rw [if_pos (show onTheHeap (Value.ref C) = true from rfl)]
  refine wpAny_bind (L2.at ?_)
  unfold callGetattribute
  rw [hx0, if_neg (by decide)]
  unfold boundAndCalled
  rw [f3]
  refine wpAny_bind (wpAny_attempt (wpAny_holding (wpAny_bind (wpAny_pure (wpAny_call (codeAny_call_builtin FB.ga.plain F.entry_bexc_ga (exc_check_ga (s := ⟨hp, g, d, t + 1, os⟩) X I hc hb ?_)))))))
  refine wpAny_bind (wpAny_pure (wpAny_bind (wpAny_pure (wpAny_bind (L0.at (wpAny_bind (L3.at ?_)))))))
  refine wpAny_pure ?_
  show wpAny _ _ (handedOut v) _ _ _
  rw [handedOut_of hh]; exact wpAny_pure h
end
end PySem
namespace Pg
open PySem PySem.Spec PyProof.Rows L2
theorem Fun.okE {P : Program} {w : World} {K : PySem.W.Frag} {mg : Str → Option Value} {base : Heap} {x qual : Str} {st : Stmt} {f : Addr} {fd : FuncData} {N ps : List Str} {k : Nat} {sp : Sp} (F : Fun K x qual st f fd) (S : FnScope N ps (defScope st)) (len : ∀ vs H Q E, sp vs H Q E → vs.length = ps.length)
    (hbody : ∀ (cdv : Value) (A : Around) (outer : List Env) (s : Shared) (H : Hp) (vs : List V) (Q : VK) (E : XK), Room k (A.deeper (envOfC qual (defScope st) s.heap.objs.size f cdv)) → sp vs H Q E →
      ∃ t, PSs (cxOf (CXE P w) P w K mg base N qual (defScope st) f cdv A outer s H E) (defBody st) t ∧ t { nx := fun _ H' => Q .non H', rt := Q } (start N vs) H) : FnOk P w K mg base (CXE P w) (k + 1) f fd ps sp := by
  obtain ⟨oc, od, kV, doc, pm, an, cdv, ct, osl, rfl, lk, hcd⟩ := F.ex
  exact fn_of lk hcd S len fun A outer s H vs Q E hr hsp => hbody cdv A outer s H vs Q E hr hsp
end Pg
end
section
set_option Elab.async false
set_option linter.all false
set_option maxRecDepth 100000
set_option maxHeartbeats 4000000
namespace PySem
theorem overB_base : ∀ {l : List Value}, overB l = true → l.contains (.type "BaseException") = true
  | [], e => by cases e
  | .ref c :: r, e => by rw [List.contains_cons, overB_base (l := r) e, Bool.or_true]
  | .type n :: r, e => by
    have e' : (Value.type n :: r) = [.type "ValueError", .type "Exception", .type "BaseException", .type "object"] := beq_iff_eq.mp e
    rw [e']
    decide +kernel
  | .none :: r, e | .bool _ :: r, e | .int _ _ :: r, e | .float _ _ :: r, e | .str _ _ :: r, e | .builtin _ :: r, e => by simp [overB] at e
end PySem
namespace Pg
open PySem PySem.Spec PyProof.Rows L2
def tEFld (K : PySem.W.Frag) (ta : TE) (f : Str) : TE := fun σ H Q => ta σ H fun v H1 => ∃ x C g dx fs y, v = .ref x ∧ ECls K C g ∧ NoAttr K C f ∧ H1 x = some (ExcH x C dx) ∧ H1 dx = some (.xd fs) ∧ fs.lookup f = some y ∧ Q y H1
theorem pe_efld {X : Cx} {e : Expr} {f : Str} {pos : Pos} {ta : TE} (he : PE X e ta) (hb : attributeBase e f X.env (eval e X.env) = eval e X.env) : PE X (.Attribute e f pos) (tEFld X.K ta f) := by
  intro pins s σ H Q I h
  refine attr_of hb (thn (he pins s σ H _ I h) fun u s1 ⟨v, H1, I1, rv, x, C, g, dx, fs, y, ev, M, n, hx, hd, hl, q⟩ => ?_)
  subst ev
  obtain rfl : u = Value.ref x := rv
  obtain ⟨⟨vs, e1, z⟩, _, _⟩ := I1.hok x _ hx
  obtain ⟨mA, hn, hr⟩ := I1.hok dx _ hd
  obtain ⟨od, ho, hlk⟩ := lookIn_ns hn
  obtain ⟨cd, hc, hov⟩ := PySem.W.any_some M.ov
  rw [Bool.and_eq_true] at hov
  have r := hr f
  rw [hl] at r
  obtain ⟨u, hu, ru⟩ : ∃ u, mA f = some u ∧ RelV y u := by
    cases q : mA f with
    | none => rw [q] at r; exact absurd r (by first | exact id | simp [RelO])
    | some u => rw [q] at r; exact ⟨u, rfl, r⟩
  have J : PySem.W.InstAt s1.heap x { excO C dx with data := .fields vs } C (some od) := ⟨e1, rfl, rfl, ho⟩
  exact exc_get I1.kIn J hc (overB_base hov.1) M.ga M.gr (PySem.W.findObj_own (by unfold PySem.W.hasDictIn; rw [hc]; exact hov.2) n rfl (by rw [hlk, hu])) (handed_of ru) ⟨y, H1, I1.tok _, ru, q⟩
end Pg
end
section
set_option Elab.async false
set_option linter.all false
set_option maxRecDepth 100000
set_option maxHeartbeats 4000000
namespace PySem
open PySem.W PySem.Builtin PySem.Builtin.ObjectAttr
section
variable {prog : Program} {w : World} {A : Around} {E : Value → Shared → Prop} {s : Shared} {K : Frag} {x C : Addr} {ox od : Obj} {cd : ClassData}
theorem exc_class {Q : Option Value → Shared → Prop} (X : K.In s.heap) (I : InstAt s.heap x ox C (some od)) (hc : clsIn K C = some cd) (hb : cd.mro.contains (.type "BaseException") = true)
    (hga : findIn K (.ref C) "__getattribute__" = some (some (.builtin "BaseException.__getattribute__"))) (hgr : findIn K (.ref C) "__getattr__" = some none)
    (ha : findIn K (.ref C) "__class__" = some (some (.builtin "object.__class__"))) (hn : specialIn K (.builtin "object.__class__") "__get__" = some (some (.builtin "getset_descriptor.__get__"))) (htk : takesIn K (.builtin "object.__class__") = some true) (hm : mroIn K C (.type "object") = some true)
    (h : Q (some (.ref C)) { s with toks := s.toks + 1 }) : wpAny (model prog w) A (getAttr? (.ref x) "__class__") Q E s := by
  have hf : findObj K C (some od) "__class__" = some (.bind (.builtin "getset_descriptor.__get__") (.builtin "object.__class__")) := findObj_data (by rw [hc]; rfl) ha hn htk
  have FB := F.attrBase_ValueError
  have f3 := FB.ga.bind (.ref x)
  have hx0 : (false && onTheHeap (Value.builtin "BaseException.__getattribute__")) = false := rfl
  have hx2 : (Value.builtin "BaseException.__getattribute__" == Value.builtin "object.__getattribute__") = false := by decide +kernel
  have hx1 : (onTheHeap (Value.ref C) && Value.builtin "BaseException.__getattribute__" == Value.builtin "object.__getattribute__") = false := by rw [hx2]; rfl
  have L0 := I.type (M := model prog w)
  have L1 := looks_findIn (M := model prog w) X hga
  have L2 := looks_findIn (M := model prog w) X hgr
  have L3 := looks_find (M := model prog w) X I hf
  obtain ⟨hp, g, d, t, os⟩ := s
  unfold getAttr? getAttrBy? getAttrBy
  refine wpAny_bind (wpAny_mkText (wpAny_bind (wpAny_attempt (wpAny_holding (wpAny_bind (L0.at (wpAny_bind (L1.at ?_))))))))
  dsimp only
  rw [hx1, if_neg (by decide)]
  unfold getAttrByItsOwn hookBefore
  rw [if_pos (show onTheHeap (Value.ref C) = true from rfl)]
  refine wpAny_bind (L2.at ?_)
  unfold callGetattribute
  rw [hx0, if_neg (by decide)]
  unfold boundAndCalled
  rw [f3]
  refine wpAny_bind (wpAny_attempt (wpAny_holding (wpAny_bind (wpAny_pure (wpAny_call (codeAny_call_builtin FB.ga.plain F.entry_bexc_ga (exc_check_ga (s := ⟨hp, g, d, t + 1, os⟩) X I hc hb ?_)))))))
  refine wpAny_bind (wpAny_pure (wpAny_bind (wpAny_pure (wpAny_bind (L0.at (wpAny_bind (L3.at ?_)))))))
  show wpAny _ _ (bindTo _ _ _ _) _ _ _
  unfold bindTo
  refine wpAny_bind (wpAny_holding (wpAny_call (class_get (s := ⟨hp, g, d, t + 1, os⟩) (ox := ox) (od := some od) X I hm ?_)))
  refine wpAny_pure ?_
  show wpAny _ _ (handedOut _) _ _ _
  rw [handedOut_of rfl]
  exact wpAny_pure (wpAny_pure h)
theorem kitx_exc (hc : clsIn K C = some cd) (hb : cd.mro.contains (.type "BaseException") = true)
    (hga : findIn K (.ref C) "__getattribute__" = some (some (.builtin "BaseException.__getattribute__"))) (hgr : findIn K (.ref C) "__getattr__" = some none)
    (ha : findIn K (.ref C) "__class__" = some (some (.builtin "object.__class__"))) (hn : specialIn K (.builtin "object.__class__") "__get__" = some (some (.builtin "getset_descriptor.__get__"))) (htk : takesIn K (.builtin "object.__class__") = some true) (hm : mroIn K C (.type "object") = some true) :
    KitX K (.ref x) (.ref C) (fun h => InstAt h x ox C (some od)) where
  ty := fun _ _ _ I => I.type
  it := fun _ _ X _ => by
    have hcD := hc
    unfold clsIn at hcD
    split at hcD
    · rename_i c' d' cd' sl' ho
      intro A' Q' E' s' k q
      unfold isType loadHead
      exact wpAny_bind (wpAny_loadPart (k _ _ (X _ _ ho)) (wpAny_pure q))
    · cases hcD
  ne := fun h tp dd its n sl X htp => by
    have hcD := hc
    refine Bool.eq_false_iff.mpr fun q => ?_
    have e : C = tp := Value.ref.inj (beq_iff_eq.mp q)
    subst e
    unfold clsIn at hcD
    split at hcD
    · rename_i c' d' cd' sl' ho
      have z := (X _ _ ho).symm.trans htp
      cases z
    · cases hcD
  ca := fun X I k => exc_class X I hc hb hga hgr ha hn htk hm k
end
end PySem
end
section
set_option Elab.async false
set_option linter.all false
set_option maxRecDepth 100000
set_option maxHeartbeats 4000000
namespace Pg
open PySem PySem.Spec PyProof.Rows L2
structure EIs (K : PySem.W.Frag) (C : Addr) : Prop where
  ha : PySem.W.findIn K (.ref C) "__class__" = some (some (.builtin "object.__class__"))
  hn : PySem.W.specialIn K (.builtin "object.__class__") "__get__" = some (some (.builtin "getset_descriptor.__get__"))
  htk : PySem.W.takesIn K (.builtin "object.__class__") = some true
  hm : PySem.W.mroIn K C (.type "object") = some true
def ExcAt (K : PySem.W.Frag) (H : Hp) (x C : Addr) : Prop := ∃ g dx fs, ECls K C g ∧ EIs K C ∧ H x = some (ExcH x C dx) ∧ H dx = some (.xd fs)
section
variable {X : Cx} {pins : List (Addr × Obj)} {σ : L2.St} {H : Hp} {s : Shared}
theorem ExcAt.kit {x C : Addr} (I : L2.Inv X pins σ H s) (h : ExcAt X.K H x C) : ∃ ox od, PySem.W.InstAt s.heap x ox C (some od) ∧ PySem.W.KitX X.K (.ref x) (.ref C) (fun h => PySem.W.InstAt h x ox C (some od)) := by
  obtain ⟨g, dx, fs, M, E, hx, hd⟩ := h
  obtain ⟨⟨vs, e1, z⟩, _, _⟩ := I.hok x _ hx
  obtain ⟨mA, hn, hr⟩ := I.hok dx _ hd
  obtain ⟨od, ho, hlk⟩ := lookIn_ns hn
  obtain ⟨cd, hc, hov⟩ := PySem.W.any_some M.ov
  rw [Bool.and_eq_true] at hov
  exact ⟨_, od, ⟨e1, rfl, rfl, ho⟩, kitx_exc hc (overB_base hov.1) M.ga M.gr E.ha E.hn E.htk E.hm⟩
def rIsiE (K : PySem.W.Frag) : List V → Hp → VK → Prop := fun vs H Q => ∃ x C D b, vs = [.ref x, .ref D] ∧ ExcAt K H x C ∧ PySem.W.kitOne K (.ref C) (.ref D) = some b ∧ Q (.bl b) H
theorem call_isiE : CallR X (.builtin "isinstance") (rIsiE X.K) := by
  intro pins s σ H xs us Q I r h
  obtain ⟨x, C, D, b, rfl, hx, e, q⟩ := h
  obtain ⟨u, u2, rfl, ru, ru2⟩ := Vals.two r
  cases ru
  cases ru2
  obtain ⟨ox, od, J, Z⟩ := hx.kit I
  exact PySem.W.kia_one Z I.kIn J e (fun z => nomatch z) fun tk => ⟨.bl b, H, I.tok _, rfl, q⟩
def rIsiEB (K : PySem.W.Frag) : List V → Hp → VK → Prop := fun vs H Q => ∃ x C c b, vs = [.ref x, .ty c] ∧ ExcAt K H x C ∧ PySem.W.kitOne K (.ref C) (.type c) = some b ∧ Q (.bl b) H
theorem call_isiEB : CallR X (.builtin "isinstance") (rIsiEB X.K) := by
  intro pins s σ H xs us Q I r h
  obtain ⟨x, C, D, b, rfl, hx, e, q⟩ := h
  obtain ⟨u, u2, rfl, ru, ru2⟩ := Vals.two r
  cases ru
  cases ru2
  obtain ⟨ox, od, J, Z⟩ := hx.kit I
  exact PySem.W.kia_one Z I.kIn J e (fun z => nomatch z) fun tk => ⟨.bl b, H, I.tok _, rfl, q⟩
theorem vals_erefs : ∀ {cs : List Addr} {us : List Value}, Vals (cs.map V.ref) us → us = cs.map Value.ref
  | [], _, .nil => rfl
  | c :: cs, _, .cons r t => by cases r; rw [vals_erefs t]; rfl
def rIsiET (K : PySem.W.Frag) : List V → Hp → VK → Prop := fun vs H Q => ∃ (x C tp : Addr) (Ds : List Addr) (b : Bool), vs = [.ref x, .ref tp] ∧ ExcAt K H x C ∧ H tp = some (.tup (Ds.map V.ref)) ∧ PySem.W.kitAny K (.ref C) (Ds.map Value.ref) = some b ∧ Q (.bl b) H
theorem call_isiET : CallR X (.builtin "isinstance") (rIsiET X.K) := by
  intro pins s σ H xs us Q I r h
  obtain ⟨x, C, tp, Ds, b, rfl, hx, htp, e, q⟩ := h
  obtain ⟨u, u2, rfl, ru, ru2⟩ := Vals.two r
  cases ru
  cases ru2
  obtain ⟨ox, od, J, Z⟩ := hx.kit I
  obtain ⟨_, its, rv, ⟨o, h1, h2, n, h3⟩⟩ := (show ObjOk X.prog X.w H s.heap tp (.tup (Ds.map V.ref)) from I.hok tp _ htp)
  have ei := vals_erefs rv
  subst ei
  obtain ⟨oc, odd, oda, osl⟩ := o
  cases h2
  cases h3
  exact PySem.W.kia_tup Z I.kIn J h1 e (fun z => nomatch z) fun tk => ⟨.bl b, H, I.tok _, rfl, q⟩
end
end Pg
end
section
set_option Elab.async false
set_option linter.all false
set_option maxRecDepth 100000
set_option maxHeartbeats 4000000
namespace Pg
open PySem PySem.Spec PyProof.Rows L2
section
variable {prog : Program} {w : World} {K : PySem.W.Frag} {A : Around} {E : Value → Shared → Prop} {B C e : Addr} {nm q : Str} {N : Addr} {newId : String}
theorem excMatches_below {bs bm hdct sn sub ab col dd k0 k1 k2 k3 k5} {h : Heap} {g : Array GenState} {d : Drawn} {t : Nat} {os : OsState} {oe : Obj} {Q : Bool → Shared → Prop} (X : K.In h)
    (hB : h.get? B = some (excClassObj nm q B N bs bm hdct sn sub ab col dd k0 k1 k2 k3 k5 newId)) (he : h.get? e = some oe) (hcls : oe.cls = .ref C) (hbase : bm.contains (.type "BaseException") = true) (hm : PySem.W.mroIn K C (.ref B) = some true)
    (hq : Q true ⟨h, g, d, t, os⟩) : wpAny (model prog w) A (excMatches (.ref e) (.ref B)) Q E ⟨h, g, d, t, os⟩ := by
  have cB : (Value.ref B :: bm).contains (.type "BaseException") = true := by rw [List.contains_cons, hbase, Bool.or_true]
  have f := tc_notTuple
  have L := PySem.W.looks_mroIn (M := model prog w) X hm
  unfold excMatches
  repeat (first | (with_reducible refine wpAny_loadPart_at he ?_; rw [hcls]) | with_reducible refine wpAny_loadPart_at hB ?_ | (with_reducible refine wpAny_isSubtype_exc hB ?_; rw [cB]) | wp_step)
  refine L _ _ _ _ (fun _ _ z => z) ?_
  wp_walk
  exact hq
end
def sTryB (K : PySem.W.Frag) (B : Addr) (i : Nat) (Eh : L2.St → Hp → L2.St → XK) (tb : L2.St → Hp → TS) (ts : TS) : TS := fun D σ H => tb σ H D σ H ∧
  ∀ σ' x dx H', Eh σ H σ' (.ref x) (some dx) H' → (∃ C, H' x = some (ExcH x C dx) ∧ PySem.W.mroIn K C (.ref B) = some true) ∧ ts { nx := fun σ2 H2 => D.nx (σ2.set i none) H2, rt := D.rt, bk := fun σ2 H2 => D.bk (σ2.set i none) H2, ct := fun σ2 H2 => D.ct (σ2.set i none) H2 } (σ'.set i (some (.ref x))) H'
section
variable {X : Cx} {B : Addr} {body suite : List Stmt} {b0 : Stmt} {y n : Str} {np hpos pos : Pos} {i : Nat} {Eh : L2.St → Hp → L2.St → XK} {tb : L2.St → Hp → TS} {ts : TS}
theorem ps_tryB (M : excInF X.K B "ValueError.__new__" = true) (hg : Gl X y) (hm : X.mg y = some (.ref B)) (hN : X.N.Nodup) (hi : X.N[i]? = some n) (hk : X.env.kindOf n = some .local) (hs0 : X.env.scope.names.lookup n = some .local) (hx : Loc X.env.scope n)
    (hfr : X.stack = X.env :: X.outer) (hf : X.env.frame = some X.env.locals)
    (hb : ∀ σ H pins, PSs (onPn X (X.pn ++ pins) (XT X pins (Eh σ H))) body (tb σ H)) (hsu : ∀ pn e, PSs (markX X pn e) (b0 :: suite) ts) (hdb : (y == ("__debug__" : Str)) = false := by decide) :
    PS X (.Try body [.ExceptHandler (some (.Name y np)) (some n) (b0 :: suite) hpos] [] [] pos) (sTryB X.K B i Eh tb ts) := by
  intro pins s σ H D I ⟨hbd, hh⟩
  refine wpAny_Try_except (wpAny_mono (hb σ H pins [] s σ H D (toPn I _) hbd) (fun fl s1 q => ?_) fun e s1 q => ?_)
  · have q' := spPn q
    cases fl with
    | next => exact wpAny_execs_nil q'
    | _ => exact q'
  · obtain ⟨σ', H', x, C', dx, T, rfl, l, hxx, fp, J, hE⟩ := q
    have hl : s1.heap.FunFrames X.base (X.env :: X.outer) := hfr ▸ J.stack
    have hfs : X.A.frames = some (X.env :: X.outer) := hfr ▸ J.ok.frames
    obtain ⟨⟨C, hxC, hmro⟩, hts⟩ := hh σ' x dx H' hE
    obtain rfl : C' = C := by
      obtain ⟨⟨vs1, e1, _⟩, _, _⟩ := J.hok x _ hxx
      obtain ⟨⟨vs2, e2, _⟩, _, _⟩ := J.hok x _ hxC
      have z := congrArg Obj.cls (Option.some.inj (e1.symm.trans e2))
      exact Value.ref.inj z
    refine exc_note_next (base := X.base) (outer := X.outer) (L := X.env.locals) hfs hl hf l fun h2 T2 nT2 b2 l2 => ?_
    have J2 := Inv.noted J (by rw [hfr]; exact b2) hxx l2 fp
    have fp2 : FpOk X pins H' T2 := J.fpOk nT2 (J.hok.fresh nT2)
    refine exc_land (s := { s1 with heap := h2 }) (env := X.env) (outer := X.outer) l2 fun h3 b3 l3 => ?_
    have J3 := Inv.noted J2 (h' := h3) (T := T2) (by rw [hfr]; exact b3.mono fun b u e m => by simp at m ⊢; exact .inr m) hxx l3 fp2
    have Jm := toMark (e := .ref x) J3
    refine wpAny_handleBy_cons (codeAny_handlers_test ?_) (by intro q; cases q)
    refine ld_glob (X := markX X (X.pn ++ pins) (.ref x)) Jm hg hm ?_ hdb
    obtain ⟨nm, qn, N, bs, bm, hdct, sn, sub, ab, col, dd, k0, k1, k2, k3, k5, hC, T⟩ := excF_of J3.kIn M
    obtain ⟨vs, _, _, hx3, _⟩ := id l3
    refine excMatches_below J3.kIn hC hx3 rfl (T.hasType (by decide +kernel)) hmro (codeAny_handlers_suite_as ?_)
    refine exc_land (s := { s1 with heap := h3 }) (env := X.env) (outer := X.outer) l3 fun h4 b4 l4 => ?_
    have fp3 := fp2
    have J4 := Inv.noted J3 (h' := h4) (T := T2) (by rw [hfr]; exact b4.mono fun b u e m => by simp at m ⊢; exact .inr m) hxx l4 fp2
    refine store_ok (v := .ref x) J4 hN hi hx rfl (fun s5 J5 => ?_) (.inr hs0)
    have Jm5 := toMark (e := .ref x) J5
    refine wpAny_mono (hsu (X.pn ++ pins) (.ref x) [] s5 _ H' _ Jm5 hts) (fun fl s6 q => ?_) fun _ _ z => z.elim
    cases fl with
    | next =>
      obtain ⟨σ6, H6, I6, q6⟩ := q
      exact behind_ok (ofMark I.ok I6) hN hi hk hs0 hx fun s7 I7 => ⟨_, _, I7, q6⟩
    | brk =>
      obtain ⟨σ6, H6, I6, q6⟩ := q
      exact behind_ok (ofMark I.ok I6) hN hi hk hs0 hx fun s7 I7 => ⟨_, _, I7, q6⟩
    | cont =>
      obtain ⟨σ6, H6, I6, q6⟩ := q
      exact behind_ok (ofMark I.ok I6) hN hi hk hs0 hx fun s7 I7 => ⟨_, _, I7, q6⟩
    | ret u =>
      obtain ⟨v, σ6, H6, I6, r6, q6⟩ := q
      exact behind_ok (ofMark I.ok I6) hN hi hk hs0 hx fun s7 I7 => ⟨v, _, _, I7, r6, q6⟩
end
end Pg
end
section
set_option Elab.async false
set_option linter.all false
set_option maxRecDepth 100000
set_option maxHeartbeats 1000000
namespace Pg
open PySem PySem.Spec PyProof.Rows L2
def Root (h : Heap) (x : Addr) : Prop := ∃ (o : Obj) (vs : Array Value), h.get? x = some o ∧ o.data = .fields vs ∧ vs[2]? = some .none
section
variable {prog : Program} {w : World} {A : Around} {E : Value → Shared → Prop} {s : Shared} {x e : Addr}
end
end Pg
end
section
set_option Elab.async false
set_option linter.all false
set_option maxRecDepth 100000
set_option maxHeartbeats 4000000
namespace L2
open PySem PySem.Spec PyProof.Rows Pg
def HasX (x : Addr) (H : Hp) : Prop := ∃ C dx, H x = some (ExcH x C dx)
theorem HasX.ne {H : Hp} {x it : Addr} (h : HasX x H) (n : H it = none) : x ≠ it := by
  obtain ⟨C, dx, e⟩ := h
  intro z; rw [z, n] at e; cases e
theorem HasX.same {H H' : Hp} {x : Addr} (h : HasX x H) (s : Same H H') : HasX x H' := by
  obtain ⟨C, dx, e⟩ := h
  exact ⟨C, dx, s _ _ e⟩
structure RoomH (x : Addr) (k : Nat) (A : Around) : Prop where
  hd : A.handled = some (.ref x)
  dp : A.depth + 3 * k + 5 < recursionLimit
  un : A.units + 16 * k + 200 < cLine
  gd : A.guards = some []
theorem RoomH.depth {x : Addr} {k : Nat} {A : Around} (r : RoomH x k A) : A.depth < recursionLimit := by have := r.dp; omega
theorem RoomH.deeper {x : Addr} {k : Nat} {A : Around} (r : RoomH x (k + 1) A) (env : Env) : RoomH x k (A.deeper env) :=
  ⟨r.hd, by have := r.dp; show A.depth + 1 + 3 * k + 5 < _; omega, by have := r.un; show A.units + 3 + 16 * k + 200 < _; omega, r.gd⟩
structure FnH (P : Program) (w : World) (K : PySem.W.Frag) (mg : Str → Option Value) (base : Heap) (k : Nat) (f : Addr) (fd : FuncData) (ps : List Str) (sp : Sp) : Prop where
  len : ∀ vs H Q E, sp vs H Q E → vs.length = ps.length
  run : ∀ (x : Addr) (A : Around) (outer : List Env) (s : Shared) (H : Hp) (args : Args) (us : List Value) (vs : List V) (Q : VK) (E : XK), RoomH x k A → HasX x H → Env0 P w K mg base A outer s H → BindsTo s fd args (ps.zip us) → Vals vs us → sp vs H Q E →
    codeAny (model P w) A (.call (.ref f) args) (CR CX0 outer P w H s Q E) s
def ItlH (K : PySem.W.Frag) (x a : Addr) : It := ⟨(Itl K a).go, (Itl K a).yld, fun i H => (Itl K a).stop i H ∧ HasX x H⟩
def iListH (K : PySem.W.Frag) (xh : Addr) (tl : TE) : TI := fun σ H R => tl σ H fun x H1 => ∃ a, x = .ref a ∧ (∃ xs, SqL K H1 a xs) ∧ R (ItlH K xh a) H1
def gTupH (K : PySem.W.Frag) (xh : Addr) (n : Nat) (t : TGs) : TG := fun v σ H Q => HasX xh H ∧ gTup K n t v σ H Q
structure TurnH (xh : Addr) (P : Program) (w : World) (K : PySem.W.Frag) (tg : Expr) (J : It) (fp : List Addr) (it : Addr) (tn : Nat → Heap → Prop) : Prop where
  mem : it ∈ fp
  obj : ∀ i h, tn i h → ∀ b ∈ fp, ∃ o, h.get? b = some o ∧ ∀ v, o.data ≠ .cell v
  keep : ∀ i h h', tn i h → (∀ b ∈ fp, ∀ o, h.get? b = some o → h'.get? b = some o) → tn i h'
  item : ∀ (X : Cx), X.prog = P → X.w = w → X.K = K → X.A.handled = some (.ref xh) → ∀ (i : Nat) (pins : List (Addr × Obj)) (s : Shared) (σ : St) (H : Hp) (E : Value → Shared → Prop), Inv X pins σ H s → (∀ b ∈ fp, FpOk X pins H b) → tn i s.heap → J.go i H →
    wpAny (model P w) X.A (pyNext (.ref it)) (fun r s1 => ∃ u, r = some u ∧
      wpAny (model P w) X.A (letOwnedTupleGo tg (.ref it) u) (fun _ s2 => ∃ x H', Inv X pins σ H' s2 ∧ RelV x u ∧ J.yld i H x H' ∧ tn (i + 1) s2.heap ∧ ∀ b ∈ fp, H' b = none) E s1) E s
  done : ∀ (X : Cx), X.prog = P → X.w = w → X.K = K → X.A.handled = some (.ref xh) → ∀ (i : Nat) (pins : List (Addr × Obj)) (s : Shared) (σ : St) (H : Hp) (E : Value → Shared → Prop), Inv X pins σ H s → (∀ b ∈ fp, FpOk X pins H b) → tn i s.heap → J.stop i H →
    wpAny (model P w) X.A (pyNext (.ref it)) (fun r s1 => r = none ∧ Inv X pins σ H s1) E s
  self : ∀ (A : Around) (i : Nat) (s : Shared) (Q : Value → Shared → Prop) (E : Value → Shared → Prop), tn i s.heap → Q (.ref it) s → wpAny (model P w) A (pyIter (.ref it)) Q E s
def PIEH (xh : Addr) (X : Cx) (pins : List (Addr × Obj)) (σ : St) (tg : Expr) (R : It → Hp → Prop) (itv : Value) (s2 : Shared) : Prop :=
  ∃ (it : Addr) (fp : List Addr) (tn : Nat → Heap → Prop) (J : It) (H' : Hp), itv = .ref it ∧ Inv X pins σ H' s2 ∧ TurnH xh X.prog X.w X.K tg J fp it tn ∧ tn 0 s2.heap ∧ (∀ b ∈ fp, FpOk X pins H' b) ∧ R J H'
def PIH (xh : Addr) (X : Cx) (tg iter : Expr) (wi : TI) : Prop :=
  ∀ (pins : List (Addr × Obj)) (s : Shared) (σ : St) (H : Hp) (R : It → Hp → Prop), Inv X pins σ H s → wi σ H R →
    wpAny (model X.prog X.w) X.A (eval iter X.env) (fun v s1 => wpAny (model X.prog X.w) X.A (pyIter v) (PIEH xh X pins σ tg R) X.xe s1) X.xe s
def cxOfH (CX : CXT) (P : Program) (w : World) (K : PySem.W.Frag) (mg : Str → Option Value) (base : Heap) (N : List Str) (qual : Str) (scope : Scope) (f : Addr) (cd : Value) (A : Around) (outer : List Env) (s : Shared) (H : Hp) (E : XK) : Cx where
  prog := P
  w := w
  K := K
  mg := mg
  base := base
  A := A.deeper (envOfC qual scope s.heap.objs.size f cd)
  N := N
  s_0 := s
  H_0 := H
  env := envOfC qual scope s.heap.objs.size f cd
  outer := outer
  stack := envOfC qual scope s.heap.objs.size f cd :: outer
  ex := []
  calm := false
  fn := fun _ => true
  pn := []
  xe := fun e s' => wpAny (model P w) (A.deeper (envOfC qual scope s.heap.objs.size f cd)) (leaving (envOfC qual scope s.heap.objs.size f cd) e) (fun _ s'' => CX outer H s E e s'') (fun e' s'' => CX outer H s E e' s'') s'
section
variable {P : Program} {w : World} {K : PySem.W.Frag} {mg : Str → Option Value} {base : Heap}
end
end L2
end
section
set_option Elab.async false
set_option linter.all false
set_option maxRecDepth 100000
set_option maxHeartbeats 4000000
namespace Pg
open PySem PySem.Spec PyProof.Rows L2
section
variable {X : Cx} {k : Nat} {f xh : Addr} {fd : FuncData} {ps : List Str} {sp : Sp} {dvs : List V} {ds : List Value} {x : Str} {p pos : Pos} {e : Expr} {es : List Expr} {t : TA}
def tCallH (xh : Addr) (sp : Sp) (dvs : List V) (t : TA) : TE := fun σ H Q => t σ H fun vs H1 => HasX xh H1 ∧ sp (vs ++ dvs) H1 Q E0
end
def sTryBX (K : PySem.W.Frag) (B : Addr) (i : Nat) (Eh : L2.St → Hp → L2.St → XK) (tb : L2.St → Hp → TS) (ts : Addr → TS) : TS := fun D σ H => tb σ H D σ H ∧
  ∀ σ' x dx H', Eh σ H σ' (.ref x) (some dx) H' → (∃ C, H' x = some (ExcH x C dx) ∧ PySem.W.mroIn K C (.ref B) = some true) ∧ ts x { nx := fun σ2 H2 => D.nx (σ2.set i none) H2, rt := D.rt, bk := fun σ2 H2 => D.bk (σ2.set i none) H2, ct := fun σ2 H2 => D.ct (σ2.set i none) H2 } (σ'.set i (some (.ref x))) H'
section
variable {X : Cx} {B : Addr} {body suite : List Stmt} {b0 : Stmt} {y n : Str} {np hpos pos : Pos} {i : Nat} {Eh : L2.St → Hp → L2.St → XK} {tb : L2.St → Hp → TS} {ts : Addr → TS}
end
end Pg
end
section
set_option Elab.async false
set_option linter.all false
set_option maxRecDepth 100000
set_option maxHeartbeats 4000000
namespace Pg
open PySem PySem.Spec PyProof.Rows L2
section
variable {prog : Program} {w : World} {K : Type} [DecidableEq K] {knd : HeapKind prog w K} {A : Around} {E : Value → Shared → Prop} {s : Shared} {d a : Addr} {k : K} {xs : List (K × Addr × Value)}
def outH (xs : List (K × Addr × Value)) (k : K) : List (K × Addr × Value) := xs.filter fun x => decide (x.1 ≠ k)
end
theorem KT.drop {H : Hp} {kvs : List (List Key × V)} {xs : List (List Key × Addr × Value)} (r : KT H kvs xs) (k : List Key) : KT H (dropK kvs k) (outH xs k) := by
  unfold dropK outH
  induction r with
  | nil => exact .nil
  | @cons p q ps qs h t ih =>
    obtain ⟨h1, h2, h3⟩ := h
    rw [List.filter_cons, List.filter_cons]
    by_cases e : p.1 = k
    · have a : ¬ decide (p.1 ≠ k) = true := by simp [e]
      have b : ¬ decide (q.1 ≠ k) = true := by simp [h1.symm.trans e]
      rw [if_neg a, if_neg b]; exact ih
    · have a : decide (p.1 ≠ k) = true := by simp [e]
      have b : decide (q.1 ≠ k) = true := by simp; exact fun z => e (h1.trans z)
      rw [if_pos a, if_pos b]
      exact .cons ⟨h1, h2, h3⟩ ih
section
variable {X : Cx} {pins : List (Addr × Obj)} {σ : L2.St} {H : Hp} {s : Shared} {a b : Addr} {kvs : List (List Key × V)} {k : List Key} {A : Around} {E : Value → Shared → Prop}
end
section
variable {X : Cx}
def KeysAt (H : Hp) (qs : List Addr) (kvs : List (List Key × V)) : Prop := Paired (fun q (kv : List Key × V) => H q = some (.tup (kv.1.map kV))) qs kvs
def rListT : List V → Hp → VK → Prop := fun xs H Q => ∃ a kvs, xs = [V.ref a] ∧ H a = some (.dT kvs) ∧ ∀ (l : Addr) (qs : List Addr), H l = none → KeysAt H qs kvs → Q (.ref l) (upd H l (.lst (qs.map V.ref)))
def rLenT : List V → Hp → VK → Prop := fun xs H Q => ∃ a kvs, xs = [V.ref a] ∧ H a = some (.dT kvs) ∧ Q (.int kvs.length) H
variable {o i e : Expr} {pos tpos apos cpos : Pos} {td ty : TE}
def sDDelT (td ty : TE) : TS := fun D σ H => td σ H fun x H1 => ty σ H1 fun y H2 => ∃ a b kvs k, x = .ref a ∧ y = .ref b ∧ H2 a = some (.dT kvs) ∧ H2 b = some (.tup (k.map kV)) ∧ (valV kvs k).isSome = true ∧ D.nx σ (upd H2 a (.dT (dropK kvs k)))
def tDPopT (td ty : TE) : TE := fun σ H Q => td σ H fun x H1 => ∃ a, x = .ref a ∧ IsD H1 a ∧ ty σ H1 fun y H2 => ∃ b kvs k v, H2 a = some (.dT kvs) ∧ y = .ref b ∧ H2 b = some (.tup (k.map kV)) ∧ valV kvs k = some v ∧ Q v (upd H2 a (.dT (dropK kvs k)))
end
end Pg
end
section
set_option Elab.async false
set_option linter.all false
set_option maxRecDepth 100000
set_option maxHeartbeats 4000000
namespace Pg
open PySem PySem.Spec PyProof.Rows L2 PySem.W
section
variable {prog : Program} {w : World} {A : Around} {E : Value → Shared → Prop} {s : Shared} {R : Result → Shared → Prop} {g : Heap} {l I S : Addr} {its : List Value} {bt : Nat → Nat → Bool}
def CmpK (prog : Program) (w : World) (A : Around) (s : Shared) (g : Heap) (its : List Value) (bt : Nat → Nat → Bool) : Prop :=
  ∀ (i j : Nat) (vi vj : Value) (h : Heap) (tk : Nat) (Q E : Value → Shared → Prop), its[i]? = some vi → its[j]? = some vj → Kept g h → Q (.bool (bt i j)) { s with heap := h, toks := tk } → wpAny (model prog w) A.in1 (richCompare .Lt vi vj) Q E { s with heap := h, toks := tk }
end
section
variable {X : Cx}
def rMinT (K : PySem.W.Frag) : List V → Hp → VK → Prop := fun vs H Q => ∃ (a : Addr) (ts : List Addr) (f : Addr → List Int), vs = [V.ref a] ∧ SqL K H a (ts.map V.ref) ∧ 0 < ts.length ∧ (∀ t ∈ ts, H t = some (.tup ((f t).map V.int))) ∧
  ∀ t ∈ ts, (∀ t' ∈ ts, HT.lexLt (f t') (f t) = false) → Q (.ref t) H
end
end Pg
end
section
set_option Elab.async false
set_option linter.all false
set_option maxRecDepth 100000
set_option maxHeartbeats 4000000
namespace Pg
open PySem PySem.Spec PyProof.Rows L2
section
variable {X : Cx}
end
end Pg
end
section
set_option Elab.async false
set_option linter.all false
set_option maxRecDepth 100000
set_option maxHeartbeats 4000000
namespace Pg
open PySem PySem.Spec PyProof.Rows L2
inductive Pick {α : Type} : List α → α → List α → Prop
  | head {x : α} {L : List α} : Pick (x :: L) x L
  | tail {x y : α} {L L' : List α} : Pick L x L' → Pick (y :: L) x (y :: L')
inductive Re {α : Type} : List α → List α → Prop
  | all {L : List α} : Re L L
  | none {L : List α} : Re L []
  | step {x : α} {L R L' : List α} : Pick L x R → Re R L' → Re L (x :: L')
theorem Pick.perm {α : Type} {x : α} {L R : List α} (h : Pick L x R) : L.Perm (x :: R) := by
  induction h with
  | head => exact List.Perm.refl _
  | tail _ ih => exact (ih.cons _).trans (List.Perm.swap _ _ _)
theorem Re.to {α : Type} {L L' : List α} (h : Re L L') : ∃ M, L.Perm M ∧ L'.Sublist M := by
  induction h with
  | all => exact ⟨_, List.Perm.refl _, List.Sublist.refl _⟩
  | none => exact ⟨_, List.Perm.refl _, List.nil_sublist _⟩
  | step p _ ih =>
    obtain ⟨M, h1, h2⟩ := ih
    exact ⟨_ :: M, p.perm.trans (h1.cons _), h2.cons_cons _⟩
theorem Tr.re {J : Hp → Prop} {O S : List Addr} {H0 H : Hp} {L L' : List Cell} (t : Tr J O S H0 H L) (h : Re L L') : Tr J O S H0 H L' := by
  obtain ⟨M, h1, h2⟩ := h.to
  exact (t.perm h1).sub h2
end Pg
end
section
set_option Elab.async false
set_option linter.all false
set_option maxRecDepth 100000
set_option maxHeartbeats 4000000
namespace L2
open PySem PySem.Spec PyProof.Rows L2
variable {X : Cx} {pos : Pos}
def tPar3 (i j k : Nat) (ta : TA) : TS := fun D σ H => ta σ H fun vs H1 => ∃ v w z, vs = [v, w, z] ∧ D.nx (((σ.set i (some v)).set j (some w)).set k (some z)) H1
end L2
end
section
set_option Elab.async false
set_option linter.all false
set_option maxRecDepth 100000
set_option maxHeartbeats 4000000
namespace Pg
open PySem PySem.Spec PyProof.Rows L2
theorem rd_augS {σ : L2.St} {H : Hp} {D : Ends} {to ti te : TE} {tget : V → V → Hp → VK → Prop} {tip : TIp} {tset : TSet} (q : to σ H fun o H1 => ti σ H1 fun i H2 => tget o i H2 fun x H3 => te σ H3 fun y H4 => tip x y H4 fun z H5 => tset o i z H5 fun H6 => D.nx σ H6) : tAugS to ti te tget tip tset D σ H := q
theorem rd_aug {σ : L2.St} {H : Hp} {D : Ends} {i : Nat} {te : TE} {ti : TIp} {x : V} (h : σ[i]? = some (some x)) (q : te σ H fun y H1 => ti x y H1 fun z H2 => D.nx (σ.set i (some z)) H2) : tAug i te ti D σ H := ⟨x, h, q⟩
theorem rd_par {σ : L2.St} {H : Hp} {D : Ends} {i j : Nat} {ta : TA} (q : ta σ H fun vs H1 => ∃ v w, vs = [v, w] ∧ D.nx ((σ.set i (some v)).set j (some w)) H1) : tPar i j ta D σ H := q
theorem rd_par3 {σ : L2.St} {H : Hp} {D : Ends} {i j k : Nat} {ta : TA} (q : ta σ H fun vs H1 => ∃ v w z, vs = [v, w, z] ∧ D.nx (((σ.set i (some v)).set j (some w)).set k (some z)) H1) : tPar3 i j k ta D σ H := q
theorem rd_eqInt {i j : Int} {H : Hp} {Q : VK} (q : Q (.bl (decide (i = j))) H) : rEq (.int i) (.int j) H Q := by
  refine ⟨rfl, ?_⟩
  have e : decide (V.int i = V.int j) = decide (i = j) := by
    by_cases h : i = j
    · subst h; simp
    · rw [decide_eq_false h, decide_eq_false]
      intro z; cases z; exact h rfl
  rw [e]; exact q
theorem rd_neInt {i j : Int} {H : Hp} {Q : VK} (q : Q (.bl (!decide (i = j))) H) : rNe (.int i) (.int j) H Q := by
  refine ⟨rfl, ?_⟩
  have e : decide (V.int i = V.int j) = decide (i = j) := by
    by_cases h : i = j
    · subst h; simp
    · rw [decide_eq_false h, decide_eq_false]
      intro z; cases z; exact h rfl
  rw [e]; exact q
theorem rd_ip {f : Int → Int → Int} {i j : Int} {H : Hp} {Q : VK} (q : Q (.int (f i j)) H) : ipI f (.int i) (.int j) H Q := ⟨i, j, rfl, rfl, q⟩
end Pg
namespace Pg
open PySem PySem.Spec PyProof.Rows L2
end Pg
namespace Pg
open PySem PySem.Spec PyProof.Rows L2
end Pg
namespace Pg
open PySem PySem.Spec PyProof.Rows L2
end Pg
end
section
set_option Elab.async false
set_option linter.all false
set_option maxRecDepth 100000
set_option maxHeartbeats 4000000
namespace Pg
open PySem PySem.Spec PyProof.Rows L2
def bagK (g : Addr) (left turn fold : Int) : List (Key × V) := [(.inr "great", .ref g), (.inr "left", .int left), (.inr "turn", .int turn), (.inr "fold", .int fold)]
def BagAt (H : Hp) (bg g : Addr) (c : Int) : Prop := ∃ (gs : List Int) (l t f : Int), H bg = some (.dK (bagK g l t f)) ∧ H g = some (.lst (gs.map V.int)) ∧ 0 ≤ f ∧ f < 2305843009213693951 ∧ 0 ≤ t ∧ t ≤ c
theorem bag_loc {bg g : Addr} {c : Int} (H1 H2 : Hp) (h : ∀ b ∈ [bg, g], H2 b = H1 b) (d : BagAt H1 bg g c) : BagAt H2 bg g c := by
  obtain ⟨gs, l, t, f, h1, h2, h3⟩ := d
  exact ⟨gs, l, t, f, by rw [h bg (by simp)]; exact h1, by rw [h g (by simp)]; exact h2, h3⟩
theorem bag_od {bg g : Addr} {c : Int} {H : Hp} (d : BagAt H bg g c) : ∀ b ∈ [bg, g], H b ≠ none := by
  obtain ⟨gs, l, t, f, h1, h2, h3⟩ := d
  intro b hb
  simp at hb
  rcases hb with rfl | rfl
  · rw [h1]; simp
  · rw [h2]; simp
abbrev TC (bg g : Addr) (c : Int) (S : List Addr) (H0 H : Hp) (L : List Cell) : Prop := Tr (fun H => BagAt H bg g c) [bg, g] S H0 H L
theorem TC.start {bg g : Addr} {c : Int} {H : Hp} (d : BagAt H bg g c) : TC bg g c [] H H [] := ⟨Fr.refl, d, fun H1 H2 => bag_loc H1 H2, bag_od d, by simp, by simp, by simp, by simp⟩
theorem TC.step {bg g : Addr} {c c' : Int} {S : List Addr} {H0 H H' : Hp} {L : List Cell} (t : TC bg g c S H0 H L) (d : BagAt H' bg g c') (f : Fr [bg, g] H H') : TC bg g c' S H0 H' L :=
  Tr.step t f d (fun H1 H2 => bag_loc H1 H2) (bag_od d)
theorem TC.up {bg g : Addr} {c c' : Int} {S : List Addr} {H0 H : Hp} {L : List Cell} (t : TC bg g c S H0 H L) (h : c ≤ c') : TC bg g c' S H0 H L := TC.step t (by
  obtain ⟨gs, l, t, f, h1, h2, h3, h4, h5, h6⟩ := t.j
  exact ⟨gs, l, t, f, h1, h2, h3, h4, h5, by omega⟩) Fr.refl
def spDrawC : Sp := fun vs H Q _ => ∃ (bg g : Addr) (c many : Int), vs = [.ref bg, .int many] ∧ BagAt H bg g c ∧ 0 < many ∧ many < 18446744073709551616 ∧ c ≤ 1000000 ∧
  ∀ (r : Int) (H' : Hp), 0 ≤ r → r < many → BagAt H' bg g (c + 1) → Fr [bg, g] H H' → Q (.int r) H'
def spBagC (K : PySem.W.Frag) : Sp := fun vs H Q _ => ∃ (s : Addr) (ns : List Int), vs = [.ref s] ∧ SqL K H s (ns.map V.int) ∧ ns.length ≤ 63 ∧
  ∀ (bg g : Addr) (H' : Hp), H bg = none → H g = none → BagAt H' bg g 0 → Same H H' → Q (.ref bg) H'
theorem upd_upd {H : Hp} {p : Addr} {o o' : HO} : upd (upd H p o) p o' = upd H p o' := by
  funext b
  unfold upd
  by_cases h : b = p <;> simp [h]
end Pg
end
section
set_option Elab.async false
set_option linter.all false
set_option maxRecDepth 100000
set_option maxHeartbeats 4000000
namespace Pg
open PySem PySem.Spec PyProof.Rows L2
def Least (hs fs : List Int) (i : Nat) : Prop := i < hs.length ∧ 0 < fs.getD i 0 ∧ ∀ j, j < hs.length → 0 < fs.getD j 0 → hs.getD i 0 < hs.getD j 0 ∨ (hs.getD i 0 = hs.getD j 0 ∧ i ≤ j)
theorem Least.uniq {hs fs : List Int} {i j : Nat} (h : Least hs fs i) (h' : Least hs fs j) : i = j := by
  have h1 := h.2.2 j h'.1 h'.2.1
  have h2 := h'.2.2 i h.1 h.2.1
  omega
noncomputable def leastC (hs fs : List Int) : Nat := by
  classical
  exact if h : ∃ i, Least hs fs i then h.choose else 0
theorem leastC_of {hs fs : List Int} {i : Nat} (h : Least hs fs i) : leastC hs fs = i := by
  unfold leastC
  rw [dif_pos ⟨i, h⟩]
  exact (Exists.choose_spec (⟨i, h⟩ : ∃ i, Least hs fs i)).uniq h
noncomputable def stepC (p : List Int × List Int) : List Int × List Int := (p.1.set (leastC p.1 p.2) (p.1.getD (leastC p.1 p.2) 0 + 1), p.2.set (leastC p.1 p.2) (p.2.getD (leastC p.1 p.2) 0 - 1))
noncomputable def stC (hs fs : List Int) : Nat → List Int × List Int
  | 0 => (hs, fs)
  | n + 1 => stepC (stC hs fs n)
noncomputable def toldC (hs fs : List Int) (n : Nat) : List Int := (List.range n).map fun k => ((leastC (stC hs fs k).1 (stC hs fs k).2 : Nat) : Int)
theorem sum_set : ∀ (l : List Int) (i : Nat) (y : Int), i < l.length → (l.set i y).sum = l.sum - l.getD i 0 + y
  | x :: r, 0, y, _ => by simp; omega
  | x :: r, i + 1, y, h => by
    have := sum_set r i y (by simpa using h)
    simp [List.getD_cons_succ] at this ⊢
    omega
structure ColOk (hs fs : List Int) (n : Nat) : Prop where
  lh : hs.length = n
  lf : fs.length = n
  ph : ∀ x ∈ hs, 0 ≤ x
  pf : ∀ x ∈ fs, 0 ≤ x
theorem getD_nn {l : List Int} (h : ∀ x ∈ l, 0 ≤ x) (i : Nat) : 0 ≤ l.getD i 0 := by
  rw [List.getD_eq_getElem?_getD]
  cases e : l[i]? with
  | none => simp
  | some x => exact h x (List.mem_of_getElem? e)
theorem pos_of_sum : ∀ {l : List Int}, (∀ x ∈ l, 0 ≤ x) → 0 < l.sum → ∃ j, j < l.length ∧ 0 < l.getD j 0
  | [], _, h => by simp at h
  | x :: r, hp, h => by
    by_cases hx : 0 < x
    · exact ⟨0, by simp, by simpa using hx⟩
    · obtain ⟨j, h1, h2⟩ := pos_of_sum (l := r) (fun y hy => hp y (by simp [hy])) (by simp at h; omega)
      exact ⟨j + 1, by simp; omega, by simpa using h2⟩
theorem least_ex {hs fs : List Int} : ∀ n, n ≤ hs.length → (∃ j, j < n ∧ 0 < fs.getD j 0) → ∃ i, i < n ∧ 0 < fs.getD i 0 ∧ ∀ j, j < n → 0 < fs.getD j 0 → hs.getD i 0 < hs.getD j 0 ∨ (hs.getD i 0 = hs.getD j 0 ∧ i ≤ j)
  | 0, _, ⟨j, h, _⟩ => by omega
  | n + 1, hn, ⟨j, h1, h2⟩ => by
    by_cases hj : ∃ j, j < n ∧ 0 < fs.getD j 0
    · obtain ⟨i, a, b, c⟩ := least_ex (hs := hs) (fs := fs) n (by omega) hj
      by_cases hb : 0 < fs.getD n 0 ∧ hs.getD n 0 < hs.getD i 0
      · refine ⟨n, by omega, hb.1, fun k hk hf => ?_⟩
        by_cases e : k = n
        · subst e; omega
        · have := c k (by omega) hf; omega
      · refine ⟨i, by omega, b, fun k hk hf => ?_⟩
        by_cases e : k = n
        · subst e; omega
        · exact c k (by omega) hf
    · have e : j = n := by
        by_cases z : j = n
        · exact z
        · exact absurd ⟨j, by omega, h2⟩ hj
      subst e
      refine ⟨j, by omega, h2, fun k hk hf => ?_⟩
      by_cases e : k = j
      · subst e; omega
      · exact absurd ⟨k, by omega, hf⟩ hj
theorem ColOk.least {hs fs : List Int} {n : Nat} (h : ColOk hs fs n) (hp : 0 < fs.sum) : Least hs fs (leastC hs fs) := by
  obtain ⟨j, h1, h2⟩ := pos_of_sum h.pf hp
  obtain ⟨i, a, b, c⟩ := least_ex (hs := hs) (fs := fs) hs.length (Nat.le_refl _) ⟨j, by rw [h.lh]; rw [h.lf] at h1; exact h1, h2⟩
  have : Least hs fs i := ⟨a, b, c⟩
  rw [leastC_of this]
  exact this
theorem mem_set' {l : List Int} {i : Nat} {y x : Int} (h : x ∈ l.set i y) : x ∈ l ∨ x = y := List.mem_or_eq_of_mem_set h
theorem ColOk.step {hs fs : List Int} {n : Nat} (h : ColOk hs fs n) (hp : 0 < fs.sum) : ColOk (stepC (hs, fs)).1 (stepC (hs, fs)).2 n ∧ (stepC (hs, fs)).2.sum = fs.sum - 1 := by
  have L := h.least hp
  unfold stepC
  refine ⟨⟨by simp [h.lh], by simp [h.lf], fun x hx => ?_, fun x hx => ?_⟩, ?_⟩
  · rcases mem_set' hx with z | z
    · exact h.ph x z
    · have := getD_nn h.ph (leastC hs fs); simp at z this ⊢; omega
  · rcases mem_set' hx with z | z
    · exact h.pf x z
    · have := L.2.1; simp at z this ⊢; omega
  · rw [sum_set _ _ _ (by have := L.1; rw [h.lf]; rw [h.lh] at this; exact this)]
    simp; omega
theorem ColOk.st {hs fs : List Int} {n : Nat} (h : ColOk hs fs n) : ∀ k : Nat, (k : Int) ≤ fs.sum → ColOk (stC hs fs k).1 (stC hs fs k).2 n ∧ (stC hs fs k).2.sum = fs.sum - k
  | 0, _ => ⟨h, by simp [stC]⟩
  | k + 1, hk => by
    obtain ⟨a, b⟩ := ColOk.st h k (by omega)
    obtain ⟨c, d⟩ := a.step (by omega)
    refine ⟨c, ?_⟩
    show (stepC (stC hs fs k)).2.sum = _
    rw [show stC hs fs k = ((stC hs fs k).1, (stC hs fs k).2) from rfl, d, b]
    push_cast
    omega
def vI : V → Int
  | .int i => i
  | _ => 0
def tupInts (H : Hp) (t : Addr) : List Int := match H t with
  | some (.tup xs) => xs.map vI
  | _ => []
def spLeast : Sp := fun vs H Q _ => ∃ (h l : Addr) (hs fs : List Int) (n : Nat), vs = [.ref h, .ref l] ∧ H h = some (.lst (hs.map V.int)) ∧ H l = some (.lst (fs.map V.int)) ∧ ColOk hs fs n ∧ n ≤ 100 ∧ 0 < fs.sum ∧
  ∀ H', Same H H' → Q (.int (leastC hs fs : Nat)) H'
def spTakeC : Sp := fun vs H Q _ => ∃ (h l : Addr) (hs fs : List Int) (n : Nat) (m : Nat), vs = [.ref h, .ref l, .int (m : Nat)] ∧ H h = some (.lst (hs.map V.int)) ∧ H l = some (.lst (fs.map V.int)) ∧ ColOk hs fs n ∧ 1 ≤ n ∧ n ≤ 100 ∧ (m : Int) ≤ fs.sum ∧ m ≤ 1000 ∧
  ∀ (r : Addr) (H' : Hp), New H H' [(r, .lst ((toldC hs fs m).map V.int))] → Same H H' → Q (.ref r) H'
end Pg
namespace Pg
open PySem PySem.Spec PyProof.Rows L2
def spChkT : Sp := fun vs H Q _ => ∃ (h l : Addr) (hs fs : List Int) (m : Nat), vs = [.ref h, .ref l, .int (m : Nat)] ∧ H h = some (.lst (hs.map V.int)) ∧ H l = some (.lst (fs.map V.int)) ∧ hs.length = fs.length ∧ 1 ≤ hs.length ∧ (m : Int) ≤ fs.sum ∧ Q .non H
end Pg
namespace Pg
open PySem PySem.Spec PyProof.Rows L2
def spCols : Sp := fun vs H Q _ => ∃ (bg g : Addr) (c : Int), vs = [.ref bg] ∧ BagAt H bg g c ∧ c ≤ 900000 ∧
  ∀ (tp h l : Addr) (hs fs : List Int) (n m : Nat) (H' : Hp), ColOk hs fs n → 1 ≤ n → n ≤ 8 → (m : Int) ≤ fs.sum → hs.sum + fs.sum ≤ 64 → BagAt H' bg g (c + 40) → Fr [bg, g] H H' → New H H' [(tp, .tup [.ref h, .ref l, .int (m : Nat)]), (h, .lst (hs.map V.int)), (l, .lst (fs.map V.int))] → Q (.ref tp) H'
theorem sum_nn {l : List Int} (h : ∀ x ∈ l, 0 ≤ x) : 0 ≤ l.sum := by
  induction l with
  | nil => simp
  | cons x r ih => simp; have := h x (by simp); have := ih fun y hy => h y (by simp [hy]); omega
end Pg
end
section
set_option Elab.async false
set_option linter.all false
set_option maxRecDepth 100000
set_option maxHeartbeats 4000000
namespace Pg
open PySem PySem.Spec PyProof.Rows L2
def g321 {α : Type} : List α → List α → List α
  | [], [x, y, z] => [z, y, x]
  | _, _ => []
def g231 {α : Type} : List α → List α → List α
  | [], [x, y, z] => [y, z, x]
  | _, _ => []
theorem mem_le_sum : ∀ {l : List Int}, (∀ x ∈ l, 0 ≤ x) → ∀ x ∈ l, x ≤ l.sum
  | y :: r, h, x, hx => by
    have h0 := sum_nn (l := r) fun z hz => h z (by simp [hz])
    have hy := h y (by simp)
    rcases List.mem_cons.mp hx with e | e
    · subst e; simp; omega
    · have := mem_le_sum (l := r) (fun z hz => h z (by simp [hz])) x e
      simp; omega
theorem ColOk.sm {hs fs : List Int} {n : Nat} (h : ColOk hs fs n) (hs64 : hs.sum + fs.sum ≤ 64) : (∀ x ∈ hs, x.natAbs < 2 ^ 200) ∧ ∀ x ∈ fs, x.natAbs < 2 ^ 200 := by
  have s1 := sum_nn h.ph
  have s2 := sum_nn h.pf
  have b : (64 : Nat) < 2 ^ 200 := by decide
  constructor
  · intro x hx
    have := mem_le_sum h.ph x hx
    have := h.ph x hx
    omega
  · intro x hx
    have := mem_le_sum h.pf x hx
    have := h.pf x hx
    omega
end Pg
end
section
set_option Elab.async false
set_option linter.all false
set_option maxRecDepth 100000
set_option maxHeartbeats 4000000
namespace Pg
open PySem PySem.Spec PyProof.Rows L2 PySem.W
section
variable {prog : Program} {w : World} {A : Around} {E : Value → Shared → Prop} {s : Shared} {R : Result → Shared → Prop} {g : Heap} {l I S : Addr} {its : List Value} {bt : Nat → Nat → Bool} {d : Value}
def CmpKG (prog : Program) (w : World) (A : Around) (s : Shared) (g : Heap) (its : List Value) (bt : Nat → Nat → Bool) : Prop :=
  ∀ (i j : Nat) (vi vj : Value) (h : Heap) (tk : Nat) (Q E : Value → Shared → Prop), its[i]? = some vi → its[j]? = some vj → Kept g h → Q (.bool (bt i j)) { s with heap := h, toks := tk } → wpAny (model prog w) A.in1 (richCompare .Gt vi vj) Q E { s with heap := h, toks := tk }
end
section
variable {X : Cx}
def rMaxD (K : PySem.W.Frag) : List V → List V → Hp → VK → Prop := fun vs zs H Q => ∃ (a : Addr) (ns : List Int) (d : Int), vs = [V.ref a] ∧ zs = [V.int d] ∧ SqL K H a (ns.map V.int) ∧
  (ns = [] → Q (.int d) H) ∧ (∀ m ∈ ns, (∀ y ∈ ns, y ≤ m) → Q (.int m) H)
def rLCount (K : PySem.W.Frag) : V → List V → Hp → VK → Prop := fun x xs H Q => ∃ (a : Addr) (ys : List V) (y : V), x = V.ref a ∧ xs = [y] ∧ SqL K H a ys ∧ flatV y = true ∧ ys.all flatV = true ∧ Q (.int (ys.countP fun z => eqV z y : Nat)) H
end
end Pg
end
section
set_option Elab.async false
set_option linter.all false
set_option maxRecDepth 100000
set_option maxHeartbeats 4000000
namespace Pg
open PySem PySem.Spec PyProof.Rows L2
def IsHt (hs tk : List Int) (n : Nat) (z : Int) : Prop := (tk = [] ∧ z = 0) ∨ ((∃ c : Nat, c < n ∧ (c : Int) ∈ tk ∧ z = hs.getD c 0 + (tk.count (c : Int) : Nat)) ∧ ∀ c : Nat, c < n → (c : Int) ∈ tk → hs.getD c 0 + (tk.count (c : Int) : Nat) ≤ z)
theorem IsHt.uniq {hs tk : List Int} {n : Nat} {z y : Int} (h : IsHt hs tk n z) (h' : IsHt hs tk n y) : z = y := by
  rcases h with ⟨e, rfl⟩ | ⟨⟨c, c1, c2, c3⟩, c4⟩
  · rcases h' with ⟨_, rfl⟩ | ⟨⟨c, c1, c2, c3⟩, c4⟩
    · rfl
    · rw [e] at c2; simp at c2
  · rcases h' with ⟨e, rfl⟩ | ⟨⟨d, d1, d2, d3⟩, d4⟩
    · rw [e] at c2; simp at c2
    · have := c4 d d1 d2
      have := d4 c c1 c2
      omega
def lowI (z h f : Int) : Int := if (if z - 1 - h < f then z - 1 - h else f) > 0 then (if z - 1 - h < f then z - 1 - h else f) else 0
def lowL (z : Int) (hs fs : List Int) : Nat → Int
  | 0 => 0
  | i + 1 => lowL z hs fs i + lowI z (hs.getD i 0) (fs.getD i 0)
def sumN (f : Nat → Int) : Nat → Int
  | 0 => 0
  | n + 1 => sumN f n + f n
end Pg
namespace Pg
open PySem PySem.Spec PyProof.Rows L2
def spWall : Sp := fun vs H Q _ => ∃ (h l : Addr) (hs fs : List Int) (n : Nat) (m : Nat), vs = [.ref h, .ref l, .int (m : Nat)] ∧ H h = some (.lst (hs.map V.int)) ∧ H l = some (.lst (fs.map V.int)) ∧ ColOk hs fs n ∧ 1 ≤ n ∧ n ≤ 100 ∧ (m : Int) ≤ fs.sum ∧ m ≤ 1000 ∧
  ∀ (r : Addr) (z : Int) (H' : Hp), IsHt hs (toldC hs fs m) n z → New H H' [(r, .tup [.int z, .int (lowL z hs fs n)])] → Same H H' → Q (.ref r) H'
end Pg
namespace Pg
open PySem PySem.Spec PyProof.Rows L2
end Pg
namespace Pg
open PySem PySem.Spec PyProof.Rows L2
end Pg
namespace Pg
open PySem PySem.Spec PyProof.Rows L2
end Pg
end
section
set_option Elab.async false
set_option linter.all false
set_option maxRecDepth 100000
set_option maxHeartbeats 4000000
namespace Pg
open PySem PySem.Spec PyProof.Rows L2
abbrev Row := Addr × List Int
def rowZ (z : Row) : Cell := (z.1, HO.lst (z.2.map V.int))
def extR (f m : Int) (r : List Int) : List (List Int) := (List.range ((if m - r.sum < f then m - r.sum else f) + 1).toNat).map fun k => r ++ [((0 : Int) + (k : Nat))]
def tkR (m : Int) : List Int → List (List Int)
  | [] => [[]]
  | f :: fs => []
def tkF (m : Int) (fs : List Int) : List (List Int) := fs.foldl (fun R f => R.flatMap (extR f m)) [[]]
def RowOk (fs : List Int) (m : Int) (ws : List Int) : Prop := ws.length = fs.length ∧ (∀ c, c < fs.length → 0 ≤ ws.getD c 0 ∧ ws.getD c 0 ≤ fs.getD c 0) ∧ ws.sum ≤ m
def IsMx (hs ws : List Int) (n : Nat) (z : Int) : Prop := (z = 0 ∨ ∃ c, c < n ∧ 0 < ws.getD c 0 ∧ z = hs.getD c 0 + ws.getD c 0) ∧ 0 ≤ z ∧ ∀ c, c < n → 0 < ws.getD c 0 → hs.getD c 0 + ws.getD c 0 ≤ z
theorem IsMx.uniq {hs ws : List Int} {n : Nat} {z y : Int} (h : IsMx hs ws n z) (h' : IsMx hs ws n y) : z = y := by
  have h1 : z ≤ y := by
    rcases h.1 with e | ⟨c, c1, c2, c3⟩
    · rw [e]; exact h'.2.1
    · rw [c3]; exact h'.2.2 c c1 c2
  have h2 : y ≤ z := by
    rcases h'.1 with e | ⟨c, c1, c2, c3⟩
    · rw [e]; exact h.2.1
    · rw [c3]; exact h.2.2 c c1 c2
  omega
end Pg
namespace Pg
open PySem PySem.Spec PyProof.Rows L2
def spHeight : Sp := fun vs H Q _ => ∃ (h l : Addr) (hs ws : List Int) (n : Nat), vs = [.ref h, .ref l] ∧ H h = some (.lst (hs.map V.int)) ∧ H l = some (.lst (ws.map V.int)) ∧ hs.length = n ∧ ws.length = n ∧ n ≤ 100 ∧ (∀ x ∈ hs, 0 ≤ x) ∧
  ∀ (z : Int) (H' : Hp), IsMx hs ws n z → Same H H' → Q (.int z) H'
def keepR (m : Int) (rows : List Row) : List Row := rows.filter fun z => decide (z.2.sum = m)
def spTkgs : Sp := fun vs H Q _ => ∃ (l : Addr) (fs : List Int) (m : Nat), vs = [.ref l, .int (m : Nat)] ∧ H l = some (.lst (fs.map V.int)) ∧ fs.length ≤ 4 ∧ (∀ x ∈ fs, 0 ≤ x ∧ x ≤ 4) ∧ m ≤ 100 ∧
  ∀ (r : Addr) (rows : List Row) (H' : Hp), (∀ ws, ws ∈ rows.map (·.2) ↔ RowOk fs m ws ∧ ws.sum = m) → rows.length ≤ 625 → New H H' ((r, .lst (rows.map fun z => V.ref z.1)) :: rows.map rowZ) → Same H H' → Q (.ref r) H'
end Pg
namespace Pg
open PySem PySem.Spec PyProof.Rows L2
end Pg
end
section
set_option Elab.async false
set_option linter.all false
set_option maxRecDepth 100000
set_option maxHeartbeats 4000000
namespace Pg
open PySem PySem.Spec PyProof.Rows L2
def fF (ns : List Int) (r : Nat) : Nat := fN (runT (r : Int) false [] 0 ns)
def dipGo (ns : List Int) : Nat → Nat → Option Nat
  | _, 0 => none
  | r, k + 1 => if fF ns r < fF ns (r + 1) then some r else dipGo ns (r + 1) k
def dipOf (ns : List Int) : Option Nat := dipGo ns 1 (dc ns - 1)
def spDip : Sp := fun vs H Q _ => ∃ (tr : Addr) (ns : List Int), vs = [.ref tr] ∧ H tr = some (.lst (ns.map V.int)) ∧ ns.length ≤ 400 ∧ ∀ H', Same H H' → Q (optV (dipOf ns)) H'
def spDipT (P : Addr) (pos : Pos) (q : Str) : Sp := fun vs H Q _ => ∃ (tr : Addr) (ns : List Int), vs = [.ref tr] ∧ H tr = some (.lst (ns.map V.int)) ∧ ns.length ≤ 400 ∧ LamTab P pos q H ∧ ∀ H', Kp [P] H H' → LamTab P pos q H' → Q (optV (dipOf ns)) H'
def spFirst : Sp := fun vs H Q _ => ∃ (tr : Addr) (ns : List Int) (r : Nat), vs = [.ref tr, .int (r : Int)] ∧ H tr = some (.lst (ns.map V.int)) ∧ ns.length ≤ 400 ∧ 1 ≤ r ∧ ∀ H', Same H H' → Q (.int (fF ns r : Nat)) H'
def spDipping : Sp := fun vs H Q _ => ∃ (dk g l : Addr) (c : Int) (ns : List Int), vs = [.ref dk, .ref l] ∧ DeckAt H dk g c ∧ c ≤ 900000 ∧ H l = some (.lst (ns.map V.int)) ∧ ns.length ≤ 200 ∧ l ≠ dk ∧ l ≠ g ∧
  ∀ (l' : Addr) (zs : List Int) (H' : Hp), H l' = none → H' l' = some (.lst (zs.map V.int)) → zs.length ≤ 200 → DeckAt H' dk g (c + 10) → Kp [dk, g] H H' → Q (.ref l') H'
end Pg
namespace Pg
open PySem PySem.Spec PyProof.Rows L2
def intsOf : List Expr → Option (List Int)
  | [] => some []
  | .Constant (.int n) _ _ :: r => (intsOf r).map (n :: ·)
  | _ => none
def tInts (ns : List Int) : TA := fun _ H R => R (ns.map V.int) H
theorem rd_ints {σ : L2.St} {H : Hp} {ns : List Int} {R : List V → Hp → Prop} (q : R (ns.map V.int) H) : tInts ns σ H R := q
end Pg
namespace Pg
open PySem PySem.Spec PyProof.Rows L2
end Pg
namespace Pg
open PySem PySem.Spec PyProof.Rows L2
theorem rd_nopart {σ : L2.St} {H : Hp} {R : Option Int → Hp → Prop} (q : R none H) : tNoPart σ H R := q
end Pg
end
section
set_option Elab.async false
set_option linter.all false
set_option maxRecDepth 100000
set_option maxHeartbeats 4000000
namespace Pg
open PySem PySem.Spec PyProof.Rows L2
end Pg
namespace Pg
open PySem PySem.Spec PyProof.Rows L2
def pgOk (x : Int) : Prop := 0 ≤ x ∧ x ≤ 2000000000
def spTraceC : Sp := fun vs H Q _ => ∃ (bg g : Addr) (c most wide : Int), vs = [.ref bg, .int most, .int wide] ∧ BagAt H bg g c ∧ c ≤ 900000 ∧ 0 ≤ most ∧ most ≤ 300 ∧ 1 ≤ wide ∧ wide ≤ 1000 ∧
  ∀ (l : Addr) (ns : List Int) (H' : Hp), (ns.length : Int) ≤ most → (∀ x ∈ ns, 0 ≤ x ∧ x ≤ 2000000000) → BagAt H' bg g (c + 1000) → Fr [bg, g] H H' → New H H' [(l, .lst (ns.map V.int))] → Q (.ref l) H'
def rowOk (long : Int) (z : Row) : Prop := (z.2.length : Int) ≤ long ∧ ∀ x ∈ z.2, 0 ≤ x ∧ x ≤ 2000000000
def refR (rows : List Row) : List V := rows.map fun z => V.ref z.1
def spTracesC : Sp := fun vs H Q _ => ∃ (bg g : Addr) (c most long : Int), vs = [.ref bg, .int most, .int long] ∧ BagAt H bg g c ∧ c ≤ 800000 ∧ 1 ≤ most ∧ most ≤ 10 ∧ 0 ≤ long ∧ long ≤ 300 ∧
  ∀ (l : Addr) (rows : List Row) (H' : Hp), 1 ≤ rows.length → (rows.length : Int) ≤ most → (∀ z ∈ rows, rowOk long z) → BagAt H' bg g (c + 20000) → Fr [bg, g] H H' → New H H' ((l, .lst (refR rows)) :: rows.map rowZ) → Q (.ref l) H'
end Pg
namespace Pg
open PySem PySem.Spec PyProof.Rows L2
end Pg
namespace Pg
open PySem PySem.Spec PyProof.Rows L2
def spLastC : Sp := fun vs H Q _ => ∃ (tr : Addr) (room : Int) (ns : List Int), vs = [.ref tr, .int room] ∧ H tr = some (.lst (ns.map V.int)) ∧ 1 ≤ room ∧ ns.length ≤ 400 ∧ ∀ H' : Hp, Same H H' → Q (.int (fN (runT room true [] 0 ns))) H'
end Pg
namespace Pg
open PySem PySem.Spec PyProof.Rows L2
end Pg
namespace Pg
open PySem PySem.Spec PyProof.Rows L2
def spFaultsL : Sp := fun vs H Q _ => ∃ (tr : Addr) (room : Int) (ren : Bool) (ns : List Int), vs = [.ref tr, .int room, .str (ruleOf ren)] ∧ H tr = some (.lst (ns.map V.int)) ∧ 1 ≤ room ∧ ns.length ≤ 400 ∧
  ∀ H' : Hp, Same H H' → Q (.int (fN (runT room ren [] 0 ns))) H'
end Pg
namespace Pg
open PySem PySem.Spec PyProof.Rows L2
def faultI (z : Row) (s : Int) : Int := (fN (runT s true [] 0 z.2) : Int)
def sumF : List Row → List Int → Int
  | z :: zs, s :: ss => faultI z s + sumF zs ss
  | _, _ => 0
def listF : List Row → List Int → List Int
  | z :: zs, s :: ss => faultI z s :: listF zs ss
  | _, _ => []
def spChkTr (K : PySem.W.Frag) : Sp := fun vs H Q _ => ∃ (t : Addr) (xs : List V), vs = [.ref t] ∧ H t = some (.lst xs) ∧ xs ≠ [] ∧ Q .non H
def RowsAt (H : Hp) (rows : List Row) : Prop := ∀ z ∈ rows, H z.1 = some (.lst (z.2.map V.int))
def spDealF : Sp := fun vs H Q _ => ∃ (t r : Addr) (rows : List Row) (ss : List Int), vs = [.ref t, .ref r] ∧ H t = some (.lst (refR rows)) ∧ H r = some (.lst (ss.map V.int)) ∧ RowsAt H rows ∧ rows.length = ss.length ∧ 1 ≤ rows.length ∧ rows.length ≤ 100 ∧ (∀ s ∈ ss, 1 ≤ s) ∧ (∀ z ∈ rows, z.2.length ≤ 400) ∧
  ∀ H' : Hp, Same H H' → Q (.int (sumF rows ss)) H'
end Pg
namespace Pg
open PySem PySem.Spec PyProof.Rows L2
def gSw {α : Type} : List α → List α → List α
  | [], [w, t] => [t, w]
  | _, _ => []
def rowsP (rows : List (List Int)) : PyData := .list (rows.map fun r => .list (r.map PyData.int))
theorem rows_dt {C : List Cell} : ∀ {rows : List Row}, (∀ z ∈ rows, rowZ z ∈ C) → DtAll C (refR rows) ((rows.map (·.2)).map fun r => .list (r.map PyData.int))
  | [], _ => .nil
  | z :: zs, h => .cons (.lst (h z (by simp)) (DtAll.ints _)) (rows_dt fun y hy => h y (by simp [hy]))
end Pg
namespace Pg
open PySem PySem.Spec PyProof.Rows L2
def rListOf (K : PySem.W.Frag) : List V → Hp → VK → Prop := fun xs H Q => ∃ p ys, xs = [.ref p] ∧ (SqL K H p ys ∨ SqT K H p ys) ∧ ∀ l, H l = none → Q (.ref l) (upd H l (.lst ys))
end Pg
namespace Pg
end Pg
end
section
set_option Elab.async false
set_option linter.all false
set_option maxRecDepth 100000
set_option maxHeartbeats 4000000
namespace Pg
open PySem PySem.Spec PyProof.Rows L2 PySem.W
open PySem.SeqAt (EqAt RcAt)
def LtAt (A : Around) (s : Shared) (y x : Value) (b : Bool) : Prop := ∀ (prog : Program) (w : World) (E : Value → Shared → Prop) (Q : Value → Shared → Prop), Q (.bool b) s → wpAny (model prog w) A (richCompare .Lt y x) Q E s
inductive CmpAll (A : Around) (s : Shared) : List Value → List Value → Bool → Prop
  | nn : CmpAll A s [] [] false
  | nc {w : Value} {ws : List Value} : CmpAll A s [] (w :: ws) true
  | cn {v : Value} {vs : List Value} : CmpAll A s (v :: vs) [] false
  | eq {v w : Value} {vs ws : List Value} {r : Bool} : EqAt A s v w true → CmpAll A s vs ws r → CmpAll A s (v :: vs) (w :: ws) r
  | ne {v w : Value} {vs ws : List Value} {r : Bool} : EqAt A s v w false → LtAt A s v w r → CmpAll A s (v :: vs) (w :: ws) r
section
open PySem.SeqAt
open PySem.AutoSeq1 (wpAny_loadPart')
open PySem.MeetsSeq PySem.MeetsSeq2 PySem.MeetsSeq3
theorem tuple_lt_gen (l b : Addr) (items items2 : Array Value) (n n2 : Nat) (dd dd2 : Option Addr) (sl sl2 : Array (Option Value)) (r : Bool) :
    Meets (Builtin.«tuple.__lt__» ⟨[.ref l, .ref b], []⟩)
      (fun A R s => s.heap.get? l = some { cls := .type "tuple", dict := dd, data := .seq items n, slots := sl } ∧ s.heap.get? b = some { cls := .type "tuple", dict := dd2, data := .seq items2 n2, slots := sl2 } ∧
        CmpAll A.in1 s items.toList items2.toList r ∧ R (.ok (.ret (.bool r))) s) :=
  .of_wp fun prog w A R s h => by
    obtain ⟨hp, g, d, tk, os⟩ := s; obtain ⟨hl, hb, hc, h⟩ := h
    have f2 := AutoSeq1.sub_tuple_tuple
    wp_walk using wpAny_loadPart' hl, wpAny_loadPart' hb, wpAny_forIn_list _ (fun rest b s' => b.1 = none ∧ s' = ⟨hp, g, d, tk, os⟩ ∧ ∃ (vs ws : List Value), rest = vs.zip ws ∧
      CmpAll A.in1 ⟨hp, g, d, tk, os⟩ vs ws r ∧ vs.length + items2.size = ws.length + items.size) _
    case turn =>
      rintro ⟨y, x⟩ rest b s' ⟨hb', rfl, vs, ws, hz, hC, hlen⟩
      cases hC with
      | nn => rw [List.zip_nil_left] at hz; cases hz
      | nc => rw [List.zip_nil_left] at hz; cases hz
      | cn => rw [List.zip_nil_right] at hz; cases hz
      | eq he hC' =>
        rw [List.zip_cons_cons] at hz
        injection hz with hyx hrest
        injection hyx with hy hx
        subst hy hx
        simp only [List.length_cons] at hlen
        refine wpAny_bind (he prog w _ _ ?_)
        wp_walk
        exact ⟨rfl, rfl, _, _, hrest, hC', by omega⟩
      | ne he hL =>
        rw [List.zip_cons_cons] at hz
        injection hz with hyx hrest
        injection hyx with hy hx
        subst hy hx
        refine wpAny_bind (he prog w _ _ ?_)
        have hri := hL prog w
        wp_walk using hri
        exact ⟨_, rfl, by simpa using h⟩
    case fin =>
      rintro ⟨b1, b2⟩ s' ⟨hb', rfl, vs, ws, hz, hC, hlen⟩
      simp only at hb'
      subst hb'
      have hv : r = decide (items.size < items2.size) := by
        cases hC with
        | nn => simp only [List.length_nil] at hlen; exact (decide_eq_false (by omega)).symm
        | nc => simp only [List.length_nil, List.length_cons] at hlen; exact (decide_eq_true (by omega)).symm
        | cn => simp only [List.length_nil, List.length_cons] at hlen; exact (decide_eq_false (by omega)).symm
        | eq _ _ => rw [List.zip_cons_cons] at hz; cases hz
        | ne _ _ => rw [List.zip_cons_cons] at hz; cases hz
      rw [hv] at h
      wp_walk
      exact ⟨_, rfl, by simpa [Builtin.Tuple.tupleCompareSizes] using h⟩
    case h =>
      exact ⟨rfl, rfl, items.toList, items2.toList, rfl, hc, by simp; omega⟩
end
theorem LtAt.int (A : Around) (s : Shared) (a : Int) (t : Tok) (c : Int) (u : Tok) : LtAt A s (.int a t) (.int c u) (decide (a < c)) := fun prog w E Q h => HT.rcLt_int A s a t c u prog w E Q h
theorem LtAt.tuples {A : Around} {s : Shared} {l b : Addr} {items items2 : Array Value} {r : Bool} (hl : s.heap.IsTuple l items) (hb : s.heap.IsTuple b items2) (hu : A.units < cLine) (hc : CmpAll A.in1 s items.toList items2.toList r) : LtAt A s (.ref l) (.ref b) r := fun prog w E Q h => by
  obtain ⟨⟨cls, dd, data, sl⟩, ho, hc1, n, hd⟩ := id hl
  obtain ⟨⟨cls2, dd2, data2, sl2⟩, ho2, hc2, n2, hd2⟩ := id hb
  simp only at hc1 hd hc2 hd2
  subst hc1 hd hc2 hd2
  exact PySem.richCompare_meets_room (op := .Lt) ⟨_, ho, rfl⟩ ⟨_, ho2, rfl⟩ PySem.F.slot_tuple_lt PySem.F.entry_tuple_lt (PySem.F.args_tuple_lt_2 _ _) (tuple_lt_gen l b items items2 n n2 dd dd2 sl sl2 r)
    ⟨ho, ho2, hc, show Value.bool r ≠ Value.notImplemented ∧ Q (.bool r) s from ⟨(fun x => nomatch x), h⟩⟩ hu
theorem CmpAll.ints {A : Around} {s : Shared} : ∀ {vs ws : List Value} {ns ms : List Int}, IntsAre vs ns → IntsAre ws ms → CmpAll A s vs ws (HT.lexLt ns ms)
  | _, _, _, _, .nil, .nil => .nn
  | _, _, _, _, .nil, .cons _ _ _ => .nc
  | _, _, _, _, .cons _ _ _, .nil => .cn
  | _, _, _, _, .cons a t hv, .cons c u hw => by
    rw [HT.lexLt_cons]
    obtain ⟨e, he, hiff⟩ := HT.eqAt_int A s a t c u
    cases e with
    | true => rw [if_pos (hiff.mp rfl)]; exact .eq he (CmpAll.ints hv hw)
    | false => rw [if_neg (fun q => absurd (hiff.mpr q) Bool.false_ne_true)]; exact .ne he (LtAt.int A s a t c u)
end Pg
end
section
set_option Elab.async false
set_option linter.all false
set_option maxRecDepth 100000
set_option maxHeartbeats 4000000
namespace Pg
open PySem PySem.Spec PyProof.Rows L2
section
variable {prog : Program} {w : World} {A : Around} {E : Value → Shared → Prop} {s : Shared}
def EnumR (s : Shared) (l : Addr) : Result → Shared → Prop := fun r s1 => ∃ h', r = .ok (.ret (.ref (s.heap.objs.size + 1))) ∧ s1 = { s with heap := h' } ∧ IsEnum h' (s.heap.objs.size + 1) s.heap.objs.size 1 .none ∧ h'.IsListIter s.heap.objs.size l 0 ∧ h'.objs.size = s.heap.objs.size + 2 ∧ ∀ b o, s.heap.get? b = some o → h'.get? b = some o
def InitR (s : Shared) : Result → Shared → Prop := fun r s1 => r = .ok (.ret .none) ∧ s1 = s
end
end Pg
end
section
set_option Elab.async false
set_option linter.all false
set_option maxRecDepth 100000
set_option maxHeartbeats 4000000
namespace L2
open PySem PySem.Spec PyProof.Rows Pg
def Ite1 (K : PySem.W.Frag) (a : Addr) : It :=
  ⟨fun i H => ∃ (xs : List V) (x : V), SqL K H a xs ∧ xs[i]? = some x, fun i H v H' => ∃ T x, v = .ref T ∧ H T = none ∧ H' = upd H T (.tup [.int (((i + 1 : Nat)) : Int), x]) ∧ ∀ xs, SqL K H a xs → xs[i]? = some x, fun i H => ∃ xs : List V, SqL K H a xs ∧ xs.length ≤ i⟩
end L2
end
section
set_option Elab.async false
set_option linter.all false
set_option maxRecDepth 100000
set_option maxHeartbeats 400000
namespace L2
open PySem PySem.Spec PyProof.Rows Pg
section
variable {M : Model} {A : Around} {E : Value → Shared → Prop} {s : Shared} {env : Env}
end
def iEnum1 (K : PySem.W.Frag) (ta : TA) : TI := fun σ H R => ta σ H fun vs H1 => ∃ a xs, vs = [.ref a] ∧ SqL K H1 a xs ∧ R (Ite1 K a) H1
end L2
end
section
set_option Elab.async false
set_option linter.all false
set_option maxRecDepth 100000
set_option maxHeartbeats 4000000
namespace Pg
open PySem PySem.Spec PyProof.Rows L2
def minL : List Int → Int
  | [] => 0
  | [x] => x
  | x :: y :: r => if minL (y :: r) < x then minL (y :: r) else x
def costL (g : Nat → Int) (c : Int) (n : Nat) : List Int := (List.range n).map fun k => g (k + 1) + c * ((k : Int) + 1)
def leastP (g : Nat → Int) (c : Int) (n : Nat) : Int := minL (costL g c n)
def sumP (gs : List (Nat → Int)) (c : Int) (n : Nat) : Int := (gs.map fun g => leastP g c n).sum
def bnd (gs : List (Nat → Int)) (n : Nat) (c : Int) : Int := sumP gs c n - c * n
end Pg
namespace Pg
open PySem PySem.Spec PyProof.Rows L2
def gOf (z : List Int) (r : Nat) : Int := (outN (deps [] z) r : Int)
def rowMin (row : List Int) (n : Nat) (c : Int) : Int := minL ((List.range (min n row.length)).map fun k => row.getD k 0 + c * ((k : Int) + 1))
def bndR : List Row → Nat → Int → Int
  | [], _, _ => 0
  | z :: zs, n, c => rowMin z.2 n c + bndR zs n c
def bndV (rows : List Row) (n : Nat) (c : Int) : Int := -c * n + bndR rows n c
def allRow (z : List Int) (n : Nat) : List Int := (List.range n).map fun k => gOf z (k + 1)
end Pg
namespace Pg
open PySem PySem.Spec PyProof.Rows L2
theorem rd_ienum1 {σ : L2.St} {H : Hp} {K : PySem.W.Frag} {ta : TA} {R : It → Hp → Prop} (q : ta σ H fun vs H1 => ∃ a xs, vs = [.ref a] ∧ SqL K H1 a xs ∧ R (Ite1 K a) H1) : iEnum1 K ta σ H R := q
def spChkD : Sp := fun vs H Q _ => ∃ (t : Addr) (xs : List V) (n : Int), vs = [.ref t, .int n] ∧ H t = some (.lst xs) ∧ xs ≠ [] ∧ (xs.length : Int) ≤ n ∧ Q .non H
def spBoundOf : Sp := fun vs H Q _ => ∃ (cv : Addr) (crows : List Row) (n : Nat) (c : Int), vs = [.ref cv, .int (n : Nat), .int c] ∧ H cv = some (.lst (refR crows)) ∧ RowsAt H crows ∧ 1 ≤ n ∧ n ≤ 400 ∧ crows.length ≤ 100 ∧ (∀ z ∈ crows, 1 ≤ z.2.length ∧ z.2.length ≤ 401) ∧
  ∀ H' : Hp, Same H H' → Q (.int (bndV crows n c)) H'
structure LotAt (H : Hp) (t : Addr) (lot : List Row) : Prop where
  at_ : H t = some (.lst (refR lot))
  rows : RowsAt H lot
  len : ∀ z ∈ lot, z.2.length ≤ 400
  ne : lot ≠ []
  few : lot.length ≤ 100
def gsOf (lot : List Row) : List (Nat → Int) := lot.map fun z => gOf z.2
def spPriceB : Sp := fun vs H Q _ => ∃ (t : Addr) (lot : List Row) (n : Nat) (c : Int), vs = [.ref t, .int (n : Nat), .int c] ∧ LotAt H t lot ∧ lot.length ≤ n ∧ n ≤ 400 ∧ 0 ≤ c ∧ ∀ H' : Hp, Same H H' → Q (.int (bnd (gsOf lot) n c)) H'
def IsBest (lot : List Row) (n c : Nat) : Prop := bnd (gsOf lot) n ((c : Int) + 1) ≤ bnd (gsOf lot) n c ∧ ∀ j : Nat, j < c → bnd (gsOf lot) n j < bnd (gsOf lot) n ((j : Int) + 1)
def spPrice : Sp := fun vs H Q _ => ∃ (t : Addr) (lot : List Row) (n : Nat), vs = [.ref t, .int (n : Nat)] ∧ LotAt H t lot ∧ lot.length ≤ n ∧ n ≤ 400 ∧ ∀ (r : Addr) (c : Nat) (H' : Hp), IsBest lot n c → New H H' [(r, .tup [.int (c : Nat), .int (bnd (gsOf lot) n c)])] → Same H H' → Q (.ref r) H'
def spTables : Sp := fun vs H Q _ => ∃ (t : Addr) (lot : List Row) (n : Nat), vs = [.ref t, .int (n : Nat)] ∧ LotAt H t lot ∧ n ≤ 400 ∧ ∀ (r : Addr) (trows : List Row) (H' : Hp), trows.map (·.2) = (lot.map fun z => allRow z.2 n) → New H H' ((r, .lst (refR trows)) :: trows.map rowZ) → Same H H' → Q (.ref r) H'
end Pg
end
section
set_option Elab.async false
set_option linter.all false
set_option maxRecDepth 100000
set_option maxHeartbeats 4000000
namespace Pg
open PySem PySem.Spec PyProof.Rows L2
end Pg
end
section
set_option Elab.async false
set_option linter.all false
set_option maxRecDepth 100000
set_option maxHeartbeats 1000000
namespace L2
open PySem PySem.Spec PyProof.Rows
section
variable {X : Cx}
def tDc (wi : TI) (g : TG) (tt : TT) (tk tv : TE) (vs : List Nat) : TE := fun σ H Q => wi σ H fun J H1 => ∀ D, H1 D = none → ∃ W : Nat → Nat → Hp → Prop, (∃ m, W 0 m (upd H1 D (.dK []))) ∧ ∀ i m H, W i m H →
  (J.stop i H ∧ Q (.ref D) H) ∨ (J.go i H ∧ ∃ Nx : Hp → Prop, (∀ H', Nx H' → ∃ m', m' < m ∧ W (i + 1) m' H') ∧ ∀ x H', J.yld i H x H' → g x (wipe σ vs) H' fun σ2 H2 => wipe σ2 vs = wipe σ vs ∧ tt σ2 H2 fun b H3 =>
    if b = true then tk σ2 H3 fun y H4 => tv σ2 H4 fun z H5 => ∃ kvs k, H5 D = some (.dK kvs) ∧ y = kV k ∧ kvs.length < sizeLine ∧ Nx (upd H5 D (.dK (putK kvs k z))) else Nx H3)
end
end L2
end
section
set_option Elab.async false
set_option linter.all false
set_option maxRecDepth 100000
set_option maxHeartbeats 1000000
namespace L2
open PySem PySem.Spec PyProof.Rows
section
variable {X : Cx}
def tRev (K : PySem.W.Frag) (te ts : TE) : TE := fun σ H Q => te σ H fun x H1 => ts σ H1 fun k H2 => k = .int (-1) ∧ ∃ a xs, x = .ref a ∧ SqL K H2 a xs ∧ ∀ p, H2 p = none → Q (.ref p) (upd H2 p (.lst xs.reverse))
end
end L2
end
section
set_option Elab.async false
set_option linter.all false
set_option maxRecDepth 100000
set_option maxHeartbeats 4000000
namespace Pg
open PySem PySem.Spec PyProof.Rows L2
theorem FnOk.ofX0 {P : Program} {w : World} {K : PySem.W.Frag} {mg : Str → Option Value} {base : Heap} {CX : CXT} {k : Nat} {f : Addr} {fd : FuncData} {ps : List Str} {sp : Sp} (F : FnOk P w K mg base CX0 k f fd ps sp) : FnOk P w K mg base CX k f fd ps sp :=
  ⟨F.len, fun A outer s H args us vs Q E hr he hb hv h => codeAny_mono (F.run A outer s H args us vs Q E hr he hb hv h) fun r s' q => by
    cases r with
    | ok fl => cases fl <;> exact q
    | error e => exact (show False from q).elim⟩
theorem FnOk.or {P : Program} {w : World} {K : PySem.W.Frag} {mg : Str → Option Value} {base : Heap} {CX : CXT} {k : Nat} {f : Addr} {fd : FuncData} {ps : List Str} {sp sp' : Sp} (F : FnOk P w K mg base CX k f fd ps sp) (F' : FnOk P w K mg base CX k f fd ps sp') :
    FnOk P w K mg base CX k f fd ps (fun vs H Q E => sp vs H Q E ∨ sp' vs H Q E) :=
  ⟨fun vs H Q E h => h.elim (F.len vs H Q E) (F'.len vs H Q E), fun A outer s H args us vs Q E hr he hb hv h => h.elim (F.run A outer s H args us vs Q E hr he hb hv) (F'.run A outer s H args us vs Q E hr he hb hv)⟩
def spNInit (C : Addr) : Sp := fun vs H Q _ => ∃ x v, vs = [.ref x, v] ∧ H x = some (ExcN x C none) ∧ ∀ dx, H dx = none → dx ≠ x → Q .non (upd (upd H dx (.xd [("what", v)])) x (ExcN x C (some dx)))
def errH (H : Hp) (x C dx : Addr) (v : V) : Hp := upd (upd H dx (.xd [("what", v)])) x (ExcH x C dx)
theorem errH_eq {H : Hp} {x C dx : Addr} {v : V} (h : dx ≠ x) : upd (upd (upd (upd H x (ExcN x C none)) dx (.xd [("what", v)])) x (ExcN x C (some dx))) x (ExcH x C dx) = errH H x C dx v := by
  funext b
  unfold errH upd
  by_cases z : b = x
  · simp [z]
  · by_cases y : b = dx
    · simp [y, h]
    · simp [z, y]
def ErrE (H : Hp) (C : Addr) (v : V) (E : XK) : Prop := ∀ x dx, H x = none → H dx = none → dx ≠ x → E (.ref x) (some dx) (errH H x C dx v)
theorem Tr.err {J : Hp → Prop} {O S : List Addr} {H0 H : Hp} {L : List Cell} {x dx C : Addr} {v : V} (t : Tr J O S H0 H L) (hx : H x = none) (hd : H dx = none) (hne : dx ≠ x) : Tr J O S H0 (errH H x C dx v) ((x, ExcH x C dx) :: (dx, .xd [("what", v)]) :: L) :=
  (t.new hd).new (by rw [upd_ne (Ne.symm hne)]; exact hx)
def EhOf (G : Addr → V → Prop) : L2.St → Hp → L2.St → XK := fun σ0 H0 σ' v d H' => σ' = σ0 ∧ ∃ x dx C w, v = .ref x ∧ d = some dx ∧ H0 x = none ∧ H0 dx = none ∧ dx ≠ x ∧ G C w ∧ H' = errH H0 x C dx w
theorem EhOf.of {G : Addr → V → Prop} {σ0 : L2.St} {H : Hp} {C : Addr} {v : V} (g : G C v) : ErrE H C v (EhOf G σ0 H σ0) := fun x dx hx hd hn => ⟨rfl, x, dx, C, v, rfl, rfl, hx, hd, hn, g, rfl⟩
end Pg
end
section
set_option Elab.async false
set_option linter.all false
set_option maxRecDepth 100000
set_option maxHeartbeats 4000000
namespace Pg
open PySem PySem.Spec PyProof.Rows L2
abbrev Pr := Int × Int
def plt (u v : Pr) : Prop := u.1 < v.1 ∨ (u.1 = v.1 ∧ u.2 < v.2)
def IsLeast (ws : List Pr) (v : Pr) : Prop := v ∈ ws ∧ ∀ u ∈ ws, ¬ plt u v
theorem IsLeast.uniq {ws : List Pr} {u v : Pr} (h : IsLeast ws u) (h' : IsLeast ws v) : u = v := by
  have a := h.2 v h'.1
  have b := h'.2 u h.1
  unfold plt at a b
  obtain ⟨u1, u2⟩ := u
  obtain ⟨v1, v2⟩ := v
  simp only [Prod.mk.injEq] at *
  omega
noncomputable def minW (ws : List Pr) : Option Pr := by
  classical
  exact if h : ∃ v, IsLeast ws v then some h.choose else none
def wayK (c : List Int) (f : Int → Option Pr) (l : Int) (k : Nat) : Option Pr := (f (l - ((k : Int) + 1))).map fun v => (c.getD k 0 + v.1, (k : Int) + 1)
def waysN (c : List Int) (f : Int → Option Pr) (l : Int) (n : Nat) : List Pr := (List.range n).filterMap (wayK c f l)
noncomputable def tabF (F : Nat) : List (List Int) → Int → Option Pr
  | [], l => if 0 ≤ l ∧ l ≤ (F : Int) then some (0, 0) else none
  | c :: cs, l => if 0 ≤ l ∧ l ≤ (F : Int) then minW (waysN c (tabF F cs) l c.length) else none
noncomputable def dealF (F : Nat) : List (List Int) → Int → List Int
  | [], _ => []
  | c :: cs, l => match tabF F (c :: cs) l with
    | some v => v.2 :: dealF F cs (l - v.2)
    | none => []
def TabC (kvs : List (Key × V)) (C : List Cell) (f : Int → Option Pr) : Prop := ∀ z : Int, (f z = none → valV kvs (.inl z) = none) ∧ ∀ v, f z = some v → ∃ a, valV kvs (.inl z) = some (.ref a) ∧ (a, HO.tup [.int v.1, .int v.2]) ∈ C
theorem TabC.mono {kvs : List (Key × V)} {C C' : List Cell} {f : Int → Option Pr} (h : TabC kvs C f) (s : ∀ x ∈ C, x ∈ C') : TabC kvs C' f := fun z => ⟨(h z).1, fun v e => by obtain ⟨a, h1, h2⟩ := (h z).2 v e; exact ⟨a, h1, s _ h2⟩⟩
theorem TabC.put {kvs : List (Key × V)} {C : List Cell} {f g : Int → Option Pr} {z : Int} {v : Pr} {a : Addr} (h : TabC kvs C f) (hg : ∀ y, g y = if y = z then some v else f y) (hm : (a, HO.tup [.int v.1, .int v.2]) ∈ C) : TabC (putK kvs (.inl z) (.ref a)) C g := fun y => by
  rw [valV_put, hg y]
  by_cases e : y = z
  · subst e
    simp only [if_true]
    exact ⟨fun h => (by cases h), fun u hu => (by cases hu; exact ⟨a, rfl, hm⟩)⟩
  · rw [if_neg e, if_neg (by intro q; exact e (Sum.inl.inj q))]
    exact h y
end Pg
namespace Pg
open PySem PySem.Spec PyProof.Rows L2
abbrev Tbl := Addr × List (Key × V)
def TabsOk (F : Nat) (cs : List (List Int)) (tbs : List Tbl) (C : List Cell) : Prop := tbs.length = cs.length ∧ ∀ i t, tbs[i]? = some t → (t.1, HO.dK t.2) ∈ C ∧ TabC t.2 C (tabF F (cs.drop i))
def refT (tbs : List Tbl) : List V := tbs.map fun t => V.ref t.1
def spBestR : Sp := fun vs H Q _ => ∃ (cv : Addr) (crows : List Row) (F : Nat), vs = [.ref cv, .int (F : Nat)] ∧ H cv = some (.lst (refR crows)) ∧ RowsAt H crows ∧ F ≤ 600 ∧ crows.length ≤ 100 ∧ (∀ z ∈ crows, 1 ≤ z.2.length ∧ z.2.length ≤ 401) ∧
  ∀ (r : Addr) (tbs : List Tbl) (C : List Cell) (H' : Hp), TabsOk F (crows.map (·.2)) tbs C → New H H' ((r, .lst (refT tbs)) :: C) → Same H H' → Q (.ref r) H'
theorem rd_irev {σ : L2.St} {H : Hp} {K : PySem.W.Frag} {ta : TA} {R : It → Hp → Prop} (q : ta σ H fun vs H1 => ∃ (a : Addr) (xs : List V), vs = [.ref a] ∧ SqL K H1 a xs ∧ R (Itv K a xs.length) H1) : iRev K ta σ H R := q
theorem rd_tdc {σ : L2.St} {H : Hp} {Q : VK} {wi : L2.TI} {g : TG} {tt : TT} {tk tv : TE} {vs : List Nat} (q : wi σ H fun J H1 => ∀ D, H1 D = none → ∃ W : Nat → Nat → Hp → Prop, (∃ m, W 0 m (upd H1 D (.dK []))) ∧ ∀ i m H, W i m H →
  (J.stop i H ∧ Q (.ref D) H) ∨ (J.go i H ∧ ∃ Nx : Hp → Prop, (∀ H', Nx H' → ∃ m', m' < m ∧ W (i + 1) m' H') ∧ ∀ x H', J.yld i H x H' → g x (wipe σ vs) H' fun σ2 H2 => wipe σ2 vs = wipe σ vs ∧ tt σ2 H2 fun b H3 =>
    if b = true then tk σ2 H3 fun y H4 => tv σ2 H4 fun z H5 => ∃ kvs k, H5 D = some (.dK kvs) ∧ y = kV k ∧ kvs.length < sizeLine ∧ Nx (upd H5 D (.dK (putK kvs k z))) else Nx H3)) : tDc wi g tt tk tv vs σ H Q := q
end Pg
namespace Pg
open PySem PySem.Spec PyProof.Rows L2
theorem TabC.congr {kvs : List (Key × V)} {C : List Cell} {f g : Int → Option Pr} (h : TabC kvs C f) (e : ∀ z, g z = f z) : TabC kvs C g := fun z => by rw [e z]; exact h z
theorem TabC.nil {C : List Cell} : TabC [] C (fun _ => none) := fun z => ⟨fun _ => rfl, fun v e => by cases e⟩
abbrev Wy := Addr × Pr
def cellW (z : Wy) : Cell := (z.1, HO.tup [.int z.2.1, .int z.2.2])
def refW (zs : List Wy) : List V := zs.map fun z => V.ref z.1
end Pg
namespace Pg
open PySem PySem.Spec PyProof.Rows L2
def csOf (lot : List Row) : List (List Int) := lot.map fun z => curveOf z.2
def lensOf (lot : List Row) : Int := ((csOf lot).map fun c => (c.length : Int)).sum
noncomputable def dealV (lot : List Row) (n : Nat) : List Int := dealF (if lensOf lot < (n : Int) then lensOf lot else (n : Int)).toNat (csOf lot) (if lensOf lot < (n : Int) then lensOf lot else (n : Int))
def spDeal : Sp := fun vs H Q _ => ∃ (t : Addr) (lot : List Row) (n : Nat), vs = [.ref t, .int (n : Nat)] ∧ LotAt H t lot ∧ lot.length ≤ n ∧ n ≤ 400 ∧ ∀ (r : Addr) (H' : Hp), New H H' [(r, .lst ((dealV lot n).map V.int))] → Same H H' → Q (.ref r) H'
end Pg
end
section
set_option Elab.async false
set_option linter.all false
set_option maxRecDepth 100000
set_option maxHeartbeats 4000000
namespace Pg
open PySem PySem.Spec PyProof.Rows L2
def lexle : List Int → List Int → Prop
  | [], _ => True
  | _ :: _, [] => False
  | a :: as, b :: bs => a < b ∨ (a = b ∧ lexle as bs)
def costC : List (List Int) → List Int → Int
  | c :: cs, r :: rs => c.getD (r.toNat - 1) 0 + costC cs rs
  | _, _ => 0
def FitsC : List (List Int) → List Int → Prop
  | [], [] => True
  | c :: cs, r :: rs => 1 ≤ r ∧ r ≤ c.length ∧ FitsC cs rs
  | _, _ => False
theorem FitsC.nn : ∀ {cs : List (List Int)} {rs : List Int}, FitsC cs rs → 0 ≤ rs.sum
  | [], [], _ => by simp
  | _ :: _, _ :: _, h => by
    have := FitsC.nn h.2.2
    have := h.1
    simp only [List.sum_cons]; omega
  | [], _ :: _, h => h.elim
  | _ :: _, [], h => h.elim
def costG : List Row → List Int → Int
  | z :: zs, r :: rs => gOf z.2 r.toNat + costG zs rs
  | _, _ => 0
def capR : List Row → List Int → List Int
  | z :: zs, r :: rs => (if r ≤ (curveN z.2 : Int) then r else (curveN z.2 : Int)) :: capR zs rs
  | _, _ => []
def PosR : List Row → List Int → Prop
  | [], [] => True
  | _ :: zs, r :: rs => 1 ≤ r ∧ PosR zs rs
  | _, _ => False
theorem PosR.nn : ∀ {lot : List Row} {rs : List Int}, PosR lot rs → 0 ≤ rs.sum ∧ rs.length = lot.length ∧ ∀ r ∈ rs, 1 ≤ r
  | [], [], _ => by simp
  | [], _ :: _, h => h.elim
  | _ :: _, [], h => h.elim
  | _ :: zs, r :: rs, h => by
    obtain ⟨i1, i2, i3⟩ := PosR.nn h.2
    have := h.1
    refine ⟨by simp only [List.sum_cons]; omega, by simp [i2], fun x hx => ?_⟩
    rcases List.mem_cons.mp hx with rfl | hx
    · exact h.1
    · exact i3 x hx
end Pg
end
section
set_option Elab.async false
set_option linter.all false
set_option maxRecDepth 100000
set_option maxHeartbeats 4000000
namespace Pg
open PySem PySem.Spec PyProof.Rows L2 PySem.W
open PySem.SeqAt (EqAt RcAt)
section
variable {X : Cx}
def rMinL (K : PySem.W.Frag) : List V → Hp → VK → Prop := fun vs H Q => ∃ (a : Addr) (ts : List Addr) (f : Addr → Int × List Int) (la : Addr → Addr), vs = [V.ref a] ∧ SqL K H a (ts.map V.ref) ∧ 0 < ts.length ∧ (∀ t ∈ ts, H t = some (.tup [.int (f t).1, .ref (la t)]) ∧ H (la t) = some (.lst ((f t).2.map V.int))) ∧
  ∀ t ∈ ts, (∀ t' ∈ ts, HT.lexLt ((f t').1 :: (f t').2) ((f t).1 :: (f t).2) = false) → Q (.ref t) H
end
end Pg
end
section
set_option Elab.async false
set_option linter.all false
set_option maxRecDepth 100000
set_option maxHeartbeats 4000000
namespace Pg
open PySem PySem.Spec PyProof.Rows L2
open Classical in
noncomputable def c1 (x y : Cell) : Nat := if y = x then 1 else 0
noncomputable def cnt (x : Cell) : List Cell → Nat
  | [] => 0
  | y :: L => c1 x y + cnt x L
theorem cnt_nil (x : Cell) : cnt x [] = 0 := rfl
theorem cnt_cons (x y : Cell) (L : List Cell) : cnt x (y :: L) = c1 x y + cnt x L := rfl
theorem cnt_app (x : Cell) : ∀ L M : List Cell, cnt x (L ++ M) = cnt x L + cnt x M
  | [], M => by simp [cnt]
  | y :: L, M => by
    rw [List.cons_append, cnt_cons, cnt_app x L M, cnt_cons x y L]
    omega
theorem cnt_mem {x : Cell} : ∀ {L : List Cell}, 0 < cnt x L ↔ x ∈ L
  | [] => by simp [cnt]
  | y :: L => by
    unfold cnt c1
    by_cases h : y = x
    · simp [h]; omega
    · have := cnt_mem (x := x) (L := L)
      simp [h, this, Ne.symm h]
theorem cnt_nd {L : List Cell} (h : ∀ x, cnt x L ≤ 1) : L.Nodup := by
  induction L with
  | nil => exact List.nodup_nil
  | cons y L ih =>
    refine List.nodup_cons.mpr ⟨fun hy => ?_, ih fun x => ?_⟩
    · have h1 := h y
      have h2 := cnt_mem.mpr hy
      unfold cnt c1 at h1
      simp at h1
      omega
    · have := h x
      rw [cnt_cons] at this
      omega
theorem cnt_le {x : Cell} {L : List Cell} (h : (L.map (·.1)).Nodup) : cnt x L ≤ 1 := by
  induction L with
  | nil => simp [cnt]
  | cons y L ih =>
    have h' := List.nodup_cons.mp (show (y.1 :: L.map (·.1)).Nodup from h)
    have := ih h'.2
    unfold cnt c1
    by_cases e : y = x
    · have : cnt x L = 0 := by
        refine Nat.eq_zero_of_not_pos fun hp => h'.1 ?_
        have := cnt_mem.mp hp
        rw [e]
        exact List.mem_map.mpr ⟨x, this, rfl⟩
      simp [e, this]
    · simp [e]; omega
theorem key_inj {L : List Cell} (h : (L.map (·.1)).Nodup) {x y : Cell} (hx : x ∈ L) (hy : y ∈ L) (e : x.1 = y.1) : x = y := by
  induction L with
  | nil => simp at hx
  | cons z L ih =>
    have h' := List.nodup_cons.mp (show (z.1 :: L.map (·.1)).Nodup from h)
    rcases List.mem_cons.mp hx with a | a <;> rcases List.mem_cons.mp hy with b | b
    · rw [a, b]
    · exfalso; subst a; exact h'.1 (List.mem_map.mpr ⟨y, b, e.symm⟩)
    · exfalso; subst b; exact h'.1 (List.mem_map.mpr ⟨x, a, e⟩)
    · exact ih h'.2 a b
theorem nd_map {L : List Cell} (hn : L.Nodup) (inj : ∀ x ∈ L, ∀ y ∈ L, x.1 = y.1 → x = y) : (L.map (·.1)).Nodup := by
  induction L with
  | nil => exact List.nodup_nil
  | cons z L ih =>
    have h' := List.nodup_cons.mp hn
    refine List.nodup_cons.mpr ⟨fun hm => ?_, ih h'.2 fun x hx y hy => inj x (List.mem_cons_of_mem _ hx) y (List.mem_cons_of_mem _ hy)⟩
    obtain ⟨y, hy, e⟩ := List.mem_map.mp hm
    have := inj y (List.mem_cons_of_mem _ hy) z List.mem_cons_self e
    exact h'.1 (by rw [← this]; exact hy)
def Sb (L' L : List Cell) : Prop := ∀ x, cnt x L' ≤ cnt x L
theorem Sb.mem {L' L : List Cell} (h : Sb L' L) : ∀ x ∈ L', x ∈ L := fun x hx => cnt_mem.mp (Nat.lt_of_lt_of_le (cnt_mem.mpr hx) (h x))
theorem Sb.nd {L' L : List Cell} (h : Sb L' L) (n : (L.map (·.1)).Nodup) : (L'.map (·.1)).Nodup :=
  nd_map (cnt_nd fun x => Nat.le_trans (h x) (cnt_le n)) fun x hx y hy => key_inj n (h.mem x hx) (h.mem y hy)
theorem Tr.cn {J : Hp → Prop} {O S : List Addr} {H0 H : Hp} {L L' : List Cell} (t : Tr J O S H0 H L) (h : Sb L' L) : Tr J O S H0 H L' :=
  ⟨t.fr, t.j, t.loc, t.od, fun x hx => t.at_ x (h.mem x hx), fun x hx => t.nw x (h.mem x hx), fun x hx => t.nO x (h.mem x hx), h.nd t.nd⟩
theorem At.split {A B : List Cell} {p : Addr} {o o' : HO} : At (A ++ (p, o) :: B) p o o' (A ++ (p, o') :: B) := At.app .head
structure Own (C : List Cell) (H : Hp) : Prop where
  at_ : ∀ x ∈ C, H x.1 = some x.2
  nd : (C.map (·.1)).Nodup
structure Moves (C : List Cell) (H : Hp) (C' : List Cell) (H' : Hp) : Prop where
  own : Own C' H'
  fr : Fr (C.map (·.1)) H H'
  nw : ∀ x ∈ C', x.1 ∈ C.map (·.1) ∨ H x.1 = none
section
variable {J : Hp → Prop} {O S : List Addr} {H0 H H' : Hp} {C C' R : List Cell}
theorem Tr.own (t : Tr J O S H0 H (C ++ R)) : Own C H := ⟨fun x hx => t.at_ x (List.mem_append_left _ hx), by
  have := t.nd
  rw [List.map_append] at this
  exact (List.nodup_append.mp this).1⟩
theorem Own.tr (o : Own C H) : Tr (fun _ => True) [] (C.map (·.1)) H H C := ⟨Fr.refl, trivial, fun _ _ _ _ => trivial, by simp, o.at_, fun x hx => .inr (List.mem_map.mpr ⟨x, hx, rfl⟩), by simp, o.nd⟩
theorem Tr.to {S' : List Addr} (t : Tr (fun _ => True) [] (C.map (·.1)) H H' C') : Moves C H C' H' := ⟨⟨t.at_, t.nd⟩, t.fr.mono (by simp), fun x hx => (t.nw x hx).symm⟩
end
section
variable {X : Cx}
def rDictD : List V → Hp → VK → Prop := fun vs H Q => ∃ (a : Addr) (kvs : List (Key × V)), vs = [.ref a] ∧ H a = some (.dK kvs) ∧ ∀ p, H p = none → Q (.ref p) (upd H p (.dK kvs))
end
end Pg
end
section
set_option Elab.async false
set_option linter.all false
set_option maxRecDepth 100000
set_option maxHeartbeats 4000000
namespace Pg
open PySem PySem.Spec PyProof.Rows L2 PySem.W
open PySem.SeqAt (EqAt RcAt)
def encJ (j p : Int) : Int := p * 8 + j
def keyOf (e : Int) : List Key := [Sum.inl (e % 8), Sum.inl (e / 8)]
def tupOf (e : Int) : List V := [.int (e % 8), .int (e / 8)]
def tOf (g : Int × Int → V) (T : Ts) : List (List Key × V) := T.map fun t => (keyOf t.1, g t)
section
variable {g : Int × Int → V}
end
abbrev LT (T : Ts) : List (List Key × V) := tOf (fun _ => .bl true) T
abbrev STt (T : Ts) : List (List Key × V) := tOf (fun t => .int t.2) T
def Tups (H H' : Hp) : Prop := ∀ t xs, H t = some (.tup xs) → H' t = some (.tup xs)
theorem Tups.refl {H : Hp} : Tups H H := fun _ _ h => h
theorem Tups.trans {H H1 H2 : Hp} (a : Tups H H1) (b : Tups H1 H2) : Tups H H2 := fun t xs h => b t xs (a t xs h)
theorem Tups.new {H : Hp} {p : Addr} {o : HO} (h : H p = none) : Tups H (upd H p o) := fun t xs e => by rw [upd_ne (ne_of_none e h)]; exact e
theorem Tups.put {H : Hp} {p : Addr} {o o' : HO} (h : H p = some o) (n : ∀ xs, o ≠ .tup xs) : Tups H (upd H p o') := fun t xs e => by
  have : t ≠ p := by rintro rfl; rw [h] at e; cases e; exact n _ rfl
  rw [upd_ne this]; exact e
theorem Tups.of_same {H H' : Hp} (s : Same H H') : Tups H H' := fun t xs e => s _ _ e
def GoneAt (H : Hp) : Option Int → V → Prop
  | none, v => v = .non
  | some g, v => ∃ q, v = .ref q ∧ H q = some (.tup (tupOf g))
theorem GoneAt.imp {H H' : Hp} {g : Option Int} {v : V} (h : GoneAt H g v) (t : Tups H H') : GoneAt H' g v := by
  cases g with
  | none => exact h
  | some g =>
    obtain ⟨q, e, hq⟩ := h
    exact ⟨q, e, t _ _ hq⟩
def wordB (b : Bool) : Str := if b then "hit" else "fault"
def RowT (H : Hp) (t : Addr) (s : Int × Bool × Option Int) : Prop := ∃ gv, H t = some (.tup [.str (wordB s.2.1), .int (s.1 % 8), .int (s.1 / 8), gv]) ∧ GoneAt H s.2.2 gv
def RowsT (H : Hp) (ts : List Addr) (ss : Steps) : Prop := Paired (RowT H) ts ss
theorem RowT.imp {H H' : Hp} {t : Addr} {s : Int × Bool × Option Int} (h : RowT H t s) (u : Tups H H') : RowT H' t s := by
  obtain ⟨gv, h1, h2⟩ := h
  exact ⟨gv, u _ _ h1, h2.imp u⟩
theorem RowsT.imp {H H' : Hp} : ∀ {ts : List Addr} {ss : Steps}, RowsT H ts ss → Tups H H' → RowsT H' ts ss
  | _, _, .nil, _ => .nil
  | _, _, .cons r t, f => .cons (r.imp f) (RowsT.imp t f)
theorem RowsT.snoc {H : Hp} : ∀ {ts : List Addr} {ss : Steps} {t : Addr} {s : Int × Bool × Option Int}, RowsT H ts ss → RowT H t s → RowsT H (ts ++ [t]) (ss ++ [s])
  | _, _, _, _, .nil, h => .cons h .nil
  | _, _, _, _, .cons r t, h => .cons r (RowsT.snoc t h)
theorem RowsT.len {H : Hp} {ts : List Addr} {ss : Steps} (h : RowsT H ts ss) : ts.length = ss.length := by
  induction h with
  | nil => rfl
  | cons _ _ ih => simp [ih]
theorem RowsT.at {H : Hp} {ts : List Addr} {ss : Steps} (h : RowsT H ts ss) {i : Nat} {t : Addr} (e : ts[i]? = some t) : ∃ s, ss[i]? = some s ∧ RowT H t s := by
  induction h generalizing i with
  | nil => simp at e
  | @cons a b _ _ r _ ih =>
    cases i with
    | zero => simp at e; subst e; exact ⟨b, rfl, r⟩
    | succ i => exact ih (by simpa using e)
def goneDT : Option Int → PyData
  | none => .none
  | some g => .tuple [.int (g % 8), .int (g / 8)]
def rowDT (s : Int × Bool × Option Int) : PyData := .tuple [.str (wordB s.2.1), .int (s.1 % 8), .int (s.1 / 8), goneDT s.2.2]
def rowsDT (ss : Steps) : PyData := .list (ss.map rowDT)
theorem RowT.dt {H : Hp} {t : Addr} {s : Int × Bool × Option Int} (h : RowT H t s) : ∃ C : List Cell, (∀ x ∈ C, H x.1 = some x.2) ∧ Dt C (.ref t) (rowDT s) := by
  obtain ⟨e, b, g⟩ := s
  obtain ⟨gv, h1, h2⟩ := h
  cases g with
  | none =>
    have h2 : gv = .non := h2
    subst h2
    exact ⟨[(t, _)], by simp [h1], .tup (.head _) (.cons (.str _) (.cons (.int _) (.cons (.int _) (.cons .non .nil))))⟩
  | some g =>
    obtain ⟨q, rfl, hq⟩ := h2
    exact ⟨[(t, _), (q, _)], by intro x hx; simp only [List.mem_cons, List.not_mem_nil, or_false] at hx; rcases hx with rfl | rfl; exact h1; exact hq, .tup (.head _) (.cons (.str _) (.cons (.int _) (.cons (.int _) (.cons (.tup (.tail _ (.head _)) (.cons (.int _) (.cons (.int _) .nil))) .nil))))⟩
theorem RowsT.dt {H : Hp} : ∀ {ts : List Addr} {ss : Steps}, RowsT H ts ss → ∃ C : List Cell, (∀ x ∈ C, H x.1 = some x.2) ∧ DtAll C (ts.map V.ref) (ss.map rowDT)
  | _, _, .nil => ⟨[], by simp, .nil⟩
  | _, _, .cons r t => by
    obtain ⟨C1, h1, d1⟩ := r.dt
    obtain ⟨C2, h2, d2⟩ := RowsT.dt t
    refine ⟨C1 ++ C2, fun x hx => ?_, .cons (d1.mono fun x hx => List.mem_append_left _ hx) (d2.mono fun x hx => List.mem_append_right _ hx)⟩
    rcases List.mem_append.mp hx with z | z
    · exact h1 x z
    · exact h2 x z
theorem RowsT.data {H : Hp} {l : Addr} {ts : List Addr} {ss : Steps} (hl : H l = some (.lst (ts.map V.ref))) (h : RowsT H ts ss) : ∃ C : List Cell, (∀ x ∈ C, H x.1 = some x.2) ∧ Dt C (.ref l) (rowsDT ss) := by
  obtain ⟨C, h1, d1⟩ := h.dt
  refine ⟨(l, .lst (ts.map V.ref)) :: C, fun x hx => ?_, .lst (.head _) (d1.mono fun x hx => .tail _ hx)⟩
  rcases List.mem_cons.mp hx with z | z
  · subst z; exact hl
  · exact h1 x z
def smallS (s : Int × Bool × Option Int) : Prop := s.1.natAbs < 2 ^ 190 ∧ ∀ g, s.2.2 = some g → g.natAbs < 2 ^ 190
def ltC (C x dx ln : Addr) (room : Int) (T : Ts) : List Cell := [(x, HO.ins C dx (lf room true ln)), (ln, .dT (LT T))]
def spLInitT (C : Addr) : Sp := fun vs H Q _ => ∃ (x dx : Addr) (room : Int), vs = [.ref x, .int room, .bl true] ∧ H x = some (.ins C dx []) ∧
  ∀ (ln : Addr) (H' : Hp), Moves [(x, HO.ins C dx [])] H (ltC C x dx ln room []) H' → Q .non H'
def spLAskT (C : Addr) : Sp := fun vs H Q _ => ∃ (x dx ln b : Addr) (room e i : Int) (T : Ts), vs = [.ref x, .ref b] ∧ Own (ltC C x dx ln room T) H ∧ H b = some (.tup (tupOf e)) ∧ (T.map (·.1)).Nodup ∧ T.length < 2000 ∧ 1 ≤ room ∧
  ∀ (t : Addr) (gv : V) (H' : Hp), Moves (ltC C x dx ln room T) H (ltC C x dx ln room (askT room true T i e).1) H' → H t = none → H' t = some (.tup [.ref b, .str (wordB (askT room true T i e).2.1), gv]) → GoneAt H' (askT room true T i e).2.2 gv → Q (.ref t) H'
def spEmptyT (C : Addr) : Sp := fun vs H Q _ => ∃ (tr : V) (room : Int), vs = [tr, .int room, .str "last"] ∧
  ∀ (x dx ln : Addr) (H' : Hp), New H H' (ltC C x dx ln room []) → Same H H' → Q (.ref x) H'
def segF : Nat → List (List Int) → Nat → Nat → List Int
  | _, [], _, _ => []
  | j, z :: r, s, n => ((z.drop s).take n).map (encJ (j : Nat)) ++ segF (j + 1) r s n
def ordN (lot : List (List Int)) (n : Nat) : Nat → List Int
  | 0 => []
  | k + 1 => ordN lot n k ++ segF 0 lot (k * n) n
def rMinQ (K : PySem.W.Frag) : List V → Hp → VK → Prop := fun vs H Q => ∃ (a : Addr) (ts : List Addr) (f : Addr → Int) (la : Addr → Addr), vs = [V.ref a] ∧ SqL K H a (ts.map V.ref) ∧ 0 < ts.length ∧ (∀ t ∈ ts, H t = some (.tup [.int (f t), .ref (la t)])) ∧
  (∀ t ∈ ts, ∀ t' ∈ ts, f t = f t' → la t = la t') ∧ ∀ t ∈ ts, (∀ t' ∈ ts, f t ≤ f t') → Q (.ref t) H
def ordE (lot : List (List Int)) (n : Nat) : List Int := ordN lot n 300
def totN (lot : List (List Int)) : Nat := (lot.map List.length).sum
theorem RgC.up {j c : Int} (h0 : 0 ≤ j) (h1 : j < 2 ^ 40) (c1 : 1 ≤ c) (c2 : c < 1073741824) : ∃ N : Nat, RgC 0 j c N ∧ j ≤ N * c ∧ (N : Int) ≤ j := by
  have e := rangeSize_pos (len := j) c1 h0
  have q0 : 0 ≤ (j + c - 1) / c := Int.ediv_nonneg (by omega) (by omega)
  have q1 : (j + c - 1) / c ≤ j := by
    by_cases hj : j = 0
    · subst hj
      rw [Int.ediv_eq_zero_of_lt (by omega) (by omega)]; omega
    · refine Int.le_of_lt_add_one (Int.ediv_lt_of_lt_mul (by omega) ?_)
      have : j * 1 ≤ j * c := Int.mul_le_mul_of_nonneg_left c1 h0
      rw [Int.add_mul]
      omega
  obtain ⟨N, hN⟩ := Int.eq_ofNat_of_zero_le q0
  refine ⟨N, ⟨by omega, by omega, ?_, by rw [e, hN]⟩, ?_, by omega⟩
  · unfold Builtin.Range.small
    rw [e]
    have f : ∀ x : Int, -(2 ^ 63) ≤ x → x < 2 ^ 63 → Builtin.Range.rangeFitsLong x = true := fun x a b => by
      unfold Builtin.Range.rangeFitsLong
      simp
      omega
    simp only [Bool.and_eq_true, Bool.or_eq_true]
    refine ⟨⟨⟨⟨f _ (by omega) (by omega), f _ (by omega) (by omega)⟩, f _ (by omega) (by omega)⟩, f _ (by omega) (by omega)⟩, .inr ?_⟩
    rw [if_pos (by omega)]
    exact f _ (by omega) (by omega)
  · have := Int.lt_ediv_add_one_mul_self (j + c - 1) (show 0 < c by omega)
    rw [hN] at this
    have e2 : ((N : Int) + 1) * c = N * c + c := by rw [Int.add_mul]; omega
    change j + c - 1 < ((N : Int) + 1) * c at this
    omega
def keyZ (z : Addr × Int) : Cell := (z.1, HO.tup (tupOf z.2))
def spInTurns : Sp := fun vs H Q _ => ∃ (t : Addr) (lot : List Row) (n : Nat), vs = [.ref t, .int (n : Nat)] ∧ H t = some (.lst (refR lot)) ∧ RowsAt H lot ∧ (∀ z ∈ lot, z.2.length ≤ 200) ∧ lot.length ≤ 7 ∧ 1 ≤ n ∧ n ≤ 1000 ∧
  ∀ (l : Addr) (ws : List (Addr × Int)) (H' : Hp), ws.map (·.2) = ordE (lot.map (·.2)) n → New H H' ((l, HO.lst (ws.map fun z => V.ref z.1)) :: ws.map keyZ) → Same H H' → Q (.ref l) H'
def spLoose : Sp := fun vs H Q _ => ∃ (t : Addr) (lot : List Row) (m : Int) (n : Nat), vs = [.ref t, .int m, .int (n : Nat)] ∧ H t = some (.lst (refR lot)) ∧ RowsAt H lot ∧ (∀ z ∈ lot, z.2.length ≤ 200) ∧ lot.length ≤ 7 ∧ 1 ≤ m ∧ 1 ≤ n ∧ n ≤ 1000 ∧
  ∀ (l : Addr) (ts : List Addr) (H' : Hp), H l = none → H' l = some (.lst (ts.map V.ref)) → RowsT H' ts (runT m true [] 0 (ordE (lot.map (·.2)) n)) → Same H H' → Q (.ref l) H'
end Pg
end
section
set_option Elab.async false
set_option linter.all false
set_option maxRecDepth 100000
set_option maxHeartbeats 4000000
namespace Pg
open PySem PySem.Spec PyProof.Rows L2 PySem.W
theorem rd_itup {σ : L2.St} {H : Hp} {K : PySem.W.Frag} {tl : TE} {R : It → Hp → Prop} (q : tl σ H fun x H1 => ∃ a, x = .ref a ∧ (∃ xs, SqT K H1 a xs) ∧ R (Itt K a) H1) : iTup K tl σ H R := q
def atL (n len i j : Nat) : List Int := (List.range len).map fun q => (((if q < j then i + 1 else i) * n : Nat) : Int)
def PrsT (H : Hp) (ts : List Addr) (D : Ts) : Prop := Paired (fun t (z : Int × Int) => ∃ q, H t = some (.tup [.int z.2, .ref q]) ∧ H q = some (.tup (tupOf z.1))) ts D
theorem PrsT.imp {H H' : Hp} : ∀ {ts : List Addr} {D : Ts}, PrsT H ts D → Tups H H' → PrsT H' ts D
  | _, _, .nil, _ => .nil
  | _, _, .cons ⟨q, h1, h2⟩ t, f => .cons ⟨q, f _ _ h1, f _ _ h2⟩ (PrsT.imp t f)
theorem PrsT.snoc {H : Hp} : ∀ {ts : List Addr} {D : Ts} {a q : Addr} {z : Int × Int}, PrsT H ts D → H a = some (.tup [.int z.2, .ref q]) → H q = some (.tup (tupOf z.1)) → PrsT H (ts ++ [a]) (D ++ [z])
  | _, _, _, _, _, .nil, h, h' => .cons ⟨_, h, h'⟩ .nil
  | _, _, _, _, _, .cons r t, h, h' => .cons r (PrsT.snoc t h h')
theorem PrsT.len {H : Hp} : ∀ {ts : List Addr} {D : Ts}, PrsT H ts D → ts.length = D.length
  | _, _, .nil => rfl
  | _, _, .cons r t => by simp [PrsT.len t]
theorem PrsT.fst {H : Hp} : ∀ {ts : List Addr} {D : Ts} {t : Addr}, PrsT H ts D → t ∈ ts → ∃ z ∈ D, ∃ q, H t = some (.tup [.int z.2, .ref q]) ∧ H q = some (.tup (tupOf z.1))
  | _, _, t, .cons (a := a) (b := z) r q, h => by
    rcases List.mem_cons.mp h with e | h
    · subst e; exact ⟨z, List.mem_cons_self, r⟩
    · obtain ⟨z', m, e⟩ := PrsT.fst q h
      exact ⟨z', List.mem_cons_of_mem _ m, e⟩
def prT (H : Hp) (t : Addr) : Int × Addr := match H t with
  | some (.tup [.int x, .ref y]) => (x, y)
  | _ => (0, 0)
theorem prT_at {H : Hp} {t q : Addr} {x : Int} (h : H t = some (.tup [.int x, .ref q])) : prT H t = (x, q) := by unfold prT; rw [h]
theorem PrsT.pr {H : Hp} {ts : List Addr} {D : Ts} (h : PrsT H ts D) (t : Addr) (m : t ∈ ts) : H t = some (.tup [.int (prT H t).1, .ref (prT H t).2]) := by
  obtain ⟨z, _, q, e, _⟩ := h.fst m
  rw [prT_at e]; exact e
theorem PrsT.one {H : Hp} : ∀ {ts : List Addr} {D : Ts}, PrsT H ts D → (D.map (·.2)).Nodup → ∀ t ∈ ts, ∀ t' ∈ ts, (prT H t).1 = (prT H t').1 → t = t'
  | [], [], .nil, _ => fun t h => by simp at h
  | a :: as, z :: bs, .cons ⟨q, h1, h2⟩ r, nd => by
    have nd' := List.nodup_cons.mp (show (z.2 :: bs.map (·.2)).Nodup from nd)
    have far : ∀ t ∈ as, (prT H t).1 ≠ z.2 := fun t ht e => by
      obtain ⟨y, hy, q', e1, _⟩ := PrsT.fst r ht
      rw [prT_at e1] at e
      exact nd'.1 (List.mem_map.mpr ⟨y, hy, e⟩)
    intro t ht t' ht' e
    rcases List.mem_cons.mp ht with x | x <;> rcases List.mem_cons.mp ht' with y | y
    · rw [x, y]
    · subst x; rw [prT_at h1] at e; exact absurd e.symm (far _ y)
    · subst y; rw [prT_at h1] at e; exact absurd e (far _ x)
    · exact PrsT.one r nd'.2 t x t' y e
structure SideL where
  tp : Addr
  l : Addr
  rows : List Row
  m : Int
  n : Nat
def SideL.cells (s : SideL) : List Cell := (s.tp, .tup [.ref s.l, .int s.m, .int (s.n : Nat)]) :: (s.l, .lst (refR s.rows)) :: s.rows.map rowZ
def SideL.data (s : SideL) : PyData := .tuple [rowsP (s.rows.map (·.2)), .int s.m, .int (s.n : Nat)]
theorem SideL.dt {C : List Cell} {s : SideL} (h : ∀ x ∈ s.cells, x ∈ C) : Dt C (.ref s.tp) s.data :=
  .tup (h _ (.head _)) (.cons (.lst (h _ (.tail _ (.head _))) (rows_dt fun z hz => h _ (.tail _ (.tail _ (List.mem_map_of_mem hz))))) (.cons (.int _) (.cons (.int _) .nil)))
theorem nodes_ints' : ∀ r : List Int, nodesAll (r.map PyData.int) = r.length
  | [] => by simp [nodesAll]
  | x :: r => by
    have := nodes_ints' r
    simp only [List.map_cons, nodesAll, nodes, List.length_cons]
    omega
theorem nodes_rowsP {rows : List (List Int)} {m : Nat} (h : ∀ r ∈ rows, r.length ≤ m) : nodes (rowsP rows) ≤ 1 + (m + 1) * rows.length := by
  have : nodesAll (rows.map fun r => PyData.list (r.map PyData.int)) ≤ (m + 1) * rows.length := by
    have := nodesAll_le (xs := rows.map fun r => PyData.list (r.map PyData.int)) (m := m + 1) fun x hx => by
      obtain ⟨r, hr, rfl⟩ := List.mem_map.mp hx
      have := h r hr
      simp only [nodes, nodes_ints']
      omega
    simpa using this
  unfold rowsP
  simp only [nodes]
  omega
def lotOk (z : Row) : Prop := z.2.length ≤ 200 ∧ pagesIn z.2
def gL1 {α : Type} : List α → List α → List α
  | [x, y], [z] => [x, y, z]
  | _, _ => []
def gL2 {α : Type} : List α → List α → List α
  | [], [z, y, x] => [x, y, z]
  | _, _ => []
def SideL.ok (s : SideL) : Prop := s.rows.length ≤ 6 ∧ (∀ z ∈ s.rows, lotOk z) ∧ 1 ≤ s.m ∧ s.m ≤ 64 ∧ 1 ≤ s.n ∧ s.n ≤ 300
def SideL.steps (s : SideL) : Steps := runT s.m true [] 0 (ordE (s.rows.map (·.2)) s.n)
theorem SideL.nodes {s : SideL} (h : s.ok) : Pg.nodes s.data ≤ 1500 := by
  obtain ⟨h1, h2, _⟩ := h
  have := nodes_rowsP (rows := s.rows.map (·.2)) (m := 200) fun r hr => by
    obtain ⟨z, hz, rfl⟩ := List.mem_map.mp hr
    exact (h2 z hz).1
  rw [List.length_map] at this
  unfold SideL.data
  simp only [Pg.nodes, nodesAll]
  omega
def revR (i : Nat) (rows : List Row) : List Row := (rows.take i).map (fun z => (z.1, z.2.reverse)) ++ rows.drop i
end Pg
end
section
set_option Elab.async false
set_option linter.all false
set_option maxRecDepth 100000
set_option maxHeartbeats 400000
namespace Pg
open PySem PySem.Spec PyProof.Rows L2 PySem.W
def cntF (R : Steps) (k : Nat) : Nat := R.countP fun s => !s.2.1 && decide (s.1 % 8 = (k : Int))
def cntsL (R : Steps) (many : Nat) : List Int := (List.range many).map fun k => (cntF R k : Int)
def spCounts : Sp := fun vs H Q _ => ∃ (l : Addr) (ts : List Addr) (R : Steps) (many : Nat), vs = [.ref l, .int (many : Nat)] ∧ H l = some (.lst (ts.map V.ref)) ∧ RowsT H ts R ∧ R.length ≤ 1400 ∧ many ≤ 7 ∧
  ∀ (c : Addr) (H' : Hp), New H H' [(c, .lst ((cntsL R many).map V.int))] → Same H H' → Q (.ref c) H'
def spLooseF : Sp := fun vs H Q _ => ∃ (t : Addr) (lot : List Row) (m : Int) (n : Nat), vs = [.ref t, .int m, .int (n : Nat)] ∧ H t = some (.lst (refR lot)) ∧ RowsAt H lot ∧ (∀ z ∈ lot, z.2.length ≤ 200) ∧ lot.length ≤ 7 ∧ 1 ≤ m ∧ 1 ≤ n ∧ n ≤ 1000 ∧
  ∀ (l : Addr) (H' : Hp), New H H' [(l, .lst ((cntsL (runT m true [] 0 (ordE (lot.map (·.2)) n)) lot.length).map V.int))] → Same H H' → Q (.ref l) H'
section
variable {J : Hp → Prop} {O S : List Addr} {H0 H : Hp} {L : List Cell} {Q : VK} {E : XK} {l : Addr} {rows : List Row} {m : Int} {n : Nat}
end
end Pg
end
section
set_option Elab.async false
set_option linter.all false
set_option maxRecDepth 100000
set_option maxHeartbeats 400000
namespace Pg
open PySem PySem.Spec PyProof.Rows L2
def ErrS (H : Hp) (C : Addr) (v : V) (E : XK) : Prop := ∀ H1 x dx, Same H H1 → H1 x = none → H1 dx = none → dx ≠ x → E (.ref x) (some dx) (errH H1 x C dx v)
theorem ErrS.at {H H1 : Hp} {C : Addr} {v : V} {E : XK} (h : ErrS H C v E) (s : Same H H1) : ErrE H1 C v E := fun x dx a b c => h H1 x dx s a b c
theorem ErrS.on {H H1 : Hp} {C : Addr} {v : V} {E : XK} (h : ErrS H C v E) (s : Same H H1) : ErrS H1 C v E := fun H2 x dx s2 a b c => h H2 x dx (s.trans s2) a b c
def EhS (G : Addr → V → Prop) : L2.St → Hp → L2.St → XK := fun σ0 H0 σ' v d H' => σ' = σ0 ∧ ∃ H1 x dx C w, Same H0 H1 ∧ v = .ref x ∧ d = some dx ∧ H1 x = none ∧ H1 dx = none ∧ dx ≠ x ∧ G C w ∧ H' = errH H1 x C dx w
theorem EhS.of {G : Addr → V → Prop} {σ0 : L2.St} {H0 H : Hp} {C : Addr} {v : V} (s : Same H0 H) (g : G C v) : ErrS H C v (EhS G σ0 H0 σ0) := fun H1 x dx s1 hx hd hn => ⟨rfl, H1, x, dx, C, v, s.trans s1, rfl, rfl, hx, hd, hn, g, rfl⟩
section
variable {X : Cx} {CX : CXT} {k : Nat} {f C : Addr} {fd : FuncData} {ps ks : List Str} {sp : Sp} {dvs : List V} {ds : List Value} {E : L2.St → XK} {x m : Str} {p pos apos : Pos} {e o : Expr} {es : List Expr} {kws : List Keyword} {ta : TE} {t tk : TA} {g : List Value → List Value → List Value} {gV : List V → List V → List V}
theorem pe_callKS (F : FnOk X.prog X.w X.K X.mg X.base CX k f fd ps sp) (hr : Room k X.A) (hg : Gl X x) (hm : X.mg x = some (.ref f)) (hk : PySem.W.keepIn X.K (.ref f) = true) (hb : KBinds X.K fd ps ks g gV) (hx : PassesS CX X E)
    (ha : PA X (e :: es) t) (hkw : PK X kws tk) (hall : (backToKw pos (keywordEach kws X.env)).all (·.1.isSome) = true := by rfl) (hks : (backToKw pos (keywordEach kws X.env)).filterMap (·.1) = ks := by rfl)
    (hdb : (x == ("__debug__" : Str)) = false := by decide) (he : starEach (e :: es) X.env = (false, eval e X.env) :: starEach es X.env := by rfl)
    (hpl : ((backTo pos (starEach (e :: es) X.env)).any (·.1) || (backToKw pos (keywordEach kws X.env)).any (·.1.isNone)) = false := by rfl) :
    PE X (.Call (.Name x p) (e :: es) kws pos) (tCallKS sp gV E t tk) := by
  intro pins s σ H Q I h
  refine wpAny_Call_Name_kw (ld_glob I hg hm ?_ hdb)
  refine PySem.W.callWith_KW (h₀ := X.base) I.ok.mod.kin hk hall (thn (ha pos pins s σ H _ I h) fun us s1 ⟨vs, H1, I1, r, q⟩ => ?_) hpl he
  refine thn (hkw pos pins s1 σ H1 _ I1 q) fun ws s2 ⟨zs, H2, I2, rz, q2⟩ => ⟨I2.kIn, ?_⟩
  rw [hks]
  exact run_fnkS F hr hb hx I2 r rz q2
end
def sForBad (te : TE) : TS := fun D σ H => te σ H fun _ _ => False
def dueL (m n : Int) : List V := if m < 1 then [.str "room", .int m] else if n < 1 then [.str "size", .int n] else [.str "told", .bl true]
def dueD (m n : Int) : PyData := .list (if m < 1 then [.str "room", .int m] else if n < 1 then [.str "size", .int n] else [.str "told", .bool true])
end Pg
end
section
set_option Elab.async false
set_option linter.all false
set_option maxRecDepth 100000
set_option maxHeartbeats 4000000
namespace Pg
open PySem PySem.Spec PyProof.Rows L2 PySem.W
section
variable {prog : Program} {w : World} {A : Around} {E : Value → Shared → Prop} {s : Shared}
end
section
variable {X : Cx} {pos : Pos}
def gTupL (K : PySem.W.Frag) (n : Nat) (t : TGs) : TG := fun v σ H Q => ∃ a xs, v = .ref a ∧ SqL K H a xs ∧ xs.length = n ∧ t xs σ H Q
variable {CX : CXT} {k : Nat} {f C : Addr} {fd : FuncData} {ps ks : List Str} {sp : Sp} {E : XK} {x : Str} {p : Pos} {e : Expr} {es : List Expr} {kws : List Keyword} {t tk : TA} {g : List Value → List Value → List Value} {gV : List V → List V → List V}
def tMakeK (C : Addr) (sp : Sp) (gV : List V → List V → List V) (E : XK) (t tk : TA) : TE := fun σ H Q => t σ H fun vs H1 => tk σ H1 fun zs H2 => ∀ x dx, H2 x = none → H2 dx = none → dx ≠ x → sp (gV (.ref x :: vs) zs) (upd (upd H2 dx (.own x)) x (.ins C dx [])) (fun v H3 => v = .non ∧ Q (.ref x) H3) E
end
end Pg
end
section
set_option Elab.async false
set_option linter.all false
set_option maxRecDepth 100000
set_option maxHeartbeats 4000000
namespace Pg
open PySem PySem.Spec PyProof.Rows L2
section
variable {X : Cx} {CX : CXT} {k : Nat} {f C : Addr} {fd : FuncData} {ps ks : List Str} {sp : Sp} {dvs : List V} {ds : List Value} {E : L2.St → XK} {x : Str} {p pos : Pos} {e : Expr} {es : List Expr} {kws : List Keyword} {t tk : TA} {g : List Value → List Value → List Value} {gV : List V → List V → List V}
def tMakeS (C : Addr) (sp : Sp) (dvs : List V) (E : L2.St → XK) (t : TA) : TE := fun σ H Q => t σ H fun vs H2 => ∀ x dx, H2 x = none → H2 dx = none → dx ≠ x → sp (.ref x :: (vs ++ dvs)) (upd (upd H2 dx (.own x)) x (.ins C dx [])) (fun v H3 => v = .non ∧ Q (.ref x) H3) (E σ)
def tMakeKS (C : Addr) (sp : Sp) (gV : List V → List V → List V) (E : L2.St → XK) (t tk : TA) : TE := fun σ H Q => t σ H fun vs H1 => tk σ H1 fun zs H2 => ∀ x dx, H2 x = none → H2 dx = none → dx ≠ x → sp (gV (.ref x :: vs) zs) (upd (upd H2 dx (.own x)) x (.ins C dx [])) (fun v H3 => v = .non ∧ Q (.ref x) H3) (E σ)
end
def tNFld (K : PySem.W.Frag) (ta : TE) (f : Str) : TE := fun σ H Q => ta σ H fun v H1 => ∃ x C g dx fs y, v = .ref x ∧ ECls K C g ∧ NoAttr K C f ∧ H1 x = some (ExcN x C (some dx)) ∧ H1 dx = some (.xd fs) ∧ fs.lookup f = some y ∧ Q y H1
theorem pe_nfld {X : Cx} {e : Expr} {f : Str} {pos : Pos} {ta : TE} (he : PE X e ta) (hb : attributeBase e f X.env (eval e X.env) = eval e X.env) : PE X (.Attribute e f pos) (tNFld X.K ta f) := by
  intro pins s σ H Q I h
  refine attr_of hb (thn (he pins s σ H _ I h) fun u s1 ⟨v, H1, I1, rv, x, C, g, dx, fs, y, ev, M, n, hx, hd, hl, q⟩ => ?_)
  subst ev
  obtain rfl : u = Value.ref x := rv
  obtain ⟨⟨vs, a0, e1, z⟩, _, _⟩ := I1.hok x _ hx
  obtain ⟨mA, hn, hr⟩ := I1.hok dx _ hd
  obtain ⟨od, ho, hlk⟩ := lookIn_ns hn
  obtain ⟨cd, hc, hov⟩ := PySem.W.any_some M.ov
  rw [Bool.and_eq_true] at hov
  have r := hr f
  rw [hl] at r
  obtain ⟨u, hu, ru⟩ : ∃ u, mA f = some u ∧ RelV y u := by
    cases q : mA f with
    | none => rw [q] at r; exact absurd r (by first | exact id | simp [RelO])
    | some u => rw [q] at r; exact ⟨u, rfl, r⟩
  have J : PySem.W.InstAt s1.heap x { cls := .ref C, dict := some dx, data := .fields vs } C (some od) := ⟨e1, rfl, rfl, ho⟩
  exact exc_get I1.kIn J hc (overB_base hov.1) M.ga M.gr (PySem.W.findObj_own (by unfold PySem.W.hasDictIn; rw [hc]; exact hov.2) n rfl (by rw [hlk, hu])) (handed_of ru) ⟨y, H1, I1.tok _, ru, q⟩
end Pg
end
section
set_option Elab.async false
set_option linter.all false
set_option maxRecDepth 100000
set_option maxHeartbeats 4000000
namespace PySem
section
variable {prog : Program} {w : World} {A : Around} {R : Result → Shared → Prop} {h : Heap} {g : Array GenState} {d : Drawn} {t : Nat} {os : OsState} {kw : List (Str × Value)}
variable {nm q : Str} {C N f : Addr} {bs bm bmB : List Value} {hdct : Bool} {sn : List Str} {sub : List Value} {ab : Bool} {col : Option Bool} {dd : Option Addr} {k0 k1 k2 k3 k5 : Option Value} {B newId initId : String}
theorem kwn_check {M : Model} {E : Value → Shared → Prop} (F : ExcBaseFacts B newId initId bmB) (T : OwnTail h bmB bm) {rest : List Value} {Q : Unit → Shared → Prop} (hC : h.get? C = some (excClassObj nm q C N bs bm hdct sn sub ab col dd k0 k1 k2 k3 k5 newId)) (hq : Q () ⟨h, g, d, t, os⟩) :
    wpAny M A (checkBuiltinCall newId ⟨.ref C :: rest, kw⟩) Q E ⟨h, g, d, t, os⟩ := by
  have hcont : (Value.ref C :: bm).contains (.type B) = true := by rw [List.contains_cons, T.hasType F.hasB, Bool.or_true]
  have hstar := F.noStar
  simp only [checkBuiltinCall, F.newKind, F.newSplit, F.newRow]
  repeat (first | refine wpAny_loadPart_at hC ?_ | (refine wpAny_isSubtype_exc hC ?_; rw [hcont]) | refine wpAny_staticBase_exc hC ?_ | refine wpAny_madeBy_exc hC ?_ | simp only [bne_self_eq_false, Bool.false_eq_true, if_false] | wp_step)
  exact hq
theorem kwn_new (F : ExcBaseFacts B newId initId bmB) (T : OwnTail h bmB bm) {rest : List Value} (hC : h.get? C = some (excClassObj nm q C N bs bm hdct sn sub ab col dd k0 k1 k2 k3 k5 newId))
    (hq : R (.ok (.ret (.ref (h.objs.size + 1)))) ⟨(h.push { cls := .type "tuple", data := .seq rest.toArray }).push { cls := .ref C, data := .fields #[.ref h.objs.size, .none, .none, .none, .bool false, .none] }, g, d, t, os⟩) (hrest : rest.length ≤ sizeLine) :
    codeAny (model prog w) A (.builtin newId ⟨.ref C :: rest, kw⟩) R ⟨h, g, d, t, os⟩ := by
  have hends := F.ends
  have hcB : (Value.ref C :: bm).contains (.type B) = true := by rw [List.contains_cons, T.hasType F.hasB, Bool.or_true]
  have hcA : (Value.ref C :: bm).contains (.type "AttributeError") = false := by rw [List.contains_cons, T.hasType F.noAttr]; rfl
  have hcN : (Value.ref C :: bm).contains (.type "NameError") = false := by rw [List.contains_cons, T.hasType F.noName]; rfl
  refine codeAny_builtinAt F.entry ?_
  unfold Builtin.«BaseException.__new__»
  refine wpAt_bind ?_
  show wpAt _ _ _ (stack >>= _) _ _ _
  refine wpAt_bind (wpAt_stack fun p below => wpAt_of_wpAny ?_)
  wp_walk
  refine wpAt_of_wpAny ?_
  rw [F.owner]
  repeat (first | with_reducible refine wpAny_madeHere_exc F.canon hC ?_ | with_reducible refine wpAny_loadPart_at hC ?_ | (with_reducible refine wpAny_isSubtype_exc hC ?_; first | rw [hcB] | rw [hcA] | rw [hcN]) | wp_step)
  show R _ _
  rw [Heap.size_push]
  exact hq
theorem kwn_tc (F : ExcBaseFacts B newId initId bmB) (T : OwnTail h bmB bm) {rest : List Value} (hC : h.get? C = some (excClassObj nm q C N bs bm hdct sn sub ab col dd k0 k1 k2 k3 k5 newId))
    (hi : W.Looks (model prog w) h (typeLookup (.ref C) "__init__") (some (.ref f))) (hb : ∀ self, W.Looks (model prog w) h (bindSpecial (.ref f) self) (.ref f, [self])) (hrest : rest.length ≤ sizeLine)
    {Q : Fin → Shared → Prop} {E : Value → Shared → Prop}
    (hq : codeAny (model prog w) A (.call (.ref f) ⟨.ref (h.objs.size + 1) :: rest, kw⟩) (fun r s' => match r with | .ok (.ret v) => v = .none ∧ Q (.done (.ret (.ref (h.objs.size + 1)))) s' | .error e => E e s' | _ => False)
      ⟨(h.push { cls := .type "tuple", data := .seq rest.toArray }).push { cls := .ref C, data := .fields #[.ref h.objs.size, .none, .none, .none, .bool false, .none] }, g, d, t, os⟩) :
    wpAny (model prog w) A (Builtin.«type.__call__» ⟨.ref C :: rest, kw⟩) Q E ⟨h, g, d, t, os⟩ := by
  repeat (first | with_reducible refine wpAny_loadPart_at hC ?_ | with_reducible refine wpAny_madeBy_exc hC ?_ | wp_step)
  refine codeAny_call_builtin_code (Code.quiet_builtin _ F.quiet) (kwn_check F T hC ?_)
  refine kwn_new F T hC ?_ hrest
  show wpAny _ _ _ _ _ _
  have k : ∀ b o, h.get? b = some o → ((h.push { cls := .type "tuple", data := .seq rest.toArray }).push { cls := .ref C, data := .fields #[.ref h.objs.size, .none, .none, .none, .bool false, .none] }).get? b = some o := fun b o e => Heap.get?_push_of_some _ (Heap.get?_push_of_some _ e)
  have hC1 := k _ _ hC
  have hget : ((h.push { cls := .type "tuple", data := .seq rest.toArray }).push { cls := .ref C, data := .fields #[.ref h.objs.size, .none, .none, .none, .bool false, .none] }).get? (h.objs.size + 1) = some { cls := .ref C, data := .fields #[.ref h.objs.size, .none, .none, .none, .bool false, .none] } := by heap_get
  have hcC : (Value.ref C :: bm).contains (.ref C) = true := by simp
  unfold isInstance
  repeat (first | with_reducible refine wpAny_loadPart_at hget ?_ | (with_reducible refine wpAny_isSubtype_exc hC1 ?_; rw [hcC]) | wp_step)
  show wpAny _ _ (typeLookup (.ref C) _) _ _ _
  refine (hi.keeps k).at ?_
  refine wpAny_holding (wpAny_bind (((hb _).keeps k).at ?_))
  refine wpAny_bind (wpAny_call (codeAny_mono hq fun r s' z => ?_))
  rcases r with e | (v | _ | _ | _) <;> first | exact z | exact z.elim | skip
  obtain ⟨rfl, z⟩ := z
  exact wpAny_pure (wpAny_pure z)
theorem kwn_typecall {M : Model} {E : Value → Shared → Prop} {rest : List Value} {Q : Unit → Shared → Prop} (hC : h.get? C = some (excClassObj nm q C N bs bm hdct sn sub ab col dd k0 k1 k2 k3 k5 newId)) (hq : Q () ⟨h, g, d, t, os⟩) :
    wpAny M A (checkBuiltinCall "type.__call__" ⟨.ref C :: rest, kw⟩) Q E ⟨h, g, d, t, os⟩ := by
  have f3 := tc_sub
  have hT : (⟨h, g, d, t, os⟩ : Shared).TypeIs (.ref C) "type" := ⟨_, hC, rfl⟩
  simp only [checkBuiltinCall, tc_kind, tc_split]
  repeat (any_goals (first | assumption | with_reducible refine wpAny_loadPart_at hC ?_ | with_reducible refine wpAny_onRaise ?_ | with_reducible refine wpAny_map ?_ | wp_step))
theorem kwn_make (F : ExcBaseFacts B newId initId bmB) (T : OwnTail h bmB bm) {rest : List Value} (hC : h.get? C = some (excClassObj nm q C N bs bm hdct sn sub ab col dd k0 k1 k2 k3 k5 newId))
    (hi : W.Looks (model prog w) h (typeLookup (.ref C) "__init__") (some (.ref f))) (hb : ∀ self, W.Looks (model prog w) h (bindSpecial (.ref f) self) (.ref f, [self])) (hrest : rest.length ≤ sizeLine)
    (hq : codeAny (model prog w) (A.under (.builtin "type.__call__" ⟨.ref C :: rest, kw⟩)) (.call (.ref f) ⟨.ref (h.objs.size + 1) :: rest, kw⟩) (W.InitBack (h.objs.size + 1) R)
      ⟨(h.push { cls := .type "tuple", data := .seq rest.toArray }).push { cls := .ref C, data := .fields #[.ref h.objs.size, .none, .none, .none, .bool false, .none] }, g, d, t, os⟩) :
    codeAny (model prog w) A (.call (.ref C) ⟨rest, kw⟩) R ⟨h, g, d, t, os⟩ := by
  have f1 := tc_lookup
  have f2 := tc_bind (.ref C)
  have hT : (⟨h, g, d, t, os⟩ : Shared).TypeIs (.ref C) "type" := ⟨_, hC, rfl⟩
  refine codeAny_of_tree ?_
  show wpAny _ _ (callAny (.ref C) _) _ _ _
  repeat (any_goals (first | assumption | with_reducible refine wpAny_loadPart_at hC ?_ | wp_step))
  refine ⟨rfl, ?_⟩
  refine codeAny_call_builtin_at (Code.quiet_builtin _ (by decide +kernel)) entry_typeCall (kwn_typecall hC (kwn_tc F T hC hi hb hrest ?_))
  refine codeAny_mono hq fun r s' z => ?_
  rcases r with e | (v | _ | _ | _) <;> exact z
end
end PySem
namespace Pg
open PySem PySem.Spec PyProof.Rows L2
section
variable {X : Cx} {CX : CXT} {k : Nat} {f C : Addr} {fd : FuncData} {ps ks : List Str} {sp : Sp} {E : XK} {g : List Value → List Value → List Value} {gV : List V → List V → List V}
def tEMakeK (C : Addr) (sp : Sp) (gV : List V → List V → List V) (E : XK) (tk : TA) : TE := fun σ H Q => tk σ H fun zs H1 => ∀ x, H1 x = none → sp (gV [.ref x] zs) (upd H1 x (ExcN x C none)) (fun v H2 => v = .non ∧ Q (.ref x) H2) E
theorem run_emakek {pins : List (Addr × Obj)} {σ : L2.St} {H : Hp} {s : Shared} {Q : VK} {ws : List Value} {zs : List V} (M : ECls X.K C f) (F : FnOk X.prog X.w X.K X.mg X.base CX k f fd ps sp) (hr : Room (k + 1) X.A) (hb : KBinds X.K fd ps ks g gV)
    (hx : Passes CX X E) (I : Inv X pins σ H s) (rz : Vals zs ws)
    (h : ∀ x, H x = none → sp (gV [.ref x] zs) (upd H x (ExcN x C none)) (fun v H2 => v = .non ∧ Q (.ref x) H2) E) :
    wpAny (model X.prog X.w) X.A (call (.ref C) [] (ks.zip ws)) (EP X pins σ Q) X.xe s := by
  have hq := h (s.heap.objs.size + 1) (I.hok.fresh (Nat.le_succ _))
  have I1 : Inv X pins σ H { s with heap := s.heap.push { cls := .type "tuple", data := .seq ([] : List Value).toArray } } := I.kept (t' := s.toks) fun b u e => Heap.get?_push_of_some _ e
  have e2 : ((s.heap.push { cls := .type "tuple", data := .seq ([] : List Value).toArray }).push { cls := .ref C, data := .fields #[.ref s.heap.objs.size, .none, .none, .none, .bool false, .none] }).get? (s.heap.objs.size + 1) = some { cls := .ref C, data := .fields #[.ref s.heap.objs.size, .none, .none, .none, .bool false, .none] } := by heap_get
  have I2 : Inv X pins σ (upd H (s.heap.objs.size + 1) (ExcN (s.heap.objs.size + 1) C none)) { s with heap := (s.heap.push { cls := .type "tuple", data := .seq ([] : List Value).toArray }).push { cls := .ref C, data := .fields #[.ref s.heap.objs.size, .none, .none, .none, .bool false, .none] } } :=
    I1.laid (t' := s.toks) (fun b u e => Heap.get?_push_of_some _ e) (Nat.le_of_eq (Heap.size_push _ _)) (excN_ok e2 rfl rfl rfl rfl)
  have r2 := hb.rel (show Vals [V.ref (s.heap.objs.size + 1)] [Value.ref (s.heap.objs.size + 1)] from .cons rfl .nil) rz
  have hl : (g [Value.ref (s.heap.objs.size + 1)] ws).length = ps.length := by rw [← r2.length]; exact F.len _ _ _ _ hq
  obtain ⟨nm, qn, N, bs, bm, hdct, sn, sub, ab, col, dd, k0, k1, k2, k3, k5, hC, T⟩ := excF_of I.kIn M.ex
  refine wpAny_call (kwn_make PySem.F.excBase_ValueError T hC (PySem.W.looks_findIn I.kIn M.init) (fun self => PySem.W.bind_fn I.kIn self (beq_iff_eq.mp M.fn)) (by decide)
    (codeAny_mono (F.run _ X.stack _ _ ⟨[Value.ref (s.heap.objs.size + 1)], ks.zip ws⟩ (g [Value.ref (s.heap.objs.size + 1)] ws) _ _ E (hr.make C [] (ks.zip ws))
    (I2.env0.make C [] (ks.zip ws)) (hb.to _ [Value.ref (s.heap.objs.size + 1)] ws I2.kIn hl) r2 hq) fun r s' hq' => ?_))
  cases r with
  | error e => exact hx pins σ _ _ e s' I2 hq'
  | ok fl =>
    cases fl with
    | ret u =>
      obtain ⟨v, H', I3, rv, ev, q3⟩ := I2.after hq'
      subst ev
      exact ⟨rv, ⟨V.ref (s.heap.objs.size + 1), H', I3, rfl, q3⟩⟩
    | next => exact False.elim hq'
    | brk => exact False.elim hq'
    | cont => exact False.elim hq'
theorem pe_emakeK0 {x : Str} {p pos : Pos} {kws : List Keyword} {tk : TA} (M : ECls X.K C f) (F : FnOk X.prog X.w X.K X.mg X.base CX k f fd ps sp) (hr : Room (k + 1) X.A) (hg : Gl X x) (hm : X.mg x = some (.ref C)) (hb : KBinds X.K fd ps ks g gV) (hx : Passes CX X E)
    (hkw : PK X kws tk) (hall : (backToKw pos (keywordEach kws X.env)).all (·.1.isSome) = true := by rfl) (hks : (backToKw pos (keywordEach kws X.env)).filterMap (·.1) = ks := by rfl)
    (hdb : (x == ("__debug__" : Str)) = false := by decide) (hpl : ((backToKw pos (keywordEach kws X.env)).any (·.1.isNone)) = false := by rfl) :
    PE X (.Call (.Name x p) [] kws pos) (tEMakeK C sp gV E tk) := by
  intro pins s σ H Q I h
  refine wpAny_Call_Name_kw (ld_glob I hg hm ?_ hdb)
  refine PySem.W.callWith_KW0 (h₀ := X.base) I.ok.mod.kin M.kp hall ?_ hpl
  refine thn (hkw pos pins s σ H _ I h) fun ws s2 ⟨zs, H2, I2, rz, q2⟩ => ⟨I2.kIn, ?_⟩
  rw [hks]
  exact run_emakek M F hr hb hx I2 rz q2
end
end Pg
end
section
set_option Elab.async false
set_option linter.all false
set_option maxRecDepth 100000
set_option maxHeartbeats 4000000
namespace L2
open PySem PySem.Spec PyProof.Rows
section
variable {X : Cx}
def revS (z : Str) : Str := ⟨((Builtin.Str.strSliceIndices none none (-1) z.length).filterMap (z.cps[·]?)).toArray⟩
def tSRev (te ts : TE) : TE := fun σ H Q => te σ H fun x H1 => ts σ H1 fun k H2 => k = .int (-1) ∧ ∃ z, x = .str z ∧ (revS z).length ≤ sizeLine ∧ Q (.str (revS z)) H2
theorem pe_srev {e st : Expr} {te ts : TE} {p2 pos : Pos} (he : PE X e te) (hs : PE X st ts) : PE X (.Subscript e (.Slice none none (some st) p2) pos) (tSRev te ts) := by
  intro pins s σ H Q I h
  refine Subscript_ (thn (he pins s σ H _ I h) fun v s1 ⟨x, H1, I1, r1, q1⟩ => ?_)
  refine wpAny_Slice ?_
  rw [evalPart_none]
  refine wpAny_pure ?_
  refine wpAny_pure ?_
  rw [evalPart_some]
  refine thn (hs pins s1 σ H1 _ I1 q1) fun u s2 ⟨k, H2, I2, r2, ek, z, ex, hz, q⟩ => ?_
  subst ek ex
  obtain ⟨t1, rfl⟩ := r1
  obtain ⟨t, rfl⟩ := r2
  have I4 : Inv X pins σ H2 { s2 with heap := s2.heap.push { cls := .type "slice", data := .fields #[.none, .none, .int (-1) t] } } := I2.kept (t' := s2.toks) fun b ob q => Heap.get?_push_of_some _ q
  refine tail_any (ops := [.str z t1, .ref s2.heap.objs.size]) (typeIs_str _ _ _) F.slot_str_getitem.lookup ?_ (by with_unfolding_all rfl)
  refine wpAny_getItem_str_slice (l := none) (u := none) (st := some (-1, t)) ⟨_, Heap.get?_push_size _ rfl, rfl, rfl⟩ rfl ?_
  show Made.post (if ((-1 : Int) == 1 && (Builtin.Str.strSliceIndices none none (-1) z.length).length == z.length) = true then Made.val (.str z t1) else Made.str (revS z)) (EP X pins σ Q) _
  rw [if_neg (by simp)]
  exact ⟨hz, .str _, H2, I4.tok _, ⟨_, rfl⟩, q⟩
end
end L2
namespace Pg
open PySem L2
end Pg
end
section
set_option Elab.async false
set_option linter.all false
set_option maxRecDepth 100000
set_option maxHeartbeats 4000000
namespace Pg
open PySem L2 PyProof.Rows
def top (i : Nat) : Stmt := PySem.Challenge.pw_pagerooms_k04_no_rules_and_no_rooms.main.body.getD i (.Pass ⟨0, 0, 0, 0⟩)
abbrev s_NoRule___init__ : Stmt := inClass (top 2) 0
theorem S_NoRule___init__ : FnScope ["self", "what"] ["self", "what"] (defScope s_NoRule___init__) := ⟨rfl, rfl, rfl, by decide +kernel, rfl, by decide +kernel, by decide +kernel⟩
abbrev s_NoRoom___init__ : Stmt := inClass (top 3) 0
theorem S_NoRoom___init__ : FnScope ["self", "what"] ["self", "what"] (defScope s_NoRoom___init__) := ⟨rfl, rfl, rfl, by decide +kernel, rfl, by decide +kernel, by decide +kernel⟩
abbrev s_Line___init__ : Stmt := inClass (top 12) 0
theorem S_Line___init__ : FnScope ["self", "room", "renews"] ["self", "room", "renews"] (defScope s_Line___init__) := ⟨rfl, rfl, rfl, by decide +kernel, rfl, by decide +kernel, by decide +kernel⟩
abbrev s_Line_ask : Stmt := inClass (top 12) 1
theorem S_Line_ask : FnScope ["self", "page", "gone"] ["self", "page"] (defScope s_Line_ask) := ⟨rfl, rfl, rfl, by decide +kernel, rfl, by decide +kernel, by decide +kernel⟩
abbrev s_Ring___init__ : Stmt := inClass (top 13) 0
theorem S_Ring___init__ : FnScope ["self", "room"] ["self", "room"] (defScope s_Ring___init__) := ⟨rfl, rfl, rfl, by decide +kernel, rfl, by decide +kernel, by decide +kernel⟩
abbrev s_Ring_sweep : Stmt := inClass (top 13) 2
theorem S_Ring_sweep : FnScope ["self", "seat"] ["self"] (defScope s_Ring_sweep) := ⟨rfl, rfl, rfl, by decide +kernel, rfl, by decide +kernel, by decide +kernel⟩
abbrev s_Ring_ask : Stmt := inClass (top 13) 1
theorem S_Ring_ask : FnScope ["self", "page", "gone", "seat"] ["self", "page"] (defScope s_Ring_ask) := ⟨rfl, rfl, rfl, by decide +kernel, rfl, by decide +kernel, by decide +kernel⟩
abbrev s_Ahead___init__ : Stmt := inClass (top 14) 0
theorem S_Ahead___init__ : FnScope ["self", "room", "trace"] ["self", "room", "trace"] (defScope s_Ahead___init__) := ⟨rfl, rfl, rfl, by decide +kernel, rfl, by decide +kernel, by decide +kernel⟩
abbrev s_Ahead_ask : Stmt := inClass (top 14) 1
theorem S_Ahead_ask : FnScope ["self", "page", "word", "gone"] ["self", "page"] (defScope s_Ahead_ask) := ⟨rfl, rfl, rfl, by decide +kernel, rfl, by decide +kernel, by decide +kernel⟩
abbrev s_Ahead_farthest : Stmt := inClass (top 14) 2
theorem S_Ahead_farthest : FnScope ["self", "due"] ["self"] (defScope s_Ahead_farthest) := ⟨rfl, rfl, rfl, by decide +kernel, rfl, by decide +kernel, by decide +kernel⟩
abbrev s_last_requests : Stmt := top 15
theorem S_last_requests : FnScope ["trace", "latest", "told", "at", "page"] ["trace"] (defScope s_last_requests) := ⟨rfl, rfl, rfl, by decide +kernel, rfl, by decide +kernel, by decide +kernel⟩
abbrev s_next_requests : Stmt := top 16
theorem S_next_requests : FnScope ["trace", "told", "at", "before"] ["trace"] (defScope s_next_requests) := ⟨rfl, rfl, rfl, by decide +kernel, rfl, by decide +kernel, by decide +kernel⟩
abbrev s_check_room : Stmt := top 17
theorem S_check_room : FnScope ["room"] ["room"] (defScope s_check_room) := ⟨rfl, rfl, rfl, by decide +kernel, rfl, by decide +kernel, by decide +kernel⟩
abbrev s_empty_room : Stmt := top 18
theorem S_empty_room : FnScope ["trace", "room", "rule"] ["trace", "room", "rule"] (defScope s_empty_room) := ⟨rfl, rfl, rfl, by decide +kernel, rfl, by decide +kernel, by decide +kernel⟩
abbrev s_walk : Stmt := top 19
theorem S_walk : FnScope ["trace", "room", "rule", "taker", "told", "page"] ["trace", "room", "rule"] (defScope s_walk) := ⟨rfl, rfl, rfl, by decide +kernel, rfl, by decide +kernel, by decide +kernel⟩
abbrev s_faults : Stmt := top 20
theorem S_faults : FnScope ["trace", "room", "rule", "page", "word", "gone"] ["trace", "room", "rule"] (defScope s_faults) := ⟨rfl, rfl, rfl, by decide +kernel, rfl, by decide +kernel, by decide +kernel⟩
abbrev s_law_deck : Stmt := top 22
theorem S_law_deck : FnScope ["script", "great", "fold", "cell"] ["script"] (defScope s_law_deck) := ⟨rfl, rfl, rfl, by decide +kernel, rfl, by decide +kernel, by decide +kernel⟩
abbrev s_law_take : Stmt := top 23
theorem S_law_take : FnScope ["deck", "many", "drawn", "k", "mixed"] ["deck", "many"] (defScope s_law_take) := ⟨rfl, rfl, rfl, by decide +kernel, rfl, by decide +kernel, by decide +kernel⟩
abbrev s_law_pool : Stmt := top 24
theorem S_law_pool : FnScope ["deck", "many", "way", "found", "k", "page"] ["deck"] (defScope s_law_pool) := ⟨rfl, rfl, rfl, by decide +kernel, rfl, by decide +kernel, by decide +kernel⟩
abbrev s_law_trace : Stmt := top 25
theorem S_law_trace : FnScope ["deck", "most", "pool", "size", "way", "at", "found", "k", "pick"] ["deck", "most"] (defScope s_law_trace) := ⟨rfl, rfl, rfl, by decide +kernel, rfl, by decide +kernel, by decide +kernel⟩
abbrev s_law_odd_rule : Stmt := top 26
theorem S_law_odd_rule : FnScope ["deck", "good", "some"] ["deck"] (defScope s_law_odd_rule) := ⟨rfl, rfl, rfl, by decide +kernel, rfl, by decide +kernel, by decide +kernel⟩
abbrev s_law_refusal : Stmt := top 27
theorem S_law_refusal : FnScope ["line", "size", "by", "way", "caught", "e"] ["line", "size", "by", "way"] (defScope s_law_refusal) := ⟨rfl, rfl, rfl, by decide +kernel, rfl, by decide +kernel, by decide +kernel⟩
abbrev s_law : Stmt := top 28
theorem S_law : FnScope ["script", "deck", "k", "line", "size", "by", "due", "handed", "way"] ["script"] (defScope s_law) := ⟨rfl, rfl, rfl, by decide +kernel, rfl, by decide +kernel, by decide +kernel⟩
structure Adr where
  a_NoRule___init__ : Addr
  d_NoRule___init__ : FuncData
  a_NoRoom___init__ : Addr
  d_NoRoom___init__ : FuncData
  a_Line___init__ : Addr
  d_Line___init__ : FuncData
  a_Line_ask : Addr
  d_Line_ask : FuncData
  a_Ring___init__ : Addr
  d_Ring___init__ : FuncData
  a_Ring_sweep : Addr
  d_Ring_sweep : FuncData
  a_Ring_ask : Addr
  d_Ring_ask : FuncData
  a_Ahead___init__ : Addr
  d_Ahead___init__ : FuncData
  a_Ahead_ask : Addr
  d_Ahead_ask : FuncData
  a_Ahead_farthest : Addr
  d_Ahead_farthest : FuncData
  a_last_requests : Addr
  d_last_requests : FuncData
  a_next_requests : Addr
  d_next_requests : FuncData
  a_check_room : Addr
  d_check_room : FuncData
  a_empty_room : Addr
  d_empty_room : FuncData
  a_walk : Addr
  d_walk : FuncData
  a_faults : Addr
  d_faults : FuncData
  a_law_deck : Addr
  d_law_deck : FuncData
  a_law_take : Addr
  d_law_take : FuncData
  a_law_pool : Addr
  d_law_pool : FuncData
  a_law_trace : Addr
  d_law_trace : FuncData
  a_law_odd_rule : Addr
  d_law_odd_rule : FuncData
  a_law_refusal : Addr
  d_law_refusal : FuncData
  a_law : Addr
  d_law : FuncData
  c_Ahead_farthest : Addr
  p_Ahead_farthest : Addr
  C_Line : Addr
  C_Ring : Addr
  C_Ahead : Addr
  C_NoRule : Addr
  C_NoRoom : Addr
  C_PageError : Addr
  C_NoColour : Addr
  C_NoPage : Addr
  C_NoTask : Addr
  C_NoTurn : Addr
  C_NoWindow : Addr
  C_NoWord : Addr
  K_RULES : Addr
structure Txt (K : PySem.W.Frag) (mg : Str → Option Value) (a : Adr) : Prop where
  f_NoRule___init__ : Fun K "__init__" "NoRule.__init__" s_NoRule___init__ a.a_NoRule___init__ a.d_NoRule___init__
  f_NoRoom___init__ : Fun K "__init__" "NoRoom.__init__" s_NoRoom___init__ a.a_NoRoom___init__ a.d_NoRoom___init__
  f_Line___init__ : Fun K "__init__" "Line.__init__" s_Line___init__ a.a_Line___init__ a.d_Line___init__
  f_Line_ask : Fun K "ask" "Line.ask" s_Line_ask a.a_Line_ask a.d_Line_ask
  m_Line_ask : Meth K a.C_Line "ask" a.a_Line_ask
  f_Ring___init__ : Fun K "__init__" "Ring.__init__" s_Ring___init__ a.a_Ring___init__ a.d_Ring___init__
  f_Ring_sweep : Fun K "sweep" "Ring.sweep" s_Ring_sweep a.a_Ring_sweep a.d_Ring_sweep
  m_Ring_sweep : Meth K a.C_Ring "sweep" a.a_Ring_sweep
  f_Ring_ask : Fun K "ask" "Ring.ask" s_Ring_ask a.a_Ring_ask a.d_Ring_ask
  m_Ring_ask : Meth K a.C_Ring "ask" a.a_Ring_ask
  f_Ahead___init__ : Fun K "__init__" "Ahead.__init__" s_Ahead___init__ a.a_Ahead___init__ a.d_Ahead___init__
  f_Ahead_ask : Fun K "ask" "Ahead.ask" s_Ahead_ask a.a_Ahead_ask a.d_Ahead_ask
  m_Ahead_ask : Meth K a.C_Ahead "ask" a.a_Ahead_ask
  f_Ahead_farthest : FunC K "farthest" "Ahead.farthest" s_Ahead_farthest a.a_Ahead_farthest a.d_Ahead_farthest a.c_Ahead_farthest a.p_Ahead_farthest
  m_Ahead_farthest : Meth K a.C_Ahead "farthest" a.a_Ahead_farthest
  f_last_requests : Fun K "last_requests" "last_requests" s_last_requests a.a_last_requests a.d_last_requests
  g_last_requests : mg "last_requests" = some (.ref a.a_last_requests)
  f_next_requests : Fun K "next_requests" "next_requests" s_next_requests a.a_next_requests a.d_next_requests
  g_next_requests : mg "next_requests" = some (.ref a.a_next_requests)
  f_check_room : Fun K "check_room" "check_room" s_check_room a.a_check_room a.d_check_room
  g_check_room : mg "check_room" = some (.ref a.a_check_room)
  f_empty_room : Fun K "empty_room" "empty_room" s_empty_room a.a_empty_room a.d_empty_room
  g_empty_room : mg "empty_room" = some (.ref a.a_empty_room)
  f_walk : Fun K "walk" "walk" s_walk a.a_walk a.d_walk
  g_walk : mg "walk" = some (.ref a.a_walk)
  f_faults : Fun K "faults" "faults" s_faults a.a_faults a.d_faults
  g_faults : mg "faults" = some (.ref a.a_faults)
  f_law_deck : Fun K "_law_deck" "_law_deck" s_law_deck a.a_law_deck a.d_law_deck
  g_law_deck : mg "_law_deck" = some (.ref a.a_law_deck)
  f_law_take : Fun K "_law_take" "_law_take" s_law_take a.a_law_take a.d_law_take
  g_law_take : mg "_law_take" = some (.ref a.a_law_take)
  f_law_pool : Fun K "_law_pool" "_law_pool" s_law_pool a.a_law_pool a.d_law_pool
  g_law_pool : mg "_law_pool" = some (.ref a.a_law_pool)
  f_law_trace : Fun K "_law_trace" "_law_trace" s_law_trace a.a_law_trace a.d_law_trace
  g_law_trace : mg "_law_trace" = some (.ref a.a_law_trace)
  f_law_odd_rule : Fun K "_law_odd_rule" "_law_odd_rule" s_law_odd_rule a.a_law_odd_rule a.d_law_odd_rule
  g_law_odd_rule : mg "_law_odd_rule" = some (.ref a.a_law_odd_rule)
  f_law_refusal : Fun K "_law_refusal" "_law_refusal" s_law_refusal a.a_law_refusal a.d_law_refusal
  g_law_refusal : mg "_law_refusal" = some (.ref a.a_law_refusal)
  f_law : Fun K "law" "law" s_law a.a_law a.d_law
  g_law : mg "law" = some (.ref a.a_law)
  c_Line : Cls K a.C_Line
  g_Line : mg "Line" = some (.ref a.C_Line)
  mk_Line : Mk K a.C_Line a.a_Line___init__
  na_Line_room : NoAttr K a.C_Line "room"
  na_Line_renews : NoAttr K a.C_Line "renews"
  na_Line_line : NoAttr K a.C_Line "line"
  c_Ring : Cls K a.C_Ring
  g_Ring : mg "Ring" = some (.ref a.C_Ring)
  mk_Ring : Mk K a.C_Ring a.a_Ring___init__
  na_Ring_room : NoAttr K a.C_Ring "room"
  na_Ring_ring : NoAttr K a.C_Ring "ring"
  na_Ring_marks : NoAttr K a.C_Ring "marks"
  na_Ring_seats : NoAttr K a.C_Ring "seats"
  na_Ring_hand : NoAttr K a.C_Ring "hand"
  c_Ahead : Cls K a.C_Ahead
  g_Ahead : mg "Ahead" = some (.ref a.C_Ahead)
  mk_Ahead : Mk K a.C_Ahead a.a_Ahead___init__
  na_Ahead_room : NoAttr K a.C_Ahead "room"
  na_Ahead_nexts : NoAttr K a.C_Ahead "nexts"
  na_Ahead_at : NoAttr K a.C_Ahead "at"
  na_Ahead_due : NoAttr K a.C_Ahead "due"
  e_NoRule : ECls K a.C_NoRule a.a_NoRule___init__
  is_NoRule : EIs K a.C_NoRule
  na_NoRule_what : NoAttr K a.C_NoRule "what"
  e_NoRoom : ECls K a.C_NoRoom a.a_NoRoom___init__
  is_NoRoom : EIs K a.C_NoRoom
  na_NoRoom_what : NoAttr K a.C_NoRoom "what"
  eb : EBase K a.C_PageError
  g_NoRule : mg "NoRule" = some (.ref a.C_NoRule)
  g_NoRoom : mg "NoRoom" = some (.ref a.C_NoRoom)
  g_PageError : mg "PageError" = some (.ref a.C_PageError)
  g_NoColour : mg "NoColour" = some (.ref a.C_NoColour)
  g_NoPage : mg "NoPage" = some (.ref a.C_NoPage)
  g_NoTask : mg "NoTask" = some (.ref a.C_NoTask)
  g_NoTurn : mg "NoTurn" = some (.ref a.C_NoTurn)
  g_NoWindow : mg "NoWindow" = some (.ref a.C_NoWindow)
  g_NoWord : mg "NoWord" = some (.ref a.C_NoWord)
  kx : excInF K a.C_PageError "ValueError.__new__" = true
  kmNoRule : PySem.W.mroIn K a.C_NoRule (.ref a.C_PageError) = some true
  kvNoRule : PySem.W.kitOne K (.ref a.C_NoRule) (.type "ValueError") = some true
  ktNoRule : PySem.W.kitAny K (.ref a.C_NoRule) [.ref a.C_NoColour, .ref a.C_NoPage, .ref a.C_NoTask, .ref a.C_NoTurn, .ref a.C_NoWindow, .ref a.C_NoWord] = some false
  krNoRule : PySem.W.kitOne K (.ref a.C_NoRule) (.ref a.C_NoRule) = some true
  kcNoRule : PySem.W.kitOne K (.ref a.C_NoRule) (.ref a.C_NoRoom) = some false
  kmNoRoom : PySem.W.mroIn K a.C_NoRoom (.ref a.C_PageError) = some true
  kvNoRoom : PySem.W.kitOne K (.ref a.C_NoRoom) (.type "ValueError") = some true
  ktNoRoom : PySem.W.kitAny K (.ref a.C_NoRoom) [.ref a.C_NoColour, .ref a.C_NoPage, .ref a.C_NoTask, .ref a.C_NoTurn, .ref a.C_NoWindow, .ref a.C_NoWord] = some false
  krNoRoom : PySem.W.kitOne K (.ref a.C_NoRoom) (.ref a.C_NoRule) = some false
  kcNoRoom : PySem.W.kitOne K (.ref a.C_NoRoom) (.ref a.C_NoRoom) = some true
  n_abs : mg "abs" = none
  n_range : mg "range" = none
  n_int : mg "int" = none
  n_len : mg "len" = none
  n_set : mg "set" = none
  n_min : mg "min" = none
  n_isinstance : mg "isinstance" = none
  n_list : mg "list" = none
  n_enumerate : mg "enumerate" = none
  n_ValueError : mg "ValueError" = none
  dv_walk : ∃ kt : Tok, ∀ (s : Shared) (u0 u1 : Value), K.In s.heap → BindsTo s a.d_walk ⟨[u0, u1], []⟩ [("trace", u0), ("room", u1), ("rule", .str "last" kt)]
  dv_faults : ∃ kt : Tok, ∀ (s : Shared) (u0 u1 : Value), K.In s.heap → BindsTo s a.d_faults ⟨[u0, u1], []⟩ [("trace", u0), ("room", u1), ("rule", .str "last" kt)]
  g_RULES : mg "RULES" = some (.ref a.K_RULES)
  t_RULES : ∀ H : Hp, SqT K H a.K_RULES [V.str "first", V.str "last", V.str "clock", V.str "far"]
section
variable {K : PySem.W.Frag} {mg : Str → Option Value} {a : Adr}
theorem b_NoRule___init__ (T : Txt K mg a) : Binds K a.d_NoRule___init__ ["self", "what"] [] := T.f_NoRule___init__.binds fun _ _ _ _ _ _ us hl => match us, hl with | [_, _], _ => rfl
theorem b_NoRoom___init__ (T : Txt K mg a) : Binds K a.d_NoRoom___init__ ["self", "what"] [] := T.f_NoRoom___init__.binds fun _ _ _ _ _ _ us hl => match us, hl with | [_, _], _ => rfl
theorem b_Line___init__ (T : Txt K mg a) : Binds K a.d_Line___init__ ["self", "room", "renews"] [] := T.f_Line___init__.binds fun _ _ _ _ _ _ us hl => match us, hl with | [_, _, _], _ => rfl
theorem b_Line_ask (T : Txt K mg a) : Binds K a.d_Line_ask ["self", "page"] [] := T.f_Line_ask.binds fun _ _ _ _ _ _ us hl => match us, hl with | [_, _], _ => rfl
theorem b_Ring___init__ (T : Txt K mg a) : Binds K a.d_Ring___init__ ["self", "room"] [] := T.f_Ring___init__.binds fun _ _ _ _ _ _ us hl => match us, hl with | [_, _], _ => rfl
theorem b_Ring_sweep (T : Txt K mg a) : Binds K a.d_Ring_sweep ["self"] [] := T.f_Ring_sweep.binds fun _ _ _ _ _ _ us hl => match us, hl with | [_], _ => rfl
theorem b_Ring_ask (T : Txt K mg a) : Binds K a.d_Ring_ask ["self", "page"] [] := T.f_Ring_ask.binds fun _ _ _ _ _ _ us hl => match us, hl with | [_, _], _ => rfl
theorem b_Ahead___init__ (T : Txt K mg a) : Binds K a.d_Ahead___init__ ["self", "room", "trace"] [] := T.f_Ahead___init__.binds fun _ _ _ _ _ _ us hl => match us, hl with | [_, _, _], _ => rfl
theorem b_Ahead_ask (T : Txt K mg a) : Binds K a.d_Ahead_ask ["self", "page"] [] := T.f_Ahead_ask.binds fun _ _ _ _ _ _ us hl => match us, hl with | [_, _], _ => rfl
theorem b_Ahead_farthest (T : Txt K mg a) : Binds K a.d_Ahead_farthest ["self"] [] := T.f_Ahead_farthest.fn.binds fun _ _ _ _ _ _ us hl => match us, hl with | [_], _ => rfl
theorem b_last_requests (T : Txt K mg a) : Binds K a.d_last_requests ["trace"] [] := T.f_last_requests.binds fun _ _ _ _ _ _ us hl => match us, hl with | [_], _ => rfl
theorem b_next_requests (T : Txt K mg a) : Binds K a.d_next_requests ["trace"] [] := T.f_next_requests.binds fun _ _ _ _ _ _ us hl => match us, hl with | [_], _ => rfl
theorem b_check_room (T : Txt K mg a) : Binds K a.d_check_room ["room"] [] := T.f_check_room.binds fun _ _ _ _ _ _ us hl => match us, hl with | [_], _ => rfl
theorem b_empty_room (T : Txt K mg a) : Binds K a.d_empty_room ["trace", "room", "rule"] [] := T.f_empty_room.binds fun _ _ _ _ _ _ us hl => match us, hl with | [_, _, _], _ => rfl
theorem b_law_deck (T : Txt K mg a) : Binds K a.d_law_deck ["script"] [] := T.f_law_deck.binds fun _ _ _ _ _ _ us hl => match us, hl with | [_], _ => rfl
theorem b_law_take (T : Txt K mg a) : Binds K a.d_law_take ["deck", "many"] [] := T.f_law_take.binds fun _ _ _ _ _ _ us hl => match us, hl with | [_, _], _ => rfl
theorem b_law_pool (T : Txt K mg a) : Binds K a.d_law_pool ["deck"] [] := T.f_law_pool.binds fun _ _ _ _ _ _ us hl => match us, hl with | [_], _ => rfl
theorem b_law_trace (T : Txt K mg a) : Binds K a.d_law_trace ["deck", "most"] [] := T.f_law_trace.binds fun _ _ _ _ _ _ us hl => match us, hl with | [_, _], _ => rfl
theorem b_law_odd_rule (T : Txt K mg a) : Binds K a.d_law_odd_rule ["deck"] [] := T.f_law_odd_rule.binds fun _ _ _ _ _ _ us hl => match us, hl with | [_], _ => rfl
theorem b_law_refusal (T : Txt K mg a) : Binds K a.d_law_refusal ["line", "size", "by", "way"] [] := T.f_law_refusal.binds fun _ _ _ _ _ _ us hl => match us, hl with | [_, _, _, _], _ => rfl
end
theorem txt_mk {K : PySem.W.Frag} {h : Heap} {mg : Str → Option Value} {C0 C1 C2 E0 E1 E2 E3 E4 E5 E6 E7 E8 f0 f1 f2 f3 f4 f5 f6 f7 f8 f9 cc9 pp9 f10 f11 f12 f13 f14 kd14 f15 kd15 f16 f17 f18 f19 f20 f21 f22 k0 fa : Addr} {od0 an0 : Option Addr} {sl0 : Array (Option Value)} {oc0 kV0 dc0 pm0 cd0 ct0 : Value} {od1 an1 : Option Addr} {sl1 : Array (Option Value)} {oc1 kV1 dc1 pm1 cd1 ct1 : Value} {od2 an2 : Option Addr} {sl2 : Array (Option Value)} {oc2 kV2 dc2 pm2 cd2 ct2 : Value} {od3 an3 : Option Addr} {sl3 : Array (Option Value)} {oc3 kV3 dc3 pm3 cd3 ct3 : Value} {od4 an4 : Option Addr} {sl4 : Array (Option Value)} {oc4 kV4 dc4 pm4 cd4 ct4 : Value} {od5 an5 : Option Addr} {sl5 : Array (Option Value)} {oc5 kV5 dc5 pm5 cd5 ct5 : Value} {od6 an6 : Option Addr} {sl6 : Array (Option Value)} {oc6 kV6 dc6 pm6 cd6 ct6 : Value} {od7 an7 : Option Addr} {sl7 : Array (Option Value)} {oc7 kV7 dc7 pm7 cd7 ct7 : Value} {od8 an8 : Option Addr} {sl8 : Array (Option Value)} {oc8 kV8 dc8 pm8 cd8 ct8 : Value} {od9 an9 : Option Addr} {sl9 : Array (Option Value)} {oc9 kV9 dc9 pm9 ct9 : Value} {od10 an10 : Option Addr} {sl10 : Array (Option Value)} {oc10 kV10 dc10 pm10 cd10 ct10 : Value} {od11 an11 : Option Addr} {sl11 : Array (Option Value)} {oc11 kV11 dc11 pm11 cd11 ct11 : Value} {od12 an12 : Option Addr} {sl12 : Array (Option Value)} {oc12 kV12 dc12 pm12 cd12 ct12 : Value} {od13 an13 : Option Addr} {sl13 : Array (Option Value)} {oc13 kV13 dc13 pm13 cd13 ct13 : Value} {od14 an14 : Option Addr} {sl14 : Array (Option Value)} {oc14 dc14 pm14 cd14 ct14 : Value} {kt14 : Tok} {od15 an15 : Option Addr} {sl15 : Array (Option Value)} {oc15 dc15 pm15 cd15 ct15 : Value} {kt15 : Tok} {od16 an16 : Option Addr} {sl16 : Array (Option Value)} {oc16 kV16 dc16 pm16 cd16 ct16 : Value} {od17 an17 : Option Addr} {sl17 : Array (Option Value)} {oc17 kV17 dc17 pm17 cd17 ct17 : Value} {od18 an18 : Option Addr} {sl18 : Array (Option Value)} {oc18 kV18 dc18 pm18 cd18 ct18 : Value} {od19 an19 : Option Addr} {sl19 : Array (Option Value)} {oc19 kV19 dc19 pm19 cd19 ct19 : Value} {od20 an20 : Option Addr} {sl20 : Array (Option Value)} {oc20 kV20 dc20 pm20 cd20 ct20 : Value} {od21 an21 : Option Addr} {sl21 : Array (Option Value)} {oc21 kV21 dc21 pm21 cd21 ct21 : Value} {od22 an22 : Option Addr} {sl22 : Array (Option Value)} {oc22 kV22 dc22 pm22 cd22 ct22 : Value} {kod0 : Option Addr} {ksl0 : Array (Option Value)} {kn0 : Nat} {kt0_0 kt0_1 kt0_2 kt0_3 : Tok} (KX : K.In h) (G : h.Ns mainGlobals mg) (hfa : mg "law" = some (.ref fa))
    (hC0 : PySem.W.nsIn K mainGlobals "Line" = some (some (.ref C0)))
    (hC1 : PySem.W.nsIn K mainGlobals "Ring" = some (some (.ref C1)))
    (hC2 : PySem.W.nsIn K mainGlobals "Ahead" = some (some (.ref C2)))
    (hE0 : PySem.W.nsIn K mainGlobals "NoRule" = some (some (.ref E0)))
    (hE1 : PySem.W.nsIn K mainGlobals "NoRoom" = some (some (.ref E1)))
    (hE2 : PySem.W.nsIn K mainGlobals "PageError" = some (some (.ref E2)))
    (hE3 : PySem.W.nsIn K mainGlobals "NoColour" = some (some (.ref E3)))
    (hE4 : PySem.W.nsIn K mainGlobals "NoPage" = some (some (.ref E4)))
    (hE5 : PySem.W.nsIn K mainGlobals "NoTask" = some (some (.ref E5)))
    (hE6 : PySem.W.nsIn K mainGlobals "NoTurn" = some (some (.ref E6)))
    (hE7 : PySem.W.nsIn K mainGlobals "NoWindow" = some (some (.ref E7)))
    (hE8 : PySem.W.nsIn K mainGlobals "NoWord" = some (some (.ref E8)))
    (hf0 : PySem.W.findIn K (.ref E0) "__init__" = some (some (.ref f0)))
    (hi0 : PySem.W.isFn K (.ref f0) = true)
    (hl0 : K.lookup f0 = some ⟨oc0, od0, .func (PySem.W.fnOf "__init__" "NoRule.__init__" (defArgs s_NoRule___init__) (defBody s_NoRule___init__) (defScope s_NoRule___init__) .none kV0 dc0 pm0 an0 cd0 ct0), sl0⟩)
    (hc0 : PySem.W.codeIn K cd0 "NoRule.__init__" = true)
    (hk0 : PySem.W.keepIn K (.ref f0) = true)
    (hf1 : PySem.W.findIn K (.ref E1) "__init__" = some (some (.ref f1)))
    (hi1 : PySem.W.isFn K (.ref f1) = true)
    (hl1 : K.lookup f1 = some ⟨oc1, od1, .func (PySem.W.fnOf "__init__" "NoRoom.__init__" (defArgs s_NoRoom___init__) (defBody s_NoRoom___init__) (defScope s_NoRoom___init__) .none kV1 dc1 pm1 an1 cd1 ct1), sl1⟩)
    (hc1 : PySem.W.codeIn K cd1 "NoRoom.__init__" = true)
    (hk1 : PySem.W.keepIn K (.ref f1) = true)
    (hf2 : PySem.W.findIn K (.ref C0) "__init__" = some (some (.ref f2)))
    (hi2 : PySem.W.isFn K (.ref f2) = true)
    (hl2 : K.lookup f2 = some ⟨oc2, od2, .func (PySem.W.fnOf "__init__" "Line.__init__" (defArgs s_Line___init__) (defBody s_Line___init__) (defScope s_Line___init__) .none kV2 dc2 pm2 an2 cd2 ct2), sl2⟩)
    (hc2 : PySem.W.codeIn K cd2 "Line.__init__" = true)
    (hk2 : PySem.W.keepIn K (.ref f2) = true)
    (hf3 : PySem.W.findIn K (.ref C0) "ask" = some (some (.ref f3)))
    (hi3 : PySem.W.isFn K (.ref f3) = true)
    (hl3 : K.lookup f3 = some ⟨oc3, od3, .func (PySem.W.fnOf "ask" "Line.ask" (defArgs s_Line_ask) (defBody s_Line_ask) (defScope s_Line_ask) .none kV3 dc3 pm3 an3 cd3 ct3), sl3⟩)
    (hc3 : PySem.W.codeIn K cd3 "Line.ask" = true)
    (hk3 : PySem.W.keepIn K (.ref f3) = true)
    (hf4 : PySem.W.findIn K (.ref C1) "__init__" = some (some (.ref f4)))
    (hi4 : PySem.W.isFn K (.ref f4) = true)
    (hl4 : K.lookup f4 = some ⟨oc4, od4, .func (PySem.W.fnOf "__init__" "Ring.__init__" (defArgs s_Ring___init__) (defBody s_Ring___init__) (defScope s_Ring___init__) .none kV4 dc4 pm4 an4 cd4 ct4), sl4⟩)
    (hc4 : PySem.W.codeIn K cd4 "Ring.__init__" = true)
    (hk4 : PySem.W.keepIn K (.ref f4) = true)
    (hf5 : PySem.W.findIn K (.ref C1) "sweep" = some (some (.ref f5)))
    (hi5 : PySem.W.isFn K (.ref f5) = true)
    (hl5 : K.lookup f5 = some ⟨oc5, od5, .func (PySem.W.fnOf "sweep" "Ring.sweep" (defArgs s_Ring_sweep) (defBody s_Ring_sweep) (defScope s_Ring_sweep) .none kV5 dc5 pm5 an5 cd5 ct5), sl5⟩)
    (hc5 : PySem.W.codeIn K cd5 "Ring.sweep" = true)
    (hk5 : PySem.W.keepIn K (.ref f5) = true)
    (hf6 : PySem.W.findIn K (.ref C1) "ask" = some (some (.ref f6)))
    (hi6 : PySem.W.isFn K (.ref f6) = true)
    (hl6 : K.lookup f6 = some ⟨oc6, od6, .func (PySem.W.fnOf "ask" "Ring.ask" (defArgs s_Ring_ask) (defBody s_Ring_ask) (defScope s_Ring_ask) .none kV6 dc6 pm6 an6 cd6 ct6), sl6⟩)
    (hc6 : PySem.W.codeIn K cd6 "Ring.ask" = true)
    (hk6 : PySem.W.keepIn K (.ref f6) = true)
    (hf7 : PySem.W.findIn K (.ref C2) "__init__" = some (some (.ref f7)))
    (hi7 : PySem.W.isFn K (.ref f7) = true)
    (hl7 : K.lookup f7 = some ⟨oc7, od7, .func (PySem.W.fnOf "__init__" "Ahead.__init__" (defArgs s_Ahead___init__) (defBody s_Ahead___init__) (defScope s_Ahead___init__) .none kV7 dc7 pm7 an7 cd7 ct7), sl7⟩)
    (hc7 : PySem.W.codeIn K cd7 "Ahead.__init__" = true)
    (hk7 : PySem.W.keepIn K (.ref f7) = true)
    (hf8 : PySem.W.findIn K (.ref C2) "ask" = some (some (.ref f8)))
    (hi8 : PySem.W.isFn K (.ref f8) = true)
    (hl8 : K.lookup f8 = some ⟨oc8, od8, .func (PySem.W.fnOf "ask" "Ahead.ask" (defArgs s_Ahead_ask) (defBody s_Ahead_ask) (defScope s_Ahead_ask) .none kV8 dc8 pm8 an8 cd8 ct8), sl8⟩)
    (hc8 : PySem.W.codeIn K cd8 "Ahead.ask" = true)
    (hk8 : PySem.W.keepIn K (.ref f8) = true)
    (hf9 : PySem.W.findIn K (.ref C2) "farthest" = some (some (.ref f9)))
    (hi9 : PySem.W.isFn K (.ref f9) = true)
    (hl9 : K.lookup f9 = some ⟨oc9, od9, .func (PySem.W.fnOf "farthest" "Ahead.farthest" (defArgs s_Ahead_farthest) (defBody s_Ahead_farthest) (defScope s_Ahead_farthest) .none kV9 dc9 pm9 an9 (.ref cc9) ct9), sl9⟩)
    (hc9 : PySem.W.codeIn K (.ref cc9) "Ahead.farthest" = true)
    (hh9 : PySem.W.codeHdIn K cc9 pp9 = true)
    (hn9 : K.lookup pp9 = none)
    (hk9 : PySem.W.keepIn K (.ref f9) = true)
    (hf10 : PySem.W.nsIn K mainGlobals "last_requests" = some (some (.ref f10)))
    (hl10 : K.lookup f10 = some ⟨oc10, od10, .func (PySem.W.fnOf "last_requests" "last_requests" (defArgs s_last_requests) (defBody s_last_requests) (defScope s_last_requests) .none kV10 dc10 pm10 an10 cd10 ct10), sl10⟩)
    (hc10 : PySem.W.codeIn K cd10 "last_requests" = true)
    (hk10 : PySem.W.keepIn K (.ref f10) = true)
    (hf11 : PySem.W.nsIn K mainGlobals "next_requests" = some (some (.ref f11)))
    (hl11 : K.lookup f11 = some ⟨oc11, od11, .func (PySem.W.fnOf "next_requests" "next_requests" (defArgs s_next_requests) (defBody s_next_requests) (defScope s_next_requests) .none kV11 dc11 pm11 an11 cd11 ct11), sl11⟩)
    (hc11 : PySem.W.codeIn K cd11 "next_requests" = true)
    (hk11 : PySem.W.keepIn K (.ref f11) = true)
    (hf12 : PySem.W.nsIn K mainGlobals "check_room" = some (some (.ref f12)))
    (hl12 : K.lookup f12 = some ⟨oc12, od12, .func (PySem.W.fnOf "check_room" "check_room" (defArgs s_check_room) (defBody s_check_room) (defScope s_check_room) .none kV12 dc12 pm12 an12 cd12 ct12), sl12⟩)
    (hc12 : PySem.W.codeIn K cd12 "check_room" = true)
    (hk12 : PySem.W.keepIn K (.ref f12) = true)
    (hf13 : PySem.W.nsIn K mainGlobals "empty_room" = some (some (.ref f13)))
    (hl13 : K.lookup f13 = some ⟨oc13, od13, .func (PySem.W.fnOf "empty_room" "empty_room" (defArgs s_empty_room) (defBody s_empty_room) (defScope s_empty_room) .none kV13 dc13 pm13 an13 cd13 ct13), sl13⟩)
    (hc13 : PySem.W.codeIn K cd13 "empty_room" = true)
    (hk13 : PySem.W.keepIn K (.ref f13) = true)
    (hf14 : PySem.W.nsIn K mainGlobals "walk" = some (some (.ref f14)))
    (hl14 : K.lookup f14 = some ⟨oc14, od14, .func (PySem.W.fnOf "walk" "walk" (defArgs s_walk) (defBody s_walk) (defScope s_walk) .none (.ref kd14) dc14 pm14 an14 cd14 ct14), sl14⟩)
    (ho14 : PySem.W.nsOkIn K kd14 = true)
    (hd14 : PySem.W.nsIn K kd14 "rule" = some (some (.str "last" kt14)))
    (hw14 : ∀ (S : PySem.Setting) (u0 u1 : Value), PySem.W.peek K S (bindArgs (PySem.W.fnOf "walk" "walk" (defArgs s_walk) (defBody s_walk) (defScope s_walk) .none (.ref kd14) dc14 pm14 an14 cd14 ct14) ⟨[u0, u1], []⟩) = some [(("trace" : Str), u0), (("room" : Str), u1), (("rule" : Str), .str "last" kt14)])
    (hc14 : PySem.W.codeIn K cd14 "walk" = true)
    (hk14 : PySem.W.keepIn K (.ref f14) = true)
    (hf15 : PySem.W.nsIn K mainGlobals "faults" = some (some (.ref f15)))
    (hl15 : K.lookup f15 = some ⟨oc15, od15, .func (PySem.W.fnOf "faults" "faults" (defArgs s_faults) (defBody s_faults) (defScope s_faults) .none (.ref kd15) dc15 pm15 an15 cd15 ct15), sl15⟩)
    (ho15 : PySem.W.nsOkIn K kd15 = true)
    (hd15 : PySem.W.nsIn K kd15 "rule" = some (some (.str "last" kt15)))
    (hw15 : ∀ (S : PySem.Setting) (u0 u1 : Value), PySem.W.peek K S (bindArgs (PySem.W.fnOf "faults" "faults" (defArgs s_faults) (defBody s_faults) (defScope s_faults) .none (.ref kd15) dc15 pm15 an15 cd15 ct15) ⟨[u0, u1], []⟩) = some [(("trace" : Str), u0), (("room" : Str), u1), (("rule" : Str), .str "last" kt15)])
    (hc15 : PySem.W.codeIn K cd15 "faults" = true)
    (hk15 : PySem.W.keepIn K (.ref f15) = true)
    (hf16 : PySem.W.nsIn K mainGlobals "_law_deck" = some (some (.ref f16)))
    (hl16 : K.lookup f16 = some ⟨oc16, od16, .func (PySem.W.fnOf "_law_deck" "_law_deck" (defArgs s_law_deck) (defBody s_law_deck) (defScope s_law_deck) .none kV16 dc16 pm16 an16 cd16 ct16), sl16⟩)
    (hc16 : PySem.W.codeIn K cd16 "_law_deck" = true)
    (hk16 : PySem.W.keepIn K (.ref f16) = true)
    (hf17 : PySem.W.nsIn K mainGlobals "_law_take" = some (some (.ref f17)))
    (hl17 : K.lookup f17 = some ⟨oc17, od17, .func (PySem.W.fnOf "_law_take" "_law_take" (defArgs s_law_take) (defBody s_law_take) (defScope s_law_take) .none kV17 dc17 pm17 an17 cd17 ct17), sl17⟩)
    (hc17 : PySem.W.codeIn K cd17 "_law_take" = true)
    (hk17 : PySem.W.keepIn K (.ref f17) = true)
    (hf18 : PySem.W.nsIn K mainGlobals "_law_pool" = some (some (.ref f18)))
    (hl18 : K.lookup f18 = some ⟨oc18, od18, .func (PySem.W.fnOf "_law_pool" "_law_pool" (defArgs s_law_pool) (defBody s_law_pool) (defScope s_law_pool) .none kV18 dc18 pm18 an18 cd18 ct18), sl18⟩)
    (hc18 : PySem.W.codeIn K cd18 "_law_pool" = true)
    (hk18 : PySem.W.keepIn K (.ref f18) = true)
    (hf19 : PySem.W.nsIn K mainGlobals "_law_trace" = some (some (.ref f19)))
    (hl19 : K.lookup f19 = some ⟨oc19, od19, .func (PySem.W.fnOf "_law_trace" "_law_trace" (defArgs s_law_trace) (defBody s_law_trace) (defScope s_law_trace) .none kV19 dc19 pm19 an19 cd19 ct19), sl19⟩)
    (hc19 : PySem.W.codeIn K cd19 "_law_trace" = true)
    (hk19 : PySem.W.keepIn K (.ref f19) = true)
    (hf20 : PySem.W.nsIn K mainGlobals "_law_odd_rule" = some (some (.ref f20)))
    (hl20 : K.lookup f20 = some ⟨oc20, od20, .func (PySem.W.fnOf "_law_odd_rule" "_law_odd_rule" (defArgs s_law_odd_rule) (defBody s_law_odd_rule) (defScope s_law_odd_rule) .none kV20 dc20 pm20 an20 cd20 ct20), sl20⟩)
    (hc20 : PySem.W.codeIn K cd20 "_law_odd_rule" = true)
    (hk20 : PySem.W.keepIn K (.ref f20) = true)
    (hf21 : PySem.W.nsIn K mainGlobals "_law_refusal" = some (some (.ref f21)))
    (hl21 : K.lookup f21 = some ⟨oc21, od21, .func (PySem.W.fnOf "_law_refusal" "_law_refusal" (defArgs s_law_refusal) (defBody s_law_refusal) (defScope s_law_refusal) .none kV21 dc21 pm21 an21 cd21 ct21), sl21⟩)
    (hc21 : PySem.W.codeIn K cd21 "_law_refusal" = true)
    (hk21 : PySem.W.keepIn K (.ref f21) = true)
    (hf22 : PySem.W.nsIn K mainGlobals "law" = some (some (.ref f22)))
    (hl22 : K.lookup f22 = some ⟨oc22, od22, .func (PySem.W.fnOf "law" "law" (defArgs s_law) (defBody s_law) (defScope s_law) .none kV22 dc22 pm22 an22 cd22 ct22), sl22⟩)
    (hc22 : PySem.W.codeIn K cd22 "law" = true)
    (hk22 : PySem.W.keepIn K (.ref f22) = true)
    (p0 : PySem.W.plainGet K C0 Str.empty = true)
    (q0 : PySem.W.hasDictIn K C0 = true)
    (r0 : PySem.W.plainOver K C0 = true)
    (u0 : PySem.W.findIn K (.ref C0) "__setattr__" = some (some (.builtin "object.__setattr__")))
    (v0 : PySem.W.makesIn K C0 = true)
    (w0 : PySem.W.keepIn K (.ref C0) = true)
    (x0_0 : PySem.W.findIn K (.ref C0) "room" = some none)
    (x0_1 : PySem.W.findIn K (.ref C0) "renews" = some none)
    (x0_2 : PySem.W.findIn K (.ref C0) "line" = some none)
    (p1 : PySem.W.plainGet K C1 Str.empty = true)
    (q1 : PySem.W.hasDictIn K C1 = true)
    (r1 : PySem.W.plainOver K C1 = true)
    (u1 : PySem.W.findIn K (.ref C1) "__setattr__" = some (some (.builtin "object.__setattr__")))
    (v1 : PySem.W.makesIn K C1 = true)
    (w1 : PySem.W.keepIn K (.ref C1) = true)
    (x1_0 : PySem.W.findIn K (.ref C1) "room" = some none)
    (x1_1 : PySem.W.findIn K (.ref C1) "ring" = some none)
    (x1_2 : PySem.W.findIn K (.ref C1) "marks" = some none)
    (x1_3 : PySem.W.findIn K (.ref C1) "seats" = some none)
    (x1_4 : PySem.W.findIn K (.ref C1) "hand" = some none)
    (p2 : PySem.W.plainGet K C2 Str.empty = true)
    (q2 : PySem.W.hasDictIn K C2 = true)
    (r2 : PySem.W.plainOver K C2 = true)
    (u2 : PySem.W.findIn K (.ref C2) "__setattr__" = some (some (.builtin "object.__setattr__")))
    (v2 : PySem.W.makesIn K C2 = true)
    (w2 : PySem.W.keepIn K (.ref C2) = true)
    (x2_0 : PySem.W.findIn K (.ref C2) "room" = some none)
    (x2_1 : PySem.W.findIn K (.ref C2) "nexts" = some none)
    (x2_2 : PySem.W.findIn K (.ref C2) "at" = some none)
    (x2_3 : PySem.W.findIn K (.ref C2) "due" = some none)
    (kea0 : excInF K E0 "ValueError.__new__" = true)
    (eb0 : PySem.W.keepIn K (.ref E0) = true)
    (ec0 : PySem.W.findIn K (.ref E0) "__setattr__" = some (some (.builtin "object.__setattr__")))
    (ked0 : ((PySem.W.clsIn K E0).any fun cd => overB cd.mro && cd.hasDict) = true)
    (ee0 : PySem.W.findIn K (.ref E0) "__getattribute__" = some (some (.builtin "BaseException.__getattribute__")))
    (ef0 : PySem.W.findIn K (.ref E0) "__getattr__" = some none)
    (eg0 : PySem.W.findIn K (.ref E0) "__class__" = some (some (.builtin "object.__class__")))
    (eh0 : PySem.W.specialIn K (.builtin "object.__class__") "__get__" = some (some (.builtin "getset_descriptor.__get__")))
    (ei0 : PySem.W.takesIn K (.builtin "object.__class__") = some true)
    (kej0 : PySem.W.mroIn K E0 (.type "object") = some true)
    (ek0 : PySem.W.findIn K (.ref E0) "what" = some none)
    (kea1 : excInF K E1 "ValueError.__new__" = true)
    (eb1 : PySem.W.keepIn K (.ref E1) = true)
    (ec1 : PySem.W.findIn K (.ref E1) "__setattr__" = some (some (.builtin "object.__setattr__")))
    (ked1 : ((PySem.W.clsIn K E1).any fun cd => overB cd.mro && cd.hasDict) = true)
    (ee1 : PySem.W.findIn K (.ref E1) "__getattribute__" = some (some (.builtin "BaseException.__getattribute__")))
    (ef1 : PySem.W.findIn K (.ref E1) "__getattr__" = some none)
    (eg1 : PySem.W.findIn K (.ref E1) "__class__" = some (some (.builtin "object.__class__")))
    (eh1 : PySem.W.specialIn K (.builtin "object.__class__") "__get__" = some (some (.builtin "getset_descriptor.__get__")))
    (ei1 : PySem.W.takesIn K (.builtin "object.__class__") = some true)
    (kej1 : PySem.W.mroIn K E1 (.type "object") = some true)
    (ek1 : PySem.W.findIn K (.ref E1) "what" = some none)
    (el : PySem.W.specialIn K (.ref E2) "__getattribute__" = some (some (.builtin "type.__getattribute__")))
    (em : PySem.W.readsIn K E2 (.type "type") = true)
    (en : PySem.W.findCls K (.ref E2) (.type "type") "__init__" = some (.val (.builtin "ValueError.__init__")))
    (keo0 : excInF K E2 "ValueError.__new__" = true)
    (keo1 : PySem.W.mroIn K E0 (.ref E2) = some true)
    (keo2 : PySem.W.kitOne K (.ref E0) (.type "ValueError") = some true)
    (keo3 : PySem.W.kitAny K (.ref E0) [.ref E3, .ref E4, .ref E5, .ref E6, .ref E7, .ref E8] = some false)
    (keo4 : PySem.W.kitOne K (.ref E0) (.ref E0) = some true)
    (keo5 : PySem.W.kitOne K (.ref E0) (.ref E1) = some false)
    (keo6 : PySem.W.mroIn K E1 (.ref E2) = some true)
    (keo7 : PySem.W.kitOne K (.ref E1) (.type "ValueError") = some true)
    (keo8 : PySem.W.kitAny K (.ref E1) [.ref E3, .ref E4, .ref E5, .ref E6, .ref E7, .ref E8] = some false)
    (keo9 : PySem.W.kitOne K (.ref E1) (.ref E0) = some false)
    (keo10 : PySem.W.kitOne K (.ref E1) (.ref E1) = some true)
    (y0 : PySem.W.nsIn K mainGlobals "abs" = some none)
    (y1 : PySem.W.nsIn K mainGlobals "range" = some none)
    (y2 : PySem.W.nsIn K mainGlobals "int" = some none)
    (y3 : PySem.W.nsIn K mainGlobals "len" = some none)
    (y4 : PySem.W.nsIn K mainGlobals "set" = some none)
    (y5 : PySem.W.nsIn K mainGlobals "min" = some none)
    (y6 : PySem.W.nsIn K mainGlobals "isinstance" = some none)
    (y7 : PySem.W.nsIn K mainGlobals "list" = some none)
    (y8 : PySem.W.nsIn K mainGlobals "enumerate" = some none)
    (y9 : PySem.W.nsIn K mainGlobals "ValueError" = some none)
    (z0 : PySem.W.nsIn K mainGlobals "RULES" = some (some (.ref k0)))
    (zl0 : K.lookup k0 = some ⟨.type "tuple", kod0, .seq #[.str "first" kt0_0, .str "last" kt0_1, .str "clock" kt0_2, .str "far" kt0_3] kn0, ksl0⟩) :
    ∃ a : Adr, Txt K mg a ∧ a.a_law = fa ∧ (∀ (s : Shared) (v : Value), BindsTo s a.d_law ⟨[v], []⟩ [("script", v)]) ∧ a.p_Ahead_farthest = pp9 ∧ PySem.W.codeHdIn K a.c_Ahead_farthest pp9 = true ∧ K.lookup pp9 = none := by
  have e := hfa.symm.trans (PySem.W.mg_of KX G hf22)
  cases e
  exact ⟨⟨f0, PySem.W.fnOf "__init__" "NoRule.__init__" (defArgs s_NoRule___init__) (defBody s_NoRule___init__) (defScope s_NoRule___init__) .none kV0 dc0 pm0 an0 cd0 ct0, f1, PySem.W.fnOf "__init__" "NoRoom.__init__" (defArgs s_NoRoom___init__) (defBody s_NoRoom___init__) (defScope s_NoRoom___init__) .none kV1 dc1 pm1 an1 cd1 ct1, f2, PySem.W.fnOf "__init__" "Line.__init__" (defArgs s_Line___init__) (defBody s_Line___init__) (defScope s_Line___init__) .none kV2 dc2 pm2 an2 cd2 ct2, f3, PySem.W.fnOf "ask" "Line.ask" (defArgs s_Line_ask) (defBody s_Line_ask) (defScope s_Line_ask) .none kV3 dc3 pm3 an3 cd3 ct3, f4, PySem.W.fnOf "__init__" "Ring.__init__" (defArgs s_Ring___init__) (defBody s_Ring___init__) (defScope s_Ring___init__) .none kV4 dc4 pm4 an4 cd4 ct4, f5, PySem.W.fnOf "sweep" "Ring.sweep" (defArgs s_Ring_sweep) (defBody s_Ring_sweep) (defScope s_Ring_sweep) .none kV5 dc5 pm5 an5 cd5 ct5, f6, PySem.W.fnOf "ask" "Ring.ask" (defArgs s_Ring_ask) (defBody s_Ring_ask) (defScope s_Ring_ask) .none kV6 dc6 pm6 an6 cd6 ct6, f7, PySem.W.fnOf "__init__" "Ahead.__init__" (defArgs s_Ahead___init__) (defBody s_Ahead___init__) (defScope s_Ahead___init__) .none kV7 dc7 pm7 an7 cd7 ct7, f8, PySem.W.fnOf "ask" "Ahead.ask" (defArgs s_Ahead_ask) (defBody s_Ahead_ask) (defScope s_Ahead_ask) .none kV8 dc8 pm8 an8 cd8 ct8, f9, PySem.W.fnOf "farthest" "Ahead.farthest" (defArgs s_Ahead_farthest) (defBody s_Ahead_farthest) (defScope s_Ahead_farthest) .none kV9 dc9 pm9 an9 (.ref cc9) ct9, f10, PySem.W.fnOf "last_requests" "last_requests" (defArgs s_last_requests) (defBody s_last_requests) (defScope s_last_requests) .none kV10 dc10 pm10 an10 cd10 ct10, f11, PySem.W.fnOf "next_requests" "next_requests" (defArgs s_next_requests) (defBody s_next_requests) (defScope s_next_requests) .none kV11 dc11 pm11 an11 cd11 ct11, f12, PySem.W.fnOf "check_room" "check_room" (defArgs s_check_room) (defBody s_check_room) (defScope s_check_room) .none kV12 dc12 pm12 an12 cd12 ct12, f13, PySem.W.fnOf "empty_room" "empty_room" (defArgs s_empty_room) (defBody s_empty_room) (defScope s_empty_room) .none kV13 dc13 pm13 an13 cd13 ct13, f14, PySem.W.fnOf "walk" "walk" (defArgs s_walk) (defBody s_walk) (defScope s_walk) .none (.ref kd14) dc14 pm14 an14 cd14 ct14, f15, PySem.W.fnOf "faults" "faults" (defArgs s_faults) (defBody s_faults) (defScope s_faults) .none (.ref kd15) dc15 pm15 an15 cd15 ct15, f16, PySem.W.fnOf "_law_deck" "_law_deck" (defArgs s_law_deck) (defBody s_law_deck) (defScope s_law_deck) .none kV16 dc16 pm16 an16 cd16 ct16, f17, PySem.W.fnOf "_law_take" "_law_take" (defArgs s_law_take) (defBody s_law_take) (defScope s_law_take) .none kV17 dc17 pm17 an17 cd17 ct17, f18, PySem.W.fnOf "_law_pool" "_law_pool" (defArgs s_law_pool) (defBody s_law_pool) (defScope s_law_pool) .none kV18 dc18 pm18 an18 cd18 ct18, f19, PySem.W.fnOf "_law_trace" "_law_trace" (defArgs s_law_trace) (defBody s_law_trace) (defScope s_law_trace) .none kV19 dc19 pm19 an19 cd19 ct19, f20, PySem.W.fnOf "_law_odd_rule" "_law_odd_rule" (defArgs s_law_odd_rule) (defBody s_law_odd_rule) (defScope s_law_odd_rule) .none kV20 dc20 pm20 an20 cd20 ct20, f21, PySem.W.fnOf "_law_refusal" "_law_refusal" (defArgs s_law_refusal) (defBody s_law_refusal) (defScope s_law_refusal) .none kV21 dc21 pm21 an21 cd21 ct21, f22, PySem.W.fnOf "law" "law" (defArgs s_law) (defBody s_law) (defScope s_law) .none kV22 dc22 pm22 an22 cd22 ct22, cc9, pp9, C0, C1, C2, E0, E1, E2, E3, E4, E5, E6, E7, E8, k0⟩, ⟨fun_mk (st := s_NoRule___init__) hl0 hc0 hk0,
    fun_mk (st := s_NoRoom___init__) hl1 hc1 hk1,
    fun_mk (st := s_Line___init__) hl2 hc2 hk2,
    fun_mk (st := s_Line_ask) hl3 hc3 hk3,
    ⟨hf3, hi3, hk3⟩,
    fun_mk (st := s_Ring___init__) hl4 hc4 hk4,
    fun_mk (st := s_Ring_sweep) hl5 hc5 hk5,
    ⟨hf5, hi5, hk5⟩,
    fun_mk (st := s_Ring_ask) hl6 hc6 hk6,
    ⟨hf6, hi6, hk6⟩,
    fun_mk (st := s_Ahead___init__) hl7 hc7 hk7,
    fun_mk (st := s_Ahead_ask) hl8 hc8 hk8,
    ⟨hf8, hi8, hk8⟩,
    ⟨⟨_, _, _, _, _, _, _, _, rfl, hl9, hc9⟩, hk9, hh9⟩,
    ⟨hf9, hi9, hk9⟩,
    fun_mk (st := s_last_requests) hl10 hc10 hk10,
    PySem.W.mg_of KX G hf10,
    fun_mk (st := s_next_requests) hl11 hc11 hk11,
    PySem.W.mg_of KX G hf11,
    fun_mk (st := s_check_room) hl12 hc12 hk12,
    PySem.W.mg_of KX G hf12,
    fun_mk (st := s_empty_room) hl13 hc13 hk13,
    PySem.W.mg_of KX G hf13,
    fun_mk (st := s_walk) hl14 hc14 hk14,
    PySem.W.mg_of KX G hf14,
    fun_mk (st := s_faults) hl15 hc15 hk15,
    PySem.W.mg_of KX G hf15,
    fun_mk (st := s_law_deck) hl16 hc16 hk16,
    PySem.W.mg_of KX G hf16,
    fun_mk (st := s_law_take) hl17 hc17 hk17,
    PySem.W.mg_of KX G hf17,
    fun_mk (st := s_law_pool) hl18 hc18 hk18,
    PySem.W.mg_of KX G hf18,
    fun_mk (st := s_law_trace) hl19 hc19 hk19,
    PySem.W.mg_of KX G hf19,
    fun_mk (st := s_law_odd_rule) hl20 hc20 hk20,
    PySem.W.mg_of KX G hf20,
    fun_mk (st := s_law_refusal) hl21 hc21 hk21,
    PySem.W.mg_of KX G hf21,
    fun_mk (st := s_law) hl22 hc22 hk22,
    PySem.W.mg_of KX G hf22,
    ⟨p0, q0, r0, u0⟩,
    PySem.W.mg_of KX G hC0,
    ⟨v0, hf2, hi2, w0⟩,
    x0_0,
    x0_1,
    x0_2,
    ⟨p1, q1, r1, u1⟩,
    PySem.W.mg_of KX G hC1,
    ⟨v1, hf4, hi4, w1⟩,
    x1_0,
    x1_1,
    x1_2,
    x1_3,
    x1_4,
    ⟨p2, q2, r2, u2⟩,
    PySem.W.mg_of KX G hC2,
    ⟨v2, hf7, hi7, w2⟩,
    x2_0,
    x2_1,
    x2_2,
    x2_3,
    ⟨kea0, hf0, hi0, eb0, ec0, ked0, ee0, ef0⟩,
    ⟨eg0, eh0, ei0, kej0⟩,
    ek0,
    ⟨kea1, hf1, hi1, eb1, ec1, ked1, ee1, ef1⟩,
    ⟨eg1, eh1, ei1, kej1⟩,
    ek1,
    ⟨el, em, en⟩,
    PySem.W.mg_of KX G hE0,
    PySem.W.mg_of KX G hE1,
    PySem.W.mg_of KX G hE2,
    PySem.W.mg_of KX G hE3,
    PySem.W.mg_of KX G hE4,
    PySem.W.mg_of KX G hE5,
    PySem.W.mg_of KX G hE6,
    PySem.W.mg_of KX G hE7,
    PySem.W.mg_of KX G hE8,
    keo0,
    keo1,
    keo2,
    keo3,
    keo4,
    keo5,
    keo6,
    keo7,
    keo8,
    keo9,
    keo10,
    PySem.W.mg_none_of KX G y0,
    PySem.W.mg_none_of KX G y1,
    PySem.W.mg_none_of KX G y2,
    PySem.W.mg_none_of KX G y3,
    PySem.W.mg_none_of KX G y4,
    PySem.W.mg_none_of KX G y5,
    PySem.W.mg_none_of KX G y6,
    PySem.W.mg_none_of KX G y7,
    PySem.W.mg_none_of KX G y8,
    PySem.W.mg_none_of KX G y9,
    ⟨kt14, fun s u0 u1 X => PySem.W.kp_binds X (fun S => hw14 S u0 u1)⟩,
    ⟨kt15, fun s u0 u1 X => PySem.W.kp_binds X (fun S => hw15 S u0 u1)⟩,
    PySem.W.mg_of KX G z0,
    fun H => .inr ⟨_, _, _, zl0, rfl, rfl, (by show 4 ≤ sizeLine; decide), (.cons ⟨kt0_0, rfl⟩ (.cons ⟨kt0_1, rfl⟩ (.cons ⟨kt0_2, rfl⟩ (.cons ⟨kt0_3, rfl⟩ .nil))))⟩⟩, rfl, fun s v => .of_eq rfl, rfl, hh9, hn9⟩
end Pg
end
set_option Elab.async false
set_option linter.all false
set_option maxRecDepth 100000
set_option maxHeartbeats 4000000
namespace Pg
open PySem L2
section
local macro_rules | `(tactic| walk_at "rd") => `(tactic| first
  | with_reducible refine rd_var (by with_unfolding_all rfl) ?_
  | with_reducible refine rd_c ?_
  | with_reducible refine rd_next ?_
  | with_reducible refine rd_seq ?_
  | with_reducible refine rd_drop ?_
  | with_reducible refine rd_ret ?_
  | with_reducible refine rd_retN ?_
  | with_reducible refine rd_ifs ?_
  | with_reducible refine rd_asg ?_
  | with_reducible refine rd_gname ?_
  | with_reducible refine rd_gsub ?_
  | with_reducible refine rd_op ?_
  | with_reducible refine rd_un ?_
  | with_reducible refine rd_i0 ?_
  | with_reducible refine rd_test ?_
  | with_reducible refine rd_tb ?_
  | with_reducible refine rd_bl ?_
  | with_reducible refine rd_exc ?_
  | with_reducible refine rd_and ?_
  | with_reducible refine rd_or ?_
  | with_reducible refine rd_not ?_
  | with_reducible refine rd_andV ?_
  | with_reducible refine rd_orV ?_
  | with_reducible refine rd_if ?_
  | with_reducible refine rd_nil ?_
  | with_reducible refine rd_cons ?_
  | with_reducible refine rd_cb ?_
  | with_reducible refine rd_tup ?_
  | with_reducible refine rd_lst ?_
  | with_reducible refine rd_call ?_
  | with_reducible refine rd_callK ?_
  | with_reducible refine rd_make ?_
  | with_reducible refine rd_bm ?_
  | with_reducible refine rd_bm0 ?_
  | with_reducible refine rd_u ?_
  | with_reducible refine rd_for ?_
  | with_reducible refine rd_rng1 ?_
  | with_reducible refine rd_rng2 ?_
  | with_reducible refine rd_ilist ?_
  | with_reducible refine rd_ienum ?_
  | with_reducible refine rd_fld ?_
  | with_reducible refine rd_tlc ?_
  | with_reducible refine rd_sfld ?_
  | with_reducible refine rd_meth ?_
  | with_reducible refine rd_dget ?_
  | with_reducible refine rd_din ?_
  | with_reducible refine rd_dput ?_
  | with_reducible refine rd_ddel ?_
  | with_reducible refine rd_dnewK ?_
  | with_reducible refine rd_yes ?_
  | with_reducible refine rd_sl ?_
  | with_reducible refine rd_part ?_
  | with_reducible refine rd_pint ?_
  | with_reducible refine rd_gcons ?_
  | with_reducible refine rd_gnil ?_
  | with_reducible refine rd_cbk ?_
  | with_reducible refine rd_dnotin ?_
  | with_reducible refine rd_rng3 ?_
  | with_reducible refine rd_izip ?_
  | with_reducible refine rd_ints ?_
  | with_reducible refine rd_nopart ?_
  | with_reducible refine iteF ?_
  | with_reducible refine iteNT ?_
  | with_reducible refine iteNF ?_
  | with_reducible refine iteT ?_)
local macro_rules | `(tactic| walk_at "go") => `(tactic| repeat (first | walk_at "rd" | (dsimp only; walk_at "rd")))
section
open PySem L2
section
variable {P : Program} {w : World} {K : PySem.W.Frag} {mg : Str → Option Value} {base : Heap} {a : Adr}
theorem ok_law_take (T : Txt K mg a) : FnOk P w K mg base CX0 1 a.a_law_take a.d_law_take ["deck", "many"] spTake := by
  refine T.f_law_take.ok S_law_take (fun vs H Q E h => ?_) (fun cdv A outer s H vs Q E hr h => ?_)
  · obtain ⟨dk, g, c, many, rfl, _⟩ := h
    rfl
  · obtain ⟨dk, g, c, many, rfl, hD, hm0, hm1, hc, k⟩ := h
    refine ⟨_, (@pss_cons _ _ _ _ _ (@ps_while _ _ _ _ _ _ PassesOwn.never (PW.pt (@pw_and _ _ _ _ _ _ _ (@pt_cmpR _ _ _ _ _ _ _ _ (op_neD hr.units) (@pe_ix _ _ _ _ _ _ _ ix_list (@pv _ 0 _ _ (by rfl) (by first | exact Or.inl rfl | exact Or.inr (Or.inl rfl) | exact Or.inr (Or.inr rfl)) (by decide) (by decide)) (@pe_int _ _ _ _) (fun _ _ => rfl)) (@pe_lst _ _ _ _ (@pa_nil _)) (nomark _)) (@pw_and1 _ _ _ _ (@pt_cmpR _ _ _ _ _ _ _ _ op_lt (@pe_ix _ _ _ _ _ _ _ ix_list (@pe_ix _ _ _ _ _ _ _ ix_list (@pv _ 0 _ _ (by rfl) (by first | exact Or.inl rfl | exact Or.inr (Or.inl rfl) | exact Or.inr (Or.inr rfl)) (by decide) (by decide)) (@pe_int _ _ _ _) (fun _ _ => rfl)) (@pe_un _ _ _ _ _ _ un_neg (@pe_int _ _ _ _)) (fun _ _ => rfl)) (@pe_int _ _ _ _) (nomark _))))) (@pss_one _ _ _ (@ps_expr _ _ _ _ (@pe_bm0 _ _ _ _ _ _ _ _ _ PySem.F.plainAttrs_list PySem.F.slot_list_pop PySem.F.type_list_pop mt_pop (@pe_ix _ _ _ _ _ _ _ ix_list (@pv _ 0 _ _ (by rfl) (by first | exact Or.inl rfl | exact Or.inr (Or.inl rfl) | exact Or.inr (Or.inr rfl)) (by decide) (by decide)) (@pe_int _ _ _ _) (fun _ _ => rfl)) (by rfl) (by rfl)) (by rfl)))) (@pss_cons _ _ _ _ _ (@ps_if _ _ _ _ _ _ _ _ (@pt_cmpR _ _ _ _ _ _ _ _ (op_neD hr.units) (@pe_ix _ _ _ _ _ _ _ ix_list (@pv _ 0 _ _ (by rfl) (by first | exact Or.inl rfl | exact Or.inr (Or.inl rfl) | exact Or.inr (Or.inr rfl)) (by decide) (by decide)) (@pe_int _ _ _ _) (fun _ _ => rfl)) (@pe_lst _ _ _ _ (@pa_nil _)) (nomark _)) (@pss_cons _ _ _ _ _ (@ps_asg _ _ _ _ _ _ (@pe_op _ _ _ _ _ _ _ _ op_mod (@pe_ix _ _ _ _ _ _ _ ix_list (@pe_ix _ _ _ _ _ _ _ ix_list (@pv _ 0 _ _ (by rfl) (by first | exact Or.inl rfl | exact Or.inr (Or.inl rfl) | exact Or.inr (Or.inr rfl)) (by decide) (by decide)) (@pe_int _ _ _ _) (fun _ _ => rfl)) (@pe_un _ _ _ _ _ _ un_neg (@pe_int _ _ _ _)) (fun _ _ => rfl)) (@pv _ 1 _ _ (by rfl) (by first | exact Or.inl rfl | exact Or.inr (Or.inl rfl) | exact Or.inr (Or.inr rfl)) (by decide) (by decide))) (@pg_name _ _ (2) _ S_law_take.nd rfl (by first | exact Or.inl rfl | exact Or.inr rfl) (by first | exact .inl rfl | exact .inr rfl | assumption)) (by rfl) (by rfl) (by rfl)) (@pss_cons _ _ _ _ _ (@ps_asg _ _ _ _ _ _ (@pe_op _ _ _ _ _ _ _ _ op_fdiv (@pe_ix _ _ _ _ _ _ _ ix_list (@pe_ix _ _ _ _ _ _ _ ix_list (@pv _ 0 _ _ (by rfl) (by first | exact Or.inl rfl | exact Or.inr (Or.inl rfl) | exact Or.inr (Or.inr rfl)) (by decide) (by decide)) (@pe_int _ _ _ _) (fun _ _ => rfl)) (@pe_un _ _ _ _ _ _ un_neg (@pe_int _ _ _ _)) (fun _ _ => rfl)) (@pv _ 1 _ _ (by rfl) (by first | exact Or.inl rfl | exact Or.inr (Or.inl rfl) | exact Or.inr (Or.inr rfl)) (by decide) (by decide))) (@pg_sub _ _ _ _ _ _ _ (@pe_ix _ _ _ _ _ _ _ ix_list (@pv _ 0 _ _ (by rfl) (by first | exact Or.inl rfl | exact Or.inr (Or.inl rfl) | exact Or.inr (Or.inr rfl)) (by decide) (by decide)) (@pe_int _ _ _ _) (fun _ _ => rfl)) (@pe_un _ _ _ _ _ _ un_neg (@pe_int _ _ _ _)) set_list (by intro _; rfl)) (by rfl) (by rfl) (by rfl)) (@pss_one _ _ _ (@ps_ret _ _ _ _ (@pv _ 2 _ _ (by rfl) (by first | exact Or.inl rfl | exact Or.inr (Or.inl rfl) | exact Or.inr (Or.inr rfl)) (by decide) (by decide)))))) (@pss_nil _)) (@pss_cons _ _ _ _ _ (@ps_asg _ _ _ _ _ _ (@pe_op _ _ _ _ _ _ _ _ op_add (@pe_ix _ _ _ _ _ _ _ ix_list (@pv _ 0 _ _ (by rfl) (by first | exact Or.inl rfl | exact Or.inr (Or.inl rfl) | exact Or.inr (Or.inr rfl)) (by decide) (by decide)) (@pe_int _ _ _ _) (fun _ _ => rfl)) (@pe_int _ _ _ _)) (@pg_sub _ _ _ _ _ _ _ (@pv _ 0 _ _ (by rfl) (by first | exact Or.inl rfl | exact Or.inr (Or.inl rfl) | exact Or.inr (Or.inr rfl)) (by decide) (by decide)) (@pe_int _ _ _ _) set_list (by intro _; rfl)) (by rfl) (by rfl) (by rfl)) (@pss_cons _ _ _ _ _ (@ps_asg _ _ _ _ _ _ (@pe_ix _ _ _ _ _ _ _ ix_list (@pv _ 0 _ _ (by rfl) (by first | exact Or.inl rfl | exact Or.inr (Or.inl rfl) | exact Or.inr (Or.inr rfl)) (by decide) (by decide)) (@pe_int _ _ _ _) (fun _ _ => rfl)) (@pg_name _ _ (3) _ S_law_take.nd rfl (by first | exact Or.inl rfl | exact Or.inr rfl) (by first | exact .inl rfl | exact .inr rfl | assumption)) (by rfl) (by rfl) (by rfl)) (@pss_cons _ _ _ _ _ (@ps_asg _ _ _ _ _ _ (@pe_op _ _ _ _ _ _ _ _ op_add (@pe_op _ _ _ _ _ _ _ _ op_mul (@pe_op _ _ _ _ _ _ _ _ op_add (@pe_ix _ _ _ _ _ _ _ ix_list (@pv _ 0 _ _ (by rfl) (by first | exact Or.inl rfl | exact Or.inr (Or.inl rfl) | exact Or.inr (Or.inr rfl)) (by decide) (by decide)) (@pe_int _ _ _ _) (fun _ _ => rfl)) (@pe_int _ _ _ _)) (@pe_op _ _ _ _ _ _ _ _ op_pow (@pe_op _ _ _ _ _ _ _ _ op_add (@pv _ 3 _ _ (by rfl) (by first | exact Or.inl rfl | exact Or.inr (Or.inl rfl) | exact Or.inr (Or.inr rfl)) (by decide) (by decide)) (@pe_int _ _ _ _)) (@pe_int _ _ _ _))) (@pe_op _ _ _ _ _ _ _ _ op_mul (@pe_int _ _ _ _) (@pv _ 3 _ _ (by rfl) (by first | exact Or.inl rfl | exact Or.inr (Or.inl rfl) | exact Or.inr (Or.inr rfl)) (by decide) (by decide)))) (@pg_name _ _ (4) _ S_law_take.nd rfl (by first | exact Or.inl rfl | exact Or.inr rfl) (by first | exact .inl rfl | exact .inr rfl | assumption)) (by rfl) (by rfl) (by rfl)) (@pss_one _ _ _ (@ps_ret _ _ _ _ (@pe_op _ _ _ _ _ _ _ _ op_mod (@pe_op _ _ _ _ _ _ _ _ op_fdiv (@pe_op _ _ _ _ _ _ _ _ op_mod (@pe_op _ _ _ _ _ _ _ _ op_pow (@pe_op _ _ _ _ _ _ _ _ op_mod (@pv _ 4 _ _ (by rfl) (by first | exact Or.inl rfl | exact Or.inr (Or.inl rfl) | exact Or.inr (Or.inr rfl)) (by decide) (by decide)) (@pe_int _ _ _ _)) (@pe_int _ _ _ _)) (@pe_int _ _ _ _)) (@pe_int _ _ _ _)) (@pv _ 1 _ _ (by rfl) (by first | exact Or.inl rfl | exact Or.inr (Or.inl rfl) | exact Or.inr (Or.inr rfl)) (by decide) (by decide)))))))))), ?_⟩
    walk_at "rd"
    refine while_W (fun σ H' => σ = [some (.ref dk), some (.int many), none, none, none] ∧ DeckAt H' dk g c ∧ Kp [dk, g] H H') (fun _ H' => lenAt g H') ⟨rfl, hD, Kp.refl⟩ ?_
    rintro σ H1 ⟨rfl, hD1, k1⟩
    obtain ⟨ns, fold, cnt, h1, h2, hf0, hf1, hc0, hc1⟩ := id hD1
    have hne := ne_ri h1 h2
    have hl1 := lenAt_of h2
    walk_at "go"
    refine rd_ixl (SqL.of h1) rfl ?_
    walk_at "go"
    refine ⟨by decide, fun p hp => ?_⟩
    have hp1 : upd H1 p (.lst []) p = some (.lst []) := upd_same
    have k2 : Kp [dk, g] H (upd H1 p (.lst [])) := k1.new hp
    have h1' := same_new (o := .lst []) hp _ _ h1
    have h2' := same_new (o := .lst []) hp _ _ h2
    generalize upd H1 p (.lst []) = H2 at *
    refine rd_neNil h2' hp1 ?_
    walk_at "go"
    refine iteDn (fun hn => ?_) (fun hn => ?_)
    · -- the last of the great ones
      obtain ⟨z, hz⟩ := last_int hn
      have hpos : 0 < ns.length := by
        cases ns with
        | nil => exact absurd rfl hn
        | cons n ns => simp
      walk_at "go"
      refine rd_ixl (SqL.of h1') rfl ?_
      walk_at "go"
      refine rd_ixl (SqL.of h2') (atI_last' hz) ?_
      walk_at "go"
      refine iteD (fun hlt => ?_) (fun hlt => ?_)
      · refine ⟨fun σ' H' => (σ' = [some (.ref dk), some (.int many), none, none, none] ∧ DeckAt H' dk g c ∧ Kp [dk, g] H H') ∧ lenAt g H' < lenAt g H1, fun σ' H' ⟨p, l⟩ => ⟨_, l, rfl, p⟩, ?_⟩
        walk_at "go"
        refine rd_ixl (SqL.of h1') rfl ?_
        refine ⟨.inl ⟨rfl, _, SqL.of h2'⟩, g, _, _, rfl, rfl, h2', hz, ?_⟩
        refine ⟨⟨rfl, ⟨ns.dropLast, fold, cnt, ?_, ?_, hf0, hf1, hc0, hc1⟩, k2.put (by simp)⟩, ?_⟩
        · rw [upd_ne hne]; exact h1'
        · rw [upd_same, List.map_dropLast]
        · rw [hl1, lenAt_of upd_same]
          simp
          omega
      · -- not below two: the while ends; drawn from the great one
        walk_at "go"
        refine rd_ixl (SqL.of h1') rfl ?_
        walk_at "go"
        refine ⟨by decide, fun p2 hp2 => ?_⟩
        have hp1 : upd H2 p2 (.lst []) p2 = some (.lst []) := upd_same
        have k3 : Kp [dk, g] H (upd H2 p2 (.lst [])) := k2.new hp2
        have h1' := same_new (o := .lst []) hp2 _ _ h1'
        have h2' := same_new (o := .lst []) hp2 _ _ h2'
        generalize upd H2 p2 (.lst []) = H3 at *
        refine rd_neNil h2' hp1 ?_
        walk_at "go"
        refine iteDn (fun _ => ?_) (fun z => absurd z hn)
        walk_at "go"
        refine rd_ixl (SqL.of h1') rfl ?_
        walk_at "go"
        refine rd_ixl (SqL.of h2') (atI_last' hz) ?_
        walk_at "go"
        refine rd_i hm0 ?_
        walk_at "go"
        refine rd_ixl (SqL.of h1') rfl ?_
        walk_at "go"
        refine rd_ixl (SqL.of h2') (atI_last' hz) ?_
        walk_at "go"
        refine rd_i ⟨hm0, hm1⟩ ?_
        walk_at "go"
        refine rd_ixl (SqL.of h1') rfl ?_
        walk_at "go"
        refine rd_setl h2' (ixN_last (by simpa using hpos)) ?_
        walk_at "go"
        refine k _ _ (Int.emod_nonneg _ (by omega)) (Int.emod_lt_of_pos _ hm0) ⟨ns.set (ns.length - 1) (z / many), fold, cnt, ?_, ?_, hf0, hf1, hc0, by omega⟩ (k3.put (by simp))
        · rw [upd_ne hne]; exact h1'
        · rw [upd_same, List.map_set]
          simp
    · -- no great one is left
      subst hn
      walk_at "go"
      refine rd_ixl (SqL.of h1') rfl ?_
      walk_at "go"
      refine ⟨by decide, fun p2 hp2 => ?_⟩
      have hp1 : upd H2 p2 (.lst []) p2 = some (.lst []) := upd_same
      have k3 : Kp [dk, g] H (upd H2 p2 (.lst [])) := k2.new hp2
      have h1' := same_new (o := .lst []) hp2 _ _ h1'
      have h2' := same_new (o := .lst []) hp2 _ _ h2'
      generalize upd H2 p2 (.lst []) = H3 at *
      refine rd_neNil h2' hp1 ?_
      walk_at "go"
      refine iteDn (fun z => absurd rfl z) (fun _ => ?_)
      walk_at "go"
      refine rd_ixl (SqL.of h1') rfl ?_
      walk_at "go"
      refine rd_setl (j := 2) h1' rfl ?_
      dsimp only [List.set]
      have h3 : upd H3 dk (.lst [.ref g, .int fold, .int (cnt + 1)]) dk = some (.lst [.ref g, .int fold, .int (cnt + 1)]) := upd_same
      have h4 : upd H3 dk (.lst [.ref g, .int fold, .int (cnt + 1)]) g = some (.lst (([] : List Int).map V.int)) := by rw [upd_ne hne.symm]; exact h2'
      have k4 : Kp [dk, g] H (upd H3 dk (.lst [.ref g, .int fold, .int (cnt + 1)])) := k3.put (by simp)
      generalize upd H3 dk (.lst [.ref g, .int fold, .int (cnt + 1)]) = H4 at *
      walk_at "go"
      refine rd_ixl (SqL.of h3) rfl ?_
      walk_at "go"
      refine rd_ixl (SqL.of h3) rfl ?_
      walk_at "go"
      refine rd_i ⟨by decide, by decide, ?_⟩ ?_
      · omega
      walk_at "go"
      refine rd_i (.inl ⟨by omega, by omega⟩) ?_
      walk_at "go"
      refine rd_i (.inl ⟨by decide, by decide⟩) ?_
      walk_at "go"
      refine rd_i (by decide) ?_
      walk_at "go"
      refine rd_i ⟨by decide, by decide, ?_⟩ ?_
      · omega
      walk_at "go"
      refine rd_i (by decide) ?_
      walk_at "go"
      refine rd_i ⟨by decide, by decide⟩ ?_
      walk_at "go"
      refine rd_i hm0 ?_
      exact k _ _ (Int.emod_nonneg _ (by omega)) (Int.emod_lt_of_pos _ hm0) ⟨[], fold, cnt + 1, h3, h4, hf0, hf1, by omega, by omega⟩ k4
end
end
section
open PySem L2
section
variable {P : Program} {w : World} {K : PySem.W.Frag} {mg : Str → Option Value} {base : Heap} {a : Adr}
theorem ok_law_deck (T : Txt K mg a) : FnOk P w K mg base CX0 1 a.a_law_deck a.d_law_deck ["script"] (spDeck K) := by
  refine T.f_law_deck.ok S_law_deck (fun vs H Q E h => ?_) (fun cdv A outer s H vs Q E hr h => ?_)
  · obtain ⟨s, ns, rfl, _⟩ := h
    rfl
  · obtain ⟨sc, ns, rfl, hS, hl, k⟩ := h
    refine ⟨_, (@pss_cons _ _ _ _ _ (@ps_asg _ _ _ _ _ _ (@pe_lst _ _ _ _ (@pa_nil _)) (@pg_name _ _ (1) _ S_law_deck.nd rfl (by first | exact Or.inl rfl | exact Or.inr rfl) (by first | exact .inl rfl | exact .inr rfl | assumption)) (by rfl) (by rfl) (by rfl)) (@pss_cons _ _ _ _ _ (@ps_asg _ _ _ _ _ _ (@pe_int _ _ _ _) (@pg_name _ _ (2) _ S_law_deck.nd rfl (by first | exact Or.inl rfl | exact Or.inr rfl) (by first | exact .inl rfl | exact .inr rfl | assumption)) (by rfl) (by rfl) (by rfl)) (@pss_cons _ _ _ _ _ (@ps_for _ _ _ _ _ _ _ _ PassesOwn.never rfl (@pi_list _ _ _ _ (@pv _ 0 _ _ (by rfl) (by first | exact Or.inl rfl | exact Or.inr (Or.inl rfl) | exact Or.inr (Or.inr rfl)) (by decide) (by decide))) (@pg_name _ _ (3) _ S_law_deck.nd rfl (by first | exact Or.inl rfl | exact Or.inr rfl) (by first | exact .inl rfl | exact .inr rfl | assumption)) (@pss_cons _ _ _ _ _ (@ps_asg _ _ _ _ _ _ (@pe_op _ _ _ _ _ _ _ _ op_mod (@pe_op _ _ _ _ _ _ _ _ op_add (@pe_op _ _ _ _ _ _ _ _ op_mul (@pv _ 2 _ _ (by rfl) (by first | exact Or.inl rfl | exact Or.inr (Or.inl rfl) | exact Or.inr (Or.inr rfl)) (by decide) (by decide)) (@pe_int _ _ _ _)) (@pv _ 3 _ _ (by rfl) (by first | exact Or.inl rfl | exact Or.inr (Or.inl rfl) | exact Or.inr (Or.inr rfl)) (by decide) (by decide))) (@pe_int _ _ _ _)) (@pg_name _ _ (2) _ S_law_deck.nd rfl (by first | exact Or.inl rfl | exact Or.inr rfl) (by first | exact .inl rfl | exact .inr rfl | assumption)) (by rfl) (by rfl) (by rfl)) (@pss_one _ _ _ (@ps_if _ _ _ _ _ _ _ _ (@pt_cmpR _ _ _ _ _ _ _ _ op_ge (@pe_callB _ _ _ _ _ _ _ _ _ call_abs (by rfl) T.n_abs (by decide +kernel) (@pa_cons _ _ _ _ _ (@pv _ 3 _ _ (by rfl) (by first | exact Or.inl rfl | exact Or.inr (Or.inl rfl) | exact Or.inr (Or.inr rfl)) (by decide) (by decide)) (@pa_nil _) (by rfl)) (by decide) (by decide) (by rfl) (by rfl)) (@pe_op _ _ _ _ _ _ _ _ op_pow (@pe_int _ _ _ _) (@pe_int _ _ _ _)) (nomark _)) (@pss_one _ _ _ (@ps_expr _ _ _ _ (@pe_bm _ _ _ _ _ _ _ _ _ _ _ _ PySem.F.plainAttrs_list PySem.F.slot_list_insert PySem.F.type_list_insert mt_insert0 (@pv _ 1 _ _ (by rfl) (by first | exact Or.inl rfl | exact Or.inr (Or.inl rfl) | exact Or.inr (Or.inr rfl)) (by decide) (by decide)) (@pa_cons _ _ _ _ _ (@pe_int _ _ _ _) (@pa_cons _ _ _ _ _ (@pe_op _ _ _ _ _ _ _ _ op_sub (@pe_callB _ _ _ _ _ _ _ _ _ call_abs (by rfl) T.n_abs (by decide +kernel) (@pa_cons _ _ _ _ _ (@pv _ 3 _ _ (by rfl) (by first | exact Or.inl rfl | exact Or.inr (Or.inl rfl) | exact Or.inr (Or.inr rfl)) (by decide) (by decide)) (@pa_nil _) (by rfl)) (by decide) (by decide) (by rfl) (by rfl)) (@pe_op _ _ _ _ _ _ _ _ op_pow (@pe_int _ _ _ _) (@pe_int _ _ _ _))) (@pa_nil _) (by rfl)) (by rfl)) (by rfl) (by rfl) (by rfl) (by rfl) (by rfl)) (by rfl))) (@pss_nil _)))) (by intro _; rfl)) (@pss_one _ _ _ (@ps_ret _ _ _ _ (@pe_lst _ _ _ _ (@pa_cons _ _ _ _ _ (@pv _ 1 _ _ (by rfl) (by first | exact Or.inl rfl | exact Or.inr (Or.inl rfl) | exact Or.inr (Or.inr rfl)) (by decide) (by decide)) (@pa_cons _ _ _ _ _ (@pv _ 2 _ _ (by rfl) (by first | exact Or.inl rfl | exact Or.inr (Or.inl rfl) | exact Or.inr (Or.inr rfl)) (by decide) (by decide)) (@pa_cons _ _ _ _ _ (@pe_int _ _ _ _) (@pa_nil _) (by rfl)) (by rfl)) (by rfl)))))))), ?_⟩
    walk_at "go"
    refine ⟨by decide, fun g hg => ?_⟩
    walk_at "go"
    have s1 := same_new (o := .lst []) hg
    refine ⟨sc, rfl, ⟨_, s1.seq hS⟩, for_list (K := K) (a := sc) (xs := ns.map V.int) (fun i σ H2 => ∃ (zs : List Int) (fold : Int) (v : Option V), σ = [some (.ref sc), some (.ref g), some (.int fold), v] ∧ Same H H2 ∧ H2 g = some (.lst (zs.map V.int)) ∧ zs.length ≤ i ∧ 0 ≤ fold ∧ fold < 2305843009213693951)
      ⟨[], 11, none, rfl, s1, upd_same, Nat.le_refl _, by decide, by decide⟩ (fun i σ H2 _ ⟨_, _, _, _, s2, _⟩ => s2.seq hS) ?_ ?_⟩
    · rintro i y σ H2 hi ⟨zs, fold, v, rfl, s2, hg2, hz, hf0, hf1⟩
      have hil : i < (ns.map V.int).length := (List.getElem?_eq_some_iff.mp hi).1
      rw [List.length_map] at hil
      obtain ⟨z, rfl⟩ := int_at hi
      walk_at "go"
      refine rd_i (.inr ⟨by decide, by decide⟩) ?_
      walk_at "go"
      refine rd_i (by decide) ?_
      walk_at "go"
      have e0 : 0 ≤ (fold * 1000003 + z) % 2305843009213693951 := Int.emod_nonneg _ (by decide)
      have e1 : (fold * 1000003 + z) % 2305843009213693951 < 2305843009213693951 := Int.emod_lt_of_pos _ (by decide)
      generalize (fold * 1000003 + z) % 2305843009213693951 = fold' at *
      refine ⟨_, rfl, ?_⟩
      walk_at "go"
      refine rd_i ⟨by decide, by decide, by decide⟩ ?_
      walk_at "go"
      refine iteD (fun _ => ?_) (fun _ => ?_)
      · walk_at "go"
        refine ⟨.inl ⟨rfl, _, SqL.of hg2⟩, ?_⟩
        walk_at "go"
        refine ⟨_, rfl, ?_⟩
        walk_at "go"
        refine rd_i ⟨by decide, by decide, by decide⟩ ?_
        walk_at "go"
        refine ⟨g, _, _, rfl, rfl, hg2, small1000 (by rw [List.length_map]; omega), ?_⟩
        refine ⟨_ :: zs, fold', _, rfl, fun b o e => ?_, upd_same, by simp; omega, e0, e1⟩
        rw [upd_ne (ne_of_none e hg)]
        exact s2 b o e
      · walk_at "go"
        exact ⟨zs, fold', _, rfl, s2, hg2, by omega, e0, e1⟩
    · rintro σ H2 ⟨zs, fold, v, rfl, s2, hg2, hz, hf0, hf1⟩
      walk_at "go"
      refine ⟨by show 3 ≤ sizeLine; decide, fun dk hdk => ?_⟩
      have hn := ne_of_none hg2 hdk
      refine k dk g _ (s2.free hdk) hg ⟨zs, fold, 0, upd_same, by rw [upd_ne hn]; exact hg2, hf0, hf1, by decide, by decide⟩ (s2.trans (same_new hdk))
end
end
section
open PySem L2
section
variable {P : Program} {w : World} {K : PySem.W.Frag} {mg : Str → Option Value} {base : Heap} {a : Adr}
theorem ok_law_pool (T : Txt K mg a) : FnOk P w K mg base CX0 2 a.a_law_pool a.d_law_pool ["deck"] spPool := by
  refine T.f_law_pool.ok S_law_pool (fun vs H Q E h => ?_) (fun cdv A outer s H vs Q E hr h => ?_)
  · obtain ⟨dk, g, c, rfl, _⟩ := h
    rfl
  · obtain ⟨dk, g, c, rfl, hD, hc, k⟩ := h
    refine ⟨_, (@pss_cons _ _ _ _ _ (@ps_asg _ _ _ _ _ _ (@pe_ix _ _ _ _ _ _ _ ix_list (@pe_lst _ _ _ _ (@pa_cons _ _ _ _ _ (@pe_int _ _ _ _) (@pa_cons _ _ _ _ _ (@pe_int _ _ _ _) (@pa_cons _ _ _ _ _ (@pe_int _ _ _ _) (@pa_cons _ _ _ _ _ (@pe_int _ _ _ _) (@pa_cons _ _ _ _ _ (@pe_int _ _ _ _) (@pa_cons _ _ _ _ _ (@pe_int _ _ _ _) (@pa_nil _) (by rfl)) (by rfl)) (by rfl)) (by rfl)) (by rfl)) (by rfl))) (@pe_call _ _ _ _ _ _ _ _ _ _ _ _ _ _ _ _ (ok_law_take T) (hr.mono (by first | decide | omega)) (by rfl) T.g_law_take T.f_law_take.kp (b_law_take T) .nil pass0 (@pa_cons _ _ _ _ _ (@pv _ 0 _ _ (by rfl) (by first | exact Or.inl rfl | exact Or.inr (Or.inl rfl) | exact Or.inr (Or.inr rfl)) (by decide) (by decide)) (@pa_cons _ _ _ _ _ (@pe_int _ _ _ _) (@pa_nil _) (by rfl)) (by rfl)) (by decide) (by rfl) (by rfl)) (fun _ _ => rfl)) (@pg_name _ _ (1) _ S_law_pool.nd rfl (by first | exact Or.inl rfl | exact Or.inr rfl) (by first | exact .inl rfl | exact .inr rfl | assumption)) (by rfl) (by rfl) (by rfl)) (@pss_cons _ _ _ _ _ (@ps_asg _ _ _ _ _ _ (@pe_call _ _ _ _ _ _ _ _ _ _ _ _ _ _ _ _ (ok_law_take T) (hr.mono (by first | decide | omega)) (by rfl) T.g_law_take T.f_law_take.kp (b_law_take T) .nil pass0 (@pa_cons _ _ _ _ _ (@pv _ 0 _ _ (by rfl) (by first | exact Or.inl rfl | exact Or.inr (Or.inl rfl) | exact Or.inr (Or.inr rfl)) (by decide) (by decide)) (@pa_cons _ _ _ _ _ (@pe_int _ _ _ _) (@pa_nil _) (by rfl)) (by rfl)) (by decide) (by rfl) (by rfl)) (@pg_name _ _ (2) _ S_law_pool.nd rfl (by first | exact Or.inl rfl | exact Or.inr rfl) (by first | exact .inl rfl | exact .inr rfl | assumption)) (by rfl) (by rfl) (by rfl)) (@pss_cons _ _ _ _ _ (@ps_asg _ _ _ _ _ _ (@pe_lst _ _ _ _ (@pa_nil _)) (@pg_name _ _ (3) _ S_law_pool.nd rfl (by first | exact Or.inl rfl | exact Or.inr rfl) (by first | exact .inl rfl | exact .inr rfl | assumption)) (by rfl) (by rfl) (by rfl)) (@pss_cons _ _ _ _ _ (@ps_for _ _ _ _ _ _ _ _ PassesOwn.never rfl (@pi_range1 _ _ _ _ _ _ (by rfl) T.n_range (@pa_cons _ _ _ _ _ (@pe_ix _ _ _ _ _ _ _ ix_list (@pe_lst _ _ _ _ (@pa_cons _ _ _ _ _ (@pe_op _ _ _ _ _ _ _ _ op_add (@pe_int _ _ _ _) (@pe_call _ _ _ _ _ _ _ _ _ _ _ _ _ _ _ _ (ok_law_take T) (hr.mono (by first | decide | omega)) (by rfl) T.g_law_take T.f_law_take.kp (b_law_take T) .nil pass0 (@pa_cons _ _ _ _ _ (@pv _ 0 _ _ (by rfl) (by first | exact Or.inl rfl | exact Or.inr (Or.inl rfl) | exact Or.inr (Or.inr rfl)) (by decide) (by decide)) (@pa_cons _ _ _ _ _ (@pv _ 1 _ _ (by rfl) (by first | exact Or.inl rfl | exact Or.inr (Or.inl rfl) | exact Or.inr (Or.inr rfl)) (by decide) (by decide)) (@pa_nil _) (by rfl)) (by rfl)) (by decide) (by rfl) (by rfl))) (@pa_cons _ _ _ _ _ (@pe_int _ _ _ _) (@pa_nil _) (by rfl)) (by rfl))) (@pe_callTy _ _ _ _ _ _ _ _ _ call_int1 (by rfl) T.n_int (by decide +kernel) (@pa_cons _ _ _ _ _ (@pe_cmpR _ _ _ _ _ _ _ _ op_eq (@pe_call _ _ _ _ _ _ _ _ _ _ _ _ _ _ _ _ (ok_law_take T) (hr.mono (by first | decide | omega)) (by rfl) T.g_law_take T.f_law_take.kp (b_law_take T) .nil pass0 (@pa_cons _ _ _ _ _ (@pv _ 0 _ _ (by rfl) (by first | exact Or.inl rfl | exact Or.inr (Or.inl rfl) | exact Or.inr (Or.inr rfl)) (by decide) (by decide)) (@pa_cons _ _ _ _ _ (@pe_int _ _ _ _) (@pa_nil _) (by rfl)) (by rfl)) (by decide) (by rfl) (by rfl)) (@pe_int _ _ _ _) (nomark _)) (@pa_nil _) (by rfl)) (by decide) (by decide) (by rfl) (by rfl)) (fun _ _ => rfl)) (@pa_nil _) (by rfl)) (by rfl)) (@pg_name _ _ (4) _ S_law_pool.nd rfl (by first | exact Or.inl rfl | exact Or.inr rfl) (by first | exact .inl rfl | exact .inr rfl | assumption)) (@pss_cons _ _ _ _ _ (@ps_asg _ _ _ _ _ _ (@pe_ix _ _ _ _ _ _ _ ix_list (@pe_lst _ _ _ _ (@pa_cons _ _ _ _ _ (@pv _ 4 _ _ (by rfl) (by first | exact Or.inl rfl | exact Or.inr (Or.inl rfl) | exact Or.inr (Or.inr rfl)) (by decide) (by decide)) (@pa_cons _ _ _ _ _ (@pe_op _ _ _ _ _ _ _ _ op_sub (@pe_op _ _ _ _ _ _ _ _ op_pow (@pe_int _ _ _ _) (@pe_int _ _ _ _)) (@pe_op _ _ _ _ _ _ _ _ op_mul (@pe_int _ _ _ _) (@pv _ 4 _ _ (by rfl) (by first | exact Or.inl rfl | exact Or.inr (Or.inl rfl) | exact Or.inr (Or.inr rfl)) (by decide) (by decide)))) (@pa_cons _ _ _ _ _ (@pe_call _ _ _ _ _ _ _ _ _ _ _ _ _ _ _ _ (ok_law_take T) (hr.mono (by first | decide | omega)) (by rfl) T.g_law_take T.f_law_take.kp (b_law_take T) .nil pass0 (@pa_cons _ _ _ _ _ (@pv _ 0 _ _ (by rfl) (by first | exact Or.inl rfl | exact Or.inr (Or.inl rfl) | exact Or.inr (Or.inr rfl)) (by decide) (by decide)) (@pa_cons _ _ _ _ _ (@pe_op _ _ _ _ _ _ _ _ op_add (@pe_op _ _ _ _ _ _ _ _ op_pow (@pe_int _ _ _ _) (@pe_int _ _ _ _)) (@pe_int _ _ _ _)) (@pa_nil _) (by rfl)) (by rfl)) (by decide) (by rfl) (by rfl)) (@pa_nil _) (by rfl)) (by rfl)) (by rfl))) (@pv _ 2 _ _ (by rfl) (by first | exact Or.inl rfl | exact Or.inr (Or.inl rfl) | exact Or.inr (Or.inr rfl)) (by decide) (by decide)) (fun _ _ => rfl)) (@pg_name _ _ (5) _ S_law_pool.nd rfl (by first | exact Or.inl rfl | exact Or.inr rfl) (by first | exact .inl rfl | exact .inr rfl | assumption)) (by rfl) (by rfl) (by rfl)) (@pss_one _ _ _ (@ps_if _ _ _ _ _ _ _ _ (@pt_cmpR _ _ _ _ _ _ _ _ op_notIn_seq (@pv _ 5 _ _ (by rfl) (by first | exact Or.inl rfl | exact Or.inr (Or.inl rfl) | exact Or.inr (Or.inr rfl)) (by decide) (by decide)) (@pv _ 3 _ _ (by rfl) (by first | exact Or.inl rfl | exact Or.inr (Or.inl rfl) | exact Or.inr (Or.inr rfl)) (by decide) (by decide)) (by rfl)) (@pss_one _ _ _ (@ps_expr _ _ _ _ (@pe_bm _ _ _ _ _ _ _ _ _ _ _ _ PySem.F.plainAttrs_list PySem.F.slot_list_append PySem.F.type_list_append mt_append (@pv _ 3 _ _ (by rfl) (by first | exact Or.inl rfl | exact Or.inr (Or.inl rfl) | exact Or.inr (Or.inr rfl)) (by decide) (by decide)) (@pa_cons _ _ _ _ _ (@pv _ 5 _ _ (by rfl) (by first | exact Or.inl rfl | exact Or.inr (Or.inl rfl) | exact Or.inr (Or.inr rfl)) (by decide) (by decide)) (@pa_nil _) (by rfl)) (by rfl) (by rfl) (by rfl) (by rfl) (by rfl)) (by rfl))) (@pss_nil _)))) (by intro _; rfl)) (@pss_one _ _ _ (@ps_ret _ _ _ _ (@pv _ 3 _ _ (by rfl) (by first | exact Or.inl rfl | exact Or.inr (Or.inl rfl) | exact Or.inr (Or.inr rfl)) (by decide) (by decide)))))))), ?_⟩
    walk_at "go"
    refine ⟨by show 6 ≤ sizeLine; decide, fun m hm => ?_⟩
    have K1 : Kp [dk, g] H (upd H m (.lst [.int 2, .int 4, .int 6, .int 9, .int 40, .int 198])) := Kp.refl.new hm
    have D1 := hD.keep (same_new (o := .lst [.int 2, .int 4, .int 6, .int 9, .int 40, .int 198]) hm)
    have m1 : upd H m (.lst [.int 2, .int 4, .int 6, .int 9, .int 40, .int 198]) m = some (.lst [.int 2, .int 4, .int 6, .int 9, .int 40, .int 198]) := upd_same
    have nm := hD.off hm
    generalize upd H m (.lst [.int 2, .int 4, .int 6, .int 9, .int 40, .int 198]) = H1 at *
    walk_at "go"
    refine ⟨dk, g, c, 6, rfl, D1, by decide, by decide, by omega, fun r H2 r0 r1 D2 k2 => ?_⟩
    have m2 := k2 _ _ m1 nm
    obtain ⟨many, hmem, hat⟩ := atI_pick (zs := [2, 4, 6, 9, 40, 198]) r0 (by simpa using r1)
    refine rd_ixl (SqL.of m2) hat ?_
    have hmany : 2 ≤ many ∧ many ≤ 198 := by simp at hmem; omega
    walk_at "go"
    refine ⟨dk, g, c + 1, 3, rfl, D2, by decide, by decide, by omega, fun way H3 w0 w1 D3 k3 => ?_⟩
    have K3 := K1.trans (k2.trans k3)
    walk_at "go"
    refine ⟨by decide, fun l hl => ?_⟩
    have nl := D3.off hl
    have hl0 : H l = none := K3.none nl hl
    have K4 : Kp [dk, g] H (upd H3 l (.lst [])) := K3.new hl
    have D4 := D3.keep (same_new (o := .lst []) hl)
    have l4 : upd H3 l (.lst []) l = some (.lst []) := upd_same
    generalize upd H3 l (.lst []) = H4 at *
    walk_at "go"
    refine ⟨dk, g, c + 2, many, rfl, D4.mono (by omega), by omega, by omega, by omega, fun r5 H5 r50 r51 D5 k5 => ?_⟩
    have l5 := k5 _ _ l4 nl
    walk_at "go"
    refine ⟨by show 2 ≤ sizeLine; decide, fun q hq => ?_⟩
    have K6 : Kp [dk, g] H (upd H5 q (.lst [.int (2 + r5), .int 1])) := (K4.trans k5).new hq
    have D6 := D5.keep (same_new (o := .lst [.int (2 + r5), .int 1]) hq)
    have l6 := same_new (o := .lst [.int (2 + r5), .int 1]) hq _ _ l5
    have q6 : upd H5 q (.lst [.int (2 + r5), .int 1]) q = some (.lst [.int (2 + r5), .int 1]) := upd_same
    have nq := D5.off hq
    generalize upd H5 q (.lst [.int (2 + r5), .int 1]) = H6 at *
    walk_at "go"
    refine ⟨dk, g, c + 3, 16, rfl, D6.mono (by omega), by decide, by decide, by omega, fun r7 H7 r70 r71 D7 k7 => ?_⟩
    have l7 := k7 _ _ l6 nl
    have q7 := k7 _ _ q6 nq
    have K7 := K6.trans k7
    walk_at "go"
    refine rd_eq rfl ?_
    walk_at "go"
    refine .inr ⟨_, rfl, ?_⟩
    obtain ⟨n, hn0, hn1, hat⟩ : ∃ n : Int, 1 ≤ n ∧ n ≤ 199 ∧ atI [V.int (2 + r5), V.int 1] (if decide (V.int r7 = V.int 5) = true then 1 else 0) = some (.int n) := by
      by_cases e : V.int r7 = V.int 5
      · rw [if_pos (decide_eq_true e)]; exact ⟨1, by decide, by decide, rfl⟩
      · rw [if_neg (by simp [e])]; exact ⟨2 + r5, by omega, by omega, rfl⟩
    refine rd_ixl (SqL.of q7) hat ?_
    walk_at "go"
    refine ⟨n, rfl, by omega, by omega, for_range (lo := 0) (n := n.toNat) (fun i σ H8 => ∃ (ns : List Int) (v w : Option V), σ = [some (.ref dk), some (.int many), some (.int way), some (.ref l), v, w] ∧ Kp [dk, g] H H8 ∧ H8 l = some (.lst (ns.map V.int)) ∧ ns.length ≤ i ∧ (0 < i → 0 < ns.length) ∧ DeckAt H8 dk g (c + 4 + i))
      ⟨[], none, none, rfl, K7, l7, Nat.le_refl _, fun z => absurd z (Nat.lt_irrefl _), D7.mono (by omega)⟩ ?_ ?_⟩
    · rintro i σ H8 hi ⟨ns, v, w, rfl, K8, l8, hl8, hp8, D8⟩
      walk_at "go"
      refine rd_i ⟨by decide, by decide, by decide⟩ ?_
      walk_at "go"
      refine rd_i (.inl ⟨by decide, by decide⟩) ?_
      walk_at "go"
      refine rd_i ⟨by decide, by decide, by decide⟩ ?_
      walk_at "go"
      refine ⟨dk, g, c + 4 + i, 10 ^ 9 + 1, rfl, D8, by decide, by decide, by omega, fun r9 H9 r90 r91 D9 k9 => ?_⟩
      have l9 := k9 _ _ l8 nl
      walk_at "go"
      refine ⟨by show 3 ≤ sizeLine; decide, fun y hy => ?_⟩
      have y1 : upd H9 y (.lst [.int (0 + i), .int (10 ^ (9 : Int).toNat - 3 * (0 + i)), .int r9]) y = some (.lst [.int (0 + i), .int (10 ^ (9 : Int).toNat - 3 * (0 + i)), .int r9]) := upd_same
      have KA : Kp [dk, g] H (upd H9 y (.lst [.int (0 + i), .int (10 ^ (9 : Int).toNat - 3 * (0 + i)), .int r9])) := (K8.trans k9).new hy
      have DA := D9.keep (same_new (o := .lst [.int (0 + i), .int (10 ^ (9 : Int).toNat - 3 * (0 + i)), .int r9]) hy)
      have lA := same_new (o := .lst [.int (0 + i), .int (10 ^ (9 : Int).toNat - 3 * (0 + i)), .int r9]) hy _ _ l9
      generalize upd H9 y (.lst [.int (0 + i), .int (10 ^ (9 : Int).toNat - 3 * (0 + i)), .int r9]) = HA at *
      walk_at "go"
      obtain ⟨page, _, hat⟩ := atI_pick (zs := [0 + (i : Int), 10 ^ (9 : Int).toNat - 3 * (0 + i), r9]) w0 (by simpa using w1)
      refine rd_ixl (SqL.of y1) hat ?_
      walk_at "go"
      refine ⟨l, _, rfl, .inl (SqL.of lA), rfl, flat_ints ns, ?_⟩
      walk_at "go"
      show if (if true = true then !inV (.int page) (ns.map V.int) else inV (.int page) (ns.map V.int)) = true then _ else _
      rw [if_pos rfl]
      cases hin : inV (.int page) (ns.map V.int) with
      | false =>
        walk_at "go"
        refine ⟨.inl ⟨rfl, _, SqL.of lA⟩, ?_⟩
        walk_at "go"
        refine ⟨l, _, _, rfl, rfl, lA, small1000 (by rw [List.length_map]; omega), ?_⟩
        refine ⟨ns ++ [page], _, _, rfl, KA.own hl0, by rw [upd_same]; simp, by simp; omega, fun _ => by simp, ?_⟩
        refine DeckAt.put (DA.mono (by omega)) nl
      | true =>
        walk_at "go"
        refine ⟨ns, _, _, rfl, KA, lA, by omega, fun _ => in_pos hin, DA.mono (by omega)⟩
    · rintro σ H8 ⟨ns, v, w, rfl, K8, l8, hl8, hp8, D8⟩
      walk_at "go"
      exact k l ns H8 hl0 l8 (hp8 (by omega)) (by omega) (D8.mono (by omega)) K8
end
end
section
open PySem L2
section
variable {P : Program} {w : World} {K : PySem.W.Frag} {mg : Str → Option Value} {base : Heap} {a : Adr}
theorem ok_law_trace (T : Txt K mg a) : FnOk P w K mg base CX0 3 a.a_law_trace a.d_law_trace ["deck", "most"] spTrace := by
  refine T.f_law_trace.ok S_law_trace (fun vs H Q E h => ?_) (fun cdv A outer s H vs Q E hr h => ?_)
  · obtain ⟨dk, g, c, most, rfl, _⟩ := h
    rfl
  · obtain ⟨dk, g, c, most, rfl, hD, hc, hm0, hm1, k⟩ := h
    refine ⟨_, (@pss_cons _ _ _ _ _ (@ps_asg _ _ _ _ _ _ (@pe_call _ _ _ _ _ _ _ _ _ _ _ _ _ _ _ _ (ok_law_pool T) (hr.mono (by first | decide | omega)) (by rfl) T.g_law_pool T.f_law_pool.kp (b_law_pool T) .nil pass0 (@pa_cons _ _ _ _ _ (@pv _ 0 _ _ (by rfl) (by first | exact Or.inl rfl | exact Or.inr (Or.inl rfl) | exact Or.inr (Or.inr rfl)) (by decide) (by decide)) (@pa_nil _) (by rfl)) (by decide) (by rfl) (by rfl)) (@pg_name _ _ (2) _ S_law_trace.nd rfl (by first | exact Or.inl rfl | exact Or.inr rfl) (by first | exact .inl rfl | exact .inr rfl | assumption)) (by rfl) (by rfl) (by rfl)) (@pss_cons _ _ _ _ _ (@ps_asg _ _ _ _ _ _ (@pe_ix _ _ _ _ _ _ _ ix_list (@pe_lst _ _ _ _ (@pa_cons _ _ _ _ _ (@pe_call _ _ _ _ _ _ _ _ _ _ _ _ _ _ _ _ (ok_law_take T) (hr.mono (by first | decide | omega)) (by rfl) T.g_law_take T.f_law_take.kp (b_law_take T) .nil pass0 (@pa_cons _ _ _ _ _ (@pv _ 0 _ _ (by rfl) (by first | exact Or.inl rfl | exact Or.inr (Or.inl rfl) | exact Or.inr (Or.inr rfl)) (by decide) (by decide)) (@pa_cons _ _ _ _ _ (@pe_int _ _ _ _) (@pa_nil _) (by rfl)) (by rfl)) (by decide) (by rfl) (by rfl)) (@pa_cons _ _ _ _ _ (@pe_call _ _ _ _ _ _ _ _ _ _ _ _ _ _ _ _ (ok_law_take T) (hr.mono (by first | decide | omega)) (by rfl) T.g_law_take T.f_law_take.kp (b_law_take T) .nil pass0 (@pa_cons _ _ _ _ _ (@pv _ 0 _ _ (by rfl) (by first | exact Or.inl rfl | exact Or.inr (Or.inl rfl) | exact Or.inr (Or.inr rfl)) (by decide) (by decide)) (@pa_cons _ _ _ _ _ (@pe_int _ _ _ _) (@pa_nil _) (by rfl)) (by rfl)) (by decide) (by rfl) (by rfl)) (@pa_cons _ _ _ _ _ (@pe_call _ _ _ _ _ _ _ _ _ _ _ _ _ _ _ _ (ok_law_take T) (hr.mono (by first | decide | omega)) (by rfl) T.g_law_take T.f_law_take.kp (b_law_take T) .nil pass0 (@pa_cons _ _ _ _ _ (@pv _ 0 _ _ (by rfl) (by first | exact Or.inl rfl | exact Or.inr (Or.inl rfl) | exact Or.inr (Or.inr rfl)) (by decide) (by decide)) (@pa_cons _ _ _ _ _ (@pe_op _ _ _ _ _ _ _ _ op_add (@pv _ 1 _ _ (by rfl) (by first | exact Or.inl rfl | exact Or.inr (Or.inl rfl) | exact Or.inr (Or.inr rfl)) (by decide) (by decide)) (@pe_int _ _ _ _)) (@pa_nil _) (by rfl)) (by rfl)) (by decide) (by rfl) (by rfl)) (@pa_nil _) (by rfl)) (by rfl)) (by rfl))) (@pe_call _ _ _ _ _ _ _ _ _ _ _ _ _ _ _ _ (ok_law_take T) (hr.mono (by first | decide | omega)) (by rfl) T.g_law_take T.f_law_take.kp (b_law_take T) .nil pass0 (@pa_cons _ _ _ _ _ (@pv _ 0 _ _ (by rfl) (by first | exact Or.inl rfl | exact Or.inr (Or.inl rfl) | exact Or.inr (Or.inr rfl)) (by decide) (by decide)) (@pa_cons _ _ _ _ _ (@pe_int _ _ _ _) (@pa_nil _) (by rfl)) (by rfl)) (by decide) (by rfl) (by rfl)) (fun _ _ => rfl)) (@pg_name _ _ (3) _ S_law_trace.nd rfl (by first | exact Or.inl rfl | exact Or.inr rfl) (by first | exact .inl rfl | exact .inr rfl | assumption)) (by rfl) (by rfl) (by rfl)) (@pss_cons _ _ _ _ _ (@ps_asg _ _ _ _ _ _ (@pe_call _ _ _ _ _ _ _ _ _ _ _ _ _ _ _ _ (ok_law_take T) (hr.mono (by first | decide | omega)) (by rfl) T.g_law_take T.f_law_take.kp (b_law_take T) .nil pass0 (@pa_cons _ _ _ _ _ (@pv _ 0 _ _ (by rfl) (by first | exact Or.inl rfl | exact Or.inr (Or.inl rfl) | exact Or.inr (Or.inr rfl)) (by decide) (by decide)) (@pa_cons _ _ _ _ _ (@pe_int _ _ _ _) (@pa_nil _) (by rfl)) (by rfl)) (by decide) (by rfl) (by rfl)) (@pg_name _ _ (4) _ S_law_trace.nd rfl (by first | exact Or.inl rfl | exact Or.inr rfl) (by first | exact .inl rfl | exact .inr rfl | assumption)) (by rfl) (by rfl) (by rfl)) (@pss_cons _ _ _ _ _ (@ps_asg _ _ _ _ _ _ (@pe_int _ _ _ _) (@pg_name _ _ (5) _ S_law_trace.nd rfl (by first | exact Or.inl rfl | exact Or.inr rfl) (by first | exact .inl rfl | exact .inr rfl | assumption)) (by rfl) (by rfl) (by rfl)) (@pss_cons _ _ _ _ _ (@ps_asg _ _ _ _ _ _ (@pe_lst _ _ _ _ (@pa_nil _)) (@pg_name _ _ (6) _ S_law_trace.nd rfl (by first | exact Or.inl rfl | exact Or.inr rfl) (by first | exact .inl rfl | exact .inr rfl | assumption)) (by rfl) (by rfl) (by rfl)) (@pss_cons _ _ _ _ _ (@ps_for _ _ _ _ _ _ _ _ PassesOwn.never rfl (@pi_range1 _ _ _ _ _ _ (by rfl) T.n_range (@pa_cons _ _ _ _ _ (@pe_callB _ _ _ _ _ _ _ _ _ (call_min2 rfl) (by rfl) T.n_min (by decide +kernel) (@pa_cons _ _ _ _ _ (@pv _ 1 _ _ (by rfl) (by first | exact Or.inl rfl | exact Or.inr (Or.inl rfl) | exact Or.inr (Or.inr rfl)) (by decide) (by decide)) (@pa_cons _ _ _ _ _ (@pv _ 3 _ _ (by rfl) (by first | exact Or.inl rfl | exact Or.inr (Or.inl rfl) | exact Or.inr (Or.inr rfl)) (by decide) (by decide)) (@pa_nil _) (by rfl)) (by rfl)) (by decide) (by decide) (by rfl) (by rfl)) (@pa_nil _) (by rfl)) (by rfl)) (@pg_name _ _ (7) _ S_law_trace.nd rfl (by first | exact Or.inl rfl | exact Or.inr rfl) (by first | exact .inl rfl | exact .inr rfl | assumption)) (@pss_cons _ _ _ _ _ (@ps_asg _ _ _ _ _ _ (@pe_call _ _ _ _ _ _ _ _ _ _ _ _ _ _ _ _ (ok_law_take T) (hr.mono (by first | decide | omega)) (by rfl) T.g_law_take T.f_law_take.kp (b_law_take T) .nil pass0 (@pa_cons _ _ _ _ _ (@pv _ 0 _ _ (by rfl) (by first | exact Or.inl rfl | exact Or.inr (Or.inl rfl) | exact Or.inr (Or.inr rfl)) (by decide) (by decide)) (@pa_cons _ _ _ _ _ (@pe_int _ _ _ _) (@pa_nil _) (by rfl)) (by rfl)) (by decide) (by rfl) (by rfl)) (@pg_name _ _ (8) _ S_law_trace.nd rfl (by first | exact Or.inl rfl | exact Or.inr rfl) (by first | exact .inl rfl | exact .inr rfl | assumption)) (by rfl) (by rfl) (by rfl)) (@pss_cut _ _ _ _ _ (@ps_if _ _ _ _ _ _ _ _ (PW.pt (@pw_or _ _ _ _ _ _ _ (@pt_cmpR _ _ _ _ _ _ _ _ op_eq (@pv _ 4 _ _ (by rfl) (by first | exact Or.inl rfl | exact Or.inr (Or.inl rfl) | exact Or.inr (Or.inr rfl)) (by decide) (by decide)) (@pe_int _ _ _ _) (nomark _)) (@pw_or1 _ _ _ _ (@pt_cmpR _ _ _ _ _ _ _ _ op_eq (@pv _ 8 _ _ (by rfl) (by first | exact Or.inl rfl | exact Or.inr (Or.inl rfl) | exact Or.inr (Or.inr rfl)) (by decide) (by decide)) (@pe_int _ _ _ _) (nomark _))))) (@pss_one _ _ _ (@ps_asg _ _ _ _ _ _ (@pe_call _ _ _ _ _ _ _ _ _ _ _ _ _ _ _ _ (ok_law_take T) (hr.mono (by first | decide | omega)) (by rfl) T.g_law_take T.f_law_take.kp (b_law_take T) .nil pass0 (@pa_cons _ _ _ _ _ (@pv _ 0 _ _ (by rfl) (by first | exact Or.inl rfl | exact Or.inr (Or.inl rfl) | exact Or.inr (Or.inr rfl)) (by decide) (by decide)) (@pa_cons _ _ _ _ _ (@pe_callB _ _ _ _ _ _ _ _ _ call_len_seq (by rfl) T.n_len (by decide +kernel) (@pa_cons _ _ _ _ _ (@pv _ 2 _ _ (by rfl) (by first | exact Or.inl rfl | exact Or.inr (Or.inl rfl) | exact Or.inr (Or.inr rfl)) (by decide) (by decide)) (@pa_nil _) (by rfl)) (by decide) (by decide) (by rfl) (by rfl)) (@pa_nil _) (by rfl)) (by rfl)) (by decide) (by rfl) (by rfl)) (@pg_name _ _ (5) _ S_law_trace.nd rfl (by first | exact Or.inl rfl | exact Or.inr rfl) (by first | exact .inl rfl | exact .inr rfl | assumption)) (by rfl) (by rfl) (by rfl))) (@pss_one _ _ _ (@ps_if _ _ _ _ _ _ _ _ (PW.pt (@pw_or _ _ _ _ _ _ _ (@pt_cmpR _ _ _ _ _ _ _ _ op_eq (@pv _ 4 _ _ (by rfl) (by first | exact Or.inl rfl | exact Or.inr (Or.inl rfl) | exact Or.inr (Or.inr rfl)) (by decide) (by decide)) (@pe_int _ _ _ _) (nomark _)) (@pw_or1 _ _ _ _ (@pt_cmpR _ _ _ _ _ _ _ _ op_eq (@pv _ 8 _ _ (by rfl) (by first | exact Or.inl rfl | exact Or.inr (Or.inl rfl) | exact Or.inr (Or.inr rfl)) (by decide) (by decide)) (@pe_int _ _ _ _) (nomark _))))) (@pss_one _ _ _ (@ps_asg _ _ _ _ _ _ (@pe_op _ _ _ _ _ _ _ _ op_add (@pv _ 5 _ _ (by rfl) (by first | exact Or.inl rfl | exact Or.inr (Or.inl rfl) | exact Or.inr (Or.inr rfl)) (by decide) (by decide)) (@pe_int _ _ _ _)) (@pg_name _ _ (5) _ S_law_trace.nd rfl (by first | exact Or.inl rfl | exact Or.inr rfl) (by first | exact .inl rfl | exact .inr rfl | assumption)) (by rfl) (by rfl) (by rfl))) (@pss_one _ _ _ (@ps_if _ _ _ _ _ _ _ _ (@pt_cmpR _ _ _ _ _ _ _ _ op_eq (@pv _ 4 _ _ (by rfl) (by first | exact Or.inl rfl | exact Or.inr (Or.inl rfl) | exact Or.inr (Or.inr rfl)) (by decide) (by decide)) (@pe_int _ _ _ _) (nomark _)) (@pss_one _ _ _ (@ps_asg _ _ _ _ _ _ (@pe_op _ _ _ _ _ _ _ _ op_sub (@pe_op _ _ _ _ _ _ _ _ op_add (@pv _ 5 _ _ (by rfl) (by first | exact Or.inl rfl | exact Or.inr (Or.inl rfl) | exact Or.inr (Or.inr rfl)) (by decide) (by decide)) (@pe_call _ _ _ _ _ _ _ _ _ _ _ _ _ _ _ _ (ok_law_take T) (hr.mono (by first | decide | omega)) (by rfl) T.g_law_take T.f_law_take.kp (b_law_take T) .nil pass0 (@pa_cons _ _ _ _ _ (@pv _ 0 _ _ (by rfl) (by first | exact Or.inl rfl | exact Or.inr (Or.inl rfl) | exact Or.inr (Or.inr rfl)) (by decide) (by decide)) (@pa_cons _ _ _ _ _ (@pe_int _ _ _ _) (@pa_nil _) (by rfl)) (by rfl)) (by decide) (by rfl) (by rfl))) (@pe_int _ _ _ _)) (@pg_name _ _ (5) _ S_law_trace.nd rfl (by first | exact Or.inl rfl | exact Or.inr rfl) (by first | exact .inl rfl | exact .inr rfl | assumption)) (by rfl) (by rfl) (by rfl))) (@pss_one _ _ _ (@ps_if _ _ _ _ _ _ _ _ (@pt_cmpR _ _ _ _ _ _ _ _ op_lt (@pv _ 8 _ _ (by rfl) (by first | exact Or.inl rfl | exact Or.inr (Or.inl rfl) | exact Or.inr (Or.inr rfl)) (by decide) (by decide)) (@pe_int _ _ _ _) (nomark _)) (@pss_one _ _ _ (@ps_asg _ _ _ _ _ _ (@pe_op _ _ _ _ _ _ _ _ op_add (@pv _ 5 _ _ (by rfl) (by first | exact Or.inl rfl | exact Or.inr (Or.inl rfl) | exact Or.inr (Or.inr rfl)) (by decide) (by decide)) (@pe_call _ _ _ _ _ _ _ _ _ _ _ _ _ _ _ _ (ok_law_take T) (hr.mono (by first | decide | omega)) (by rfl) T.g_law_take T.f_law_take.kp (b_law_take T) .nil pass0 (@pa_cons _ _ _ _ _ (@pv _ 0 _ _ (by rfl) (by first | exact Or.inl rfl | exact Or.inr (Or.inl rfl) | exact Or.inr (Or.inr rfl)) (by decide) (by decide)) (@pa_cons _ _ _ _ _ (@pe_int _ _ _ _) (@pa_nil _) (by rfl)) (by rfl)) (by decide) (by rfl) (by rfl))) (@pg_name _ _ (5) _ S_law_trace.nd rfl (by first | exact Or.inl rfl | exact Or.inr rfl) (by first | exact .inl rfl | exact .inr rfl | assumption)) (by rfl) (by rfl) (by rfl))) (@pss_nil _)))))))) (@pss_cons _ _ _ _ _ (@ps_asg _ _ _ _ _ _ (@pe_op _ _ _ _ _ _ _ _ op_mod (@pv _ 5 _ _ (by rfl) (by first | exact Or.inl rfl | exact Or.inr (Or.inl rfl) | exact Or.inr (Or.inr rfl)) (by decide) (by decide)) (@pe_callB _ _ _ _ _ _ _ _ _ call_len_seq (by rfl) T.n_len (by decide +kernel) (@pa_cons _ _ _ _ _ (@pv _ 2 _ _ (by rfl) (by first | exact Or.inl rfl | exact Or.inr (Or.inl rfl) | exact Or.inr (Or.inr rfl)) (by decide) (by decide)) (@pa_nil _) (by rfl)) (by decide) (by decide) (by rfl) (by rfl))) (@pg_name _ _ (5) _ S_law_trace.nd rfl (by first | exact Or.inl rfl | exact Or.inr rfl) (by first | exact .inl rfl | exact .inr rfl | assumption)) (by rfl) (by rfl) (by rfl)) (@pss_one _ _ _ (@ps_expr _ _ _ _ (@pe_bm _ _ _ _ _ _ _ _ _ _ _ _ PySem.F.plainAttrs_list PySem.F.slot_list_append PySem.F.type_list_append mt_append (@pv _ 6 _ _ (by rfl) (by first | exact Or.inl rfl | exact Or.inr (Or.inl rfl) | exact Or.inr (Or.inr rfl)) (by decide) (by decide)) (@pa_cons _ _ _ _ _ (@pe_ix _ _ _ _ _ _ _ ix_list (@pv _ 2 _ _ (by rfl) (by first | exact Or.inl rfl | exact Or.inr (Or.inl rfl) | exact Or.inr (Or.inr rfl)) (by decide) (by decide)) (@pv _ 5 _ _ (by rfl) (by first | exact Or.inl rfl | exact Or.inr (Or.inl rfl) | exact Or.inr (Or.inr rfl)) (by decide) (by decide)) (fun _ _ => rfl)) (@pa_nil _) (by rfl)) (by rfl) (by rfl) (by rfl) (by rfl) (by rfl)) (by rfl)))))) (by intro _; rfl)) (@pss_one _ _ _ (@ps_ret _ _ _ _ (@pv _ 6 _ _ (by rfl) (by first | exact Or.inl rfl | exact Or.inr (Or.inl rfl) | exact Or.inr (Or.inr rfl)) (by decide) (by decide)))))))))), ?_⟩
    walk_at "go"
    refine ⟨dk, g, c, rfl, hD, by omega, fun p ps H1 hp p1 hps0 hps1 D1 k1 => ?_⟩
    have np := hD.off hp
    walk_at "go"
    refine ⟨dk, g, c + 300, 9, rfl, D1, by decide, by decide, by omega, fun r2 H2 r20 r21 D2 k2 => ?_⟩
    have p2 := k2 _ _ p1 np
    walk_at "go"
    refine ⟨dk, g, c + 301, 26, rfl, D2.mono (by omega), by decide, by decide, by omega, fun r3 H3 r30 r31 D3 k3 => ?_⟩
    have p3 := k3 _ _ p2 np
    walk_at "go"
    refine ⟨dk, g, c + 302, most + 1, rfl, D3.mono (by omega), by omega, by omega, by omega, fun r4 H4 r40 r41 D4 k4 => ?_⟩
    have p4 := k4 _ _ p3 np
    have K4 := k1.trans (k2.trans (k3.trans k4))
    walk_at "go"
    refine ⟨by show 3 ≤ sizeLine; decide, fun y hy => ?_⟩
    have ny := D4.off hy
    have K5 : Kp [dk, g] H (upd H4 y (.lst [.int r2, .int r3, .int r4])) := K4.new hy
    have D5 := D4.keep (same_new (o := .lst [.int r2, .int r3, .int r4]) hy)
    have p5 := same_new (o := .lst [.int r2, .int r3, .int r4]) hy _ _ p4
    have y5 : upd H4 y (.lst [.int r2, .int r3, .int r4]) y = some (.lst [.int r2, .int r3, .int r4]) := upd_same
    generalize upd H4 y (.lst [.int r2, .int r3, .int r4]) = H5 at *
    walk_at "go"
    refine ⟨dk, g, c + 303, 3, rfl, D5.mono (by omega), by decide, by decide, by omega, fun r6 H6 r60 r61 D6 k6 => ?_⟩
    have p6 := k6 _ _ p5 np
    have y6 := k6 _ _ y5 ny
    obtain ⟨size, hmem, hat⟩ := atI_pick (zs := [r2, r3, r4]) r60 (by simpa using r61)
    refine rd_ixl (SqL.of y6) hat ?_
    have hs0 : 0 ≤ size := by
      simp at hmem
      omega
    have hs1 : size ≤ 200 := by
      simp at hmem
      omega
    walk_at "go"
    refine ⟨dk, g, c + 304, 4, rfl, D6.mono (by omega), by decide, by decide, by omega, fun way H7 w0 w1 D7 k7 => ?_⟩
    have p7 := k7 _ _ p6 np
    have K7 := K5.trans (k6.trans k7)
    walk_at "go"
    refine ⟨by decide, fun l hl => ?_⟩
    have nl := D7.off hl
    have hl0 : H l = none := K7.none nl hl
    have hlp : l ≠ p := (ne_of_none p7 hl).symm
    have K8 : Kp [dk, g] H (upd H7 l (.lst [])) := K7.new hl
    have D8 := D7.keep (same_new (o := .lst []) hl)
    have p8 := same_new (o := .lst []) hl _ _ p7
    have l8 : upd H7 l (.lst []) l = some (.lst []) := upd_same
    generalize upd H7 l (.lst []) = H8 at *
    walk_at "go"
    refine ⟨most, size, rfl, ?_⟩
    obtain ⟨n, hn, hn0, hn1⟩ : ∃ n : Int, (if size < most then size else most) = n ∧ 0 ≤ n ∧ n ≤ most := by
      refine ⟨_, rfl, ?_, ?_⟩ <;> split <;> omega
    rw [hn]
    walk_at "go"
    refine ⟨n, rfl, by omega, by omega, for_range (lo := 0) (n := n.toNat) (fun i σ H9 => ∃ (ns : List Int) (at' : Int) (v u : Option V), σ = [some (.ref dk), some (.int most), some (.ref p), some (.int size), some (.int way), some (.int at'), some (.ref l), v, u] ∧ Kp [dk, g] H H9 ∧ H9 l = some (.lst (ns.map V.int)) ∧ H9 p = some (.lst (ps.map V.int)) ∧ ns.length = i ∧ DeckAt H9 dk g (c + 305 + 2 * i))
      ⟨[], 0, none, none, rfl, K8, l8, p8, rfl, D8.mono (by omega)⟩ ?_ ?_⟩
    · rintro i σ H9 hi ⟨ns, at', v, u, rfl, K9, l9, p9, hl9, D9⟩
      walk_at "go"
      refine ⟨dk, g, c + 305 + 2 * i, 8, rfl, D9, by decide, by decide, by omega, fun pick HA a0 a1 DA kA => ?_⟩
      have lA := kA _ _ l9 nl
      have pA := kA _ _ p9 np
      have KA := K9.trans kA
      walk_at "go"
      refine ⟨fun σ HB => ∃ (at2 : Int), σ = [some (.ref dk), some (.int most), some (.ref p), some (.int size), some (.int way), some (.int at2), some (.ref l), some (.int (0 + i)), some (.int pick)] ∧ Kp [dk, g] H HB ∧ HB l = some (.lst (ns.map V.int)) ∧ HB p = some (.lst (ps.map V.int)) ∧ DeckAt HB dk g (c + 305 + 2 * i + 2), ?_, ?_⟩
      · walk_at "go"
        refine rd_eq rfl ?_
        walk_at "go"
        refine iteD (fun e1 => ?_) (fun e1 => ?_)
        · skip
          walk_at "go"
          refine ⟨p, _, rfl, .inl (SqL.of pA), ?_⟩
          walk_at "go"
          rw [List.length_map]
          refine ⟨dk, g, c + 305 + 2 * i + 1, ps.length, rfl, DA, by omega, by omega, by omega, fun r HB b0 b1 DB kB => ?_⟩
          exact ⟨r, rfl, KA.trans kB, kB _ _ lA nl, kB _ _ pA np, DB.mono (by omega)⟩
        · walk_at "go"
          refine rd_eq rfl ?_
          walk_at "go"
          refine iteD (fun e2 => ?_) (fun e2 => ?_)
          · skip
            walk_at "go"
            refine ⟨p, _, rfl, .inl (SqL.of pA), ?_⟩
            walk_at "go"
            rw [List.length_map]
            refine ⟨dk, g, c + 305 + 2 * i + 1, ps.length, rfl, DA, by omega, by omega, by omega, fun r HB b0 b1 DB kB => ?_⟩
            exact ⟨r, rfl, KA.trans kB, kB _ _ lA nl, kB _ _ pA np, DB.mono (by omega)⟩
          · walk_at "go"
            refine rd_eq rfl ?_
            walk_at "go"
            refine iteD (fun e1 => ?_) (fun e1 => ?_)
            · skip
              walk_at "go"
              exact ⟨_, rfl, KA, lA, pA, DA.mono (by omega)⟩
            · walk_at "go"
              refine rd_eq rfl ?_
              walk_at "go"
              refine iteD (fun e2 => ?_) (fun e2 => ?_)
              · skip
                walk_at "go"
                exact ⟨_, rfl, KA, lA, pA, DA.mono (by omega)⟩
              · walk_at "go"
                refine rd_eq rfl ?_
                walk_at "go"
                refine iteD (fun e3 => ?_) (fun e3 => ?_)
                · walk_at "go"
                  refine ⟨dk, g, c + 305 + 2 * i + 1, 3, rfl, DA, by decide, by decide, by omega, fun r HB b0 b1 DB kB => ?_⟩
                  walk_at "go"
                  exact ⟨_, rfl, KA.trans kB, kB _ _ lA nl, kB _ _ pA np, DB.mono (by omega)⟩
                · walk_at "go"
                  refine iteD (fun e3 => ?_) (fun e3 => ?_)
                  · walk_at "go"
                    refine ⟨dk, g, c + 305 + 2 * i + 1, 2, rfl, DA, by decide, by decide, by omega, fun r HB b0 b1 DB kB => ?_⟩
                    walk_at "go"
                    exact ⟨_, rfl, KA.trans kB, kB _ _ lA nl, kB _ _ pA np, DB.mono (by omega)⟩
                  · walk_at "go"
                    exact ⟨_, rfl, KA, lA, pA, DA.mono (by omega)⟩
      · rintro σ HB ⟨at2, rfl, KB, lB, pB, DB⟩
        walk_at "go"
        refine ⟨p, _, rfl, .inl (SqL.of pB), ?_⟩
        rw [List.length_map]
        refine rd_i (show (0 : Int) < (ps.length : Int) by omega) ?_
        walk_at "go"
        refine ⟨.inl ⟨rfl, _, SqL.of lB⟩, ?_⟩
        walk_at "go"
        obtain ⟨page, _, hat⟩ := atI_pick (zs := ps) (r := at2 % (ps.length : Int)) (Int.emod_nonneg _ (by omega)) (Int.emod_lt_of_pos _ (by omega))
        refine rd_ixl (SqL.of pB) hat ?_
        walk_at "go"
        refine ⟨l, _, _, rfl, rfl, lB, small1000 (by rw [List.length_map]; omega), ?_⟩
        refine ⟨ns ++ [page], _, _, _, rfl, KB.own hl0, by rw [upd_same]; simp, by rw [upd_ne hlp.symm]; exact pB, by simp; omega, DeckAt.put (DB.mono (by omega)) nl⟩
    · rintro σ H9 ⟨ns, at', v, u, rfl, K9, l9, p9, hl9, D9⟩
      walk_at "go"
      exact k l ns H9 hl0 l9 (by omega) (D9.mono (by omega)) K9
end
end
section
open PySem L2
section
variable {P : Program} {w : World} {K : PySem.W.Frag} {mg : Str → Option Value} {base : Heap} {a : Adr}
theorem ok_last_requests (T : Txt K mg a) : FnOk P w K mg base CX0 1 a.a_last_requests a.d_last_requests ["trace"] spPrevs := by
  refine T.f_last_requests.ok S_last_requests (fun vs H Q E h => ?_) (fun cdv A outer s H vs Q E hr h => ?_)
  · obtain ⟨tr, ns, rfl, _⟩ := h
    rfl
  · obtain ⟨tr, ns, rfl, htr, hns, k⟩ := h
    have hu := hu_of hr
    refine ⟨_, (@pss_cons _ _ _ _ _ (@ps_asg _ _ _ _ _ _ (@pe_dnewK _ _) (@pg_name _ _ (1) _ S_last_requests.nd rfl (by first | exact Or.inl rfl | exact Or.inr rfl) (by first | exact .inl rfl | exact .inr rfl | assumption)) (by rfl) (by rfl) (by rfl)) (@pss_cons _ _ _ _ _ (@ps_asg _ _ _ _ _ _ (@pe_lst _ _ _ _ (@pa_nil _)) (@pg_name _ _ (2) _ S_last_requests.nd rfl (by first | exact Or.inl rfl | exact Or.inr rfl) (by first | exact .inl rfl | exact .inr rfl | assumption)) (by rfl) (by rfl) (by rfl)) (@pss_cons _ _ _ _ _ (@ps_for _ _ _ _ _ _ _ _ PassesOwn.never rfl (@pi_enum _ _ _ _ _ _ _ _ (by rfl) T.n_enumerate (@pa_cons _ _ _ _ _ (@pv _ 0 _ _ (by rfl) (by first | exact Or.inl rfl | exact Or.inr (Or.inl rfl) | exact Or.inr (Or.inr rfl)) (by decide) (by decide)) (@pa_nil _) (by rfl)) (by rfl)) (@pg_tup _ _ _ _ _ _ rfl (@pgs_cons _ _ _ _ _ (@pg_name _ _ (3) _ S_last_requests.nd rfl (by first | exact Or.inl rfl | exact Or.inr rfl) (by first | exact .inl rfl | exact .inr rfl | assumption)) (@pgs_cons _ _ _ _ _ (@pg_name _ _ (4) _ S_last_requests.nd rfl (by first | exact Or.inl rfl | exact Or.inr rfl) (by first | exact .inl rfl | exact .inr rfl | assumption)) (@pgs_nil _) (by rfl)) (by rfl)) (by rfl) (by rfl)) (@pss_cons _ _ _ _ _ (@ps_expr _ _ _ _ (@pe_bm _ _ _ _ _ _ _ _ _ _ _ _ PySem.F.plainAttrs_list PySem.F.slot_list_append PySem.F.type_list_append mt_append (@pv _ 2 _ _ (by rfl) (by first | exact Or.inl rfl | exact Or.inr (Or.inl rfl) | exact Or.inr (Or.inr rfl)) (by decide) (by decide)) (@pa_cons _ _ _ _ _ (@pe_dget1 _ _ _ _ _ _ _ hu (@pv _ 1 _ _ (by rfl) (by first | exact Or.inl rfl | exact Or.inr (Or.inl rfl) | exact Or.inr (Or.inr rfl)) (by decide) (by decide)) (@pv _ 4 _ _ (by rfl) (by first | exact Or.inl rfl | exact Or.inr (Or.inl rfl) | exact Or.inr (Or.inr rfl)) (by decide) (by decide)) ⟨rfl, rfl, rfl, rfl⟩) (@pa_nil _) (by rfl)) (by rfl) (by rfl) (by rfl) (by rfl) (by rfl)) (by rfl)) (@pss_one _ _ _ (@ps_dput _ _ _ _ _ _ _ _ _ hu (@pv _ 1 _ _ (by rfl) (by first | exact Or.inl rfl | exact Or.inr (Or.inl rfl) | exact Or.inr (Or.inr rfl)) (by decide) (by decide)) (@pv _ 4 _ _ (by rfl) (by first | exact Or.inl rfl | exact Or.inr (Or.inl rfl) | exact Or.inr (Or.inr rfl)) (by decide) (by decide)) (@pv _ 3 _ _ (by rfl) (by first | exact Or.inl rfl | exact Or.inr (Or.inl rfl) | exact Or.inr (Or.inr rfl)) (by decide) (by decide)) rfl))) (by intro _; rfl)) (@pss_one _ _ _ (@ps_ret _ _ _ _ (@pv _ 2 _ _ (by rfl) (by first | exact Or.inl rfl | exact Or.inr (Or.inl rfl) | exact Or.inr (Or.inr rfl)) (by decide) (by decide))))))), ?_⟩
    walk_at "go"
    intro sd hsd
    walk_at "go"
    have s1 := same_new (o := .dK []) hsd
    have d1 : upd H sd (.dK []) sd = some (.dK []) := upd_same
    generalize upd H sd (.dK []) = H1 at *
    refine ⟨by decide, fun fa hfa => ?_⟩
    have ndf := ne_of_none d1 hfa
    have hfa0 := s1.free hfa
    have s2 : Same H (upd H1 fa (.lst [])) := s1.trans (same_new hfa)
    have d2 := same_new (o := .lst []) hfa _ _ d1
    have f2 : upd H1 fa (.lst []) fa = some (.lst []) := upd_same
    generalize upd H1 fa (.lst []) = H2 at *
    walk_at "go"
    refine ⟨tr, _, rfl, SqL.of (s2 _ _ htr), for_by (n := ns.length) (fun i σ H3 => ∃ (kvs : List (Key × V)) (v1 v2 : Option V), σ = [some (.ref tr), some (.ref sd), some (.ref fa), v1, v2] ∧ Same H H3 ∧
        H3 sd = some (.dK kvs) ∧ kvs.length ≤ i ∧ (∀ p : Int, valV kvs (Sum.inl p : Key) = (lastIdx (ns.take i) p).map fun j => V.int (j : Int)) ∧ H3 fa = some (.lst ((prevs [] (ns.take i)).map optV)))
      ⟨[], none, none, rfl, s2, d2, Nat.le_refl _, fun p => rfl, f2⟩ ?_ ?_ ?_ ?_⟩
    · rintro i σ H3 hi ⟨_, _, _, _, s3, _⟩
      exact ⟨_, _, SqL.of (s3 _ _ htr), by rw [List.getElem?_map, List.getElem?_eq_getElem hi]; rfl⟩
    · rintro σ H3 ⟨_, _, _, _, s3, _⟩
      exact ⟨_, SqL.of (s3 _ _ htr), by simp⟩
    · rintro i σ H3 x H4 hi ⟨kvs, v1, v2, rfl, s3, d3, hl3, hv3, f3⟩ ⟨pt, y, rfl, npt, rfl, hy⟩
      have hy' := hy _ (SqL.of (s3 _ _ htr))
      rw [List.getElem?_map, List.getElem?_eq_getElem hi] at hy'
      cases hy'
      have hpg : ns[i]? = some ns[i] := List.getElem?_eq_getElem hi
      generalize ns[i] = one at *
      refine rd_gtup upd_same rfl ?_
      have s4 : Same H (upd H3 pt (.tup [.int (i : Nat), .int one])) := s3.trans (same_new npt)
      have d4 := same_new (o := .tup [.int (i : Nat), .int one]) npt _ _ d3
      have f4 := same_new (o := .tup [.int (i : Nat), .int one]) npt _ _ f3
      generalize upd H3 pt (.tup [.int (i : Nat), .int one]) = H4 at *
      walk_at "go"
      refine ⟨.inl ⟨rfl, _, SqL.of f4⟩, ?_⟩
      walk_at "go"
      refine ⟨_, rfl, sd, rfl, .inl ⟨_, .inl d4⟩, _, rfl, _, DGet.k (k := Sum.inl one) d4, ?_⟩
      have hpl : ((prevs [] (ns.take i)).map optV).length ≤ 400 := by rw [List.length_map, prevs_len, List.length_take]; omega
      walk_at "go"
      refine ⟨fa, _, _, rfl, rfl, f4, small1000 (by omega), ?_⟩
      walk_at "go"
      have d5 : upd H4 fa (.lst ((prevs [] (ns.take i)).map optV ++ [(valV kvs (Sum.inl one : Key)).getD .non])) sd = some (.dK kvs) := by rw [upd_ne ndf]; exact d4
      refine ⟨sd, _, rfl, DPut.k (k := Sum.inl one) d5 (small1000 (by omega)), ?_⟩
      refine ⟨_, _, _, rfl, fun c o e => ?_, upd_same, ?_, fun p => ?_, ?_⟩
      · rw [upd_ne (ne_of_none e hsd), upd_ne (ne_of_none e hfa0)]; exact s4 _ _ e
      · have := putK_le kvs (Sum.inl one : Key) (V.int (i : Nat))
        omega
      · rw [valV_put, take_snoc hpg, lastIdx_snoc, List.length_take, Nat.min_eq_left (by omega)]
        by_cases e : one = p
        · subst e; rw [if_pos rfl, if_pos rfl]; rfl
        · rw [if_neg (fun z => e (Sum.inl.inj z).symm), if_neg e]; exact hv3 p
      · rw [upd_ne ndf.symm, upd_same, take_snoc hpg, prevs_snoc, List.map_append, hv3]
        show some (HO.lst (_ ++ [_])) = some (HO.lst (_ ++ [_]))
        rw [List.nil_append]
        cases lastIdx (ns.take i) one <;> rfl
    · rintro σ H3 ⟨kvs, v1, v2, rfl, s3, d3, hl3, hv3, f3⟩
      rw [List.take_length] at f3
      walk_at "go"
      exact k fa H3 hfa0 f3 s3
end
end
section
open PySem L2
section
variable {P : Program} {w : World} {K : PySem.W.Frag} {mg : Str → Option Value} {base : Heap} {a : Adr}
theorem ok_next_requests (T : Txt K mg a) : FnOk P w K mg base CX0 2 a.a_next_requests a.d_next_requests ["trace"] spNexts := by
  refine T.f_next_requests.ok S_next_requests (fun vs H Q E h => ?_) (fun cdv A outer s H vs Q E hr h => ?_)
  · obtain ⟨tr, ns, rfl, _⟩ := h
    rfl
  · obtain ⟨tr, ns, rfl, htr, hns, k⟩ := h
    refine ⟨_, (@pss_cons _ _ _ _ _ (@ps_asg _ _ _ _ _ _ (@pe_op _ _ _ _ _ _ _ _ op_rep (@pe_lst _ _ _ _ (@pa_cons _ _ _ _ _ (@pe_callB _ _ _ _ _ _ _ _ _ call_len_seq (by rfl) T.n_len (by decide +kernel) (@pa_cons _ _ _ _ _ (@pv _ 0 _ _ (by rfl) (by first | exact Or.inl rfl | exact Or.inr (Or.inl rfl) | exact Or.inr (Or.inr rfl)) (by decide) (by decide)) (@pa_nil _) (by rfl)) (by decide) (by decide) (by rfl) (by rfl)) (@pa_nil _) (by rfl))) (@pe_callB _ _ _ _ _ _ _ _ _ call_len_seq (by rfl) T.n_len (by decide +kernel) (@pa_cons _ _ _ _ _ (@pv _ 0 _ _ (by rfl) (by first | exact Or.inl rfl | exact Or.inr (Or.inl rfl) | exact Or.inr (Or.inr rfl)) (by decide) (by decide)) (@pa_nil _) (by rfl)) (by decide) (by decide) (by rfl) (by rfl))) (@pg_name _ _ (1) _ S_next_requests.nd rfl (by first | exact Or.inl rfl | exact Or.inr rfl) (by first | exact .inl rfl | exact .inr rfl | assumption)) (by rfl) (by rfl) (by rfl)) (@pss_cons _ _ _ _ _ (@ps_for _ _ _ _ _ _ _ _ PassesOwn.never rfl (@pi_enum _ _ _ _ _ _ _ _ (by rfl) T.n_enumerate (@pa_cons _ _ _ _ _ (@pe_call _ _ _ _ _ _ _ _ _ _ _ _ _ _ _ _ (ok_last_requests T) (hr.mono (by first | decide | omega)) (by rfl) T.g_last_requests T.f_last_requests.kp (b_last_requests T) .nil pass0 (@pa_cons _ _ _ _ _ (@pv _ 0 _ _ (by rfl) (by first | exact Or.inl rfl | exact Or.inr (Or.inl rfl) | exact Or.inr (Or.inr rfl)) (by decide) (by decide)) (@pa_nil _) (by rfl)) (by decide) (by rfl) (by rfl)) (@pa_nil _) (by rfl)) (by rfl)) (@pg_tup _ _ _ _ _ _ rfl (@pgs_cons _ _ _ _ _ (@pg_name _ _ (2) _ S_next_requests.nd rfl (by first | exact Or.inl rfl | exact Or.inr rfl) (by first | exact .inl rfl | exact .inr rfl | assumption)) (@pgs_cons _ _ _ _ _ (@pg_name _ _ (3) _ S_next_requests.nd rfl (by first | exact Or.inl rfl | exact Or.inr rfl) (by first | exact .inl rfl | exact .inr rfl | assumption)) (@pgs_nil _) (by rfl)) (by rfl)) (by rfl) (by rfl)) (@pss_one _ _ _ (@ps_if _ _ _ _ _ _ _ _ (@pt_cmpR _ _ _ _ _ _ _ _ op_notN (@pv _ 3 _ _ (by rfl) (by first | exact Or.inl rfl | exact Or.inr (Or.inl rfl) | exact Or.inr (Or.inr rfl)) (by decide) (by decide)) (@pe_non _ _ _) (nomark _)) (@pss_one _ _ _ (@ps_asg _ _ _ _ _ _ (@pv _ 2 _ _ (by rfl) (by first | exact Or.inl rfl | exact Or.inr (Or.inl rfl) | exact Or.inr (Or.inr rfl)) (by decide) (by decide)) (@pg_sub _ _ _ _ _ _ _ (@pv _ 1 _ _ (by rfl) (by first | exact Or.inl rfl | exact Or.inr (Or.inl rfl) | exact Or.inr (Or.inr rfl)) (by decide) (by decide)) (@pv _ 3 _ _ (by rfl) (by first | exact Or.inl rfl | exact Or.inr (Or.inl rfl) | exact Or.inr (Or.inr rfl)) (by decide) (by decide)) set_list (by intro _; rfl)) (by rfl) (by rfl) (by rfl))) (@pss_nil _))) (by intro _; rfl)) (@pss_one _ _ _ (@ps_ret _ _ _ _ (@pv _ 1 _ _ (by rfl) (by first | exact Or.inl rfl | exact Or.inr (Or.inl rfl) | exact Or.inr (Or.inr rfl)) (by decide) (by decide)))))), ?_⟩
    walk_at "go"
    refine ⟨tr, _, rfl, .inl (SqL.of htr), ?_⟩
    walk_at "go"
    refine ⟨by show 1 ≤ sizeLine; decide, fun ol hol => ?_⟩
    have s0 := same_new (o := .lst [.int ((ns.map V.int).length : Nat)]) hol
    have o0 : upd H ol (.lst [.int ((ns.map V.int).length : Nat)]) ol = some (.lst [.int ((ns.map V.int).length : Nat)]) := upd_same
    generalize upd H ol (.lst [.int ((ns.map V.int).length : Nat)]) = H0 at *
    walk_at "go"
    refine ⟨tr, _, rfl, .inl (SqL.of (s0 _ _ htr)), ?_⟩
    refine ⟨ol, _, _, rfl, rfl, o0, by omega, by rw [List.length_map]; omega, ?_, fun fa hfa => ?_⟩
    · rw [List.length_map]
      show 1 * (ns.length : Int).toNat ≤ _
      rw [sizeLine_eq]
      omega
    have hfa0 := s0.free hfa
    have hrep : (List.replicate (((ns.map V.int).length : Nat) : Int).toNat [V.int ((ns.map V.int).length : Nat)]).flatten = natsV (List.replicate ns.length ns.length) := by
      rw [List.length_map, Int.toNat_natCast]
      generalize ns.length = n
      unfold natsV
      rw [List.map_replicate]
      have aux : ∀ k : Nat, (List.replicate k [V.int (n : Int)]).flatten = List.replicate k (V.int (n : Int)) := by
        intro k
        induction k with
        | zero => rfl
        | succ k ih => rw [List.replicate_succ, List.flatten_cons, ih]; rfl
      exact aux n
    rw [hrep]
    have s1 : Same H (upd H0 fa (.lst (natsV (List.replicate ns.length ns.length)))) := s0.trans (same_new hfa)
    have f1 : upd H0 fa (.lst (natsV (List.replicate ns.length ns.length))) fa = some (.lst (natsV (List.replicate ns.length ns.length))) := upd_same
    generalize upd H0 fa (.lst (natsV (List.replicate ns.length ns.length))) = H1 at *
    walk_at "go"
    refine ⟨tr, ns, rfl, s1 _ _ htr, hns, fun la H2 hla la2 s12 => ?_⟩
    have nfl := ne_of_none f1 hla
    have s2 : Same H H2 := s1.trans s12
    have f2 := s12 _ _ f1
    have hla0 := s1.free hla
    walk_at "go"
    refine ⟨la, _, rfl, SqL.of la2, for_by (n := ns.length) (fun i σ H3 => ∃ (ts : List Nat) (v1 v2 : Option V), σ = [some (.ref tr), some (.ref fa), v1, v2] ∧ Same H H3 ∧ H3 la = some (.lst ((prevs [] ns).map optV)) ∧ H3 fa = some (.lst (natsV ts)) ∧ NxAll ns i ts)
      ⟨_, none, none, rfl, s2, la2, f2, nxAll_zero ns⟩ ?_ ?_ ?_ ?_⟩
    · rintro i σ H3 hi ⟨_, _, _, _, s3, la3, _⟩
      exact ⟨_, _, SqL.of la3, by rw [List.getElem?_map, prevs_at _ _ _ _ (List.getElem?_eq_getElem hi)]; rfl⟩
    · rintro σ H3 ⟨_, _, _, _, s3, la3, _⟩
      exact ⟨_, SqL.of la3, by rw [List.length_map, prevs_len]; exact Nat.le_refl _⟩
    · rintro i σ H3 x H4 hi ⟨ts, v1, v2, rfl, s3, la3, f3, hN⟩ ⟨pt, y, rfl, npt, rfl, hy⟩
      have hpg : ns[i]? = some ns[i] := List.getElem?_eq_getElem hi
      have hy' := hy _ (SqL.of la3)
      rw [List.getElem?_map, prevs_at _ _ _ _ hpg] at hy'
      cases hy'
      generalize ns[i] = one at *
      refine rd_gtup upd_same rfl ?_
      have s4 : Same H (upd H3 pt (.tup [.int (i : Nat), optV (lastIdx ([] ++ ns.take i) one)])) := s3.trans (same_new npt)
      have la4 := same_new (o := .tup [.int (i : Nat), optV (lastIdx ([] ++ ns.take i) one)]) npt _ _ la3
      have f4 := same_new (o := .tup [.int (i : Nat), optV (lastIdx ([] ++ ns.take i) one)]) npt _ _ f3
      generalize upd H3 pt (.tup [.int (i : Nat), optV (lastIdx ([] ++ ns.take i) one)]) = H4 at *
      rw [List.nil_append]
      cases hj : lastIdx (ns.take i) one with
      | none =>
        walk_at "go"
        refine ⟨rfl, ?_⟩
        walk_at "go"
        refine iteDn (fun z => absurd rfl z) (fun _ => ?_)
        walk_at "go"
        exact ⟨ts, _, _, rfl, s4, la4, f4, nxAll_none hN hpg hj⟩
      | some j =>
        have hjl := lastIdx_lt hj
        rw [List.length_take] at hjl
        dsimp only [optV]
        walk_at "go"
        refine ⟨rfl, ?_⟩
        walk_at "go"
        refine iteDn (fun _ => ?_) (fun z => nomatch z)
        walk_at "go"
        refine rd_setl (j := j) f4 ?_ ?_
        · rw [List.length_map, hN.1]
          exact ixN_nat (by omega)
        refine ⟨ts.set j i, _, _, rfl, fun c o e => ?_, by rw [upd_ne nfl.symm]; exact la4, by rw [upd_same]; unfold natsV; rw [List.map_set], nxAll_some hN hpg hj⟩
        rw [upd_ne (ne_of_none e hfa0)]; exact s4 _ _ e
    · rintro σ H3 ⟨ts, v1, v2, rfl, s3, la3, f3, hN⟩
      rw [nxAll_end hN] at f3
      walk_at "go"
      exact k fa H3 hfa0 f3 s3
end
end
section
open PySem L2
abbrev farPos : Pos := ⟨121, 28, 121, 59⟩
abbrev farQual : Str := Str.ofString "Ahead.farthest" ++ ".<locals>." ++ "<lambda>"
section
variable {P : Program} {w : World} {K : PySem.W.Frag} {mg : Str → Option Value} {base : Heap} {a : Adr}
theorem ok_Ahead_farthest (T : Txt K mg a) (hbm : BMain mg base) : FnOk P w K mg base CX0 2 a.a_Ahead_farthest a.d_Ahead_farthest ["self"] (spFar a.C_Ahead a.p_Ahead_farthest farPos farQual) := by
  refine T.f_Ahead_farthest.ok S_Ahead_farthest (fun vs H Q E h => ?_) (fun A outer s H vs Q E hr h => ?_)
  · obtain ⟨p, dx, dd, fs, Z, rfl, _⟩ := h
    rfl
  · obtain ⟨p, dx, dd, fs, Z, rfl, hp, hdu, hdd, nd, hne, ht, k⟩ := h
    have hdp := (room_in1 hr).1
    have hun := (room_in1 hr).2
    refine ⟨_, (@pss_cons _ _ _ _ _ (@ps_asg _ _ _ _ _ _ (@pe_fld _ _ _ _ _ (@pv _ 0 _ _ (by rfl) (by first | exact Or.inl rfl | exact Or.inr (Or.inl rfl) | exact Or.inr (Or.inr rfl)) (by decide) (by decide)) rfl) (@pg_name _ _ (1) _ S_Ahead_farthest.nd rfl (by first | exact Or.inl rfl | exact Or.inr rfl) (by first | exact .inl rfl | exact .inr rfl | assumption)) (by rfl) (by rfl) (by rfl)) (@pss_one _ _ _ (@ps_ret _ _ _ _ (@pe_far _ _ _ _ _ _ _ _ _ _ _ _ _ (1) _ _ _ _ _ rfl T.f_Ahead_farthest.hd hbm rfl rfl ⟨rfl, rfl, rfl, by decide +kernel, rfl, rfl⟩ (fun _ _ _ _ _ => rfl) rfl rfl rfl rfl T.n_min rfl hdp hun)))), ?_⟩
    walk_at "go"
    refine ⟨p, a.C_Ahead, dx, _, _, rfl, hp, T.c_Ahead, T.na_Ahead_due, hdu, ?_⟩
    walk_at "go"
    exact rd_far rfl hdd nd hne ht k
end
end
section
open PySem L2
section
variable {P : Program} {w : World} {K : PySem.W.Frag} {mg : Str → Option Value} {base : Heap} {a : Adr}
theorem ok_Ahead_init (T : Txt K mg a) : FnOk P w K mg base CX0 3 a.a_Ahead___init__ a.d_Ahead___init__ ["self", "room", "trace"] (spAInit a.C_Ahead) := by
  refine T.f_Ahead___init__.ok S_Ahead___init__ (fun vs H Q E h => ?_) (fun cdv A outer s H vs Q E hr h => ?_)
  · obtain ⟨p, dx, tr, room, ns, rfl, _⟩ := h
    rfl
  · obtain ⟨p, dx, tr, room, ns, rfl, hp, htr, hns, k⟩ := h
    refine ⟨_, (@pss_cons _ _ _ _ _ (@ps_fld _ _ _ _ _ _ _ _ (@pv _ 0 _ _ (by rfl) (by first | exact Or.inl rfl | exact Or.inr (Or.inl rfl) | exact Or.inr (Or.inr rfl)) (by decide) (by decide)) (@pv _ 1 _ _ (by rfl) (by first | exact Or.inl rfl | exact Or.inr (Or.inl rfl) | exact Or.inr (Or.inr rfl)) (by decide) (by decide)) rfl) (@pss_cons _ _ _ _ _ (@ps_fld _ _ _ _ _ _ _ _ (@pv _ 0 _ _ (by rfl) (by first | exact Or.inl rfl | exact Or.inr (Or.inl rfl) | exact Or.inr (Or.inr rfl)) (by decide) (by decide)) (@pe_call _ _ _ _ _ _ _ _ _ _ _ _ _ _ _ _ (ok_next_requests T) (hr.mono (by first | decide | omega)) (by rfl) T.g_next_requests T.f_next_requests.kp (b_next_requests T) .nil pass0 (@pa_cons _ _ _ _ _ (@pv _ 2 _ _ (by rfl) (by first | exact Or.inl rfl | exact Or.inr (Or.inl rfl) | exact Or.inr (Or.inr rfl)) (by decide) (by decide)) (@pa_nil _) (by rfl)) (by decide) (by rfl) (by rfl)) rfl) (@pss_cons _ _ _ _ _ (@ps_fld _ _ _ _ _ _ _ _ (@pv _ 0 _ _ (by rfl) (by first | exact Or.inl rfl | exact Or.inr (Or.inl rfl) | exact Or.inr (Or.inr rfl)) (by decide) (by decide)) (@pe_int _ _ _ _) rfl) (@pss_one _ _ _ (@ps_fld _ _ _ _ _ _ _ _ (@pv _ 0 _ _ (by rfl) (by first | exact Or.inl rfl | exact Or.inr (Or.inl rfl) | exact Or.inr (Or.inr rfl)) (by decide) (by decide)) (@pe_dnewK _ _) rfl))))), ?_⟩
    have npt : tr ≠ p := ne_of htr hp (by intro z; cases z)
    walk_at "go"
    refine ⟨p, a.C_Ahead, dx, [], rfl, hp, T.c_Ahead, T.na_Ahead_room, by show 0 < 1000; decide, ?_⟩
    have e1 : putF "room" (V.int room) [] = [(("room" : Str), V.int room)] := rfl
    rw [e1]
    have p1 : upd H p (.ins a.C_Ahead dx [("room", .int room)]) p = some (.ins a.C_Ahead dx [("room", .int room)]) := upd_same
    have t1 : upd H p (.ins a.C_Ahead dx [("room", .int room)]) tr = some (.lst (ns.map V.int)) := by rw [upd_ne npt]; exact htr
    have K1 : Kp [p] H (upd H p (.ins a.C_Ahead dx [("room", .int room)])) := Kp.refl.put (by simp)
    generalize upd H p (.ins a.C_Ahead dx [("room", .int room)]) = H1 at *
    walk_at "go"
    refine ⟨tr, ns, rfl, t1, hns, fun nl H2 hnl nl2 s2 => ?_⟩
    have npn : p ≠ nl := ne_of_none p1 hnl
    walk_at "go"
    refine ⟨p, a.C_Ahead, dx, _, rfl, s2 _ _ p1, T.c_Ahead, T.na_Ahead_nexts, by show 1 < 1000; decide, ?_⟩
    have e2 : putF "nexts" (V.ref nl) [(("room" : Str), V.int room)] = [(("room" : Str), V.int room), (("nexts" : Str), V.ref nl)] := putF_new (by rfl)
    rw [e2]
    have K2 : Kp [p] H (upd H2 p (.ins a.C_Ahead dx [("room", .int room), ("nexts", .ref nl)])) := (K1.trans (Kp.of_same s2)).put (by simp)
    have p3 : upd H2 p (.ins a.C_Ahead dx [("room", .int room), ("nexts", .ref nl)]) p = some (.ins a.C_Ahead dx [("room", .int room), ("nexts", .ref nl)]) := upd_same
    have n3 : upd H2 p (.ins a.C_Ahead dx [("room", .int room), ("nexts", .ref nl)]) nl = some (.lst (natsV (nextsOf ns))) := by rw [upd_ne npn.symm]; exact nl2
    have hnl0 : H nl = none := K1.none (by simpa using npn.symm) hnl
    generalize upd H2 p (.ins a.C_Ahead dx [("room", .int room), ("nexts", .ref nl)]) = H3 at *
    walk_at "go"
    refine ⟨p, a.C_Ahead, dx, _, rfl, p3, T.c_Ahead, T.na_Ahead_at, by show 2 < 1000; decide, ?_⟩
    have e3 : putF "at" (V.int 0) [(("room" : Str), V.int room), (("nexts" : Str), V.ref nl)] = [(("room" : Str), V.int room), (("nexts" : Str), V.ref nl), (("at" : Str), V.int 0)] := putF_new (by rfl)
    rw [e3]
    have K4 : Kp [p] H (upd H3 p (.ins a.C_Ahead dx [("room", .int room), ("nexts", .ref nl), ("at", .int 0)])) := K2.put (by simp)
    have p4 : upd H3 p (.ins a.C_Ahead dx [("room", .int room), ("nexts", .ref nl), ("at", .int 0)]) p = some (.ins a.C_Ahead dx [("room", .int room), ("nexts", .ref nl), ("at", .int 0)]) := upd_same
    have n4 : upd H3 p (.ins a.C_Ahead dx [("room", .int room), ("nexts", .ref nl), ("at", .int 0)]) nl = some (.lst (natsV (nextsOf ns))) := by rw [upd_ne npn.symm]; exact n3
    generalize upd H3 p (.ins a.C_Ahead dx [("room", .int room), ("nexts", .ref nl), ("at", .int 0)]) = H4 at *
    walk_at "go"
    intro ln hln
    walk_at "go"
    have nln : p ≠ ln := ne_of_none p4 hln
    refine ⟨p, a.C_Ahead, dx, _, rfl, (by rw [upd_ne nln]; exact p4), T.c_Ahead, T.na_Ahead_due, by show 3 < 1000; decide, ?_⟩
    have e5 : putF "due" (V.ref ln) [(("room" : Str), V.int room), (("nexts" : Str), V.ref nl), (("at" : Str), V.int 0)] = af room nl ((0 : Nat) : Int) ln := putF_new (by rfl)
    rw [e5]
    refine k nl ln _ hnl0 (K4.none (by simpa using nln.symm) hln) ⟨⟨dx, upd_same⟩, by rw [upd_ne npn.symm, upd_ne (ne_of_none n4 hln)]; exact n4, by rw [upd_ne nln.symm, upd_same]; rfl, List.nodup_nil, by simp⟩ ((K4.new hln).put (by simp))
theorem ok_Ahead_ask (T : Txt K mg a) (hbm : BMain mg base) : FnOk P w K mg base CX0 3 a.a_Ahead_ask a.d_Ahead_ask ["self", "page"] (spAAsk a.C_Ahead a.p_Ahead_farthest farPos farQual) := by
  refine T.f_Ahead_ask.ok S_Ahead_ask (fun vs H Q E h => ?_) (fun cdv A outer s H vs Q E hr h => ?_)
  · obtain ⟨p, nl, dd, room, page, ns, i, ps, rfl, _⟩ := h
    rfl
  · obtain ⟨p, nl, dd, room, page, ns, i, ps, rfl, R, hpg, hr1, hz, hi, ht, k⟩ := h
    have hu := hu_of hr
    refine ⟨_, (@pss_cons _ _ _ _ _ (@ps_asg _ _ _ _ _ _ (@pe_str _ _ _ _) (@pg_name _ _ (2) _ S_Ahead_ask.nd rfl (by first | exact Or.inl rfl | exact Or.inr rfl) (by first | exact .inl rfl | exact .inr rfl | assumption)) (by rfl) (by rfl) (by rfl)) (@pss_cons _ _ _ _ _ (@ps_asg _ _ _ _ _ _ (@pe_non _ _ _) (@pg_name _ _ (3) _ S_Ahead_ask.nd rfl (by first | exact Or.inl rfl | exact Or.inr rfl) (by first | exact .inl rfl | exact .inr rfl | assumption)) (by rfl) (by rfl) (by rfl)) (@pss_cut _ _ _ _ _ (@ps_if _ _ _ _ _ _ _ _ (@pt_cmp _ _ _ _ _ _ (pc_dnotin hu (@pv _ 1 _ _ (by rfl) (by first | exact Or.inl rfl | exact Or.inr (Or.inl rfl) | exact Or.inr (Or.inr rfl)) (by decide) (by decide)) (@pe_fld _ _ _ _ _ (@pv _ 0 _ _ (by rfl) (by first | exact Or.inl rfl | exact Or.inr (Or.inl rfl) | exact Or.inr (Or.inr rfl)) (by decide) (by decide)) rfl)) (by first | exact nobehind _ (by decide) (by decide) | rfl)) (@pss_cons _ _ _ _ _ (@ps_asg _ _ _ _ _ _ (@pe_str _ _ _ _) (@pg_name _ _ (2) _ S_Ahead_ask.nd rfl (by first | exact Or.inl rfl | exact Or.inr rfl) (by first | exact .inl rfl | exact .inr rfl | assumption)) (by rfl) (by rfl) (by rfl)) (@pss_one _ _ _ (@ps_if _ _ _ _ _ _ _ _ (@pt_cmpR _ _ _ _ _ _ _ _ op_eq (@pe_callB _ _ _ _ _ _ _ _ _ call_lenD (by rfl) T.n_len (by decide +kernel) (@pa_cons _ _ _ _ _ (@pe_fld _ _ _ _ _ (@pv _ 0 _ _ (by rfl) (by first | exact Or.inl rfl | exact Or.inr (Or.inl rfl) | exact Or.inr (Or.inr rfl)) (by decide) (by decide)) rfl) (@pa_nil _) (by rfl)) (by decide) (by decide) (by rfl) (by rfl)) (@pe_fld _ _ _ _ _ (@pv _ 0 _ _ (by rfl) (by first | exact Or.inl rfl | exact Or.inr (Or.inl rfl) | exact Or.inr (Or.inr rfl)) (by decide) (by decide)) rfl) (nomark _)) (@pss_cons _ _ _ _ _ (@ps_asg _ _ _ _ _ _ (@pe_meth0 _ _ _ _ _ _ _ _ _ _ _ _ _ _ _ _ _ (@pv _ 0 _ _ (by rfl) (by first | exact Or.inl rfl | exact Or.inr (Or.inl rfl) | exact Or.inr (Or.inr rfl)) (by decide) (by decide)) T.c_Ahead T.m_Ahead_farthest (ok_Ahead_farthest T hbm) (hr.mono (by first | decide | omega)) (b_Ahead_farthest T) .nil pass0 (by rfl)) (@pg_name _ _ (3) _ S_Ahead_ask.nd rfl (by first | exact Or.inl rfl | exact Or.inr rfl) (by first | exact .inl rfl | exact .inr rfl | assumption)) (by rfl) (by rfl) (by rfl)) (@pss_one _ _ _ (@ps_ddel _ _ _ _ _ _ _ (@pe_fld _ _ _ _ _ (@pv _ 0 _ _ (by rfl) (by first | exact Or.inl rfl | exact Or.inr (Or.inl rfl) | exact Or.inr (Or.inr rfl)) (by decide) (by decide)) rfl) (@pv _ 3 _ _ (by rfl) (by first | exact Or.inl rfl | exact Or.inr (Or.inl rfl) | exact Or.inr (Or.inr rfl)) (by decide) (by decide))))) (@pss_nil _)))) (@pss_nil _)) (@pss_cons _ _ _ _ _ (@ps_dput _ _ _ _ _ _ _ _ _ hu (@pe_fld _ _ _ _ _ (@pv _ 0 _ _ (by rfl) (by first | exact Or.inl rfl | exact Or.inr (Or.inl rfl) | exact Or.inr (Or.inr rfl)) (by decide) (by decide)) rfl) (@pv _ 1 _ _ (by rfl) (by first | exact Or.inl rfl | exact Or.inr (Or.inl rfl) | exact Or.inr (Or.inr rfl)) (by decide) (by decide)) (@pe_ix _ _ _ _ _ _ _ ix_list (@pe_fld _ _ _ _ _ (@pv _ 0 _ _ (by rfl) (by first | exact Or.inl rfl | exact Or.inr (Or.inl rfl) | exact Or.inr (Or.inr rfl)) (by decide) (by decide)) rfl) (@pe_fld _ _ _ _ _ (@pv _ 0 _ _ (by rfl) (by first | exact Or.inl rfl | exact Or.inr (Or.inl rfl) | exact Or.inr (Or.inr rfl)) (by decide) (by decide)) rfl) (fun _ _ => rfl)) rfl) (@pss_cons _ _ _ _ _ (@ps_fldaug _ _ _ _ _ _ _ _ _ _ (@pv _ 0 _ _ (by rfl) (by first | exact Or.inl rfl | exact Or.inr (Or.inl rfl) | exact Or.inr (Or.inr rfl)) (by decide) (by decide)) (@pe_int _ _ _ _) iop_add) (@pss_one _ _ _ (@ps_ret _ _ _ _ (@pe_tup _ _ _ _ _ (@pa_cons _ _ _ _ _ (@pv _ 1 _ _ (by rfl) (by first | exact Or.inl rfl | exact Or.inr (Or.inl rfl) | exact Or.inr (Or.inr rfl)) (by decide) (by decide)) (@pa_cons _ _ _ _ _ (@pv _ 2 _ _ (by rfl) (by first | exact Or.inl rfl | exact Or.inr (Or.inl rfl) | exact Or.inr (Or.inr rfl)) (by decide) (by decide)) (@pa_cons _ _ _ _ _ (@pv _ 3 _ _ (by rfl) (by first | exact Or.inl rfl | exact Or.inr (Or.inl rfl) | exact Or.inr (Or.inr rfl)) (by decide) (by decide)) (@pa_nil _) (by rfl)) (by rfl)) (by rfl)))))))))), ?_⟩
    obtain ⟨⟨dx, p1⟩, n1, d1, nd, sm⟩ := id R
    have npd : p ≠ dd := ne_of p1 d1 (by intro z; cases z)
    have npn : p ≠ nl := ne_of p1 n1 (by intro z; cases z)
    have nnd : nl ≠ dd := ne_of n1 d1 (by intro z; cases z)
    have npP : p ≠ a.p_Ahead_farthest := ht.off (by rw [p1]; rfl)
    have nnP : nl ≠ a.p_Ahead_farthest := ht.off (by rw [n1]; rfl)
    have ndP : dd ≠ a.p_Ahead_farthest := ht.off (by rw [d1]; rfl)
    walk_at "go"
    refine ⟨fun σ H5 => ∃ (Z' : List (Key × V)), σ = [some (.ref p), some (.int page), some (.str (wordF (askF ns room ps i page).2.1)), some (goneF (askF ns room ps i page).2.2)] ∧ H5 dd = some (.dK Z') ∧ Z'.length ≤ 500 ∧
      putK Z' (Sum.inl page : Key) (V.int (nx ns (i + 1) page : Nat)) = SD (ZF ns (i + 1) (askF ns room ps i page).1) ∧ Kp [dd, a.p_Ahead_farthest] H H5 ∧ LamTab a.p_Ahead_farthest farPos farQual H5, ?_, ?_⟩
    · walk_at "go"
      refine ⟨p, a.C_Ahead, dx, _, _, rfl, p1, T.c_Ahead, T.na_Ahead_due, af_due, ?_⟩
      refine ⟨dd, _, rfl, DGet.k (k := Sum.inl page) d1, ?_⟩
      walk_at "go"
      by_cases hin : page ∈ ps
      · rw [ZF_has nd hin]
        have hask : askF ns room ps i page = (ps, true, none) := by unfold askF; rw [if_pos hin]
        rw [hask]
        refine iteNT ?_
        walk_at "go"
        exact ⟨_, rfl, d1, by rw [dOf_len, ZF_len]; omega, ZF_put hpg hin, Kp.refl, ht⟩
      · rw [ZF_no hin]
        refine iteNF ?_
        walk_at "go"
        refine ⟨p, a.C_Ahead, dx, _, _, rfl, p1, T.c_Ahead, T.na_Ahead_due, af_due, ?_⟩
        walk_at "go"
        refine ⟨dd, _, rfl, d1, ?_⟩
        walk_at "go"
        refine ⟨p, a.C_Ahead, dx, _, _, rfl, p1, T.c_Ahead, T.na_Ahead_room, af_room, ?_⟩
        refine rd_eq rfl ?_
        walk_at "go"
        refine iteD (fun e => ?_) (fun e => ?_)
        · have hfull : (ps.length : Int) = room := by
            have z : V.int ((SD (ZF ns i ps)).length : Int) = V.int room := e
            injection z with z
            rw [dOf_len, ZF_len] at z; exact z
          walk_at "go"
          refine ⟨p, dx, _, rfl, p1, af_far, ?_⟩
          walk_at "go"
          refine ⟨p, dx, dd, _, ZF ns i ps, rfl, p1, af_due, d1, by rw [ZF_keys]; exact nd, ?_, ht, fun H2 g k2 t2 hf => ?_⟩
          · intro z
            have : ps.length = 0 := by rw [← ZF_len ns i ps, z]; rfl
            omega
          rw [ZF_step hpg hin] at hf
          have hg := farP_of hf
          have hgm := hf.mem
          have hask : askF ns room ps i page = (ps.erase g ++ [page], false, some g) := by
            unfold askF; rw [if_neg hin, if_pos hfull, hg]
          rw [hask]
          have p2 := k2 _ _ p1 (by simpa using npP)
          have d2 := k2 _ _ d1 (by simpa using ndP)
          walk_at "go"
          refine ⟨p, a.C_Ahead, dx, _, _, rfl, p2, T.c_Ahead, T.na_Ahead_due, af_due, ?_⟩
          walk_at "go"
          refine ⟨dd, _, Sum.inl g, rfl, d2, rfl, by rw [ZF_has nd hgm]; rfl, ?_⟩
          rw [ZF_drop nd]
          refine ⟨_, rfl, upd_same, ?_, ?_, ?_, t2.put (by rw [d2]; rfl)⟩
          · have := List.length_erase_le (a := g) (l := ps)
            rw [dOf_len, ZF_len]; omega
          · have hne : page ∉ ps.erase g := fun m => hin (List.mem_of_mem_erase m)
            rw [ZF_step hpg hne]
            exact ZF_new hne
          · exact (k2.mono (by simp)).put (by simp)
        · have hnf : ¬ (ps.length : Int) = room := fun z => e (by
            show V.int ((SD (ZF ns i ps)).length : Int) = V.int room
            rw [dOf_len, ZF_len, z])
          have hask : askF ns room ps i page = (ps ++ [page], false, none) := by
            unfold askF; rw [if_neg hin, if_neg hnf]
          rw [hask]
          walk_at "go"
          refine ⟨_, rfl, d1, by rw [dOf_len, ZF_len]; omega, ?_, Kp.refl, ht⟩
          rw [ZF_step hpg hin]
          exact ZF_new hin
    · rintro σ H5 ⟨Z', rfl, d5, hz5, hput, k5, t5⟩
      have p5 := k5 _ _ p1 (by simp [npd, npP])
      have n5 := k5 _ _ n1 (by simp [nnd, nnP])
      walk_at "go"
      refine ⟨p, a.C_Ahead, dx, _, _, rfl, p5, T.c_Ahead, T.na_Ahead_nexts, af_nexts, ?_⟩
      walk_at "go"
      refine ⟨p, a.C_Ahead, dx, _, _, rfl, p5, T.c_Ahead, T.na_Ahead_at, af_at, ?_⟩
      refine rd_ixl (SqL.of n5) (at_of (j := i) rfl (by rw [List.getElem?_map, nextsOf_at hpg]; rfl)) ?_
      walk_at "go"
      refine ⟨p, a.C_Ahead, dx, _, _, rfl, p5, T.c_Ahead, T.na_Ahead_due, af_due, ?_⟩
      walk_at "go"
      refine ⟨dd, _, rfl, DPut.k (k := Sum.inl page) d5 (small1000 (by omega)), ?_⟩
      rw [hput]
      have p6 : upd H5 dd (.dK (SD (ZF ns (i + 1) (askF ns room ps i page).1))) p = some (.ins a.C_Ahead dx (af room nl i dd)) := by rw [upd_ne npd]; exact p5
      have n6 : upd H5 dd (.dK (SD (ZF ns (i + 1) (askF ns room ps i page).1))) nl = some (.lst (natsV (nextsOf ns))) := by rw [upd_ne nnd]; exact n5
      have d6 : upd H5 dd (.dK (SD (ZF ns (i + 1) (askF ns room ps i page).1))) dd = some (.dK (SD (ZF ns (i + 1) (askF ns room ps i page).1))) := upd_same
      have k6 : Kp [p, dd, a.p_Ahead_farthest] H (upd H5 dd (.dK (SD (ZF ns (i + 1) (askF ns room ps i page).1)))) := (k5.mono (by simp)).put (by simp)
      have t6 : LamTab a.p_Ahead_farthest farPos farQual (upd H5 dd (.dK (SD (ZF ns (i + 1) (askF ns room ps i page).1)))) := t5.put (by rw [d5]; rfl)
      generalize upd H5 dd (.dK (SD (ZF ns (i + 1) (askF ns room ps i page).1))) = H6 at *
      walk_at "go"
      refine ⟨_, rfl, p, a.C_Ahead, dx, _, _, rfl, p6, T.c_Ahead, T.na_Ahead_at, af_at, ?_⟩
      walk_at "go"
      refine ⟨dx, _, p6, by show 4 < 1000; decide, ?_⟩
      rw [af_put]
      walk_at "go"
      refine ⟨by show 3 ≤ sizeLine; decide, fun t ht7 => ?_⟩
      have ntp : t ≠ p := by rintro rfl; rw [upd_same] at ht7; cases ht7
      have ht6 : H6 t = none := by rw [upd_ne ntp] at ht7; exact ht7
      have ntd : t ≠ dd := (ne_of_none d6 ht6).symm
      have ntn : t ≠ nl := (ne_of_none n6 ht6).symm
      obtain ⟨oP, hoP⟩ := t6.there
      have ntP : t ≠ a.p_Ahead_farthest := (ne_of_none hoP ht6).symm
      have ht0 : H t = none := k6.none (by simp [ntp, ntd, ntP]) ht6
      have hlen := askF_len (ns := ns) (room := room) (ps := ps) (i := i) (p := page)
      refine k t _ ht0 (by rw [upd_same, stepV_F]) ⟨⟨dx, ?_⟩, ?_, ?_, askF_nd nd, by omega⟩ ((k6.put (by simp)).own ht0) ?_
      · rw [upd_ne ntp.symm, upd_same]; rfl
      · rw [upd_ne ntn.symm, upd_ne npn.symm]; exact n6
      · rw [upd_ne ntd.symm, upd_ne npd.symm]; exact d6
      · exact (t6.put (by rw [p6]; rfl)).put (by rw [ht7]; rfl)
end
end
section
open PySem L2
section
variable {P : Program} {w : World} {K : PySem.W.Frag} {mg : Str → Option Value} {base : Heap} {a : Adr}
theorem ok_Line_init (T : Txt K mg a) : FnOk P w K mg base CX0 1 a.a_Line___init__ a.d_Line___init__ ["self", "room", "renews"] (spLInit a.C_Line) := by
  refine T.f_Line___init__.ok S_Line___init__ (fun vs H Q E h => ?_) (fun cdv A outer s H vs Q E hr h => ?_)
  · obtain ⟨p, dx, room, ren, rfl, _⟩ := h
    rfl
  · obtain ⟨p, dx, room, ren, rfl, hp, k⟩ := h
    refine ⟨_, (@pss_cons _ _ _ _ _ (@ps_fld _ _ _ _ _ _ _ _ (@pv _ 0 _ _ (by rfl) (by first | exact Or.inl rfl | exact Or.inr (Or.inl rfl) | exact Or.inr (Or.inr rfl)) (by decide) (by decide)) (@pv _ 1 _ _ (by rfl) (by first | exact Or.inl rfl | exact Or.inr (Or.inl rfl) | exact Or.inr (Or.inr rfl)) (by decide) (by decide)) rfl) (@pss_cons _ _ _ _ _ (@ps_fld _ _ _ _ _ _ _ _ (@pv _ 0 _ _ (by rfl) (by first | exact Or.inl rfl | exact Or.inr (Or.inl rfl) | exact Or.inr (Or.inr rfl)) (by decide) (by decide)) (@pv _ 2 _ _ (by rfl) (by first | exact Or.inl rfl | exact Or.inr (Or.inl rfl) | exact Or.inr (Or.inr rfl)) (by decide) (by decide)) rfl) (@pss_one _ _ _ (@ps_fld _ _ _ _ _ _ _ _ (@pv _ 0 _ _ (by rfl) (by first | exact Or.inl rfl | exact Or.inr (Or.inl rfl) | exact Or.inr (Or.inr rfl)) (by decide) (by decide)) (@pe_dnewK _ _) rfl)))), ?_⟩
    walk_at "go"
    refine ⟨p, a.C_Line, dx, [], rfl, hp, T.c_Line, T.na_Line_room, by show 0 < 1000; decide, ?_⟩
    have e1 : putF "room" (V.int room) [] = [(("room" : Str), V.int room)] := rfl
    rw [e1]
    walk_at "go"
    refine ⟨p, a.C_Line, dx, _, rfl, upd_same, T.c_Line, T.na_Line_renews, by show 1 < 1000; decide, ?_⟩
    have e2 : putF "renews" (V.bl ren) [(("room" : Str), V.int room)] = [(("room" : Str), V.int room), (("renews" : Str), V.bl ren)] := putF_new (by rfl)
    rw [e2, upd_upd]
    have p1 : upd H p (.ins a.C_Line dx [("room", .int room), ("renews", .bl ren)]) p = some (.ins a.C_Line dx [("room", .int room), ("renews", .bl ren)]) := upd_same
    have K1 : Kp [p] H (upd H p (.ins a.C_Line dx [("room", .int room), ("renews", .bl ren)])) := Kp.refl.put (by simp)
    generalize upd H p (.ins a.C_Line dx [("room", .int room), ("renews", .bl ren)]) = H1 at *
    walk_at "go"
    intro ln hln
    walk_at "go"
    have nln : p ≠ ln := ne_of_none p1 hln
    refine ⟨p, a.C_Line, dx, _, rfl, (by rw [upd_ne nln]; exact p1), T.c_Line, T.na_Line_line, by show 2 < 1000; decide, ?_⟩
    have e3 : putF "line" (V.ref ln) [(("room" : Str), V.int room), (("renews" : Str), V.bl ren)] = lf room ren ln := putF_new (by rfl)
    rw [e3]
    refine k ln _ (K1.none (by simpa using nln.symm) hln) ⟨⟨dx, upd_same⟩, by rw [upd_ne nln.symm, upd_same]; rfl, List.nodup_nil, by simp⟩ ((K1.new hln).put (by simp))
theorem ok_Line_ask (T : Txt K mg a) : FnOk P w K mg base CX0 1 a.a_Line_ask a.d_Line_ask ["self", "page"] (spLAsk a.C_Line) := by
  refine T.f_Line_ask.ok S_Line_ask (fun vs H Q E h => ?_) (fun cdv A outer s H vs Q E hr h => ?_)
  · obtain ⟨p, ln, room, page, i, ren, Z, rfl, _⟩ := h
    rfl
  · obtain ⟨p, ln, room, page, i, ren, Z, rfl, R, hr1, hz, k⟩ := h
    have hu := hu_of hr
    refine ⟨_, (@pss_cons _ _ _ _ _ (@ps_if _ _ _ _ _ _ _ _ (@pt_cmp _ _ _ _ _ _ (pc_din hu (@pv _ 1 _ _ (by rfl) (by first | exact Or.inl rfl | exact Or.inr (Or.inl rfl) | exact Or.inr (Or.inr rfl)) (by decide) (by decide)) (@pe_fld _ _ _ _ _ (@pv _ 0 _ _ (by rfl) (by first | exact Or.inl rfl | exact Or.inr (Or.inl rfl) | exact Or.inr (Or.inr rfl)) (by decide) (by decide)) rfl)) (by first | exact nobehind _ (by decide) (by decide) | rfl)) (@pss_cons _ _ _ _ _ (@ps_if _ _ _ _ _ _ _ _ (@pt_val _ _ _ (@pe_fld _ _ _ _ _ (@pv _ 0 _ _ (by rfl) (by first | exact Or.inl rfl | exact Or.inr (Or.inl rfl) | exact Or.inr (Or.inr rfl)) (by decide) (by decide)) rfl) (by intro _; rfl)) (@pss_cons _ _ _ _ _ (@ps_ddel _ _ _ _ _ _ _ (@pe_fld _ _ _ _ _ (@pv _ 0 _ _ (by rfl) (by first | exact Or.inl rfl | exact Or.inr (Or.inl rfl) | exact Or.inr (Or.inr rfl)) (by decide) (by decide)) rfl) (@pv _ 1 _ _ (by rfl) (by first | exact Or.inl rfl | exact Or.inr (Or.inl rfl) | exact Or.inr (Or.inr rfl)) (by decide) (by decide))) (@pss_one _ _ _ (@ps_dput _ _ _ _ _ _ _ _ _ hu (@pe_fld _ _ _ _ _ (@pv _ 0 _ _ (by rfl) (by first | exact Or.inl rfl | exact Or.inr (Or.inl rfl) | exact Or.inr (Or.inr rfl)) (by decide) (by decide)) rfl) (@pv _ 1 _ _ (by rfl) (by first | exact Or.inl rfl | exact Or.inr (Or.inl rfl) | exact Or.inr (Or.inr rfl)) (by decide) (by decide)) (@pe_bl _ _ _ _) rfl))) (@pss_nil _)) (@pss_one _ _ _ (@ps_ret _ _ _ _ (@pe_tup _ _ _ _ _ (@pa_cons _ _ _ _ _ (@pv _ 1 _ _ (by rfl) (by first | exact Or.inl rfl | exact Or.inr (Or.inl rfl) | exact Or.inr (Or.inr rfl)) (by decide) (by decide)) (@pa_cons _ _ _ _ _ (@pe_str _ _ _ _) (@pa_cons _ _ _ _ _ (@pe_non _ _ _) (@pa_nil _) (by rfl)) (by rfl)) (by rfl)))))) (@pss_nil _)) (@pss_cons _ _ _ _ _ (@ps_asg _ _ _ _ _ _ (@pe_non _ _ _) (@pg_name _ _ (2) _ S_Line_ask.nd rfl (by first | exact Or.inl rfl | exact Or.inr rfl) (by first | exact .inl rfl | exact .inr rfl | assumption)) (by rfl) (by rfl) (by rfl)) (@pss_cut _ _ _ _ _ (@ps_if _ _ _ _ _ _ _ _ (@pt_cmpR _ _ _ _ _ _ _ _ op_eq (@pe_callB _ _ _ _ _ _ _ _ _ call_lenD (by rfl) T.n_len (by decide +kernel) (@pa_cons _ _ _ _ _ (@pe_fld _ _ _ _ _ (@pv _ 0 _ _ (by rfl) (by first | exact Or.inl rfl | exact Or.inr (Or.inl rfl) | exact Or.inr (Or.inr rfl)) (by decide) (by decide)) rfl) (@pa_nil _) (by rfl)) (by decide) (by decide) (by rfl) (by rfl)) (@pe_fld _ _ _ _ _ (@pv _ 0 _ _ (by rfl) (by first | exact Or.inl rfl | exact Or.inr (Or.inl rfl) | exact Or.inr (Or.inr rfl)) (by decide) (by decide)) rfl) (nomark _)) (@pss_cons _ _ _ _ _ (@ps_asg _ _ _ _ _ _ (@pe_ix _ _ _ _ _ _ _ ix_list (@pe_callTy _ _ _ _ _ _ _ _ _ (call_listD hr.hd) (by rfl) T.n_list (by decide +kernel) (@pa_cons _ _ _ _ _ (@pe_fld _ _ _ _ _ (@pv _ 0 _ _ (by rfl) (by first | exact Or.inl rfl | exact Or.inr (Or.inl rfl) | exact Or.inr (Or.inr rfl)) (by decide) (by decide)) rfl) (@pa_nil _) (by rfl)) (by decide) (by decide) (by rfl) (by rfl)) (@pe_int _ _ _ _) (fun _ _ => rfl)) (@pg_name _ _ (2) _ S_Line_ask.nd rfl (by first | exact Or.inl rfl | exact Or.inr rfl) (by first | exact .inl rfl | exact .inr rfl | assumption)) (by rfl) (by rfl) (by rfl)) (@pss_one _ _ _ (@ps_ddel _ _ _ _ _ _ _ (@pe_fld _ _ _ _ _ (@pv _ 0 _ _ (by rfl) (by first | exact Or.inl rfl | exact Or.inr (Or.inl rfl) | exact Or.inr (Or.inr rfl)) (by decide) (by decide)) rfl) (@pv _ 2 _ _ (by rfl) (by first | exact Or.inl rfl | exact Or.inr (Or.inl rfl) | exact Or.inr (Or.inr rfl)) (by decide) (by decide))))) (@pss_nil _)) (@pss_cons _ _ _ _ _ (@ps_dput _ _ _ _ _ _ _ _ _ hu (@pe_fld _ _ _ _ _ (@pv _ 0 _ _ (by rfl) (by first | exact Or.inl rfl | exact Or.inr (Or.inl rfl) | exact Or.inr (Or.inr rfl)) (by decide) (by decide)) rfl) (@pv _ 1 _ _ (by rfl) (by first | exact Or.inl rfl | exact Or.inr (Or.inl rfl) | exact Or.inr (Or.inr rfl)) (by decide) (by decide)) (@pe_bl _ _ _ _) rfl) (@pss_one _ _ _ (@ps_ret _ _ _ _ (@pe_tup _ _ _ _ _ (@pa_cons _ _ _ _ _ (@pv _ 1 _ _ (by rfl) (by first | exact Or.inl rfl | exact Or.inr (Or.inl rfl) | exact Or.inr (Or.inr rfl)) (by decide) (by decide)) (@pa_cons _ _ _ _ _ (@pe_str _ _ _ _) (@pa_cons _ _ _ _ _ (@pv _ 2 _ _ (by rfl) (by first | exact Or.inl rfl | exact Or.inr (Or.inl rfl) | exact Or.inr (Or.inr rfl)) (by decide) (by decide)) (@pa_nil _) (by rfl)) (by rfl)) (by rfl))))))))), ?_⟩
    obtain ⟨⟨dx, p1⟩, d1, nd, sm⟩ := id R
    have npl : p ≠ ln := ne_of p1 d1 (by intro z; cases z)
    walk_at "go"
    refine ⟨p, a.C_Line, dx, _, _, rfl, p1, T.c_Line, T.na_Line_line, lf_line, ?_⟩
    refine ⟨ln, _, rfl, DGet.k (k := Sum.inl page) d1, ?_⟩
    walk_at "go"
    by_cases hin : page ∈ Z.map (·.1)
    · obtain ⟨z, hzm, hz1⟩ := List.mem_map.mp hin
      have hv : valV (LD Z) (Sum.inl page : Key) = some (.bl true) := by rw [← hz1]; exact dOf_at nd hzm
      rw [hv]
      refine iteT ?_
      have hask : askT room ren Z i page = ((if ren then Z.filter (fun t => !decide (t.1 = page)) ++ [(page, i)] else Z), true, none) := by
        unfold askT; rw [if_pos hin]
      rw [hask] at k
      walk_at "go"
      refine ⟨p, a.C_Line, dx, _, _, rfl, p1, T.c_Line, T.na_Line_renews, lf_ren, ?_⟩
      walk_at "go"
      cases ren with
      | true =>
        walk_at "go"
        refine ⟨p, a.C_Line, dx, _, _, rfl, p1, T.c_Line, T.na_Line_line, lf_line, ?_⟩
        walk_at "go"
        refine ⟨ln, _, Sum.inl page, rfl, d1, rfl, by rw [hv]; rfl, ?_⟩
        rw [dOf_drop]
        walk_at "go"
        refine ⟨p, a.C_Line, dx, _, _, rfl, (by rw [upd_ne npl]; exact p1), T.c_Line, T.na_Line_line, lf_line, ?_⟩
        walk_at "go"
        have hfl : (Z.filter fun t => !decide (t.1 = page)).length ≤ Z.length := List.length_filter_le _ _
        refine ⟨ln, _, rfl, DPut.k (k := Sum.inl page) upd_same (small1000 (by rw [dOf_len]; omega)), ?_⟩
        have e4 : putK (LD (Z.filter fun t => !decide (t.1 = page))) (Sum.inl page : Key) (V.bl true) = LD ((Z.filter fun t => !decide (t.1 = page)) ++ [(page, i)]) := dOf_put (g := fun _ => V.bl true) (filter_out Z page)
        rw [e4, upd_upd]
        walk_at "go"
        refine ⟨by show 3 ≤ sizeLine; decide, fun t ht => ?_⟩
        have nt : t ≠ ln := by rintro rfl; rw [upd_same] at ht; cases ht
        have ht0 : H t = none := by rw [upd_ne nt] at ht; exact ht
        refine k t _ ht0 upd_same ⟨⟨dx, ?_⟩, ?_, ?_, ?_⟩ ((Kp.refl.put (by simp)).own ht0)
        · rw [upd_ne (ne_of_none p1 ht0), upd_ne npl]; exact p1
        · rw [upd_ne nt.symm, upd_same]; rfl
        · show (((Z.filter fun t => !decide (t.1 = page)) ++ [(page, i)]).map (·.1)).Nodup
          rw [List.map_append]
          exact nd_snoc' (nd.sublist (List.filter_sublist.map _)) (filter_out Z page)
        · show ((Z.filter fun t => !decide (t.1 = page)) ++ [(page, i)]).length ≤ 500
          simp; omega
      | false =>
        walk_at "go"
        refine ⟨by show 3 ≤ sizeLine; decide, fun t ht => ?_⟩
        refine k t _ ht upd_same (R.put (ne_of_none p1 ht) (ne_of_none d1 ht)) (Kp.refl.own ht)
    · have hv : valV (LD Z) (Sum.inl page : Key) = none := dOf_no hin
      rw [hv]
      refine iteF ?_
      walk_at "go"
      refine ⟨fun σ H5 => (∃ (Z' : Ts) (gone : Option Int), σ = [some (.ref p), some (.int page), some (match gone with | none => .non | some g => .int g)] ∧ askT room ren Z i page = (Z' ++ [(page, i)], false, gone) ∧
        H5 = upd H ln (.dK (LD Z'))) ∨ (∃ (Z' : Ts) (gone : Option Int) (l : Addr) (o : HO), σ = [some (.ref p), some (.int page), some (match gone with | none => .non | some g => .int g)] ∧ askT room ren Z i page = (Z' ++ [(page, i)], false, gone) ∧ H l = none ∧ H5 = upd (upd H l o) ln (.dK (LD Z'))), ?_, ?_⟩
      · walk_at "go"
        refine ⟨p, a.C_Line, dx, _, _, rfl, p1, T.c_Line, T.na_Line_line, lf_line, ?_⟩
        walk_at "go"
        refine ⟨ln, _, rfl, d1, ?_⟩
        walk_at "go"
        refine ⟨p, a.C_Line, dx, _, _, rfl, p1, T.c_Line, T.na_Line_room, lf_room, ?_⟩
        refine rd_eq rfl ?_
        walk_at "go"
        refine iteD (fun e => ?_) (fun e => ?_)
        · have hfull : (Z.length : Int) = room := by
            have z : V.int ((LD Z).length : Int) = V.int room := e
            injection z with z
            rw [dOf_len] at z; exact z
          obtain ⟨⟨g1, g2⟩, rest, rfl⟩ : ∃ z r, Z = z :: r := by
            cases Z with
            | nil => simp at hfull; omega
            | cons z r => exact ⟨z, r, rfl⟩
          have hask : askT room ren ((g1, g2) :: rest) i page = (rest ++ [(page, i)], false, some g1) := by
            unfold askT; rw [if_neg hin, if_pos hfull]; rfl
          walk_at "go"
          refine ⟨p, a.C_Line, dx, _, _, rfl, p1, T.c_Line, T.na_Line_line, lf_line, ?_⟩
          walk_at "go"
          refine ⟨ln, _, rfl, d1, fun l hl => ?_⟩
          walk_at "go"
          refine rd_ixl (SqL.of upd_same) (at_of (j := 0) rfl rfl) ?_
          walk_at "go"
          have nll : ln ≠ l := ne_of_none d1 hl
          refine ⟨p, a.C_Line, dx, _, _, rfl, (by rw [upd_ne (ne_of_none p1 hl)]; exact p1), T.c_Line, T.na_Line_line, lf_line, ?_⟩
          walk_at "go"
          refine ⟨ln, _, Sum.inl g1, rfl, (by rw [upd_ne nll]; exact d1), rfl, ?_, ?_⟩
          · have := dOf_at (g := fun _ => V.bl true) nd (t := (g1, g2)) List.mem_cons_self
            rw [this]; rfl
          · refine Or.inr ⟨rest, some g1, l, .lst (List.map (fun kv => kV kv.fst) (LD ((g1, g2) :: rest))), rfl, hask, hl, ?_⟩
            rw [dOf_drop]
            congr 3
            have nd' : (g1 :: rest.map (·.1)).Nodup := nd
            rw [List.filter_cons]
            simp
            intro x y hxy e
            exact (List.nodup_cons.mp nd').1 (by rw [← e]; exact List.mem_map_of_mem hxy)
        · have hnf : ¬ (Z.length : Int) = room := fun z => e (by
            show V.int ((LD Z).length : Int) = V.int room
            rw [dOf_len, z])
          have hask : askT room ren Z i page = (Z ++ [(page, i)], false, none) := by
            unfold askT; rw [if_neg hin, if_neg hnf]
          walk_at "go"
          refine Or.inl ⟨Z, none, rfl, hask, ?_⟩
          funext b
          unfold upd
          split
          · rename_i e; rw [e]; exact d1
          · rfl
      · intro σ H5 hor
        obtain ⟨Z', gone, rfl, hask, d5, p5, K5⟩ : ∃ (Z' : Ts) (gone : Option Int), σ = [some (.ref p), some (.int page), some (match gone with | none => .non | some g => .int g)] ∧ askT room ren Z i page = (Z' ++ [(page, i)], false, gone) ∧ H5 ln = some (.dK (LD Z')) ∧ H5 p = some (.ins a.C_Line dx (lf room ren ln)) ∧ Kp [p, ln] H H5 := by
          rcases hor with ⟨Z', gone, e1, e2, e3⟩ | ⟨Z', gone, l, o, e1, e2, e3, e4⟩
          · exact ⟨Z', gone, e1, e2, by rw [e3, upd_same], by rw [e3, upd_ne npl]; exact p1, by rw [e3]; exact Kp.refl.put (by simp)⟩
          · exact ⟨Z', gone, e1, e2, by rw [e4, upd_same], by rw [e4, upd_ne npl, upd_ne (ne_of_none p1 e3)]; exact p1, by rw [e4]; exact (Kp.refl.own e3).put (by simp)⟩
        rw [hask] at k
        have hTI : ((Z' ++ [(page, i)]).map (·.1)).Nodup ∧ (Z' ++ [(page, i)]).length ≤ 500 := by
          have hok := askT_nd (room := room) (ren := ren) (i := i) (p := page) nd
          have hle := askT_len (room := room) (ren := ren) (T := Z) (i := i) (p := page)
          rw [hask] at hok hle
          have hle' : (Z' ++ [(page, i)]).length ≤ Z.length + 1 := hle
          exact ⟨hok, by omega⟩
        have hzl : Z'.length ≤ 500 := by
          have := hTI.2
          simp at this; omega
        have hpz : page ∉ Z'.map (·.1) := by
          have := hTI.1
          rw [List.map_append] at this
          have q := List.nodup_append.mp this
          intro m
          exact q.2.2 page m page (by simp) rfl
        walk_at "go"
        refine ⟨p, a.C_Line, dx, _, _, rfl, p5, T.c_Line, T.na_Line_line, lf_line, ?_⟩
        walk_at "go"
        refine ⟨ln, _, rfl, DPut.k (k := Sum.inl page) d5 (small1000 (by rw [dOf_len]; omega)), ?_⟩
        have e4 : putK (LD Z') (Sum.inl page : Key) (V.bl true) = LD (Z' ++ [(page, i)]) := dOf_put (g := fun _ => V.bl true) hpz
        rw [e4]
        walk_at "go"
        refine ⟨by show 3 ≤ sizeLine; decide, fun t ht => ?_⟩
        have nt : t ≠ ln := by rintro rfl; rw [upd_same] at ht; cases ht
        have ht5 : H5 t = none := by rw [upd_ne nt] at ht; exact ht
        have ntp : t ≠ p := (ne_of_none p5 ht5).symm
        have ht0 : H t = none := K5.none (by simp [nt, ntp]) ht5
        refine k t _ ht0 upd_same ⟨⟨dx, ?_⟩, ?_, hTI.1, hTI.2⟩ ((K5.put (by simp)).own ht0)
        · rw [upd_ne ntp.symm, upd_ne npl]; exact p5
        · rw [upd_ne nt.symm, upd_same]
end
end
section
open PySem L2
section
variable {P : Program} {w : World} {K : PySem.W.Frag} {mg : Str → Option Value} {base : Heap} {a : Adr}
theorem ok_Ring_init (T : Txt K mg a) : FnOk P w K mg base CX0 1 a.a_Ring___init__ a.d_Ring___init__ ["self", "room"] (spRInit a.C_Ring) := by
  refine T.f_Ring___init__.ok S_Ring___init__ (fun vs H Q E h => ?_) (fun cdv A outer s H vs Q E hr h => ?_)
  · obtain ⟨p, dx, room, rfl, _⟩ := h
    rfl
  · obtain ⟨p, dx, room, rfl, hp, hr1, k⟩ := h
    refine ⟨_, (@pss_cons _ _ _ _ _ (@ps_fld _ _ _ _ _ _ _ _ (@pv _ 0 _ _ (by rfl) (by first | exact Or.inl rfl | exact Or.inr (Or.inl rfl) | exact Or.inr (Or.inr rfl)) (by decide) (by decide)) (@pv _ 1 _ _ (by rfl) (by first | exact Or.inl rfl | exact Or.inr (Or.inl rfl) | exact Or.inr (Or.inr rfl)) (by decide) (by decide)) rfl) (@pss_cons _ _ _ _ _ (@ps_fld _ _ _ _ _ _ _ _ (@pv _ 0 _ _ (by rfl) (by first | exact Or.inl rfl | exact Or.inr (Or.inl rfl) | exact Or.inr (Or.inr rfl)) (by decide) (by decide)) (@pe_lst _ _ _ _ (@pa_nil _)) rfl) (@pss_cons _ _ _ _ _ (@ps_fld _ _ _ _ _ _ _ _ (@pv _ 0 _ _ (by rfl) (by first | exact Or.inl rfl | exact Or.inr (Or.inl rfl) | exact Or.inr (Or.inr rfl)) (by decide) (by decide)) (@pe_lst _ _ _ _ (@pa_nil _)) rfl) (@pss_cons _ _ _ _ _ (@ps_fld _ _ _ _ _ _ _ _ (@pv _ 0 _ _ (by rfl) (by first | exact Or.inl rfl | exact Or.inr (Or.inl rfl) | exact Or.inr (Or.inr rfl)) (by decide) (by decide)) (@pe_dnewK _ _) rfl) (@pss_one _ _ _ (@ps_fld _ _ _ _ _ _ _ _ (@pv _ 0 _ _ (by rfl) (by first | exact Or.inl rfl | exact Or.inr (Or.inl rfl) | exact Or.inr (Or.inr rfl)) (by decide) (by decide)) (@pe_int _ _ _ _) rfl)))))), ?_⟩
    walk_at "go"
    refine ⟨p, a.C_Ring, dx, [], rfl, hp, T.c_Ring, T.na_Ring_room, by show 0 < 1000; decide, ?_⟩
    have K1 : Kp [p] H (upd H p (.ins a.C_Ring dx [("room", .int room)])) := Kp.refl.put (by simp)
    have p1 : upd H p (.ins a.C_Ring dx [("room", .int room)]) p = some (.ins a.C_Ring dx [("room", .int room)]) := upd_same
    have f1 : ∀ q, upd H p (.ins a.C_Ring dx [("room", .int room)]) q = none → H q = none ∧ q ≠ p := fun q hq => by
      have hne : q ≠ p := by rintro rfl; rw [p1] at hq; cases hq
      rw [upd_ne hne] at hq; exact ⟨hq, hne⟩
    have e1 : putF "room" (V.int room) [] = [(("room" : Str), V.int room)] := rfl
    rw [e1]
    generalize upd H p (.ins a.C_Ring dx [("room", .int room)]) = H1 at *
    -- ring
    walk_at "go"
    refine ⟨by decide, fun rg hrg => ?_⟩
    walk_at "go"
    have nrg : p ≠ rg := ne_of_none p1 hrg
    refine ⟨p, a.C_Ring, dx, _, rfl, (by rw [upd_ne nrg]; exact p1), T.c_Ring, T.na_Ring_ring, by show 1 < 1000; decide, ?_⟩
    have e2 : putF "ring" (V.ref rg) [(("room" : Str), V.int room)] = [(("room" : Str), V.int room), (("ring" : Str), V.ref rg)] := putF_new (by rfl)
    rw [e2]
    have hrg0 := (f1 rg hrg).1
    have K2 : Kp [p] H (upd (upd H1 rg (.lst [])) p (.ins a.C_Ring dx [("room", .int room), ("ring", .ref rg)])) := (K1.new hrg).put (by simp)
    have r2 : upd (upd H1 rg (.lst [])) p (.ins a.C_Ring dx [("room", .int room), ("ring", .ref rg)]) rg = some (.lst []) := by rw [upd_ne nrg.symm, upd_same]
    have p2 : upd (upd H1 rg (.lst [])) p (.ins a.C_Ring dx [("room", .int room), ("ring", .ref rg)]) p = some (.ins a.C_Ring dx [("room", .int room), ("ring", .ref rg)]) := upd_same
    generalize upd (upd H1 rg (.lst [])) p (.ins a.C_Ring dx [("room", .int room), ("ring", .ref rg)]) = H2 at *
    -- marks
    walk_at "go"
    refine ⟨by decide, fun mk hmk => ?_⟩
    walk_at "go"
    have nmk : p ≠ mk := ne_of_none p2 hmk
    have nrm : rg ≠ mk := ne_of_none r2 hmk
    have hmk0 := K2.none (by simpa using nmk.symm) hmk
    refine ⟨p, a.C_Ring, dx, _, rfl, (by rw [upd_ne nmk]; exact p2), T.c_Ring, T.na_Ring_marks, by show 2 < 1000; decide, ?_⟩
    have e3 : putF "marks" (V.ref mk) [(("room" : Str), V.int room), (("ring" : Str), V.ref rg)] = [(("room" : Str), V.int room), (("ring" : Str), V.ref rg), (("marks" : Str), V.ref mk)] := putF_new (by rfl)
    rw [e3]
    have K3 : Kp [p] H (upd (upd H2 mk (.lst [])) p (.ins a.C_Ring dx [("room", .int room), ("ring", .ref rg), ("marks", .ref mk)])) := (K2.new hmk).put (by simp)
    have r3 : upd (upd H2 mk (.lst [])) p (.ins a.C_Ring dx [("room", .int room), ("ring", .ref rg), ("marks", .ref mk)]) rg = some (.lst []) := by rw [upd_ne nrg.symm, upd_ne nrm]; exact r2
    have m3 : upd (upd H2 mk (.lst [])) p (.ins a.C_Ring dx [("room", .int room), ("ring", .ref rg), ("marks", .ref mk)]) mk = some (.lst []) := by rw [upd_ne nmk.symm, upd_same]
    have p3 : upd (upd H2 mk (.lst [])) p (.ins a.C_Ring dx [("room", .int room), ("ring", .ref rg), ("marks", .ref mk)]) p = some (.ins a.C_Ring dx [("room", .int room), ("ring", .ref rg), ("marks", .ref mk)]) := upd_same
    generalize upd (upd H2 mk (.lst [])) p (.ins a.C_Ring dx [("room", .int room), ("ring", .ref rg), ("marks", .ref mk)]) = H3 at *
    -- seats
    walk_at "go"
    intro st hst
    walk_at "go"
    have nst : p ≠ st := ne_of_none p3 hst
    have nrs : rg ≠ st := ne_of_none r3 hst
    have nms : mk ≠ st := ne_of_none m3 hst
    have hst0 := K3.none (by simpa using nst.symm) hst
    refine ⟨p, a.C_Ring, dx, _, rfl, (by rw [upd_ne nst]; exact p3), T.c_Ring, T.na_Ring_seats, by show 3 < 1000; decide, ?_⟩
    have e4 : putF "seats" (V.ref st) [(("room" : Str), V.int room), (("ring" : Str), V.ref rg), (("marks" : Str), V.ref mk)] = [(("room" : Str), V.int room), (("ring" : Str), V.ref rg), (("marks" : Str), V.ref mk), (("seats" : Str), V.ref st)] := putF_new (by rfl)
    rw [e4]
    walk_at "go"
    refine ⟨p, a.C_Ring, dx, _, rfl, upd_same, T.c_Ring, T.na_Ring_hand, by show 4 < 1000; decide, ?_⟩
    have e5 : putF "hand" (V.int 0) [(("room" : Str), V.int room), (("ring" : Str), V.ref rg), (("marks" : Str), V.ref mk), (("seats" : Str), V.ref st)] = rflds room rg mk st ((0 : Nat) : Int) := putF_new (by rfl)
    rw [e5]
    refine k rg mk st _ hrg0 hmk0 hst0 ⟨⟨dx, upd_same⟩, ?_, ?_, ⟨[], ?_, Seats.nil⟩, nrm, List.nodup_nil, hr1, by simp; omega, fun _ => rfl, by simp; omega, by simp⟩ (((K3.new hst).put (by simp)).put (by simp))
    · rw [upd_ne nrg.symm, upd_ne nrg.symm, upd_ne nrs]; exact r3
    · rw [upd_ne nmk.symm, upd_ne nmk.symm, upd_ne nms]; exact m3
    · rw [upd_ne nst.symm, upd_ne nst.symm, upd_same]
theorem ok_Ring_sweep (T : Txt K mg a) : FnOk P w K mg base CX0 1 a.a_Ring_sweep a.d_Ring_sweep ["self"] (spSweep a.C_Ring) := by
  refine T.f_Ring_sweep.ok S_Ring_sweep (fun vs H Q E h => ?_) (fun cdv A outer s H vs Q E hr h => ?_)
  · obtain ⟨p, rg, mk, st, room, zs, hand, rfl, _⟩ := h
    rfl
  · obtain ⟨p, rg, mk, st, room, zs, hand, rfl, R, hroom, k⟩ := h
    refine ⟨_, (@pss_cons _ _ _ _ _ (@ps_while _ _ _ _ _ _ PassesOwn.never (@pt_val _ _ _ (@pe_ix _ _ _ _ _ _ _ ix_list (@pe_fld _ _ _ _ _ (@pv _ 0 _ _ (by rfl) (by first | exact Or.inl rfl | exact Or.inr (Or.inl rfl) | exact Or.inr (Or.inr rfl)) (by decide) (by decide)) rfl) (@pe_fld _ _ _ _ _ (@pv _ 0 _ _ (by rfl) (by first | exact Or.inl rfl | exact Or.inr (Or.inl rfl) | exact Or.inr (Or.inr rfl)) (by decide) (by decide)) rfl) (fun _ _ => rfl)) (by intro _; rfl)) (@pss_cons _ _ _ _ _ (@ps_asg _ _ _ _ _ _ (@pe_bl _ _ _ _) (@pg_sub _ _ _ _ _ _ _ (@pe_fld _ _ _ _ _ (@pv _ 0 _ _ (by rfl) (by first | exact Or.inl rfl | exact Or.inr (Or.inl rfl) | exact Or.inr (Or.inr rfl)) (by decide) (by decide)) rfl) (@pe_fld _ _ _ _ _ (@pv _ 0 _ _ (by rfl) (by first | exact Or.inl rfl | exact Or.inr (Or.inl rfl) | exact Or.inr (Or.inr rfl)) (by decide) (by decide)) rfl) set_list (by intro _; rfl)) (by rfl) (by rfl) (by rfl)) (@pss_one _ _ _ (@ps_fld _ _ _ _ _ _ _ _ (@pv _ 0 _ _ (by rfl) (by first | exact Or.inl rfl | exact Or.inr (Or.inl rfl) | exact Or.inr (Or.inr rfl)) (by decide) (by decide)) (@pe_op _ _ _ _ _ _ _ _ op_mod (@pe_op _ _ _ _ _ _ _ _ op_add (@pe_fld _ _ _ _ _ (@pv _ 0 _ _ (by rfl) (by first | exact Or.inl rfl | exact Or.inr (Or.inl rfl) | exact Or.inr (Or.inr rfl)) (by decide) (by decide)) rfl) (@pe_int _ _ _ _)) (@pe_fld _ _ _ _ _ (@pv _ 0 _ _ (by rfl) (by first | exact Or.inl rfl | exact Or.inr (Or.inl rfl) | exact Or.inr (Or.inr rfl)) (by decide) (by decide)) rfl)) rfl)))) (@pss_cons _ _ _ _ _ (@ps_asg _ _ _ _ _ _ (@pe_fld _ _ _ _ _ (@pv _ 0 _ _ (by rfl) (by first | exact Or.inl rfl | exact Or.inr (Or.inl rfl) | exact Or.inr (Or.inr rfl)) (by decide) (by decide)) rfl) (@pg_name _ _ (1) _ S_Ring_sweep.nd rfl (by first | exact Or.inl rfl | exact Or.inr rfl) (by first | exact .inl rfl | exact .inr rfl | assumption)) (by rfl) (by rfl) (by rfl)) (@pss_cons _ _ _ _ _ (@ps_fld _ _ _ _ _ _ _ _ (@pv _ 0 _ _ (by rfl) (by first | exact Or.inl rfl | exact Or.inr (Or.inl rfl) | exact Or.inr (Or.inr rfl)) (by decide) (by decide)) (@pe_op _ _ _ _ _ _ _ _ op_mod (@pe_op _ _ _ _ _ _ _ _ op_add (@pv _ 1 _ _ (by rfl) (by first | exact Or.inl rfl | exact Or.inr (Or.inl rfl) | exact Or.inr (Or.inr rfl)) (by decide) (by decide)) (@pe_int _ _ _ _)) (@pe_fld _ _ _ _ _ (@pv _ 0 _ _ (by rfl) (by first | exact Or.inl rfl | exact Or.inr (Or.inl rfl) | exact Or.inr (Or.inr rfl)) (by decide) (by decide)) rfl)) rfl) (@pss_one _ _ _ (@ps_ret _ _ _ _ (@pv _ 1 _ _ (by rfl) (by first | exact Or.inl rfl | exact Or.inr (Or.inl rfl) | exact Or.inr (Or.inr rfl)) (by decide) (by decide))))))), ?_⟩
    walk_at "rd"
    refine while_W (fun σ H' => σ = [some (.ref p), none] ∧ ∃ (ys : Zs) (h : Nat), RingAt a.C_Ring H' p rg mk st room ys h ∧ Kp [p, mk] H H' ∧ sweepQ (rotQ ys h) = sweepQ (rotQ zs hand) ∧ ys.map (·.1) = zs.map (·.1) ∧ ys.length = zs.length) (fun _ H' => trueAt mk H') ⟨rfl, zs, hand, R, Kp.refl, rfl, rfl, rfl⟩ ?_
    rintro σ H1 ⟨rfl, ys, h, R1, K1, hq, hf, hl⟩
    obtain ⟨⟨dx, p1⟩, r1, m1, ⟨kvs, s1, S1⟩, nrm, nd, q1, q2, q3, q4, q5⟩ := id R1
    have npm : p ≠ mk := ne_of p1 m1 (by intro z; cases z)
    have nrp : rg ≠ p := ne_of r1 p1 (by intro z; cases z)
    have nsp : st ≠ p := ne_of s1 p1 (by intro z; cases z)
    have nsm : st ≠ mk := ne_of s1 m1 (by intro z; cases z)
    have hh : h < ys.length := by omega
    obtain ⟨⟨pg, b⟩, hz⟩ : ∃ z, ys[h]? = some z := ⟨_, List.getElem?_eq_getElem hh⟩
    have hm : ((ys.map (·.2)).map V.bl)[h]? = some (V.bl b) := by rw [List.getElem?_map, List.getElem?_map, hz]; rfl
    walk_at "go"
    refine ⟨p, a.C_Ring, dx, _, _, rfl, p1, T.c_Ring, T.na_Ring_marks, rf_marks, ?_⟩
    walk_at "go"
    refine ⟨p, a.C_Ring, dx, _, _, rfl, p1, T.c_Ring, T.na_Ring_hand, rf_hand, ?_⟩
    refine rd_ixl (SqL.of m1) (atI_nat hm) ?_
    walk_at "go"
    cases b with
    | true =>
      walk_at "go"
      refine ⟨fun σ' H' => (σ' = [some (.ref p), none] ∧ ∃ (ys : Zs) (h : Nat), RingAt a.C_Ring H' p rg mk st room ys h ∧ Kp [p, mk] H H' ∧ sweepQ (rotQ ys h) = sweepQ (rotQ zs hand) ∧ ys.map (·.1) = zs.map (·.1) ∧ ys.length = zs.length) ∧ trueAt mk H' < trueAt mk H1, fun σ' H' ⟨p, l⟩ => ⟨_, l, rfl, p⟩, ?_⟩
      walk_at "go"
      refine ⟨p, a.C_Ring, dx, _, _, rfl, p1, T.c_Ring, T.na_Ring_marks, rf_marks, ?_⟩
      walk_at "go"
      refine ⟨p, a.C_Ring, dx, _, _, rfl, p1, T.c_Ring, T.na_Ring_hand, rf_hand, ?_⟩
      refine rd_setl m1 (ixN_nat (by simpa using hh)) ?_
      have p2 : ∀ o, upd H1 mk o p = some (.ins a.C_Ring dx (rflds room rg mk st h)) := fun o => by rw [upd_ne npm]; exact p1
      walk_at "go"
      refine ⟨p, a.C_Ring, dx, _, _, rfl, p2 _, T.c_Ring, T.na_Ring_hand, rf_hand, ?_⟩
      walk_at "go"
      refine ⟨p, a.C_Ring, dx, _, _, rfl, p2 _, T.c_Ring, T.na_Ring_room, rf_room, ?_⟩
      refine rd_i (show (0 : Int) < room by omega) ?_
      walk_at "go"
      refine ⟨p, a.C_Ring, dx, _, rfl, p2 _, T.c_Ring, T.na_Ring_hand, by show 5 < 1000; decide, ?_⟩
      have em : ((h : Int) + 1) % room = (((h + 1) % ys.length : Nat) : Int) := by
        rw [← hroom, ← hl]; rfl
      rw [rf_put, em]
      refine ⟨⟨rfl, ys.set h (pg, false), (h + 1) % ys.length, ⟨⟨dx, upd_same⟩, ?_, ?_, ⟨kvs, ?_, ?_⟩, nrm, ?_, q1, ?_, ?_, ?_, ?_⟩, (K1.put (by simp)).put (by simp), ?_, ?_, ?_⟩, ?_⟩
      · rw [upd_ne nrp, upd_ne nrm, r1, set_fst hz]
      · rw [upd_ne npm.symm, upd_same]
        simp
      · rw [upd_ne nsp, upd_ne nsm]; exact s1
      · rw [set_fst hz]; exact S1
      · rw [set_fst hz]; exact nd
      · simpa using q2
      · intro z; simp at z; omega
      · have := Nat.mod_lt (h + 1) (show 0 < ys.length by omega)
        omega
      · simpa using q5
      · rw [rotQ_set hz, ← sweepQ_true, ← rotQ_head hz, hq]
      · rw [set_fst hz, hf]
      · simpa using hl
      · rw [trueAt_of (ys := ys.set h (pg, false)) (by rw [upd_ne npm.symm, upd_same]; simp), trueAt_of m1]
        exact marksN_set hz
    | false =>
      walk_at "go"
      refine ⟨p, a.C_Ring, dx, _, _, rfl, p1, T.c_Ring, T.na_Ring_hand, rf_hand, ?_⟩
      walk_at "go"
      refine ⟨p, a.C_Ring, dx, _, _, rfl, p1, T.c_Ring, T.na_Ring_room, rf_room, ?_⟩
      refine rd_i (show (0 : Int) < room by omega) ?_
      walk_at "go"
      refine ⟨p, a.C_Ring, dx, _, rfl, p1, T.c_Ring, T.na_Ring_hand, by show 5 < 1000; decide, ?_⟩
      walk_at "go"
      have em : ((h : Int) + 1) % room = (((h + 1) % zs.length : Nat) : Int) := by
        rw [← hroom]; rfl
      rw [rf_put, em]
      refine k ys h _ (by omega) ?_ hf ⟨⟨dx, upd_same⟩, ?_, ?_, ⟨kvs, ?_, S1⟩, nrm, nd, q1, q2, ?_, ?_, q5⟩ (K1.put (by simp))
      · rw [← hq, rotQ_head hz, sweepQ_false]
      · rw [upd_ne nrp]; exact r1
      · rw [upd_ne npm.symm]; exact m1
      · rw [upd_ne nsp]; exact s1
      · intro z; omega
      · have := Nat.mod_lt (h + 1) (show 0 < zs.length by omega)
        omega
theorem ok_Ring_ask (T : Txt K mg a) : FnOk P w K mg base CX0 2 a.a_Ring_ask a.d_Ring_ask ["self", "page"] (spAsk a.C_Ring) := by
  refine T.f_Ring_ask.ok S_Ring_ask (fun vs H Q E h => ?_) (fun cdv A outer s H vs Q E hr h => ?_)
  · obtain ⟨p, rg, mk, st, room, page, zs, hand, rfl, _⟩ := h
    rfl
  · obtain ⟨p, rg, mk, st, room, page, zs, hand, rfl, R, hz, k⟩ := h
    have hu := hu_of hr
    refine ⟨_, (@pss_cons _ _ _ _ _ (@ps_if _ _ _ _ _ _ _ _ (@pt_cmp _ _ _ _ _ _ (pc_din hu (@pv _ 1 _ _ (by rfl) (by first | exact Or.inl rfl | exact Or.inr (Or.inl rfl) | exact Or.inr (Or.inr rfl)) (by decide) (by decide)) (@pe_fld _ _ _ _ _ (@pv _ 0 _ _ (by rfl) (by first | exact Or.inl rfl | exact Or.inr (Or.inl rfl) | exact Or.inr (Or.inr rfl)) (by decide) (by decide)) rfl)) (by first | exact nobehind _ (by decide) (by decide) | rfl)) (@pss_cons _ _ _ _ _ (@ps_asg _ _ _ _ _ _ (@pe_bl _ _ _ _) (@pg_sub _ _ _ _ _ _ _ (@pe_fld _ _ _ _ _ (@pv _ 0 _ _ (by rfl) (by first | exact Or.inl rfl | exact Or.inr (Or.inl rfl) | exact Or.inr (Or.inr rfl)) (by decide) (by decide)) rfl) (@pe_dget _ _ _ _ _ _ hu (@pe_fld _ _ _ _ _ (@pv _ 0 _ _ (by rfl) (by first | exact Or.inl rfl | exact Or.inr (Or.inl rfl) | exact Or.inr (Or.inr rfl)) (by decide) (by decide)) rfl) (@pv _ 1 _ _ (by rfl) (by first | exact Or.inl rfl | exact Or.inr (Or.inl rfl) | exact Or.inr (Or.inr rfl)) (by decide) (by decide)) (fun _ _ => rfl)) set_list (by intro _; rfl)) (by rfl) (by rfl) (by rfl)) (@pss_one _ _ _ (@ps_ret _ _ _ _ (@pe_tup _ _ _ _ _ (@pa_cons _ _ _ _ _ (@pv _ 1 _ _ (by rfl) (by first | exact Or.inl rfl | exact Or.inr (Or.inl rfl) | exact Or.inr (Or.inr rfl)) (by decide) (by decide)) (@pa_cons _ _ _ _ _ (@pe_str _ _ _ _) (@pa_cons _ _ _ _ _ (@pe_non _ _ _) (@pa_nil _) (by rfl)) (by rfl)) (by rfl)))))) (@pss_nil _)) (@pss_cons _ _ _ _ _ (@ps_asg _ _ _ _ _ _ (@pe_non _ _ _) (@pg_name _ _ (2) _ S_Ring_ask.nd rfl (by first | exact Or.inl rfl | exact Or.inr rfl) (by first | exact .inl rfl | exact .inr rfl | assumption)) (by rfl) (by rfl) (by rfl)) (@pss_cons _ _ _ _ _ (@ps_if _ _ _ _ _ _ _ _ (@pt_cmpR _ _ _ _ _ _ _ _ op_lt (@pe_callB _ _ _ _ _ _ _ _ _ call_len_seq (by rfl) T.n_len (by decide +kernel) (@pa_cons _ _ _ _ _ (@pe_fld _ _ _ _ _ (@pv _ 0 _ _ (by rfl) (by first | exact Or.inl rfl | exact Or.inr (Or.inl rfl) | exact Or.inr (Or.inr rfl)) (by decide) (by decide)) rfl) (@pa_nil _) (by rfl)) (by decide) (by decide) (by rfl) (by rfl)) (@pe_fld _ _ _ _ _ (@pv _ 0 _ _ (by rfl) (by first | exact Or.inl rfl | exact Or.inr (Or.inl rfl) | exact Or.inr (Or.inr rfl)) (by decide) (by decide)) rfl) (nomark _)) (@pss_cons _ _ _ _ _ (@ps_asg _ _ _ _ _ _ (@pe_callB _ _ _ _ _ _ _ _ _ call_len_seq (by rfl) T.n_len (by decide +kernel) (@pa_cons _ _ _ _ _ (@pe_fld _ _ _ _ _ (@pv _ 0 _ _ (by rfl) (by first | exact Or.inl rfl | exact Or.inr (Or.inl rfl) | exact Or.inr (Or.inr rfl)) (by decide) (by decide)) rfl) (@pa_nil _) (by rfl)) (by decide) (by decide) (by rfl) (by rfl)) (@pg_name _ _ (3) _ S_Ring_ask.nd rfl (by first | exact Or.inl rfl | exact Or.inr rfl) (by first | exact .inl rfl | exact .inr rfl | assumption)) (by rfl) (by rfl) (by rfl)) (@pss_cons _ _ _ _ _ (@ps_expr _ _ _ _ (@pe_bm _ _ _ _ _ _ _ _ _ _ _ _ PySem.F.plainAttrs_list PySem.F.slot_list_append PySem.F.type_list_append mt_append (@pe_fld _ _ _ _ _ (@pv _ 0 _ _ (by rfl) (by first | exact Or.inl rfl | exact Or.inr (Or.inl rfl) | exact Or.inr (Or.inr rfl)) (by decide) (by decide)) rfl) (@pa_cons _ _ _ _ _ (@pv _ 1 _ _ (by rfl) (by first | exact Or.inl rfl | exact Or.inr (Or.inl rfl) | exact Or.inr (Or.inr rfl)) (by decide) (by decide)) (@pa_nil _) (by rfl)) (by rfl) (by rfl) (by rfl) (by rfl) (by rfl)) (by rfl)) (@pss_one _ _ _ (@ps_expr _ _ _ _ (@pe_bm _ _ _ _ _ _ _ _ _ _ _ _ PySem.F.plainAttrs_list PySem.F.slot_list_append PySem.F.type_list_append mt_append (@pe_fld _ _ _ _ _ (@pv _ 0 _ _ (by rfl) (by first | exact Or.inl rfl | exact Or.inr (Or.inl rfl) | exact Or.inr (Or.inr rfl)) (by decide) (by decide)) rfl) (@pa_cons _ _ _ _ _ (@pe_bl _ _ _ _) (@pa_nil _) (by rfl)) (by rfl) (by rfl) (by rfl) (by rfl) (by rfl)) (by rfl))))) (@pss_cons _ _ _ _ _ (@ps_asg _ _ _ _ _ _ (@pe_meth0 _ _ _ _ _ _ _ _ _ _ _ _ _ _ _ _ _ (@pv _ 0 _ _ (by rfl) (by first | exact Or.inl rfl | exact Or.inr (Or.inl rfl) | exact Or.inr (Or.inr rfl)) (by decide) (by decide)) T.c_Ring T.m_Ring_sweep (ok_Ring_sweep T) (hr.mono (by first | decide | omega)) (b_Ring_sweep T) .nil pass0 (by rfl)) (@pg_name _ _ (3) _ S_Ring_ask.nd rfl (by first | exact Or.inl rfl | exact Or.inr rfl) (by first | exact .inl rfl | exact .inr rfl | assumption)) (by rfl) (by rfl) (by rfl)) (@pss_cons _ _ _ _ _ (@ps_asg _ _ _ _ _ _ (@pe_ix _ _ _ _ _ _ _ ix_list (@pe_fld _ _ _ _ _ (@pv _ 0 _ _ (by rfl) (by first | exact Or.inl rfl | exact Or.inr (Or.inl rfl) | exact Or.inr (Or.inr rfl)) (by decide) (by decide)) rfl) (@pv _ 3 _ _ (by rfl) (by first | exact Or.inl rfl | exact Or.inr (Or.inl rfl) | exact Or.inr (Or.inr rfl)) (by decide) (by decide)) (fun _ _ => rfl)) (@pg_name _ _ (2) _ S_Ring_ask.nd rfl (by first | exact Or.inl rfl | exact Or.inr rfl) (by first | exact .inl rfl | exact .inr rfl | assumption)) (by rfl) (by rfl) (by rfl)) (@pss_cons _ _ _ _ _ (@ps_ddel _ _ _ _ _ _ _ (@pe_fld _ _ _ _ _ (@pv _ 0 _ _ (by rfl) (by first | exact Or.inl rfl | exact Or.inr (Or.inl rfl) | exact Or.inr (Or.inr rfl)) (by decide) (by decide)) rfl) (@pv _ 2 _ _ (by rfl) (by first | exact Or.inl rfl | exact Or.inr (Or.inl rfl) | exact Or.inr (Or.inr rfl)) (by decide) (by decide))) (@pss_cons _ _ _ _ _ (@ps_asg _ _ _ _ _ _ (@pv _ 1 _ _ (by rfl) (by first | exact Or.inl rfl | exact Or.inr (Or.inl rfl) | exact Or.inr (Or.inr rfl)) (by decide) (by decide)) (@pg_sub _ _ _ _ _ _ _ (@pe_fld _ _ _ _ _ (@pv _ 0 _ _ (by rfl) (by first | exact Or.inl rfl | exact Or.inr (Or.inl rfl) | exact Or.inr (Or.inr rfl)) (by decide) (by decide)) rfl) (@pv _ 3 _ _ (by rfl) (by first | exact Or.inl rfl | exact Or.inr (Or.inl rfl) | exact Or.inr (Or.inr rfl)) (by decide) (by decide)) set_list (by intro _; rfl)) (by rfl) (by rfl) (by rfl)) (@pss_one _ _ _ (@ps_asg _ _ _ _ _ _ (@pe_bl _ _ _ _) (@pg_sub _ _ _ _ _ _ _ (@pe_fld _ _ _ _ _ (@pv _ 0 _ _ (by rfl) (by first | exact Or.inl rfl | exact Or.inr (Or.inl rfl) | exact Or.inr (Or.inr rfl)) (by decide) (by decide)) rfl) (@pv _ 3 _ _ (by rfl) (by first | exact Or.inl rfl | exact Or.inr (Or.inl rfl) | exact Or.inr (Or.inr rfl)) (by decide) (by decide)) set_list (by intro _; rfl)) (by rfl) (by rfl) (by rfl)))))))) (@pss_cons _ _ _ _ _ (@ps_dput _ _ _ _ _ _ _ _ _ hu (@pe_fld _ _ _ _ _ (@pv _ 0 _ _ (by rfl) (by first | exact Or.inl rfl | exact Or.inr (Or.inl rfl) | exact Or.inr (Or.inr rfl)) (by decide) (by decide)) rfl) (@pv _ 1 _ _ (by rfl) (by first | exact Or.inl rfl | exact Or.inr (Or.inl rfl) | exact Or.inr (Or.inr rfl)) (by decide) (by decide)) (@pv _ 3 _ _ (by rfl) (by first | exact Or.inl rfl | exact Or.inr (Or.inl rfl) | exact Or.inr (Or.inr rfl)) (by decide) (by decide)) rfl) (@pss_one _ _ _ (@ps_ret _ _ _ _ (@pe_tup _ _ _ _ _ (@pa_cons _ _ _ _ _ (@pv _ 1 _ _ (by rfl) (by first | exact Or.inl rfl | exact Or.inr (Or.inl rfl) | exact Or.inr (Or.inr rfl)) (by decide) (by decide)) (@pa_cons _ _ _ _ _ (@pe_str _ _ _ _) (@pa_cons _ _ _ _ _ (@pv _ 2 _ _ (by rfl) (by first | exact Or.inl rfl | exact Or.inr (Or.inl rfl) | exact Or.inr (Or.inr rfl)) (by decide) (by decide)) (@pa_nil _) (by rfl)) (by rfl)) (by rfl))))))))), ?_⟩
    obtain ⟨⟨dx, p1⟩, r1, m1, ⟨kvs, s1, S1⟩, nrm, nd, q1, q2, q3, q4, q5⟩ := id R
    have npm : p ≠ mk := ne_of p1 m1 (by intro z; cases z)
    have nrp : rg ≠ p := ne_of r1 p1 (by intro z; cases z)
    have nsp : st ≠ p := ne_of s1 p1 (by intro z; cases z)
    have nsm : st ≠ mk := ne_of s1 m1 (by intro z; cases z)
    have nsr : st ≠ rg := ne_of s1 r1 (by intro z; cases z)
    walk_at "go"
    refine ⟨p, a.C_Ring, dx, _, _, rfl, p1, T.c_Ring, T.na_Ring_seats, rf_seats, ?_⟩
    refine ⟨st, _, rfl, DGet.k (k := Sum.inl page) s1, ?_⟩
    walk_at "go"
    by_cases hin : page ∈ zs.map (·.1)
    · -- a hit
      obtain ⟨j, hj⟩ := List.mem_iff_getElem?.mp hin
      have hv := S1.on j page hj
      rw [hv]
      have hask : askQ room (rotQ zs hand) page = (markQ page (rotQ zs hand), true, none) := by
        unfold askQ
        rw [if_pos ((fst_rot zs hand page).mpr hin)]
      rw [hask] at k
      obtain ⟨b, hzj⟩ : ∃ b, zs[j]? = some (page, b) := by
        rw [List.getElem?_map] at hj
        cases e : zs[j]? with
        | none => rw [e] at hj; cases hj
        | some z =>
          rw [e] at hj
          obtain ⟨z1, z2⟩ := z
          have : z1 = page := Option.some.inj hj
          exact ⟨z2, by rw [this]⟩
      have hjl := (List.getElem?_eq_some_iff.mp hzj).1
      refine iteT ?_
      walk_at "go"
      refine ⟨p, a.C_Ring, dx, _, _, rfl, p1, T.c_Ring, T.na_Ring_marks, rf_marks, ?_⟩
      walk_at "go"
      refine ⟨p, a.C_Ring, dx, _, _, rfl, p1, T.c_Ring, T.na_Ring_seats, rf_seats, ?_⟩
      walk_at "go"
      refine ⟨st, _, rfl, hv ▸ DGet.k (k := Sum.inl page) s1, ?_⟩
      refine rd_setl m1 (ixN_nat (by simpa using hjl)) ?_
      walk_at "go"
      refine ⟨by show 3 ≤ sizeLine; decide, fun t ht => ?_⟩
      have nt : t ≠ mk := by rintro rfl; rw [upd_same] at ht; cases ht
      have ht0 : H t = none := by rw [upd_ne nt] at ht; exact ht
      refine k t (zs.set j (page, true)) hand _ ht0 upd_same ?_ (by simp) ⟨⟨dx, ?_⟩, ?_, ?_, ⟨kvs, ?_, ?_⟩, nrm, ?_, q1, by simpa using q2, by simpa using q3, q4, by simpa using q5⟩ ?_
      · show rotQ (zs.set j (page, true)) hand = markQ page (rotQ zs hand)
        rw [set_mark nd hzj]; exact rotQ_map _ _ _
      · rw [upd_ne (ne_of_none p1 ht0), upd_ne npm]; exact p1
      · rw [upd_ne (ne_of_none r1 ht0), upd_ne nrm, set_fst hzj]; exact r1
      · rw [upd_ne (ne_of_none m1 ht0), upd_same]; simp
      · rw [upd_ne (ne_of_none s1 ht0), upd_ne nsm]; exact s1
      · rw [set_fst hzj]; exact S1
      · rw [set_fst hzj]; exact nd
      · exact (Kp.refl.put (by simp)).new ht
    · -- a fault
      have hv := S1.no page hin
      rw [hv]
      refine iteF ?_
      walk_at "go"
      refine ⟨p, a.C_Ring, dx, _, _, rfl, p1, T.c_Ring, T.na_Ring_ring, rf_ring, ?_⟩
      walk_at "go"
      refine ⟨rg, _, rfl, .inl (SqL.of r1), ?_⟩
      walk_at "go"
      refine ⟨p, a.C_Ring, dx, _, _, rfl, p1, T.c_Ring, T.na_Ring_room, rf_room, ?_⟩
      walk_at "go"
      refine iteD (fun hlt => ?_) (fun hlt => ?_)
      · -- a free frame
        have hlen : ((zs.map (·.1)).map V.int).length = zs.length := by simp
        rw [hlen] at hlt
        have h0 := q3 hlt
        subst h0
        have hask : askQ room (rotQ zs 0) page = (rotQ zs 0 ++ [(page, true)], false, none) := by
          unfold askQ
          rw [if_neg (fun z => hin ((fst_rot zs 0 page).mp z)), if_neg (by rw [rotQ_len]; omega)]
        rw [hask] at k
        walk_at "go"
        refine ⟨p, a.C_Ring, dx, _, _, rfl, p1, T.c_Ring, T.na_Ring_ring, rf_ring, ?_⟩
        walk_at "go"
        refine ⟨rg, _, rfl, .inl (SqL.of r1), ?_⟩
        walk_at "go"
        refine ⟨p, a.C_Ring, dx, _, _, rfl, p1, T.c_Ring, T.na_Ring_ring, rf_ring, ?_⟩
        refine ⟨.inl ⟨rfl, _, SqL.of r1⟩, ?_⟩
        walk_at "go"
        refine ⟨rg, _, _, rfl, rfl, r1, small1000 (by rw [hlen]; omega), ?_⟩
        have p2 : ∀ o, upd H rg o p = some (.ins a.C_Ring dx (rflds room rg mk st (0 : Nat))) := fun o => by rw [upd_ne nrp.symm]; exact p1
        have m2 : ∀ o, upd H rg o mk = some (.lst ((zs.map (·.2)).map V.bl)) := fun o => by rw [upd_ne nrm.symm]; exact m1
        walk_at "go"
        refine ⟨p, a.C_Ring, dx, _, _, rfl, p2 _, T.c_Ring, T.na_Ring_marks, rf_marks, ?_⟩
        refine ⟨.inl ⟨rfl, _, SqL.of (m2 _)⟩, ?_⟩
        walk_at "go"
        refine ⟨mk, _, _, rfl, rfl, m2 _, small1000 (by simp; omega), ?_⟩
        walk_at "go"
        refine ⟨p, a.C_Ring, dx, _, _, rfl, (by rw [upd_ne npm]; exact p2 _), T.c_Ring, T.na_Ring_seats, rf_seats, ?_⟩
        walk_at "go"
        refine ⟨st, _, rfl, DPut.k (k := Sum.inl page) (kvs := kvs) (by rw [upd_ne nsm, upd_ne nsr]; exact s1) (small1000 (by rw [S1.len]; simp; omega)), ?_⟩
        walk_at "go"
        refine ⟨by show 3 ≤ sizeLine; decide, fun t ht => ?_⟩
        have nt1 : t ≠ st := by rintro rfl; rw [upd_same] at ht; cases ht
        rw [upd_ne nt1] at ht
        have nt2 : t ≠ mk := by rintro rfl; rw [upd_same] at ht; cases ht
        rw [upd_ne nt2] at ht
        have nt3 : t ≠ rg := by rintro rfl; rw [upd_same] at ht; cases ht
        rw [upd_ne nt3] at ht
        refine k t (zs ++ [(page, true)]) 0 _ ht upd_same ?_ (by simp) ⟨⟨dx, ?_⟩, ?_, ?_, ⟨putK kvs (Sum.inl page) (.int zs.length), ?_, ?_⟩, nrm, ?_, q1, by simp; omega, fun _ => rfl, q4, by simp; omega⟩ ?_
        · rw [rotQ_zero, rotQ_zero]
        · rw [upd_ne (ne_of_none p1 ht), upd_ne nsp.symm, upd_ne npm]; exact p2 _
        · rw [upd_ne (ne_of_none r1 ht), upd_ne nsr.symm, upd_ne nrm, upd_same]; simp
        · rw [upd_ne (ne_of_none m1 ht), upd_ne nsm.symm, upd_same]; simp
        · rw [upd_ne (ne_of_none s1 ht), upd_same, hlen]
        · have := S1.add hin
          rw [List.length_map] at this
          rw [List.map_append]; exact this
        · rw [List.map_append]
          exact nd_snoc nd hin
        · exact (((Kp.refl.put (by simp)).put (by simp)).put (by simp)).own ht
      · -- one goes
        have hlen : ((zs.map (·.1)).map V.int).length = zs.length := by simp
        rw [hlen] at hlt
        have hfull : (zs.length : Int) = room := by omega
        walk_at "go"
        refine ⟨p, dx, _, rfl, p1, rf_sweep, ?_⟩
        walk_at "go"
        refine ⟨p, rg, mk, st, room, zs, hand, rfl, R, hfull, fun ys seat H2 hs hq hf R2 K2 => ?_⟩
        have hl2 : ys.length = zs.length := by simpa using congrArg List.length hf
        obtain ⟨⟨dx2, p2⟩, r2, m2, ⟨kvs2, s2, S2⟩, _, nd2, _, _, _, _, _⟩ := id R2
        have hsl : seat < ys.length := by omega
        obtain ⟨⟨g, b⟩, hg⟩ : ∃ z, ys[seat]? = some z := ⟨_, List.getElem?_eq_getElem hsl⟩
        have hq2 := hq
        rw [rotQ_head hg] at hq2
        have hask : askQ room (rotQ zs hand) page = ((ys.drop (seat + 1) ++ ys.take seat) ++ [(page, true)], false, some g) := by
          unfold askQ
          rw [if_neg (fun z => hin ((fst_rot zs hand page).mp z)), if_pos (by rw [rotQ_len]; exact hfull), ← hq2]
          rfl
        rw [hask] at k
        have hgr : (ys.map (·.1))[seat]? = some g := by rw [List.getElem?_map, hg]; rfl
        have hgv : ((ys.map (·.1)).map V.int)[seat]? = some (V.int g) := by rw [List.getElem?_map, hgr]; rfl
        have hin2 : page ∉ ys.map (·.1) := by rw [hf]; exact hin
        walk_at "go"
        refine ⟨p, a.C_Ring, dx2, _, _, rfl, p2, T.c_Ring, T.na_Ring_ring, rf_ring, ?_⟩
        walk_at "go"
        refine rd_ixl (SqL.of r2) (atI_nat hgv) ?_
        walk_at "go"
        refine ⟨p, a.C_Ring, dx2, _, _, rfl, p2, T.c_Ring, T.na_Ring_seats, rf_seats, ?_⟩
        walk_at "go"
        refine ⟨st, kvs2, Sum.inl g, rfl, s2, rfl, by rw [S2.on seat g hgr]; rfl, ?_⟩
        have p3 : ∀ o, upd H2 st o p = some (.ins a.C_Ring dx2 (rflds room rg mk st ((seat + 1) % zs.length : Nat))) := fun o => by rw [upd_ne nsp.symm]; exact p2
        have r3 : ∀ o, upd H2 st o rg = some (.lst ((ys.map (·.1)).map V.int)) := fun o => by rw [upd_ne nsr.symm]; exact r2
        have m3 : ∀ o, upd H2 st o mk = some (.lst ((ys.map (·.2)).map V.bl)) := fun o => by rw [upd_ne nsm.symm]; exact m2
        walk_at "go"
        refine ⟨p, a.C_Ring, dx2, _, _, rfl, p3 _, T.c_Ring, T.na_Ring_ring, rf_ring, ?_⟩
        walk_at "go"
        refine rd_setl (r3 _) (ixN_nat (by simpa using hsl)) ?_
        walk_at "go"
        refine ⟨p, a.C_Ring, dx2, _, _, rfl, (by rw [upd_ne nrp.symm]; exact p3 _), T.c_Ring, T.na_Ring_marks, rf_marks, ?_⟩
        walk_at "go"
        refine rd_setl (by rw [upd_ne nrm.symm]; exact m3 _) (ixN_nat (by simpa using hsl)) ?_
        walk_at "go"
        refine ⟨p, a.C_Ring, dx2, _, _, rfl, (by rw [upd_ne npm, upd_ne nrp.symm]; exact p3 _), T.c_Ring, T.na_Ring_seats, rf_seats, ?_⟩
        walk_at "go"
        refine ⟨st, _, rfl, DPut.k (k := Sum.inl page) (kvs := dropK kvs2 (Sum.inl g)) (by rw [upd_ne nsm, upd_ne nsr, upd_same]) (small1000 (Nat.le_trans (dropK_le _ _) (by rw [S2.len]; simp; omega))), ?_⟩
        walk_at "go"
        refine ⟨by show 3 ≤ sizeLine; decide, fun t ht => ?_⟩
        have nt1 : t ≠ st := by rintro rfl; rw [upd_same] at ht; cases ht
        rw [upd_ne nt1] at ht
        have nt2 : t ≠ mk := by rintro rfl; rw [upd_same] at ht; cases ht
        rw [upd_ne nt2] at ht
        have nt3 : t ≠ rg := by rintro rfl; rw [upd_same] at ht; cases ht
        rw [upd_ne nt3, upd_ne nt1] at ht
        have nt4 : t ≠ p := (ne_of_none p2 ht).symm
        have ht0 : H t = none := K2.none (by simp [nt4, nt2]) ht
        refine k t (ys.set seat (page, true)) ((seat + 1) % zs.length) _ ht0 upd_same ?_ (by simp; omega) ⟨⟨dx2, ?_⟩, ?_, ?_, ⟨putK (dropK kvs2 (Sum.inl g)) (Sum.inl page) (.int seat), ?_, ?_⟩, nrm, ?_, q1, by simp; omega, by simp; omega, ?_, by simp; omega⟩ ?_
        · rw [← hl2, rotQ_set hg]
        · rw [upd_ne (ne_of_none p2 ht), upd_ne nsp.symm, upd_ne npm, upd_ne nrp.symm]; exact p3 _
        · rw [upd_ne (ne_of_none r2 ht), upd_ne nsr.symm, upd_ne nrm, upd_same]; simp
        · rw [upd_ne (ne_of_none m2 ht), upd_ne nsm.symm, upd_same]; simp
        · rw [upd_ne (ne_of_none s2 ht), upd_same]
        · rw [List.map_set]; exact S2.swap nd2 hin2 hgr
        · rw [List.map_set]
          exact nd_set nd2 hin2
        · have := Nat.mod_lt (seat + 1) (show 0 < zs.length by omega)
          omega
        · exact ((((((K2.mono (by intro x hx; simp only [List.mem_cons, List.not_mem_nil, or_false] at hx; rcases hx with rfl | rfl <;> simp)).put (by simp)).put (by simp)).put (by simp)).put (by simp))).own ht0
end
end
section
open PySem L2
section
variable {P : Program} {w : World} {K : PySem.W.Frag} {mg : Str → Option Value} {base : Heap} {a : Adr}
theorem ok_check_room (T : Txt K mg a) : FnOk P w K mg base CX0 1 a.a_check_room a.d_check_room ["room"] spCheck := by
  refine T.f_check_room.ok S_check_room (fun vs H Q E h => ?_) (fun cdv A outer s H vs Q E hr h => ?_)
  · obtain ⟨room, rfl, _⟩ := h
    rfl
  · obtain ⟨room, rfl, h1, k⟩ := h
    refine ⟨_, (@pss_one _ _ _ (@ps_if _ _ _ _ _ _ _ _ (@pt_cmpR _ _ _ _ _ _ _ _ op_lt (@pv _ 0 _ _ (by rfl) (by first | exact Or.inl rfl | exact Or.inr (Or.inl rfl) | exact Or.inr (Or.inr rfl)) (by decide) (by decide)) (@pe_int _ _ _ _) (nomark _)) (@pss_one _ _ _ (@ps_never _ _)) (@pss_nil _))), ?_⟩
    walk_at "go"
    refine iteD (fun z => by omega) (fun _ => ?_)
    exact k
theorem ok_empty_roomL (T : Txt K mg a) : FnOk P w K mg base CX0 5 a.a_empty_room a.d_empty_room ["trace", "room", "rule"] (spEmptyL a.C_Line) := by
  refine T.f_empty_room.ok S_empty_room (fun vs H Q E h => ?_) (fun cdv A outer s H vs Q E hr h => ?_)
  · obtain ⟨tr, room, ren, rfl, _⟩ := h
    rfl
  · obtain ⟨tr, room, ren, rfl, k⟩ := h
    refine ⟨_, (@pss_cons _ _ _ _ _ (@ps_if _ _ _ _ _ _ _ _ (@pt_cmpR _ _ _ _ _ _ _ _ op_eq (@pv _ 2 _ _ (by rfl) (by first | exact Or.inl rfl | exact Or.inr (Or.inl rfl) | exact Or.inr (Or.inr rfl)) (by decide) (by decide)) (@pe_str _ _ _ _) (nomark _)) (@pss_one _ _ _ (@ps_ret _ _ _ _ (@pe_make _ _ _ _ _ _ _ _ _ _ _ _ _ _ _ _ _ T.mk_Line (ok_Line_init T) (hr.mono (by first | decide | omega)) (by rfl) T.g_Line (b_Line___init__ T) .nil pass0 (@pa_cons _ _ _ _ _ (@pv _ 1 _ _ (by rfl) (by first | exact Or.inl rfl | exact Or.inr (Or.inl rfl) | exact Or.inr (Or.inr rfl)) (by decide) (by decide)) (@pa_cons _ _ _ _ _ (@pe_bl _ _ _ _) (@pa_nil _) (by rfl)) (by rfl)) (by decide) (by rfl) (by rfl)))) (@pss_nil _)) (@pss_cons _ _ _ _ _ (@ps_if _ _ _ _ _ _ _ _ (@pt_cmpR _ _ _ _ _ _ _ _ op_eq (@pv _ 2 _ _ (by rfl) (by first | exact Or.inl rfl | exact Or.inr (Or.inl rfl) | exact Or.inr (Or.inr rfl)) (by decide) (by decide)) (@pe_str _ _ _ _) (nomark _)) (@pss_one _ _ _ (@ps_ret _ _ _ _ (@pe_make _ _ _ _ _ _ _ _ _ _ _ _ _ _ _ _ _ T.mk_Line (ok_Line_init T) (hr.mono (by first | decide | omega)) (by rfl) T.g_Line (b_Line___init__ T) .nil pass0 (@pa_cons _ _ _ _ _ (@pv _ 1 _ _ (by rfl) (by first | exact Or.inl rfl | exact Or.inr (Or.inl rfl) | exact Or.inr (Or.inr rfl)) (by decide) (by decide)) (@pa_cons _ _ _ _ _ (@pe_bl _ _ _ _) (@pa_nil _) (by rfl)) (by rfl)) (by decide) (by rfl) (by rfl)))) (@pss_nil _)) (@pss_cons _ _ _ _ _ (@ps_if _ _ _ _ _ _ _ _ (@pt_cmpR _ _ _ _ _ _ _ _ op_eq (@pv _ 2 _ _ (by rfl) (by first | exact Or.inl rfl | exact Or.inr (Or.inl rfl) | exact Or.inr (Or.inr rfl)) (by decide) (by decide)) (@pe_str _ _ _ _) (nomark _)) (@pss_one _ _ _ (@ps_never _ _)) (@pss_nil _)) (@pss_one _ _ _ (@ps_never _ _))))), ?_⟩
    have fin : ∀ (x dx : Addr), H x = none → H dx = none → dx ≠ x → ∀ (ln : Addr) (H1 : Hp), upd (upd H dx (.own x)) x (.ins a.C_Line dx []) ln = none → LineAt a.C_Line H1 x ln room ren [] → Kp [x] (upd (upd H dx (.own x)) x (.ins a.C_Line dx [])) H1 → Q (.ref x) H1 := by
      intro x dx nx ndx nex ln H1 f1 R1 K1
      have s0 : Same H (upd (upd H dx (.own x)) x (.ins a.C_Line dx [])) := fun b o e => by
        rw [upd_ne (ne_of_none e nx), upd_ne (ne_of_none e ndx)]
        exact e
      exact k x ln H1 nx (s0.free f1) R1 (fun b o e => K1 b o (s0 b o e) (by simpa using ne_of_none e nx))
    cases ren with
    | false =>
      walk_at "go"
      refine rd_eq rfl ?_
      walk_at "go"
      refine iteD (fun _ => ?_) (fun z => absurd rfl z)
      walk_at "go"
      intro x dx nx ndx nex
      exact ⟨x, dx, room, false, rfl, upd_same, fun ln H1 f1 R1 K1 => ⟨rfl, fin x dx nx ndx nex ln H1 f1 R1 K1⟩⟩
    | true =>
      walk_at "go"
      refine rd_eq rfl ?_
      walk_at "go"
      refine iteD (fun z => absurd z (by decide +kernel)) (fun _ => ?_)
      walk_at "go"
      refine rd_eq rfl ?_
      walk_at "go"
      refine iteD (fun _ => ?_) (fun z => absurd rfl z)
      walk_at "go"
      intro x dx nx ndx nex
      exact ⟨x, dx, room, true, rfl, upd_same, fun ln H1 f1 R1 K1 => ⟨rfl, fin x dx nx ndx nex ln H1 f1 R1 K1⟩⟩
theorem rule_in (ren : Bool) : (if true = true then !inV (V.str (ruleOf ren)) [V.str "first", V.str "last", V.str "clock", V.str "far"] else inV (V.str (ruleOf ren)) [V.str "first", V.str "last", V.str "clock", V.str "far"]) = false := by
  cases ren <;> decide +kernel
theorem rule_seq (ren : Bool) : ∀ v ∈ [V.str "first", V.str "last", V.str "clock", V.str "far"], True := fun _ _ => trivial
theorem ok_walkL (T : Txt K mg a) : FnOk P w K mg base CX0 6 a.a_walk a.d_walk ["trace", "room", "rule"] spWalkL := by
  refine T.f_walk.ok S_walk (fun vs H Q E h => ?_) (fun cdv A outer s H vs Q E hr h => ?_)
  · obtain ⟨tr, room, ren, ns, rfl, _⟩ := h
    rfl
  · obtain ⟨tr, room, ren, ns, rfl, htr, hr1, hns, k⟩ := h
    refine ⟨_, (@pss_cons _ _ _ _ _ (@ps_if _ _ _ _ _ _ _ _ (@pt_cmpR _ _ _ _ _ _ _ _ op_notIn_seq (@pv _ 2 _ _ (by rfl) (by first | exact Or.inl rfl | exact Or.inr (Or.inl rfl) | exact Or.inr (Or.inr rfl)) (by decide) (by decide)) (@pe_glob _ _ (.ref a.K_RULES) _ _ (by rfl) T.g_RULES rfl (by decide)) (by rfl)) (@pss_one _ _ _ (@ps_never _ _)) (@pss_nil _)) (@pss_cons _ _ _ _ _ (@ps_expr _ _ _ _ (@pe_call _ _ _ _ _ _ _ _ _ _ _ _ _ _ _ _ (ok_check_room T) (hr.mono (by first | decide | omega)) (by rfl) T.g_check_room T.f_check_room.kp (b_check_room T) .nil pass0 (@pa_cons _ _ _ _ _ (@pv _ 1 _ _ (by rfl) (by first | exact Or.inl rfl | exact Or.inr (Or.inl rfl) | exact Or.inr (Or.inr rfl)) (by decide) (by decide)) (@pa_nil _) (by rfl)) (by decide) (by rfl) (by rfl)) (by rfl)) (@pss_cons _ _ _ _ _ (@ps_asg _ _ _ _ _ _ (@pe_call _ _ _ _ _ _ _ _ _ _ _ _ _ _ _ _ (ok_empty_roomL T) (hr.mono (by first | decide | omega)) (by rfl) T.g_empty_room T.f_empty_room.kp (b_empty_room T) .nil pass0 (@pa_cons _ _ _ _ _ (@pv _ 0 _ _ (by rfl) (by first | exact Or.inl rfl | exact Or.inr (Or.inl rfl) | exact Or.inr (Or.inr rfl)) (by decide) (by decide)) (@pa_cons _ _ _ _ _ (@pv _ 1 _ _ (by rfl) (by first | exact Or.inl rfl | exact Or.inr (Or.inl rfl) | exact Or.inr (Or.inr rfl)) (by decide) (by decide)) (@pa_cons _ _ _ _ _ (@pv _ 2 _ _ (by rfl) (by first | exact Or.inl rfl | exact Or.inr (Or.inl rfl) | exact Or.inr (Or.inr rfl)) (by decide) (by decide)) (@pa_nil _) (by rfl)) (by rfl)) (by rfl)) (by decide) (by rfl) (by rfl)) (@pg_name _ _ (3) _ S_walk.nd rfl (by first | exact Or.inl rfl | exact Or.inr rfl) (by first | exact .inl rfl | exact .inr rfl | assumption)) (by rfl) (by rfl) (by rfl)) (@pss_cons _ _ _ _ _ (@ps_asg _ _ _ _ _ _ (@pe_lst _ _ _ _ (@pa_nil _)) (@pg_name _ _ (4) _ S_walk.nd rfl (by first | exact Or.inl rfl | exact Or.inr rfl) (by first | exact .inl rfl | exact .inr rfl | assumption)) (by rfl) (by rfl) (by rfl)) (@pss_cons _ _ _ _ _ (@ps_for _ _ _ _ _ _ _ _ PassesOwn.never rfl (@pi_list _ _ _ _ (@pv _ 0 _ _ (by rfl) (by first | exact Or.inl rfl | exact Or.inr (Or.inl rfl) | exact Or.inr (Or.inr rfl)) (by decide) (by decide))) (@pg_name _ _ (5) _ S_walk.nd rfl (by first | exact Or.inl rfl | exact Or.inr rfl) (by first | exact .inl rfl | exact .inr rfl | assumption)) (@pss_one _ _ _ (@ps_expr _ _ _ _ (@pe_bm _ _ _ _ _ _ _ _ _ _ _ _ PySem.F.plainAttrs_list PySem.F.slot_list_append PySem.F.type_list_append mt_append (@pv _ 4 _ _ (by rfl) (by first | exact Or.inl rfl | exact Or.inr (Or.inl rfl) | exact Or.inr (Or.inr rfl)) (by decide) (by decide)) (@pa_cons _ _ _ _ _ (@pe_meth _ _ _ _ _ _ _ _ _ _ _ _ _ _ _ _ _ _ _ _ (@pv _ 3 _ _ (by rfl) (by first | exact Or.inl rfl | exact Or.inr (Or.inl rfl) | exact Or.inr (Or.inr rfl)) (by decide) (by decide)) T.c_Line T.m_Line_ask (ok_Line_ask T) (hr.mono (by first | decide | omega)) (b_Line_ask T) .nil pass0 (@pa_cons _ _ _ _ _ (@pv _ 5 _ _ (by rfl) (by first | exact Or.inl rfl | exact Or.inr (Or.inl rfl) | exact Or.inr (Or.inr rfl)) (by decide) (by decide)) (@pa_nil _) (by rfl)) (by rfl) (by rfl) (by rfl)) (@pa_nil _) (by rfl)) (by rfl) (by rfl) (by rfl) (by rfl) (by rfl)) (by rfl))) (by intro _; rfl)) (@pss_one _ _ _ (@ps_ret _ _ _ _ (@pv _ 4 _ _ (by rfl) (by first | exact Or.inl rfl | exact Or.inr (Or.inl rfl) | exact Or.inr (Or.inr rfl)) (by decide) (by decide))))))))), ?_⟩
    walk_at "go"
    refine ⟨a.K_RULES, _, rfl, .inr (T.t_RULES H), rfl, by decide +kernel, ?_⟩
    walk_at "go"
    rw [rule_in ren]
    walk_at "go"
    refine ⟨room, rfl, hr1, ?_⟩
    walk_at "go"
    refine ⟨_, room, ren, rfl, fun x ln H1 nx nln R1 s1 => ?_⟩
    walk_at "go"
    refine ⟨by decide, fun l hl => ?_⟩
    have htr1 := s1 _ _ htr
    obtain ⟨⟨dx1, x1⟩, ln1, _, _⟩ := id R1
    have nlx := ne_of_none x1 hl
    have nll := ne_of_none ln1 hl
    have nlt := ne_of_none htr1 hl
    have hl0 := s1.free hl
    have s2 : Same H (upd H1 l (.lst [])) := s1.trans (same_new hl)
    have R2 : LineAt a.C_Line (upd H1 l (.lst [])) x ln room ren [] := R1.keep (same_new hl)
    have l2 : upd H1 l (.lst []) l = some (.lst []) := upd_same
    generalize upd H1 l (.lst []) = H2 at *
    walk_at "go"
    refine ⟨tr, rfl, ⟨_, SqL.of (s2 _ _ htr)⟩, for_list (K := K) (a := tr) (xs := ns.map V.int) (fun i σ H3 => ∃ (ts : List Addr) (v : Option V), σ = [some (.ref tr), some (.int room), some (.str (ruleOf ren)), some (.ref x), some (.ref l), v] ∧ Same H H3 ∧ LineAt a.C_Line H3 x ln room ren (endT room ren [] 0 (ns.take i)) ∧
        H3 l = some (.lst (ts.map V.ref)) ∧ StepsAt H3 ts (runT room ren [] 0 (ns.take i)))
      ⟨[], none, rfl, s2, R2, l2, .nil⟩ (fun i σ H3 _ ⟨_, _, _, s3, _⟩ => SqL.of (s3 _ _ htr)) ?_ ?_⟩
    · rintro i y σ H3 hi ⟨ts, v, rfl, s3, R3, l3, t3⟩
      have hil : i < (ns.map V.int).length := (List.getElem?_eq_some_iff.mp hi).1
      rw [List.length_map] at hil
      obtain ⟨page, rfl⟩ := int_at hi
      have hpg : ns[i]? = some page := by
        rw [List.getElem?_map] at hi
        cases e : ns[i]? with
        | none => rw [e] at hi; cases hi
        | some z => rw [e] at hi; cases hi; rfl
      have tl := t3.len
      rw [runT_len, List.length_take] at tl
      have hel := endT_len (room := room) (ren := ren) (ns.take i) [] 0
      rw [List.length_take, List.length_nil] at hel
      rw [take_snoc hpg, endT_snoc, runT_snoc]
      generalize endT room ren [] 0 (ns.take i) = Z at *
      obtain ⟨⟨dx3, x3⟩, ln3, _, _⟩ := id R3
      walk_at "go"
      refine ⟨.inl ⟨rfl, _, SqL.of l3⟩, ?_⟩
      walk_at "go"
      refine ⟨x, dx3, _, rfl, x3, lf_ask, ?_⟩
      walk_at "go"
      refine ⟨x, ln, room, page, ((0 + (ns.take i).length : Nat) : Int), ren, Z, rfl, R3, hr1, by omega, fun t H4 nt t4 R4 K4 => ?_⟩
      have l4 : H4 l = some (.lst (ts.map V.ref)) := K4 _ _ l3 (by simp [nlx.symm, nll.symm])
      walk_at "go"
      refine ⟨l, _, _, rfl, rfl, l4, small1000 (by rw [List.length_map]; omega), ?_⟩
      have ntl : t ≠ l := (ne_of_none l3 nt).symm
      refine ⟨ts ++ [t], _, rfl, fun b o e => ?_, R4.put nlx nll, by rw [upd_same]; simp, ?_⟩
      · rw [upd_ne (ne_of_none e hl0)]
        exact K4 _ _ (s3 _ _ e) (by simp [ne_of_none e nx, ne_of_none e nln])
      · refine StepsAt.snoc (t3.imp fun b xs e => ?_) (by rw [upd_ne ntl]; exact t4)
        have n1 : b ≠ l := ne_of e l3 (by intro z; cases z)
        have n2 : b ≠ x := ne_of e x3 (by intro z; cases z)
        have n3 : b ≠ ln := ne_of e ln3 (by intro z; cases z)
        rw [upd_ne n1]
        exact K4 _ _ e (by simp [n2, n3])
    · rintro σ H3 ⟨ts, v, rfl, s3, R3, l3, t3⟩
      rw [List.length_map, List.take_length] at t3
      walk_at "go"
      exact k l ts H3 hl0 l3 t3 s3
end
end
section
open PySem L2
section
variable {P : Program} {w : World} {K : PySem.W.Frag} {mg : Str → Option Value} {base : Heap} {a : Adr}
theorem ok_empty_roomC (T : Txt K mg a) : FnOk P w K mg base CX0 5 a.a_empty_room a.d_empty_room ["trace", "room", "rule"] (spEmptyC a.C_Ring) := by
  refine T.f_empty_room.ok S_empty_room (fun vs H Q E h => ?_) (fun cdv A outer s H vs Q E hr h => ?_)
  · obtain ⟨tr, room, rfl, _⟩ := h
    rfl
  · obtain ⟨tr, room, rfl, h1, k⟩ := h
    refine ⟨_, (@pss_cons _ _ _ _ _ (@ps_if _ _ _ _ _ _ _ _ (@pt_cmpR _ _ _ _ _ _ _ _ op_eq (@pv _ 2 _ _ (by rfl) (by first | exact Or.inl rfl | exact Or.inr (Or.inl rfl) | exact Or.inr (Or.inr rfl)) (by decide) (by decide)) (@pe_str _ _ _ _) (nomark _)) (@pss_one _ _ _ (@ps_never _ _)) (@pss_nil _)) (@pss_cons _ _ _ _ _ (@ps_if _ _ _ _ _ _ _ _ (@pt_cmpR _ _ _ _ _ _ _ _ op_eq (@pv _ 2 _ _ (by rfl) (by first | exact Or.inl rfl | exact Or.inr (Or.inl rfl) | exact Or.inr (Or.inr rfl)) (by decide) (by decide)) (@pe_str _ _ _ _) (nomark _)) (@pss_one _ _ _ (@ps_never _ _)) (@pss_nil _)) (@pss_cons _ _ _ _ _ (@ps_if _ _ _ _ _ _ _ _ (@pt_cmpR _ _ _ _ _ _ _ _ op_eq (@pv _ 2 _ _ (by rfl) (by first | exact Or.inl rfl | exact Or.inr (Or.inl rfl) | exact Or.inr (Or.inr rfl)) (by decide) (by decide)) (@pe_str _ _ _ _) (nomark _)) (@pss_one _ _ _ (@ps_ret _ _ _ _ (@pe_make _ _ _ _ _ _ _ _ _ _ _ _ _ _ _ _ _ T.mk_Ring (ok_Ring_init T) (hr.mono (by first | decide | omega)) (by rfl) T.g_Ring (b_Ring___init__ T) .nil pass0 (@pa_cons _ _ _ _ _ (@pv _ 1 _ _ (by rfl) (by first | exact Or.inl rfl | exact Or.inr (Or.inl rfl) | exact Or.inr (Or.inr rfl)) (by decide) (by decide)) (@pa_nil _) (by rfl)) (by decide) (by rfl) (by rfl)))) (@pss_nil _)) (@pss_one _ _ _ (@ps_never _ _))))), ?_⟩
    walk_at "go"
    refine rd_eq rfl ?_
    walk_at "go"
    refine iteD (fun z => absurd z (by decide +kernel)) (fun _ => ?_)
    walk_at "go"
    refine rd_eq rfl ?_
    walk_at "go"
    refine iteD (fun z => absurd z (by decide +kernel)) (fun _ => ?_)
    walk_at "go"
    refine rd_eq rfl ?_
    walk_at "go"
    refine iteD (fun _ => ?_) (fun z => absurd rfl z)
    walk_at "go"
    intro x dx nx ndx nex
    refine ⟨x, dx, room, rfl, upd_same, h1, fun rg mk st H1 f1 f2 f3 R1 K1 => ⟨rfl, ?_⟩⟩
    have s0 : Same H (upd (upd H dx (.own x)) x (.ins a.C_Ring dx [])) := fun b o e => by
      rw [upd_ne (ne_of_none e nx), upd_ne (ne_of_none e ndx)]
      exact e
    exact k x rg mk st H1 nx (s0.free f1) (s0.free f2) (s0.free f3) R1 (fun b o e => K1 b o (s0 b o e) (by simpa using ne_of_none e nx))
theorem ok_walkC (T : Txt K mg a) : FnOk P w K mg base CX0 6 a.a_walk a.d_walk ["trace", "room", "rule"] spWalkC := by
  refine T.f_walk.ok S_walk (fun vs H Q E h => ?_) (fun cdv A outer s H vs Q E hr h => ?_)
  · obtain ⟨tr, room, ns, rfl, _⟩ := h
    rfl
  · obtain ⟨tr, room, ns, rfl, htr, hr1, hns, k⟩ := h
    refine ⟨_, (@pss_cons _ _ _ _ _ (@ps_if _ _ _ _ _ _ _ _ (@pt_cmpR _ _ _ _ _ _ _ _ op_notIn_seq (@pv _ 2 _ _ (by rfl) (by first | exact Or.inl rfl | exact Or.inr (Or.inl rfl) | exact Or.inr (Or.inr rfl)) (by decide) (by decide)) (@pe_glob _ _ (.ref a.K_RULES) _ _ (by rfl) T.g_RULES rfl (by decide)) (by rfl)) (@pss_one _ _ _ (@ps_never _ _)) (@pss_nil _)) (@pss_cons _ _ _ _ _ (@ps_expr _ _ _ _ (@pe_call _ _ _ _ _ _ _ _ _ _ _ _ _ _ _ _ (ok_check_room T) (hr.mono (by first | decide | omega)) (by rfl) T.g_check_room T.f_check_room.kp (b_check_room T) .nil pass0 (@pa_cons _ _ _ _ _ (@pv _ 1 _ _ (by rfl) (by first | exact Or.inl rfl | exact Or.inr (Or.inl rfl) | exact Or.inr (Or.inr rfl)) (by decide) (by decide)) (@pa_nil _) (by rfl)) (by decide) (by rfl) (by rfl)) (by rfl)) (@pss_cons _ _ _ _ _ (@ps_asg _ _ _ _ _ _ (@pe_call _ _ _ _ _ _ _ _ _ _ _ _ _ _ _ _ (ok_empty_roomC T) (hr.mono (by first | decide | omega)) (by rfl) T.g_empty_room T.f_empty_room.kp (b_empty_room T) .nil pass0 (@pa_cons _ _ _ _ _ (@pv _ 0 _ _ (by rfl) (by first | exact Or.inl rfl | exact Or.inr (Or.inl rfl) | exact Or.inr (Or.inr rfl)) (by decide) (by decide)) (@pa_cons _ _ _ _ _ (@pv _ 1 _ _ (by rfl) (by first | exact Or.inl rfl | exact Or.inr (Or.inl rfl) | exact Or.inr (Or.inr rfl)) (by decide) (by decide)) (@pa_cons _ _ _ _ _ (@pv _ 2 _ _ (by rfl) (by first | exact Or.inl rfl | exact Or.inr (Or.inl rfl) | exact Or.inr (Or.inr rfl)) (by decide) (by decide)) (@pa_nil _) (by rfl)) (by rfl)) (by rfl)) (by decide) (by rfl) (by rfl)) (@pg_name _ _ (3) _ S_walk.nd rfl (by first | exact Or.inl rfl | exact Or.inr rfl) (by first | exact .inl rfl | exact .inr rfl | assumption)) (by rfl) (by rfl) (by rfl)) (@pss_cons _ _ _ _ _ (@ps_asg _ _ _ _ _ _ (@pe_lst _ _ _ _ (@pa_nil _)) (@pg_name _ _ (4) _ S_walk.nd rfl (by first | exact Or.inl rfl | exact Or.inr rfl) (by first | exact .inl rfl | exact .inr rfl | assumption)) (by rfl) (by rfl) (by rfl)) (@pss_cons _ _ _ _ _ (@ps_for _ _ _ _ _ _ _ _ PassesOwn.never rfl (@pi_list _ _ _ _ (@pv _ 0 _ _ (by rfl) (by first | exact Or.inl rfl | exact Or.inr (Or.inl rfl) | exact Or.inr (Or.inr rfl)) (by decide) (by decide))) (@pg_name _ _ (5) _ S_walk.nd rfl (by first | exact Or.inl rfl | exact Or.inr rfl) (by first | exact .inl rfl | exact .inr rfl | assumption)) (@pss_one _ _ _ (@ps_expr _ _ _ _ (@pe_bm _ _ _ _ _ _ _ _ _ _ _ _ PySem.F.plainAttrs_list PySem.F.slot_list_append PySem.F.type_list_append mt_append (@pv _ 4 _ _ (by rfl) (by first | exact Or.inl rfl | exact Or.inr (Or.inl rfl) | exact Or.inr (Or.inr rfl)) (by decide) (by decide)) (@pa_cons _ _ _ _ _ (@pe_meth _ _ _ _ _ _ _ _ _ _ _ _ _ _ _ _ _ _ _ _ (@pv _ 3 _ _ (by rfl) (by first | exact Or.inl rfl | exact Or.inr (Or.inl rfl) | exact Or.inr (Or.inr rfl)) (by decide) (by decide)) T.c_Ring T.m_Ring_ask (ok_Ring_ask T) (hr.mono (by first | decide | omega)) (b_Ring_ask T) .nil pass0 (@pa_cons _ _ _ _ _ (@pv _ 5 _ _ (by rfl) (by first | exact Or.inl rfl | exact Or.inr (Or.inl rfl) | exact Or.inr (Or.inr rfl)) (by decide) (by decide)) (@pa_nil _) (by rfl)) (by rfl) (by rfl) (by rfl)) (@pa_nil _) (by rfl)) (by rfl) (by rfl) (by rfl) (by rfl) (by rfl)) (by rfl))) (by intro _; rfl)) (@pss_one _ _ _ (@ps_ret _ _ _ _ (@pv _ 4 _ _ (by rfl) (by first | exact Or.inl rfl | exact Or.inr (Or.inl rfl) | exact Or.inr (Or.inr rfl)) (by decide) (by decide))))))))), ?_⟩
    walk_at "go"
    refine ⟨a.K_RULES, _, rfl, .inr (T.t_RULES H), rfl, by decide +kernel, ?_⟩
    walk_at "go"
    rw [show (if true = true then !inV (V.str "clock") [V.str "first", V.str "last", V.str "clock", V.str "far"] else inV (V.str "clock") [V.str "first", V.str "last", V.str "clock", V.str "far"]) = false by decide +kernel]
    walk_at "go"
    refine ⟨room, rfl, hr1, ?_⟩
    walk_at "go"
    refine ⟨_, room, rfl, hr1, fun x rg mk st H1 nx nrg nmk nst R1 s1 => ?_⟩
    walk_at "go"
    refine ⟨by decide, fun l hl => ?_⟩
    have htr1 := s1 _ _ htr
    obtain ⟨⟨dx1, x1⟩, rg1, mk1, ⟨kv1, st1, _⟩, _⟩ := id R1
    have nlx := ne_of_none x1 hl
    have nlr := ne_of_none rg1 hl
    have nlm := ne_of_none mk1 hl
    have nls := ne_of_none st1 hl
    have nlt := ne_of_none htr1 hl
    have hl0 := s1.free hl
    have s2 : Same H (upd H1 l (.lst [])) := s1.trans (same_new hl)
    have R2 : RingAt a.C_Ring (upd H1 l (.lst [])) x rg mk st room [] 0 := R1.keep (same_new hl)
    have l2 : upd H1 l (.lst []) l = some (.lst []) := upd_same
    generalize upd H1 l (.lst []) = H2 at *
    walk_at "go"
    refine ⟨tr, rfl, ⟨_, SqL.of (s2 _ _ htr)⟩, for_list (K := K) (a := tr) (xs := ns.map V.int) (fun i σ H3 => ∃ (zs : Zs) (hand : Nat) (ts : List Addr) (v : Option V), σ = [some (.ref tr), some (.int room), some (.str "clock"), some (.ref x), some (.ref l), v] ∧ Same H H3 ∧ RingAt a.C_Ring H3 x rg mk st room zs hand ∧ zs.length ≤ i ∧
        rotQ zs hand = endQ room [] (ns.take i) ∧ H3 l = some (.lst (ts.map V.ref)) ∧ StepsAt H3 ts (runQ room [] (ns.take i)))
      ⟨[], 0, [], none, rfl, s2, R2, Nat.le_refl _, rfl, l2, .nil⟩ (fun i σ H3 _ ⟨_, _, _, _, _, s3, _⟩ => SqL.of (s3 _ _ htr)) ?_ ?_⟩
    · rintro i y σ H3 hi ⟨zs, hand, ts, v, rfl, s3, R3, hz, hq, l3, t3⟩
      have hil : i < (ns.map V.int).length := (List.getElem?_eq_some_iff.mp hi).1
      rw [List.length_map] at hil
      obtain ⟨page, rfl⟩ := int_at hi
      have hpg : ns[i]? = some page := by
        rw [List.getElem?_map] at hi
        cases e : ns[i]? with
        | none => rw [e] at hi; cases hi
        | some z => rw [e] at hi; cases hi; rfl
      obtain ⟨⟨dx3, x3⟩, rg3, mk3, ⟨kv3, st3, _⟩, _⟩ := id R3
      walk_at "go"
      refine ⟨.inl ⟨rfl, _, SqL.of l3⟩, ?_⟩
      walk_at "go"
      refine ⟨x, dx3, _, rfl, x3, rf_ask, ?_⟩
      walk_at "go"
      refine ⟨x, rg, mk, st, room, page, zs, hand, rfl, R3, by omega, fun t zs' hand' H4 nt t4 hq4 hz4 R4 K4 => ?_⟩
      have l4 : H4 l = some (.lst (ts.map V.ref)) := K4 _ _ l3 (by simp [nlx.symm, nlr.symm, nlm.symm, nls.symm])
      have tl := t3.len
      rw [runQ_len, List.length_take] at tl
      walk_at "go"
      refine ⟨l, _, _, rfl, rfl, l4, small1000 (by rw [List.length_map]; omega), ?_⟩
      have ntl : t ≠ l := (ne_of_none l3 nt).symm
      refine ⟨zs', hand', ts ++ [t], _, rfl, fun b o e => ?_, R4.put nlx nlr nlm nls, by omega, ?_, by rw [upd_same]; simp, ?_⟩
      · rw [upd_ne (ne_of_none e hl0)]
        exact K4 _ _ (s3 _ _ e) (by simp [ne_of_none e nx, ne_of_none e nrg, ne_of_none e nmk, ne_of_none e nst])
      · rw [hq4, take_snoc hpg, endQ_snoc, hq]
      · rw [take_snoc hpg, runQ_snoc, ← hq]
        refine StepsAt.snoc (t3.imp fun b xs e => ?_) (by rw [upd_ne ntl]; exact t4)
        have n1 : b ≠ l := ne_of e l3 (by intro z; cases z)
        have n2 : b ≠ x := ne_of e x3 (by intro z; cases z)
        have n3 : b ≠ rg := ne_of e rg3 (by intro z; cases z)
        have n4 : b ≠ mk := ne_of e mk3 (by intro z; cases z)
        have n5 : b ≠ st := ne_of e st3 (by intro z; cases z)
        rw [upd_ne n1]
        exact K4 _ _ e (by simp [n2, n3, n4, n5])
    · rintro σ H3 ⟨zs, hand, ts, v, rfl, s3, R3, hz, hq, l3, t3⟩
      rw [List.length_map, List.take_length] at t3
      walk_at "go"
      exact k l ts H3 hl0 l3 t3 s3
end
end
section
open PySem L2
section
variable {P : Program} {w : World} {K : PySem.W.Frag} {mg : Str → Option Value} {base : Heap} {a : Adr}
theorem ok_empty_roomA (T : Txt K mg a) : FnOk P w K mg base CX0 5 a.a_empty_room a.d_empty_room ["trace", "room", "rule"] (spEmptyA a.C_Ahead) := by
  refine T.f_empty_room.ok S_empty_room (fun vs H Q E h => ?_) (fun cdv A outer s H vs Q E hr h => ?_)
  · obtain ⟨tr, room, ns, rfl, _⟩ := h
    rfl
  · obtain ⟨tr, room, ns, rfl, htr, hns, k⟩ := h
    refine ⟨_, (@pss_cons _ _ _ _ _ (@ps_if _ _ _ _ _ _ _ _ (@pt_cmpR _ _ _ _ _ _ _ _ op_eq (@pv _ 2 _ _ (by rfl) (by first | exact Or.inl rfl | exact Or.inr (Or.inl rfl) | exact Or.inr (Or.inr rfl)) (by decide) (by decide)) (@pe_str _ _ _ _) (nomark _)) (@pss_one _ _ _ (@ps_never _ _)) (@pss_nil _)) (@pss_cons _ _ _ _ _ (@ps_if _ _ _ _ _ _ _ _ (@pt_cmpR _ _ _ _ _ _ _ _ op_eq (@pv _ 2 _ _ (by rfl) (by first | exact Or.inl rfl | exact Or.inr (Or.inl rfl) | exact Or.inr (Or.inr rfl)) (by decide) (by decide)) (@pe_str _ _ _ _) (nomark _)) (@pss_one _ _ _ (@ps_never _ _)) (@pss_nil _)) (@pss_cons _ _ _ _ _ (@ps_if _ _ _ _ _ _ _ _ (@pt_cmpR _ _ _ _ _ _ _ _ op_eq (@pv _ 2 _ _ (by rfl) (by first | exact Or.inl rfl | exact Or.inr (Or.inl rfl) | exact Or.inr (Or.inr rfl)) (by decide) (by decide)) (@pe_str _ _ _ _) (nomark _)) (@pss_one _ _ _ (@ps_never _ _)) (@pss_nil _)) (@pss_one _ _ _ (@ps_ret _ _ _ _ (@pe_make _ _ _ _ _ _ _ _ _ _ _ _ _ _ _ _ _ T.mk_Ahead (ok_Ahead_init T) (hr.mono (by first | decide | omega)) (by rfl) T.g_Ahead (b_Ahead___init__ T) .nil pass0 (@pa_cons _ _ _ _ _ (@pv _ 1 _ _ (by rfl) (by first | exact Or.inl rfl | exact Or.inr (Or.inl rfl) | exact Or.inr (Or.inr rfl)) (by decide) (by decide)) (@pa_cons _ _ _ _ _ (@pv _ 0 _ _ (by rfl) (by first | exact Or.inl rfl | exact Or.inr (Or.inl rfl) | exact Or.inr (Or.inr rfl)) (by decide) (by decide)) (@pa_nil _) (by rfl)) (by rfl)) (by decide) (by rfl) (by rfl))))))), ?_⟩
    walk_at "go"
    refine rd_eq rfl ?_
    walk_at "go"
    refine iteD (fun z => absurd z (by decide +kernel)) (fun _ => ?_)
    walk_at "go"
    refine rd_eq rfl ?_
    walk_at "go"
    refine iteD (fun z => absurd z (by decide +kernel)) (fun _ => ?_)
    walk_at "go"
    refine rd_eq rfl ?_
    walk_at "go"
    refine iteD (fun z => absurd z (by decide +kernel)) (fun _ => ?_)
    walk_at "go"
    intro x dx nx ndx nex
    have s0 : Same H (upd (upd H dx (.own x)) x (.ins a.C_Ahead dx [])) := fun b o e => by
      rw [upd_ne (ne_of_none e nx), upd_ne (ne_of_none e ndx)]
      exact e
    refine ⟨x, dx, tr, room, ns, rfl, upd_same, s0 _ _ htr, hns, fun nl dd H1 f1 f2 R1 K1 => ⟨rfl, ?_⟩⟩
    exact k x nl dd H1 nx (s0.free f1) (s0.free f2) R1 (fun b o e => K1 b o (s0 b o e) (by simpa using ne_of_none e nx))
theorem far_in : (if true = true then !inV (V.str "far") [V.str "first", V.str "last", V.str "clock", V.str "far"] else inV (V.str "far") [V.str "first", V.str "last", V.str "clock", V.str "far"]) = false := by
  decide +kernel
theorem ok_walkA (T : Txt K mg a) (hbm : BMain mg base) : FnOk P w K mg base CX0 6 a.a_walk a.d_walk ["trace", "room", "rule"] (spWalkF a.p_Ahead_farthest farPos farQual) := by
  refine T.f_walk.ok S_walk (fun vs H Q E h => ?_) (fun cdv A outer s H vs Q E hr h => ?_)
  · obtain ⟨tr, room, ns, rfl, _⟩ := h
    rfl
  · obtain ⟨tr, room, ns, rfl, htr, hr1, hns, ht, k⟩ := h
    refine ⟨_, (@pss_cons _ _ _ _ _ (@ps_if _ _ _ _ _ _ _ _ (@pt_cmpR _ _ _ _ _ _ _ _ op_notIn_seq (@pv _ 2 _ _ (by rfl) (by first | exact Or.inl rfl | exact Or.inr (Or.inl rfl) | exact Or.inr (Or.inr rfl)) (by decide) (by decide)) (@pe_glob _ _ (.ref a.K_RULES) _ _ (by rfl) T.g_RULES rfl (by decide)) (by rfl)) (@pss_one _ _ _ (@ps_never _ _)) (@pss_nil _)) (@pss_cons _ _ _ _ _ (@ps_expr _ _ _ _ (@pe_call _ _ _ _ _ _ _ _ _ _ _ _ _ _ _ _ (ok_check_room T) (hr.mono (by first | decide | omega)) (by rfl) T.g_check_room T.f_check_room.kp (b_check_room T) .nil pass0 (@pa_cons _ _ _ _ _ (@pv _ 1 _ _ (by rfl) (by first | exact Or.inl rfl | exact Or.inr (Or.inl rfl) | exact Or.inr (Or.inr rfl)) (by decide) (by decide)) (@pa_nil _) (by rfl)) (by decide) (by rfl) (by rfl)) (by rfl)) (@pss_cons _ _ _ _ _ (@ps_asg _ _ _ _ _ _ (@pe_call _ _ _ _ _ _ _ _ _ _ _ _ _ _ _ _ (ok_empty_roomA T) (hr.mono (by first | decide | omega)) (by rfl) T.g_empty_room T.f_empty_room.kp (b_empty_room T) .nil pass0 (@pa_cons _ _ _ _ _ (@pv _ 0 _ _ (by rfl) (by first | exact Or.inl rfl | exact Or.inr (Or.inl rfl) | exact Or.inr (Or.inr rfl)) (by decide) (by decide)) (@pa_cons _ _ _ _ _ (@pv _ 1 _ _ (by rfl) (by first | exact Or.inl rfl | exact Or.inr (Or.inl rfl) | exact Or.inr (Or.inr rfl)) (by decide) (by decide)) (@pa_cons _ _ _ _ _ (@pv _ 2 _ _ (by rfl) (by first | exact Or.inl rfl | exact Or.inr (Or.inl rfl) | exact Or.inr (Or.inr rfl)) (by decide) (by decide)) (@pa_nil _) (by rfl)) (by rfl)) (by rfl)) (by decide) (by rfl) (by rfl)) (@pg_name _ _ (3) _ S_walk.nd rfl (by first | exact Or.inl rfl | exact Or.inr rfl) (by first | exact .inl rfl | exact .inr rfl | assumption)) (by rfl) (by rfl) (by rfl)) (@pss_cons _ _ _ _ _ (@ps_asg _ _ _ _ _ _ (@pe_lst _ _ _ _ (@pa_nil _)) (@pg_name _ _ (4) _ S_walk.nd rfl (by first | exact Or.inl rfl | exact Or.inr rfl) (by first | exact .inl rfl | exact .inr rfl | assumption)) (by rfl) (by rfl) (by rfl)) (@pss_cons _ _ _ _ _ (@ps_for _ _ _ _ _ _ _ _ PassesOwn.never rfl (@pi_list _ _ _ _ (@pv _ 0 _ _ (by rfl) (by first | exact Or.inl rfl | exact Or.inr (Or.inl rfl) | exact Or.inr (Or.inr rfl)) (by decide) (by decide))) (@pg_name _ _ (5) _ S_walk.nd rfl (by first | exact Or.inl rfl | exact Or.inr rfl) (by first | exact .inl rfl | exact .inr rfl | assumption)) (@pss_one _ _ _ (@ps_expr _ _ _ _ (@pe_bm _ _ _ _ _ _ _ _ _ _ _ _ PySem.F.plainAttrs_list PySem.F.slot_list_append PySem.F.type_list_append mt_append (@pv _ 4 _ _ (by rfl) (by first | exact Or.inl rfl | exact Or.inr (Or.inl rfl) | exact Or.inr (Or.inr rfl)) (by decide) (by decide)) (@pa_cons _ _ _ _ _ (@pe_meth _ _ _ _ _ _ _ _ _ _ _ _ _ _ _ _ _ _ _ _ (@pv _ 3 _ _ (by rfl) (by first | exact Or.inl rfl | exact Or.inr (Or.inl rfl) | exact Or.inr (Or.inr rfl)) (by decide) (by decide)) T.c_Ahead T.m_Ahead_ask (ok_Ahead_ask T hbm) (hr.mono (by first | decide | omega)) (b_Ahead_ask T) .nil pass0 (@pa_cons _ _ _ _ _ (@pv _ 5 _ _ (by rfl) (by first | exact Or.inl rfl | exact Or.inr (Or.inl rfl) | exact Or.inr (Or.inr rfl)) (by decide) (by decide)) (@pa_nil _) (by rfl)) (by rfl) (by rfl) (by rfl)) (@pa_nil _) (by rfl)) (by rfl) (by rfl) (by rfl) (by rfl) (by rfl)) (by rfl))) (by intro _; rfl)) (@pss_one _ _ _ (@ps_ret _ _ _ _ (@pv _ 4 _ _ (by rfl) (by first | exact Or.inl rfl | exact Or.inr (Or.inl rfl) | exact Or.inr (Or.inr rfl)) (by decide) (by decide))))))))), ?_⟩
    walk_at "go"
    refine ⟨a.K_RULES, _, rfl, .inr (T.t_RULES H), rfl, by decide +kernel, ?_⟩
    walk_at "go"
    rw [far_in]
    walk_at "go"
    refine ⟨room, rfl, hr1, ?_⟩
    walk_at "go"
    refine ⟨tr, room, ns, rfl, htr, hns, fun x nl dd H1 nx nnl ndd R1 s1 => ?_⟩
    walk_at "go"
    refine ⟨by decide, fun l hl => ?_⟩
    obtain ⟨⟨dx1, x1⟩, nl1, dd1, _, _⟩ := id R1
    have ht1 := ht.keep s1
    have nlx := ne_of_none x1 hl
    have nln := ne_of_none nl1 hl
    have nld := ne_of_none dd1 hl
    obtain ⟨oP, hoP⟩ := ht1.there
    have nlP := ne_of_none hoP hl
    have hl0 := s1.free hl
    have s2 : Same H (upd H1 l (.lst [])) := s1.trans (same_new hl)
    have R2 : AheadAt a.C_Ahead (upd H1 l (.lst [])) x nl dd room ns 0 [] := R1.keep (same_new hl)
    have ht2 := ht.keep s2
    have l2 : upd H1 l (.lst []) l = some (.lst []) := upd_same
    obtain ⟨oP0, hoP0⟩ := ht.there
    have nxP := ne_of_none hoP0 nx
    have nnP := ne_of_none hoP0 nnl
    have ndP := ne_of_none hoP0 ndd
    have ntP : tr ≠ a.p_Ahead_farthest := ht.off (by rw [htr]; rfl)
    generalize upd H1 l (.lst []) = H2 at *
    walk_at "go"
    have trK : ∀ H3, Kp [a.p_Ahead_farthest] H H3 → H3 tr = some (.lst (ns.map V.int)) := fun H3 k3 => k3 _ _ htr (by simpa using ntP)
    refine ⟨tr, rfl, ⟨_, SqL.of (s2 _ _ htr)⟩, for_list (K := K) (a := tr) (xs := ns.map V.int) (fun i σ H3 => ∃ (ts : List Addr) (v : Option V), σ = [some (.ref tr), some (.int room), some (.str "far"), some (.ref x), some (.ref l), v] ∧ Kp [a.p_Ahead_farthest] H H3 ∧ AheadAt a.C_Ahead H3 x nl dd room ns i (endF ns room i) ∧
        H3 l = some (.lst (ts.map V.ref)) ∧ StepsAt H3 ts (runF ns room i) ∧ LamTab a.p_Ahead_farthest farPos farQual H3)
      ⟨[], none, rfl, Kp.of_same s2, R2, l2, .nil, ht2⟩ (fun i σ H3 _ ⟨_, _, _, s3, _⟩ => SqL.of (trK _ s3)) ?_ ?_⟩
    · rintro i y σ H3 hi ⟨ts, v, rfl, s3, R3, l3, t3, ht3⟩
      have hil : i < (ns.map V.int).length := (List.getElem?_eq_some_iff.mp hi).1
      rw [List.length_map] at hil
      obtain ⟨page, rfl⟩ := int_at hi
      have hpg : ns[i]? = some page := by
        rw [List.getElem?_map] at hi
        cases e : ns[i]? with
        | none => rw [e] at hi; cases hi
        | some z => rw [e] at hi; cases hi; rfl
      have tl := t3.len
      rw [runF_len _ _ _ (by omega)] at tl
      have hel := endF_len ns room i
      rw [endF_step hpg, runF_step hpg]
      generalize endF ns room i = Z at *
      obtain ⟨⟨dx3, x3⟩, nl3, dd3, _, _⟩ := id R3
      walk_at "go"
      refine ⟨.inl ⟨rfl, _, SqL.of l3⟩, ?_⟩
      walk_at "go"
      refine ⟨x, dx3, _, rfl, x3, af_ask, ?_⟩
      walk_at "go"
      refine ⟨x, nl, dd, room, page, ns, i, Z, rfl, R3, hpg, hr1, by omega, by omega, ht3, fun t H4 nt t4 R4 K4 ht4 => ?_⟩
      have l4 : H4 l = some (.lst (ts.map V.ref)) := K4 _ _ l3 (by simp [nlx.symm, nld.symm, nlP.symm])
      walk_at "go"
      refine ⟨l, _, _, rfl, rfl, l4, small1000 (by rw [List.length_map]; omega), ?_⟩
      have ntl : t ≠ l := (ne_of_none l3 nt).symm
      refine ⟨ts ++ [t], _, rfl, fun b o e hb => ?_, R4.put nlx nln nld, by rw [upd_same]; simp, ?_, ht4.put (by rw [l4]; rfl)⟩
      · rw [upd_ne (ne_of_none e hl0)]
        have hbP : b ≠ a.p_Ahead_farthest := by simpa using hb
        exact K4 _ _ (s3 _ _ e hb) (by simp [ne_of_none e nx, ne_of_none e ndd, hbP])
      · refine StepsAt.snoc (t3.imp fun b xs e => ?_) (by rw [upd_ne ntl]; exact t4)
        have n1 : b ≠ l := ne_of e l3 (by intro z; cases z)
        have n2 : b ≠ x := ne_of e x3 (by intro z; cases z)
        have n3 : b ≠ dd := ne_of e dd3 (by intro z; cases z)
        have n4 : b ≠ a.p_Ahead_farthest := ht3.off (by rw [e]; rfl)
        rw [upd_ne n1]
        exact K4 _ _ e (by simp [n2, n3, n4])
    · rintro σ H3 ⟨ts, v, rfl, s3, R3, l3, t3, ht3⟩
      rw [List.length_map] at t3
      walk_at "go"
      exact k l ts H3 hl0 l3 t3 s3 ht3
end
end
section
open PySem L2
def spWalk4 (P : Addr) (pos : Pos) (q : Str) : Sp := fun vs H Q _ => ∃ (tr : Addr) (room : Int) (r : Rl) (ns : List Int), vs = [.ref tr, .int room, .str (ruleS r)] ∧ H tr = some (.lst (ns.map V.int)) ∧ 1 ≤ room ∧ ns.length ≤ 400 ∧ LamTab P pos q H ∧
  ∀ (l : Addr) (ts : List Addr) (H' : Hp), H l = none → H' l = some (.lst (ts.map V.ref)) → StepsAt H' ts (run4 r room ns) → Kp [P] H H' → LamTab P pos q H' → Q (.ref l) H'
def spFaults4 (P : Addr) (pos : Pos) (q : Str) : Sp := fun vs H Q _ => ∃ (tr : Addr) (room : Int) (r : Rl) (ns : List Int), vs = [.ref tr, .int room, .str (ruleS r)] ∧ H tr = some (.lst (ns.map V.int)) ∧ 1 ≤ room ∧ ns.length ≤ 400 ∧ LamTab P pos q H ∧
  ∀ H' : Hp, Kp [P] H H' → LamTab P pos q H' → Q (.int (fN (run4 r room ns))) H'
def g21 {α : Type} : List α → List α → List α
  | [x, y], [z] => [x, y, z]
  | _, _ => []
theorem g21_len {α : Type} {us ws : List α} (h : (g21 us ws).length = 3) : ∃ x y z, us = [x, y] ∧ ws = [z] := by
  unfold g21 at h
  split at h
  · exact ⟨_, _, _, rfl, rfl⟩
  · simp at h
section
variable {P : Program} {w : World} {K : PySem.W.Frag} {mg : Str → Option Value} {base : Heap} {a : Adr}
theorem kb_walk1 (T : Txt K mg a) : KBinds K a.d_walk ["trace", "room", "rule"] ["rule"] g21 g21 := by
  obtain ⟨oc, od, kV, doc, pm, an, cdv, ct, osl, e, lk, hcd⟩ := T.f_walk.ex
  refine ⟨fun s us ws _ hl => ?_, fun {vs us zs ws} r q => ?_⟩
  · obtain ⟨x, y, z, rfl, rfl⟩ := g21_len hl
    rw [e]
    exact .of_eq rfl
  · rcases r with _ | ⟨r1, _ | ⟨r2, _ | ⟨r3, r4⟩⟩⟩ <;> rcases q with _ | ⟨q1, _ | ⟨q2, q3⟩⟩ <;> first | exact .nil | exact .cons r1 (.cons r2 (.cons q1 .nil))
theorem ok_walk (T : Txt K mg a) (hbm : BMain mg base) : FnOk P w K mg base CX0 6 a.a_walk a.d_walk ["trace", "room", "rule"] (spWalk4 a.p_Ahead_farthest farPos farQual) := by
  refine ⟨fun vs H Q E h => ?_, fun A outer s H args us vs Q E hr e0 hb hv h => ?_⟩
  · obtain ⟨tr, room, r, ns, rfl, _⟩ := h
    rfl
  · obtain ⟨tr, room, r, ns, rfl, htr, hr1, hns, lt, k⟩ := h
    cases r with
    | L ren => exact (ok_walkL T).run A outer s H args us _ Q E hr e0 hb hv ⟨tr, room, ren, ns, rfl, htr, hr1, hns, fun l ts H' h1 h2 h3 h4 => k l ts H' h1 h2 h3 (Kp.of_same h4) (lt.keep h4)⟩
    | C => exact (ok_walkC T).run A outer s H args us _ Q E hr e0 hb hv ⟨tr, room, ns, rfl, htr, hr1, hns, fun l ts H' h1 h2 h3 h4 => k l ts H' h1 h2 h3 (Kp.of_same h4) (lt.keep h4)⟩
    | A => exact (ok_walkA T hbm).run A outer s H args us _ Q E hr e0 hb hv ⟨tr, room, ns, rfl, htr, hr1, hns, lt, fun l ts H' h1 h2 h3 h4 h5 => k l ts H' h1 h2 h3 h4 h5⟩
theorem ok_faults (T : Txt K mg a) (hbm : BMain mg base) : FnOk P w K mg base CX0 7 a.a_faults a.d_faults ["trace", "room", "rule"] (spFaults4 a.p_Ahead_farthest farPos farQual) := by
  refine T.f_faults.ok S_faults (fun vs H Q E h => ?_) (fun cdv A outer s H vs Q E hr h => ?_)
  · obtain ⟨tr, room, r, ns, rfl, _⟩ := h
    rfl
  · obtain ⟨tr, room, r, ns, rfl, htr, hr1, hns, lt, k⟩ := h
    refine ⟨_, (@pss_one _ _ _ (@ps_ret _ _ _ _ (@pe_callB _ _ _ _ _ _ _ _ _ call_len_seq (by rfl) T.n_len (by decide +kernel) (@pa_cons _ _ _ _ _ (@pe_lc _ _ _ _ _ _ ([("page", 3), ("word", 4), ("gone", 5)]) _ _ (gTup K 3 (gCons (gName 3) (gCons (gName 4) (gCons (gName 5) (gNil))))) _ _ (by rfl) S_faults.nd (@pi_list _ _ _ _ (@pe_callK _ _ _ _ _ _ _ _ _ _ _ _ _ _ _ _ _ _ _ (ok_walk T hbm) (hr.mono (by first | decide | omega)) (by rfl) T.g_walk T.f_walk.kp (kb_walk1 T) pass0 (@pa_cons _ _ _ _ _ (@pv _ 0 _ _ (by rfl) (by first | exact Or.inl rfl | exact Or.inr (Or.inl rfl) | exact Or.inr (Or.inr rfl)) (by decide) (by decide)) (@pa_cons _ _ _ _ _ (@pv _ 1 _ _ (by rfl) (by first | exact Or.inl rfl | exact Or.inr (Or.inl rfl) | exact Or.inr (Or.inr rfl)) (by decide) (by decide)) (@pa_nil _) (by rfl)) (by rfl)) (@pk_cons _ _ _ _ _ _ _ (@pv _ 2 _ _ (by rfl) (by first | exact Or.inl rfl | exact Or.inr (Or.inl rfl) | exact Or.inr (Or.inr rfl)) (by decide) (by decide)) (@pk_nil _)) (by rfl) (by rfl) (by decide) (by rfl) (by rfl))) (blkOk_by (own := [("page", 3), ("word", 4), ("gone", 5)]) (N := ["trace", "room", "rule", "page", "word", "gone"]) (sc := defScope s_faults) (by first | decide +kernel | kernel_rfl)) (fun _ _ _ _ _ => pg_tup rfl (pgs_cons (pg_name (i := 3) S_faults.nd rfl (by first | exact Or.inl rfl | exact Or.inr rfl)) (pgs_cons (pg_name (i := 4) S_faults.nd rfl (by first | exact Or.inl rfl | exact Or.inr rfl)) (pgs_cons (pg_name (i := 5) S_faults.nd rfl (by first | exact Or.inl rfl | exact Or.inr rfl)) pgs_nil)))) (fun _ _ _ _ _ => (pts_one (pt_cmpR op_eq (pv 4) pe_str (nomark _)))) (fun _ _ _ _ _ => (pv 4)) (by intro _; rfl)) (@pa_nil _) (by rfl)) (by decide) (by decide) (by rfl) (by rfl)))), ?_⟩
    walk_at "go"
    refine ⟨tr, room, r, ns, rfl, htr, hr1, hns, lt, fun l ts H1 hl l1 t1 k1 lt1 => ?_⟩
    have hlen := t1.len
    rw [len4 r hr1] at hlen
    refine ⟨l, rfl, ⟨_, SqL.of l1⟩, fun D hD => lc_list (K := K) (a := l) (xs := ts.map V.ref) (fun j H2 => Same H1 H2 ∧ H2 D = some (.lst ((((run4 r room ns).take j).filter fun s => !s.2.1).map fun s => V.str (wordF s.2.1))))
      ⟨same_new hD, upd_same⟩ (fun j H2 _ ⟨s2, _⟩ => SqL.of (s2 _ _ l1)) ?_ ?_⟩
    · rintro j y H2 hj ⟨s2, d2⟩
      obtain ⟨t, p, b, g, rfl, hs, ht⟩ := t1.at' hj
      have hjl : j < (run4 r room ns).length := (List.getElem?_eq_some_iff.mp hs).1
      rw [len4 r hr1] at hjl
      have hll : ((((run4 r room ns).take j).filter fun s => !s.2.1).map fun s => V.str (wordF s.2.1)).length ≤ 400 := by
        rw [List.length_map]
        refine Nat.le_trans (List.length_filter_le _ _) ?_
        rw [List.length_take]; omega
      refine rd_gtup (s2 _ _ ht) rfl ?_
      walk_at "go"
      refine ⟨rfl, ?_⟩
      walk_at "go"
      refine rd_eq rfl ?_
      rw [word_fault]
      walk_at "go"
      cases b with
      | true =>
        walk_at "go"
        exact ⟨s2, by rw [d2, take_snoc hs, flt_f (by rfl)]⟩
      | false =>
        walk_at "go"
        refine ⟨_, d2, small1000 (by omega), fun c ob e => ?_, ?_⟩
        · rw [upd_ne (ne_of_none e hD)]; exact s2 _ _ e
        · rw [upd_same, take_snoc hs, flt_t (by rfl), List.map_append]; rfl
    · rintro H2 ⟨s2, d2⟩
      rw [List.length_map, hlen, ← len4 r hr1 ns, List.take_length] at d2
      walk_at "go"
      refine ⟨D, _, rfl, .inl (SqL.of d2), ?_⟩
      rw [List.length_map]
      exact k H2 (k1.trans (Kp.of_same s2)) (lt1.keep s2)
end
end
end
section
local macro_rules | `(tactic| walk_at "rd") => `(tactic| first
  | with_reducible refine rd_var (by with_unfolding_all rfl) ?_
  | with_reducible refine rd_c ?_
  | with_reducible refine rd_next ?_
  | with_reducible refine rd_seq ?_
  | with_reducible refine rd_drop ?_
  | with_reducible refine rd_ret ?_
  | with_reducible refine rd_retN ?_
  | with_reducible refine rd_ifs ?_
  | with_reducible refine rd_asg ?_
  | with_reducible refine rd_gname ?_
  | with_reducible refine rd_gsub ?_
  | with_reducible refine rd_op ?_
  | with_reducible refine rd_un ?_
  | with_reducible refine rd_i0 ?_
  | with_reducible refine rd_test ?_
  | with_reducible refine rd_tb ?_
  | with_reducible refine rd_bl ?_
  | with_reducible refine rd_exc ?_
  | with_reducible refine rd_and ?_
  | with_reducible refine rd_or ?_
  | with_reducible refine rd_not ?_
  | with_reducible refine rd_andV ?_
  | with_reducible refine rd_orV ?_
  | with_reducible refine rd_if ?_
  | with_reducible refine rd_nil ?_
  | with_reducible refine rd_cons ?_
  | with_reducible refine rd_cb ?_
  | with_reducible refine rd_tup ?_
  | with_reducible refine rd_lst ?_
  | with_reducible refine rd_call ?_
  | with_reducible refine rd_callK ?_
  | with_reducible refine rd_make ?_
  | with_reducible refine rd_bm ?_
  | with_reducible refine rd_bm0 ?_
  | with_reducible refine rd_u ?_
  | with_reducible refine rd_for ?_
  | with_reducible refine rd_rng1 ?_
  | with_reducible refine rd_rng2 ?_
  | with_reducible refine rd_ilist ?_
  | with_reducible refine rd_ienum ?_
  | with_reducible refine rd_fld ?_
  | with_reducible refine rd_tlc ?_
  | with_reducible refine rd_sfld ?_
  | with_reducible refine rd_meth ?_
  | with_reducible refine rd_dget ?_
  | with_reducible refine rd_din ?_
  | with_reducible refine rd_dput ?_
  | with_reducible refine rd_ddel ?_
  | with_reducible refine rd_dnewK ?_
  | with_reducible refine rd_yes ?_
  | with_reducible refine rd_sl ?_
  | with_reducible refine rd_part ?_
  | with_reducible refine rd_pint ?_
  | with_reducible refine rd_gcons ?_
  | with_reducible refine rd_gnil ?_
  | with_reducible refine rd_cbk ?_
  | with_reducible refine rd_dnotin ?_
  | with_reducible refine rd_rng3 ?_
  | with_reducible refine rd_dget1 ?_
  | with_reducible refine rd_augS ?_
  | with_reducible refine rd_ienum1 ?_
  | with_reducible refine rd_irev ?_
  | with_reducible refine rd_tdc ?_
  | with_reducible refine rd_aug (by with_unfolding_all rfl) ?_
  | with_reducible refine rd_par ?_
  | with_reducible refine rd_par3 ?_
  | with_reducible refine rd_eqInt ?_
  | with_reducible refine rd_ip ?_
  | with_reducible refine rd_neInt ?_
  | with_reducible refine rd_izipB ?_
  | with_reducible refine rd_ikeys ?_
  | with_reducible refine rd_itup ?_
  | with_reducible refine rd_notV ?_
  | with_reducible refine rd_fldaug ?_
  | with_reducible refine rd_nopartB ?_
  | with_reducible refine rd_izip ?_
  | with_reducible refine rd_ints ?_
  | with_reducible refine rd_nopart ?_
  | with_reducible refine iteF ?_
  | with_reducible refine iteNT ?_
  | with_reducible refine iteNF ?_
  | with_reducible refine iteT ?_)
local macro_rules | `(tactic| walk_at "at") => `(tactic| first | exact .head | exact .tail (.head) | exact .tail (.tail (.head)) | exact .tail (.tail (.tail (.head))) | exact .tail (.tail (.tail (.tail (.head)))) | exact .tail (.tail (.tail (.tail (.tail (.head))))) | exact .tail (.tail (.tail (.tail (.tail (.tail (.head)))))) | exact .tail (.tail (.tail (.tail (.tail (.tail (.tail (.head))))))) | exact .tail (.tail (.tail (.tail (.tail (.tail (.tail (.tail (.head)))))))) | exact .tail (.tail (.tail (.tail (.tail (.tail (.tail (.tail (.tail (.head))))))))) | exact .tail (.tail (.tail (.tail (.tail (.tail (.tail (.tail (.tail (.tail (.head)))))))))) | exact .tail (.tail (.tail (.tail (.tail (.tail (.tail (.tail (.tail (.tail (.tail (.head))))))))))) | exact .tail (.tail (.tail (.tail (.tail (.tail (.tail (.tail (.tail (.tail (.tail (.tail (.head)))))))))))) | exact .tail (.tail (.tail (.tail (.tail (.tail (.tail (.tail (.tail (.tail (.tail (.tail (.tail (.head))))))))))))))
local macro_rules | `(tactic| walk_at "in") => `(tactic| first | exact .head _ | exact .tail _ (.head _) | exact .tail _ (.tail _ (.head _)) | exact .tail _ (.tail _ (.tail _ (.head _))) | exact .tail _ (.tail _ (.tail _ (.tail _ (.head _)))) | exact .tail _ (.tail _ (.tail _ (.tail _ (.tail _ (.head _))))) | exact .tail _ (.tail _ (.tail _ (.tail _ (.tail _ (.tail _ (.head _)))))) | exact .tail _ (.tail _ (.tail _ (.tail _ (.tail _ (.tail _ (.tail _ (.head _))))))) | exact .tail _ (.tail _ (.tail _ (.tail _ (.tail _ (.tail _ (.tail _ (.tail _ (.head _)))))))) | exact .tail _ (.tail _ (.tail _ (.tail _ (.tail _ (.tail _ (.tail _ (.tail _ (.tail _ (.head _))))))))) | exact .tail _ (.tail _ (.tail _ (.tail _ (.tail _ (.tail _ (.tail _ (.tail _ (.tail _ (.tail _ (.head _)))))))))) | exact .tail _ (.tail _ (.tail _ (.tail _ (.tail _ (.tail _ (.tail _ (.tail _ (.tail _ (.tail _ (.tail _ (.head _))))))))))) | exact .tail _ (.tail _ (.tail _ (.tail _ (.tail _ (.tail _ (.tail _ (.tail _ (.tail _ (.tail _ (.tail _ (.tail _ (.head _)))))))))))) | exact .tail _ (.tail _ (.tail _ (.tail _ (.tail _ (.tail _ (.tail _ (.tail _ (.tail _ (.tail _ (.tail _ (.tail _ (.tail _ (.head _))))))))))))) | exact .tail _ (.tail _ (.tail _ (.tail _ (.tail _ (.tail _ (.tail _ (.tail _ (.tail _ (.tail _ (.tail _ (.tail _ (.tail _ (.tail _ (.head _)))))))))))))) | exact .tail _ (.tail _ (.tail _ (.tail _ (.tail _ (.tail _ (.tail _ (.tail _ (.tail _ (.tail _ (.tail _ (.tail _ (.tail _ (.tail _ (.tail _ (.head _))))))))))))))))
local macro_rules | `(tactic| walk_at "pk") => `(tactic| first | exact .head | exact .tail .head | exact .tail (.tail .head) | exact .tail (.tail (.tail .head)) | exact .tail (.tail (.tail (.tail .head))) | exact .tail (.tail (.tail (.tail (.tail .head)))) | exact .tail (.tail (.tail (.tail (.tail (.tail .head))))) | exact .tail (.tail (.tail (.tail (.tail (.tail (.tail .head)))))) | exact .tail (.tail (.tail (.tail (.tail (.tail (.tail (.tail .head))))))) | exact .tail (.tail (.tail (.tail (.tail (.tail (.tail (.tail (.tail .head)))))))) | exact .tail (.tail (.tail (.tail (.tail (.tail (.tail (.tail (.tail (.tail .head))))))))))
local macro_rules | `(tactic| walk_at "re") => `(tactic| repeat (first | exact .all | exact .none | refine .step (by walk_at "pk") ?_))
local macro_rules | `(tactic| walk_at "cn") => `(tactic| (intro x; simp only [List.append_eq, List.map_append, List.map_cons, List.map_nil, List.cons_append, List.nil_append, cnt_app, cnt_cons, cnt_nil]; omega))
local macro_rules | `(tactic| walk_at "cell") => `(tactic| exact Tr.get (by assumption) (by walk_at "in"))
local macro_rules | `(tactic| walk_at "ix") => `(tactic| refine rd_ixl (SqL.of (by walk_at "cell")) (by rfl) ?_)
local macro_rules | `(tactic| walk_at "ty") => `(tactic| refine ⟨.inl ⟨rfl, _, SqL.of (by walk_at "cell")⟩, ?_⟩)
local macro_rules | `(tactic| walk_at "go") => `(tactic| repeat (first | walk_at "rd" | (dsimp only; walk_at "rd")))
section
open PySem L2
def isRule (r : Str) : Bool := [("first" : Str), "last", "clock", "far"].contains r
def BadR (a : Adr) (room : Int) (rule : Str) (C : Addr) (v : V) : Prop := (isRule rule = false ∧ C = a.C_NoRule ∧ v = .str rule) ∨ (isRule rule = true ∧ room < 1 ∧ C = a.C_NoRoom ∧ v = .int room)
theorem inRules (r : Str) : inV (V.str r) [V.str "first", V.str "last", V.str "clock", V.str "far"] = isRule r := by
  unfold isRule inV
  simp only [List.any_cons, List.any_nil, List.contains_cons, List.contains_nil, eqV]
  rw [Bool.eq_iff_iff]
  simp only [Bool.or_eq_true, beq_iff_eq, Bool.or_false]
  simp only [eq_comm]
theorem rule_of {r : Str} (h : isRule r = true) : ∃ rl, r = ruleS rl := by
  unfold isRule at h
  rw [List.contains_iff_mem] at h
  simp only [List.mem_cons, List.not_mem_nil, or_false] at h
  rcases h with rfl | rfl | rfl | rfl
  · exact ⟨.L false, rfl⟩
  · exact ⟨.L true, rfl⟩
  · exact ⟨.C, rfl⟩
  · exact ⟨.A, rfl⟩
def spBadRoom (a : Adr) : Sp := fun vs H Q E => ∃ m : Int, vs = [.int m] ∧ m < 1 ∧ ErrE H a.C_NoRoom (.int m) E
def spBadW (a : Adr) : Sp := fun vs H Q E => ∃ (t : Addr) (room : Int) (rule : Str) (C : Addr) (v : V), vs = [.ref t, .int room, .str rule] ∧ BadR a room rule C v ∧ ErrE H C v E
section
variable {P : Program} {w : World} {K : PySem.W.Frag} {mg : Str → Option Value} {base : Heap} {a : Adr}
theorem ok_NoRule_init (T : Txt K mg a) : FnOk P w K mg base CX0 1 a.a_NoRule___init__ a.d_NoRule___init__ ["self", "what"] (spNInit a.C_NoRule) := by
  refine T.f_NoRule___init__.ok S_NoRule___init__ (fun vs H Q E h => ?_) (fun cdv A outer s H vs Q E hr h => ?_)
  · obtain ⟨x, v, rfl, _⟩ := h
    rfl
  · obtain ⟨x, v, rfl, hx, k⟩ := h
    refine ⟨_, (pss_cons (ps_expr (pe_einit (P := a.C_PageError) (pe_glob (v := .ref a.C_PageError) rfl T.g_PageError rfl) T.eb (pa_cons (pv 0) (pa_cons pe_str pa_nil)))) (pss_one (ps_efld (pv 0) (pv 1) rfl))), ?_⟩
    walk_at "go"
    refine And.intro rfl ?_
    walk_at "go"
    refine ⟨x, _, a.C_NoRule, a.a_NoRule___init__, none, rfl, by decide, T.e_NoRule, hx, ?_⟩
    dsimp only
    unfold sEFld
    walk_at "go"
    exact ⟨x, a.C_NoRule, a.a_NoRule___init__, rfl, T.e_NoRule, T.na_NoRule_what, hx, fun dx h1 h2 => k dx h1 h2⟩
theorem ok_NoRoom_init (T : Txt K mg a) : FnOk P w K mg base CX0 1 a.a_NoRoom___init__ a.d_NoRoom___init__ ["self", "what"] (spNInit a.C_NoRoom) := by
  refine T.f_NoRoom___init__.ok S_NoRoom___init__ (fun vs H Q E h => ?_) (fun cdv A outer s H vs Q E hr h => ?_)
  · obtain ⟨x, v, rfl, _⟩ := h
    rfl
  · obtain ⟨x, v, rfl, hx, k⟩ := h
    refine ⟨_, (pss_cons (ps_expr (pe_einit (P := a.C_PageError) (pe_glob (v := .ref a.C_PageError) rfl T.g_PageError rfl) T.eb (pa_cons (pv 0) (pa_cons pe_str pa_nil)))) (pss_one (ps_efld (pv 0) (pv 1) rfl))), ?_⟩
    walk_at "go"
    refine And.intro rfl ?_
    walk_at "go"
    refine ⟨x, _, a.C_NoRoom, a.a_NoRoom___init__, none, rfl, by decide, T.e_NoRoom, hx, ?_⟩
    dsimp only
    unfold sEFld
    walk_at "go"
    exact ⟨x, a.C_NoRoom, a.a_NoRoom___init__, rfl, T.e_NoRoom, T.na_NoRoom_what, hx, fun dx h1 h2 => k dx h1 h2⟩
theorem ok_room_bad (T : Txt K mg a) : FnOk P w K mg base (CXE P w) 3 a.a_check_room a.d_check_room ["room"] (spBadRoom a) := by
  refine Fun.okE T.f_check_room S_check_room (fun vs H Q E h => ?_) (fun cdv A outer s H vs Q E hr h => ?_)
  · obtain ⟨m, rfl, _⟩ := h
    rfl
  · obtain ⟨m, rfl, hm, ke⟩ := h
    refine ⟨_, (@pss_one _ _ _ (@ps_if _ _ _ _ _ _ _ _ (@pt_cmpR _ _ _ _ _ _ _ _ op_lt (@pv _ 0 _ _ (by rfl) (by first | exact Or.inl rfl | exact Or.inr (Or.inl rfl) | exact Or.inr (Or.inr rfl)) (by decide) (by decide)) (@pe_int _ _ _ _) (nomark _)) (@pss_one _ _ _ (@ps_raise _ _ _ _ _ raisesE rfl (@pe_emake _ _ _ _ _ _ _ _ _ _ _ _ _ _ _ _ _ T.e_NoRoom (ok_NoRoom_init T) (hr.mono (by decide)) rfl T.g_NoRoom (b_NoRoom___init__ T) .nil pass0 (@pa_cons _ _ _ _ _ (@pv _ 0 _ _ (by rfl) (by first | exact Or.inl rfl | exact Or.inr (Or.inl rfl) | exact Or.inr (Or.inr rfl)) (by decide) (by decide)) (@pa_nil _) (by rfl)) (by decide) (by rfl) (by rfl)) (by rfl) (by rfl))) (@pss_nil _))), ?_⟩
    walk_at "go"
    refine iteD (fun z => ?_) (fun z => by omega)
    walk_at "go"
    unfold sRaise tEMake
    walk_at "go"
    refine ⟨(show 1 ≤ sizeLine by decide), fun x hx => ⟨x, _, rfl, upd_same, fun dx h1 h2 => ⟨rfl, ?_⟩⟩⟩
    rw [upd_ne h2] at h1
    refine ⟨x, a.C_NoRoom, a.a_NoRoom___init__, dx, rfl, T.e_NoRoom, upd_same, ?_⟩
    rw [errH_eq h2]
    exact ke x dx hx h1 h2
theorem ok_walk_bad (T : Txt K mg a) : FnOk P w K mg base (CXE P w) 5 a.a_walk a.d_walk ["trace", "room", "rule"] (spBadW a) := by
  refine Fun.okE T.f_walk S_walk (fun vs H Q E h => ?_) (fun cdv A outer s H vs Q E hr h => ?_)
  · obtain ⟨t, room, rule, C, v, rfl, _⟩ := h
    rfl
  · obtain ⟨t, room, rule, C, v, rfl, hb, ke⟩ := h
    refine ⟨_, (pss_cons (ps_if (pt_cmpR op_notIn_seq (pv 2) (pe_glob (v := .ref a.K_RULES) (by rfl) T.g_RULES rfl) (by rfl)) (pss_one (ps_raise raisesE rfl (pe_emake T.e_NoRule (ok_NoRule_init T) (hr.mono (by decide)) rfl T.g_NoRule (b_NoRule___init__ T) .nil pass0 (pa_cons (pv 2) pa_nil)))) pss_nil)
      (pss_cons (ps_expr (pe_call (ok_room_bad T) (hr.mono (by decide)) rfl T.g_check_room T.f_check_room.kp (b_check_room T) .nil passE (pa_cons (pv 1) pa_nil))) pss_never)), ?_⟩
    walk_at "go"
    refine ⟨a.K_RULES, _, rfl, .inr (T.t_RULES H), rfl, by rcases hb with ⟨_, _, rfl⟩ | ⟨_, _, _, rfl⟩ <;> decide +kernel, ?_⟩
    rw [if_pos rfl, inRules]
    rcases hb with ⟨hr0, rfl, rfl⟩ | ⟨hr1, hm, rfl, rfl⟩
    · rw [hr0]
      walk_at "go"
      unfold sRaise tEMake
      walk_at "go"
      refine ⟨(show 1 ≤ sizeLine by decide), fun x hx => ⟨x, _, rfl, upd_same, fun dx h1 h2 => ⟨rfl, ?_⟩⟩⟩
      rw [upd_ne h2] at h1
      refine ⟨x, a.C_NoRule, a.a_NoRule___init__, dx, rfl, T.e_NoRule, upd_same, ?_⟩
      rw [errH_eq h2]
      exact ke x dx hx h1 h2
    · rw [hr1]
      walk_at "go"
      exact ⟨room, rfl, hm, ke⟩
theorem ok_faults_bad (T : Txt K mg a) : FnOk P w K mg base (CXE P w) 6 a.a_faults a.d_faults ["trace", "room", "rule"] (spBadW a) := by
  refine Fun.okE T.f_faults S_faults (fun vs H Q E h => ?_) (fun cdv A outer s H vs Q E hr h => ?_)
  · obtain ⟨t, room, rule, C, v, rfl, _⟩ := h
    rfl
  · obtain ⟨t, room, rule, C, v, rfl, hb, ke⟩ := h
    refine ⟨_, (@pss_one _ _ _ (@ps_ret _ _ _ _ (@pe_callB _ _ _ _ _ _ _ _ _ call_len_seq (by rfl) T.n_len (by decide +kernel) (@pa_cons _ _ _ _ _ (@pe_lc _ _ _ _ _ _ ([("page", 3), ("word", 4), ("gone", 5)]) _ _ (gTup K 3 (gCons (gName 3) (gCons (gName 4) (gCons (gName 5) (gNil))))) _ _ (by rfl) S_faults.nd (@pi_list _ _ _ _ (@pe_callK _ _ _ _ _ _ _ _ _ _ _ _ _ _ _ _ _ _ _ (ok_walk_bad T) (hr.mono (by first | decide | omega)) (by rfl) T.g_walk T.f_walk.kp (kb_walk1 T) passE (@pa_cons _ _ _ _ _ (@pv _ 0 _ _ (by rfl) (by first | exact Or.inl rfl | exact Or.inr (Or.inl rfl) | exact Or.inr (Or.inr rfl)) (by decide) (by decide)) (@pa_cons _ _ _ _ _ (@pv _ 1 _ _ (by rfl) (by first | exact Or.inl rfl | exact Or.inr (Or.inl rfl) | exact Or.inr (Or.inr rfl)) (by decide) (by decide)) (@pa_nil _) (by rfl)) (by rfl)) (@pk_cons _ _ _ _ _ _ _ (@pv _ 2 _ _ (by rfl) (by first | exact Or.inl rfl | exact Or.inr (Or.inl rfl) | exact Or.inr (Or.inr rfl)) (by decide) (by decide)) (@pk_nil _)) (by rfl) (by rfl) (by decide) (by rfl) (by rfl))) (blkOk_by (own := [("page", 3), ("word", 4), ("gone", 5)]) (N := ["trace", "room", "rule", "page", "word", "gone"]) (sc := defScope s_faults) (by first | decide +kernel | kernel_rfl)) (fun _ _ _ _ _ => pg_tup rfl (pgs_cons (pg_name (i := 3) S_faults.nd rfl (by first | exact Or.inl rfl | exact Or.inr rfl)) (pgs_cons (pg_name (i := 4) S_faults.nd rfl (by first | exact Or.inl rfl | exact Or.inr rfl)) (pgs_cons (pg_name (i := 5) S_faults.nd rfl (by first | exact Or.inl rfl | exact Or.inr rfl)) pgs_nil)))) (fun _ _ _ _ _ => (pts_one (pt_cmpR op_eq (pv 4) pe_str (nomark _)))) (fun _ _ _ _ _ => (pv 4)) (by intro _; rfl)) (@pa_nil _) (by rfl)) (by decide) (by decide) (by rfl) (by rfl)))), ?_⟩
    walk_at "go"
    exact ⟨t, room, rule, C, v, rfl, hb, ke⟩
theorem ok_walkE (T : Txt K mg a) (hbm : BMain mg base) : FnOk P w K mg base (CXE P w) 7 a.a_walk a.d_walk ["trace", "room", "rule"] (fun vs H Q E => spWalk4 a.p_Ahead_farthest farPos farQual vs H Q E ∨ spBadW a vs H Q E) := Pg.FnOk.or (L2.FnOk.mono (Pg.FnOk.ofX0 (ok_walk T hbm)) (by decide)) (L2.FnOk.mono (ok_walk_bad T) (by decide))
theorem ok_faultsE (T : Txt K mg a) (hbm : BMain mg base) : FnOk P w K mg base (CXE P w) 7 a.a_faults a.d_faults ["trace", "room", "rule"] (fun vs H Q E => spFaults4 a.p_Ahead_farthest farPos farQual vs H Q E ∨ spBadW a vs H Q E) := Pg.FnOk.or (L2.FnOk.mono (Pg.FnOk.ofX0 (ok_faults T hbm)) (by decide)) (L2.FnOk.mono (ok_faults_bad T) (by decide))
end
end
section
open PySem L2
def TxtOk (r : Str) : Prop := PyData.strOk r = true ∧ (reprText r).length ≤ 200 ∧ r.length ≤ 1000
instance (r : Str) : Decidable (TxtOk r) := by unfold TxtOk; infer_instance
def spOdd : Sp := fun vs H Q _ => ∃ (dk g : Addr) (c : Int), vs = [.ref dk] ∧ DeckAt H dk g c ∧ c ≤ 900000 ∧
  ∀ (r : Str) (H' : Hp), isRule r = false → TxtOk r → DeckAt H' dk g (c + 2) → Kp [dk, g] H H' → Q (.str r) H'
def oddL (z : Str) : List Str := [z ++ "s", cutS z (some 1) none, cutS z none (some (-1)), Txt.upper z, " " ++ z, z ++ " ", "", z ++ z, revS z, "far last", "none", "rule", "F"]
theorem odd_no {z : Str} (h : z = "first" ∨ z = "last" ∨ z = "clock" ∨ z = "far") : ∀ r ∈ oddL z, isRule r = false ∧ TxtOk r := by
  rcases h with rfl | rfl | rfl | rfl <;> decide +kernel
section
variable {P : Program} {w : World} {K : PySem.W.Frag} {mg : Str → Option Value} {base : Heap} {a : Adr}
theorem ok_law_odd_rule (T : Txt K mg a) : FnOk P w K mg base CX0 3 a.a_law_odd_rule a.d_law_odd_rule ["deck"] spOdd := by
  refine T.f_law_odd_rule.ok S_law_odd_rule (fun vs H Q E h => ?_) (fun cdv A outer s H vs Q E hr h => ?_)
  · obtain ⟨dk, g, c, rfl, _⟩ := h
    rfl
  · obtain ⟨dk, g, c, rfl, hD, hc, k⟩ := h
    refine ⟨_, (@pss_cons _ _ _ _ _ (@ps_asg _ _ _ _ _ _ (@pe_ix _ _ _ _ _ _ _ ix_list (@pe_lst _ _ _ _ (@pa_cons _ _ _ _ _ (@pe_str _ _ _ _) (@pa_cons _ _ _ _ _ (@pe_str _ _ _ _) (@pa_cons _ _ _ _ _ (@pe_str _ _ _ _) (@pa_cons _ _ _ _ _ (@pe_str _ _ _ _) (@pa_nil _) (by rfl)) (by rfl)) (by rfl)) (by rfl))) (@pe_call _ _ _ _ _ _ _ _ _ _ _ _ _ _ _ _ (ok_law_take T) (hr.mono (by first | decide | omega)) (by rfl) T.g_law_take T.f_law_take.kp (b_law_take T) .nil pass0 (@pa_cons _ _ _ _ _ (@pv _ 0 _ _ (by rfl) (by first | exact Or.inl rfl | exact Or.inr (Or.inl rfl) | exact Or.inr (Or.inr rfl)) (by decide) (by decide)) (@pa_cons _ _ _ _ _ (@pe_int _ _ _ _) (@pa_nil _) (by rfl)) (by rfl)) (by decide) (by rfl) (by rfl)) (fun _ _ => rfl)) (@pg_name _ _ (1) _ S_law_odd_rule.nd rfl (by first | exact Or.inl rfl | exact Or.inr rfl) (by first | exact .inl rfl | exact .inr rfl | assumption)) (by rfl) (by rfl) (by rfl)) (@pss_cons _ _ _ _ _ (@ps_asg _ _ _ _ _ _ (@pe_lst _ _ _ _ (@pa_cons _ _ _ _ _ (@pe_op _ _ _ _ _ _ _ _ op_add_str (@pv _ 1 _ _ (by rfl) (by first | exact Or.inl rfl | exact Or.inr (Or.inl rfl) | exact Or.inr (Or.inr rfl)) (by decide) (by decide)) (@pe_str _ _ _ _)) (@pa_cons _ _ _ _ _ (@pe_slice _ _ _ _ _ _ _ _ _ _ sl_str (@pv _ 1 _ _ (by rfl) (by first | exact Or.inl rfl | exact Or.inr (Or.inl rfl) | exact Or.inr (Or.inr rfl)) (by decide) (by decide)) (@po_some _ _ _ (@pe_int _ _ _ _)) (@po_none _)) (@pa_cons _ _ _ _ _ (@pe_slice _ _ _ _ _ _ _ _ _ _ sl_str (@pv _ 1 _ _ (by rfl) (by first | exact Or.inl rfl | exact Or.inr (Or.inl rfl) | exact Or.inr (Or.inr rfl)) (by decide) (by decide)) (@po_none _) (@po_some _ _ _ (@pe_un _ _ _ _ _ _ un_neg (@pe_int _ _ _ _)))) (@pa_cons _ _ _ _ _ (@pe_upper _ _ _ _ _ (@pv _ 1 _ _ (by rfl) (by first | exact Or.inl rfl | exact Or.inr (Or.inl rfl) | exact Or.inr (Or.inr rfl)) (by decide) (by decide)) (by rfl) (by rfl)) (@pa_cons _ _ _ _ _ (@pe_op _ _ _ _ _ _ _ _ op_add_str (@pe_str _ _ _ _) (@pv _ 1 _ _ (by rfl) (by first | exact Or.inl rfl | exact Or.inr (Or.inl rfl) | exact Or.inr (Or.inr rfl)) (by decide) (by decide))) (@pa_cons _ _ _ _ _ (@pe_op _ _ _ _ _ _ _ _ op_add_str (@pv _ 1 _ _ (by rfl) (by first | exact Or.inl rfl | exact Or.inr (Or.inl rfl) | exact Or.inr (Or.inr rfl)) (by decide) (by decide)) (@pe_str _ _ _ _)) (@pa_cons _ _ _ _ _ (@pe_str _ _ _ _) (@pa_cons _ _ _ _ _ (@pe_op _ _ _ _ _ _ _ _ op_add_str (@pv _ 1 _ _ (by rfl) (by first | exact Or.inl rfl | exact Or.inr (Or.inl rfl) | exact Or.inr (Or.inr rfl)) (by decide) (by decide)) (@pv _ 1 _ _ (by rfl) (by first | exact Or.inl rfl | exact Or.inr (Or.inl rfl) | exact Or.inr (Or.inr rfl)) (by decide) (by decide))) (@pa_cons _ _ _ _ _ (pe_srev (@pv _ 1 _ _ (by rfl) (by first | exact Or.inl rfl | exact Or.inr (Or.inl rfl) | exact Or.inr (Or.inr rfl)) (by decide) (by decide)) (@pe_un _ _ _ _ _ _ un_neg (@pe_int _ _ _ _))) (@pa_nil _) (by rfl)) (by rfl)) (by rfl)) (by rfl)) (by rfl)) (by rfl)) (by rfl)) (by rfl)) (by rfl))) (@pg_name _ _ (2) _ S_law_odd_rule.nd rfl (by first | exact Or.inl rfl | exact Or.inr rfl) (by first | exact .inl rfl | exact .inr rfl | assumption)) (by rfl) (by rfl) (by rfl)) (@pss_one _ _ _ (@ps_ret _ _ _ _ (@pe_ix _ _ _ _ _ _ _ ix_list (@pe_op _ _ _ _ _ _ _ _ op_cat (@pv _ 2 _ _ (by rfl) (by first | exact Or.inl rfl | exact Or.inr (Or.inl rfl) | exact Or.inr (Or.inr rfl)) (by decide) (by decide)) (@pe_lst _ _ _ _ (@pa_cons _ _ _ _ _ (@pe_str _ _ _ _) (@pa_cons _ _ _ _ _ (@pe_str _ _ _ _) (@pa_cons _ _ _ _ _ (@pe_str _ _ _ _) (@pa_cons _ _ _ _ _ (@pe_str _ _ _ _) (@pa_nil _) (by rfl)) (by rfl)) (by rfl)) (by rfl)))) (@pe_call _ _ _ _ _ _ _ _ _ _ _ _ _ _ _ _ (ok_law_take T) (hr.mono (by first | decide | omega)) (by rfl) T.g_law_take T.f_law_take.kp (b_law_take T) .nil pass0 (@pa_cons _ _ _ _ _ (@pv _ 0 _ _ (by rfl) (by first | exact Or.inl rfl | exact Or.inr (Or.inl rfl) | exact Or.inr (Or.inr rfl)) (by decide) (by decide)) (@pa_cons _ _ _ _ _ (@pe_int _ _ _ _) (@pa_nil _) (by rfl)) (by rfl)) (by decide) (by rfl) (by rfl)) (fun _ _ => rfl)))))), ?_⟩
    walk_at "go"
    refine ⟨(show 4 ≤ sizeLine by decide), fun p hp => ?_⟩
    have sp := same_new (o := .lst [.str "first", .str "last", .str "clock", .str "far"]) hp
    have D1 := hD.keep sp
    have p1 : upd H p (.lst [.str "first", .str "last", .str "clock", .str "far"]) p = some (.lst [.str "first", .str "last", .str "clock", .str "far"]) := upd_same
    have np := hD.off hp
    generalize upd H p (.lst [.str "first", .str "last", .str "clock", .str "far"]) = H1 at *
    walk_at "go"
    refine ⟨dk, g, c, 4, rfl, D1, by decide, by decide, by omega, fun r H2 r0 r1 D2 k2 => ?_⟩
    have p2 := k2 _ _ p1 np
    obtain ⟨z, hat, hz⟩ : ∃ z : Str, atI [V.str "first", .str "last", .str "clock", .str "far"] r = some (.str z) ∧ (z = "first" ∨ z = "last" ∨ z = "clock" ∨ z = "far") := by
      obtain rfl | rfl | rfl | rfl : r = 0 ∨ r = 1 ∨ r = 2 ∨ r = 3 := by omega
      · exact ⟨_, rfl, .inl rfl⟩
      · exact ⟨_, rfl, .inr (.inl rfl)⟩
      · exact ⟨_, rfl, .inr (.inr (.inl rfl))⟩
      · exact ⟨_, rfl, .inr (.inr (.inr rfl))⟩
    refine rd_ixl (SqL.of p2) hat ?_
    have zl : z.length ≤ 5 ∧ (revS z).length ≤ 5 := by rcases hz with rfl | rfl | rfl | rfl <;> exact ⟨by decide +kernel, by decide +kernel⟩
    have sl : 1000 ≤ sizeLine := by decide
    have h5 : z.length + 5 ≤ sizeLine := by omega
    walk_at "go"
    refine ⟨z, "s", rfl, rfl, Nat.le_trans (show z.length + 1 ≤ 1000 by omega) sl, ?_⟩
    walk_at "go"
    refine ⟨z, rfl, by omega, ?_⟩
    walk_at "go"
    refine ⟨z, rfl, by omega, ?_⟩
    walk_at "go"
    unfold tM0
    walk_at "go"
    refine ⟨⟨z, rfl⟩, z, rfl, rfl, by omega, ?_⟩
    walk_at "go"
    refine ⟨" ", z, rfl, rfl, Nat.le_trans (show 1 + z.length ≤ 1000 by omega) sl, ?_⟩
    walk_at "go"
    refine ⟨z, " ", rfl, rfl, Nat.le_trans (show z.length + 1 ≤ 1000 by omega) sl, ?_⟩
    walk_at "go"
    refine ⟨z, z, rfl, rfl, Nat.le_trans (show z.length + z.length ≤ 1000 by omega) sl, ?_⟩
    walk_at "go"
    unfold tSRev
    walk_at "go"
    refine ⟨rfl, z, rfl, by omega, ?_⟩
    walk_at "go"
    refine ⟨(show 9 ≤ sizeLine by decide), fun q hq => ?_⟩
    have e9 : ∀ x ∈ [V.str (z ++ "s"), .str (cutS z (some 1) none), .str (cutS z none (some (-1))), .str (Txt.upper z), .str (" " ++ z), .str (z ++ " "), .str "", .str (z ++ z), .str (revS z)] ++ [V.str "far last", .str "none", .str "rule", .str "F"], ∃ r, x = .str r ∧ isRule r = false ∧ TxtOk r := fun x hx => by
      rw [show [V.str (z ++ "s"), .str (cutS z (some 1) none), .str (cutS z none (some (-1))), .str (Txt.upper z), .str (" " ++ z), .str (z ++ " "), .str "", .str (z ++ z), .str (revS z)] ++ [V.str "far last", .str "none", .str "rule", .str "F"] = (oddL z).map V.str from rfl] at hx
      obtain ⟨r, hr, rfl⟩ := List.mem_map.mp hx
      exact ⟨r, rfl, odd_no hz r hr⟩
    have q1 : upd H2 q (.lst [.str (z ++ "s"), .str (cutS z (some 1) none), .str (cutS z none (some (-1))), .str (Txt.upper z), .str (" " ++ z), .str (z ++ " "), .str "", .str (z ++ z), .str (revS z)]) q = some (.lst [.str (z ++ "s"), .str (cutS z (some 1) none), .str (cutS z none (some (-1))), .str (Txt.upper z), .str (" " ++ z), .str (z ++ " "), .str "", .str (z ++ z), .str (revS z)]) := upd_same
    have sq := same_new (o := .lst [.str (z ++ "s"), .str (cutS z (some 1) none), .str (cutS z none (some (-1))), .str (Txt.upper z), .str (" " ++ z), .str (z ++ " "), .str "", .str (z ++ z), .str (revS z)]) hq
    have l9 : ([.str (z ++ "s"), .str (cutS z (some 1) none), .str (cutS z none (some (-1))), .str (Txt.upper z), .str (" " ++ z), .str (z ++ " "), .str "", .str (z ++ z), .str (revS z)] : List V).length = 9 := rfl
    have D3 := D2.keep sq
    have K3 : Kp [dk, g] H _ := ((Kp.of_same sp).trans k2).trans (Kp.of_same sq)
    generalize upd H2 q _ = H3 at *
    generalize ([.str (z ++ "s"), .str (cutS z (some 1) none), .str (cutS z none (some (-1))), .str (Txt.upper z), .str (" " ++ z), .str (z ++ " "), .str "", .str (z ++ z), .str (revS z)] : List V) = L9 at *
    walk_at "go"
    refine ⟨(show 4 ≤ sizeLine by decide), fun q2 hq2 => ?_⟩
    have sq2 := same_new (o := .lst [.str "far last", .str "none", .str "rule", .str "F"]) hq2
    have q3 := sq2 _ _ q1
    have D4 := D3.keep sq2
    have f1 : upd H3 q2 (.lst [.str "far last", .str "none", .str "rule", .str "F"]) q2 = some (.lst [.str "far last", .str "none", .str "rule", .str "F"]) := upd_same
    have K4 := K3.trans (Kp.of_same sq2)
    generalize upd H3 q2 _ = H4 at *
    walk_at "go"
    refine ⟨q, q2, _, _, rfl, rfl, q3, f1, by rw [l9]; exact Nat.le_trans (show 9 + 4 ≤ 1000 by decide) sl, fun q5 hq5 => ?_⟩
    have sq5 := same_new (o := .lst (L9 ++ [.str "far last", .str "none", .str "rule", .str "F"])) hq5
    have D5 := D4.keep sq5
    have K5 := K4.trans (Kp.of_same sq5)
    have n5 := D4.off hq5
    have l5 : upd H4 q5 (.lst (L9 ++ [.str "far last", .str "none", .str "rule", .str "F"])) q5 = some (.lst (L9 ++ [.str "far last", .str "none", .str "rule", .str "F"])) := upd_same
    generalize upd H4 q5 _ = H5 at *
    walk_at "go"
    refine ⟨dk, g, c + 1, 13, rfl, D5, by decide, by decide, by omega, fun r3 H6 r30 r31 D6 k6 => ?_⟩
    have l6 := k6 _ _ l5 n5
    obtain ⟨j, rfl⟩ := Int.eq_ofNat_of_zero_le r30
    have hj : j < (L9 ++ [V.str "far last", .str "none", .str "rule", .str "F"]).length := by
      rw [List.length_append, l9]
      show j < 9 + 4
      omega
    obtain ⟨r, er, hr0, hr1⟩ := e9 _ (List.getElem_mem hj)
    refine rd_ixl (SqL.of l6) (at_of (j := j) rfl (v := .str r) ?_) ?_
    · rw [List.getElem?_eq_getElem hj, er]
    walk_at "go"
    exact k r H6 hr0 hr1 (D6.mono (by omega)) (K5.trans k6)
end
end
section
open PySem L2
def dueR (size : Int) (r : Str) : Option (List V) := if isRule r = false then some [.bl true, .bl false, .str r] else if size < 1 then some [.bl false, .bl true, .int size] else none
def spRefusal (P : Addr) (pos : Pos) (q : Str) : Sp := fun vs H Q _ => ∃ (t : Addr) (ns : List Int) (size way : Int) (r : Str), vs = [.ref t, .int size, .str r, .int way] ∧ H t = some (.lst (ns.map V.int)) ∧ ns.length ≤ 400 ∧ LamTab P pos q H ∧ r.length ≤ 1000 ∧
  (dueR size r = none → ∀ H', Kp [P] H H' → LamTab P pos q H' → Q .non H') ∧
  (∀ ys, dueR size r = some ys → ∀ (p : Addr) (H' : Hp), H p = none → H' p = some (.tup ys) → Same H H' → Q (.ref p) H')
def g3z {α : Type} : List α → List α → List α
  | [], [z, y, x] => [x, y, z]
  | _, _ => []
def g3y {α : Type} : List α → List α → List α
  | [], [y, x, z] => [x, y, z]
  | _, _ => []
theorem g3z_len {α : Type} {us ws : List α} (h : (g3z us ws).length = 3) : ∃ x y z, us = [] ∧ ws = [x, y, z] := by
  unfold g3z at h
  split at h
  · exact ⟨_, _, _, rfl, rfl⟩
  · simp at h
theorem g3y_len {α : Type} {us ws : List α} (h : (g3y us ws).length = 3) : ∃ x y z, us = [] ∧ ws = [x, y, z] := by
  unfold g3y at h
  split at h
  · exact ⟨_, _, _, rfl, rfl⟩
  · simp at h
section
variable {P : Program} {w : World} {K : PySem.W.Frag} {mg : Str → Option Value} {base : Heap} {a : Adr}
theorem kb_faults1 (T : Txt K mg a) : KBinds K a.d_faults ["trace", "room", "rule"] ["rule"] g21 g21 := by
  obtain ⟨oc, od, kV, doc, pm, an, cdv, ct, osl, e, lk, hcd⟩ := T.f_faults.ex
  refine ⟨fun s us ws _ hl => ?_, fun {vs us zs ws} r q => ?_⟩
  · obtain ⟨x, y, z, rfl, rfl⟩ := g21_len hl
    rw [e]
    exact .of_eq rfl
  · rcases r with _ | ⟨r1, _ | ⟨r2, _ | ⟨r3, r4⟩⟩⟩ <;> rcases q with _ | ⟨q1, _ | ⟨q2, q3⟩⟩ <;> first | exact .nil | exact .cons r1 (.cons r2 (.cons q1 .nil))
theorem kb_walk2 (T : Txt K mg a) : KBinds K a.d_walk ["trace", "room", "rule"] ["rule", "room", "trace"] g3z g3z := by
  obtain ⟨oc, od, kV, doc, pm, an, cdv, ct, osl, e, lk, hcd⟩ := T.f_walk.ex
  refine ⟨fun s us ws _ hl => ?_, fun {vs us zs ws} r q => ?_⟩
  · obtain ⟨x, y, z, rfl, rfl⟩ := g3z_len hl
    rw [e]
    exact .of_eq rfl
  · rcases r with _ | ⟨r1, r2⟩ <;> rcases q with _ | ⟨q1, _ | ⟨q2, _ | ⟨q3, _ | ⟨q4, q5⟩⟩⟩⟩ <;> first | exact .nil | exact .cons q3 (.cons q2 (.cons q1 .nil))
theorem kb_faults3 (T : Txt K mg a) : KBinds K a.d_faults ["trace", "room", "rule"] ["room", "trace", "rule"] g3y g3y := by
  obtain ⟨oc, od, kV, doc, pm, an, cdv, ct, osl, e, lk, hcd⟩ := T.f_faults.ex
  refine ⟨fun s us ws _ hl => ?_, fun {vs us zs ws} r q => ?_⟩
  · obtain ⟨x, y, z, rfl, rfl⟩ := g3y_len hl
    rw [e]
    exact .of_eq rfl
  · rcases r with _ | ⟨r1, r2⟩ <;> rcases q with _ | ⟨q1, _ | ⟨q2, _ | ⟨q3, _ | ⟨q4, q5⟩⟩⟩⟩ <;> first | exact .nil | exact .cons q2 (.cons q1 (.cons q3 .nil))
abbrev XRf (P : Program) (w : World) (K : PySem.W.Frag) (mg : Str → Option Value) (base : Heap) (a : Adr) (cdv : Value) (A : Around) (outer : List Env) (s : Shared) (H : Hp) (E : XK) : Cx := (cxOf CX0 P w K mg base ["line", "size", "by", "way", "caught", "e"] "_law_refusal" (defScope s_law_refusal) a.a_law_refusal cdv A outer s H E).nox
theorem try_refusal (T : Txt K mg a) {cdv : Value} {A : Around} {outer : List Env} {s : Shared} {H : Hp} {E : XK} {Eh} {tb} {ts} {body b0 suite np hpos pos}
   (hb : ∀ σ H' pins, PSs (onPn (XRf P w K mg base a cdv A outer s H E) ((XRf P w K mg base a cdv A outer s H E).pn ++ pins) (XT (XRf P w K mg base a cdv A outer s H E) pins (Eh σ H'))) body (tb σ H'))
   (hsu : ∀ pn e, PSs (markX (XRf P w K mg base a cdv A outer s H E) pn e) (b0 :: suite) ts) :
   PS (XRf P w K mg base a cdv A outer s H E) (.Try body [.ExceptHandler (some (.Name "PageError" np)) (some "e") (b0 :: suite) hpos] [] [] pos) (sTryB K a.C_PageError 5 Eh tb ts) :=
  ps_tryB T.kx rfl T.g_PageError S_law_refusal.nd rfl rfl rfl (by first | exact Or.inl rfl | exact Or.inr rfl) rfl rfl hb hsu
theorem ok_law_refusal (T : Txt K mg a) (hbm : BMain mg base) : FnOk P w K mg base CX0 12 a.a_law_refusal a.d_law_refusal ["line", "size", "by", "way"] (spRefusal a.p_Ahead_farthest farPos farQual) := by
  refine T.f_law_refusal.ok S_law_refusal (fun vs H Q E h => ?_) (fun cdv A outer s H vs Q E hr h => ?_)
  · obtain ⟨t, ns, size, way, r, rfl, _⟩ := h
    rfl
  · obtain ⟨t, ns, size, way, by', rfl, ht, hns, lt, hlen, kg, kb⟩ := h
    refine ⟨_, (pss_cons (ps_asg pe_non (pg_name (i := 4) S_law_refusal.nd rfl (by first | exact Or.inl rfl | exact Or.inr rfl))) (pss_cons (try_refusal (Eh := EhOf (BadR a size by')) T
      (fun σ0 H0 pins => pss_one (ps_if (pt_cmpR op_eq (pv 3) pe_int (nomark _))
        (pss_one (ps_expr (pe_callKS (ok_walkE T hbm) (hr.mono (by first | decide | omega)) (by rfl) T.g_walk T.f_walk.kp (kb_walk1 T) pass_try (pa_cons (pv 0) (pa_cons (pv 1) pa_nil)) (pk_cons (pv 2) pk_nil))))
        (pss_one (ps_if (pt_cmpR op_eq (pv 3) pe_int (nomark _))
        (pss_one (ps_expr (pe_callKS (ok_faultsE T hbm) (hr.mono (by first | decide | omega)) (by rfl) T.g_faults T.f_faults.kp (kb_faults1 T) pass_try (pa_cons (pv 0) (pa_cons (pv 1) pa_nil)) (pk_cons (pv 2) pk_nil))))
        (pss_one (ps_if (pt_cmpR op_eq (pv 3) pe_int (nomark _))
        (pss_one (ps_expr (pe_callKS0 (ok_walkE T hbm) (hr.mono (by first | decide | omega)) (by rfl) T.g_walk T.f_walk.kp (kb_walk2 T) pass_try (pk_cons (pv 2) (pk_cons (pv 1) (pk_cons (pv 0) pk_nil))))))
        (pss_one (ps_expr (pe_callKS0 (ok_faultsE T hbm) (hr.mono (by first | decide | omega)) (by rfl) T.g_faults T.f_faults.kp (kb_faults3 T) pass_try (pk_cons (pv 1) (pk_cons (pv 0) (pk_cons (pv 2) pk_nil))))))))))))
      (fun pn e => pss_one (ps_asg (pv 5) (pg_name (i := 4) S_law_refusal.nd rfl (by first | exact Or.inl rfl | exact Or.inr rfl)))))
      (pss_cons (ps_if (pt_cmpR op_isN (pv 4) pe_non (nomark _)) (pss_one (ps_ret pe_non)) pss_nil) (pss_cons (ps_if (PW.pt (pw_or (pt_not (pt_val (pe_callB (show CallR _ (.builtin "isinstance") (rIsiEB K) from call_isiEB) (by rfl) T.n_isinstance (by decide +kernel) (pa_cons (pv 4) (pa_cons (pe_bltn (v := .ty "ValueError") (u := .type "ValueError") (by rfl) T.n_ValueError (by decide +kernel) rfl) pa_nil))))) (pw_or1 (pt_val (pe_callB (show CallR _ (.builtin "isinstance") (rIsiET K) from call_isiET) (by rfl) T.n_isinstance (by decide +kernel) (pa_cons (pv 4) (pa_cons (pe_tup (pa_cons (pe_glob (v := .ref a.C_NoColour) (by rfl) T.g_NoColour rfl) (pa_cons (pe_glob (v := .ref a.C_NoPage) (by rfl) T.g_NoPage rfl) (pa_cons (pe_glob (v := .ref a.C_NoTask) (by rfl) T.g_NoTask rfl) (pa_cons (pe_glob (v := .ref a.C_NoTurn) (by rfl) T.g_NoTurn rfl) (pa_cons (pe_glob (v := .ref a.C_NoWindow) (by rfl) T.g_NoWindow rfl) (pa_cons (pe_glob (v := .ref a.C_NoWord) (by rfl) T.g_NoWord rfl) pa_nil))))))) pa_nil))))))) (pss_one (ps_ret pe_str)) pss_nil) (pss_one (ps_ret (pe_tup (pa_cons (pe_callB (show CallR _ (.builtin "isinstance") (rIsiE K) from call_isiE) (by rfl) T.n_isinstance (by decide +kernel) (pa_cons (pv 4) (pa_cons (pe_glob (v := .ref a.C_NoRule) (by rfl) T.g_NoRule rfl) pa_nil))) (pa_cons (pe_callB (show CallR _ (.builtin "isinstance") (rIsiE K) from call_isiE) (by rfl) T.n_isinstance (by decide +kernel) (pa_cons (pv 4) (pa_cons (pe_glob (v := .ref a.C_NoRoom) (by rfl) T.g_NoRoom rfl) pa_nil))) (pa_cons (show PE _ _ (tEFld K (tVar 4) "what") from pe_efld (pv 4) rfl) pa_nil)))))))))), ?_⟩
    walk_at "go"
    unfold sTryB
    refine ⟨?_, ?_⟩
    · have fin : ∀ (H' : Hp) (W : Prop), dueR size by' = none → Kp [a.p_Ahead_farthest] H H' → LamTab a.p_Ahead_farthest farPos farQual H' → Q .non H' := fun H' _ hd h1 h2 => kg hd H' h1 h2
      have bad : ∀ ys, dueR size by' = some ys → ∃ C v, BadR a size by' C v := fun ys h => by
        unfold dueR at h
        by_cases h1 : isRule by' = false
        · exact ⟨_, _, .inl ⟨h1, rfl, rfl⟩⟩
        · rw [if_neg h1] at h
          by_cases h2 : size < 1
          · exact ⟨_, _, .inr ⟨by simpa using h1, h2, rfl, rfl⟩⟩
          · rw [if_neg h2] at h
            cases h
      have good : dueR size by' = none → isRule by' = true ∧ 1 ≤ size := fun h => by
        unfold dueR at h
        by_cases h1 : isRule by' = false
        · rw [if_pos h1] at h
          cases h
        · rw [if_neg h1] at h
          by_cases h2 : size < 1
          · rw [if_pos h2] at h
            cases h
          · exact ⟨by simpa using h1, by omega⟩
      have callA : ∀ (σ0 : L2.St) (Q' : VK), (∀ v H2, dueR size by' = none → Kp [a.p_Ahead_farthest] H H2 → LamTab a.p_Ahead_farthest farPos farQual H2 → Q' v H2) → (fun vs H Q E => spWalk4 a.p_Ahead_farthest farPos farQual vs H Q E ∨ spBadW a vs H Q E : Sp) [.ref t, .int size, .str by'] H Q' (EhOf (BadR a size by') σ0 H σ0) := by
        intro σ0 Q' q
        cases hd : dueR size by' with
        | none =>
          obtain ⟨g1, g2⟩ := good hd
          obtain ⟨rl, rfl⟩ := rule_of g1
          exact .inl ⟨t, size, rl, ns, rfl, ht, g2, hns, lt, fun l ts H' _ _ _ k1 l1 => q _ H' hd k1 l1⟩
        | some ys =>
          obtain ⟨C, v, hb⟩ := bad ys hd
          exact .inr ⟨t, size, by', C, v, rfl, hb, EhOf.of hb⟩
      have callB : ∀ (σ0 : L2.St) (Q' : VK), (∀ v H2, dueR size by' = none → Kp [a.p_Ahead_farthest] H H2 → LamTab a.p_Ahead_farthest farPos farQual H2 → Q' v H2) → (fun vs H Q E => spFaults4 a.p_Ahead_farthest farPos farQual vs H Q E ∨ spBadW a vs H Q E : Sp) [.ref t, .int size, .str by'] H Q' (EhOf (BadR a size by') σ0 H σ0) := by
        intro σ0 Q' q
        cases hd : dueR size by' with
        | none =>
          obtain ⟨g1, g2⟩ := good hd
          obtain ⟨rl, rfl⟩ := rule_of g1
          exact .inl ⟨t, size, rl, ns, rfl, ht, g2, hns, lt, fun H' k1 l1 => q _ H' hd k1 l1⟩
        | some ys =>
          obtain ⟨C, v, hb⟩ := bad ys hd
          exact .inr ⟨t, size, by', C, v, rfl, hb, EhOf.of hb⟩
      walk_at "go"
      unfold tCallKS
      refine iteD (fun z => ?_) (fun z => ?_)
      · walk_at "go"
        refine callA _ _ fun v H2 hd k1 l1 => ?_
        walk_at "go"
        refine ⟨rfl, true, rfl, iteT ?_⟩
        walk_at "go"
        exact kg hd H2 k1 l1
      walk_at "go"
      refine iteD (fun z => ?_) (fun z => ?_)
      · walk_at "go"
        refine callB _ _ fun v H2 hd k1 l1 => ?_
        walk_at "go"
        refine ⟨rfl, true, rfl, iteT ?_⟩
        walk_at "go"
        exact kg hd H2 k1 l1
      walk_at "go"
      refine iteD (fun z => ?_) (fun z => ?_)
      · walk_at "go"
        refine callA _ _ fun v H2 hd k1 l1 => ?_
        walk_at "go"
        refine ⟨rfl, true, rfl, iteT ?_⟩
        walk_at "go"
        exact kg hd H2 k1 l1
      · walk_at "go"
        refine callB _ _ fun v H2 hd k1 l1 => ?_
        walk_at "go"
        refine ⟨rfl, true, rfl, iteT ?_⟩
        walk_at "go"
        exact kg hd H2 k1 l1
    · rintro σ' x dx H' ⟨rfl, x', dx', C, v, ex, edx, hx, hdx, hne, hb, rfl⟩
      cases ex
      cases edx
      refine ⟨⟨C, by unfold errH; exact upd_same, ?_⟩, ?_⟩
      · rcases hb with ⟨_, rfl, _⟩ | ⟨_, _, rfl, _⟩
        · exact T.kmNoRule
        · exact T.kmNoRoom
      have t2 := Tr.err (C := C) (v := v) (Tr.start (H := H)) hx hdx hne
      generalize errH H x C dx v = H3 at *
      walk_at "go"
      refine ⟨rfl, false, rfl, iteF ?_⟩
      walk_at "go"
      rcases hb with ⟨hr0, rfl, rfl⟩ | ⟨hr1, hm, rfl, rfl⟩
      · have hX : ∀ {H' : Hp} {A : List Cell}, Tr (fun _ => True) [] [] H H' (A ++ [(x, ExcH x a.C_NoRule dx), (dx, .xd [("what", .str by')])]) → ExcAt K H' x a.C_NoRule := fun t => ⟨_, dx, _, T.e_NoRule, T.is_NoRule, t.get (List.mem_append_right _ (.head _)), t.get (o := .xd [("what", .str by')]) (List.mem_append_right _ (.tail _ (.head _)))⟩
        refine ⟨x, _, "ValueError", true, rfl, hX (A := []) t2, T.kvNoRule, ?_⟩
        walk_at "go"
        refine ⟨(show 6 ≤ sizeLine by decide), fun tp htp => Tr.nw1 t2 htp fun H4 t3 => ?_⟩
        walk_at "go"
        refine ⟨x, _, tp, [a.C_NoColour, a.C_NoPage, a.C_NoTask, a.C_NoTurn, a.C_NoWindow, a.C_NoWord], false, rfl, hX (A := [_]) t3, t3.get (.head _), T.ktNoRule, ?_⟩
        walk_at "go"
        refine ⟨x, _, a.C_NoRule, true, rfl, hX (A := [_]) t3, T.krNoRule, ?_⟩
        walk_at "go"
        refine ⟨x, _, a.C_NoRoom, false, rfl, hX (A := [_]) t3, T.kcNoRule, ?_⟩
        walk_at "go"
        unfold tEFld
        walk_at "go"
        refine ⟨x, _, _, dx, _, .str by', rfl, T.e_NoRule, T.na_NoRule_what, t3.get (.tail _ (.head _)), t3.get (o := .xd [("what", .str by')]) (.tail _ (.tail _ (.head _))), rfl, ?_⟩
        walk_at "go"
        refine ⟨(show 3 ≤ sizeLine by decide), fun p hp => Tr.nw1 t3 hp fun H5 t4 => ?_⟩
        exact kb _ (by unfold dueR; rw [if_pos hr0]) p H5 (t3.ends.free hp) (t4.get (.head _)) t4.ends
      · have hX : ∀ {H' : Hp} {A : List Cell}, Tr (fun _ => True) [] [] H H' (A ++ [(x, ExcH x a.C_NoRoom dx), (dx, .xd [("what", .int size)])]) → ExcAt K H' x a.C_NoRoom := fun t => ⟨_, dx, _, T.e_NoRoom, T.is_NoRoom, t.get (List.mem_append_right _ (.head _)), t.get (o := .xd [("what", .int size)]) (List.mem_append_right _ (.tail _ (.head _)))⟩
        refine ⟨x, _, "ValueError", true, rfl, hX (A := []) t2, T.kvNoRoom, ?_⟩
        walk_at "go"
        refine ⟨(show 6 ≤ sizeLine by decide), fun tp htp => Tr.nw1 t2 htp fun H4 t3 => ?_⟩
        walk_at "go"
        refine ⟨x, _, tp, [a.C_NoColour, a.C_NoPage, a.C_NoTask, a.C_NoTurn, a.C_NoWindow, a.C_NoWord], false, rfl, hX (A := [_]) t3, t3.get (.head _), T.ktNoRoom, ?_⟩
        walk_at "go"
        refine ⟨x, _, a.C_NoRule, false, rfl, hX (A := [_]) t3, T.krNoRoom, ?_⟩
        walk_at "go"
        refine ⟨x, _, a.C_NoRoom, true, rfl, hX (A := [_]) t3, T.kcNoRoom, ?_⟩
        walk_at "go"
        unfold tEFld
        walk_at "go"
        refine ⟨x, _, _, dx, _, .int size, rfl, T.e_NoRoom, T.na_NoRoom_what, t3.get (.tail _ (.head _)), t3.get (o := .xd [("what", .int size)]) (.tail _ (.tail _ (.head _))), rfl, ?_⟩
        walk_at "go"
        refine ⟨(show 3 ≤ sizeLine by decide), fun p hp => Tr.nw1 t3 hp fun H5 t4 => ?_⟩
        exact kb _ (by unfold dueR; rw [if_neg (by rw [hr1]; decide), if_pos hm]) p H5 (t3.ends.free hp) (t4.get (.head _)) t4.ends
end
end
section
open PySem L2
def g11 {α : Type} : List α → List α → List α
  | [a], [b] => [a, b]
  | _, _ => []
theorem g11_len {α : Type} {us ws : List α} (h : (g11 us ws).length = 2) : ∃ a b, us = [a] ∧ ws = [b] := by
  unfold g11 at h
  split at h
  · exact ⟨_, _, rfl, rfl⟩
  · simp at h
section
variable {J : Hp → Prop} {O S : List Addr} {H0 H : Hp} {L : List Cell} {Q : VK} {E : XK} {K : PySem.W.Frag} {C g : Addr} {v : V}
theorem rd_nerr (t : Tr J O S H0 H L) (M : ECls K C g) (n : NoAttr K C "what") (q : ∀ H', Tr J O S H0 H' L → Q v H') : ∀ x, H x = none → spNInit C [.ref x, v] (upd H x (ExcN x C none)) (fun w H2 => w = .non ∧ ∃ x' C' g dx fs y, V.ref x = .ref x' ∧ ECls K C' g ∧ NoAttr K C' "what" ∧ H2 x' = some (ExcN x' C' (some dx)) ∧ H2 dx = some (.xd fs) ∧ fs.lookup ("what" : Str) = some y ∧ Q y H2) E := by
  intro x hx
  refine ⟨x, v, rfl, upd_same, fun dx h1 h2 => ⟨rfl, x, C, g, dx, [("what", v)], v, rfl, M, n, upd_same, ?_, rfl, q _ ?_⟩⟩
  · rw [upd_ne h2, upd_same]
  · exact ((((t.new hx).new h1).put (.tail .head)).drop).drop
end
theorem fit_all (r : Rl) {room : Int} (ns : List Int) (h1 : 1 ≤ room) (h : (dc ns : Int) ≤ room) : fN (run4 r room ns) = dc ns := by
  have := all_fit (ok4 r h1 ns) List.nodup_nil (by rw [List.nil_append]; exact h)
  simpa using this
def DueAt (H : Hp) (d : V) : Option (List V) → Prop
  | none => d = .non
  | some ys => ∃ p, d = .ref p ∧ H p = some (.tup ys)
theorem DueAt.kp {H H' : Hp} {d : V} {o : Option (List V)} {P : Addr} {pos : Pos} {q : Str} (h : DueAt H d o) (t : LamTab P pos q H) (k : Kp [P] H H') : DueAt H' d o := by
  cases o with
  | none => exact h
  | some ys =>
    obtain ⟨p, rfl, hp⟩ := h
    exact ⟨p, rfl, k _ _ hp (by simpa using t.off (by rw [hp]; rfl))⟩
theorem DueAt.keep {H H' : Hp} {d : V} {o : Option (List V)} (h : DueAt H d o) (k : Same H H') : DueAt H' d o := by
  cases o with
  | none => exact h
  | some ys =>
    obtain ⟨p, rfl, hp⟩ := h
    exact ⟨p, rfl, k _ _ hp⟩
def dueP (size : Int) (r : Str) : PyData := if isRule r = false then .tuple [.bool true, .bool false, .str r] else .tuple [.bool false, .bool true, .int size]
theorem dueP_dt {C : List Cell} {p : Addr} {size : Int} {r : Str} {ys : List V} (h : dueR size r = some ys) (hp : (p, HO.tup ys) ∈ C) : Dt C (.ref p) (dueP size r) := by
  unfold dueR at h
  unfold dueP
  split at h
  · rename_i e
    cases h
    rw [if_pos e]
    exact .tup hp (.cons (.bl _) (.cons (.bl _) (.cons (.str _) .nil)))
  · rename_i e
    split at h
    · cases h
      rw [if_neg e]
      exact .tup hp (.cons (.bl _) (.cons (.bl _) (.cons (.int _) .nil)))
    · cases h
theorem dueP_ok {size : Int} {r : Str} (h1 : size.natAbs < 2 ^ 200) (h2 : TxtOk r) : okD 2 (dueP size r) := by
  unfold dueP
  split
  · exact ⟨trivial, trivial, ⟨h2.1, h2.2.1⟩, trivial⟩
  · exact ⟨trivial, trivial, h1, trivial⟩
section
variable {P : Program} {w : World} {K : PySem.W.Frag} {mg : Str → Option Value} {base : Heap} {a : Adr}
theorem kb_NoRoom (T : Txt K mg a) : KBinds K a.d_NoRoom___init__ ["self", "what"] ["what"] g11 g11 := by
  obtain ⟨oc, od, kV, doc, pm, an, cdv, ct, osl, e, lk, hcd⟩ := T.f_NoRoom___init__.ex
  refine ⟨fun s us ws _ hl => ?_, fun {vs us zs ws} r q => ?_⟩
  · obtain ⟨x, y, rfl, rfl⟩ := g11_len hl
    rw [e]
    exact .of_eq rfl
  · rcases r with _ | ⟨r1, _ | ⟨r2, r3⟩⟩ <;> rcases q with _ | ⟨q1, _ | ⟨q2, q3⟩⟩ <;> first | exact .nil | exact .cons r1 (.cons q1 .nil)
theorem faultsD (T : Txt K mg a) : ∃ kt : Tok, Binds K a.d_faults ["trace", "room", "rule"] [Value.str "last" kt] := by
  obtain ⟨kt, h⟩ := T.dv_faults
  refine ⟨kt, fun s us X hl => ?_⟩
  rcases us with _ | ⟨x, _ | ⟨y, _ | ⟨z, r⟩⟩⟩
  · simp at hl
  · simp at hl
  · exact h s x y X
  · simp at hl
def spLaw (p : Addr) (K : PySem.W.Frag) : Sp := fun vs H Q _ => ∃ (s : Addr) (ns : List Int), vs = [.ref s] ∧ SqL K H s (ns.map V.int) ∧ ns.length ≤ 63 ∧ H p = some (.tbl #[]) ∧ ∀ H', Q (.bl true) H'
theorem ok_law (T : Txt K mg a) (hbm : BMain mg base) : FnOk P w K mg base CX0 20 a.a_law a.d_law ["script"] (spLaw a.p_Ahead_farthest K) := by
  refine T.f_law.ok S_law (fun vs H Q E h => ?_) (fun cdv A outer s H vs Q E hr h => ?_)
  · obtain ⟨sc, ns, rfl, _⟩ := h
    rfl
  · obtain ⟨sc, ns, rfl, hS, hlen, htb, k⟩ := h
    have lt0 : LamTab a.p_Ahead_farthest farPos farQual H := .inl htb
    obtain ⟨kf, bF⟩ := faultsD T
    refine ⟨_, (@pss_cons _ _ _ _ _ (@ps_asg _ _ _ _ _ _ (@pe_call _ _ _ _ _ _ _ _ _ _ _ _ _ _ _ _ (ok_law_deck T) (hr.mono (by first | decide | omega)) (by rfl) T.g_law_deck T.f_law_deck.kp (b_law_deck T) .nil pass0 (@pa_cons _ _ _ _ _ (@pv _ 0 _ _ (by rfl) (by first | exact Or.inl rfl | exact Or.inr (Or.inl rfl) | exact Or.inr (Or.inr rfl)) (by decide) (by decide)) (@pa_nil _) (by rfl)) (by decide) (by rfl) (by rfl)) (@pg_name _ _ (1) _ S_law.nd rfl (by first | exact Or.inl rfl | exact Or.inr rfl) (by first | exact .inl rfl | exact .inr rfl | assumption)) (by rfl) (by rfl) (by rfl)) (@pss_cons _ _ _ _ _ (@ps_for _ _ _ _ _ _ _ _ PassesOwn.never rfl (@pi_range1 _ _ _ _ _ _ (by rfl) T.n_range (@pa_cons _ _ _ _ _ (@pe_op _ _ _ _ _ _ _ _ op_add (@pe_int _ _ _ _) (@pe_callB _ _ _ _ _ _ _ _ _ (call_min2 rfl) (by rfl) T.n_min (by decide +kernel) (@pa_cons _ _ _ _ _ (@pe_int _ _ _ _) (@pa_cons _ _ _ _ _ (@pe_callB _ _ _ _ _ _ _ _ _ call_len_seq (by rfl) T.n_len (by decide +kernel) (@pa_cons _ _ _ _ _ (@pv _ 0 _ _ (by rfl) (by first | exact Or.inl rfl | exact Or.inr (Or.inl rfl) | exact Or.inr (Or.inr rfl)) (by decide) (by decide)) (@pa_nil _) (by rfl)) (by decide) (by decide) (by rfl) (by rfl)) (@pa_nil _) (by rfl)) (by rfl)) (by decide) (by decide) (by rfl) (by rfl))) (@pa_nil _) (by rfl)) (by rfl)) (@pg_name _ _ (2) _ S_law.nd rfl (by first | exact Or.inl rfl | exact Or.inr rfl) (by first | exact .inl rfl | exact .inr rfl | assumption)) (@pss_cons _ _ _ _ _ (@ps_asg _ _ _ _ _ _ (@pe_call _ _ _ _ _ _ _ _ _ _ _ _ _ _ _ _ (ok_law_trace T) (hr.mono (by first | decide | omega)) (by rfl) T.g_law_trace T.f_law_trace.kp (b_law_trace T) .nil pass0 (@pa_cons _ _ _ _ _ (@pv _ 1 _ _ (by rfl) (by first | exact Or.inl rfl | exact Or.inr (Or.inl rfl) | exact Or.inr (Or.inr rfl)) (by decide) (by decide)) (@pa_cons _ _ _ _ _ (@pe_int _ _ _ _) (@pa_nil _) (by rfl)) (by rfl)) (by decide) (by rfl) (by rfl)) (@pg_name _ _ (3) _ S_law.nd rfl (by first | exact Or.inl rfl | exact Or.inr rfl) (by first | exact .inl rfl | exact .inr rfl | assumption)) (by rfl) (by rfl) (by rfl)) (@pss_cons _ _ _ _ _ (@ps_asg _ _ _ _ _ _ (@pe_ix _ _ _ _ _ _ _ ix_list (@pe_lst _ _ _ _ (@pa_cons _ _ _ _ _ (@pe_op _ _ _ _ _ _ _ _ op_add (@pe_int _ _ _ _) (@pe_call _ _ _ _ _ _ _ _ _ _ _ _ _ _ _ _ (ok_law_take T) (hr.mono (by first | decide | omega)) (by rfl) T.g_law_take T.f_law_take.kp (b_law_take T) .nil pass0 (@pa_cons _ _ _ _ _ (@pv _ 1 _ _ (by rfl) (by first | exact Or.inl rfl | exact Or.inr (Or.inl rfl) | exact Or.inr (Or.inr rfl)) (by decide) (by decide)) (@pa_cons _ _ _ _ _ (@pe_int _ _ _ _) (@pa_nil _) (by rfl)) (by rfl)) (by decide) (by rfl) (by rfl))) (@pa_cons _ _ _ _ _ (@pe_int _ _ _ _) (@pa_cons _ _ _ _ _ (@pe_un _ _ _ _ _ _ un_neg (@pe_int _ _ _ _)) (@pa_cons _ _ _ _ _ (@pe_op _ _ _ _ _ _ _ _ op_sub (@pe_int _ _ _ _) (@pe_call _ _ _ _ _ _ _ _ _ _ _ _ _ _ _ _ (ok_law_take T) (hr.mono (by first | decide | omega)) (by rfl) T.g_law_take T.f_law_take.kp (b_law_take T) .nil pass0 (@pa_cons _ _ _ _ _ (@pv _ 1 _ _ (by rfl) (by first | exact Or.inl rfl | exact Or.inr (Or.inl rfl) | exact Or.inr (Or.inr rfl)) (by decide) (by decide)) (@pa_cons _ _ _ _ _ (@pe_int _ _ _ _) (@pa_nil _) (by rfl)) (by rfl)) (by decide) (by rfl) (by rfl))) (@pa_cons _ _ _ _ _ (@pe_op _ _ _ _ _ _ _ _ op_sub (@pe_int _ _ _ _) (@pe_op _ _ _ _ _ _ _ _ op_pow (@pe_int _ _ _ _) (@pe_int _ _ _ _))) (@pa_nil _) (by rfl)) (by rfl)) (by rfl)) (by rfl)) (by rfl))) (@pe_call _ _ _ _ _ _ _ _ _ _ _ _ _ _ _ _ (ok_law_take T) (hr.mono (by first | decide | omega)) (by rfl) T.g_law_take T.f_law_take.kp (b_law_take T) .nil pass0 (@pa_cons _ _ _ _ _ (@pv _ 1 _ _ (by rfl) (by first | exact Or.inl rfl | exact Or.inr (Or.inl rfl) | exact Or.inr (Or.inr rfl)) (by decide) (by decide)) (@pa_cons _ _ _ _ _ (@pe_int _ _ _ _) (@pa_nil _) (by rfl)) (by rfl)) (by decide) (by rfl) (by rfl)) (fun _ _ => rfl)) (@pg_name _ _ (4) _ S_law.nd rfl (by first | exact Or.inl rfl | exact Or.inr rfl) (by first | exact .inl rfl | exact .inr rfl | assumption)) (by rfl) (by rfl) (by rfl)) (@pss_cons _ _ _ _ _ (@ps_asg _ _ _ _ _ _ (@pe_ix _ _ _ _ _ _ _ ix_list (@pe_lst _ _ _ _ (@pa_cons _ _ _ _ _ (@pe_str _ _ _ _) (@pa_cons _ _ _ _ _ (@pe_str _ _ _ _) (@pa_cons _ _ _ _ _ (@pe_str _ _ _ _) (@pa_cons _ _ _ _ _ (@pe_str _ _ _ _) (@pa_nil _) (by rfl)) (by rfl)) (by rfl)) (by rfl))) (@pe_call _ _ _ _ _ _ _ _ _ _ _ _ _ _ _ _ (ok_law_take T) (hr.mono (by first | decide | omega)) (by rfl) T.g_law_take T.f_law_take.kp (b_law_take T) .nil pass0 (@pa_cons _ _ _ _ _ (@pv _ 1 _ _ (by rfl) (by first | exact Or.inl rfl | exact Or.inr (Or.inl rfl) | exact Or.inr (Or.inr rfl)) (by decide) (by decide)) (@pa_cons _ _ _ _ _ (@pe_int _ _ _ _) (@pa_nil _) (by rfl)) (by rfl)) (by decide) (by rfl) (by rfl)) (fun _ _ => rfl)) (@pg_name _ _ (5) _ S_law.nd rfl (by first | exact Or.inl rfl | exact Or.inr rfl) (by first | exact .inl rfl | exact .inr rfl | assumption)) (by rfl) (by rfl) (by rfl)) (@pss_cons _ _ _ _ _ (@ps_asg _ _ _ _ _ _ (@pe_non _ _ _) (@pg_name _ _ (6) _ S_law.nd rfl (by first | exact Or.inl rfl | exact Or.inr rfl) (by first | exact .inl rfl | exact .inr rfl | assumption)) (by rfl) (by rfl) (by rfl)) (@pss_cut _ _ _ _ _ (@ps_if _ _ _ _ _ _ _ _ (@pt_cmpR _ _ _ _ _ _ _ _ op_lt (@pv _ 4 _ _ (by rfl) (by first | exact Or.inl rfl | exact Or.inr (Or.inl rfl) | exact Or.inr (Or.inr rfl)) (by decide) (by decide)) (@pe_int _ _ _ _) (nomark _)) (@pss_one _ _ _ (@ps_asg _ _ _ _ _ _ (@pe_tup _ _ _ _ _ (@pa_cons _ _ _ _ _ (@pe_bl _ _ _ _) (@pa_cons _ _ _ _ _ (@pe_bl _ _ _ _) (@pa_cons _ _ _ _ _ (@pv _ 4 _ _ (by rfl) (by first | exact Or.inl rfl | exact Or.inr (Or.inl rfl) | exact Or.inr (Or.inr rfl)) (by decide) (by decide)) (@pa_nil _) (by rfl)) (by rfl)) (by rfl))) (@pg_name _ _ (6) _ S_law.nd rfl (by first | exact Or.inl rfl | exact Or.inr rfl) (by first | exact .inl rfl | exact .inr rfl | assumption)) (by rfl) (by rfl) (by rfl))) (@pss_nil _)) (@pss_cut _ _ _ _ _ (@ps_if _ _ _ _ _ _ _ _ (@pt_cmpR _ _ _ _ _ _ _ _ op_eq (@pe_call _ _ _ _ _ _ _ _ _ _ _ _ _ _ _ _ (ok_law_take T) (hr.mono (by first | decide | omega)) (by rfl) T.g_law_take T.f_law_take.kp (b_law_take T) .nil pass0 (@pa_cons _ _ _ _ _ (@pv _ 1 _ _ (by rfl) (by first | exact Or.inl rfl | exact Or.inr (Or.inl rfl) | exact Or.inr (Or.inr rfl)) (by decide) (by decide)) (@pa_cons _ _ _ _ _ (@pe_int _ _ _ _) (@pa_nil _) (by rfl)) (by rfl)) (by decide) (by rfl) (by rfl)) (@pe_int _ _ _ _) (nomark _)) (@pss_cons _ _ _ _ _ (@ps_asg _ _ _ _ _ _ (@pe_call _ _ _ _ _ _ _ _ _ _ _ _ _ _ _ _ (ok_law_odd_rule T) (hr.mono (by first | decide | omega)) (by rfl) T.g_law_odd_rule T.f_law_odd_rule.kp (b_law_odd_rule T) .nil pass0 (@pa_cons _ _ _ _ _ (@pv _ 1 _ _ (by rfl) (by first | exact Or.inl rfl | exact Or.inr (Or.inl rfl) | exact Or.inr (Or.inr rfl)) (by decide) (by decide)) (@pa_nil _) (by rfl)) (by decide) (by rfl) (by rfl)) (@pg_name _ _ (5) _ S_law.nd rfl (by first | exact Or.inl rfl | exact Or.inr rfl) (by first | exact .inl rfl | exact .inr rfl | assumption)) (by rfl) (by rfl) (by rfl)) (@pss_one _ _ _ (@ps_asg _ _ _ _ _ _ (@pe_tup _ _ _ _ _ (@pa_cons _ _ _ _ _ (@pe_bl _ _ _ _) (@pa_cons _ _ _ _ _ (@pe_bl _ _ _ _) (@pa_cons _ _ _ _ _ (@pv _ 5 _ _ (by rfl) (by first | exact Or.inl rfl | exact Or.inr (Or.inl rfl) | exact Or.inr (Or.inr rfl)) (by decide) (by decide)) (@pa_nil _) (by rfl)) (by rfl)) (by rfl))) (@pg_name _ _ (6) _ S_law.nd rfl (by first | exact Or.inl rfl | exact Or.inr rfl) (by first | exact .inl rfl | exact .inr rfl | assumption)) (by rfl) (by rfl) (by rfl)))) (@pss_nil _)) (@pss_cons _ _ _ _ _ (@ps_asg _ _ _ _ _ _ (@pe_callTy _ _ _ _ _ _ _ _ _ call_list_of (by rfl) T.n_list (by decide +kernel) (@pa_cons _ _ _ _ _ (@pv _ 3 _ _ (by rfl) (by first | exact Or.inl rfl | exact Or.inr (Or.inl rfl) | exact Or.inr (Or.inr rfl)) (by decide) (by decide)) (@pa_nil _) (by rfl)) (by decide) (by decide) (by rfl) (by rfl)) (@pg_name _ _ (7) _ S_law.nd rfl (by first | exact Or.inl rfl | exact Or.inr rfl) (by first | exact .inl rfl | exact .inr rfl | assumption)) (by rfl) (by rfl) (by rfl)) (@pss_cons _ _ _ _ _ (@ps_for _ _ _ _ _ _ _ _ PassesOwn.never rfl (@pi_range1 _ _ _ _ _ _ (by rfl) T.n_range (@pa_cons _ _ _ _ _ (@pe_int _ _ _ _) (@pa_nil _) (by rfl)) (by rfl)) (@pg_name _ _ (8) _ S_law.nd rfl (by first | exact Or.inl rfl | exact Or.inr rfl) (by first | exact .inl rfl | exact .inr rfl | assumption)) (@pss_one _ _ _ (@ps_if _ _ _ _ _ _ _ _ (PW.pt (@pw_or _ _ _ _ _ _ _ (@pt_cmpR _ _ _ _ _ _ _ _ (op_neD hr.units) (@pe_call _ _ _ _ _ _ _ _ _ _ _ _ _ _ _ _ (ok_law_refusal T hbm) (hr.mono (by first | decide | omega)) (by rfl) T.g_law_refusal T.f_law_refusal.kp (b_law_refusal T) .nil pass0 (@pa_cons _ _ _ _ _ (@pv _ 7 _ _ (by rfl) (by first | exact Or.inl rfl | exact Or.inr (Or.inl rfl) | exact Or.inr (Or.inr rfl)) (by decide) (by decide)) (@pa_cons _ _ _ _ _ (@pv _ 4 _ _ (by rfl) (by first | exact Or.inl rfl | exact Or.inr (Or.inl rfl) | exact Or.inr (Or.inr rfl)) (by decide) (by decide)) (@pa_cons _ _ _ _ _ (@pv _ 5 _ _ (by rfl) (by first | exact Or.inl rfl | exact Or.inr (Or.inl rfl) | exact Or.inr (Or.inr rfl)) (by decide) (by decide)) (@pa_cons _ _ _ _ _ (@pv _ 8 _ _ (by rfl) (by first | exact Or.inl rfl | exact Or.inr (Or.inl rfl) | exact Or.inr (Or.inr rfl)) (by decide) (by decide)) (@pa_nil _) (by rfl)) (by rfl)) (by rfl)) (by rfl)) (by decide) (by rfl) (by rfl)) (@pv _ 6 _ _ (by rfl) (by first | exact Or.inl rfl | exact Or.inr (Or.inl rfl) | exact Or.inr (Or.inr rfl)) (by decide) (by decide)) (nomark _)) (@pw_or1 _ _ _ _ (@pt_cmpR _ _ _ _ _ _ _ _ (op_neD hr.units) (@pv _ 7 _ _ (by rfl) (by first | exact Or.inl rfl | exact Or.inr (Or.inl rfl) | exact Or.inr (Or.inr rfl)) (by decide) (by decide)) (@pv _ 3 _ _ (by rfl) (by first | exact Or.inl rfl | exact Or.inr (Or.inl rfl) | exact Or.inr (Or.inr rfl)) (by decide) (by decide)) (nomark _))))) (@pss_one _ _ _ (@ps_ret _ _ _ _ (@pe_bl _ _ _ _))) (@pss_nil _))) (by intro _; rfl)) (@pss_one _ _ _ (@ps_if _ _ _ _ _ _ _ _ (@pt_cmpR _ _ _ _ _ _ _ _ op_ne (@pe_call _ _ _ _ _ _ _ ([V.str "last"]) _ _ _ _ _ _ _ _ (ok_faults T hbm) (hr.mono (by first | decide | omega)) (by rfl) T.g_faults T.f_faults.kp bF (.cons ⟨kf, rfl⟩ .nil) pass0 (@pa_cons _ _ _ _ _ (@pv _ 7 _ _ (by rfl) (by first | exact Or.inl rfl | exact Or.inr (Or.inl rfl) | exact Or.inr (Or.inr rfl)) (by decide) (by decide)) (@pa_cons _ _ _ _ _ (@pe_int _ _ _ _) (@pa_nil _) (by rfl)) (by rfl)) (by decide) (by rfl) (by rfl)) (@pe_callB _ _ _ _ _ _ _ _ _ call_lenS (by rfl) T.n_len (by decide +kernel) (@pa_cons _ _ _ _ _ (@pe_callTy _ _ _ _ _ _ _ _ _ (call_setOf hr.hd) (by rfl) T.n_set (by decide +kernel) (@pa_cons _ _ _ _ _ (@pv _ 3 _ _ (by rfl) (by first | exact Or.inl rfl | exact Or.inr (Or.inl rfl) | exact Or.inr (Or.inr rfl)) (by decide) (by decide)) (@pa_nil _) (by rfl)) (by decide) (by decide) (by rfl) (by rfl)) (@pa_nil _) (by rfl)) (by decide) (by decide) (by rfl) (by rfl)) (nomark _)) (@pss_one _ _ _ (@ps_ret _ _ _ _ (@pe_bl _ _ _ _))) (@pss_nil _))))))))))) (by intro _; rfl)) (@pss_one _ _ _ (@ps_ret _ _ _ _ (@pe_and _ _ _ _ _ _ _ (@pe_cmpR _ _ _ _ _ _ _ _ op_eq (pe_nfld (@pe_emake _ _ _ _ _ _ _ _ _ _ _ _ _ _ _ _ _ T.e_NoRule (ok_NoRule_init T) (hr.mono (by decide)) rfl T.g_NoRule (b_NoRule___init__ T) .nil pass0 (@pa_cons _ _ _ _ _ (@pe_str _ _ _ _) (@pa_nil _) (by rfl)) (by decide) (by rfl) (by rfl)) rfl) (@pe_str _ _ _ _) (nomark _)) (@pe_one _ _ _ _ _ (@pe_cmpR _ _ _ _ _ _ _ _ op_eq (pe_nfld (pe_emakeK0 T.e_NoRoom (ok_NoRoom_init T) (hr.mono (by decide)) rfl T.g_NoRoom (kb_NoRoom T) pass0 (@pk_cons _ _ _ _ _ _ _ (@pe_int _ _ _ _) (@pk_nil _))) rfl) (@pe_int _ _ _ _) (nomark _)))))))), ?_⟩
    walk_at "go"
    refine ⟨sc, ns, rfl, hS, hlen, fun dk g H1 ndk ng D1 s1 => ?_⟩
    walk_at "go"
    refine ⟨sc, _, rfl, .inl (s1.seq hS), ?_⟩
    walk_at "go"
    refine ⟨8, _, rfl, ?_⟩
    obtain ⟨n, hn, hn0, hn1⟩ : ∃ n : Int, (if (((ns.map V.int).length : Nat) : Int) < 8 then (((ns.map V.int).length : Nat) : Int) else 8) = n ∧ 0 ≤ n ∧ n ≤ 8 := by
      refine ⟨_, rfl, ?_, ?_⟩ <;> split <;> omega
    rw [hn]
    walk_at "go"
    refine ⟨4 + n, rfl, by omega, by omega, for_range (lo := 0) (n := (4 + n).toNat) (fun i σ H2 => ∃ (v2 v3 v4 v5 v6 v7 v8 : Option V), σ = [some (.ref sc), some (.ref dk), v2, v3, v4, v5, v6, v7, v8] ∧ DeckAt H2 dk g (1000 * i) ∧ LamTab a.p_Ahead_farthest farPos farQual H2)
      ⟨none, none, none, none, none, none, none, rfl, D1.mono (by omega), lt0.keep s1⟩ ?_ ?_⟩
    · rintro i σ H2 hi ⟨v2, v3, v4, v5, v6, v7, v8, rfl, D2, lt2⟩
      have hi4 : i < 12 := by omega
      walk_at "go"
      refine ⟨dk, g, 1000 * i, 20, rfl, D2, by omega, by decide, by decide, fun l zs H3 nl l3 hl3 D3 k3 => ?_⟩
      have nl2 := D2.off nl
      have lt3 := lt2.deck D2 k3
      walk_at "go"
      refine ⟨dk, g, 1000 * i + 800, 9, rfl, D3, by decide, by decide, by omega, fun r1 H4 r10 r11 D4 k4 => ?_⟩
      have l4 := k4 _ _ l3 nl2
      have lt4 := lt3.deck D3 k4
      walk_at "go"
      refine ⟨dk, g, 1000 * i + 801, 300, rfl, D4.mono (by omega), by decide, by decide, by omega, fun r2 H5 r20 r21 D5 k5 => ?_⟩
      have l5 := k5 _ _ l4 nl2
      have lt5 := lt4.deck D4 k5
      walk_at "go"
      refine rd_i ⟨by decide, by decide, by decide⟩ ?_
      walk_at "go"
      refine ⟨(show 5 ≤ sizeLine by decide), fun y1 hy1 => ?_⟩
      have sy := same_new (o := .lst [.int (1 + r1), .int 0, .int (-1), .int (0 - r2), .int (0 - 10 ^ (9 : Int).toNat)]) hy1
      have y5 : upd H5 y1 (.lst [.int (1 + r1), .int 0, .int (-1), .int (0 - r2), .int (0 - 10 ^ (9 : Int).toNat)]) y1 = some (.lst ([1 + r1, 0, -1, 0 - r2, 0 - 10 ^ (9 : Int).toNat].map V.int)) := upd_same
      have l6 := sy _ _ l5
      have D6 := D5.keep sy
      have lt6 := lt5.keep sy
      have ny := D5.off hy1
      generalize upd H5 y1 _ = H6 at *
      walk_at "go"
      refine ⟨dk, g, 1000 * i + 802, 5, rfl, D6.mono (by omega), by decide, by decide, by omega, fun r3 H7 r30 r31 D7 k7 => ?_⟩
      have y7 := k7 _ _ y5 ny
      have l7 := k7 _ _ l6 nl2
      have lt7 := lt6.deck D6 k7
      obtain ⟨m, hat, hm⟩ : ∃ m : Int, atI ([1 + r1, 0, -1, 0 - r2, 0 - 10 ^ (9 : Int).toNat].map V.int) r3 = some (.int m) ∧ m.natAbs ≤ 2000000000 ∧ m ≤ 9 := by
        have e9 : (10 : Int) ^ (9 : Int).toNat = 1000000000 := by decide
        rw [e9]
        obtain rfl | rfl | rfl | rfl | rfl : r3 = 0 ∨ r3 = 1 ∨ r3 = 2 ∨ r3 = 3 ∨ r3 = 4 := by omega
        · exact ⟨_, rfl, by omega, by omega⟩
        · exact ⟨_, rfl, by omega, by omega⟩
        · exact ⟨_, rfl, by omega, by omega⟩
        · exact ⟨_, rfl, by omega, by omega⟩
        · exact ⟨_, rfl, by omega, by omega⟩
      refine rd_ixl (SqL.of y7) hat ?_
      walk_at "go"
      refine ⟨(show 4 ≤ sizeLine by decide), fun y2 hy2 => ?_⟩
      have sz := same_new (o := .lst [.str "first", .str "last", .str "clock", .str "far"]) hy2
      have y8 : upd H7 y2 (.lst [.str "first", .str "last", .str "clock", .str "far"]) y2 = some (.lst [.str "first", .str "last", .str "clock", .str "far"]) := upd_same
      have l8 := sz _ _ l7
      have D8 := D7.keep sz
      have lt8 := lt7.keep sz
      have ny2 := D7.off hy2
      generalize upd H7 y2 _ = H8 at *
      walk_at "go"
      refine ⟨dk, g, 1000 * i + 803, 4, rfl, D8.mono (by omega), by decide, by decide, by omega, fun r4 H9 r40 r41 D9 k9 => ?_⟩
      have y9 := k9 _ _ y8 ny2
      have l9 := k9 _ _ l8 nl2
      have lt9 := lt8.deck D8 k9
      obtain ⟨by', hat2, hby⟩ : ∃ z : Str, atI [V.str "first", .str "last", .str "clock", .str "far"] r4 = some (.str z) ∧ (isRule z = true ∧ TxtOk z) := by
        obtain rfl | rfl | rfl | rfl : r4 = 0 ∨ r4 = 1 ∨ r4 = 2 ∨ r4 = 3 := by omega
        · exact ⟨_, rfl, by decide +kernel, by decide +kernel⟩
        · exact ⟨_, rfl, by decide +kernel, by decide +kernel⟩
        · exact ⟨_, rfl, by decide +kernel, by decide +kernel⟩
        · exact ⟨_, rfl, by decide +kernel, by decide +kernel⟩
      refine rd_ixl (SqL.of y9) hat2 ?_
      walk_at "go"
      refine ⟨fun σ' H' => ∃ d : V, σ' = [some (.ref sc), some (.ref dk), some (.int (0 + (i : Nat))), some (.ref l), some (.int m), some (.str by'), some d, v7, v8] ∧ DueAt H' d (dueR m by') ∧ DeckAt H' dk g (1000 * i + 804) ∧ LamTab a.p_Ahead_farthest farPos farQual H' ∧ H' l = some (.lst (zs.map V.int)), ?_, ?_⟩
      · walk_at "go"
        refine iteD (fun z => ?_) (fun z => ?_)
        · walk_at "go"
          refine ⟨(show 3 ≤ sizeLine by decide), fun p hp => ?_⟩
          have sp := same_new (o := .tup [.bl false, .bl true, .int m]) hp
          walk_at "go"
          refine ⟨_, rfl, ?_, (D9.keep sp).mono (by omega), lt9.keep sp, sp _ _ l9⟩
          unfold dueR
          rw [if_neg (by rw [hby.1]; decide), if_pos z]
          exact ⟨p, rfl, upd_same⟩
        · walk_at "go"
          refine ⟨_, rfl, ?_, D9.mono (by omega), lt9, l9⟩
          unfold dueR
          rw [if_neg (by rw [hby.1]; decide), if_neg z]
          rfl
      rintro σ' HA ⟨d, rfl, hdA, DA, ltA, lA⟩
      walk_at "go"
      refine ⟨fun σ' H' => ∃ (d : V) (r : Str), σ' = [some (.ref sc), some (.ref dk), some (.int (0 + (i : Nat))), some (.ref l), some (.int m), some (.str r), some d, v7, v8] ∧ TxtOk r ∧ DueAt H' d (dueR m r) ∧ DeckAt H' dk g (1000 * i + 807) ∧ LamTab a.p_Ahead_farthest farPos farQual H' ∧ H' l = some (.lst (zs.map V.int)), ?_, ?_⟩
      · walk_at "go"
        refine ⟨dk, g, 1000 * i + 804, 2, rfl, DA, by decide, by decide, by omega, fun r5 HB r50 r51 DB kB => ?_⟩
        have lB := kB _ _ lA nl2
        have ltB := ltA.deck DA kB
        walk_at "go"
        refine iteD (fun z => ?_) (fun z => ?_)
        · walk_at "go"
          refine ⟨dk, g, 1000 * i + 805, rfl, DB.mono (by omega), by omega, fun r HC hr0 hr1 DC kC => ?_⟩
          have lC := kC _ _ lB nl2
          have ltC := ltB.deck DB kC
          walk_at "go"
          refine ⟨(show 3 ≤ sizeLine by decide), fun p hp => ?_⟩
          have sp := same_new (o := .tup [.bl true, .bl false, .str r]) hp
          walk_at "go"
          refine ⟨_, _, rfl, hr1, ?_, (DC.keep sp).mono (by omega), ltC.keep sp, sp _ _ lC⟩
          unfold dueR
          rw [if_pos hr0]
          exact ⟨p, rfl, upd_same⟩
        · walk_at "go"
          refine ⟨_, _, rfl, hby.2, ?_, DB.mono (by omega), ltB, lB⟩
          cases hd : dueR m by' with
          | none => rw [hd] at hdA; exact hdA
          | some ys =>
            rw [hd] at hdA
            obtain ⟨p, rfl, hp⟩ := hdA
            have np : p ∉ [dk, g] := by
              obtain ⟨_, _, _, e1, e2, _⟩ := id DA
              have n1 := ne_of hp e1 (by intro z; cases z)
              have n2 := ne_of hp e2 (by intro z; cases z)
              simp [n1, n2]
            exact ⟨p, rfl, kB _ _ hp np⟩
      rintro σ' HD ⟨d, r, rfl, hrt, hdD, DD, ltD, lD⟩
      walk_at "go"
      refine ⟨l, _, rfl, .inl (SqL.of lD), fun hd hhd => ?_⟩
      have sh := same_new (o := .lst (zs.map V.int)) hhd
      have hE : upd HD hd (.lst (zs.map V.int)) hd = some (.lst (zs.map V.int)) := upd_same
      have lE := sh _ _ lD
      have DE := DD.keep sh
      have ltE := ltD.keep sh
      have dE := hdD.keep sh
      generalize upd HD hd _ = HE at *
      walk_at "go"
      refine ⟨4, rfl, by omega, by omega, for_range (lo := 0) (n := (4 : Int).toNat) (fun j σ H' => ∃ w8 : Option V, σ = [some (.ref sc), some (.ref dk), some (.int (0 + (i : Nat))), some (.ref l), some (.int m), some (.str r), some d, some (.ref hd), w8] ∧ DueAt H' d (dueR m r) ∧ DeckAt H' dk g (1000 * i + 807) ∧ LamTab a.p_Ahead_farthest farPos farQual H' ∧ H' l = some (.lst (zs.map V.int)) ∧ H' hd = some (.lst (zs.map V.int)))
        ⟨_, rfl, dE, DE, ltE, lE, hE⟩ ?_ ?_⟩
      · rintro j σ HF hj ⟨w8, rfl, dF, DF, ltF, lF, hF⟩
        walk_at "go"
        have step : ∀ {H' : Hp}, Kp [a.p_Ahead_farthest] HF H' → H' l = some (.lst (zs.map V.int)) ∧ H' hd = some (.lst (zs.map V.int)) ∧ DueAt H' d (dueR m r) ∧ DeckAt H' dk g (1000 * i + 807) := fun kk => ⟨kk _ _ lF (by simpa using ltF.off (by rw [lF]; rfl)), kk _ _ hF (by simpa using ltF.off (by rw [hF]; rfl)), dF.kp ltF kk, DF.kp ltF kk⟩
        refine ⟨hd, zs, m, _, r, rfl, hF, by omega, ltF, hrt.2.2, fun hn HG kG ltG => ?_, fun ys hys p HG np pG sG => ?_⟩
        · obtain ⟨lG, hG, dG, DG⟩ := step kG
          obtain rfl : d = .non := by rw [hn] at dG; exact dG
          walk_at "go"
          refine rd_neSame (C := []) (d := .none) 0 (by simp) .non .non trivial (by decide) ?_
          walk_at "go"
          refine rd_neI hG lG ?_
          rw [decide_eq_true rfl]
          walk_at "go"
          exact ⟨_, rfl, dG, DG, ltG, lG, hG⟩
        · obtain ⟨lG, hG, dG, DG⟩ := step (Kp.of_same sG)
          obtain ⟨q, rfl, hq⟩ : ∃ q, d = .ref q ∧ HG q = some (.tup ys) := by rw [hys] at dG; exact dG
          walk_at "go"
          refine rd_neSame (C := [(p, .tup ys), (q, .tup ys)]) 2 (fun x hx => by rcases List.mem_cons.mp hx with rfl | hx; exact pG; rcases List.mem_cons.mp hx with rfl | hx; exact hq; cases hx) (dueP_dt hys (.head _)) (dueP_dt hys (.tail _ (.head _))) (dueP_ok (Nat.lt_of_le_of_lt hm.1 (by decide)) hrt) (by decide) ?_
          walk_at "go"
          refine rd_neI hG lG ?_
          rw [decide_eq_true rfl]
          walk_at "go"
          exact ⟨_, rfl, dG, DG, ltF.keep sG, lG, hG⟩
      · rintro σ HF ⟨w8, rfl, dF, DF, ltF, lF, hF⟩
        walk_at "go"
        refine ⟨hd, 300, .L true, zs, rfl, hF, by omega, by omega, ltF, fun HG kG ltG => ?_⟩
        have lG := kG _ _ lF (by simpa using ltF.off (by rw [lF]; rfl))
        have DG := DF.kp ltF kG
        have hdl := dc_le zs
        rw [fit_all (.L true) zs (by omega) (by omega)]
        walk_at "go"
        refine ⟨l, zs, rfl, SqL.of lG, Nat.lt_of_le_of_lt (show zs.length + 1 ≤ 201 by omega) (by decide), fun q us hq hu hmem => ?_⟩
        rw [dc_of hu hmem]
        have sq := same_new (o := .set (fun k => us.any (· == k)) (dc zs)) hq
        have DI := DG.keep sq
        have ltI := ltG.keep sq
        have q5 : upd HG q (.set (fun k => us.any (· == k)) (dc zs)) q = some (.set (fun k => us.any (· == k)) (dc zs)) := upd_same
        generalize upd HG q _ = HI at *
        walk_at "go"
        refine ⟨q, _, _, rfl, q5, ?_⟩
        walk_at "go"
        (try refine rd_ne rfl ?_)
        walk_at "go"
        refine iteDn (fun w => absurd rfl w) (fun _ => ?_)
        walk_at "go"
        exact ⟨_, _, _, _, _, _, _, rfl, DI.mono (by omega), ltI⟩
    · rintro σ H2 ⟨v2, v3, v4, v5, v6, v7, v8, rfl, D2, lt2⟩
      walk_at "go"
      unfold tNFld tEMake
      walk_at "go"
      refine ⟨(show 1 ≤ sizeLine by decide), rd_nerr (Tr.start (H := H2)) T.e_NoRule T.na_NoRule_what fun H3 t3 => ?_⟩
      walk_at "go"
      refine rd_eq rfl ?_
      refine ⟨true, by simp, iteT ?_⟩
      walk_at "go"
      unfold tEMakeK
      walk_at "go"
      refine rd_nerr t3 T.e_NoRoom T.na_NoRoom_what fun H4 t4 => ?_
      walk_at "go"
      exact k H4
end
end
end
end Pg
open PySem PySem.W PyProof.Rows
set_option maxRecDepth 100000 in
set_option maxHeartbeats 0 in
theorem PySem.Challenge.cw_pagerooms_k04_no_rules_and_no_rooms_holds : PySem.Challenge.rw_pagerooms_k04_no_rules_and_no_rooms.Holds := by
  w_on; o_law; k_head; (case hw => w_witness2)
  k_fill
  refine Pg.walk_ofT (l := PySem.Challenge.rw_pagerooms_k04_no_rules_and_no_rooms) (n := 63) (k := 20) (x := "script") (CX := L2.CX0) (sp := Pg.spLaw 266) 266 rfl (by decide) rfl ⟨rfl, by decide, by decide, rfl⟩ (fun w h Y => ⟨PySem.W.km_in_of Y, PySem.W.km_tabs_of Y 266 (by decide)⟩) ?F (fun K H a ns h1 h2 h3 => ⟨a, ns, rfl, h3, h1, h2.1, fun _ => rfl⟩) (fun _ _ _ _ z => z)
  case F =>
    intro w mg fa h KX G hmg
    have TT : ∃ a : Pg.Adr, Pg.Txt (L2.KOf KX) mg a ∧ a.a_law = fa ∧ (∀ (s : Shared) (v : Value), BindsTo s a.d_law ⟨[v], []⟩ [("script", v)]) ∧ a.p_Ahead_farthest = 266 ∧ PySem.W.codeHdIn (L2.KOf KX) a.c_Ahead_farthest 266 = true ∧ (L2.KOf KX).lookup 266 = none := by
      dsimp only [L2.KOf]
      refine' Pg.txt_mk (pp9 := 266) KX G hmg ?hC0 ?hC1 ?hC2 ?hE0 ?hE1 ?hE2 ?hE3 ?hE4 ?hE5 ?hE6 ?hE7 ?hE8 ?hf0 ?hi0 ?hl0 ?hc0 ?hk0 ?hf1 ?hi1 ?hl1 ?hc1 ?hk1 ?hf2 ?hi2 ?hl2 ?hc2 ?hk2 ?hf3 ?hi3 ?hl3 ?hc3 ?hk3 ?hf4 ?hi4 ?hl4 ?hc4 ?hk4 ?hf5 ?hi5 ?hl5 ?hc5 ?hk5 ?hf6 ?hi6 ?hl6 ?hc6 ?hk6 ?hf7 ?hi7 ?hl7 ?hc7 ?hk7 ?hf8 ?hi8 ?hl8 ?hc8 ?hk8 ?hf9 ?hi9 ?hl9 ?hc9 ?hh9 ?hn9 ?hk9 ?hf10 ?hl10 ?hc10 ?hk10 ?hf11 ?hl11 ?hc11 ?hk11 ?hf12 ?hl12 ?hc12 ?hk12 ?hf13 ?hl13 ?hc13 ?hk13 ?hf14 ?hl14 ?ho14 ?hd14 ?hw14 ?hc14 ?hk14 ?hf15 ?hl15 ?ho15 ?hd15 ?hw15 ?hc15 ?hk15 ?hf16 ?hl16 ?hc16 ?hk16 ?hf17 ?hl17 ?hc17 ?hk17 ?hf18 ?hl18 ?hc18 ?hk18 ?hf19 ?hl19 ?hc19 ?hk19 ?hf20 ?hl20 ?hc20 ?hk20 ?hf21 ?hl21 ?hc21 ?hk21 ?hf22 ?hl22 ?hc22 ?hk22 ?p0 ?q0 ?r0 ?u0 ?v0 ?w0 ?x0_0 ?x0_1 ?x0_2 ?p1 ?q1 ?r1 ?u1 ?v1 ?w1 ?x1_0 ?x1_1 ?x1_2 ?x1_3 ?x1_4 ?p2 ?q2 ?r2 ?u2 ?v2 ?w2 ?x2_0 ?x2_1 ?x2_2 ?x2_3 ?kea0 ?eb0 ?ec0 ?ked0 ?ee0 ?ef0 ?eg0 ?eh0 ?ei0 ?kej0 ?ek0 ?kea1 ?eb1 ?ec1 ?ked1 ?ee1 ?ef1 ?eg1 ?eh1 ?ei1 ?kej1 ?ek1 ?el ?em ?en ?keo0 ?keo1 ?keo2 ?keo3 ?keo4 ?keo5 ?keo6 ?keo7 ?keo8 ?keo9 ?keo10 ?y0 ?y1 ?y2 ?y3 ?y4 ?y5 ?y6 ?y7 ?y8 ?y9 ?z0 ?zl0
      (case hC0 => k_is)
      (case hC1 => k_is)
      (case hC2 => k_is)
      (case hE0 => k_is)
      (case hE1 => k_is)
      (case hE2 => k_is)
      (case hE3 => k_is)
      (case hE4 => k_is)
      (case hE5 => k_is)
      (case hE6 => k_is)
      (case hE7 => k_is)
      (case hE8 => k_is)
      (case hf0 => k_is)
      (case hi0 => k_is)
      (case hl0 => k_is)
      (case hc0 => k_is)
      (case hk0 => k_is)
      (case hf1 => k_is)
      (case hi1 => k_is)
      (case hl1 => k_is)
      (case hc1 => k_is)
      (case hk1 => k_is)
      (case hf2 => k_is)
      (case hi2 => k_is)
      (case hl2 => k_is)
      (case hc2 => k_is)
      (case hk2 => k_is)
      (case hf3 => k_is)
      (case hi3 => k_is)
      (case hl3 => k_is)
      (case hc3 => k_is)
      (case hk3 => k_is)
      (case hf4 => k_is)
      (case hi4 => k_is)
      (case hl4 => k_is)
      (case hc4 => k_is)
      (case hk4 => k_is)
      (case hf5 => k_is)
      (case hi5 => k_is)
      (case hl5 => k_is)
      (case hc5 => k_is)
      (case hk5 => k_is)
      (case hf6 => k_is)
      (case hi6 => k_is)
      (case hl6 => k_is)
      (case hc6 => k_is)
      (case hk6 => k_is)
      (case hf7 => k_is)
      (case hi7 => k_is)
      (case hl7 => k_is)
      (case hc7 => k_is)
      (case hk7 => k_is)
      (case hf8 => k_is)
      (case hi8 => k_is)
      (case hl8 => k_is)
      (case hc8 => k_is)
      (case hk8 => k_is)
      (case hf9 => k_is)
      (case hi9 => k_is)
      (case hl9 => k_is)
      (case hc9 => k_is)
      (case hh9 => first | k_is | kernel_rfl)
      (case hn9 => first | k_is | kernel_rfl)
      (case hk9 => k_is)
      (case hf10 => k_is)
      (case hl10 => k_is)
      (case hc10 => k_is)
      (case hk10 => k_is)
      (case hf11 => k_is)
      (case hl11 => k_is)
      (case hc11 => k_is)
      (case hk11 => k_is)
      (case hf12 => k_is)
      (case hl12 => k_is)
      (case hc12 => k_is)
      (case hk12 => k_is)
      (case hf13 => k_is)
      (case hl13 => k_is)
      (case hc13 => k_is)
      (case hk13 => k_is)
      (case hf14 => k_is)
      (case hl14 => k_is)
      (case ho14 => first | k_is | kernel_rfl)
      (case hd14 => k_is)
      (case hw14 => (intros; first | kernel_rfl | rfl))
      (case hc14 => k_is)
      (case hk14 => k_is)
      (case hf15 => k_is)
      (case hl15 => k_is)
      (case ho15 => first | k_is | kernel_rfl)
      (case hd15 => k_is)
      (case hw15 => (intros; first | kernel_rfl | rfl))
      (case hc15 => k_is)
      (case hk15 => k_is)
      (case hf16 => k_is)
      (case hl16 => k_is)
      (case hc16 => k_is)
      (case hk16 => k_is)
      (case hf17 => k_is)
      (case hl17 => k_is)
      (case hc17 => k_is)
      (case hk17 => k_is)
      (case hf18 => k_is)
      (case hl18 => k_is)
      (case hc18 => k_is)
      (case hk18 => k_is)
      (case hf19 => k_is)
      (case hl19 => k_is)
      (case hc19 => k_is)
      (case hk19 => k_is)
      (case hf20 => k_is)
      (case hl20 => k_is)
      (case hc20 => k_is)
      (case hk20 => k_is)
      (case hf21 => k_is)
      (case hl21 => k_is)
      (case hc21 => k_is)
      (case hk21 => k_is)
      (case hf22 => k_is)
      (case hl22 => k_is)
      (case hc22 => k_is)
      (case hk22 => k_is)
      (case p0 => k_is)
      (case q0 => k_is)
      (case r0 => k_is)
      (case u0 => k_is)
      (case v0 => k_is)
      (case w0 => k_is)
      (case x0_0 => k_is)
      (case x0_1 => k_is)
      (case x0_2 => k_is)
      (case p1 => k_is)
      (case q1 => k_is)
      (case r1 => k_is)
      (case u1 => k_is)
      (case v1 => k_is)
      (case w1 => k_is)
      (case x1_0 => k_is)
      (case x1_1 => k_is)
      (case x1_2 => k_is)
      (case x1_3 => k_is)
      (case x1_4 => k_is)
      (case p2 => k_is)
      (case q2 => k_is)
      (case r2 => k_is)
      (case u2 => k_is)
      (case v2 => k_is)
      (case w2 => k_is)
      (case x2_0 => k_is)
      (case x2_1 => k_is)
      (case x2_2 => k_is)
      (case x2_3 => k_is)
      (case kea0 => first | k_is | kernel_rfl)
      (case eb0 => k_is)
      (case ec0 => k_is)
      (case ked0 => first | k_is | kernel_rfl)
      (case ee0 => k_is)
      (case ef0 => k_is)
      (case eg0 => k_is)
      (case eh0 => k_is)
      (case ei0 => k_is)
      (case kej0 => first | k_is | kernel_rfl)
      (case ek0 => k_is)
      (case kea1 => first | k_is | kernel_rfl)
      (case eb1 => k_is)
      (case ec1 => k_is)
      (case ked1 => first | k_is | kernel_rfl)
      (case ee1 => k_is)
      (case ef1 => k_is)
      (case eg1 => k_is)
      (case eh1 => k_is)
      (case ei1 => k_is)
      (case kej1 => first | k_is | kernel_rfl)
      (case ek1 => k_is)
      (case el => k_is)
      (case em => k_is)
      (case en => k_is)
      (case keo0 => first | k_is | kernel_rfl)
      (case keo1 => first | k_is | kernel_rfl)
      (case keo2 => first | k_is | kernel_rfl)
      (case keo3 => first | k_is | kernel_rfl)
      (case keo4 => first | k_is | kernel_rfl)
      (case keo5 => first | k_is | kernel_rfl)
      (case keo6 => first | k_is | kernel_rfl)
      (case keo7 => first | k_is | kernel_rfl)
      (case keo8 => first | k_is | kernel_rfl)
      (case keo9 => first | k_is | kernel_rfl)
      (case keo10 => first | k_is | kernel_rfl)
      (case y0 => k_is)
      (case y1 => k_is)
      (case y2 => k_is)
      (case y3 => k_is)
      (case y4 => k_is)
      (case y5 => k_is)
      (case y6 => k_is)
      (case y7 => k_is)
      (case y8 => k_is)
      (case y9 => k_is)
      (case z0 => k_is)
      (case zl0 => k_is)
    obtain ⟨a, T, e, hb, ep, hc, hk⟩ := TT
    subst e
    exact ⟨a.d_law, a.c_Ahead_farthest, hb, hc, hk, fun base kb nb hbm => by rw [← ep]; exact Pg.ok_law T hbm⟩
