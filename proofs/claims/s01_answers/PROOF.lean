import PyProof.Rows.All
import Wide.All
import OpenK.AllK
import Wide.FinOn
import PyProof.EqAt
import PyProof.EqKinds
import PyProof.TupleCall
import KE.BitLaws
import Open.SpecLaws
import KE.OsHead
import KE.OsGo
import PySem.Challenge.RW_stepscommuted_s01_answers
section
set_option Elab.async false
set_option linter.all false
set_option maxRecDepth 100000
namespace L2
open PySem PySem.Spec PyProof.Rows

abbrev Key := Sum Int Str
def keyIs : Key → Value → Bool
  | .inl k, v => Value.isInt k v
  | .inr x, v => Value.isStrOf x v
def keyH (w : World) : Key → Int
  | .inl k => hashInt k
  | .inr x => hashStr w x
theorem keyIs_shape : ∀ {k : Key} {v : Value}, keyIs k v = true → (∃ i t, k = Sum.inl i ∧ v = Value.int i t) ∨ (∃ x t, k = Sum.inr x ∧ v = Value.str x t)
  | .inl i, v, h => by
    obtain ⟨t, e⟩ := Value.isInt_shape (k := i) (v := v) h
    exact .inl ⟨i, t, rfl, e⟩
  | .inr x, v, h => by
    obtain ⟨t, e⟩ := Value.isStrOf_shape (x := x) (v := v) h
    exact .inr ⟨x, t, rfl, e⟩
theorem keyIs_int (i : Int) (t : Tok) : keyIs (.inl i) (.int i t) = true := by simp [keyIs, Value.isInt]
theorem keyIs_str (x : Str) (t : Tok) : keyIs (.inr x) (.str x t) = true := by simp [keyIs, Value.isStrOf]
theorem key_ll (a b : Int) : decide ((Sum.inl a : Key) = Sum.inl b) = (a == b) := by
  by_cases e : a = b
  · subst e; simp
  · have h : ¬ (Sum.inl a : Key) = Sum.inl b := fun q => e (Sum.inl.inj q)
    rw [decide_eq_false h]
    exact (beq_eq_false_iff_ne.mpr e).symm
theorem key_rr (a b : Str) : decide ((Sum.inr a : Key) = Sum.inr b) = decide (a = b) := by
  by_cases e : a = b
  · subst e; simp
  · have h : ¬ (Sum.inr a : Key) = Sum.inr b := fun q => e (Sum.inr.inj q)
    rw [decide_eq_false h, decide_eq_false e]
theorem key_lr (a : Int) (b : Str) : decide ((Sum.inl a : Key) = Sum.inr b) = false := decide_eq_false (fun q => nomatch q)
theorem key_rl (a : Str) (b : Int) : decide ((Sum.inr a : Key) = Sum.inl b) = false := decide_eq_false (fun q => nomatch q)

def mixKind (prog : Program) (w : World) : PySem.KeyKind prog w Key where
  is := keyIs
  hash := keyH w
  inj := fun v a b ha hb => by
    rcases keyIs_shape ha with ⟨i, t, rfl, rfl⟩ | ⟨x, t, rfl, rfl⟩
    · rcases keyIs_shape hb with ⟨j, u, rfl, e⟩ | ⟨y, u, rfl, e⟩
      · injection e with e1 _; rw [e1]
      · exact nomatch e
    · rcases keyIs_shape hb with ⟨j, u, rfl, e⟩ | ⟨y, u, rfl, e⟩
      · exact nomatch e
      · injection e with e1 _; rw [e1]
  byValue := fun k v h => by
    rcases keyIs_shape h with ⟨i, t, rfl, rfl⟩ | ⟨x, t, rfl, rfl⟩ <;> rfl
  pyHash := fun hv h => by
    rcases keyIs_shape hv with ⟨i, t, rfl, rfl⟩ | ⟨x, t, rfl, rfl⟩
    · exact wpAny_pyHash_int h
    · exact wpAny_pyHash_str h
  eqBool := fun hu hv h => by
    rcases keyIs_shape hu with ⟨i, t, rfl, rfl⟩ | ⟨x, t, rfl, rfl⟩
    · rcases keyIs_shape hv with ⟨j, u, rfl, rfl⟩ | ⟨y, u, rfl, rfl⟩
      · rw [key_ll] at h; exact wpAny_eqBool_int h
      · rw [key_lr] at h; exact SeqAt.EqAt.int_str i t y u _ _ _ _ h
    · rcases keyIs_shape hv with ⟨j, u, rfl, rfl⟩ | ⟨y, u, rfl, rfl⟩
      · rw [key_rl] at h; exact SeqAt.EqAt.str_int x t j u _ _ _ _ h
      · rw [key_rr] at h; exact wpAny_eqBool_str h
  «strs» := fun k x t v h => by
    rcases keyIs_shape h with ⟨i, u, rfl, e⟩ | ⟨y, u, rfl, e⟩
    · exact nomatch e
    · injection e with e1 _
      subst e1
      cases v <;> rfl

theorem mixKind_int (prog : Program) (w : World) (i : Int) (t : Tok) : (mixKind prog w).is (.inl i) (.int i t) = true := keyIs_int i t
theorem mixKind_str (prog : Program) (w : World) (x : Str) (t : Tok) : (mixKind prog w).is (.inr x) (.str x t) = true := keyIs_str x t
end L2

namespace L2
open PySem PySem.Spec PyProof.Rows

inductive V where
  | non | bl (b : Bool) | int (i : Int) | str (x : Str) | byt (b : Array UInt8) | flt (b : UInt64) | ref (a : Addr) | ty (n : String)
  deriving DecidableEq

def RelV : V → Value → Prop
  | .non, u => u = Value.none
  | .bl b, u => u = Value.bool b
  | .int i, u => ∃ t, u = Value.int i t
  | .str x, u => ∃ t, u = Value.str x t
  | .byt b, u => ∃ t, u = Value.bytes b t
  | .flt b, u => ∃ t, u = Value.float b t
  | .ref a, u => u = Value.ref a
  | .ty n, u => u = Value.type n

abbrev Vals : List V → List Value → Prop := Paired RelV
theorem Vals.length {xs : List V} {us : List Value} (r : Vals xs us) : xs.length = us.length := Paired.length r
theorem Vals.get : ∀ {xs : List V} {us : List Value} {i : Nat} {x : V}, Vals xs us → xs[i]? = some x → ∃ u, us[i]? = some u ∧ RelV x u
  | _, _, _, _, .nil, e => by simp at e
  | _, _, 0, _, .cons r _, e => by simp at e; subst e; exact ⟨_, rfl, r⟩
  | _, _, i + 1, x, .cons _ t, e => by
    obtain ⟨u, h1, h2⟩ := Vals.get (i := i) (x := x) t (by simpa using e)
    exact ⟨u, by simpa using h1, h2⟩
theorem Vals.append : ∀ {xs ys : List V} {us ws : List Value}, Vals xs us → Vals ys ws → Vals (xs ++ ys) (us ++ ws)
  | _, _, _, _, .nil, s => s
  | _, _, _, _, .cons r t, s => .cons r (Vals.append t s)
theorem Vals.take : ∀ {xs : List V} {us : List Value} (n : Nat), Vals xs us → Vals (xs.take n) (us.take n)
  | _, _, 0, _ => .nil
  | _, _, _ + 1, .nil => .nil
  | _, _, n + 1, .cons r t => .cons r (Vals.take n t)
theorem Vals.drop : ∀ {xs : List V} {us : List Value} (n : Nat), Vals xs us → Vals (xs.drop n) (us.drop n)
  | _, _, 0, r => r
  | _, _, _ + 1, .nil => .nil
  | _, _, n + 1, .cons _ t => Vals.drop n t
def RelO : Option V → Option Value → Prop
  | some v, some u => RelV v u
  | none, none => True
  | _, _ => False
def KV {κ : Type} : List (κ × V) → List (κ × Value) → Prop := Paired fun (p : κ × V) (q : κ × Value) => p.1 = q.1 ∧ RelV p.2 q.2

def kV : Key → V
  | .inl i => .int i
  | .inr x => .str x

inductive HO where
  /-- a list -/
  | lst (xs : List V)
  /-- a tuple (never changes) -/
  | tup (xs : List V)
  /-- a dict whose keys are ints and texts; one whose keys are tuples of ints and texts (the empty one is both) -/
  | dK (kvs : List (Key × V)) | dT (kvs : List (List Key × V))
  /-- a set of ints: its members, its size -/
  | set (S : Int → Bool) (n : Nat)
  /-- an instance of the class at C, its dict at dx, its attributes -/
  | ins (C dx : Addr) (fs : List (Str × V))
  /-- the dict of the instance at x -/
  | own (x : Addr)
  /-- the dict of an exception -/
  | xd (fs : List (Str × V))
  /-- a bound method, f of x -/
  | met (f x : Addr)
  /-- a range object lo, lo + 1, .. below hi -/
  | rng (lo hi : Int)
  /-- a thing that is known to the object (the script; a dict while a loop walks it): read, never written while it is so -/
  | frz (o : Obj) (u : HO)
  /-- a code object's table -/
  | tbl (ps : Array Value)
  /-- any other thing, by what is true of its one object (a def of one's own: SetO a S n := HO.ext fun h => ..) -/
  | ext (φ : Heap → Prop)

abbrev Hp := Addr → Option HO
def upd (H : Hp) (a : Addr) (o : HO) : Hp := fun b => if b = a then some o else H b
theorem upd_same {H : Hp} {a : Addr} {o : HO} : upd H a o a = some o := by unfold upd; rw [if_pos rfl]
theorem upd_ne {H : Hp} {a b : Addr} {o : HO} (h : b ≠ a) : upd H a o b = H b := by unfold upd; rw [if_neg h]
theorem upd_upd {H : Hp} {a : Addr} {o u : HO} : upd (upd H a o) a u = upd H a u := by
  funext b; unfold upd; split <;> rfl
theorem ne_of {H : Hp} {a b : Addr} {o u : HO} (h : H a = some o) (h' : H b = some u) (d : o ≠ u) : a ≠ b := by
  intro e; subst e; rw [h] at h'; exact d (Option.some.inj h')
theorem ne_of_none {H : Hp} {a b : Addr} {o : HO} (h : H a = some o) (h' : H b = none) : a ≠ b := by
  intro e; subst e; rw [h] at h'; cases h'

section
variable (P : Program) (w : World)
def ObjOk (H : Hp) (h : Heap) (a : Addr) : HO → Prop
  | .lst xs => xs.length ≤ sizeLine ∧ ∃ (its : List Value) (n : Nat), Vals xs its ∧ h.get? a = some { cls := .type "list", data := .seq its.toArray n }
  | .tup xs => xs.length ≤ sizeLine ∧ ∃ its : List Value, Vals xs its ∧ IsTup h a its.toArray
  | .dK kvs => kvs.length ≤ sizeLine ∧ (a == sysModules) = false ∧ ∃ vs, KV kvs vs ∧ h.DictOf (mixKind P w) a vs
  | .dT kvs => kvs.length ≤ sizeLine ∧ (a == sysModules) = false ∧ ∃ xs : List (List Key × Addr × Value),
      Paired (fun (p : List Key × V) (q : List Key × Addr × Value) => p.1 = q.1 ∧ H q.2.1 = some (.tup (p.1.map kV)) ∧ RelV p.2 q.2.2) kvs xs ∧
      ∃ o es ep, h.get? a = some o ∧ o.ExactDict ∧ o.data = .dict es ep ∧ es.toList = xs.map (entryOfKey (tupleKind (mixKind P w))) ∧ (xs.map (·.1)).Nodup
  | .set S n => h.SetOf (intKind P w) a S n
  | .ins C dx fs => H dx = some (.own a) ∧ fs.length ≤ 1000 ∧ dx ≠ a ∧ h.get? a = some (PySem.W.instObj C dx) ∧
      ∃ mA, h.Ns1 dx mA ∧ (∀ f, RelO (fs.lookup f) (mA f)) ∧ PySem.Within mA (fs.map (·.1))
  | .own _ => ∃ o, h.get? a = some o
  | .xd fs => ∃ mA, h.Ns1 a mA ∧ ∀ f, RelO (fs.lookup f) (mA f)
  | .rng lo hi => ∃ t u v, h.get? a = some { cls := .type "range", data := .fields #[.int lo t, .int hi u, .int 1 v] }
  | .frz o u => h.get? a = some o ∧ ObjOk H h a u
  | .tbl ps => h.get? a = some { cls := .none, data := .fields ps }
  | .met f x => h.get? a = some (PySem.W.methodObj (.ref f) (.ref x))
  | .ext φ => φ h ∧ (∃ o, h.get? a = some o) ∧ ∀ h1 h2 : Heap, φ h1 → (∀ o, h1.get? a = some o → h2.get? a = some o) → φ h2
def HOk (H : Hp) (h : Heap) : Prop := ∀ a o, H a = some o → ObjOk P w H h a o
end

section
variable {P : Program} {w : World} {H H' : Hp} {h h' : Heap} {a : Addr} {o : HO}
theorem ObjOk.lt (x : ObjOk P w H h a o) : a < h.objs.size := by
  cases o with
  | lst xs => obtain ⟨_, _, _, _, e⟩ := x; exact Heap.lt_size e
  | tup xs => obtain ⟨_, _, _, p⟩ := x; exact p.lt
  | dK kvs => obtain ⟨_, _, _, _, o, _, _, e, _⟩ := x; exact Heap.lt_size e
  | dT kvs => obtain ⟨_, _, _, _, o, _, _, e, _⟩ := x; exact Heap.lt_size e
  | set S n => obtain ⟨o, _, _, _, e, _⟩ := x; exact Heap.lt_size e
  | ins C dx fs => obtain ⟨_, _, _, e, _⟩ := x; exact Heap.lt_size e
  | own y => obtain ⟨_, e⟩ := x; exact Heap.lt_size e
  | xd fs => obtain ⟨_, ⟨_, _, _, e, _⟩, _⟩ := x; exact Heap.lt_size e
  | rng lo hi => obtain ⟨_, _, _, e⟩ := x; exact Heap.lt_size e
  | frz ob u => obtain ⟨e, _⟩ := x; exact Heap.lt_size e
  | tbl ps => exact Heap.lt_size (show h.get? a = some _ from x)
  | met f y => exact Heap.lt_size (show h.get? a = some _ from x)
  | ext φ => obtain ⟨_, ⟨_, e⟩, _⟩ := x; exact Heap.lt_size e
theorem Paired.mapP {α β : Type} {F G : α → β → Prop} : ∀ {l₁ : List α} {l₂ : List β}, Paired F l₁ l₂ → (∀ a b, F a b → G a b) → Paired G l₁ l₂
  | _, _, .nil, _ => .nil
  | _, _, .cons r t, f => .cons (f _ _ r) (Paired.mapP t f)
theorem ObjOk.stay (x : ObjOk P w H h a o) (k : ∀ b u, (b = a ∨ H b = some (.own a)) → h.get? b = some u → h'.get? b = some u)
    (ho : ∀ b, H b = some (.own a) → H' b = some (.own a)) (ht : ∀ b xs, H b = some (.tup xs) → H' b = some (.tup xs)) : ObjOk P w H' h' a o := by
  induction o with
  | lst xs => obtain ⟨z, its, n, r, e⟩ := x; exact ⟨z, its, n, r, k _ _ (.inl rfl) e⟩
  | tup xs => obtain ⟨z, its, r, ob, e, c⟩ := x; exact ⟨z, its, r, ob, k _ _ (.inl rfl) e, c⟩
  | dK kvs => obtain ⟨z, y, vs, r, ob, es, ep, e, c⟩ := x; exact ⟨z, y, vs, r, ob, es, ep, k _ _ (.inl rfl) e, c⟩
  | dT kvs =>
    obtain ⟨z, y, xs, r, ob, es, ep, e, c⟩ := x
    exact ⟨z, y, xs, Paired.mapP r fun p q z => ⟨z.1, ht _ _ z.2.1, z.2.2⟩, ob, es, ep, k _ _ (.inl rfl) e, c⟩
  | set S n => obtain ⟨ob, es, ep, t, e, c⟩ := x; exact ⟨ob, es, ep, t, k _ _ (.inl rfl) e, c⟩
  | ins C dx fs =>
    obtain ⟨d, z, ne, e, mA, ⟨od, es, ep, e2, c⟩, r⟩ := x
    exact ⟨ho _ d, z, ne, k _ _ (.inl rfl) e, mA, ⟨od, es, ep, k _ _ (.inr d) e2, c⟩, r⟩
  | own y => obtain ⟨ob, e⟩ := x; exact ⟨ob, k _ _ (.inl rfl) e⟩
  | xd fs => obtain ⟨mA, ⟨od, es, ep, e, c⟩, r⟩ := x; exact ⟨mA, ⟨od, es, ep, k _ _ (.inl rfl) e, c⟩, r⟩
  | rng lo hi => obtain ⟨t, u, v, e⟩ := x; exact ⟨t, u, v, k _ _ (.inl rfl) e⟩
  | frz ob u ih => obtain ⟨e, q⟩ := x; exact ⟨k _ _ (.inl rfl) e, ih q⟩
  | tbl ps =>
    have e : h.get? a = some { cls := .none, data := .fields ps } := x
    show h'.get? a = some { cls := .none, data := .fields ps }
    exact k a _ (.inl rfl) e
  | met f y =>
    have e : h.get? a = some (PySem.W.methodObj (.ref f) (.ref y)) := x
    show h'.get? a = some (PySem.W.methodObj (.ref f) (.ref y))
    exact k a _ (.inl rfl) e
  | ext φ => obtain ⟨p, ⟨o, e⟩, st⟩ := x; exact ⟨st _ _ p fun o q => k _ _ (.inl rfl) q, ⟨o, k _ _ (.inl rfl) e⟩, st⟩
theorem HOk.lt (x : HOk P w H h) (e : H a = some o) : a < h.objs.size := (x a o e).lt
theorem HOk.fresh (x : HOk P w H h) (e : h.objs.size ≤ a) : H a = none := by
  cases q : H a with
  | none => rfl
  | some u => exact absurd (Nat.lt_of_lt_of_le (x.lt q) e) (Nat.lt_irrefl _)
theorem HOk.kept (x : HOk P w H h) (k : ∀ b u, h.get? b = some u → h'.get? b = some u) : HOk P w H h' := fun a o e =>
  (x a o e).stay (fun b u _ q => k b u q) (fun _ q => q) fun _ _ q => q
theorem HOk.laid (x : HOk P w H h) (k : ∀ b u, h.get? b = some u → h'.get? b = some u) (hp : h.objs.size ≤ a) (new : ObjOk P w (upd H a o) h' a o) : HOk P w (upd H a o) h' := fun b u e => by
  have hn := x.fresh hp
  by_cases hb : b = a
  · subst hb; rw [upd_same] at e; cases e; exact new
  · rw [upd_ne hb] at e
    exact (x b u e).stay (fun c v _ q => k c v q) (fun c q => by rw [upd_ne (ne_of_none q hn)]; exact q) fun c xs q => by rw [upd_ne (ne_of_none q hn)]; exact q
end

def Rd (H : Hp) (a : Addr) (u : HO) : Prop := H a = some u ∨ ∃ o, H a = some (.frz o u)
theorem Rd.ok {P : Program} {w : World} {H : Hp} {h : Heap} {a : Addr} {u : HO} (r : Rd H a u) (x : HOk P w H h) : ObjOk P w H h a u := by
  rcases r with r | ⟨o, r⟩
  · exact x a u r
  · obtain ⟨_, q⟩ := x a _ r
    exact q
def Mut : Option HO → Prop
  | some (.lst _) => True
  | some (.dK _) => True
  | some (.dT _) => True
  | some (.set _ _) => True
  | some (.ins _ _ _) => True
  | some (.ext _) => True
  | _ => False
section
variable {P : Program} {w : World} {H : Hp} {h h' : Heap} {x e : Addr} {o' : HO}
theorem HOk.write (ok : HOk P w H h) (mu : Mut (H x)) (he : e = x ∨ H e = some (.own x)) (k : ∀ b u, b ≠ e → h.get? b = some u → h'.get? b = some u) (heo : ∃ u, h'.get? e = some u)
    (new : ObjOk P w (upd H x o') h' x o') : HOk P w (upd H x o') h' := fun b u q => by
  have nown : ∀ c y, H c = some (.own y) → c ≠ x := fun c y r z => by subst z; rw [r] at mu; exact mu
  have ntup : ∀ c xs, H c = some (.tup xs) → c ≠ x := fun c xs r z => by subst z; rw [r] at mu; exact mu
  by_cases hb : b = x
  · subst hb; rw [upd_same] at q; cases q; exact new
  · rw [upd_ne hb] at q
    by_cases hbe : b = e
    · have q' : H b = some (.own x) := by
        rcases he with z | z
        · exact absurd (hbe.trans z) hb
        · rw [hbe]; exact z
      rw [q] at q'; cases q'
      obtain ⟨v, hv⟩ := heo
      exact ⟨v, by rw [hbe]; exact hv⟩
    · refine (ok b u q).stay (fun c v hc r => k c v ?_ r) (fun c r => by rw [upd_ne (nown c b r)]; exact r) fun c xs r => by rw [upd_ne (ntup c xs r)]; exact r
      rcases hc with rfl | hc
      · exact hbe
      · rintro rfl
        rcases he with z | z
        · exact nown c b hc z
        · rw [hc] at z; cases z; exact hb rfl
end

structure Un (fs ex : List Addr) (H H' : Hp) (h h' : Heap) : Prop where
  keep : ∀ b o, h.get? b = some o → H b = none → b ∉ fs → b ∉ ex → h'.get? b = some o
  slot : ∀ b o, h.get? b = some o → H b = none → b ∈ fs → b ∉ ex → ∃ sl, h'.get? b = some { o with slots := sl }
  free : ∀ b o, h.get? b = some o → H b = none → b ∉ ex → H' b = none
  there : ∀ b o, h.get? b = some o → b ∉ ex → ∃ o', h'.get? b = some o'
  tups : ∀ b xs, H b = some (.tup xs) → H' b = some (.tup xs)
  frzs : ∀ b o u, H b = some (.frz o u) → H' b = some (.frz o u)
  tbls : ∀ b ps, H b = some (.tbl ps) → ∃ more, H' b = some (.tbl (ps ++ more))
section
variable {fs fs' ex ex' : List Addr} {H H1 H2 : Hp} {h h1 h2 h' : Heap} {a x e : Addr} {o : HO}
theorem Un.any (u : Un fs ex H H1 h h1) {b : Addr} {ob : Obj} (q : h.get? b = some ob) (n : H b = none) (hx : b ∉ ex) : ∃ sl, h1.get? b = some { ob with slots := sl } := by
  by_cases hb : b ∈ fs
  · exact u.slot b ob q n hb hx
  · exact ⟨ob.slots, u.keep b ob q n hb hx⟩
theorem Un.kept (k : ∀ b u, h.get? b = some u → h'.get? b = some u) : Un fs ex H H h h' :=
  ⟨fun b ob q _ _ _ => k b ob q, fun b ob q _ _ _ => ⟨ob.slots, k b ob q⟩, fun _ _ _ n _ => n, fun b ob q _ => ⟨ob, k b ob q⟩, fun _ _ q => q, fun _ _ _ q => q, fun _ ps q => ⟨#[], by rw [q]; simp⟩⟩
theorem Un.refl : Un fs ex H H h h := Un.kept fun _ _ q => q
theorem Un.laid (k : ∀ b u, h.get? b = some u → h'.get? b = some u) (hp : h.objs.size ≤ a) (hn : H a = none) : Un fs ex H (upd H a o) h h' where
  keep := fun b u q _ _ _ => k b u q
  slot := fun b u q _ _ _ => ⟨u.slots, k b u q⟩
  free := fun b u q n _ => by rw [upd_ne (Nat.ne_of_lt (Nat.lt_of_lt_of_le (Heap.lt_size q) hp))]; exact n
  there := fun b u q _ => ⟨u, k b u q⟩
  tups := fun b xs q => by rw [upd_ne (ne_of_none q hn)]; exact q
  frzs := fun b u xs q => by rw [upd_ne (ne_of_none q hn)]; exact q
  tbls := fun b ps q => ⟨#[], by rw [upd_ne (ne_of_none q hn), q]; simp⟩
theorem Un.write (mu : Mut (H x)) (he : e = x ∨ H e = some (.own x)) (k : ∀ b u, b ≠ e → h.get? b = some u → h'.get? b = some u) (heo : ∃ u, h'.get? e = some u) : Un fs ex H (upd H x o) h h' := by
  have hx : ∀ b, H b = none → b ≠ x := fun b n z => by subst z; rw [n] at mu; exact mu
  have hb : ∀ b, H b = none → b ≠ e := fun b n z => by
    subst z
    rcases he with r | r
    · exact hx b n r
    · rw [n] at r; cases r
  have hm : ∀ b u, H b = some u → ¬ Mut (some u) → b ≠ x := fun b u q nm z => by subst z; rw [q] at mu; exact nm mu
  refine ⟨fun b u q n _ _ => k b u (hb b n) q, fun b u q n _ _ => ⟨u.slots, k b u (hb b n) q⟩, fun b u q n _ => by rw [upd_ne (hx b n)]; exact n, fun b u q _ => ?_,
    fun b xs q => by rw [upd_ne (hm b _ q fun z => z)]; exact q, fun b u xs q => by rw [upd_ne (hm b _ q fun z => z)]; exact q, fun b ps q => ⟨#[], by rw [upd_ne (hm b _ q fun z => z), q]; simp⟩⟩
  by_cases hbe : b = e
  · subst hbe; exact heo
  · exact ⟨u, k b u hbe q⟩
end

def trk (h : Heap) (H : Hp) : List Addr := (List.range h.objs.size).filter fun a => (H a).isSome
def hidT (h : Heap) (H : Hp) : Heap := PySem.W.hideAll h (trk h H)
theorem hidT_size (h : Heap) (H : Hp) : (hidT h H).objs.size = h.objs.size := PySem.W.hideAll_size _ _
theorem hidT_get {h : Heap} {H : Hp} {b : Addr} {o : Obj} (e : h.get? b = some o) (n : H b = none) : (hidT h H).get? b = some o :=
  PySem.W.hideAll_get _ e fun hm => by
    have q : (H b).isSome = true := (List.mem_filter.mp hm).2
    rw [n] at q; simp at q
theorem of_hidT {h : Heap} {H : Hp} {b : Addr} {o : Obj} (e : (hidT h H).get? b = some o) : h.get? b = some o ∧ H b = none := by
  have e' : h.get? b = some o := PySem.W.of_hideAll (trk h H) e
  refine ⟨e', ?_⟩
  cases q : H b with
  | none => rfl
  | some x =>
    have hm : b ∈ trk h H := List.mem_filter.mpr ⟨List.mem_range.mpr (Heap.lt_size e'), by simp [q]⟩
    have z : (hidT h H).get? b = none := PySem.W.hideAll_none (trk h H) hm
    rw [z] at e; cases e

end L2

namespace L2
open PySem PySem.Spec PyProof.Rows

structure Mod (K : PySem.W.Frag) (mg : Str → Option Value) (base : Heap) : Prop where
  kin : K.In base
  glob : base.Ns mainGlobals mg
  blt : ∃ mb, base.Ns builtinsNs mb ∧ ∀ x : Str, x ≠ "__name__" → mb x = bootBuiltins x
  nolimit : base.NoLimit

structure Cx where
  prog : Program
  w : World
  K : PySem.W.Frag
  mg : Str → Option Value
  base : Heap
  A : Around
  N : List Str
  s_0 : Shared
  H_0 : Hp
  env : Env
  outer : List Env
  stack : List Env
  ex : List Addr
  fn : Str → Bool
  calm : Bool
  pn : List (Addr × Obj)
  xe : Value → Shared → Prop
def frs (l : List Env) : List Addr := l.filterMap (·.frame)
abbrev Cx.fs (X : Cx) : List Addr := frs X.outer

def Vis (sc : Scope) (x : Str) : Prop := sc.names.lookup x = some .local ∨ sc.names.lookup x = some .cell ∨ sc.names.lookup x = some .free
def Loc (sc : Scope) (x : Str) : Prop := sc.names.lookup x = some .local ∨ sc.names.lookup x = some .cell
def Look (env : Env) (h : Heap) (m : Str → Option Value) (x : Str) (u : Value) : Prop :=
  (env.kindOf x = some .local ∧ m x = some u) ∨ ((env.kindOf x = some .cell ∨ env.kindOf x = some .free) ∧ ∃ c, env.cells.lookup x = some c ∧ h.IsCell c (some u))

structure Cx.Ok (X : Cx) : Prop where
  mod : Mod X.K X.mg X.base
  kind : X.env.scope.kind = .function
  glob : X.env.globals = mainGlobals
  blt : X.env.builtins = builtinsNs
  above : X.s_0.heap.objs.size ≤ X.env.locals
  inj : ∀ x y c, X.env.cells.lookup x = some c → X.env.cells.lookup y = some c → x = y
  has : ∀ x, (X.env.kindOf x = some .cell ∨ X.env.kindOf x = some .free) → ∃ c, X.env.cells.lookup x = some c
  cab : ∀ x c, X.fn x = true → X.env.cells.lookup x = some c → X.s_0.heap.objs.size ≤ c
  hd : X.calm = true → X.A.handled = none
  frames : X.A.frames = some X.stack
  stk : X.stack = X.outer ∨ (X.stack = X.env :: X.outer ∧ X.env.frame = some X.env.locals)
  exf : ∀ b ∈ X.ex, b ≠ X.env.locals ∧ ∀ x c, X.env.cells.lookup x = some c → c ≠ b
  bs : ∀ b o, X.base.get? b = some o → X.s_0.heap.get? b = some o ∧ X.H_0 b = none
  bsz : X.base.objs.size ≤ X.s_0.heap.objs.size
  noex : ∀ b o, X.base.get? b = some o → b ∉ X.ex
  exfs : ∀ b ∈ X.ex, b ∉ X.fs
  funs : X.s_0.heap.FunFrames X.base X.outer
  frf : ∀ b ∈ X.fs, X.H_0 b = none

structure Inv (X : Cx) (pins : List (Addr × Obj)) (σ : List (Option V)) (H : Hp) (s : Shared) : Prop where
  ok : X.Ok
  os : s.os = X.s_0.os
  bare : AllBare s.gens
  base : Un X.fs X.ex X.H_0 H X.s_0.heap s.heap
  loc : ∃ m, s.heap.Ns X.env.locals m ∧ ∀ (i : Nat) (x : Str) (v : V), X.N[i]? = some x → σ[i]? = some (some v) → Vis X.env.scope x → ∃ u, RelV v u ∧ Look X.env s.heap m x u
  cell : ∀ x c, X.env.cells.lookup x = some c → ∃ v, s.heap.IsCell c v
  free : H X.env.locals = none
  freeC : ∀ x c, X.env.cells.lookup x = some c → H c = none
  pin : ∀ p ∈ X.pn ++ pins, s.heap.get? p.1 = some p.2 ∧ H p.1 = none ∧ p.1 ≠ X.env.locals ∧ p.1 ∉ X.fs ∧ ∀ v, p.2.data ≠ .cell v
  hok : HOk X.prog X.w H s.heap
  len : σ.length = X.N.length

section
variable {X : Cx} {pins : List (Addr × Obj)} {σ : List (Option V)} {H H' : Hp} {s : Shared} {h' : Heap}

theorem Cx.Ok.nofr (ok : X.Ok) {b : Addr} {o : Obj} (e : X.base.get? b = some o) : b ∉ X.fs := fun hb => by
  have := (ok.funs.mem hb).1
  rw [e] at this; cases this
theorem Inv.bs (I : Inv X pins σ H s) : ∀ b o, X.base.get? b = some o → s.heap.get? b = some o ∧ H b = none := fun b o e =>
  ⟨I.base.keep b o (I.ok.bs b o e).1 (I.ok.bs b o e).2 (I.ok.nofr e) (I.ok.noex b o e), I.base.free b o (I.ok.bs b o e).1 (I.ok.bs b o e).2 (I.ok.noex b o e)⟩
theorem Inv.bk (I : Inv X pins σ H s) : ∀ b o, X.base.get? b = some o → s.heap.get? b = some o := fun b o e => (I.bs b o e).1
theorem Inv.mod (I : Inv X pins σ H s) : Mod X.K X.mg X.base := I.ok.mod
theorem Inv.kIn (I : Inv X pins σ H s) : X.K.In s.heap := I.ok.mod.kin.keeps I.bk
theorem Inv.fr (I : Inv X pins σ H s) : ∃ m, Fr X.base X.env.locals s.heap m :=
  let ⟨m, hn, _⟩ := I.loc
  ⟨m, hn, I.bk, Nat.le_trans I.ok.bsz I.ok.above⟩
theorem Inv.lt (I : Inv X pins σ H s) : X.env.locals < s.heap.objs.size := let ⟨_, hn, _⟩ := I.loc; hn.lt
theorem Inv.sz (I : Inv X pins σ H s) : X.s_0.heap.objs.size ≤ s.heap.objs.size := Nat.le_trans I.ok.above (Nat.le_of_lt I.lt)
theorem Inv.nofs (I : Inv X pins σ H s) {a : Addr} (h : s.heap.objs.size ≤ a) : a ∉ X.fs := fun hb => by
  obtain ⟨_, o, ho, _⟩ := I.ok.funs.mem hb
  exact absurd (Nat.lt_of_lt_of_le (Heap.lt_size ho) (Nat.le_trans I.sz h)) (Nat.lt_irrefl _)
theorem Inv.cne (I : Inv X pins σ H s) : ∀ x c, X.env.cells.lookup x = some c → c ≠ X.env.locals := fun x c e z => by
  obtain ⟨v, o, ho, hd⟩ := I.cell x c e
  obtain ⟨m, ⟨o', es, ep, ho', hd', _⟩, _⟩ := I.loc
  rw [z, ho'] at ho; cases ho; rw [hd'] at hd; cases hd
theorem Inv.funs (I : Inv X pins σ H s) : s.heap.FunFrames X.base X.outer := by
  have all : ∀ (l : List Env), (∀ b ∈ frs l, b ∈ X.fs) → X.s_0.heap.FunFrames X.base l → s.heap.FunFrames X.base l := by
    intro l
    induction l with
    | nil => intro _ _; trivial
    | cons env r ih =>
      intro hs hl
      obtain ⟨hk, ⟨L, o, hf, hn, ho, hd⟩, hr⟩ := hl
      have hL : L ∈ X.fs := hs L (by unfold frs; rw [List.filterMap_cons, hf]; exact List.mem_cons_self)
      obtain ⟨sl, e⟩ := I.base.slot L o ho (I.ok.frf L hL) hL fun z => I.ok.exfs L z hL
      exact ⟨hk, ⟨L, _, hf, hn, e, hd⟩, ih (fun b hb => hs b (by unfold frs; rw [List.filterMap_cons, hf]; exact List.mem_cons_of_mem _ hb)) hr⟩
  exact all X.outer (fun _ hb => hb) I.ok.funs

theorem Inv.stack (I : Inv X pins σ H s) : s.heap.FunFrames X.base X.stack := by
  rcases I.ok.stk with e | ⟨e, hf⟩
  · rw [e]; exact I.funs
  · rw [e]
    obtain ⟨m, hn, _⟩ := I.loc
    refine .cons (by rw [I.ok.kind]; decide) hf hn ?_ I.funs
    exact Heap.get?_none_of_le (Nat.le_trans I.ok.bsz I.ok.above)
theorem Inv.stkSub (I : Inv X pins σ H s) : ∀ b ∈ frs X.stack, b ∈ X.env.locals :: X.fs := fun b hb => by
  rcases I.ok.stk with e | ⟨e, hf⟩
  · rw [e] at hb; exact List.mem_cons_of_mem _ hb
  · rw [e] at hb
    unfold frs at hb
    rw [List.filterMap_cons, hf] at hb
    exact hb
theorem Inv.stkFree (I : Inv X pins σ H s) : ∀ b ∈ frs X.stack, H b = none := fun b hb => by
  rcases List.mem_cons.mp (I.stkSub b hb) with e | hb
  · rw [e]; exact I.free
  · obtain ⟨_, o, ho, _⟩ := I.ok.funs.mem hb
    exact I.base.free b o ho (I.ok.frf b hb) fun z => I.ok.exfs b z hb

theorem Inv.step {g' : Array GenState} {t' : Nat} {d' : Drawn} {ch : List Addr} (I : Inv X pins σ H s)
    (hch : ∀ b ∈ ch, (b ∈ X.ex ∨ X.s_0.heap.objs.size ≤ b) ∧ b ≠ X.env.locals ∧ (∀ x c, X.env.cells.lookup x = some c → c ≠ b) ∧ ∀ p ∈ X.pn ++ pins, p.1 ≠ b)
    (keep : ∀ b o, b ≠ X.env.locals → b ∉ X.fs → b ∉ ch → s.heap.get? b = some o → H b = none → h'.get? b = some o)
    (slot : ∀ b o, b ≠ X.env.locals → b ∈ X.fs → b ∉ ch → s.heap.get? b = some o → H b = none → ∃ sl, h'.get? b = some { o with slots := sl }) (free : ∀ b o, b ∉ ch → s.heap.get? b = some o → H b = none → H' b = none)
    (there : ∀ b o, b ∉ ch → s.heap.get? b = some o → ∃ o', h'.get? b = some o')
    (tups : ∀ b xs, H b = some (.tup xs) → H' b = some (.tup xs)) (frzs : ∀ b o u, H b = some (.frz o u) → H' b = some (.frz o u)) (tbls : ∀ b ps, H b = some (.tbl ps) → ∃ more, H' b = some (.tbl (ps ++ more)))
    (ns : ∀ m, s.heap.Ns X.env.locals m → h'.Ns X.env.locals m) (hok : HOk X.prog X.w H' h') (hg : AllBare g') :
    Inv X pins σ H' { s with heap := h', gens := g', drawn := d', toks := t' } := by
  have neL : ∀ b o, X.s_0.heap.get? b = some o → b ≠ X.env.locals := fun b o e => Nat.ne_of_lt (Nat.lt_of_lt_of_le (Heap.lt_size e) I.ok.above)
  have neC : ∀ b o, X.s_0.heap.get? b = some o → b ∉ X.ex → b ∉ ch := fun b o e hx hb => by
    rcases (hch b hb).1 with z | z
    · exact hx z
    · exact absurd (Nat.lt_of_lt_of_le (Heap.lt_size e) z) (Nat.lt_irrefl _)
  have cellK : ∀ x c, X.env.cells.lookup x = some c → ∀ v, s.heap.IsCell c v → h'.IsCell c v := fun x c e v ⟨o, ho, hd⟩ => by
    have nch : c ∉ ch := fun z => (hch c z).2.2.1 x c e rfl
    by_cases hc : c ∈ X.fs
    · obtain ⟨sl, q⟩ := slot c o (I.cne x c e) hc nch ho (I.freeC x c e)
      exact ⟨_, q, hd⟩
    · exact ⟨o, keep c o (I.cne x c e) hc nch ho (I.freeC x c e), hd⟩
  refine ⟨I.ok, I.os, hg, ⟨fun b o e n hb hx => ?_, fun b o e n hb hx => ?_, fun b o e n hx => ?_, fun b o e hx => ?_, fun b xs e => tups b xs (I.base.tups b xs e), fun b o xs e => frzs b o xs (I.base.frzs b o xs e), fun b ps e => ?_⟩, ?_, fun x c e => ?_, ?_, fun x c e => ?_, fun p hp => ?_, hok, I.len⟩
  · exact keep b o (neL b o e) hb (neC b o e hx) (I.base.keep b o e n hb hx) (I.base.free b o e n hx)
  · obtain ⟨sl, e1⟩ := I.base.slot b o e n hb hx
    obtain ⟨sl', e2⟩ := slot b _ (neL b o e) hb (neC b o e hx) e1 (I.base.free b o e n hx)
    exact ⟨sl', e2⟩
  · obtain ⟨o', e1⟩ := I.base.there b o e hx
    exact free b o' (neC b o e hx) e1 (I.base.free b o e n hx)
  · obtain ⟨o', e1⟩ := I.base.there b o e hx
    exact there b o' (neC b o e hx) e1
  · obtain ⟨m1, e1⟩ := I.base.tbls b ps e
    obtain ⟨m2, e2⟩ := tbls b _ e1
    exact ⟨m1 ++ m2, by rw [e2, Array.append_assoc]⟩
  · obtain ⟨m, hn, hl⟩ := I.loc
    refine ⟨m, ns m hn, fun i x v e1 e2 e3 => ?_⟩
    obtain ⟨u, r, l⟩ := hl i x v e1 e2 e3
    refine ⟨u, r, ?_⟩
    rcases l with l | ⟨k, c, e, z⟩
    · exact .inl l
    · exact .inr ⟨k, c, e, cellK x c e _ z⟩
  · obtain ⟨v, z⟩ := I.cell x c e
    exact ⟨v, cellK x c e v z⟩
  · obtain ⟨m, ⟨o, _, _, ho, _⟩, _⟩ := I.loc
    exact free _ o (fun z => (hch _ z).2.1 rfl) ho I.free
  · obtain ⟨v, o, ho, hd⟩ := I.cell x c e
    exact free c o (fun z => (hch c z).2.2.1 x c e rfl) ho (I.freeC x c e)
  · obtain ⟨e, n, ne, nf, d⟩ := I.pin p hp
    have nch : p.1 ∉ ch := fun z => (hch p.1 z).2.2.2 p hp rfl
    exact ⟨keep p.1 p.2 ne nf nch e n, free p.1 p.2 nch e n, ne, nf, d⟩
theorem Inv.un {t' : Nat} (I : Inv X pins σ H s) (u : Un X.fs [] H H' s.heap h') (hok : HOk X.prog X.w H' h') : Inv X pins σ H' { s with heap := h', toks := t' } := by
  obtain ⟨m, ⟨o, es, ep, ho, r⟩, _⟩ := id I.loc
  obtain ⟨sl, hL⟩ := u.any ho I.free (by simp)
  exact I.step (g' := s.gens) (d' := s.drawn) (ch := []) (fun _ z => nomatch z) (fun b o _ hb _ e n => u.keep b o e n hb (by simp)) (fun b o _ hb _ e n => u.slot b o e n hb (by simp)) (fun b o _ e n => u.free b o e n (by simp)) (fun b o _ e => u.there b o e (by simp)) u.tups u.frzs u.tbls (fun m' hm => by
    obtain ⟨o', es', ep', ho', r'⟩ := hm
    rw [ho] at ho'; cases ho'
    exact ⟨_, es', ep', hL, r'⟩) hok I.bare
theorem Inv.call {g' : Array GenState} {t' : Nat} {d' : Drawn} {ch : List Addr} (I : Inv X pins σ H s) (u : Un (frs X.stack) ch H H' s.heap h') (hok : HOk X.prog X.w H' h') (hg : AllBare g')
    (hch : ∀ b ∈ ch, (b ∈ X.ex ∨ X.s_0.heap.objs.size ≤ b) ∧ b ≠ X.env.locals ∧ (∀ x c, X.env.cells.lookup x = some c → c ≠ b) ∧ ∀ p ∈ X.pn ++ pins, p.1 ≠ b) :
    Inv X pins σ H' { s with heap := h', gens := g', drawn := d', toks := t' } := by
  obtain ⟨m, ⟨o, es, ep, ho, r⟩, _⟩ := id I.loc
  obtain ⟨sl, hL⟩ := u.any ho I.free fun z => (hch _ z).2.1 rfl
  exact I.step (ch := ch) hch (fun b o hL hb hc e n => u.keep b o e n (fun z => (List.mem_cons.mp (I.stkSub b z)).elim hL hb) hc) (fun b o _ _ hc e n => u.any e n hc) (fun b o hc e n => u.free b o e n hc) (fun b o hc e => u.there b o e hc) u.tups u.frzs u.tbls (fun m' hm => by
    obtain ⟨o', es', ep', ho', r'⟩ := hm
    rw [ho] at ho'; cases ho'
    exact ⟨_, es', ep', hL, r'⟩) hok hg
theorem Inv.turned {t' : Nat} {it : Addr} (I : Inv X pins σ H s) (k : ∀ b o, b ≠ it → s.heap.get? b = some o → h'.get? b = some o) (hn : H it = none) (hL : it ≠ X.env.locals)
    (h1 : it ∈ X.ex ∨ X.s_0.heap.objs.size ≤ it) (h2 : ∀ x c, X.env.cells.lookup x = some c → c ≠ it) (h3 : ∀ p ∈ X.pn ++ pins, p.1 ≠ it) : Inv X pins σ H { s with heap := h', toks := t' } := by
  have nit : ∀ b u, H b = some u → b ≠ it := fun b u e z => by rw [z, hn] at e; cases e
  refine I.step (g' := s.gens) (d' := s.drawn) (ch := [it]) (fun b hb => ?_) (fun b o _ _ hc e _ => k b o (fun z => hc (by simp [z])) e) (fun b o _ _ hc e _ => ⟨o.slots, k b o (fun z => hc (by simp [z])) e⟩) (fun _ _ _ _ n => n)
    (fun b o hc e => ⟨o, k b o (fun z => hc (by simp [z])) e⟩) (fun _ _ e => e) (fun _ _ _ e => e) (fun b ps e => ⟨#[], by rw [e]; simp⟩) (fun m hm => ?_) (fun b u e => ?_) I.bare
  · have e : b = it := by simpa using hb
    subst e
    exact ⟨h1, hL, h2, h3⟩
  · obtain ⟨o, es, ep, ho, r⟩ := hm
    exact ⟨o, es, ep, k _ o (Ne.symm hL) ho, r⟩
  · refine (I.hok b u e).stay (fun c v hc q => k c v ?_ q) (fun _ q => q) fun _ _ q => q
    rcases hc with z | z
    · rw [z]; exact nit b u e
    · exact nit c _ z
theorem Inv.tok (I : Inv X pins σ H s) (t : Nat) : Inv X pins σ H { s with toks := t } := I.un (h' := s.heap) (t' := t) Un.refl I.hok
theorem Inv.kept {t' : Nat} (I : Inv X pins σ H s) (k : ∀ b u, s.heap.get? b = some u → h'.get? b = some u) : Inv X pins σ H { s with heap := h', toks := t' } := I.un (Un.kept k) (I.hok.kept k)
theorem Inv.laid {a : Addr} {o : HO} {t' : Nat} (I : Inv X pins σ H s) (k : ∀ b u, s.heap.get? b = some u → h'.get? b = some u) (hp : s.heap.objs.size ≤ a) (new : ObjOk X.prog X.w (upd H a o) h' a o) :
    Inv X pins σ (upd H a o) { s with heap := h', toks := t' } := I.un (Un.laid k hp (I.hok.fresh hp)) (I.hok.laid k hp new)
theorem Inv.write {x e : Addr} {o : HO} {t' : Nat} (I : Inv X pins σ H s) (mu : Mut (H x)) (he : e = x ∨ H e = some (.own x)) (k : ∀ b u, b ≠ e → s.heap.get? b = some u → h'.get? b = some u) (heo : ∃ u, h'.get? e = some u)
    (new : ObjOk X.prog X.w (upd H x o) h' x o) : Inv X pins σ (upd H x o) { s with heap := h', toks := t' } := I.un (Un.write mu he k heo) (I.hok.write mu he k heo new)
theorem Inv.weak {σ' : List (Option V)} (I : Inv X pins σ H s) (hl : σ'.length = σ.length) (w : ∀ (i : Nat) v, σ'[i]? = some (some v) → σ[i]? = some (some v)) : Inv X pins σ' H s :=
  ⟨I.ok, I.os, I.bare, I.base, let ⟨m, hn, hl'⟩ := I.loc; ⟨m, hn, fun i x v e1 e2 e3 => hl' i x v e1 (w i v e2) e3⟩, I.cell, I.free, I.freeC, I.pin, I.hok, hl.trans I.len⟩
theorem Inv.pins_of {pins' : List (Addr × Obj)} (I : Inv X pins σ H s) (h : ∀ p ∈ pins', s.heap.get? p.1 = some p.2 ∧ H p.1 = none ∧ p.1 ≠ X.env.locals ∧ p.1 ∉ X.fs ∧ ∀ v, p.2.data ≠ .cell v) : Inv X pins' σ H s :=
  ⟨I.ok, I.os, I.bare, I.base, I.loc, I.cell, I.free, I.freeC, fun p hp => (List.mem_append.mp hp).elim (fun z => I.pin p (List.mem_append_left _ z)) (h p), I.hok, I.len⟩

theorem nodup_ix {N : List Str} (hN : N.Nodup) {i j : Nat} {x : Str} (a : N[i]? = some x) (b : N[j]? = some x) : i = j := by
  obtain ⟨h1, e1⟩ := List.getElem?_eq_some_iff.mp a
  obtain ⟨h2, e2⟩ := List.getElem?_eq_some_iff.mp b
  exact (List.getElem_inj hN).mp (e1.trans e2.symm)

theorem store_ok2 {M : Model} {A : Around} {E : Value → Shared → Prop} {i : Nat} {x : Str} {v : V} {u : Value} {Q : Unit → Shared → Prop} (I : Inv X pins σ H s) (hN : X.N.Nodup) (hi : X.N[i]? = some x) (hx : Loc X.env.scope x) (r : RelV v u)
    (h : ∀ s', Inv X pins (σ.set i (some v)) H s' → (∃ a, Heap.SameBut a s.heap s'.heap ∧ (a = X.env.locals ∨ X.env.cells.lookup x = some a)) → Q () s') (hf : X.fn x = true ∨ X.env.scope.names.lookup x = some .local := by first | exact .inl rfl | exact .inr rfl | assumption) : wpAny M A (storeName X.env x u) Q E s := by
  obtain ⟨m, hn, hl⟩ := id I.loc
  have hcls : (X.env.scope.kind == .class || (X.env.scope.kind == .module && X.env.locals != X.env.globals)) = false := by rw [I.ok.kind]; rfl
  have hiσ : i < σ.length := by rw [I.len]; exact (List.getElem?_eq_some_iff.mp hi).1
  have cne := I.cne
  have tracked : ∀ {a : Addr} {h' : Heap}, (∃ o, s.heap.get? a = some o ∧ H a = none) → Heap.SameBut a s.heap h' → HOk X.prog X.w H h' := fun {a h'} ha hs b ob e => by
    obtain ⟨_, _, hfree⟩ := ha
    refine (I.hok b ob e).stay (fun c w' hc q => (hs.2 c ?_).trans q) (fun _ q => q) fun _ _ q => q
    rintro rfl
    rcases hc with rfl | hc
    · rw [hfree] at e; cases e
    · rw [hfree] at hc; cases hc
  rcases hx with hk | hk
  · refine wpAny_storeName_local hk hn (fun h' hn' hs => ?_) hcls
    obtain ⟨oL, _, _, hoL, _⟩ := id hn
    refine h _ ⟨I.ok, I.os, I.bare, ⟨fun b o e n hb hx => ?_, fun b o e n hb hx => ?_, I.base.free, fun b o e hx => ?_, I.base.tups, I.base.frzs, I.base.tbls⟩, ⟨_, hn', fun j y v' e1 e2 e3 => ?_⟩, fun y c e => ?_, I.free, I.freeC, fun p hp => ?_, tracked ⟨oL, hoL, I.free⟩ hs, by simpa using I.len⟩ ⟨_, hs, .inl rfl⟩
    · exact (hs.2 b (Nat.ne_of_lt (Nat.lt_of_lt_of_le (Heap.lt_size e) I.ok.above))).trans (I.base.keep b o e n hb hx)
    · obtain ⟨sl, e1⟩ := I.base.slot b o e n hb hx
      exact ⟨sl, (hs.2 b (Nat.ne_of_lt (Nat.lt_of_lt_of_le (Heap.lt_size e) I.ok.above))).trans e1⟩
    · obtain ⟨o', e1⟩ := I.base.there b o e hx
      exact ⟨o', (hs.2 b (Nat.ne_of_lt (Nat.lt_of_lt_of_le (Heap.lt_size e) I.ok.above))).trans e1⟩
    · by_cases hj : j = i
      · subst hj
        rw [hi] at e1; cases e1
        rw [List.getElem?_set_self hiσ] at e2
        cases e2
        exact ⟨u, r, .inl ⟨hk, by simp⟩⟩
      · rw [List.getElem?_set_ne (Ne.symm hj)] at e2
        obtain ⟨u', r', q⟩ := hl j y v' e1 e2 e3
        refine ⟨u', r', ?_⟩
        rcases q with ⟨k, e⟩ | ⟨k, c, e, z⟩
        · refine .inl ⟨k, ?_⟩
          have : y ≠ x := fun e => hj (nodup_ix hN e1 (e ▸ hi))
          simp [this, e]
        · exact .inr ⟨k, c, e, z.sameBut hs (cne y c e)⟩
    · obtain ⟨w', z⟩ := I.cell y c e
      exact ⟨w', z.sameBut hs (cne y c e)⟩
    · obtain ⟨e, n, ne, nf, d⟩ := I.pin p hp
      exact ⟨(hs.2 p.1 ne).trans e, n, ne, nf, d⟩
  · have hfn : X.fn x = true := by
      rcases hf with z | z
      · exact z
      · rw [z] at hk; cases hk
    obtain ⟨c, hc⟩ := I.ok.has x (.inl hk)
    obtain ⟨w', z⟩ := I.cell x c hc
    refine wpAny_storeName_cell I.ok.kind hk hc z (fun h' hc' hs => ?_)
    obtain ⟨oc, hoc, hocd⟩ := id z
    refine h { s with heap := h' } ⟨I.ok, I.os, I.bare, ⟨fun b o e n hb hx => ?_, fun b o e n hb hx => ?_, I.base.free, fun b o e hx => ?_, I.base.tups, I.base.frzs, I.base.tbls⟩, ⟨m, hn.sameBut hs (Ne.symm (cne x c hc)), fun j y v' e1 e2 e3 => ?_⟩, fun y c' e => ?_, I.free, I.freeC, fun p hp => ?_, tracked ⟨oc, hoc, I.freeC x c hc⟩ hs, by simpa using I.len⟩ ⟨c, hs, .inr hc⟩
    · exact (hs.2 b (Nat.ne_of_lt (Nat.lt_of_lt_of_le (Heap.lt_size e) (I.ok.cab x c hfn hc)))).trans (I.base.keep b o e n hb hx)
    · obtain ⟨sl, e1⟩ := I.base.slot b o e n hb hx
      exact ⟨sl, (hs.2 b (Nat.ne_of_lt (Nat.lt_of_lt_of_le (Heap.lt_size e) (I.ok.cab x c hfn hc)))).trans e1⟩
    · obtain ⟨o', e1⟩ := I.base.there b o e hx
      exact ⟨o', (hs.2 b (Nat.ne_of_lt (Nat.lt_of_lt_of_le (Heap.lt_size e) (I.ok.cab x c hfn hc)))).trans e1⟩
    · by_cases hj : j = i
      · subst hj
        rw [hi] at e1; cases e1
        rw [List.getElem?_set_self hiσ] at e2
        cases e2
        exact ⟨u, r, .inr ⟨.inl hk, c, hc, hc'⟩⟩
      · rw [List.getElem?_set_ne (Ne.symm hj)] at e2
        obtain ⟨u', r', q⟩ := hl j y v' e1 e2 e3
        refine ⟨u', r', ?_⟩
        rcases q with q | ⟨k, c', e, z'⟩
        · exact .inl q
        · refine .inr ⟨k, c', e, z'.sameBut hs ?_⟩
          rintro rfl
          exact hj (nodup_ix hN e1 (I.ok.inj _ _ _ e hc ▸ hi))
    · by_cases hcc : c' = c
      · subst hcc; exact ⟨_, hc'⟩
      · obtain ⟨w2, z2⟩ := I.cell y c' e
        exact ⟨w2, z2.sameBut hs hcc⟩
    · obtain ⟨e, n, ne, nf, d⟩ := I.pin p hp
      refine ⟨(hs.2 p.1 ?_).trans e, n, ne, nf, d⟩
      intro q
      rw [q, hoc] at e
      have q' : oc = p.2 := Option.some.inj e
      exact d w' (by rw [← q']; exact hocd)
theorem store_ok {M : Model} {A : Around} {E : Value → Shared → Prop} {i : Nat} {x : Str} {v : V} {u : Value} {Q : Unit → Shared → Prop} (I : Inv X pins σ H s) (hN : X.N.Nodup) (hi : X.N[i]? = some x) (hx : Loc X.env.scope x) (r : RelV v u)
    (h : ∀ s', Inv X pins (σ.set i (some v)) H s' → Q () s') (hf : X.fn x = true ∨ X.env.scope.names.lookup x = some .local := by first | exact .inl rfl | exact .inr rfl | assumption) : wpAny M A (storeName X.env x u) Q E s :=
  store_ok2 I hN hi hx r (fun s' I' _ => h s' I') hf
theorem Inv.call' {s' : Shared} {ch : List Addr} (I : Inv X pins σ H s) (ho : s'.os = s.os) (u : Un (frs X.stack) ch H H' s.heap s'.heap) (hok : HOk X.prog X.w H' s'.heap) (hg : AllBare s'.gens)
    (hch : ∀ b ∈ ch, (b ∈ X.ex ∨ X.s_0.heap.objs.size ≤ b) ∧ b ≠ X.env.locals ∧ (∀ x c, X.env.cells.lookup x = some c → c ≠ b) ∧ ∀ p ∈ X.pn ++ pins, p.1 ≠ b) : Inv X pins σ H' s' := by
  obtain ⟨h', g', d', t', o'⟩ := s'
  have e : o' = s.os := ho
  subst e
  exact I.call (g' := g') (t' := t') (d' := d') u hok hg hch
end

abbrev XK := Value → Option Addr → Hp → Prop
abbrev St := List (Option V)
abbrev VK := V → Hp → Prop
abbrev TE := St → Hp → VK → Prop
abbrev TT := St → Hp → (Bool → Hp → Prop) → Prop
abbrev TA := St → Hp → (List V → Hp → Prop) → Prop
structure Ends where
  nx : St → Hp → Prop
  rt : VK
  bk : St → Hp → Prop := fun _ _ => False
  ct : St → Hp → Prop := fun _ _ => False
abbrev TS := Ends → St → Hp → Prop

def EP (X : Cx) (pins : List (Addr × Obj)) (σ : St) (Q : VK) (u : Value) (s' : Shared) : Prop := ∃ v H', Inv X pins σ H' s' ∧ RelV v u ∧ Q v H'
def TP (X : Cx) (pins : List (Addr × Obj)) (σ : St) (Q : Bool → Hp → Prop) (b : Bool) (s' : Shared) : Prop := ∃ H', Inv X pins σ H' s' ∧ Q b H'
def AP (X : Cx) (pins : List (Addr × Obj)) (σ : St) (Q : List V → Hp → Prop) (us : List Value) (s' : Shared) : Prop := ∃ vs H', Inv X pins σ H' s' ∧ Vals vs us ∧ Q vs H'
def SP (X : Cx) (pins : List (Addr × Obj)) (D : Ends) (f : Flow) (s' : Shared) : Prop :=
  match f with
  | .next => ∃ σ' H', Inv X pins σ' H' s' ∧ D.nx σ' H'
  | .brk => ∃ σ' H', Inv X pins σ' H' s' ∧ D.bk σ' H'
  | .cont => ∃ σ' H', Inv X pins σ' H' s' ∧ D.ct σ' H'
  | .ret u => ∃ v σ' H', Inv X pins σ' H' s' ∧ RelV v u ∧ D.rt v H'

def PE (X : Cx) (e : Expr) (t : TE) : Prop :=
  ∀ (pins : List (Addr × Obj)) (s : Shared) (σ : St) (H : Hp) (Q : VK), Inv X pins σ H s → t σ H Q → wpAny (model X.prog X.w) X.A (eval e X.env) (EP X pins σ Q) X.xe s
def PT (X : Cx) (e : Expr) (t : TT) : Prop :=
  ∀ (pins : List (Addr × Obj)) (s : Shared) (σ : St) (H : Hp) (Q : Bool → Hp → Prop), Inv X pins σ H s → t σ H Q → wpAny (model X.prog X.w) X.A (isTrue e X.env (eval e X.env)) (TP X pins σ Q) X.xe s
def PW (X : Cx) (e : Expr) (t : TT) : Prop :=
  ∀ (whole : Sem Value) (pins : List (Addr × Obj)) (s : Shared) (σ : St) (H : Hp) (Q : Bool → Hp → Prop), Inv X pins σ H s → t σ H Q → wpAny (model X.prog X.w) X.A (isTrue e X.env whole) (TP X pins σ Q) X.xe s
theorem PW.pt {X : Cx} {e : Expr} {t : TT} (h : PW X e t) : PT X e t := h _
def PA (X : Cx) (es : List Expr) (t : TA) : Prop :=
  ∀ (pos : Pos) (pins : List (Addr × Obj)) (s : Shared) (σ : St) (H : Hp) (Q : List V → Hp → Prop), Inv X pins σ H s → t σ H Q → wpAny (model X.prog X.w) X.A (spliced (backTo pos (starEach es X.env))) (AP X pins σ Q) X.xe s
def PS (X : Cx) (st : Stmt) (t : TS) : Prop :=
  ∀ (pins : List (Addr × Obj)) (s : Shared) (σ : St) (H : Hp) (D : Ends), Inv X pins σ H s → t D σ H → wpAny (model X.prog X.w) X.A (exec st X.env) (SP X pins D) X.xe s
def PSs (X : Cx) (st : List Stmt) (t : TS) : Prop :=
  ∀ (pins : List (Addr × Obj)) (s : Shared) (σ : St) (H : Hp) (D : Ends), Inv X pins σ H s → t D σ H → wpAny (model X.prog X.w) X.A (execs st X.env) (SP X pins D) X.xe s
theorem thn {α : Type} {t : Sem α} {Q Q' : α → Shared → Prop} {M : Model} {A : Around} {E : Value → Shared → Prop} {s : Shared} (h : wpAny M A t Q E s) (hQ : ∀ a s, Q a s → Q' a s) : wpAny M A t Q' E s := wpAny_mono h hQ fun _ _ x => x
end L2

namespace L2
open PySem PySem.Spec PyProof.Rows
section
variable {X : Cx}

theorem bin {a b : Expr} {ta tb : TE} (ha : PE X a ta) (hb : PE X b tb) {pins : List (Addr × Obj)} {s : Shared} {σ : St} {H : Hp} {R : V → V → Hp → Prop} (I : Inv X pins σ H s) (h : ta σ H fun x H1 => tb σ H1 fun y H2 => R x y H2)
    {α : Type} {Q : α → Shared → Prop} {f : Value → Value → Sem α}
    (hf : ∀ v u s2 x y H2, Inv X pins σ H2 s2 → RelV x v → RelV y u → R x y H2 → wpAny (model X.prog X.w) X.A (f v u) Q X.xe s2) :
    wpAny (model X.prog X.w) X.A (eval a X.env) (fun v s₁ => wpAny (model X.prog X.w) X.A (eval b X.env) (fun u s₂ => wpAny (model X.prog X.w) X.A (f v u) Q X.xe s₂) X.xe s₁) X.xe s := by
  refine thn (ha pins s σ H _ I h) fun v s1 ⟨x, H1, I1, r1, q1⟩ => ?_
  refine thn (hb pins s1 σ H1 _ I1 q1) fun u s2 ⟨y, H2, I2, r2, q2⟩ => ?_
  exact hf v u s2 x y H2 I2 r1 r2 q2

def tVar (i : Nat) : TE := fun σ H Q => ∃ v, σ[i]? = some (some v) ∧ Q v H
def tC (v : V) : TE := fun _ H Q => Q v H
theorem pe_var {i : Nat} {x : Str} {pos : Pos} (hN : X.N[i]? = some x) (hv : Vis X.env.scope x) (hd : (x == ("__debug__" : Str)) = false := by decide) (hcd : (x == ("__classdict__" : Str)) = false := by decide) : PE X (.Name x pos) (tVar i) := by
  intro pins s σ H Q I h
  obtain ⟨v, e, h⟩ := h
  obtain ⟨m, hn, hl⟩ := I.loc
  obtain ⟨u, r, l⟩ := hl i x v hN e hv
  have fin : EP X pins σ Q u s := ⟨v, H, I, r, h⟩
  rcases l with ⟨hk, hm⟩ | ⟨hk, c, hc, hcell⟩
  · exact wpAny_Name (wpAny_loadName_local I.ok.kind hk hn hm fin) hd
  · rcases hk with hk | hk
    · exact wpAny_Name (wpAny_loadName_cell I.ok.kind hk hc hcell fin) hd
    · exact wpAny_Name (wpAny_loadName_free I.ok.kind hk hc hcell fin hcd) hd
theorem pe_int {i j pos} : PE X (.Constant (.int i) j pos) (tC (.int i)) := fun _ _ _ H _ I h => wpAny_Constant_int ⟨.int i, H, I.tok _, ⟨_, rfl⟩, h⟩
theorem pe_bl {b j pos} : PE X (.Constant (.bool b) j pos) (tC (.bl b)) := fun _ _ _ H _ I h => Constant_bool ⟨.bl b, H, I, rfl, h⟩
theorem pe_non {j pos} : PE X (.Constant .none j pos) (tC .non) := fun _ _ _ H _ I h => Constant_none ⟨.non, H, I, rfl, h⟩
def Gl (X : Cx) (x : Str) : Prop := X.env.kindOf x = some .globalImplicit
theorem ld_glob {E : Value → Shared → Prop} {pins : List (Addr × Obj)} {s : Shared} {σ : St} {H : Hp} {x : Str} {u : Value} {pos : Pos} {Q : Value → Shared → Prop} (I : Inv X pins σ H s) (hg : Gl X x) (hm : X.mg x = some u) (h : Q u s)
    (hd : (x == ("__debug__" : Str)) = false := by decide) : wpAny (model X.prog X.w) X.A (eval (.Name x pos) X.env) Q E s :=
  Calls.Name_function_global I.ok.kind hg (Calls.loadGlobal_global (by rw [I.ok.glob]; exact I.mod.glob.keeps I.bk) hm h) hd
theorem ld_blt {E : Value → Shared → Prop} {pins : List (Addr × Obj)} {s : Shared} {σ : St} {H : Hp} {x : Str} {u : Value} {pos : Pos} {Q : Value → Shared → Prop} (I : Inv X pins σ H s) (hg : Gl X x) (hm : X.mg x = none) (hv : bootBuiltins x = some u) (h : Q u s)
    (hn : x ≠ "__name__" := by decide) (hd : (x == ("__debug__" : Str)) = false := by decide) : wpAny (model X.prog X.w) X.A (eval (.Name x pos) X.env) Q E s := by
  obtain ⟨mb, h1, h2⟩ := I.mod.blt
  exact Calls.Name_function_global I.ok.kind hg (Calls.loadGlobal_builtin (by rw [I.ok.glob]; exact I.mod.glob.keeps I.bk) hm (by rw [I.ok.blt]; exact h1.keeps I.bk) ((h2 x hn).trans hv) h) hd
theorem pe_glob {x : Str} {v : V} {u : Value} {pos : Pos} (hg : Gl X x) (hm : X.mg x = some u) (r : RelV v u) (hd : (x == ("__debug__" : Str)) = false := by decide) : PE X (.Name x pos) (tC v) :=
  fun _ _ _ H _ I h => ld_glob I hg hm ⟨v, H, I, r, h⟩ hd
variable {a b : Expr} {ta tb : TE} {pos : Pos}
def PC (X : Cx) (op : CmpOp) (a b : Expr) (t : TE) : Prop :=
  ∀ (pins : List (Addr × Obj)) (s : Shared) (σ : St) (H : Hp) (Q : VK), Inv X pins σ H s → t σ H Q →
    wpAny (model X.prog X.w) X.A (eval a X.env) (fun v s₁ => wpAny (model X.prog X.w) X.A (eval b X.env) (fun u s₂ => wpAny (model X.prog X.w) X.A (compareOp op v u) (EP X pins σ Q) X.xe s₂) X.xe s₁) X.xe s
theorem nobehind (b : Expr) {op : CmpOp} (h : op ≠ .In) (h2 : op ≠ .NotIn) : behindInMarks op b = false := by
  have e1 : (op == CmpOp.In) = false := by cases op <;> first | rfl | exact absurd rfl h
  have e2 : (op == CmpOp.NotIn) = false := by cases op <;> first | rfl | exact absurd rfl h2
  cases b <;> simp [behindInMarks, e1, e2]
def tIsN (ta : TE) : TE := fun σ H Q => ta σ H fun x H1 => Q (.bl (decide (x = .non))) H1
def tNotN (ta : TE) : TE := fun σ H Q => ta σ H fun x H1 => Q (.bl (!decide (x = .non))) H1
theorem RelV.none_iff {x : V} {v : Value} (r : RelV x v) : (v == Value.none) = decide (x = .non) := by
  cases x with
  | non => cases r; rfl
  | bl _ => cases r; rfl
  | int _ => obtain ⟨t, rfl⟩ := r; rfl
  | str _ => obtain ⟨t, rfl⟩ := r; rfl
  | byt _ => obtain ⟨t, rfl⟩ := r; rfl
  | flt _ => obtain ⟨t, rfl⟩ := r; rfl
  | ref _ => cases r; rfl
  | ty _ => cases r; rfl
theorem pc_isN {j pos'} (ha : PE X a ta) : PC X .Is a (.Constant .none j pos') (tIsN ta) := by
  intro pins s σ H Q I h
  refine thn (ha pins s σ H _ I h) fun v s1 ⟨x, H1, I1, r1, q1⟩ => ?_
  exact Constant_none (is_none_gen ⟨.bl _, H1, I1, by rw [r1.none_iff]; rfl, q1⟩)
theorem pc_notN {j pos'} (ha : PE X a ta) : PC X .IsNot a (.Constant .none j pos') (tNotN ta) := by
  intro pins s σ H Q I h
  refine thn (ha pins s σ H _ I h) fun v s1 ⟨x, H1, I1, r1, q1⟩ => ?_
  exact Constant_none (isnot_none_gen ⟨.bl _, H1, I1, by rw [r1.none_iff]; rfl, q1⟩)
def tB (t : TE) : TT := fun σ H Q => t σ H fun x H1 => ∃ c, x = .bl c ∧ Q c H1
theorem pe_cmp {op : CmpOp} {t : TE} (h : PC X op a b t) (h1 : behindInMarks op b = false := by first | exact nobehind _ (by decide) (by decide) | rfl) : PE X (.Compare a [op] [b] pos) t := fun pins s σ H Q I hw => wpAny_Compare1 (h pins s σ H Q I hw) h1
theorem pt_cmp {op : CmpOp} {t : TE} (h : PC X op a b t) (h1 : behindInMarks op b = false := by first | exact nobehind _ (by decide) (by decide) | rfl) : PT X (.Compare a [op] [b] pos) (tB t) := by
  intro pins s σ H Q I hw
  refine wpAny_isTrue_Compare1 (thn (h pins s σ H _ I hw) fun v s1 h1 => thn h1 fun u s2 h2 => thn h2 fun c s3 ⟨x, H1, I1, r1, q1⟩ => ?_) h1
  obtain ⟨d, rfl, q⟩ := q1
  cases r1
  exact wpAny_truthy_bool ⟨H1, I1, q⟩
theorem pt_val {e : Expr} {t : TE} (h : PE X e t) (he : ∀ whole, isTrue e X.env whole = (do let v ← whole; standAt e.pos; holding [v] (truthy v)) := by intro _; rfl) : PT X e (tB t) := by
  intro pins s σ H Q I hw
  refine isTrue_plain (thn (h pins s σ H _ I hw) fun v s1 ⟨x, H1, I1, r1, q1⟩ => ?_) (he _)
  obtain ⟨d, rfl, q⟩ := q1
  cases r1
  exact wpAny_truthy_bool ⟨H1, I1, q⟩

variable {tA tB' : TT} {rest : List Expr}
def tAnd (t u : TT) : TT := fun σ H Q => t σ H fun c H1 => if c = true then u σ H1 Q else Q false H1
def tOr (t u : TT) : TT := fun σ H Q => t σ H fun c H1 => if c = true then Q true H1 else u σ H1 Q
def tNot (t : TT) : TT := fun σ H Q => t σ H fun c H1 => Q (!c) H1
theorem pw_and1 (ha : PT X a tA) : PW X (.BoolOp .And [a] pos) tA := by
  intro wh pins s σ H Q I h
  refine isTrue_and (thn (ha pins s σ H Q I h) fun c s1 e => ?_)
  cases c with
  | true => exact isTrue_and_nil e
  | false => exact e
theorem pw_or1 (ha : PT X a tA) : PW X (.BoolOp .Or [a] pos) tA := by
  intro wh pins s σ H Q I h
  refine isTrue_or (thn (ha pins s σ H Q I h) fun c s1 e => ?_)
  cases c with
  | false => exact isTrue_or_nil e
  | true => exact e
theorem pw_and (ha : PT X a tA) (hb : PW X (.BoolOp .And (b :: rest) pos) tB') : PW X (.BoolOp .And (a :: b :: rest) pos) (tAnd tA tB') := by
  intro wh pins s σ H Q I h
  refine isTrue_and (thn (ha pins s σ H _ I h) fun c s1 ⟨H1, I1, q1⟩ => ?_)
  cases c with
  | true => exact hb wh pins s1 σ H1 Q I1 q1
  | false => exact ⟨H1, I1, q1⟩
theorem pw_or (ha : PT X a tA) (hb : PW X (.BoolOp .Or (b :: rest) pos) tB') : PW X (.BoolOp .Or (a :: b :: rest) pos) (tOr tA tB') := by
  intro wh pins s σ H Q I h
  refine isTrue_or (thn (ha pins s σ H _ I h) fun c s1 ⟨H1, I1, q1⟩ => ?_)
  cases c with
  | true => exact ⟨H1, I1, q1⟩
  | false => exact hb wh pins s1 σ H1 Q I1 q1
theorem pt_not (ha : PT X a tA) : PT X (.UnaryOp .Not a pos) (tNot tA) := by
  intro pins s σ H Q I h
  exact isTrue_not (ha pins s σ H (fun c H1 => Q (!c) H1) I h)
def tAndV (ta tb : TE) : TE := fun σ H Q => ta σ H fun x H1 => ∃ c, x = .bl c ∧ if c = true then tb σ H1 Q else Q (.bl false) H1
def tOrV (ta tb : TE) : TE := fun σ H Q => ta σ H fun x H1 => ∃ c, x = .bl c ∧ if c = true then Q (.bl true) H1 else tb σ H1 Q
theorem pe_one {op} {t : TE} (h : PE X a t) : PE X (.BoolOp op [a] pos) t := fun pins s σ H Q I hw => BoolOp_one (h pins s σ H Q I hw)
theorem pe_and (ha : PE X a ta) (hb : PE X (.BoolOp .And (b :: rest) pos) tb) : PE X (.BoolOp .And (a :: b :: rest) pos) (tAndV ta tb) := by
  intro pins s σ H Q I h
  refine BoolOp_and (thn (ha pins s σ H _ I h) fun v s1 ⟨x, H1, I1, r1, q1⟩ => ?_)
  obtain ⟨c, rfl, q1⟩ := q1
  cases r1
  refine wpAny_truthy_bool ?_
  cases c with
  | true => exact hb pins s1 σ H1 Q I1 q1
  | false => exact ⟨.bl false, H1, I1, rfl, q1⟩
theorem pe_or (ha : PE X a ta) (hb : PE X (.BoolOp .Or (b :: rest) pos) tb) : PE X (.BoolOp .Or (a :: b :: rest) pos) (tOrV ta tb) := by
  intro pins s σ H Q I h
  refine BoolOp_or (thn (ha pins s σ H _ I h) fun v s1 ⟨x, H1, I1, r1, q1⟩ => ?_)
  obtain ⟨c, rfl, q1⟩ := q1
  cases r1
  refine wpAny_truthy_bool ?_
  cases c with
  | false => exact hb pins s1 σ H1 Q I1 q1
  | true => exact ⟨.bl true, H1, I1, rfl, q1⟩
def tIf (t : TT) (ta tb : TE) : TE := fun σ H Q => t σ H fun c H1 => if c = true then ta σ H1 Q else tb σ H1 Q
theorem pe_ifExp {c : Expr} (hc : PT X c tA) (ha : PE X a ta) (hb : PE X b tb) : PE X (.IfExp c a b pos) (tIf tA ta tb) := by
  intro pins s σ H Q I h
  refine wpAny_IfExp (thn (hc pins s σ H _ I h) fun d s1 ⟨H1, I1, q1⟩ => ?_)
  cases d with
  | true => exact ha pins s1 σ H1 Q I1 q1
  | false => exact hb pins s1 σ H1 Q I1 q1
end
end L2

namespace L2
open PySem PySem.Spec PyProof.Rows

def SqL (K : PySem.W.Frag) (H : Hp) (a : Addr) (xs : List V) : Prop :=
  Rd H a (.lst xs) ∨
    ∃ (o : Obj) (its : Array Value) (n : Nat), K.lookup a = some o ∧ o.cls = .type "list" ∧ o.dict = none ∧ o.data = .seq its n ∧ its.size ≤ sizeLine ∧ Vals xs its.toList
def SqT (K : PySem.W.Frag) (H : Hp) (a : Addr) (xs : List V) : Prop :=
  Rd H a (.tup xs) ∨
    ∃ (o : Obj) (its : Array Value) (n : Nat), K.lookup a = some o ∧ o.cls = .type "tuple" ∧ o.data = .seq its n ∧ its.size ≤ sizeLine ∧ Vals xs its.toList
def absV : Value → Option V
  | .none => some .non
  | .bool b => some (.bl b)
  | .int i _ => some (.int i)
  | .str x _ => some (.str x)
  | .bytes b _ => some (.byt b)
  | .float b _ => some (.flt b)
  | .ref a => some (.ref a)
  | .type n => some (.ty n)
  | _ => none
theorem RelV.abs {x : V} {u : Value} (r : RelV x u) : absV u = some x := by
  cases x with
  | non => cases r; rfl
  | bl _ => cases r; rfl
  | int _ => obtain ⟨t, rfl⟩ := r; rfl
  | str _ => obtain ⟨t, rfl⟩ := r; rfl
  | byt _ => obtain ⟨t, rfl⟩ := r; rfl
  | flt _ => obtain ⟨t, rfl⟩ := r; rfl
  | ref _ => cases r; rfl
  | ty _ => cases r; rfl
theorem RelV.inj {x y : V} {u : Value} (r : RelV x u) (q : RelV y u) : x = y := Option.some.inj (r.abs.symm.trans q.abs)
theorem Vals.inj : ∀ {xs ys : List V} {us : List Value}, Vals xs us → Vals ys us → xs = ys
  | _, _, _, .nil, .nil => rfl
  | _, _, _, .cons r t, .cons r' t' => by rw [r.inj r', Vals.inj t t']
section
variable {X : Cx} {pins : List (Addr × Obj)} {σ : St} {H : Hp} {s : Shared} {a : Addr} {xs ys : List V}
theorem SqL.of {K : PySem.W.Frag} (h : H a = some (.lst xs)) : SqL K H a xs := .inl (.inl h)
theorem SqT.of {K : PySem.W.Frag} (h : H a = some (.tup xs)) : SqT K H a xs := .inl (.inl h)
theorem Inv.list (I : Inv X pins σ H s) (h : SqL X.K H a xs) : ∃ its : List Value, Vals xs its ∧ PlainL s.heap a its.toArray ∧ xs.length ≤ sizeLine := by
  rcases h with h | ⟨o, its, n, hk, hc, hd, hs, hz, r⟩
  · obtain ⟨z, its, n, r, e⟩ := h.ok I.hok
    exact ⟨its, r, ⟨_, n, e, rfl, rfl, rfl⟩, z⟩
  · refine ⟨its.toList, r, ⟨o, n, I.kIn a o hk, hc, hd, by simpa using hs⟩, ?_⟩
    have e := r.length
    simp only [Array.length_toList] at e
    omega
theorem Inv.tuple (I : Inv X pins σ H s) (h : SqT X.K H a xs) : ∃ its : List Value, Vals xs its ∧ IsTup s.heap a its.toArray ∧ xs.length ≤ sizeLine := by
  rcases h with h | ⟨o, its, n, hk, hc, hs, hz, r⟩
  · obtain ⟨z, its, r, p⟩ := h.ok I.hok
    exact ⟨its, r, p, z⟩
  · refine ⟨its.toList, r, ⟨o, I.kIn a o hk, hc, n, by simpa using hs⟩, ?_⟩
    have e := r.length
    simp only [Array.length_toList] at e
    omega
theorem Inv.list_inj (I : Inv X pins σ H s) (h : SqL X.K H a xs) (h' : SqL X.K H a ys) : xs = ys := by
  obtain ⟨its, r, ⟨o, n, e, _, _, d⟩, _⟩ := I.list h
  obtain ⟨its', r', ⟨o', n', e', _, _, d'⟩, _⟩ := I.list h'
  rw [e] at e'; cases e'
  rw [d] at d'
  injection d' with d1 _
  have : its = its' := by simpa using congrArg Array.toList d1
  subst this
  exact r.inj r'
theorem Inv.tuple_inj (I : Inv X pins σ H s) (h : SqT X.K H a xs) (h' : SqT X.K H a ys) : xs = ys := by
  obtain ⟨its, r, ⟨o, e, _, n, d⟩, _⟩ := I.tuple h
  obtain ⟨its', r', ⟨o', e', _, n', d'⟩, _⟩ := I.tuple h'
  rw [e] at e'; cases e'
  rw [d] at d'
  injection d' with d1 _
  have : its = its' := by simpa using congrArg Array.toList d1
  subst this
  exact r.inj r'
end

abbrev Cx.wish (X : Cx) (E : Value → Shared → Prop) : Cx := { X with xe := E }
abbrev Cx.nox (X : Cx) : Cx := X.wish fun _ _ => False
theorem Cx.Ok.wish {X : Cx} (ok : X.Ok) (E : Value → Shared → Prop) : (X.wish E).Ok :=
  ⟨ok.mod, ok.kind, ok.glob, ok.blt, ok.above, ok.inj, ok.has, ok.cab, ok.hd, ok.frames, ok.stk, ok.exf, ok.bs, ok.bsz, ok.noex, ok.exfs, ok.funs, ok.frf⟩
theorem Cx.Ok.unwish {X : Cx} {E : Value → Shared → Prop} (ok : (X.wish E).Ok) : X.Ok :=
  ⟨ok.mod, ok.kind, ok.glob, ok.blt, ok.above, ok.inj, ok.has, ok.cab, ok.hd, ok.frames, ok.stk, ok.exf, ok.bs, ok.bsz, ok.noex, ok.exfs, ok.funs, ok.frf⟩
section
variable {X : Cx} {pins : List (Addr × Obj)} {σ : St} {H : Hp} {s : Shared} {E : Value → Shared → Prop}
theorem Inv.wish (I : Inv X pins σ H s) (E : Value → Shared → Prop) : Inv (X.wish E) pins σ H s := ⟨I.ok.wish E, I.os, I.bare, I.base, I.loc, I.cell, I.free, I.freeC, I.pin, I.hok, I.len⟩
theorem Inv.unwish (I : Inv (X.wish E) pins σ H s) : Inv X pins σ H s := ⟨I.ok.unwish, I.os, I.bare, I.base, I.loc, I.cell, I.free, I.freeC, I.pin, I.hok, I.len⟩
theorem SP.unwish {D : Ends} {f : Flow} {s' : Shared} (h : SP (X.wish E) pins D f s') : SP X pins D f s' := by
  cases f with
  | next => obtain ⟨σ', H', I, q⟩ := h; exact ⟨σ', H', I.unwish, q⟩
  | brk => obtain ⟨σ', H', I, q⟩ := h; exact ⟨σ', H', I.unwish, q⟩
  | cont => obtain ⟨σ', H', I, q⟩ := h; exact ⟨σ', H', I.unwish, q⟩
  | ret u => obtain ⟨v, σ', H', I, r, q⟩ := h; exact ⟨v, σ', H', I.unwish, r, q⟩
theorem PSs.nox {st : List Stmt} {t : TS} (h : PSs X.nox st t) : PSs X st t := fun pins s σ H D I hw =>
  wpAny_mono (h pins s σ H D (I.wish _) hw) (fun _ _ q => q.unwish) fun _ _ z => False.elim z
end

section
variable {X : Cx} {st : Stmt} {rest : List Stmt} {t u : TS} {e : Expr} {te : TE} {pos : Pos}
def tNext : TS := fun D σ H => D.nx σ H
def tSeq (t u : TS) : TS := fun D σ H => t { D with nx := u D } σ H
theorem pss_nil : PSs X [] tNext := fun _ _ σ H _ I h => wpAny_execs_nil ⟨σ, H, I, h⟩
theorem pss_cons (h1 : PS X st t) (h2 : PSs X rest u) : PSs X (st :: rest) (tSeq t u) := by
  intro pins s σ H D I h
  refine wpAny_execs_cons (thn (h1 pins s σ H { D with nx := u D } I h) fun f s1 q => ?_)
  cases f with
  | next =>
    obtain ⟨σ', H', I', q⟩ := q
    exact h2 pins s1 σ' H' D I' q
  | ret v => exact q
  | brk => exact q
  | cont => exact q
theorem pss_one (h1 : PS X st t) : PSs X [st] t := by
  intro pins s σ H D I h
  refine wpAny_execs_cons (thn (h1 pins s σ H D I h) fun f s1 q => ?_)
  cases f with
  | next => exact wpAny_execs_nil q
  | ret v => exact q
  | brk => exact q
  | cont => exact q
def tBreak : TS := fun D σ H => D.bk σ H
theorem ps_break : PS X (.Break pos) tBreak := fun _ _ σ H _ I h => wpAny_Break ⟨σ, H, I, h⟩
theorem Inv.quiet {pins : List (Addr × Obj)} {σ : St} {H : Hp} {s : Shared} (I : Inv X pins σ H s) : interactive X.env = false := by simp [interactive, I.ok.kind]
def tDrop (te : TE) : TS := fun D σ H => te σ H fun _ H1 => D.nx σ H1
theorem ps_expr (he : PE X e te) (hs : swapsWith e none pos.line X.env = pure false := by rfl) : PS X (.Expr e pos) (tDrop te) := by
  intro pins s σ H D I h
  exact wpAny_Expr_any (thn (he pins s σ H _ I h) fun v s1 ⟨x, H1, I1, r1, q1⟩ => ⟨σ, H1, I1, q1⟩) I.quiet hs
def tRet (te : TE) : TS := fun D σ H => te σ H D.rt
theorem ps_ret (he : PE X e te) : PS X (.Return (some e) pos) (tRet te) := by
  intro pins s σ H D I h
  exact wpAny_Return_some (thn (he pins s σ H _ I h) fun v s1 ⟨x, H1, I1, r1, q1⟩ => ⟨x, σ, H1, I1, r1, q1⟩)
def tIfS (c : TT) (t u : TS) : TS := fun D σ H => c σ H fun b H1 => if b = true then t D σ H1 else u D σ H1
theorem ps_if {c : Expr} {a b : List Stmt} {tc : TT} (hc : PT X c tc) (ha : PSs X a t) (hb : PSs X b u) : PS X (.If c a b pos) (tIfS tc t u) := by
  intro pins s σ H D I h
  refine wpAny_If (thn (hc pins s σ H _ I h) fun d s1 ⟨H1, I1, q1⟩ => ?_)
  cases d with
  | true => exact ha pins s1 σ H1 D I1 q1
  | false => exact hb pins s1 σ H1 D I1 q1
end

abbrev TG := V → St → Hp → (St → Hp → Prop) → Prop
def PG (X : Cx) (target : Expr) (t : TG) : Prop :=
  ∀ (pins : List (Addr × Obj)) (s : Shared) (σ : St) (H : Hp) (v : V) (u : Value) (Q : St → Hp → Prop), Inv X pins σ H s → RelV v u → t v σ H Q →
    wpAny (model X.prog X.w) X.A (assign target X.env u) (fun _ s' => ∃ σ' H', Inv X pins σ' H' s' ∧ Q σ' H') X.xe s
abbrev TIp := V → V → Hp → VK → Prop
def PIp (X : Cx) (op : Operator) (t : TIp) : Prop :=
  ∀ (pins : List (Addr × Obj)) (s : Shared) (σ : St) (H : Hp) (x y : V) (v u : Value) (Q : VK), Inv X pins σ H s → RelV x v → RelV y u → t x y H Q →
    wpAny (model X.prog X.w) X.A (inplaceOp op v u) (EP X pins σ Q) X.xe s
section
variable {X : Cx} {pos : Pos}
def gName (i : Nat) : TG := fun v σ H Q => Q (σ.set i (some v)) H
theorem pg_name {i : Nat} {x : Str} (hN : X.N.Nodup) (hi : X.N[i]? = some x) (hx : Loc X.env.scope x) (hf : X.fn x = true ∨ X.env.scope.names.lookup x = some .local := by first | exact .inl rfl | exact .inr rfl | assumption) : PG X (.Name x pos) (gName i) := by
  intro pins s σ H v u Q I r h
  exact wpAny_assign_Name (store_ok I hN hi hx r (fun s' I' => ⟨_, H, I', h⟩) hf)
def tAsg (te : TE) (g : TG) : TS := fun D σ H => te σ H fun x H1 => g x σ H1 D.nx
theorem ps_set {i : Nat} {x : Str} {e : Expr} {te : TE} {pos' : Pos} (hN : X.N.Nodup) (hi : X.N[i]? = some x) (hx : Loc X.env.scope x) (he : PE X e te) (hs : swapsWith e (some (.Name x pos')) pos.line X.env = pure false := by rfl) (hf : X.fn x = true ∨ X.env.scope.names.lookup x = some .local := by first | exact .inl rfl | exact .inr rfl | assumption) :
    PS X (.Assign [.Name x pos'] e pos) (tAsg te (gName i)) := by
  intro pins s σ H D I h
  refine wpAny_Assign_Name (thn (he pins s σ H _ I h) fun v s1 ⟨y, H1, I1, r1, q1⟩ => ?_) hs
  exact store_ok I1 hN hi hx r1 (fun s2 I2 => ⟨_, H1, I2, q1⟩) hf
def tAug (i : Nat) (te : TE) (ti : TIp) : TS := fun D σ H => ∃ x, σ[i]? = some (some x) ∧ te σ H fun y H1 => ti x y H1 fun z H2 => D.nx (σ.set i (some z)) H2
theorem ps_aug {i : Nat} {x : Str} {e : Expr} {te : TE} {op : Operator} {ti : TIp} {pos' : Pos} (hN : X.N.Nodup) (hi : X.N[i]? = some x) (hx : Loc X.env.scope x) (he : PE X e te) (ho : PIp X op ti) (hf : X.fn x = true ∨ X.env.scope.names.lookup x = some .local := by first | exact .inl rfl | exact .inr rfl | assumption) :
    PS X (.AugAssign (.Name x pos') op e pos) (tAug i te ti) := by
  intro pins s σ H D I h
  obtain ⟨v, e1, h⟩ := h
  obtain ⟨m, hn, hl⟩ := I.loc
  have vis : Vis X.env.scope x := by rcases hx with k | k; exact .inl k; exact .inr (.inl k)
  obtain ⟨u, r, l⟩ := hl i x v hi e1 vis
  refine wpAny_AugAssign_Name ?_
  have go : wpAny (model X.prog X.w) X.A (eval e X.env) (fun w s₂ => wpAny (model X.prog X.w) X.A (inplaceOp op u w) (fun r s₃ => wpAny (model X.prog X.w) X.A (storeName X.env x r) (fun _ => SP X pins D .next) X.xe s₃) X.xe s₂) X.xe s := by
    refine thn (he pins s σ H _ I h) fun w s1 ⟨y, H1, I1, r1, q1⟩ => ?_
    refine thn (ho pins s1 σ H1 v y u w _ I1 r r1 q1) fun z s2 ⟨zv, H2, I2, r2, q2⟩ => ?_
    exact store_ok I2 hN hi hx r2 (fun s3 I3 => ⟨_, H2, I3, q2⟩) hf
  rcases l with ⟨hk, hm⟩ | ⟨hk, c, hc, hcell⟩
  · exact wpAny_loadName_local I.ok.kind hk hn hm go
  · rcases hk with hk | hk
    · exact wpAny_loadName_cell I.ok.kind hk hc hcell go
    · rcases hx with k | k
      · have : X.env.scope.names.lookup x = some .free := hk
        rw [k] at this; cases this
      · have : X.env.scope.names.lookup x = some .free := hk
        rw [k] at this; cases this
def ipI (f : Int → Int → Int) : TIp := fun x y H Q => ∃ i j, x = .int i ∧ y = .int j ∧ Q (.int (f i j)) H
theorem ip_add : PIp X .Add (ipI fun i j => i + j) := by
  intro pins s σ H x y v u Q I r1 r2 h
  obtain ⟨i, j, e1, e2, q⟩ := h
  subst e1; subst e2
  obtain ⟨t, rfl⟩ := r1
  obtain ⟨t', rfl⟩ := r2
  exact iadd_int ⟨.int _, H, I.tok _, ⟨_, rfl⟩, q⟩
theorem ip_sub : PIp X .Sub (ipI fun i j => i - j) := by
  intro pins s σ H x y v u Q I r1 r2 h
  obtain ⟨i, j, e1, e2, q⟩ := h
  subst e1; subst e2
  obtain ⟨t, rfl⟩ := r1
  obtain ⟨t', rfl⟩ := r2
  exact isub_int ⟨.int _, H, I.tok _, ⟨_, rfl⟩, q⟩
end

section
variable {X : Cx} {pos : Pos}
def tWhile (c : TT) (tb : TS) : TS := fun D σ H => ∃ W : Nat → St → Hp → Prop, (∃ m, W m σ H) ∧ ∀ m σ H, W m σ H →
  c σ H fun b H1 => if b = true then ∃ N : St → Hp → Prop, (∀ σ' H', N σ' H' → ∃ m', m' < m ∧ W m' σ' H') ∧ tb { D with nx := N, ct := N, bk := D.nx } σ H1 else D.nx σ H1
theorem ps_while {c : Expr} {body : List Stmt} {tc : TT} {tb : TS} (hp : PassesOwn (model X.prog X.w) X.A X.env X.xe) (hc : PT X c tc) (hb : PSs X body tb) : PS X (.While c body [] pos) (tWhile tc tb) := by
  intro pins s σ H D I h
  obtain ⟨W, ⟨m0, w0⟩, turn⟩ := h
  refine wpAny_While (codeAny_whileLoop (fun n s' => ∃ σ' H', Inv X pins σ' H' s' ∧ W n σ' H') ?_ m0 ⟨σ, H, I, w0⟩)
  rintro n s1 ⟨σ1, H1, I1, w1⟩
  refine wpAny_passesOwn hp (thn (hc pins s1 σ1 H1 _ I1 (turn n σ1 H1 w1)) fun b s2 ⟨H2, I2, q2⟩ => ?_)
  cases b with
  | true =>
    obtain ⟨N, hN, q2⟩ := q2
    rw [if_pos rfl]
    refine wpAny_passesOwn hp (thn (hb pins s2 σ1 H2 _ I2 q2) fun f s3 q3 => ?_)
    cases f with
    | next =>
      obtain ⟨σ3, H3, I3, n3⟩ := q3
      obtain ⟨m', hm, w3⟩ := hN σ3 H3 n3
      exact ⟨m', hm, σ3, H3, I3, w3⟩
    | cont =>
      obtain ⟨σ3, H3, I3, n3⟩ := q3
      obtain ⟨m', hm, w3⟩ := hN σ3 H3 n3
      exact ⟨m', hm, σ3, H3, I3, w3⟩
    | brk => exact q3
    | ret v => exact q3
  | false =>
    rw [if_neg Bool.false_ne_true]
    exact wpAny_execs_nil ⟨σ1, H2, I2, q2⟩
end

structure It where
  go : Nat → Hp → Prop
  yld : Nat → Hp → V → Hp → Prop
  stop : Nat → Hp → Prop
def FpOk (X : Cx) (pins : List (Addr × Obj)) (H : Hp) (b : Addr) : Prop :=
  H b = none ∧ b ≠ X.env.locals ∧ b ∉ X.fs ∧ (b ∈ X.ex ∨ X.s_0.heap.objs.size ≤ b) ∧ (∀ x c, X.env.cells.lookup x = some c → c ≠ b) ∧ ∀ p ∈ X.pn ++ pins, p.1 ≠ b
theorem Inv.fpOk {X : Cx} {pins : List (Addr × Obj)} {σ : St} {H H' : Hp} {s : Shared} {b : Addr} (I : Inv X pins σ H s) (hb : s.heap.objs.size ≤ b) (hn : H' b = none) : FpOk X pins H' b := by
  refine ⟨hn, Nat.ne_of_gt (Nat.lt_of_lt_of_le I.lt hb), I.nofs hb, .inr (Nat.le_trans I.sz hb), fun x c e z => ?_, fun p hp z => ?_⟩
  · obtain ⟨v, q⟩ := I.cell x c e
    exact absurd (Nat.lt_of_lt_of_le q.lt (by rw [z]; exact hb)) (Nat.lt_irrefl _)
  · exact absurd (Nat.lt_of_lt_of_le (Heap.lt_size (I.pin p hp).1) (by rw [z]; exact hb)) (Nat.lt_irrefl _)
structure Turn (P : Program) (w : World) (K : PySem.W.Frag) (tg : Expr) (J : It) (fp : List Addr) (it : Addr) (tn : Nat → Heap → Prop) : Prop where
  mem : it ∈ fp
  obj : ∀ i h, tn i h → ∀ b ∈ fp, ∃ o, h.get? b = some o ∧ ∀ v, o.data ≠ .cell v
  keep : ∀ i h h', tn i h → (∀ b ∈ fp, ∀ o, h.get? b = some o → h'.get? b = some o) → tn i h'
  item : ∀ (X : Cx), X.prog = P → X.w = w → X.K = K → X.calm = true → ∀ (i : Nat) (pins : List (Addr × Obj)) (s : Shared) (σ : St) (H : Hp) (E : Value → Shared → Prop), Inv X pins σ H s → (∀ b ∈ fp, FpOk X pins H b) → tn i s.heap → J.go i H →
    wpAny (model P w) X.A (pyNext (.ref it)) (fun r s1 => ∃ u, r = some u ∧
      wpAny (model P w) X.A (letOwnedTupleGo tg (.ref it) u) (fun _ s2 => ∃ x H', Inv X pins σ H' s2 ∧ RelV x u ∧ J.yld i H x H' ∧ tn (i + 1) s2.heap ∧ ∀ b ∈ fp, H' b = none) E s1) E s
  done : ∀ (X : Cx), X.prog = P → X.w = w → X.K = K → X.calm = true → ∀ (i : Nat) (pins : List (Addr × Obj)) (s : Shared) (σ : St) (H : Hp) (E : Value → Shared → Prop), Inv X pins σ H s → (∀ b ∈ fp, FpOk X pins H b) → tn i s.heap → J.stop i H →
    wpAny (model P w) X.A (pyNext (.ref it)) (fun r s1 => r = none ∧ Inv X pins σ H s1) E s
  self : ∀ (A : Around) (i : Nat) (s : Shared) (Q : Value → Shared → Prop) (E : Value → Shared → Prop), tn i s.heap → Q (.ref it) s → wpAny (model P w) A (pyIter (.ref it)) Q E s
abbrev TI := St → Hp → (It → Hp → Prop) → Prop
def PIE (X : Cx) (pins : List (Addr × Obj)) (σ : St) (tg : Expr) (R : It → Hp → Prop) (itv : Value) (s2 : Shared) : Prop :=
  ∃ (it : Addr) (fp : List Addr) (tn : Nat → Heap → Prop) (J : It) (H' : Hp), itv = .ref it ∧ Inv X pins σ H' s2 ∧ Turn X.prog X.w X.K tg J fp it tn ∧ tn 0 s2.heap ∧ (∀ b ∈ fp, FpOk X pins H' b) ∧ R J H'
def PI (X : Cx) (tg iter : Expr) (wi : TI) : Prop :=
  ∀ (pins : List (Addr × Obj)) (s : Shared) (σ : St) (H : Hp) (R : It → Hp → Prop), Inv X pins σ H s → wi σ H R →
    wpAny (model X.prog X.w) X.A (eval iter X.env) (fun v s1 => wpAny (model X.prog X.w) X.A (pyIter v) (PIE X pins σ tg R) X.xe s1) X.xe s

theorem go_of {M : Model} {A : Around} {E : Value → Shared → Prop} {s : Shared} {tg : Expr} {it : Addr} {u : Value} {o : Obj} {n : String} {vs : Array Value} {Q : Unit → Shared → Prop} (ho : s.heap.get? it = some o) (hc : o.cls = .type n) (hd : o.data = .fields vs)
    (hn : ["enumerate", "zip", "dict_itemiterator", "dict_reverseitemiterator", "odict_iterator", "itertools.zip_longest", "itertools.pairwise"].contains n = false) (hQ : Q () s) : wpAny M A (letOwnedTupleGo tg (.ref it) u) Q E s := by
  unfold letOwnedTupleGo
  cases tg <;> first
    | exact wpAny_pure hQ
    | (cases u <;> first
        | exact wpAny_pure hQ
        | (refine wpAny_bind (wpAny_load ho ?_)
           rw [hc, hd]
           show wpAny M A (if (["enumerate", "zip", "dict_itemiterator", "dict_reverseitemiterator", "odict_iterator", "itertools.zip_longest", "itertools.pairwise"].contains n && vs[0]? == some (rawInt _)) = true then _ else _) Q E s
           rw [if_neg (by intro h; rw [hn, Bool.false_and] at h; cases h)]
           exact wpAny_pure hQ))

def Itl (K : PySem.W.Frag) (a : Addr) : It :=
  ⟨fun i H => ∃ xs x, SqL K H a xs ∧ xs[i]? = some x, fun i H x H' => H' = H ∧ ∀ xs, SqL K H a xs → xs[i]? = some x, fun i H => ∃ xs, SqL K H a xs ∧ xs.length ≤ i⟩
def Itt (K : PySem.W.Frag) (a : Addr) : It :=
  ⟨fun i H => ∃ xs x, SqT K H a xs ∧ xs[i]? = some x, fun i H x H' => H' = H ∧ ∀ xs, SqT K H a xs → xs[i]? = some x, fun i H => ∃ xs, SqT K H a xs ∧ xs.length ≤ i⟩
def Itr (lo : Int) (n : Nat) : It := ⟨fun i _ => i < n, fun i H x H' => H' = H ∧ x = .int (lo + i), fun i _ => n ≤ i⟩
theorem turn_list {P : Program} {w : World} {K : PySem.W.Frag} {tg : Expr} (a it : Addr) : Turn P w K tg (Itl K a) [it] it (fun i h => h.IsListIter it a i) where
  mem := by simp
  obj := fun i h st b hb => by
    have e : b = it := by simpa using hb
    subst e
    obtain ⟨o, e, c, d⟩ := st
    exact ⟨o, e, fun v z => by rw [d] at z; cases z⟩
  keep := fun i h h' st k => st.at fun o e => k it (by simp) o e
  item := by
    intro X hP hw hK hc i pins s σ H E I hf st hg
    subst hP hw hK
    obtain ⟨xs, x, hq, hx⟩ := hg
    obtain ⟨its, rv, p, hz⟩ := I.list hq
    obtain ⟨u, hu, ru⟩ := rv.get hx
    obtain ⟨f0, f1, f2, f3, f4, f5⟩ := hf it (by simp)
    refine wpAny_pyNext_list_item st p.isList (x := u) (by simpa using hu) fun h' st' sb => ?_
    have I1 : Inv X pins σ H { s with heap := h' } := I.turned (t' := s.toks) (fun b o hb e => (sb.2 b hb).trans e) f0 f1 f3 f4 f5
    obtain ⟨o, e, c, d⟩ := id st'
    exact ⟨u, rfl, go_of (s := { s with heap := h' }) e c d (by decide) ⟨x, H, I1, ru, ⟨rfl, fun ys hy => by rw [I.list_inj hy hq]; exact hx⟩, st', fun b hb => (hf b hb).1⟩⟩
  done := by
    intro X hP hw hK hc i pins s σ H E I hf st hg
    subst hP hw hK
    obtain ⟨xs, hq, hx⟩ := hg
    obtain ⟨its, rv, p, hz⟩ := I.list hq
    obtain ⟨f0, f1, f2, f3, f4, f5⟩ := hf it (by simp)
    have hl := rv.length
    exact wpAny_pyNext_list_end (I.ok.hd hc) st p.isList (by simp; omega) fun h' eb => ⟨rfl, I.turned (t' := s.toks) (fun b o hb e => eb b o hb e) f0 f1 f3 f4 f5⟩
  self := fun _ _ _ _ _ st h => wpAny_pyIter_listiter st h
theorem turn_tuple {P : Program} {w : World} {K : PySem.W.Frag} {tg : Expr} (a it : Addr) : Turn P w K tg (Itt K a) [it] it (fun i h => h.IsTupleIter it a i) where
  mem := by simp
  obj := fun i h st b hb => by
    have e : b = it := by simpa using hb
    subst e
    obtain ⟨o, e, c, d⟩ := st
    exact ⟨o, e, fun v z => by rw [d] at z; cases z⟩
  keep := fun i h h' st k => st.at fun o e => k it (by simp) o e
  item := by
    intro X hP hw hK hc i pins s σ H E I hf st hg
    subst hP hw hK
    obtain ⟨xs, x, hq, hx⟩ := hg
    obtain ⟨its, rv, p, hz⟩ := I.tuple hq
    obtain ⟨u, hu, ru⟩ := rv.get hx
    obtain ⟨f0, f1, f2, f3, f4, f5⟩ := hf it (by simp)
    refine wpAny_pyNext_tuple_item st (show s.heap.IsTuple a its.toArray from p) (x := u) (by simpa using hu) fun h' st' sb => ?_
    have I1 : Inv X pins σ H { s with heap := h' } := I.turned (t' := s.toks) (fun b o hb e => (sb.2 b hb).trans e) f0 f1 f3 f4 f5
    obtain ⟨o, e, c, d⟩ := id st'
    exact ⟨u, rfl, go_of (s := { s with heap := h' }) e c d (by decide) ⟨x, H, I1, ru, ⟨rfl, fun ys hy => by rw [I.tuple_inj hy hq]; exact hx⟩, st', fun b hb => (hf b hb).1⟩⟩
  done := by
    intro X hP hw hK hc i pins s σ H E I hf st hg
    subst hP hw hK
    obtain ⟨xs, hq, hx⟩ := hg
    obtain ⟨its, rv, p, hz⟩ := I.tuple hq
    obtain ⟨f0, f1, f2, f3, f4, f5⟩ := hf it (by simp)
    have hl := rv.length
    exact wpAny_pyNext_tuple_end (I.ok.hd hc) st (show s.heap.IsTuple a its.toArray from p) (by simp; omega) fun h' eb => ⟨rfl, I.turned (t' := s.toks) (fun b o hb e => eb b o hb e) f0 f1 f3 f4 f5⟩
  self := fun _ _ _ _ _ st h => wpAny_pyIter_tupleiter st h
theorem turn_range {P : Program} {w : World} {K : PySem.W.Frag} {tg : Expr} (it : Addr) (lo : Int) (n : Nat) : Turn P w K tg (Itr lo n) [it] it (fun i h => IsRangeIter h it (lo + (i : Nat) * 1) ((n : Int) - (i : Nat)) 1) where
  mem := by simp
  obj := fun i h st b hb => by
    have e : b = it := by simpa using hb
    subst e
    exact ⟨_, st, fun v z => by
      have z' : Data.fields _ = Data.cell v := z
      cases z'⟩
  keep := fun i h h' st k => k it (by simp) _ st
  item := by
    intro X hP hw hK hc i pins s σ H E I hf st hg
    subst hP hw hK
    obtain ⟨f0, f1, f2, f3, f4, f5⟩ := hf it (by simp)
    have W := Walks.range (prog := X.prog) (w := X.w) (I.ok.hd hc) it lo 1 n
    refine W.item i s _ _ hg st fun v h' tk hv st' kk => ?_
    obtain ⟨t, rfl⟩ := hv
    have I1 : Inv X pins σ H { s with heap := h', toks := tk } := I.turned (fun b o hb e => kk b o (by simpa using hb) e) f0 f1 f3 f4 f5
    refine ⟨_, rfl, go_of (s := { s with heap := h', toks := tk }) (n := "range_iterator") st' rfl rfl (by decide) ⟨.int (lo + i), H, I1, ⟨t, ?_⟩, ⟨rfl, rfl⟩, st', fun b hb => (hf b hb).1⟩⟩
    rw [Int.mul_one]
  done := by
    intro X hP hw hK hc i pins s σ H E I hf st hg
    subst hP hw hK
    obtain ⟨f0, f1, f2, f3, f4, f5⟩ := hf it (by simp)
    exact wpAny_pyNext_range_end (I.ok.hd hc) st (by have : n ≤ i := hg; omega) fun h' eb => ⟨rfl, I.turned (t' := s.toks) (fun b o hb e => eb b o hb e) f0 f1 f3 f4 f5⟩
  self := fun _ _ _ _ _ st h => wpAny_pyIter_rangeiter st h
end L2

namespace L2
open PySem PySem.Spec PyProof.Rows
section
variable {X : Cx} {tg : Expr}
def iList (K : PySem.W.Frag) (tl : TE) : TI := fun σ H R => tl σ H fun x H1 => ∃ a, x = .ref a ∧ (∃ xs, SqL K H1 a xs) ∧ R (Itl K a) H1
def iTup (K : PySem.W.Frag) (tl : TE) : TI := fun σ H R => tl σ H fun x H1 => ∃ a, x = .ref a ∧ (∃ xs, SqT K H1 a xs) ∧ R (Itt K a) H1
theorem pi_list {l : Expr} {tl : TE} (hl : PE X l tl) : PI X tg l (iList X.K tl) := by
  intro pins s σ H R I h
  refine thn (hl pins s σ H _ I h) fun v s1 ⟨x, H1, I1, r1, q1⟩ => ?_
  obtain ⟨a, e, ⟨xs, hq⟩, q⟩ := q1
  subst e
  cases r1
  obtain ⟨its, rv, p, hz⟩ := I1.list hq
  refine wpAny_pyIter_list p.isList ?_
  refine ⟨s1.heap.objs.size, [s1.heap.objs.size], _, _, H1, rfl, I1.kept (t' := s1.toks) fun b o e => Heap.get?_push_of_some _ e, turn_list a _, ⟨_, Heap.get?_push_size _ rfl, rfl, rfl⟩, fun b hb => ?_, q⟩
  have e : b = s1.heap.objs.size := by simpa using hb
  subst e
  exact I1.fpOk (Nat.le_refl _) (I1.hok.fresh (Nat.le_refl _))
theorem pi_tup {l : Expr} {tl : TE} (hl : PE X l tl) : PI X tg l (iTup X.K tl) := by
  intro pins s σ H R I h
  refine thn (hl pins s σ H _ I h) fun v s1 ⟨x, H1, I1, r1, q1⟩ => ?_
  obtain ⟨a, e, ⟨xs, hq⟩, q⟩ := q1
  subst e
  cases r1
  obtain ⟨its, rv, p, hz⟩ := I1.tuple hq
  refine wpAny_pyIter_tuple (show s1.heap.IsTuple a its.toArray from p) ?_
  refine ⟨s1.heap.objs.size, [s1.heap.objs.size], _, _, H1, rfl, I1.kept (t' := s1.toks) fun b o e => Heap.get?_push_of_some _ e, turn_tuple a _, ⟨_, Heap.get?_push_size _ rfl, rfl, rfl⟩, fun b hb => ?_, q⟩
  have e : b = s1.heap.objs.size := by simpa using hb
  subst e
  exact I1.fpOk (Nat.le_refl _) (I1.hok.fresh (Nat.le_refl _))
theorem range_it {pins : List (Addr × Obj)} {σ : St} {H : Hp} {s : Shared} {R : It → Hp → Prop} {E : Value → Shared → Prop} {lo hi : Int} {t u v : Tok} {tk : Nat} (I : Inv X pins σ H s) (h1 : -(2 ^ 62) ≤ lo) (h2 : lo < 2 ^ 62) (h3 : -(2 ^ 62) ≤ hi) (h4 : hi < 2 ^ 62)
    (q : R (Itr lo (hi - lo).toNat) H) : wpAny (model X.prog X.w) X.A (pyIter (.ref s.heap.objs.size)) (PIE X pins σ tg R) E { s with heap := s.heap.push { cls := .type "range", data := .fields #[.int lo t, .int hi u, .int 1 v] }, toks := tk } := by
  refine wpAny_pyIter_range (IsRange.new ..) (small_one h1 h2 h3 h4) ?_
  have I1 : Inv X pins σ H { s with heap := s.heap.push { cls := .type "range", data := .fields #[.int lo t, .int hi u, .int 1 v] }, toks := tk } := I.kept fun b o e => Heap.get?_push_of_some _ e
  refine ⟨(s.heap.push { cls := .type "range", data := .fields #[.int lo t, .int hi u, .int 1 v] }).objs.size, [(s.heap.push { cls := .type "range", data := .fields #[.int lo t, .int hi u, .int 1 v] }).objs.size], _, _, H, rfl,
    I1.kept (t' := tk) fun b o e => Heap.get?_push_of_some _ e, turn_range _ lo (hi - lo).toNat, ?_, fun b hb => ?_, q⟩
  · have e1 : lo + ((0 : Nat) : Int) * 1 = lo := by simp
    have e2 : (((hi - lo).toNat : Nat) : Int) - ((0 : Nat) : Int) = Builtin.Range.rangeSize lo hi 1 := by rw [rangeSize_one]; split <;> omega
    show IsRangeIter _ _ (lo + ((0 : Nat) : Int) * 1) ((((hi - lo).toNat : Nat) : Int) - ((0 : Nat) : Int)) 1
    rw [e1, e2]
    exact Heap.get?_push_size _ rfl
  · have e : b = (s.heap.push { cls := .type "range", data := .fields #[.int lo t, .int hi u, .int 1 v] }).objs.size := by simpa using hb
    subst e
    exact I1.fpOk (Nat.le_refl _) (I1.hok.fresh (Nat.le_refl _))
def iRng2 (ta : TA) : TI := fun σ H R => ta σ H fun vs H1 => ∃ i j : Int, vs = [.int i, .int j] ∧ (-(2 ^ 62) ≤ i ∧ i < 2 ^ 62 ∧ -(2 ^ 62) ≤ j ∧ j < 2 ^ 62) ∧ R (Itr i (j - i).toNat) H1
theorem pi_range2 {a b : Expr} {ta : TA} {p pos : Pos} (hg : Gl X "range") (hm : X.mg "range" = none) (ha : PA X [a, b] ta) (hs : starEach [a, b] X.env = [(false, eval a X.env), (false, eval b X.env)] := by rfl) (hs2 : starEach [b] X.env = [(false, eval b X.env)] := by rfl) :
    PI X tg (.Call (.Name "range" p) [a, b] [] pos) (iRng2 ta) := by
  intro pins s σ H R I h
  refine Call_ (ld_blt I hg hm boot_range (PyProof.Rows.callWith_type1 (thn (ha pos pins s σ H _ I h) fun us s1 ⟨vs, H1, I1, r1, q1⟩ => ?_) (by rw [hs, hs2]) (by rw [hs2]; rfl)))
  obtain ⟨i, j, e, ⟨q1, q2, q3, q4⟩, q⟩ := q1
  subst e
  cases r1 with
  | cons r rr =>
    cases rr with
    | cons r' rr =>
      cases rr
      obtain ⟨t, rfl⟩ := r
      obtain ⟨t', rfl⟩ := r'
      exact call_range_2 (range_it I1 q1 q2 q3 q4 q)

def tFor (wi : TI) (g : TG) (tb : TS) : TS := fun D σ H => wi σ H fun J H1 => ∃ W : Nat → Nat → St → Hp → Prop, (∃ m, W 0 m σ H1) ∧ ∀ i m σ H, W i m σ H →
  (J.stop i H ∧ D.nx σ H) ∨ (J.go i H ∧ ∃ N : St → Hp → Prop, (∀ σ' H', N σ' H' → ∃ m', m' < m ∧ W (i + 1) m' σ' H') ∧ ∀ x H', J.yld i H x H' → g x σ H' fun σ2 H2 => tb { D with nx := N, ct := N, bk := D.nx } σ2 H2)
def pinsAt (fp : List Addr) (h : Heap) : List (Addr × Obj) := fp.filterMap fun b => (h.get? b).map fun o => (b, o)
theorem mem_pinsAt {fp : List Addr} {h : Heap} {b : Addr} {o : Obj} (hb : b ∈ fp) (e : h.get? b = some o) : (b, o) ∈ pinsAt fp h := List.mem_filterMap.mpr ⟨b, hb, by rw [e]; rfl⟩
theorem of_pinsAt {fp : List Addr} {h : Heap} {p : Addr × Obj} (hp : p ∈ pinsAt fp h) : p.1 ∈ fp ∧ h.get? p.1 = some p.2 := by
  obtain ⟨b, hb, e⟩ := List.mem_filterMap.mp hp
  cases q : h.get? b with
  | none => rw [q] at e; cases e
  | some o =>
    rw [q] at e
    have e' : (b, o) = p := Option.some.inj e
    subst e'
    exact ⟨hb, q⟩
theorem Inv.pinned {pins : List (Addr × Obj)} {σ : St} {H : Hp} {s : Shared} {fp : List Addr} (I : Inv X pins σ H s) (hf : ∀ b ∈ fp, FpOk X pins H b) (ho : ∀ b ∈ fp, ∃ o, s.heap.get? b = some o ∧ ∀ v, o.data ≠ .cell v) : Inv X (pins ++ pinsAt fp s.heap) σ H s :=
  I.pins_of fun p hp => (List.mem_append.mp hp).elim (fun z => I.pin p (List.mem_append_right _ z)) fun z => by
    obtain ⟨hb, e⟩ := of_pinsAt z
    obtain ⟨f0, f1, f2, _⟩ := hf p.1 hb
    obtain ⟨o, e', d⟩ := ho p.1 hb
    rw [e] at e'; cases e'
    exact ⟨e, f0, f1, f2, d⟩
theorem Inv.unpinned {pins pl : List (Addr × Obj)} {σ : St} {H : Hp} {s : Shared} (I : Inv X (pins ++ pl) σ H s) : Inv X pins σ H s := I.pins_of fun p hp => I.pin p (List.mem_append_right _ (List.mem_append_left _ hp))
theorem ps_for {iter : Expr} {body : List Stmt} {wi : TI} {g : TG} {tb : TS} {pos : Pos} (hp : PassesOwn (model X.prog X.w) X.A X.env X.xe) (hc : X.calm = true) (hi : PI X tg iter wi) (hg : PG X tg g) (hb : PSs X body tb)
    (hs : ∀ x, foldedSetIterable iter X.env x = pure x := by intro _; rfl) : PS X (.For tg iter body [] pos) (tFor wi g tb) := by
  intro pins s σ H D I h
  refine wpAny_For (thn (hi pins s σ H _ I h) fun v s1 h1 => thn h1 fun itv s2 h2 => ?_) hs
  obtain ⟨it, fp, tn, J, H2, e, I2, T, st2, f2, W, ⟨m0, w0⟩, turn⟩ := h2
  subst e
  -- what stays true of the iterator's objects through the loop
  have stat : ∀ {H' : Hp}, (∀ b ∈ fp, H' b = none) → ∀ b ∈ fp, FpOk X pins H' b := fun hn b hb => ⟨hn b hb, (f2 b hb).2⟩
  refine codeAny_forLoop_any (fun n s' => ∃ i σ' H', Inv X pins σ' H' s' ∧ tn i s'.heap ∧ (∀ b ∈ fp, H' b = none) ∧ W i n σ' H') ?_ m0 ⟨0, σ, H2, I2, st2, fun b hb => (f2 b hb).1, w0⟩
  rintro n s3 ⟨i, σ3, H3, I3, st3, fr3, w3⟩
  rcases turn i n σ3 H3 w3 with ⟨stop, qn⟩ | ⟨go, N, hN, step⟩
  · refine wpAny_passesOwn hp (thn (T.done X rfl rfl rfl hc i pins s3 σ3 H3 X.xe I3 (stat fr3) st3 stop) fun r s4 ⟨hr, I4⟩ => ?_)
    subst hr
    exact wpAny_execs_nil ⟨σ3, H3, I4, qn⟩
  · refine wpAny_passesOwn hp (thn (T.item X rfl rfl rfl hc i pins s3 σ3 H3 X.xe I3 (stat fr3) st3 go) fun r s4 ⟨u, hr, h4⟩ => ?_)
    subst hr
    refine wpAny_passesOwn hp (thn h4 fun _ s5 ⟨x, H5, I5, r5, y5, st5, fr5⟩ => ?_)
    have I5' := I5.pinned (stat fr5) (T.obj _ _ st5)
    refine wpAny_passesOwn hp (thn (hg _ s5 σ3 H5 x u _ I5' r5 (step x H5 y5)) fun _ s6 ⟨σ6, H6, I6, q6⟩ => ?_)
    refine wpAny_passesOwn hp (thn (hb _ s6 σ6 H6 _ I6 q6) fun f s7 q7 => ?_)
    have again : ∀ {σ7 : St} {H7 : Hp}, Inv X (pins ++ pinsAt fp s5.heap) σ7 H7 s7 → N σ7 H7 → ∃ m, m < n ∧ ∃ i σ' H', Inv X pins σ' H' s7 ∧ tn i s7.heap ∧ (∀ b ∈ fp, H' b = none) ∧ W i m σ' H' := fun {σ7 H7} I7 n7 => by
      obtain ⟨m', hm, w7⟩ := hN σ7 H7 n7
      refine ⟨m', hm, i + 1, σ7, H7, I7.unpinned, T.keep _ _ _ st5 fun b hb o e => (I7.pin (b, o) (List.mem_append_right _ (List.mem_append_right _ (mem_pinsAt hb e)))).1, fun b hb => ?_, w7⟩
      obtain ⟨o, e, d⟩ := T.obj _ _ st5 b hb
      exact (I7.pin (b, o) (List.mem_append_right _ (List.mem_append_right _ (mem_pinsAt hb e)))).2.1
    cases f with
    | next => obtain ⟨σ7, H7, I7, n7⟩ := q7; exact again I7 n7
    | cont => obtain ⟨σ7, H7, I7, n7⟩ := q7; exact again I7 n7
    | brk => obtain ⟨σ7, H7, I7, q7⟩ := q7; exact ⟨σ7, H7, I7.unpinned, q7⟩
    | ret v => obtain ⟨x7, σ7, H7, I7, r7, q7⟩ := q7; exact ⟨x7, σ7, H7, I7.unpinned, r7, q7⟩
end

theorem for_list {K : PySem.W.Frag} {a : Addr} {xs : List V} {g : TG} {tb : TS} {D : Ends} {σ : St} {H : Hp} (Pv : Nat → St → Hp → Prop) (h0 : Pv 0 σ H) (hl : ∀ i σ H, i ≤ xs.length → Pv i σ H → SqL K H a xs)
    (hs : ∀ i x σ H, xs[i]? = some x → Pv i σ H → g x σ H fun σ2 H2 => tb { D with nx := Pv (i + 1), ct := Pv (i + 1), bk := D.nx } σ2 H2) (hd : ∀ σ H, Pv xs.length σ H → D.nx σ H) :
    ∃ W : Nat → Nat → St → Hp → Prop, (∃ m, W 0 m σ H) ∧ ∀ i m σ H, W i m σ H →
      ((Itl K a).stop i H ∧ D.nx σ H) ∨ ((Itl K a).go i H ∧ ∃ N : St → Hp → Prop, (∀ σ' H', N σ' H' → ∃ m', m' < m ∧ W (i + 1) m' σ' H') ∧ ∀ x H', (Itl K a).yld i H x H' → g x σ H' fun σ2 H2 => tb { D with nx := N, ct := N, bk := D.nx } σ2 H2) := by
  refine ⟨fun i m σ H => m = xs.length - i ∧ i ≤ xs.length ∧ Pv i σ H, ⟨xs.length, by simp, Nat.zero_le _, h0⟩, ?_⟩
  rintro i m σ H ⟨rfl, hi, p⟩
  have q := hl i σ H hi p
  by_cases hlt : i < xs.length
  · refine .inr ⟨⟨xs, xs[i], q, by simp [hlt]⟩, Pv (i + 1), fun σ' H' p' => ⟨xs.length - (i + 1), by omega, rfl, hlt, p'⟩, fun x H' y => ?_⟩
    obtain ⟨e, y⟩ := y
    subst e
    exact hs i x σ _ (y xs q) p
  · have e : i = xs.length := by omega
    subst e
    exact .inl ⟨⟨xs, q, Nat.le_refl _⟩, hd σ H p⟩
theorem for_tup {K : PySem.W.Frag} {a : Addr} {xs : List V} {g : TG} {tb : TS} {D : Ends} {σ : St} {H : Hp} (Pv : Nat → St → Hp → Prop) (h0 : Pv 0 σ H) (hl : ∀ i σ H, i ≤ xs.length → Pv i σ H → SqT K H a xs)
    (hs : ∀ i x σ H, xs[i]? = some x → Pv i σ H → g x σ H fun σ2 H2 => tb { D with nx := Pv (i + 1), ct := Pv (i + 1), bk := D.nx } σ2 H2) (hd : ∀ σ H, Pv xs.length σ H → D.nx σ H) :
    ∃ W : Nat → Nat → St → Hp → Prop, (∃ m, W 0 m σ H) ∧ ∀ i m σ H, W i m σ H →
      ((Itt K a).stop i H ∧ D.nx σ H) ∨ ((Itt K a).go i H ∧ ∃ N : St → Hp → Prop, (∀ σ' H', N σ' H' → ∃ m', m' < m ∧ W (i + 1) m' σ' H') ∧ ∀ x H', (Itt K a).yld i H x H' → g x σ H' fun σ2 H2 => tb { D with nx := N, ct := N, bk := D.nx } σ2 H2) := by
  refine ⟨fun i m σ H => m = xs.length - i ∧ i ≤ xs.length ∧ Pv i σ H, ⟨xs.length, by simp, Nat.zero_le _, h0⟩, ?_⟩
  rintro i m σ H ⟨rfl, hi, p⟩
  have q := hl i σ H hi p
  by_cases hlt : i < xs.length
  · refine .inr ⟨⟨xs, xs[i], q, by simp [hlt]⟩, Pv (i + 1), fun σ' H' p' => ⟨xs.length - (i + 1), by omega, rfl, hlt, p'⟩, fun x H' y => ?_⟩
    obtain ⟨e, y⟩ := y
    subst e
    exact hs i x σ _ (y xs q) p
  · have e : i = xs.length := by omega
    subst e
    exact .inl ⟨⟨xs, q, Nat.le_refl _⟩, hd σ H p⟩
theorem for_range {lo : Int} {n : Nat} {g : TG} {tb : TS} {D : Ends} {σ : St} {H : Hp} (Pv : Nat → St → Hp → Prop) (h0 : Pv 0 σ H)
    (hs : ∀ i σ H, i < n → Pv i σ H → g (.int (lo + i)) σ H fun σ2 H2 => tb { D with nx := Pv (i + 1), ct := Pv (i + 1), bk := D.nx } σ2 H2) (hd : ∀ σ H, Pv n σ H → D.nx σ H) :
    ∃ W : Nat → Nat → St → Hp → Prop, (∃ m, W 0 m σ H) ∧ ∀ i m σ H, W i m σ H →
      ((Itr lo n).stop i H ∧ D.nx σ H) ∨ ((Itr lo n).go i H ∧ ∃ N : St → Hp → Prop, (∀ σ' H', N σ' H' → ∃ m', m' < m ∧ W (i + 1) m' σ' H') ∧ ∀ x H', (Itr lo n).yld i H x H' → g x σ H' fun σ2 H2 => tb { D with nx := N, ct := N, bk := D.nx } σ2 H2) := by
  refine ⟨fun i m σ H => m = n - i ∧ i ≤ n ∧ Pv i σ H, ⟨n, by simp, Nat.zero_le _, h0⟩, ?_⟩
  rintro i m σ H ⟨rfl, hi, p⟩
  by_cases hlt : i < n
  · refine .inr ⟨hlt, Pv (i + 1), fun σ' H' p' => ⟨n - (i + 1), by omega, rfl, hlt, p'⟩, fun x H' y => ?_⟩
    obtain ⟨e, y⟩ := y
    subst e y
    exact hs i σ _ hlt p
  · have e : i = n := by omega
    subst e
    exact .inl ⟨Nat.le_refl _, hd σ H p⟩
end L2

namespace L2
open PySem PySem.Spec PyProof.Rows

abbrev R2 := V → V → Hp → VK → Prop
def OpR (X : Cx) (f : Value → Value → Sem Value) (r : R2) : Prop :=
  ∀ (pins : List (Addr × Obj)) (s : Shared) (σ : St) (H : Hp) (x y : V) (v u : Value) (Q : VK), Inv X pins σ H s → RelV x v → RelV y u → r x y H Q →
    wpAny (model X.prog X.w) X.A (f v u) (EP X pins σ Q) X.xe s
def UnR (X : Cx) (f : Value → Sem Value) (r : V → Hp → VK → Prop) : Prop :=
  ∀ (pins : List (Addr × Obj)) (s : Shared) (σ : St) (H : Hp) (x : V) (v : Value) (Q : VK), Inv X pins σ H s → RelV x v → r x H Q →
    wpAny (model X.prog X.w) X.A (f v) (EP X pins σ Q) X.xe s
def CallR (X : Cx) (f : Value) (r : List V → Hp → VK → Prop) : Prop :=
  ∀ (pins : List (Addr × Obj)) (s : Shared) (σ : St) (H : Hp) (xs : List V) (us : List Value) (Q : VK), Inv X pins σ H s → Vals xs us → r xs H Q →
    wpAny (model X.prog X.w) X.A (call f us) (EP X pins σ Q) X.xe s
def TruR (X : Cx) (r : V → Hp → (Bool → Hp → Prop) → Prop) : Prop :=
  ∀ (pins : List (Addr × Obj)) (s : Shared) (σ : St) (H : Hp) (x : V) (v : Value) (Q : Bool → Hp → Prop), Inv X pins σ H s → RelV x v → r x H Q →
    wpAny (model X.prog X.w) X.A (truthy v) (TP X pins σ Q) X.xe s

def tOp (r : R2) (ta tb : TE) : TE := fun σ H Q => ta σ H fun x H1 => tb σ H1 fun y H2 => r x y H2 Q
def tUn (r : V → Hp → VK → Prop) (ta : TE) : TE := fun σ H Q => ta σ H fun x H1 => r x H1 Q
def rI0 (g : Int → Int → V) : R2 := fun x y H Q => ∃ i j, x = .int i ∧ y = .int j ∧ Q (g i j) H
def rU (g : Int → V) : V → Hp → VK → Prop := fun x H Q => ∃ i, x = .int i ∧ Q (g i) H

section
variable {X : Cx} {a b c : Expr} {ta tb tc : TE} {pos : Pos}

theorem binT (ha : PE X a ta) (hb : PE X b tb) {pins : List (Addr × Obj)} {s : Shared} {σ : St} {H : Hp} {R : V → V → Hp → Prop} (I : Inv X pins σ H s)
    (h : ta σ H fun x H1 => tb σ H1 fun y H2 => R x y H2) {Q : Value → Shared → Prop} {f : Value → Value → Sem Value}
    (hf : ∀ v u s2 x y H2, Inv X pins σ H2 s2 → RelV x v → RelV y u → R x y H2 → wpAny (model X.prog X.w) X.A (f v u) Q X.xe s2) :
    wpAny (model X.prog X.w) X.A (eval a X.env) (fun v s₁ => wpAny (model X.prog X.w) X.A (eval b X.env) (fun u s₂ => wpAny (model X.prog X.w) X.A (f v u) Q X.xe s₂) X.xe s₁) X.xe s := by
  refine thn (ha pins s σ H _ I h) fun v s1 ⟨x, H1, I1, r1, q1⟩ => ?_
  refine thn (hb pins s1 σ H1 _ I1 q1) fun u s2 ⟨y, H2, I2, r2, q2⟩ => ?_
  exact hf v u s2 x y H2 I2 r1 r2 q2

theorem pe_op {op : Operator} {r : R2} (ho : OpR X (binaryOp op) r) (ha : PE X a ta) (hb : PE X b tb) : PE X (.BinOp a op b pos) (tOp r ta tb) := by
  intro pins s σ H Q I h
  exact wpAny_BinOp (binT ha hb I h fun v u s2 x y H2 I2 rx ry q => ho pins s2 σ H2 x y v u Q I2 rx ry q)
theorem pe_un {op : UnaryOp} {r : V → Hp → VK → Prop} (ho : UnR X (unaryOp op) r) (ha : PE X a ta) : PE X (.UnaryOp op a pos) (tUn r ta) := by
  intro pins s σ H Q I h
  exact UnaryOp_ (thn (ha pins s σ H _ I h) fun v s1 ⟨x, H1, I1, r1, q1⟩ => ho pins s1 σ H1 x v Q I1 r1 q1)
theorem opI0 {f : Value → Value → Sem Value} {g : Int → Int → Int}
    (rule : ∀ (i j : Int) (t u : Tok) (s : Shared) (Q : Value → Shared → Prop) (E : Value → Shared → Prop), Q (.int (g i j) s.toks) { s with toks := s.toks + 1 } → wpAny (model X.prog X.w) X.A (f (.int i t) (.int j u)) Q E s) :
    OpR X f (rI0 fun i j => .int (g i j)) := by
  intro pins s σ H x y v u Q I rx ry h
  obtain ⟨i, j, rfl, rfl, q⟩ := h
  obtain ⟨t, rfl⟩ := rx
  obtain ⟨t', rfl⟩ := ry
  exact rule i j t t' s _ _ ⟨.int (g i j), H, I.tok _, ⟨_, rfl⟩, q⟩
theorem opB0 {f : Value → Value → Sem Value} {g : Int → Int → Bool}
    (rule : ∀ (i j : Int) (t u : Tok) (s : Shared) (Q : Value → Shared → Prop) (E : Value → Shared → Prop), Q (.bool (g i j)) s → wpAny (model X.prog X.w) X.A (f (.int i t) (.int j u)) Q E s) :
    OpR X f (rI0 fun i j => .bl (g i j)) := by
  intro pins s σ H x y v u Q I rx ry h
  obtain ⟨i, j, rfl, rfl, q⟩ := h
  obtain ⟨t, rfl⟩ := rx
  obtain ⟨t', rfl⟩ := ry
  exact rule i j t t' s _ _ ⟨.bl (g i j), H, I, rfl, q⟩

theorem op_add : OpR X (binaryOp .Add) (rI0 fun i j => .int (i + j)) := opI0 fun _ _ _ _ _ _ _ q => add_int q
theorem op_sub : OpR X (binaryOp .Sub) (rI0 fun i j => .int (i - j)) := opI0 fun _ _ _ _ _ _ _ q => sub_int q
theorem unI {f : Value → Sem Value} {g : Int → Int}
    (rule : ∀ (i : Int) (t : Tok) (s : Shared) (Q : Value → Shared → Prop) (E : Value → Shared → Prop), Q (.int (g i) s.toks) { s with toks := s.toks + 1 } → wpAny (model X.prog X.w) X.A (f (.int i t)) Q E s) :
    UnR X f (rU fun i => .int (g i)) := by
  intro pins s σ H x v Q I rx h
  obtain ⟨i, rfl, q⟩ := h
  obtain ⟨t, rfl⟩ := rx
  exact rule i t s _ _ ⟨.int (g i), H, I.tok _, ⟨_, rfl⟩, q⟩
theorem un_neg : UnR X (unaryOp .USub) (rU fun i => .int (-i)) := unI fun _ _ _ _ _ q => neg_int q
end

def scal : V → V → Bool
  | .non, .non => true | .non, .int _ => true | .int _, .non => true | .non, .bl _ => true | .bl _, .non => true | .non, .str _ => true | .str _, .non => true
  | .int _, .int _ => true | .bl _, .bl _ => true | .str _, .str _ => true | .byt _, .byt _ => true
  | .int _, .str _ => true | .str _, .int _ => true | .bl _, .str _ => true | .str _, .bl _ => true
  | _, _ => false
def rEq : R2 := fun x y H Q => scal x y = true ∧ Q (.bl (decide (x = y))) H
def rNe : R2 := fun x y H Q => scal x y = true ∧ Q (.bl (!decide (x = y))) H

theorem dec_int {i j : Int} : decide (V.int i = V.int j) = (i == j) := by
  rw [Bool.eq_iff_iff]
  simp
theorem dec_bl {i j : Bool} : decide (V.bl i = V.bl j) = (i == j) := by
  rw [Bool.eq_iff_iff]
  simp
theorem dec_str {i j : Str} : decide (V.str i = V.str j) = (i == j) := by
  rw [Bool.eq_iff_iff]
  simp
theorem dec_byt {i j : Array UInt8} : decide (V.byt i = V.byt j) = (i.toList == j.toList) := by
  rw [Bool.eq_iff_iff]
  cases i
  cases j
  simp

section
variable {X : Cx} {a b c : Expr} {ta tb tc : TE} {pos : Pos}
theorem fin_bl {pins : List (Addr × Obj)} {σ : St} {H : Hp} {s : Shared} {Q : VK} {k k' : Bool} (I : Inv X pins σ H s) (q : Q (.bl k) H) (e : k = k') : EP X pins σ Q (.bool k') s := by
  subst e
  exact ⟨.bl k, H, I, rfl, q⟩
theorem op_eq : OpR X (compareOp .Eq) rEq := by
  intro pins s σ H x y v u Q I rx ry h
  obtain ⟨hs, q⟩ := h
  cases x with
  | non =>
    cases rx
    cases y with
    | non => cases ry; exact PySem.EqNone.eq_none_none (fin_bl I q (by simp))
    | bl j => cases ry; exact PySem.EqNone.eq_none_bool (fin_bl I q (by simp))
    | int j => obtain ⟨t', rfl⟩ := ry; exact PySem.EqNone.eq_none_int (fin_bl I q (by simp))
    | str j => obtain ⟨t', rfl⟩ := ry; exact PySem.EqNone.eq_none_str (fin_bl I q (by simp))
    | _ => exact absurd (show false = true from hs) Bool.false_ne_true
  | bl i =>
    cases rx
    cases y with
    | non => cases ry; exact PySem.EqNone.eq_bool_none (fin_bl I q (by simp))
    | bl j => cases ry; exact eq_bool (fin_bl I q dec_bl)
    | str j => obtain ⟨t', rfl⟩ := ry; exact PySem.EqMixed.eq_bool_str (fin_bl I q (by simp))
    | _ => exact absurd (show false = true from hs) Bool.false_ne_true
  | int i =>
    obtain ⟨t, rfl⟩ := rx
    cases y with
    | non => cases ry; exact PySem.EqNone.eq_int_none (fin_bl I q (by simp))
    | int j => obtain ⟨t', rfl⟩ := ry; exact eq_int (fin_bl I q dec_int)
    | str j => obtain ⟨t', rfl⟩ := ry; exact PySem.EqMixed.eq_int_str (fin_bl I q (by simp))
    | _ => exact absurd (show false = true from hs) Bool.false_ne_true
  | str i =>
    obtain ⟨t, rfl⟩ := rx
    cases y with
    | non => cases ry; exact PySem.EqNone.eq_str_none (fin_bl I q (by simp))
    | bl j => cases ry; exact PySem.EqMixed.eq_str_bool (fin_bl I q (by simp))
    | int j => obtain ⟨t', rfl⟩ := ry; exact PySem.EqMixed.eq_str_int (fin_bl I q (by simp))
    | str j => obtain ⟨t', rfl⟩ := ry; exact eq_str (fin_bl I q dec_str)
    | _ => exact absurd (show false = true from hs) Bool.false_ne_true
  | byt i =>
    obtain ⟨t, rfl⟩ := rx
    cases y with
    | byt j => obtain ⟨t', rfl⟩ := ry; exact PySem.W.eq_bytes (fin_bl I q dec_byt)
    | _ => exact absurd (show false = true from hs) Bool.false_ne_true
  | _ => cases y <;> exact absurd (show false = true from hs) Bool.false_ne_true
theorem op_ne : OpR X (compareOp .NotEq) rNe := by
  intro pins s σ H x y v u Q I rx ry h
  obtain ⟨hs, q⟩ := h
  cases x with
  | non =>
    cases rx
    cases y with
    | non => cases ry; exact PySem.EqNone.ne_none_none (fin_bl I q (by simp))
    | bl j => cases ry; exact PySem.EqNone.ne_none_bool (fin_bl I q (by simp))
    | int j => obtain ⟨t', rfl⟩ := ry; exact PySem.EqNone.ne_none_int (fin_bl I q (by simp))
    | str j => obtain ⟨t', rfl⟩ := ry; exact PySem.EqNone.ne_none_str (fin_bl I q (by simp))
    | _ => exact absurd (show false = true from hs) Bool.false_ne_true
  | bl i =>
    cases rx
    cases y with
    | non => cases ry; exact PySem.EqNone.ne_bool_none (fin_bl I q (by simp))
    | bl j => cases ry; exact ne_bool (fin_bl I q (congrArg not dec_bl))
    | str j => obtain ⟨t', rfl⟩ := ry; exact PySem.EqMixed.ne_bool_str (fin_bl I q (by simp))
    | _ => exact absurd (show false = true from hs) Bool.false_ne_true
  | int i =>
    obtain ⟨t, rfl⟩ := rx
    cases y with
    | non => cases ry; exact PySem.EqNone.ne_int_none (fin_bl I q (by simp))
    | int j => obtain ⟨t', rfl⟩ := ry; exact ne_int (fin_bl I q (congrArg not dec_int))
    | str j => obtain ⟨t', rfl⟩ := ry; exact PySem.EqMixed.ne_int_str (fin_bl I q (by simp))
    | _ => exact absurd (show false = true from hs) Bool.false_ne_true
  | str i =>
    obtain ⟨t, rfl⟩ := rx
    cases y with
    | non => cases ry; exact PySem.EqNone.ne_str_none (fin_bl I q (by simp))
    | bl j => cases ry; exact PySem.EqMixed.ne_str_bool (fin_bl I q (by simp))
    | int j => obtain ⟨t', rfl⟩ := ry; exact PySem.EqMixed.ne_str_int (fin_bl I q (by simp))
    | str j => obtain ⟨t', rfl⟩ := ry; exact ne_str (fin_bl I q (congrArg not dec_str))
    | _ => exact absurd (show false = true from hs) Bool.false_ne_true
  | byt i =>
    obtain ⟨t, rfl⟩ := rx
    cases y with
    | byt j => obtain ⟨t', rfl⟩ := ry; exact PySem.W.ne_bytes (fin_bl I q (congrArg not dec_byt))
    | _ => exact absurd (show false = true from hs) Bool.false_ne_true
  | _ => cases y <;> exact absurd (show false = true from hs) Bool.false_ne_true

theorem op_lt : OpR X (compareOp .Lt) (rI0 fun i j => .bl (decide (i < j))) := opB0 fun _ _ _ _ _ _ _ q => lt_int q
theorem op_le : OpR X (compareOp .LtE) (rI0 fun i j => .bl (decide (i ≤ j))) := opB0 fun _ _ _ _ _ _ _ q => le_int q
theorem op_gt : OpR X (compareOp .Gt) (rI0 fun i j => .bl (decide (j < i))) := opB0 fun _ _ _ _ _ _ _ q => gt_int q
theorem op_ge : OpR X (compareOp .GtE) (rI0 fun i j => .bl (decide (j ≤ i))) := opB0 fun _ _ _ _ _ _ _ q => ge_int q
theorem nomark (b : Expr) {op : CmpOp} (h : op ≠ .In := by decide) (h2 : op ≠ .NotIn := by decide) : behindInMarks op b = false := by
  have e1 : (op == CmpOp.In) = false := by cases op <;> first | rfl | exact absurd rfl h
  have e2 : (op == CmpOp.NotIn) = false := by cases op <;> first | rfl | exact absurd rfl h2
  cases b <;> simp [behindInMarks, e1, e2]
theorem pe_cmpR {op : CmpOp} {r : R2} (ho : OpR X (compareOp op) r) (ha : PE X a ta) (hb : PE X b tb) (hm : behindInMarks op b = false) : PE X (.Compare a [op] [b] pos) (tOp r ta tb) := by
  intro pins s σ H Q I h
  exact wpAny_Compare1 (binT ha hb I h fun v u s2 x y H2 I2 rx ry q => ho pins s2 σ H2 x y v u Q I2 rx ry q) hm
def tTest (t : TE) : TT := fun σ H Q => t σ H fun x H' => ∃ k, x = .bl k ∧ Q k H'
theorem pt_cmpR {op : CmpOp} {r : R2} (ho : OpR X (compareOp op) r) (ha : PE X a ta) (hb : PE X b tb) (hm : behindInMarks op b = false) : PT X (.Compare a [op] [b] pos) (tTest (tOp r ta tb)) := by
  intro pins s σ H Q I h
  refine wpAny_isTrue_Compare1 (thn (ha pins s σ H _ I h) fun v s1 ⟨x, H1, I1, r1, q1⟩ => thn (hb pins s1 σ H1 _ I1 q1) fun u s2 ⟨y, H2, I2, r2, q2⟩ =>
    thn (ho pins s2 σ H2 x y v u _ I2 r1 r2 q2) fun c s3 ⟨z, H3, I3, r3, k, e, q3⟩ => ?_) hm
  subst e
  cases r3
  exact wpAny_truthy_bool ⟨H3, I3, q3⟩
def tChain (r r' : R2) (ta tb tc : TE) : TE := fun σ H Q => ta σ H fun x H1 => tb σ H1 fun y H2 => r x y H2 fun z H3 => ∃ k, z = .bl k ∧
  (if k = true then tc σ H3 fun w' H4 => r' y w' H4 Q else Q (.bl false) H3)
theorem pe_chain {op op' : CmpOp} {r r' : R2} (ho : OpR X (compareOp op) r) (ho' : OpR X (compareOp op') r') (ha : PE X a ta) (hb : PE X b tb) (hc : PE X c tc)
    (hm : lastMarks [op, op'] [b, c] = false := by with_unfolding_all rfl) : PE X (.Compare a [op, op'] [b, c] pos) (tChain r r' ta tb tc) := by
  intro pins s σ H Q I h
  refine Compare_chain (thn (ha pins s σ H _ I h) fun v s1 ⟨x, H1, I1, r1, q1⟩ => chain_link (thn (hb pins s1 σ H1 _ I1 q1) fun u s2 ⟨y, H2, I2, r2, q2⟩ =>
    thn (ho pins s2 σ H2 x y v u _ I2 r1 r2 q2) fun d s3 ⟨z, H3, I3, r3, k, e, q3⟩ => ?_)) hm
  subst e
  cases r3
  refine wpAny_truthy_bool ?_
  cases k with
  | false => exact ite_ff ⟨.bl false, H3, I3, rfl, q3⟩
  | true => exact ite_tt (chain_last (thn (hc pins s3 σ H3 _ I3 q3) fun w' s4 ⟨z', H4, I4, r4, q4⟩ => ho' pins s4 σ H4 y z' u w' Q I4 r2 r4 q4))
theorem pt_chain {op op' : CmpOp} {r r' : R2} (ho : OpR X (compareOp op) r) (ho' : OpR X (compareOp op') r') (ha : PE X a ta) (hb : PE X b tb) (hc : PE X c tc)
    (hm : lastMarks [op, op'] [b, c] = false := by with_unfolding_all rfl) : PT X (.Compare a [op, op'] [b, c] pos) (tTest (tChain r r' ta tb tc)) := by
  intro pins s σ H Q I h
  refine isTrue_chain (thn (ha pins s σ H _ I h) fun v s1 ⟨x, H1, I1, r1, q1⟩ => test_link (thn (hb pins s1 σ H1 _ I1 q1) fun u s2 ⟨y, H2, I2, r2, q2⟩ =>
    thn (ho pins s2 σ H2 x y v u _ I2 r1 r2 q2) fun d s3 ⟨z, H3, I3, r3, k, e, q3⟩ => ?_)) hm
  subst e
  cases r3
  refine wpAny_truthy_bool ?_
  cases k with
  | false =>
    obtain ⟨k', e', q'⟩ := q3
    cases e'
    exact ite_ff ⟨H3, I3, q'⟩
  | true =>
    refine ite_tt (test_last (thn (hc pins s3 σ H3 _ I3 q3) fun w' s4 ⟨z', H4, I4, r4, q4⟩ => thn (ho' pins s4 σ H4 y z' u w' _ I4 r2 r4 q4) fun d' s5 ⟨z2, H5, I5, r5, k2, e2, q5⟩ => ?_))
    subst e2
    cases r5
    exact wpAny_truthy_bool ⟨H5, I5, q5⟩

def TruV (K : PySem.W.Frag) (x : V) (H : Hp) (k : Bool) : Prop :=
  match x with
  | .non => k = false
  | .bl b => k = b
  | .int i => k = (i != 0)
  | .str y => y.length ≤ sizeLine ∧ k = ((y.length : Int) != 0)
  | .byt y => y.size ≤ sizeLine ∧ k = ((y.size : Int) != 0)
  | .ref p => (∃ xs, SqL K H p xs ∧ k = !xs.isEmpty) ∨ (∃ xs, SqT K H p xs ∧ k = !xs.isEmpty) ∨ ∃ kvs, H p = some (.dK kvs) ∧ k = !kvs.isEmpty
  | _ => False
theorem isEmpty_kv {κ : Type} {kvs : List (κ × V)} {vs : List (κ × Value)} (r : KV kvs vs) : (!vs.isEmpty) = !kvs.isEmpty := by
  cases r <;> rfl
theorem isEmpty_of {xs : List V} {its : List Value} (r : Vals xs its) : (!its.toArray.isEmpty) = !xs.isEmpty := by
  cases r <;> simp
theorem line63 : (sizeLine : Nat) < 2 ^ 63 := by rw [sizeLine_eq]; decide
theorem tru_ok : TruR X (fun x H Q => ∃ k, TruV X.K x H k ∧ Q k H) := by
  intro pins s σ H x v Q I rx h
  obtain ⟨k, e, q⟩ := h
  have hl := line63
  have hs : sizeLine = 16777216 := sizeLine_eq
  cases x with
  | non =>
    cases rx
    have e' : k = false := e
    subst e'
    exact truthy_none ⟨H, I, q⟩
  | bl b =>
    cases rx
    have e' : k = b := e
    subst e'
    exact wpAny_truthy_bool ⟨H, I, q⟩
  | int i =>
    obtain ⟨t, rfl⟩ := rx
    have e' : k = (i != 0) := e
    subst e'
    exact PySem.P.truthy_int ⟨H, I, q⟩
  | str y =>
    obtain ⟨t, rfl⟩ := rx
    obtain ⟨hy, e'⟩ : y.length ≤ sizeLine ∧ k = ((y.length : Int) != 0) := e
    subst e'
    exact PySem.P.truthy_str (by omega) ⟨H, I.tok _, q⟩
  | byt y =>
    obtain ⟨t, rfl⟩ := rx
    obtain ⟨hy, e'⟩ : y.size ≤ sizeLine ∧ k = ((y.size : Int) != 0) := e
    subst e'
    exact PySem.W.truthy_bytes (by omega) ⟨H, I.tok _, q⟩
  | ref p =>
    cases rx
    have e' : (∃ xs, SqL X.K H p xs ∧ k = !xs.isEmpty) ∨ (∃ xs, SqT X.K H p xs ∧ k = !xs.isEmpty) ∨ ∃ kvs, H p = some (.dK kvs) ∧ k = !kvs.isEmpty := e
    rcases e' with ⟨xs, hx, e'⟩ | ⟨xs, hx, e'⟩ | ⟨kvs, hx, e'⟩
    · subst e'
      obtain ⟨its, r, pl, hz⟩ := I.list hx
      have hlen := r.length
      exact wpAny_truthy_list pl.isList (by simp only [List.size_toArray]; omega) ⟨H, I.tok _, by rw [isEmpty_of r]; exact q⟩
    · subst e'
      obtain ⟨its, r, pl, hz⟩ := I.tuple hx
      have hlen := r.length
      exact truthy_tuple pl (by simp only [List.size_toArray]; omega) ⟨H, I.tok _, by rw [isEmpty_of r]; exact q⟩
    · subst e'
      obtain ⟨hz, hS, vs, r, m⟩ : kvs.length ≤ sizeLine ∧ (p == sysModules) = false ∧ ∃ vs, KV kvs vs ∧ s.heap.DictOf (mixKind X.prog X.w) p vs := I.hok p _ hx
      have hlen : kvs.length = vs.length := Paired.length r
      exact wpAny_truthy_dict hS m (by omega) ⟨H, I.tok _, by rw [isEmpty_kv r]; exact q⟩
  | _ => exact (show False from e).elim
theorem pt_truth (ha : PE X a ta) (he : ∀ whole, isTrue a X.env whole = (do let v ← whole; standAt a.pos; holding [v] (truthy v))) :
    PT X a (fun σ H Q => ta σ H fun x H' => ∃ k, TruV X.K x H' k ∧ Q k H') := by
  intro pins s σ H Q I h
  exact isTrue_plain (thn (ha pins s σ H _ I h) fun v s1 ⟨x, H1, I1, r1, q1⟩ => tru_ok pins s1 σ H1 x v Q I1 r1 q1) (he _)

theorem vals1 {x : V} {us : List Value} (r : Vals [x] us) : ∃ u, us = [u] ∧ RelV x u := by
  cases r with
  | cons r1 r2 => cases r2; exact ⟨_, rfl, r1⟩
theorem vals2 {x y : V} {us : List Value} (r : Vals [x, y] us) : ∃ u w', us = [u, w'] ∧ RelV x u ∧ RelV y w' := by
  cases r with
  | cons r1 r2 =>
    cases r2 with
    | cons r3 r4 => cases r4; exact ⟨_, _, rfl, r1, r3⟩
end
end L2

namespace L2
open PySem PySem.Spec PyProof.Rows

structure ObjM (h : Heap) (x dx C : Addr) (mA : Str → Option Value) : Prop where
  obj : h.get? x = some (PySem.W.instObj C dx)
  ns : h.Ns1 dx mA
  ne : dx ≠ x

theorem lookIn_ns {h : Heap} {dx : Addr} {mA : Str → Option Value} (n : h.Ns1 dx mA) : ∃ od, h.get? dx = some od ∧ ∀ name, PySem.W.lookIn name od = some (mA name) := by
  obtain ⟨o, es, ep, ho, hd, hk, _, hm⟩ := n
  refine ⟨o, ho, fun name => ?_⟩
  have e := hm name
  unfold nsFind findBy at e
  rw [← Array.find?_toList] at e
  unfold PySem.W.lookIn
  rw [hd]
  dsimp only
  split
  · rename_i y q
    rw [q] at e
    exact congrArg some e
  · rename_i q
    rw [q] at e
    have a : es.toList.any (·.refKey) = false := by
      rw [List.any_eq_false]
      intro y hy
      obtain ⟨z, t, hkey⟩ := hk y (Array.mem_toList_iff.mp hy)
      simp [DictEntry.refKey, hkey]
    have a' : ¬ es.toList.any (·.refKey) = true := by rw [a]; exact Bool.false_ne_true
    rw [if_neg a']
    exact congrArg some e

theorem ObjM.look {h : Heap} {x dx C : Addr} {mA : Str → Option Value} (I : ObjM h x dx C mA) : ∃ od, PySem.W.InstAt h x (PySem.W.instObj C dx) C (some od) ∧ ∀ name, PySem.W.lookIn name od = some (mA name) :=
  let ⟨od, ho, hl⟩ := lookIn_ns I.ns
  ⟨od, ⟨I.obj, rfl, rfl, ho⟩, hl⟩

section
variable {prog : Program} {w : World} {A : Around} {E : Value → Shared → Prop} {s : Shared} {K : PySem.W.Frag} {x dx C f : Addr} {mA : Str → Option Value} {name : Str} {v : Value}

theorem get_map {expr : Bool} {Q : Value → Shared → Prop} (X : K.In s.heap) (I : ObjM s.heap x dx C mA) (hg : PySem.W.plainGet K C name = true) (hh : PySem.W.hasDictIn K C = true)
    (ha : PySem.W.findIn K (.ref C) name = some none) (hv : mA name = some v) (hv' : PySem.W.handedIn v = true) (h : Q v { s with toks := s.toks + 1 }) :
    wpAny (model prog w) A (getAttr (.ref x) name expr) Q E s := by
  obtain ⟨od, J, hl⟩ := I.look
  exact PySem.W.get_value X J (PySem.W.plainGet_of hg).1 (PySem.W.findObj_own hh ha rfl (by rw [hl, hv])) hv' h

theorem get_meth {pl : Sem Bool} {Q : Value × List Value → Shared → Prop} (X : K.In s.heap) (I : ObjM s.heap x dx C mA) (hg : PySem.W.plainGet K C name = true)
    (hf : PySem.W.findIn K (.ref C) name = some (some (.ref f))) (ht : PySem.W.isFn K (.ref f) = true) (hv : mA name = none) (h : Q (.ref f, [.ref x]) s) :
    wpAny (model prog w) A (getMethod (.ref x) name pl) Q E s := by
  obtain ⟨od, J, hl⟩ := I.look
  exact PySem.W.method_fn X J (PySem.W.plainGet_of hg).1 (PySem.W.plainGet_of hg).2 hf (beq_iff_eq.mp ht) (by show (PySem.W.lookIn name od).map (·.isSome) = some false; rw [hl, hv]; rfl) h

theorem set_map {ns : List Str} {Q : Unit → Shared → Prop} (X : K.In s.heap) (I : ObjM s.heap x dx C mA)
    (hs : PySem.W.findIn K (.ref C) "__setattr__" = some (some (.builtin "object.__setattr__"))) (hp : PySem.W.plainOver K C = true) (ht : PySem.W.takerIn K C name = some none) (hh : PySem.W.hasDictIn K C = true)
    (hw : PySem.Within mA ns) (hsz : ns.length ≤ sizeLine)
    (h : ∀ h', ObjM h' x dx C (fun y => if y = name then some v else mA y) → Heap.SameBut dx s.heap h' → Q () { s with heap := h', toks := s.toks + 2 }) :
    wpAny (model prog w) A (setAttr (.ref x) name v) Q E s := by
  obtain ⟨od, J, hl⟩ := I.look
  refine PySem.W.set_plain X J hs (PySem.W.osa_open (s := { s with toks := s.toks + 1 }) (r := none) X J hp ht fun b => ?_)
  obtain ⟨cd, hc, hd'⟩ := PySem.W.any_some hh
  have hx : s.heap.get? x = some ⟨.ref C, some dx, .plain, #[]⟩ := I.obj
  refine wpAny_bind (wpAny_pure (wpAny_bind (wpAny_bind (wpAny_loadPart hx (wpAny_bind (PySem.W.Looks.here (s := { s with toks := s.toks + 1 }) (PySem.W.looks_clsIn X hc) ?_))))))
  rw [hd']
  refine wpAny_pure (a := some dx) (wpAny_bind (wpAny_pure (wpAny_bind ?_)))
  refine wpAny_nsSet1 (s := { s with toks := s.toks + 1 }) I.ns fun h' hn2 hs2 => ?_
  obtain ⟨oD, esD, epD, hoD, hdD, hcD⟩ := hn2.count (PySem.Within.cons name v hw)
  refine wpAny_bind (wpAny_lookBehind hoD (by rw [hdD]; exact pastItsLine_dict (Nat.le_trans hcD (by rw [List.length_cons]; omega))) ?_)
  exact wpAny_pure (h _ ⟨(hs2.2 _ (Ne.symm I.ne)).trans I.obj, hn2, I.ne⟩ hs2)

theorem make_map {R : Result → Shared → Prop} {vs : List Value} {kw : List (Str × Value)} (X : K.In s.heap) (hm : PySem.W.makesIn K C = true)
    (hi : PySem.W.findIn K (.ref C) "__init__" = some (some (.ref f))) (hf : PySem.W.typeIn K (.ref f) = some (.type "function"))
    (h : codeAny (model prog w) (A.under (.builtin "type.__call__" ⟨.ref C :: vs, kw⟩)) (.call (.ref f) ⟨.ref (s.heap.objs.size + 1) :: vs, kw⟩) (PySem.W.InitBack (s.heap.objs.size + 1) R)
      { s with heap := (s.heap.push PySem.W.emptyDict).push (PySem.W.instObj C s.heap.objs.size) }) :
    codeAny (model prog w) A (.call (.ref C) ⟨vs, kw⟩) R s := by
  obtain ⟨hh, g, d, t, os⟩ := s
  exact PySem.W.make_core (PySem.W.makes_of X hm) (PySem.W.looks_findIn X hi) (fun self => PySem.W.bind_fn X self hf) (.inl rfl) h
end

def putF (f : Str) (v : V) : List (Str × V) → List (Str × V)
  | [] => [(f, v)]
  | (g, x) :: r => if g = f then (g, v) :: r else (g, x) :: putF f v r
theorem lookup_putF (f g : Str) (v : V) : ∀ fs : List (Str × V), (putF f v fs).lookup g = if g = f then some v else fs.lookup g
  | [] => by
    show List.lookup g [(f, v)] = _
    by_cases h : g = f
    · have hb : (g == f) = true := beq_iff_eq.mpr h
      simp only [List.lookup, hb, if_pos h]
    · have hb : (g == f) = false := beq_eq_false_iff_ne.mpr h
      simp only [List.lookup, hb, if_neg h]
  | (k, x) :: r => by
    have ih := lookup_putF f g v r
    rw [show putF f v ((k, x) :: r) = (if k = f then (k, v) :: r else (k, x) :: putF f v r) from rfl]
    by_cases hk : k = f
    · rw [if_pos hk]
      by_cases h : g = k
      · have hb : (g == k) = true := beq_iff_eq.mpr h
        simp only [List.lookup, hb, if_pos (h.trans hk)]
      · have hb : (g == k) = false := beq_eq_false_iff_ne.mpr h
        simp only [List.lookup, hb, if_neg (fun e : g = f => h (e.trans hk.symm))]
    · rw [if_neg hk]
      by_cases h : g = k
      · have hb : (g == k) = true := beq_iff_eq.mpr h
        simp only [List.lookup, hb, if_neg (fun e : g = f => hk (h.symm.trans e))]
      · have hb : (g == k) = false := beq_eq_false_iff_ne.mpr h
        simp only [List.lookup, hb]
        exact ih
theorem keys_putF (f : Str) (v : V) : ∀ fs : List (Str × V), f ∈ (putF f v fs).map (·.1) ∧ ∀ g, g ∈ fs.map (·.1) → g ∈ (putF f v fs).map (·.1)
  | [] => ⟨by simp [putF], fun g h => by simp at h⟩
  | (k, x) :: r => by
    obtain ⟨i1, i2⟩ := keys_putF f v r
    rw [show putF f v ((k, x) :: r) = (if k = f then (k, v) :: r else (k, x) :: putF f v r) from rfl]
    by_cases hk : k = f
    · rw [if_pos hk]
      subst hk
      exact ⟨by simp, fun g h => by simpa using h⟩
    · rw [if_neg hk]
      refine ⟨?_, fun g h => ?_⟩
      · rw [List.map_cons]
        exact List.mem_cons_of_mem _ i1
      · rw [List.map_cons] at h ⊢
        rcases List.mem_cons.mp h with e | e
        · exact List.mem_cons.mpr (.inl e)
        · exact List.mem_cons_of_mem _ (i2 g e)
theorem length_putF (f : Str) (v : V) : ∀ fs : List (Str × V), (putF f v fs).length ≤ fs.length + 1
  | [] => by simp [putF]
  | (k, x) :: r => by
    have ih := length_putF f v r
    rw [show putF f v ((k, x) :: r) = (if k = f then (k, v) :: r else (k, x) :: putF f v r) from rfl]
    by_cases hk : k = f
    · rw [if_pos hk, List.length_cons, List.length_cons]; omega
    · rw [if_neg hk, List.length_cons, List.length_cons]; omega

theorem RelO.some_of {v : V} {o : Option Value} (r : RelO (some v) o) : ∃ u, o = some u ∧ RelV v u := by
  cases o with
  | none => exact (show False from r).elim
  | some u => exact ⟨u, rfl, r⟩
theorem RelO.none_of {o : Option Value} (r : RelO none o) : o = none := by
  cases o with
  | none => rfl
  | some u => exact (show False from r).elim
theorem handed_of {v : V} {u : Value} (r : RelV v u) : PySem.W.handedIn u = true := by
  cases v with
  | non => cases (show u = Value.none from r); rfl
  | bl b => cases (show u = Value.bool b from r); rfl
  | int i => obtain ⟨t, e⟩ := (show ∃ t, u = Value.int i t from r); cases e; rfl
  | str x => obtain ⟨t, e⟩ := (show ∃ t, u = Value.str x t from r); cases e; rfl
  | byt b => obtain ⟨t, e⟩ := (show ∃ t, u = Value.bytes b t from r); cases e; rfl
  | flt b => obtain ⟨t, e⟩ := (show ∃ t, u = Value.float b t from r); cases e; rfl
  | ref a => cases (show u = Value.ref a from r); rfl
  | ty n => cases (show u = Value.type n from r); rfl

section
variable {P : Program} {w : World} {H H' : Hp} {h h' : Heap} {a C dx : Addr} {fs fs' : List (Str × V)}
theorem ins_get (hok : HOk P w H h) (e : H a = some (.ins C dx fs)) : ∃ mA, ObjM h a dx C mA ∧ (∀ f, RelO (fs.lookup f) (mA f)) ∧ PySem.Within mA (fs.map (·.1)) ∧ fs.length ≤ 1000 ∧ H dx = some (.own a) := by
  obtain ⟨d, z, ne, ob, mA, n, r, q⟩ := (show ObjOk P w H h a (.ins C dx fs) from hok a _ e)
  exact ⟨mA, ⟨ob, n, ne⟩, r, q, z, d⟩
end

structure Cls (K : PySem.W.Frag) (C : Addr) : Prop where
  pg : PySem.W.plainGet K C Str.empty = true
  hd : PySem.W.hasDictIn K C = true
  po : PySem.W.plainOver K C = true
  sa : PySem.W.findIn K (.ref C) "__setattr__" = some (some (.builtin "object.__setattr__"))
theorem Cls.get {K : PySem.W.Frag} {C : Addr} (c : Cls K C) (f : Str) : PySem.W.plainGet K C f = true := c.pg
def NoAttr (K : PySem.W.Frag) (C : Addr) (f : Str) : Prop := PySem.W.findIn K (.ref C) f = some none
theorem NoAttr.taker {K : PySem.W.Frag} {C : Addr} {f : Str} (n : NoAttr K C f) : PySem.W.takerIn K C f = some none := by
  unfold PySem.W.takerIn
  rw [show PySem.W.findIn K (.ref C) f = some none from n]
  rfl
structure Meth (K : PySem.W.Frag) (C : Addr) (m : Str) (f : Addr) : Prop where
  at_ : PySem.W.findIn K (.ref C) m = some (some (.ref f))
  fn : PySem.W.isFn K (.ref f) = true
  kp : PySem.W.keepIn K (.ref f) = true

section
variable {X : Cx} {pins : List (Addr × Obj)} {σ : St} {H : Hp} {s : Shared} {a C dx : Addr} {fs : List (Str × V)} {f : Str} {v : V} {A : Around} {E : Value → Shared → Prop}

theorem getattr_ok {b : Bool} {Q : Value → Shared → Prop} (I : Inv X pins σ H s) (e : H a = some (.ins C dx fs)) (c : Cls X.K C) (n : NoAttr X.K C f) (l : fs.lookup f = some v)
    (h : ∀ u s', Inv X pins σ H s' → RelV v u → Q u s') : wpAny (model X.prog X.w) A (getAttr (.ref a) f b) Q E s := by
  obtain ⟨mA, O, r, _, _, _⟩ := ins_get I.hok e
  obtain ⟨u, hu, ru⟩ := RelO.some_of (v := v) (o := mA f) (by rw [← l]; exact r f)
  exact get_map I.kIn O (c.get f) c.hd n hu (handed_of ru) (h u _ (I.tok _) ru)

theorem getmeth_ok {m : Str} {g : Addr} {pl : Sem Bool} {Q : Value × List Value → Shared → Prop} (I : Inv X pins σ H s) (e : H a = some (.ins C dx fs)) (c : Cls X.K C) (k : Meth X.K C m g) (l : fs.lookup m = none)
    (h : Q (.ref g, [.ref a]) s) : wpAny (model X.prog X.w) A (getMethod (.ref a) m pl) Q E s := by
  obtain ⟨mA, O, r, _, _, _⟩ := ins_get I.hok e
  have hn : mA m = none := RelO.none_of (by rw [← l]; exact r m)
  exact get_meth I.kIn O (c.get m) k.at_ k.fn hn h

theorem setattr_ok {y : V} {u : Value} {Q : Unit → Shared → Prop} (I : Inv X pins σ H s) (e : H a = some (.ins C dx fs)) (c : Cls X.K C) (n : NoAttr X.K C f) (hl : fs.length < 1000) (ry : RelV y u)
    (h : ∀ s', Inv X pins σ (upd H a (.ins C dx (putF f y fs))) s' → Q () s') : wpAny (model X.prog X.w) A (setAttr (.ref a) f u) Q E s := by
  obtain ⟨mA, O, r, wi, _, ho⟩ := ins_get I.hok e
  have hz : (fs.map (·.1)).length ≤ sizeLine := by rw [List.length_map, sizeLine_eq]; omega
  refine set_map I.kIn O c.sa c.po n.taker c.hd wi hz fun h' O' sb => h _ ?_
  have hd : ∃ o, h'.get? dx = some o := let ⟨o, _, _, e', _⟩ := O'.ns; ⟨o, e'⟩
  refine I.write (x := a) (e := dx) (by rw [e]; exact True.intro) (.inr ho) (fun b q hb z => (sb.2 b hb).trans z) hd ?_
  refine ⟨by rw [upd_ne O.ne]; exact ho, ?_, O.ne, O'.obj, _, O'.ns, fun g => ?_, fun g hg => ?_⟩
  · have := length_putF f y fs; omega
  · show RelO ((putF f y fs).lookup g) (if g = f then some u else mA g)
    rw [lookup_putF]
    by_cases q : g = f
    · rw [if_pos q, if_pos q]; exact ry
    · rw [if_neg q, if_neg q]; exact r g
  · by_cases q : g = f
    · rw [q]; exact (keys_putF f y fs).1
    · refine (keys_putF f y fs).2 g (wi g fun z => hg ?_)
      show (if g = f then some u else mA g) = none
      rw [if_neg q]; exact z

theorem Inv.made (I : Inv X pins σ H s) : Inv X pins σ (upd (upd H s.heap.objs.size (.own (s.heap.objs.size + 1))) (s.heap.objs.size + 1) (.ins C s.heap.objs.size []))
    { s with heap := (s.heap.push PySem.W.emptyDict).push (PySem.W.instObj C s.heap.objs.size) } := by
  have e1 : (s.heap.push PySem.W.emptyDict).get? s.heap.objs.size = some PySem.W.emptyDict := Heap.get?_push_size s.heap rfl
  have e2 : ((s.heap.push PySem.W.emptyDict).push (PySem.W.instObj C s.heap.objs.size)).get? (s.heap.objs.size + 1) = some (PySem.W.instObj C s.heap.objs.size) := by
    have := Heap.get?_push_size (s.heap.push PySem.W.emptyDict) (o := PySem.W.instObj C s.heap.objs.size) rfl
    rwa [Heap.size_push] at this
  have e3 : (s.heap.push PySem.W.emptyDict).Ns s.heap.objs.size (fun _ => none) := ⟨PySem.W.emptyDict, #[], _, e1, rfl, (fun e he => absurd he (by simp)), fun _ => rfl⟩
  have I1 := I.laid (a := s.heap.objs.size) (o := .own (s.heap.objs.size + 1)) (h' := s.heap.push PySem.W.emptyDict) (t' := s.toks) (fun b u q => Heap.get?_push_of_some _ q) (Nat.le_refl _) ⟨_, e1⟩
  refine I1.laid (a := s.heap.objs.size + 1) (o := .ins C s.heap.objs.size []) (t' := s.toks) (fun b u q => Heap.get?_push_of_some _ q) (Nat.le_of_eq (Heap.size_push _ _)) ?_
  have ne : s.heap.objs.size ≠ s.heap.objs.size + 1 := Nat.ne_of_lt (Nat.lt_succ_self _)
  refine ⟨by rw [upd_ne ne, upd_same], Nat.zero_le _, ne, e2, fun _ => none, (Heap.Ns1.of_empty e3).at fun o q => Heap.get?_push_of_some _ q, fun _ => True.intro, fun y hy => absurd rfl hy⟩

theorem attr_of {prog : Program} {w : World} {env : Env} {e : Expr} {f : Str} {pos : Pos} {s : Shared} {Q : Value → Shared → Prop} (hb : attributeBase e f env (eval e env) = eval e env)
    (h : wpAny (model prog w) A (eval e env) (fun o s₁ => wpAny (model prog w) A (getAttr o f true) Q E s₁) E s) : wpAny (model prog w) A (eval (.Attribute e f pos) env) Q E s :=
  Attribute_any_ h (by rw [arm_eval_Attribute, hb])
end

def tFld (K : PySem.W.Frag) (ta : TE) (f : Str) : TE := fun σ H Q => ta σ H fun x H1 => ∃ a C dx fs v, x = .ref a ∧ H1 a = some (.ins C dx fs) ∧ Cls K C ∧ NoAttr K C f ∧ fs.lookup f = some v ∧ Q v H1
def sFld (K : PySem.W.Frag) (ta tv : TE) (f : Str) : TS := fun D σ H => tv σ H fun y H1 => ta σ H1 fun x H2 => ∃ a C dx fs, x = .ref a ∧ H2 a = some (.ins C dx fs) ∧ Cls K C ∧ NoAttr K C f ∧ fs.length < 1000 ∧
  D.nx σ (upd H2 a (.ins C dx (putF f y fs)))
section
variable {X : Cx} {o e value : Expr} {f : Str} {pos pos' tpos : Pos} {ta tv : TE}
theorem pe_fld (he : PE X e ta) (hb : attributeBase e f X.env (eval e X.env) = eval e X.env) : PE X (.Attribute e f pos) (tFld X.K ta f) := by
  intro pins s σ H Q I h
  refine attr_of hb (thn (he pins s σ H _ I h) fun u s1 ⟨x, H1, I1, rx, a, C, dx, fs, v, ex, ea, c, n, l, q⟩ => ?_)
  subst ex
  obtain rfl : u = Value.ref a := rx
  exact getattr_ok I1 ea c n l fun u' s2 I2 ru => ⟨v, H1, I2, ru, q⟩
theorem ps_fld (ha : PE X o ta) (hv : PE X value tv) (hs : swapsWith value (some (.Attribute o f pos')) pos.line X.env = pure false) : PS X (.Assign [.Attribute o f pos'] value pos) (sFld X.K ta tv f) := by
  intro pins s σ H D I h
  refine plainObj_wpAny_Assign_Attribute (thn (hv pins s σ H _ I h) fun u s1 ⟨y, H1, I1, ry, q⟩ => thn (ha pins s1 σ H1 _ I1 q) fun ov s2 ⟨x, H2, I2, rx, a, C, dx, fs, ex, ea, c, n, l, q2⟩ => ?_) hs
  subst ex
  obtain rfl : ov = Value.ref a := rx
  exact setattr_ok I2 ea c n l ry fun s3 I3 => ⟨σ, _, I3, q2⟩
theorem methcall_of {pl : Sem Bool} {m : Str} {apos : Pos} {args : List Expr} {pins : List (Addr × Obj)} {s : Shared} {σ : St} {H : Hp} {Q : Value → Shared → Prop} {te : TE} (he : PE X e te) (I : Inv X pins σ H s)
    (h : te σ H fun x H1 => ∃ a C dx fs g, x = .ref a ∧ H1 a = some (.ins C dx fs) ∧ Cls X.K C ∧ Meth X.K C m g ∧ fs.lookup m = none ∧
      ∀ s1, Inv X pins σ H1 s1 → wpAny (model X.prog X.w) X.A (callWith pos (.ref g) [.ref a] (backTo pos (starEach args X.env)) (backToKw pos (keywordEach [] X.env))) Q X.xe s1)
    (ht : eval (.Call (.Attribute e m apos) args [] pos) X.env = (do
      let ov ← eval e X.env
      standAt apos.atName
      let (f, first) ← holding [ov] (getMethod ov m pl)
      callWith pos f first (backTo pos (starEach args X.env)) (backToKw pos (keywordEach [] X.env)))) :
    wpAny (model X.prog X.w) X.A (eval (.Call (.Attribute e m apos) args [] pos) X.env) Q X.xe s := by
  refine PySem.W.methodCall_KW (pl := pl) (thn (he pins s σ H _ I h) fun u s1 ⟨x, H1, I1, rx, a, C, dx, fs, g, ex, ea, c, k, l, q⟩ => ?_) ht
  subst ex
  obtain rfl : u = Value.ref a := rx
  exact getmeth_ok I1 ea c k l (q s1 I1)
end

section
variable {X : Cx} {pins : List (Addr × Obj)} {σ : St} {H : Hp} {s : Shared} {A : Around} {E : Value → Shared → Prop} {Q : Value → Shared → Prop} {c : Value} {b : Bool}
inductive TyOf (K : PySem.W.Frag) (H : Hp) : V → Value → Prop where
  | non : TyOf K H .non (.type "NoneType")
  | bl (x : Bool) : TyOf K H (.bl x) (.type "bool")
  | int (i : Int) : TyOf K H (.int i) (.type "int")
  | str (x : Str) : TyOf K H (.str x) (.type "str")
  | flt (x : UInt64) : TyOf K H (.flt x) (.type "float")
  | lst {a : Addr} {xs : List V} (e : H a = some (.lst xs)) : TyOf K H (.ref a) (.type "list")
  | frz {a : Addr} {o : Obj} {xs : List V} (e : H a = some (.frz o (.lst xs))) : TyOf K H (.ref a) (.type "list")
  | tup {a : Addr} {xs : List V} (e : H a = some (.tup xs)) : TyOf K H (.ref a) (.type "tuple")
  | dK {a : Addr} {kvs : List (Key × V)} (e : H a = some (.dK kvs)) : TyOf K H (.ref a) (.type "dict")
  | dT {a : Addr} {kvs : List (List Key × V)} (e : H a = some (.dT kvs)) : TyOf K H (.ref a) (.type "dict")
  | ins {a C dx : Addr} {fs : List (Str × V)} (e : H a = some (.ins C dx fs)) (cl : Cls K C) (ha : PySem.W.findIn K (.ref C) "__class__" = some (some (.builtin "object.__class__")))
      (hn : PySem.W.specialIn K (.builtin "object.__class__") "__get__" = some (some (.builtin "getset_descriptor.__get__"))) (htk : PySem.W.takesIn K (.builtin "object.__class__") = some true)
      (hm : PySem.W.mroIn K C (.type "object") = some true) : TyOf K H (.ref a) (.ref C)
theorem isinst_ok {x : V} {u t : Value} (I : Inv X pins σ H s) (rx : RelV x u) (ty : TyOf X.K H x t) (e : PySem.W.kitOne X.K t c = some b) (h : ∀ tk, Q (.bool b) { s with toks := tk }) :
    wpAny (model X.prog X.w) A (call (.builtin "isinstance") [u, c]) Q E s := by
  cases ty with
  | non => cases (show u = Value.none from rx); exact PySem.W.kia_one PySem.W.kitx_none I.kIn True.intro e (fun z => nomatch z) h
  | bl y => cases (show u = Value.bool y from rx); exact PySem.W.kia_one PySem.W.kitx_bool I.kIn True.intro e (fun z => nomatch z) h
  | int i => obtain ⟨t, q⟩ := (show ∃ t, u = Value.int i t from rx); cases q; exact PySem.W.kia_one PySem.W.kitx_int I.kIn True.intro e (fun z => nomatch z) h
  | str y => obtain ⟨t, q⟩ := (show ∃ t, u = Value.str y t from rx); cases q; exact PySem.W.kia_one PySem.W.kitx_str I.kIn True.intro e (fun z => nomatch z) h
  | flt y => obtain ⟨t, q⟩ := (show ∃ t, u = Value.float y t from rx); cases q; exact PySem.W.kia_one PySem.W.kitx_float I.kIn True.intro e (fun z => nomatch z) h
  | @lst a xs ea =>
    cases (show u = Value.ref a from rx)
    obtain ⟨_, _, n, _, h1⟩ := (show ObjOk X.prog X.w H s.heap a (.lst xs) from I.hok a _ ea)
    exact PySem.W.kia_one PySem.W.kitx_list I.kIn ⟨_, h1, rfl⟩ e (fun z => nomatch z) h
  | @frz a ob xs ea =>
    cases (show u = Value.ref a from rx)
    obtain ⟨_, _, _, n, _, h1⟩ := (show ObjOk X.prog X.w H s.heap a (.frz ob (.lst xs)) from I.hok a _ ea)
    exact PySem.W.kia_one PySem.W.kitx_list I.kIn ⟨_, h1, rfl⟩ e (fun z => nomatch z) h
  | @tup a xs ea =>
    cases (show u = Value.ref a from rx)
    obtain ⟨_, _, _, p⟩ := (show ObjOk X.prog X.w H s.heap a (.tup xs) from I.hok a _ ea)
    obtain ⟨o, h1, h2, _⟩ := p
    exact PySem.W.kia_one PySem.W.kitx_tuple I.kIn ⟨o, h1, h2⟩ e (fun z => nomatch z) h
  | @dK a kvs ea =>
    cases (show u = Value.ref a from rx)
    obtain ⟨_, _, vs, _, p⟩ := (show ObjOk X.prog X.w H s.heap a (.dK kvs) from I.hok a _ ea)
    obtain ⟨o, es, ep, h1, h2, _⟩ := p
    exact PySem.W.kia_one PySem.W.kitx_dict I.kIn ⟨o, h1, h2.1⟩ e (fun z => nomatch z) h
  | @dT a kvs ea =>
    cases (show u = Value.ref a from rx)
    obtain ⟨_, _, xs, _, o, es, ep, h1, h2, _⟩ := (show ObjOk X.prog X.w H s.heap a (.dT kvs) from I.hok a _ ea)
    exact PySem.W.kia_one PySem.W.kitx_dict I.kIn ⟨o, h1, h2.1⟩ e (fun z => nomatch z) h
  | @ins a C dx fs ea cl ha hn htk hm =>
    cases (show u = Value.ref a from rx)
    obtain ⟨mA, O, _⟩ := ins_get I.hok ea
    obtain ⟨od, J, _⟩ := O.look
    exact PySem.W.kia_one (PySem.W.kitx_own (cl.get _) cl.hd ha hn htk hm) I.kIn J e (fun z => nomatch z) h
end
end L2

namespace L2
open PySem PySem.Spec PyProof.Rows

structure Room (k : Nat) (A : Around) : Prop where
  hd : A.handled = none
  dp : A.depth + 3 * k + 5 < recursionLimit
  un : A.units + 16 * k + 200 < cLine
theorem Room.mono {j k : Nat} {A : Around} (r : Room k A) (h : j ≤ k) : Room j A := ⟨r.hd, by have := r.dp; omega, by have := r.un; omega⟩
theorem Room.deeper {k : Nat} {A : Around} (r : Room (k + 1) A) (env : Env) : Room k (A.deeper env) :=
  ⟨r.hd, by have := r.dp; show A.depth + 1 + 3 * k + 5 < _; omega, by have := r.un; show A.units + 3 + 16 * k + 200 < _; omega⟩
theorem make_depth {A : Around} {C : Addr} {us : List Value} {kw : List (Str × Value)} : (A.under (.builtin "type.__call__" ⟨.ref C :: us, kw⟩)).depth = A.depth + 1 := by
  first | rfl | simp [Around.under, Code.weight, Code.isCreation, Code.isGuard, Code.isCaller, Code.frames, Code.isFrame, guardIds]
theorem make_units {A : Around} {C : Addr} {us : List Value} {kw : List (Str × Value)} : (A.under (.builtin "type.__call__" ⟨.ref C :: us, kw⟩)).units = A.units + 1 := by
  first | rfl | simp [Around.under, Code.cUnits, Code.frames, Code.isFrame]
theorem Room.make {k : Nat} {A : Around} (r : Room (k + 1) A) (C : Addr) (us : List Value) (kw : List (Str × Value)) : Room k (A.under (.builtin "type.__call__" ⟨.ref C :: us, kw⟩)) :=
  ⟨r.hd, by have := r.dp; rw [make_depth]; omega, by have := r.un; rw [make_units]; omega⟩
theorem Room.depth {k : Nat} {A : Around} (r : Room k A) : A.depth < recursionLimit := by have := r.dp; omega
theorem Room.units {k : Nat} {A : Around} (r : Room k A) : A.units + 64 < cLine := by have := r.un; omega
def tNil : TA := fun _ H Q => Q [] H
def tCons (ta : TE) (tr : TA) : TA := fun σ H Q => ta σ H fun x H1 => tr σ H1 fun xs H2 => Q (x :: xs) H2
section
variable {X : Cx} {e : Expr} {es : List Expr} {te : TE} {t : TA} {pos : Pos}
theorem pa_nil : PA X [] tNil := fun _ _ _ _ H Q I h => Calls.spliced_nil ⟨[], H, I, .nil, h⟩
theorem pa_cons (ha : PE X e te) (hr : PA X es t) (hs : starEach (e :: es) X.env = (false, eval e X.env) :: starEach es X.env := by rfl) : PA X (e :: es) (tCons te t) := by
  intro pos pins s σ H Q I h
  rw [hs]
  show wpAny _ _ (spliced ((false, eval e X.env) :: backTo pos (starEach es X.env))) _ _ s
  refine Calls.spliced_cons (thn (ha pins s σ H _ I h) fun u s1 ⟨x, H1, I1, r1, q1⟩ => ?_)
  exact thn (hr pos pins s1 σ H1 _ I1 q1) fun us s2 ⟨xs, H2, I2, r2, q2⟩ => ⟨x :: xs, H2, I2, .cons r1 r2, q2⟩

def tTup (t : TA) : TE := fun σ H Q => t σ H fun xs H1 => xs.length ≤ sizeLine ∧ ∀ p, H1 p = none → Q (.ref p) (upd H1 p (.tup xs))
def tLst (t : TA) : TE := fun σ H Q => t σ H fun xs H1 => xs.length ≤ sizeLine ∧ ∀ p, H1 p = none → Q (.ref p) (upd H1 p (.lst xs))
theorem pe_tup {x1} (h : PA X es t) : PE X (.Tuple es x1 pos) (tTup t) := by
  intro pins s σ H Q I hq
  refine wpAny_Tuple_spliced (thn (h pos pins s σ H _ I hq) fun us s1 ⟨xs, H1, I1, r, z, q⟩ => ⟨by rw [← r.length]; exact z, ?_⟩)
  have hf : H1 s1.heap.objs.size = none := I1.hok.fresh (Nat.le_refl _)
  refine ⟨.ref s1.heap.objs.size, upd H1 s1.heap.objs.size (.tup xs), I1.laid (t' := s1.toks) (fun b u e => Heap.get?_push_of_some _ e) (Nat.le_refl _) ?_, rfl, q _ hf⟩
  exact ⟨z, us, r, ⟨_, Heap.get?_push_size _ rfl, rfl, _, rfl⟩⟩
theorem pe_lst (h : PA X es t) : PE X (.List es pos) (tLst t) := by
  intro pins s σ H Q I hq
  refine wpAny_List_spliced (thn (h pos pins s σ H _ I hq) fun us s1 ⟨xs, H1, I1, r, z, q⟩ => ⟨by rw [← r.length]; exact z, ?_⟩)
  have hf : H1 s1.heap.objs.size = none := I1.hok.fresh (Nat.le_refl _)
  refine ⟨.ref s1.heap.objs.size, upd H1 s1.heap.objs.size (.lst xs), I1.laid (t' := s1.toks) (fun b u e => Heap.get?_push_of_some _ e) (Nat.le_refl _) ?_, rfl, q _ hf⟩
  exact ⟨z, us, 0, r, Heap.get?_push_size _ rfl⟩
end

abbrev Sp := List V → Hp → VK → XK → Prop
abbrev CXT := List Env → Hp → Shared → XK → Value → Shared → Prop

structure Env0 (P : Program) (w : World) (K : PySem.W.Frag) (mg : Str → Option Value) (base : Heap) (A : Around) (outer : List Env) (s : Shared) (H : Hp) : Prop where
  frames : A.frames = some outer
  mod : Mod K mg base
  bs : ∀ b o, base.get? b = some o → s.heap.get? b = some o ∧ H b = none
  bsz : base.objs.size ≤ s.heap.objs.size
  funs : s.heap.FunFrames base outer
  frf : ∀ b ∈ frs outer, H b = none
  hok : HOk P w H s.heap
  bare : AllBare s.gens
def CE (outer : List Env) (P : Program) (w : World) (H : Hp) (s : Shared) (Q : VK) (u : Value) (s' : Shared) : Prop :=
  ∃ v H', s'.os = s.os ∧ AllBare s'.gens ∧ Un (frs outer) [] H H' s.heap s'.heap ∧ HOk P w H' s'.heap ∧ RelV v u ∧ Q v H'
def CR (CX : CXT) (outer : List Env) (P : Program) (w : World) (H : Hp) (s : Shared) (Q : VK) (E : XK) (r : Result) (s' : Shared) : Prop :=
  match r with
  | .ok (.ret u) => CE outer P w H s Q u s'
  | .ok _ => False
  | .error e => CX outer H s E e s'
structure FnOk (P : Program) (w : World) (K : PySem.W.Frag) (mg : Str → Option Value) (base : Heap) (CX : CXT) (k : Nat) (f : Addr) (fd : FuncData) (ps : List Str) (sp : Sp) : Prop where
  len : ∀ vs H Q E, sp vs H Q E → vs.length = ps.length
  run : ∀ (A : Around) (outer : List Env) (s : Shared) (H : Hp) (args : Args) (us : List Value) (vs : List V) (Q : VK) (E : XK), Room k A → Env0 P w K mg base A outer s H → BindsTo s fd args (ps.zip us) → Vals vs us → sp vs H Q E →
    codeAny (model P w) A (.call (.ref f) args) (CR CX outer P w H s Q E) s
theorem FnOk.mono {P : Program} {w : World} {K : PySem.W.Frag} {mg : Str → Option Value} {base : Heap} {CX : CXT} {j k : Nat} {f : Addr} {fd : FuncData} {ps : List Str} {sp : Sp} (F : FnOk P w K mg base CX j f fd ps sp) (h : j ≤ k) :
    FnOk P w K mg base CX k f fd ps sp := ⟨F.len, fun A outer s H args us vs Q E hr => F.run A outer s H args us vs Q E (hr.mono h)⟩
theorem Env0.make {P : Program} {w : World} {K : PySem.W.Frag} {mg : Str → Option Value} {base : Heap} {A : Around} {outer : List Env} {s : Shared} {H : Hp} (e : Env0 P w K mg base A outer s H) (C : Addr) (us : List Value) (kw : List (Str × Value)) :
    Env0 P w K mg base (A.under (.builtin "type.__call__" ⟨.ref C :: us, kw⟩)) outer s H := ⟨by first | exact e.frames | (simpa [Around.under, Code.envs, Code.isFrame, pushEnvs] using e.frames), e.mod, e.bs, e.bsz, e.funs, e.frf, e.hok, e.bare⟩
section
variable {X : Cx} {pins : List (Addr × Obj)} {σ : St} {H : Hp} {s s' : Shared}
theorem Inv.env0 (I : Inv X pins σ H s) : Env0 X.prog X.w X.K X.mg X.base X.A X.stack s H :=
  ⟨I.ok.frames, I.ok.mod, I.bs, Nat.le_trans I.ok.bsz I.sz, I.stack, I.stkFree, I.hok, I.bare⟩
theorem Inv.after {Q : VK} {u : Value} (I : Inv X pins σ H s) (h : CE X.stack X.prog X.w H s Q u s') : EP X pins σ Q u s' := by
  obtain ⟨v, H', os, bare, un, hok, r, q⟩ := h
  obtain ⟨hh, g, d, t, os'⟩ := s'
  obtain rfl : os' = s.os := os
  exact ⟨v, H', I.call (h' := hh) (g' := g) (d' := d) (t' := t) (ch := []) un hok bare (fun b z => absurd z (by simp)), r, q⟩
end

def tCall (sp : Sp) (dvs : List V) (E : XK) (t : TA) : TE := fun σ H Q => t σ H fun vs H1 => sp (vs ++ dvs) H1 Q E
def tMeth (C : Addr) (m : Str) (sp : Sp) (dvs : List V) (E : XK) (ta : TE) (t : TA) : TE := fun σ H Q => ta σ H fun x H1 => ∃ a dx fs, x = .ref a ∧ H1 a = some (.ins C dx fs) ∧ fs.lookup m = none ∧
  t σ H1 fun vs H2 => sp (x :: (vs ++ dvs)) H2 Q E
def tMake (C : Addr) (sp : Sp) (dvs : List V) (E : XK) (t : TA) : TE := fun σ H Q => t σ H fun vs H1 => ∀ x dx, H1 x = none → H1 dx = none → dx ≠ x →
  sp (.ref x :: (vs ++ dvs)) (upd (upd H1 dx (.own x)) x (.ins C dx [])) (fun v H2 => v = .non ∧ Q (.ref x) H2) E

def Binds (K : PySem.W.Frag) (fd : FuncData) (ps : List Str) (ds : List Value) : Prop :=
  ∀ (s : Shared) (us : List Value), K.In s.heap → (us ++ ds).length = ps.length → BindsTo s fd ⟨us, []⟩ (ps.zip (us ++ ds))
theorem Binds.all {K : PySem.W.Frag} {fd : FuncData} {ps : List Str} (h : ∀ us : List Value, us.length = ps.length → bindArgs fd ⟨us, []⟩ = pure (ps.zip us)) : Binds K fd ps [] := fun s us _ hl => by
  rw [List.append_nil] at hl ⊢
  exact .of_eq (h us hl)

def Passes (CX : CXT) (X : Cx) (E : XK) : Prop := ∀ (pins : List (Addr × Obj)) (σ : St) (H : Hp) (s : Shared) (e : Value) (s' : Shared), Inv X pins σ H s → CX X.stack H s E e s' → X.xe e s'

section
variable {X : Cx} {CX : CXT} {k : Nat} {f C : Addr} {fd : FuncData} {ps : List Str} {sp : Sp} {dvs : List V} {ds : List Value} {E : XK} {x m : Str} {p pos apos : Pos} {e o : Expr} {es : List Expr} {ta : TE} {t : TA}

theorem run_fn {pins : List (Addr × Obj)} {σ : St} {H : Hp} {s : Shared} {Q : VK} {us : List Value} {vs : List V} (F : FnOk X.prog X.w X.K X.mg X.base CX k f fd ps sp) (hr : Room k X.A) (hb : Binds X.K fd ps ds) (hd : Vals dvs ds) (hx : Passes CX X E)
    (I : Inv X pins σ H s) (r : Vals vs us) (h : sp (vs ++ dvs) H Q E) : wpAny (model X.prog X.w) X.A (call (.ref f) us) (EP X pins σ Q) X.xe s := by
  have r2 : Vals (vs ++ dvs) (us ++ ds) := r.append hd
  have hl : (us ++ ds).length = ps.length := by rw [← r2.length]; exact F.len _ _ _ _ h
  refine wpAny_call (codeAny_mono (F.run X.A X.stack s H ⟨us, []⟩ (us ++ ds) (vs ++ dvs) Q E hr I.env0 (hb s us I.kIn hl) r2 h) fun r s' hq => ?_)
  cases r with
  | error e => exact hx pins σ H s e s' I hq
  | ok fl =>
    cases fl with
    | ret u => exact I.after hq
    | next => exact False.elim hq
    | brk => exact False.elim hq
    | cont => exact False.elim hq

theorem pe_call (F : FnOk X.prog X.w X.K X.mg X.base CX k f fd ps sp) (hr : Room k X.A) (hg : Gl X x) (hm : X.mg x = some (.ref f)) (hk : PySem.W.keepIn X.K (.ref f) = true) (hb : Binds X.K fd ps ds) (hd : Vals dvs ds) (hx : Passes CX X E)
    (ha : PA X (e :: es) t) (hdb : (x == ("__debug__" : Str)) = false := by decide) (he : starEach (e :: es) X.env = (false, eval e X.env) :: starEach es X.env := by rfl) (hpl : (backTo pos (starEach es X.env)).any (·.1) = false := by rfl) :
    PE X (.Call (.Name x p) (e :: es) [] pos) (tCall sp dvs E t) := by
  intro pins s σ H Q I h
  refine wpAny_Call_Name_kw (ld_glob I hg hm ?_ hdb)
  refine PySem.W.callWith_K (h₀ := X.base) I.ok.mod.kin hk (thn (ha pos pins s σ H _ I h) fun us s1 ⟨vs, H1, I1, r, q⟩ => ⟨I1.kIn, ?_⟩) he hpl
  exact run_fn F hr hb hd hx I1 r q
theorem pe_meth {pl : Sem Bool} (he : PE X o ta) (c : Cls X.K C) (hm : Meth X.K C m f) (F : FnOk X.prog X.w X.K X.mg X.base CX k f fd ps sp) (hr : Room k X.A) (hb : Binds X.K fd ps ds) (hd : Vals dvs ds) (hx : Passes CX X E) (ha : PA X (e :: es) t)
    (hst : starEach (e :: es) X.env = (false, eval e X.env) :: starEach es X.env := by rfl) (hpl : (backTo pos (starEach es X.env)).any (·.1) = false := by rfl)
    (ht : eval (.Call (.Attribute o m apos) (e :: es) [] pos) X.env = (do
      let ov ← eval o X.env
      standAt apos.atName
      let (f, first) ← holding [ov] (getMethod ov m pl)
      callWith pos f first (backTo pos (starEach (e :: es) X.env)) (backToKw pos (keywordEach [] X.env))) := by rfl) :
    PE X (.Call (.Attribute o m apos) (e :: es) [] pos) (tMeth C m sp dvs E ta t) := by
  intro pins s σ H Q I h
  refine PySem.W.methodCall_KW (pl := pl) (thn (he pins s σ H _ I h) fun u s1 ⟨x, H1, I1, rx, a, dx, fs, ex, ea, l, q⟩ => ?_) ht
  subst ex
  obtain rfl : u = Value.ref a := rx
  refine getmeth_ok I1 ea c hm l ?_
  refine PySem.W.callWith_K (first := [.ref a]) (h₀ := X.base) I.ok.mod.kin hm.kp (thn (ha pos pins s1 σ H1 _ I1 q) fun us s2 ⟨vs, H2, I2, r, q2⟩ => ⟨I2.kIn, ?_⟩) hst hpl
  exact run_fn (us := .ref a :: us) (vs := .ref a :: vs) F hr hb hd hx I2 (.cons rfl r) q2
structure Mk (K : PySem.W.Frag) (C f : Addr) : Prop where
  makes : PySem.W.makesIn K C = true
  init : PySem.W.findIn K (.ref C) "__init__" = some (some (.ref f))
  fn : PySem.W.isFn K (.ref f) = true
  kp : PySem.W.keepIn K (.ref C) = true

theorem run_make {pins : List (Addr × Obj)} {σ : St} {H : Hp} {s : Shared} {Q : VK} {us : List Value} {vs : List V} (M : Mk X.K C f) (F : FnOk X.prog X.w X.K X.mg X.base CX k f fd ps sp) (hr : Room (k + 1) X.A) (hb : Binds X.K fd ps ds) (hd : Vals dvs ds)
    (hx : Passes CX X E) (I : Inv X pins σ H s) (r : Vals vs us)
    (h : ∀ x dx, H x = none → H dx = none → dx ≠ x → sp (.ref x :: (vs ++ dvs)) (upd (upd H dx (.own x)) x (.ins C dx [])) (fun v H2 => v = .non ∧ Q (.ref x) H2) E) :
    wpAny (model X.prog X.w) X.A (call (.ref C) us) (EP X pins σ Q) X.xe s := by
  have hq := h (s.heap.objs.size + 1) s.heap.objs.size (I.hok.fresh (Nat.le_succ _)) (I.hok.fresh (Nat.le_refl _)) (Nat.ne_of_lt (Nat.lt_succ_self _))
  have I2 := Inv.made (C := C) I
  have r2 : Vals (V.ref (s.heap.objs.size + 1) :: (vs ++ dvs)) (Value.ref (s.heap.objs.size + 1) :: (us ++ ds)) := .cons rfl (r.append hd)
  have hl : (Value.ref (s.heap.objs.size + 1) :: us ++ ds).length = ps.length := by
    have e := r2.length
    rw [F.len _ _ _ _ hq] at e
    exact e.symm
  refine wpAny_call (make_map (f := f) I.kIn M.makes M.init (beq_iff_eq.mp M.fn) (codeAny_mono (F.run _ X.stack _ _ ⟨Value.ref (s.heap.objs.size + 1) :: us, []⟩ (Value.ref (s.heap.objs.size + 1) :: (us ++ ds)) _ _ E (hr.make C us [])
    (I2.env0.make C us []) (hb _ (Value.ref (s.heap.objs.size + 1) :: us) I2.kIn hl) r2 hq) fun r s' hq' => ?_))
  cases r with
  | error e => exact hx pins σ _ _ e s' I2 hq'
  | ok fl =>
    cases fl with
    | ret u =>
      obtain ⟨v, H', I3, rv, ev, q3⟩ := I2.after hq'
      subst ev
      exact ⟨rv, ⟨V.ref (s.heap.objs.size + 1), H', I3, rfl, q3⟩⟩
    | next => exact False.elim hq'
    | brk => exact False.elim hq'
    | cont => exact False.elim hq'
theorem pe_make (M : Mk X.K C f) (F : FnOk X.prog X.w X.K X.mg X.base CX k f fd ps sp) (hr : Room (k + 1) X.A) (hg : Gl X x) (hm : X.mg x = some (.ref C)) (hb : Binds X.K fd ps ds) (hd : Vals dvs ds) (hx : Passes CX X E)
    (ha : PA X (e :: es) t) (hdb : (x == ("__debug__" : Str)) = false := by decide) (he : starEach (e :: es) X.env = (false, eval e X.env) :: starEach es X.env := by rfl) (hpl : (backTo pos (starEach es X.env)).any (·.1) = false := by rfl) :
    PE X (.Call (.Name x p) (e :: es) [] pos) (tMake C sp dvs E t) := by
  intro pins s σ H Q I h
  refine wpAny_Call_Name_kw (ld_glob I hg hm ?_ hdb)
  refine PySem.W.callWith_K (h₀ := X.base) I.ok.mod.kin M.kp (thn (ha pos pins s σ H _ I h) fun us s1 ⟨vs, H1, I1, r, q⟩ => ⟨I1.kIn, ?_⟩) he hpl
  exact run_make M F hr hb hd hx I1 r q
theorem pe_make0 (M : Mk X.K C f) (F : FnOk X.prog X.w X.K X.mg X.base CX k f fd ps sp) (hr : Room (k + 1) X.A) (hg : Gl X x) (hm : X.mg x = some (.ref C)) (hb : Binds X.K fd ps ds) (hd : Vals dvs ds) (hx : Passes CX X E)
    (hdb : (x == ("__debug__" : Str)) = false := by decide) : PE X (.Call (.Name x p) [] [] pos) (tMake C sp dvs E tNil) := by
  intro pins s σ H Q I h
  refine wpAny_Call_Name_kw (ld_glob I hg hm ?_ hdb)
  exact PySem.W.callWith_K0 I.kIn M.kp (run_make (us := []) M F hr hb hd hx I .nil h)
end

section
variable {X : Cx} {CX : CXT} {k : Nat} {f C : Addr} {fd : FuncData} {ps ks : List Str} {sp : Sp} {E : XK} {x m : Str} {p pos apos kpos : Pos} {e o : Expr} {es : List Expr} {kws : List Keyword} {te ta : TE} {t tk : TA} {nm : Option Str}
variable {g : List Value → List Value → List Value} {gV : List V → List V → List V}
end

structure FnScope (N P : List Str) (sc : Scope) : Prop where
  kind : sc.kind = .function
  co : sc.isCoroutine = false
  gen : sc.isGenerator = false
  nd : N.Nodup
  pre : N.take P.length = P
  par : ∀ x ∈ P, sc.names.lookup x = some .local ∨ sc.names.lookup x = some .cell
  nofree : ∀ y ∈ sc.names, y.2 ≠ .free

theorem bindL_out {kindOf : Str → Option NameKind} {x : Str} : ∀ {binds : List (Str × Value)} {m : Str → Option Value}, (∀ v, (x, v) ∉ binds) → bindL kindOf binds m x = m x
  | [], _, _ => rfl
  | (n, v) :: r, m, h => by
    unfold bindL
    rw [bindL_out fun w hw => h w (List.mem_cons_of_mem _ hw)]
    split
    · have : x ≠ n := by rintro rfl; exact h v List.mem_cons_self
      simp [this]
    · rfl
theorem bindC_out {kindOf : Str → Option NameKind} {x : Str} : ∀ {binds : List (Str × Value)} {m : Str → Option Value}, (∀ v, (x, v) ∉ binds) → bindC kindOf binds m x = m x
  | [], _, _ => rfl
  | (n, v) :: r, m, h => by
    unfold bindC
    rw [bindC_out fun w hw => h w (List.mem_cons_of_mem _ hw)]
    split
    · rfl
    · have : x ≠ n := by rintro rfl; exact h v List.mem_cons_self
      simp [this]
theorem bindL_get {kindOf : Str → Option NameKind} {x : Str} {v : Value} : ∀ {P : List Str} {vs : List Value} {i : Nat} {m : Str → Option Value}, P.Nodup → P[i]? = some x → vs[i]? = some v → kindOf x = some .local →
    bindL kindOf (P.zip vs) m x = some v
  | [], _, _, _, _, h, _, _ => by simp at h
  | _ :: _, [], _, _, _, _, h, _ => by simp at h
  | p :: P, w :: vs, 0, m, nd, h1, h2, hk => by
    simp at h1 h2; subst h1; subst h2
    show bindL kindOf ((p, w) :: P.zip vs) m p = _
    unfold bindL
    rw [bindL_out fun v hv => (List.nodup_cons.mp nd).1 (List.of_mem_zip hv).1, if_pos hk]
    simp
  | p :: P, w :: vs, i + 1, m, nd, h1, h2, hk => by
    show bindL kindOf ((p, w) :: P.zip vs) m x = _
    unfold bindL
    exact bindL_get (i := i) (List.nodup_cons.mp nd).2 (by simpa using h1) (by simpa using h2) hk
theorem bindC_get {kindOf : Str → Option NameKind} {x : Str} {v : Value} : ∀ {P : List Str} {vs : List Value} {i : Nat} {m : Str → Option Value}, P.Nodup → P[i]? = some x → vs[i]? = some v → kindOf x ≠ some .local →
    bindC kindOf (P.zip vs) m x = some v
  | [], _, _, _, _, h, _, _ => by simp at h
  | _ :: _, [], _, _, _, _, h, _ => by simp at h
  | p :: P, w :: vs, 0, m, nd, h1, h2, hk => by
    simp at h1 h2; subst h1; subst h2
    show bindC kindOf ((p, w) :: P.zip vs) m p = _
    unfold bindC
    rw [bindC_out fun v hv => (List.nodup_cons.mp nd).1 (List.of_mem_zip hv).1, if_neg hk]
    simp
  | p :: P, w :: vs, i + 1, m, nd, h1, h2, hk => by
    show bindC kindOf ((p, w) :: P.zip vs) m x = _
    unfold bindC
    exact bindC_get (i := i) (List.nodup_cons.mp nd).2 (by simpa using h1) (by simpa using h2) hk

def start (N : List Str) (vs : List V) : St := vs.map some ++ List.replicate (N.length - vs.length) none

def cxOf (CX : CXT) (P : Program) (w : World) (K : PySem.W.Frag) (mg : Str → Option Value) (base : Heap) (N : List Str) (qual : Str) (scope : Scope) (f : Addr) (cd : Value) (A : Around) (outer : List Env) (s : Shared) (H : Hp) (E : XK) : Cx where
  prog := P
  w := w
  K := K
  mg := mg
  base := base
  A := A.deeper (envOfC qual scope s.heap.objs.size f cd)
  N := N
  s_0 := s
  H_0 := H
  env := envOfC qual scope s.heap.objs.size f cd
  outer := outer
  stack := envOfC qual scope s.heap.objs.size f cd :: outer
  ex := []
  calm := true
  fn := fun _ => true
  pn := []
  xe := fun e s' => wpAny (model P w) (A.deeper (envOfC qual scope s.heap.objs.size f cd)) (leaving (envOfC qual scope s.heap.objs.size f cd) e) (fun _ s'' => CX outer H s E e s'') (fun e' s'' => CX outer H s E e' s'') s'

theorem cell_has {sc : Scope} {n : Nat} {x : Str} (h : sc.names.lookup x = some .cell) : ∃ c, (cellsFrom n sc.names []).lookup x = some c := by
  have q := PySem.W.cellsFrom_some sc.names n [] (.inl h)
  exact Option.isSome_iff_exists.mp q

theorem inv_start {CX : CXT} {P : Program} {w : World} {K : PySem.W.Frag} {mg : Str → Option Value} {base : Heap} {N ps : List Str} {qual : Str} {scope : Scope} {f : Addr} {cd : Value} {A : Around} {outer : List Env} {s s1 : Shared} {H : Hp} {E : XK} {us : List Value} {vs : List V}
    (S : FnScope N ps scope) (hd : A.handled = none) (e0 : Env0 P w K mg base A outer s H) (hl : vs.length = ps.length) (r : Vals vs us)
    (x : InCallC s s.heap.objs.size (bindL (envOfC qual scope s.heap.objs.size f cd).kindOf (ps.zip us) fun _ => none) (cellsFrom (s.heap.objs.size + 1) scope.names []) (bindC (envOfC qual scope s.heap.objs.size f cd).kindOf (ps.zip us) fun _ => none) s1) :
    Inv (cxOf CX P w K mg base N qual scope f cd A outer s H E) [] (start N vs) H s1 := by
  have hpl : ps.length ≤ N.length := by have := congrArg List.length S.pre; rw [List.length_take] at this; omega
  obtain ⟨h1, tk, rfl, hk⟩ := x.done
  have noA : ∀ b : Addr, b ∉ (cxOf CX P w K mg base N qual scope f cd A outer s H E).ex := fun b z => absurd (show b ∈ ([] : List Addr) from z) (by simp)
  refine ⟨⟨e0.mod, S.kind, rfl, rfl, Nat.le_refl _, fun y z c h1 h2 => ?_, fun y hy => ?_, fun y c _ h => ?_, fun _ => hd, Around.frames_deeper e0.frames, .inr ⟨rfl, rfl⟩, fun b z => absurd z (noA b), e0.bs, e0.bsz, fun b _ _ => noA b, fun b z => absurd z (noA b), e0.funs, e0.frf⟩,
    rfl, e0.bare, Un.kept hk, ⟨_, x.toInCall.ns, fun i y v h1 h2 h3 => ?_⟩, fun y c h => ⟨_, x.cell y c h⟩, e0.hok.fresh (Nat.le_refl _), fun y c h => ?_, fun p hp => absurd (show p ∈ ([] : List (Addr × Obj)) from hp) (by simp), e0.hok.kept hk, ?_⟩
  · exact name_of_addr x.apart (PySem.mem_of_lookup h1) (PySem.mem_of_lookup h2)
  · have hy : scope.names.lookup y = some .cell ∨ scope.names.lookup y = some .free := hy
    rcases hy with hy | hy
    · exact cell_has hy
    · exact absurd rfl (S.nofree _ (PySem.mem_of_lookup hy))
  · exact Nat.le_of_lt (x.above y c (PySem.mem_of_lookup h))
  · have hi : i < vs.length := by
      unfold start at h2
      by_cases hi : i < vs.length
      · exact hi
      · rw [List.getElem?_append_right (by simpa using hi)] at h2
        rw [List.getElem?_replicate] at h2
        split at h2 <;> cases h2
    have ha : vs[i]? = some v := by
      unfold start at h2
      rw [List.getElem?_append_left (by simpa using hi), List.getElem?_map] at h2
      cases e : vs[i]? with
      | none => rw [e] at h2; cases h2
      | some a => rw [e] at h2; cases h2; rfl
    obtain ⟨u, hu, rv⟩ := r.get ha
    have hp : ps[i]? = some y := by
      rw [← S.pre, List.getElem?_take_of_lt (by omega)]; exact h1
    have ndP : ps.Nodup := by rw [← S.pre]; exact S.nd.sublist (List.take_sublist _ _)
    refine ⟨u, rv, ?_⟩
    rcases S.par y (List.mem_of_getElem? hp) with k | k
    · exact .inl ⟨k, bindL_get ndP hp hu k⟩
    · obtain ⟨c, e⟩ := cell_has (n := s.heap.objs.size + 1) k
      refine .inr ⟨.inl k, c, e, ?_⟩
      have q := x.cell y c e
      rw [bindC_get ndP hp hu (by show scope.names.lookup y ≠ _; rw [k]; decide)] at q
      exact q
  · exact e0.hok.fresh (Nat.le_of_lt (x.above y c (PySem.mem_of_lookup h)))
  · unfold start
    show _ = N.length
    rw [List.length_append, List.length_map, List.length_replicate]
    omega

theorem fn_of {CX : CXT} {P : Program} {w : World} {K : PySem.W.Frag} {mg : Str → Option Value} {base : Heap} {k : Nat} {f : Addr} {name qual : Str} {params : Arguments} {body : List Stmt} {scope : Scope} {dV kV doc pm cdv ct oc : Value} {an od : Option Addr}
    {osl : Array (Option Value)} {N ps : List Str} {sp : Sp} (lk : K.lookup f = some ⟨oc, od, .func (PySem.W.fnOf name qual params body scope dV kV doc pm an cdv ct), osl⟩) (hcd : PySem.W.codeIn K cdv qual = true) (S : FnScope N ps scope)
    (len : ∀ vs H Q E, sp vs H Q E → vs.length = ps.length)
    (hbody : ∀ (A : Around) (outer : List Env) (s : Shared) (H : Hp) (vs : List V) (Q : VK) (E : XK), Room k (A.deeper (envOfC qual scope s.heap.objs.size f cdv)) → sp vs H Q E →
      ∃ t, PSs (cxOf CX P w K mg base N qual scope f cdv A outer s H E) body t ∧ t { nx := fun _ H' => Q .non H', rt := Q } (start N vs) H) :
    FnOk P w K mg base CX (k + 1) f (PySem.W.fnOf name qual params body scope dV kV doc pm an cdv ct) ps sp := by
  refine ⟨len, fun A outer s H args us vs Q E hr e0 hb r hsp => ?_⟩
  have hl := len _ _ _ _ hsp
  have KX : K.In s.heap := e0.mod.kin.keeps fun b o e => (e0.bs b o e).1
  have lim : s.heap.NoLimit := e0.mod.nolimit.keeps fun b o e => (e0.bs b o e).1
  have hkind : ∀ y ∈ ps.zip us, scope.names.lookup y.1 = some .local ∨ (scope.names.lookup y.1 = some .cell ∧ ((cellsFrom (s.heap.objs.size + 1) scope.names []).lookup y.1).isSome = true) := fun ⟨n, v⟩ hy => by
    rcases S.par n (List.of_mem_zip hy).1 with q | q
    · exact .inl q
    · exact .inr ⟨q, PySem.W.cellsFrom_some _ _ _ (.inl q)⟩
  refine codeAny_call_function hr.depth (KX _ _ lk) rfl S.co S.gen rfl (PySem.W.codeRec_of KX hcd) (hb _ _ _ _ ?_)
  refine wpAny_newFunctionEnv_cells S.kind hkind fun env he s1 x => ?_
  subst he
  refine ⟨lim.keeps x.toInCall.keep, codeAny_func ?_⟩
  obtain ⟨t, ht, hq⟩ := hbody A outer s H vs Q E (hr.deeper _) hsp
  have I : Inv (cxOf CX P w K mg base N qual scope f cdv A outer s H E) [] (start N vs) H s1 := inv_start S hr.hd e0 hl r x
  refine wpAny_mono (ht [] s1 (start N vs) H _ I hq) (fun fl s' hs => ?_) fun e s' hs => hs
  have fin : ∀ {σ' : St} {H' : Hp} {v : V} {u : Value}, Inv (cxOf CX P w K mg base N qual scope f cdv A outer s H E) [] σ' H' s' → RelV v u → Q v H' → CE outer P w H s Q u s' :=
    fun {σ' H' v u} J rv q => ⟨v, H', J.os, J.bare, J.base, J.hok, rv, q⟩
  cases fl with
  | ret u =>
    obtain ⟨v, σ', H', J, rv, q⟩ := hs
    exact fin J rv q
  | next =>
    obtain ⟨σ', H', J, q⟩ := hs
    exact fin (v := V.non) (u := Value.none) J rfl q
  | brk =>
    obtain ⟨_, _, _, q⟩ := hs
    exact False.elim q
  | cont =>
    obtain ⟨_, _, _, q⟩ := hs
    exact False.elim q
end L2

namespace L2
open PySem PySem.Spec PyProof.Rows
section
variable {X : Cx} {x : Str} {p pos : Pos} {e : Expr} {es : List Expr} {t : TA} {id T : String} {r : List V → Hp → VK → Prop}

def tCB (r : List V → Hp → VK → Prop) (t : TA) : TE := fun σ H Q => t σ H fun vs H1 => r vs H1 Q
theorem pe_callB (hc : CallR X (.builtin id) r) (hg : Gl X x) (hm : X.mg x = none) (hv : bootBuiltins x = some (.builtin id)) (ha : PA X (e :: es) t) (hn : x ≠ "__name__" := by decide) (hdb : (x == ("__debug__" : Str)) = false := by decide)
    (he : starEach (e :: es) X.env = (false, eval e X.env) :: starEach es X.env := by rfl) (hpl : (backTo pos (starEach es X.env)).any (·.1) = false := by rfl) : PE X (.Call (.Name x p) (e :: es) [] pos) (tCB r t) := by
  intro pins s σ H Q I h
  refine wpAny_Call_Name_kw (ld_blt I hg hm hv ?_ hn hdb)
  exact PyProof.Rows.callWith_builtin1 (thn (ha pos pins s σ H _ I h) fun us s1 ⟨vs, H1, I1, r1, q1⟩ => hc pins s1 σ H1 vs us Q I1 r1 q1) he hpl
theorem pe_callTy (hc : CallR X (.type T) r) (hg : Gl X x) (hm : X.mg x = none) (hv : bootBuiltins x = some (.type T)) (ha : PA X (e :: es) t) (hn : x ≠ "__name__" := by decide) (hdb : (x == ("__debug__" : Str)) = false := by decide)
    (he : starEach (e :: es) X.env = (false, eval e X.env) :: starEach es X.env := by rfl) (hpl : (backTo pos (starEach es X.env)).any (·.1) = false := by rfl) : PE X (.Call (.Name x p) (e :: es) [] pos) (tCB r t) := by
  intro pins s σ H Q I h
  refine wpAny_Call_Name_kw (ld_blt I hg hm hv ?_ hn hdb)
  exact PyProof.Rows.callWith_type1 (thn (ha pos pins s σ H _ I h) fun us s1 ⟨vs, H1, I1, r1, q1⟩ => hc pins s1 σ H1 vs us Q I1 r1 q1) he hpl
end
end L2

namespace HT
open PySem PyProof.Rows

section
open PySem.SeqAt
open PySem.AutoSeq1 (wpAny_loadPart')
open PySem.MeetsSeq PySem.MeetsSeq2 PySem.MeetsSeq3

end

section
variable {prog : Program} {w : World} {A : Around} {E : Value → Shared → Prop} {s : Shared}

def sIx (n d : Nat) : Option Int → Nat
  | none => d
  | some v => if v < 0 then (v + (n : Int)).toNat else min v.toNat n
end
end HT

namespace L2
open PySem PySem.Spec PyProof.Rows

abbrev TO := St → Hp → (Option Int → Hp → Prop) → Prop
def PO (X : Cx) (e : Option Expr) (t : TO) : Prop :=
  ∀ (pins : List (Addr × Obj)) (s : Shared) (σ : St) (H : Hp) (Q : Option Int → Hp → Prop), Inv X pins σ H s → t σ H Q →
    wpAny (model X.prog X.w) X.A (evalPart e X.env) (fun u s' => ∃ o H', Inv X pins σ H' s' ∧ IsPart u o ∧ Q o H') X.xe s
def tNoPart : TO := fun _ H Q => Q none H
def tPart (t : TE) : TO := fun σ H Q => t σ H fun x H1 => ∃ i, x = .int i ∧ Q (some i) H1

section
variable {X : Cx} {e : Expr} {te : TE} {lo hi : Option Expr} {tl th : TO} {pos p2 : Pos}

theorem po_none : PO X none tNoPart := by
  intro pins s σ H Q I h
  rw [evalPart_none]
  exact wpAny_pure ⟨none, H, I, .none, h⟩
theorem po_some (h : PE X e te) : PO X (some e) (tPart te) := by
  intro pins s σ H Q I hw
  rw [evalPart_some]
  refine thn (h pins s σ H _ I hw) fun u s1 ⟨x, H1, I1, r1, q1⟩ => ?_
  obtain ⟨i, rfl, q⟩ := q1
  obtain ⟨t, rfl⟩ := r1
  exact ⟨some i, H1, I1, .int i t, q⟩

def SlR (X : Cx) (r : V → Option Int → Option Int → Hp → VK → Prop) : Prop :=
  ∀ (pins : List (Addr × Obj)) (s : Shared) (σ : St) (H : Hp) (x : V) (v vl vu : Value) (lo hi : Option Int) (sl : Addr) (Q : VK), Inv X pins σ H s → RelV x v → s.heap.IsSliceOf sl vl vu .none → IsPart vl lo → IsPart vu hi → r x lo hi H Q →
    ∃ T id, typeLookup (.type T) "__getitem__" = pure (some (.builtin id)) ∧ s.TypeIs v T ∧ wpAny (model X.prog X.w) X.A (getItem v (.ref sl)) (EP X pins σ Q) X.xe s
def tSl (r : V → Option Int → Option Int → Hp → VK → Prop) (te : TE) (tl th : TO) : TE := fun σ H Q => te σ H fun x H1 => tl σ H1 fun l H2 => th σ H2 fun u H3 => r x l u H3 Q
theorem pe_slice {r : V → Option Int → Option Int → Hp → VK → Prop} (hr : SlR X r) (he : PE X e te) (hl : PO X lo tl) (hu : PO X hi th) : PE X (.Subscript e (.Slice lo hi none p2) pos) (tSl r te tl th) := by
  intro pins s σ H Q I h
  refine Subscript_ (thn (he pins s σ H _ I h) fun v s1 ⟨x, H1, I1, r1, q1⟩ => ?_)
  refine wpAny_Slice (thn (hl pins s1 σ H1 _ I1 q1) fun vl s2 ⟨l, H2, I2, pl, q2⟩ => thn (hu pins s2 σ H2 _ I2 q2) fun vu s3 ⟨u, H3, I3, pu, q3⟩ => ?_)
  rw [evalPart_none]
  refine wpAny_pure ?_
  have I4 : Inv X pins σ H3 { s3 with heap := s3.heap.push { cls := .type "slice", data := .fields #[vl, vu, .none] } } := I3.kept (t' := s3.toks) fun b ob q => Heap.get?_push_of_some _ q
  obtain ⟨T, id, hT, ht, hg⟩ := hr pins { s3 with heap := s3.heap.push { cls := .type "slice", data := .fields #[vl, vu, .none] } } σ H3 x v vl vu l u s3.heap.objs.size Q I4 r1 (Heap.IsSliceOf.new ..) pl pu q3
  show wpAny (model X.prog X.w) X.A (subscriptTail e (.Slice lo hi none p2) v (.ref s3.heap.objs.size)) (EP X pins σ Q) X.xe { s3 with heap := s3.heap.push { cls := .type "slice", data := .fields #[vl, vu, .none] } }
  exact tail_any (ops := [.ref s3.heap.objs.size, v]) ht hT hg (by with_unfolding_all rfl)

def cutV (xs : List V) (lo hi : Option Int) : List V := (xs.drop (HT.sIx xs.length 0 lo)).take (HT.sIx xs.length xs.length hi - HT.sIx xs.length 0 lo)
theorem cutV_length (xs : List V) (lo hi : Option Int) : (cutV xs lo hi).length ≤ xs.length := by
  unfold cutV
  rw [List.length_take, List.length_drop]
  omega
end
end L2

namespace L2
open PySem PySem.Spec PyProof.Rows

def ixN (n : Nat) (i : Int) : Option Nat := if 0 ≤ i then (if i < n then some i.toNat else none) else if -(n : Int) ≤ i then some (i + n).toNat else none
def atI {α : Type} (xs : List α) (i : Int) : Option α := (ixN xs.length i).bind fun j => xs[j]?
theorem ixN_seq {n : Nat} {i : Int} {j : Nat} (h : ixN n i = some j) : seqIndex? i n = some j ∧ j < n ∧ -(n : Int) ≤ i ∧ i < n := by
  unfold ixN at h
  by_cases h0 : 0 ≤ i
  · rw [if_pos h0] at h
    by_cases h1 : i < n
    · rw [if_pos h1] at h
      have e : i.toNat = j := Option.some.inj h
      exact ⟨by rw [seqIndex_of h0 h1, e], by omega, by omega, h1⟩
    · rw [if_neg h1] at h; cases h
  · rw [if_neg h0] at h
    by_cases h1 : -(n : Int) ≤ i
    · rw [if_pos h1] at h
      have e : (i + n).toNat = j := Option.some.inj h
      exact ⟨by rw [seqIndex_neg (by omega) h1, e], by omega, h1, by omega⟩
    · rw [if_neg h1] at h; cases h
theorem atI_get {α : Type} {xs : List α} {i : Int} {v : α} (h : atI xs i = some v) : ∃ j, seqIndex? i xs.length = some j ∧ xs[j]? = some v ∧ j < xs.length ∧ -(xs.length : Int) ≤ i ∧ i < xs.length := by
  unfold atI at h
  cases e : ixN xs.length i with
  | none => rw [e] at h; cases h
  | some j =>
    rw [e] at h
    obtain ⟨h1, h2, h3, h4⟩ := ixN_seq e
    exact ⟨j, h1, h, h2, h3, h4⟩
theorem atI_nat {α : Type} {xs : List α} {j : Nat} {v : α} (h : xs[j]? = some v) : atI xs (j : Int) = some v := by
  have hj : j < xs.length := (List.getElem?_eq_some_iff.mp h).1
  have e : ixN xs.length (j : Int) = some j := by
    unfold ixN
    rw [if_pos (by omega), if_pos (by omega)]; simp
  unfold atI; rw [e]; exact h
theorem atI_last {α : Type} (xs : List α) (v : α) : atI (xs ++ [v]) (-1) = some v := by
  have hl : (xs ++ [v]).length = xs.length + 1 := by simp
  have e : ixN (xs ++ [v]).length (-1) = some xs.length := by
    unfold ixN
    rw [hl, if_neg (by decide), if_pos (by omega)]
    congr 1
    omega
  unfold atI
  rw [e]
  show (xs ++ [v])[xs.length]? = some v
  simp

def PlainIx (b : Expr) : Prop := ∀ o i, subscripted b false o i = operate [o, i] (getItem o i)
def IxR (X : Cx) (r : R2) : Prop :=
  ∀ (value slice : Expr) (pins : List (Addr × Obj)) (s : Shared) (σ : St) (H : Hp) (x y : V) (v u : Value) (Q : VK), Inv X pins σ H s → RelV x v → RelV y u → r x y H Q →
    subscripted slice false v u = operate [v, u] (getItem v u) → wpAny (model X.prog X.w) X.A (subscriptTail value slice v u) (EP X pins σ Q) X.xe s
def MtR (X : Cx) (id : String) (r : V → List V → Hp → VK → Prop) : Prop :=
  ∀ (pins : List (Addr × Obj)) (s : Shared) (σ : St) (H : Hp) (x : V) (xs : List V) (v : Value) (us : List Value) (Q : VK), Inv X pins σ H s → RelV x v → Vals xs us → r x xs H Q →
    wpAny (model X.prog X.w) X.A (call (.builtin id) (v :: us)) (EP X pins σ Q) X.xe s
section
variable {X : Cx} {a b : Expr} {ta tb : TE} {pos : Pos}
theorem pe_ix {r : R2} (hr : IxR X r) (ha : PE X a ta) (hb : PE X b tb) (hs : PlainIx b) : PE X (.Subscript a b pos) (tOp r ta tb) := by
  intro pins s σ H Q I h
  exact Subscript_ (binT ha hb I h fun v u s2 x y H2 I2 rx ry q => hr a b pins s2 σ H2 x y v u Q I2 rx ry q (hs _ _))

def rIxL (K : PySem.W.Frag) : R2 := fun x y H Q => ∃ p xs i v, x = .ref p ∧ y = .int i ∧ SqL K H p xs ∧ atI xs i = some v ∧ Q v H
def rIxT (K : PySem.W.Frag) : R2 := fun x y H Q => ∃ p xs i v, x = .ref p ∧ y = .int i ∧ SqT K H p xs ∧ atI xs i = some v ∧ Q v H
theorem ix_list : IxR X (rIxL X.K) := by
  intro value slice pins s σ H x y v u Q I rx ry h hs
  obtain ⟨p, xs, i, z, rfl, rfl, hq, he, q⟩ := h
  cases rx
  obtain ⟨t, rfl⟩ := ry
  obtain ⟨its, r, pl, hz⟩ := I.list hq
  obtain ⟨j, h1, h2, h3, h4, h5⟩ := atI_get he
  obtain ⟨w, ew, rw'⟩ := r.get h2
  have hl := r.length
  have hn := line63
  have fin : EP X pins σ Q w s := ⟨z, H, I, rw', q⟩
  by_cases h0 : 0 ≤ i
  · have hj : i.toNat = j := by
      rw [seqIndex_of h0 h5] at h1
      exact Option.some.inj h1
    exact item_listR pl.isList h0 (by omega) (by rw [hj]; simpa using ew) fin hs
  · have hj : (i + (its.toArray.size : Int)).toNat = j := by
      rw [seqIndex_neg (by omega) h4] at h1
      rw [List.size_toArray, ← hl]
      exact Option.some.inj h1
    exact subscriptTail_builtinR (x := w) pl.isList.typeIs slot_list_getitem.lookup
      (wpAny_getItem_list_neg (Q := fun r s' => r = w ∧ EP X pins σ Q r s') pl.isList (by omega) (by rw [List.size_toArray] <;> omega) (by omega) (by rw [hj]; simpa using ew) ⟨rfl, fin⟩) hs
theorem ix_tup : IxR X (rIxT X.K) := by
  intro value slice pins s σ H x y v u Q I rx ry h hs
  obtain ⟨p, xs, i, z, rfl, rfl, hq, he, q⟩ := h
  cases rx
  obtain ⟨t, rfl⟩ := ry
  obtain ⟨its, r, pl, hz⟩ := I.tuple hq
  obtain ⟨j, h1, h2, h3, h4, h5⟩ := atI_get he
  obtain ⟨w, ew, rw'⟩ := r.get h2
  have hl := r.length
  have hn := line63
  have fin : EP X pins σ Q w s := ⟨z, H, I, rw', q⟩
  exact subscriptTail_builtinR (x := w) pl.typeIs slot_tuple_getitem.lookup
    (getItem_tuple (j := j) (Q := fun r s' => r = w ∧ EP X pins σ Q r s') pl (by omega) (by omega) (by rw [List.size_toArray, ← hl]; exact h1) (by simpa using ew) ⟨rfl, fin⟩) hs
theorem slice_bounds (lo hi : Option Int) (n : Nat) : (sliceBounds lo hi none n).1 = ((HT.sIx n 0 lo : Nat) : Int) ∧ (sliceBounds lo hi none n).2.1 = ((HT.sIx n n hi : Nat) : Int) ∧ (sliceBounds lo hi none n).2.2 = 1 := by
  refine ⟨?_, ?_, rfl⟩
  · cases lo with
    | none => simp [sliceBounds, HT.sIx]
    | some i =>
      simp only [sliceBounds, HT.sIx, Option.getD_none, show (1 : Int) > 0 by decide, if_true]
      by_cases h : i < 0
      · simp only [h, if_true] <;> omega
      · simp only [h, if_false] <;> omega
  · cases hi with
    | none => simp [sliceBounds, HT.sIx]
    | some i =>
      simp only [sliceBounds, HT.sIx, Option.getD_none, show (1 : Int) > 0 by decide, if_true]
      by_cases h : i < 0
      · simp only [h, if_true] <;> omega
      · simp only [h, if_false] <;> omega
theorem slicePick_cut (its : List Value) (lo hi : Option Int) : slicePick its.toArray lo hi none = ((its.drop (HT.sIx its.length 0 lo)).take (HT.sIx its.length its.length hi - HT.sIx its.length 0 lo)).toArray := by
  obtain ⟨h1, h2, h3⟩ := slice_bounds lo hi its.toArray.size
  unfold slicePick
  rw [h1, h2, h3]
  simp only [sliceRange_one, pick_run, List.size_toArray] <;> rfl
def rSlL (K : PySem.W.Frag) : V → Option Int → Option Int → Hp → VK → Prop := fun x lo hi H Q => ∃ a xs, x = .ref a ∧ SqL K H a xs ∧ ∀ p, H p = none → Q (.ref p) (upd H p (.lst (cutV xs lo hi)))
theorem sl_list : SlR X (rSlL X.K) := by
  intro pins s σ H x v vl vu lo hi sl Q I rx hs pl pu h
  obtain ⟨a, xs, rfl, hx, q⟩ := h
  cases rx
  obtain ⟨its, r, ht, hz⟩ := I.list hx
  have hlen := r.length
  refine ⟨"list", _, slot_list_getitem.lookup, ht.isList.typeIs, ?_⟩
  refine wpAny_getItem_list_slice ht.isList hs pl pu .none (by simp) ?_ (by rw [List.size_toArray] <;> omega)
  rw [slicePick_cut, ← hlen]
  refine ⟨.ref s.heap.objs.size, _, I.laid (t' := s.toks) (o := .lst (cutV xs lo hi)) (fun b ob q => Heap.get?_push_of_some _ q) (Nat.le_refl _) ?_, rfl, q _ (I.hok.fresh (Nat.le_refl _))⟩
  exact ⟨Nat.le_trans (cutV_length xs lo hi) hz, _, 0, (r.drop (HT.sIx xs.length 0 lo)).take (HT.sIx xs.length xs.length hi - HT.sIx xs.length 0 lo), Heap.get?_push_size _ rfl⟩

def flatV : V → Bool
  | .non => true
  | .bl _ => true
  | .int _ => true
  | .str _ => true
  | _ => false
def eqV : V → V → Bool
  | .non, .non => true
  | .bl a, .bl b => a == b
  | .bl a, .int b => (if a then 1 else 0) == b
  | .int a, .bl b => a == (if b then 1 else 0)
  | .int a, .int b => a == b
  | .str a, .str b => a == b
  | _, _ => false
theorem eqAt_V {A : Around} {s : Shared} {y x : V} {u v : Value} (ry : RelV y u) (rx : RelV x v) (fy : flatV y = true) (fx : flatV x = true) : SeqAt.EqAt A s u v (eqV y x) := by
  cases y with
  | non =>
    cases ry
    cases x with
    | non => cases rx; exact SeqAt.EqAt.same _
    | bl b => cases rx; exact SeqAt.EqAt.none_bool b
    | int b => obtain ⟨t, rfl⟩ := rx; exact SeqAt.EqAt.none_int b t
    | str b => obtain ⟨t, rfl⟩ := rx; exact SeqAt.EqAt.none_str b t
    | _ => exact absurd (show false = true from fx) Bool.false_ne_true
  | bl a =>
    cases ry
    cases x with
    | non => cases rx; exact SeqAt.EqAt.bool_none a
    | bl b => cases rx; exact SeqAt.EqAt.bool_bool a b
    | int b => obtain ⟨t, rfl⟩ := rx; exact SeqAt.EqAt.bool_int a b t
    | str b => obtain ⟨t, rfl⟩ := rx; exact SeqAt.EqAt.bool_str a b t
    | _ => exact absurd (show false = true from fx) Bool.false_ne_true
  | int a =>
    obtain ⟨t', rfl⟩ := ry
    cases x with
    | non => cases rx; exact SeqAt.EqAt.int_none a t'
    | bl b => cases rx; exact SeqAt.EqAt.int_bool a t' b
    | int b => obtain ⟨t, rfl⟩ := rx; exact SeqAt.EqAt.int_int a t' b t
    | str b => obtain ⟨t, rfl⟩ := rx; exact SeqAt.EqAt.int_str a t' b t
    | _ => exact absurd (show false = true from fx) Bool.false_ne_true
  | str a =>
    obtain ⟨t', rfl⟩ := ry
    cases x with
    | non => cases rx; exact SeqAt.EqAt.str_none a t'
    | bl b => cases rx; exact SeqAt.EqAt.str_bool a t' b
    | int b => obtain ⟨t, rfl⟩ := rx; exact SeqAt.EqAt.str_int a t' b t
    | str b => obtain ⟨t, rfl⟩ := rx; exact SeqAt.EqAt.str_str a t' b t
    | _ => exact absurd (show false = true from fx) Bool.false_ne_true
  | _ => exact absurd (show false = true from fy) Bool.false_ne_true
def eqU (x : V) (u : Value) : Bool := match u with
  | .none => eqV .non x
  | .bool b => eqV (.bl b) x
  | .int i _ => eqV (.int i) x
  | .str z _ => eqV (.str z) x
  | _ => false
theorem eqU_of {x y : V} {u : Value} (r : RelV y u) (f : flatV y = true) : eqU x u = eqV y x := by
  cases y with
  | non => cases r; rfl
  | bl b => cases r; rfl
  | int i => obtain ⟨t, rfl⟩ := r; rfl
  | str z => obtain ⟨t, rfl⟩ := r; rfl
  | _ => exact absurd (show false = true from f) Bool.false_ne_true
theorem any_eqU {x : V} : ∀ {xs : List V} {us : List Value}, Vals xs us → xs.all flatV = true → us.any (eqU x) = xs.any fun y => eqV y x
  | _, _, .nil, _ => rfl
  | y :: xs, u :: us, .cons r t, f => by
    rw [List.all_cons, Bool.and_eq_true] at f
    rw [List.any_cons, List.any_cons, eqU_of r f.1, any_eqU t f.2]
theorem mem_eqAt {A : Around} {s : Shared} {x : V} {v : Value} (rx : RelV x v) (fx : flatV x = true) : ∀ {xs : List V} {us : List Value}, Vals xs us → xs.all flatV = true → ∀ u ∈ us, SeqAt.EqAt A s u v (eqU x u)
  | _, _, .nil, _ => fun u hu => by cases hu
  | y :: xs, u :: us, .cons r t, f => fun u' hu => by
    rw [List.all_cons, Bool.and_eq_true] at f
    rcases List.mem_cons.mp hu with rfl | hu
    · rw [eqU_of r f.1]; exact eqAt_V r rx f.1 fx
    · exact mem_eqAt rx fx t f.2 u' hu
def inV (x : V) (xs : List V) : Bool := xs.any fun y => eqV y x
def rIn (K : PySem.W.Frag) (neg : Bool) : R2 := fun x y H Q => ∃ p xs, y = .ref p ∧ (SqL K H p xs ∨ SqT K H p xs) ∧ flatV x = true ∧ xs.all flatV = true ∧ Q (.bl (if neg then !inV x xs else inV x xs)) H
theorem op_in_seq : OpR X (compareOp .In) (rIn X.K false) := by
  intro pins s σ H x y v u Q I rx ry h
  obtain ⟨p, xs, rfl, hq, fx, fs, q⟩ := h
  cases ry
  rcases hq with hq | hq
  · obtain ⟨its, r, pl, hz⟩ := I.list hq
    refine SeqAt.in_listAt (eqU x) pl.isList (fun w hw => mem_eqAt rx fx r fs w (by simpa using hw)) ⟨.bl _, H, I, rfl, ?_⟩
    rw [show its.toArray.any (eqU x) = its.any (eqU x) by simp, any_eqU r fs]
    exact q
  · obtain ⟨its, r, pl, hz⟩ := I.tuple hq
    refine SeqAt.in_tupleAt (eqU x) pl (fun w hw => mem_eqAt rx fx r fs w (by simpa using hw)) ⟨.bl _, H, I, rfl, ?_⟩
    rw [show its.toArray.any (eqU x) = its.any (eqU x) by simp, any_eqU r fs]
    exact q
theorem call_len_seq : CallR X (.builtin "len") (fun xs H Q => ∃ p ys, xs = [.ref p] ∧ (SqL X.K H p ys ∨ SqT X.K H p ys) ∧ Q (.int ys.length) H) := by
  intro pins s σ H xs us Q I r h
  obtain ⟨p, ys, rfl, hq, q⟩ := h
  obtain ⟨u, rfl, rx⟩ := vals1 r
  cases rx
  have hn := line63
  rcases hq with hq | hq
  · obtain ⟨its, r', pl, hz⟩ := I.list hq
    have hlen := r'.length
    exact Calls.call_len_list pl.isList (by simp only [List.size_toArray] <;> omega) ⟨.int ys.length, H, I.tok _, ⟨s.toks + 1, by rw [List.size_toArray, hlen]⟩, q⟩
  · obtain ⟨its, r', pl, hz⟩ := I.tuple hq
    have hlen := r'.length
    exact len_tuple pl (by simp only [List.size_toArray] <;> omega) ⟨.int ys.length, H, I.tok _, ⟨s.toks + 1, by rw [List.size_toArray, hlen]⟩, q⟩
theorem call_list_of : CallR X (.type "list") (fun xs H Q => ∃ p ys, xs = [.ref p] ∧ (SqL X.K H p ys ∨ SqT X.K H p ys) ∧ ∀ l, H l = none → Q (.ref l) (upd H l (.lst ys))) := by
  intro pins s σ H xs us Q I r h
  obtain ⟨p, ys, rfl, hq, q⟩ := h
  obtain ⟨u, rfl, rx⟩ := vals1 r
  cases rx
  have fin : ∀ (its : List Value), Vals ys its → ys.length ≤ sizeLine → ∀ (h' : Heap) (c' : Nat), (∀ b o', s.heap.get? b = some o' → h'.get? b = some o') →
      h'.get? s.heap.objs.size = some { cls := .type "list", dict := none, data := .seq its.toArray c', slots := #[] } → EP X pins σ Q (.ref s.heap.objs.size) { s with heap := h' } := fun its r' hz h' c' kp e =>
    ⟨.ref s.heap.objs.size, _, I.laid (t' := s.toks) kp (Nat.le_refl _) (show ObjOk X.prog X.w _ h' _ (.lst ys) from ⟨hz, its, c', r', e⟩), rfl, q _ (I.hok.fresh (Nat.le_refl _))⟩
  rcases hq with hq | hq
  · obtain ⟨its, r', pl, hz⟩ := I.list hq
    have hlen := r'.length
    obtain ⟨o, ho, hc, n, hd⟩ := pl.isList
    exact call_list_seq p (.inl rfl) ho hc hd (fun h' c' kp e => fin its r' hz h' c' kp e) (by simp only [List.size_toArray] <;> omega)
  · obtain ⟨its, r', pl, hz⟩ := I.tuple hq
    have hlen := r'.length
    obtain ⟨o, ho, hc, n, hd⟩ := pl
    exact call_list_seq p (.inr rfl) ho hc hd (fun h' c' kp e => fin its r' hz h' c' kp e) (by simp only [List.size_toArray] <;> omega)
def tyV (K : PySem.W.Frag) (T : String) (x : V) (H : Hp) : Prop := match x with
  | .str _ => T = "str"
  | .int _ => T = "int"
  | .ref p => (T = "list" ∧ ∃ xs, SqL K H p xs) ∨ (T = "tuple" ∧ ∃ o, K.lookup p = some o ∧ o.cls = .type "tuple" ∧ o.dict = none) ∨
      (T = "dict" ∧ ((∃ kvs, H p = some (.dK kvs)) ∨ ∃ kvs, H p = some (.dT kvs))) ∨ (T = "set" ∧ ∃ S n, H p = some (.set S n))
  | _ => False
theorem tyV_is {pins : List (Addr × Obj)} {σ : St} {H : Hp} {s : Shared} {T : String} {x : V} {v : Value} (I : Inv X pins σ H s) (r : RelV x v) (ty : tyV X.K T x H) :
    s.TypeIs v T ∧ ∀ a, v = .ref a → ∃ ob, s.heap.get? a = some ob ∧ ob.dict = none := by
  cases x with
  | str z =>
    obtain ⟨t, rfl⟩ := r
    cases (show T = "str" from ty)
    exact ⟨typeIs_str s z t, fun _ e => nomatch e⟩
  | int i =>
    obtain ⟨t, rfl⟩ := r
    cases (show T = "int" from ty)
    exact ⟨typeIs_int s i t, fun _ e => nomatch e⟩
  | ref p =>
    cases r
    rcases ty with ⟨rfl, xs, hq⟩ | ⟨rfl, o, hk, hc, hd⟩ | ⟨rfl, hk⟩ | ⟨rfl, S, n, hk⟩
    · obtain ⟨its, _, pl, _⟩ := I.list hq
      refine ⟨pl.isList.typeIs, fun a e => ?_⟩
      cases e
      obtain ⟨o, n, e, c, hd, _⟩ := pl
      exact ⟨o, e, hd⟩
    · refine ⟨⟨o, I.kIn p o hk, hc⟩, fun a e => ?_⟩
      cases e
      exact ⟨o, I.kIn _ o hk, hd⟩
    · have z : ∃ o, s.heap.get? p = some o ∧ o.ExactDict := by
        rcases hk with ⟨kvs, hk⟩ | ⟨kvs, hk⟩
        · obtain ⟨_, _, _, _, o, _, _, e, ex, _⟩ := I.hok p _ hk
          exact ⟨o, e, ex⟩
        · obtain ⟨_, _, _, _, o, _, _, e, ex, _⟩ := I.hok p _ hk
          exact ⟨o, e, ex⟩
      obtain ⟨o, e, ex⟩ := z
      refine ⟨⟨o, e, ex.1⟩, fun a e2 => ?_⟩
      cases e2
      exact ⟨o, e, ex.2.1⟩
    · obtain ⟨o, _, _, _, e, ex, _⟩ := I.hok p _ hk
      refine ⟨⟨o, e, ex.1⟩, fun a e2 => ?_⟩
      cases e2
      exact ⟨o, e, ex.2.1⟩
  | _ => exact False.elim ty
def tBM (K : PySem.W.Frag) (T : String) (r : V → List V → Hp → VK → Prop) (to : TE) (t : TA) : TE := fun σ H Q => to σ H fun x H1 => tyV K T x H1 ∧ t σ H1 fun xs H2 => r x xs H2 Q
variable {o e : Expr} {es : List Expr} {to : TE} {t : TA} {name : Str} {apos cpos : Pos} {T id : String} {r : V → List V → Hp → VK → Prop}
theorem pe_bm (pa : PlainAttrs T) (slot : Slot T name id) (hty : typeOf (.builtin id) = pure (.type "method_descriptor")) (hm : MtR X id r) (ho : PE X o to) (ha : PA X (e :: es) t)
    (hbase : attributeBase o name X.env (eval o X.env) = eval o X.env := by rfl)
    (hfew : ((backTo cpos (starEach (e :: es) X.env)).all (fun x => !x.1) && (backToKw cpos (keywordEach [] X.env)).all (fun x => x.1.isSome)
      && decide ((e :: es).length + ([] : List Keyword).length + (if ([] : List Keyword).isEmpty then 0 else 1) < 30)) = true := by rfl)
    (hline : (apos.endLine == cpos.line) = true := by rfl) (hs : starEach (e :: es) X.env = (false, eval e X.env) :: starEach es X.env := by rfl) (hplain : (backTo cpos (starEach es X.env)).any (·.1) = false := by rfl) :
    PE X (.Call (.Attribute o name apos) (e :: es) [] cpos) (tBM X.K T r to t) := by
  intro pins s σ H Q I h
  refine wpAny_Call_method_late hbase hfew hline rfl (thn (ho pins s σ H _ I h) fun v s1 ⟨x, H1, I1, r1, ty, q1⟩ => ?_)
  obtain ⟨h1, h2⟩ := tyV_is I1 r1 ty
  refine ⟨T, id, pa, slot, hty, h1, h2, ?_⟩
  have hA := ha cpos pins s1 σ H1 _ I1 q1
  rw [hs] at hA ⊢
  refine Calls.callWith_builtin (by show (false || (backTo cpos (starEach es X.env)).any (·.1)) = false; rw [hplain] <;> rfl) (Calls.evalArgs_plain ?_)
  exact thn hA fun us s2 ⟨vs, H2, I2, r2, q2⟩ => hm pins s2 σ H2 x vs v us Q I2 r1 r2 q2
end
end L2

namespace L2
open PySem PySem.Spec PyProof.Rows

def MtM (X : Cx) (id : String) (r : V → List V → Hp → VK → Prop) : Prop :=
  ∀ (pins : List (Addr × Obj)) (s : Shared) (σ : St) (H : Hp) (x : V) (xs : List V) (v : Value) (us : List Value) (Q : VK), Inv X pins σ H s → RelV x v → Vals xs us → r x xs H Q →
    wpAny (model X.prog X.w) X.A (call (.builtin id) (v :: us)) (EP X pins σ Q) X.xe s

theorem Vals.one : ∀ {x : V} {us : List Value}, Vals [x] us → ∃ u, us = [u] ∧ RelV x u
  | _, _, .cons r .nil => ⟨_, rfl, r⟩
section
variable {X : Cx} {pins : List (Addr × Obj)} {σ : St} {H : Hp} {s : Shared} {l b : Addr} {xs ys zs : List V}

theorem Inv.lset {its its' : List Value} {n : Nat} {f : Array Value → Array Value} {t' : Nat} (I : Inv X pins σ H s) (hH : H l = some (.lst xs))
    (e : s.heap.get? l = some { cls := .type "list", data := .seq its.toArray n }) (hf : f its.toArray = its'.toArray) (hv : Vals ys its') (hz : ys.length ≤ sizeLine) :
    Inv X pins σ (upd H l (.lst ys)) { s with heap := s.heap.update l (Obj.mapSeq f), toks := t' } := by
  have q := PySem.IsL.update e f
  rw [hf] at q
  refine I.write (x := l) (e := l) (by rw [hH]; exact trivial) (.inl rfl) (fun b' u hb hu => (Heap.get?_update_other s.heap (Obj.mapSeq f) (Ne.symm hb)).trans hu) ⟨_, q⟩ ?_
  exact ⟨hz, its', _, hv, q⟩
theorem Inv.lnew {its : List Value} {t' : Nat} (I : Inv X pins σ H s) (hv : Vals ys its) (hz : ys.length ≤ sizeLine) :
    Inv X pins σ (upd H s.heap.objs.size (.lst ys)) { s with heap := s.heap.push { cls := .type "list", data := .seq its.toArray }, toks := t' } :=
  I.laid (fun _ _ q => Heap.get?_push_of_some _ q) (Nat.le_refl _) ⟨hz, its, 0, hv, Heap.get?_push_size _ rfl⟩
theorem Inv.fresh (I : Inv X pins σ H s) : H s.heap.objs.size = none := I.hok.fresh (Nat.le_refl _)
theorem Inv.lstM (I : Inv X pins σ H s) (hH : H l = some (.lst xs)) : xs.length ≤ sizeLine ∧ ∃ (its : List Value) (n : Nat), Vals xs its ∧ xs.length = its.length ∧ s.heap.get? l = some { cls := .type "list", data := .seq its.toArray n } := by
  obtain ⟨z, its, n, r, e⟩ := I.hok l _ hH
  exact ⟨z, its, n, r, r.length, e⟩

theorem notLongL {n : Nat} (h : n ≤ sizeLine) : Builtin.List.listTooLong n = false := by
  unfold Builtin.List.listTooLong
  exact decide_eq_false (by omega)
end

section
variable {X : Cx}

def rAppend : V → List V → Hp → VK → Prop := fun x vs H Q => ∃ l xs y, x = .ref l ∧ vs = [y] ∧ H l = some (.lst xs) ∧ xs.length < sizeLine ∧ Q .non (upd H l (.lst (xs ++ [y])))
theorem mt_append : MtM X "list.append" rAppend := by
  intro pins s σ H x vs v us Q I rx rv h
  obtain ⟨l, xs, y, rfl, rfl, hH, hz, q⟩ := h
  cases rx
  obtain ⟨u, rfl, ru⟩ := rv.one
  obtain ⟨z, its, n, r, hl, e⟩ := I.lstM hH
  refine call_meets F.slot_list_append ⟨_, e, rfl⟩ F.entry_list_append (F.args_list_append_2 _ _) (PySem.list_append l its.toArray n u (by rw [List.size_toArray]; omega)) ⟨e, ?_⟩
  refine ⟨.non, _, I.lset (its' := its ++ [u]) hH e (by simp) (r.append (.cons ru .nil)) ?_, rfl, q⟩
  rw [List.length_append, List.length_singleton]
  omega

def rExtend : V → List V → Hp → VK → Prop := fun x vs H Q => ∃ l b xs zs, x = .ref l ∧ vs = [.ref b] ∧ H l = some (.lst xs) ∧ H b = some (.lst zs) ∧ xs.length + zs.length ≤ sizeLine ∧ Q .non (upd H l (.lst (xs ++ zs)))
theorem mt_extend : MtM X "list.extend" rExtend := by
  intro pins s σ H x vs v us Q I rx rv h
  obtain ⟨l, b, xs, zs, rfl, rfl, hH, hB, hz, q⟩ := h
  cases rx
  obtain ⟨u, rfl, ru⟩ := rv.one
  cases ru
  obtain ⟨z, its, n, r, hl, e⟩ := I.lstM hH
  obtain ⟨z2, its2, n2, r2, hl2, e2⟩ := I.lstM hB
  have hsz : its.toArray.size + its2.toArray.size ≤ sizeLine := by rw [List.size_toArray, List.size_toArray]; omega
  have hlong : ¬ (!its.toArray.isEmpty && Builtin.List.listTooLong (its.toArray.size + its2.toArray.size)) = true := by
    rw [notLongL hsz, Bool.and_false]
    exact Bool.false_ne_true
  refine call_meets F.slot_list_extend ⟨_, e, rfl⟩ F.entry_list_extend (F.args_list_extend_2 _ _)
    (AutoSeq1.list_extend_list_list_0 l its.toArray n b its2.toArray n2 hlong (by rw [List.size_toArray]; omega) (by omega)) ⟨e, e2, ?_⟩
  refine ⟨.non, _, I.lset (its' := its ++ its2) hH e (by simp) (r.append r2) ?_, rfl, q⟩
  rw [List.length_append]
  omega

def rCat : R2 := fun x y H Q => ∃ l b xs zs, x = .ref l ∧ y = .ref b ∧ H l = some (.lst xs) ∧ H b = some (.lst zs) ∧ xs.length + zs.length ≤ sizeLine ∧ ∀ p, H p = none → Q (.ref p) (upd H p (.lst (xs ++ zs)))
theorem op_cat : OpR X (binaryOp .Add) rCat := by
  intro pins s σ H x y v u Q I rx ry h
  obtain ⟨l, b, xs, zs, rfl, rfl, hH, hB, hz, q⟩ := h
  cases rx
  cases ry
  obtain ⟨z, its, n, r, hl, e⟩ := I.lstM hH
  obtain ⟨z2, its2, n2, r2, hl2, e2⟩ := I.lstM hB
  refine PySem.P.add_list e e2 ?_ (by rw [List.size_toArray, List.size_toArray]; omega)
  have ea : its.toArray ++ its2.toArray = (its ++ its2).toArray := by simp
  rw [ea]
  exact ⟨.ref _, _, I.lnew (t' := s.toks) (r.append r2) (by rw [List.length_append]; omega), rfl, q _ I.fresh⟩
end

section
variable {prog : Program} {w : World} {A : Around} {E : Value → Shared → Prop} {s : Shared}
end

section
variable {X : Cx}
end
end L2

namespace L2
open PySem PySem.Spec PyProof.Rows

theorem vals_of_ints : ∀ {us : List Value} {ns : List Int}, IntsAre us ns → Vals (ns.map V.int) us
  | _, _, .nil => by rw [List.map_nil]; exact Paired.nil
  | _, _, .cons n t h => by rw [List.map_cons]; exact Paired.cons (show RelV (V.int n) (Value.int n t) from ⟨t, rfl⟩) (vals_of_ints h)
theorem Vals.bls : ∀ {bs : List Bool} {us : List Value}, Vals (bs.map V.bl) us → us = bs.map Value.bool
  | [], us, h => by
    rw [List.map_nil] at h
    cases h
    rfl
  | b :: bs, us, h => by
    rw [List.map_cons] at h
    cases h with
    | cons r t =>
      cases r
      rw [Vals.bls t, List.map_cons]
theorem Vals.ref1 {a : Addr} {us : List Value} (r : Vals [V.ref a] us) : us = [Value.ref a] := by
  cases r with
  | cons r t =>
    cases t
    cases r
    rfl
section
variable {prog : Program} {w : World} {A : Around} {E : Value → Shared → Prop} {s : Shared} {l : Addr} {its : List Value} {ns : List Int} {Q : Value → Shared → Prop}
end

section
variable {X : Cx}
end

section
variable {X : Cx}
end

section
variable {X : Cx}
end

theorem iter_any {prog : Program} {w : World} {A : Around} {E : Value → Shared → Prop} {s : Shared} {l : Addr} {items : Array Value} {Q : Value → Shared → Prop} (hl : s.heap.IsList l items)
    (h : ∀ s₂ : Shared, s₂ = { s with heap := s.heap.push { cls := .type "list_iterator", data := .fields #[.ref l, .int 0 0] } } →
      (s₂.heap.IsListIter s.heap.objs.size l 0 ∧ s₂.heap.IsList l items) → l ≠ s.heap.objs.size → Q (.ref s.heap.objs.size) s₂) : wpAny (model prog w) A (pyIter (.ref l)) Q E s := by
  have hlt : l < s.heap.objs.size := by obtain ⟨_, e, _⟩ := hl; exact Heap.lt_size e
  exact wpAny_pyIter_list hl (h _ rfl ⟨⟨_, Heap.get?_push_size _ rfl, rfl, rfl⟩, hl.push _⟩ (Nat.ne_of_lt hlt))
theorem truth_bools {prog : Program} {w : World} {A : Around} {bs : List Bool} {its : List Value} (e : its = bs.map Value.bool) :
    TruthOf prog w A (fun i v => its.toArray[i]? = some v) (fun i => bs.getD i false) := fun i v s Q E hv hq => by
  have hv' : its[i]? = some v := by simpa using hv
  rw [e, List.getElem?_map] at hv'
  obtain ⟨b, hb, rfl⟩ := Option.map_eq_some_iff.mp hv'
  have hg : bs.getD i false = b := by rw [List.getD_eq_getElem?_getD, hb] <;> rfl
  have hq' : Q (bs.getD i false) s := hq
  rw [hg] at hq'
  exact wpAny_truthy_bool hq'
theorem any_range : ∀ bs : List Bool, (List.range bs.length).any (fun i => bs.getD i false) = bs.any id
  | [] => rfl
  | b :: bs => by
    rw [List.length_cons, List.range_succ_eq_map, List.any_cons, List.any_map, List.any_cons, ← any_range bs]
    all_goals rfl
theorem all_range : ∀ bs : List Bool, (List.range bs.length).all (fun i => bs.getD i false) = bs.all id
  | [] => rfl
  | b :: bs => by
    rw [List.length_cons, List.range_succ_eq_map, List.all_cons, List.all_map, List.all_cons, ← all_range bs]
    all_goals rfl
section
variable {X : Cx}
def rAny (K : PySem.W.Frag) : List V → Hp → VK → Prop := fun vs H Q => ∃ (a : Addr) (bs : List Bool), vs = [V.ref a] ∧ SqL K H a (bs.map V.bl) ∧ Q (.bl (bs.any id)) H
def rAll (K : PySem.W.Frag) : List V → Hp → VK → Prop := fun vs H Q => ∃ (a : Addr) (bs : List Bool), vs = [V.ref a] ∧ SqL K H a (bs.map V.bl) ∧ Q (.bl (bs.all id)) H
theorem cr_any (hc : X.calm = true) : CallR X (.builtin "any") (rAny X.K) := by
  intro pins s σ H vs us Q I r h
  obtain ⟨a, bs, rfl, hs, q⟩ := h
  obtain ⟨its, rv, hl, _⟩ := I.list hs
  rw [Vals.ref1 r]
  have hb := rv.bls
  refine call_any_walk (iter_any hl.isList fun s₂ e2 st hne => ?_)
  subst e2
  refine ⟨_, _, _, _, _, _, _, rfl, Walks.list (A := X.A.in1) (I.ok.hd hc) _ a hne its.toArray, st, truth_bools hb, fun h' tk hk => ?_⟩
  refine ⟨.bl _, H, I.kept fun b o eo => hk b o (fun hmem => ?_) (Heap.get?_push_of_some _ eo), ?_, q⟩
  · rcases List.mem_cons.mp hmem with e1 | hmem
    · exact absurd (e1 ▸ Heap.lt_size eo) (Nat.lt_irrefl _)
    · cases hmem
  · show Value.bool _ = Value.bool _
    rw [← any_range, hb, List.size_toArray, List.length_map]
theorem cr_all (hc : X.calm = true) : CallR X (.builtin "all") (rAll X.K) := by
  intro pins s σ H vs us Q I r h
  obtain ⟨a, bs, rfl, hs, q⟩ := h
  obtain ⟨its, rv, hl, _⟩ := I.list hs
  rw [Vals.ref1 r]
  have hb := rv.bls
  refine call_all_walk (iter_any hl.isList fun s₂ e2 st hne => ?_)
  subst e2
  refine ⟨_, _, _, _, _, _, _, rfl, Walks.list (A := X.A.in1) (I.ok.hd hc) _ a hne its.toArray, st, truth_bools hb, fun h' tk hk => ?_⟩
  refine ⟨.bl _, H, I.kept fun b o eo => hk b o (fun hmem => ?_) (Heap.get?_push_of_some _ eo), ?_, q⟩
  · rcases List.mem_cons.mp hmem with e1 | hmem
    · exact absurd (e1 ▸ Heap.lt_size eo) (Nat.lt_irrefl _)
    · cases hmem
  · show Value.bool _ = Value.bool _
    rw [← all_range, hb, List.size_toArray, List.length_map]
end

mutual
inductive Dp (K : PySem.W.Frag) (H : Hp) : V → PyData → Prop
  | non : Dp K H .non .none
  | bl (b : Bool) : Dp K H (.bl b) (.bool b)
  | int (i : Int) : Dp K H (.int i) (.int i)
  | str (x : Str) : Dp K H (.str x) (.str x)
  | lst {a : Addr} {xs : List V} {ds : List PyData} : SqL K H a xs → DpAll K H xs ds → Dp K H (.ref a) (.list ds)
  | tup {a : Addr} {xs : List V} {ds : List PyData} : SqT K H a xs → DpAll K H xs ds → Dp K H (.ref a) (.tuple ds)
inductive DpAll (K : PySem.W.Frag) (H : Hp) : List V → List PyData → Prop
  | nil : DpAll K H [] []
  | cons {v : V} {vs : List V} {d : PyData} {ds : List PyData} : Dp K H v d → DpAll K H vs ds → DpAll K H (v :: vs) (d :: ds)
end
section
variable {X : Cx} {pins : List (Addr × Obj)} {σ : St} {H : Hp} {s : Shared}
mutual
theorem Dp.reads (I : Inv X pins σ H s) : ∀ (d : PyData) (v : V) (u : Value), Dp X.K H v d → RelV v u → ∃ as, Reads s.heap u d as
  | .none, _, _, h, r => by
    cases h
    cases r
    exact ⟨_, Reads.none⟩
  | .bool b, _, _, h, r => by
    cases h
    cases r
    exact ⟨_, Reads.bool b⟩
  | .int i, _, _, h, r => by
    cases h
    obtain ⟨t, rfl⟩ := r
    exact ⟨_, Reads.int i t⟩
  | .str x, _, _, h, r => by
    cases h
    obtain ⟨t, rfl⟩ := r
    exact ⟨_, Reads.str x t⟩
  | .list ds, _, _, h, r => by
    cases h with
    | lst hs ha =>
      cases r
      obtain ⟨its, rv, ⟨o, n, ho, hc, _, hd⟩, _⟩ := I.list hs
      obtain ⟨as, hr⟩ := Dp.readsAll I ds _ its ha rv
      exact ⟨_, Reads.list ho hc hd hr⟩
  | .tuple ds, _, _, h, r => by
    cases h with
    | tup hs ha =>
      cases r
      obtain ⟨its, rv, ⟨o, ho, hc, n, hd⟩, _⟩ := I.tuple hs
      obtain ⟨as, hr⟩ := Dp.readsAll I ds _ its ha rv
      exact ⟨_, Reads.tuple ho hc hd hr⟩
  | .dict _, _, _, h, _ => by cases h
theorem Dp.readsAll (I : Inv X pins σ H s) : ∀ (ds : List PyData) (vs : List V) (us : List Value), DpAll X.K H vs ds → Vals vs us → ∃ as, ReadsAll s.heap us ds as
  | [], _, _, h, r => by
    cases h
    cases r
    exact ⟨_, ReadsAll.nil⟩
  | d :: ds, _, _, h, r => by
    cases h with
    | cons h1 h2 =>
      cases r with
      | cons r1 r2 =>
        obtain ⟨as, q1⟩ := Dp.reads I d _ _ h1 r1
        obtain ⟨bs, q2⟩ := Dp.readsAll I ds _ _ h2 r2
        exact ⟨_, ReadsAll.cons q1 q2⟩
end
end
section
variable {X : Cx}
def rEqD (K : PySem.W.Frag) : R2 := fun x y H Q => ∃ d e, Dp K H x d ∧ Dp K H y e ∧ SeqAt.shaped d = true ∧ SeqAt.shaped e = true ∧ Q (.bl (PyData.eqv d e)) H
theorem op_eqD (hu : X.A.units + 64 < cLine) : OpR X (compareOp .Eq) (rEqD X.K) := by
  intro pins s σ H x y v u Q I rx ry h
  obtain ⟨d, e, hd, he, sd, se, q⟩ := h
  obtain ⟨as, r1⟩ := Dp.reads I d x v hd rx
  obtain ⟨bs, r2⟩ := Dp.reads I e y u he ry
  exact SeqAt.compareEq_shaped r1 r2 sd se hu ⟨.bl _, H, I, rfl, q⟩
end
end L2

namespace L2
open PySem PySem.Spec PyProof.Rows
abbrev CellAt (h : Heap) (c : Addr) (v : Option Value) : Prop := h.IsCell c v
def relS (scope sc : Scope) : Scope :=
  { scope with names := scope.names.map fun (n, k) => if (k == .free && sc.kind == .function && sc.names.lookup n == some .cell) then (n, .cell) else (n, k) }

def cloFrom (cells : List (Str × Addr)) : List (Str × NameKind) → List (Str × Addr) → List (Str × Addr)
  | [], acc => acc
  | (n, k) :: r, acc => if k == .free then cloFrom cells r ((n, (cells.lookup n).getD 0) :: acc) else cloFrom cells r acc

theorem closure_loop (env : Env) (f : Str × NameKind → List (Str × Addr) → Sem (ForInStep (List (Str × Addr))))
    (hf : ∀ n k c, f (n, k) c = if k == .free then (do let a ← cellOf env n; pure (.yield ((n, a) :: c))) else pure (.yield c)) :
    ∀ (names : List (Str × NameKind)) (acc : List (Str × Addr)), (∀ y ∈ names, y.2 = .free → ∃ c, env.cells.lookup y.1 = some c) → forIn names acc f = pure (cloFrom env.cells names acc)
  | [], acc, _ => by rw [List.forIn_nil]; rfl
  | (n, k) :: r, acc, h => by
    rw [List.forIn_cons, hf]
    have ih := fun acc => closure_loop env f hf r acc fun y hy => h y (List.mem_cons_of_mem _ hy)
    unfold cloFrom
    by_cases hk : (k == NameKind.free) = true
    · rw [if_pos hk, if_pos hk]
      obtain ⟨c, hc⟩ := h (n, k) List.mem_cons_self (by simpa using hk)
      have e : cellOf env n = pure c := by unfold cellOf; rw [hc]
      rw [e]
      have e2 : (env.cells.lookup n).getD 0 = c := by rw [hc]; rfl
      rw [e2]
      exact ih _
    · rw [if_neg hk, if_neg hk]
      exact ih _
theorem closure_ok {scope : Scope} {env : Env} (h : ∀ y ∈ scope.names, y.2 = .free → ∃ c, env.cells.lookup y.1 = some c) : closureFor scope env = pure (cloFrom env.cells scope.names []) := by
  simp only [closureFor]
  rw [closure_loop env _ (fun n k c => rfl) scope.names [] h]
  rfl

theorem mem_lookup {α : Type} : ∀ {l : List (Str × α)} {n : Str} {c : α}, (n, c) ∈ l → ∃ c', l.lookup n = some c'
  | (k, v) :: r, n, c, h => by
    rw [List.lookup_cons]
    cases hb : n == k with
    | true => exact ⟨_, rfl⟩
    | false =>
      rcases List.mem_cons.mp h with e | h
      · cases e; simp at hb
      · exact mem_lookup h

theorem cloFrom_mem {cells : List (Str × Addr)} : ∀ {names : List (Str × NameKind)} {acc : List (Str × Addr)} {n : Str} {c : Addr}, (n, c) ∈ cloFrom cells names acc → (n, c) ∈ acc ∨ ((n, .free) ∈ names ∧ c = (cells.lookup n).getD 0)
  | [], _, _, _, h => .inl h
  | (m, k) :: r, acc, n, c, h => by
    unfold cloFrom at h
    split at h
    · rename_i hk
      have hk : k = .free := by simpa using hk
      rcases cloFrom_mem h with h | ⟨h1, h2⟩
      · rcases List.mem_cons.mp h with e | h
        · cases e; exact .inr ⟨hk ▸ List.mem_cons_self, rfl⟩
        · exact .inl h
      · exact .inr ⟨List.mem_cons_of_mem _ h1, h2⟩
    · rcases cloFrom_mem h with h | ⟨h1, h2⟩
      · exact .inl h
      · exact .inr ⟨List.mem_cons_of_mem _ h1, h2⟩
theorem cloFrom_acc {cells : List (Str × Addr)} : ∀ {names : List (Str × NameKind)} {acc : List (Str × Addr)} {p : Str × Addr}, p ∈ acc → p ∈ cloFrom cells names acc
  | [], _, _, h => h
  | (m, k) :: r, acc, p, h => by
    unfold cloFrom
    split
    · exact cloFrom_acc (List.mem_cons_of_mem _ h)
    · exact cloFrom_acc h
theorem cloFrom_has {cells : List (Str × Addr)} : ∀ {names : List (Str × NameKind)} {acc : List (Str × Addr)} {n : Str}, (n, .free) ∈ names → (n, (cells.lookup n).getD 0) ∈ cloFrom cells names acc
  | (m, k) :: r, acc, n, h => by
    unfold cloFrom
    rcases List.mem_cons.mp h with e | h
    · cases e
      exact cloFrom_acc List.mem_cons_self
    · split
      · exact cloFrom_has h
      · exact cloFrom_has h

theorem cells_mem : ∀ {names : List (Str × NameKind)} {h : Heap} {acc : List (Str × Addr)} {x : Str} {c : Addr}, (x, c) ∈ cellsFrom h.objs.size names acc →
    (x, c) ∈ acc ∨ ((x, .cell) ∈ names ∧ h.objs.size ≤ c ∧ CellAt (pushCells h names) c none)
  | [], _, _, _, _, h => .inl h
  | (n, k) :: r, h, acc, x, c, hm => by
    unfold cellsFrom at hm
    unfold pushCells
    split at hm
    · rename_i hk
      rw [if_pos hk]
      have hk : k = .cell := by simpa using hk
      rw [← Heap.size_push h { cls := .type "cell", data := .cell none }] at hm
      rcases cells_mem hm with hm | ⟨h1, h2, h3⟩
      · rcases List.mem_cons.mp hm with e | hm
        · cases e
          exact .inr ⟨hk ▸ List.mem_cons_self, Nat.le_refl _, _, pushCells_keeps r _ _ _ (Heap.get?_push_size _ rfl), rfl⟩
        · exact .inl hm
      · rw [Heap.size_push] at h2
        exact .inr ⟨List.mem_cons_of_mem _ h1, Nat.le_of_succ_le h2, h3⟩
    · rename_i hk
      rw [if_neg hk]
      rcases cells_mem hm with hm | ⟨h1, h2, h3⟩
      · exact .inl hm
      · exact .inr ⟨List.mem_cons_of_mem _ h1, h2, h3⟩
theorem cells_acc : ∀ {names : List (Str × NameKind)} {n : Nat} {acc : List (Str × Addr)} {p : Str × Addr}, p ∈ acc → p ∈ cellsFrom n names acc
  | [], _, _, _, h => h
  | (m, k) :: r, n, acc, p, h => by
    unfold cellsFrom
    split
    · exact cells_acc (List.mem_cons_of_mem _ h)
    · exact cells_acc h
theorem cells_has : ∀ {names : List (Str × NameKind)} {n : Nat} {acc : List (Str × Addr)} {x : Str}, (x, .cell) ∈ names → ∃ c, (x, c) ∈ cellsFrom n names acc
  | (m, k) :: r, n, acc, x, h => by
    unfold cellsFrom
    rcases List.mem_cons.mp h with e | h
    · cases e
      exact ⟨n, cells_acc List.mem_cons_self⟩
    · split
      · exact cells_has h
      · exact cells_has h
theorem cells_inj : ∀ {names : List (Str × NameKind)} {h : Heap} {acc : List (Str × Addr)} {x y : Str} {c : Addr}, (∀ p ∈ acc, p.2 < h.objs.size) → (∀ x y c, (x, c) ∈ acc → (y, c) ∈ acc → x = y) →
    (x, c) ∈ cellsFrom h.objs.size names acc → (y, c) ∈ cellsFrom h.objs.size names acc → x = y
  | [], _, _, _, _, _, _, hi, h1, h2 => hi _ _ _ h1 h2
  | (n, k) :: r, h, acc, x, y, c, hl, hi, h1, h2 => by
    unfold cellsFrom at h1 h2
    split at h1
    · rename_i hk
      rw [if_pos hk] at h2
      rw [← Heap.size_push h { cls := .type "cell", data := .cell none }] at h1 h2
      refine cells_inj (h := h.push _) (fun p hp => ?_) (fun x y c a b => ?_) h1 h2
      · rw [Heap.size_push]
        rcases List.mem_cons.mp hp with rfl | hp
        · exact Nat.lt_succ_self _
        · exact Nat.lt_succ_of_lt (hl p hp)
      · rcases List.mem_cons.mp a with e | a <;> rcases List.mem_cons.mp b with e' | b
        · cases e; cases e'; rfl
        · cases e; exact absurd (hl _ b) (Nat.lt_irrefl _)
        · cases e'; exact absurd (hl _ a) (Nat.lt_irrefl _)
        · exact hi _ _ _ a b
    · rename_i hk
      rw [if_neg hk] at h2
      exact cells_inj hl hi h1 h2

theorem newEnv_comp {M : Model} {A : Around} {E : Value → Shared → Prop} {s : Shared} {scope : Scope} {globals : Addr} {closure : List (Str × Addr)} {qual : Str} {func : Option Addr} {code : Value} {around : Env} {builtins : Addr} {Q : Env → Shared → Prop}
    (h : Q (newEnv scope s.heap.objs.size globals (cellsFrom (s.heap.objs.size + 1) scope.names closure) qual func code (some around) builtins)
      { s with heap := pushCells (s.heap.push { cls := .type "dict", data := .dict #[] }) scope.names }) :
    wpAny M A (newFunctionEnv scope globals closure [] qual func code (some around) builtins) Q E s := by
  simp only [newFunctionEnv, Option.isSome_some, if_true]
  refine wpAny_bind (wpAny_alloc ?_)
  refine wpAny_bind (wpAny_layCells _ (fun n k c => rfl) scope.names closure _ _ ?_)
  rw [show ({ s with heap := s.heap.push { cls := .type "dict", data := .dict #[] } } : Shared).heap.objs.size = s.heap.objs.size + 1 from Heap.size_push ..]
  rw [List.forIn_nil]
  exact wpAny_bind (wpAny_pure (wpAny_pure h))

theorem lookup_relS {sc : Scope} : ∀ {names : List (Str × NameKind)} {x : Str} {k : NameKind},
    (names.map fun (n, k) => if (k == NameKind.free && sc.kind == .function && sc.names.lookup n == some .cell) then (n, NameKind.cell) else (n, k)).lookup x = some k →
    ∃ k', names.lookup x = some k' ∧ (k = k' ∨ (k' = .free ∧ k = .cell))
  | [], _, _, h => by simp at h
  | (n, k₀) :: r, x, k, h => by
    have ih := @lookup_relS sc r x k
    have h' : List.lookup x ((if (k₀ == NameKind.free && sc.kind == .function && sc.names.lookup n == some .cell) = true then (n, NameKind.cell) else (n, k₀)) :: (r.map _)) = some k := h
    cases hx : x == n with
    | true =>
      simp only [List.lookup_cons, hx]
      by_cases hc : (k₀ == NameKind.free && sc.kind == .function && sc.names.lookup n == some .cell) = true
      · rw [if_pos hc] at h'
        simp only [List.lookup_cons, hx] at h'
        cases h'
        simp only [Bool.and_eq_true, beq_iff_eq] at hc
        exact ⟨k₀, rfl, .inr ⟨hc.1.1, rfl⟩⟩
      · rw [if_neg hc] at h'
        simp only [List.lookup_cons, hx] at h'
        cases h'
        exact ⟨_, rfl, .inl rfl⟩
    | false =>
      simp only [List.lookup_cons, hx]
      by_cases hc : (k₀ == NameKind.free && sc.kind == .function && sc.names.lookup n == some .cell) = true
      · rw [if_pos hc] at h'
        simp only [List.lookup_cons, hx] at h'
        exact ih h'
      · rw [if_neg hc] at h'
        simp only [List.lookup_cons, hx] at h'
        exact ih h'
structure BlkOk (N : List Str) (sc scope : Scope) (own : List (Str × Nat)) : Prop where
  kind : scope.kind = .function
  uniq : ∀ y ∈ scope.names, scope.names.lookup y.1 = some y.2
  ix : ∀ p ∈ own, N[p.2]? = some p.1
  free : ∀ y ∈ scope.names, y.2 = .free → sc.names.lookup y.1 = some .cell ∨ sc.names.lookup y.1 = some .free
  own : ∀ y ∈ scope.names, y.2 = .local ∨ y.2 = .cell → y.1 ∈ own.map (·.1) ∨ y.1 ∉ N
def wipe (σ : St) : List Nat → St
  | [] => σ
  | v :: vs => (wipe σ vs).set v none
theorem wipe_length (σ : St) : ∀ vs : List Nat, (wipe σ vs).length = σ.length
  | [] => rfl
  | v :: vs => by unfold wipe; rw [List.length_set, wipe_length σ vs]
theorem wipe_some {σ : St} {i : Nat} {x : V} : ∀ {vs : List Nat}, (wipe σ vs)[i]? = some (some x) → σ[i]? = some (some x) ∧ i ∉ vs
  | [], h => ⟨h, by simp⟩
  | v :: vs, h => by
    unfold wipe at h
    by_cases hi : v = i
    · subst hi
      by_cases hv : v < (wipe σ vs).length
      · rw [List.getElem?_set_self hv] at h; cases h
      · rw [List.getElem?_eq_none (by simpa using hv)] at h; cases h
    · rw [List.getElem?_set_ne hi] at h
      obtain ⟨h1, h2⟩ := wipe_some h
      exact ⟨h1, by simp only [List.mem_cons, not_or]; exact ⟨fun e => hi e.symm, h2⟩⟩

abbrev Cx.blk (X : Cx) (s : Shared) (H : Hp) (scope : Scope) (cenv : Env) (fp : List Addr) : Cx := { X with s_0 := s, H_0 := H, env := cenv, outer := X.stack, ex := fp, fn := fun x => scope.names.lookup x == some .cell, pn := [], xe := fun _ _ => False }
section
variable {X : Cx} {pins : List (Addr × Obj)} {σ : St} {H : Hp} {s : Shared}
theorem block_start {scope : Scope} {own : List (Str × Nat)} {fp : List Addr} (I : Inv X pins σ H s) (ok : BlkOk X.N X.env.scope scope own) (hN : X.N.Nodup) (hfp : ∀ b ∈ fp, FpOk X pins H b ∧ b < s.heap.objs.size) :
    Inv (X.blk s H scope (compEnvC scope (cellsFrom (s.heap.objs.size + 1) scope.names (cloFrom X.env.cells scope.names [])) s.heap.objs.size X.env) fp) [] (wipe σ (own.map (·.2))) H { s with heap := pushCells (s.heap.push { cls := .type "dict", data := .dict #[] }) scope.names } := by
  have hfree : ∀ y ∈ scope.names, y.2 = .free → ∃ c, X.env.cells.lookup y.1 = some c := fun y hy e => by
    rcases ok.free y hy e with k | k
    · exact I.ok.has _ (.inl k)
    · exact I.ok.has _ (.inr k)
  generalize hcenv : compEnvC scope (cellsFrom (s.heap.objs.size + 1) scope.names (cloFrom X.env.cells scope.names [])) s.heap.objs.size X.env = cenv
  have kp : ∀ b o, s.heap.get? b = some o → (pushCells (s.heap.push { cls := .type "dict", data := .dict #[] }) scope.names).get? b = some o := fun b o e => pushCells_keeps _ _ _ _ (Heap.get?_push_of_some _ e)
  have hL : cenv.locals = s.heap.objs.size := by rw [← hcenv]; rfl
  have hcl : cenv.cells = cellsFrom (s.heap.objs.size + 1) scope.names (cloFrom X.env.cells scope.names []) := by rw [← hcenv]; rfl
  have hsc : cenv.scope = relS scope X.env.scope := by rw [← hcenv]; rfl
  rw [← Heap.size_push s.heap { cls := .type "dict", data := .dict #[] }] at hcl
  have cm : ∀ {y c}, (y, c) ∈ cloFrom X.env.cells scope.names [] → X.env.cells.lookup y = some c ∧ c < s.heap.objs.size := fun {y c} hm => by
    rcases cloFrom_mem hm with hm | ⟨h1, rfl⟩
    · cases hm
    · obtain ⟨c, hc⟩ := hfree _ h1 rfl
      rw [hc]
      obtain ⟨w, z⟩ := I.cell _ _ hc
      exact ⟨rfl, z.lt⟩
  have mem : ∀ {y c}, cenv.cells.lookup y = some c → (X.env.cells.lookup y = some c ∧ c < s.heap.objs.size) ∨ (s.heap.objs.size + 1 ≤ c ∧ CellAt (pushCells (s.heap.push { cls := .type "dict", data := .dict #[] }) scope.names) c none) := fun {y c} e => by
    rw [hcl] at e
    rcases cells_mem (PySem.mem_of_lookup e) with hm | ⟨_, h2, h3⟩
    · exact .inl (cm hm)
    · rw [Heap.size_push] at h2; exact .inr ⟨h2, h3⟩
  have look : ∀ {y}, scope.names.lookup y = some .free → ∃ c, cenv.cells.lookup y = some c ∧ X.env.cells.lookup y = some c := fun {y} hl => by
    have hy : (y, NameKind.free) ∈ scope.names := PySem.mem_of_lookup hl
    obtain ⟨c', e'⟩ := mem_lookup (cells_acc (names := scope.names) (n := (s.heap.push { cls := .type "dict", data := .dict #[] }).objs.size) (cloFrom_has (cells := X.env.cells) (acc := []) hy))
    rw [← hcl] at e'
    refine ⟨c', e', ?_⟩
    rw [hcl] at e'
    rcases cells_mem (PySem.mem_of_lookup e') with hm | ⟨h1, _, _⟩
    · exact (cm hm).1
    · have := ok.uniq _ h1
      rw [hl] at this; cases this
  have okB : (X.blk s H scope cenv fp).Ok := by
    refine ⟨I.ok.mod, by show cenv.scope.kind = _; rw [hsc]; exact ok.kind, by show cenv.globals = _; rw [← hcenv]; exact I.ok.glob, by show cenv.builtins = _; rw [← hcenv]; exact I.ok.blt, by show s.heap.objs.size ≤ cenv.locals; rw [hL]; exact Nat.le_refl _,
      fun y z c e1 e2 => ?_, fun y hy => ?_, fun y c z e => ?_, I.ok.hd, I.ok.frames, .inl rfl, fun b hb => ⟨?_, fun y c e z => ?_⟩, I.bs, Nat.le_trans I.ok.bsz I.sz, fun b o e hb => ?_, fun b hb z => ?_, I.stack, I.stkFree⟩
    · have e1 : cenv.cells.lookup y = some c := e1
      have e2 : cenv.cells.lookup z = some c := e2
      rw [hcl] at e1 e2
      refine cells_inj (fun p hp => ?_) (fun y z c a b => I.ok.inj y z c (cm a).1 (cm b).1) (PySem.mem_of_lookup e1) (PySem.mem_of_lookup e2)
      rw [Heap.size_push]
      exact Nat.lt_succ_of_lt (cm (y := p.1) (c := p.2) hp).2
    · show ∃ c, cenv.cells.lookup y = some c
      have key : ∀ k, cenv.kindOf y = some k → (k = .cell ∨ k = .free) → ∃ c, cenv.cells.lookup y = some c := fun k hk hk' => by
        unfold Env.kindOf at hk
        rw [hsc] at hk
        obtain ⟨k', e, r⟩ := lookup_relS hk
        have : k' = .cell ∨ k' = .free := by
          rcases r with rfl | ⟨rfl, _⟩
          · exact hk'
          · exact .inr rfl
        rcases this with rfl | rfl
        · obtain ⟨c, hm⟩ := cells_has (n := (s.heap.push { cls := .type "dict", data := .dict #[] }).objs.size) (acc := cloFrom X.env.cells scope.names []) (PySem.mem_of_lookup e)
          obtain ⟨c', e'⟩ := mem_lookup hm
          exact ⟨c', by rw [hcl]; exact e'⟩
        · obtain ⟨c, h1, _⟩ := look e
          exact ⟨c, h1⟩
      rcases hy with hy | hy
      · exact key _ hy (.inl rfl)
      · exact key _ hy (.inr rfl)
    · have z : (scope.names.lookup y == some NameKind.cell) = true := z
      have z : scope.names.lookup y = some .cell := by simpa using z
      have e : cenv.cells.lookup y = some c := e
      rw [hcl] at e
      rcases cells_mem (PySem.mem_of_lookup e) with hm | ⟨_, h2, _⟩
      · rcases cloFrom_mem hm with hm | ⟨h1, _⟩
        · cases hm
        · have q := ok.uniq _ h1
          rw [z] at q; cases q
      · rw [Heap.size_push] at h2
        exact Nat.le_of_succ_le h2
    · show b ≠ cenv.locals
      rw [hL]; exact Nat.ne_of_lt (hfp b hb).2
    · have e : cenv.cells.lookup y = some c := e
      rcases mem e with ⟨h1, _⟩ | ⟨h1, _⟩
      · exact (hfp b hb).1.2.2.2.2.1 y c h1 z
      · have h2 : s.heap.objs.size + 1 ≤ b := by rw [← z]; exact h1
        exact absurd (Nat.lt_of_lt_of_le (hfp b hb).2 (Nat.le_of_succ_le h2)) (Nat.lt_irrefl _)
    · rcases (hfp b hb).1.2.2.2.1 with z | z
      · exact I.ok.noex b o e z
      · exact absurd (Nat.lt_of_lt_of_le (Heap.lt_size e) (Nat.le_trans I.ok.bsz z)) (Nat.lt_irrefl _)
    · rcases List.mem_cons.mp (I.stkSub b z) with z | z
      · exact (hfp b hb).1.2.1 z
      · exact (hfp b hb).1.2.2.1 z
  refine ⟨okB, rfl, I.bare, Un.kept kp, ⟨fun _ => none, ?_, fun i y av e1 e2 e3 => ?_⟩, fun y c e => ?_, ?_, fun y c e => ?_, fun p hp => ?_, I.hok.kept kp, by rw [wipe_length]; exact I.len⟩
  · show Heap.Ns _ cenv.locals _
    rw [hL]
    exact Heap.Ns.keeps (Heap.Ns.new ..) fun b o e => pushCells_keeps _ _ _ _ e
  · obtain ⟨e2, hne⟩ := wipe_some e2
    have hfr : scope.names.lookup y = some .free ∧ (cenv.kindOf y = some .cell ∨ cenv.kindOf y = some .free) := by
      have key : ∀ k, cenv.scope.names.lookup y = some k → k = .local ∨ k = .cell ∨ k = .free → scope.names.lookup y = some .free ∧ (cenv.kindOf y = some .cell ∨ cenv.kindOf y = some .free) := fun k hk hk' => by
        have hk0 := hk
        rw [hsc] at hk
        obtain ⟨k', e, r⟩ := lookup_relS hk
        have no : ¬ (k' = .local ∨ k' = .cell) := fun hh => by
          rcases ok.own _ (PySem.mem_of_lookup e) hh with e' | e'
          · obtain ⟨p, hp, hpy⟩ := List.mem_map.mp e'
            have e3 := ok.ix p hp
            have : p.1 = y := hpy
            rw [this] at e3
            exact hne (List.mem_map.mpr ⟨p, hp, nodup_ix hN e3 e1⟩)
          · exact e' (List.mem_of_getElem? e1)
        rcases r with rfl | ⟨rfl, rfl⟩
        · rcases hk' with rfl | rfl | rfl
          · exact absurd (.inl rfl) no
          · exact absurd (.inr rfl) no
          · exact ⟨e, .inr hk0⟩
        · exact ⟨e, .inl hk0⟩
      have e3 : Vis cenv.scope y := e3
      rcases e3 with e3 | e3 | e3
      · exact key _ e3 (.inl rfl)
      · exact key _ e3 (.inr (.inl rfl))
      · exact key _ e3 (.inr (.inr rfl))
    obtain ⟨m, hn, hl⟩ := I.loc
    have hvis : Vis X.env.scope y := (ok.free _ (PySem.mem_of_lookup hfr.1) rfl).elim (fun k => .inr (.inl k)) (fun k => .inr (.inr k))
    obtain ⟨w, r, q⟩ := hl i y av e1 e2 hvis
    refine ⟨w, r, .inr ⟨hfr.2, ?_⟩⟩
    obtain ⟨c, h1, h2⟩ := look hfr.1
    rcases q with ⟨k, _⟩ | ⟨_, c', e', z⟩
    · have k : X.env.scope.names.lookup y = some .local := k
      rcases ok.free _ (PySem.mem_of_lookup hfr.1) rfl with k' | k' <;> rw [show X.env.scope.names.lookup y = _ from k'] at k <;> cases k
    · rw [h2] at e'; cases e'
      exact ⟨c, h1, z.keeps kp⟩
  · have e : cenv.cells.lookup y = some c := e
    rcases mem e with ⟨h1, _⟩ | ⟨_, z⟩
    · obtain ⟨w, z⟩ := I.cell y c h1
      exact ⟨w, z.keeps kp⟩
    · exact ⟨_, z⟩
  · show H cenv.locals = none
    rw [hL]; exact I.hok.fresh (Nat.le_refl _)
  · have e : cenv.cells.lookup y = some c := e
    rcases mem e with ⟨h1, _⟩ | ⟨h1, _⟩
    · exact I.freeC y c h1
    · exact I.hok.fresh (Nat.le_of_succ_le h1)
  · exact absurd (show p ∈ ([] : List (Addr × Obj)) ++ [] from hp) (by simp)

theorem app_ok {E : Value → Shared → Prop} {D : Addr} {xs : List V} {y : V} {v : Value} {Q : Value → Shared → Prop} (I : Inv X pins σ H s) (hD : H D = some (.lst xs)) (hz : xs.length < sizeLine) (r : RelV y v)
    (h : ∀ s', Inv X pins σ (upd H D (.lst (xs ++ [y]))) s' → Q .none s') : wpAny (model X.prog X.w) X.A (call (.builtin "list.append") [.ref D, v]) Q E s := by
  obtain ⟨hz', its, n, ri, e⟩ := I.hok D _ hD
  have hl := ri.length
  refine append_at (hsz := by rw [List.size_toArray]; omega) e fun h' sb ho' => ?_
  refine h { s with heap := h' } (I.write (t' := s.toks) (by rw [hD]; trivial) (.inl rfl) (fun b u hb q => (sb.2 b hb).trans q) ⟨_, ho'⟩ ⟨by rw [List.length_append]; exact hz, its ++ [v], n + 1, ri.append (.cons r .nil), ?_⟩)
  rw [ho']
  simp

def PTs (X : Cx) (ifs : List Expr) (t : TT) : Prop :=
  ∀ (pins : List (Addr × Obj)) (s : Shared) (σ : St) (H : Hp) (Q : Bool → Hp → Prop), Inv X pins σ H s → t σ H Q →
    wpAny (model X.prog X.w) X.A (forIn ifs true fun c r => if r = true then do let ok ← isTrue c X.env (eval c X.env); pure (ForInStep.yield ok) else pure (ForInStep.yield r)) (TP X pins σ Q) X.xe s
def tYes : TT := fun _ H Q => Q true H
theorem pts_nil : PTs X [] tYes := fun _ _ _ H _ I h => wpAny_tests_nil ⟨H, I, h⟩
theorem pts_one {c : Expr} {t : TT} (h : PT X c t) : PTs X [c] t := fun pins s σ H Q I hw => wpAny_tests_one (h pins s σ H Q I hw)
end

theorem thnF {α : Type} {t : Sem α} {Q Q' : α → Shared → Prop} {M : Model} {A : Around} {E : Value → Shared → Prop} {s : Shared} (h : wpAny M A t Q (fun _ _ => False) s) (hQ : ∀ a s, Q a s → Q' a s) : wpAny M A t Q' E s := wpAny_mono h hQ fun _ _ z => False.elim z

theorem compLoop_any {prog : Program} {w : World} {A : Around} {R : Result → Shared → Prop} {s : Shared} {elt target iter : Expr} {ifs : List Expr} {scope : Scope} {pos : Pos} {it acc : Value} {env : Env} (I : Nat → Shared → Prop)
    (turn : ∀ n s, I n s → wpAny (model prog w) A (pyNext it) (fun r s₁ => match r with
      | none => R (.ok .next) s₁
      | some v => wpAny (model prog w) A (letOwnedTupleGo target it v) (fun _ s₁' => wpAny (model prog w) A (assign target env v) (fun _ s₂ =>
          wpAny (model prog w) A (forIn ifs true fun c r => if r = true then do let ok ← isTrue c env (eval c env); pure (ForInStep.yield ok) else pure (ForInStep.yield r)) (fun ok s₃ =>
            if ok = true then wpAny (model prog w) A (eval elt env) (fun x s₄ =>
              wpAny (model prog w) A (call (.builtin "list.append") [acc, x]) (fun _ s₅ => ∃ m, m < n ∧ I m s₅) (notedBy (model prog w) A env fun e s' => R (.error e) s') s₄) (notedBy (model prog w) A env fun e s' => R (.error e) s') s₃
            else ∃ m, m < n ∧ I m s₃) (notedBy (model prog w) A env fun e s' => R (.error e) s') s₂) (notedBy (model prog w) A env fun e s' => R (.error e) s') s₁') (notedBy (model prog w) A env fun e s' => R (.error e) s') s₁) (notedBy (model prog w) A env fun e s' => R (.error e) s') s)
    (n : Nat) (h : I n s) :
    codeAny (model prog w) A (.compLoop (.ListComp elt [⟨target, iter, ifs, 0⟩] scope pos) 0 it acc env) R s := by
  refine codeAny_loop rfl I (fun n s hI => ?_) n h
  show wpAny _ A ((compTurn (.ListComp elt [⟨target, iter, ifs, 0⟩] scope pos) 0 it acc env).onRaise (fun x => do noteFrame x env; theTreesLotGoes x)) _ _ s
  refine wpAny_noted ?_
  rw [compTurn_list]
  refine wpAny_bind (wpAny_standAt (wpAny_bind (wpAny_mono (turn n s hI) (fun r s₁ h₁ => ?_) fun _ _ h' => h')))
  cases r with
  | none => exact wpAny_pure h₁
  | some v =>
    refine wpAny_bind (wpAny_mono h₁ (fun _ s₁' h₁' => ?_) fun _ _ h' => h')
    refine wpAny_bind (wpAny_mono h₁' (fun _ s₂ h₂ => wpAny_bind (wpAny_mono h₂ (fun ok s₃ h₃ => ?_) fun _ _ h' => h')) fun _ _ h' => h')
    cases ok with
    | false => exact wpAny_pure ⟨rfl, h₃⟩
    | true =>
      exact wpAny_bind (wpAny_bind (wpAny_mono h₃ (fun x s₄ h₄ => wpAny_bind (wpAny_mono h₄ (fun _ s₅ h₅ => wpAny_pure (wpAny_pure ⟨rfl, h₅⟩)) fun _ _ h' => h')) fun _ _ h' => h'))

section
variable {X : Cx}
def tLc (wi : TI) (g : TG) (tt : TT) (te : TE) (vs : List Nat) : TE := fun σ H Q => wi σ H fun J H1 => ∀ D, H1 D = none → ∃ W : Nat → Nat → Hp → Prop, (∃ m, W 0 m (upd H1 D (.lst []))) ∧ ∀ i m H, W i m H →
  (J.stop i H ∧ Q (.ref D) H) ∨ (J.go i H ∧ ∃ Nx : Hp → Prop, (∀ H', Nx H' → ∃ m', m' < m ∧ W (i + 1) m' H') ∧ ∀ x H', J.yld i H x H' → g x (wipe σ vs) H' fun σ2 H2 => wipe σ2 vs = wipe σ vs ∧ tt σ2 H2 fun b H3 =>
    if b = true then te σ2 H3 fun y H4 => ∃ acc, H4 D = some (.lst acc) ∧ acc.length < sizeLine ∧ Nx (upd H4 D (.lst (acc ++ [y]))) else Nx H3)
theorem lc_core {pins : List (Addr × Obj)} {s : Shared} {σ : St} {H : Hp} {Q : VK} {elt tg iter : Expr} {ifs : List Expr} {scope : Scope} {own : List (Str × Nat)} {pos pos' : Pos} {wi : TI} {g : TG} {tt : TT} {te : TE} {use : Option (Value → Sem Unit)} {Qf : Value → Shared → Prop}
    (hc : X.calm = true) (hN : X.N.Nodup) (I : Inv X pins σ H s) (hi : PI X tg iter wi) (ok : BlkOk X.N X.env.scope scope own)
    (hg : ∀ (s : Shared) (H : Hp) (C : Addr) (cl : List (Str × Addr)) (fp : List Addr), PG (X.blk s H scope (compEnvC scope cl C X.env) fp) tg g) (ht : ∀ (s : Shared) (H : Hp) (C : Addr) (cl : List (Str × Addr)) (fp : List Addr), PTs (X.blk s H scope (compEnvC scope cl C X.env) fp) ifs tt)
    (he : ∀ (s : Shared) (H : Hp) (C : Addr) (cl : List (Str × Addr)) (fp : List Addr), PE (X.blk s H scope (compEnvC scope cl C X.env) fp) elt te) (hs : ∀ x, foldedSetIterable iter X.env x = pure x)
    (h : tLc wi g tt te (own.map (·.2)) σ H Q)
    (hRR : ∀ D C s' m H', Inv X pins σ H' s' → Q (.ref D) H' → s'.heap.Ns C m → FpOk X pins H' C → compPost (model X.prog X.w) X.A X.xe use Qf (.ref D) C (.ok .next) s') :
    wpAny (model X.prog X.w) X.A (comprehension (.ListComp elt [⟨tg, iter, ifs, 0⟩] scope pos) scope X.env pos' (newList []) false (eval iter X.env) use) Qf X.xe s := by
  have hfree : ∀ y ∈ scope.names, y.2 = .free → ∃ c, X.env.cells.lookup y.1 = some c := fun y hy e => by
    rcases ok.free y hy e with k | k
    · exact I.ok.has _ (.inl k)
    · exact I.ok.has _ (.inr k)
  refine wpAny_comprehension_free (use := use) rfl hs (closure_ok hfree) ok.kind (fun y hy e => by rw [ok.uniq y hy, e])
    (thn (hi pins s σ H _ I h) fun xv s1 hx => thn hx fun itv s2 h2 => ?_)
  obtain ⟨it, fp, tn, J, H2, e, I2, T, st2, f2, q⟩ := h2
  subst e
  refine wpAny_newObj_type (newEnv_comp ?_) (by show 0 ≤ sizeLine; decide)
  generalize hD : s2.heap.objs.size = D
  have hDn : H2 D = none := I2.hok.fresh (Nat.le_of_eq hD)
  obtain ⟨W, ⟨m0, w0⟩, turn⟩ := q D hDn
  -- the new list
  generalize hs3 : ({ s2 with heap := s2.heap.push { cls := .type "list", data := .seq ([] : List Value).toArray } } : Shared) = s3
  have I3 : Inv X pins σ (upd H2 D (.lst [])) s3 := by
    rw [← hs3]
    refine I2.laid (t' := s2.toks) (fun b o e => Heap.get?_push_of_some _ e) (Nat.le_of_eq hD) ⟨Nat.zero_le _, [], 0, .nil, ?_⟩
    rw [← hD]
    exact Heap.get?_push_size _ rfl
  have h3 : s3.heap = s2.heap.push { cls := .type "list", data := .seq ([] : List Value).toArray } := by rw [← hs3]
  have sz : ∀ b ∈ fp, b < s2.heap.objs.size := fun b hb => by
    obtain ⟨o, e, _⟩ := T.obj _ _ st2 b hb
    exact Heap.lt_size e
  have f3 : ∀ b ∈ fp, FpOk X pins (upd H2 D (.lst [])) b ∧ b < s3.heap.objs.size := fun b hb => by
    have hlt := sz b hb
    refine ⟨⟨?_, (f2 b hb).2⟩, by rw [h3, Heap.size_push]; exact Nat.lt_succ_of_lt hlt⟩
    rw [upd_ne (by rw [← hD]; exact Nat.ne_of_lt hlt)]
    exact (f2 b hb).1
  have st3 : tn 0 s3.heap := T.keep _ _ _ st2 fun b _ o e => by rw [h3]; exact Heap.get?_push_of_some _ e
  have I4 := block_start I3 ok hN f3
  have pg := hg s3 (upd H2 D (.lst [])) s3.heap.objs.size (cellsFrom (s3.heap.objs.size + 1) scope.names (cloFrom X.env.cells scope.names [])) fp
  have pt := ht s3 (upd H2 D (.lst [])) s3.heap.objs.size (cellsFrom (s3.heap.objs.size + 1) scope.names (cloFrom X.env.cells scope.names [])) fp
  have pe := he s3 (upd H2 D (.lst [])) s3.heap.objs.size (cellsFrom (s3.heap.objs.size + 1) scope.names (cloFrom X.env.cells scope.names [])) fp
  show codeAny _ _ (.compStart (.ListComp elt [⟨tg, iter, ifs, 0⟩] scope pos) 0 (.ref it) (.ref D) (compEnvC scope (cellsFrom (s3.heap.objs.size + 1) scope.names (cloFrom X.env.cells scope.names [])) s3.heap.objs.size X.env)) (compPost (model X.prog X.w) X.A X.xe use Qf (.ref D) s3.heap.objs.size) { s3 with heap := pushCells (s3.heap.push { cls := .type "dict", data := .dict #[] }) scope.names }
  have nfp : ∀ b ∈ fp, (upd H2 D (.lst [])) b = none := fun b hb => (f3 b hb).1.1
  generalize hce : compEnvC scope (cellsFrom (s3.heap.objs.size + 1) scope.names (cloFrom X.env.cells scope.names [])) s3.heap.objs.size X.env = ce at I4 pg pt pe ⊢
  have cL : ce.locals = s3.heap.objs.size := by subst hce; rfl
  generalize hH3 : upd H2 D (.lst []) = H3 at I3 I4 pg pt pe w0 nfp f3
  generalize hs4 : ({ s3 with heap := pushCells (s3.heap.push { cls := .type "dict", data := .dict #[] }) scope.names } : Shared) = s4 at I4 ⊢
  have st4 : tn 0 s4.heap := T.keep _ _ _ st3 fun b _ o e => by rw [← hs4]; exact pushCells_keeps _ _ _ _ (Heap.get?_push_of_some _ e)
  have stat : ∀ {σ' : St} {H' : Hp} {s' : Shared}, Inv (X.blk s3 H3 scope ce fp) [] σ' H' s' → (∀ b ∈ fp, H' b = none) → ∀ b ∈ fp, FpOk (X.blk s3 H3 scope ce fp) [] H' b := fun {σ' H' s'} I' hn b hb =>
    ⟨hn b hb, (I'.ok.exf b hb).1, I'.ok.exfs b hb, .inl hb, fun x c e => (I'.ok.exf b hb).2 x c e, fun p hp => absurd (show p ∈ ([] : List (Addr × Obj)) ++ [] from hp) (by simp)⟩
  have loop : codeAny (model X.prog X.w) X.A (.compLoop (.ListComp elt [⟨tg, iter, ifs, 0⟩] scope pos) 0 (.ref it) (.ref D) ce) (compPost (model X.prog X.w) X.A X.xe use Qf (.ref D) s3.heap.objs.size) s4 := by
    refine compLoop_any (fun n s' => ∃ i H', Inv (X.blk s3 H3 scope ce fp) [] (wipe σ (own.map (·.2))) H' s' ∧ tn i s'.heap ∧ (∀ b ∈ fp, H' b = none) ∧ W i n H') ?_ m0 ⟨0, H3, I4, st4, nfp, w0⟩
    rintro n s5 ⟨i, H5, I5, st5, n5, w5⟩
    rcases turn i n H5 w5 with ⟨stop, qq⟩ | ⟨go, Nx, hNx, step⟩
    · have td := T.done (X.blk s3 H3 scope ce fp) rfl rfl rfl hc i [] s5 _ H5 (fun _ _ => False) I5 (stat I5 n5) st5 stop
      refine thnF td fun r s6 ⟨hr, I6⟩ => ?_
      subst hr
      -- back in the def's context
      have I7 : Inv X pins σ H5 s6 := I3.call' (ch := fp) I6.os I6.base I6.hok I6.bare fun b hb => ⟨(f3 b hb).1.2.2.2.1, (f3 b hb).1.2.1, (f3 b hb).1.2.2.2.2.1, (f3 b hb).1.2.2.2.2.2⟩
      have nC : H5 s3.heap.objs.size = none := by
        have z : H5 ce.locals = none := I6.free
        rw [cL] at z
        exact z
      obtain ⟨m, hn, _⟩ := I6.loc
      have hn : s6.heap.Ns ce.locals m := hn
      rw [cL] at hn
      exact hRR D s3.heap.objs.size s6 m H5 I7 qq hn (I3.fpOk (Nat.le_refl _) nC)
    · have ti := T.item (X.blk s3 H3 scope ce fp) rfl rfl rfl hc i [] s5 _ H5 (fun _ _ => False) I5 (stat I5 n5) st5 go
      refine thnF ti fun r s6 ⟨u, hr, h6⟩ => ?_
      subst hr
      refine thnF h6 fun _ s7 ⟨x, H7, I7, r7, y7, st7, n7⟩ => ?_
      have I7' := I7.pinned (stat I7 n7) (T.obj _ _ st7)
      refine thnF (pg _ s7 _ H7 x u _ I7' r7 (step x H7 y7)) fun _ s8 ⟨σ8, H8, I8, hw8, q8⟩ => ?_
      refine thnF (pt _ s8 σ8 H8 _ I8 q8) fun b s9 ⟨H9, I9, q9⟩ => ?_
      -- the turn's end
      have fin : ∀ {s' : Shared} {H' : Hp}, Inv (X.blk s3 H3 scope ce fp) ([] ++ pinsAt fp s7.heap) σ8 H' s' → Nx H' → ∃ m, m < n ∧ ∃ i H', Inv (X.blk s3 H3 scope ce fp) [] (wipe σ (own.map (·.2))) H' s' ∧ tn i s'.heap ∧ (∀ b ∈ fp, H' b = none) ∧ W i m H' := fun {s' H'} I' nx => by
        obtain ⟨m', hm, w'⟩ := hNx H' nx
        have pin' : ∀ b ∈ fp, ∀ o, s7.heap.get? b = some o → s'.heap.get? b = some o ∧ H' b = none := fun b hb o e =>
          let z := I'.pin (b, o) (List.mem_append_right _ (List.mem_append_right _ (mem_pinsAt hb e)))
          ⟨z.1, z.2.1⟩
        have hl : (wipe σ (own.map (·.2))).length = σ8.length := by rw [← hw8, wipe_length]
        refine ⟨m', hm, i + 1, H', (I'.unpinned (pins := [])).weak hl (fun j v e => ?_), T.keep _ _ _ st7 fun b hb o e => (pin' b hb o e).1, fun b hb => ?_, w'⟩
        · rw [← hw8] at e
          exact (wipe_some e).1
        · obtain ⟨o, e, _⟩ := T.obj _ _ st7 b hb
          exact (pin' b hb o e).2
      cases b with
      | false =>
        simp only [Bool.false_eq_true, if_false] at q9 ⊢
        exact fin I9 q9
      | true =>
        simp only [if_true] at q9 ⊢
        refine thnF (pe _ s9 σ8 H9 _ I9 q9) fun z s10 ⟨yv, H10, I10, r10, acc, hD10, hz10, nx⟩ => ?_
        exact app_ok (X := X.blk s3 H3 scope ce fp) I10 hD10 hz10 r10 fun s11 I11 => fin I11 nx
  exact codeAny_compStart_list loop (T.self X.A 0 _ _ _ st4 loop)
theorem pe_lc {elt tg iter : Expr} {ifs : List Expr} {scope : Scope} {own : List (Str × Nat)} {pos : Pos} {wi : TI} {g : TG} {tt : TT} {te : TE} (hc : X.calm = true) (hN : X.N.Nodup) (hi : PI X tg iter wi) (ok : BlkOk X.N X.env.scope scope own)
    (hg : ∀ (s : Shared) (H : Hp) (C : Addr) (cl : List (Str × Addr)) (fp : List Addr), PG (X.blk s H scope (compEnvC scope cl C X.env) fp) tg g) (ht : ∀ (s : Shared) (H : Hp) (C : Addr) (cl : List (Str × Addr)) (fp : List Addr), PTs (X.blk s H scope (compEnvC scope cl C X.env) fp) ifs tt)
    (he : ∀ (s : Shared) (H : Hp) (C : Addr) (cl : List (Str × Addr)) (fp : List Addr), PE (X.blk s H scope (compEnvC scope cl C X.env) fp) elt te) (hs : ∀ x, foldedSetIterable iter X.env x = pure x := by intro _; rfl) :
    PE X (.ListComp elt [⟨tg, iter, ifs, 0⟩] scope pos) (tLc wi g tt te (own.map (·.2))) := by
  intro pins s σ H Q I h
  rw [eval_ListComp]
  refine lc_core hc hN I hi ok hg ht he hs h fun D C s' m H' I' q hn f => ⟨m, hn, fun h'' sb => ?_⟩
  obtain ⟨f0, f1, f2, f3, f4, f5⟩ := f
  exact ⟨.ref D, H', I'.turned (t' := s'.toks) (fun b o hb e => (sb.2 b hb).trans e) f0 f1 f3 f4 f5, rfl, q⟩
theorem ps_setLc {i : Nat} {y : Str} {py : Pos} {elt tg iter : Expr} {ifs : List Expr} {scope : Scope} {own : List (Str × Nat)} {pos spos : Pos} {wi : TI} {g : TG} {tt : TT} {te : TE} (hc : X.calm = true) (hN : X.N.Nodup) (hy : X.N[i]? = some y) (hyl : X.env.scope.names.lookup y = some .local)
    (hsw : swapsWith (.ListComp elt [⟨tg, iter, ifs, 0⟩] scope pos) (some (.Name y py)) spos.line X.env = pure true) (hi : PI X tg iter wi) (ok : BlkOk X.N X.env.scope scope own)
    (hg : ∀ (s : Shared) (H : Hp) (C : Addr) (cl : List (Str × Addr)) (fp : List Addr), PG (X.blk s H scope (compEnvC scope cl C X.env) fp) tg g) (ht : ∀ (s : Shared) (H : Hp) (C : Addr) (cl : List (Str × Addr)) (fp : List Addr), PTs (X.blk s H scope (compEnvC scope cl C X.env) fp) ifs tt)
    (he : ∀ (s : Shared) (H : Hp) (C : Addr) (cl : List (Str × Addr)) (fp : List Addr), PE (X.blk s H scope (compEnvC scope cl C X.env) fp) elt te) (hs : ∀ x, foldedSetIterable iter X.env x = pure x := by intro _; rfl) :
    PS X (.Assign [.Name y py] (.ListComp elt [⟨tg, iter, ifs, 0⟩] scope pos) spos) (tAsg (tLc wi g tt te (own.map (·.2))) (gName i)) := by
  intro pins s σ H D I h
  rw [exec_Assign_Name_used _ _ _ _ hsw]
  refine wpAny_bind (wpAny_standAt (wpAny_bind ?_))
  show wpAny _ X.A (do let _ ← comprehension (.ListComp elt [⟨tg, iter, ifs, 0⟩] scope pos) scope X.env (firstIterPos [⟨tg, iter, ifs, 0⟩] pos) (newList []) false (eval iter X.env) (some (assign (.Name y py) X.env))) _ _ s
  have h : tLc wi g tt te (own.map (·.2)) σ H (fun x H1 => gName i x σ H1 D.nx) := h
  refine wpAny_bind (thn (lc_core (Qf := fun _ s' => SP X pins D .next s') hc hN I hi ok hg ht he hs h fun L C s' m H' I' q hn f => ?_) fun _ s' hq => wpAny_pure (wpAny_pure hq))
  show wpAny _ _ (assign (.Name y py) X.env (.ref L)) _ _ _
  refine wpAny_assign_Name (store_ok2 (v := V.ref L) I' hN hy (.inl hyl) rfl (fun s2 I2 ⟨a, sb, ha⟩ => ?_) (.inr hyl))
  obtain ⟨f0, f1, f2, f3, f4, f5⟩ := f
  have haC : C ≠ a := by
    rcases ha with z | z
    · rw [z]; exact f1
    · exact fun e => f4 y a z e.symm
  refine ⟨m, hn.sameBut sb haC, fun h3 sb3 => ?_⟩
  exact ⟨_, H', I2.turned (t' := s2.toks) (fun b o hb e => (sb3.2 b hb).trans e) f0 f1 f3 f4 f5, q⟩
theorem sw_true {elt : Expr} {gs : List Comprehension} {scope : Scope} {pos py : Pos} {y : Str} {l : Nat} {env : Env} (hk : env.scope.kind = .function) (hy : env.scope.names.lookup y = some .local) (hl : (py.line == pos.line) = true)
    (ha : (scope.names.any fun (n, k) => n == y && (k == .local || k == .cell)) = false) : swapsWith (.ListComp elt gs scope pos) (some (.Name y py)) l env = pure true := by
  have ky : env.kindOf y = some .local := hy
  have hb : env.blockKind = .function := by unfold Env.blockKind; rw [hk]; rfl
  unfold swapsWith
  simp only [hb, ky, ha, Expr.pos, hl]
  rfl
end

theorem lc_range {lo : Int} {n : Nat} {g : TG} {tt : TT} {te : TE} {vs : List Nat} {σ : St} {H1 : Hp} {D : Addr} {Qd : Hp → Prop} (Pv : Nat → Hp → Prop) (h0 : Pv 0 (upd H1 D (.lst [])))
    (hs : ∀ i H, i < n → Pv i H → g (.int (lo + i)) (wipe σ vs) H fun σ2 H2 => wipe σ2 vs = wipe σ vs ∧ tt σ2 H2 fun b H3 =>
      if b = true then te σ2 H3 fun y H4 => ∃ acc, H4 D = some (.lst acc) ∧ acc.length < sizeLine ∧ Pv (i + 1) (upd H4 D (.lst (acc ++ [y]))) else Pv (i + 1) H3) (hd : ∀ H, Pv n H → Qd H) :
    ∃ W : Nat → Nat → Hp → Prop, (∃ m, W 0 m (upd H1 D (.lst []))) ∧ ∀ i m H, W i m H →
      ((Itr lo n).stop i H ∧ Qd H) ∨ ((Itr lo n).go i H ∧ ∃ Nx : Hp → Prop, (∀ H', Nx H' → ∃ m', m' < m ∧ W (i + 1) m' H') ∧ ∀ x H', (Itr lo n).yld i H x H' → g x (wipe σ vs) H' fun σ2 H2 => wipe σ2 vs = wipe σ vs ∧ tt σ2 H2 fun b H3 =>
        if b = true then te σ2 H3 fun y H4 => ∃ acc, H4 D = some (.lst acc) ∧ acc.length < sizeLine ∧ Nx (upd H4 D (.lst (acc ++ [y]))) else Nx H3) := by
  refine ⟨fun i m H => m = n - i ∧ i ≤ n ∧ Pv i H, ⟨n, by simp, Nat.zero_le _, h0⟩, ?_⟩
  rintro i m H ⟨rfl, hi, p⟩
  by_cases hlt : i < n
  · refine .inr ⟨hlt, Pv (i + 1), fun H' p' => ⟨n - (i + 1), by omega, rfl, hlt, p'⟩, fun x H' y => ?_⟩
    obtain ⟨e, y⟩ := y
    subst e y
    exact hs i _ hlt p
  · have e : i = n := by omega
    subst e
    exact .inl ⟨Nat.le_refl _, hd H p⟩
theorem lc_list {K : PySem.W.Frag} {a : Addr} {xs : List V} {g : TG} {tt : TT} {te : TE} {vs : List Nat} {σ : St} {H1 : Hp} {D : Addr} {Qd : Hp → Prop} (Pv : Nat → Hp → Prop) (h0 : Pv 0 (upd H1 D (.lst []))) (hl : ∀ i H, i ≤ xs.length → Pv i H → SqL K H a xs)
    (hs : ∀ i x H, xs[i]? = some x → Pv i H → g x (wipe σ vs) H fun σ2 H2 => wipe σ2 vs = wipe σ vs ∧ tt σ2 H2 fun b H3 =>
      if b = true then te σ2 H3 fun y H4 => ∃ acc, H4 D = some (.lst acc) ∧ acc.length < sizeLine ∧ Pv (i + 1) (upd H4 D (.lst (acc ++ [y]))) else Pv (i + 1) H3) (hd : ∀ H, Pv xs.length H → Qd H) :
    ∃ W : Nat → Nat → Hp → Prop, (∃ m, W 0 m (upd H1 D (.lst []))) ∧ ∀ i m H, W i m H →
      ((Itl K a).stop i H ∧ Qd H) ∨ ((Itl K a).go i H ∧ ∃ Nx : Hp → Prop, (∀ H', Nx H' → ∃ m', m' < m ∧ W (i + 1) m' H') ∧ ∀ x H', (Itl K a).yld i H x H' → g x (wipe σ vs) H' fun σ2 H2 => wipe σ2 vs = wipe σ vs ∧ tt σ2 H2 fun b H3 =>
        if b = true then te σ2 H3 fun y H4 => ∃ acc, H4 D = some (.lst acc) ∧ acc.length < sizeLine ∧ Nx (upd H4 D (.lst (acc ++ [y]))) else Nx H3) := by
  refine ⟨fun i m H => m = xs.length - i ∧ i ≤ xs.length ∧ Pv i H, ⟨xs.length, by simp, Nat.zero_le _, h0⟩, ?_⟩
  rintro i m H ⟨rfl, hi, p⟩
  have q := hl i H hi p
  by_cases hlt : i < xs.length
  · refine .inr ⟨⟨xs, xs[i], q, by simp [hlt]⟩, Pv (i + 1), fun H' p' => ⟨xs.length - (i + 1), by omega, rfl, hlt, p'⟩, fun x H' y => ?_⟩
    obtain ⟨e, y⟩ := y
    subst e
    exact hs i x _ (y xs q) p
  · have e : i = xs.length := by omega
    subst e
    exact .inl ⟨⟨xs, q, Nat.le_refl _⟩, hd H p⟩
theorem lc_tup {K : PySem.W.Frag} {a : Addr} {xs : List V} {g : TG} {tt : TT} {te : TE} {vs : List Nat} {σ : St} {H1 : Hp} {D : Addr} {Qd : Hp → Prop} (Pv : Nat → Hp → Prop) (h0 : Pv 0 (upd H1 D (.lst []))) (hl : ∀ i H, i ≤ xs.length → Pv i H → SqT K H a xs)
    (hs : ∀ i x H, xs[i]? = some x → Pv i H → g x (wipe σ vs) H fun σ2 H2 => wipe σ2 vs = wipe σ vs ∧ tt σ2 H2 fun b H3 =>
      if b = true then te σ2 H3 fun y H4 => ∃ acc, H4 D = some (.lst acc) ∧ acc.length < sizeLine ∧ Pv (i + 1) (upd H4 D (.lst (acc ++ [y]))) else Pv (i + 1) H3) (hd : ∀ H, Pv xs.length H → Qd H) :
    ∃ W : Nat → Nat → Hp → Prop, (∃ m, W 0 m (upd H1 D (.lst []))) ∧ ∀ i m H, W i m H →
      ((Itt K a).stop i H ∧ Qd H) ∨ ((Itt K a).go i H ∧ ∃ Nx : Hp → Prop, (∀ H', Nx H' → ∃ m', m' < m ∧ W (i + 1) m' H') ∧ ∀ x H', (Itt K a).yld i H x H' → g x (wipe σ vs) H' fun σ2 H2 => wipe σ2 vs = wipe σ vs ∧ tt σ2 H2 fun b H3 =>
        if b = true then te σ2 H3 fun y H4 => ∃ acc, H4 D = some (.lst acc) ∧ acc.length < sizeLine ∧ Nx (upd H4 D (.lst (acc ++ [y]))) else Nx H3) := by
  refine ⟨fun i m H => m = xs.length - i ∧ i ≤ xs.length ∧ Pv i H, ⟨xs.length, by simp, Nat.zero_le _, h0⟩, ?_⟩
  rintro i m H ⟨rfl, hi, p⟩
  have q := hl i H hi p
  by_cases hlt : i < xs.length
  · refine .inr ⟨⟨xs, xs[i], q, by simp [hlt]⟩, Pv (i + 1), fun H' p' => ⟨xs.length - (i + 1), by omega, rfl, hlt, p'⟩, fun x H' y => ?_⟩
    obtain ⟨e, y⟩ := y
    subst e
    exact hs i x _ (y xs q) p
  · have e : i = xs.length := by omega
    subst e
    exact .inl ⟨⟨xs, q, Nat.le_refl _⟩, hd H p⟩
def blkC (N : List Str) (sc scope : Scope) (own : List (Str × Nat)) : Bool :=
  (match scope.kind with | .function => true | _ => false) && (scope.names.all fun y => decide (scope.names.lookup y.1 = some y.2)) && (own.all fun p => decide (N[p.2]? = some p.1)) &&
    (scope.names.all fun y => match y.2 with
      | .free => (match sc.names.lookup y.1 with | some .cell => true | some .free => true | _ => false)
      | .local => decide (y.1 ∈ own.map (·.1)) || decide (y.1 ∉ N)
      | .cell => decide (y.1 ∈ own.map (·.1)) || decide (y.1 ∉ N)
      | _ => true)
theorem blkOk_by {N : List Str} {sc scope : Scope} {own : List (Str × Nat)} (h : blkC N sc scope own = true) : BlkOk N sc scope own := by
  unfold blkC at h
  simp only [Bool.and_eq_true, List.all_eq_true, decide_eq_true_eq] at h
  obtain ⟨⟨⟨h1, h2⟩, h3⟩, h4⟩ := h
  refine ⟨?_, h2, h3, fun y hy e => ?_, fun y hy e => ?_⟩
  · split at h1
    · assumption
    · cases h1
  · have q := h4 y hy
    simp only [e] at q
    split at q <;> first | exact .inl (by assumption) | exact .inr (by assumption) | cases q
  · have q := h4 y hy
    rcases e with e | e <;> (simp only [e, Bool.or_eq_true, decide_eq_true_eq] at q; exact q)
end L2

namespace L2
open PySem PySem.Spec PyProof.Rows

section
variable {prog : Program} {w : World} {A : Around} {R : Result → Shared → Prop} {s : Shared} {elt t0 i0 t1 i1 : Expr} {ifs0 ifs1 : List Expr} {scope : Scope} {pos : Pos} {it acc : Value} {env : Env}
end

section
variable {X : Cx}
end
end L2

namespace L2
open PySem PySem.Spec PyProof.Rows

section
variable {κ : Type} [DecidableEq κ]
def valV (kvs : List (κ × V)) (k : κ) : Option V := (kvs.find? fun kv => decide (kv.1 = k)).map (·.2)
def putK (kvs : List (κ × V)) (k : κ) (v : V) : List (κ × V) :=
  if (kvs.any fun kv => decide (kv.1 = k)) = true then kvs.map (fun kv => if kv.1 = k then (kv.1, v) else kv) else kvs ++ [(k, v)]
def dropK (kvs : List (κ × V)) (k : κ) : List (κ × V) := kvs.filter fun kv => decide (kv.1 ≠ k)

theorem valV_nil {k : κ} : valV ([] : List (κ × V)) k = none := rfl
theorem valV_pos {p : κ × V} {r : List (κ × V)} {k : κ} (e : p.1 = k) : valV (p :: r) k = some p.2 := by simp [valV, List.find?_cons, e]
theorem valV_neg {p : κ × V} {r : List (κ × V)} {k : κ} (e : ¬ p.1 = k) : valV (p :: r) k = valV r k := by simp [valV, List.find?_cons, e]
theorem valV_any (k : κ) : ∀ kvs : List (κ × V), (kvs.any fun kv => decide (kv.1 = k)) = (valV kvs k).isSome
  | [] => rfl
  | p :: r => by
    rw [List.any_cons]
    by_cases e : p.1 = k
    · simp only [valV_pos e, decide_eq_true e, Bool.true_or, Option.isSome_some]
    · rw [valV_neg e, decide_eq_false e, Bool.false_or]; exact valV_any k r
theorem valV_map (k j : κ) (y : V) : ∀ kvs : List (κ × V), valV (kvs.map fun kv => if kv.1 = k then (kv.1, y) else kv) j = (valV kvs j).map fun x => if j = k then y else x
  | [] => rfl
  | p :: r => by
    have ih := valV_map k j y r
    rw [List.map_cons]
    by_cases h : p.1 = k
    · rw [if_pos h]
      by_cases e : p.1 = j
      · rw [valV_pos (p := (p.1, y)) e, valV_pos e, Option.map_some, if_pos (e.symm.trans h)]
      · rw [valV_neg (p := (p.1, y)) e, valV_neg e, ih]
    · rw [if_neg h]
      by_cases e : p.1 = j
      · rw [valV_pos (p := p) e, valV_pos e, Option.map_some, if_neg (fun z => h (e.trans z))]
      · rw [valV_neg (p := p) e, valV_neg e, ih]
theorem valV_snoc (k j : κ) (y : V) : ∀ kvs : List (κ × V), valV kvs k = none → valV (kvs ++ [(k, y)]) j = if j = k then some y else valV kvs j
  | [], _ => by
    by_cases e : k = j
    · rw [if_pos e.symm]; exact valV_pos (p := (k, y)) e
    · rw [if_neg (fun z => e z.symm)]; exact valV_neg (p := (k, y)) e
  | p :: r, hn => by
    rw [List.cons_append]
    have hk : ¬ p.1 = k := fun z => by rw [valV_pos z] at hn; cases hn
    rw [valV_neg hk] at hn
    have ih := valV_snoc k j y r hn
    by_cases e : p.1 = j
    · rw [valV_pos e, valV_pos e, if_neg (fun z => hk (e.trans z))]
    · rw [valV_neg e, valV_neg e, ih]
theorem valV_put (kvs : List (κ × V)) (k j : κ) (y : V) : valV (putK kvs k y) j = if j = k then some y else valV kvs j := by
  unfold putK
  by_cases a : (kvs.any fun kv => decide (kv.1 = k)) = true
  · rw [if_pos a, valV_map]
    rw [valV_any] at a
    by_cases e : j = k
    · obtain ⟨x, hx⟩ := Option.isSome_iff_exists.mp a
      rw [if_pos e, e, hx, Option.map_some, if_pos rfl]
    · rw [if_neg e]
      cases valV kvs j with
      | none => rfl
      | some x => rw [Option.map_some, if_neg e]
  · rw [if_neg a]
    refine valV_snoc k j y kvs ?_
    rw [valV_any] at a
    cases q : valV kvs k with
    | none => rfl
    | some x => rw [q] at a; exact (a rfl).elim
theorem length_putK (kvs : List (κ × V)) (k : κ) (v : V) : (putK kvs k v).length ≤ kvs.length + 1 := by
  unfold putK
  split
  · rw [List.length_map]; omega
  · rw [List.length_append, List.length_cons, List.length_nil]; omega
theorem putK_new {kvs : List (κ × V)} {k : κ} (v : V) (h : valV kvs k = none) : putK kvs k v = kvs ++ [(k, v)] := by
  unfold putK
  rw [valV_any, h]
  exact if_neg (by decide)

theorem RelO.isSome_eq {o : Option V} {u : Option Value} (r : RelO o u) : o.isSome = u.isSome := by
  cases o with
  | none => cases u with
    | none => rfl
    | some _ => exact (show False from r).elim
  | some _ => cases u with
    | none => exact (show False from r).elim
    | some _ => rfl
theorem RelO.getD {o : Option V} {u : Option Value} {d : V} {d' : Value} (r : RelO o u) (rd : RelV d d') : RelV (o.getD d) (u.getD d') := by
  cases o with
  | none => cases u with
    | none => exact rd
    | some _ => exact (show False from r).elim
  | some _ => cases u with
    | none => exact (show False from r).elim
    | some _ => exact r

theorem KV.val {kvs : List (κ × V)} {vs : List (κ × Value)} (r : KV kvs vs) (k : κ) : RelO (valV kvs k) (valueAt vs k) := by
  unfold KV at r
  induction r with
  | nil => exact True.intro
  | @cons p q ps qs h t ih =>
    obtain ⟨h1, h2⟩ := h
    by_cases e : p.1 = k
    · have e' : q.1 = k := h1.symm.trans e
      have b : valueAt (q :: qs) k = some q.2 := by simp [valueAt, List.find?_cons, e']
      rw [valV_pos e, b]; exact h2
    · have e' : ¬ q.1 = k := fun z => e (h1.trans z)
      have b : valueAt (q :: qs) k = valueAt qs k := by simp [valueAt, List.find?_cons, e']
      rw [valV_neg e, b]; exact ih
theorem KV.any {kvs : List (κ × V)} {vs : List (κ × Value)} (r : KV kvs vs) (k : κ) : (kvs.any fun kv => decide (kv.1 = k)) = vs.any fun kv => decide (kv.1 = k) := by
  unfold KV at r
  induction r with
  | nil => rfl
  | cons h t ih => rw [List.any_cons, List.any_cons, ih, h.1]
theorem KV.repl {kvs : List (κ × V)} {vs : List (κ × Value)} (r : KV kvs vs) (k : κ) {y : V} {u : Value} (ry : RelV y u) :
    KV (kvs.map fun kv => if kv.1 = k then (kv.1, y) else kv) (vs.map fun kv => if kv.1 = k then (kv.1, u) else kv) := by
  unfold KV at r ⊢
  induction r with
  | nil => exact .nil
  | @cons p q ps qs h t ih =>
    rw [List.map_cons, List.map_cons]
    refine .cons ?_ ih
    obtain ⟨h1, h2⟩ := h
    by_cases e : p.1 = k
    · rw [if_pos e, if_pos (h1.symm.trans e)]; exact ⟨h1, ry⟩
    · rw [if_neg e, if_neg (fun z => e (h1.trans z))]; exact ⟨h1, h2⟩
theorem KV.put {kvs : List (κ × V)} {vs : List (κ × Value)} (r : KV kvs vs) (k : κ) {y : V} {u : Value} (ry : RelV y u) : KV (putK kvs k y) (stored vs k u) := by
  unfold putK stored
  rw [r.any k]
  by_cases e : (vs.any fun kv => decide (kv.1 = k)) = true
  · rw [if_pos e, if_pos e]; exact r.repl k ry
  · rw [if_neg e, if_neg e]; exact Paired.snoc r ⟨rfl, ry⟩
theorem KV.drop {kvs : List (κ × V)} {vs : List (κ × Value)} (r : KV kvs vs) (k : κ) : KV (dropK kvs k) (without vs k) := by
  unfold KV at r ⊢
  unfold dropK without
  induction r with
  | nil => exact .nil
  | @cons p q ps qs h t ih =>
    obtain ⟨h1, h2⟩ := h
    rw [List.filter_cons, List.filter_cons]
    by_cases e : p.1 = k
    · have a : ¬ decide (p.1 ≠ k) = true := by simp [e]
      have b : ¬ decide (q.1 ≠ k) = true := by simp [h1.symm.trans e]
      rw [if_neg a, if_neg b]; exact ih
    · have e' : ¬ q.1 = k := fun z => e (h1.trans z)
      have a : decide (p.1 ≠ k) = true := by simp [e]
      have b : decide (q.1 ≠ k) = true := by simp [e']
      rw [if_pos a, if_pos b]; exact .cons ⟨h1, h2⟩ ih
theorem KV.keys {kvs : List (κ × V)} {vs : List (κ × Value)} (r : KV kvs vs) : kvs.map (·.1) = vs.map (·.1) := by
  unfold KV at r
  induction r with
  | nil => rfl
  | cons h t ih => rw [List.map_cons, List.map_cons, ih, h.1]
theorem KV.length {kvs : List (κ × V)} {vs : List (κ × Value)} (r : KV kvs vs) : kvs.length = vs.length := Paired.length r
theorem dropK_le (kvs : List (κ × V)) (k : κ) : (dropK kvs k).length ≤ kvs.length := List.length_filter_le _ _
end


theorem kV_is {P : Program} {w : World} {k : Key} {u : Value} (r : RelV (kV k) u) : (mixKind P w).is k u = true := by
  cases k with
  | inl i => obtain ⟨t, e⟩ := (show ∃ t, u = Value.int i t from r); subst e; exact mixKind_int P w i t
  | inr x => obtain ⟨t, e⟩ := (show ∃ t, u = Value.str x t from r); subst e; exact mixKind_str P w x t
theorem items_are {P : Program} {w : World} : ∀ {ks : List Key} {us : List Value}, Vals (ks.map kV) us → ItemsAre (mixKind P w) ks us
  | [], _, r => by rw [List.map_nil] at r; cases r; exact .nil
  | k :: ks, _, r => by
    rw [List.map_cons] at r
    cases r with
    | cons h t => exact .cons (kV_is h) (items_are t)

abbrev KT (H : Hp) : List (List Key × V) → List (List Key × Addr × Value) → Prop := Paired fun p q => p.1 = q.1 ∧ H q.2.1 = some (.tup (p.1.map kV)) ∧ RelV p.2 q.2.2
theorem KT.val {H : Hp} {kvs : List (List Key × V)} {xs : List (List Key × Addr × Value)} (r : KT H kvs xs) (k : List Key) : RelO (valV kvs k) ((atKey xs k).map (·.2)) := by
  induction r with
  | nil => exact True.intro
  | @cons p q ps qs h t ih =>
    obtain ⟨h1, _, h2⟩ := h
    by_cases e : p.1 = k
    · have e' : q.1 = k := h1.symm.trans e
      have b : atKey (q :: qs) k = some q.2 := by simp [atKey, List.find?_cons, e']
      rw [valV_pos e, b]; exact h2
    · have e' : ¬ q.1 = k := fun z => e (h1.trans z)
      have b : atKey (q :: qs) k = atKey qs k := by simp [atKey, List.find?_cons, e']
      rw [valV_neg e, b]; exact ih
theorem KT.repl {H : Hp} {kvs : List (List Key × V)} {xs : List (List Key × Addr × Value)} (r : KT H kvs xs) (k : List Key) {y : V} {u : Value} (ry : RelV y u) :
    KT H (kvs.map fun kv => if kv.1 = k then (kv.1, y) else kv) (xs.map (putAt k u)) := by
  induction r with
  | nil => exact .nil
  | @cons p q ps qs h t ih =>
    rw [List.map_cons, List.map_cons]
    refine .cons ?_ ih
    obtain ⟨h1, h2, h3⟩ := h
    unfold putAt
    by_cases e : p.1 = k
    · rw [if_pos e, if_pos (h1.symm.trans e)]; exact ⟨h1, h2, ry⟩
    · rw [if_neg e, if_neg (fun z => e (h1.trans z))]; exact ⟨h1, h2, h3⟩
theorem KT.put {H : Hp} {kvs : List (List Key × V)} {xs : List (List Key × Addr × Value)} (r : KT H kvs xs) (k : List Key) {b : Addr} {y : V} {u : Value} (hb : H b = some (.tup (k.map kV))) (ry : RelV y u) :
    KT H (putK kvs k y) (storedH xs k b u) := by
  have e : (kvs.any fun kv => decide (kv.1 = k)) = (atKey xs k).isSome := by
    rw [valV_any, (r.val k).isSome_eq, Option.isSome_map]
  unfold putK storedH
  rw [e]
  by_cases q : (atKey xs k).isSome = true
  · rw [if_pos q, if_pos q]; exact r.repl k ry
  · rw [if_neg q, if_neg q]; exact Paired.snoc r ⟨rfl, hb, ry⟩
theorem KT.keeps {H H' : Hp} {kvs : List (List Key × V)} {xs : List (List Key × Addr × Value)} (r : KT H kvs xs) (ht : ∀ b ys, H b = some (.tup ys) → H' b = some (.tup ys)) : KT H' kvs xs :=
  Paired.mapP r fun _ _ z => ⟨z.1, ht _ _ z.2.1, z.2.2⟩

section
variable {P : Program} {w : World} {H : Hp} {h : Heap} {a : Addr}
theorem rd_of {u : HO} (ok : HOk P w H h) (e : Rd H a u) : ObjOk P w H h a u := e.ok ok
theorem dk_rd {kvs : List (Key × V)} (ok : HOk P w H h) (e : Rd H a (.dK kvs)) : kvs.length ≤ sizeLine ∧ (a == sysModules) = false ∧ ∃ vs, KV kvs vs ∧ h.DictOf (mixKind P w) a vs :=
  show ObjOk P w H h a (.dK kvs) from rd_of ok e
theorem dk_of {kvs : List (Key × V)} (ok : HOk P w H h) (e : H a = some (.dK kvs)) : kvs.length ≤ sizeLine ∧ (a == sysModules) = false ∧ ∃ vs, KV kvs vs ∧ h.DictOf (mixKind P w) a vs := dk_rd ok (.inl e)
theorem key_of {ks : List Key} (ok : HOk P w H h) (e : H a = some (.tup (ks.map kV))) : (tupleKind (mixKind P w)).is h ks a := by
  obtain ⟨_, its, r, o, h1, h2, n, h3⟩ := (show ObjOk P w H h a (.tup (ks.map kV)) from ok a _ e)
  exact ⟨o, its.toArray, n, h1, h2, h3, by simpa using items_are r⟩
theorem dt_rd {kvs : List (List Key × V)} (ok : HOk P w H h) (e : Rd H a (.dT kvs)) : kvs.length ≤ sizeLine ∧ (a == sysModules) = false ∧
    ∃ xs, KT H kvs xs ∧ h.DictOfH (tupleKind (mixKind P w)) a xs := by
  obtain ⟨z, y, xs, r, o, es, ep, h1, h2, h3, h4, h5⟩ := (show ObjOk P w H h a (.dT kvs) from rd_of ok e)
  refine ⟨z, y, xs, r, o, es, ep, h1, h2, h3, h4, fun x hx => ?_, h5⟩
  have all : ∀ {l : List (List Key × V)} {m : List (List Key × Addr × Value)}, KT H l m → ∀ x ∈ m, (tupleKind (mixKind P w)).is h x.1 x.2.1 := by
    intro l m q
    induction q with
    | nil => intro x hx; exact nomatch hx
    | @cons p q ps qs hq t ih =>
      intro x hx
      rcases List.mem_cons.mp hx with e | hx
      · subst e
        exact key_of ok (by rw [← hq.1]; exact hq.2.1)
      · exact ih x hx
  exact all r x hx
theorem dt_of {kvs : List (List Key × V)} (ok : HOk P w H h) (e : H a = some (.dT kvs)) : kvs.length ≤ sizeLine ∧ (a == sysModules) = false ∧
    ∃ xs, KT H kvs xs ∧ h.DictOfH (tupleKind (mixKind P w)) a xs := dt_rd ok (.inl e)
end

def DGet (H : Hp) (a : Addr) (y : V) (r : Option V) : Prop :=
  (∃ kvs k, Rd H a (.dK kvs) ∧ y = kV k ∧ r = valV kvs k) ∨ ∃ kvs k b, Rd H a (.dT kvs) ∧ y = .ref b ∧ H b = some (.tup (k.map kV)) ∧ r = valV kvs k
def DPut (H : Hp) (a : Addr) (y v : V) (H' : Hp) : Prop :=
  (∃ kvs k, H a = some (.dK kvs) ∧ y = kV k ∧ kvs.length < sizeLine ∧ H' = upd H a (.dK (putK kvs k v))) ∨
  ∃ kvs k b, H a = some (.dT kvs) ∧ y = .ref b ∧ H b = some (.tup (k.map kV)) ∧ kvs.length < sizeLine ∧ H' = upd H a (.dT (putK kvs k v))
theorem DGet.k {H : Hp} {a : Addr} {kvs : List (Key × V)} {k : Key} (e : H a = some (.dK kvs)) : DGet H a (kV k) (valV kvs k) := .inl ⟨kvs, k, .inl e, rfl, rfl⟩
theorem DPut.k {H : Hp} {a : Addr} {kvs : List (Key × V)} {k : Key} {v : V} (e : H a = some (.dK kvs)) (hl : kvs.length < sizeLine) : DPut H a (kV k) v (upd H a (.dK (putK kvs k v))) := .inl ⟨kvs, k, e, rfl, hl, rfl⟩
section
variable {X : Cx} {pins : List (Addr × Obj)} {σ : St} {H : Hp} {s : Shared} {a : Addr} {y v : V} {u r : Value} {o : Option V} {A : Around} {E : Value → Shared → Prop}

theorem Inv.big (I : Inv X pins σ H s) : sysModules < s.heap.objs.size := by
  have h : mainGlobals < s.heap.objs.size := (I.mod.glob.keeps I.bk).lt
  exact Nat.lt_trans (by decide) h

theorem d_getItem {Q : Value → Shared → Prop} (hu : A.units + 1 < cLine) (I : Inv X pins σ H s) (g : DGet H a y (some v)) (ry : RelV y u) (h : ∀ w' s', Inv X pins σ H s' → RelV v w' → Q w' s') :
    wpAny (model X.prog X.w) A (getItem (.ref a) u) Q E s := by
  rcases g with ⟨kvs, k, e, ey, l⟩ | ⟨kvs, k, b, e, ey, eb, l⟩
  · subst ey
    obtain ⟨z, hd, vs, rel, dd⟩ := dk_rd I.hok e
    obtain ⟨w', hw, rw'⟩ := RelO.some_of (v := v) (o := valueAt vs k) (by rw [l]; exact rel.val k)
    exact wpAny_getItem_of (kV_is ry) dd.mapOf hw (h w' _ (I.tok _) rw')
  · subst ey
    cases (show u = Value.ref b from ry)
    obtain ⟨z, hd, xs, rel, dd⟩ := dt_rd I.hok e
    obtain ⟨w', hw, rw'⟩ := RelO.some_of (v := v) (o := (atKey xs k).map (·.2)) (by rw [l]; exact rel.val k)
    obtain ⟨p, hp, hp2⟩ := Option.map_eq_some_iff.mp hw
    refine wpAny_getItem_heap (tupleKind_room_in1 hu) (key_of I.hok eb) dd hp ?_
    rw [hp2]
    exact h w' _ (I.tok _) rw'
theorem d_in {Q : Value → Shared → Prop} (hu : A.units + 1 < cLine) (I : Inv X pins σ H s) (g : DGet H a y o) (ry : RelV y u) (h : ∀ s', Inv X pins σ H s' → Q (.bool o.isSome) s') :
    wpAny (model X.prog X.w) A (compareOp .In u (.ref a)) Q E s := by
  rcases g with ⟨kvs, k, e, ey, l⟩ | ⟨kvs, k, b, e, ey, eb, l⟩
  · subst ey
    obtain ⟨z, hd, vs, rel, dd⟩ := dk_rd I.hok e
    refine wpAny_in_of (kV_is ry) hd dd.mapOf ?_
    rw [← (rel.val k).isSome_eq, ← l]
    exact h _ (I.tok _)
  · subst ey
    cases (show u = Value.ref b from ry)
    obtain ⟨z, hd, xs, rel, dd⟩ := dt_rd I.hok e
    refine wpAny_in_heap (tupleKind_room_in1 hu) (key_of I.hok eb) hd dd ?_
    have q := (rel.val k).isSome_eq
    rw [Option.isSome_map] at q
    rw [← q, ← l]
    exact h _ (I.tok _)
theorem d_notIn {Q : Value → Shared → Prop} (hu : A.units + 1 < cLine) (I : Inv X pins σ H s) (g : DGet H a y o) (ry : RelV y u) (h : ∀ s', Inv X pins σ H s' → Q (.bool (!o.isSome)) s') :
    wpAny (model X.prog X.w) A (compareOp .NotIn u (.ref a)) Q E s := by
  rcases g with ⟨kvs, k, e, ey, l⟩ | ⟨kvs, k, b, e, ey, eb, l⟩
  · subst ey
    obtain ⟨z, hd, vs, rel, dd⟩ := dk_rd I.hok e
    refine wpAny_notIn_of (kV_is ry) hd dd.mapOf ?_
    rw [← (rel.val k).isSome_eq, ← l]
    exact h _ (I.tok _)
  · subst ey
    cases (show u = Value.ref b from ry)
    obtain ⟨z, hd, xs, rel, dd⟩ := dt_rd I.hok e
    refine wpAny_notIn_heap (tupleKind_room_in1 hu) (key_of I.hok eb) hd dd ?_
    have q := (rel.val k).isSome_eq
    rw [Option.isSome_map] at q
    rw [← q, ← l]
    exact h _ (I.tok _)
theorem d_write {h' : Heap} {t' : Nat} {ob : HO} (I : Inv X pins σ H s) (mu : Mut (H a)) (hs : Heap.SameBut a s.heap h') (he : ∃ q, h'.get? a = some q) (new : ObjOk X.prog X.w (upd H a ob) h' a ob) :
    Inv X pins σ (upd H a ob) { s with heap := h', toks := t' } :=
  I.write (x := a) (e := a) mu (.inl rfl) (fun b q hb z => (hs.2 b hb).trans z) he new
theorem dk_new {P : Program} {w : World} {H' : Hp} {h' : Heap} {kvs : List (Key × V)} {vs : List (Key × Value)} (z : kvs.length ≤ sizeLine) (hd : (a == sysModules) = false) (rel : KV kvs vs) (dd : h'.DictOf (mixKind P w) a vs) :
    ObjOk P w H' h' a (.dK kvs) := ⟨z, hd, vs, rel, dd⟩
theorem d_setItem {H' : Hp} {Q : Unit → Shared → Prop} (hu : A.units + 1 < cLine) (I : Inv X pins σ H s) (g : DPut H a y v H') (ry : RelV y u) (rv : RelV v r) (h : ∀ s', Inv X pins σ H' s' → Q () s') :
    wpAny (model X.prog X.w) A (setItem (.ref a) u r) Q E s := by
  rcases g with ⟨kvs, k, e, ey, l, eH⟩ | ⟨kvs, k, b, e, ey, eb, l, eH⟩
  · subst ey eH
    obtain ⟨z, hd, vs, rel, dd⟩ := dk_of I.hok e
    have hz : vs.length ≤ sizeLine := by rw [← rel.length]; exact z
    have hl : (putK kvs k v).length ≤ sizeLine := by have := length_putK kvs k v; omega
    refine wpAny_setItem_pairs (hsz := hz) (kV_is ry) dd fun h' dd' hs => h _ ?_
    have he : ∃ q, h'.get? a = some q := let ⟨q, _, _, hq, _⟩ := dd'; ⟨q, hq⟩
    exact d_write I (by rw [e]; exact True.intro) hs he (dk_new hl hd (rel.put k rv) dd')
  · subst ey eH
    cases (show u = Value.ref b from ry)
    obtain ⟨z, hd, xs, rel, dd⟩ := dt_of I.hok e
    have hz : xs.length ≤ sizeLine := by rw [← Paired.length rel]; exact z
    have hl : (putK kvs k v).length ≤ sizeLine := by have := length_putK kvs k v; omega
    refine wpAny_setItem_heap (hsz := hz) (tupleKind_room_in1 hu) (key_of I.hok eb) dd fun h' dd' hs => h _ ?_
    obtain ⟨q, es, ep, hq, h2, h3, h4, _, h5⟩ := dd'
    refine d_write I (by rw [e]; exact True.intro) hs ⟨q, hq⟩ ⟨hl, hd, _, (rel.put k eb rv).keeps fun c ys ec => ?_, q, es, ep, hq, h2, h3, h4, h5⟩
    rw [upd_ne (ne_of ec e (fun z => nomatch z))]
    exact ec
end

section
variable {X : Cx} {pins : List (Addr × Obj)} {σ : St} {H : Hp} {s : Shared} {a : Addr} {kvs : List (Key × V)} {k : Key} {u : Value} {A : Around} {E : Value → Shared → Prop}
theorem d_delItem {Q : Unit → Shared → Prop} (I : Inv X pins σ H s) (e : H a = some (.dK kvs)) (ry : RelV (kV k) u) (l : (valV kvs k).isSome = true) (h : ∀ s', Inv X pins σ (upd H a (.dK (dropK kvs k))) s' → Q () s') :
    wpAny (model X.prog X.w) A (delItem (.ref a) u) Q E s := by
  obtain ⟨z, hd, vs, rel, dd⟩ := dk_of I.hok e
  refine wpAny_delItem_slot dd.typeIs (by decide) PySem.F.slot_dict_delitem
    (call_meetsIn PySem.F.slot_dict_delitem dd.typeIs PySem.F.entry_dict_delitem (PySem.F.args_dict_delitem_2 _ _) (meets_dict_delitem_pairs (mixKind X.prog X.w) a (kV_is ry)) ⟨vs, dd, by rw [← rel.length]; exact z, by rw [← (rel.val k).isSome_eq]; exact l, fun h' dd' hs => h _ ?_⟩)
  have he : ∃ q, h'.get? a = some q := let ⟨q, _, _, hq, _⟩ := dd'; ⟨q, hq⟩
  exact d_write I (by rw [e]; exact True.intro) hs he (dk_new (Nat.le_trans (dropK_le kvs k) z) hd (rel.drop k) dd')
theorem d_pop {v : V} {more : List Value} {Q : Value → Shared → Prop} (I : Inv X pins σ H s) (e : H a = some (.dK kvs)) (ry : RelV (kV k) u) (l : valV kvs k = some v) (hm : more = [] ∨ ∃ x, more = [x])
    (h : ∀ w' s', Inv X pins σ (upd H a (.dK (dropK kvs k))) s' → RelV v w' → Q w' s') : wpAny (model X.prog X.w) A (call (.builtin "dict.pop") (.ref a :: u :: more)) Q E s := by
  obtain ⟨z, hd, vs, rel, dd⟩ := dk_of I.hok e
  obtain ⟨w', hw, rw'⟩ := RelO.some_of (v := v) (o := valueAt vs k) (by rw [← l]; exact rel.val k)
  have hp : (keyPart u).isSome = true := by
    cases k with
    | inl i => obtain ⟨t, q⟩ := (show ∃ t, u = Value.int i t from ry); subst q; rfl
    | inr x => obtain ⟨t, q⟩ := (show ∃ t, u = Value.str x t from ry); subst q; rfl
  have ha : argsOk "dict.pop" ⟨.ref a :: u :: more, []⟩ := by
    rcases hm with q | ⟨x, q⟩
    · subst q; exact PySem.F.args_dict_pop_2 _ _
    · subst q; exact PySem.F.args_dict_pop_3 _ _ _
  refine call_meetsIn PySem.F.slot_dict_pop dd.typeIs PySem.F.entry_dict_pop ha (meets_dict_pop_there (mixKind X.prog X.w) a (kV_is ry) more hm hp)
    ⟨vs, w', dd, by rw [← rel.length]; exact z, hw, fun h' dd' hs => h w' _ ?_ rw'⟩
  have he : ∃ q, h'.get? a = some q := let ⟨q, _, _, hq, _⟩ := dd'; ⟨q, hq⟩
  exact d_write I (by rw [e]; exact True.intro) hs he (dk_new (Nat.le_trans (dropK_le kvs k) z) hd (rel.drop k) dd')
theorem d_len {Q : Value → Shared → Prop} (I : Inv X pins σ H s) (e : Rd H a (.dK kvs)) (h : ∀ t s', Inv X pins σ H s' → Q (.int kvs.length t) s') : wpAny (model X.prog X.w) A (call (.builtin "len") [.ref a]) Q E s := by
  obtain ⟨z, hd, vs, rel, dd⟩ := dk_rd I.hok e
  refine call_len_dict hd dd (by rw [← rel.length]; rw [sizeLine_eq] at z; omega) ?_
  rw [← rel.length]
  exact h _ _ (I.tok _)
end


def NoSl (i : Expr) : Prop := ∀ ov iv, subscripted i false ov iv = operate [ov, iv] (getItem ov iv)
theorem subD_of {prog : Program} {w : World} {A : Around} {E : Value → Shared → Prop} {s : Shared} {env : Env} {value slice : Expr} {pos : Pos} {T id : String} {Q : Value → Shared → Prop}
    (hl : typeLookup (.type T) "__getitem__" = pure (some (.builtin id))) (hs : NoSl slice)
    (h : wpAny (model prog w) A (eval value env) (fun o s₁ => wpAny (model prog w) A (eval slice env) (fun i s₂ => s₂.TypeIs o T ∧ wpAny (model prog w) A (getItem o i) Q E s₂) E s₁) E s) :
    wpAny (model prog w) A (eval (.Subscript value slice pos) env) Q E s := by
  refine Subscript_ (wpAny_mono h (fun o s₁ h₁ => wpAny_mono h₁ (fun i s₂ h₂ => ?_) fun _ _ x => x) fun _ _ x => x)
  obtain ⟨hT, h₂⟩ := h₂
  unfold subscriptTail
  refine wpAny_bind ?_
  rw [getitemInPython_of_ne hT.not_modules]
  refine wpAny_bind (wpAny_specialOf hT hl ?_)
  have fin : wpAny (model prog w) A (subscripted slice false o i) (fun r s₃ => wpAny (model prog w) A (letTemporaryGo value o r >>= fun _ => pure r) Q E s₃) E s₂ := by
    rw [hs o i]
    exact wpAny_operating (wpAny_mono h₂ (fun r s₃ h₃ => wpAny_bind (wpAny_letTemporaryGo (wpAny_pure h₃))) fun _ _ x => x)
  first
    | exact wpAny_pure (wpAny_bind fin)
    | exact wpAny_bind (wpAny_pure (wpAny_bind fin))
    | exact wpAny_bind fin

theorem dict_typeIs {X : Cx} {pins : List (Addr × Obj)} {σ : St} {H : Hp} {s : Shared} {a : Addr} {y : V} {o : Option V} (I : Inv X pins σ H s) (g : DGet H a y o) : s.TypeIs (.ref a) "dict" := by
  rcases g with ⟨kvs, k, e, _, _⟩ | ⟨kvs, k, b, e, _, _, _⟩
  · obtain ⟨_, _, vs, _, dd⟩ := dk_rd I.hok e
    exact dd.typeIs
  · obtain ⟨_, _, xs, _, dd⟩ := dt_rd I.hok e
    exact dd.typeIs
def tDGet (td ty : TE) : TE := fun σ H Q => td σ H fun x H1 => ty σ H1 fun y H2 => ∃ a v, x = .ref a ∧ DGet H2 a y (some v) ∧ Q v H2
def tDIn (ty td : TE) : TE := fun σ H Q => ty σ H fun y H1 => td σ H1 fun x H2 => ∃ a o, x = .ref a ∧ DGet H2 a y o ∧ Q (.bl o.isSome) H2
def tDNotIn (ty td : TE) : TE := fun σ H Q => ty σ H fun y H1 => td σ H1 fun x H2 => ∃ a o, x = .ref a ∧ DGet H2 a y o ∧ Q (.bl (!o.isSome)) H2
def sDPut (td ty tv : TE) : TS := fun D σ H => tv σ H fun v H1 => td σ H1 fun x H2 => ty σ H2 fun y H3 => ∃ a H4, x = .ref a ∧ DPut H3 a y v H4 ∧ D.nx σ H4
section
variable {X : Cx} {o i e value : Expr} {pos pos' tpos : Pos} {td ty tv : TE}
theorem pe_dget (hu : X.A.units + 1 < cLine) (ho : PE X o td) (hi : PE X i ty) (hs : NoSl i) : PE X (.Subscript o i pos) (tDGet td ty) := by
  intro pins s σ H Q I h
  refine subD_of PySem.F.slot_dict_getitem.lookup hs (thn (ho pins s σ H _ I h) fun u s1 ⟨x, H1, I1, rx, q1⟩ => thn (hi pins s1 σ H1 _ I1 q1) fun iv s2 ⟨y, H2, I2, ry, a, v, ex, g, q2⟩ => ?_)
  subst ex
  obtain rfl : u = Value.ref a := rx
  exact ⟨dict_typeIs I2 g, d_getItem hu I2 g ry fun w' s3 I3 rw' => ⟨v, H2, I3, rw', q2⟩⟩
theorem pc_din (hu : X.A.units + 1 < cLine) (hi : PE X i ty) (ho : PE X o td) : PC X .In i o (tDIn ty td) := by
  intro pins s σ H Q I h
  refine thn (hi pins s σ H _ I h) fun iv s1 ⟨y, H1, I1, ry, q1⟩ => thn (ho pins s1 σ H1 _ I1 q1) fun u s2 ⟨x, H2, I2, rx, a, ov, ex, g, q2⟩ => ?_
  subst ex
  obtain rfl : u = Value.ref a := rx
  exact d_in hu I2 g ry fun s3 I3 => ⟨.bl ov.isSome, H2, I3, rfl, q2⟩
theorem pc_dnotin (hu : X.A.units + 1 < cLine) (hi : PE X i ty) (ho : PE X o td) : PC X .NotIn i o (tDNotIn ty td) := by
  intro pins s σ H Q I h
  refine thn (hi pins s σ H _ I h) fun iv s1 ⟨y, H1, I1, ry, q1⟩ => thn (ho pins s1 σ H1 _ I1 q1) fun u s2 ⟨x, H2, I2, rx, a, ov, ex, g, q2⟩ => ?_
  subst ex
  obtain rfl : u = Value.ref a := rx
  exact d_notIn hu I2 g ry fun s3 I3 => ⟨.bl (!ov.isSome), H2, I3, rfl, q2⟩
theorem ps_dput (hu : X.A.units + 1 < cLine) (ho : PE X o td) (hi : PE X i ty) (hv : PE X value tv) (hs : swapsWith value (some (.Subscript o i pos')) pos.line X.env = pure false) :
    PS X (.Assign [.Subscript o i pos'] value pos) (sDPut td ty tv) := by
  intro pins s σ H D I h
  refine wpAny_Assign_Subscript (thn (hv pins s σ H _ I h) fun r s1 ⟨v, H1, I1, rv, q1⟩ => thn (ho pins s1 σ H1 _ I1 q1) fun u s2 ⟨x, H2, I2, rx, q2⟩ => thn (hi pins s2 σ H2 _ I2 q2) fun iv s3 ⟨y, H3, I3, ry, a, H4, ex, g, q3⟩ => ?_) hs
  subst ex
  obtain rfl : u = Value.ref a := rx
  exact d_setItem hu I3 g ry rv fun s4 I4 => ⟨σ, H4, I4, q3⟩
end


theorem dk_empty {P : Program} {w : World} {H : Hp} (h : Heap) (hb : sysModules < h.objs.size) : ObjOk P w H (h.push { cls := .type "dict", data := .dict #[] }) h.objs.size (.dK []) :=
  ⟨Nat.zero_le _, beq_eq_false_iff_ne.mpr (Ne.symm (Nat.ne_of_lt hb)), [], .nil, Heap.DictOf.new h⟩
def tDNewK : TE := fun _ H Q => ∀ p, H p = none → Q (.ref p) (upd H p (.dK []))
section
variable {X : Cx} {pos : Pos}
theorem pe_dnewK : PE X (.Dict [] [] pos) tDNewK := fun pins s σ H Q I h =>
  wpAny_Dict_empty ⟨.ref s.heap.objs.size, _, I.laid (a := s.heap.objs.size) (o := .dK []) (t' := s.toks) (fun _ _ q => Heap.get?_push_of_some _ q) (Nat.le_refl _) (dk_empty s.heap I.big), rfl, h _ (I.hok.fresh (Nat.le_refl _))⟩
end

structure M1 (X : Cx) (o : Expr) (m : Str) (apos : Pos) (e : Expr) (cpos : Pos) : Prop where
  base : attributeBase o m X.env (eval o X.env) = eval o X.env
  few : ((backTo cpos (starEach [e] X.env)).all (fun x => !x.1) && (backToKw cpos (keywordEach [] X.env)).all (fun x => x.1.isSome)
    && decide (([e] : List Expr).length + ([] : List Keyword).length + (if ([] : List Keyword).isEmpty then 0 else 1) < 30)) = true
  line : (apos.endLine == cpos.line) = true
  trees : backTo cpos (starEach [e] X.env) = [(false, eval e X.env)]
structure M2 (X : Cx) (o : Expr) (m : Str) (apos : Pos) (e f : Expr) (cpos : Pos) : Prop where
  base : attributeBase o m X.env (eval o X.env) = eval o X.env
  few : ((backTo cpos (starEach [e, f] X.env)).all (fun x => !x.1) && (backToKw cpos (keywordEach [] X.env)).all (fun x => x.1.isSome)
    && decide (([e, f] : List Expr).length + ([] : List Keyword).length + (if ([] : List Keyword).isEmpty then 0 else 1) < 30)) = true
  line : (apos.endLine == cpos.line) = true
  trees : backTo cpos (starEach [e, f] X.env) = [(false, eval e X.env), (false, eval f X.env)]

def IsD (H : Hp) (a : Addr) : Prop := (∃ kvs, Rd H a (.dK kvs)) ∨ ∃ kvs, Rd H a (.dT kvs)
theorem isD_at {X : Cx} {pins : List (Addr × Obj)} {σ : St} {H : Hp} {s : Shared} {a : Addr} (I : Inv X pins σ H s) (d : IsD H a) :
    s.TypeIs (.ref a) "dict" ∧ (∀ b, Value.ref a = .ref b → ∃ ob, s.heap.get? b = some ob ∧ ob.dict = none) ∧ (a == sysModules) = false := by
  rcases d with ⟨kvs, e⟩ | ⟨kvs, e⟩
  · obtain ⟨_, hd, vs, _, dd⟩ := dk_rd I.hok e
    refine ⟨dd.typeIs, fun b q => ?_, hd⟩
    cases q
    obtain ⟨ob, _, _, h1, h2, _⟩ := dd
    exact ⟨ob, h1, h2.2.1⟩
  · obtain ⟨_, hd, xs, _, dd⟩ := dt_rd I.hok e
    refine ⟨dd.typeIs, fun b q => ?_, hd⟩
    cases q
    obtain ⟨ob, _, _, h1, h2, _⟩ := dd
    exact ⟨ob, h1, h2.2.1⟩

section
variable {X : Cx} {pins : List (Addr × Obj)} {σ : St} {H : Hp} {s : Shared} {a : Addr} {y d : V} {u r : Value} {o : Option V} {A : Around} {E : Value → Shared → Prop}
end

def tDPop1 (td ty : TE) : TE := fun σ H Q => td σ H fun x H1 => ∃ a, x = .ref a ∧ IsD H1 a ∧ ty σ H1 fun y H2 => ∃ kvs k v, H2 a = some (.dK kvs) ∧ y = kV k ∧ valV kvs k = some v ∧ Q v (upd H2 a (.dK (dropK kvs k)))
section
variable {X : Cx} {o e f : Expr} {apos cpos : Pos} {td ty tx : TE}
theorem pe_dpop1 (ho : PE X o td) (he : PE X e ty) (m : M1 X o "pop" apos e cpos) : PE X (.Call (.Attribute o "pop" apos) [e] [] cpos) (tDPop1 td ty) := by
  intro pins s σ H Q I h
  refine wpAny_Call_method m.base m.few m.line PySem.F.plainAttrs_dict PySem.F.slot_dict_pop PySem.F.type_dict_pop (thn (ho pins s σ H _ I h) fun u s1 ⟨x, H1, I1, rx, a, ex, d, q1⟩ => ?_)
  subst ex
  obtain rfl : u = Value.ref a := rx
  obtain ⟨t1, t2, _⟩ := isD_at I1 d
  refine ⟨t1, t2, ?_⟩
  rw [m.trees]
  refine Calls.callWith_builtin rfl (Calls.evalArgs_plain (Calls.spliced_cons (thn (he pins s1 σ H1 _ I1 q1) fun iv s2 ⟨y, H2, I2, ry, kvs, k, v, ea, ey, l, q2⟩ => Calls.spliced_nil ?_)))
  subst ey
  exact d_pop I2 ea ry l (.inl rfl) fun w' s3 I3 rw' => ⟨v, _, I3, rw', q2⟩
end

section
variable {X : Cx} {pins : List (Addr × Obj)} {σ : St} {H : Hp} {s : Shared} {a : Addr} {kvs : List (Key × V)} {A : Around} {E : Value → Shared → Prop}
theorem d_copyOf {Q : Value → Shared → Prop} (I : Inv X pins σ H s) (e : Rd H a (.dK kvs)) (h : ∀ p s', H p = none → Inv X pins σ (upd H p (.dK kvs)) s' → Q (.ref p) s') : wpAny (model X.prog X.w) A (call (.type "dict") [.ref a]) Q E s := by
  obtain ⟨z, hd, vs, rel, dd⟩ := dk_rd I.hok e
  refine kt_call_dict hd dd (by rw [← rel.length]; exact z) fun h' dd' hs => ?_
  refine h _ _ (I.hok.fresh (Nat.le_refl _)) (I.laid (a := s.heap.objs.size) (o := .dK kvs) (t' := s.toks) (fun b q hq => ?_) (Nat.le_refl _) (dk_new z (beq_eq_false_iff_ne.mpr (Ne.symm (Nat.ne_of_lt I.big))) rel dd'))
  exact (hs.2 b (Nat.ne_of_lt (Heap.lt_size hq))).trans (Heap.get?_push_of_some _ hq)
end


section
variable {X : Cx} {pins : List (Addr × Obj)} {σ : St} {H : Hp} {s : Shared} {a : Addr} {y : V} {u : Value} {A : Around} {E : Value → Shared → Prop}
end
end L2

namespace L2
open PySem PySem.Spec PyProof.Rows

section
variable {prog : Program} {w : World} {A : Around} {E : Value → Shared → Prop}
end

section
variable {X : Cx}
end
end L2

namespace L2
open PySem PySem.Spec PyProof.Rows

theorem boot_reversed5 : bootBuiltins "reversed" = some (.type "reversed") := by decide +kernel

section
variable {X : Cx} {pins : List (Addr × Obj)} {σ : St} {H : Hp} {s : Shared} {h' : Heap}
theorem Inv.lock {d : Addr} {u : HO} (I : Inv X pins σ H s) (h : H d = some u) (mu : Mut (some u)) : ∃ od, Inv X pins σ (upd H d (.frz od u)) s := by
  have x := I.hok d u h
  have ex : ∃ od, s.heap.get? d = some od := by
    cases u with
    | lst xs => obtain ⟨_, _, _, _, e⟩ := x; exact ⟨_, e⟩
    | dK kvs => obtain ⟨_, _, _, _, o, _, _, e, _⟩ := x; exact ⟨o, e⟩
    | dT kvs => obtain ⟨_, _, _, _, o, _, _, e, _⟩ := x; exact ⟨o, e⟩
    | set S n => obtain ⟨o, _, _, _, e, _⟩ := x; exact ⟨o, e⟩
    | ins C dx fs => obtain ⟨_, _, _, e, _⟩ := x; exact ⟨_, e⟩
    | ext φ => obtain ⟨_, ⟨_, e⟩, _⟩ := x; exact ⟨_, e⟩
    | _ => exact False.elim mu
  obtain ⟨od, e⟩ := ex
  have new : ObjOk X.prog X.w (upd H d (.frz od u)) s.heap d (.frz od u) := by
    refine ⟨e, x.stay (fun b v _ q => q) (fun b q => ?_) fun b xs q => ?_⟩
    · rw [upd_ne (fun z => by rw [z, h] at q; cases q; exact mu)]; exact q
    · rw [upd_ne (fun z => by rw [z, h] at q; cases q; exact mu)]; exact q
  exact ⟨od, I.write (x := d) (e := d) (t' := s.toks) (h' := s.heap) (by rw [h]; exact mu) (.inl rfl) (fun b v _ q => q) ⟨od, e⟩ new⟩
theorem Inv.nofrz {d : Addr} {u : HO} (I : Inv X pins σ H s) (h : H d = some u) (mu : Mut (some u)) : ∀ o' u', X.H_0 d ≠ some (.frz o' u') := fun o' u' e => by
  have q := I.base.frzs d o' u' e
  rw [h] at q
  cases q
  exact mu
theorem Inv.unlock {d : Addr} {od : Obj} {u : HO} (I : Inv X pins σ H s) (h : H d = some (.frz od u)) (hn : ∀ o' u', X.H_0 d ≠ some (.frz o' u')) : Inv X pins σ (upd H d u) s := by
  have neH : ∀ b o, H b = some o → (∀ o' u', o ≠ .frz o' u') → b ≠ d := fun b o e hne z => by
    rw [z, h] at e
    cases e
    exact hne _ _ rfl
  have neN : ∀ b, H b = none → b ≠ d := fun b e z => by rw [z, h] at e; cases e
  refine ⟨I.ok, I.os, I.bare, ⟨I.base.keep, I.base.slot, fun b o e n hx => ?_, I.base.there, fun b xs e => ?_, fun b o x e => ?_, fun b ps e => ?_⟩, I.loc, I.cell, ?_, fun x c e => ?_, fun p hp => ?_, fun b o e => ?_, I.len⟩
  · rw [upd_ne (neN b (I.base.free b o e n hx))]; exact I.base.free b o e n hx
  · have q := I.base.tups b xs e
    rw [upd_ne (neH b _ q (fun _ _ z => nomatch z))]; exact q
  · have q := I.base.frzs b o x e
    rw [upd_ne (fun z => by rw [z] at e; exact hn _ _ e)]; exact q
  · obtain ⟨m, q⟩ := I.base.tbls b ps e
    exact ⟨m, by rw [upd_ne (neH b _ q (fun _ _ z => nomatch z))]; exact q⟩
  · rw [upd_ne (neN _ I.free)]; exact I.free
  · rw [upd_ne (neN c (I.freeC x c e))]; exact I.freeC x c e
  · obtain ⟨e, n, r⟩ := I.pin p hp
    exact ⟨e, by rw [upd_ne (neN _ n)]; exact n, r⟩
  · by_cases hb : b = d
    · rw [hb, upd_same] at e
      cases e
      rw [hb]
      obtain ⟨_, x⟩ := I.hok d _ h
      exact x.stay (fun c v _ q => q) (fun c q => by rw [upd_ne (neH c _ q (fun _ _ z => nomatch z))]; exact q) fun c xs q => by rw [upd_ne (neH c _ q (fun _ _ z => nomatch z))]; exact q
    · rw [upd_ne hb] at e
      exact (I.hok b o e).stay (fun c v _ q => q) (fun c q => by rw [upd_ne (neH c _ q (fun _ _ z => nomatch z))]; exact q) fun c xs q => by rw [upd_ne (neH c _ q (fun _ _ z => nomatch z))]; exact q
end
def tLock (t : TS) : TS := fun D σ H => ∃ d u, H d = some u ∧ Mut (some u) ∧ ∀ od, t ⟨fun σ' H' => H' d = some (.frz od u) ∧ D.nx σ' (upd H' d u), fun v H' => H' d = some (.frz od u) ∧ D.rt v (upd H' d u), fun σ' H' => H' d = some (.frz od u) ∧ D.bk σ' (upd H' d u), fun σ' H' => H' d = some (.frz od u) ∧ D.ct σ' (upd H' d u)⟩ σ (upd H d (.frz od u))
def tLockE (t : TE) : TE := fun σ H Q => ∃ d u, H d = some u ∧ Mut (some u) ∧ ∀ od, t σ (upd H d (.frz od u)) fun v H' => H' d = some (.frz od u) ∧ Q v (upd H' d u)
section
variable {X : Cx}
theorem ps_lock {st : Stmt} {t : TS} (h : PS X st t) : PS X st (tLock t) := by
  intro pins s σ H D I hw
  obtain ⟨d, u, hd, mu, hw⟩ := hw
  obtain ⟨od, I1⟩ := I.lock hd mu
  refine thn (h pins s σ _ _ I1 (hw od)) fun f s1 q => ?_
  cases f with
  | next => obtain ⟨σ', H', I2, e, q⟩ := q; exact ⟨σ', _, I2.unlock e (I.nofrz hd mu), q⟩
  | brk => obtain ⟨σ', H', I2, e, q⟩ := q; exact ⟨σ', _, I2.unlock e (I.nofrz hd mu), q⟩
  | cont => obtain ⟨σ', H', I2, e, q⟩ := q; exact ⟨σ', _, I2.unlock e (I.nofrz hd mu), q⟩
  | ret v => obtain ⟨x, σ', H', I2, r, e, q⟩ := q; exact ⟨x, σ', _, I2.unlock e (I.nofrz hd mu), r, q⟩
theorem pe_lock {e : Expr} {t : TE} (h : PE X e t) : PE X e (tLockE t) := by
  intro pins s σ H Q I hw
  obtain ⟨d, u, hd, mu, hw⟩ := hw
  obtain ⟨od, I1⟩ := I.lock hd mu
  refine thn (h pins s σ _ _ I1 (hw od)) fun v s1 ⟨x, H1, I2, r, e2, q⟩ => ?_
  exact ⟨x, _, I2.unlock e2 (I.nofrz hd mu), r, q⟩

theorem pi_one {tg : Expr} {pins : List (Addr × Obj)} {σ : St} {H : Hp} {s : Shared} {R : It → Hp → Prop} {J : It} {tn : Nat → Heap → Prop} {tk : Nat} (I : Inv X pins σ H s) (o : Obj)
    (T : Turn X.prog X.w X.K tg J [s.heap.objs.size] s.heap.objs.size tn) (st : tn 0 (s.heap.push o)) (q : R J H) : PIE X pins σ tg R (.ref s.heap.objs.size) { s with heap := s.heap.push o, toks := tk } := by
  refine ⟨s.heap.objs.size, [s.heap.objs.size], tn, J, H, rfl, I.kept fun b ob e => Heap.get?_push_of_some _ e, T, st, fun b hb => ?_, q⟩
  have e : b = s.heap.objs.size := by simpa using hb
  subst e
  exact I.fpOk (Nat.le_refl _) (I.hok.fresh (Nat.le_refl _))
end

def Itc (lo c : Int) (n : Nat) : It := ⟨fun i _ => i < n, fun i H x H' => H' = H ∧ x = .int (lo + (i : Nat) * c), fun i _ => n ≤ i⟩
theorem turn_rangeC {P : Program} {w : World} {K : PySem.W.Frag} {tg : Expr} (it : Addr) (lo c : Int) (n : Nat) : Turn P w K tg (Itc lo c n) [it] it (fun i h => IsRangeIter h it (lo + (i : Nat) * c) ((n : Int) - (i : Nat)) c) where
  mem := by simp
  obj := fun i h st b hb => by
    have e : b = it := by simpa using hb
    subst e
    exact ⟨_, st, fun v z => nomatch z⟩
  keep := fun i h h' st k => k it (by simp) _ st
  item := by
    intro X hP hw hK hc i pins s σ H E I hf st hg
    subst hP hw hK
    obtain ⟨f0, f1, f2, f3, f4, f5⟩ := hf it (by simp)
    have W := Walks.range (prog := X.prog) (w := X.w) (I.ok.hd hc) it lo c n
    refine W.item i s _ _ hg st fun v h' tk hv st' kk => ?_
    obtain ⟨t, rfl⟩ := hv
    have I1 : Inv X pins σ H { s with heap := h', toks := tk } := I.turned (fun b o hb e => kk b o (by simpa using hb) e) f0 f1 f3 f4 f5
    exact ⟨_, rfl, go_of (s := { s with heap := h', toks := tk }) (n := "range_iterator") st' rfl rfl (by decide) ⟨.int (lo + (i : Nat) * c), H, I1, ⟨t, rfl⟩, ⟨rfl, rfl⟩, st', fun b hb => (hf b hb).1⟩⟩
  done := by
    intro X hP hw hK hc i pins s σ H E I hf st hg
    subst hP hw hK
    obtain ⟨f0, f1, f2, f3, f4, f5⟩ := hf it (by simp)
    exact wpAny_pyNext_range_end (I.ok.hd hc) st (by have : n ≤ i := hg; omega) fun h' eb => ⟨rfl, I.turned (t' := s.toks) (fun b o hb e => eb b o hb e) f0 f1 f3 f4 f5⟩
  self := fun A i s Q E st h => wpAny_pyIter_rangeiter st h
def RgC (i j c : Int) (n : Nat) : Prop := c ≠ 0 ∧ c.natAbs < 1073741824 ∧ Builtin.Range.small i j c = true ∧ Builtin.Range.rangeSize i j c = n
theorem RgC.neg {i j : Int} (ha : -(2 ^ 62) ≤ i) (ha' : i < 2 ^ 62) (hb : -(2 ^ 62) ≤ j) (hb' : j < 2 ^ 62) : RgC i j (-1) (i - j).toNat :=
  ⟨by decide, by decide, PySem.W.small_down ha ha' hb hb', PySem.W.rangeSize_downNat i j⟩
def iRng3 (ta : TA) : TI := fun σ H R => ta σ H fun vs H1 => ∃ (i j c : Int) (n : Nat), vs = [.int i, .int j, .int c] ∧ RgC i j c n ∧ R (Itc i c n) H1
section
variable {X : Cx} {tg : Expr}
theorem pi_range3 {a b c : Expr} {ta : TA} {p pos : Pos} (hg : Gl X "range") (hm : X.mg "range" = none) (ha : PA X [a, b, c] ta)
    (hs : starEach [a, b, c] X.env = (false, eval a X.env) :: starEach [b, c] X.env := by rfl) (hpl : (backTo pos (starEach [b, c] X.env)).any (·.1) = false := by rfl) :
    PI X tg (.Call (.Name "range" p) [a, b, c] [] pos) (iRng3 ta) := by
  intro pins s σ H R I h
  refine Call_ (ld_blt I hg hm boot_range (PyProof.Rows.callWith_type1 (thn (ha pos pins s σ H _ I h) fun us s1 ⟨vs, H1, I1, r1, q1⟩ => ?_) hs hpl))
  obtain ⟨i, j, k, n, e, ⟨c0, c1, c2, c3⟩, q⟩ := q1
  subst e
  cases r1 with
  | cons r rr =>
    cases rr with
    | cons r' rr =>
      cases rr with
      | cons r'' rr =>
        cases rr
        obtain ⟨t, rfl⟩ := r
        obtain ⟨t', rfl⟩ := r'
        obtain ⟨t'', rfl⟩ := r''
        refine call_range_3 c0 ?_ (.inl (PyProof.noPylong_small c1))
        refine wpAny_pyIter_range (IsRange.new ..) c2 ?_
        have I2 : Inv X pins σ H1 { s1 with heap := s1.heap.push { cls := .type "range", data := .fields #[.int i t, .int j t', .int k t''] } } := I1.kept (t' := s1.toks) fun b o e => Heap.get?_push_of_some _ e
        refine pi_one (tk := s1.toks) I2 _ (turn_rangeC _ i k n) ?_ q
        have e1 : i + ((0 : Nat) : Int) * k = i := by simp
        have e2 : (n : Int) - ((0 : Nat) : Int) = Builtin.Range.rangeSize i j k := by rw [c3]; simp
        show IsRangeIter _ _ (i + ((0 : Nat) : Int) * k) ((n : Int) - ((0 : Nat) : Int)) k
        rw [e1, e2]
        exact Heap.get?_push_size _ rfl
end
theorem for_rangeC {lo c : Int} {n : Nat} {g : TG} {tb : TS} {D : Ends} {σ : St} {H : Hp} (Pv : Nat → St → Hp → Prop) (h0 : Pv 0 σ H)
    (hs : ∀ i σ H, i < n → Pv i σ H → g (.int (lo + (i : Nat) * c)) σ H fun σ2 H2 => tb { D with nx := Pv (i + 1), ct := Pv (i + 1), bk := D.nx } σ2 H2) (hd : ∀ σ H, Pv n σ H → D.nx σ H) :
    ∃ W : Nat → Nat → St → Hp → Prop, (∃ m, W 0 m σ H) ∧ ∀ i m σ H, W i m σ H →
      ((Itc lo c n).stop i H ∧ D.nx σ H) ∨ ((Itc lo c n).go i H ∧ ∃ N : St → Hp → Prop, (∀ σ' H', N σ' H' → ∃ m', m' < m ∧ W (i + 1) m' σ' H') ∧ ∀ x H', (Itc lo c n).yld i H x H' → g x σ H' fun σ2 H2 => tb { D with nx := N, ct := N, bk := D.nx } σ2 H2) := by
  refine ⟨fun i m σ H => m = n - i ∧ i ≤ n ∧ Pv i σ H, ⟨n, by simp, Nat.zero_le _, h0⟩, ?_⟩
  rintro i m σ H ⟨rfl, hi, p⟩
  by_cases hlt : i < n
  · refine .inr ⟨hlt, Pv (i + 1), fun σ' H' p' => ⟨n - (i + 1), by omega, rfl, hlt, p'⟩, fun x H' y => ?_⟩
    obtain ⟨e, y⟩ := y
    subst e y
    exact hs i σ _ hlt p
  · have e : i = n := by omega
    subst e
    exact .inl ⟨Nat.le_refl _, hd σ H p⟩

def Itv (K : PySem.W.Frag) (a : Addr) (n : Nat) : It :=
  ⟨fun i H => i < n ∧ ∃ (xs : List V) (x : V), SqL K H a xs ∧ xs[n - 1 - i]? = some x, fun i H x H' => H' = H ∧ ∀ xs, SqL K H a xs → xs[n - 1 - i]? = some x, fun i _ => n ≤ i⟩
theorem turn_rev {P : Program} {w : World} {K : PySem.W.Frag} {tg : Expr} (a it : Addr) (n : Nat) : Turn P w K tg (Itv K a n) [it] it (fun i h => i ≤ n ∧ h.IsRevIter it a ((n : Int) - 1 - (i : Nat))) where
  mem := by simp
  obj := fun i h st b hb => by
    have e : b = it := by simpa using hb
    subst e
    obtain ⟨_, o, e, c, d⟩ := st
    exact ⟨o, e, fun v z => by rw [d] at z; cases z⟩
  keep := fun i h h' st k => ⟨st.1, st.2.at fun o e => k it (by simp) o e⟩
  item := by
    intro X hP hw hK hc i pins s σ H E I hf st hg
    subst hP hw hK
    obtain ⟨hin, xs, x, hq, hx⟩ := hg
    obtain ⟨its, rv, p, hz⟩ := I.list hq
    obtain ⟨u, hu, ru⟩ := rv.get hx
    obtain ⟨f0, f1, f2, f3, f4, f5⟩ := hf it (by simp)
    obtain ⟨_, hit⟩ := st
    have e1 : (n : Int) - 1 - ((i : Nat) : Int) = ((n - 1 - i : Nat) : Int) := by omega
    rw [e1] at hit
    refine wpAny_pyNext_rev_item hit p.isList (x := u) (by simpa using hu) fun h' st' sb => ?_
    have e2 : ((n - 1 - i : Nat) : Int) - 1 = (n : Int) - 1 - ((i + 1 : Nat) : Int) := by omega
    rw [e2] at st'
    have I1 : Inv X pins σ H { s with heap := h' } := I.turned (t' := s.toks) (fun b o hb e => (sb.2 b hb).trans e) f0 f1 f3 f4 f5
    obtain ⟨o, e, c, d⟩ := id st'
    exact ⟨u, rfl, go_of (s := { s with heap := h' }) e c d (by decide) ⟨x, H, I1, ru, ⟨rfl, fun ys hy => by rw [I.list_inj hy hq]; exact hx⟩, ⟨hin, st'⟩, fun b hb => (hf b hb).1⟩⟩
  done := by
    intro X hP hw hK hc i pins s σ H E I hf st hg
    subst hP hw hK
    obtain ⟨f0, f1, f2, f3, f4, f5⟩ := hf it (by simp)
    obtain ⟨hin, hit⟩ := st
    have hge : n ≤ i := hg
    have e1 : (n : Int) - 1 - ((i : Nat) : Int) = -1 := by omega
    rw [e1] at hit
    exact wpAny_pyNext_rev_end (I.ok.hd hc) hit fun h' eb => ⟨rfl, I.turned (t' := s.toks) (fun b o hb e => eb b o hb e) f0 f1 f3 f4 f5⟩
  self := fun A i s Q E st h => wpAny_pyIter_revIter st.2 h
def iRev (K : PySem.W.Frag) (ta : TA) : TI := fun σ H R => ta σ H fun vs H1 => ∃ (a : Addr) (xs : List V), vs = [.ref a] ∧ SqL K H1 a xs ∧ R (Itv K a xs.length) H1
section
variable {X : Cx} {tg : Expr}
theorem pi_reversed {e : Expr} {ta : TA} {p pos : Pos} (hg : Gl X "reversed") (hm : X.mg "reversed" = none) (ha : PA X [e] ta) (hs : starEach [e] X.env = [(false, eval e X.env)] := by rfl) : PI X tg (.Call (.Name "reversed" p) [e] [] pos) (iRev X.K ta) := by
  intro pins s σ H R I h
  refine Call_ (ld_blt I hg hm boot_reversed5 (PyProof.Rows.callWith_type1 (thn (ha pos pins s σ H _ I h) fun us s1 ⟨vs, H1, I1, r1, q1⟩ => ?_) hs rfl))
  obtain ⟨a, xs, e, hq, q⟩ := q1
  subst e
  cases r1 with
  | cons r rr =>
    cases rr
    cases r
    obtain ⟨its, rv, p', hz⟩ := I1.list hq
    have hl := rv.length
    have e1 : ((its.toArray.size : Nat) : Int) - 1 = (xs.length : Int) - 1 - ((0 : Nat) : Int) := by simp only [List.size_toArray]; omega
    refine call_reversed_list p'.isList (wpAny_pyIter_revIter (l := a) (i := ((its.toArray.size : Nat) : Int) - 1) ⟨_, Heap.get?_push_size _ rfl, rfl, rfl⟩ ?_)
    refine pi_one (tk := s1.toks) I1 _ (turn_rev a _ xs.length) ⟨Nat.zero_le _, ?_⟩ q
    rw [← e1]
    exact ⟨_, Heap.get?_push_size _ rfl, rfl, rfl⟩
end

section
variable {prog : Program} {w : World} {A : Around} {E : Value → Shared → Prop} {s : Shared}
end

section
variable {X : Cx} {pins : List (Addr × Obj)} {σ : St} {H : Hp} {s : Shared} {d : Addr} {o : Obj}
end

section
variable {P : Program} {w : World} {K : PySem.W.Frag} {tg : Expr} {d : Addr} {o : Obj} {es : Array DictEntry} {ep : Nat}
end

section
variable {X : Cx} {tg e : Expr} {td : TE} {apos cpos : Pos}
end

end L2

section 
namespace Bits
open PySem PyProof.Rows

end Bits
end 

section 
namespace TL
open PySem PySem.Builtin PySem.Builtin.Str PySem.StrLaws

end TL
end 

namespace L2
open PySem PySem.Spec PyProof.Rows

section
variable {X : Cx} {pins : List (Addr × Obj)} {σ : St} {H : Hp} {s : Shared} {Q : VK}
end

section
variable {X : Cx}

end

section
variable {X : Cx} {o e : Expr} {to te : TE}
end
end L2

namespace L2
open PySem PySem.Spec PyProof.Rows

section
variable {X : Cx}
end

end L2

namespace Att
open PySem PySem.W PySem.Calls PyProof.Rows

section
variable {prog : Program} {w : World} {A : Around} {E : Value → Shared → Prop} {s : Shared} {K : Frag}

end
end Att

namespace L2
open PySem PySem.Spec PyProof.Rows

end L2

namespace L2
open PySem PySem.Spec PyProof.Rows

abbrev KOf {K : PySem.W.Frag} {h : Heap} (_ : K.In h) : PySem.W.Frag := K

end L2


namespace L2
open PySem PySem.Spec PyProof.Rows

def inClass (s : Stmt) (j : Nat) : Stmt := match s with
  | .ClassDef _ _ _ body _ _ _ _ _ _ _ => body.getD j (.Pass ⟨0, 0, 0, 0⟩)
  | _ => .Pass ⟨0, 0, 0, 0⟩
def defArgs (s : Stmt) : Arguments := match s with
  | .FunctionDef _ a _ _ _ _ _ _ _ _ => a
  | _ => { posonlyargs := [], args := [], vararg := none, kwonlyargs := [], kw_defaults := [], kwarg := none, defaults := [] }
def defBody (s : Stmt) : List Stmt := match s with
  | .FunctionDef _ _ b _ _ _ _ _ _ _ => b
  | _ => []
def defScope (s : Stmt) : Scope := match s with
  | .FunctionDef _ _ _ _ _ _ sc _ _ _ => sc
  | _ => { kind := .function, names := [], isGenerator := false, isCoroutine := false }

abbrev CX0 : CXT := fun _ _ _ _ _ _ => False
abbrev E0 : XK := fun _ _ _ => False
theorem pass0 {X : Cx} : Passes CX0 X E0 := fun _ _ _ _ _ _ _ h => h.elim

structure Fun (K : PySem.W.Frag) (x qual : Str) (st : Stmt) (f : Addr) (fd : FuncData) : Prop where
  ex : ∃ (oc : Value) (od : Option Addr) (kV doc pm : Value) (an : Option Addr) (cdv ct : Value) (osl : Array (Option Value)),
    fd = PySem.W.fnOf x qual (defArgs st) (defBody st) (defScope st) .none kV doc pm an cdv ct ∧ K.lookup f = some ⟨oc, od, .func fd, osl⟩ ∧ PySem.W.codeIn K cdv qual = true
  kp : PySem.W.keepIn K (.ref f) = true
section
variable {P : Program} {w : World} {K : PySem.W.Frag} {mg : Str → Option Value} {base : Heap}
theorem Fun.ok {x qual : Str} {st : Stmt} {f : Addr} {fd : FuncData} {N ps : List Str} {k : Nat} {sp : Sp} (F : Fun K x qual st f fd) (S : FnScope N ps (defScope st)) (len : ∀ vs H Q E, sp vs H Q E → vs.length = ps.length)
    (hbody : ∀ (cdv : Value) (A : Around) (outer : List Env) (s : Shared) (H : Hp) (vs : List V) (Q : VK) (E : XK), Room k (A.deeper (envOfC qual (defScope st) s.heap.objs.size f cdv)) → sp vs H Q E →
      ∃ t, PSs (cxOf CX0 P w K mg base N qual (defScope st) f cdv A outer s H E).nox (defBody st) t ∧ t { nx := fun _ H' => Q .non H', rt := Q } (start N vs) H) : FnOk P w K mg base CX0 (k + 1) f fd ps sp := by
  obtain ⟨oc, od, kV, doc, pm, an, cdv, ct, osl, rfl, lk, hcd⟩ := F.ex
  refine fn_of lk hcd S len fun A outer s H vs Q E hr hsp => ?_
  obtain ⟨t, h, q⟩ := hbody cdv A outer s H vs Q E hr hsp
  exact ⟨t, h.nox, q⟩
theorem Fun.binds {x qual : Str} {st : Stmt} {f : Addr} {fd : FuncData} {ps : List Str} (F : Fun K x qual st f fd)
    (h : ∀ (kV doc pm : Value) (an : Option Addr) (cdv ct : Value) (us : List Value), us.length = ps.length → bindArgs (PySem.W.fnOf x qual (defArgs st) (defBody st) (defScope st) .none kV doc pm an cdv ct) ⟨us, []⟩ = pure (ps.zip us)) : Binds K fd ps [] := by
  obtain ⟨oc, od, kV, doc, pm, an, cdv, ct, osl, rfl, lk, hcd⟩ := F.ex
  exact .all (h kV doc pm an cdv ct)
theorem fun_mk {x qual : Str} {st : Stmt} {f : Addr} {oc : Value} {od an : Option Addr} {osl : Array (Option Value)} {kV doc pm cdv ct : Value} (l : K.lookup f = some ⟨oc, od, .func (PySem.W.fnOf x qual (defArgs st) (defBody st) (defScope st) .none kV doc pm an cdv ct), osl⟩)
    (c : PySem.W.codeIn K cdv qual = true) (k : PySem.W.keepIn K (.ref f) = true) : Fun K x qual st f (PySem.W.fnOf x qual (defArgs st) (defBody st) (defScope st) .none kV doc pm an cdv ct) := ⟨⟨oc, od, kV, doc, pm, an, cdv, ct, osl, rfl, l, c⟩, k⟩
end
theorem hu_of {A : Around} {k : Nat} (hr : Room k A) : A.units + 1 < cLine := Nat.lt_of_le_of_lt (Nat.add_le_add_left (by decide : 1 ≤ 64) _) hr.units
section
variable {X : Cx}
theorem pv (i : Nat) {x : Str} {pos : Pos} (hN : X.N[i]? = some x := by rfl) (hv : Vis X.env.scope x := by first | exact Or.inl rfl | exact Or.inr (Or.inl rfl) | exact Or.inr (Or.inr rfl)) (hd : (x == ("__debug__" : Str)) = false := by decide)
    (hcd : (x == ("__classdict__" : Str)) = false := by decide) : PE X (.Name x pos) (tVar i) := pe_var hN hv hd hcd
theorem call_lenD : CallR X (.builtin "len") (fun xs H Q => ∃ a kvs, xs = [V.ref a] ∧ H a = some (.dK kvs) ∧ Q (.int kvs.length) H) := by
  intro pins s σ H xs us Q I r h
  obtain ⟨a, kvs, rfl, ha, q⟩ := h
  obtain ⟨u, rfl, ru⟩ := vals1 r
  cases ru
  exact d_len I (.inl ha) fun t s' I' => ⟨.int kvs.length, H, I', ⟨t, rfl⟩, q⟩
end

theorem iteF {A B : Prop} (h : B) : if false = true then A else B := by
  rw [if_neg Bool.false_ne_true]
  exact h
theorem iteT {A B : Prop} (h : A) : if true = true then A else B := by
  rw [if_pos rfl]
  exact h
theorem ite2 {c A B : Prop} [Decidable c] (h1 : c → A) (h2 : ¬ c → B) : if c then A else B := by
  by_cases h : c
  · rw [if_pos h]
    exact h1 h
  · rw [if_neg h]
    exact h2 h
def Same (H H' : Hp) : Prop := ∀ b o, H b = some o → H' b = some o
theorem Same.refl (H : Hp) : Same H H := fun _ _ h => h
theorem Same.trans {H H1 H2 : Hp} (a : Same H H1) (b : Same H1 H2) : Same H H2 := fun c o h => b c o (a c o h)
theorem Same.free {H H' : Hp} (e : Same H H') {l : Addr} (h : H' l = Option.none) : H l = Option.none := by
  cases q : H l with
  | none => rfl
  | some o =>
    rw [e l o q] at h
    cases h
theorem Same.seq {K : PySem.W.Frag} {H H' : Hp} {a : Addr} {xs : List V} (e : Same H H') (h : SqL K H a xs) : SqL K H' a xs := by
  rcases h with (h | ⟨o, h⟩) | h
  · exact .inl (.inl (e _ _ h))
  · exact .inl (.inr ⟨o, e _ _ h⟩)
  · exact .inr h

section
variable {κ : Type} [DecidableEq κ]
theorem valV_not {kvs : List (κ × V)} {k : κ} (h : valV kvs k = none) : ¬ k ∈ kvs.map (·.1) := by
  intro m
  obtain ⟨p, hp, e⟩ := List.mem_map.mp m
  have q : (kvs.any fun kv => decide (kv.1 = k)) = true := List.any_eq_true.mpr ⟨p, hp, decide_eq_true e⟩
  rw [valV_any, h] at q
  exact absurd q (by simp)
theorem nd_snoc : ∀ {l : List κ} {k : κ}, l.Nodup → ¬ k ∈ l → (l ++ [k]).Nodup
  | [], k, _, _ => by simp
  | a :: r, k, h, hk => by
    obtain ⟨h1, h2⟩ := List.nodup_cons.mp h
    show (a :: (r ++ [k])).Nodup
    refine List.nodup_cons.mpr ⟨fun m => ?_, nd_snoc h2 fun m => hk (List.mem_cons.mpr (Or.inr m))⟩
    rcases List.mem_append.mp m with q | q
    · exact h1 q
    · exact hk (List.mem_cons.mpr (Or.inl (List.mem_singleton.mp q).symm))
theorem nd_putK {kvs : List (κ × V)} {k : κ} (v : V) (hn : (kvs.map (·.1)).Nodup) (h : valV kvs k = none) : ((putK kvs k v).map (·.1)).Nodup := by
  rw [putK_new v h, List.map_append]
  exact nd_snoc hn (valV_not h)
theorem dropK_pos {p : κ × V} {r : List (κ × V)} {k : κ} (e : p.1 = k) : dropK (p :: r) k = dropK r k := by
  unfold dropK
  rw [List.filter_cons, if_neg (by simp [e])]
theorem dropK_neg {p : κ × V} {r : List (κ × V)} {k : κ} (e : ¬ p.1 = k) : dropK (p :: r) k = p :: dropK r k := by
  unfold dropK
  rw [List.filter_cons, if_pos (by simp [e])]
theorem dropK_mem {kvs : List (κ × V)} {k : κ} {p : κ × V} (h : p ∈ dropK kvs k) : p ∈ kvs := (List.mem_filter.mp h).1
theorem nd_dropK : ∀ {kvs : List (κ × V)} {k : κ}, (kvs.map (·.1)).Nodup → ((dropK kvs k).map (·.1)).Nodup
  | [], _, _ => List.nodup_nil
  | p :: r, k, h => by
    have h : (p.1 :: r.map (·.1)).Nodup := h
    obtain ⟨h1, h2⟩ := List.nodup_cons.mp h
    by_cases e : p.1 = k
    · rw [dropK_pos e]
      exact nd_dropK h2
    · rw [dropK_neg e]
      show (p.1 :: (dropK r k).map (·.1)).Nodup
      refine List.nodup_cons.mpr ⟨fun m => h1 ?_, nd_dropK h2⟩
      obtain ⟨q, hq, eq⟩ := List.mem_map.mp m
      exact List.mem_map.mpr ⟨q, dropK_mem hq, eq⟩
end
theorem at_of {xs : List V} {z : Int} {j : Nat} {v : V} (e : z = (j : Int)) (h : xs[j]? = some v) : atI xs z = some v := by
  rw [e]
  exact atI_nat h
theorem Same.made {H H1 : Hp} {x dx C : Addr} (nx : H x = Option.none) (nd : H dx = Option.none) (k : ∀ b o, (upd (upd H dx (.own x)) x (.ins C dx [])) b = some o → b ≠ x → H1 b = some o) : Same H H1 := fun b o e =>
  k b o (by rw [upd_ne (ne_of_none e nx), upd_ne (ne_of_none e nd)]; exact e) (ne_of_none e nx)
end L2
end
section
section
set_option Elab.async false
set_option linter.all false
set_option maxRecDepth 100000
set_option maxHeartbeats 2000000
namespace L2
open PySem PySem.Spec PyProof.Rows
open PySem.W (WData Codec OpenSpec Well WellAll ReadsW ReadsAllW)
mutual
/-- x stands for the datum d, lists and tuples all the way -/
inductive Dw (K : PySem.W.Frag) (H : Hp) : V → WData → Prop
  | non : Dw K H .non .none
  | bl (b : Bool) : Dw K H (.bl b) (.bool b)
  | int (i : Int) : Dw K H (.int i) (.int i)
  | str (x : Str) : Dw K H (.str x) (.str x)
  | byt (b : Array UInt8) : Dw K H (.byt b) (.bytes b.toList)
  | lst {a : Addr} {xs : List V} {ds : List WData} : SqL K H a xs → DwAll K H xs ds → Dw K H (.ref a) (.list ds)
  | tup {a : Addr} {xs : List V} {ds : List WData} : SqT K H a xs → DwAll K H xs ds → Dw K H (.ref a) (.tuple ds)
inductive DwAll (K : PySem.W.Frag) (H : Hp) : List V → List WData → Prop
  | nil : DwAll K H [] []
  | cons {v : V} {vs : List V} {d : WData} {ds : List WData} : Dw K H v d → DwAll K H vs ds → DwAll K H (v :: vs) (d :: ds)
end
theorem dw_ints {K : PySem.W.Frag} {H : Hp} : ∀ ns : List Int, DwAll K H (ns.map V.int) (ns.map WData.int)
  | [] => .nil
  | n :: r => .cons (.int n) (dw_ints r)
theorem ints_dw {K : PySem.W.Frag} {H : Hp} : ∀ (ns : List Int) (xs : List V), DwAll K H xs (ns.map WData.int) → xs = ns.map V.int
  | [], xs, h => by
    cases h
    rfl
  | n :: r, xs, h => by
    cases h with
    | cons h1 h2 =>
      cases h1
      rw [ints_dw r _ h2] <;> rfl
section
variable {P : Program} {w : World} {K : PySem.W.Frag} {H : Hp} {h : Heap} {R : PySem.W.WRecords} {cl : Str → Option Addr}
theorem sqL_at {a : Addr} {xs : List V} (hok : HOk P w H h) (KX : K.In h) (q : SqL K H a xs) : ∃ (its : List Value) (o : Obj) (n : Nat), Vals xs its ∧ h.get? a = some o ∧ o.cls = .type "list" ∧ o.data = .seq its.toArray n := by
  rcases q with q | ⟨o, its, n, e, hc, _, hd, _, hv⟩
  · obtain ⟨_, its, n, hv, e⟩ := (show ObjOk P w H h a (.lst xs) from q.ok hok)
    exact ⟨its, _, n, hv, e, rfl, rfl⟩
  · exact ⟨its.toList, o, n, hv, KX _ _ e, hc, by simp [hd]⟩
theorem sqT_at {a : Addr} {xs : List V} (hok : HOk P w H h) (KX : K.In h) (q : SqT K H a xs) : ∃ (its : List Value) (o : Obj) (n : Nat), Vals xs its ∧ h.get? a = some o ∧ o.cls = .type "tuple" ∧ o.data = .seq its.toArray n := by
  rcases q with q | ⟨o, its, n, e, hc, hd, _, hv⟩
  · obtain ⟨_, its, hv, o, e, hc, n, hd⟩ := (show ObjOk P w H h a (.tup xs) from q.ok hok)
    exact ⟨its, o, n, hv, e, hc, hd⟩
  · exact ⟨its.toList, o, n, hv, KX _ _ e, hc, by simp [hd]⟩
mutual
theorem Dw.reads (hok : HOk P w H h) (KX : K.In h) : ∀ (d : WData) (v : V) (u : Value), Dw K H v d → RelV v u → ∃ as, ReadsW R cl h u d as
  | .none, _, _, x, r => by
    cases x
    cases r
    exact ⟨_, ReadsW.none⟩
  | .bool b, _, _, x, r => by
    cases x
    cases r
    exact ⟨_, ReadsW.bool b⟩
  | .int i, _, _, x, r => by
    cases x
    obtain ⟨t, rfl⟩ := r
    exact ⟨_, ReadsW.int i t⟩
  | .str s, _, _, x, r => by
    cases x
    obtain ⟨t, rfl⟩ := r
    exact ⟨_, ReadsW.str s t⟩
  | .bytes b, _, _, x, r => by
    cases x
    obtain ⟨t, rfl⟩ := r
    exact ⟨_, ReadsW.bytes _ t⟩
  | .list ds, _, _, x, r => by
    cases x with
    | lst hs ha =>
      cases r
      obtain ⟨its, o, n, rv, ho, hc, hd⟩ := sqL_at hok KX hs
      obtain ⟨as, hr⟩ := Dw.readsAll hok KX ds _ its ha rv
      exact ⟨_, ReadsW.list ho hc hd hr⟩
  | .tuple ds, _, _, x, r => by
    cases x with
    | tup hs ha =>
      cases r
      obtain ⟨its, o, n, rv, ho, hc, hd⟩ := sqT_at hok KX hs
      obtain ⟨as, hr⟩ := Dw.readsAll hok KX ds _ its ha rv
      exact ⟨_, ReadsW.tuple ho hc hd hr⟩
  | .float _, _, _, x, _ => by cases x
  | .dict _, _, _, x, _ => by cases x
  | .bytearray _, _, _, x, _ => by cases x
  | .set _, _, _, x, _ => by cases x
  | .frozenset _, _, _, x, _ => by cases x
  | .obj _ _, _, _, x, _ => by cases x
theorem Dw.readsAll (hok : HOk P w H h) (KX : K.In h) : ∀ (ds : List WData) (vs : List V) (us : List Value), DwAll K H vs ds → Vals vs us → ∃ as, ReadsAllW R cl h us ds as
  | [], _, _, x, r => by
    cases x
    cases r
    exact ⟨_, ReadsAllW.nil⟩
  | d :: ds, _, _, x, r => by
    cases x with
    | cons h1 h2 =>
      cases r with
      | cons r1 r2 =>
        obtain ⟨as, q1⟩ := Dw.reads hok KX d _ _ h1 r1
        obtain ⟨bs, q2⟩ := Dw.readsAll hok KX ds _ _ h2 r2
        exact ⟨_, ReadsAllW.cons q1 q2⟩
end
end
mutual
/-- data that a codec tells -/
def plW : WData → Bool
  | .none => true
  | .bool _ => true
  | .int _ => true
  | .str _ => true
  | .bytes _ => true
  | .list xs => plWs xs
  | .tuple xs => plWs xs
  | _ => false
def plWs : List WData → Bool
  | [] => true
  | x :: r => plW x && plWs r
end
theorem plWs_map {α : Type} {f : α → WData} (h : ∀ a, plW (f a) = true) : ∀ l : List α, plWs (l.map f) = true
  | [] => rfl
  | x :: r => by
    show (plW (f x) && plWs (r.map f)) = true
    rw [h x, plWs_map h r] <;> rfl
theorem pl_enc : ∀ (c : Codec) (a : c.denote), plW (c.enc a) = true
  | .unit, _ => rfl
  | .bool, _ => rfl
  | .int _ _, _ => rfl
  | .nat _ _, _ => rfl
  | .u8, _ => rfl
  | .bytes _ _, _ => rfl
  | .text _ _ _ _, _ => rfl
  | .list _ _ c, a => plWs_map (fun x => pl_enc c x) a
  | .pair c d, a => by
    show (plW (c.enc a.1) && (plW (d.enc a.2) && true)) = true
    rw [pl_enc c a.1, pl_enc d a.2] <;> rfl
  | .triple c d e, a => by
    show (plW (c.enc a.1) && (plW (d.enc a.2.1) && (plW (e.enc a.2.2) && true))) = true
    rw [pl_enc c a.1, pl_enc d a.2.1, pl_enc e a.2.2] <;> rfl
  | .option c, none => rfl
  | .option c, some x => pl_enc c x
theorem pl_encAll : ∀ (cs : List Codec) (a : Codec.denoteAll cs), plWs (Codec.encAll cs a) = true
  | [], _ => rfl
  | c :: cs, a => by
    show (plW (c.enc a.1) && plWs (Codec.encAll cs a.2)) = true
    rw [pl_enc c a.1, pl_encAll cs a.2] <;> rfl
theorem weight_mem : ∀ {xs : List WData} {d : WData}, d ∈ xs → d.weight ≤ WData.weightAll xs
  | [], d, h => absurd h (by simp)
  | x :: r, d, h => by
    show d.weight ≤ x.weight + 1 + WData.weightAll r
    rcases List.mem_cons.mp h with e | m
    · rw [e]
      omega
    · have z := weight_mem m
      omega
def toV : Value → V
  | .none => .non
  | .bool b => .bl b
  | .int i _ => .int i
  | .str x _ => .str x
  | .bytes b _ => .byt b
  | .ref a => .ref a
  | _ => .non
def OkU (A : List Addr) : Value → Prop
  | .none => True
  | .bool _ => True
  | .int _ _ => True
  | .str _ _ => True
  | .bytes _ _ => True
  | .ref a => a ∈ A
  | _ => False
theorem OkU.mono {A B : List Addr} (h : ∀ a ∈ A, a ∈ B) : ∀ {u : Value}, OkU A u → OkU B u := fun {u} x => by
  cases u with
  | ref a => exact h a x
  | none => trivial
  | bool b => trivial
  | int i t => trivial
  | str s t => trivial
  | bytes b t => trivial
  | _ => exact False.elim x
theorem relV_toV {A : List Addr} {u : Value} (x : OkU A u) : RelV (toV u) u := by
  cases u with
  | ref a => rfl
  | none => rfl
  | bool b => rfl
  | int i t => exact ⟨t, rfl⟩
  | str s t => exact ⟨t, rfl⟩
  | bytes b t => exact ⟨t, rfl⟩
  | _ => exact False.elim x
theorem vals_toV {A : List Addr} : ∀ {vs : List Value}, (∀ u ∈ vs, OkU A u) → Vals (vs.map toV) vs
  | [], _ => .nil
  | u :: r, h => .cons (relV_toV (h u (List.mem_cons_self ..))) (vals_toV fun x hx => h x (List.mem_cons_of_mem _ hx))
def ArgOb (h : Heap) (A : List Addr) (a : Addr) : Prop := ∃ vs : List Value, vs.length ≤ sizeLine ∧ (∀ u ∈ vs, OkU A u) ∧
  (h.get? a = some { cls := .type "list", data := .seq vs.toArray } ∨ h.get? a = some { cls := .type "tuple", data := .seq vs.toArray })
theorem ArgOb.mono {h : Heap} {A B : List Addr} {a : Addr} (k : ∀ a ∈ A, a ∈ B) (x : ArgOb h A a) : ArgOb h B a := by
  obtain ⟨vs, h1, h2, h3⟩ := x
  exact ⟨vs, h1, fun u hu => (h2 u hu).mono k, h3⟩
theorem wellAll_len {P : Params} {h : Heap} : ∀ {vs : List Value} {ds : List WData}, WellAll P h vs ds → vs.length = ds.length
  | _, _, .nil => rfl
  | _, _, .cons _ b => by
    show _ + 1 = _ + 1
    rw [wellAll_len b]
theorem well_list {P : Params} {h : Heap} {v : Value} {ds : List WData} (x : Well P h v (.list ds)) : ∃ (a : Addr) (vs : List Value), v = .ref a ∧ h.get? a = some { cls := .type "list", data := .seq vs.toArray } ∧ WellAll P h vs ds := by
  cases x with
  | list ho hall => exact ⟨_, _, rfl, ho, hall⟩
theorem well_tuple {P : Params} {h : Heap} {v : Value} {ds : List WData} (x : Well P h v (.tuple ds)) : ∃ (a : Addr) (vs : List Value), v = .ref a ∧ h.get? a = some { cls := .type "tuple", data := .seq vs.toArray } ∧ WellAll P h vs ds := by
  cases x with
  | tuple ho hall => exact ⟨_, _, rfl, ho, hall⟩
theorem well_cons {P : Params} {h : Heap} {us : List Value} {d : WData} {ds : List WData} (x : WellAll P h us (d :: ds)) : ∃ (v : Value) (vs : List Value), us = v :: vs ∧ Well P h v d ∧ WellAll P h vs ds := by
  cases x with
  | cons a b => exact ⟨_, _, rfl, a, b⟩
theorem line_of {n : Nat} (h : n ≤ 1048576) : n ≤ sizeLine := Nat.le_trans h (by decide)
section
variable {P : Params} {h : Heap}
mutual
theorem area_one : ∀ (d : WData) (v : Value), Well P h v d → plW d = true → d.weight ≤ 1048576 → ∃ A : List Addr, OkU A v ∧ ∀ a ∈ A, ArgOb h A a
  | .none, _, x, _, _ => by
    cases x
    exact ⟨[], trivial, fun a m => absurd m (by simp)⟩
  | .bool b, _, x, _, _ => by
    cases x
    exact ⟨[], trivial, fun a m => absurd m (by simp)⟩
  | .int i, _, x, _, _ => by
    cases x
    exact ⟨[], trivial, fun a m => absurd m (by simp)⟩
  | .str s, _, x, _, _ => by
    cases x
    exact ⟨[], trivial, fun a m => absurd m (by simp)⟩
  | .bytes b, _, x, _, _ => by
    cases x
    exact ⟨[], trivial, fun a m => absurd m (by simp)⟩
  | .list ds, _, x, p, z => by
    obtain ⟨a, vs, rfl, ho, hall⟩ := well_list x
    have z2 : WData.weightAll ds ≤ 1048576 := z
    obtain ⟨A, h1, h2⟩ := area_all ds _ hall p fun d hd => Nat.le_trans (weight_mem hd) z2
    have k : ∀ b ∈ A, b ∈ a :: A := fun b hb => List.mem_cons_of_mem _ hb
    refine ⟨a :: A, List.mem_cons_self .., fun b hb => ?_⟩
    rcases List.mem_cons.mp hb with e | m
    · rw [e]
      exact ⟨vs, line_of (by rw [wellAll_len hall]; exact Nat.le_trans (PySem.W.length_le_weightAllW ds) z2), fun u hu => (h1 u hu).mono k, .inl ho⟩
    · exact (h2 b m).mono k
  | .tuple ds, _, x, p, z => by
    obtain ⟨a, vs, rfl, ho, hall⟩ := well_tuple x
    have z2 : WData.weightAll ds ≤ 1048576 := z
    obtain ⟨A, h1, h2⟩ := area_all ds _ hall p fun d hd => Nat.le_trans (weight_mem hd) z2
    have k : ∀ b ∈ A, b ∈ a :: A := fun b hb => List.mem_cons_of_mem _ hb
    refine ⟨a :: A, List.mem_cons_self .., fun b hb => ?_⟩
    rcases List.mem_cons.mp hb with e | m
    · rw [e]
      exact ⟨vs, line_of (by rw [wellAll_len hall]; exact Nat.le_trans (PySem.W.length_le_weightAllW ds) z2), fun u hu => (h1 u hu).mono k, .inr ho⟩
    · exact (h2 b m).mono k
  | .float _, _, _, p, _ => Bool.noConfusion (show false = true from p)
  | .dict _, _, _, p, _ => Bool.noConfusion (show false = true from p)
  | .bytearray _, _, _, p, _ => Bool.noConfusion (show false = true from p)
  | .set _, _, _, p, _ => Bool.noConfusion (show false = true from p)
  | .frozenset _, _, _, p, _ => Bool.noConfusion (show false = true from p)
  | .obj _ _, _, _, p, _ => Bool.noConfusion (show false = true from p)
theorem area_all : ∀ (ds : List WData) (vs : List Value), WellAll P h vs ds → plWs ds = true → (∀ d ∈ ds, d.weight ≤ 1048576) → ∃ A : List Addr, (∀ u ∈ vs, OkU A u) ∧ ∀ a ∈ A, ArgOb h A a
  | [], _, x, _, _ => by
    cases x
    exact ⟨[], fun u m => absurd m (by simp), fun a m => absurd m (by simp)⟩
  | d :: ds, _, x, p, z => by
    obtain ⟨v, vs, rfl, x1, x2⟩ := well_cons x
    have q : plW d = true ∧ plWs ds = true := Bool.and_eq_true_iff.mp p
    obtain ⟨A, a1, a2⟩ := area_one d v x1 q.1 (z d (List.mem_cons_self ..))
    obtain ⟨B, b1, b2⟩ := area_all ds vs x2 q.2 fun e he => z e (List.mem_cons_of_mem _ he)
    have kA : ∀ b ∈ A, b ∈ A ++ B := fun b hb => List.mem_append.mpr (.inl hb)
    have kB : ∀ b ∈ B, b ∈ A ++ B := fun b hb => List.mem_append.mpr (.inr hb)
    refine ⟨A ++ B, fun u hu => ?_, fun b hb => ?_⟩
    · rcases List.mem_cons.mp hu with e | m
      · rw [e]
        exact a1.mono kA
      · exact (b1 u m).mono kB
    · rcases List.mem_append.mp hb with m | m
      · exact (a2 b m).mono kA
      · exact (b2 b m).mono kB
end
end
def hoOf (o : Obj) : Option HO := match o.data with
  | .seq vs _ => if (o.cls == Value.type "list") = true then some (.frz o (.lst (vs.toList.map toV))) else some (.frz o (.tup (vs.toList.map toV)))
  | _ => none
def argH (K : PySem.W.Frag) (h : Heap) (A : List Addr) : Hp := fun b => if b ∈ A then (if (K.lookup b).isNone = true then (h.get? b).bind hoOf else none) else none
def OnlyF (H : Hp) : Prop := ∀ b, H b = none ∨ ∃ o u, H b = some (.frz o u)
theorem hoOf_lst (vs : List Value) : hoOf { cls := .type "list", data := .seq vs.toArray } = some (.frz { cls := .type "list", data := .seq vs.toArray } (.lst (vs.map toV))) := by
  show (if (Value.type "list" == Value.type "list") = true then some (HO.frz { cls := .type "list", data := .seq vs.toArray } (.lst (vs.toArray.toList.map toV))) else some (HO.frz { cls := .type "list", data := .seq vs.toArray } (.tup (vs.toArray.toList.map toV)))) = _
  rw [if_pos (beq_self_eq_true _)]
theorem hoOf_tup (vs : List Value) : hoOf { cls := .type "tuple", data := .seq vs.toArray } = some (.frz { cls := .type "tuple", data := .seq vs.toArray } (.tup (vs.map toV))) := by
  show (if (Value.type "tuple" == Value.type "list") = true then some (HO.frz { cls := .type "tuple", data := .seq vs.toArray } (.lst (vs.toArray.toList.map toV))) else some (HO.frz { cls := .type "tuple", data := .seq vs.toArray } (.tup (vs.toArray.toList.map toV)))) = _
  rw [if_neg (by decide)]
section
variable {P : Program} {w : World} {K : PySem.W.Frag} {h : Heap} {A : List Addr}
theorem argH_at {b : Addr} {o : Obj} (hb : b ∈ A) (hk : K.lookup b = none) (e : h.get? b = some o) : argH K h A b = hoOf o := by
  unfold argH
  rw [if_pos hb, hk, if_pos (show (none : Option Obj).isNone = true from rfl), e] <;> rfl
theorem of_argH {b : Addr} {u : HO} (q : argH K h A b = some u) : b ∈ A ∧ K.lookup b = none := by
  unfold argH at q
  by_cases hb : b ∈ A
  · rw [if_pos hb] at q
    cases hk : K.lookup b with
    | none => exact ⟨hb, rfl⟩
    | some o =>
      rw [hk, if_neg (by simp)] at q
      cases q
  · rw [if_neg hb] at q
    cases q
theorem argH_is (ar : ∀ a ∈ A, ArgOb h A a) {b : Addr} {u : HO} (q : argH K h A b = some u) : K.lookup b = none ∧ ∃ vs : List Value, vs.length ≤ sizeLine ∧ (∀ u ∈ vs, OkU A u) ∧
    ((h.get? b = some { cls := .type "list", data := .seq vs.toArray } ∧ u = .frz { cls := .type "list", data := .seq vs.toArray } (.lst (vs.map toV))) ∨
     (h.get? b = some { cls := .type "tuple", data := .seq vs.toArray } ∧ u = .frz { cls := .type "tuple", data := .seq vs.toArray } (.tup (vs.map toV)))) := by
  obtain ⟨hb, hk⟩ := of_argH q
  obtain ⟨vs, h1, h2, h3⟩ := ar b hb
  refine ⟨hk, vs, h1, h2, ?_⟩
  rcases h3 with e | e
  · rw [argH_at hb hk e, hoOf_lst] at q
    exact .inl ⟨e, (Option.some.inj q).symm⟩
  · rw [argH_at hb hk e, hoOf_tup] at q
    exact .inr ⟨e, (Option.some.inj q).symm⟩
theorem argH_only (ar : ∀ a ∈ A, ArgOb h A a) : OnlyF (argH K h A) := fun b => by
  cases q : argH K h A b with
  | none => exact .inl rfl
  | some u =>
    obtain ⟨_, vs, _, _, ⟨_, e⟩ | ⟨_, e⟩⟩ := argH_is ar q
    · exact .inr ⟨_, _, by rw [e]⟩
    · exact .inr ⟨_, _, by rw [e]⟩
theorem argH_ok (ar : ∀ a ∈ A, ArgOb h A a) : HOk P w (argH K h A) h := fun b u q => by
  obtain ⟨_, vs, h1, h2, ⟨e, rfl⟩ | ⟨e, rfl⟩⟩ := argH_is ar q
  · exact ⟨e, by rw [List.length_map]; exact h1, vs, _, vals_toV h2, e⟩
  · exact ⟨e, by rw [List.length_map]; exact h1, vs, vals_toV h2, _, e, rfl, _, rfl⟩
theorem seq_inj {c c' : Value} {vs us : List Value} (e : (some { cls := c, data := .seq vs.toArray } : Option Obj) = some { cls := c', data := .seq us.toArray }) : c = c' ∧ vs = us := by
  have e1 := Option.some.inj e
  have e2 : c = c' := congrArg Obj.cls e1
  have e3 : Data.seq vs.toArray = Data.seq us.toArray := congrArg Obj.data e1
  injection e3 with e4
  refine ⟨e2, ?_⟩
  have e5 := congrArg Array.toList e4
  simpa using e5
theorem argL (KX : K.In h) (ar : ∀ a ∈ A, ArgOb h A a) {a : Addr} {vs : List Value} (ha : a ∈ A) (e : h.get? a = some { cls := .type "list", data := .seq vs.toArray }) : (∀ u ∈ vs, OkU A u) ∧ SqL K (argH K h A) a (vs.map toV) := by
  obtain ⟨us, h1, h2, h3⟩ := ar a ha
  have hu : us = vs := by
    rcases h3 with q | q
    · rw [e] at q
      exact (seq_inj q).2.symm
    · rw [e] at q
      exact absurd (Value.type.inj (seq_inj q).1) (by decide)
  subst hu
  refine ⟨h2, ?_⟩
  cases hk : K.lookup a with
  | none => exact .inl (.inr ⟨_, by rw [argH_at ha hk e, hoOf_lst]⟩)
  | some o =>
    have e2 := KX a o hk
    rw [e] at e2
    obtain rfl := Option.some.inj e2
    exact .inr ⟨_, us.toArray, _, hk, rfl, rfl, rfl, by rw [List.size_toArray]; exact h1, by simpa using vals_toV h2⟩
theorem argT (KX : K.In h) (ar : ∀ a ∈ A, ArgOb h A a) {a : Addr} {vs : List Value} (ha : a ∈ A) (e : h.get? a = some { cls := .type "tuple", data := .seq vs.toArray }) : (∀ u ∈ vs, OkU A u) ∧ SqT K (argH K h A) a (vs.map toV) := by
  obtain ⟨us, h1, h2, h3⟩ := ar a ha
  have hu : us = vs := by
    rcases h3 with q | q
    · rw [e] at q
      exact absurd (Value.type.inj (seq_inj q).1) (by decide)
    · rw [e] at q
      exact (seq_inj q).2.symm
  subst hu
  refine ⟨h2, ?_⟩
  cases hk : K.lookup a with
  | none => exact .inl (.inr ⟨_, by rw [argH_at ha hk e, hoOf_tup]⟩)
  | some o =>
    have e2 := KX a o hk
    rw [e] at e2
    obtain rfl := Option.some.inj e2
    exact .inr ⟨_, us.toArray, _, hk, rfl, rfl, by rw [List.size_toArray]; exact h1, by simpa using vals_toV h2⟩
mutual
theorem dw_one {Pm : Params} (KX : K.In h) (ar : ∀ a ∈ A, ArgOb h A a) : ∀ (d : WData) (v : Value), Well Pm h v d → plW d = true → OkU A v → Dw K (argH K h A) (toV v) d
  | .none, _, x, _, _ => by
    cases x
    exact .non
  | .bool b, _, x, _, _ => by
    cases x
    exact .bl b
  | .int i, _, x, _, _ => by
    cases x
    exact .int i
  | .str s, _, x, _, _ => by
    cases x
    exact .str s
  | .bytes b, _, x, _, _ => by
    cases x
    have z := Dw.byt (K := K) (H := argH K h A) b.toArray
    exact z
  | .list ds, _, x, p, hu => by
    obtain ⟨a, vs, rfl, ho, hall⟩ := well_list x
    obtain ⟨h2, hs⟩ := argL KX ar hu ho
    exact .lst hs (dw_all KX ar ds _ hall p h2)
  | .tuple ds, _, x, p, hu => by
    obtain ⟨a, vs, rfl, ho, hall⟩ := well_tuple x
    obtain ⟨h2, hs⟩ := argT KX ar hu ho
    exact .tup hs (dw_all KX ar ds _ hall p h2)
  | .float _, _, _, p, _ => Bool.noConfusion (show false = true from p)
  | .dict _, _, _, p, _ => Bool.noConfusion (show false = true from p)
  | .bytearray _, _, _, p, _ => Bool.noConfusion (show false = true from p)
  | .set _, _, _, p, _ => Bool.noConfusion (show false = true from p)
  | .frozenset _, _, _, p, _ => Bool.noConfusion (show false = true from p)
  | .obj _ _, _, _, p, _ => Bool.noConfusion (show false = true from p)
theorem dw_all {Pm : Params} (KX : K.In h) (ar : ∀ a ∈ A, ArgOb h A a) : ∀ (ds : List WData) (vs : List Value), WellAll Pm h vs ds → plWs ds = true → (∀ u ∈ vs, OkU A u) → DwAll K (argH K h A) (vs.map toV) ds
  | [], _, x, _, _ => by
    cases x
    exact .nil
  | d :: ds, _, x, p, hu => by
    obtain ⟨v, vs, rfl, x1, x2⟩ := well_cons x
    have q : plW d = true ∧ plWs ds = true := Bool.and_eq_true_iff.mp p
    exact .cons (dw_one KX ar d v x1 q.1 (hu _ (List.mem_cons_self ..))) (dw_all KX ar ds vs x2 q.2 fun u m => hu u (List.mem_cons_of_mem _ m))
end
end
theorem spec_call {P : Program} {w : World} {K : PySem.W.Frag} {mg mb : Str → Option Value} {CX : CXT} {k : Nat} {fa : Addr} {fd : FuncData} {ps : List Str} {sp : Sp} {s₁ : Shared} {vals : List Value} {ds : List WData} {R : PySem.W.WRecords} {cl : Str → Option Addr} {d0 : WData}
    (KX : K.In s₁.heap) (hns : s₁.heap.Ns mainGlobals mg) (hb : s₁.heap.Ns builtinsNs mb) (hbb : ∀ x : Str, x ≠ "__name__" → mb x = bootBuiltins x) (hlim : s₁.heap.NoLimit) (hg : s₁.gens = #[])
    (hwl : WellAll w.params s₁.heap vals ds) (hpl : plWs ds = true) (hwt : ∀ d ∈ ds, d.weight ≤ 1048576) (hr : Room k callerA)
    (F : ∀ base : Heap, K.In base → base.Ns mainGlobals mg → FnOk P w K mg base CX k fa fd ps sp) (hbind : ∀ (s : Shared) (us : List Value), us.length = ps.length → BindsTo s fd ⟨us, []⟩ (ps.zip us)) (hlen : ds.length = ps.length)
    (hsp : ∀ (H : Hp) (xs : List V), OnlyF H → DwAll K H xs ds → sp xs H (fun v H' => Dw K H' v d0) fun _ _ _ => False)
    (hCX : ∀ H e s', CX [] H s₁ (fun _ _ _ => False) e s' → False) :
    codeAny (model P w) callerA (.call (.ref fa) ⟨vals, []⟩) (fun r s' => ∃ u as, r = .ok (.ret u) ∧ ReadsW R cl s'.heap u d0 as ∧ OldK s₁.heap s'.heap ∧ s'.os = s₁.os ∧ AllBare s'.gens) s₁ := by
  obtain ⟨A, ho, ar⟩ := area_all ds vals hwl hpl hwt
  have hO : OnlyF (argH K s₁.heap A) := argH_only ar
  have hok : HOk P w (argH K s₁.heap A) s₁.heap := argH_ok ar
  have hS := dw_all KX ar ds vals hwl hpl ho
  have hV := vals_toV ho
  have hK : ∀ b u, argH K s₁.heap A b = some u → K.lookup b = none := fun b u q => (argH_is ar q).1
  have noA : ∀ {b : Addr} {o : Obj} {es : Array DictEntry} {ep : Nat}, s₁.heap.get? b = some o → o.data = .dict es ep → argH K s₁.heap A b = none := fun {b o es ep} e d => by
    cases q : argH K s₁.heap A b with
    | none => rfl
    | some u =>
      obtain ⟨_, vs, _, _, ⟨e2, _⟩ | ⟨e2, _⟩⟩ := argH_is ar q
      · rw [e2] at e
        cases e
        have d' : Data.seq vs.toArray _ = Data.dict es ep := d
        cases d'
      · rw [e2] at e
        cases e
        have d' : Data.seq vs.toArray _ = Data.dict es ep := d
        cases d'
  generalize argH K s₁.heap A = H at hO hok hS hK noA
  have base_of : ∀ {b : Addr} {o : Obj}, s₁.heap.get? b = some o → H b = none → (hidT s₁.heap H).get? b = some o := fun e n => hidT_get e n
  have nsK : ∀ {b : Addr} {m : Str → Option Value}, s₁.heap.Ns b m → (hidT s₁.heap H).Ns b m := fun {b m} ⟨o, es, ep, e, d, r⟩ => ⟨o, es, ep, base_of e (noA e d), d, r⟩
  have nK : ∀ b o, K.lookup b = some o → H b = none := fun b o e => by
    cases q : H b with
    | none => rfl
    | some u =>
      rw [hK b u q] at e
      cases e
  have hKb : K.In (hidT s₁.heap H) := fun b o e => base_of (KX b o e) (nK b o e)
  have hM : Mod K mg (hidT s₁.heap H) := ⟨hKb, nsK hns, ⟨mb, nsK hb, hbb⟩, let ⟨mc, h1, h2⟩ := hlim; ⟨mc, nsK h1, h2⟩⟩
  have e0 : Env0 P w K mg (hidT s₁.heap H) callerA [] s₁ H := ⟨rfl, hM, fun b o e => of_hidT e, Nat.le_of_eq (hidT_size _ _), trivial, fun b hb => absurd (show b ∈ ([] : List Addr) from hb) (by simp), hok, .of_eq hg⟩
  have hl : vals.length = ps.length := by rw [wellAll_len hwl]; exact hlen
  refine codeAny_mono ((F _ hKb (nsK hns)).run callerA [] s₁ H ⟨vals, []⟩ vals (vals.map toV) _ _ hr e0 (hbind s₁ vals hl) hV (hsp H _ hO hS)) fun r s' x => ?_
  cases r with
  | error e => exact (hCX H e s' x).elim
  | ok fl =>
    cases fl with
    | next => exact False.elim x
    | brk => exact False.elim x
    | cont => exact False.elim x
    | ret u =>
      obtain ⟨v, H', os, bare, un, hok', r', q⟩ := x
      have kept : ∀ b o, s₁.heap.get? b = some o → s'.heap.get? b = some o := fun b o e => by
        cases q2 : H b with
        | none => exact un.keep b o e q2 (by intro z; exact absurd (show b ∈ ([] : List Addr) from z) (by simp)) (by simp)
        | some u2 =>
          rcases hO b with z | ⟨ob, u3, z⟩
          · rw [q2] at z
            cases z
          · have z2 := un.frzs b ob _ z
            obtain ⟨e1, _⟩ := hok b _ z
            obtain ⟨e2, _⟩ := hok' b _ z2
            rw [e] at e1
            cases e1
            exact e2
      have KX' : K.In s'.heap := fun b o e => kept b o (KX b o e)
      obtain ⟨as, hrd⟩ := Dw.reads (R := R) (cl := cl) hok' KX' d0 v u q r'
      exact ⟨u, as, rfl, hrd, OldK.of_keep kept, os, bare⟩
theorem layable_weight {ds : List WData} (h : WData.layableAll ds = true) : ∀ d ∈ ds, d.weight ≤ 1048576 := fun d hd =>
  (PySem.W.layableW_iff.mp (List.all_eq_true.mp h d hd)).2.2
theorem encAll_len : ∀ (cs : List Codec) (a : Codec.denoteAll cs), (Codec.encAll cs a).length = cs.length
  | [], _ => rfl
  | c :: cs, a => by
    show (Codec.encAll cs a.2).length + 1 = cs.length + 1
    rw [encAll_len cs a.2]
theorem walk_spec {r : OpenSpec} {k : Nat} {q : Program} {loose : List Str} {XP : (Str → Option Value) → Heap → Prop} {YP : World → Heap → Prop} {d : DefRec} {K : Params → PySem.W.Frag} {CX : World → CXT} {ps : List Str} {sp : World → Sp}
    (hwell : r.wellSaid = true) (hdf : d.params.defaults = []) (hlen : r.args.length = ps.length) (hr : Room k callerA)
    (hY : ∀ (w : World) (h : Heap), YP w h → (K w.params).In h)
    (F : ∀ (w : World) (mg : Str → Option Value) (fa : Addr) (h : Heap), YP w h → (K w.params).In h → h.Ns mainGlobals mg → mg d.name = some (.ref fa) →
      ∃ fd : FuncData, (∀ (s : Shared) (us : List Value), us.length = ps.length → BindsTo s fd ⟨us, []⟩ (ps.zip us)) ∧
        ∀ base : Heap, (K w.params).In base → base.Ns mainGlobals mg → FnOk r.prog w (K w.params) mg base (CX w) k fa fd ps (sp w))
    (hsp : ∀ (w : World) (H : Hp) (xs : List V) (a : Codec.denoteAll r.args), OnlyF H → Codec.withinAll r.args a = true → Codec.app r.args r.asked a = true → DwAll (K w.params) H xs (Codec.encAll r.args a) →
      sp w xs H (fun v H' => Dw (K w.params) H' v (r.ret.enc (Codec.app r.args r.f a))) fun _ _ _ => False)
    (hCX : ∀ (w : World) (H : Hp) (s : Shared) (e : Value) (s' : Shared), CX w [] H s (fun _ _ _ => False) e s' → False) :
    PySem.W.WalkOS q loose XP YP r d [] (fun f vs => PySem.call f vs) := by
  intro w s_0 s₁ mg mb G Y fa o pm cd doc dV kV ho hd hcd hD hmg hg args vals as hpre hlay hrd hwl hlo
  obtain ⟨a, e1, e2⟩ := PySem.W.os_pre_some hpre
  obtain ⟨e3, hwi⟩ := Codec.encAll_of_decAll r.args args a e1
  subst e3
  have KX := hY w _ Y
  obtain ⟨fd, hb, hF⟩ := F w mg fa _ Y KX G.T.g hmg
  refine PySem.W.enter_call (codeAny_mono (spec_call (R := []) (cl := classAt s_0.heap) (d0 := r.ret.enc (Codec.app r.args r.f a)) KX G.T.g G.T.b G.T.builtins G.T.nolimit hg hwl (pl_encAll _ _) (layable_weight hlay) hr hF hb (by rw [encAll_len]; exact hlen)
    (fun H xs hO hS => hsp w H xs a hO hwi e2 hS) fun H e s' => hCX w H s₁ e s') fun r' s' hq => ?_)
  obtain ⟨u, as', rfl, h1, h2, h3, h4⟩ := hq
  exact ⟨.inl ⟨u, _, as', rfl, fun _ => rfl, h1, (OpenSpec.post_iff hwell hwi _ _).mpr rfl, fun z => Bool.noConfusion (show false = true from z)⟩, h2, h3, h4⟩
theorem walk_specK {r : OpenSpec} {k : Nat} {q : Program} {loose : List Str} {XP : (Str → Option Value) → Heap → Prop} {YP : World → Heap → Prop} {d : DefRec} {K : Params → PySem.W.Frag} {CX : CXT} {ps : List Str} {sp : PySem.W.Frag → Sp}
    (hwell : r.wellSaid = true) (hdf : d.params.defaults = []) (hlen : r.args.length = ps.length) (hr : Room k callerA)
    (hY : ∀ (w : World) (h : Heap), YP w h → (K w.params).In h)
    (F : ∀ (w : World) (mg : Str → Option Value) (fa : Addr) (h : Heap), YP w h → (K w.params).In h → h.Ns mainGlobals mg → mg d.name = some (.ref fa) →
      ∃ fd : FuncData, (∀ (s : Shared) (us : List Value), us.length = ps.length → BindsTo s fd ⟨us, []⟩ (ps.zip us)) ∧
        ∀ base : Heap, (K w.params).In base → base.Ns mainGlobals mg → FnOk r.prog w (K w.params) mg base CX k fa fd ps (sp (K w.params)))
    (hsp : ∀ (K : PySem.W.Frag) (H : Hp) (xs : List V) (a : Codec.denoteAll r.args), OnlyF H → Codec.withinAll r.args a = true → Codec.app r.args r.asked a = true → DwAll K H xs (Codec.encAll r.args a) →
      sp K xs H (fun v H' => Dw K H' v (r.ret.enc (Codec.app r.args r.f a))) fun _ _ _ => False)
    (hCX : ∀ (H : Hp) (s : Shared) (e : Value) (s' : Shared), CX [] H s (fun _ _ _ => False) e s' → False) :
    PySem.W.WalkOS q loose XP YP r d [] (fun f vs => PySem.call f vs) :=
  walk_spec (K := K) (CX := fun _ => CX) (sp := fun w => sp (K w.params)) hwell hdf hlen hr hY F (fun w H xs a h1 h2 h3 h4 => hsp (K w.params) H xs a h1 h2 h3 h4) fun _ H s e s' => hCX H s e s'
end L2
end
end
section
namespace VM
open VapatBase

def Rising : Tree → Prop
  | [] => True
  | x :: t => (∀ y ∈ t, x.1 < y.1) ∧ Rising t

theorem fileIn_nil (f : Nat) : fileIn [] f = none := rfl
theorem fileIn_cons (x : Nat × Tokens) (t : Tree) (f : Nat) : fileIn (x :: t) f = if x.1 = f then some x.2 else fileIn t f := by
  unfold fileIn
  rw [List.find?_cons]
  by_cases h : x.1 = f
  · simp [h]
  · have e : (x.1 == f) = false := by simp [h]
    rw [e, if_neg h]
theorem fileIn_none_of {t : Tree} {f : Nat} (h : ∀ y ∈ t, y.1 ≠ f) : fileIn t f = none := by
  induction t with
  | nil => rfl
  | cons x t ih =>
    rw [fileIn_cons, if_neg (h x (by simp)), ih fun y hy => h y (by simp [hy])]
theorem fileIn_mem {t : Tree} {f : Nat} {c : Tokens} (h : fileIn t f = some c) : (f, c) ∈ t := by
  induction t with
  | nil => cases h
  | cons x t ih =>
    rw [fileIn_cons] at h
    by_cases hx : x.1 = f
    · rw [if_pos hx] at h
      cases h
      subst hx
      simp
    · rw [if_neg hx] at h
      exact List.mem_cons_of_mem _ (ih h)
theorem fileIn_of_mem {t : Tree} {f : Nat} {c : Tokens} (hr : Rising t) (h : (f, c) ∈ t) : fileIn t f = some c := by
  induction t with
  | nil => cases h
  | cons x t ih =>
    rw [fileIn_cons]
    rcases List.mem_cons.mp h with e | e
    · rw [← e]; simp
    · have := hr.1 _ e
      rw [if_neg (by simp at this; omega)]
      exact ih hr.2 e
theorem ext {t u : Tree} (ht : Rising t) (hu : Rising u) (h : ∀ f, fileIn t f = fileIn u f) : t = u := by
  induction t generalizing u with
  | nil =>
    cases u with
    | nil => rfl
    | cons y u =>
      have := h y.1
      rw [fileIn_cons, if_pos rfl, fileIn_nil] at this
      cases this
  | cons x t ih =>
    cases u with
    | nil =>
      have := h x.1
      rw [fileIn_cons, if_pos rfl, fileIn_nil] at this
      cases this
    | cons y u =>
      have e : x.1 = y.1 := by
        rcases Nat.lt_trichotomy x.1 y.1 with l | l | l
        · have := h x.1
          rw [fileIn_cons, if_pos rfl, fileIn_cons, if_neg (by omega), fileIn_none_of] at this
          · cases this
          · intro z hz
            have := hu.1 z hz
            omega
        · exact l
        · have := h y.1
          rw [fileIn_cons, if_neg (by omega), fileIn_cons, if_pos rfl, fileIn_none_of] at this
          · cases this
          · intro z hz
            have := ht.1 z hz
            omega
      have e2 : x.2 = y.2 := by
        have := h x.1
        rw [fileIn_cons, if_pos rfl, fileIn_cons, if_pos e.symm] at this
        exact Option.some.inj this
      have exy : x = y := Prod.ext e e2
      subst exy
      congr 1
      refine ih ht.2 hu.2 fun f => ?_
      by_cases hf : x.1 = f
      · rw [fileIn_none_of (t := t), fileIn_none_of (t := u)]
        · intro z hz; have := hu.1 z hz; omega
        · intro z hz; have := ht.1 z hz; omega
      · have := h f
        rw [fileIn_cons, if_neg hf, fileIn_cons, if_neg hf] at this
        exact this
theorem mem_putFile {f : Nat} {c : Tokens} : ∀ {t : Tree} {z : Nat × Tokens}, z ∈ putFile f c t → z = (f, c) ∨ z ∈ t
  | [], z, h => by simpa [putFile] using h
  | x :: t, z, h => by
    unfold putFile at h
    by_cases h1 : f < x.1
    · rw [if_pos h1] at h
      simpa using h
    · rw [if_neg h1] at h
      by_cases h2 : f = x.1
      · rw [if_pos h2] at h
        rcases List.mem_cons.mp h with e | e
        · exact .inl e
        · exact .inr (List.mem_cons_of_mem _ e)
      · rw [if_neg h2] at h
        rcases List.mem_cons.mp h with e | e
        · exact .inr (by simp [e])
        · rcases mem_putFile e with e | e
          · exact .inl e
          · exact .inr (List.mem_cons_of_mem _ e)
theorem rising_put {f : Nat} {c : Tokens} : ∀ {t : Tree}, Rising t → Rising (putFile f c t)
  | [], _ => ⟨by simp, trivial⟩
  | x :: t, h => by
    unfold putFile
    by_cases h1 : f < x.1
    · rw [if_pos h1]
      refine ⟨?_, h⟩
      intro y hy
      rcases List.mem_cons.mp hy with e | e
      · rw [e]; exact h1
      · exact Nat.lt_trans h1 (h.1 y e)
    · rw [if_neg h1]
      by_cases h2 : f = x.1
      · rw [if_pos h2]
        exact ⟨fun y hy => by have := h.1 y hy; simp; omega, h.2⟩
      · rw [if_neg h2]
        refine ⟨fun y hy => ?_, rising_put h.2⟩
        rcases mem_putFile hy with e | e
        · rw [e]; simp; omega
        · exact h.1 y e
theorem fileIn_put {f : Nat} {c : Tokens} {g : Nat} : ∀ {t : Tree}, Rising t → fileIn (putFile f c t) g = if f = g then some c else fileIn t g
  | [], _ => by
    unfold putFile
    rw [fileIn_cons]
  | x :: t, h => by
    unfold putFile
    by_cases h1 : f < x.1
    · rw [if_pos h1, fileIn_cons]
    · rw [if_neg h1]
      by_cases h2 : f = x.1
      · rw [if_pos h2, fileIn_cons, fileIn_cons]
        by_cases h3 : f = g
        · rw [if_pos h3, if_pos h3]
        · rw [if_neg h3, if_neg h3, if_neg (by omega)]
      · rw [if_neg h2, fileIn_cons, fileIn_put h.2, fileIn_cons]
        by_cases h3 : f = g
        · rw [if_pos h3, if_pos h3, if_neg (by omega)]
        · rw [if_neg h3, if_neg h3]
theorem rising_filter {p : Nat × Tokens → Bool} : ∀ {t : Tree}, Rising t → Rising (t.filter p)
  | [], _ => trivial
  | x :: t, h => by
    rw [List.filter_cons]
    split
    · exact ⟨fun y hy => h.1 y (List.mem_filter.mp hy).1, rising_filter h.2⟩
    · exact rising_filter h.2
theorem rising_drop {f : Nat} {t : Tree} (h : Rising t) : Rising (dropFile f t) := rising_filter h
theorem fileIn_drop {f g : Nat} : ∀ {t : Tree}, fileIn (dropFile f t) g = if f = g then none else fileIn t g
  | [] => by
    show fileIn [] g = _
    rw [fileIn_nil]
    split <;> rfl
  | x :: t => by
    have ih := fileIn_drop (f := f) (g := g) (t := t)
    unfold dropFile at ih ⊢
    rw [List.filter_cons]
    by_cases h : x.1 = f
    · rw [if_neg (by simp [h]), ih, fileIn_cons]
      by_cases h2 : f = g
      · rw [if_pos h2, if_pos h2]
      · rw [if_neg h2, if_neg h2, if_neg (by omega)]
    · rw [if_pos (by simp [h]), fileIn_cons, ih, fileIn_cons]
      by_cases h2 : f = g
      · rw [if_pos h2, if_pos h2, if_neg (by omega)]
      · rw [if_neg h2, if_neg h2]

abbrev FMap := Nat → Option Tokens
def fput (F : FMap) (f : Nat) (c : Tokens) : FMap := fun g => if f = g then some c else F g
def fdrop (F : FMap) (f : Nat) : FMap := fun g => if f = g then none else F g
inductive Goes : FMap → Step → FMap → Prop
  | hunk {F f a o n A B} : F f = some (A ++ (o ++ B)) → A.length = a → Goes F (.hunk f a o n) (fput F f (A ++ (n ++ B)))
  | swap {F f x y c} : F f = some c → Goes F (.swap f x y) (fput F f (swapAll x y c))
  | add {F f} : F f = none → Goes F (.add f) (fput F f [])
  | remove {F f} : F f = some [] → Goes F (.remove f) (fdrop F f)
  | move {F f g c} : F f = some c → F g = none → Goes F (.move f g) (fput (fdrop F f) g c)

theorem spliced_some {c : Tokens} {a : Nat} {o n d : Tokens} (h : spliced c a o n = some d) : ∃ A B, c = A ++ (o ++ B) ∧ A.length = a ∧ d = A ++ (n ++ B) := by
  unfold spliced at h
  by_cases hc : a ≤ c.length ∧ (c.drop a).take o.length = o
  · rw [if_pos hc] at h
    have e := Option.some.inj h
    refine ⟨c.take a, c.drop (a + o.length), ?_, by simp [hc.1], e.symm⟩
    have h1 : c = c.take a ++ c.drop a := (List.take_append_drop a c).symm
    have h2 : c.drop a = (c.drop a).take o.length ++ (c.drop a).drop o.length := (List.take_append_drop _ _).symm
    rw [hc.2, List.drop_drop] at h2
    rw [← h2]
    exact h1
  · rw [if_neg hc] at h
    cases h
theorem spliced_of {A B o n : Tokens} : spliced (A ++ (o ++ B)) A.length o n = some (A ++ (n ++ B)) := by
  unfold spliced
  rw [if_pos ⟨by simp, by simp⟩]
  congr 1
  have e : (A ++ (o ++ B)).drop (A.length + o.length) = B := by
    rw [← List.drop_drop]
    simp
  rw [e]
  simp

theorem goes_of_applied {t u : Tree} {p : Step} (hr : Rising t) (h : applied t p = some u) : Rising u ∧ Goes (fileIn t) p (fileIn u) := by
  cases p with
  | hunk f a o n =>
    dsimp only [applied] at h
    cases hf : fileIn t f with
    | none => rw [hf] at h; cases h
    | some c =>
      rw [hf] at h
      dsimp only [Option.bind_some] at h
      cases hs : spliced c a o n with
      | none => rw [hs] at h; cases h
      | some d =>
        rw [hs] at h
        have e : putFile f d t = u := Option.some.inj h
        subst e
        refine ⟨rising_put hr, ?_⟩
        obtain ⟨A, B, hc, ha, hd⟩ := spliced_some hs
        subst hc hd
        have := Goes.hunk (o := o) (n := n) hf ha
        have e : fileIn (putFile f (A ++ (n ++ B)) t) = fput (fileIn t) f (A ++ (n ++ B)) := by
          funext g
          exact fileIn_put hr
        rw [e]
        exact this
  | swap f x y =>
    dsimp only [applied] at h
    cases hf : fileIn t f with
    | none => rw [hf] at h; cases h
    | some c =>
      rw [hf] at h
      have e : putFile f (swapAll x y c) t = u := Option.some.inj h
      subst e
      refine ⟨rising_put hr, ?_⟩
      have e : fileIn (putFile f (swapAll x y c) t) = fput (fileIn t) f (swapAll x y c) := by
        funext g
        exact fileIn_put hr
      rw [e]
      exact .swap hf
  | add f =>
    dsimp only [applied] at h
    cases hf : fileIn t f with
    | some c => simp only [hf] at h; cases h
    | none =>
      simp only [hf] at h
      have e : putFile f [] t = u := Option.some.inj h
      subst e
      refine ⟨rising_put hr, ?_⟩
      have e : fileIn (putFile f [] t) = fput (fileIn t) f [] := by
        funext g
        exact fileIn_put hr
      rw [e]
      exact .add hf
  | remove f =>
    dsimp only [applied] at h
    by_cases hf : fileIn t f = some []
    · simp only [hf, if_true] at h
      have e : dropFile f t = u := Option.some.inj h
      subst e
      refine ⟨rising_drop hr, ?_⟩
      have e : fileIn (dropFile f t) = fdrop (fileIn t) f := by
        funext g
        exact fileIn_drop
      rw [e]
      exact .remove hf
    · simp only [hf, if_false] at h
      cases h
  | move f g =>
    dsimp only [applied] at h
    cases hf : fileIn t f with
    | none => simp only [hf] at h; cases h
    | some c =>
      cases hg : fileIn t g with
      | some d => simp only [hf, hg] at h; cases h
      | none =>
        simp only [hf, hg] at h
        have e : putFile g c (dropFile f t) = u := Option.some.inj h
        subst e
        refine ⟨rising_put (rising_drop hr), ?_⟩
        have e : fileIn (putFile g c (dropFile f t)) = fput (fdrop (fileIn t) f) g c := by
          funext k
          rw [fileIn_put (rising_drop hr)]
          unfold fput
          rw [fileIn_drop]
          rfl
        rw [e]
        exact .move hf hg

theorem applied_of_goes {t : Tree} {p : Step} {G : FMap} (hr : Rising t) (h : Goes (fileIn t) p G) : ∃ u, applied t p = some u ∧ Rising u ∧ fileIn u = G := by
  generalize hF : fileIn t = F at h
  cases h with
  | @hunk f a o n A B hf ha =>
    subst ha hF
    refine ⟨putFile f (A ++ (n ++ B)) t, ?_, rising_put hr, ?_⟩
    · dsimp only [applied]
      rw [hf]
      simp only [Option.bind_some, spliced_of, Option.map_some]
    · funext g
      exact fileIn_put hr
  | @swap f x y c hf =>
    subst hF
    refine ⟨putFile f (swapAll x y c) t, ?_, rising_put hr, ?_⟩
    · dsimp only [applied]
      rw [hf]
      rfl
    · funext g
      exact fileIn_put hr
  | @add f hf =>
    subst hF
    refine ⟨putFile f [] t, ?_, rising_put hr, ?_⟩
    · dsimp only [applied]
      simp only [hf]
    · funext g
      exact fileIn_put hr
  | @remove f hf =>
    subst hF
    refine ⟨dropFile f t, ?_, rising_drop hr, ?_⟩
    · dsimp only [applied]
      simp only [hf, if_true]
    · funext g
      exact fileIn_drop
  | @move f g c hf hg =>
    subst hF
    refine ⟨putFile g c (dropFile f t), ?_, rising_put (rising_drop hr), ?_⟩
    · dsimp only [applied]
      simp only [hf, hg]
    · funext k
      rw [fileIn_put (rising_drop hr), fileIn_drop]
      rfl
end VM
end
section
namespace VM
open VapatBase

def Ins : Step → Tokens → Tokens → Prop
  | .hunk _ a o n, c, d => ∃ A B, c = A ++ (o ++ B) ∧ A.length = a ∧ d = A ++ (n ++ B)
  | .swap _ x y, c, d => d = swapAll x y c
  | _, _, _ => False
theorem swapAll_append (x y : Nat) (l m : Tokens) : swapAll x y (l ++ m) = swapAll x y l ++ swapAll x y m := by simp [swapAll]
theorem swapAll_length (x y : Nat) (l : Tokens) : (swapAll x y l).length = l.length := by simp [swapAll]
theorem swapToken_twice (x y t : Nat) : swapToken x y (swapToken x y t) = t := by
  unfold swapToken
  by_cases h1 : t = x
  · rw [if_pos h1]
    by_cases h2 : y = x
    · rw [if_pos h2]; omega
    · rw [if_neg h2, if_pos rfl]; exact h1.symm
  · rw [if_neg h1]
    by_cases h2 : t = y
    · rw [if_pos h2, if_pos rfl]; exact h2.symm
    · rw [if_neg h2, if_neg h1, if_neg h2]
theorem swapAll_twice (x y : Nat) (l : Tokens) : swapAll x y (swapAll x y l) = l := by
  unfold swapAll
  rw [List.map_map]
  have : swapToken x y ∘ swapToken x y = id := by
    funext t
    exact swapToken_twice x y t
  rw [this, List.map_id]
theorem swapToken_comm {x y u v : Nat} (h : disjoint [x, y] [u, v] = true) (t : Nat) : swapToken x y (swapToken u v t) = swapToken u v (swapToken x y t) := by
  simp [disjoint] at h
  unfold swapToken
  grind
theorem swapAll_comm {x y u v : Nat} (h : disjoint [x, y] [u, v] = true) (l : Tokens) : swapAll x y (swapAll u v l) = swapAll u v (swapAll x y l) := by
  unfold swapAll
  rw [List.map_map, List.map_map]
  congr 1
  funext t
  exact swapToken_comm h t

theorem ins_commuted {p q q' p' : Step} {c d e : Tokens} (h1 : Ins p c d) (h2 : Ins q d e) (h : commutedInside p q = some (q', p')) : ∃ k, Ins q' c k ∧ Ins p' k e := by
  cases p with
  | hunk f a o n =>
    obtain ⟨A, B, rfl, ha, rfl⟩ := h1
    cases q with
    | hunk g b u v =>
      obtain ⟨C, D, e1, hb, rfl⟩ := h2
      simp only [commutedInside] at h
      by_cases c1 : a + n.length < b
      · rw [if_pos c1] at h
        cases h
        have hl : (A ++ n).length ≤ C.length := by simp; omega
        rw [← List.append_assoc] at e1
        obtain ⟨M, hM, hB⟩ : ∃ M, C = A ++ n ++ M ∧ B = M ++ (u ++ D) := by
          rcases List.append_eq_append_iff.mp e1 with ⟨M, x, y⟩ | ⟨M, x, y⟩
          · exact ⟨M, x, y⟩
          · have : M = [] := by
              have := congrArg List.length x
              simp at this hl
              exact List.length_eq_zero_iff.mp (by omega)
            subst this
            exact ⟨[], by simpa using x.symm, by simpa using y.symm⟩
        subst hM hB
        refine ⟨A ++ (o ++ (M ++ (v ++ D))), ⟨A ++ (o ++ M), D, by simp, ?_, by simp⟩, A, M ++ (v ++ D), rfl, ha, by simp⟩
        simp at hb ⊢
        omega
      · rw [if_neg c1] at h
        by_cases c2 : b + u.length < a
        · rw [if_pos c2] at h
          cases h
          have hl : (C ++ u).length ≤ A.length := by simp; omega
          rw [← List.append_assoc C] at e1
          obtain ⟨M, hM, hB⟩ : ∃ M, A = C ++ u ++ M ∧ D = M ++ (n ++ B) := by
            rcases List.append_eq_append_iff.mp e1.symm with ⟨M, x, y⟩ | ⟨M, x, y⟩
            · exact ⟨M, x, y⟩
            · have : M = [] := by
                have := congrArg List.length x
                simp at this hl
                exact List.length_eq_zero_iff.mp (by omega)
              subst this
              exact ⟨[], by simpa using x.symm, by simpa using y.symm⟩
          subst hM hB
          refine ⟨C ++ (v ++ (M ++ (o ++ B))), ⟨C, M ++ (o ++ B), by simp, hb, rfl⟩, C ++ (v ++ M), B, by simp, ?_, by simp⟩
          simp at ha ⊢
          omega
        · rw [if_neg c2] at h
          cases h
    | swap g x y =>
      simp only [commutedInside] at h
      cases h
      simp only [Ins] at h2
      subst h2
      refine ⟨swapAll x y (A ++ (o ++ B)), rfl, swapAll x y A, swapAll x y B, ?_, ?_, ?_⟩
      · simp [swapAll_append]
      · rw [swapAll_length]; exact ha
      · simp [swapAll_append]
    | _ => cases h2
  | swap f x y =>
    simp only [Ins] at h1
    subst h1
    cases q with
    | hunk g b u v =>
      obtain ⟨C, D, e1, hb, rfl⟩ := h2
      simp only [commutedInside] at h
      cases h
      refine ⟨swapAll x y C ++ (swapAll x y v ++ swapAll x y D), ⟨swapAll x y C, swapAll x y D, ?_, ?_, rfl⟩, ?_⟩
      · have := congrArg (swapAll x y) e1
        rw [swapAll_twice] at this
        rw [this]
        simp [swapAll_append]
      · rw [swapAll_length]; exact hb
      · simp only [Ins]
        rw [swapAll_append, swapAll_append, swapAll_twice, swapAll_twice, swapAll_twice]
    | swap g u v =>
      simp only [Ins] at h2
      subst h2
      simp only [commutedInside] at h
      by_cases hd : disjoint [x, y] [u, v] = true
      · rw [if_pos hd] at h
        cases h
        exact ⟨swapAll u v c, rfl, (swapAll_comm hd c).symm⟩
      · rw [if_neg hd] at h
        cases h
    | _ => cases h2
  | _ => cases h1

def fileOf : Step → Nat
  | .hunk f _ _ _ => f
  | .swap f _ _ => f
  | .add f => f
  | .remove f => f
  | .move f _ => f
theorem goes_ins {F G : FMap} {p : Step} (hi : isInside p = true) : Goes F p G ↔ ∃ c d, F (fileOf p) = some c ∧ Ins p c d ∧ G = fput F (fileOf p) d := by
  constructor
  · intro h
    cases h with
    | hunk hf ha => exact ⟨_, _, hf, ⟨_, _, rfl, ha, rfl⟩, rfl⟩
    | swap hf => exact ⟨_, _, hf, rfl, rfl⟩
    | _ => cases hi
  · rintro ⟨c, d, hf, hI, rfl⟩
    cases p with
    | hunk f a o n =>
      obtain ⟨A, B, rfl, ha, rfl⟩ := hI
      exact .hunk hf ha
    | swap f x y =>
      simp only [Ins] at hI
      subst hI
      exact .swap hf
    | _ => cases hi
theorem fput_fput (F : FMap) (f : Nat) (c d : Tokens) : fput (fput F f c) f d = fput F f d := by
  funext g
  unfold fput
  by_cases h : f = g
  · rw [if_pos h, if_pos h]
  · rw [if_neg h, if_neg h, if_neg h]
theorem fput_same (F : FMap) (f : Nat) (c : Tokens) : fput F f c f = some c := if_pos rfl
theorem fileOf_inFile {g : Nat} {p : Step} (hi : isInside p = true) : fileOf (inFile g p) = g := by cases p <;> first | rfl | cases hi
theorem isInside_inFile {g : Nat} {p : Step} (hi : isInside p = true) : isInside (inFile g p) = true := by cases p <;> first | rfl | cases hi
theorem ins_inFile {g : Nat} {p : Step} {c d : Tokens} (h : Ins p c d) : Ins (inFile g p) c d := by cases p <;> first | exact h | cases h
theorem namesOf_inside {p : Step} (hi : isInside p = true) : namesOf p = [fileOf p] := by cases p <;> first | rfl | cases hi
theorem commutedInside_file {p q q' p' : Step} (hp : isInside p = true) (hq : isInside q = true) (hf : fileOf q = fileOf p) (h : commutedInside p q = some (q', p')) :
    isInside q' = true ∧ isInside p' = true ∧ fileOf q' = fileOf p ∧ fileOf p' = fileOf p := by
  cases p with
  | hunk f a o n =>
    cases q with
    | hunk g b u v =>
      simp only [commutedInside] at h
      split at h
      · cases h; exact ⟨rfl, rfl, rfl, rfl⟩
      · split at h
        · cases h; exact ⟨rfl, rfl, rfl, rfl⟩
        · cases h
    | swap g x y => cases h; exact ⟨rfl, rfl, rfl, rfl⟩
    | _ => cases hq
  | swap f x y =>
    cases q with
    | hunk g b u v => cases h; exact ⟨rfl, rfl, rfl, rfl⟩
    | swap g u v =>
      simp only [commutedInside] at h
      split at h
      · cases h; exact ⟨rfl, rfl, rfl, rfl⟩
      · cases h
    | _ => cases hq
  | _ => cases hp

theorem goes_else {F G : FMap} {p : Step} (h : Goes F p G) {g : Nat} (hg : g ∉ namesOf p) : G g = F g := by
  cases h <;> simp [namesOf] at hg <;> simp only [fput, fdrop] <;> grind
def merge (l : List Nat) (G F : FMap) : FMap := fun g => if g ∈ l then G g else F g
theorem goes_local {F G F' : FMap} {p : Step} (h : Goes F p G) (he : ∀ f ∈ namesOf p, F' f = F f) : Goes F' p (merge (namesOf p) G F') := by
  cases h with
  | @hunk f a o n A B hf ha =>
    have := Goes.hunk (F := F') (n := n) (by rw [he f (by simp [namesOf])]; exact hf) ha
    have e : merge (namesOf (.hunk f a o n)) (fput F f (A ++ (n ++ B))) F' = fput F' f (A ++ (n ++ B)) := by
      funext g
      simp only [merge, namesOf, fput, List.mem_singleton]
      by_cases hg : f = g
      · simp [hg]
      · rw [if_neg hg, if_neg hg, if_neg (by omega)]
    rw [e]
    exact this
  | @swap f x y c hf =>
    have := Goes.swap (F := F') (x := x) (y := y) (by rw [he f (by simp [namesOf])]; exact hf)
    have e : merge (namesOf (.swap f x y)) (fput F f (swapAll x y c)) F' = fput F' f (swapAll x y c) := by
      funext g
      simp only [merge, namesOf, fput, List.mem_singleton]
      by_cases hg : f = g
      · simp [hg]
      · rw [if_neg hg, if_neg hg, if_neg (by omega)]
    rw [e]
    exact this
  | @add f hf =>
    have := Goes.add (F := F') (by rw [he f (by simp [namesOf])]; exact hf)
    have e : merge (namesOf (.add f)) (fput F f []) F' = fput F' f [] := by
      funext g
      simp only [merge, namesOf, fput, List.mem_singleton]
      by_cases hg : f = g
      · simp [hg]
      · rw [if_neg hg, if_neg hg, if_neg (by omega)]
    rw [e]
    exact this
  | @remove f hf =>
    have := Goes.remove (F := F') (by rw [he f (by simp [namesOf])]; exact hf)
    have e : merge (namesOf (.remove f)) (fdrop F f) F' = fdrop F' f := by
      funext g
      simp only [merge, namesOf, fdrop, List.mem_singleton]
      by_cases hg : f = g
      · simp [hg]
      · rw [if_neg hg, if_neg hg, if_neg (by omega)]
    rw [e]
    exact this
  | @move f k c hf hk =>
    have := Goes.move (F := F') (by rw [he f (by simp [namesOf])]; exact hf) (by rw [he k (by simp [namesOf])]; exact hk)
    have e : merge (namesOf (.move f k)) (fput (fdrop F f) k c) F' = fput (fdrop F' f) k c := by
      funext g
      simp only [merge, namesOf, fput, fdrop, List.mem_cons, List.not_mem_nil, or_false]
      by_cases hg : k = g
      · simp [hg]
      · by_cases hg2 : f = g
        · simp [hg2]
        · rw [if_neg hg, if_neg hg2, if_neg hg, if_neg hg2, if_neg (by omega)]
    rw [e]
    exact this
theorem goes_commuted {F G H : FMap} {p q q' p' : Step} (h1 : Goes F p G) (h2 : Goes G q H) (h : commuted p q = some (q', p')) : ∃ K, Goes F q' K ∧ Goes K p' H := by
  unfold commuted at h
  by_cases hd : disjoint (namesOf p) (namesOf q) = true
  · rw [if_pos hd] at h
    cases h
    have hdj : ∀ x, x ∈ namesOf p → x ∉ namesOf q := by
      intro x hx hx'
      unfold disjoint at hd
      rw [List.all_eq_true] at hd
      have := hd x hx
      simp at this
      exact this hx'
    have a1 := goes_local (F' := F) h2 (fun f hf => (goes_else h1 (fun z => hdj f z hf)).symm)
    have a2 := goes_local (F' := merge (namesOf q) H F) h1 (fun f hf => by
      show (if f ∈ namesOf q then H f else F f) = F f
      rw [if_neg (hdj f hf)])
    refine ⟨_, a1, ?_⟩
    have e : merge (namesOf p) G (merge (namesOf q) H F) = H := by
      funext g
      show (if g ∈ namesOf p then G g else if g ∈ namesOf q then H g else F g) = H g
      by_cases hp : g ∈ namesOf p
      · rw [if_pos hp]
        exact (goes_else h2 (hdj g hp)).symm
      · rw [if_neg hp]
        by_cases hq : g ∈ namesOf q
        · rw [if_pos hq]
        · rw [if_neg hq, goes_else h2 hq, goes_else h1 hp]
    rw [e] at a2
    exact a2
  · rw [if_neg hd] at h
    by_cases hi : (isInside p && isInside q) = true
    · rw [if_pos hi] at h
      rw [Bool.and_eq_true] at hi
      have hfile : fileOf q = fileOf p := by
        simp only [namesOf_inside hi.1, namesOf_inside hi.2, disjoint] at hd
        simp at hd
        exact hd.symm
      obtain ⟨c, d, f1, i1, rfl⟩ := (goes_ins hi.1).mp h1
      obtain ⟨c2, e, f2, i2, rfl⟩ := (goes_ins hi.2).mp h2
      rw [hfile, fput_same] at f2
      have := Option.some.inj f2
      subst this
      obtain ⟨k, j1, j2⟩ := ins_commuted i1 i2 h
      obtain ⟨g1, g2, g3, g4⟩ := commutedInside_file hi.1 hi.2 hfile h
      refine ⟨fput F (fileOf p) k, (goes_ins g1).mpr ⟨c, k, by rw [g3]; exact f1, j1, by rw [g3]⟩, (goes_ins g2).mpr ⟨k, e, by rw [g4]; exact fput_same _ _ _, j2, ?_⟩⟩
      rw [g4, hfile, fput_fput, fput_fput]
    · rw [if_neg hi] at h
      have key1 : ∀ f g, p = .move f g → ∃ K, Goes F q' K ∧ Goes K p' H := by
        intro f g hp
        subst hp
        dsimp only at h
        by_cases hq : (isInside q && namesOf q == [g]) = true
        · rw [if_pos hq] at h
          cases h
          rw [Bool.and_eq_true] at hq
          have hg : fileOf q = g := by
            have := hq.2
            rw [namesOf_inside hq.1] at this
            simpa using this
          obtain ⟨c2, e, f2, i2, rfl⟩ := (goes_ins hq.1).mp h2
          cases h1 with
          | @move _ _ c hf hk =>
            have hfg : f ≠ g := fun x => by rw [x, hk] at hf; cases hf
            rw [hg, fput_same] at f2
            have := Option.some.inj f2
            subst this
            refine ⟨fput F f e, (goes_ins (isInside_inFile hq.1)).mpr ⟨c, e, by rw [fileOf_inFile hq.1]; exact hf, ins_inFile i2, by rw [fileOf_inFile hq.1]⟩, ?_⟩
            have := Goes.move (F := fput F f e) (f := f) (g := g) (fput_same _ _ _) (by show (if f = g then _ else F g) = none; rw [if_neg hfg]; exact hk)
            have e2 : fput (fdrop (fput F f e) f) g e = fput (fput (fdrop F f) g c) (fileOf q) e := by
              rw [hg, fput_fput]
              funext k
              simp only [fput, fdrop]
              by_cases h3 : g = k
              · rw [if_pos h3, if_pos h3]
              · rw [if_neg h3, if_neg h3]
                by_cases h4 : f = k
                · rw [if_pos h4, if_pos h4]
                · rw [if_neg h4, if_neg h4, if_neg h4]
            rw [← e2]
            exact this
        · rw [if_neg hq] at h
          cases h
      have key2 : (∀ f g, p ≠ .move f g) → ∀ f g, q = .move f g → ∃ K, Goes F q' K ∧ Goes K p' H := by
        intro hn f g hq
        subst hq
        have h' : (if (isInside p && namesOf p == [f]) = true then some (Step.move f g, inFile g p) else none) = some (q', p') := by
          cases p with
          | move a b => exact absurd rfl (hn a b)
          | _ => exact h
        by_cases hp : (isInside p && namesOf p == [f]) = true
        · rw [if_pos hp] at h'
          cases h'
          rw [Bool.and_eq_true] at hp
          have hg : fileOf p = f := by
            have := hp.2
            rw [namesOf_inside hp.1] at this
            simpa using this
          obtain ⟨c, d, f1, i1, rfl⟩ := (goes_ins hp.1).mp h1
          rw [hg] at h2 f1
          cases h2 with
          | @move _ _ c2 hf hk =>
            rw [fput_same] at hf
            have := Option.some.inj hf
            subst this
            have hfg : f ≠ g := fun x => by rw [x, fput_same] at hk; cases hk
            have hk' : F g = none := by
              have : (if f = g then _ else F g) = none := hk
              rw [if_neg hfg] at this
              exact this
            refine ⟨fput (fdrop F f) g c, .move f1 hk', (goes_ins (isInside_inFile hp.1)).mpr ⟨c, d, by rw [fileOf_inFile hp.1]; exact fput_same _ _ _, ins_inFile i1, ?_⟩⟩
            rw [fileOf_inFile hp.1, fput_fput]
            funext k
            simp only [fput, fdrop]
            by_cases h3 : g = k
            · rw [if_pos h3, if_pos h3]
            · rw [if_neg h3, if_neg h3]
              by_cases h4 : f = k
              · rw [if_pos h4, if_pos h4]
              · rw [if_neg h4, if_neg h4, if_neg h4]
        · rw [if_neg hp] at h'
          cases h'
      cases p with
      | move f g => exact key1 f g rfl
      | hunk f a o n =>
        cases q with
        | move f' g' => exact key2 (fun _ _ x => by cases x) f' g' rfl
        | _ => cases h
      | swap f x y =>
        cases q with
        | move f' g' => exact key2 (fun _ _ x => by cases x) f' g' rfl
        | _ => cases h
      | add f =>
        cases q with
        | move f' g' => exact key2 (fun _ _ x => by cases x) f' g' rfl
        | _ => cases h
      | remove f =>
        cases q with
        | move f' g' => exact key2 (fun _ _ x => by cases x) f' g' rfl
        | _ => cases h

theorem fput_id {F : FMap} {f : Nat} {c : Tokens} (h : F f = some c) : fput F f c = F := by
  funext g
  unfold fput
  by_cases e : f = g
  · rw [if_pos e, ← e, h]
  · rw [if_neg e]
theorem goes_turned {F G : FMap} {p : Step} (h : Goes F p G) : Goes G (turned p) F := by
  cases h with
  | @hunk f a o n A B hf ha =>
    have := Goes.hunk (F := fput F f (A ++ (n ++ B))) (f := f) (o := n) (n := o) (fput_same _ _ _) ha
    rw [fput_fput, fput_id hf] at this
    exact this
  | @swap f x y c hf =>
    have := Goes.swap (F := fput F f (swapAll x y c)) (f := f) (x := x) (y := y) (fput_same _ _ _)
    rw [fput_fput, swapAll_twice, fput_id hf] at this
    exact this
  | @add f hf =>
    have := Goes.remove (F := fput F f []) (f := f) (fput_same _ _ _)
    have e : fdrop (fput F f []) f = F := by
      funext g
      simp only [fdrop, fput]
      by_cases e : f = g
      · rw [if_pos e, ← e, hf]
      · rw [if_neg e, if_neg e]
    rw [e] at this
    exact this
  | @remove f hf =>
    have := Goes.add (F := fdrop F f) (f := f) (if_pos rfl)
    have e : fput (fdrop F f) f [] = F := by
      funext g
      simp only [fdrop, fput]
      by_cases e : f = g
      · rw [if_pos e, ← e, hf]
      · rw [if_neg e, if_neg e]
    rw [e] at this
    exact this
  | @move f g c hf hg =>
    have hfg : f ≠ g := fun x => by rw [x, hg] at hf; cases hf
    have := Goes.move (F := fput (fdrop F f) g c) (f := g) (g := f) (fput_same _ _ _) (by simp only [fput, fdrop]; rw [if_neg (by omega)]; simp)
    have e : fput (fdrop (fput (fdrop F f) g c) g) f c = F := by
      funext k
      simp only [fdrop, fput]
      by_cases e : f = k
      · rw [if_pos e, ← e, hf]
      · rw [if_neg e]
        by_cases e2 : g = k
        · rw [if_pos e2, ← e2, hg]
        · rw [if_neg e2, if_neg e2, if_neg e]
    rw [e] at this
    exact this

theorem applied_rising {t u : Tree} {p : Step} (hr : Rising t) (h : applied t p = some u) : Rising u := (goes_of_applied hr h).1
theorem applied_commuted {t u v : Tree} {p q q' p' : Step} (hr : Rising t) (h1 : applied t p = some u) (h2 : applied u q = some v) (h : commuted p q = some (q', p')) : ∃ w, applied t q' = some w ∧ applied w p' = some v := by
  obtain ⟨ru, g1⟩ := goes_of_applied hr h1
  obtain ⟨rv, g2⟩ := goes_of_applied ru h2
  obtain ⟨K, k1, k2⟩ := goes_commuted g1 g2 h
  obtain ⟨w, a1, rw_, rfl⟩ := applied_of_goes hr k1
  obtain ⟨v', a2, rv', e⟩ := applied_of_goes rw_ k2
  have : v' = v := ext rv' rv fun f => congrFun e f
  subst this
  exact ⟨w, a1, a2⟩
theorem applied_turned {t u : Tree} {p : Step} (hr : Rising t) (h : applied t p = some u) : applied u (turned p) = some t := by
  obtain ⟨ru, g1⟩ := goes_of_applied hr h
  obtain ⟨v, a, rv, e⟩ := applied_of_goes ru (goes_turned g1)
  have : v = t := ext rv hr fun f => congrFun e f
  subst this
  exact a
theorem appliedAll_append {t : Tree} {l m : List Step} : appliedAll t (l ++ m) = (appliedAll t l).bind fun u => appliedAll u m := by
  induction l generalizing t with
  | nil => rfl
  | cons p l ih =>
    show (applied t p).bind (fun u => appliedAll u (l ++ m)) = ((applied t p).bind fun u => appliedAll u l).bind fun u => appliedAll u m
    cases applied t p with
    | none => rfl
    | some u => exact ih
theorem appliedAll_rising {t u : Tree} {l : List Step} (hr : Rising t) (h : appliedAll t l = some u) : Rising u := by
  induction l generalizing t with
  | nil => cases h; exact hr
  | cons p l ih =>
    have h : (applied t p).bind (fun u => appliedAll u l) = some u := h
    cases hp : applied t p with
    | none => rw [hp] at h; cases h
    | some w =>
      rw [hp] at h
      exact ih (applied_rising hr hp) h
theorem appliedAll_cons {t u : Tree} {p : Step} {l : List Step} : appliedAll t (p :: l) = some u ↔ ∃ w, applied t p = some w ∧ appliedAll w l = some u := by
  show (applied t p).bind (fun u => appliedAll u l) = some u ↔ _
  cases applied t p with
  | none => simp
  | some w => simp
theorem appliedAll_app {t u : Tree} {l m : List Step} : appliedAll t (l ++ m) = some u ↔ ∃ w, appliedAll t l = some w ∧ appliedAll w m = some u := by
  rw [appliedAll_append]
  cases appliedAll t l with
  | none => simp
  | some w => simp
theorem appliedAll_turned {t u : Tree} {l : List Step} (hr : Rising t) (h : appliedAll t l = some u) : appliedAll u (turnedAll l) = some t := by
  induction l generalizing t with
  | nil => cases h; rfl
  | cons p l ih =>
    obtain ⟨w, h1, h2⟩ := appliedAll_cons.mp h
    have := ih (applied_rising hr h1) h2
    show appliedAll u ((turned p :: l.map turned).reverse) = some t
    rw [List.reverse_cons]
    exact appliedAll_app.mpr ⟨w, this, appliedAll_cons.mpr ⟨t, applied_turned hr h1, rfl⟩⟩

open Vapatb
theorem aheadOf_outcome {l : List Step} {q q' : Step} {l' : List Step} {t u : Tree} (hr : Rising t) (h : aheadOf l q = .ok (q', l')) (ha : appliedAll t (l ++ [q]) = some u) : appliedAll t (q' :: l') = some u := by
  induction l generalizing t q' l' with
  | nil => cases h; exact ha
  | cons p l ih =>
    obtain ⟨w, h1, h2⟩ := appliedAll_cons.mp ha
    unfold aheadOf at h
    cases h3 : aheadOf l q with
    | error n => rw [h3] at h; cases h
    | ok r =>
      obtain ⟨q1, l1⟩ := r
      rw [h3] at h
      have h4 := ih (applied_rising hr h1) h3 h2
      obtain ⟨x, h5, h6⟩ := appliedAll_cons.mp h4
      dsimp only at h
      cases h7 : commuted p q1 with
      | none => rw [h7] at h; cases h
      | some s =>
        obtain ⟨q2, p1⟩ := s
        rw [h7] at h
        cases h
        obtain ⟨y, h8, h9⟩ := applied_commuted hr h1 h5 h7
        exact appliedAll_cons.mpr ⟨y, h8, appliedAll_cons.mpr ⟨x, h9, h6⟩⟩
theorem behind_outcome {l : List Step} {p p' : Step} {l' : List Step} {t u : Tree} (hr : Rising t) (h : behind p l = .ok (l', p')) (ha : appliedAll t (p :: l) = some u) : appliedAll t (l' ++ [p']) = some u := by
  induction l generalizing t p l' with
  | nil => cases h; exact ha
  | cons q l ih =>
    obtain ⟨w, h1, h2⟩ := appliedAll_cons.mp ha
    obtain ⟨x, h3, h4⟩ := appliedAll_cons.mp h2
    unfold behind at h
    cases h5 : commuted p q with
    | none => rw [h5] at h; cases h
    | some s =>
      obtain ⟨q1, p1⟩ := s
      rw [h5] at h
      dsimp only at h
      cases h6 : behind p1 l with
      | error n => rw [h6] at h; cases h
      | ok r =>
        obtain ⟨l1, p2⟩ := r
        rw [h6] at h
        cases h
        obtain ⟨y, h7, h8⟩ := applied_commuted hr h1 h3 h5
        exact appliedAll_cons.mpr ⟨y, h7, ih (applied_rising hr h7) h6 (appliedAll_cons.mpr ⟨x, h8, h4⟩)⟩
theorem rowsCommuted_outcome {l m l' m' : List Step} {t u : Tree} (hr : Rising t) (h : rowsCommuted l m = some (m', l')) (ha : appliedAll t (l ++ m) = some u) : appliedAll t (m' ++ l') = some u := by
  induction m generalizing t l m' with
  | nil => cases h; simpa using ha
  | cons q m ih =>
    unfold rowsCommuted at h
    cases h1 : aheadOf l q with
    | error n => rw [h1] at h; cases h
    | ok r =>
      obtain ⟨q1, l1⟩ := r
      rw [h1] at h
      dsimp only at h
      cases h2 : rowsCommuted l1 m with
      | none => rw [h2] at h; cases h
      | some s =>
        obtain ⟨a, b⟩ := s
        rw [h2] at h
        cases h
        have e : l ++ q :: m = (l ++ [q]) ++ m := by simp
        rw [e] at ha
        obtain ⟨w, h3, h4⟩ := appliedAll_app.mp ha
        have h5 := aheadOf_outcome hr h1 h3
        obtain ⟨x, h6, h7⟩ := appliedAll_cons.mp h5
        exact appliedAll_cons.mpr ⟨x, h6, ih (applied_rising hr h6) h2 (appliedAll_app.mpr ⟨w, h7, h4⟩)⟩
end VM
end
section
namespace VM
open VapatBase

def inR (lo hi z : Int) : Prop := lo ≤ z ∧ z ≤ hi
instance (lo hi z : Int) : Decidable (inR lo hi z) := inferInstanceAs (Decidable (_ ∧ _))
def toks (l : List Int) : Tokens := l.map Int.toNat
theorem readNat_cons (hi : Nat) (z : Int) (r : List Int) : readNat 0 hi (z :: r) = if inR 0 hi z then some (z.toNat, r) else none := rfl
theorem readTimes_nat (hi : Nat) : ∀ (n : Nat) (x : List Int), readTimes (readNat 0 hi) n x = if n ≤ x.length ∧ ∀ z ∈ x.take n, inR 0 hi z then some (toks (x.take n), x.drop n) else none
  | 0, x => by
    simp [readTimes, toks]
  | n + 1, [] => by
    simp [readTimes, readNat]
  | n + 1, z :: r => by
    show ((readNat 0 hi (z :: r)).bind fun u => (readTimes (readNat 0 hi) n u.2).map fun v => (u.1 :: v.1, v.2)) = _
    rw [readNat_cons]
    by_cases hz : inR 0 hi z
    · rw [if_pos hz]
      simp only [Option.bind_some]
      rw [readTimes_nat hi n r]
      by_cases h : n ≤ r.length ∧ ∀ z ∈ r.take n, inR 0 hi z
      · rw [if_pos h, if_pos ⟨by simp; exact h.1, by simp; exact ⟨hz, h.2⟩⟩]
        rfl
      · rw [if_neg h, if_neg]
        · rfl
        · intro q
          exact h ⟨by simpa using q.1, fun y hy => q.2 y (by simp [hy])⟩
    · rw [if_neg hz, if_neg]
      · rfl
      · intro q
        exact hz (q.2 z (by simp))
theorem readTokens_nil (m : Nat) : readTokens m [] = none := rfl
theorem readTokens_cons (m : Nat) (z : Int) (r : List Int) : readTokens m (z :: r) = if inR 0 m z ∧ z.toNat ≤ r.length ∧ ∀ y ∈ r.take z.toNat, inR 0 99 y then some (toks (r.take z.toNat), r.drop z.toNat) else none := by
  show ((readNat 0 m (z :: r)).bind fun n => readTimes (readNat 0 (TOKENS - 1)) n.1 n.2) = _
  rw [readNat_cons]
  by_cases hz : inR 0 m z
  · rw [if_pos hz]
    simp only [Option.bind_some]
    rw [readTimes_nat]
    by_cases h : z.toNat ≤ r.length ∧ ∀ y ∈ r.take z.toNat, inR 0 99 y
    · rw [if_pos (show _ ∧ ∀ y ∈ r.take z.toNat, inR 0 ((TOKENS - 1 : Nat) : Int) y from h), if_pos ⟨hz, h⟩]
    · rw [if_neg (show ¬ (_ ∧ ∀ y ∈ r.take z.toNat, inR 0 ((TOKENS - 1 : Nat) : Int) y) from h), if_neg fun q => h q.2]
  · rw [if_neg hz, if_neg fun q => hz q.1]
    rfl
theorem readTokens_len {m : Nat} {x : List Int} {o : Tokens} {r : List Int} (h : readTokens m x = some (o, r)) : x ≠ [] ∧ o.length ≤ m ∧ r = x.drop (1 + o.length) ∧ 1 + o.length ≤ x.length ∧ ∀ t ∈ o, t < 100 := by
  cases x with
  | nil => cases h
  | cons z y =>
    rw [readTokens_cons] at h
    by_cases c : inR 0 m z ∧ z.toNat ≤ y.length ∧ ∀ t ∈ y.take z.toNat, inR 0 99 t
    · rw [if_pos c] at h
      cases h
      have e : (toks (y.take z.toNat)).length = z.toNat := by
        unfold toks
        rw [List.length_map, List.length_take]
        have := c.2.1
        omega
      have c1 := c.1
      unfold inR at c1
      refine ⟨by simp, by rw [e]; omega, ?_, by rw [e]; simp; omega, fun t ht => ?_⟩
      · rw [e, Nat.add_comm]
        rfl
      · obtain ⟨a, ha, rfl⟩ := List.mem_map.mp ht
        have := c.2.2 a ha
        unfold inR at this
        omega
    · rw [if_neg c] at h
      cases h
theorem readStep_nil : readStep [] = none := rfl
def okd (u : Step × List Int) : Option (Step × List Int) := if okStep u.1 then some u else none
theorem readStep_0 (r : List Int) : readStep (0 :: r) = (readPair (readNat 0 (NAMES - 1)) (readPair (readNat 0 PLACE) (readPair (readTokens SIDE) (readTokens SIDE))) r).bind fun u => okd (.hunk u.1.1 u.1.2.1 u.1.2.2.1 u.1.2.2.2, u.2) := rfl
theorem readStep_1 (r : List Int) : readStep (1 :: r) = (readPair (readNat 0 (NAMES - 1)) (readPair (readNat 0 (TOKENS - 1)) (readNat 0 (TOKENS - 1))) r).bind fun u => okd (.swap u.1.1 u.1.2.1 u.1.2.2, u.2) := rfl
theorem readStep_2 (r : List Int) : readStep (2 :: r) = (readNat 0 (NAMES - 1) r).map fun u => (.add u.1, u.2) := rfl
theorem readStep_3 (r : List Int) : readStep (3 :: r) = (readNat 0 (NAMES - 1) r).map fun u => (.remove u.1, u.2) := rfl
theorem readStep_4 (r : List Int) : readStep (4 :: r) = (readPair (readNat 0 (NAMES - 1)) (readNat 0 (NAMES - 1)) r).bind fun u => okd (.move u.1.1 u.1.2, u.2) := rfl
theorem readStep_else {k : Int} (r : List Int) (h0 : k ≠ 0) (h1 : k ≠ 1) (h2 : k ≠ 2) (h3 : k ≠ 3) (h4 : k ≠ 4) : readStep (k :: r) = none := by
  unfold readStep
  dsimp only
  split <;> first | rfl | (simp_all)
theorem readPair_none {A B : Type} {a : Reader A} {b : Reader B} {x : List Int} (h : a x = none) : readPair a b x = none := by
  unfold readPair; rw [h]; rfl
theorem readPair_some {A B : Type} {a : Reader A} {b : Reader B} {x : List Int} {u : A × List Int} (h : a x = some u) : readPair a b x = (b u.2).map fun v => ((u.1, v.1), v.2) := by
  unfold readPair; rw [h]; rfl
theorem whole_none {A : Type} {a : Reader A} {x : List Int} (h : a x = none) : whole a x = none := by
  unfold whole; rw [h]
theorem whole_some {A : Type} {a : Reader A} {x : List Int} {u : A} (h : a x = some (u, [])) : whole a x = some u := by
  unfold whole; rw [h]
theorem whole_more {A : Type} {a : Reader A} {x : List Int} {u : A} {r : List Int} (h : a x = some (u, r)) (hr : r ≠ []) : whole a x = none := by
  unfold whole; rw [h]
  cases r with
  | nil => exact absurd rfl hr
  | cons => rfl
theorem step_short {ns : List Int} (h : ns.length < 2) : whole readStep ns = none := by
  match ns, h with
  | [], _ => rfl
  | [k], _ =>
    apply whole_none
    by_cases h0 : k = 0; · subst h0; rfl
    by_cases h1 : k = 1; · subst h1; rfl
    by_cases h2 : k = 2; · subst h2; rfl
    by_cases h3 : k = 3; · subst h3; rfl
    by_cases h4 : k = 4; · subst h4; rfl
    exact readStep_else _ h0 h1 h2 h3 h4
theorem step_noname {k f : Int} {r : List Int} (h : ¬ inR 0 9 f) : whole readStep (k :: f :: r) = none := by
  apply whole_none
  have e : readNat 0 (NAMES - 1) (f :: r) = none := by rw [readNat_cons]; exact if_neg h
  by_cases h0 : k = 0; · subst h0; rw [readStep_0, readPair_none e]; rfl
  by_cases h1 : k = 1; · subst h1; rw [readStep_1, readPair_none e]; rfl
  by_cases h2 : k = 2; · subst h2; rw [readStep_2, e]; rfl
  by_cases h3 : k = 3; · subst h3; rw [readStep_3, e]; rfl
  by_cases h4 : k = 4; · subst h4; rw [readStep_4, readPair_none e]; rfl
  exact readStep_else _ h0 h1 h2 h3 h4
theorem step_other {k f : Int} {r : List Int} (h0 : k ≠ 0) (h1 : k ≠ 1) (h2 : k ≠ 2) (h3 : k ≠ 3) (h4 : k ≠ 4) : whole readStep (k :: f :: r) = none := whole_none (readStep_else _ h0 h1 h2 h3 h4)
theorem step_add {f : Int} {r : List Int} (h : inR 0 9 f) : whole readStep (2 :: f :: r) = if r = [] then some (.add f.toNat) else none := by
  have e : readStep (2 :: f :: r) = some (.add f.toNat, r) := by
    rw [readStep_2, readNat_cons, if_pos (show inR 0 ((NAMES - 1 : Nat) : Int) f from h)]; rfl
  by_cases hr : r = []
  · rw [if_pos hr]; subst hr; exact whole_some e
  · rw [if_neg hr]; exact whole_more e hr
theorem step_remove {f : Int} {r : List Int} (h : inR 0 9 f) : whole readStep (3 :: f :: r) = if r = [] then some (.remove f.toNat) else none := by
  have e : readStep (3 :: f :: r) = some (.remove f.toNat, r) := by
    rw [readStep_3, readNat_cons, if_pos (show inR 0 ((NAMES - 1 : Nat) : Int) f from h)]; rfl
  by_cases hr : r = []
  · rw [if_pos hr]; subst hr; exact whole_some e
  · rw [if_neg hr]; exact whole_more e hr
theorem step_move {f : Int} {r : List Int} (h : inR 0 9 f) : whole readStep (4 :: f :: r) = match r with
    | [g] => if inR 0 9 g ∧ f ≠ g then some (.move f.toNat g.toNat) else none
    | _ => none := by
  have e1 : readNat 0 (NAMES - 1) (f :: r) = some (f.toNat, r) := by rw [readNat_cons]; exact if_pos h
  cases r with
  | nil => exact whole_none (by rw [readStep_4, readPair_some e1]; rfl)
  | cons g s =>
    by_cases hg : inR 0 9 g
    · have e2 : readNat 0 (NAMES - 1) (g :: s) = some (g.toNat, s) := by rw [readNat_cons]; exact if_pos hg
      have e3 : readStep (4 :: f :: g :: s) = okd (.move f.toNat g.toNat, s) := by
        rw [readStep_4, readPair_some e1, e2]; rfl
      have hf := h
      unfold inR at hf hg
      by_cases hfg : f = g
      · have e4 : okd (.move f.toNat g.toNat, s) = none := by
          unfold okd
          simp [okStep, hfg]
        rw [whole_none (e3.trans e4)]
        cases s with
        | nil => simp [hfg]
        | cons => rfl
      · have e4 : okd (.move f.toNat g.toNat, s) = some (.move f.toNat g.toNat, s) := by
          unfold okd
          rw [if_pos]
          simp [okStep, NAMES]
          refine ⟨by omega, by omega, by omega⟩
        cases s with
        | nil =>
          rw [whole_some (e3.trans e4)]
          dsimp only
          rw [if_pos ⟨hg, hfg⟩]
        | cons => rw [whole_more (e3.trans e4) (by simp)]
    · have e2 : readNat 0 (NAMES - 1) (g :: s) = none := by rw [readNat_cons]; exact if_neg hg
      rw [whole_none (by rw [readStep_4, readPair_some e1, e2]; rfl)]
      cases s with
      | nil => dsimp only; rw [if_neg fun q => hg q.1]
      | cons => rfl
theorem step_swap {f : Int} {r : List Int} (h : inR 0 9 f) : whole readStep (1 :: f :: r) = match r with
    | [x, y] => if inR 0 99 x ∧ inR 0 99 y ∧ x ≠ y then some (.swap f.toNat x.toNat y.toNat) else none
    | _ => none := by
  have e1 : readNat 0 (NAMES - 1) (f :: r) = some (f.toNat, r) := by rw [readNat_cons]; exact if_pos h
  match r with
  | [] => exact whole_none (by rw [readStep_1, readPair_some e1]; rfl)
  | [x] =>
    by_cases hx : inR 0 99 x
    · have e2 : readNat 0 (TOKENS - 1) [x] = some (x.toNat, []) := by rw [readNat_cons]; exact if_pos hx
      exact whole_none (by rw [readStep_1, readPair_some e1]; dsimp only; rw [readPair_some e2]; rfl)
    · have e2 : readNat 0 (TOKENS - 1) [x] = none := by rw [readNat_cons]; exact if_neg hx
      exact whole_none (by rw [readStep_1, readPair_some e1]; dsimp only; rw [readPair_none e2]; rfl)
  | x :: y :: s =>
    by_cases hx : inR 0 99 x
    · have e2 : readNat 0 (TOKENS - 1) (x :: y :: s) = some (x.toNat, y :: s) := by rw [readNat_cons]; exact if_pos hx
      by_cases hy : inR 0 99 y
      · have e3 : readNat 0 (TOKENS - 1) (y :: s) = some (y.toNat, s) := by rw [readNat_cons]; exact if_pos hy
        have e4 : readStep (1 :: f :: x :: y :: s) = okd (.swap f.toNat x.toNat y.toNat, s) := by
          rw [readStep_1, readPair_some e1]; dsimp only; rw [readPair_some e2]; dsimp only; rw [e3]; rfl
        have hf := h
        have hx' := hx
        have hy' := hy
        unfold inR at hf hx' hy'
        by_cases hxy : x = y
        · have e5 : okd (.swap f.toNat x.toNat y.toNat, s) = none := by
            unfold okd
            simp [okStep, hxy]
          rw [whole_none (e4.trans e5)]
          cases s with
          | nil => dsimp only; rw [if_neg fun q => q.2.2 hxy]
          | cons => rfl
        · have e5 : okd (.swap f.toNat x.toNat y.toNat, s) = some (.swap f.toNat x.toNat y.toNat, s) := by
            unfold okd
            rw [if_pos]
            simp [okStep, NAMES, TOKENS]
            refine ⟨by omega, by omega, by omega, by omega⟩
          cases s with
          | nil => rw [whole_some (e4.trans e5)]; dsimp only; rw [if_pos ⟨hx, hy, hxy⟩]
          | cons => rw [whole_more (e4.trans e5) (by simp)]
      · have e3 : readNat 0 (TOKENS - 1) (y :: s) = none := by rw [readNat_cons]; exact if_neg hy
        rw [whole_none (by rw [readStep_1, readPair_some e1]; dsimp only; rw [readPair_some e2]; dsimp only; rw [e3]; rfl)]
        cases s with
        | nil => dsimp only; rw [if_neg fun q => hy q.2.1]
        | cons => rfl
    · have e2 : readNat 0 (TOKENS - 1) (x :: y :: s) = none := by rw [readNat_cons]; exact if_neg hx
      rw [whole_none (by rw [readStep_1, readPair_some e1]; dsimp only; rw [readPair_none e2]; rfl)]
      cases s with
      | nil => dsimp only; rw [if_neg fun q => hx q.1]
      | cons => rfl
theorem step_hunk_noplace {f : Int} {r : List Int} (h : inR 0 9 f) (hr : ∀ a s, r = a :: s → ¬ inR 0 1000 a) : whole readStep (0 :: f :: r) = none := by
  have e1 : readNat 0 (NAMES - 1) (f :: r) = some (f.toNat, r) := by rw [readNat_cons]; exact if_pos h
  refine whole_none ?_
  rw [readStep_0, readPair_some e1]
  dsimp only
  have e2 : readNat 0 PLACE r = none := by
    cases r with
    | nil => rfl
    | cons a s => rw [readNat_cons]; exact if_neg (hr a s rfl)
  rw [readPair_none e2]
  rfl
theorem step_hunk {f a : Int} {r : List Int} (h : inR 0 9 f) (ha : inR 0 1000 a) : whole readStep (0 :: f :: a :: r) = match readTokens 8 r with
    | none => none
    | some (o, s) => match readTokens 8 s with
      | none => none
      | some (n, t) => if t = [] ∧ ¬ (o = [] ∧ n = []) then some (.hunk f.toNat a.toNat o n) else none := by
  have e1 : readNat 0 (NAMES - 1) (f :: a :: r) = some (f.toNat, a :: r) := by rw [readNat_cons]; exact if_pos h
  have e2 : readNat 0 PLACE (a :: r) = some (a.toNat, r) := by rw [readNat_cons]; exact if_pos ha
  cases h1 : readTokens 8 r with
  | none =>
    refine whole_none ?_
    rw [readStep_0, readPair_some e1]
    dsimp only
    rw [readPair_some e2]
    dsimp only
    rw [readPair_none (show readTokens SIDE r = none from h1)]
    rfl
  | some u =>
    obtain ⟨o, s⟩ := u
    dsimp only
    cases h2 : readTokens 8 s with
    | none =>
      refine whole_none ?_
      rw [readStep_0, readPair_some e1]
      dsimp only
      rw [readPair_some e2]
      dsimp only
      rw [readPair_some (show readTokens SIDE r = some (o, s) from h1)]
      dsimp only
      rw [show readTokens SIDE s = none from h2]
      rfl
    | some v =>
      obtain ⟨n, t⟩ := v
      dsimp only
      have e3 : readStep (0 :: f :: a :: r) = okd (.hunk f.toNat a.toNat o n, t) := by
        rw [readStep_0, readPair_some e1]
        dsimp only
        rw [readPair_some e2]
        dsimp only
        rw [readPair_some (show readTokens SIDE r = some (o, s) from h1)]
        dsimp only
        rw [show readTokens SIDE s = some (n, t) from h2]
        rfl
      obtain ⟨_, lo, _, _, to⟩ := readTokens_len h1
      obtain ⟨_, ln, _, _, tn⟩ := readTokens_len h2
      have hf := h
      have ha' := ha
      unfold inR at hf ha'
      have ok1 : okStep (.hunk f.toNat a.toNat o n) = !(o.isEmpty && n.isEmpty) := by
        have c1 : decide (f.toNat < NAMES) = true := by simp [NAMES]; omega
        have c2 : decide (a.toNat ≤ PLACE) = true := by simp [PLACE]; omega
        have c3 : okTokens SIDE o = true := by
          simp [okTokens, SIDE, TOKENS]
          exact ⟨decide_eq_true lo, fun x hx => decide_eq_true (to x hx)⟩
        have c4 : okTokens SIDE n = true := by
          simp [okTokens, SIDE, TOKENS]
          exact ⟨decide_eq_true ln, fun x hx => decide_eq_true (tn x hx)⟩
        unfold okStep
        dsimp only
        rw [c1, c2, c3, c4]
        rfl
      by_cases hon : o = [] ∧ n = []
      · have e4 : okd (.hunk f.toNat a.toNat o n, t) = none := by
          unfold okd
          rw [if_neg]
          rw [ok1, hon.1, hon.2]
          simp
        rw [whole_none (e3.trans e4), if_neg fun q => q.2 hon]
      · have e4 : okd (.hunk f.toNat a.toNat o n, t) = some (.hunk f.toNat a.toNat o n, t) := by
          unfold okd
          rw [if_pos]
          rw [ok1]
          cases o <;> cases n <;> simp_all
        by_cases ht : t = []
        · subst ht
          rw [whole_some (e3.trans e4), if_pos ⟨rfl, hon⟩]
        · rw [whole_more (e3.trans e4) ht, if_neg fun q => ht q.1]
end VM
end
section
namespace VM
open VapatBase Vapatb

abbrev rp : Reader (Nat × Tokens) := readPair (readNat 0 9) (readTokens 12)
theorem rises_iff : ∀ {t : Tree}, rises (t.map fun y => y.1) = true ↔ Rising t
  | [] => by simp [rises, Rising]
  | [x] => by simp [rises, Rising]
  | x :: y :: t => by
    have ih := rises_iff (t := y :: t)
    show (decide (x.1 < y.1) && rises ((y :: t).map fun y => y.1)) = true ↔ _
    rw [Bool.and_eq_true, ih]
    constructor
    · rintro ⟨h1, h2⟩
      have h1 : x.1 < y.1 := of_decide_eq_true h1
      refine ⟨fun z hz => ?_, h2⟩
      rcases List.mem_cons.mp hz with e | e
      · rw [e]; exact h1
      · exact Nat.lt_trans h1 (h2.1 z e)
    · rintro ⟨h1, h2⟩
      exact ⟨decide_eq_true (h1 y (by simp)), h2⟩
def finish (done : Tree) (k : Nat) (x : List Int) : Option Tree := match readTimes rp k x with
  | none => none
  | some (rest, tail) => if tail = [] ∧ rises ((done ++ rest).map fun y => y.1) = true then some (done ++ rest) else none
theorem tree_start_nil : whole readTree [] = none := rfl
theorem tree_start_no {z : Int} {r : List Int} (h : ¬ inR 0 6 z) : whole readTree (z :: r) = none := by
  apply whole_none
  unfold readTree readListed
  rw [readNat_cons, if_neg (show ¬ inR 0 ((FILES : Nat) : Int) z from h)]
  rfl
theorem tree_start {z : Int} {r : List Int} (h : inR 0 6 z) : whole readTree (z :: r) = finish [] z.toNat r := by
  unfold whole readTree readListed finish
  rw [readNat_cons, if_pos (show inR 0 ((FILES : Nat) : Int) z from h)]
  simp only [Option.bind_some]
  cases h1 : readTimes rp z.toNat r with
  | none =>
    have h1' : readTimes (readPair (readNat 0 (NAMES - 1)) (readTokens FILE)) z.toNat r = none := h1
    rw [h1']
    rfl
  | some u =>
    obtain ⟨rest, tail⟩ := u
    have h1' : readTimes (readPair (readNat 0 (NAMES - 1)) (readTokens FILE)) z.toNat r = some (rest, tail) := h1
    rw [h1']
    simp only [Option.bind_some, List.nil_append]
    by_cases hr : rises (rest.map fun y => y.1) = true
    · rw [if_pos hr]
      cases tail with
      | nil => simp [hr]
      | cons => simp
    · rw [if_neg hr, if_neg fun q => hr q.2]
theorem finish_zero {done : Tree} {x : List Int} (hd : Rising done) : finish done 0 x = if x = [] then some done else none := by
  unfold finish
  show (if x = [] ∧ rises ((done ++ ([] : Tree)).map fun y => y.1) = true then some (done ++ ([] : Tree)) else none) = _
  rw [List.append_nil]
  have := rises_iff.mpr hd
  by_cases hx : x = []
  · rw [if_pos ⟨hx, this⟩, if_pos hx]
  · rw [if_neg fun q => hx q.1, if_neg hx]
theorem finish_nil {done : Tree} {k : Nat} : finish done (k + 1) [] = none := rfl
theorem rp_cons_no {f : Int} {r : List Int} (h : ¬ inR 0 9 f) : rp (f :: r) = none := by
  refine readPair_none ?_
  rw [readNat_cons]
  exact if_neg h
theorem rp_cons_none {f : Int} {r : List Int} (h : readTokens 12 r = none) : rp (f :: r) = none := by
  by_cases hf : inR 0 9 f
  · have e1 : readNat 0 9 (f :: r) = some (f.toNat, r) := by rw [readNat_cons]; exact if_pos hf
    show readPair (readNat 0 9) (readTokens 12) (f :: r) = none
    rw [readPair_some e1]
    dsimp only
    rw [h]
    rfl
  · exact rp_cons_no hf
theorem rp_cons {f : Int} {r s : List Int} {c : Tokens} (hf : inR 0 9 f) (h : readTokens 12 r = some (c, s)) : rp (f :: r) = some ((f.toNat, c), s) := by
  have e1 : readNat 0 9 (f :: r) = some (f.toNat, r) := by rw [readNat_cons]; exact if_pos hf
  show readPair (readNat 0 9) (readTokens 12) (f :: r) = _
  rw [readPair_some e1]
  dsimp only
  rw [h]
  rfl
theorem readTimes_succ {A : Type} {a : Reader A} {k : Nat} {x : List Int} : readTimes a (k + 1) x = (a x).bind fun u => (readTimes a k u.2).map fun v => (u.1 :: v.1, v.2) := rfl
theorem finish_none {done : Tree} {k : Nat} {x : List Int} (h : rp x = none) : finish done (k + 1) x = none := by
  unfold finish
  rw [readTimes_succ, h]
  rfl
theorem finish_step {done : Tree} {k : Nat} {f : Int} {r s : List Int} {c : Tokens} (hf : inR 0 9 f) (h : readTokens 12 r = some (c, s)) : finish done (k + 1) (f :: r) = finish (done ++ [(f.toNat, c)]) k s := by
  unfold finish
  rw [readTimes_succ, rp_cons hf h]
  simp only [Option.bind_some]
  cases readTimes rp k s with
  | none => rfl
  | some u =>
    obtain ⟨rest, tail⟩ := u
    simp
theorem rising_app_last {t : Tree} {a b : Nat × Tokens} {u : Tree} (h : Rising (t ++ a :: b :: u)) : a.1 < b.1 := by
  induction t with
  | nil => exact h.1 b (by simp)
  | cons x t ih => exact ih h.2
theorem finish_low {done : Tree} {l f : Int} {d : Tokens} {k : Nat} {r : List Int} (hl : inR 0 9 l) (h : f ≤ l) : finish (done ++ [(l.toNat, d)]) (k + 1) (f :: r) = none := by
  by_cases hf : inR 0 9 f
  · cases h1 : readTokens 12 r with
    | none => exact finish_none (rp_cons_none h1)
    | some u =>
      obtain ⟨c, s⟩ := u
      rw [finish_step hf h1]
      unfold finish
      cases readTimes rp k s with
      | none => rfl
      | some v =>
        obtain ⟨rest, tail⟩ := v
        dsimp only
        rw [if_neg]
        rintro ⟨_, q⟩
        have q := rises_iff.mp q
        have e : done ++ [(l.toNat, d)] ++ [(f.toNat, c)] ++ rest = done ++ (l.toNat, d) :: (f.toNat, c) :: rest := by simp
        rw [e] at q
        have := rising_app_last q
        unfold inR at hl hf
        dsimp only at this
        omega
  · exact finish_none (rp_cons_no hf)
theorem rising_snoc {t : Tree} {l f : Nat} {d c : Tokens} (h : Rising (t ++ [(l, d)])) (hl : l < f) : Rising (t ++ [(l, d)] ++ [(f, c)]) := by
  induction t with
  | nil =>
    refine ⟨fun y hy => ?_, fun y hy => ?_, trivial⟩
    · have : y = (f, c) := by simpa using hy
      rw [this]; exact hl
    · cases hy
  | cons x t ih =>
    refine ⟨fun y hy => ?_, ih h.2⟩
    rcases List.mem_append.mp hy with e | e
    · exact h.1 y e
    · have : y = (f, c) := by simpa using e
      rw [this]
      exact Nat.lt_trans (h.1 (l, d) (by simp)) hl

def small : Step → Prop
  | .hunk f _ o n => f < 10 ∧ o.length ≤ 8 ∧ n.length ≤ 8
  | .swap f _ _ => f < 10
  | .add f => f < 10
  | .remove f => f < 10
  | .move f g => f < 10 ∧ g < 10
theorem small_of_ok {p : Step} (h : okStep p = true) : small p := by
  cases p with
  | hunk f a o n =>
    simp only [okStep, Bool.and_eq_true, okTokens, decide_eq_true_eq] at h
    exact ⟨h.1, h.2.2.1.1, h.2.2.2.1.1⟩
  | swap f x y =>
    simp only [okStep, Bool.and_eq_true, decide_eq_true_eq] at h
    exact h.1
  | add f => exact of_decide_eq_true (p := f < 10) h
  | remove f => exact of_decide_eq_true (p := f < 10) h
  | move f g =>
    simp only [okStep, Bool.and_eq_true, decide_eq_true_eq] at h
    exact ⟨h.1, h.2.1⟩
theorem small_turned {p : Step} (h : small p) : small (turned p) := by
  cases p with
  | hunk f a o n => exact ⟨h.1, h.2.2, h.2.1⟩
  | move f g => exact ⟨h.2, h.1⟩
  | _ => exact h
theorem small_inFile {p : Step} {g : Nat} (h : small p) (hg : g < 10) (hi : isInside p = true) : small (inFile g p) := by
  cases p with
  | hunk f a o n => exact ⟨hg, h.2⟩
  | swap f x y => exact hg
  | _ => cases hi
theorem small_commuted {p q q' p' : Step} (hp : small p) (hq : small q) (h : commuted p q = some (q', p')) : small q' ∧ small p' := by
  unfold commuted at h
  by_cases hd : disjoint (namesOf p) (namesOf q) = true
  · rw [if_pos hd] at h
    cases h
    exact ⟨hq, hp⟩
  · rw [if_neg hd] at h
    by_cases hi : (isInside p && isInside q) = true
    · rw [if_pos hi] at h
      cases p with
      | hunk f a o n =>
        cases q with
        | hunk g b u v =>
          simp only [commutedInside] at h
          split at h
          · cases h; exact ⟨⟨hp.1, hq.2⟩, hp⟩
          · split at h
            · cases h; exact ⟨⟨hp.1, hq.2⟩, hp⟩
            · cases h
        | swap g x y =>
          cases h
          exact ⟨hp.1, hp.1, by rw [swapAll_length]; exact hp.2.1, by rw [swapAll_length]; exact hp.2.2⟩
        | _ => cases h
      | swap f x y =>
        cases q with
        | hunk g b u v =>
          cases h
          exact ⟨⟨hp, by rw [swapAll_length]; exact hq.2.1, by rw [swapAll_length]; exact hq.2.2⟩, hp⟩
        | swap g u v =>
          simp only [commutedInside] at h
          split at h
          · cases h; exact ⟨hp, hp⟩
          · cases h
        | _ => cases h
      | _ => cases q <;> cases h
    · rw [if_neg hi] at h
      have key1 : ∀ f g, p = .move f g → small q' ∧ small p' := by
        intro f g e
        subst e
        dsimp only at h
        by_cases hc : (isInside q && namesOf q == [g]) = true
        · rw [if_pos hc] at h
          cases h
          rw [Bool.and_eq_true] at hc
          exact ⟨small_inFile hq hp.1 hc.1, hp⟩
        · rw [if_neg hc] at h
          cases h
      have key2 : (∀ f g, p ≠ .move f g) → ∀ f g, q = .move f g → small q' ∧ small p' := by
        intro hn f g e
        subst e
        have h' : (if (isInside p && namesOf p == [f]) = true then some (Step.move f g, inFile g p) else none) = some (q', p') := by
          cases p with
          | move a b => exact absurd rfl (hn a b)
          | _ => exact h
        by_cases hc : (isInside p && namesOf p == [f]) = true
        · rw [if_pos hc] at h'
          cases h'
          rw [Bool.and_eq_true] at hc
          exact ⟨hq, small_inFile hp hq.2 hc.1⟩
        · rw [if_neg hc] at h'
          cases h'
      cases p with
      | move f g => exact key1 f g rfl
      | hunk f a o n =>
        cases q with
        | move f' g' => exact key2 (fun _ _ x => by cases x) f' g' rfl
        | _ => cases h
      | swap f x y =>
        cases q with
        | move f' g' => exact key2 (fun _ _ x => by cases x) f' g' rfl
        | _ => cases h
      | add f =>
        cases q with
        | move f' g' => exact key2 (fun _ _ x => by cases x) f' g' rfl
        | _ => cases h
      | remove f =>
        cases q with
        | move f' g' => exact key2 (fun _ _ x => by cases x) f' g' rfl
        | _ => cases h
def smalls (l : List Step) : Prop := ∀ p ∈ l, small p
theorem smalls_cons {p : Step} {l : List Step} : smalls (p :: l) ↔ small p ∧ smalls l := by
  unfold smalls; simp
theorem smalls_app {l m : List Step} : smalls (l ++ m) ↔ smalls l ∧ smalls m := by
  unfold smalls
  constructor
  · intro h
    exact ⟨fun p hp => h p (List.mem_append_left _ hp), fun p hp => h p (List.mem_append_right _ hp)⟩
  · rintro ⟨h1, h2⟩ p hp
    rcases List.mem_append.mp hp with e | e
    · exact h1 p e
    · exact h2 p e
theorem aheadOf_small {l l' : List Step} {q q' : Step} (h : aheadOf l q = .ok (q', l')) (hl : smalls l) (hq : small q) : small q' ∧ smalls l' ∧ l'.length = l.length := by
  induction l generalizing q' l' with
  | nil => cases h; exact ⟨hq, hl, rfl⟩
  | cons p l ih =>
    unfold aheadOf at h
    cases h3 : aheadOf l q with
    | error n => rw [h3] at h; cases h
    | ok r =>
      obtain ⟨q1, l1⟩ := r
      rw [h3] at h
      dsimp only at h
      cases h7 : commuted p q1 with
      | none => rw [h7] at h; cases h
      | some s =>
        obtain ⟨q2, p1⟩ := s
        rw [h7] at h
        cases h
        obtain ⟨a, b, c⟩ := ih h3 (smalls_cons.mp hl).2
        obtain ⟨d, e⟩ := small_commuted (smalls_cons.mp hl).1 a h7
        exact ⟨d, smalls_cons.mpr ⟨e, b⟩, by simp [c]⟩
theorem behind_small {l l' : List Step} {p p' : Step} (h : behind p l = .ok (l', p')) (hl : smalls l) (hp : small p) : small p' ∧ smalls l' ∧ l'.length = l.length := by
  induction l generalizing p l' with
  | nil => cases h; exact ⟨hp, hl, rfl⟩
  | cons q l ih =>
    unfold behind at h
    cases h5 : commuted p q with
    | none => rw [h5] at h; cases h
    | some s =>
      obtain ⟨q1, p1⟩ := s
      rw [h5] at h
      dsimp only at h
      cases h6 : behind p1 l with
      | error n => rw [h6] at h; cases h
      | ok r =>
        obtain ⟨l1, p2⟩ := r
        rw [h6] at h
        cases h
        obtain ⟨d, e⟩ := small_commuted hp (smalls_cons.mp hl).1 h5
        obtain ⟨a, b, c⟩ := ih h6 (smalls_cons.mp hl).2 e
        exact ⟨a, smalls_cons.mpr ⟨d, b⟩, by simp [c]⟩
theorem rowsCommuted_small {l m l' m' : List Step} (h : rowsCommuted l m = some (m', l')) (hl : smalls l) (hm : smalls m) : smalls m' ∧ smalls l' ∧ l'.length = l.length ∧ m'.length = m.length := by
  induction m generalizing l m' with
  | nil => cases h; exact ⟨hm, hl, rfl, rfl⟩
  | cons q m ih =>
    unfold rowsCommuted at h
    cases h1 : aheadOf l q with
    | error n => rw [h1] at h; cases h
    | ok r =>
      obtain ⟨q1, l1⟩ := r
      rw [h1] at h
      dsimp only at h
      cases h2 : rowsCommuted l1 m with
      | none => rw [h2] at h; cases h
      | some s =>
        obtain ⟨a, b⟩ := s
        rw [h2] at h
        cases h
        obtain ⟨e1, e2, e3⟩ := aheadOf_small h1 hl (smalls_cons.mp hm).1
        obtain ⟨f1, f2, f3, f4⟩ := ih h2 e2 (smalls_cons.mp hm).2
        exact ⟨smalls_cons.mpr ⟨e1, f1⟩, f2, f3.trans e3, by simp [f4]⟩
theorem smalls_turned {l : List Step} (h : smalls l) : smalls (turnedAll l) := by
  intro p hp
  have hp : p ∈ (l.map turned).reverse := hp
  rw [List.mem_reverse] at hp
  obtain ⟨q, hq, rfl⟩ := List.mem_map.mp hp
  exact small_turned (h q hq)

def Low (m : Nat) (t : Tree) : Prop := ∀ x ∈ t, x.1 < 10 ∧ x.2.length ≤ m
theorem low_mono {m n : Nat} {t : Tree} (h : Low m t) (hm : m ≤ n) : Low n t := fun x hx => ⟨(h x hx).1, Nat.le_trans (h x hx).2 hm⟩
theorem low_put {m : Nat} {t : Tree} {f : Nat} {c : Tokens} (h : Low m t) (hf : f < 10) (hc : c.length ≤ m) : Low m (putFile f c t) := fun x hx => by
  rcases mem_putFile hx with e | e
  · rw [e]; exact ⟨hf, hc⟩
  · exact h x e
theorem low_drop {m : Nat} {t : Tree} {f : Nat} (h : Low m t) : Low m (dropFile f t) := fun x hx => h x (List.mem_filter.mp hx).1
theorem low_file {m : Nat} {t : Tree} {f : Nat} {c : Tokens} (h : Low m t) (hf : fileIn t f = some c) : f < 10 ∧ c.length ≤ m := h _ (fileIn_mem hf)
theorem low_applied {m : Nat} {t u : Tree} {p : Step} (h : Low m t) (hp : small p) (ha : applied t p = some u) : Low (m + 8) u := by
  cases p with
  | hunk f a o n =>
    dsimp only [applied] at ha
    cases hf : fileIn t f with
    | none => rw [hf] at ha; cases ha
    | some c =>
      rw [hf] at ha
      dsimp only [Option.bind_some] at ha
      cases hs : spliced c a o n with
      | none => rw [hs] at ha; cases ha
      | some d =>
        rw [hs] at ha
        cases ha
        obtain ⟨A, B, rfl, e1, rfl⟩ := spliced_some hs
        have := low_file h hf
        refine low_put (low_mono h (by omega)) hp.1 ?_
        have h2 := this.2
        have h3 := hp.2.2
        simp only [List.length_append] at h2 ⊢
        omega
  | swap f x y =>
    dsimp only [applied] at ha
    cases hf : fileIn t f with
    | none => rw [hf] at ha; cases ha
    | some c =>
      rw [hf] at ha
      cases ha
      have := low_file h hf
      exact low_put (low_mono h (by omega)) this.1 (by rw [swapAll_length]; omega)
  | add f =>
    dsimp only [applied] at ha
    cases hf : fileIn t f with
    | some c => rw [hf] at ha; cases ha
    | none =>
      rw [hf] at ha
      cases ha
      exact low_put (low_mono h (by omega)) hp (by simp)
  | remove f =>
    dsimp only [applied] at ha
    by_cases hf : fileIn t f = some []
    · rw [if_pos hf] at ha
      cases ha
      exact low_mono (low_drop h) (by omega)
    · rw [if_neg hf] at ha
      cases ha
  | move f g =>
    dsimp only [applied] at ha
    cases hf : fileIn t f with
    | none => simp only [hf] at ha; cases ha
    | some c =>
      cases hg : fileIn t g with
      | some d => simp only [hf, hg] at ha; cases ha
      | none =>
        simp only [hf, hg] at ha
        cases ha
        have := low_file h hf
        exact low_put (low_mono (low_drop h) (by omega)) hp.2 (by omega)
theorem low_appliedAll {m : Nat} {t u : Tree} {l : List Step} (h : Low m t) (hl : smalls l) (ha : appliedAll t l = some u) : Low (m + 8 * l.length) u := by
  induction l generalizing t m with
  | nil => cases ha; exact h
  | cons p l ih =>
    obtain ⟨w, h1, h2⟩ := appliedAll_cons.mp ha
    have := ih (low_applied h (smalls_cons.mp hl).1 h1) (smalls_cons.mp hl).2 h2
    refine low_mono this ?_
    simp
    omega
theorem rising_bound {t : Tree} {m : Nat} (hr : Rising t) (h : ∀ x ∈ t, x.1 < m) : t.length ≤ m := by
  have key : ∀ (t : Tree) (b : Nat), Rising t → (∀ x ∈ t, b ≤ x.1 ∧ x.1 < m) → t.length ≤ m - b := by
    intro t
    induction t with
    | nil => intro b _ _; exact Nat.zero_le _
    | cons x t ih =>
      intro b hr h
      have := ih (x.1 + 1) hr.2 fun y hy => ⟨hr.1 y hy, (h y (by simp [hy])).2⟩
      have h2 := h x (by simp)
      simp
      omega
  have := key t 0 hr fun x hx => ⟨Nat.zero_le _, h x hx⟩
  omega
theorem low_len {m : Nat} {t : Tree} (hr : Rising t) (h : Low m t) : t.length ≤ 10 := rising_bound hr fun x hx => (h x hx).1
end VM
end
section
namespace VM
open VapatBase Vapatb

theorem whole_iff {A : Type} {a : Reader A} {x : List Int} {u : A} : whole a x = some u ↔ a x = some (u, []) := by
  unfold whole
  cases h : a x with
  | none => simp
  | some v =>
    obtain ⟨w, r⟩ := v
    cases r with
    | nil => simp
    | cons => simp
theorem step_read_small {x : List Int} {p : Step} (h : whole readStep x = some p) : small p := by
  by_cases hs : x.length < 2
  · rw [step_short hs] at h; cases h
  match x, hs with
  | k :: f :: r, _ =>
    by_cases hf : inR 0 9 f
    · have hf' := hf
      unfold inR at hf'
      by_cases h0 : k = 0
      · subst h0
        cases r with
        | nil => rw [step_hunk_noplace hf (by intro a s e; cases e)] at h; cases h
        | cons a r =>
          by_cases ha : inR 0 1000 a
          · rw [step_hunk hf ha] at h
            cases h1 : readTokens 8 r with
            | none => rw [h1] at h; cases h
            | some u =>
              obtain ⟨o, s⟩ := u
              rw [h1] at h
              dsimp only at h
              cases h2 : readTokens 8 s with
              | none => rw [h2] at h; cases h
              | some v =>
                obtain ⟨n, t⟩ := v
                rw [h2] at h
                dsimp only at h
                split at h
                · cases h
                  exact ⟨by omega, (readTokens_len h1).2.1, (readTokens_len h2).2.1⟩
                · cases h
          · rw [step_hunk_noplace hf (by intro b s e; cases e; exact ha)] at h; cases h
      by_cases h1 : k = 1
      · subst h1
        rw [step_swap hf] at h
        split at h
        · split at h
          · cases h; show f.toNat < 10; omega
          · cases h
        · cases h
      by_cases h2 : k = 2
      · subst h2
        rw [step_add hf] at h
        split at h
        · cases h; show f.toNat < 10; omega
        · cases h
      by_cases h3 : k = 3
      · subst h3
        rw [step_remove hf] at h
        split at h
        · cases h; show f.toNat < 10; omega
        · cases h
      by_cases h4 : k = 4
      · subst h4
        rw [step_move hf] at h
        split at h
        · split at h
          · rename_i g _ hc
            cases h
            have := hc.1
            unfold inR at this
            exact ⟨by omega, by omega⟩
          · cases h
        · cases h
      rw [step_other h0 h1 h2 h3 h4] at h; cases h
    · rw [step_noname hf] at h; cases h
  | [], hs => simp at hs
  | [k], hs => simp at hs
theorem readTimes_low {k : Nat} {x r : List Int} {t : Tree} (h : readTimes rp k x = some (t, r)) : Low 12 t ∧ t.length = k := by
  induction k generalizing x t with
  | zero => cases h; exact ⟨fun x hx => (by cases hx), rfl⟩
  | succ k ih =>
    rw [readTimes_succ] at h
    cases x with
    | nil => cases h
    | cons f y =>
      by_cases hf : inR 0 9 f
      · cases h1 : readTokens 12 y with
        | none => rw [rp_cons_none h1] at h; cases h
        | some u =>
          obtain ⟨c, s⟩ := u
          rw [rp_cons hf h1] at h
          simp only [Option.bind_some] at h
          cases h2 : readTimes rp k s with
          | none => rw [h2] at h; cases h
          | some v =>
            obtain ⟨rest, tail⟩ := v
            rw [h2] at h
            cases h
            obtain ⟨a, b⟩ := ih h2
            refine ⟨fun z hz => ?_, by simp [b]⟩
            rcases List.mem_cons.mp hz with e | e
            · rw [e]
              unfold inR at hf
              exact ⟨by show f.toNat < 10; omega, (readTokens_len h1).2.1⟩
            · exact a z e
      · rw [rp_cons_no hf] at h; cases h
theorem tree_read {x : List Int} {t : Tree} (h : whole readTree x = some t) : Rising t ∧ Low 12 t ∧ t.length ≤ 6 := by
  cases x with
  | nil => cases h
  | cons z r =>
    by_cases hz : inR 0 6 z
    · rw [tree_start hz] at h
      unfold finish at h
      cases h1 : readTimes rp z.toNat r with
      | none => rw [h1] at h; cases h
      | some u =>
        obtain ⟨rest, tail⟩ := u
        rw [h1] at h
        dsimp only at h
        split at h
        · rename_i hc
          cases h
          have := readTimes_low h1
          unfold inR at hz
          exact ⟨rises_iff.mp hc.2, this.1, by rw [List.nil_append, this.2]; omega⟩
        · cases h
    · rw [tree_start_no hz] at h; cases h

structure Good (k : Nat) (s : State) : Prop where
  no : s.tree = none → s.row = []
  yes : ∀ t, s.tree = some t → Rising t ∧ Low (12 + 128 * k) t ∧ (∃ u, appliedAll t s.row = some u) ∧ smalls s.row ∧ s.row.length ≤ 16
theorem Good.mono {k j : Nat} {s : State} (h : Good k s) (hk : k ≤ j) : Good j s :=
  ⟨h.no, fun t e => let ⟨a, b, c⟩ := h.yes t e; ⟨a, low_mono b (by omega), c⟩⟩
theorem good_start : Good 0 start := ⟨fun _ => rfl, fun t e => by cases e⟩
theorem Good.row {k : Nat} {s : State} {t : Tree} {l : List Step} {u : Tree} (h : Good k s) (e : s.tree = some t) (ha : appliedAll t l = some u) (hs : smalls l) (hl : l.length ≤ 16) : Good (k + 1) { s with row := l } := by
  obtain ⟨a, b, _⟩ := h.yes t e
  refine ⟨fun q => (by rw [show s.tree = none from q] at e; cases e), fun t' e' => ?_⟩
  have : t' = t := Option.some.inj ((show s.tree = some t' from e').symm.trans e)
  subst this
  exact ⟨a, low_mono b (by omega), ⟨u, ha⟩, hs, hl⟩
theorem Good.onTree {k : Nat} {s : State} {f : Tree → State × Answer} (h : Good k s) (hf : ∀ t, s.tree = some t → Good (k + 1) (f t).1) : Good (k + 1) (onTree s f).1 := by
  unfold Vapatb.onTree
  cases e : s.tree with
  | none => exact h.mono (by omega)
  | some t => exact hf t e
theorem Good.onStep {k : Nat} {s : State} {i : Int} {f : Nat → State × Answer} (h : Good k s) (hf : ∀ t, s.tree = some t → i.toNat < s.row.length → Good (k + 1) (f i.toNat).1) : Good (k + 1) (onStep s i f).1 := by
  unfold Vapatb.onStep
  refine h.onTree fun t e => ?_
  by_cases hc : 0 ≤ i ∧ i < Vapatb.int s.row.length
  · rw [if_pos hc]
    refine hf t e ?_
    have : i < (s.row.length : Int) := hc.2
    omega
  · rw [if_neg hc]
    exact h.mono (by omega)
theorem take_get_drop {α : Type} {l : List α} {k : Nat} {x : α} (h : l[k]? = some x) : l = l.take k ++ x :: l.drop (k + 1) := by
  obtain ⟨hk, e⟩ := List.getElem?_eq_some_iff.mp h
  rw [← e, List.getElem_cons_drop, List.take_append_drop]
theorem smalls_take {l : List Step} (k : Nat) (h : smalls l) : smalls (l.take k) := fun p hp => h p (List.mem_of_mem_take hp)
theorem smalls_drop {l : List Step} (k : Nat) (h : smalls l) : smalls (l.drop k) := fun p hp => h p (List.mem_of_mem_drop hp)
theorem good_step {k : Nat} {s : State} (h : Good k s) (c : Call) : Good (k + 1) (step s c).1 := by
  have stay : Good (k + 1) s := h.mono (by omega)
  cases c with
  | tree l =>
    dsimp only [step]
    cases e : whole readTree l with
    | none => exact stay
    | some t =>
      obtain ⟨a, b, _⟩ := tree_read e
      refine ⟨fun q => (by cases q), fun t' e' => ?_⟩
      cases e'
      exact ⟨a, low_mono b (by omega), ⟨t, rfl⟩, fun p hp => (by cases hp), Nat.zero_le _⟩
  | step l =>
    dsimp only [step]
    refine h.onTree fun t e => ?_
    cases e1 : whole readStep l with
    | none => exact stay
    | some p =>
      dsimp only
      by_cases hr : ROW ≤ s.row.length
      · rw [if_pos hr]; exact stay
      · rw [if_neg hr]
        obtain ⟨a, b, ⟨u, hu⟩, hs, hl⟩ := h.yes t e
        rw [hu]
        simp only [Option.bind_some]
        cases e2 : applied u p with
        | none => exact stay
        | some v =>
          refine h.row e (u := v) (appliedAll_app.mpr ⟨u, hu, appliedAll_cons.mpr ⟨v, e2, rfl⟩⟩) (smalls_app.mpr ⟨hs, smalls_cons.mpr ⟨step_read_small e1, fun p hp => (by cases hp)⟩⟩) ?_
          have : ¬ 16 ≤ s.row.length := hr
          simp
          omega
  | shown => exact h.onTree fun t e => stay
  | outcome => exact h.onTree fun t e => stay
  | why i => exact h.onStep fun t e _ => stay
  | needs i => exact h.onStep fun t e _ => stay
  | neededBy i => exact h.onStep fun t e _ => stay
  | three i => exact h.onStep fun t e _ => stay
  | commute i =>
    dsimp only [step, doCommute]
    refine h.onStep fun t e hi => ?_
    generalize i.toNat = j at hi ⊢
    cases e1 : s.row[j]? with
    | none => exact stay
    | some p =>
      cases e2 : s.row[j + 1]? with
      | none => exact stay
      | some q =>
        dsimp only
        cases e3 : commuted p q with
        | none => exact stay
        | some r =>
          obtain ⟨q', p'⟩ := r
          obtain ⟨a, b, ⟨u, hu⟩, hs, hl⟩ := h.yes t e
          have d1 := take_get_drop e1
          have d2 : s.row.drop (j + 1) = q :: s.row.drop (j + 2) := by
            obtain ⟨hk, ee⟩ := List.getElem?_eq_some_iff.mp e2
            rw [← ee, List.getElem_cons_drop]
          rw [d2] at d1
          have hu' := hu
          have hs' := hs
          have hl' := hl
          rw [d1] at hu' hs' hl'
          obtain ⟨w, w1, w2⟩ := appliedAll_app.mp hu'
          obtain ⟨x, x1, x2⟩ := appliedAll_cons.mp w2
          obtain ⟨y, y1, y2⟩ := appliedAll_cons.mp x2
          obtain ⟨z, z1, z2⟩ := applied_commuted (appliedAll_rising a w1) x1 y1 e3
          obtain ⟨s1, s2⟩ := smalls_app.mp hs'
          obtain ⟨s3, s4⟩ := smalls_cons.mp s2
          obtain ⟨s5, s6⟩ := smalls_cons.mp s4
          obtain ⟨m1, m2⟩ := small_commuted s3 s5 e3
          refine h.row e (u := u) (appliedAll_app.mpr ⟨w, w1, appliedAll_cons.mpr ⟨z, z1, appliedAll_cons.mpr ⟨y, z2, y2⟩⟩⟩) (smalls_app.mpr ⟨s1, smalls_cons.mpr ⟨m1, smalls_cons.mpr ⟨m2, s6⟩⟩⟩) ?_
          simp only [List.length_append, List.length_cons] at hl' ⊢
          exact hl'
  | front i =>
    dsimp only [step, doFront]
    refine h.onStep fun t e hi => ?_
    generalize i.toNat = j at hi ⊢
    cases e1 : s.row[j]? with
    | none => exact stay
    | some q =>
      dsimp only
      cases e2 : aheadOf (s.row.take j) q with
      | error n => exact stay
      | ok r =>
        obtain ⟨q', l'⟩ := r
        obtain ⟨a, b, ⟨u, hu⟩, hs, hl⟩ := h.yes t e
        have d1 := take_get_drop e1
        have d2 : s.row = (s.row.take j ++ [q]) ++ s.row.drop (j + 1) := by simpa using d1
        have hu' := hu
        rw [d2] at hu'
        obtain ⟨w, w1, w2⟩ := appliedAll_app.mp hu'
        have := aheadOf_outcome a e2 w1
        obtain ⟨m1, m2, m3⟩ := aheadOf_small e2 (smalls_take j hs) (hs q (List.mem_of_getElem? e1))
        refine h.row e (u := u) (l := q' :: (l' ++ s.row.drop (j + 1))) ?_ (smalls_cons.mpr ⟨m1, smalls_app.mpr ⟨m2, smalls_drop _ hs⟩⟩) ?_
        · exact appliedAll_app (l := q' :: l') |>.mpr ⟨w, this, w2⟩
        · have hl' := hl
          rw [d2] at hl'
          simp only [List.length_append, List.length_cons, List.length_nil, m3] at hl' ⊢
          omega
  | back i =>
    dsimp only [step, doBack]
    refine h.onStep fun t e hi => ?_
    generalize i.toNat = j at hi ⊢
    cases e1 : s.row.drop j with
    | nil => exact stay
    | cons p l =>
      dsimp only
      cases e2 : behind p l with
      | error n => exact stay
      | ok r =>
        obtain ⟨l', p'⟩ := r
        obtain ⟨a, b, ⟨u, hu⟩, hs, hl⟩ := h.yes t e
        have d1 : s.row = s.row.take j ++ p :: l := by rw [← e1, List.take_append_drop]
        have hu' := hu
        have hs' := hs
        have hl' := hl
        rw [d1] at hu' hs' hl'
        obtain ⟨w, w1, w2⟩ := appliedAll_app.mp hu'
        have := behind_outcome (appliedAll_rising a w1) e2 w2
        obtain ⟨s1, s2⟩ := smalls_app.mp hs'
        obtain ⟨s3, s4⟩ := smalls_cons.mp s2
        obtain ⟨m1, m2, m3⟩ := behind_small e2 s4 s3
        refine h.row e (u := u) (appliedAll_app.mpr ⟨w, w1, this⟩) (smalls_app.mpr ⟨s1, smalls_app.mpr ⟨m2, smalls_cons.mpr ⟨m1, fun p hp => (by cases hp)⟩⟩⟩) ?_
        simp only [List.length_append, List.length_cons, List.length_nil, m3] at hl' ⊢
        omega
  | without i =>
    dsimp only [step]
    refine h.onStep fun t e hi => ?_
    generalize i.toNat = j at hi ⊢
    unfold Vapatb.without
    cases e1 : s.row.drop j with
    | nil =>
      dsimp only
      obtain ⟨a, b, ⟨u, hu⟩, hs, hl⟩ := h.yes t e
      exact h.row e hu hs hl
    | cons p l =>
      dsimp only
      cases e2 : behind p l with
      | error n => exact stay
      | ok r =>
        obtain ⟨l', p'⟩ := r
        obtain ⟨a, b, ⟨u, hu⟩, hs, hl⟩ := h.yes t e
        have d1 : s.row = s.row.take j ++ p :: l := by rw [← e1, List.take_append_drop]
        have hu' := hu
        have hs' := hs
        have hl' := hl
        rw [d1] at hu' hs' hl'
        obtain ⟨w, w1, w2⟩ := appliedAll_app.mp hu'
        have := behind_outcome (appliedAll_rising a w1) e2 w2
        obtain ⟨v, v1, v2⟩ := appliedAll_app.mp this
        obtain ⟨s1, s2⟩ := smalls_app.mp hs'
        obtain ⟨s3, s4⟩ := smalls_cons.mp s2
        obtain ⟨m1, m2, m3⟩ := behind_small e2 s4 s3
        refine h.row e (u := v) (l := s.row.take j ++ l') (appliedAll_app.mpr ⟨w, w1, v1⟩) (smalls_app.mpr ⟨s1, m2⟩) ?_
        simp only [List.length_append, List.length_cons, m3] at hl' ⊢
        omega
  | past i =>
    dsimp only [step]
    refine h.onStep fun t e hi => ?_
    generalize i.toNat = j at hi ⊢
    cases e2 : rowsCommuted (s.row.take j) (s.row.drop j) with
    | none => exact stay
    | some r =>
      obtain ⟨m', l'⟩ := r
      obtain ⟨a, b, ⟨u, hu⟩, hs, hl⟩ := h.yes t e
      have hu' : appliedAll t (s.row.take j ++ s.row.drop j) = some u := by rw [List.take_append_drop]; exact hu
      obtain ⟨m1, m2, m3, m4⟩ := rowsCommuted_small e2 (smalls_take j hs) (smalls_drop j hs)
      refine h.row e (u := u) (rowsCommuted_outcome a e2 hu') (smalls_app.mpr ⟨m1, m2⟩) ?_
      rw [List.length_append, m3, m4, List.length_take, List.length_drop]
      omega
  | turn =>
    dsimp only [step]
    refine h.onTree fun t e => ?_
    obtain ⟨a, b, ⟨u, hu⟩, hs, hl⟩ := h.yes t e
    rw [hu]
    dsimp only
    refine ⟨fun q => (by cases q), fun t' e' => ?_⟩
    cases e'
    refine ⟨appliedAll_rising a hu, low_mono (low_appliedAll b hs hu) (by omega), ⟨t, appliedAll_turned a hu⟩, smalls_turned hs, ?_⟩
    show (turnedAll s.row).length ≤ 16
    unfold turnedAll
    rw [List.length_reverse, List.length_map]
    exact hl
end VM
end
section
namespace VM
open VapatBase Vapatb

def comb (done : List Step) : Except Nat (List Step × Step) → Except Nat (List Step × Step)
  | .error n => .error (n + done.length)
  | .ok r => .ok (done ++ r.1, r.2)
theorem comb_nil (r : Except Nat (List Step × Step)) : comb [] r = r := by
  cases r <;> rfl
theorem comb_step {done l : List Step} {p q q1 p1 : Step} (h : commuted p q = some (q1, p1)) : comb done (behind p (q :: l)) = comb (done ++ [q1]) (behind p1 l) := by
  show comb done (match commuted p q with
    | none => .error 0
    | some (q1, p1) => match behind p1 l with
      | .error n => .error (n + 1)
      | .ok (l1, p2) => .ok (q1 :: l1, p2)) = _
  rw [h]
  dsimp only
  cases behind p1 l with
  | error n =>
    show Except.error (n + 1 + done.length) = Except.error (n + (done ++ [q1]).length)
    rw [List.length_append, List.length_singleton]
    congr 1
    omega
  | ok r =>
    obtain ⟨l1, p2⟩ := r
    show Except.ok (done ++ q1 :: l1, p2) = Except.ok (done ++ [q1] ++ l1, p2)
    simp
theorem comb_stop {done l : List Step} {p q : Step} (h : commuted p q = none) : comb done (behind p (q :: l)) = .error done.length := by
  show comb done (match commuted p q with
    | none => .error 0
    | some (q1, p1) => match behind p1 l with
      | .error n => .error (n + 1)
      | .ok (l1, p2) => .ok (q1 :: l1, p2)) = _
  rw [h]
  show Except.error (0 + done.length) = _
  rw [Nat.zero_add]
theorem comb_end {done : List Step} {p : Step} : comb done (behind p []) = .ok (done, p) := by
  show Except.ok (done ++ [], p) = _
  rw [List.append_nil]
theorem ahead_some {l l1 : List Step} {p q q1 q2 p1 : Step} (h : aheadOf l q = .ok (q1, l1)) (hc : commuted p q1 = some (q2, p1)) : aheadOf (p :: l) q = .ok (q2, p1 :: l1) := by
  unfold aheadOf
  rw [h]
  dsimp only
  rw [hc]
theorem ahead_none {l l1 : List Step} {p q q1 : Step} (h : aheadOf l q = .ok (q1, l1)) (hc : commuted p q1 = none) : aheadOf (p :: l) q = .error l.length := by
  unfold aheadOf
  rw [h]
  dsimp only
  rw [hc]
theorem ahead_err {l pre : List Step} {q : Step} {n : Nat} (h : aheadOf l q = .error n) : aheadOf (pre ++ l) q = .error n := by
  induction pre with
  | nil => exact h
  | cons p pre ih =>
    show aheadOf (p :: (pre ++ l)) q = _
    unfold aheadOf
    rw [ih]

inductive Told : Int → List Int → List Int → Call → Prop
  | tree {n : Int} {row t : List Int} : n = row.length → Told 0 (n :: (row ++ t)) t (.tree row)
  | step {n : Int} {row t : List Int} : n = row.length → Told 1 (n :: (row ++ t)) t (.step row)
  | shown {t : List Int} : Told 2 t t .shown
  | outcome {t : List Int} : Told 3 t t .outcome
  | commute {i : Int} {t : List Int} : Told 4 (i :: t) t (.commute i)
  | why {i : Int} {t : List Int} : Told 5 (i :: t) t (.why i)
  | front {i : Int} {t : List Int} : Told 6 (i :: t) t (.front i)
  | back {i : Int} {t : List Int} : Told 7 (i :: t) t (.back i)
  | needs {i : Int} {t : List Int} : Told 8 (i :: t) t (.needs i)
  | neededBy {i : Int} {t : List Int} : Told 9 (i :: t) t (.neededBy i)
  | without {i : Int} {t : List Int} : Told 10 (i :: t) t (.without i)
  | three {i : Int} {t : List Int} : Told 11 (i :: t) t (.three i)
  | past {i : Int} {t : List Int} : Told 12 (i :: t) t (.past i)
  | turn {t : List Int} : Told 13 t t .turn
inductive Tolds : List Int → List Call → Prop
  | nil : Tolds [] []
  | cons {p : Int} {r t : List Int} {c : Call} {cs : List Call} : Told p r t c → Tolds t cs → Tolds (p :: r) (c :: cs)
def play : State → List Call → List Int
  | _, [] => []
  | s, c :: r => ((step s c).2.length : Int) :: ((step s c).2 ++ play (step s c).1 r)
def lens : Call → Prop
  | .tree l => l.length ≤ 100
  | .step l => l.length ≤ 30
  | _ => True
theorem row_some {r x t : List Int} (h : PyFlat.row r = some (x, t)) : ∃ n : Int, r = n :: (x ++ t) ∧ n = x.length := by
  cases r with
  | nil => cases h
  | cons n r =>
    dsimp only [PyFlat.row] at h
    by_cases hc : 0 ≤ n ∧ n.toNat ≤ r.length
    · rw [if_pos hc] at h
      cases h
      refine ⟨n, by rw [List.take_append_drop], ?_⟩
      rw [List.length_take]
      omega
    · rw [if_neg hc] at h
      cases h
theorem call_told {p : Int} {r t : List Int} {c : List (List Int)} (h : PyFlat.call PyVapatb.shape (p :: r) = some (c, t)) :
    ∃ k, VapatbNeutral.callOf c = some k ∧ PyVapatb.whole c = c ∧ Told p r t k := by
  dsimp only [PyFlat.call] at h
  have two : ∀ {n m : Nat}, PyVapatb.shape p = some (n, m) → (if r.length < n then none else match PyFlat.rows m (r.drop n) with
      | none => none
      | some (xs, t) => some ((p :: r.take n) :: xs, t)) = some (c, t) := fun {n m} e => by
    rw [e] at h
    exact h
  have rowc : PyVapatb.shape p = some (0, 1) → ∃ x n, r = n :: (x ++ t) ∧ n = (x.length : Int) ∧ c = [[p], x] := fun e => by
    have h := two e
    rw [if_neg (by omega)] at h
    rw [List.drop_zero] at h
    dsimp only [PyFlat.rows] at h
    cases e1 : PyFlat.row r with
    | none => rw [e1] at h; cases h
    | some u =>
      obtain ⟨x, s⟩ := u
      rw [e1] at h
      cases h
      obtain ⟨n, e2, e3⟩ := row_some e1
      exact ⟨x, n, e2, e3, rfl⟩
  have plain : PyVapatb.shape p = some (0, 0) → r = t ∧ c = [[p]] := fun e => by
    have h := two e
    rw [if_neg (by omega)] at h
    cases h
    exact ⟨rfl, rfl⟩
  have place : PyVapatb.shape p = some (1, 0) → ∃ i, r = i :: t ∧ c = [[p, i]] := fun e => by
    have h := two e
    cases r with
    | nil => cases h
    | cons i r =>
      rw [if_neg (by simp)] at h
      cases h
      exact ⟨i, rfl, rfl⟩
  by_cases h0 : p = 0
  · subst h0; obtain ⟨x, n, rfl, e, rfl⟩ := rowc rfl; exact ⟨_, rfl, rfl, .tree e⟩
  by_cases h1 : p = 1
  · subst h1; obtain ⟨x, n, rfl, e, rfl⟩ := rowc rfl; exact ⟨_, rfl, rfl, .step e⟩
  by_cases h2 : p = 2
  · subst h2; obtain ⟨rfl, rfl⟩ := plain rfl; exact ⟨_, rfl, rfl, .shown⟩
  by_cases h3 : p = 3
  · subst h3; obtain ⟨rfl, rfl⟩ := plain rfl; exact ⟨_, rfl, rfl, .outcome⟩
  by_cases h4 : p = 4
  · subst h4; obtain ⟨i, rfl, rfl⟩ := place rfl; exact ⟨_, rfl, rfl, .commute⟩
  by_cases h5 : p = 5
  · subst h5; obtain ⟨i, rfl, rfl⟩ := place rfl; exact ⟨_, rfl, rfl, .why⟩
  by_cases h6 : p = 6
  · subst h6; obtain ⟨i, rfl, rfl⟩ := place rfl; exact ⟨_, rfl, rfl, .front⟩
  by_cases h7 : p = 7
  · subst h7; obtain ⟨i, rfl, rfl⟩ := place rfl; exact ⟨_, rfl, rfl, .back⟩
  by_cases h8 : p = 8
  · subst h8; obtain ⟨i, rfl, rfl⟩ := place rfl; exact ⟨_, rfl, rfl, .needs⟩
  by_cases h9 : p = 9
  · subst h9; obtain ⟨i, rfl, rfl⟩ := place rfl; exact ⟨_, rfl, rfl, .neededBy⟩
  by_cases h10 : p = 10
  · subst h10; obtain ⟨i, rfl, rfl⟩ := place rfl; exact ⟨_, rfl, rfl, .without⟩
  by_cases h11 : p = 11
  · subst h11; obtain ⟨i, rfl, rfl⟩ := place rfl; exact ⟨_, rfl, rfl, .three⟩
  by_cases h12 : p = 12
  · subst h12; obtain ⟨i, rfl, rfl⟩ := place rfl; exact ⟨_, rfl, rfl, .past⟩
  by_cases h13 : p = 13
  · subst h13; obtain ⟨rfl, rfl⟩ := plain rfl; exact ⟨_, rfl, rfl, .turn⟩
  exfalso
  have : PyVapatb.shape p = none := by
    unfold PyVapatb.shape
    rw [if_neg h0, if_neg h1, if_neg h2, if_neg h3, if_neg h4, if_neg h5, if_neg h6, if_neg h7, if_neg h8, if_neg h9, if_neg h10, if_neg h11, if_neg h12, if_neg h13]
  rw [this] at h
  cases h
theorem calls_told : ∀ {f : Nat} {l : List Int} {cs : List (List (List Int))}, PyFlat.calls PyVapatb.shape f l = some cs →
    ∃ ks, Tolds l ks ∧ cs.map PyVapatb.whole = cs ∧ cs.map VapatbNeutral.callOf = ks.map some
  | f, [], cs, h => by
    have h : some [] = some cs := by
      cases f <;> exact h
    cases h
    exact ⟨[], .nil, rfl, rfl⟩
  | 0, _ :: _, cs, h => by cases h
  | f + 1, p :: r, cs, h => by
    unfold PyFlat.calls at h
    cases e1 : PyFlat.call PyVapatb.shape (p :: r) with
    | none => rw [e1] at h; cases h
    | some u =>
      obtain ⟨c, t⟩ := u
      rw [e1] at h
      dsimp only at h
      cases e2 : PyFlat.calls PyVapatb.shape f t with
      | none => rw [e2] at h; cases h
      | some rest =>
        rw [e2] at h
        cases h
        obtain ⟨k, a1, a2, a3⟩ := call_told e1
        obtain ⟨ks, b1, b2, b3⟩ := calls_told e2
        exact ⟨k :: ks, .cons a3 b1, by rw [List.map_cons, a2, b2], by rw [List.map_cons, a1, b3]; rfl⟩
theorem played_eq : ∀ {cs : List (List (List Int))} {ks : List Call} {s : State}, cs.map VapatbNeutral.callOf = ks.map some → PyFlat.told (PyFlat.played VapatbNeutral.step s cs) = play s ks
  | [], [], _, _ => rfl
  | [], _ :: _, _, h => by simp at h
  | _ :: _, [], _, h => by simp at h
  | c :: cs, k :: ks, s, h => by
    rw [List.map_cons, List.map_cons] at h
    injection h with h1 h2
    have e : VapatbNeutral.step s c = Vapatb.step s k := by
      unfold VapatbNeutral.step
      rw [h1]
    have ih := played_eq (s := (Vapatb.step s k).1) h2
    show PyFlat.told ((VapatbNeutral.step s c).2 :: PyFlat.played VapatbNeutral.step (VapatbNeutral.step s c).1 cs) = _
    rw [e]
    unfold PyFlat.told at ih ⊢
    rw [List.flatMap_cons, ih]
    rfl
theorem asked_told {l : List Int} (h : PyVapatb.answers_asked l = true) : ∃ ks, Tolds l ks ∧ ks.length ≤ 80 ∧ (∀ k ∈ ks, lens k) ∧ PyVapatb.answers l = play start ks ∧ (play start ks).length ≤ 10000000 := by
  unfold PyVapatb.answers_asked at h
  cases e : PyFlat.calls PyVapatb.shape l.length l with
  | none => rw [e] at h; cases h
  | some raw =>
    rw [e] at h
    simp only [Bool.and_eq_true] at h
    obtain ⟨⟨⟨⟨h1, h2⟩, h3⟩, h4⟩, h5⟩ := h
    obtain ⟨ks, b1, b2, b3⟩ := calls_told e
    have ans : PyVapatb.answers l = play start ks := by
      unfold PyVapatb.answers PyVapatb.calls
      rw [e]
      dsimp only
      rw [b2]
      exact played_eq b3
    have hlen : ks.length = raw.length := by
      have := congrArg List.length b3
      rw [List.length_map, List.length_map] at this
      exact this.symm
    refine ⟨ks, b1, ?_, ?_, ans, ?_⟩
    · rw [hlen]
      exact of_decide_eq_true h2
    · rw [b2] at h4
      unfold VapatbNeutral.asked at h4
      rw [Bool.and_eq_true] at h4
      have h6 := List.all_eq_true.mp h4.1
      intro k hk
      have : some k ∈ ks.map some := List.mem_map.mpr ⟨k, hk, rfl⟩
      rw [← b3] at this
      obtain ⟨c, hc, ec⟩ := List.mem_map.mp this
      have ha := h6 c hc
      unfold VapatbNeutral.callOf at ec
      split at ec <;> first
        | (cases ec
           simp only [VapatbNeutral.asked1, VapatbNeutral.allWhole, Bool.and_eq_true, decide_eq_true_eq] at ha
           exact ha.2)
        | (cases ec; trivial)
        | cases ec
    · rw [← ans]
      exact of_decide_eq_true h5
end VM
end
section
namespace VM
open VapatBase Vapatb

theorem take_one' {α : Type} {l : List α} {i : Nat} {x : α} (h : l[i]? = some x) : l.take (i + 1) = l.take i ++ [x] := by
  rw [List.take_add_one, h]
  rfl
def commAt (row : List Step) (i : Nat) : Option (List Step) := match row[i]?, row[i + 1]? with
  | some p, some q => (commuted p q).map fun r => row.take i ++ (r.1 :: r.2 :: row.drop (i + 2))
  | _, _ => none
theorem commAt_eq {row : List Step} {i : Nat} {p q : Step} (hp : row[i]? = some p) (hq : row[i + 1]? = some q) : commAt row i = (commuted p q).map fun r => row.take i ++ (r.1 :: r.2 :: row.drop (i + 2)) := by
  unfold commAt
  rw [hp, hq]
theorem commAt_mid (pre post : List Step) (p q : Step) : commAt (pre ++ p :: q :: post) pre.length = (commuted p q).map fun r => pre ++ (r.1 :: r.2 :: post) := by
  rw [commAt_eq (p := p) (q := q) (by rw [List.getElem?_append_right (Nat.le_refl _), Nat.sub_self]; rfl) (by rw [List.getElem?_append_right (by omega)]; simp)]
  have e1 : (pre ++ p :: q :: post).take pre.length = pre := List.take_left
  have e2 : (pre ++ p :: q :: post).drop (pre.length + 2) = post := by
    rw [List.drop_append, List.drop_of_length_le (by omega)]
    have : pre.length + 2 - pre.length = 2 := by omega
    rw [this]
    rfl
  rw [e1, e2]
theorem commAt_keeps {row r : List Step} {i : Nat} (h : commAt row i = some r) (hs : smalls row) : smalls r ∧ r.length = row.length := by
  unfold commAt at h
  cases e1 : row[i]? with
  | none => rw [e1] at h; cases h
  | some p =>
    cases e2 : row[i + 1]? with
    | none => rw [e1, e2] at h; cases h
    | some q =>
      rw [e1, e2] at h
      dsimp only at h
      cases e3 : commuted p q with
      | none => rw [e3] at h; cases h
      | some a =>
        obtain ⟨q', p'⟩ := a
        rw [e3] at h
        have h : row.take i ++ (q' :: p' :: row.drop (i + 2)) = r := Option.some.inj h
        obtain ⟨a, b⟩ := small_commuted (hs p (List.mem_of_getElem? e1)) (hs q (List.mem_of_getElem? e2)) e3
        have h2 : i + 1 < row.length := (List.getElem?_eq_some_iff.mp e2).1
        rw [← h]
        refine ⟨smalls_app.mpr ⟨smalls_take i hs, smalls_cons.mpr ⟨a, smalls_cons.mpr ⟨b, smalls_drop _ hs⟩⟩⟩, ?_⟩
        rw [List.length_append, List.length_cons, List.length_cons, List.length_take, List.length_drop]
        omega
def turns : List Step → List Nat → Option (List Step)
  | row, [] => some row
  | row, i :: is => (commAt row i).bind fun r => turns r is
theorem three1 (p q r : Step) : turnedThree1 p q r = turns [p, q, r] [0, 1, 0] := by
  show _ = ((commuted p q).map fun a => [a.1, a.2, r]).bind fun x => turns x [1, 0]
  unfold turnedThree1
  cases commuted p q with
  | none => rfl
  | some a =>
    show (commuted a.2 r).bind _ = ((commuted a.2 r).map fun b => [a.1, b.1, b.2]).bind fun x => turns x [0]
    cases commuted a.2 r with
    | none => rfl
    | some b =>
      show (commuted a.1 b.1).map _ = ((commuted a.1 b.1).map fun c => [c.1, c.2, b.2]).bind fun x => turns x []
      cases commuted a.1 b.1 with
      | none => rfl
      | some c => rfl
theorem three2 (p q r : Step) : turnedThree2 p q r = turns [p, q, r] [1, 0, 1] := by
  show _ = ((commuted q r).map fun a => [p, a.1, a.2]).bind fun x => turns x [0, 1]
  unfold turnedThree2
  cases commuted q r with
  | none => rfl
  | some a =>
    show (commuted p a.1).bind _ = ((commuted p a.1).map fun b => [b.1, b.2, a.2]).bind fun x => turns x [1]
    cases commuted p a.1 with
    | none => rfl
    | some b =>
      show (commuted b.2 a.2).map _ = ((commuted b.2 a.2).map fun c => [b.1, c.1, c.2]).bind fun x => turns x []
      cases commuted b.2 a.2 with
      | none => rfl
      | some c => rfl
theorem turns_keeps : ∀ {is : List Nat} {row r : List Step}, turns row is = some r → smalls row → smalls r ∧ r.length = row.length
  | [], row, r, h, hs => by
    have h : row = r := Option.some.inj h
    exact h ▸ ⟨hs, rfl⟩
  | i :: is, row, r, h, hs => by
    have h : (commAt row i).bind (fun x => turns x is) = some r := h
    cases e : commAt row i with
    | none => rw [e] at h; cases h
    | some x =>
      rw [e] at h
      obtain ⟨a, b⟩ := commAt_keeps e hs
      obtain ⟨c, d⟩ := turns_keeps (is := is) (row := x) h a
      exact ⟨c, d.trans b⟩

def combR (done : List Step) (o : Option (List Step × List Step)) : Option (List Step × List Step) := o.map fun r => (done ++ r.1, r.2)
theorem combR_nil (o : Option (List Step × List Step)) : combR [] o = o := by
  cases o <;> rfl
theorem combR_end (done l : List Step) : combR done (rowsCommuted l []) = some (done, l) := by
  show some (done ++ [], l) = _
  rw [List.append_nil]
theorem combR_ok {done l l1 m : List Step} {q q1 : Step} (h : aheadOf l q = .ok (q1, l1)) : combR done (rowsCommuted l (q :: m)) = combR (done ++ [q1]) (rowsCommuted l1 m) := by
  show combR done (match aheadOf l q with
    | .error _ => none
    | .ok (q1, l1) => (rowsCommuted l1 m).map fun r => (q1 :: r.1, r.2)) = _
  rw [h]
  dsimp only
  cases rowsCommuted l1 m with
  | none => rfl
  | some r =>
    show some (done ++ q1 :: r.1, r.2) = some (done ++ [q1] ++ r.1, r.2)
    simp
theorem combR_no {done l m : List Step} {q : Step} {n : Nat} (h : aheadOf l q = .error n) : combR done (rowsCommuted l (q :: m)) = none := by
  show combR done (match aheadOf l q with
    | .error _ => none
    | .ok (q1, l1) => (rowsCommuted l1 m).map fun r => (q1 :: r.1, r.2)) = _
  rw [h]
  rfl

theorem zip_step {row : List Step} {j : Nat} {x : Step} (h : row[j]? = some x) : (row.take (j + 1)).zipIdx.reverse = (x, j) :: (row.take j).zipIdx.reverse := by
  have hj : j < row.length := (List.getElem?_eq_some_iff.mp h).1
  rw [take_one' h, List.zipIdx_append, List.reverse_append]
  have : (row.take j).length = j := by rw [List.length_take]; omega
  rw [this]
  simp
theorem needsFrom_ok {x : Step × Nat} {l : List (Step × Nat)} {block b : List Step} {k : List Nat} {p : Step} (h : behind x.1 block = .ok (b, p)) : needsFrom (x :: l) block k = needsFrom l b k := by
  show (match behind x.1 block with
    | .ok (b, _) => needsFrom l b k
    | .error _ => needsFrom l (x.1 :: block) (x.2 :: k)) = _
  rw [h]
theorem needsFrom_no {x : Step × Nat} {l : List (Step × Nat)} {block : List Step} {k : List Nat} {n : Nat} (h : behind x.1 block = .error n) : needsFrom (x :: l) block k = needsFrom l (x.1 :: block) (x.2 :: k) := by
  show (match behind x.1 block with
    | .ok (b, _) => needsFrom l b k
    | .error _ => needsFrom l (x.1 :: block) (x.2 :: k)) = _
  rw [h]
theorem needs_start {row : List Step} {i : Nat} {q : Step} (h : row[i]? = some q) : needs row i = needsFrom (row.take i).zipIdx.reverse [q] [] := by
  unfold needs
  rw [h]
theorem needsFrom_len : ∀ (l : List (Step × Nat)) (b : List Step) (k : List Nat), (needsFrom l b k).length ≤ l.length + k.length
  | [], _, k => by
    show k.length ≤ _
    simp
  | x :: l, b, k => by
    cases e : behind x.1 b with
    | ok r =>
      obtain ⟨c, p⟩ := r
      rw [needsFrom_ok e]
      have := needsFrom_len l c k
      rw [List.length_cons]
      omega
    | error n =>
      rw [needsFrom_no e]
      have := needsFrom_len l (x.1 :: b) (x.2 :: k)
      rw [List.length_cons] at this ⊢
      omega
theorem needs_len (row : List Step) (i : Nat) : (needs row i).length ≤ row.length := by
  unfold needs
  cases row[i]? with
  | none => exact Nat.zero_le _
  | some q =>
    have := needsFrom_len (row.take i).zipIdx.reverse [q] []
    rw [List.length_reverse, List.length_zipIdx, List.length_take] at this
    simp only [List.length_nil] at this
    dsimp only
    omega
theorem neededBy_range {row : List Step} {i : Nat} (hi : i < row.length) : neededBy row i = (List.range' (i + 1) (row.length - (i + 1))).filter fun j => (needs row j).contains i := by
  unfold neededBy
  rw [List.range_eq_range']
  have e : List.range' 0 row.length = List.range' 0 (i + 1) ++ List.range' (i + 1) (row.length - (i + 1)) := by
    have := List.range'_append_1 (s := 0) (m := i + 1) (n := row.length - (i + 1))
    rw [Nat.zero_add] at this
    rw [this]
    congr 1
    omega
  rw [e, List.filter_append]
  have e1 : (List.range' 0 (i + 1)).filter (fun j => decide (i < j) && (needs row j).contains i) = [] := by
    rw [List.filter_eq_nil_iff]
    intro j hj
    rw [List.mem_range'_1] at hj
    rw [decide_eq_false (by omega)]
    simp
  rw [e1, List.nil_append]
  refine List.filter_congr fun j hj => ?_
  rw [List.mem_range'_1] at hj
  rw [decide_eq_true (by omega)]
  simp
theorem neededBy_len (row : List Step) (i : Nat) : (neededBy row i).length ≤ row.length := by
  unfold neededBy
  have := List.length_filter_le (fun j => decide (i < j) && (needs row j).contains i) (List.range row.length)
  rw [List.length_range] at this
  exact this

theorem step_notree {s : State} {c : Call} (h : s.tree = none) (hc : ∀ l, c ≠ .tree l) : step s c = (s, [-8]) := by
  cases c <;> first
    | exact absurd rfl (hc _)
    | (dsimp only [step, doCommute, doFront, doBack, onStep, onTree]; rw [h])
theorem onStep_no {s : State} {t : Tree} {i : Int} (ht : s.tree = some t) (h : ¬ (0 ≤ i ∧ i < (s.row.length : Int))) (f : Nat → State × Answer) : onStep s i f = (s, [-2]) := by
  unfold onStep onTree
  rw [ht]
  dsimp only
  rw [if_neg (show ¬ (0 ≤ i ∧ i < Vapatb.int s.row.length) from h)]
theorem onStep_yes {s : State} {t : Tree} {i : Int} (ht : s.tree = some t) (h : 0 ≤ i ∧ i < (s.row.length : Int)) (f : Nat → State × Answer) : onStep s i f = f i.toNat := by
  unfold onStep onTree
  rw [ht]
  dsimp only
  rw [if_pos (show (0 ≤ i ∧ i < Vapatb.int s.row.length) from h)]
theorem commute_no {s : State} {t : Tree} {i : Int} (ht : s.tree = some t) (h : ¬ (0 ≤ i ∧ i < (s.row.length : Int) - 1)) : step s (.commute i) = (s, [-2]) := by
  show doCommute s i = _
  unfold doCommute
  by_cases hc : 0 ≤ i ∧ i < (s.row.length : Int)
  · rw [onStep_yes ht hc]
    have : s.row[i.toNat + 1]? = none := List.getElem?_eq_none (by omega)
    rw [this]
    cases s.row[i.toNat]? <;> rfl
  · exact onStep_no ht hc _
theorem why_no {s : State} {t : Tree} {i : Int} (ht : s.tree = some t) (h : ¬ (0 ≤ i ∧ i < (s.row.length : Int) - 1)) : step s (.why i) = (s, [-2]) := by
  dsimp only [step]
  by_cases hc : 0 ≤ i ∧ i < (s.row.length : Int)
  · rw [onStep_yes ht hc]
    have : s.row[i.toNat + 1]? = none := List.getElem?_eq_none (by omega)
    rw [this]
    cases s.row[i.toNat]? <;> rfl
  · exact onStep_no ht hc _
theorem three_no {s : State} {t : Tree} {i : Int} (ht : s.tree = some t) (h : ¬ (0 ≤ i ∧ i < (s.row.length : Int) - 2)) : step s (.three i) = (s, [-2]) := by
  dsimp only [step]
  by_cases hc : 0 ≤ i ∧ i < (s.row.length : Int)
  · rw [onStep_yes ht hc]
    have : s.row[i.toNat + 2]? = none := List.getElem?_eq_none (by omega)
    rw [this]
    cases s.row[i.toNat]? <;> cases s.row[i.toNat + 1]? <;> rfl
  · exact onStep_no ht hc _
end VM
end
section
set_option Elab.async false
set_option linter.all false
set_option maxRecDepth 100000
namespace P58
open PySem PySem.Spec PyProof.Rows L2
section
variable {X : Cx}
theorem PE.either {e : Expr} {t u : TE} (h1 : PE X e t) (h2 : PE X e u) : PE X e (fun σ H Q => t σ H Q ∨ u σ H Q) := fun pins s σ H Q I h => h.elim (h1 pins s σ H Q I) (h2 pins s σ H Q I)
theorem pe_gi {x : Str} {i : Int} {pos : Pos} (hg : Gl X x) (hm : ∃ t, X.mg x = some (.int i t)) (hd : (x == ("__debug__" : Str)) = false := by decide) : PE X (.Name x pos) (tC (.int i)) := by
  obtain ⟨t, ht⟩ := hm
  exact pe_glob hg ht ⟨t, rfl⟩ hd
theorem pe_gref {x : Str} {a : Addr} {pos : Pos} (hg : Gl X x) (hm : X.mg x = some (.ref a)) (hd : (x == ("__debug__" : Str)) = false := by decide) : PE X (.Name x pos) (tC (.ref a)) := pe_glob hg hm rfl hd
theorem call_dict_of : CallR X (.type "dict") (fun xs H Q => ∃ a kvs, xs = [V.ref a] ∧ H a = some (.dK kvs) ∧ ∀ p, H p = none → Q (.ref p) (upd H p (.dK kvs))) := by
  intro pins s σ H xs us Q I r h
  obtain ⟨a, kvs, rfl, ha, q⟩ := h
  obtain ⟨u, rfl, ru⟩ := vals1 r
  cases ru
  exact d_copyOf I (.inl ha) fun p s' hp I' => ⟨.ref p, _, I', rfl, q p hp⟩
theorem boot_any : bootBuiltins "any" = some (.builtin "any") := by decide +kernel
theorem boot_all : bootBuiltins "all" = some (.builtin "all") := by decide +kernel
theorem boot_sorted : bootBuiltins "sorted" = some (.builtin "sorted") := by decide +kernel
structure TyC (K : PySem.W.Frag) (C : Addr) : Prop where
  ha : PySem.W.findIn K (.ref C) "__class__" = some (some (.builtin "object.__class__"))
  hn : PySem.W.specialIn K (.builtin "object.__class__") "__get__" = some (some (.builtin "getset_descriptor.__get__"))
  htk : PySem.W.takesIn K (.builtin "object.__class__") = some true
  hm : PySem.W.mroIn K C (.type "object") = some true
theorem call_isi : CallR X (.builtin "isinstance") (fun xs H Q => ∃ a C D dx fs b, xs = [V.ref a, V.ref D] ∧ H a = some (.ins C dx fs) ∧ Cls X.K C ∧ TyC X.K C ∧ PySem.W.kitOne X.K (.ref C) (.ref D) = some b ∧ Q (.bl b) H) := by
  intro pins s σ H xs us Q I r h
  obtain ⟨a, C, D, dx, fs, b, rfl, ha, cl, tc, e, q⟩ := h
  obtain ⟨u, u2, rfl, ru, ru2⟩ := vals2 r
  cases ru2
  exact isinst_ok I ru (.ins ha cl tc.ha tc.hn tc.htk tc.hm) e fun tk => ⟨.bl b, H, I.tok _, rfl, q⟩
theorem call_isi2 : CallR X (.builtin "isinstance") (fun xs H Q => ∃ a tp C D1 D2 dx fs b1 b2, xs = [V.ref a, V.ref tp] ∧ H tp = some (.tup [V.ref D1, V.ref D2]) ∧ H a = some (.ins C dx fs) ∧ Cls X.K C ∧ TyC X.K C ∧
    PySem.W.kitOne X.K (.ref C) (.ref D1) = some b1 ∧ PySem.W.kitOne X.K (.ref C) (.ref D2) = some b2 ∧ Q (.bl (b1 || b2)) H) := by
  intro pins s σ H xs us Q I r h
  obtain ⟨a, tp, C, D1, D2, dx, fs, b1, b2, rfl, htp, ha, cl, tc, e1, e2, q⟩ := h
  obtain ⟨u, u2, rfl, ru, ru2⟩ := vals2 r
  cases ru
  cases ru2
  obtain ⟨mA, O, _⟩ := ins_get I.hok ha
  obtain ⟨od, J, _⟩ := O.look
  obtain ⟨_, its, rv, o, ho, hc, n, hd⟩ := (show ObjOk X.prog X.w H s.heap tp (.tup [V.ref D1, V.ref D2]) from I.hok tp _ htp)
  obtain ⟨w1, w2, rfl, r1, r2⟩ := vals2 rv
  cases r1
  cases r2
  obtain ⟨oc, od2, odat, osl⟩ := o
  cases hc
  cases hd
  refine PySem.W.kia_tup (b := (b1 || b2)) (PySem.W.kitx_own (cl.get _) cl.hd tc.ha tc.hn tc.htk tc.hm) I.kIn J ho ?_ (fun z => nomatch z) fun tk => ⟨.bl _, H, I.tok _, rfl, q⟩
  show PySem.W.kitAny X.K (.ref C) [.ref D1, .ref D2] = some (b1 || b2)
  unfold PySem.W.kitAny
  rw [e1]
  cases b1 with
  | true => rfl
  | false =>
    dsimp only
    unfold PySem.W.kitAny
    rw [e2]
    cases b2 with
    | true => rfl
    | false => rfl
theorem cr_sortedD (hc : X.calm = true) : CallR X (.builtin "sorted") (fun vs H Q => ∃ (a : Addr) (kvs : List (Key × V)) (ns : List Int), vs = [V.ref a] ∧ H a = some (.dK kvs) ∧ kvs.map (·.1) = ns.map Sum.inl ∧ kvs.length < 64 ∧
    ∀ (ns' : List Int) (p : Addr), ns'.Perm ns → ns'.Pairwise (· ≤ ·) → H p = none → Q (.ref p) (upd H p (.lst (ns'.map V.int)))) := by
  intro pins s σ H vs us Q I r h
  obtain ⟨a, kvs, ns, rfl, ha, hk, h64, q⟩ := h
  obtain ⟨u, rfl, ru⟩ := vals1 r
  cases ru
  obtain ⟨z, hd, ws, rel, dd⟩ := dk_of I.hok ha
  obtain ⟨ep, hat⟩ := dd.dictAt
  have hlen : kvs.length = ws.length := rel.length
  have hkeys : ws.map (·.1) = ns.map Sum.inl := by rw [← rel.keys]; exact hk
  have hln : ns.length = ws.length := by have := congrArg List.length hkeys; simpa using this.symm
  refine PySem.Calls.call_function_entry kind_sorted plain_sorted entry_sorted (args_sorted1 _) ?_
  unfold Builtin.«sorted»
  refine wpAny_bind (m := checkCount "sorted" 1 1 _) (wpAny_pure ?_)
  refine wpAny_bind (PySem.W.kdu_collect (A := X.A.in1) (PySem.W.kdl_dict (knd := mixKind X.prog X.w) (kvs := ws) (ep := ep) hd) (I.ok.hd hc) hat (by rw [← hlen]; exact z) fun h' tk acc hkp hacc => ?_)
  have hl : acc.toList.length = ws.length := by rw [Array.length_toList]; exact hacc.1
  refine wpAny_bind (wpAny_newList ?_ (by rw [hl, ← hlen]; exact z))
  have hints : IntsAre acc.toList ns := by
    have key : ∀ (l : List Value) (m : List Int), l.length = m.length → (∀ (j : Nat) (u : Value), l[j]? = some u → ∃ n t, m[j]? = some n ∧ u = Value.int n t) → IntsAre l m := by
      intro l
      induction l with
      | nil =>
        intro m hm _
        cases m with
        | nil => exact .nil
        | cons => simp at hm
      | cons x l ih =>
        intro m hm hx
        cases m with
        | nil => simp at hm
        | cons y m =>
          obtain ⟨n, t, e1, e2⟩ := hx 0 x rfl
          cases e1
          subst e2
          exact .cons _ t (ih m (by simpa using hm) fun j u hu => hx (j + 1) u hu)
    refine key _ _ (by rw [hl, hln]) fun j u hu => ?_
    obtain ⟨k, x, e1, e2⟩ := hacc.2 j u (by rw [← Array.getElem?_toList]; exact hu)
    have e3 : (ws.map (·.1))[j]? = some k := by rw [List.getElem?_map, e1]; rfl
    rw [hkeys, List.getElem?_map] at e3
    cases e4 : ns[j]? with
    | none => rw [e4] at e3; cases e3
    | some n =>
      rw [e4] at e3
      have e5 : Sum.inl n = k := Option.some.inj e3
      subst e5
      obtain ⟨t, rfl⟩ := Value.isInt_shape (k := n) (v := u) e2
      exact ⟨n, t, rfl, rfl⟩
  have I1 : Inv X pins σ H { s with heap := h', toks := tk } := I.kept hkp
  have hob : (h'.push { cls := .type "list", data := .seq acc.toList.toArray }).get? h'.objs.size = some { cls := .type "list", data := .seq acc.toList.toArray } := Heap.get?_push_size _ rfl
  refine wpAny_bind (wpAny_holding ?_)
  refine wpAny_call_entry PyProof.Rows.slot_list_sort ⟨_, hob, rfl⟩ PyProof.Rows.entry_list_sort
    (PyProof.Rows.list_sort_tree hob hints (by rw [hl, ← hlen]; exact h64) fun out ns' h1 h2 h3 => ⟨.none, rfl, ?_⟩) (PyProof.Rows.args_list_sort _)
  refine wpAny_pure ⟨_, rfl, ?_⟩
  obtain ⟨ep2, he'⟩ := PyProof.Rows.sortedHeap_at (vs := acc.toList) (out := out) hob
  have hlen2 : (ns'.map V.int).length ≤ sizeLine := by rw [List.length_map, h2.length_eq, hln, ← hlen]; exact z
  refine ⟨.ref _, upd H h'.objs.size (.lst (ns'.map V.int)), I1.laid (t' := tk) (fun b ob hb => ?_) (Nat.le_refl _) ⟨hlen2, out.toList, ep2, vals_of_ints h1, he'⟩, rfl, q ns' _ h2 h3 (I1.hok.fresh (Nat.le_refl _))⟩
  have hlt : b < h'.objs.size := Heap.lt_size hb
  have hb2 : (h'.push { cls := .type "list", data := .seq acc.toList.toArray }).get? b = some ob := Heap.get?_push_of_some _ hb
  rw [PyProof.Rows.sortedHeap_old (Nat.ne_of_lt hlt) (Heap.lt_size hb2)]
  exact hb2
end
end P58
end
section
set_option Elab.async false
set_option linter.all false
set_option maxRecDepth 100000
namespace P58
open PySem PySem.Spec PyProof.Rows L2
abbrev VStep := VapatBase.Step
abbrev VTree := VapatBase.Tree
def nV (n : Nat) : V := .int (n : Int)
theorem nV_inj {m n : Nat} (h : nV m = nV n) : m = n := by
  have := V.int.inj h
  omega
def TL (H : Hp) (a : Addr) (l : List Nat) : Prop := H a = some (.lst (l.map nV))
def IL (H : Hp) (a : Addr) (l : List Int) : Prop := H a = some (.lst (l.map V.int))
structure Cs where
  hunk : Addr
  swap : Addr
  added : Addr
  removed : Addr
  moved : Addr
def hunkF (v1 v2 v3 v4 : V) : List (Str × V) := [("name", v1), ("place", v2), ("old", v3), ("new", v4)]
def swapF (v1 v2 v3 : V) : List (Str × V) := [("name", v1), ("one", v2), ("other", v3)]
def nameF (v1 : V) : List (Str × V) := [("name", v1)]
def moveF (v1 v2 : V) : List (Str × V) := [("old_name", v1), ("new_name", v2)]
def kd : VStep → Nat
  | .hunk .. => 0
  | .swap .. => 1
  | .add .. => 2
  | .remove .. => 3
  | .move .. => 4
def clsOf (C : Cs) : VStep → Addr
  | .hunk .. => C.hunk
  | .swap .. => C.swap
  | .add .. => C.added
  | .remove .. => C.removed
  | .move .. => C.moved
def StepAt (C : Cs) (H : Hp) (a : Addr) : VStep → Prop
  | .hunk f pl o n => ∃ dx po pn, H a = some (.ins C.hunk dx (hunkF (nV f) (nV pl) (.ref po) (.ref pn))) ∧ TL H po o ∧ TL H pn n
  | .swap f x y => ∃ dx, H a = some (.ins C.swap dx (swapF (nV f) (nV x) (nV y)))
  | .add f => ∃ dx, H a = some (.ins C.added dx (nameF (nV f)))
  | .remove f => ∃ dx, H a = some (.ins C.removed dx (nameF (nV f)))
  | .move f g => ∃ dx, H a = some (.ins C.moved dx (moveF (nV f) (nV g)))
theorem StepAt.mono {C : Cs} {H H' : Hp} {a : Addr} {p : VStep} (s : Same H H') (h : StepAt C H a p) : StepAt C H' a p := by
  cases p with
  | hunk f pl o n =>
    obtain ⟨dx, po, pn, h1, h2, h3⟩ := h
    exact ⟨dx, po, pn, s _ _ h1, s _ _ h2, s _ _ h3⟩
  | swap f x y => obtain ⟨dx, h1⟩ := h; exact ⟨dx, s _ _ h1⟩
  | add f => obtain ⟨dx, h1⟩ := h; exact ⟨dx, s _ _ h1⟩
  | remove f => obtain ⟨dx, h1⟩ := h; exact ⟨dx, s _ _ h1⟩
  | move f g => obtain ⟨dx, h1⟩ := h; exact ⟨dx, s _ _ h1⟩
def fieldNames : List Str := ["name", "place", "old", "new", "one", "other", "old_name", "new_name"]
theorem lookup_cons_ne {m k : Str} {v : V} {r : List (Str × V)} (h : m ≠ k) : ((k, v) :: r).lookup m = r.lookup m := by
  rw [List.lookup_cons]
  have e : (m == k) = false := by simp [h]
  rw [e]
theorem StepAt.ins {C : Cs} {H : Hp} {a : Addr} {p : VStep} (h : StepAt C H a p) : ∃ dx fs, H a = some (.ins (clsOf C p) dx fs) ∧ ∀ m : Str, m ∉ fieldNames → fs.lookup m = none := by
  have key : ∀ {m k : Str}, m ∉ fieldNames → k ∈ fieldNames → m ≠ k := fun h1 h2 e => h1 (e ▸ h2)
  cases p with
  | hunk f pl o n =>
    obtain ⟨dx, po, pn, h1, h2, h3⟩ := h
    refine ⟨dx, _, h1, fun m hm => ?_⟩
    unfold hunkF
    rw [lookup_cons_ne (key hm (by decide)), lookup_cons_ne (key hm (by decide)), lookup_cons_ne (key hm (by decide)), lookup_cons_ne (key hm (by decide))]
    rfl
  | swap f x y =>
    obtain ⟨dx, h1⟩ := h
    refine ⟨dx, _, h1, fun m hm => ?_⟩
    unfold swapF
    rw [lookup_cons_ne (key hm (by decide)), lookup_cons_ne (key hm (by decide)), lookup_cons_ne (key hm (by decide))]
    rfl
  | add f =>
    obtain ⟨dx, h1⟩ := h
    refine ⟨dx, _, h1, fun m hm => ?_⟩
    unfold nameF
    rw [lookup_cons_ne (key hm (by decide))]
    rfl
  | remove f =>
    obtain ⟨dx, h1⟩ := h
    refine ⟨dx, _, h1, fun m hm => ?_⟩
    unfold nameF
    rw [lookup_cons_ne (key hm (by decide))]
    rfl
  | move f g =>
    obtain ⟨dx, h1⟩ := h
    refine ⟨dx, _, h1, fun m hm => ?_⟩
    unfold moveF
    rw [lookup_cons_ne (key hm (by decide)), lookup_cons_ne (key hm (by decide))]
    rfl
theorem Same.new {H : Hp} {l : Addr} {o : HO} (h : H l = none) : Same H (upd H l o) := fun b u e => by
  rw [upd_ne (ne_of_none e h)]
  exact e
theorem _root_.L2.Same.upd {H H1 : Hp} {l : Addr} {o : HO} (s : Same H H1) (h : H l = none) : Same H (upd H1 l o) := fun b u e => by
  rw [upd_ne (ne_of_none e h)]
  exact s b u e

def RelF (H : Hp) : Option V → Option VapatBase.Tokens → Prop
  | some v, some c => ∃ r, v = .ref r ∧ TL H r c
  | none, none => True
  | _, _ => False
theorem RelF.mono {H H' : Hp} {o : Option V} {c : Option VapatBase.Tokens} (s : Same H H') (h : RelF H o c) : RelF H' o c := by
  cases o <;> cases c <;> first | exact h | skip
  obtain ⟨r, e, q⟩ := h
  exact ⟨r, e, s _ _ q⟩
def fk (f : Nat) : Key := Sum.inl (f : Int)
theorem kV_fk (f : Nat) : kV (fk f) = nV f := rfl
theorem fk_inj {f g : Nat} (h : fk f = fk g) : f = g := by
  have := Sum.inl.inj h
  omega
structure TreeIs (H : Hp) (kvs : List (Key × V)) (t : VTree) : Prop where
  nd : (kvs.map (·.1)).Nodup
  keys : ∀ k ∈ kvs.map (·.1), ∃ f : Nat, k = fk f
  rel : ∀ f : Nat, RelF H (valV kvs (fk f)) (VapatBase.fileIn t f)
def TreeAt (H : Hp) (a : Addr) (t : VTree) : Prop := ∃ kvs : List (Key × V), H a = some (.dK kvs) ∧ TreeIs H kvs t
theorem TreeIs.mono {H H' : Hp} {kvs : List (Key × V)} {t : VTree} (s : Same H H') (h : TreeIs H kvs t) : TreeIs H' kvs t := ⟨h.nd, h.keys, fun f => (h.rel f).mono s⟩
theorem TreeAt.mono {H H' : Hp} {a : Addr} {t : VTree} (s : Same H H') (h : TreeAt H a t) : TreeAt H' a t := by
  obtain ⟨kvs, h1, h2⟩ := h
  exact ⟨kvs, s _ _ h1, h2.mono s⟩
theorem TreeIs.none_iff {H : Hp} {kvs : List (Key × V)} {t : VTree} (h : TreeIs H kvs t) (f : Nat) : (valV kvs (fk f)).isSome = (VapatBase.fileIn t f).isSome := by
  have := h.rel f
  cases e1 : valV kvs (fk f) <;> cases e2 : VapatBase.fileIn t f <;> rw [e1, e2] at this <;> first | rfl | exact this.elim
theorem TreeIs.get {H : Hp} {kvs : List (Key × V)} {t : VTree} {f : Nat} {c : VapatBase.Tokens} (h : TreeIs H kvs t) (e : VapatBase.fileIn t f = some c) : ∃ r, valV kvs (fk f) = some (.ref r) ∧ TL H r c := by
  have := h.rel f
  rw [e] at this
  cases e1 : valV kvs (fk f) with
  | none => rw [e1] at this; exact this.elim
  | some v =>
    rw [e1] at this
    obtain ⟨r, rfl, q⟩ := this
    exact ⟨r, rfl, q⟩
theorem keys_putK {kvs : List (Key × V)} {k : Key} {v : V} {j : Key} (h : j ∈ (putK kvs k v).map (·.1)) : j = k ∨ j ∈ kvs.map (·.1) := by
  obtain ⟨p, hp, rfl⟩ := List.mem_map.mp h
  unfold putK at hp
  split at hp
  · obtain ⟨q, hq, rfl⟩ := List.mem_map.mp hp
    refine .inr ?_
    split
    · exact List.mem_map.mpr ⟨q, hq, rfl⟩
    · exact List.mem_map.mpr ⟨q, hq, rfl⟩
  · rcases List.mem_append.mp hp with e | e
    · exact .inr (List.mem_map.mpr ⟨p, e, rfl⟩)
    · have : p = (k, v) := by simpa using e
      exact .inl (by rw [this])
theorem nd_putK' {kvs : List (Key × V)} {k : Key} (v : V) (hn : (kvs.map (·.1)).Nodup) : ((putK kvs k v).map (·.1)).Nodup := by
  cases e : valV kvs k with
  | none => exact nd_putK v hn e
  | some x =>
    have : (kvs.any fun kv => decide (kv.1 = k)) = true := by rw [valV_any, e]; rfl
    unfold putK
    rw [if_pos this, List.map_map]
    have : ((fun x => x.1) ∘ fun kv : Key × V => if kv.1 = k then (kv.1, v) else kv) = (·.1) := by
      funext kv
      dsimp only [Function.comp]
      split <;> rfl
    rw [this]
    exact hn
theorem TreeIs.put {H : Hp} {kvs : List (Key × V)} {t : VTree} {f : Nat} {r : Addr} {c : VapatBase.Tokens} (h : TreeIs H kvs t) (hr : VM.Rising t) (q : TL H r c) : TreeIs H (putK kvs (fk f) (.ref r)) (VapatBase.putFile f c t) := by
  refine ⟨nd_putK' _ h.nd, fun k hk => ?_, fun g => ?_⟩
  · rcases keys_putK hk with e | e
    · exact ⟨f, e⟩
    · exact h.keys k e
  · rw [valV_put, VM.fileIn_put hr]
    by_cases e : f = g
    · subst e
      rw [if_pos rfl, if_pos rfl]
      exact ⟨r, rfl, q⟩
    · rw [if_neg (fun z => e (fk_inj z).symm), if_neg e]
      exact h.rel g
theorem valV_dropK (k j : Key) : ∀ kvs : List (Key × V), valV (dropK kvs k) j = if j = k then none else valV kvs j
  | [] => by
    show valV [] j = _
    rw [valV_nil]
    split <;> rfl
  | p :: r => by
    have ih := valV_dropK k j r
    by_cases e : p.1 = k
    · rw [dropK_pos e, ih]
      by_cases e2 : j = k
      · rw [if_pos e2, if_pos e2]
      · rw [if_neg e2, if_neg e2, valV_neg (fun z => e2 (z.symm.trans e))]
    · rw [dropK_neg e]
      by_cases e3 : p.1 = j
      · rw [valV_pos e3, valV_pos e3, if_neg (fun z => e (e3.trans z))]
      · rw [valV_neg e3, valV_neg e3, ih]
theorem TreeIs.drop {H : Hp} {kvs : List (Key × V)} {t : VTree} {f : Nat} (h : TreeIs H kvs t) : TreeIs H (dropK kvs (fk f)) (VapatBase.dropFile f t) := by
  refine ⟨nd_dropK h.nd, fun k hk => ?_, fun g => ?_⟩
  · obtain ⟨p, hp, rfl⟩ := List.mem_map.mp hk
    exact h.keys _ (List.mem_map.mpr ⟨p, dropK_mem hp, rfl⟩)
  · rw [valV_dropK, VM.fileIn_drop]
    by_cases e : f = g
    · subst e
      rw [if_pos rfl, if_pos rfl]
      trivial
    · rw [if_neg (fun z => e (fk_inj z).symm), if_neg e]
      exact h.rel g
theorem perm_of_nodup {α : Type} [DecidableEq α] : ∀ {l m : List α}, l.Nodup → m.Nodup → (∀ x, x ∈ l ↔ x ∈ m) → l.Perm m
  | [], m, _, _, h => by
    cases m with
    | nil => exact .nil
    | cons x m => exact absurd ((h x).mpr (by simp)) (by simp)
  | x :: l, m, hl, hm, h => by
    obtain ⟨h1, h2⟩ := List.nodup_cons.mp hl
    have hx : x ∈ m := (h x).mp (by simp)
    have p := List.perm_cons_erase hx
    refine List.Perm.trans (List.Perm.cons x (perm_of_nodup h2 (hm.erase x) fun y => ?_)) p.symm
    rw [hm.mem_erase_iff]
    constructor
    · intro hy
      exact ⟨fun e => h1 (e ▸ hy), (h y).mp (by simp [hy])⟩
    · rintro ⟨e, hy⟩
      exact (List.mem_cons.mp ((h y).mpr hy)).resolve_left e
theorem rising_names {t : VTree} (h : VM.Rising t) : (t.map fun x => x.1).Nodup := by
  induction t with
  | nil => exact List.nodup_nil
  | cons x t ih =>
    rw [List.map_cons]
    refine List.nodup_cons.mpr ⟨fun m => ?_, ih h.2⟩
    obtain ⟨y, hy, e⟩ := List.mem_map.mp m
    have := h.1 y hy
    omega
theorem mem_names {t : VTree} {f : Nat} : f ∈ (t.map fun x => x.1) ↔ (VapatBase.fileIn t f).isSome = true := by
  constructor
  · intro h
    obtain ⟨x, hx, rfl⟩ := List.mem_map.mp h
    cases e : VapatBase.fileIn t x.1 with
    | some c => rfl
    | none =>
      exfalso
      induction t with
      | nil => cases hx
      | cons y t ih =>
        rw [VM.fileIn_cons] at e
        by_cases hy : y.1 = x.1
        · rw [if_pos hy] at e; cases e
        · rw [if_neg hy] at e
          rcases List.mem_cons.mp hx with z | z
          · exact hy (by rw [z])
          · exact ih z (List.mem_map.mpr ⟨x, z, rfl⟩) e
  · intro h
    obtain ⟨c, e⟩ := Option.isSome_iff_exists.mp h
    exact List.mem_map.mpr ⟨_, VM.fileIn_mem e, rfl⟩
theorem valV_isSome {kvs : List (Key × V)} {k : Key} : (valV kvs k).isSome = true ↔ k ∈ kvs.map (·.1) := by
  rw [← valV_any, List.any_eq_true]
  constructor
  · rintro ⟨p, hp, e⟩
    exact List.mem_map.mpr ⟨p, hp, of_decide_eq_true e⟩
  · intro h
    obtain ⟨p, hp, e⟩ := List.mem_map.mp h
    exact ⟨p, hp, decide_eq_true e⟩
theorem TreeIs.perm {H : Hp} {kvs : List (Key × V)} {t : VTree} (h : TreeIs H kvs t) (hr : VM.Rising t) : (kvs.map (·.1)).Perm (t.map fun x => fk x.1) := by
  have e : (t.map fun x => fk x.1) = (t.map fun x => x.1).map fk := by rw [List.map_map]; rfl
  refine perm_of_nodup h.nd ?_ fun k => ?_
  · rw [e]
    have := rising_names hr
    generalize (t.map fun x => x.1) = l at this
    induction l with
    | nil => exact List.nodup_nil
    | cons x l ih =>
      obtain ⟨h1, h2⟩ := List.nodup_cons.mp this
      rw [List.map_cons]
      refine List.nodup_cons.mpr ⟨fun m => ?_, ih h2⟩
      obtain ⟨y, hy, e⟩ := List.mem_map.mp m
      exact h1 (fk_inj e ▸ hy)
  · constructor
    · intro hk
      obtain ⟨f, rfl⟩ := h.keys k hk
      rw [e]
      refine List.mem_map.mpr ⟨f, mem_names.mpr ?_, rfl⟩
      rw [← h.none_iff]
      exact valV_isSome.mpr hk
    · intro hk
      rw [e] at hk
      obtain ⟨f, hf, rfl⟩ := List.mem_map.mp hk
      refine valV_isSome.mp ?_
      rw [h.none_iff]
      exact mem_names.mp hf
theorem TreeIs.length {H : Hp} {kvs : List (Key × V)} {t : VTree} (h : TreeIs H kvs t) (hr : VM.Rising t) : kvs.length = t.length := by
  have := (h.perm hr).length_eq
  simpa using this

def StepsAt (C : Cs) (H : Hp) : List Addr → List VStep → Prop
  | [], [] => True
  | a :: as, p :: ps => StepAt C H a p ∧ StepsAt C H as ps
  | _, _ => False
theorem StepsAt.mono {C : Cs} {H H' : Hp} (s : Same H H') : ∀ {as : List Addr} {ps : List VStep}, StepsAt C H as ps → StepsAt C H' as ps
  | [], [], _ => trivial
  | _ :: _, _ :: _, h => ⟨h.1.mono s, StepsAt.mono s h.2⟩
  | [], _ :: _, h => h.elim
  | _ :: _, [], h => h.elim
theorem StepsAt.length {C : Cs} {H : Hp} : ∀ {as : List Addr} {ps : List VStep}, StepsAt C H as ps → as.length = ps.length
  | [], [], _ => rfl
  | _ :: _, _ :: _, h => congrArg (· + 1) (StepsAt.length h.2)
  | [], _ :: _, h => h.elim
  | _ :: _, [], h => h.elim
theorem StepsAt.get {C : Cs} {H : Hp} : ∀ {as : List Addr} {ps : List VStep} {i : Nat} {p : VStep}, StepsAt C H as ps → ps[i]? = some p → ∃ a, as[i]? = some a ∧ StepAt C H a p
  | [], [], _, _, _, e => by simp at e
  | a :: _, q :: _, 0, p, h, e => by
    have : q = p := Option.some.inj e
    exact ⟨a, rfl, this ▸ h.1⟩
  | _ :: _, _ :: _, i + 1, p, h, e => StepsAt.get (i := i) h.2 e
  | [], _ :: _, _, _, h, _ => h.elim
  | _ :: _, [], _, _, h, _ => h.elim
theorem StepsAt.get' {C : Cs} {H : Hp} {as : List Addr} {ps : List VStep} {i : Nat} {a : Addr} (h : StepsAt C H as ps) (e : as[i]? = some a) : ∃ p, ps[i]? = some p ∧ StepAt C H a p := by
  have hi : i < ps.length := by rw [← h.length]; exact (List.getElem?_eq_some_iff.mp e).1
  obtain ⟨b, e1, e2⟩ := h.get (List.getElem?_eq_getElem hi)
  rw [e] at e1
  cases e1
  exact ⟨_, List.getElem?_eq_getElem hi, e2⟩
theorem StepsAt.set {C : Cs} {H : Hp} {b : Addr} {q : VStep} (hq : StepAt C H b q) : ∀ {as : List Addr} {ps : List VStep} (i : Nat), StepsAt C H as ps → StepsAt C H (as.set i b) (ps.set i q)
  | [], [], _, _ => trivial
  | _ :: _, _ :: _, 0, h => ⟨hq, h.2⟩
  | _ :: _, _ :: _, i + 1, h => ⟨h.1, StepsAt.set hq i h.2⟩
  | [], _ :: _, _, h => h.elim
  | _ :: _, [], _, h => h.elim
theorem StepsAt.append {C : Cs} {H : Hp} : ∀ {as bs : List Addr} {ps qs : List VStep}, StepsAt C H as ps → StepsAt C H bs qs → StepsAt C H (as ++ bs) (ps ++ qs)
  | [], _, [], _, _, h => h
  | _ :: _, _, _ :: _, _, h, k => ⟨h.1, StepsAt.append h.2 k⟩
  | [], _, _ :: _, _, h, _ => h.elim
  | _ :: _, _, [], _, h, _ => h.elim
theorem StepsAt.take {C : Cs} {H : Hp} : ∀ {as : List Addr} {ps : List VStep} (n : Nat), StepsAt C H as ps → StepsAt C H (as.take n) (ps.take n)
  | [], [], n, _ => by simp [StepsAt]
  | _ :: _, _ :: _, 0, _ => trivial
  | _ :: _, _ :: _, n + 1, h => ⟨h.1, StepsAt.take n h.2⟩
  | [], _ :: _, _, h => h.elim
  | _ :: _, [], _, h => h.elim
theorem StepsAt.drop {C : Cs} {H : Hp} : ∀ {as : List Addr} {ps : List VStep} (n : Nat), StepsAt C H as ps → StepsAt C H (as.drop n) (ps.drop n)
  | [], [], n, _ => by simp [StepsAt]
  | _ :: _, _ :: _, 0, h => h
  | _ :: _, _ :: _, n + 1, h => StepsAt.drop n h.2
  | [], _ :: _, _, h => h.elim
  | _ :: _, [], _, h => h.elim
def RowAt (C : Cs) (H : Hp) (a : Addr) (row : List VStep) : Prop := ∃ as : List Addr, H a = some (.lst (as.map V.ref)) ∧ StepsAt C H as row
theorem RowAt.mono {C : Cs} {H H' : Hp} {a : Addr} {row : List VStep} (s : Same H H') (h : RowAt C H a row) : RowAt C H' a row := by
  obtain ⟨as, h1, h2⟩ := h
  exact ⟨as, s _ _ h1, h2.mono s⟩

theorem sIx_nat (n d : Nat) (k : Nat) : HT.sIx n d (some (k : Int)) = min k n := by
  unfold HT.sIx
  have h : ¬ (k : Int) < 0 := by omega
  simp only [h, if_false]
  omega
theorem cut_from (xs : List V) (k : Nat) : cutV xs (some (k : Int)) none = xs.drop k := by
  unfold cutV
  rw [sIx_nat]
  show (xs.drop (min k xs.length)).take (xs.length - min k xs.length) = xs.drop k
  by_cases h : k ≤ xs.length
  · rw [Nat.min_eq_left h, List.take_of_length_le (by rw [List.length_drop]; omega)]
  · rw [Nat.min_eq_right (by omega), List.drop_of_length_le (Nat.le_refl _), List.drop_of_length_le (by omega)]
    simp
theorem cut_to (xs : List V) (k : Nat) : cutV xs none (some (k : Int)) = xs.take k := by
  unfold cutV
  rw [sIx_nat]
  show (xs.drop 0).take (min k xs.length - 0) = xs.take k
  rw [List.drop_zero, Nat.sub_zero]
  by_cases h : k ≤ xs.length
  · rw [Nat.min_eq_left h]
  · rw [Nat.min_eq_right (by omega), List.take_of_length_le (Nat.le_refl _), List.take_of_length_le (by omega)]
theorem cut_both (xs : List V) (i j : Nat) : cutV xs (some (i : Int)) (some (j : Int)) = (xs.drop i).take (j - i) := by
  unfold cutV
  rw [sIx_nat, sIx_nat]
  by_cases h : i ≤ xs.length
  · rw [Nat.min_eq_left h]
    by_cases h2 : j ≤ xs.length
    · rw [Nat.min_eq_left h2]
    · rw [Nat.min_eq_right (by omega), List.take_of_length_le (by rw [List.length_drop]; omega), List.take_of_length_le (by rw [List.length_drop]; omega)]
  · have e : min i xs.length = xs.length := by omega
    rw [e, List.drop_of_length_le (Nat.le_refl _), List.drop_of_length_le (by omega)]
    simp
theorem ints_take (l : List Int) (k : Nat) : (l.map V.int).take k = (l.take k).map V.int := by rw [List.map_take]
theorem ints_drop (l : List Int) (k : Nat) : (l.map V.int).drop k = (l.drop k).map V.int := by rw [List.map_drop]
theorem nV_ints (l : List Nat) : l.map nV = (VapatBase.ints l).map V.int := by
  unfold VapatBase.ints
  rw [List.map_map]
  rfl
theorem dp_toks {K : PySem.W.Frag} {H : Hp} : ∀ l : List Nat, DpAll K H (l.map nV) (l.map fun n : Nat => PyData.int (n : Int))
  | [] => .nil
  | n :: l => .cons (.int _) (dp_toks l)
end P58
end
section
set_option Elab.async false
set_option linter.all false
set_option maxRecDepth 100000
namespace P58
open PySem PySem.Spec PyProof.Rows L2
def gEnt (e : DictEntry) (kv : Int × V) : Prop := (∃ t, e.key = Value.int kv.1 t) ∧ e.hash = hashInt kv.1 ∧ RelV kv.2 e.val
structure GDict (K : PySem.W.Frag) (d : Addr) (kvs : List (Int × V)) : Prop where
  ex : ∃ (o : Obj) (es : Array DictEntry) (ep : Nat), K.lookup d = some o ∧ o.ExactDict ∧ o.data = .dict es ep ∧ Paired gEnt es.toList kvs
  nd : (kvs.map (·.1)).Nodup
  sm : (d == sysModules) = false
def asK (kvs : List (Int × V)) : List (Key × V) := kvs.map fun kv => (Sum.inl kv.1, kv.2)
theorem valV_asK (i : Int) : ∀ kvs : List (Int × V), valV (asK kvs) (Sum.inl i) = kvs.lookup i
  | [] => rfl
  | (j, v) :: r => by
    have ih := valV_asK i r
    by_cases h : j = i
    · subst h
      rw [List.lookup_cons, beq_self_eq_true]
      exact valV_pos (p := ((Sum.inl j : Key), v)) rfl
    · rw [List.lookup_cons, show (i == j) = false from by simp; omega]
      exact (valV_neg (p := ((Sum.inl j : Key), v)) fun z => h (Sum.inl.inj z)).trans ih
theorem gd_pairs {P : Program} {w : World} : ∀ {es : List DictEntry} {kvs : List (Int × V)}, Paired gEnt es kvs → ∃ vs, KV (asK kvs) vs ∧ Pairs (mixKind P w) es vs ∧ vs.map (·.1) = (asK kvs).map (·.1) ∧ ∀ e ∈ es, ∃ k, (mixKind P w).is k e.key = true ∧ e.hash = (mixKind P w).hash k
  | [], _, h => by
    cases h
    exact ⟨[], .nil, .nil, rfl, fun e he => by cases he⟩
  | e :: es, _, h => by
    cases h with
    | @cons _ kv _ kvs h1 h2 =>
      obtain ⟨⟨t, ek⟩, eh, ev⟩ := h1
      obtain ⟨vs, r1, r2, r3, r4⟩ := gd_pairs (P := P) (w := w) h2
      have hk : (mixKind P w).is (Sum.inl kv.1) e.key = true := by rw [ek]; exact mixKind_int P w _ _
      refine ⟨(Sum.inl kv.1, e.val) :: vs, .cons ⟨rfl, ev⟩ r1, .cons hk rfl r2, ?_, fun e' he' => ?_⟩
      · show Sum.inl kv.1 :: vs.map (·.1) = Sum.inl kv.1 :: (asK kvs).map (·.1)
        rw [r3]
      · rcases List.mem_cons.mp he' with z | z
        · subst z
          exact ⟨Sum.inl kv.1, hk, eh⟩
        · exact r4 e' z
theorem GDict.dictOf {P : Program} {w : World} {K : PySem.W.Frag} {d : Addr} {kvs : List (Int × V)} {h : Heap} (g : GDict K d kvs) (X : K.In h) : ∃ vs, KV (asK kvs) vs ∧ h.DictOf (mixKind P w) d vs := by
  obtain ⟨o, es, ep, h1, h2, h3, h4⟩ := g.ex
  obtain ⟨vs, r1, r2, r3, r4⟩ := gd_pairs (P := P) (w := w) h4
  refine ⟨vs, r1, o, es, ep, X _ _ h1, h2, h3, fun e he => r4 e (by simpa using he), r2, ?_⟩
  rw [r3]
  have e : (asK kvs).map (·.1) = (kvs.map (·.1)).map Sum.inl := by unfold asK; rw [List.map_map, List.map_map]; rfl
  rw [e]
  have := g.nd
  generalize kvs.map (·.1) = l at this
  induction l with
  | nil => exact List.nodup_nil
  | cons x l ih =>
    obtain ⟨n1, n2⟩ := List.nodup_cons.mp this
    rw [List.map_cons]
    refine List.nodup_cons.mpr ⟨fun m => ?_, ih n2⟩
    obtain ⟨y, hy, ey⟩ := List.mem_map.mp m
    exact n1 (Sum.inl.inj ey ▸ hy)
def GTup (K : PySem.W.Frag) (d : Addr) (xs : List V) : Prop :=
  ∃ (o : Obj) (its : Array Value) (n : Nat), K.lookup d = some o ∧ o.cls = .type "tuple" ∧ o.data = .seq its n ∧ its.size ≤ sizeLine ∧ Vals xs its.toList
theorem GTup.sq {K : PySem.W.Frag} {d : Addr} {xs : List V} (g : GTup K d xs) (H : Hp) : SqT K H d xs := .inr g
section
variable {X : Cx}
theorem op_in_g : OpR X (compareOp .In) (fun x y H Q => ∃ d kvs i, y = V.ref d ∧ x = .int i ∧ GDict X.K d kvs ∧ Q (.bl (kvs.lookup i).isSome) H) := by
  intro pins s σ H x y v u Q I rx ry h
  obtain ⟨d, kvs, i, rfl, rfl, g, q⟩ := h
  cases ry
  obtain ⟨t, rfl⟩ := rx
  obtain ⟨vs, rel, dd⟩ := g.dictOf (P := X.prog) (w := X.w) I.kIn
  refine wpAny_in_of (k := Sum.inl i) (mixKind_int _ _ i t) g.sm dd.mapOf ⟨.bl _, H, I.tok _, ?_, q⟩
  show Value.bool _ = Value.bool _
  rw [← (rel.val (Sum.inl i)).isSome_eq, valV_asK]
theorem ix_g : IxR X (fun x y H Q => ∃ d kvs i v, x = V.ref d ∧ y = .int i ∧ GDict X.K d kvs ∧ kvs.lookup i = some v ∧ Q v H) := by
  intro value slice pins s σ H x y v u Q I rx ry h hs
  obtain ⟨d, kvs, i, z, rfl, rfl, g, l, q⟩ := h
  cases rx
  obtain ⟨t, rfl⟩ := ry
  obtain ⟨vs, rel, dd⟩ := g.dictOf (P := X.prog) (w := X.w) I.kIn
  obtain ⟨w', hw, rw'⟩ := RelO.some_of (v := z) (o := valueAt vs (Sum.inl i)) (by rw [← l, ← valV_asK]; exact rel.val _)
  exact tail_any dd.typeIs PySem.F.slot_dict_getitem.lookup (wpAny_getItem_of (k := Sum.inl i) (mixKind_int _ _ i t) dd.mapOf hw ⟨z, H, I.tok _, rw', q⟩) hs
def tGGet2 (K : PySem.W.Frag) (td ty tx : TE) : TE := fun σ H Q => td σ H fun x H1 => ∃ d kvs, x = .ref d ∧ GDict K d kvs ∧ ty σ H1 fun y H2 => tx σ H2 fun z H3 => ∃ i, y = .int i ∧ Q ((kvs.lookup i).getD z) H3
theorem pe_gget2 {o e f : Expr} {apos cpos : Pos} {td ty tx : TE} (hu : X.A.units + 1 < cLine) (ho : PE X o td) (he : PE X e ty) (hf : PE X f tx) (m : M2 X o "get" apos e f cpos) : PE X (.Call (.Attribute o "get" apos) [e, f] [] cpos) (tGGet2 X.K td ty tx) := by
  intro pins s σ H Q I h
  refine wpAny_Call_method m.base m.few m.line PySem.F.plainAttrs_dict PySem.F.slot_dict_get PySem.F.type_dict_get (thn (ho pins s σ H _ I h) fun u s1 ⟨x, H1, I1, rx, d, kvs, ex, g, q1⟩ => ?_)
  subst ex
  obtain rfl : u = Value.ref d := rx
  obtain ⟨vs, rel, dd⟩ := g.dictOf (P := X.prog) (w := X.w) I1.kIn
  refine ⟨dd.typeIs, fun b z => ?_, ?_⟩
  · cases z
    obtain ⟨ob, _, _, h1, h2, _⟩ := dd
    exact ⟨ob, h1, h2.2.1⟩
  rw [m.trees]
  refine Calls.callWith_builtin rfl (Calls.evalArgs_plain (Calls.spliced_cons (thn (he pins s1 σ H1 _ I1 q1) fun iv s2 ⟨y, H2, I2, ry, q2⟩ =>
    Calls.spliced_cons (thn (hf pins s2 σ H2 _ I2 q2) fun fv s3 ⟨z, H3, I3, rz, i, ey, q3⟩ => Calls.spliced_nil ?_))))
  subst ey
  obtain ⟨t, rfl⟩ := ry
  obtain ⟨vs3, rel3, dd3⟩ := g.dictOf (P := X.prog) (w := X.w) I3.kIn
  refine call_meetsIn PySem.F.slot_dict_get dd3.typeIs PySem.F.entry_dict_get (PySem.F.args_dict_get_3 _ _ _) (meets_dict_get_default (mixKind X.prog X.w) d (kV_is (k := Sum.inl i) ⟨t, rfl⟩) g.sm fv) ⟨_, dd3.mapOf, ?_⟩
  refine ⟨(kvs.lookup i).getD z, H3, I3.tok _, ?_, q3⟩
  rw [← valV_asK]
  exact (rel3.val (Sum.inl i)).getD rz
def DispF (X : Cx) (ok : Addr → Int → Prop) (k : Nat) (sp : Int → Sp) : Prop :=
  ∀ f c, ok f c → ∃ fd ps, FnOk X.prog X.w X.K X.mg X.base CX0 k f fd ps (sp c) ∧ Binds X.K fd ps [] ∧ PySem.W.keepIn X.K (.ref f) = true
def tCallF (ok : Addr → Int → Prop) (sp : Int → Sp) (tf : TE) (t : TA) : TE := fun σ H Q => tf σ H fun x H1 => ∃ f c, x = .ref f ∧ ok f c ∧ t σ H1 fun vs H2 => sp c (vs ++ []) H2 Q E0
theorem pe_callF {ok : Addr → Int → Prop} {k : Nat} {sp : Int → Sp} {func e : Expr} {es : List Expr} {tf : TE} {t : TA} {pos : Pos} (D : DispF X ok k sp) (hr : Room k X.A) (hf : PE X func tf) (ha : PA X (e :: es) t)
    (hst : starEach (e :: es) X.env = (false, eval e X.env) :: starEach es X.env := by rfl) (hpl : (backTo pos (starEach es X.env)).any (·.1) = false := by rfl)
    (he : eval (.Call func (e :: es) [] pos) X.env = (do callWith pos (← eval func X.env) [] (backTo pos (starEach (e :: es) X.env)) (backToKw pos (keywordEach [] X.env))) := by rfl) :
    PE X (.Call func (e :: es) [] pos) (tCallF ok sp tf t) := by
  intro pins s σ H Q I h
  refine Call_ (thn (hf pins s σ H _ I h) fun u s1 ⟨x, H1, I1, rx, f, c, ex, hok, q⟩ => ?_) he
  subst ex
  obtain rfl : u = Value.ref f := rx
  obtain ⟨fd, ps, F, hb, hk⟩ := D f c hok
  refine PySem.W.callWith_K (first := []) (h₀ := X.base) I.ok.mod.kin hk (thn (ha pos pins s1 σ H1 _ I1 q) fun us s2 ⟨vs, H2, I2, r, q2⟩ => ⟨I2.kIn, ?_⟩) hst hpl
  exact run_fn (E := E0) (us := us) (vs := vs) F hr hb .nil pass0 I2 r q2
end
end P58
end
section
set_option Elab.async false
set_option linter.all false
set_option maxRecDepth 100000
set_option maxHeartbeats 4000000
namespace P58
open PySem PySem.Spec PyProof.Rows L2
open PySem.W (nsIn keepIn codeIn findIn isFn kitOne subIn plainOver plainGet makesIn hasDictIn mroIn isClsIn typeIn)
def top (i : Nat) : Stmt := PySem.Challenge.pw_stepscommuted_s01_answers.main.body.getD i (.Pass ⟨0, 0, 0, 0⟩)
abbrev st_9 : Stmt := inClass (top 6) 0
abbrev st_11 : Stmt := inClass (top 6) 1
abbrev st_7 : Stmt := inClass (top 6) 2
abbrev st_8 : Stmt := inClass (top 6) 3
abbrev st_6 : Stmt := inClass (top 6) 4
abbrev st_13 : Stmt := inClass (top 6) 5
abbrev st_10 : Stmt := inClass (top 6) 6
abbrev st_12 : Stmt := inClass (top 6) 7
abbrev st_30 : Stmt := inClass (top 7) 0
abbrev st_33 : Stmt := inClass (top 7) 1
abbrev st_28 : Stmt := inClass (top 7) 2
abbrev st_29 : Stmt := inClass (top 7) 3
abbrev st_27 : Stmt := inClass (top 7) 4
abbrev st_35 : Stmt := inClass (top 7) 5
abbrev st_31 : Stmt := inClass (top 7) 6
abbrev st_34 : Stmt := inClass (top 7) 7
abbrev st_32 : Stmt := inClass (top 7) 8
abbrev st_3 : Stmt := inClass (top 8) 0
abbrev st_4 : Stmt := inClass (top 8) 1
abbrev st_1 : Stmt := inClass (top 8) 2
abbrev st_2 : Stmt := inClass (top 8) 3
abbrev st_0 : Stmt := inClass (top 8) 4
abbrev st_5 : Stmt := inClass (top 8) 5
abbrev st_23 : Stmt := inClass (top 9) 0
abbrev st_24 : Stmt := inClass (top 9) 1
abbrev st_21 : Stmt := inClass (top 9) 2
abbrev st_22 : Stmt := inClass (top 9) 3
abbrev st_20 : Stmt := inClass (top 9) 4
abbrev st_25 : Stmt := inClass (top 9) 5
abbrev st_17 : Stmt := inClass (top 10) 0
abbrev st_18 : Stmt := inClass (top 10) 1
abbrev st_15 : Stmt := inClass (top 10) 2
abbrev st_16 : Stmt := inClass (top 10) 3
abbrev st_14 : Stmt := inClass (top 10) 4
abbrev st_19 : Stmt := inClass (top 10) 5
abbrev st_65 : Stmt := top 11
abbrev st_67 : Stmt := top 12
abbrev st_66 : Stmt := top 13
abbrev st_43 : Stmt := top 19
abbrev st_68 : Stmt := top 20
abbrev st_69 : Stmt := top 21
abbrev st_47 : Stmt := top 22
abbrev st_51 : Stmt := top 23
abbrev st_45 : Stmt := top 24
abbrev st_50 : Stmt := top 25
abbrev st_78 : Stmt := top 26
abbrev st_52 : Stmt := top 30
abbrev st_53 : Stmt := top 31
abbrev st_48 : Stmt := top 32
abbrev st_61 : Stmt := top 36
abbrev st_59 : Stmt := top 37
abbrev st_62 : Stmt := top 38
abbrev st_60 : Stmt := top 39
abbrev st_44 : Stmt := top 42
abbrev st_39 : Stmt := top 43
abbrev st_40 : Stmt := top 44
abbrev st_64 : Stmt := top 45
abbrev st_46 : Stmt := top 46
abbrev st_74 : Stmt := top 47
abbrev st_55 : Stmt := top 48
abbrev st_63 : Stmt := top 52
abbrev st_75 : Stmt := top 53
abbrev st_26 : Stmt := inClass (top 62) 0
abbrev st_72 : Stmt := top 63
abbrev st_71 : Stmt := top 64
abbrev st_70 : Stmt := top 65
abbrev st_57 : Stmt := top 66
abbrev st_42 : Stmt := top 67
abbrev st_77 : Stmt := top 68
abbrev st_49 : Stmt := top 69
abbrev st_38 : Stmt := top 70
abbrev st_56 : Stmt := top 71
abbrev st_54 : Stmt := top 72
abbrev st_79 : Stmt := top 73
abbrev st_73 : Stmt := top 74
abbrev st_58 : Stmt := top 75
abbrev st_76 : Stmt := top 76
abbrev st_36 : Stmt := top 82
abbrev st_41 : Stmt := top 83
abbrev st_37 : Stmt := top 84
theorem sc_9 : FnScope ["self", "name", "place", "old", "new"] ["self", "name", "place", "old", "new"] (defScope st_9) := ⟨rfl, rfl, rfl, by decide +kernel, rfl, by decide +kernel, by decide +kernel⟩
theorem sc_11 : FnScope ["self"] ["self"] (defScope st_11) := ⟨rfl, rfl, rfl, by decide +kernel, rfl, by decide +kernel, by decide +kernel⟩
theorem sc_7 : FnScope ["self"] ["self"] (defScope st_7) := ⟨rfl, rfl, rfl, by decide +kernel, rfl, by decide +kernel, by decide +kernel⟩
theorem sc_8 : FnScope ["self", "tree", "tokens"] ["self", "tree"] (defScope st_8) := ⟨rfl, rfl, rfl, by decide +kernel, rfl, by decide +kernel, by decide +kernel⟩
theorem sc_6 : FnScope ["self", "tree", "tokens", "after"] ["self", "tree"] (defScope st_6) := ⟨rfl, rfl, rfl, by decide +kernel, rfl, by decide +kernel, by decide +kernel⟩
theorem sc_13 : FnScope ["self"] ["self"] (defScope st_13) := ⟨rfl, rfl, rfl, by decide +kernel, rfl, by decide +kernel, by decide +kernel⟩
theorem sc_10 : FnScope ["self", "name"] ["self", "name"] (defScope st_10) := ⟨rfl, rfl, rfl, by decide +kernel, rfl, by decide +kernel, by decide +kernel⟩
theorem sc_12 : FnScope ["self", "lower", "higher"] ["self", "lower", "higher"] (defScope st_12) := ⟨rfl, rfl, rfl, by decide +kernel, rfl, by decide +kernel, by decide +kernel⟩
theorem sc_30 : FnScope ["self", "name", "one", "other"] ["self", "name", "one", "other"] (defScope st_30) := ⟨rfl, rfl, rfl, by decide +kernel, rfl, by decide +kernel, by decide +kernel⟩
theorem sc_33 : FnScope ["self"] ["self"] (defScope st_33) := ⟨rfl, rfl, rfl, by decide +kernel, rfl, by decide +kernel, by decide +kernel⟩
theorem sc_28 : FnScope ["self"] ["self"] (defScope st_28) := ⟨rfl, rfl, rfl, by decide +kernel, rfl, by decide +kernel, by decide +kernel⟩
theorem sc_29 : FnScope ["self", "tree"] ["self", "tree"] (defScope st_29) := ⟨rfl, rfl, rfl, by decide +kernel, rfl, by decide +kernel, by decide +kernel⟩
theorem sc_27 : FnScope ["self", "tree", "after"] ["self", "tree"] (defScope st_27) := ⟨rfl, rfl, rfl, by decide +kernel, rfl, by decide +kernel, by decide +kernel⟩
theorem sc_35 : FnScope ["self"] ["self"] (defScope st_35) := ⟨rfl, rfl, rfl, by decide +kernel, rfl, by decide +kernel, by decide +kernel⟩
theorem sc_31 : FnScope ["self", "name"] ["self", "name"] (defScope st_31) := ⟨rfl, rfl, rfl, by decide +kernel, rfl, by decide +kernel, by decide +kernel⟩
theorem sc_34 : FnScope ["self", "tokens", "token"] ["self", "tokens"] (defScope st_34) := ⟨rfl, rfl, rfl, by decide +kernel, rfl, by decide +kernel, by decide +kernel⟩
theorem sc_32 : FnScope ["self", "token"] ["self", "token"] (defScope st_32) := ⟨rfl, rfl, rfl, by decide +kernel, rfl, by decide +kernel, by decide +kernel⟩
theorem sc_3 : FnScope ["self", "name"] ["self", "name"] (defScope st_3) := ⟨rfl, rfl, rfl, by decide +kernel, rfl, by decide +kernel, by decide +kernel⟩
theorem sc_4 : FnScope ["self"] ["self"] (defScope st_4) := ⟨rfl, rfl, rfl, by decide +kernel, rfl, by decide +kernel, by decide +kernel⟩
theorem sc_1 : FnScope ["self"] ["self"] (defScope st_1) := ⟨rfl, rfl, rfl, by decide +kernel, rfl, by decide +kernel, by decide +kernel⟩
theorem sc_2 : FnScope ["self", "tree"] ["self", "tree"] (defScope st_2) := ⟨rfl, rfl, rfl, by decide +kernel, rfl, by decide +kernel, by decide +kernel⟩
theorem sc_0 : FnScope ["self", "tree", "after"] ["self", "tree"] (defScope st_0) := ⟨rfl, rfl, rfl, by decide +kernel, rfl, by decide +kernel, by decide +kernel⟩
theorem sc_5 : FnScope ["self"] ["self"] (defScope st_5) := ⟨rfl, rfl, rfl, by decide +kernel, rfl, by decide +kernel, by decide +kernel⟩
theorem sc_23 : FnScope ["self", "name"] ["self", "name"] (defScope st_23) := ⟨rfl, rfl, rfl, by decide +kernel, rfl, by decide +kernel, by decide +kernel⟩
theorem sc_24 : FnScope ["self"] ["self"] (defScope st_24) := ⟨rfl, rfl, rfl, by decide +kernel, rfl, by decide +kernel, by decide +kernel⟩
theorem sc_21 : FnScope ["self"] ["self"] (defScope st_21) := ⟨rfl, rfl, rfl, by decide +kernel, rfl, by decide +kernel, by decide +kernel⟩
theorem sc_22 : FnScope ["self", "tree"] ["self", "tree"] (defScope st_22) := ⟨rfl, rfl, rfl, by decide +kernel, rfl, by decide +kernel, by decide +kernel⟩
theorem sc_20 : FnScope ["self", "tree", "after"] ["self", "tree"] (defScope st_20) := ⟨rfl, rfl, rfl, by decide +kernel, rfl, by decide +kernel, by decide +kernel⟩
theorem sc_25 : FnScope ["self"] ["self"] (defScope st_25) := ⟨rfl, rfl, rfl, by decide +kernel, rfl, by decide +kernel, by decide +kernel⟩
theorem sc_17 : FnScope ["self", "old_name", "new_name"] ["self", "old_name", "new_name"] (defScope st_17) := ⟨rfl, rfl, rfl, by decide +kernel, rfl, by decide +kernel, by decide +kernel⟩
theorem sc_18 : FnScope ["self"] ["self"] (defScope st_18) := ⟨rfl, rfl, rfl, by decide +kernel, rfl, by decide +kernel, by decide +kernel⟩
theorem sc_15 : FnScope ["self"] ["self"] (defScope st_15) := ⟨rfl, rfl, rfl, by decide +kernel, rfl, by decide +kernel, by decide +kernel⟩
theorem sc_16 : FnScope ["self", "tree"] ["self", "tree"] (defScope st_16) := ⟨rfl, rfl, rfl, by decide +kernel, rfl, by decide +kernel, by decide +kernel⟩
theorem sc_14 : FnScope ["self", "tree", "after"] ["self", "tree"] (defScope st_14) := ⟨rfl, rfl, rfl, by decide +kernel, rfl, by decide +kernel, by decide +kernel⟩
theorem sc_19 : FnScope ["self"] ["self"] (defScope st_19) := ⟨rfl, rfl, rfl, by decide +kernel, rfl, by decide +kernel, by decide +kernel⟩
theorem sc_65 : FnScope ["tree", "row", "step"] ["tree", "row"] (defScope st_65) := ⟨rfl, rfl, rfl, by decide +kernel, rfl, by decide +kernel, by decide +kernel⟩
theorem sc_67 : FnScope ["row", "step"] ["row"] (defScope st_67) := ⟨rfl, rfl, rfl, by decide +kernel, rfl, by decide +kernel, by decide +kernel⟩
theorem sc_66 : FnScope ["row", "numbers", "step"] ["row"] (defScope st_66) := ⟨rfl, rfl, rfl, by decide +kernel, rfl, by decide +kernel, by decide +kernel⟩
theorem sc_43 : FnScope ["first", "second"] ["first", "second"] (defScope st_43) := ⟨rfl, rfl, rfl, by decide +kernel, rfl, by decide +kernel, by decide +kernel⟩
theorem sc_68 : FnScope ["first", "second", "name"] ["first", "second"] (defScope st_68) := ⟨rfl, rfl, rfl, by decide +kernel, rfl, by decide +kernel, by decide +kernel⟩
theorem sc_69 : FnScope ["first", "second"] ["first", "second"] (defScope st_69) := ⟨rfl, rfl, rfl, by decide +kernel, rfl, by decide +kernel, by decide +kernel⟩
theorem sc_47 : FnScope ["first", "second"] ["first", "second"] (defScope st_47) := ⟨rfl, rfl, rfl, by decide +kernel, rfl, by decide +kernel, by decide +kernel⟩
theorem sc_51 : FnScope ["step", "name"] ["step", "name"] (defScope st_51) := ⟨rfl, rfl, rfl, by decide +kernel, rfl, by decide +kernel, by decide +kernel⟩
theorem sc_45 : FnScope ["first", "second"] ["first", "second"] (defScope st_45) := ⟨rfl, rfl, rfl, by decide +kernel, rfl, by decide +kernel, by decide +kernel⟩
theorem sc_50 : FnScope ["hunk", "swap"] ["hunk", "swap"] (defScope st_50) := ⟨rfl, rfl, rfl, by decide +kernel, rfl, by decide +kernel, by decide +kernel⟩
theorem sc_78 : FnScope ["first", "second"] ["first", "second"] (defScope st_78) := ⟨rfl, rfl, rfl, by decide +kernel, rfl, by decide +kernel, by decide +kernel⟩
theorem sc_52 : FnScope ["number"] ["number"] (defScope st_52) := ⟨rfl, rfl, rfl, by decide +kernel, rfl, by decide +kernel, by decide +kernel⟩
theorem sc_53 : FnScope ["number"] ["number"] (defScope st_53) := ⟨rfl, rfl, rfl, by decide +kernel, rfl, by decide +kernel, by decide +kernel⟩
theorem sc_48 : FnScope ["numbers", "at", "most", "tokens", "token"] ["numbers", "at", "most"] (defScope st_48) := ⟨rfl, rfl, rfl, by decide +kernel, rfl, by decide +kernel, by decide +kernel⟩
theorem sc_61 : FnScope ["numbers", "kind"] ["numbers"] (defScope st_61) := ⟨rfl, rfl, rfl, by decide +kernel, rfl, by decide +kernel, by decide +kernel⟩
theorem sc_59 : FnScope ["numbers", "old", "new", "changed"] ["numbers"] (defScope st_59) := ⟨rfl, rfl, rfl, by decide +kernel, rfl, by decide +kernel, by decide +kernel⟩
theorem sc_62 : FnScope ["numbers"] ["numbers"] (defScope st_62) := ⟨rfl, rfl, rfl, by decide +kernel, rfl, by decide +kernel, by decide +kernel⟩
theorem sc_60 : FnScope ["numbers"] ["numbers"] (defScope st_60) := ⟨rfl, rfl, rfl, by decide +kernel, rfl, by decide +kernel, by decide +kernel⟩
theorem sc_44 : FnScope ["row", "place", "pair"] ["row", "place"] (defScope st_44) := ⟨rfl, rfl, rfl, by decide +kernel, rfl, by decide +kernel, by decide +kernel⟩
theorem sc_39 : FnScope ["row", "place", "goal", "after"] ["row", "place", "goal"] (defScope st_39) := ⟨rfl, rfl, rfl, by decide +kernel, rfl, by decide +kernel, by decide +kernel⟩
theorem sc_40 : FnScope ["row", "place", "after"] ["row", "place"] (defScope st_40) := ⟨rfl, rfl, rfl, by decide +kernel, rfl, by decide +kernel, by decide +kernel⟩
theorem sc_64 : FnScope ["row", "place", "at", "brought"] ["row", "place"] (defScope st_64) := ⟨rfl, rfl, rfl, by decide +kernel, rfl, by decide +kernel, by decide +kernel⟩
theorem sc_46 : FnScope ["row", "places", "place"] ["row", "places"] (defScope st_46) := ⟨rfl, rfl, rfl, by decide +kernel, rfl, by decide +kernel, by decide +kernel⟩
theorem sc_74 : FnScope ["row", "places"] ["row"] (defScope st_74) := ⟨rfl, rfl, rfl, by decide +kernel, rfl, by decide +kernel, by decide +kernel⟩
theorem sc_55 : FnScope ["row", "place", "places", "kept", "at", "joined", "brought"] ["row", "place"] (defScope st_55) := ⟨rfl, rfl, rfl, by decide +kernel, rfl, by decide +kernel, by decide +kernel⟩
theorem sc_63 : FnScope ["numbers", "tree", "last_name", "at", "tokens"] ["numbers"] (defScope st_63) := ⟨rfl, rfl, rfl, by decide +kernel, rfl, by decide +kernel, by decide +kernel⟩
theorem sc_75 : FnScope ["tree", "numbers", "name"] ["tree"] (defScope st_75) := ⟨rfl, rfl, rfl, by decide +kernel, rfl, by decide +kernel, by decide +kernel⟩
theorem sc_26 : FnScope ["self"] ["self"] (defScope st_26) := ⟨rfl, rfl, rfl, by decide +kernel, rfl, by decide +kernel, by decide +kernel⟩
theorem sc_72 : FnScope ["held", "numbers", "ground"] ["held", "numbers"] (defScope st_72) := ⟨rfl, rfl, rfl, by decide +kernel, rfl, by decide +kernel, by decide +kernel⟩
theorem sc_71 : FnScope ["held", "numbers", "step"] ["held", "numbers"] (defScope st_71) := ⟨rfl, rfl, rfl, by decide +kernel, rfl, by decide +kernel, by decide +kernel⟩
theorem sc_70 : FnScope ["held"] ["held"] (defScope st_70) := ⟨rfl, rfl, rfl, by decide +kernel, rfl, by decide +kernel, by decide +kernel⟩
theorem sc_57 : FnScope ["held"] ["held"] (defScope st_57) := ⟨rfl, rfl, rfl, by decide +kernel, rfl, by decide +kernel, by decide +kernel⟩
theorem sc_42 : FnScope ["held", "place", "after"] ["held", "place"] (defScope st_42) := ⟨rfl, rfl, rfl, by decide +kernel, rfl, by decide +kernel, by decide +kernel⟩
theorem sc_77 : FnScope ["held", "place"] ["held", "place"] (defScope st_77) := ⟨rfl, rfl, rfl, by decide +kernel, rfl, by decide +kernel, by decide +kernel⟩
theorem sc_49 : FnScope ["held", "place", "brought"] ["held", "place"] (defScope st_49) := ⟨rfl, rfl, rfl, by decide +kernel, rfl, by decide +kernel, by decide +kernel⟩
theorem sc_38 : FnScope ["held", "place", "brought"] ["held", "place"] (defScope st_38) := ⟨rfl, rfl, rfl, by decide +kernel, rfl, by decide +kernel, by decide +kernel⟩
theorem sc_56 : FnScope ["held", "place", "places"] ["held", "place"] (defScope st_56) := ⟨rfl, rfl, rfl, by decide +kernel, rfl, by decide +kernel, by decide +kernel⟩
theorem sc_54 : FnScope ["held", "place", "places", "at"] ["held", "place"] (defScope st_54) := ⟨rfl, rfl, rfl, by decide +kernel, rfl, by decide +kernel, by decide +kernel⟩
theorem sc_79 : FnScope ["held", "place", "answer"] ["held", "place"] (defScope st_79) := ⟨rfl, rfl, rfl, by decide +kernel, rfl, by decide +kernel, by decide +kernel⟩
theorem sc_73 : FnScope ["held", "place", "numbers", "steps", "step"] ["held", "place"] (defScope st_73) := ⟨rfl, rfl, rfl, by decide +kernel, rfl, by decide +kernel, by decide +kernel⟩
theorem sc_58 : FnScope ["held", "place", "after"] ["held", "place"] (defScope st_58) := ⟨rfl, rfl, rfl, by decide +kernel, rfl, by decide +kernel, by decide +kernel⟩
theorem sc_76 : FnScope ["held"] ["held"] (defScope st_76) := ⟨rfl, rfl, rfl, by decide +kernel, rfl, by decide +kernel, by decide +kernel⟩
theorem sc_36 : FnScope ["held", "call", "handed", "place"] ["held", "call", "handed"] (defScope st_36) := ⟨rfl, rfl, rfl, by decide +kernel, rfl, by decide +kernel, by decide +kernel⟩
theorem sc_41 : FnScope ["calls", "at"] ["calls", "at"] (defScope st_41) := ⟨rfl, rfl, rfl, by decide +kernel, rfl, by decide +kernel, by decide +kernel⟩
theorem sc_37 : FnScope ["calls", "held", "answered", "at", "size", "answer"] ["calls"] (defScope st_37) := ⟨rfl, rfl, rfl, by decide +kernel, rfl, by decide +kernel, by decide +kernel⟩
structure Adr where
  cHunk : Addr
  cSwap : Addr
  cAdded : Addr
  cRemoved : Addr
  cMoved : Addr
  cRowOnTree : Addr
  f_9 : Addr
  d_9 : FuncData
  f_11 : Addr
  d_11 : FuncData
  f_7 : Addr
  d_7 : FuncData
  f_8 : Addr
  d_8 : FuncData
  f_6 : Addr
  d_6 : FuncData
  f_13 : Addr
  d_13 : FuncData
  f_10 : Addr
  d_10 : FuncData
  f_12 : Addr
  d_12 : FuncData
  f_30 : Addr
  d_30 : FuncData
  f_33 : Addr
  d_33 : FuncData
  f_28 : Addr
  d_28 : FuncData
  f_29 : Addr
  d_29 : FuncData
  f_27 : Addr
  d_27 : FuncData
  f_35 : Addr
  d_35 : FuncData
  f_31 : Addr
  d_31 : FuncData
  f_34 : Addr
  d_34 : FuncData
  f_32 : Addr
  d_32 : FuncData
  f_3 : Addr
  d_3 : FuncData
  f_4 : Addr
  d_4 : FuncData
  f_1 : Addr
  d_1 : FuncData
  f_2 : Addr
  d_2 : FuncData
  f_0 : Addr
  d_0 : FuncData
  f_5 : Addr
  d_5 : FuncData
  f_23 : Addr
  d_23 : FuncData
  f_24 : Addr
  d_24 : FuncData
  f_21 : Addr
  d_21 : FuncData
  f_22 : Addr
  d_22 : FuncData
  f_20 : Addr
  d_20 : FuncData
  f_25 : Addr
  d_25 : FuncData
  f_17 : Addr
  d_17 : FuncData
  f_18 : Addr
  d_18 : FuncData
  f_15 : Addr
  d_15 : FuncData
  f_16 : Addr
  d_16 : FuncData
  f_14 : Addr
  d_14 : FuncData
  f_19 : Addr
  d_19 : FuncData
  f_65 : Addr
  d_65 : FuncData
  f_67 : Addr
  d_67 : FuncData
  f_66 : Addr
  d_66 : FuncData
  f_43 : Addr
  d_43 : FuncData
  f_68 : Addr
  d_68 : FuncData
  f_69 : Addr
  d_69 : FuncData
  f_47 : Addr
  d_47 : FuncData
  f_51 : Addr
  d_51 : FuncData
  f_45 : Addr
  d_45 : FuncData
  f_50 : Addr
  d_50 : FuncData
  f_78 : Addr
  d_78 : FuncData
  f_52 : Addr
  d_52 : FuncData
  f_53 : Addr
  d_53 : FuncData
  f_48 : Addr
  d_48 : FuncData
  f_61 : Addr
  d_61 : FuncData
  f_59 : Addr
  d_59 : FuncData
  f_62 : Addr
  d_62 : FuncData
  f_60 : Addr
  d_60 : FuncData
  f_44 : Addr
  d_44 : FuncData
  f_39 : Addr
  d_39 : FuncData
  f_40 : Addr
  d_40 : FuncData
  f_64 : Addr
  d_64 : FuncData
  f_46 : Addr
  d_46 : FuncData
  f_74 : Addr
  d_74 : FuncData
  f_55 : Addr
  d_55 : FuncData
  f_63 : Addr
  d_63 : FuncData
  f_75 : Addr
  d_75 : FuncData
  f_26 : Addr
  d_26 : FuncData
  f_72 : Addr
  d_72 : FuncData
  f_71 : Addr
  d_71 : FuncData
  f_70 : Addr
  d_70 : FuncData
  f_57 : Addr
  d_57 : FuncData
  f_42 : Addr
  d_42 : FuncData
  f_77 : Addr
  d_77 : FuncData
  f_49 : Addr
  d_49 : FuncData
  f_38 : Addr
  d_38 : FuncData
  f_56 : Addr
  d_56 : FuncData
  f_54 : Addr
  d_54 : FuncData
  f_79 : Addr
  d_79 : FuncData
  f_73 : Addr
  d_73 : FuncData
  f_58 : Addr
  d_58 : FuncData
  f_76 : Addr
  d_76 : FuncData
  f_36 : Addr
  d_36 : FuncData
  f_41 : Addr
  d_41 : FuncData
  f_37 : Addr
  d_37 : FuncData
  g_LIST_CALLS : Addr
  g_PLAIN_CALLS : Addr
  g_PLACE_CALLS : Addr
  g_STEPS_BEHIND : Addr
  g_TWO_WAYS : Addr
  g_TWO_WAYS_0 : Addr
  g_TWO_WAYS_1 : Addr
structure Txt (K : PySem.W.Frag) (mg : Str → Option Value) (A : Adr) : Prop where
  clHunk : Cls K A.cHunk
  mkHunk : Mk K A.cHunk A.f_9
  mgHunk : mg "Hunk" = some (.ref A.cHunk)
  na_Hunk_name : NoAttr K A.cHunk "name"
  na_Hunk_place : NoAttr K A.cHunk "place"
  na_Hunk_old : NoAttr K A.cHunk "old"
  na_Hunk_new : NoAttr K A.cHunk "new"
  clSwap : Cls K A.cSwap
  mkSwap : Mk K A.cSwap A.f_30
  mgSwap : mg "Swap" = some (.ref A.cSwap)
  na_Swap_name : NoAttr K A.cSwap "name"
  na_Swap_one : NoAttr K A.cSwap "one"
  na_Swap_other : NoAttr K A.cSwap "other"
  clAdded : Cls K A.cAdded
  mkAdded : Mk K A.cAdded A.f_3
  mgAdded : mg "Added" = some (.ref A.cAdded)
  na_Added_name : NoAttr K A.cAdded "name"
  clRemoved : Cls K A.cRemoved
  mkRemoved : Mk K A.cRemoved A.f_23
  mgRemoved : mg "Removed" = some (.ref A.cRemoved)
  na_Removed_name : NoAttr K A.cRemoved "name"
  clMoved : Cls K A.cMoved
  mkMoved : Mk K A.cMoved A.f_17
  mgMoved : mg "Moved" = some (.ref A.cMoved)
  na_Moved_old_name : NoAttr K A.cMoved "old_name"
  na_Moved_new_name : NoAttr K A.cMoved "new_name"
  clRowOnTree : Cls K A.cRowOnTree
  mkRowOnTree : Mk K A.cRowOnTree A.f_26
  mgRowOnTree : mg "RowOnTree" = some (.ref A.cRowOnTree)
  na_RowOnTree_ground : NoAttr K A.cRowOnTree "ground"
  na_RowOnTree_row : NoAttr K A.cRowOnTree "row"
  tc_Hunk : TyC K A.cHunk
  ki_Hunk_Hunk : kitOne K (.ref A.cHunk) (.ref A.cHunk) = some true
  ki_Hunk_Swap : kitOne K (.ref A.cHunk) (.ref A.cSwap) = some false
  ki_Hunk_Moved : kitOne K (.ref A.cHunk) (.ref A.cMoved) = some false
  tc_Swap : TyC K A.cSwap
  ki_Swap_Hunk : kitOne K (.ref A.cSwap) (.ref A.cHunk) = some false
  ki_Swap_Swap : kitOne K (.ref A.cSwap) (.ref A.cSwap) = some true
  ki_Swap_Moved : kitOne K (.ref A.cSwap) (.ref A.cMoved) = some false
  tc_Added : TyC K A.cAdded
  ki_Added_Hunk : kitOne K (.ref A.cAdded) (.ref A.cHunk) = some false
  ki_Added_Swap : kitOne K (.ref A.cAdded) (.ref A.cSwap) = some false
  ki_Added_Moved : kitOne K (.ref A.cAdded) (.ref A.cMoved) = some false
  tc_Removed : TyC K A.cRemoved
  ki_Removed_Hunk : kitOne K (.ref A.cRemoved) (.ref A.cHunk) = some false
  ki_Removed_Swap : kitOne K (.ref A.cRemoved) (.ref A.cSwap) = some false
  ki_Removed_Moved : kitOne K (.ref A.cRemoved) (.ref A.cMoved) = some false
  tc_Moved : TyC K A.cMoved
  ki_Moved_Hunk : kitOne K (.ref A.cMoved) (.ref A.cHunk) = some false
  ki_Moved_Swap : kitOne K (.ref A.cMoved) (.ref A.cSwap) = some false
  ki_Moved_Moved : kitOne K (.ref A.cMoved) (.ref A.cMoved) = some true
  F_9 : Fun K "__init__" "Hunk.__init__" st_9 A.f_9 A.d_9
  b_9 : Binds K A.d_9 ["self", "name", "place", "old", "new"] []
  F_11 : Fun K "names" "Hunk.names" st_11 A.f_11 A.d_11
  b_11 : Binds K A.d_11 ["self"] []
  m_11 : Meth K A.cHunk "names" A.f_11
  F_7 : Fun K "as_numbers" "Hunk.as_numbers" st_7 A.f_7 A.d_7
  b_7 : Binds K A.d_7 ["self"] []
  m_7 : Meth K A.cHunk "as_numbers" A.f_7
  F_8 : Fun K "fits" "Hunk.fits" st_8 A.f_8 A.d_8
  b_8 : Binds K A.d_8 ["self", "tree"] []
  m_8 : Meth K A.cHunk "fits" A.f_8
  F_6 : Fun K "applied" "Hunk.applied" st_6 A.f_6 A.d_6
  b_6 : Binds K A.d_6 ["self", "tree"] []
  m_6 : Meth K A.cHunk "applied" A.f_6
  F_13 : Fun K "turned" "Hunk.turned" st_13 A.f_13 A.d_13
  b_13 : Binds K A.d_13 ["self"] []
  m_13 : Meth K A.cHunk "turned" A.f_13
  F_10 : Fun K "inside" "Hunk.inside" st_10 A.f_10 A.d_10
  b_10 : Binds K A.d_10 ["self", "name"] []
  m_10 : Meth K A.cHunk "inside" A.f_10
  F_12 : Fun K "shifted" "Hunk.shifted" st_12 A.f_12 A.d_12
  b_12 : Binds K A.d_12 ["self", "lower", "higher"] []
  m_12 : Meth K A.cHunk "shifted" A.f_12
  F_30 : Fun K "__init__" "Swap.__init__" st_30 A.f_30 A.d_30
  b_30 : Binds K A.d_30 ["self", "name", "one", "other"] []
  F_33 : Fun K "names" "Swap.names" st_33 A.f_33 A.d_33
  b_33 : Binds K A.d_33 ["self"] []
  m_33 : Meth K A.cSwap "names" A.f_33
  F_28 : Fun K "as_numbers" "Swap.as_numbers" st_28 A.f_28 A.d_28
  b_28 : Binds K A.d_28 ["self"] []
  m_28 : Meth K A.cSwap "as_numbers" A.f_28
  F_29 : Fun K "fits" "Swap.fits" st_29 A.f_29 A.d_29
  b_29 : Binds K A.d_29 ["self", "tree"] []
  m_29 : Meth K A.cSwap "fits" A.f_29
  F_27 : Fun K "applied" "Swap.applied" st_27 A.f_27 A.d_27
  b_27 : Binds K A.d_27 ["self", "tree"] []
  m_27 : Meth K A.cSwap "applied" A.f_27
  F_35 : Fun K "turned" "Swap.turned" st_35 A.f_35 A.d_35
  b_35 : Binds K A.d_35 ["self"] []
  m_35 : Meth K A.cSwap "turned" A.f_35
  F_31 : Fun K "inside" "Swap.inside" st_31 A.f_31 A.d_31
  b_31 : Binds K A.d_31 ["self", "name"] []
  m_31 : Meth K A.cSwap "inside" A.f_31
  F_34 : Fun K "swapped" "Swap.swapped" st_34 A.f_34 A.d_34
  b_34 : Binds K A.d_34 ["self", "tokens"] []
  m_34 : Meth K A.cSwap "swapped" A.f_34
  F_32 : Fun K "instead_of" "Swap.instead_of" st_32 A.f_32 A.d_32
  b_32 : Binds K A.d_32 ["self", "token"] []
  m_32 : Meth K A.cSwap "instead_of" A.f_32
  F_3 : Fun K "__init__" "Added.__init__" st_3 A.f_3 A.d_3
  b_3 : Binds K A.d_3 ["self", "name"] []
  F_4 : Fun K "names" "Added.names" st_4 A.f_4 A.d_4
  b_4 : Binds K A.d_4 ["self"] []
  m_4 : Meth K A.cAdded "names" A.f_4
  F_1 : Fun K "as_numbers" "Added.as_numbers" st_1 A.f_1 A.d_1
  b_1 : Binds K A.d_1 ["self"] []
  m_1 : Meth K A.cAdded "as_numbers" A.f_1
  F_2 : Fun K "fits" "Added.fits" st_2 A.f_2 A.d_2
  b_2 : Binds K A.d_2 ["self", "tree"] []
  m_2 : Meth K A.cAdded "fits" A.f_2
  F_0 : Fun K "applied" "Added.applied" st_0 A.f_0 A.d_0
  b_0 : Binds K A.d_0 ["self", "tree"] []
  m_0 : Meth K A.cAdded "applied" A.f_0
  F_5 : Fun K "turned" "Added.turned" st_5 A.f_5 A.d_5
  b_5 : Binds K A.d_5 ["self"] []
  m_5 : Meth K A.cAdded "turned" A.f_5
  F_23 : Fun K "__init__" "Removed.__init__" st_23 A.f_23 A.d_23
  b_23 : Binds K A.d_23 ["self", "name"] []
  F_24 : Fun K "names" "Removed.names" st_24 A.f_24 A.d_24
  b_24 : Binds K A.d_24 ["self"] []
  m_24 : Meth K A.cRemoved "names" A.f_24
  F_21 : Fun K "as_numbers" "Removed.as_numbers" st_21 A.f_21 A.d_21
  b_21 : Binds K A.d_21 ["self"] []
  m_21 : Meth K A.cRemoved "as_numbers" A.f_21
  F_22 : Fun K "fits" "Removed.fits" st_22 A.f_22 A.d_22
  b_22 : Binds K A.d_22 ["self", "tree"] []
  m_22 : Meth K A.cRemoved "fits" A.f_22
  F_20 : Fun K "applied" "Removed.applied" st_20 A.f_20 A.d_20
  b_20 : Binds K A.d_20 ["self", "tree"] []
  m_20 : Meth K A.cRemoved "applied" A.f_20
  F_25 : Fun K "turned" "Removed.turned" st_25 A.f_25 A.d_25
  b_25 : Binds K A.d_25 ["self"] []
  m_25 : Meth K A.cRemoved "turned" A.f_25
  F_17 : Fun K "__init__" "Moved.__init__" st_17 A.f_17 A.d_17
  b_17 : Binds K A.d_17 ["self", "old_name", "new_name"] []
  F_18 : Fun K "names" "Moved.names" st_18 A.f_18 A.d_18
  b_18 : Binds K A.d_18 ["self"] []
  m_18 : Meth K A.cMoved "names" A.f_18
  F_15 : Fun K "as_numbers" "Moved.as_numbers" st_15 A.f_15 A.d_15
  b_15 : Binds K A.d_15 ["self"] []
  m_15 : Meth K A.cMoved "as_numbers" A.f_15
  F_16 : Fun K "fits" "Moved.fits" st_16 A.f_16 A.d_16
  b_16 : Binds K A.d_16 ["self", "tree"] []
  m_16 : Meth K A.cMoved "fits" A.f_16
  F_14 : Fun K "applied" "Moved.applied" st_14 A.f_14 A.d_14
  b_14 : Binds K A.d_14 ["self", "tree"] []
  m_14 : Meth K A.cMoved "applied" A.f_14
  F_19 : Fun K "turned" "Moved.turned" st_19 A.f_19 A.d_19
  b_19 : Binds K A.d_19 ["self"] []
  m_19 : Meth K A.cMoved "turned" A.f_19
  F_65 : Fun K "row_applied" "row_applied" st_65 A.f_65 A.d_65
  b_65 : Binds K A.d_65 ["tree", "row"] []
  mg_65 : mg "row_applied" = some (.ref A.f_65)
  F_67 : Fun K "row_turned" "row_turned" st_67 A.f_67 A.d_67
  b_67 : Binds K A.d_67 ["row"] []
  mg_67 : mg "row_turned" = some (.ref A.f_67)
  F_66 : Fun K "row_numbers" "row_numbers" st_66 A.f_66 A.d_66
  b_66 : Binds K A.d_66 ["row"] []
  mg_66 : mg "row_numbers" = some (.ref A.f_66)
  F_43 : Fun K "commuted" "commuted" st_43 A.f_43 A.d_43
  b_43 : Binds K A.d_43 ["first", "second"] []
  mg_43 : mg "commuted" = some (.ref A.f_43)
  F_68 : Fun K "share_name" "share_name" st_68 A.f_68 A.d_68
  b_68 : Binds K A.d_68 ["first", "second"] []
  mg_68 : mg "share_name" = some (.ref A.f_68)
  F_69 : Fun K "share_token" "share_token" st_69 A.f_69 A.d_69
  b_69 : Binds K A.d_69 ["first", "second"] []
  mg_69 : mg "share_token" = some (.ref A.f_69)
  F_47 : Fun K "commuted_with_move" "commuted_with_move" st_47 A.f_47 A.d_47
  b_47 : Binds K A.d_47 ["first", "second"] []
  mg_47 : mg "commuted_with_move" = some (.ref A.f_47)
  F_51 : Fun K "is_inside" "is_inside" st_51 A.f_51 A.d_51
  b_51 : Binds K A.d_51 ["step", "name"] []
  mg_51 : mg "is_inside" = some (.ref A.f_51)
  F_45 : Fun K "commuted_hunks" "commuted_hunks" st_45 A.f_45 A.d_45
  b_45 : Binds K A.d_45 ["first", "second"] []
  mg_45 : mg "commuted_hunks" = some (.ref A.f_45)
  F_50 : Fun K "hunk_swapped" "hunk_swapped" st_50 A.f_50 A.d_50
  b_50 : Binds K A.d_50 ["hunk", "swap"] []
  mg_50 : mg "hunk_swapped" = some (.ref A.f_50)
  F_78 : Fun K "why_not" "why_not" st_78 A.f_78 A.d_78
  b_78 : Binds K A.d_78 ["first", "second"] []
  mg_78 : mg "why_not" = some (.ref A.f_78)
  F_52 : Fun K "is_name" "is_name" st_52 A.f_52 A.d_52
  b_52 : Binds K A.d_52 ["number"] []
  mg_52 : mg "is_name" = some (.ref A.f_52)
  F_53 : Fun K "is_token" "is_token" st_53 A.f_53 A.d_53
  b_53 : Binds K A.d_53 ["number"] []
  mg_53 : mg "is_token" = some (.ref A.f_53)
  F_48 : Fun K "counted_tokens" "counted_tokens" st_48 A.f_48 A.d_48
  b_48 : Binds K A.d_48 ["numbers", "at", "most"] []
  mg_48 : mg "counted_tokens" = some (.ref A.f_48)
  F_61 : Fun K "read_step" "read_step" st_61 A.f_61 A.d_61
  b_61 : Binds K A.d_61 ["numbers"] []
  mg_61 : mg "read_step" = some (.ref A.f_61)
  F_59 : Fun K "read_hunk" "read_hunk" st_59 A.f_59 A.d_59
  b_59 : Binds K A.d_59 ["numbers"] []
  mg_59 : mg "read_hunk" = some (.ref A.f_59)
  F_62 : Fun K "read_swap" "read_swap" st_62 A.f_62 A.d_62
  b_62 : Binds K A.d_62 ["numbers"] []
  mg_62 : mg "read_swap" = some (.ref A.f_62)
  F_60 : Fun K "read_move" "read_move" st_60 A.f_60 A.d_60
  b_60 : Binds K A.d_60 ["numbers"] []
  mg_60 : mg "read_move" = some (.ref A.f_60)
  F_44 : Fun K "commuted_at" "commuted_at" st_44 A.f_44 A.d_44
  b_44 : Binds K A.d_44 ["row", "place"] []
  mg_44 : mg "commuted_at" = some (.ref A.f_44)
  F_39 : Fun K "brought_ahead" "brought_ahead" st_39 A.f_39 A.d_39
  b_39 : Binds K A.d_39 ["row", "place", "goal"] []
  mg_39 : mg "brought_ahead" = some (.ref A.f_39)
  F_40 : Fun K "brought_behind" "brought_behind" st_40 A.f_40 A.d_40
  b_40 : Binds K A.d_40 ["row", "place"] []
  mg_40 : mg "brought_behind" = some (.ref A.f_40)
  F_64 : Fun K "rest_brought_ahead" "rest_brought_ahead" st_64 A.f_64 A.d_64
  b_64 : Binds K A.d_64 ["row", "place"] []
  mg_64 : mg "rest_brought_ahead" = some (.ref A.f_64)
  F_46 : Fun K "commuted_in_turn" "commuted_in_turn" st_46 A.f_46 A.d_46
  b_46 : Binds K A.d_46 ["row", "places"] []
  mg_46 : mg "commuted_in_turn" = some (.ref A.f_46)
  F_74 : Fun K "three_commuted" "three_commuted" st_74 A.f_74 A.d_74
  b_74 : Binds K A.d_74 ["row"] []
  mg_74 : mg "three_commuted" = some (.ref A.f_74)
  F_55 : Fun K "needed_places" "needed_places" st_55 A.f_55 A.d_55
  b_55 : Binds K A.d_55 ["row", "place"] []
  mg_55 : mg "needed_places" = some (.ref A.f_55)
  F_63 : Fun K "read_tree" "read_tree" st_63 A.f_63 A.d_63
  b_63 : Binds K A.d_63 ["numbers"] []
  mg_63 : mg "read_tree" = some (.ref A.f_63)
  F_75 : Fun K "tree_numbers" "tree_numbers" st_75 A.f_75 A.d_75
  b_75 : Binds K A.d_75 ["tree"] []
  mg_75 : mg "tree_numbers" = some (.ref A.f_75)
  F_26 : Fun K "__init__" "RowOnTree.__init__" st_26 A.f_26 A.d_26
  b_26 : Binds K A.d_26 ["self"] []
  F_72 : Fun K "tell_tree" "tell_tree" st_72 A.f_72 A.d_72
  b_72 : Binds K A.d_72 ["held", "numbers"] []
  mg_72 : mg "tell_tree" = some (.ref A.f_72)
  F_71 : Fun K "tell_step" "tell_step" st_71 A.f_71 A.d_71
  b_71 : Binds K A.d_71 ["held", "numbers"] []
  mg_71 : mg "tell_step" = some (.ref A.f_71)
  F_70 : Fun K "shown" "shown" st_70 A.f_70 A.d_70
  b_70 : Binds K A.d_70 ["held"] []
  mg_70 : mg "shown" = some (.ref A.f_70)
  F_57 : Fun K "outcome" "outcome" st_57 A.f_57 A.d_57
  b_57 : Binds K A.d_57 ["held"] []
  mg_57 : mg "outcome" = some (.ref A.f_57)
  F_42 : Fun K "commute" "commute" st_42 A.f_42 A.d_42
  b_42 : Binds K A.d_42 ["held", "place"] []
  mg_42 : mg "commute" = some (.ref A.f_42)
  F_77 : Fun K "why" "why" st_77 A.f_77 A.d_77
  b_77 : Binds K A.d_77 ["held", "place"] []
  mg_77 : mg "why" = some (.ref A.f_77)
  F_49 : Fun K "front" "front" st_49 A.f_49 A.d_49
  b_49 : Binds K A.d_49 ["held", "place"] []
  mg_49 : mg "front" = some (.ref A.f_49)
  F_38 : Fun K "back" "back" st_38 A.f_38 A.d_38
  b_38 : Binds K A.d_38 ["held", "place"] []
  mg_38 : mg "back" = some (.ref A.f_38)
  F_56 : Fun K "needs" "needs" st_56 A.f_56 A.d_56
  b_56 : Binds K A.d_56 ["held", "place"] []
  mg_56 : mg "needs" = some (.ref A.f_56)
  F_54 : Fun K "needed_by" "needed_by" st_54 A.f_54 A.d_54
  b_54 : Binds K A.d_54 ["held", "place"] []
  mg_54 : mg "needed_by" = some (.ref A.f_54)
  F_79 : Fun K "without" "without" st_79 A.f_79 A.d_79
  b_79 : Binds K A.d_79 ["held", "place"] []
  mg_79 : mg "without" = some (.ref A.f_79)
  F_73 : Fun K "three" "three" st_73 A.f_73 A.d_73
  b_73 : Binds K A.d_73 ["held", "place"] []
  mg_73 : mg "three" = some (.ref A.f_73)
  F_58 : Fun K "past" "past" st_58 A.f_58 A.d_58
  b_58 : Binds K A.d_58 ["held", "place"] []
  mg_58 : mg "past" = some (.ref A.f_58)
  F_76 : Fun K "turn" "turn" st_76 A.f_76 A.d_76
  b_76 : Binds K A.d_76 ["held"] []
  mg_76 : mg "turn" = some (.ref A.f_76)
  F_36 : Fun K "answer_call" "answer_call" st_36 A.f_36 A.d_36
  b_36 : Binds K A.d_36 ["held", "call", "handed"] []
  mg_36 : mg "answer_call" = some (.ref A.f_36)
  F_41 : Fun K "call_size" "call_size" st_41 A.f_41 A.d_41
  b_41 : Binds K A.d_41 ["calls", "at"] []
  mg_41 : mg "call_size" = some (.ref A.f_41)
  F_37 : Fun K "answers" "answers" st_37 A.f_37 A.d_37
  b_37 : Binds K A.d_37 ["calls"] []
  bt_37 : ∀ (s : Shared) (us : List Value), us.length = (["calls"] : List Str).length → BindsTo s A.d_37 ⟨us, []⟩ ((["calls"] : List Str).zip us)
  mg_37 : mg "answers" = some (.ref A.f_37)
  g_HUNK : ∃ t, mg "HUNK" = some (.int (0) t)
  g_SWAP : ∃ t, mg "SWAP" = some (.int (1) t)
  g_ADDED : ∃ t, mg "ADDED" = some (.int (2) t)
  g_REMOVED : ∃ t, mg "REMOVED" = some (.int (3) t)
  g_MOVED : ∃ t, mg "MOVED" = some (.int (4) t)
  g_THEY_COMMUTE : ∃ t, mg "THEY_COMMUTE" = some (.int (0) t)
  g_HUNKS_TOUCH : ∃ t, mg "HUNKS_TOUCH" = some (.int (1) t)
  g_SWAPS_TOUCH : ∃ t, mg "SWAPS_TOUCH" = some (.int (2) t)
  g_ELSE_NOT : ∃ t, mg "ELSE_NOT" = some (.int (3) t)
  g_LAST_NAME : ∃ t, mg "LAST_NAME" = some (.int (9) t)
  g_LAST_TOKEN : ∃ t, mg "LAST_TOKEN" = some (.int (99) t)
  g_MOST_CHANGED : ∃ t, mg "MOST_CHANGED" = some (.int (8) t)
  g_LAST_PLACE : ∃ t, mg "LAST_PLACE" = some (.int (1000) t)
  g_MOST_FILES : ∃ t, mg "MOST_FILES" = some (.int (6) t)
  g_MOST_TOKENS : ∃ t, mg "MOST_TOKENS" = some (.int (12) t)
  g_NOT_WHOLE : ∃ t, mg "NOT_WHOLE" = some (.int (-1) t)
  g_NO_SUCH_STEP : ∃ t, mg "NO_SUCH_STEP" = some (.int (-2) t)
  g_DOES_NOT_FIT : ∃ t, mg "DOES_NOT_FIT" = some (.int (-4) t)
  g_ROW_IS_FULL : ∃ t, mg "ROW_IS_FULL" = some (.int (-6) t)
  g_DO_NOT_COMMUTE : ∃ t, mg "DO_NOT_COMMUTE" = some (.int (-7) t)
  g_NO_TREE : ∃ t, mg "NO_TREE" = some (.int (-8) t)
  g_MOST_STEPS : ∃ t, mg "MOST_STEPS" = some (.int (16) t)
  g_TREE_CALL : ∃ t, mg "TREE_CALL" = some (.int (0) t)
  mgd_LIST_CALLS : mg "LIST_CALLS" = some (.ref A.g_LIST_CALLS)
  gd_LIST_CALLS : GDict K A.g_LIST_CALLS [(0, .ref A.f_72), (1, .ref A.f_71)]
  mgd_PLAIN_CALLS : mg "PLAIN_CALLS" = some (.ref A.g_PLAIN_CALLS)
  gd_PLAIN_CALLS : GDict K A.g_PLAIN_CALLS [(2, .ref A.f_70), (3, .ref A.f_57), (13, .ref A.f_76)]
  mgd_PLACE_CALLS : mg "PLACE_CALLS" = some (.ref A.g_PLACE_CALLS)
  gd_PLACE_CALLS : GDict K A.g_PLACE_CALLS [(4, .ref A.f_42), (5, .ref A.f_77), (6, .ref A.f_49), (7, .ref A.f_38), (8, .ref A.f_56), (9, .ref A.f_54), (10, .ref A.f_79), (11, .ref A.f_73), (12, .ref A.f_58)]
  mgd_STEPS_BEHIND : mg "STEPS_BEHIND" = some (.ref A.g_STEPS_BEHIND)
  gd_STEPS_BEHIND : GDict K A.g_STEPS_BEHIND [(4, .int (1)), (5, .int (1)), (11, .int (2))]
  mgd_TWO_WAYS : mg "TWO_WAYS" = some (.ref A.g_TWO_WAYS)
  gt_TWO_WAYS : GTup K A.g_TWO_WAYS [.ref A.g_TWO_WAYS_0, .ref A.g_TWO_WAYS_1]
  gt_TWO_WAYS_0 : GTup K A.g_TWO_WAYS_0 [.int (0), .int (1), .int (0)]
  gt_TWO_WAYS_1 : GTup K A.g_TWO_WAYS_1 [.int (1), .int (0), .int (1)]
  n_any : mg "any" = none
  n_range : mg "range" = none
  n_sorted : mg "sorted" = none
  n_dict : mg "dict" = none
  n_len : mg "len" = none
  n_isinstance : mg "isinstance" = none
  n_all : mg "all" = none
  n_reversed : mg "reversed" = none
  n_list : mg "list" = none
theorem kit_same {K : PySem.W.Frag} {c : Value} : kitOne K c c = some true := by
  unfold kitOne
  rw [if_pos (beq_self_eq_true c)]
theorem kit_other {K : PySem.W.Frag} {C D : Addr} (ne : (Value.ref C == Value.ref D) = false) (ci : isClsIn K D = true) (ty : typeIn K (.ref D) = some (.type "type")) (su : subIn K (.ref C) (.ref D) = some false) :
    kitOne K (.ref C) (.ref D) = some false := by
  unfold kitOne
  rw [if_neg (by rw [ne]; exact Bool.false_ne_true)]
  unfold PySem.W.kitCls
  dsimp only
  unfold isClsIn at ci
  rw [ci, ty, if_pos (by simp)]
  exact su
theorem all_mk {K : PySem.W.Frag} {h : Heap} {mg : Str → Option Value} (X : K.In h) (G : h.Ns mainGlobals mg)
    {cHunk cSwap cAdded cRemoved cMoved cRowOnTree f_9 f_11 f_7 f_8 f_6 f_13 f_10 f_12 f_30 f_33 f_28 f_29 f_27 f_35 f_31 f_34 f_32 f_3 f_4 f_1 f_2 f_0 f_5 f_23 f_24 f_21 f_22 f_20 f_25 f_17 f_18 f_15 f_16 f_14 f_19 f_65 f_67 f_66 f_43 f_68 f_69 f_47 f_51 f_45 f_50 f_78 f_52 f_53 f_48 f_61 f_59 f_62 f_60 f_44 f_39 f_40 f_64 f_46 f_74 f_55 f_63 f_75 f_26 f_72 f_71 f_70 f_57 f_42 f_77 f_49 f_38 f_56 f_54 f_79 f_73 f_58 f_76 f_36 f_41 f_37 d_LIST_CALLS d_PLAIN_CALLS d_PLACE_CALLS d_STEPS_BEHIND d_TWO_WAYS d_TWO_WAYS_0 d_TWO_WAYS_1 : Addr} {odt_TWO_WAYS odt_TWO_WAYS_0 odt_TWO_WAYS_1 : Option Addr} {slt_TWO_WAYS slt_TWO_WAYS_0 slt_TWO_WAYS_1 : Array (Option Value)} {d_9 d_11 d_7 d_8 d_6 d_13 d_10 d_12 d_30 d_33 d_28 d_29 d_27 d_35 d_31 d_34 d_32 d_3 d_4 d_1 d_2 d_0 d_5 d_23 d_24 d_21 d_22 d_20 d_25 d_17 d_18 d_15 d_16 d_14 d_19 d_65 d_67 d_66 d_43 d_68 d_69 d_47 d_51 d_45 d_50 d_78 d_52 d_53 d_48 d_61 d_59 d_62 d_60 d_44 d_39 d_40 d_64 d_46 d_74 d_55 d_63 d_75 d_26 d_72 d_71 d_70 d_57 d_42 d_77 d_49 d_38 d_56 d_54 d_79 d_73 d_58 d_76 d_36 d_41 d_37 : FuncData} {t_HUNK t_SWAP t_ADDED t_REMOVED t_MOVED t_THEY_COMMUTE t_HUNKS_TOUCH t_SWAPS_TOUCH t_ELSE_NOT t_LAST_NAME t_LAST_TOKEN t_MOST_CHANGED t_LAST_PLACE t_MOST_FILES t_MOST_TOKENS t_NOT_WHOLE t_NO_SUCH_STEP t_DOES_NOT_FIT t_ROW_IS_FULL t_DO_NOT_COMMUTE t_NO_TREE t_MOST_STEPS t_TREE_CALL tk_LIST_CALLS_0 tk_LIST_CALLS_1 tk_PLAIN_CALLS_0 tk_PLAIN_CALLS_1 tk_PLAIN_CALLS_2 tk_PLACE_CALLS_0 tk_PLACE_CALLS_1 tk_PLACE_CALLS_2 tk_PLACE_CALLS_3 tk_PLACE_CALLS_4 tk_PLACE_CALLS_5 tk_PLACE_CALLS_6 tk_PLACE_CALLS_7 tk_PLACE_CALLS_8 tk_STEPS_BEHIND_0 tv_STEPS_BEHIND_0 tk_STEPS_BEHIND_1 tv_STEPS_BEHIND_1 tk_STEPS_BEHIND_2 tv_STEPS_BEHIND_2 tk_TWO_WAYS_0_0 tk_TWO_WAYS_0_1 tk_TWO_WAYS_0_2 tk_TWO_WAYS_1_0 tk_TWO_WAYS_1_1 tk_TWO_WAYS_1_2 : Tok}
    {ep_LIST_CALLS ep_PLAIN_CALLS ep_PLACE_CALLS ep_STEPS_BEHIND ep_TWO_WAYS ep_TWO_WAYS_0 ep_TWO_WAYS_1 : Nat} {h_LIST_CALLS_0 h_LIST_CALLS_1 h_PLAIN_CALLS_0 h_PLAIN_CALLS_1 h_PLAIN_CALLS_2 h_PLACE_CALLS_0 h_PLACE_CALLS_1 h_PLACE_CALLS_2 h_PLACE_CALLS_3 h_PLACE_CALLS_4 h_PLACE_CALLS_5 h_PLACE_CALLS_6 h_PLACE_CALLS_7 h_PLACE_CALLS_8 h_STEPS_BEHIND_0 h_STEPS_BEHIND_1 h_STEPS_BEHIND_2 : Int}
    (hn : PySem.W.specialIn K (.builtin "object.__class__") "__get__" = some (some (.builtin "getset_descriptor.__get__")))
    (htk : PySem.W.takesIn K (.builtin "object.__class__") = some true)
    (aC_Hunk : nsIn K mainGlobals "Hunk" = some (some (.ref cHunk)))
    (pg_Hunk : plainGet K cHunk Str.empty = true)
    (hd_Hunk : hasDictIn K cHunk = true)
    (po_Hunk : plainOver K cHunk = true)
    (sa_Hunk : findIn K (.ref cHunk) "__setattr__" = some (some (.builtin "object.__setattr__")))
    (mk_Hunk : makesIn K cHunk = true)
    (kc_Hunk : keepIn K (.ref cHunk) = true)
    (na_Hunk_name : findIn K (.ref cHunk) "name" = some none)
    (na_Hunk_place : findIn K (.ref cHunk) "place" = some none)
    (na_Hunk_old : findIn K (.ref cHunk) "old" = some none)
    (na_Hunk_new : findIn K (.ref cHunk) "new" = some none)
    (aC_Swap : nsIn K mainGlobals "Swap" = some (some (.ref cSwap)))
    (pg_Swap : plainGet K cSwap Str.empty = true)
    (hd_Swap : hasDictIn K cSwap = true)
    (po_Swap : plainOver K cSwap = true)
    (sa_Swap : findIn K (.ref cSwap) "__setattr__" = some (some (.builtin "object.__setattr__")))
    (mk_Swap : makesIn K cSwap = true)
    (kc_Swap : keepIn K (.ref cSwap) = true)
    (na_Swap_name : findIn K (.ref cSwap) "name" = some none)
    (na_Swap_one : findIn K (.ref cSwap) "one" = some none)
    (na_Swap_other : findIn K (.ref cSwap) "other" = some none)
    (aC_Added : nsIn K mainGlobals "Added" = some (some (.ref cAdded)))
    (pg_Added : plainGet K cAdded Str.empty = true)
    (hd_Added : hasDictIn K cAdded = true)
    (po_Added : plainOver K cAdded = true)
    (sa_Added : findIn K (.ref cAdded) "__setattr__" = some (some (.builtin "object.__setattr__")))
    (mk_Added : makesIn K cAdded = true)
    (kc_Added : keepIn K (.ref cAdded) = true)
    (na_Added_name : findIn K (.ref cAdded) "name" = some none)
    (aC_Removed : nsIn K mainGlobals "Removed" = some (some (.ref cRemoved)))
    (pg_Removed : plainGet K cRemoved Str.empty = true)
    (hd_Removed : hasDictIn K cRemoved = true)
    (po_Removed : plainOver K cRemoved = true)
    (sa_Removed : findIn K (.ref cRemoved) "__setattr__" = some (some (.builtin "object.__setattr__")))
    (mk_Removed : makesIn K cRemoved = true)
    (kc_Removed : keepIn K (.ref cRemoved) = true)
    (na_Removed_name : findIn K (.ref cRemoved) "name" = some none)
    (aC_Moved : nsIn K mainGlobals "Moved" = some (some (.ref cMoved)))
    (pg_Moved : plainGet K cMoved Str.empty = true)
    (hd_Moved : hasDictIn K cMoved = true)
    (po_Moved : plainOver K cMoved = true)
    (sa_Moved : findIn K (.ref cMoved) "__setattr__" = some (some (.builtin "object.__setattr__")))
    (mk_Moved : makesIn K cMoved = true)
    (kc_Moved : keepIn K (.ref cMoved) = true)
    (na_Moved_old_name : findIn K (.ref cMoved) "old_name" = some none)
    (na_Moved_new_name : findIn K (.ref cMoved) "new_name" = some none)
    (aC_RowOnTree : nsIn K mainGlobals "RowOnTree" = some (some (.ref cRowOnTree)))
    (pg_RowOnTree : plainGet K cRowOnTree Str.empty = true)
    (hd_RowOnTree : hasDictIn K cRowOnTree = true)
    (po_RowOnTree : plainOver K cRowOnTree = true)
    (sa_RowOnTree : findIn K (.ref cRowOnTree) "__setattr__" = some (some (.builtin "object.__setattr__")))
    (mk_RowOnTree : makesIn K cRowOnTree = true)
    (kc_RowOnTree : keepIn K (.ref cRowOnTree) = true)
    (na_RowOnTree_ground : findIn K (.ref cRowOnTree) "ground" = some none)
    (na_RowOnTree_row : findIn K (.ref cRowOnTree) "row" = some none)
    (ic_Hunk : findIn K (.ref cHunk) "__class__" = some (some (.builtin "object.__class__")))
    (hm_Hunk : mroIn K cHunk (.type "object") = some true)
    (ic_Swap : findIn K (.ref cSwap) "__class__" = some (some (.builtin "object.__class__")))
    (hm_Swap : mroIn K cSwap (.type "object") = some true)
    (ic_Added : findIn K (.ref cAdded) "__class__" = some (some (.builtin "object.__class__")))
    (hm_Added : mroIn K cAdded (.type "object") = some true)
    (ic_Removed : findIn K (.ref cRemoved) "__class__" = some (some (.builtin "object.__class__")))
    (hm_Removed : mroIn K cRemoved (.type "object") = some true)
    (ic_Moved : findIn K (.ref cMoved) "__class__" = some (some (.builtin "object.__class__")))
    (hm_Moved : mroIn K cMoved (.type "object") = some true)
    (ci_Hunk : isClsIn K cHunk = true)
    (ty_Hunk : typeIn K (.ref cHunk) = some (.type "type"))
    (ne_Swap_Hunk : (Value.ref cSwap == Value.ref cHunk) = false)
    (su_Swap_Hunk : subIn K (.ref cSwap) (.ref cHunk) = some false)
    (ne_Added_Hunk : (Value.ref cAdded == Value.ref cHunk) = false)
    (su_Added_Hunk : subIn K (.ref cAdded) (.ref cHunk) = some false)
    (ne_Removed_Hunk : (Value.ref cRemoved == Value.ref cHunk) = false)
    (su_Removed_Hunk : subIn K (.ref cRemoved) (.ref cHunk) = some false)
    (ne_Moved_Hunk : (Value.ref cMoved == Value.ref cHunk) = false)
    (su_Moved_Hunk : subIn K (.ref cMoved) (.ref cHunk) = some false)
    (ci_Swap : isClsIn K cSwap = true)
    (ty_Swap : typeIn K (.ref cSwap) = some (.type "type"))
    (ne_Hunk_Swap : (Value.ref cHunk == Value.ref cSwap) = false)
    (su_Hunk_Swap : subIn K (.ref cHunk) (.ref cSwap) = some false)
    (ne_Added_Swap : (Value.ref cAdded == Value.ref cSwap) = false)
    (su_Added_Swap : subIn K (.ref cAdded) (.ref cSwap) = some false)
    (ne_Removed_Swap : (Value.ref cRemoved == Value.ref cSwap) = false)
    (su_Removed_Swap : subIn K (.ref cRemoved) (.ref cSwap) = some false)
    (ne_Moved_Swap : (Value.ref cMoved == Value.ref cSwap) = false)
    (su_Moved_Swap : subIn K (.ref cMoved) (.ref cSwap) = some false)
    (ci_Moved : isClsIn K cMoved = true)
    (ty_Moved : typeIn K (.ref cMoved) = some (.type "type"))
    (ne_Hunk_Moved : (Value.ref cHunk == Value.ref cMoved) = false)
    (su_Hunk_Moved : subIn K (.ref cHunk) (.ref cMoved) = some false)
    (ne_Swap_Moved : (Value.ref cSwap == Value.ref cMoved) = false)
    (su_Swap_Moved : subIn K (.ref cSwap) (.ref cMoved) = some false)
    (ne_Added_Moved : (Value.ref cAdded == Value.ref cMoved) = false)
    (su_Added_Moved : subIn K (.ref cAdded) (.ref cMoved) = some false)
    (ne_Removed_Moved : (Value.ref cRemoved == Value.ref cMoved) = false)
    (su_Removed_Moved : subIn K (.ref cRemoved) (.ref cMoved) = some false)
    (a_9 : findIn K (.ref cHunk) "__init__" = some (some (.ref f_9)))
    (i_9 : isFn K (.ref f_9) = true)
    (F_9 : Fun K "__init__" "Hunk.__init__" st_9 f_9 d_9)
    (a_11 : findIn K (.ref cHunk) "names" = some (some (.ref f_11)))
    (i_11 : isFn K (.ref f_11) = true)
    (F_11 : Fun K "names" "Hunk.names" st_11 f_11 d_11)
    (a_7 : findIn K (.ref cHunk) "as_numbers" = some (some (.ref f_7)))
    (i_7 : isFn K (.ref f_7) = true)
    (F_7 : Fun K "as_numbers" "Hunk.as_numbers" st_7 f_7 d_7)
    (a_8 : findIn K (.ref cHunk) "fits" = some (some (.ref f_8)))
    (i_8 : isFn K (.ref f_8) = true)
    (F_8 : Fun K "fits" "Hunk.fits" st_8 f_8 d_8)
    (a_6 : findIn K (.ref cHunk) "applied" = some (some (.ref f_6)))
    (i_6 : isFn K (.ref f_6) = true)
    (F_6 : Fun K "applied" "Hunk.applied" st_6 f_6 d_6)
    (a_13 : findIn K (.ref cHunk) "turned" = some (some (.ref f_13)))
    (i_13 : isFn K (.ref f_13) = true)
    (F_13 : Fun K "turned" "Hunk.turned" st_13 f_13 d_13)
    (a_10 : findIn K (.ref cHunk) "inside" = some (some (.ref f_10)))
    (i_10 : isFn K (.ref f_10) = true)
    (F_10 : Fun K "inside" "Hunk.inside" st_10 f_10 d_10)
    (a_12 : findIn K (.ref cHunk) "shifted" = some (some (.ref f_12)))
    (i_12 : isFn K (.ref f_12) = true)
    (F_12 : Fun K "shifted" "Hunk.shifted" st_12 f_12 d_12)
    (a_30 : findIn K (.ref cSwap) "__init__" = some (some (.ref f_30)))
    (i_30 : isFn K (.ref f_30) = true)
    (F_30 : Fun K "__init__" "Swap.__init__" st_30 f_30 d_30)
    (a_33 : findIn K (.ref cSwap) "names" = some (some (.ref f_33)))
    (i_33 : isFn K (.ref f_33) = true)
    (F_33 : Fun K "names" "Swap.names" st_33 f_33 d_33)
    (a_28 : findIn K (.ref cSwap) "as_numbers" = some (some (.ref f_28)))
    (i_28 : isFn K (.ref f_28) = true)
    (F_28 : Fun K "as_numbers" "Swap.as_numbers" st_28 f_28 d_28)
    (a_29 : findIn K (.ref cSwap) "fits" = some (some (.ref f_29)))
    (i_29 : isFn K (.ref f_29) = true)
    (F_29 : Fun K "fits" "Swap.fits" st_29 f_29 d_29)
    (a_27 : findIn K (.ref cSwap) "applied" = some (some (.ref f_27)))
    (i_27 : isFn K (.ref f_27) = true)
    (F_27 : Fun K "applied" "Swap.applied" st_27 f_27 d_27)
    (a_35 : findIn K (.ref cSwap) "turned" = some (some (.ref f_35)))
    (i_35 : isFn K (.ref f_35) = true)
    (F_35 : Fun K "turned" "Swap.turned" st_35 f_35 d_35)
    (a_31 : findIn K (.ref cSwap) "inside" = some (some (.ref f_31)))
    (i_31 : isFn K (.ref f_31) = true)
    (F_31 : Fun K "inside" "Swap.inside" st_31 f_31 d_31)
    (a_34 : findIn K (.ref cSwap) "swapped" = some (some (.ref f_34)))
    (i_34 : isFn K (.ref f_34) = true)
    (F_34 : Fun K "swapped" "Swap.swapped" st_34 f_34 d_34)
    (a_32 : findIn K (.ref cSwap) "instead_of" = some (some (.ref f_32)))
    (i_32 : isFn K (.ref f_32) = true)
    (F_32 : Fun K "instead_of" "Swap.instead_of" st_32 f_32 d_32)
    (a_3 : findIn K (.ref cAdded) "__init__" = some (some (.ref f_3)))
    (i_3 : isFn K (.ref f_3) = true)
    (F_3 : Fun K "__init__" "Added.__init__" st_3 f_3 d_3)
    (a_4 : findIn K (.ref cAdded) "names" = some (some (.ref f_4)))
    (i_4 : isFn K (.ref f_4) = true)
    (F_4 : Fun K "names" "Added.names" st_4 f_4 d_4)
    (a_1 : findIn K (.ref cAdded) "as_numbers" = some (some (.ref f_1)))
    (i_1 : isFn K (.ref f_1) = true)
    (F_1 : Fun K "as_numbers" "Added.as_numbers" st_1 f_1 d_1)
    (a_2 : findIn K (.ref cAdded) "fits" = some (some (.ref f_2)))
    (i_2 : isFn K (.ref f_2) = true)
    (F_2 : Fun K "fits" "Added.fits" st_2 f_2 d_2)
    (a_0 : findIn K (.ref cAdded) "applied" = some (some (.ref f_0)))
    (i_0 : isFn K (.ref f_0) = true)
    (F_0 : Fun K "applied" "Added.applied" st_0 f_0 d_0)
    (a_5 : findIn K (.ref cAdded) "turned" = some (some (.ref f_5)))
    (i_5 : isFn K (.ref f_5) = true)
    (F_5 : Fun K "turned" "Added.turned" st_5 f_5 d_5)
    (a_23 : findIn K (.ref cRemoved) "__init__" = some (some (.ref f_23)))
    (i_23 : isFn K (.ref f_23) = true)
    (F_23 : Fun K "__init__" "Removed.__init__" st_23 f_23 d_23)
    (a_24 : findIn K (.ref cRemoved) "names" = some (some (.ref f_24)))
    (i_24 : isFn K (.ref f_24) = true)
    (F_24 : Fun K "names" "Removed.names" st_24 f_24 d_24)
    (a_21 : findIn K (.ref cRemoved) "as_numbers" = some (some (.ref f_21)))
    (i_21 : isFn K (.ref f_21) = true)
    (F_21 : Fun K "as_numbers" "Removed.as_numbers" st_21 f_21 d_21)
    (a_22 : findIn K (.ref cRemoved) "fits" = some (some (.ref f_22)))
    (i_22 : isFn K (.ref f_22) = true)
    (F_22 : Fun K "fits" "Removed.fits" st_22 f_22 d_22)
    (a_20 : findIn K (.ref cRemoved) "applied" = some (some (.ref f_20)))
    (i_20 : isFn K (.ref f_20) = true)
    (F_20 : Fun K "applied" "Removed.applied" st_20 f_20 d_20)
    (a_25 : findIn K (.ref cRemoved) "turned" = some (some (.ref f_25)))
    (i_25 : isFn K (.ref f_25) = true)
    (F_25 : Fun K "turned" "Removed.turned" st_25 f_25 d_25)
    (a_17 : findIn K (.ref cMoved) "__init__" = some (some (.ref f_17)))
    (i_17 : isFn K (.ref f_17) = true)
    (F_17 : Fun K "__init__" "Moved.__init__" st_17 f_17 d_17)
    (a_18 : findIn K (.ref cMoved) "names" = some (some (.ref f_18)))
    (i_18 : isFn K (.ref f_18) = true)
    (F_18 : Fun K "names" "Moved.names" st_18 f_18 d_18)
    (a_15 : findIn K (.ref cMoved) "as_numbers" = some (some (.ref f_15)))
    (i_15 : isFn K (.ref f_15) = true)
    (F_15 : Fun K "as_numbers" "Moved.as_numbers" st_15 f_15 d_15)
    (a_16 : findIn K (.ref cMoved) "fits" = some (some (.ref f_16)))
    (i_16 : isFn K (.ref f_16) = true)
    (F_16 : Fun K "fits" "Moved.fits" st_16 f_16 d_16)
    (a_14 : findIn K (.ref cMoved) "applied" = some (some (.ref f_14)))
    (i_14 : isFn K (.ref f_14) = true)
    (F_14 : Fun K "applied" "Moved.applied" st_14 f_14 d_14)
    (a_19 : findIn K (.ref cMoved) "turned" = some (some (.ref f_19)))
    (i_19 : isFn K (.ref f_19) = true)
    (F_19 : Fun K "turned" "Moved.turned" st_19 f_19 d_19)
    (a_65 : nsIn K mainGlobals "row_applied" = some (some (.ref f_65)))
    (F_65 : Fun K "row_applied" "row_applied" st_65 f_65 d_65)
    (a_67 : nsIn K mainGlobals "row_turned" = some (some (.ref f_67)))
    (F_67 : Fun K "row_turned" "row_turned" st_67 f_67 d_67)
    (a_66 : nsIn K mainGlobals "row_numbers" = some (some (.ref f_66)))
    (F_66 : Fun K "row_numbers" "row_numbers" st_66 f_66 d_66)
    (a_43 : nsIn K mainGlobals "commuted" = some (some (.ref f_43)))
    (F_43 : Fun K "commuted" "commuted" st_43 f_43 d_43)
    (a_68 : nsIn K mainGlobals "share_name" = some (some (.ref f_68)))
    (F_68 : Fun K "share_name" "share_name" st_68 f_68 d_68)
    (a_69 : nsIn K mainGlobals "share_token" = some (some (.ref f_69)))
    (F_69 : Fun K "share_token" "share_token" st_69 f_69 d_69)
    (a_47 : nsIn K mainGlobals "commuted_with_move" = some (some (.ref f_47)))
    (F_47 : Fun K "commuted_with_move" "commuted_with_move" st_47 f_47 d_47)
    (a_51 : nsIn K mainGlobals "is_inside" = some (some (.ref f_51)))
    (F_51 : Fun K "is_inside" "is_inside" st_51 f_51 d_51)
    (a_45 : nsIn K mainGlobals "commuted_hunks" = some (some (.ref f_45)))
    (F_45 : Fun K "commuted_hunks" "commuted_hunks" st_45 f_45 d_45)
    (a_50 : nsIn K mainGlobals "hunk_swapped" = some (some (.ref f_50)))
    (F_50 : Fun K "hunk_swapped" "hunk_swapped" st_50 f_50 d_50)
    (a_78 : nsIn K mainGlobals "why_not" = some (some (.ref f_78)))
    (F_78 : Fun K "why_not" "why_not" st_78 f_78 d_78)
    (a_52 : nsIn K mainGlobals "is_name" = some (some (.ref f_52)))
    (F_52 : Fun K "is_name" "is_name" st_52 f_52 d_52)
    (a_53 : nsIn K mainGlobals "is_token" = some (some (.ref f_53)))
    (F_53 : Fun K "is_token" "is_token" st_53 f_53 d_53)
    (a_48 : nsIn K mainGlobals "counted_tokens" = some (some (.ref f_48)))
    (F_48 : Fun K "counted_tokens" "counted_tokens" st_48 f_48 d_48)
    (a_61 : nsIn K mainGlobals "read_step" = some (some (.ref f_61)))
    (F_61 : Fun K "read_step" "read_step" st_61 f_61 d_61)
    (a_59 : nsIn K mainGlobals "read_hunk" = some (some (.ref f_59)))
    (F_59 : Fun K "read_hunk" "read_hunk" st_59 f_59 d_59)
    (a_62 : nsIn K mainGlobals "read_swap" = some (some (.ref f_62)))
    (F_62 : Fun K "read_swap" "read_swap" st_62 f_62 d_62)
    (a_60 : nsIn K mainGlobals "read_move" = some (some (.ref f_60)))
    (F_60 : Fun K "read_move" "read_move" st_60 f_60 d_60)
    (a_44 : nsIn K mainGlobals "commuted_at" = some (some (.ref f_44)))
    (F_44 : Fun K "commuted_at" "commuted_at" st_44 f_44 d_44)
    (a_39 : nsIn K mainGlobals "brought_ahead" = some (some (.ref f_39)))
    (F_39 : Fun K "brought_ahead" "brought_ahead" st_39 f_39 d_39)
    (a_40 : nsIn K mainGlobals "brought_behind" = some (some (.ref f_40)))
    (F_40 : Fun K "brought_behind" "brought_behind" st_40 f_40 d_40)
    (a_64 : nsIn K mainGlobals "rest_brought_ahead" = some (some (.ref f_64)))
    (F_64 : Fun K "rest_brought_ahead" "rest_brought_ahead" st_64 f_64 d_64)
    (a_46 : nsIn K mainGlobals "commuted_in_turn" = some (some (.ref f_46)))
    (F_46 : Fun K "commuted_in_turn" "commuted_in_turn" st_46 f_46 d_46)
    (a_74 : nsIn K mainGlobals "three_commuted" = some (some (.ref f_74)))
    (F_74 : Fun K "three_commuted" "three_commuted" st_74 f_74 d_74)
    (a_55 : nsIn K mainGlobals "needed_places" = some (some (.ref f_55)))
    (F_55 : Fun K "needed_places" "needed_places" st_55 f_55 d_55)
    (a_63 : nsIn K mainGlobals "read_tree" = some (some (.ref f_63)))
    (F_63 : Fun K "read_tree" "read_tree" st_63 f_63 d_63)
    (a_75 : nsIn K mainGlobals "tree_numbers" = some (some (.ref f_75)))
    (F_75 : Fun K "tree_numbers" "tree_numbers" st_75 f_75 d_75)
    (a_26 : findIn K (.ref cRowOnTree) "__init__" = some (some (.ref f_26)))
    (i_26 : isFn K (.ref f_26) = true)
    (F_26 : Fun K "__init__" "RowOnTree.__init__" st_26 f_26 d_26)
    (a_72 : nsIn K mainGlobals "tell_tree" = some (some (.ref f_72)))
    (F_72 : Fun K "tell_tree" "tell_tree" st_72 f_72 d_72)
    (a_71 : nsIn K mainGlobals "tell_step" = some (some (.ref f_71)))
    (F_71 : Fun K "tell_step" "tell_step" st_71 f_71 d_71)
    (a_70 : nsIn K mainGlobals "shown" = some (some (.ref f_70)))
    (F_70 : Fun K "shown" "shown" st_70 f_70 d_70)
    (a_57 : nsIn K mainGlobals "outcome" = some (some (.ref f_57)))
    (F_57 : Fun K "outcome" "outcome" st_57 f_57 d_57)
    (a_42 : nsIn K mainGlobals "commute" = some (some (.ref f_42)))
    (F_42 : Fun K "commute" "commute" st_42 f_42 d_42)
    (a_77 : nsIn K mainGlobals "why" = some (some (.ref f_77)))
    (F_77 : Fun K "why" "why" st_77 f_77 d_77)
    (a_49 : nsIn K mainGlobals "front" = some (some (.ref f_49)))
    (F_49 : Fun K "front" "front" st_49 f_49 d_49)
    (a_38 : nsIn K mainGlobals "back" = some (some (.ref f_38)))
    (F_38 : Fun K "back" "back" st_38 f_38 d_38)
    (a_56 : nsIn K mainGlobals "needs" = some (some (.ref f_56)))
    (F_56 : Fun K "needs" "needs" st_56 f_56 d_56)
    (a_54 : nsIn K mainGlobals "needed_by" = some (some (.ref f_54)))
    (F_54 : Fun K "needed_by" "needed_by" st_54 f_54 d_54)
    (a_79 : nsIn K mainGlobals "without" = some (some (.ref f_79)))
    (F_79 : Fun K "without" "without" st_79 f_79 d_79)
    (a_73 : nsIn K mainGlobals "three" = some (some (.ref f_73)))
    (F_73 : Fun K "three" "three" st_73 f_73 d_73)
    (a_58 : nsIn K mainGlobals "past" = some (some (.ref f_58)))
    (F_58 : Fun K "past" "past" st_58 f_58 d_58)
    (a_76 : nsIn K mainGlobals "turn" = some (some (.ref f_76)))
    (F_76 : Fun K "turn" "turn" st_76 f_76 d_76)
    (a_36 : nsIn K mainGlobals "answer_call" = some (some (.ref f_36)))
    (F_36 : Fun K "answer_call" "answer_call" st_36 f_36 d_36)
    (a_41 : nsIn K mainGlobals "call_size" = some (some (.ref f_41)))
    (F_41 : Fun K "call_size" "call_size" st_41 f_41 d_41)
    (a_37 : nsIn K mainGlobals "answers" = some (some (.ref f_37)))
    (F_37 : Fun K "answers" "answers" st_37 f_37 d_37)
    (g_HUNK : nsIn K mainGlobals "HUNK" = some (some (.int (0) t_HUNK)))
    (g_SWAP : nsIn K mainGlobals "SWAP" = some (some (.int (1) t_SWAP)))
    (g_ADDED : nsIn K mainGlobals "ADDED" = some (some (.int (2) t_ADDED)))
    (g_REMOVED : nsIn K mainGlobals "REMOVED" = some (some (.int (3) t_REMOVED)))
    (g_MOVED : nsIn K mainGlobals "MOVED" = some (some (.int (4) t_MOVED)))
    (g_THEY_COMMUTE : nsIn K mainGlobals "THEY_COMMUTE" = some (some (.int (0) t_THEY_COMMUTE)))
    (g_HUNKS_TOUCH : nsIn K mainGlobals "HUNKS_TOUCH" = some (some (.int (1) t_HUNKS_TOUCH)))
    (g_SWAPS_TOUCH : nsIn K mainGlobals "SWAPS_TOUCH" = some (some (.int (2) t_SWAPS_TOUCH)))
    (g_ELSE_NOT : nsIn K mainGlobals "ELSE_NOT" = some (some (.int (3) t_ELSE_NOT)))
    (g_LAST_NAME : nsIn K mainGlobals "LAST_NAME" = some (some (.int (9) t_LAST_NAME)))
    (g_LAST_TOKEN : nsIn K mainGlobals "LAST_TOKEN" = some (some (.int (99) t_LAST_TOKEN)))
    (g_MOST_CHANGED : nsIn K mainGlobals "MOST_CHANGED" = some (some (.int (8) t_MOST_CHANGED)))
    (g_LAST_PLACE : nsIn K mainGlobals "LAST_PLACE" = some (some (.int (1000) t_LAST_PLACE)))
    (g_MOST_FILES : nsIn K mainGlobals "MOST_FILES" = some (some (.int (6) t_MOST_FILES)))
    (g_MOST_TOKENS : nsIn K mainGlobals "MOST_TOKENS" = some (some (.int (12) t_MOST_TOKENS)))
    (g_NOT_WHOLE : nsIn K mainGlobals "NOT_WHOLE" = some (some (.int (-1) t_NOT_WHOLE)))
    (g_NO_SUCH_STEP : nsIn K mainGlobals "NO_SUCH_STEP" = some (some (.int (-2) t_NO_SUCH_STEP)))
    (g_DOES_NOT_FIT : nsIn K mainGlobals "DOES_NOT_FIT" = some (some (.int (-4) t_DOES_NOT_FIT)))
    (g_ROW_IS_FULL : nsIn K mainGlobals "ROW_IS_FULL" = some (some (.int (-6) t_ROW_IS_FULL)))
    (g_DO_NOT_COMMUTE : nsIn K mainGlobals "DO_NOT_COMMUTE" = some (some (.int (-7) t_DO_NOT_COMMUTE)))
    (g_NO_TREE : nsIn K mainGlobals "NO_TREE" = some (some (.int (-8) t_NO_TREE)))
    (g_MOST_STEPS : nsIn K mainGlobals "MOST_STEPS" = some (some (.int (16) t_MOST_STEPS)))
    (g_TREE_CALL : nsIn K mainGlobals "TREE_CALL" = some (some (.int (0) t_TREE_CALL)))
    (ga_LIST_CALLS : nsIn K mainGlobals "LIST_CALLS" = some (some (.ref d_LIST_CALLS)))
    (gl_LIST_CALLS : K.lookup d_LIST_CALLS = some ⟨.type "dict", none, .dict #[⟨h_LIST_CALLS_0, .int (0) tk_LIST_CALLS_0, .ref f_72⟩, ⟨h_LIST_CALLS_1, .int (1) tk_LIST_CALLS_1, .ref f_71⟩] ep_LIST_CALLS, #[]⟩)
    (hh_LIST_CALLS_0 : h_LIST_CALLS_0 = hashInt (0))
    (hh_LIST_CALLS_1 : h_LIST_CALLS_1 = hashInt (1))
    (gs_LIST_CALLS : (d_LIST_CALLS == sysModules) = false)
    (ga_PLAIN_CALLS : nsIn K mainGlobals "PLAIN_CALLS" = some (some (.ref d_PLAIN_CALLS)))
    (gl_PLAIN_CALLS : K.lookup d_PLAIN_CALLS = some ⟨.type "dict", none, .dict #[⟨h_PLAIN_CALLS_0, .int (2) tk_PLAIN_CALLS_0, .ref f_70⟩, ⟨h_PLAIN_CALLS_1, .int (3) tk_PLAIN_CALLS_1, .ref f_57⟩, ⟨h_PLAIN_CALLS_2, .int (13) tk_PLAIN_CALLS_2, .ref f_76⟩] ep_PLAIN_CALLS, #[]⟩)
    (hh_PLAIN_CALLS_0 : h_PLAIN_CALLS_0 = hashInt (2))
    (hh_PLAIN_CALLS_1 : h_PLAIN_CALLS_1 = hashInt (3))
    (hh_PLAIN_CALLS_2 : h_PLAIN_CALLS_2 = hashInt (13))
    (gs_PLAIN_CALLS : (d_PLAIN_CALLS == sysModules) = false)
    (ga_PLACE_CALLS : nsIn K mainGlobals "PLACE_CALLS" = some (some (.ref d_PLACE_CALLS)))
    (gl_PLACE_CALLS : K.lookup d_PLACE_CALLS = some ⟨.type "dict", none, .dict #[⟨h_PLACE_CALLS_0, .int (4) tk_PLACE_CALLS_0, .ref f_42⟩, ⟨h_PLACE_CALLS_1, .int (5) tk_PLACE_CALLS_1, .ref f_77⟩, ⟨h_PLACE_CALLS_2, .int (6) tk_PLACE_CALLS_2, .ref f_49⟩, ⟨h_PLACE_CALLS_3, .int (7) tk_PLACE_CALLS_3, .ref f_38⟩, ⟨h_PLACE_CALLS_4, .int (8) tk_PLACE_CALLS_4, .ref f_56⟩, ⟨h_PLACE_CALLS_5, .int (9) tk_PLACE_CALLS_5, .ref f_54⟩, ⟨h_PLACE_CALLS_6, .int (10) tk_PLACE_CALLS_6, .ref f_79⟩, ⟨h_PLACE_CALLS_7, .int (11) tk_PLACE_CALLS_7, .ref f_73⟩, ⟨h_PLACE_CALLS_8, .int (12) tk_PLACE_CALLS_8, .ref f_58⟩] ep_PLACE_CALLS, #[]⟩)
    (hh_PLACE_CALLS_0 : h_PLACE_CALLS_0 = hashInt (4))
    (hh_PLACE_CALLS_1 : h_PLACE_CALLS_1 = hashInt (5))
    (hh_PLACE_CALLS_2 : h_PLACE_CALLS_2 = hashInt (6))
    (hh_PLACE_CALLS_3 : h_PLACE_CALLS_3 = hashInt (7))
    (hh_PLACE_CALLS_4 : h_PLACE_CALLS_4 = hashInt (8))
    (hh_PLACE_CALLS_5 : h_PLACE_CALLS_5 = hashInt (9))
    (hh_PLACE_CALLS_6 : h_PLACE_CALLS_6 = hashInt (10))
    (hh_PLACE_CALLS_7 : h_PLACE_CALLS_7 = hashInt (11))
    (hh_PLACE_CALLS_8 : h_PLACE_CALLS_8 = hashInt (12))
    (gs_PLACE_CALLS : (d_PLACE_CALLS == sysModules) = false)
    (ga_STEPS_BEHIND : nsIn K mainGlobals "STEPS_BEHIND" = some (some (.ref d_STEPS_BEHIND)))
    (gl_STEPS_BEHIND : K.lookup d_STEPS_BEHIND = some ⟨.type "dict", none, .dict #[⟨h_STEPS_BEHIND_0, .int (4) tk_STEPS_BEHIND_0, .int (1) tv_STEPS_BEHIND_0⟩, ⟨h_STEPS_BEHIND_1, .int (5) tk_STEPS_BEHIND_1, .int (1) tv_STEPS_BEHIND_1⟩, ⟨h_STEPS_BEHIND_2, .int (11) tk_STEPS_BEHIND_2, .int (2) tv_STEPS_BEHIND_2⟩] ep_STEPS_BEHIND, #[]⟩)
    (hh_STEPS_BEHIND_0 : h_STEPS_BEHIND_0 = hashInt (4))
    (hh_STEPS_BEHIND_1 : h_STEPS_BEHIND_1 = hashInt (5))
    (hh_STEPS_BEHIND_2 : h_STEPS_BEHIND_2 = hashInt (11))
    (gs_STEPS_BEHIND : (d_STEPS_BEHIND == sysModules) = false)
    (ga_TWO_WAYS : nsIn K mainGlobals "TWO_WAYS" = some (some (.ref d_TWO_WAYS)))
    (gl_TWO_WAYS : K.lookup d_TWO_WAYS = some ⟨.type "tuple", odt_TWO_WAYS, .seq #[.ref d_TWO_WAYS_0, .ref d_TWO_WAYS_1] ep_TWO_WAYS, slt_TWO_WAYS⟩)
    (gl_TWO_WAYS_0 : K.lookup d_TWO_WAYS_0 = some ⟨.type "tuple", odt_TWO_WAYS_0, .seq #[.int (0) tk_TWO_WAYS_0_0, .int (1) tk_TWO_WAYS_0_1, .int (0) tk_TWO_WAYS_0_2] ep_TWO_WAYS_0, slt_TWO_WAYS_0⟩)
    (gl_TWO_WAYS_1 : K.lookup d_TWO_WAYS_1 = some ⟨.type "tuple", odt_TWO_WAYS_1, .seq #[.int (1) tk_TWO_WAYS_1_0, .int (0) tk_TWO_WAYS_1_1, .int (1) tk_TWO_WAYS_1_2] ep_TWO_WAYS_1, slt_TWO_WAYS_1⟩)
    (n_any : nsIn K mainGlobals "any" = some none)
    (n_range : nsIn K mainGlobals "range" = some none)
    (n_sorted : nsIn K mainGlobals "sorted" = some none)
    (n_dict : nsIn K mainGlobals "dict" = some none)
    (n_len : nsIn K mainGlobals "len" = some none)
    (n_isinstance : nsIn K mainGlobals "isinstance" = some none)
    (n_all : nsIn K mainGlobals "all" = some none)
    (n_reversed : nsIn K mainGlobals "reversed" = some none)
    (n_list : nsIn K mainGlobals "list" = some none)
    : ∃ A : Adr, Txt K mg A := by
  refine ⟨⟨cHunk, cSwap, cAdded, cRemoved, cMoved, cRowOnTree, f_9, d_9, f_11, d_11, f_7, d_7, f_8, d_8, f_6, d_6, f_13, d_13, f_10, d_10, f_12, d_12, f_30, d_30, f_33, d_33, f_28, d_28, f_29, d_29, f_27, d_27, f_35, d_35, f_31, d_31, f_34, d_34, f_32, d_32, f_3, d_3, f_4, d_4, f_1, d_1, f_2, d_2, f_0, d_0, f_5, d_5, f_23, d_23, f_24, d_24, f_21, d_21, f_22, d_22, f_20, d_20, f_25, d_25, f_17, d_17, f_18, d_18, f_15, d_15, f_16, d_16, f_14, d_14, f_19, d_19, f_65, d_65, f_67, d_67, f_66, d_66, f_43, d_43, f_68, d_68, f_69, d_69, f_47, d_47, f_51, d_51, f_45, d_45, f_50, d_50, f_78, d_78, f_52, d_52, f_53, d_53, f_48, d_48, f_61, d_61, f_59, d_59, f_62, d_62, f_60, d_60, f_44, d_44, f_39, d_39, f_40, d_40, f_64, d_64, f_46, d_46, f_74, d_74, f_55, d_55, f_63, d_63, f_75, d_75, f_26, d_26, f_72, d_72, f_71, d_71, f_70, d_70, f_57, d_57, f_42, d_42, f_77, d_77, f_49, d_49, f_38, d_38, f_56, d_56, f_54, d_54, f_79, d_79, f_73, d_73, f_58, d_58, f_76, d_76, f_36, d_36, f_41, d_41, f_37, d_37, d_LIST_CALLS, d_PLAIN_CALLS, d_PLACE_CALLS, d_STEPS_BEHIND, d_TWO_WAYS, d_TWO_WAYS_0, d_TWO_WAYS_1⟩, ?_⟩
  constructor
  · exact ⟨pg_Hunk, hd_Hunk, po_Hunk, sa_Hunk⟩
  · exact ⟨mk_Hunk, a_9, i_9, kc_Hunk⟩
  · exact PySem.W.mg_of X G aC_Hunk
  · exact na_Hunk_name
  · exact na_Hunk_place
  · exact na_Hunk_old
  · exact na_Hunk_new
  · exact ⟨pg_Swap, hd_Swap, po_Swap, sa_Swap⟩
  · exact ⟨mk_Swap, a_30, i_30, kc_Swap⟩
  · exact PySem.W.mg_of X G aC_Swap
  · exact na_Swap_name
  · exact na_Swap_one
  · exact na_Swap_other
  · exact ⟨pg_Added, hd_Added, po_Added, sa_Added⟩
  · exact ⟨mk_Added, a_3, i_3, kc_Added⟩
  · exact PySem.W.mg_of X G aC_Added
  · exact na_Added_name
  · exact ⟨pg_Removed, hd_Removed, po_Removed, sa_Removed⟩
  · exact ⟨mk_Removed, a_23, i_23, kc_Removed⟩
  · exact PySem.W.mg_of X G aC_Removed
  · exact na_Removed_name
  · exact ⟨pg_Moved, hd_Moved, po_Moved, sa_Moved⟩
  · exact ⟨mk_Moved, a_17, i_17, kc_Moved⟩
  · exact PySem.W.mg_of X G aC_Moved
  · exact na_Moved_old_name
  · exact na_Moved_new_name
  · exact ⟨pg_RowOnTree, hd_RowOnTree, po_RowOnTree, sa_RowOnTree⟩
  · exact ⟨mk_RowOnTree, a_26, i_26, kc_RowOnTree⟩
  · exact PySem.W.mg_of X G aC_RowOnTree
  · exact na_RowOnTree_ground
  · exact na_RowOnTree_row
  · exact ⟨ic_Hunk, hn, htk, hm_Hunk⟩
  · exact kit_same
  · exact kit_other ne_Hunk_Swap ci_Swap ty_Swap su_Hunk_Swap
  · exact kit_other ne_Hunk_Moved ci_Moved ty_Moved su_Hunk_Moved
  · exact ⟨ic_Swap, hn, htk, hm_Swap⟩
  · exact kit_other ne_Swap_Hunk ci_Hunk ty_Hunk su_Swap_Hunk
  · exact kit_same
  · exact kit_other ne_Swap_Moved ci_Moved ty_Moved su_Swap_Moved
  · exact ⟨ic_Added, hn, htk, hm_Added⟩
  · exact kit_other ne_Added_Hunk ci_Hunk ty_Hunk su_Added_Hunk
  · exact kit_other ne_Added_Swap ci_Swap ty_Swap su_Added_Swap
  · exact kit_other ne_Added_Moved ci_Moved ty_Moved su_Added_Moved
  · exact ⟨ic_Removed, hn, htk, hm_Removed⟩
  · exact kit_other ne_Removed_Hunk ci_Hunk ty_Hunk su_Removed_Hunk
  · exact kit_other ne_Removed_Swap ci_Swap ty_Swap su_Removed_Swap
  · exact kit_other ne_Removed_Moved ci_Moved ty_Moved su_Removed_Moved
  · exact ⟨ic_Moved, hn, htk, hm_Moved⟩
  · exact kit_other ne_Moved_Hunk ci_Hunk ty_Hunk su_Moved_Hunk
  · exact kit_other ne_Moved_Swap ci_Swap ty_Swap su_Moved_Swap
  · exact kit_same
  · exact F_9
  · exact F_9.binds fun _ _ _ _ _ _ us hl => match us, hl with | [_, _, _, _, _], _ => rfl
  · exact F_11
  · exact F_11.binds fun _ _ _ _ _ _ us hl => match us, hl with | [_], _ => rfl
  · exact ⟨a_11, i_11, F_11.kp⟩
  · exact F_7
  · exact F_7.binds fun _ _ _ _ _ _ us hl => match us, hl with | [_], _ => rfl
  · exact ⟨a_7, i_7, F_7.kp⟩
  · exact F_8
  · exact F_8.binds fun _ _ _ _ _ _ us hl => match us, hl with | [_, _], _ => rfl
  · exact ⟨a_8, i_8, F_8.kp⟩
  · exact F_6
  · exact F_6.binds fun _ _ _ _ _ _ us hl => match us, hl with | [_, _], _ => rfl
  · exact ⟨a_6, i_6, F_6.kp⟩
  · exact F_13
  · exact F_13.binds fun _ _ _ _ _ _ us hl => match us, hl with | [_], _ => rfl
  · exact ⟨a_13, i_13, F_13.kp⟩
  · exact F_10
  · exact F_10.binds fun _ _ _ _ _ _ us hl => match us, hl with | [_, _], _ => rfl
  · exact ⟨a_10, i_10, F_10.kp⟩
  · exact F_12
  · exact F_12.binds fun _ _ _ _ _ _ us hl => match us, hl with | [_, _, _], _ => rfl
  · exact ⟨a_12, i_12, F_12.kp⟩
  · exact F_30
  · exact F_30.binds fun _ _ _ _ _ _ us hl => match us, hl with | [_, _, _, _], _ => rfl
  · exact F_33
  · exact F_33.binds fun _ _ _ _ _ _ us hl => match us, hl with | [_], _ => rfl
  · exact ⟨a_33, i_33, F_33.kp⟩
  · exact F_28
  · exact F_28.binds fun _ _ _ _ _ _ us hl => match us, hl with | [_], _ => rfl
  · exact ⟨a_28, i_28, F_28.kp⟩
  · exact F_29
  · exact F_29.binds fun _ _ _ _ _ _ us hl => match us, hl with | [_, _], _ => rfl
  · exact ⟨a_29, i_29, F_29.kp⟩
  · exact F_27
  · exact F_27.binds fun _ _ _ _ _ _ us hl => match us, hl with | [_, _], _ => rfl
  · exact ⟨a_27, i_27, F_27.kp⟩
  · exact F_35
  · exact F_35.binds fun _ _ _ _ _ _ us hl => match us, hl with | [_], _ => rfl
  · exact ⟨a_35, i_35, F_35.kp⟩
  · exact F_31
  · exact F_31.binds fun _ _ _ _ _ _ us hl => match us, hl with | [_, _], _ => rfl
  · exact ⟨a_31, i_31, F_31.kp⟩
  · exact F_34
  · exact F_34.binds fun _ _ _ _ _ _ us hl => match us, hl with | [_, _], _ => rfl
  · exact ⟨a_34, i_34, F_34.kp⟩
  · exact F_32
  · exact F_32.binds fun _ _ _ _ _ _ us hl => match us, hl with | [_, _], _ => rfl
  · exact ⟨a_32, i_32, F_32.kp⟩
  · exact F_3
  · exact F_3.binds fun _ _ _ _ _ _ us hl => match us, hl with | [_, _], _ => rfl
  · exact F_4
  · exact F_4.binds fun _ _ _ _ _ _ us hl => match us, hl with | [_], _ => rfl
  · exact ⟨a_4, i_4, F_4.kp⟩
  · exact F_1
  · exact F_1.binds fun _ _ _ _ _ _ us hl => match us, hl with | [_], _ => rfl
  · exact ⟨a_1, i_1, F_1.kp⟩
  · exact F_2
  · exact F_2.binds fun _ _ _ _ _ _ us hl => match us, hl with | [_, _], _ => rfl
  · exact ⟨a_2, i_2, F_2.kp⟩
  · exact F_0
  · exact F_0.binds fun _ _ _ _ _ _ us hl => match us, hl with | [_, _], _ => rfl
  · exact ⟨a_0, i_0, F_0.kp⟩
  · exact F_5
  · exact F_5.binds fun _ _ _ _ _ _ us hl => match us, hl with | [_], _ => rfl
  · exact ⟨a_5, i_5, F_5.kp⟩
  · exact F_23
  · exact F_23.binds fun _ _ _ _ _ _ us hl => match us, hl with | [_, _], _ => rfl
  · exact F_24
  · exact F_24.binds fun _ _ _ _ _ _ us hl => match us, hl with | [_], _ => rfl
  · exact ⟨a_24, i_24, F_24.kp⟩
  · exact F_21
  · exact F_21.binds fun _ _ _ _ _ _ us hl => match us, hl with | [_], _ => rfl
  · exact ⟨a_21, i_21, F_21.kp⟩
  · exact F_22
  · exact F_22.binds fun _ _ _ _ _ _ us hl => match us, hl with | [_, _], _ => rfl
  · exact ⟨a_22, i_22, F_22.kp⟩
  · exact F_20
  · exact F_20.binds fun _ _ _ _ _ _ us hl => match us, hl with | [_, _], _ => rfl
  · exact ⟨a_20, i_20, F_20.kp⟩
  · exact F_25
  · exact F_25.binds fun _ _ _ _ _ _ us hl => match us, hl with | [_], _ => rfl
  · exact ⟨a_25, i_25, F_25.kp⟩
  · exact F_17
  · exact F_17.binds fun _ _ _ _ _ _ us hl => match us, hl with | [_, _, _], _ => rfl
  · exact F_18
  · exact F_18.binds fun _ _ _ _ _ _ us hl => match us, hl with | [_], _ => rfl
  · exact ⟨a_18, i_18, F_18.kp⟩
  · exact F_15
  · exact F_15.binds fun _ _ _ _ _ _ us hl => match us, hl with | [_], _ => rfl
  · exact ⟨a_15, i_15, F_15.kp⟩
  · exact F_16
  · exact F_16.binds fun _ _ _ _ _ _ us hl => match us, hl with | [_, _], _ => rfl
  · exact ⟨a_16, i_16, F_16.kp⟩
  · exact F_14
  · exact F_14.binds fun _ _ _ _ _ _ us hl => match us, hl with | [_, _], _ => rfl
  · exact ⟨a_14, i_14, F_14.kp⟩
  · exact F_19
  · exact F_19.binds fun _ _ _ _ _ _ us hl => match us, hl with | [_], _ => rfl
  · exact ⟨a_19, i_19, F_19.kp⟩
  · exact F_65
  · exact F_65.binds fun _ _ _ _ _ _ us hl => match us, hl with | [_, _], _ => rfl
  · exact PySem.W.mg_of X G a_65
  · exact F_67
  · exact F_67.binds fun _ _ _ _ _ _ us hl => match us, hl with | [_], _ => rfl
  · exact PySem.W.mg_of X G a_67
  · exact F_66
  · exact F_66.binds fun _ _ _ _ _ _ us hl => match us, hl with | [_], _ => rfl
  · exact PySem.W.mg_of X G a_66
  · exact F_43
  · exact F_43.binds fun _ _ _ _ _ _ us hl => match us, hl with | [_, _], _ => rfl
  · exact PySem.W.mg_of X G a_43
  · exact F_68
  · exact F_68.binds fun _ _ _ _ _ _ us hl => match us, hl with | [_, _], _ => rfl
  · exact PySem.W.mg_of X G a_68
  · exact F_69
  · exact F_69.binds fun _ _ _ _ _ _ us hl => match us, hl with | [_, _], _ => rfl
  · exact PySem.W.mg_of X G a_69
  · exact F_47
  · exact F_47.binds fun _ _ _ _ _ _ us hl => match us, hl with | [_, _], _ => rfl
  · exact PySem.W.mg_of X G a_47
  · exact F_51
  · exact F_51.binds fun _ _ _ _ _ _ us hl => match us, hl with | [_, _], _ => rfl
  · exact PySem.W.mg_of X G a_51
  · exact F_45
  · exact F_45.binds fun _ _ _ _ _ _ us hl => match us, hl with | [_, _], _ => rfl
  · exact PySem.W.mg_of X G a_45
  · exact F_50
  · exact F_50.binds fun _ _ _ _ _ _ us hl => match us, hl with | [_, _], _ => rfl
  · exact PySem.W.mg_of X G a_50
  · exact F_78
  · exact F_78.binds fun _ _ _ _ _ _ us hl => match us, hl with | [_, _], _ => rfl
  · exact PySem.W.mg_of X G a_78
  · exact F_52
  · exact F_52.binds fun _ _ _ _ _ _ us hl => match us, hl with | [_], _ => rfl
  · exact PySem.W.mg_of X G a_52
  · exact F_53
  · exact F_53.binds fun _ _ _ _ _ _ us hl => match us, hl with | [_], _ => rfl
  · exact PySem.W.mg_of X G a_53
  · exact F_48
  · exact F_48.binds fun _ _ _ _ _ _ us hl => match us, hl with | [_, _, _], _ => rfl
  · exact PySem.W.mg_of X G a_48
  · exact F_61
  · exact F_61.binds fun _ _ _ _ _ _ us hl => match us, hl with | [_], _ => rfl
  · exact PySem.W.mg_of X G a_61
  · exact F_59
  · exact F_59.binds fun _ _ _ _ _ _ us hl => match us, hl with | [_], _ => rfl
  · exact PySem.W.mg_of X G a_59
  · exact F_62
  · exact F_62.binds fun _ _ _ _ _ _ us hl => match us, hl with | [_], _ => rfl
  · exact PySem.W.mg_of X G a_62
  · exact F_60
  · exact F_60.binds fun _ _ _ _ _ _ us hl => match us, hl with | [_], _ => rfl
  · exact PySem.W.mg_of X G a_60
  · exact F_44
  · exact F_44.binds fun _ _ _ _ _ _ us hl => match us, hl with | [_, _], _ => rfl
  · exact PySem.W.mg_of X G a_44
  · exact F_39
  · exact F_39.binds fun _ _ _ _ _ _ us hl => match us, hl with | [_, _, _], _ => rfl
  · exact PySem.W.mg_of X G a_39
  · exact F_40
  · exact F_40.binds fun _ _ _ _ _ _ us hl => match us, hl with | [_, _], _ => rfl
  · exact PySem.W.mg_of X G a_40
  · exact F_64
  · exact F_64.binds fun _ _ _ _ _ _ us hl => match us, hl with | [_, _], _ => rfl
  · exact PySem.W.mg_of X G a_64
  · exact F_46
  · exact F_46.binds fun _ _ _ _ _ _ us hl => match us, hl with | [_, _], _ => rfl
  · exact PySem.W.mg_of X G a_46
  · exact F_74
  · exact F_74.binds fun _ _ _ _ _ _ us hl => match us, hl with | [_], _ => rfl
  · exact PySem.W.mg_of X G a_74
  · exact F_55
  · exact F_55.binds fun _ _ _ _ _ _ us hl => match us, hl with | [_, _], _ => rfl
  · exact PySem.W.mg_of X G a_55
  · exact F_63
  · exact F_63.binds fun _ _ _ _ _ _ us hl => match us, hl with | [_], _ => rfl
  · exact PySem.W.mg_of X G a_63
  · exact F_75
  · exact F_75.binds fun _ _ _ _ _ _ us hl => match us, hl with | [_], _ => rfl
  · exact PySem.W.mg_of X G a_75
  · exact F_26
  · exact F_26.binds fun _ _ _ _ _ _ us hl => match us, hl with | [_], _ => rfl
  · exact F_72
  · exact F_72.binds fun _ _ _ _ _ _ us hl => match us, hl with | [_, _], _ => rfl
  · exact PySem.W.mg_of X G a_72
  · exact F_71
  · exact F_71.binds fun _ _ _ _ _ _ us hl => match us, hl with | [_, _], _ => rfl
  · exact PySem.W.mg_of X G a_71
  · exact F_70
  · exact F_70.binds fun _ _ _ _ _ _ us hl => match us, hl with | [_], _ => rfl
  · exact PySem.W.mg_of X G a_70
  · exact F_57
  · exact F_57.binds fun _ _ _ _ _ _ us hl => match us, hl with | [_], _ => rfl
  · exact PySem.W.mg_of X G a_57
  · exact F_42
  · exact F_42.binds fun _ _ _ _ _ _ us hl => match us, hl with | [_, _], _ => rfl
  · exact PySem.W.mg_of X G a_42
  · exact F_77
  · exact F_77.binds fun _ _ _ _ _ _ us hl => match us, hl with | [_, _], _ => rfl
  · exact PySem.W.mg_of X G a_77
  · exact F_49
  · exact F_49.binds fun _ _ _ _ _ _ us hl => match us, hl with | [_, _], _ => rfl
  · exact PySem.W.mg_of X G a_49
  · exact F_38
  · exact F_38.binds fun _ _ _ _ _ _ us hl => match us, hl with | [_, _], _ => rfl
  · exact PySem.W.mg_of X G a_38
  · exact F_56
  · exact F_56.binds fun _ _ _ _ _ _ us hl => match us, hl with | [_, _], _ => rfl
  · exact PySem.W.mg_of X G a_56
  · exact F_54
  · exact F_54.binds fun _ _ _ _ _ _ us hl => match us, hl with | [_, _], _ => rfl
  · exact PySem.W.mg_of X G a_54
  · exact F_79
  · exact F_79.binds fun _ _ _ _ _ _ us hl => match us, hl with | [_, _], _ => rfl
  · exact PySem.W.mg_of X G a_79
  · exact F_73
  · exact F_73.binds fun _ _ _ _ _ _ us hl => match us, hl with | [_, _], _ => rfl
  · exact PySem.W.mg_of X G a_73
  · exact F_58
  · exact F_58.binds fun _ _ _ _ _ _ us hl => match us, hl with | [_, _], _ => rfl
  · exact PySem.W.mg_of X G a_58
  · exact F_76
  · exact F_76.binds fun _ _ _ _ _ _ us hl => match us, hl with | [_], _ => rfl
  · exact PySem.W.mg_of X G a_76
  · exact F_36
  · exact F_36.binds fun _ _ _ _ _ _ us hl => match us, hl with | [_, _, _], _ => rfl
  · exact PySem.W.mg_of X G a_36
  · exact F_41
  · exact F_41.binds fun _ _ _ _ _ _ us hl => match us, hl with | [_, _], _ => rfl
  · exact PySem.W.mg_of X G a_41
  · exact F_37
  · exact F_37.binds fun _ _ _ _ _ _ us hl => match us, hl with | [_], _ => rfl
  · exact fun s us hu => by obtain ⟨_, _, _, _, _, _, _, _, _, rfl, _, _⟩ := F_37.ex; exact match us, hu with | [_], _ => .of_eq rfl
  · exact PySem.W.mg_of X G a_37
  · exact ⟨_, PySem.W.mg_of X G g_HUNK⟩
  · exact ⟨_, PySem.W.mg_of X G g_SWAP⟩
  · exact ⟨_, PySem.W.mg_of X G g_ADDED⟩
  · exact ⟨_, PySem.W.mg_of X G g_REMOVED⟩
  · exact ⟨_, PySem.W.mg_of X G g_MOVED⟩
  · exact ⟨_, PySem.W.mg_of X G g_THEY_COMMUTE⟩
  · exact ⟨_, PySem.W.mg_of X G g_HUNKS_TOUCH⟩
  · exact ⟨_, PySem.W.mg_of X G g_SWAPS_TOUCH⟩
  · exact ⟨_, PySem.W.mg_of X G g_ELSE_NOT⟩
  · exact ⟨_, PySem.W.mg_of X G g_LAST_NAME⟩
  · exact ⟨_, PySem.W.mg_of X G g_LAST_TOKEN⟩
  · exact ⟨_, PySem.W.mg_of X G g_MOST_CHANGED⟩
  · exact ⟨_, PySem.W.mg_of X G g_LAST_PLACE⟩
  · exact ⟨_, PySem.W.mg_of X G g_MOST_FILES⟩
  · exact ⟨_, PySem.W.mg_of X G g_MOST_TOKENS⟩
  · exact ⟨_, PySem.W.mg_of X G g_NOT_WHOLE⟩
  · exact ⟨_, PySem.W.mg_of X G g_NO_SUCH_STEP⟩
  · exact ⟨_, PySem.W.mg_of X G g_DOES_NOT_FIT⟩
  · exact ⟨_, PySem.W.mg_of X G g_ROW_IS_FULL⟩
  · exact ⟨_, PySem.W.mg_of X G g_DO_NOT_COMMUTE⟩
  · exact ⟨_, PySem.W.mg_of X G g_NO_TREE⟩
  · exact ⟨_, PySem.W.mg_of X G g_MOST_STEPS⟩
  · exact ⟨_, PySem.W.mg_of X G g_TREE_CALL⟩
  · exact PySem.W.mg_of X G ga_LIST_CALLS
  · exact ⟨⟨_, _, _, gl_LIST_CALLS, ⟨rfl, rfl, rfl⟩, rfl, (.cons ⟨⟨_, rfl⟩, hh_LIST_CALLS_0, rfl⟩ (.cons ⟨⟨_, rfl⟩, hh_LIST_CALLS_1, rfl⟩ .nil))⟩, (show ([0, 1] : List Int).Nodup from by decide), gs_LIST_CALLS⟩
  · exact PySem.W.mg_of X G ga_PLAIN_CALLS
  · exact ⟨⟨_, _, _, gl_PLAIN_CALLS, ⟨rfl, rfl, rfl⟩, rfl, (.cons ⟨⟨_, rfl⟩, hh_PLAIN_CALLS_0, rfl⟩ (.cons ⟨⟨_, rfl⟩, hh_PLAIN_CALLS_1, rfl⟩ (.cons ⟨⟨_, rfl⟩, hh_PLAIN_CALLS_2, rfl⟩ .nil)))⟩, (show ([2, 3, 13] : List Int).Nodup from by decide), gs_PLAIN_CALLS⟩
  · exact PySem.W.mg_of X G ga_PLACE_CALLS
  · exact ⟨⟨_, _, _, gl_PLACE_CALLS, ⟨rfl, rfl, rfl⟩, rfl, (.cons ⟨⟨_, rfl⟩, hh_PLACE_CALLS_0, rfl⟩ (.cons ⟨⟨_, rfl⟩, hh_PLACE_CALLS_1, rfl⟩ (.cons ⟨⟨_, rfl⟩, hh_PLACE_CALLS_2, rfl⟩ (.cons ⟨⟨_, rfl⟩, hh_PLACE_CALLS_3, rfl⟩ (.cons ⟨⟨_, rfl⟩, hh_PLACE_CALLS_4, rfl⟩ (.cons ⟨⟨_, rfl⟩, hh_PLACE_CALLS_5, rfl⟩ (.cons ⟨⟨_, rfl⟩, hh_PLACE_CALLS_6, rfl⟩ (.cons ⟨⟨_, rfl⟩, hh_PLACE_CALLS_7, rfl⟩ (.cons ⟨⟨_, rfl⟩, hh_PLACE_CALLS_8, rfl⟩ .nil)))))))))⟩, (show ([4, 5, 6, 7, 8, 9, 10, 11, 12] : List Int).Nodup from by decide), gs_PLACE_CALLS⟩
  · exact PySem.W.mg_of X G ga_STEPS_BEHIND
  · exact ⟨⟨_, _, _, gl_STEPS_BEHIND, ⟨rfl, rfl, rfl⟩, rfl, (.cons ⟨⟨_, rfl⟩, hh_STEPS_BEHIND_0, ⟨_, rfl⟩⟩ (.cons ⟨⟨_, rfl⟩, hh_STEPS_BEHIND_1, ⟨_, rfl⟩⟩ (.cons ⟨⟨_, rfl⟩, hh_STEPS_BEHIND_2, ⟨_, rfl⟩⟩ .nil)))⟩, (show ([4, 5, 11] : List Int).Nodup from by decide), gs_STEPS_BEHIND⟩
  · exact PySem.W.mg_of X G ga_TWO_WAYS
  · exact ⟨_, _, _, gl_TWO_WAYS, rfl, rfl, (by show 2 ≤ sizeLine; decide), (.cons rfl (.cons rfl .nil))⟩
  · exact ⟨_, _, _, gl_TWO_WAYS_0, rfl, rfl, (by show 3 ≤ sizeLine; decide), (.cons ⟨_, rfl⟩ (.cons ⟨_, rfl⟩ (.cons ⟨_, rfl⟩ .nil)))⟩
  · exact ⟨_, _, _, gl_TWO_WAYS_1, rfl, rfl, (by show 3 ≤ sizeLine; decide), (.cons ⟨_, rfl⟩ (.cons ⟨_, rfl⟩ (.cons ⟨_, rfl⟩ .nil)))⟩
  · exact PySem.W.mg_none_of X G n_any
  · exact PySem.W.mg_none_of X G n_range
  · exact PySem.W.mg_none_of X G n_sorted
  · exact PySem.W.mg_none_of X G n_dict
  · exact PySem.W.mg_none_of X G n_len
  · exact PySem.W.mg_none_of X G n_isinstance
  · exact PySem.W.mg_none_of X G n_all
  · exact PySem.W.mg_none_of X G n_reversed
  · exact PySem.W.mg_none_of X G n_list
end P58
end
section
set_option Elab.async false
set_option linter.all false
set_option maxRecDepth 100000
set_option maxHeartbeats 1000000
namespace P58
open PySem PySem.Spec PyProof.Rows L2
def cs (A : Adr) : Cs := ⟨A.cHunk, A.cSwap, A.cAdded, A.cRemoved, A.cMoved⟩
theorem ln (k m : Str) (v : V) (r : List (Str × V)) (h : (m == k) = false) : ((k, v) :: r).lookup m = r.lookup m := by
  rw [List.lookup_cons, h]
theorem ly (k : Str) (v : V) (r : List (Str × V)) : ((k, v) :: r).lookup k = some v := by
  rw [List.lookup_cons, beq_self_eq_true]
section
variable {v1 v2 v3 v4 : V}
theorem hf1 : (hunkF v1 v2 v3 v4).lookup ("name" : Str) = some v1 := by
  unfold hunkF
  exact ly _ _ _
theorem hf2 : (hunkF v1 v2 v3 v4).lookup ("place" : Str) = some v2 := by
  unfold hunkF
  rw [ln _ _ _ _ (by decide +kernel)]
  exact ly _ _ _
theorem hf3 : (hunkF v1 v2 v3 v4).lookup ("old" : Str) = some v3 := by
  unfold hunkF
  rw [ln _ _ _ _ (by decide +kernel), ln _ _ _ _ (by decide +kernel)]
  exact ly _ _ _
theorem hf4 : (hunkF v1 v2 v3 v4).lookup ("new" : Str) = some v4 := by
  unfold hunkF
  rw [ln _ _ _ _ (by decide +kernel), ln _ _ _ _ (by decide +kernel), ln _ _ _ _ (by decide +kernel)]
  exact ly _ _ _
theorem sf1 : (swapF v1 v2 v3).lookup ("name" : Str) = some v1 := by
  unfold swapF
  exact ly _ _ _
theorem sf2 : (swapF v1 v2 v3).lookup ("one" : Str) = some v2 := by
  unfold swapF
  rw [ln _ _ _ _ (by decide +kernel)]
  exact ly _ _ _
theorem sf3 : (swapF v1 v2 v3).lookup ("other" : Str) = some v3 := by
  unfold swapF
  rw [ln _ _ _ _ (by decide +kernel), ln _ _ _ _ (by decide +kernel)]
  exact ly _ _ _
theorem nf1 : (nameF v1).lookup ("name" : Str) = some v1 := by
  unfold nameF
  exact ly _ _ _
theorem mf1 : (moveF v1 v2).lookup ("old_name" : Str) = some v1 := by
  unfold moveF
  exact ly _ _ _
theorem mf2 : (moveF v1 v2).lookup ("new_name" : Str) = some v2 := by
  unfold moveF
  rw [ln _ _ _ _ (by decide +kernel)]
  exact ly _ _ _
theorem pn1 : putF "name" v1 [] = nameF v1 := rfl
theorem ph2 : putF "place" v2 (nameF v1) = ([("name", v1), ("place", v2)] : List (Str × V)) := by
  show (if ("name" : Str) = "place" then _ else (("name" : Str), v1) :: putF "place" v2 []) = _
  rw [if_neg (by decide +kernel)]
  rfl
theorem ph3 : putF "old" v3 [("name", v1), ("place", v2)] = ([("name", v1), ("place", v2), ("old", v3)] : List (Str × V)) := by
  show (if ("name" : Str) = "old" then _ else (("name" : Str), v1) :: (if ("place" : Str) = "old" then _ else (("place" : Str), v2) :: putF "old" v3 [])) = _
  rw [if_neg (by decide +kernel), if_neg (by decide +kernel)]
  rfl
theorem ph4 : putF "new" v4 [("name", v1), ("place", v2), ("old", v3)] = hunkF v1 v2 v3 v4 := by
  show (if ("name" : Str) = "new" then _ else (("name" : Str), v1) :: (if ("place" : Str) = "new" then _ else (("place" : Str), v2) :: (if ("old" : Str) = "new" then _ else (("old" : Str), v3) :: putF "new" v4 []))) = _
  rw [if_neg (by decide +kernel), if_neg (by decide +kernel), if_neg (by decide +kernel)]
  rfl
theorem ps2 : putF "one" v2 (nameF v1) = ([("name", v1), ("one", v2)] : List (Str × V)) := by
  show (if ("name" : Str) = "one" then _ else (("name" : Str), v1) :: putF "one" v2 []) = _
  rw [if_neg (by decide +kernel)]
  rfl
theorem ps3 : putF "other" v3 [("name", v1), ("one", v2)] = swapF v1 v2 v3 := by
  show (if ("name" : Str) = "other" then _ else (("name" : Str), v1) :: (if ("one" : Str) = "other" then _ else (("one" : Str), v2) :: putF "other" v3 [])) = _
  rw [if_neg (by decide +kernel), if_neg (by decide +kernel)]
  rfl
theorem pm2 : putF "new_name" v2 [("old_name", v1)] = moveF v1 v2 := by
  show (if ("old_name" : Str) = "new_name" then _ else (("old_name" : Str), v1) :: putF "new_name" v2 []) = _
  rw [if_neg (by decide +kernel)]
  rfl
end
def Fresh (C : Addr) (vs : List V) (H : Hp) (Q : VK) (fs : List (Str × V)) : Prop := ∃ p dx r, vs = .ref p :: r ∧ H p = some (.ins C dx []) ∧ ∀ H', H' p = some (.ins C dx fs) → (∀ b o, H b = some o → b ≠ p → H' b = some o) → Q .non H'
def spInitHunk (C : Addr) : Sp := fun vs H Q _ => ∃ p dx v1 v2 v3 v4, vs = [.ref p, v1, v2, v3, v4] ∧ H p = some (.ins C dx []) ∧ ∀ H' : Hp, H' p = some (.ins C dx (hunkF v1 v2 v3 v4)) → (∀ b o, H b = some o → b ≠ p → H' b = some o) → Q .non H'
def spInitSwap (C : Addr) : Sp := fun vs H Q _ => ∃ p dx v1 v2 v3, vs = [.ref p, v1, v2, v3] ∧ H p = some (.ins C dx []) ∧ ∀ H' : Hp, H' p = some (.ins C dx (swapF v1 v2 v3)) → (∀ b o, H b = some o → b ≠ p → H' b = some o) → Q .non H'
def spInitName (C : Addr) : Sp := fun vs H Q _ => ∃ p dx v1, vs = [.ref p, v1] ∧ H p = some (.ins C dx []) ∧ ∀ H' : Hp, H' p = some (.ins C dx (nameF v1)) → (∀ b o, H b = some o → b ≠ p → H' b = some o) → Q .non H'
def spInitMove (C : Addr) : Sp := fun vs H Q _ => ∃ p dx v1 v2, vs = [.ref p, v1, v2] ∧ H p = some (.ins C dx []) ∧ ∀ H' : Hp, H' p = some (.ins C dx (moveF v1 v2)) → (∀ b o, H b = some o → b ≠ p → H' b = some o) → Q .non H'
section
variable {P : Program} {w : World} {K : PySem.W.Frag} {mg : Str → Option Value} {base : Heap} {A : Adr}
theorem ok_9 (T : Txt K mg A) : FnOk P w K mg base CX0 1 A.f_9 A.d_9 ["self", "name", "place", "old", "new"] (spInitHunk A.cHunk) := by
  refine T.F_9.ok sc_9 (fun vs H Q E h => ?_) (fun cdv A' outer s H vs Q E hr h => ?_)
  · obtain ⟨p, dx, v1, v2, v3, v4, rfl, _⟩ := h
    rfl
  · obtain ⟨p, dx, v1, v2, v3, v4, rfl, hp, k⟩ := h
    refine ⟨_, (pss_cons (ps_fld (pv 0) (pv 1) rfl)
        (pss_cons (ps_fld (pv 0) (pv 2) rfl)
        (pss_cons (ps_fld (pv 0) (pv 3) rfl)
        (pss_one (ps_fld (pv 0) (pv 4) rfl))))), ?_⟩
    refine ⟨_, rfl, _, rfl, p, _, dx, [], rfl, hp, T.clHunk, T.na_Hunk_name, (by show 0 < 1000; decide), ?_⟩
    rw [pn1]
    refine ⟨_, rfl, _, rfl, p, _, dx, _, rfl, upd_same, T.clHunk, T.na_Hunk_place, (by show 1 < 1000; decide), ?_⟩
    rw [ph2, upd_upd]
    refine ⟨_, rfl, _, rfl, p, _, dx, _, rfl, upd_same, T.clHunk, T.na_Hunk_old, (by show 2 < 1000; decide), ?_⟩
    rw [ph3, upd_upd]
    refine ⟨_, rfl, _, rfl, p, _, dx, _, rfl, upd_same, T.clHunk, T.na_Hunk_new, (by show 3 < 1000; decide), ?_⟩
    rw [ph4, upd_upd]
    exact k _ upd_same fun b o e hb => by rw [upd_ne hb]; exact e
theorem ok_30 (T : Txt K mg A) : FnOk P w K mg base CX0 1 A.f_30 A.d_30 ["self", "name", "one", "other"] (spInitSwap A.cSwap) := by
  refine T.F_30.ok sc_30 (fun vs H Q E h => ?_) (fun cdv A' outer s H vs Q E hr h => ?_)
  · obtain ⟨p, dx, v1, v2, v3, rfl, _⟩ := h
    rfl
  · obtain ⟨p, dx, v1, v2, v3, rfl, hp, k⟩ := h
    refine ⟨_, (pss_cons (ps_fld (pv 0) (pv 1) rfl)
        (pss_cons (ps_fld (pv 0) (pv 2) rfl)
        (pss_one (ps_fld (pv 0) (pv 3) rfl)))), ?_⟩
    refine ⟨_, rfl, _, rfl, p, _, dx, [], rfl, hp, T.clSwap, T.na_Swap_name, (by show 0 < 1000; decide), ?_⟩
    rw [pn1]
    refine ⟨_, rfl, _, rfl, p, _, dx, _, rfl, upd_same, T.clSwap, T.na_Swap_one, (by show 1 < 1000; decide), ?_⟩
    rw [ps2, upd_upd]
    refine ⟨_, rfl, _, rfl, p, _, dx, _, rfl, upd_same, T.clSwap, T.na_Swap_other, (by show 2 < 1000; decide), ?_⟩
    rw [ps3, upd_upd]
    exact k _ upd_same fun b o e hb => by rw [upd_ne hb]; exact e
theorem ok_3 (T : Txt K mg A) : FnOk P w K mg base CX0 1 A.f_3 A.d_3 ["self", "name"] (spInitName A.cAdded) := by
  refine T.F_3.ok sc_3 (fun vs H Q E h => ?_) (fun cdv A' outer s H vs Q E hr h => ?_)
  · obtain ⟨p, dx, v1, rfl, _⟩ := h
    rfl
  · obtain ⟨p, dx, v1, rfl, hp, k⟩ := h
    refine ⟨_, (pss_one (ps_fld (pv 0) (pv 1) rfl)), ?_⟩
    refine ⟨_, rfl, _, rfl, p, _, dx, [], rfl, hp, T.clAdded, T.na_Added_name, (by show 0 < 1000; decide), ?_⟩
    exact k _ upd_same fun b o e hb => by rw [upd_ne hb]; exact e
theorem ok_23 (T : Txt K mg A) : FnOk P w K mg base CX0 1 A.f_23 A.d_23 ["self", "name"] (spInitName A.cRemoved) := by
  refine T.F_23.ok sc_23 (fun vs H Q E h => ?_) (fun cdv A' outer s H vs Q E hr h => ?_)
  · obtain ⟨p, dx, v1, rfl, _⟩ := h
    rfl
  · obtain ⟨p, dx, v1, rfl, hp, k⟩ := h
    refine ⟨_, (pss_one (ps_fld (pv 0) (pv 1) rfl)), ?_⟩
    refine ⟨_, rfl, _, rfl, p, _, dx, [], rfl, hp, T.clRemoved, T.na_Removed_name, (by show 0 < 1000; decide), ?_⟩
    exact k _ upd_same fun b o e hb => by rw [upd_ne hb]; exact e
theorem ok_17 (T : Txt K mg A) : FnOk P w K mg base CX0 1 A.f_17 A.d_17 ["self", "old_name", "new_name"] (spInitMove A.cMoved) := by
  refine T.F_17.ok sc_17 (fun vs H Q E h => ?_) (fun cdv A' outer s H vs Q E hr h => ?_)
  · obtain ⟨p, dx, v1, v2, rfl, _⟩ := h
    rfl
  · obtain ⟨p, dx, v1, v2, rfl, hp, k⟩ := h
    refine ⟨_, (pss_cons (ps_fld (pv 0) (pv 1) rfl)
        (pss_one (ps_fld (pv 0) (pv 2) rfl))), ?_⟩
    refine ⟨_, rfl, _, rfl, p, _, dx, [], rfl, hp, T.clMoved, T.na_Moved_old_name, (by show 0 < 1000; decide), ?_⟩
    refine ⟨_, rfl, _, rfl, p, _, dx, _, rfl, upd_same, T.clMoved, T.na_Moved_new_name, (by show 1 < 1000; decide), ?_⟩
    rw [show putF "old_name" v1 [] = ([("old_name", v1)] : List (Str × V)) from rfl, pm2, upd_upd]
    exact k _ upd_same fun b o e hb => by rw [upd_ne hb]; exact e
end
theorem make_hunk {C : Cs} {H : Hp} {Q : VK} {f pl : Nat} {po pn : Addr} {o n : List Nat} (ho : TL H po o) (hn : TL H pn n) (k : ∀ H' x, Same H H' → StepAt C H' x (.hunk f pl o n) → Q (.ref x) H') {E : XK} :
    ∀ x dx, H x = none → H dx = none → dx ≠ x → spInitHunk C.hunk (.ref x :: ([nV f, nV pl, .ref po, .ref pn] ++ [])) (upd (upd H dx (.own x)) x (.ins C.hunk dx [])) (fun v H2 => v = .non ∧ Q (.ref x) H2) E := by
  intro x dx hx hd hne
  refine ⟨x, dx, _, _, _, _, rfl, upd_same, fun H' e kp => ⟨rfl, ?_⟩⟩
  have s : Same H H' := Same.made hx hd kp
  exact k H' x s ⟨dx, po, pn, e, s _ _ ho, s _ _ hn⟩
theorem make_hunk' {C : Cs} {H : Hp} {Q : VK} {f pl : Nat} {v : V} {po pn : Addr} {o n : List Nat} (ev : v = nV pl) (ho : TL H po o) (hn : TL H pn n) (k : ∀ H' x, Same H H' → StepAt C H' x (.hunk f pl o n) → Q (.ref x) H') {E : XK} :
    ∀ x dx, H x = none → H dx = none → dx ≠ x → spInitHunk C.hunk (.ref x :: ([nV f, v, .ref po, .ref pn] ++ [])) (upd (upd H dx (.own x)) x (.ins C.hunk dx [])) (fun v H2 => v = .non ∧ Q (.ref x) H2) E := by
  subst ev
  exact make_hunk ho hn k
theorem make_swap {C : Cs} {H : Hp} {Q : VK} {f y z : Nat} (k : ∀ H' x, Same H H' → StepAt C H' x (.swap f y z) → Q (.ref x) H') {E : XK} :
    ∀ x dx, H x = none → H dx = none → dx ≠ x → spInitSwap C.swap (.ref x :: ([nV f, nV y, nV z] ++ [])) (upd (upd H dx (.own x)) x (.ins C.swap dx [])) (fun v H2 => v = .non ∧ Q (.ref x) H2) E := by
  intro x dx hx hd hne
  refine ⟨x, dx, _, _, _, rfl, upd_same, fun H' e kp => ⟨rfl, ?_⟩⟩
  exact k H' x (Same.made hx hd kp) ⟨dx, e⟩
theorem make_add {C : Cs} {H : Hp} {Q : VK} {f : Nat} (k : ∀ H' x, Same H H' → StepAt C H' x (.add f) → Q (.ref x) H') {E : XK} :
    ∀ x dx, H x = none → H dx = none → dx ≠ x → spInitName C.added (.ref x :: ([nV f] ++ [])) (upd (upd H dx (.own x)) x (.ins C.added dx [])) (fun v H2 => v = .non ∧ Q (.ref x) H2) E := by
  intro x dx hx hd hne
  refine ⟨x, dx, _, rfl, upd_same, fun H' e kp => ⟨rfl, ?_⟩⟩
  exact k H' x (Same.made hx hd kp) ⟨dx, e⟩
theorem make_remove {C : Cs} {H : Hp} {Q : VK} {f : Nat} (k : ∀ H' x, Same H H' → StepAt C H' x (.remove f) → Q (.ref x) H') {E : XK} :
    ∀ x dx, H x = none → H dx = none → dx ≠ x → spInitName C.removed (.ref x :: ([nV f] ++ [])) (upd (upd H dx (.own x)) x (.ins C.removed dx [])) (fun v H2 => v = .non ∧ Q (.ref x) H2) E := by
  intro x dx hx hd hne
  refine ⟨x, dx, _, rfl, upd_same, fun H' e kp => ⟨rfl, ?_⟩⟩
  exact k H' x (Same.made hx hd kp) ⟨dx, e⟩
theorem make_move {C : Cs} {H : Hp} {Q : VK} {f g : Nat} (k : ∀ H' x, Same H H' → StepAt C H' x (.move f g) → Q (.ref x) H') {E : XK} :
    ∀ x dx, H x = none → H dx = none → dx ≠ x → spInitMove C.moved (.ref x :: ([nV f, nV g] ++ [])) (upd (upd H dx (.own x)) x (.ins C.moved dx [])) (fun v H2 => v = .non ∧ Q (.ref x) H2) E := by
  intro x dx hx hd hne
  refine ⟨x, dx, _, _, rfl, upd_same, fun H' e kp => ⟨rfl, ?_⟩⟩
  exact k H' x (Same.made hx hd kp) ⟨dx, e⟩
end P58
end
section
set_option Elab.async false
set_option linter.all false
set_option maxRecDepth 100000
set_option maxHeartbeats 1000000
namespace P58
open PySem PySem.Spec PyProof.Rows L2
theorem le_line {n : Nat} (h : n ≤ 200000) : n ≤ sizeLine := Nat.le_trans h (by decide)
theorem lt_line {n : Nat} (h : n ≤ 200000) : n < sizeLine := Nat.lt_of_le_of_lt h (by decide)
theorem shaped_ints (ns : List Int) : SeqAt.shaped (.list (ns.map PyData.int)) = true := by
  simp [SeqAt.shaped, PyData.canLay0, PyData.canLayAll0, PyData.depth, PyData.depthAll, PySem.W.ke_canLayAll0, PySem.W.ke_depthAll]
theorem eqv_toks (l m : List Nat) : PyData.eqv (.list (l.map fun n : Nat => PyData.int (n : Int))) (.list (m.map fun n : Nat => PyData.int (n : Int))) = decide (l = m) := by
  have e : ∀ l : List Nat, (l.map fun n : Nat => PyData.int (n : Int)) = (l.map fun n : Nat => (n : Int)).map PyData.int := fun l => by rw [List.map_map]; rfl
  rw [e, e]
  show PyData.eqvAll _ _ = _
  rw [PySem.W.ked_eqvAll]
  have inj : ∀ l m : List Nat, (l.map fun n : Nat => (n : Int)) = (m.map fun n : Nat => (n : Int)) ↔ l = m := by
    intro l
    induction l with
    | nil => intro m; cases m <;> simp
    | cons x l ih => intro m; cases m with
      | nil => simp
      | cons y m => rw [List.map_cons, List.map_cons, List.cons.injEq, List.cons.injEq, ih]; constructor <;> rintro ⟨q1, q2⟩ <;> exact ⟨by omega, q2⟩
  exact decide_eq_decide.mpr (inj l m)
theorem shaped_toks (l : List Nat) : SeqAt.shaped (.list (l.map fun n : Nat => PyData.int (n : Int))) = true := by
  have e : (l.map fun n : Nat => PyData.int (n : Int)) = (l.map fun n : Nat => (n : Int)).map PyData.int := by rw [List.map_map]; rfl
  rw [e]
  exact shaped_ints _

def spNames (A : Adr) (k : Nat) : Sp := fun vs H Q _ => ∃ a p, vs = [.ref a] ∧ kd p = k ∧ StepAt (cs A) H a p ∧ ∀ H' l, Same H H' → TL H' l (VapatBase.namesOf p) → Q (.ref l) H'
def spFlat (A : Adr) (k : Nat) : Sp := fun vs H Q _ => ∃ a p, vs = [.ref a] ∧ kd p = k ∧ StepAt (cs A) H a p ∧ VM.small p ∧ ∀ H' l, H l = none → Same H H' → IL H' l (VapatBase.flatStep p) → Q (.ref l) H'
def spFits (A : Adr) (k : Nat) : Sp := fun vs H Q _ => ∃ a b p t, vs = [.ref a, .ref b] ∧ kd p = k ∧ StepAt (cs A) H a p ∧ TreeAt H b t ∧ ∀ H', Same H H' → Q (.bl (VapatBase.applied t p).isSome) H'
def spApplied (A : Adr) (k : Nat) : Sp := fun vs H Q _ => ∃ a b p t u, vs = [.ref a, .ref b] ∧ kd p = k ∧ StepAt (cs A) H a p ∧ VM.small p ∧ TreeAt H b t ∧ VM.Rising t ∧ VM.Low 100000 t ∧ VapatBase.applied t p = some u ∧ ∀ H' c, Same H H' → TreeAt H' c u → Q (.ref c) H'
def spInside (A : Adr) (k : Nat) : Sp := fun vs H Q _ => ∃ a g p, vs = [.ref a, nV g] ∧ kd p = k ∧ StepAt (cs A) H a p ∧ ∀ H' x, Same H H' → StepAt (cs A) H' x (VapatBase.inFile g p) → Q (.ref x) H'
def spShifted (A : Adr) : Sp := fun vs H Q _ => ∃ a lo hi f pl o n, vs = [.ref a, nV lo, nV hi] ∧ StepAt (cs A) H a (.hunk f pl o n) ∧ lo ≤ pl ∧ ∀ H' x, Same H H' → StepAt (cs A) H' x (.hunk f (pl - lo + hi) o n) → Q (.ref x) H'
def spSwapped (A : Adr) : Sp := fun vs H Q _ => ∃ a l f x y c, vs = [.ref a, .ref l] ∧ StepAt (cs A) H a (.swap f x y) ∧ TL H l c ∧ c.length ≤ 100000 ∧ ∀ H' r, Same H H' → TL H' r (VapatBase.swapAll x y c) → Q (.ref r) H'
def spInstead (A : Adr) : Sp := fun vs H Q _ => ∃ a t f x y, vs = [.ref a, nV t] ∧ StepAt (cs A) H a (.swap f x y) ∧ Q (nV (VapatBase.swapToken x y t)) H

section
variable {P : Program} {w : World} {K : PySem.W.Frag} {mg : Str → Option Value} {base : Heap} {A : Adr}
theorem ok_11 (T : Txt K mg A) : FnOk P w K mg base CX0 1 A.f_11 A.d_11 ["self"] (spNames A 0) := by
  refine T.F_11.ok sc_11 (fun vs H Q E h => ?_) (fun cdv A' outer s H vs Q E hr h => ?_)
  · obtain ⟨a, p, rfl, _⟩ := h
    rfl
  · obtain ⟨a, p, rfl, hk, hs, k⟩ := h
    cases p with
    | hunk f pl o n =>
      obtain ⟨dx, po, pn, h1, h2, h3⟩ := hs
      refine ⟨_, (pss_one (ps_ret (pe_lst (pa_cons (pe_fld (pv 0) rfl) pa_nil)))), ?_⟩
      exact ⟨_, rfl, _, _, _, _, _, rfl, h1, T.clHunk, T.na_Hunk_name, hf1, (by show 1 ≤ sizeLine; decide), fun l hl => k _ l (Same.new hl) upd_same⟩
    | _ => cases hk
theorem ok_33 (T : Txt K mg A) : FnOk P w K mg base CX0 1 A.f_33 A.d_33 ["self"] (spNames A 1) := by
  refine T.F_33.ok sc_33 (fun vs H Q E h => ?_) (fun cdv A' outer s H vs Q E hr h => ?_)
  · obtain ⟨a, p, rfl, _⟩ := h
    rfl
  · obtain ⟨a, p, rfl, hk, hs, k⟩ := h
    cases p with
    | swap f x y =>
      obtain ⟨dx, h1⟩ := hs
      refine ⟨_, (pss_one (ps_ret (pe_lst (pa_cons (pe_fld (pv 0) rfl) pa_nil)))), ?_⟩
      exact ⟨_, rfl, _, _, _, _, _, rfl, h1, T.clSwap, T.na_Swap_name, sf1, (by show 1 ≤ sizeLine; decide), fun l hl => k _ l (Same.new hl) upd_same⟩
    | _ => cases hk
theorem ok_4 (T : Txt K mg A) : FnOk P w K mg base CX0 1 A.f_4 A.d_4 ["self"] (spNames A 2) := by
  refine T.F_4.ok sc_4 (fun vs H Q E h => ?_) (fun cdv A' outer s H vs Q E hr h => ?_)
  · obtain ⟨a, p, rfl, _⟩ := h
    rfl
  · obtain ⟨a, p, rfl, hk, hs, k⟩ := h
    cases p with
    | add f =>
      obtain ⟨dx, h1⟩ := hs
      refine ⟨_, (pss_one (ps_ret (pe_lst (pa_cons (pe_fld (pv 0) rfl) pa_nil)))), ?_⟩
      exact ⟨_, rfl, _, _, _, _, _, rfl, h1, T.clAdded, T.na_Added_name, nf1, (by show 1 ≤ sizeLine; decide), fun l hl => k _ l (Same.new hl) upd_same⟩
    | _ => cases hk
theorem ok_24 (T : Txt K mg A) : FnOk P w K mg base CX0 1 A.f_24 A.d_24 ["self"] (spNames A 3) := by
  refine T.F_24.ok sc_24 (fun vs H Q E h => ?_) (fun cdv A' outer s H vs Q E hr h => ?_)
  · obtain ⟨a, p, rfl, _⟩ := h
    rfl
  · obtain ⟨a, p, rfl, hk, hs, k⟩ := h
    cases p with
    | remove f =>
      obtain ⟨dx, h1⟩ := hs
      refine ⟨_, (pss_one (ps_ret (pe_lst (pa_cons (pe_fld (pv 0) rfl) pa_nil)))), ?_⟩
      exact ⟨_, rfl, _, _, _, _, _, rfl, h1, T.clRemoved, T.na_Removed_name, nf1, (by show 1 ≤ sizeLine; decide), fun l hl => k _ l (Same.new hl) upd_same⟩
    | _ => cases hk
theorem ok_18 (T : Txt K mg A) : FnOk P w K mg base CX0 1 A.f_18 A.d_18 ["self"] (spNames A 4) := by
  refine T.F_18.ok sc_18 (fun vs H Q E h => ?_) (fun cdv A' outer s H vs Q E hr h => ?_)
  · obtain ⟨a, p, rfl, _⟩ := h
    rfl
  · obtain ⟨a, p, rfl, hk, hs, k⟩ := h
    cases p with
    | move f g =>
      obtain ⟨dx, h1⟩ := hs
      refine ⟨_, (pss_one (ps_ret (pe_lst (pa_cons (pe_fld (pv 0) rfl) (pa_cons (pe_fld (pv 0) rfl) pa_nil))))), ?_⟩
      exact ⟨_, rfl, _, _, _, _, _, rfl, h1, T.clMoved, T.na_Moved_old_name, mf1, _, rfl, _, _, _, _, _, rfl, h1, T.clMoved, T.na_Moved_new_name, mf2, (by show 2 ≤ sizeLine; decide), fun l hl => k _ l (Same.new hl) upd_same⟩
    | _ => cases hk
theorem ok_7 (T : Txt K mg A) : FnOk P w K mg base CX0 1 A.f_7 A.d_7 ["self"] (spFlat A 0) := by
  refine T.F_7.ok sc_7 (fun vs H Q E h => ?_) (fun cdv A' outer s H vs Q E hr h => ?_)
  · obtain ⟨a, p, rfl, _⟩ := h
    rfl
  · obtain ⟨a, p, rfl, hk, hs, hsm, k⟩ := h
    cases p with
    | hunk f pl o n =>
      obtain ⟨dx, po, pn, h1, h2, h3⟩ := hs
      obtain ⟨_, lo, ln⟩ := hsm
      refine ⟨_, (pss_one (ps_ret (pe_op op_cat (pe_op op_cat (pe_op op_cat (pe_lst (pa_cons (pe_gi rfl T.g_HUNK) (pa_cons (pe_fld (pv 0) rfl) (pa_cons (pe_fld (pv 0) rfl) (pa_cons (pe_callB call_len_seq (by rfl) T.n_len PySem.boot_len (pa_cons (pe_fld (pv 0) rfl) pa_nil)) pa_nil))))) (pe_fld (pv 0) rfl)) (pe_lst (pa_cons (pe_callB call_len_seq (by rfl) T.n_len PySem.boot_len (pa_cons (pe_fld (pv 0) rfl) pa_nil)) pa_nil))) (pe_fld (pv 0) rfl)))), ?_⟩
      refine ⟨_, rfl, _, _, _, _, _, rfl, h1, T.clHunk, T.na_Hunk_name, hf1, _, rfl, _, _, _, _, _, rfl, h1, T.clHunk, T.na_Hunk_place, hf2, _, rfl, _, _, _, _, _, rfl, h1, T.clHunk, T.na_Hunk_old, hf3, po, _, rfl, .inl (SqL.of h2), (by show 4 ≤ sizeLine; decide), fun l1 g1 => ?_⟩
      refine ⟨_, rfl, _, _, _, _, _, rfl, ((Same.new g1) _ _ h1), T.clHunk, T.na_Hunk_old, hf3, l1, po, _, _, rfl, rfl, upd_same, (Same.new g1) _ _ h2, le_line (by simp; omega), fun l2 g2 => ?_⟩
      refine ⟨_, rfl, _, _, _, _, _, rfl, (((Same.new g1).trans (Same.new g2)) _ _ h1), T.clHunk, T.na_Hunk_new, hf4, pn, _, rfl, .inl (SqL.of (((Same.new g1).trans (Same.new g2)) _ _ h3)), (by show 1 ≤ sizeLine; decide), fun l3 g3 => ?_⟩
      refine ⟨l2, l3, _, _, rfl, rfl, (by rw [upd_ne (ne_of_none upd_same g3)]; exact upd_same), upd_same, le_line (by simp; omega), fun l4 g4 => ?_⟩
      refine ⟨_, rfl, _, _, _, _, _, rfl, (((((Same.new g1).trans (Same.new g2)).trans (Same.new g3)).trans (Same.new g4)) _ _ h1), T.clHunk, T.na_Hunk_new, hf4, l4, pn, _, _, rfl, rfl, upd_same, ((((Same.new g1).trans (Same.new g2)).trans (Same.new g3)).trans (Same.new g4)) _ _ h3, le_line (by simp; omega), fun l5 g5 => ?_⟩
      refine k _ l5 (((((Same.new g1).trans (Same.new g2)).trans (Same.new g3)).trans (Same.new g4)).free g5) (((((Same.new g1).trans (Same.new g2)).trans (Same.new g3)).trans (Same.new g4)).trans (Same.new g5)) ?_
      show upd _ l5 _ l5 = _
      rw [upd_same]
      simp [VapatBase.flatStep, VapatBase.listed, nV_ints, VapatBase.int, VapatBase.ints, nV]
    | _ => cases hk
theorem ok_28 (T : Txt K mg A) : FnOk P w K mg base CX0 1 A.f_28 A.d_28 ["self"] (spFlat A 1) := by
  refine T.F_28.ok sc_28 (fun vs H Q E h => ?_) (fun cdv A' outer s H vs Q E hr h => ?_)
  · obtain ⟨a, p, rfl, _⟩ := h
    rfl
  · obtain ⟨a, p, rfl, hk, hs, hsm, k⟩ := h
    cases p with
    | swap f x y =>
      obtain ⟨dx, h1⟩ := hs
      refine ⟨_, (pss_one (ps_ret (pe_lst (pa_cons (pe_gi rfl T.g_SWAP) (pa_cons (pe_fld (pv 0) rfl) (pa_cons (pe_fld (pv 0) rfl) (pa_cons (pe_fld (pv 0) rfl) pa_nil))))))), ?_⟩
      exact ⟨_, rfl, _, _, _, _, _, rfl, h1, T.clSwap, T.na_Swap_name, sf1, _, rfl, _, _, _, _, _, rfl, h1, T.clSwap, T.na_Swap_one, sf2, _, rfl, _, _, _, _, _, rfl, h1, T.clSwap, T.na_Swap_other, sf3, (by show 4 ≤ sizeLine; decide), fun l hl => k _ l hl (Same.new hl) upd_same⟩
    | _ => cases hk
theorem ok_1 (T : Txt K mg A) : FnOk P w K mg base CX0 1 A.f_1 A.d_1 ["self"] (spFlat A 2) := by
  refine T.F_1.ok sc_1 (fun vs H Q E h => ?_) (fun cdv A' outer s H vs Q E hr h => ?_)
  · obtain ⟨a, p, rfl, _⟩ := h
    rfl
  · obtain ⟨a, p, rfl, hk, hs, hsm, k⟩ := h
    cases p with
    | add f =>
      obtain ⟨dx, h1⟩ := hs
      refine ⟨_, (pss_one (ps_ret (pe_lst (pa_cons (pe_gi rfl T.g_ADDED) (pa_cons (pe_fld (pv 0) rfl) pa_nil))))), ?_⟩
      exact ⟨_, rfl, _, _, _, _, _, rfl, h1, T.clAdded, T.na_Added_name, nf1, (by show 2 ≤ sizeLine; decide), fun l hl => k _ l hl (Same.new hl) upd_same⟩
    | _ => cases hk
theorem ok_21 (T : Txt K mg A) : FnOk P w K mg base CX0 1 A.f_21 A.d_21 ["self"] (spFlat A 3) := by
  refine T.F_21.ok sc_21 (fun vs H Q E h => ?_) (fun cdv A' outer s H vs Q E hr h => ?_)
  · obtain ⟨a, p, rfl, _⟩ := h
    rfl
  · obtain ⟨a, p, rfl, hk, hs, hsm, k⟩ := h
    cases p with
    | remove f =>
      obtain ⟨dx, h1⟩ := hs
      refine ⟨_, (pss_one (ps_ret (pe_lst (pa_cons (pe_gi rfl T.g_REMOVED) (pa_cons (pe_fld (pv 0) rfl) pa_nil))))), ?_⟩
      exact ⟨_, rfl, _, _, _, _, _, rfl, h1, T.clRemoved, T.na_Removed_name, nf1, (by show 2 ≤ sizeLine; decide), fun l hl => k _ l hl (Same.new hl) upd_same⟩
    | _ => cases hk
theorem ok_15 (T : Txt K mg A) : FnOk P w K mg base CX0 1 A.f_15 A.d_15 ["self"] (spFlat A 4) := by
  refine T.F_15.ok sc_15 (fun vs H Q E h => ?_) (fun cdv A' outer s H vs Q E hr h => ?_)
  · obtain ⟨a, p, rfl, _⟩ := h
    rfl
  · obtain ⟨a, p, rfl, hk, hs, hsm, k⟩ := h
    cases p with
    | move f g =>
      obtain ⟨dx, h1⟩ := hs
      refine ⟨_, (pss_one (ps_ret (pe_lst (pa_cons (pe_gi rfl T.g_MOVED) (pa_cons (pe_fld (pv 0) rfl) (pa_cons (pe_fld (pv 0) rfl) pa_nil)))))), ?_⟩
      exact ⟨_, rfl, _, _, _, _, _, rfl, h1, T.clMoved, T.na_Moved_old_name, mf1, _, rfl, _, _, _, _, _, rfl, h1, T.clMoved, T.na_Moved_new_name, mf2, (by show 3 ≤ sizeLine; decide), fun l hl => k _ l hl (Same.new hl) upd_same⟩
    | _ => cases hk
theorem ok_8 (T : Txt K mg A) : FnOk P w K mg base CX0 1 A.f_8 A.d_8 ["self", "tree"] (spFits A 0) := by
  refine T.F_8.ok sc_8 (fun vs H Q E h => ?_) (fun cdv A' outer s H vs Q E hr h => ?_)
  · obtain ⟨a, b, p, t, rfl, _⟩ := h
    rfl
  · obtain ⟨a, b, p, t, rfl, hk, hs, ⟨kvs, hb, ht⟩, k⟩ := h
    cases p with
    | hunk f pl o n =>
      obtain ⟨dx, po, pn, h1, h2, h3⟩ := hs
      refine ⟨_, (pss_cons (ps_if (pt_cmp (pc_dnotin (hu_of hr) (pe_fld (pv 0) rfl) (pv 1)))
          (pss_one (ps_ret pe_bl))
          pss_nil)
        (pss_cons (ps_set (i := 2) sc_8.nd rfl (Or.inl rfl) (pe_dget (hu_of hr) (pv 1) (pe_fld (pv 0) rfl) (fun _ _ => rfl)))
        (pss_one (ps_ret (pe_and (pe_cmpR op_le (pe_fld (pv 0) rfl) (pe_callB call_len_seq (by rfl) T.n_len PySem.boot_len (pa_cons (pv 2) pa_nil)) (nomark _)) (pe_one (pe_cmpR (op_eqD hr.units) (pe_slice sl_list (pv 2) (po_some (pe_fld (pv 0) rfl)) (po_some (pe_op op_add (pe_fld (pv 0) rfl) (pe_callB call_len_seq (by rfl) T.n_len PySem.boot_len (pa_cons (pe_fld (pv 0) rfl) pa_nil))))) (pe_fld (pv 0) rfl) (nomark _)))))))), ?_⟩
      refine ⟨_, rfl, _, _, _, _, _, rfl, h1, T.clHunk, T.na_Hunk_name, hf1, _, rfl, b, _, rfl, DGet.k (k := fk f) hb, _, rfl, ?_⟩
      cases e : VapatBase.fileIn t f with
      | none =>
        rw [ht.none_iff, e]
        refine iteT ?_
        have := k H (Same.refl H)
        dsimp only [VapatBase.applied] at this
        rw [e] at this
        exact this
      | some c =>
        obtain ⟨r, e1, hr1⟩ := ht.get e
        rw [ht.none_iff, e]
        refine iteF ?_
        refine ⟨_, rfl, ⟨_, rfl, _, _, _, _, _, rfl, h1, T.clHunk, T.na_Hunk_name, hf1, b, _, rfl, (by have := DGet.k (k := fk f) hb; rw [e1] at this; exact this), ?_⟩⟩
        refine ⟨_, rfl, _, _, _, _, _, rfl, h1, T.clHunk, T.na_Hunk_place, hf2, _, rfl, r, _, rfl, .inl (SqL.of hr1), _, _, rfl, rfl, _, rfl, ?_⟩
        have ap : (VapatBase.applied t (.hunk f pl o n)).isSome = decide (pl ≤ c.length ∧ (c.drop pl).take o.length = o) := by
          dsimp only [VapatBase.applied]
          rw [e]
          dsimp only [Option.bind_some]
          unfold VapatBase.spliced
          by_cases hc : pl ≤ c.length ∧ (c.drop pl).take o.length = o
          · rw [if_pos hc, decide_eq_true hc]; rfl
          · rw [if_neg hc, decide_eq_false hc]; rfl
        by_cases hle : pl ≤ c.length
        · rw [decide_eq_true (by rw [List.length_map]; omega)]
          refine iteT ?_
          refine ⟨_, rfl, ⟨_, rfl, _, _, _, _, _, rfl, h1, T.clHunk, T.na_Hunk_place, hf2, _, rfl, ⟨_, rfl, _, _, _, _, _, rfl, h1, T.clHunk, T.na_Hunk_place, hf2, _, rfl, _, _, _, _, _, rfl, h1, T.clHunk, T.na_Hunk_old, hf3, po, _, rfl, .inl (SqL.of h2), _, _, rfl, rfl, _, rfl, r, _, rfl, SqL.of hr1, fun q hq => ?_⟩⟩⟩
          have s1 := Same.new (o := .lst (cutV (c.map nV) (some (pl : Int)) (some ((pl : Int) + ((o.map nV).length : Nat))))) hq
          have ecut : cutV (c.map nV) (some (pl : Int)) (some ((pl : Int) + ((o.map nV).length : Nat))) = ((c.drop pl).take o.length).map nV := by
            have : (pl : Int) + ((o.map nV).length : Nat) = ((pl + o.length : Nat) : Int) := by rw [List.length_map]; omega
            rw [this, cut_both, List.map_take, List.map_drop]
            congr 1
            omega
          refine ⟨_, rfl, _, _, _, _, _, rfl, (s1 _ _ h1), T.clHunk, T.na_Hunk_old, hf3, .list (((c.drop pl).take o.length).map fun n : Nat => PyData.int (n : Int)), .list (o.map fun n : Nat => PyData.int (n : Int)), .lst (SqL.of (by rw [upd_same, ecut])) (dp_toks _), .lst (SqL.of (s1 _ _ h2)) (dp_toks _), shaped_toks _, shaped_toks _, ?_⟩
          rw [eqv_toks]
          have := k _ s1
          rw [ap] at this
          have e3 : decide (pl ≤ c.length ∧ (c.drop pl).take o.length = o) = decide ((c.drop pl).take o.length = o) := by
            apply decide_eq_decide.mpr
            exact ⟨fun q => q.2, fun q => ⟨hle, q⟩⟩
          rw [e3] at this
          exact this
        · rw [decide_eq_false (by rw [List.length_map]; omega)]
          refine iteF ?_
          have := k H (Same.refl H)
          rw [ap, decide_eq_false (fun q => hle q.1)] at this
          exact this
    | _ => cases hk
theorem ok_29 (T : Txt K mg A) : FnOk P w K mg base CX0 1 A.f_29 A.d_29 ["self", "tree"] (spFits A 1) := by
  refine T.F_29.ok sc_29 (fun vs H Q E h => ?_) (fun cdv A' outer s H vs Q E hr h => ?_)
  · obtain ⟨a, b, p, t, rfl, _⟩ := h
    rfl
  · obtain ⟨a, b, p, t, rfl, hk, hs, ⟨kvs, hb, ht⟩, k⟩ := h
    cases p with
    | swap f x y =>
      obtain ⟨dx, h1⟩ := hs
      refine ⟨_, (pss_one (ps_ret (pe_cmp (pc_din (hu_of hr) (pe_fld (pv 0) rfl) (pv 1))))), ?_⟩
      refine ⟨_, rfl, _, _, _, _, _, rfl, h1, T.clSwap, T.na_Swap_name, sf1, _, rfl, b, _, rfl, DGet.k (k := fk f) hb, ?_⟩
      have := k H (Same.refl H)
      rw [ht.none_iff]
      dsimp only [VapatBase.applied] at this
      rw [Option.isSome_map] at this
      exact this
    | _ => cases hk
theorem ok_2 (T : Txt K mg A) : FnOk P w K mg base CX0 1 A.f_2 A.d_2 ["self", "tree"] (spFits A 2) := by
  refine T.F_2.ok sc_2 (fun vs H Q E h => ?_) (fun cdv A' outer s H vs Q E hr h => ?_)
  · obtain ⟨a, b, p, t, rfl, _⟩ := h
    rfl
  · obtain ⟨a, b, p, t, rfl, hk, hs, ⟨kvs, hb, ht⟩, k⟩ := h
    cases p with
    | add f =>
      obtain ⟨dx, h1⟩ := hs
      refine ⟨_, (pss_one (ps_ret (pe_cmp (pc_dnotin (hu_of hr) (pe_fld (pv 0) rfl) (pv 1))))), ?_⟩
      refine ⟨_, rfl, _, _, _, _, _, rfl, h1, T.clAdded, T.na_Added_name, nf1, _, rfl, b, _, rfl, DGet.k (k := fk f) hb, ?_⟩
      have := k H (Same.refl H)
      rw [ht.none_iff]
      dsimp only [VapatBase.applied] at this
      cases e : VapatBase.fileIn t f with
      | none => rw [e] at this; exact this
      | some c => rw [e] at this; exact this
    | _ => cases hk
theorem ok_22 (T : Txt K mg A) : FnOk P w K mg base CX0 1 A.f_22 A.d_22 ["self", "tree"] (spFits A 3) := by
  refine T.F_22.ok sc_22 (fun vs H Q E h => ?_) (fun cdv A' outer s H vs Q E hr h => ?_)
  · obtain ⟨a, b, p, t, rfl, _⟩ := h
    rfl
  · obtain ⟨a, b, p, t, rfl, hk, hs, ⟨kvs, hb, ht⟩, k⟩ := h
    cases p with
    | remove f =>
      obtain ⟨dx, h1⟩ := hs
      refine ⟨_, (pss_one (ps_ret (pe_and (pe_cmp (pc_din (hu_of hr) (pe_fld (pv 0) rfl) (pv 1))) (pe_one (pe_cmpR op_eq (pe_callB call_len_seq (by rfl) T.n_len PySem.boot_len (pa_cons (pe_dget (hu_of hr) (pv 1) (pe_fld (pv 0) rfl) (fun _ _ => rfl)) pa_nil)) pe_int (nomark _)))))), ?_⟩
      refine ⟨_, rfl, _, _, _, _, _, rfl, h1, T.clRemoved, T.na_Removed_name, nf1, _, rfl, b, _, rfl, DGet.k (k := fk f) hb, _, rfl, ?_⟩
      have q := k H (Same.refl H)
      rw [ht.none_iff]
      dsimp only [VapatBase.applied] at q
      cases e : VapatBase.fileIn t f with
      | none =>
        rw [e, if_neg (by intro z; cases z)] at q
        exact iteF q
      | some c =>
        rw [e] at q
        obtain ⟨r, e1, hr1⟩ := ht.get e
        refine iteT ⟨_, rfl, ⟨_, rfl, _, _, _, _, _, rfl, h1, T.clRemoved, T.na_Removed_name, nf1, b, _, rfl, (by have := DGet.k (k := fk f) hb; rw [e1] at this; exact this), r, _, rfl, .inl (SqL.of hr1), ?_⟩⟩
        refine ⟨rfl, ?_⟩
        cases c with
        | nil => rw [if_pos rfl] at q; exact q
        | cons x c =>
          rw [if_neg (by intro z; cases z)] at q
          rw [decide_eq_false (by simp; omega)]
          exact q
    | _ => cases hk
theorem ok_16 (T : Txt K mg A) : FnOk P w K mg base CX0 1 A.f_16 A.d_16 ["self", "tree"] (spFits A 4) := by
  refine T.F_16.ok sc_16 (fun vs H Q E h => ?_) (fun cdv A' outer s H vs Q E hr h => ?_)
  · obtain ⟨a, b, p, t, rfl, _⟩ := h
    rfl
  · obtain ⟨a, b, p, t, rfl, hk, hs, ⟨kvs, hb, ht⟩, k⟩ := h
    cases p with
    | move f g =>
      obtain ⟨dx, h1⟩ := hs
      refine ⟨_, (pss_one (ps_ret (pe_and (pe_cmp (pc_din (hu_of hr) (pe_fld (pv 0) rfl) (pv 1))) (pe_one (pe_cmp (pc_dnotin (hu_of hr) (pe_fld (pv 0) rfl) (pv 1))))))), ?_⟩
      refine ⟨_, rfl, _, _, _, _, _, rfl, h1, T.clMoved, T.na_Moved_old_name, mf1, _, rfl, b, _, rfl, DGet.k (k := fk f) hb, _, rfl, ?_⟩
      have q := k H (Same.refl H)
      rw [ht.none_iff]
      dsimp only [VapatBase.applied] at q
      cases e : VapatBase.fileIn t f with
      | none =>
        rw [e] at q
        exact iteF q
      | some c =>
        rw [e] at q
        refine iteT (⟨_, rfl, _, _, _, _, _, rfl, h1, T.clMoved, T.na_Moved_new_name, mf2, _, rfl, b, _, rfl, DGet.k (k := fk g) hb, ?_⟩)
        rw [ht.none_iff]
        cases e2 : VapatBase.fileIn t g with
        | none => rw [e2] at q; exact q
        | some d => rw [e2] at q; exact q
    | _ => cases hk
end
end P58
end
section
set_option Elab.async false
set_option linter.all false
set_option maxRecDepth 100000
set_option maxHeartbeats 1000000
namespace P58
open PySem PySem.Spec PyProof.Rows L2
theorem mno {fs : List (Str × V)} {m : Str} (h : ∀ m : Str, m ∉ fieldNames → fs.lookup m = none) (hm : m ∉ fieldNames := by decide +kernel) : fs.lookup m = none := h m hm
theorem swapF_no {v1 v2 v3 : V} {m : Str} (hm : m ∉ fieldNames := by decide +kernel) : (swapF v1 v2 v3).lookup m = none := by
  have key : ∀ {k : Str}, k ∈ fieldNames → m ≠ k := fun h2 e => hm (e ▸ h2)
  unfold swapF
  rw [lookup_cons_ne (key (by decide +kernel)), lookup_cons_ne (key (by decide +kernel)), lookup_cons_ne (key (by decide +kernel))]
  rfl
theorem hunkF_no {v1 v2 v3 v4 : V} {m : Str} (hm : m ∉ fieldNames := by decide +kernel) : (hunkF v1 v2 v3 v4).lookup m = none := by
  have key : ∀ {k : Str}, k ∈ fieldNames → m ≠ k := fun h2 e => hm (e ▸ h2)
  unfold hunkF
  rw [lookup_cons_ne (key (by decide +kernel)), lookup_cons_ne (key (by decide +kernel)), lookup_cons_ne (key (by decide +kernel)), lookup_cons_ne (key (by decide +kernel))]
  rfl
theorem getnV {c : List Nat} {i : Nat} {x : V} (h : (c.map nV)[i]? = some x) : ∃ t, c[i]? = some t ∧ x = nV t := by
  rw [List.getElem?_map] at h
  cases e : c[i]? with
  | none => rw [e] at h; cases h
  | some t => rw [e] at h; exact ⟨t, rfl, (Option.some.inj h).symm⟩
theorem take_one {α : Type} {l : List α} {i : Nat} {x : α} (h : l[i]? = some x) : l.take (i + 1) = l.take i ++ [x] := by
  rw [List.take_add_one, h]
  rfl
section
variable {P : Program} {w : World} {K : PySem.W.Frag} {mg : Str → Option Value} {base : Heap} {A : Adr}
theorem ok_32 (T : Txt K mg A) : FnOk P w K mg base CX0 1 A.f_32 A.d_32 ["self", "token"] (spInstead A) := by
  refine T.F_32.ok sc_32 (fun vs H Q E h => ?_) (fun cdv A' outer s H vs Q E hr h => ?_)
  · obtain ⟨a, t, f, x, y, rfl, _⟩ := h
    rfl
  · obtain ⟨a, t, f, x, y, rfl, ⟨dx, h1⟩, k⟩ := h
    refine ⟨_, (pss_cons (ps_if (pt_cmpR op_eq (pv 1) (pe_fld (pv 0) rfl) (nomark _))
          (pss_one (ps_ret (pe_fld (pv 0) rfl)))
          pss_nil)
        (pss_cons (ps_if (pt_cmpR op_eq (pv 1) (pe_fld (pv 0) rfl) (nomark _))
          (pss_one (ps_ret (pe_fld (pv 0) rfl)))
          pss_nil)
        (pss_one (ps_ret (pv 1))))), ?_⟩
    unfold VapatBase.swapToken at k
    refine ⟨_, rfl, ⟨_, rfl, _, _, _, _, _, rfl, h1, T.clSwap, T.na_Swap_one, sf2, rfl, _, rfl, ite2 (fun hc => ?_) (fun hc => ?_)⟩⟩
    · have e : t = x := nV_inj (of_decide_eq_true hc)
      rw [if_pos e] at k
      exact ⟨_, rfl, _, _, _, _, _, rfl, h1, T.clSwap, T.na_Swap_other, sf3, k⟩
    · have e : ¬ t = x := fun z => hc (decide_eq_true (by rw [z]))
      rw [if_neg e] at k
      refine ⟨_, rfl, ⟨_, rfl, _, _, _, _, _, rfl, h1, T.clSwap, T.na_Swap_other, sf3, rfl, _, rfl, ite2 (fun hc => ?_) (fun hc => ?_)⟩⟩
      · have e : t = y := nV_inj (of_decide_eq_true hc)
        rw [if_pos e] at k
        exact ⟨_, rfl, _, _, _, _, _, rfl, h1, T.clSwap, T.na_Swap_one, sf2, k⟩
      · have e : ¬ t = y := fun z => hc (decide_eq_true (by rw [z]))
        rw [if_neg e] at k
        exact ⟨_, rfl, k⟩
theorem ok_34 (T : Txt K mg A) : FnOk P w K mg base CX0 2 A.f_34 A.d_34 ["self", "tokens"] (spSwapped A) := by
  refine T.F_34.ok sc_34 (fun vs H Q E h => ?_) (fun cdv A' outer s H vs Q E hr h => ?_)
  · obtain ⟨a, l, f, x, y, c, rfl, _⟩ := h
    rfl
  · obtain ⟨a, l, f, x, y, c, rfl, hs, hl, hlen, k⟩ := h
    have hs' := hs
    obtain ⟨dx, h1⟩ := hs'
    refine ⟨_, (pss_one (ps_ret (pe_lc rfl sc_34.nd (pi_list (pv 1)) (blkOk_by (N := ["self", "tokens", "token"]) (sc := defScope st_34) (own := [("token", 2)]) (by decide +kernel)) (fun _ _ _ _ _ => pg_name (i := 2) sc_34.nd rfl (Or.inl rfl)) (fun _ _ _ _ _ => pts_nil) (fun _ _ _ _ _ => (pe_meth (pv 0) T.clSwap T.m_32 (ok_32 T) (hr.mono (by decide)) T.b_32 .nil pass0 (pa_cons (pv 2) pa_nil)))))), ?_⟩
    refine ⟨_, rfl, l, rfl, ⟨_, SqL.of hl⟩, fun D hD => lc_list (K := K) (a := l) (xs := c.map nV) (fun i H' => Same H H' ∧ TL H' D (VapatBase.swapAll x y (c.take i))) ⟨Same.new hD, upd_same⟩ (fun i H' _ p => SqL.of (p.1 _ _ hl)) ?_ ?_⟩
    · rintro i v H' hi ⟨s', hD'⟩
      obtain ⟨t, ht, rfl⟩ := getnV hi
      refine ⟨rfl, ?_⟩
      unfold tYes
      dsimp only
      rw [if_pos rfl]
      refine ⟨_, rfl, a, dx, _, rfl, s' _ _ h1, swapF_no, _, rfl, a, t, f, x, y, rfl, hs.mono s', _, hD', ?_, ?_⟩
      · refine lt_line ?_
        unfold VapatBase.swapAll
        rw [List.length_map, List.length_map, List.length_take]
        omega
      · refine ⟨s'.upd hD, ?_⟩
        show upd _ D _ D = _
        rw [upd_same, take_one ht]
        unfold VapatBase.swapAll
        simp
    · rintro H' ⟨s', hD'⟩
      rw [List.length_map, List.take_length] at hD'
      exact k H' D s' hD'
theorem ok_10 (T : Txt K mg A) : FnOk P w K mg base CX0 3 A.f_10 A.d_10 ["self", "name"] (spInside A 0) := by
  refine T.F_10.ok sc_10 (fun vs H Q E h => ?_) (fun cdv A' outer s H vs Q E hr h => ?_)
  · obtain ⟨a, g, p, rfl, _⟩ := h
    rfl
  · obtain ⟨a, g, p, rfl, hk, hs, k⟩ := h
    cases p with
    | hunk f pl o n =>
      obtain ⟨dx, po, pn, h1, h2, h3⟩ := hs
      refine ⟨_, (pss_one (ps_ret (pe_make T.mkHunk (ok_9 T) (hr.mono (by decide)) rfl T.mgHunk T.b_9 .nil pass0 (pa_cons (pv 1) (pa_cons (pe_fld (pv 0) rfl) (pa_cons (pe_fld (pv 0) rfl) (pa_cons (pe_fld (pv 0) rfl) pa_nil))))))), ?_⟩
      exact ⟨_, rfl, ⟨_, rfl, _, _, _, _, _, rfl, h1, T.clHunk, T.na_Hunk_place, hf2, _, rfl, _, _, _, _, _, rfl, h1, T.clHunk, T.na_Hunk_old, hf3, _, rfl, _, _, _, _, _, rfl, h1, T.clHunk, T.na_Hunk_new, hf4, make_hunk (C := cs A) h2 h3 k⟩⟩
    | _ => cases hk
theorem ok_31 (T : Txt K mg A) : FnOk P w K mg base CX0 3 A.f_31 A.d_31 ["self", "name"] (spInside A 1) := by
  refine T.F_31.ok sc_31 (fun vs H Q E h => ?_) (fun cdv A' outer s H vs Q E hr h => ?_)
  · obtain ⟨a, g, p, rfl, _⟩ := h
    rfl
  · obtain ⟨a, g, p, rfl, hk, hs, k⟩ := h
    cases p with
    | swap f x y =>
      obtain ⟨dx, h1⟩ := hs
      refine ⟨_, (pss_one (ps_ret (pe_make T.mkSwap (ok_30 T) (hr.mono (by decide)) rfl T.mgSwap T.b_30 .nil pass0 (pa_cons (pv 1) (pa_cons (pe_fld (pv 0) rfl) (pa_cons (pe_fld (pv 0) rfl) pa_nil)))))), ?_⟩
      exact ⟨_, rfl, ⟨_, rfl, _, _, _, _, _, rfl, h1, T.clSwap, T.na_Swap_one, sf2, _, rfl, _, _, _, _, _, rfl, h1, T.clSwap, T.na_Swap_other, sf3, make_swap (C := cs A) k⟩⟩
    | _ => cases hk
theorem ok_12 (T : Txt K mg A) : FnOk P w K mg base CX0 3 A.f_12 A.d_12 ["self", "lower", "higher"] (spShifted A) := by
  refine T.F_12.ok sc_12 (fun vs H Q E h => ?_) (fun cdv A' outer s H vs Q E hr h => ?_)
  · obtain ⟨a, lo, hi, f, pl, o, n, rfl, _⟩ := h
    rfl
  · obtain ⟨a, lo, hi, f, pl, o, n, rfl, ⟨dx, po, pn, h1, h2, h3⟩, hlo, k⟩ := h
    refine ⟨_, (pss_one (ps_ret (pe_make T.mkHunk (ok_9 T) (hr.mono (by decide)) rfl T.mgHunk T.b_9 .nil pass0 (pa_cons (pe_fld (pv 0) rfl) (pa_cons (pe_op op_add (pe_op op_sub (pe_fld (pv 0) rfl) (pv 1)) (pv 2)) (pa_cons (pe_fld (pv 0) rfl) (pa_cons (pe_fld (pv 0) rfl) pa_nil))))))), ?_⟩
    refine ⟨_, rfl, _, _, _, _, _, rfl, h1, T.clHunk, T.na_Hunk_name, hf1, _, rfl, _, _, _, _, _, rfl, h1, T.clHunk, T.na_Hunk_place, hf2, _, rfl, _, _, rfl, rfl, _, rfl, _, _, rfl, rfl, ⟨_, rfl, _, _, _, _, _, rfl, h1, T.clHunk, T.na_Hunk_old, hf3, _, rfl, _, _, _, _, _, rfl, h1, T.clHunk, T.na_Hunk_new, hf4, ?_⟩⟩
    have e : V.int ((pl : Int) - (lo : Int) + (hi : Int)) = nV (pl - lo + hi) := by unfold nV; congr 1; omega
    exact make_hunk' (C := cs A) e h2 h3 k
theorem ok_6 (T : Txt K mg A) : FnOk P w K mg base CX0 1 A.f_6 A.d_6 ["self", "tree"] (spApplied A 0) := by
  refine T.F_6.ok sc_6 (fun vs H Q E h => ?_) (fun cdv A' outer s H vs Q E hr h => ?_)
  · obtain ⟨a, b, p, t, u, rfl, _⟩ := h
    rfl
  · obtain ⟨a, b, p, t, u, rfl, hk, hs, hsm, ⟨kvs, hb, ht⟩, hri, hlow, hap, k⟩ := h
    cases p with
    | hunk f pl o n =>
      obtain ⟨dx, po, pn, h1, h2, h3⟩ := hs
      obtain ⟨_, lo, ln⟩ := hsm
      dsimp only [VapatBase.applied] at hap
      cases e : VapatBase.fileIn t f with
      | none => rw [e] at hap; cases hap
      | some c =>
        rw [e] at hap
        dsimp only [Option.bind_some] at hap
        unfold VapatBase.spliced at hap
        by_cases hc : pl ≤ c.length ∧ (c.drop pl).take o.length = o
        · rw [if_pos hc] at hap
          have hu : VapatBase.putFile f (c.take pl ++ (n ++ c.drop (pl + o.length))) t = u := Option.some.inj hap
          subst hu
          obtain ⟨r, e1, hr1⟩ := ht.get e
          have lc : c.length ≤ 100000 := (VM.low_file hlow e).2
          refine ⟨_, (pss_cons (ps_set (i := 2) sc_6.nd rfl (Or.inl rfl) (pe_dget (hu_of hr) (pv 1) (pe_fld (pv 0) rfl) (fun _ _ => rfl)))
        (pss_cons (ps_set (i := 3) sc_6.nd rfl (Or.inl rfl) (pe_callTy call_dict_of (by rfl) T.n_dict boot_dict (pa_cons (pv 1) pa_nil)))
        (pss_cons (ps_dput (hu_of hr) (pv 3) (pe_fld (pv 0) rfl) (pe_op op_cat (pe_op op_cat (pe_slice sl_list (pv 2) po_none (po_some (pe_fld (pv 0) rfl))) (pe_fld (pv 0) rfl)) (pe_slice sl_list (pv 2) (po_some (pe_op op_add (pe_fld (pv 0) rfl) (pe_callB call_len_seq (by rfl) T.n_len PySem.boot_len (pa_cons (pe_fld (pv 0) rfl) pa_nil)))) po_none)) rfl)
        (pss_one (ps_ret (pv 3)))))), ?_⟩
          refine ⟨_, rfl, ⟨_, rfl, _, _, _, _, _, rfl, h1, T.clHunk, T.na_Hunk_name, hf1, b, _, rfl, (by have := DGet.k (k := fk f) hb; rw [e1] at this; exact this), ?_⟩⟩
          refine ⟨_, rfl, b, kvs, rfl, hb, fun q hq => ?_⟩
          have s0 : Same H (upd H q (.dK kvs)) := Same.new hq
          refine ⟨_, rfl, ⟨_, rfl, _, _, _, _, _, rfl, (s0 _ _ h1), T.clHunk, T.na_Hunk_place, hf2, _, rfl, r, _, rfl, SqL.of (s0 _ _ hr1), fun l1 g1 => ?_⟩⟩
          have s1 := s0.trans (Same.new (o := .lst (cutV (c.map nV) none (some (pl : Int)))) g1)
          refine ⟨_, rfl, _, _, _, _, _, rfl, (s1 _ _ h1), T.clHunk, T.na_Hunk_new, hf4, l1, pn, _, _, rfl, rfl, upd_same, s1 _ _ h3, ?_, fun l2 g2 => ?_⟩
          · rw [cut_to]
            refine le_line ?_
            rw [List.length_take, List.length_map, List.length_map]
            omega
          have s2 := s1.trans (Same.new (o := .lst (cutV (c.map nV) none (some (pl : Int)) ++ n.map nV)) g2)
          refine ⟨_, rfl, ⟨_, rfl, _, _, _, _, _, rfl, (s2 _ _ h1), T.clHunk, T.na_Hunk_place, hf2, _, rfl, _, _, _, _, _, rfl, (s2 _ _ h1), T.clHunk, T.na_Hunk_old, hf3, po, _, rfl, .inl (SqL.of (s2 _ _ h2)), _, _, rfl, rfl, _, rfl, r, _, rfl, SqL.of (s2 _ _ hr1), fun l3 g3 => ?_⟩⟩
          have ecut : cutV (c.map nV) (some ((pl : Int) + ((o.map nV).length : Nat))) none = (c.map nV).drop (pl + o.length) := by
            have : (pl : Int) + ((o.map nV).length : Nat) = ((pl + o.length : Nat) : Int) := by rw [List.length_map]; omega
            rw [this, cut_from]
          have s3 := s2.trans (Same.new (o := .lst (cutV (c.map nV) (some ((pl : Int) + ((o.map nV).length : Nat))) none)) g3)
          refine ⟨l2, l3, _, _, rfl, rfl, (by rw [upd_ne (ne_of_none upd_same g3)]; exact upd_same), upd_same, ?_, fun l4 g4 => ?_⟩
          · rw [cut_to, ecut]
            refine le_line ?_
            rw [List.length_append, List.length_take, List.length_map, List.length_map, List.length_drop, List.length_map]
            omega
          have s4 := s3.trans (Same.new (o := .lst ((cutV (c.map nV) none (some (pl : Int)) ++ n.map nV) ++ cutV (c.map nV) (some ((pl : Int) + ((o.map nV).length : Nat))) none)) g4)
          have hq1 : (upd (upd (upd (upd (upd H q (.dK kvs)) l1 (.lst (cutV (c.map nV) none (some (pl : Int))))) l2 (.lst (cutV (c.map nV) none (some (pl : Int)) ++ n.map nV))) l3 (.lst (cutV (c.map nV) (some ((pl : Int) + ((o.map nV).length : Nat))) none)))
              l4 (.lst ((cutV (c.map nV) none (some (pl : Int)) ++ n.map nV) ++ cutV (c.map nV) (some ((pl : Int) + ((o.map nV).length : Nat))) none))) q = some (.dK kvs) :=
            (Same.new g4) _ _ ((Same.new g3) _ _ ((Same.new g2) _ _ ((Same.new g1) _ _ upd_same)))
          refine ⟨_, rfl, ⟨_, rfl, _, _, _, _, _, rfl, (s4 _ _ h1), T.clHunk, T.na_Hunk_name, hf1, q, _, rfl, DPut.k (k := fk f) hq1 (lt_line ?_), ?_⟩⟩
          · have := ht.length hri
            have := VM.low_len hri hlow
            omega
          have s5 := s4.upd (o := .dK (putK kvs (fk f) (.ref l4))) hq
          refine ⟨_, rfl, k _ q s5 ⟨_, upd_same, (ht.mono s5).put hri ?_⟩⟩
          show upd _ q _ l4 = _
          rw [upd_ne (fun z => by rw [z, (Same.new g3) _ _ ((Same.new g2) _ _ ((Same.new g1) _ _ (upd_same (H := H) (a := q) (o := .dK kvs))))] at g4; cases g4), upd_same, cut_to, ecut]
          simp
        · rw [if_neg hc] at hap
          cases hap
    | _ => cases hk
theorem ok_27 (T : Txt K mg A) : FnOk P w K mg base CX0 3 A.f_27 A.d_27 ["self", "tree"] (spApplied A 1) := by
  refine T.F_27.ok sc_27 (fun vs H Q E h => ?_) (fun cdv A' outer s H vs Q E hr h => ?_)
  · obtain ⟨a, b, p, t, u, rfl, _⟩ := h
    rfl
  · obtain ⟨a, b, p, t, u, rfl, hk, hs, hsm, ⟨kvs, hb, ht⟩, hri, hlow, hap, k⟩ := h
    cases p with
    | swap f x y =>
      have hs' := hs
      obtain ⟨dx, h1⟩ := hs'
      dsimp only [VapatBase.applied] at hap
      cases e : VapatBase.fileIn t f with
      | none => rw [e] at hap; cases hap
      | some c =>
        rw [e] at hap
        have hu : VapatBase.putFile f (VapatBase.swapAll x y c) t = u := Option.some.inj hap
        subst hu
        obtain ⟨r, e1, hr1⟩ := ht.get e
        have lc : c.length ≤ 100000 := (VM.low_file hlow e).2
        refine ⟨_, (pss_cons (ps_set (i := 2) sc_27.nd rfl (Or.inl rfl) (pe_callTy call_dict_of (by rfl) T.n_dict boot_dict (pa_cons (pv 1) pa_nil)))
        (pss_cons (ps_dput (hu_of hr) (pv 2) (pe_fld (pv 0) rfl) (pe_meth (pv 0) T.clSwap T.m_34 (ok_34 T) (hr.mono (by decide)) T.b_34 .nil pass0 (pa_cons (pe_dget (hu_of hr) (pv 1) (pe_fld (pv 0) rfl) (fun _ _ => rfl)) pa_nil)) rfl)
        (pss_one (ps_ret (pv 2))))), ?_⟩
        refine ⟨_, rfl, b, kvs, rfl, hb, fun q hq => ?_⟩
        have s0 : Same H (upd H q (.dK kvs)) := Same.new hq
        refine ⟨_, rfl, a, dx, _, rfl, s0 _ _ h1, swapF_no, _, rfl, ⟨_, rfl, _, _, _, _, _, rfl, (s0 _ _ h1), T.clSwap, T.na_Swap_name, sf1, b, _, rfl, (by have := DGet.k (k := fk f) (s0 _ _ hb); rw [e1] at this; exact this), a, r, f, x, y, c, rfl, hs.mono s0, s0 _ _ hr1, lc, fun H' l s1 hl => ?_⟩⟩
        have hq' := s1 _ _ (upd_same (H := H) (a := q) (o := .dK kvs))
        refine ⟨_, rfl, ⟨_, rfl, _, _, _, _, _, rfl, ((s0.trans s1) _ _ h1), T.clSwap, T.na_Swap_name, sf1, q, _, rfl, DPut.k (k := fk f) hq' (lt_line ?_), ?_⟩⟩
        · have := ht.length hri
          have := VM.low_len hri hlow
          omega
        have s5 := (s0.trans s1).upd (o := .dK (putK kvs (fk f) (.ref l))) hq
        refine ⟨_, rfl, k _ q s5 ⟨_, upd_same, (ht.mono s5).put hri ?_⟩⟩
        show upd _ q _ l = _
        rw [upd_ne (ne_of hl hq' (by intro z; cases z))]
        exact hl
    | _ => cases hk
theorem ok_0 (T : Txt K mg A) : FnOk P w K mg base CX0 1 A.f_0 A.d_0 ["self", "tree"] (spApplied A 2) := by
  refine T.F_0.ok sc_0 (fun vs H Q E h => ?_) (fun cdv A' outer s H vs Q E hr h => ?_)
  · obtain ⟨a, b, p, t, u, rfl, _⟩ := h
    rfl
  · obtain ⟨a, b, p, t, u, rfl, hk, hs, hsm, ⟨kvs, hb, ht⟩, hri, hlow, hap, k⟩ := h
    cases p with
    | add f =>
      obtain ⟨dx, h1⟩ := hs
      dsimp only [VapatBase.applied] at hap
      cases e : VapatBase.fileIn t f with
      | some c => rw [e] at hap; cases hap
      | none =>
        rw [e] at hap
        have hu : VapatBase.putFile f [] t = u := Option.some.inj hap
        subst hu
        refine ⟨_, (pss_cons (ps_set (i := 2) sc_0.nd rfl (Or.inl rfl) (pe_callTy call_dict_of (by rfl) T.n_dict boot_dict (pa_cons (pv 1) pa_nil)))
        (pss_cons (ps_dput (hu_of hr) (pv 2) (pe_fld (pv 0) rfl) (pe_lst pa_nil) rfl)
        (pss_one (ps_ret (pv 2))))), ?_⟩
        refine ⟨_, rfl, b, kvs, rfl, hb, fun q hq => ?_⟩
        have s0 : Same H (upd H q (.dK kvs)) := Same.new hq
        refine ⟨Nat.zero_le _, fun l hl => ?_⟩
        have s1 := s0.trans (Same.new (o := .lst []) hl)
        have hq' := (Same.new (o := .lst []) hl) _ _ (upd_same (H := H) (a := q) (o := .dK kvs))
        refine ⟨_, rfl, ⟨_, rfl, _, _, _, _, _, rfl, (s1 _ _ h1), T.clAdded, T.na_Added_name, nf1, q, _, rfl, DPut.k (k := fk f) hq' (lt_line ?_), ?_⟩⟩
        · have := ht.length hri
          have := VM.low_len hri hlow
          omega
        have s5 := s1.upd (o := .dK (putK kvs (fk f) (.ref l))) hq
        refine ⟨_, rfl, k _ q s5 ⟨_, upd_same, (ht.mono s5).put hri ?_⟩⟩
        show upd _ q _ l = _
        rw [upd_ne (fun z => by rw [z, upd_same] at hl; cases hl), upd_same]
        rfl
    | _ => cases hk
theorem ok_20 (T : Txt K mg A) : FnOk P w K mg base CX0 1 A.f_20 A.d_20 ["self", "tree"] (spApplied A 3) := by
  refine T.F_20.ok sc_20 (fun vs H Q E h => ?_) (fun cdv A' outer s H vs Q E hr h => ?_)
  · obtain ⟨a, b, p, t, u, rfl, _⟩ := h
    rfl
  · obtain ⟨a, b, p, t, u, rfl, hk, hs, hsm, ⟨kvs, hb, ht⟩, hri, hlow, hap, k⟩ := h
    cases p with
    | remove f =>
      obtain ⟨dx, h1⟩ := hs
      dsimp only [VapatBase.applied] at hap
      by_cases e : VapatBase.fileIn t f = some []
      · rw [if_pos e] at hap
        have hu : VapatBase.dropFile f t = u := Option.some.inj hap
        subst hu
        obtain ⟨r, e1, hr1⟩ := ht.get e
        refine ⟨_, (pss_cons (ps_set (i := 2) sc_20.nd rfl (Or.inl rfl) (pe_callTy call_dict_of (by rfl) T.n_dict boot_dict (pa_cons (pv 1) pa_nil)))
        (pss_cons (ps_expr (pe_dpop1 (pv 2) (pe_fld (pv 0) rfl) ⟨rfl, rfl, rfl, rfl⟩))
        (pss_one (ps_ret (pv 2))))), ?_⟩
        refine ⟨_, rfl, b, kvs, rfl, hb, fun q hq => ?_⟩
        have s0 : Same H (upd H q (.dK kvs)) := Same.new hq
        refine ⟨_, rfl, q, rfl, .inl ⟨kvs, .inl upd_same⟩, ⟨_, rfl, _, _, _, _, _, rfl, (s0 _ _ h1), T.clRemoved, T.na_Removed_name, nf1, kvs, fk f, _, upd_same, rfl, e1, ?_⟩⟩
        have s5 := s0.upd (o := .dK (dropK kvs (fk f))) hq
        exact ⟨_, rfl, k _ q s5 ⟨_, upd_same, (ht.mono s5).drop⟩⟩
      · rw [if_neg e] at hap
        cases hap
    | _ => cases hk
theorem ok_14 (T : Txt K mg A) : FnOk P w K mg base CX0 1 A.f_14 A.d_14 ["self", "tree"] (spApplied A 4) := by
  refine T.F_14.ok sc_14 (fun vs H Q E h => ?_) (fun cdv A' outer s H vs Q E hr h => ?_)
  · obtain ⟨a, b, p, t, u, rfl, _⟩ := h
    rfl
  · obtain ⟨a, b, p, t, u, rfl, hk, hs, hsm, ⟨kvs, hb, ht⟩, hri, hlow, hap, k⟩ := h
    cases p with
    | move f g =>
      obtain ⟨dx, h1⟩ := hs
      dsimp only [VapatBase.applied] at hap
      cases e : VapatBase.fileIn t f with
      | none => rw [e] at hap; cases hap
      | some c =>
        cases e2 : VapatBase.fileIn t g with
        | some d => rw [e, e2] at hap; cases hap
        | none =>
          rw [e, e2] at hap
          have hu : VapatBase.putFile g c (VapatBase.dropFile f t) = u := Option.some.inj hap
          subst hu
          obtain ⟨r, e1, hr1⟩ := ht.get e
          refine ⟨_, (pss_cons (ps_set (i := 2) sc_14.nd rfl (Or.inl rfl) (pe_callTy call_dict_of (by rfl) T.n_dict boot_dict (pa_cons (pv 1) pa_nil)))
        (pss_cons (ps_dput (hu_of hr) (pv 2) (pe_fld (pv 0) rfl) (pe_dpop1 (pv 2) (pe_fld (pv 0) rfl) ⟨rfl, rfl, rfl, rfl⟩) rfl)
        (pss_one (ps_ret (pv 2))))), ?_⟩
          refine ⟨_, rfl, b, kvs, rfl, hb, fun q hq => ?_⟩
          have s0 : Same H (upd H q (.dK kvs)) := Same.new hq
          refine ⟨_, rfl, q, rfl, .inl ⟨kvs, .inl upd_same⟩, ⟨_, rfl, _, _, _, _, _, rfl, (s0 _ _ h1), T.clMoved, T.na_Moved_old_name, mf1, kvs, fk f, _, upd_same, rfl, e1, ?_⟩⟩
          have s1 := s0.upd (o := .dK (dropK kvs (fk f))) hq
          refine ⟨_, rfl, ⟨_, rfl, _, _, _, _, _, rfl, (s1 _ _ h1), T.clMoved, T.na_Moved_new_name, mf2, q, _, rfl, DPut.k (k := fk g) upd_same (lt_line ?_), ?_⟩⟩
          · have := ht.length hri
            have := VM.low_len hri hlow
            have := dropK_le kvs (fk f)
            omega
          have s5 := s1.upd (o := .dK (putK (dropK kvs (fk f)) (fk g) (.ref r))) hq
          exact ⟨_, rfl, k _ q s5 ⟨_, upd_same, (ht.mono s5).drop.put (VM.rising_drop hri) (s5 _ _ hr1)⟩⟩
    | _ => cases hk
end
end P58
end
section
set_option Elab.async false
set_option linter.all false
set_option maxRecDepth 100000
set_option maxHeartbeats 1000000
namespace P58
open PySem PySem.Spec PyProof.Rows L2
def Disp (X : Cx) (C : Cs) (ok : VStep → Prop) (m : Str) (k : Nat) (ps : List Str) (sp : Nat → Sp) : Prop :=
  ∀ p : VStep, ok p → ∃ f fd, Cls X.K (clsOf C p) ∧ Meth X.K (clsOf C p) m f ∧ FnOk X.prog X.w X.K X.mg X.base CX0 k f fd ps (sp (kd p)) ∧ Binds X.K fd ps []
def tDyn (C : Cs) (ok : VStep → Prop) (sp : Nat → Sp) (ta : TE) (t : TA) : TE := fun σ H Q => ta σ H fun x H1 => ∃ a p, x = .ref a ∧ ok p ∧ StepAt C H1 a p ∧ t σ H1 fun vs H2 => sp (kd p) (x :: (vs ++ [])) H2 Q E0
section
variable {X : Cx} {C : Cs} {ok : VStep → Prop} {m : Str} {k : Nat} {ps : List Str} {sp : Nat → Sp} {o e : Expr} {es : List Expr} {ta : TE} {t : TA} {pos apos : Pos}
theorem pe_dyn {pl : Sem Bool} (D : Disp X C ok m k ps sp) (hr : Room k X.A) (hno : m ∉ fieldNames) (he : PE X o ta) (ha : PA X (e :: es) t)
    (hst : starEach (e :: es) X.env = (false, eval e X.env) :: starEach es X.env := by rfl) (hpl : (backTo pos (starEach es X.env)).any (·.1) = false := by rfl)
    (ht : eval (.Call (.Attribute o m apos) (e :: es) [] pos) X.env = (do
      let ov ← eval o X.env
      standAt apos.atName
      let (f, first) ← holding [ov] (getMethod ov m pl)
      callWith pos f first (backTo pos (starEach (e :: es) X.env)) (backToKw pos (keywordEach [] X.env))) := by rfl) :
    PE X (.Call (.Attribute o m apos) (e :: es) [] pos) (tDyn C ok sp ta t) := by
  intro pins s σ H Q I h
  refine PySem.W.methodCall_KW (pl := pl) (thn (he pins s σ H _ I h) fun u s1 ⟨x, H1, I1, rx, a, p, ex, hok, hs, q⟩ => ?_) ht
  subst ex
  obtain rfl : u = Value.ref a := rx
  obtain ⟨dx, fs, h1, hn⟩ := hs.ins
  obtain ⟨f, fd, cl, hm, F, hb⟩ := D p hok
  refine getmeth_ok I1 h1 cl hm (hn m hno) ?_
  refine PySem.W.callWith_K (first := [.ref a]) (h₀ := X.base) I.ok.mod.kin hm.kp (thn (ha pos pins s1 σ H1 _ I1 q) fun us s2 ⟨vs, H2, I2, r, q2⟩ => ⟨I2.kIn, ?_⟩) hst hpl
  exact run_fn (E := E0) (us := .ref a :: us) (vs := .ref a :: vs) F hr hb .nil pass0 I2 (.cons rfl r) q2
theorem pe_dyn0 {pl : Sem Bool} (D : Disp X C ok m k ps sp) (hr : Room k X.A) (hno : m ∉ fieldNames) (he : PE X o ta)
    (ht : eval (.Call (.Attribute o m apos) [] [] pos) X.env = (do
      let ov ← eval o X.env
      standAt apos.atName
      let (f, first) ← holding [ov] (getMethod ov m pl)
      callWith pos f first (backTo pos (starEach [] X.env)) (backToKw pos (keywordEach [] X.env))) := by rfl) :
    PE X (.Call (.Attribute o m apos) [] [] pos) (tDyn C ok sp ta tNil) := by
  intro pins s σ H Q I h
  refine PySem.W.methodCall_KW (pl := pl) (thn (he pins s σ H _ I h) fun u s1 ⟨x, H1, I1, rx, a, p, ex, hok, hs, q⟩ => ?_) ht
  subst ex
  obtain rfl : u = Value.ref a := rx
  obtain ⟨dx, fs, h1, hn⟩ := hs.ins
  obtain ⟨f, fd, cl, hm, F, hb⟩ := D p hok
  refine getmeth_ok I1 h1 cl hm (hn m hno) ?_
  exact PySem.W.callWith_K0 (first := [.ref a]) I1.kIn hm.kp (run_fn (E := E0) (us := [.ref a]) (vs := [.ref a]) F hr hb .nil pass0 I1 (.cons rfl .nil) q)
end
def any5 : VStep → Prop := fun _ => True
section
variable {X : Cx} {A : Adr}
theorem D_names (T : Txt X.K X.mg A) : Disp X (cs A) any5 "names" 1 ["self"] (spNames A) := fun p _ => by
  cases p with
  | hunk => exact ⟨_, _, T.clHunk, T.m_11, ok_11 T, T.b_11⟩
  | swap => exact ⟨_, _, T.clSwap, T.m_33, ok_33 T, T.b_33⟩
  | add => exact ⟨_, _, T.clAdded, T.m_4, ok_4 T, T.b_4⟩
  | remove => exact ⟨_, _, T.clRemoved, T.m_24, ok_24 T, T.b_24⟩
  | move => exact ⟨_, _, T.clMoved, T.m_18, ok_18 T, T.b_18⟩
theorem D_as_numbers (T : Txt X.K X.mg A) : Disp X (cs A) any5 "as_numbers" 1 ["self"] (spFlat A) := fun p _ => by
  cases p with
  | hunk => exact ⟨_, _, T.clHunk, T.m_7, ok_7 T, T.b_7⟩
  | swap => exact ⟨_, _, T.clSwap, T.m_28, ok_28 T, T.b_28⟩
  | add => exact ⟨_, _, T.clAdded, T.m_1, ok_1 T, T.b_1⟩
  | remove => exact ⟨_, _, T.clRemoved, T.m_21, ok_21 T, T.b_21⟩
  | move => exact ⟨_, _, T.clMoved, T.m_15, ok_15 T, T.b_15⟩
theorem D_fits (T : Txt X.K X.mg A) : Disp X (cs A) any5 "fits" 1 ["self", "tree"] (spFits A) := fun p _ => by
  cases p with
  | hunk => exact ⟨_, _, T.clHunk, T.m_8, ok_8 T, T.b_8⟩
  | swap => exact ⟨_, _, T.clSwap, T.m_29, ok_29 T, T.b_29⟩
  | add => exact ⟨_, _, T.clAdded, T.m_2, ok_2 T, T.b_2⟩
  | remove => exact ⟨_, _, T.clRemoved, T.m_22, ok_22 T, T.b_22⟩
  | move => exact ⟨_, _, T.clMoved, T.m_16, ok_16 T, T.b_16⟩
theorem D_applied (T : Txt X.K X.mg A) : Disp X (cs A) any5 "applied" 3 ["self", "tree"] (spApplied A) := fun p _ => by
  cases p with
  | hunk => exact ⟨_, _, T.clHunk, T.m_6, (ok_6 T).mono (by decide), T.b_6⟩
  | swap => exact ⟨_, _, T.clSwap, T.m_27, ok_27 T, T.b_27⟩
  | add => exact ⟨_, _, T.clAdded, T.m_0, (ok_0 T).mono (by decide), T.b_0⟩
  | remove => exact ⟨_, _, T.clRemoved, T.m_20, (ok_20 T).mono (by decide), T.b_20⟩
  | move => exact ⟨_, _, T.clMoved, T.m_14, (ok_14 T).mono (by decide), T.b_14⟩
theorem D_inside (T : Txt X.K X.mg A) : Disp X (cs A) (fun p => VapatBase.isInside p = true) "inside" 3 ["self", "name"] (spInside A) := fun p hp => by
  cases p with
  | hunk => exact ⟨_, _, T.clHunk, T.m_10, ok_10 T, T.b_10⟩
  | swap => exact ⟨_, _, T.clSwap, T.m_31, ok_31 T, T.b_31⟩
  | _ => cases hp
end
section
variable {P : Program} {w : World} {K : PySem.W.Frag} {mg : Str → Option Value} {base : Heap} {A : Adr}
theorem flatStep_len {p : VStep} (h : VM.small p) : (VapatBase.flatStep p).length ≤ 21 := by
  cases p with
  | hunk f pl o n =>
    obtain ⟨_, h1, h2⟩ := h
    simp [VapatBase.flatStep, VapatBase.listed, VapatBase.ints]
    omega
  | _ => simp [VapatBase.flatStep]
theorem flats_len : ∀ {l : List VStep}, VM.smalls l → (l.flatMap VapatBase.flatStep).length ≤ 21 * l.length
  | [], _ => Nat.le_refl _
  | p :: l, h => by
    have h1 := flatStep_len (VM.smalls_cons.mp h).1
    have h2 := flats_len (VM.smalls_cons.mp h).2
    rw [List.flatMap_cons, List.length_append, List.length_cons]
    omega
def spRowApplied (A : Adr) : Sp := fun vs H Q _ => ∃ b r t row u m, vs = [.ref b, .ref r] ∧ TreeAt H b t ∧ RowAt (cs A) H r row ∧ VM.Rising t ∧ VM.smalls row ∧ VM.Low m t ∧ m + 8 * row.length ≤ 100000 ∧ VapatBase.appliedAll t row = some u ∧ ∀ H' c, Same H H' → TreeAt H' c u → Q (.ref c) H'
theorem ok_65 (T : Txt K mg A) : FnOk P w K mg base CX0 5 A.f_65 A.d_65 ["tree", "row"] (spRowApplied A) := by
  refine T.F_65.ok sc_65 (fun vs H Q E h => ?_) (fun cdv A' outer s H vs Q E hr h => ?_)
  · obtain ⟨b, r, t, row, u, m, rfl, _⟩ := h
    rfl
  · obtain ⟨b, r, t, row, u, m, rfl, ht, ⟨as, hr1, hrow⟩, hri, hsm, hlow, hm, hap, k⟩ := h
    refine ⟨_, (pss_cons (ps_for PassesOwn.never rfl (pi_list (pv 1)) (pg_name (i := 2) sc_65.nd rfl (Or.inl rfl))
          (pss_one (ps_set (i := 0) sc_65.nd rfl (Or.inl rfl) (pe_dyn (D_applied T) (hr.mono (by decide)) (by decide +kernel) (pv 2) (pa_cons (pv 0) pa_nil)))))
        (pss_one (ps_ret (pv 0)))), ?_⟩
    refine ⟨_, rfl, r, rfl, ⟨_, SqL.of hr1⟩, for_list (K := K) (a := r) (xs := as.map V.ref) (fun i σ H' => ∃ c v ti, σ = [some (.ref c), some (.ref r), v] ∧ Same H H' ∧ TreeAt H' c ti ∧ VapatBase.appliedAll t (row.take i) = some ti)
      ⟨b, none, t, rfl, Same.refl H, ht, rfl⟩ (fun i σ H' _ ⟨_, _, _, _, s', _⟩ => SqL.of (s' _ _ hr1)) ?_ ?_⟩
    · rintro i y σ H' hi ⟨c, v, ti, rfl, s', hc, hti⟩
      rw [List.getElem?_map] at hi
      cases e : as[i]? with
      | none => rw [e] at hi; cases hi
      | some a =>
        rw [e] at hi
        have ey : V.ref a = y := Option.some.inj hi
        subst ey
        obtain ⟨p, hp, hpa⟩ := hrow.get' e
        have hap' := hap
        rw [← List.take_append_drop (i + 1) row] at hap'
        obtain ⟨ti', h1, _⟩ := VM.appliedAll_app.mp hap'
        have h2 := h1
        rw [take_one hp] at h2
        obtain ⟨tj, h3, h4⟩ := VM.appliedAll_app.mp h2
        rw [hti] at h3
        cases h3
        obtain ⟨tk, h5, h6⟩ := VM.appliedAll_cons.mp h4
        cases h6
        have lowi := VM.low_appliedAll hlow (VM.smalls_take i hsm) hti
        have lowi' : VM.Low 100000 ti := VM.low_mono lowi (by rw [List.length_take]; omega)
        refine ⟨_, rfl, a, p, rfl, trivial, hpa.mono s', _, rfl, a, c, p, ti, ti', rfl, rfl, hpa.mono s', hsm p (List.mem_of_getElem? hp), hc, VM.appliedAll_rising hri hti, lowi', h5, fun H'' c' s'' hc' => ?_⟩
        exact ⟨c', _, ti', rfl, s'.trans s'', hc', h1⟩
    · rintro σ H' ⟨c, v, ti, rfl, s', hc, hti⟩
      have hl := hrow.length
      rw [List.length_map, hl, List.take_length, hap] at hti
      cases hti
      exact ⟨_, rfl, k H' c s' hc⟩
def spRowNumbers (A : Adr) : Sp := fun vs H Q _ => ∃ r row, vs = [.ref r] ∧ RowAt (cs A) H r row ∧ VM.smalls row ∧ row.length ≤ 1000 ∧ ∀ H' l, H l = none → Same H H' → IL H' l (VapatBase.flatSteps row) → Q (.ref l) H'
theorem ok_66 (T : Txt K mg A) : FnOk P w K mg base CX0 3 A.f_66 A.d_66 ["row"] (spRowNumbers A) := by
  refine T.F_66.ok sc_66 (fun vs H Q E h => ?_) (fun cdv A' outer s H vs Q E hr h => ?_)
  · obtain ⟨r, row, rfl, _⟩ := h
    rfl
  · obtain ⟨r, row, rfl, ⟨as, hr1, hrow⟩, hsm, hlen, k⟩ := h
    have hl := hrow.length
    refine ⟨_, (pss_cons (ps_set (i := 1) sc_66.nd rfl (Or.inl rfl) (pe_lst (pa_cons (pe_callB call_len_seq (by rfl) T.n_len PySem.boot_len (pa_cons (pv 0) pa_nil)) pa_nil)))
        (pss_cons (ps_for PassesOwn.never rfl (pi_list (pv 0)) (pg_name (i := 2) sc_66.nd rfl (Or.inl rfl))
          (pss_one (ps_expr (pe_bm PySem.F.plainAttrs_list PySem.F.slot_list_extend PySem.F.type_list_extend mt_extend (pv 1) (pa_cons (pe_dyn0 (D_as_numbers T) (hr.mono (by decide)) (by decide +kernel) (pv 2)) pa_nil)))))
        (pss_one (ps_ret (pv 1))))), ?_⟩
    refine ⟨_, rfl, r, _, rfl, .inl (SqL.of hr1), (by show 1 ≤ sizeLine; decide), fun l gl => ?_⟩
    have s0 := Same.new (o := .lst [.int ((as.map V.ref).length : Nat)]) gl
    refine ⟨_, rfl, r, rfl, ⟨_, SqL.of (s0 _ _ hr1)⟩, for_list (K := K) (a := r) (xs := as.map V.ref) (fun i σ H' => ∃ v, σ = [some (.ref r), some (.ref l), v] ∧ Same H H' ∧ IL H' l (VapatBase.int row.length :: (row.take i).flatMap VapatBase.flatStep))
      ⟨none, rfl, s0, (by show upd _ l _ l = _; rw [upd_same, List.length_map, hl]; rfl)⟩ (fun i σ H' _ ⟨_, _, s', _⟩ => SqL.of (s' _ _ hr1)) ?_ ?_⟩
    · rintro i y σ H' hi ⟨v, rfl, s', hl'⟩
      rw [List.getElem?_map] at hi
      cases e : as[i]? with
      | none => rw [e] at hi; cases hi
      | some a =>
        rw [e] at hi
        have ey : V.ref a = y := Option.some.inj hi
        subst ey
        obtain ⟨p, hp, hpa⟩ := hrow.get' e
        have hsp := hsm p (List.mem_of_getElem? hp)
        refine ⟨_, rfl, .inl ⟨rfl, _, SqL.of hl'⟩, _, rfl, a, p, rfl, trivial, hpa.mono s', a, p, rfl, rfl, hpa.mono s', hsp, fun H'' l2 _ s'' hl2 => ?_⟩
        refine ⟨l, l2, _, _, rfl, rfl, s'' _ _ hl', hl2, le_line ?_, ?_⟩
        · have h1 := flats_len (VM.smalls_take i hsm)
          have h2 := flatStep_len hsp
          rw [List.length_map, List.length_map, List.length_cons]
          rw [List.length_take] at h1
          omega
        · refine ⟨_, rfl, (s'.trans s'').upd gl, ?_⟩
          show upd _ l _ l = _
          rw [upd_same, take_one hp, List.flatMap_append, ← List.map_append]
          simp
    · rintro σ H' ⟨v, rfl, s', hl'⟩
      rw [List.length_map, hl, List.take_length] at hl'
      exact ⟨_, rfl, k H' l gl s' hl'⟩
end
end P58
end
section
set_option Elab.async false
set_option linter.all false
set_option maxRecDepth 100000
set_option maxHeartbeats 1000000
namespace P58
open PySem PySem.Spec PyProof.Rows L2
def PairAt (C : Cs) (H : Hp) (v : V) : Option (VStep × VStep) → Prop
  | none => v = .non
  | some r => ∃ t x y, v = .ref t ∧ H t = some (.tup [.ref x, .ref y]) ∧ StepAt C H x r.1 ∧ StepAt C H y r.2
theorem PairAt.mono {C : Cs} {H H' : Hp} {v : V} {r : Option (VStep × VStep)} (s : Same H H') (h : PairAt C H v r) : PairAt C H' v r := by
  cases r with
  | none => exact h
  | some r =>
    obtain ⟨t, x, y, e, h1, h2, h3⟩ := h
    exact ⟨t, x, y, e, s _ _ h1, h2.mono s, h3.mono s⟩
theorem inV_toks (x : Nat) : ∀ l : List Nat, inV (nV x) (l.map nV) = l.contains x
  | [] => rfl
  | y :: l => by
    have ih := inV_toks x l
    unfold inV at ih ⊢
    rw [List.map_cons, List.any_cons, ih, List.contains_cons]
    congr 1
    show ((y : Int) == (x : Int)) = (x == y)
    rw [Bool.eq_iff_iff]
    simp
    omega
theorem flat_toks : ∀ l : List Nat, (l.map nV).all flatV = true
  | [] => rfl
  | _ :: l => by
    rw [List.map_cons, List.all_cons, flat_toks l]
    rfl
theorem any_disjoint (l m : List Nat) : ((l.map fun x => m.contains x).any id) = !VapatBase.disjoint l m := by
  unfold VapatBase.disjoint
  induction l with
  | nil => rfl
  | cons x l ih =>
    rw [List.map_cons, List.any_cons, ih, List.all_cons]
    cases m.contains x <;> rfl
section
variable {P : Program} {w : World} {K : PySem.W.Frag} {mg : Str → Option Value} {base : Heap} {A : Adr}
def spTwo (A : Adr) (f : VStep → VStep → Option (VStep × VStep)) (ok : VStep → VStep → Prop) : Sp := fun vs H Q _ => ∃ a b p q, vs = [.ref a, .ref b] ∧ StepAt (cs A) H a p ∧ StepAt (cs A) H b q ∧ VM.small p ∧ VM.small q ∧ ok p q ∧ ∀ H' v, Same H H' → PairAt (cs A) H' v (f p q) → Q v H'
def spShareName (A : Adr) : Sp := fun vs H Q _ => ∃ a b p q, vs = [.ref a, .ref b] ∧ StepAt (cs A) H a p ∧ StepAt (cs A) H b q ∧ ∀ H', Same H H' → Q (.bl (!VapatBase.disjoint (VapatBase.namesOf p) (VapatBase.namesOf q))) H'
theorem ok_68 (T : Txt K mg A) : FnOk P w K mg base CX0 2 A.f_68 A.d_68 ["first", "second"] (spShareName A) := by
  refine T.F_68.ok sc_68 (fun vs H Q E h => ?_) (fun cdv A' outer s H vs Q E hr h => ?_)
  · obtain ⟨a, b, p, q, rfl, _⟩ := h
    rfl
  · obtain ⟨a, b, p, q, rfl, hp, hq, k⟩ := h
    refine ⟨_, (pss_one (ps_ret (pe_callB (cr_any rfl) (by rfl) T.n_any boot_any (pa_cons (pe_lc rfl sc_68.nd (pi_list (pe_dyn0 (D_names T) (hr.mono (by decide)) (by decide +kernel) (pv 0))) (blkOk_by (N := ["first", "second", "name"]) (sc := defScope st_68) (own := [("name", 2)]) (by decide +kernel)) (fun _ _ _ _ _ => pg_name (i := 2) sc_68.nd rfl (Or.inl rfl)) (fun _ _ _ _ _ => pts_nil) (fun _ _ _ _ _ => (pe_cmpR (op_in_seq : OpR _ _ (rIn K false)) (pv 2) (pe_dyn0 (D_names T) (hr.mono (by decide)) (by decide +kernel) (pv 1)) (by with_unfolding_all rfl)))) pa_nil)))), ?_⟩
    refine ⟨_, rfl, a, p, rfl, trivial, hp, a, p, rfl, rfl, hp, fun H1 l1 s1 hl1 => ⟨l1, rfl, ⟨_, SqL.of hl1⟩, fun D hD => lc_list (K := K) (a := l1) (xs := (VapatBase.namesOf p).map nV)
      (fun i H' => Same H1 H' ∧ H' D = some (.lst ((((VapatBase.namesOf p).take i).map fun x => (VapatBase.namesOf q).contains x).map V.bl))) ⟨Same.new hD, upd_same⟩ (fun i H' _ z => SqL.of (z.1 _ _ hl1)) ?_ ?_⟩⟩
    · rintro i v H' hi ⟨s', hD'⟩
      obtain ⟨t, ht, rfl⟩ := getnV hi
      have hq' := hq.mono (s1.trans s')
      refine ⟨rfl, ?_⟩
      unfold tYes
      dsimp only
      rw [if_pos rfl]
      refine ⟨_, rfl, _, rfl, b, q, rfl, trivial, hq', b, q, rfl, rfl, hq', fun H2 l2 s2 hl2 => ⟨l2, _, rfl, .inl (SqL.of hl2), rfl, flat_toks _, _, s2 _ _ hD', ?_, ?_⟩⟩
      · refine lt_line ?_
        have : (VapatBase.namesOf p).length ≤ 2 := by cases p <;> simp [VapatBase.namesOf]
        rw [List.length_map, List.length_map, List.length_take]
        omega
      · refine ⟨(s'.trans s2).upd hD, ?_⟩
        rw [upd_same, inV_toks, take_one ht]
        simp
    · rintro H' ⟨s', hD'⟩
      rw [List.length_map, List.take_length] at hD'
      refine ⟨D, _, rfl, SqL.of hD', ?_⟩
      rw [any_disjoint]
      exact k H' (s1.trans s')
def spShareToken (A : Adr) : Sp := fun vs H Q _ => ∃ a b f x y g u v, vs = [.ref a, .ref b] ∧ StepAt (cs A) H a (.swap f x y) ∧ StepAt (cs A) H b (.swap g u v) ∧ ∀ H', Same H H' → Q (.bl (!VapatBase.disjoint [x, y] [u, v])) H'
theorem ok_69 (T : Txt K mg A) : FnOk P w K mg base CX0 1 A.f_69 A.d_69 ["first", "second"] (spShareToken A) := by
  refine T.F_69.ok sc_69 (fun vs H Q E h => ?_) (fun cdv A' outer s H vs Q E hr h => ?_)
  · obtain ⟨a, b, f, x, y, g, u, v, rfl, _⟩ := h
    rfl
  · obtain ⟨a, b, f, x, y, g, u, v, rfl, ⟨d1, h1⟩, ⟨d2, h2⟩, k⟩ := h
    refine ⟨_, (pss_one (ps_ret (pe_or (pe_cmpR op_in_seq (pe_fld (pv 0) rfl) (pe_tup (pa_cons (pe_fld (pv 1) rfl) (pa_cons (pe_fld (pv 1) rfl) pa_nil))) (by with_unfolding_all rfl)) (pe_one (pe_cmpR op_in_seq (pe_fld (pv 0) rfl) (pe_tup (pa_cons (pe_fld (pv 1) rfl) (pa_cons (pe_fld (pv 1) rfl) pa_nil))) (by with_unfolding_all rfl)))))), ?_⟩
    refine ⟨_, rfl, _, _, _, _, _, rfl, h1, T.clSwap, T.na_Swap_one, sf2, _, rfl, _, _, _, _, _, rfl, h2, T.clSwap, T.na_Swap_one, sf2, _, rfl, _, _, _, _, _, rfl, h2, T.clSwap, T.na_Swap_other, sf3, (by show 2 ≤ sizeLine; decide), fun t1 g1 => ⟨t1, _, rfl, .inr (SqT.of upd_same), rfl, rfl, _, rfl, ?_⟩⟩
    have s1 := Same.new (o := .tup [nV u, nV v]) g1
    have e1 : inV (nV x) [nV u, nV v] = [u, v].contains x := inV_toks x [u, v]
    have e2 : inV (nV y) [nV u, nV v] = [u, v].contains y := inV_toks y [u, v]
    have dj : VapatBase.disjoint [x, y] [u, v] = (!([u, v].contains x) && !([u, v].contains y)) := by
      unfold VapatBase.disjoint
      simp only [List.all_cons, List.all_nil, Bool.and_true]
    show if (inV (nV x) [nV u, nV v]) = true then _ else _
    rw [e1]
    cases c1 : [u, v].contains x with
    | true =>
      have := k _ s1
      rw [dj, c1] at this
      exact iteT this
    | false =>
      refine iteF (⟨_, rfl, _, _, _, _, _, rfl, (s1 _ _ h1), T.clSwap, T.na_Swap_other, sf3, _, rfl, _, _, _, _, _, rfl, (s1 _ _ h2), T.clSwap, T.na_Swap_one, sf2, _, rfl, _, _, _, _, _, rfl, (s1 _ _ h2), T.clSwap, T.na_Swap_other, sf3, (by show 2 ≤ sizeLine; decide), fun t2 g2 => ⟨t2, _, rfl, .inr (SqT.of upd_same), rfl, rfl, ?_⟩⟩)
      have s2 := s1.trans (Same.new (o := .tup [nV u, nV v]) g2)
      have := k _ s2
      rw [dj, c1] at this
      show Q (.bl (inV (nV y) [nV u, nV v])) _
      rw [e2]
      cases c2 : [u, v].contains y with
      | true => rw [c2] at this; exact this
      | false => rw [c2] at this; exact this
def spIsInside (A : Adr) : Sp := fun vs H Q _ => ∃ a g p, vs = [.ref a, nV g] ∧ StepAt (cs A) H a p ∧ ∀ H', Same H H' → Q (.bl (VapatBase.isInside p && (VapatBase.namesOf p == [g]))) H'
theorem eq1 (f g : Nat) : ([f] == [g]) = decide (nV f = nV g) := by
  rw [Bool.eq_iff_iff]
  simp [nV]
  omega
theorem ok_51 (T : Txt K mg A) : FnOk P w K mg base CX0 1 A.f_51 A.d_51 ["step", "name"] (spIsInside A) := by
  refine T.F_51.ok sc_51 (fun vs H Q E h => ?_) (fun cdv A' outer s H vs Q E hr h => ?_)
  · obtain ⟨a, g, p, rfl, _⟩ := h
    rfl
  · obtain ⟨a, g, p, rfl, hp, k⟩ := h
    refine ⟨_, (pss_one (ps_ret (pe_and (pe_callB call_isi2 (by rfl) T.n_isinstance boot_isinstance (pa_cons (pv 0) (pa_cons (pe_tup (pa_cons (pe_gref rfl T.mgHunk) (pa_cons (pe_gref rfl T.mgSwap) pa_nil))) pa_nil))) (pe_one (pe_cmpR op_eq (pe_fld (pv 0) rfl) (pv 1) (nomark _)))))), ?_⟩
    refine ⟨_, rfl, (by show 2 ≤ sizeLine; decide), fun tp gp => ?_⟩
    have s1 := Same.new (o := .tup [.ref A.cHunk, .ref A.cSwap]) gp
    have kk := k _ s1
    cases p with
    | hunk f pl o n =>
      obtain ⟨dx, po, pn, h1, h2, h3⟩ := hp
      refine ⟨a, tp, _, _, _, dx, _, _, _, rfl, upd_same, s1 _ _ h1, T.clHunk, T.tc_Hunk, T.ki_Hunk_Hunk, T.ki_Hunk_Swap, _, rfl, iteT (⟨_, rfl, _, _, _, _, _, rfl, (s1 _ _ h1), T.clHunk, T.na_Hunk_name, hf1, _, rfl, rfl, ?_⟩)⟩
      rw [← eq1]
      exact kk
    | swap f x y =>
      obtain ⟨dx, h1⟩ := hp
      refine ⟨a, tp, _, _, _, dx, _, _, _, rfl, upd_same, s1 _ _ h1, T.clSwap, T.tc_Swap, T.ki_Swap_Hunk, T.ki_Swap_Swap, _, rfl, iteT (⟨_, rfl, _, _, _, _, _, rfl, (s1 _ _ h1), T.clSwap, T.na_Swap_name, sf1, _, rfl, rfl, ?_⟩)⟩
      rw [← eq1]
      exact kk
    | add f =>
      obtain ⟨dx, h1⟩ := hp
      exact ⟨a, tp, _, _, _, dx, _, _, _, rfl, upd_same, s1 _ _ h1, T.clAdded, T.tc_Added, T.ki_Added_Hunk, T.ki_Added_Swap, _, rfl, iteF kk⟩
    | remove f =>
      obtain ⟨dx, h1⟩ := hp
      exact ⟨a, tp, _, _, _, dx, _, _, _, rfl, upd_same, s1 _ _ h1, T.clRemoved, T.tc_Removed, T.ki_Removed_Hunk, T.ki_Removed_Swap, _, rfl, iteF kk⟩
    | move f g' =>
      obtain ⟨dx, h1⟩ := hp
      exact ⟨a, tp, _, _, _, dx, _, _, _, rfl, upd_same, s1 _ _ h1, T.clMoved, T.tc_Moved, T.ki_Moved_Hunk, T.ki_Moved_Swap, _, rfl, iteF kk⟩
theorem isi_step {C : Cs} {K : PySem.W.Frag} {H : Hp} {a D : Addr} {p : VStep} {Q : VK} (hs : StepAt C H a p) (hc : Cls K (clsOf C p)) (ht : TyC K (clsOf C p)) {b : Bool} (hk : PySem.W.kitOne K (.ref (clsOf C p)) (.ref D) = some b) (q : Q (.bl b) H) :
    ∃ a' C' D' dx fs b', ([V.ref a, V.ref D] : List V) = [V.ref a', V.ref D'] ∧ H a' = some (.ins C' dx fs) ∧ Cls K C' ∧ TyC K C' ∧ PySem.W.kitOne K (.ref C') (.ref D') = some b' ∧ Q (.bl b') H := by
  obtain ⟨dx, fs, h1, _⟩ := hs.ins
  exact ⟨a, _, D, dx, fs, b, rfl, h1, hc, ht, hk, q⟩
theorem cl_of (T : Txt K mg A) (p : VStep) : Cls K (clsOf (cs A) p) := by
  cases p with
  | hunk => exact T.clHunk
  | swap => exact T.clSwap
  | add => exact T.clAdded
  | remove => exact T.clRemoved
  | move => exact T.clMoved
theorem tc_of (T : Txt K mg A) (p : VStep) : TyC K (clsOf (cs A) p) := by
  cases p with
  | hunk => exact T.tc_Hunk
  | swap => exact T.tc_Swap
  | add => exact T.tc_Added
  | remove => exact T.tc_Removed
  | move => exact T.tc_Moved
theorem ki_hunk (T : Txt K mg A) (p : VStep) : PySem.W.kitOne K (.ref (clsOf (cs A) p)) (.ref A.cHunk) = some (decide (kd p = 0)) := by
  cases p with
  | hunk => exact T.ki_Hunk_Hunk
  | swap => exact T.ki_Swap_Hunk
  | add => exact T.ki_Added_Hunk
  | remove => exact T.ki_Removed_Hunk
  | move => exact T.ki_Moved_Hunk
theorem ki_swap (T : Txt K mg A) (p : VStep) : PySem.W.kitOne K (.ref (clsOf (cs A) p)) (.ref A.cSwap) = some (decide (kd p = 1)) := by
  cases p with
  | hunk => exact T.ki_Hunk_Swap
  | swap => exact T.ki_Swap_Swap
  | add => exact T.ki_Added_Swap
  | remove => exact T.ki_Removed_Swap
  | move => exact T.ki_Moved_Swap
theorem ki_moved (T : Txt K mg A) (p : VStep) : PySem.W.kitOne K (.ref (clsOf (cs A) p)) (.ref A.cMoved) = some (decide (kd p = 4)) := by
  cases p with
  | hunk => exact T.ki_Hunk_Moved
  | swap => exact T.ki_Swap_Moved
  | add => exact T.ki_Added_Moved
  | remove => exact T.ki_Removed_Moved
  | move => exact T.ki_Moved_Moved
end
end P58
end
section
set_option Elab.async false
set_option linter.all false
set_option maxRecDepth 100000
set_option maxHeartbeats 1000000
namespace P58
open PySem PySem.Spec PyProof.Rows L2
def rIsi (K : PySem.W.Frag) : List V → Hp → VK → Prop := fun xs H Q => ∃ a C D dx fs b, xs = [V.ref a, V.ref D] ∧ H a = some (.ins C dx fs) ∧ Cls K C ∧ TyC K C ∧ PySem.W.kitOne K (.ref C) (.ref D) = some b ∧ Q (.bl b) H
def tIsi (K : PySem.W.Frag) (i : Nat) (D : Addr) : TE := tCB (rIsi K) (tCons (tVar i) (tCons (tC (.ref D)) tNil))
theorem isi_test {K : PySem.W.Frag} {C : Cs} {i : Nat} {D a : Addr} {σ : L2.St} {H : Hp} {p : VStep} {b : Bool} {Q : Bool → Hp → Prop} (e : σ[i]? = some (some (V.ref a))) (hs : StepAt C H a p) (hc : Cls K (clsOf C p)) (ht : TyC K (clsOf C p))
    (hk : PySem.W.kitOne K (.ref (clsOf C p)) (.ref D) = some b) (q : Q b H) : tB (tIsi K i D) σ H Q := by
  obtain ⟨dx, fs, h1, _⟩ := hs.ins
  exact ⟨_, e, a, _, D, dx, fs, b, rfl, h1, hc, ht, hk, _, rfl, q⟩
section
variable {K : PySem.W.Frag} {mg : Str → Option Value} {A : Adr} {i j : Nat} {a b D E : Addr} {σ : L2.St} {H : Hp} {p q : VStep} {c d : Bool} {Q : Bool → Hp → Prop}
theorem isi_and (T : Txt K mg A) (e1 : σ[i]? = some (some (V.ref a))) (e2 : σ[j]? = some (some (V.ref b))) (hp : StepAt (cs A) H a p) (hq : StepAt (cs A) H b q)
    (k1 : PySem.W.kitOne K (.ref (clsOf (cs A) p)) (.ref D) = some c) (k2 : PySem.W.kitOne K (.ref (clsOf (cs A) q)) (.ref E) = some d) (z : Q (c && d) H) : tAnd (tB (tIsi K i D)) (tB (tIsi K j E)) σ H Q := by
  refine isi_test e1 hp (cl_of T p) (tc_of T p) k1 ?_
  cases c with
  | true => exact iteT (isi_test e2 hq (cl_of T q) (tc_of T q) k2 z)
  | false => exact iteF z
theorem isi_or (T : Txt K mg A) (e1 : σ[i]? = some (some (V.ref a))) (e2 : σ[j]? = some (some (V.ref b))) (hp : StepAt (cs A) H a p) (hq : StepAt (cs A) H b q)
    (k1 : PySem.W.kitOne K (.ref (clsOf (cs A) p)) (.ref D) = some c) (k2 : PySem.W.kitOne K (.ref (clsOf (cs A) q)) (.ref E) = some d) (z : Q (c || d) H) : tOr (tB (tIsi K i D)) (tB (tIsi K j E)) σ H Q := by
  refine isi_test e1 hp (cl_of T p) (tc_of T p) k1 ?_
  cases c with
  | true => exact iteT z
  | false => exact iteF (isi_test e2 hq (cl_of T q) (tc_of T q) k2 z)
theorem isi_and3 (T : Txt K mg A) {u : TT} (e1 : σ[i]? = some (some (V.ref a))) (e2 : σ[j]? = some (some (V.ref b))) (hp : StepAt (cs A) H a p) (hq : StepAt (cs A) H b q)
    (k1 : PySem.W.kitOne K (.ref (clsOf (cs A) p)) (.ref D) = some c) (k2 : PySem.W.kitOne K (.ref (clsOf (cs A) q)) (.ref E) = some d) (z : if (c && d) = true then u σ H Q else Q false H) : tAnd (tB (tIsi K i D)) (tAnd (tB (tIsi K j E)) u) σ H Q := by
  refine isi_test e1 hp (cl_of T p) (tc_of T p) k1 ?_
  cases c with
  | true => exact iteT (isi_test e2 hq (cl_of T q) (tc_of T q) k2 z)
  | false => exact iteF z
end
def cwm : VStep → VStep → Option (VStep × VStep)
  | .move f g, q => if (VapatBase.isInside q && (VapatBase.namesOf q == [g])) = true then some (VapatBase.inFile f q, .move f g) else none
  | p, .move f g => if (VapatBase.isInside p && (VapatBase.namesOf p == [f])) = true then some (.move f g, VapatBase.inFile g p) else none
  | _, _ => none
theorem cwm_move (f g : Nat) (q : VStep) : cwm (.move f g) q = if (VapatBase.isInside q && (VapatBase.namesOf q == [g])) = true then some (VapatBase.inFile f q, .move f g) else none := by
  cases q <;> rfl
section
variable {P : Program} {w : World} {K : PySem.W.Frag} {mg : Str → Option Value} {base : Heap} {A : Adr}
theorem moveF_no {v1 v2 : V} {m : Str} (hm : m ∉ fieldNames := by decide +kernel) : (moveF v1 v2).lookup m = none := by
  have key : ∀ {k : Str}, k ∈ fieldNames → m ≠ k := fun h2 e => hm (e ▸ h2)
  unfold moveF
  rw [lookup_cons_ne (key (by decide +kernel)), lookup_cons_ne (key (by decide +kernel))]
  rfl
def any2 : VStep → VStep → Prop := fun _ _ => True
theorem ok_47 (T : Txt K mg A) : FnOk P w K mg base CX0 4 A.f_47 A.d_47 ["first", "second"] (spTwo A cwm any2) := by
  refine T.F_47.ok sc_47 (fun vs H Q E h => ?_) (fun cdv A' outer s H vs Q E hr h => ?_)
  · obtain ⟨a, b, p, q, rfl, _⟩ := h
    rfl
  · obtain ⟨a, b, p, q, rfl, hp, hq, _, _, _, k⟩ := h
    refine ⟨_, (pss_cons (ps_if (PW.pt (pw_and (pt_val (pe_callB call_isi (by rfl) T.n_isinstance boot_isinstance (pa_cons (pv 0) (pa_cons (pe_gref rfl T.mgMoved) pa_nil)))) (pw_and1 (pt_val (pe_call (ok_51 T) (hr.mono (by decide)) rfl T.mg_51 T.F_51.kp T.b_51 .nil pass0 (pa_cons (pv 1) (pa_cons (pe_fld (pv 0) rfl) pa_nil)))))))
          (pss_one (ps_ret (pe_tup (pa_cons (pe_dyn (D_inside T) (hr.mono (by decide)) (by decide +kernel) (pv 1) (pa_cons (pe_fld (pv 0) rfl) pa_nil)) (pa_cons (pv 0) pa_nil)))))
          pss_nil)
        (pss_cons (ps_if (PW.pt (pw_and (pt_val (pe_callB call_isi (by rfl) T.n_isinstance boot_isinstance (pa_cons (pv 1) (pa_cons (pe_gref rfl T.mgMoved) pa_nil)))) (pw_and1 (pt_val (pe_call (ok_51 T) (hr.mono (by decide)) rfl T.mg_51 T.F_51.kp T.b_51 .nil pass0 (pa_cons (pv 0) (pa_cons (pe_fld (pv 1) rfl) pa_nil)))))))
          (pss_one (ps_ret (pe_tup (pa_cons (pv 1) (pa_cons (pe_dyn (D_inside T) (hr.mono (by decide)) (by decide +kernel) (pv 0) (pa_cons (pe_fld (pv 1) rfl) pa_nil)) pa_nil)))))
          pss_nil)
        (pss_one (ps_ret pe_non)))), ?_⟩
    refine isi_test rfl hp (cl_of T p) (tc_of T p) (ki_moved T p) ?_
    cases p with
    | move f g =>
      refine iteT ?_
      have hp' := hp
      obtain ⟨dx, h1⟩ := hp'
      refine ⟨_, rfl, _, rfl, _, _, _, _, _, rfl, h1, T.clMoved, T.na_Moved_new_name, mf2, b, g, q, rfl, hq, fun H1 s1 => ⟨_, rfl, ?_⟩⟩
      have h1' := s1 _ _ h1
      have hq1 := hq.mono s1
      cases hc : (VapatBase.isInside q && (VapatBase.namesOf q == [g])) with
      | true =>
        have hin : VapatBase.isInside q = true := by
          rw [Bool.and_eq_true] at hc
          exact hc.1
        refine iteT ⟨_, rfl, b, q, rfl, hin, hq1, _, rfl, _, _, _, _, _, rfl, h1', T.clMoved, T.na_Moved_old_name, mf1, b, f, q, rfl, rfl, hq1, fun H2 x s2 hx => ?_⟩
        refine ⟨_, rfl, (by show 2 ≤ sizeLine; decide), fun tp gp => ?_⟩
        have s3 := Same.new (o := .tup [.ref x, .ref a]) gp
        refine k _ _ ((s1.trans s2).trans s3) ?_
        rw [cwm_move, if_pos hc]
        exact ⟨tp, x, a, rfl, upd_same, hx.mono s3, hp.mono ((s1.trans s2).trans s3)⟩
      | false =>
        refine iteF ?_
        refine isi_test rfl hq1 (cl_of T q) (tc_of T q) (ki_moved T q) ?_
        have kn : ∀ H', Same H H' → Q .non H' := fun H' s' => k H' .non s' (by rw [cwm_move, hc]; rfl)
        cases q with
        | move f' g' =>
          obtain ⟨dy, h2⟩ := hq1
          exact iteT ⟨_, rfl, _, rfl, _, _, _, _, _, rfl, h2, T.clMoved, T.na_Moved_old_name, mf1, a, f', .move f g, rfl, hp.mono s1, fun H2 s2 => ⟨_, rfl, iteF (kn _ (s1.trans s2))⟩⟩
        | hunk => exact iteF (iteF (kn _ s1))
        | swap => exact iteF (iteF (kn _ s1))
        | add => exact iteF (iteF (kn _ s1))
        | remove => exact iteF (iteF (kn _ s1))
    | hunk f pl o n =>
      refine iteF (iteF ?_)
      refine isi_test rfl hq (cl_of T q) (tc_of T q) (ki_moved T q) ?_
      cases q with
      | move f' g' =>
        have hq' := hq
        obtain ⟨dy, h2⟩ := hq'
        refine iteT ⟨_, rfl, _, rfl, _, _, _, _, _, rfl, h2, T.clMoved, T.na_Moved_old_name, mf1, a, f', .hunk f pl o n, rfl, hp, fun H2 s2 => ⟨_, rfl, ?_⟩⟩
        have hp1 := hp.mono s2
        have h2' := s2 _ _ h2
        cases hc : (VapatBase.isInside (.hunk f pl o n) && (VapatBase.namesOf (.hunk f pl o n) == [f'])) with
        | true =>
          refine iteT ⟨_, rfl, _, rfl, a, .hunk f pl o n, rfl, rfl, hp1, _, rfl, _, _, _, _, _, rfl, h2', T.clMoved, T.na_Moved_new_name, mf2, a, g', .hunk f pl o n, rfl, rfl, hp1, fun H3 x s3 hx => ⟨(by show 2 ≤ sizeLine; decide), fun tp gp => ?_⟩⟩
          have s4 := Same.new (o := .tup [.ref b, .ref x]) gp
          refine k _ _ ((s2.trans s3).trans s4) ?_
          unfold cwm
          dsimp only
          rw [if_pos hc]
          exact ⟨tp, b, x, rfl, upd_same, hq.mono ((s2.trans s3).trans s4), hx.mono s4⟩
        | false => exact iteF (k _ .non s2 (by unfold cwm; dsimp only; rw [hc]; rfl))
      | hunk => exact iteF (iteF (k _ .non (Same.refl H) rfl))
      | swap => exact iteF (iteF (k _ .non (Same.refl H) rfl))
      | add => exact iteF (iteF (k _ .non (Same.refl H) rfl))
      | remove => exact iteF (iteF (k _ .non (Same.refl H) rfl))
    | swap f x0 y0 =>
      refine iteF (iteF ?_)
      refine isi_test rfl hq (cl_of T q) (tc_of T q) (ki_moved T q) ?_
      cases q with
      | move f' g' =>
        have hq' := hq
        obtain ⟨dy, h2⟩ := hq'
        refine iteT ⟨_, rfl, _, rfl, _, _, _, _, _, rfl, h2, T.clMoved, T.na_Moved_old_name, mf1, a, f', .swap f x0 y0, rfl, hp, fun H2 s2 => ⟨_, rfl, ?_⟩⟩
        have hp1 := hp.mono s2
        have h2' := s2 _ _ h2
        cases hc : (VapatBase.isInside (.swap f x0 y0) && (VapatBase.namesOf (.swap f x0 y0) == [f'])) with
        | true =>
          refine iteT ⟨_, rfl, _, rfl, a, .swap f x0 y0, rfl, rfl, hp1, _, rfl, _, _, _, _, _, rfl, h2', T.clMoved, T.na_Moved_new_name, mf2, a, g', .swap f x0 y0, rfl, rfl, hp1, fun H3 x s3 hx => ⟨(by show 2 ≤ sizeLine; decide), fun tp gp => ?_⟩⟩
          have s4 := Same.new (o := .tup [.ref b, .ref x]) gp
          refine k _ _ ((s2.trans s3).trans s4) ?_
          unfold cwm
          dsimp only
          rw [if_pos hc]
          exact ⟨tp, b, x, rfl, upd_same, hq.mono ((s2.trans s3).trans s4), hx.mono s4⟩
        | false => exact iteF (k _ .non s2 (by unfold cwm; dsimp only; rw [hc]; rfl))
      | hunk => exact iteF (iteF (k _ .non (Same.refl H) rfl))
      | swap => exact iteF (iteF (k _ .non (Same.refl H) rfl))
      | add => exact iteF (iteF (k _ .non (Same.refl H) rfl))
      | remove => exact iteF (iteF (k _ .non (Same.refl H) rfl))
    | add f =>
      refine iteF (iteF ?_)
      refine isi_test rfl hq (cl_of T q) (tc_of T q) (ki_moved T q) ?_
      cases q with
      | move f' g' =>
        have hq' := hq
        obtain ⟨dy, h2⟩ := hq'
        exact iteT ⟨_, rfl, _, rfl, _, _, _, _, _, rfl, h2, T.clMoved, T.na_Moved_old_name, mf1, a, f', .add f, rfl, hp, fun H2 s2 => ⟨_, rfl, iteF (k _ .non s2 rfl)⟩⟩
      | hunk => exact iteF (iteF (k _ .non (Same.refl H) rfl))
      | swap => exact iteF (iteF (k _ .non (Same.refl H) rfl))
      | add => exact iteF (iteF (k _ .non (Same.refl H) rfl))
      | remove => exact iteF (iteF (k _ .non (Same.refl H) rfl))
    | remove f =>
      refine iteF (iteF ?_)
      refine isi_test rfl hq (cl_of T q) (tc_of T q) (ki_moved T q) ?_
      cases q with
      | move f' g' =>
        have hq' := hq
        obtain ⟨dy, h2⟩ := hq'
        exact iteT ⟨_, rfl, _, rfl, _, _, _, _, _, rfl, h2, T.clMoved, T.na_Moved_old_name, mf1, a, f', .remove f, rfl, hp, fun H2 s2 => ⟨_, rfl, iteF (k _ .non s2 rfl)⟩⟩
      | hunk => exact iteF (iteF (k _ .non (Same.refl H) rfl))
      | swap => exact iteF (iteF (k _ .non (Same.refl H) rfl))
      | add => exact iteF (iteF (k _ .non (Same.refl H) rfl))
      | remove => exact iteF (iteF (k _ .non (Same.refl H) rfl))
def sameHunks : VStep → VStep → Prop
  | .hunk f _ _ _, .hunk g _ _ _ => f = g
  | _, _ => False
theorem ok_45 (T : Txt K mg A) : FnOk P w K mg base CX0 4 A.f_45 A.d_45 ["first", "second"] (spTwo A VapatBase.commutedInside sameHunks) := by
  refine T.F_45.ok sc_45 (fun vs H Q E h => ?_) (fun cdv A' outer s H vs Q E hr h => ?_)
  · obtain ⟨a, b, p, q, rfl, _⟩ := h
    rfl
  · obtain ⟨a, b, p, q, rfl, hp, hq, _, _, hsame, k⟩ := h
    cases p with
    | hunk f pa o n =>
      cases q with
      | hunk g pb u v =>
        have hfg : f = g := hsame
        subst hfg
        have hp' := hp
        have hq' := hq
        obtain ⟨d1, po, pn, h1, h2, h3⟩ := hp'
        obtain ⟨d2, pu, pv_, g1, g2, g3⟩ := hq'
        refine ⟨_, (pss_cons (ps_if (pt_cmpR op_gt (pe_op op_sub (pe_fld (pv 1) rfl) (pe_fld (pv 0) rfl)) (pe_callB call_len_seq (by rfl) T.n_len PySem.boot_len (pa_cons (pe_fld (pv 0) rfl) pa_nil)) (nomark _))
          (pss_one (ps_ret (pe_tup (pa_cons (pe_meth (pv 1) T.clHunk T.m_12 (ok_12 T) (hr.mono (by decide)) T.b_12 .nil pass0 (pa_cons (pe_callB call_len_seq (by rfl) T.n_len PySem.boot_len (pa_cons (pe_fld (pv 0) rfl) pa_nil)) (pa_cons (pe_callB call_len_seq (by rfl) T.n_len PySem.boot_len (pa_cons (pe_fld (pv 0) rfl) pa_nil)) pa_nil))) (pa_cons (pv 0) pa_nil)))))
          pss_nil)
        (pss_cons (ps_if (pt_cmpR op_gt (pe_op op_sub (pe_fld (pv 0) rfl) (pe_fld (pv 1) rfl)) (pe_callB call_len_seq (by rfl) T.n_len PySem.boot_len (pa_cons (pe_fld (pv 1) rfl) pa_nil)) (nomark _))
          (pss_one (ps_ret (pe_tup (pa_cons (pv 1) (pa_cons (pe_meth (pv 0) T.clHunk T.m_12 (ok_12 T) (hr.mono (by decide)) T.b_12 .nil pass0 (pa_cons (pe_callB call_len_seq (by rfl) T.n_len PySem.boot_len (pa_cons (pe_fld (pv 1) rfl) pa_nil)) (pa_cons (pe_callB call_len_seq (by rfl) T.n_len PySem.boot_len (pa_cons (pe_fld (pv 1) rfl) pa_nil)) pa_nil))) pa_nil)))))
          pss_nil)
        (pss_one (ps_ret pe_non)))), ?_⟩
        refine ⟨_, rfl, _, _, _, _, _, rfl, g1, T.clHunk, T.na_Hunk_place, hf2, _, rfl, _, _, _, _, _, rfl, h1, T.clHunk, T.na_Hunk_place, hf2, _, _, rfl, rfl, _, rfl, _, _, _, _, _, rfl, h1, T.clHunk, T.na_Hunk_new, hf4, pn, _, rfl, .inl (SqL.of h3), _, _, rfl, rfl, _, rfl, ?_⟩
        dsimp only [VapatBase.commutedInside] at k
        by_cases c1 : pa + n.length < pb
        · rw [decide_eq_true (by rw [List.length_map]; omega)]
          rw [if_pos c1] at k
          refine iteT ⟨_, rfl, b, d2, _, rfl, g1, hunkF_no, _, rfl, _, _, _, _, _, rfl, h1, T.clHunk, T.na_Hunk_new, hf4, pn, _, rfl, .inl (SqL.of h3), _, rfl, _, _, _, _, _, rfl, h1, T.clHunk, T.na_Hunk_old, hf3, po, _, rfl, .inl (SqL.of h2),
            b, n.length, o.length, f, pb, u, v, (by rw [List.length_map, List.length_map]; rfl), hq, (by omega), fun H1 x s1 hx => ⟨_, rfl, (by show 2 ≤ sizeLine; decide), fun tp gp => ?_⟩⟩
          have s2 := Same.new (o := .tup [.ref x, .ref a]) gp
          exact k _ _ (s1.trans s2) ⟨tp, x, a, rfl, upd_same, hx.mono s2, hp.mono (s1.trans s2)⟩
        · rw [decide_eq_false (by rw [List.length_map]; omega)]
          rw [if_neg c1] at k
          refine iteF ⟨_, rfl, _, _, _, _, _, rfl, h1, T.clHunk, T.na_Hunk_place, hf2, _, rfl, _, _, _, _, _, rfl, g1, T.clHunk, T.na_Hunk_place, hf2, _, _, rfl, rfl, _, rfl, _, _, _, _, _, rfl, g1, T.clHunk, T.na_Hunk_old, hf3, pu, _, rfl, .inl (SqL.of g2), _, _, rfl, rfl, _, rfl, ?_⟩
          by_cases c2 : pb + u.length < pa
          · rw [decide_eq_true (by rw [List.length_map]; omega)]
            rw [if_pos c2] at k
            refine iteT ⟨_, rfl, _, rfl, a, d1, _, rfl, h1, hunkF_no, _, rfl, _, _, _, _, _, rfl, g1, T.clHunk, T.na_Hunk_old, hf3, pu, _, rfl, .inl (SqL.of g2), _, rfl, _, _, _, _, _, rfl, g1, T.clHunk, T.na_Hunk_new, hf4, pv_, _, rfl, .inl (SqL.of g3),
              a, u.length, v.length, f, pa, o, n, (by rw [List.length_map, List.length_map]; rfl), hp, (by omega), fun H1 x s1 hx => ⟨(by show 2 ≤ sizeLine; decide), fun tp gp => ?_⟩⟩
            have s2 := Same.new (o := .tup [.ref b, .ref x]) gp
            exact k _ _ (s1.trans s2) ⟨tp, b, x, rfl, upd_same, hq.mono (s1.trans s2), hx.mono s2⟩
          · rw [decide_eq_false (by rw [List.length_map]; omega)]
            rw [if_neg c2] at k
            exact iteF (k _ .non (Same.refl H) rfl)
      | _ => exact hsame.elim
    | _ => exact hsame.elim
def spHunkSwapped (A : Adr) : Sp := fun vs H Q _ => ∃ a b f pl o n g x y, vs = [.ref a, .ref b] ∧ StepAt (cs A) H a (.hunk f pl o n) ∧ StepAt (cs A) H b (.swap g x y) ∧ o.length ≤ 8 ∧ n.length ≤ 8 ∧ ∀ H' c, Same H H' → StepAt (cs A) H' c (.hunk f pl (VapatBase.swapAll x y o) (VapatBase.swapAll x y n)) → Q (.ref c) H'
theorem ok_50 (T : Txt K mg A) : FnOk P w K mg base CX0 3 A.f_50 A.d_50 ["hunk", "swap"] (spHunkSwapped A) := by
  refine T.F_50.ok sc_50 (fun vs H Q E h => ?_) (fun cdv A' outer s H vs Q E hr h => ?_)
  · obtain ⟨a, b, f, pl, o, n, g, x, y, rfl, _⟩ := h
    rfl
  · obtain ⟨a, b, f, pl, o, n, g, x, y, rfl, ⟨d1, po, pn, h1, h2, h3⟩, hq, lo, ln, k⟩ := h
    have hq' := hq
    obtain ⟨d2, g1⟩ := hq'
    refine ⟨_, (pss_one (ps_ret (pe_make T.mkHunk (ok_9 T) (hr.mono (by decide)) rfl T.mgHunk T.b_9 .nil pass0 (pa_cons (pe_fld (pv 0) rfl) (pa_cons (pe_fld (pv 0) rfl) (pa_cons (pe_meth (pv 1) T.clSwap T.m_34 (ok_34 T) (hr.mono (by decide)) T.b_34 .nil pass0 (pa_cons (pe_fld (pv 0) rfl) pa_nil)) (pa_cons (pe_meth (pv 1) T.clSwap T.m_34 (ok_34 T) (hr.mono (by decide)) T.b_34 .nil pass0 (pa_cons (pe_fld (pv 0) rfl) pa_nil)) pa_nil))))))), ?_⟩
    refine ⟨_, rfl, _, _, _, _, _, rfl, h1, T.clHunk, T.na_Hunk_name, hf1, _, rfl, _, _, _, _, _, rfl, h1, T.clHunk, T.na_Hunk_place, hf2, _, rfl, b, d2, _, rfl, g1, swapF_no, _, rfl, _, _, _, _, _, rfl, h1, T.clHunk, T.na_Hunk_old, hf3,
      b, po, g, x, y, o, rfl, hq, h2, (by omega), fun H1 r1 s1 hr1 => ?_⟩
    refine ⟨_, rfl, b, d2, _, rfl, s1 _ _ g1, swapF_no, _, rfl, _, _, _, _, _, rfl, s1 _ _ h1, T.clHunk, T.na_Hunk_new, hf4,
      b, pn, g, x, y, n, rfl, hq.mono s1, s1 _ _ h3, (by omega), fun H2 r2 s2 hr2 => ?_⟩
    exact make_hunk (C := cs A) (s2 _ _ hr1) hr2 fun H' c s' hc => k H' c ((s1.trans s2).trans s') hc
end
end P58
end
section
set_option Elab.async false
set_option linter.all false
set_option maxRecDepth 100000
set_option maxHeartbeats 1000000
namespace P58
open PySem PySem.Spec PyProof.Rows L2
theorem commuted_yes {p q : VStep} (h : VapatBase.disjoint (VapatBase.namesOf p) (VapatBase.namesOf q) = true) : VapatBase.commuted p q = some (q, p) := by
  unfold VapatBase.commuted
  rw [if_pos h]
theorem commuted_in {p q : VStep} (h : VapatBase.disjoint (VapatBase.namesOf p) (VapatBase.namesOf q) = false) (hi : (VapatBase.isInside p && VapatBase.isInside q) = true) : VapatBase.commuted p q = VapatBase.commutedInside p q := by
  unfold VapatBase.commuted
  rw [if_neg (by rw [h]; exact Bool.false_ne_true), if_pos hi]
theorem commuted_cwm {p q : VStep} (h : VapatBase.disjoint (VapatBase.namesOf p) (VapatBase.namesOf q) = false) (hi : (VapatBase.isInside p && VapatBase.isInside q) = false) : VapatBase.commuted p q = cwm p q := by
  unfold VapatBase.commuted
  rw [if_neg (by rw [h]; exact Bool.false_ne_true), if_neg (by rw [hi]; exact Bool.false_ne_true)]
  cases p <;> cases q <;> rfl
theorem nd_file {f g : Nat} (h : VapatBase.disjoint [f] [g] = false) : f = g := by
  simp [VapatBase.disjoint] at h
  exact h
section
variable {P : Program} {w : World} {K : PySem.W.Frag} {mg : Str → Option Value} {base : Heap} {A : Adr}
theorem ok_43 (T : Txt K mg A) : FnOk P w K mg base CX0 5 A.f_43 A.d_43 ["first", "second"] (spTwo A VapatBase.commuted any2) := by
  refine T.F_43.ok sc_43 (fun vs H Q E h => ?_) (fun cdv A' outer s H vs Q E hr h => ?_)
  · obtain ⟨a, b, p, q, rfl, _⟩ := h
    rfl
  · obtain ⟨a, b, p, q, rfl, hp, hq, sp_, sq_, _, k⟩ := h
    refine ⟨_, (pss_cons (ps_if (pt_not (pt_val (pe_call (ok_68 T) (hr.mono (by decide)) rfl T.mg_68 T.F_68.kp T.b_68 .nil pass0 (pa_cons (pv 0) (pa_cons (pv 1) pa_nil)))))
          (pss_one (ps_ret (pe_tup (pa_cons (pv 1) (pa_cons (pv 0) pa_nil)))))
          pss_nil)
        (pss_cons (ps_if (PW.pt (pw_or (pt_val (pe_callB call_isi (by rfl) T.n_isinstance boot_isinstance (pa_cons (pv 0) (pa_cons (pe_gref rfl T.mgMoved) pa_nil)))) (pw_or1 (pt_val (pe_callB call_isi (by rfl) T.n_isinstance boot_isinstance (pa_cons (pv 1) (pa_cons (pe_gref rfl T.mgMoved) pa_nil)))))))
          (pss_one (ps_ret (pe_call (ok_47 T) (hr.mono (by decide)) rfl T.mg_47 T.F_47.kp T.b_47 .nil pass0 (pa_cons (pv 0) (pa_cons (pv 1) pa_nil)))))
          pss_nil)
        (pss_cons (ps_if (PW.pt (pw_and (pt_val (pe_callB call_isi (by rfl) T.n_isinstance boot_isinstance (pa_cons (pv 0) (pa_cons (pe_gref rfl T.mgHunk) pa_nil)))) (pw_and1 (pt_val (pe_callB call_isi (by rfl) T.n_isinstance boot_isinstance (pa_cons (pv 1) (pa_cons (pe_gref rfl T.mgHunk) pa_nil)))))))
          (pss_one (ps_ret (pe_call (ok_45 T) (hr.mono (by decide)) rfl T.mg_45 T.F_45.kp T.b_45 .nil pass0 (pa_cons (pv 0) (pa_cons (pv 1) pa_nil)))))
          pss_nil)
        (pss_cons (ps_if (PW.pt (pw_and (pt_val (pe_callB call_isi (by rfl) T.n_isinstance boot_isinstance (pa_cons (pv 0) (pa_cons (pe_gref rfl T.mgHunk) pa_nil)))) (pw_and1 (pt_val (pe_callB call_isi (by rfl) T.n_isinstance boot_isinstance (pa_cons (pv 1) (pa_cons (pe_gref rfl T.mgSwap) pa_nil)))))))
          (pss_one (ps_ret (pe_tup (pa_cons (pv 1) (pa_cons (pe_call (ok_50 T) (hr.mono (by decide)) rfl T.mg_50 T.F_50.kp T.b_50 .nil pass0 (pa_cons (pv 0) (pa_cons (pv 1) pa_nil))) pa_nil)))))
          pss_nil)
        (pss_cons (ps_if (PW.pt (pw_and (pt_val (pe_callB call_isi (by rfl) T.n_isinstance boot_isinstance (pa_cons (pv 0) (pa_cons (pe_gref rfl T.mgSwap) pa_nil)))) (pw_and1 (pt_val (pe_callB call_isi (by rfl) T.n_isinstance boot_isinstance (pa_cons (pv 1) (pa_cons (pe_gref rfl T.mgHunk) pa_nil)))))))
          (pss_one (ps_ret (pe_tup (pa_cons (pe_call (ok_50 T) (hr.mono (by decide)) rfl T.mg_50 T.F_50.kp T.b_50 .nil pass0 (pa_cons (pv 1) (pa_cons (pv 0) pa_nil))) (pa_cons (pv 0) pa_nil)))))
          pss_nil)
        (pss_cons (ps_if (PW.pt (pw_and (pt_val (pe_callB call_isi (by rfl) T.n_isinstance boot_isinstance (pa_cons (pv 0) (pa_cons (pe_gref rfl T.mgSwap) pa_nil)))) (pw_and (pt_val (pe_callB call_isi (by rfl) T.n_isinstance boot_isinstance (pa_cons (pv 1) (pa_cons (pe_gref rfl T.mgSwap) pa_nil)))) (pw_and1 (pt_not (pt_val (pe_call (ok_69 T) (hr.mono (by decide)) rfl T.mg_69 T.F_69.kp T.b_69 .nil pass0 (pa_cons (pv 0) (pa_cons (pv 1) pa_nil)))))))))
          (pss_one (ps_ret (pe_tup (pa_cons (pv 1) (pa_cons (pv 0) pa_nil)))))
          pss_nil)
        (pss_one (ps_ret pe_non)))))))), ?_⟩
    refine ⟨_, rfl, _, rfl, a, b, p, q, rfl, hp, hq, fun H1 s1 => ⟨_, rfl, ?_⟩⟩
    have hp1 := hp.mono s1
    have hq1 := hq.mono s1
    cases hd : VapatBase.disjoint (VapatBase.namesOf p) (VapatBase.namesOf q) with
    | true =>
      refine iteT ⟨_, rfl, _, rfl, (by show 2 ≤ sizeLine; decide), fun tp gp => ?_⟩
      have s2 := Same.new (o := .tup [.ref b, .ref a]) gp
      refine k _ _ (s1.trans s2) ?_
      rw [commuted_yes hd]
      exact ⟨tp, b, a, rfl, upd_same, hq1.mono s2, hp1.mono s2⟩
    | false =>
      refine iteF (isi_or T rfl rfl hp1 hq1 (ki_moved T p) (ki_moved T q) ?_)
      have mv : (VapatBase.isInside p && VapatBase.isInside q) = false → ∃ vs : List V, True := fun _ => ⟨[], trivial⟩
      have cw : (VapatBase.isInside p && VapatBase.isInside q) = false → ∀ H' v, Same H1 H' → PairAt (cs A) H' v (cwm p q) → Q v H' := fun hi H' v s' hv => k H' v (s1.trans s') (by rw [commuted_cwm hd hi]; exact hv)
      cases p with
      | move f g => exact iteT ⟨_, rfl, _, rfl, a, b, .move f g, q, rfl, hp1, hq1, sp_, sq_, trivial, fun H' v s' hv => cw rfl H' v s' hv⟩
      | hunk f pa o n =>
        cases q with
        | move f' g' => exact iteT ⟨_, rfl, _, rfl, a, b, .hunk f pa o n, .move f' g', rfl, hp1, hq1, sp_, sq_, trivial, fun H' v s' hv => cw rfl H' v s' hv⟩
        | hunk g pb u v =>
          refine iteF (isi_and T rfl rfl hp1 hq1 (ki_hunk T _) (ki_hunk T _) (iteT ⟨_, rfl, _, rfl, a, b, .hunk f pa o n, .hunk g pb u v, rfl, hp1, hq1, sp_, sq_, nd_file hd, fun H' z s' hv => k H' z (s1.trans s') ?_⟩))
          rw [commuted_in hd rfl]
          exact hv
        | swap g x y =>
          refine iteF (isi_and T rfl rfl hp1 hq1 (ki_hunk T _) (ki_hunk T _) (iteF (isi_and T rfl rfl hp1 hq1 (ki_hunk T _) (ki_swap T _) (iteT ⟨_, rfl, _, rfl, _, rfl, a, b, f, pa, o, n, g, x, y, rfl, hp1, hq1, sp_.2.1, sp_.2.2, fun H2 c s2 hc => ⟨(by show 2 ≤ sizeLine; decide), fun tp gp => ?_⟩⟩))))
          have s3 := Same.new (o := .tup [.ref b, .ref c]) gp
          refine k _ _ ((s1.trans s2).trans s3) ?_
          rw [commuted_in hd rfl]
          have e : f = g := nd_file hd
          subst e
          exact ⟨tp, b, c, rfl, upd_same, hq1.mono (s2.trans s3), hc.mono s3⟩
        | add g =>
          refine iteF (isi_and T rfl rfl hp1 hq1 (ki_hunk T _) (ki_hunk T _) (iteF (isi_and T rfl rfl hp1 hq1 (ki_hunk T _) (ki_swap T _) (iteF (isi_and T rfl rfl hp1 hq1 (ki_swap T _) (ki_hunk T _) (iteF (isi_and3 T rfl rfl hp1 hq1 (ki_swap T _) (ki_swap T _) (iteF (iteF ?_)))))))))
          exact cw rfl _ _ (Same.refl _) rfl
        | remove g =>
          refine iteF (isi_and T rfl rfl hp1 hq1 (ki_hunk T _) (ki_hunk T _) (iteF (isi_and T rfl rfl hp1 hq1 (ki_hunk T _) (ki_swap T _) (iteF (isi_and T rfl rfl hp1 hq1 (ki_swap T _) (ki_hunk T _) (iteF (isi_and3 T rfl rfl hp1 hq1 (ki_swap T _) (ki_swap T _) (iteF (iteF ?_)))))))))
          exact cw rfl _ _ (Same.refl _) rfl
      | swap f x y =>
        cases q with
        | move f' g' => exact iteT ⟨_, rfl, _, rfl, a, b, .swap f x y, .move f' g', rfl, hp1, hq1, sp_, sq_, trivial, fun H' v s' hv => cw rfl H' v s' hv⟩
        | hunk g pb u v =>
          refine iteF (isi_and T rfl rfl hp1 hq1 (ki_hunk T _) (ki_hunk T _) (iteF (isi_and T rfl rfl hp1 hq1 (ki_hunk T _) (ki_swap T _) (iteF (isi_and T rfl rfl hp1 hq1 (ki_swap T _) (ki_hunk T _) (iteT ⟨_, rfl, _, rfl, b, a, g, pb, u, v, f, x, y, rfl, hq1, hp1, sq_.2.1, sq_.2.2, fun H2 c s2 hc => ⟨_, rfl, (by show 2 ≤ sizeLine; decide), fun tp gp => ?_⟩⟩))))))
          have s3 := Same.new (o := .tup [.ref c, .ref a]) gp
          refine k _ _ ((s1.trans s2).trans s3) ?_
          rw [commuted_in hd rfl]
          have e : f = g := nd_file hd
          subst e
          exact ⟨tp, c, a, rfl, upd_same, hc.mono s3, hp1.mono (s2.trans s3)⟩
        | swap g u v =>
          refine iteF (isi_and T rfl rfl hp1 hq1 (ki_hunk T _) (ki_hunk T _) (iteF (isi_and T rfl rfl hp1 hq1 (ki_hunk T _) (ki_swap T _) (iteF (isi_and T rfl rfl hp1 hq1 (ki_swap T _) (ki_hunk T _) (iteF (isi_and3 T rfl rfl hp1 hq1 (ki_swap T _) (ki_swap T _) (iteT ?_))))))))
          refine ⟨_, rfl, _, rfl, a, b, f, x, y, g, u, v, rfl, hp1, hq1, fun H2 s2 => ⟨_, rfl, ?_⟩⟩
          have e : f = g := nd_file hd
          subst e
          cases hdj : VapatBase.disjoint [x, y] [u, v] with
          | true =>
            refine iteT ⟨_, rfl, _, rfl, (by show 2 ≤ sizeLine; decide), fun tp gp => ?_⟩
            have s3 := Same.new (o := .tup [.ref b, .ref a]) gp
            refine k _ _ ((s1.trans s2).trans s3) ?_
            rw [commuted_in hd rfl]
            dsimp only [VapatBase.commutedInside]
            rw [if_pos hdj]
            exact ⟨tp, b, a, rfl, upd_same, hq1.mono (s2.trans s3), hp1.mono (s2.trans s3)⟩
          | false =>
            refine iteF (k _ _ (s1.trans s2) ?_)
            rw [commuted_in hd rfl]
            dsimp only [VapatBase.commutedInside]
            rw [if_neg (by rw [hdj]; exact Bool.false_ne_true)]
            rfl
        | add g =>
          refine iteF (isi_and T rfl rfl hp1 hq1 (ki_hunk T _) (ki_hunk T _) (iteF (isi_and T rfl rfl hp1 hq1 (ki_hunk T _) (ki_swap T _) (iteF (isi_and T rfl rfl hp1 hq1 (ki_swap T _) (ki_hunk T _) (iteF (isi_and3 T rfl rfl hp1 hq1 (ki_swap T _) (ki_swap T _) (iteF (iteF ?_)))))))))
          exact cw rfl _ _ (Same.refl _) rfl
        | remove g =>
          refine iteF (isi_and T rfl rfl hp1 hq1 (ki_hunk T _) (ki_hunk T _) (iteF (isi_and T rfl rfl hp1 hq1 (ki_hunk T _) (ki_swap T _) (iteF (isi_and T rfl rfl hp1 hq1 (ki_swap T _) (ki_hunk T _) (iteF (isi_and3 T rfl rfl hp1 hq1 (ki_swap T _) (ki_swap T _) (iteF (iteF ?_)))))))))
          exact cw rfl _ _ (Same.refl _) rfl
      | add f =>
        cases q with
        | move f' g' => exact iteT ⟨_, rfl, _, rfl, a, b, .add f, .move f' g', rfl, hp1, hq1, sp_, sq_, trivial, fun H' v s' hv => cw rfl H' v s' hv⟩
        | hunk g pb u v =>
          refine iteF (isi_and T rfl rfl hp1 hq1 (ki_hunk T _) (ki_hunk T _) (iteF (isi_and T rfl rfl hp1 hq1 (ki_hunk T _) (ki_swap T _) (iteF (isi_and T rfl rfl hp1 hq1 (ki_swap T _) (ki_hunk T _) (iteF (isi_and3 T rfl rfl hp1 hq1 (ki_swap T _) (ki_swap T _) (iteF (iteF ?_)))))))))
          exact cw rfl _ _ (Same.refl _) rfl
        | swap g x y =>
          refine iteF (isi_and T rfl rfl hp1 hq1 (ki_hunk T _) (ki_hunk T _) (iteF (isi_and T rfl rfl hp1 hq1 (ki_hunk T _) (ki_swap T _) (iteF (isi_and T rfl rfl hp1 hq1 (ki_swap T _) (ki_hunk T _) (iteF (isi_and3 T rfl rfl hp1 hq1 (ki_swap T _) (ki_swap T _) (iteF (iteF ?_)))))))))
          exact cw rfl _ _ (Same.refl _) rfl
        | add g =>
          refine iteF (isi_and T rfl rfl hp1 hq1 (ki_hunk T _) (ki_hunk T _) (iteF (isi_and T rfl rfl hp1 hq1 (ki_hunk T _) (ki_swap T _) (iteF (isi_and T rfl rfl hp1 hq1 (ki_swap T _) (ki_hunk T _) (iteF (isi_and3 T rfl rfl hp1 hq1 (ki_swap T _) (ki_swap T _) (iteF (iteF ?_)))))))))
          exact cw rfl _ _ (Same.refl _) rfl
        | remove g =>
          refine iteF (isi_and T rfl rfl hp1 hq1 (ki_hunk T _) (ki_hunk T _) (iteF (isi_and T rfl rfl hp1 hq1 (ki_hunk T _) (ki_swap T _) (iteF (isi_and T rfl rfl hp1 hq1 (ki_swap T _) (ki_hunk T _) (iteF (isi_and3 T rfl rfl hp1 hq1 (ki_swap T _) (ki_swap T _) (iteF (iteF ?_)))))))))
          exact cw rfl _ _ (Same.refl _) rfl
      | remove f =>
        cases q with
        | move f' g' => exact iteT ⟨_, rfl, _, rfl, a, b, .remove f, .move f' g', rfl, hp1, hq1, sp_, sq_, trivial, fun H' v s' hv => cw rfl H' v s' hv⟩
        | hunk g pb u v =>
          refine iteF (isi_and T rfl rfl hp1 hq1 (ki_hunk T _) (ki_hunk T _) (iteF (isi_and T rfl rfl hp1 hq1 (ki_hunk T _) (ki_swap T _) (iteF (isi_and T rfl rfl hp1 hq1 (ki_swap T _) (ki_hunk T _) (iteF (isi_and3 T rfl rfl hp1 hq1 (ki_swap T _) (ki_swap T _) (iteF (iteF ?_)))))))))
          exact cw rfl _ _ (Same.refl _) rfl
        | swap g x y =>
          refine iteF (isi_and T rfl rfl hp1 hq1 (ki_hunk T _) (ki_hunk T _) (iteF (isi_and T rfl rfl hp1 hq1 (ki_hunk T _) (ki_swap T _) (iteF (isi_and T rfl rfl hp1 hq1 (ki_swap T _) (ki_hunk T _) (iteF (isi_and3 T rfl rfl hp1 hq1 (ki_swap T _) (ki_swap T _) (iteF (iteF ?_)))))))))
          exact cw rfl _ _ (Same.refl _) rfl
        | add g =>
          refine iteF (isi_and T rfl rfl hp1 hq1 (ki_hunk T _) (ki_hunk T _) (iteF (isi_and T rfl rfl hp1 hq1 (ki_hunk T _) (ki_swap T _) (iteF (isi_and T rfl rfl hp1 hq1 (ki_swap T _) (ki_hunk T _) (iteF (isi_and3 T rfl rfl hp1 hq1 (ki_swap T _) (ki_swap T _) (iteF (iteF ?_)))))))))
          exact cw rfl _ _ (Same.refl _) rfl
        | remove g =>
          refine iteF (isi_and T rfl rfl hp1 hq1 (ki_hunk T _) (ki_hunk T _) (iteF (isi_and T rfl rfl hp1 hq1 (ki_hunk T _) (ki_swap T _) (iteF (isi_and T rfl rfl hp1 hq1 (ki_swap T _) (ki_hunk T _) (iteF (isi_and3 T rfl rfl hp1 hq1 (ki_swap T _) (ki_swap T _) (iteF (iteF ?_)))))))))
          exact cw rfl _ _ (Same.refl _) rfl
def whyN (p q : VStep) : Int := match Vapatb.whyNot p q with
  | none => 0
  | some x => Vapatb.whyNumber x
def spWhyNot (A : Adr) : Sp := fun vs H Q _ => ∃ a b p q, vs = [.ref a, .ref b] ∧ StepAt (cs A) H a p ∧ StepAt (cs A) H b q ∧ VM.small p ∧ VM.small q ∧ ∀ H', Same H H' → Q (.int (whyN p q)) H'
theorem nocomm_file {p q : VStep} (h : VapatBase.commuted p q = none) : VapatBase.disjoint (VapatBase.namesOf p) (VapatBase.namesOf q) = false := by
  cases hd : VapatBase.disjoint (VapatBase.namesOf p) (VapatBase.namesOf q) with
  | false => rfl
  | true => rw [commuted_yes hd] at h; cases h
theorem ok_78 (T : Txt K mg A) : FnOk P w K mg base CX0 6 A.f_78 A.d_78 ["first", "second"] (spWhyNot A) := by
  refine T.F_78.ok sc_78 (fun vs H Q E h => ?_) (fun cdv A' outer s H vs Q E hr h => ?_)
  · obtain ⟨a, b, p, q, rfl, _⟩ := h
    rfl
  · obtain ⟨a, b, p, q, rfl, hp, hq, sp_, sq_, k⟩ := h
    refine ⟨_, (pss_cons (ps_if (pt_cmp (pc_notN (pe_call (ok_43 T) (hr.mono (by decide)) rfl T.mg_43 T.F_43.kp T.b_43 .nil pass0 (pa_cons (pv 0) (pa_cons (pv 1) pa_nil)))))
          (pss_one (ps_ret (pe_gi rfl T.g_THEY_COMMUTE)))
          pss_nil)
        (pss_cons (ps_if (PW.pt (pw_and (pt_val (pe_callB call_isi (by rfl) T.n_isinstance boot_isinstance (pa_cons (pv 0) (pa_cons (pe_gref rfl T.mgHunk) pa_nil)))) (pw_and1 (pt_val (pe_callB call_isi (by rfl) T.n_isinstance boot_isinstance (pa_cons (pv 1) (pa_cons (pe_gref rfl T.mgHunk) pa_nil)))))))
          (pss_one (ps_ret (pe_gi rfl T.g_HUNKS_TOUCH)))
          pss_nil)
        (pss_cons (ps_if (PW.pt (pw_and (pt_val (pe_callB call_isi (by rfl) T.n_isinstance boot_isinstance (pa_cons (pv 0) (pa_cons (pe_gref rfl T.mgSwap) pa_nil)))) (pw_and1 (pt_val (pe_callB call_isi (by rfl) T.n_isinstance boot_isinstance (pa_cons (pv 1) (pa_cons (pe_gref rfl T.mgSwap) pa_nil)))))))
          (pss_one (ps_ret (pe_gi rfl T.g_SWAPS_TOUCH)))
          pss_nil)
        (pss_one (ps_ret (pe_gi rfl T.g_ELSE_NOT)))))), ?_⟩
    refine ⟨_, rfl, _, rfl, a, b, p, q, rfl, hp, hq, sp_, sq_, trivial, fun H1 v s1 hv => ⟨_, rfl, ?_⟩⟩
    have k1 := k H1 s1
    have hp1 := hp.mono s1
    have hq1 := hq.mono s1
    unfold whyN Vapatb.whyNot at k1
    cases hc : VapatBase.commuted p q with
    | some r =>
      rw [hc] at hv k1
      obtain ⟨t, x, y, rfl, _⟩ := hv
      exact iteT k1
    | none =>
      rw [hc] at hv k1
      have hv : v = .non := hv
      subst hv
      refine iteF (isi_and T rfl rfl hp1 hq1 (ki_hunk T p) (ki_hunk T q) ?_)
      have hd := nocomm_file hc
      cases p with
      | hunk f pa o n =>
        cases q with
        | hunk g pb u v =>
          have e : f = g := nd_file hd
          dsimp only at k1
          rw [if_pos e] at k1
          exact iteT k1
        | swap => exact iteF (isi_and T rfl rfl hp1 hq1 (ki_swap T _) (ki_swap T _) (iteF k1))
        | add => exact iteF (isi_and T rfl rfl hp1 hq1 (ki_swap T _) (ki_swap T _) (iteF k1))
        | remove => exact iteF (isi_and T rfl rfl hp1 hq1 (ki_swap T _) (ki_swap T _) (iteF k1))
        | move => exact iteF (isi_and T rfl rfl hp1 hq1 (ki_swap T _) (ki_swap T _) (iteF k1))
      | swap f x y =>
        cases q with
        | swap g u v =>
          have e : f = g := nd_file hd
          dsimp only at k1
          rw [if_pos e] at k1
          exact iteF (isi_and T rfl rfl hp1 hq1 (ki_swap T _) (ki_swap T _) (iteT k1))
        | hunk => exact iteF (isi_and T rfl rfl hp1 hq1 (ki_swap T _) (ki_swap T _) (iteF k1))
        | add => exact iteF (isi_and T rfl rfl hp1 hq1 (ki_swap T _) (ki_swap T _) (iteF k1))
        | remove => exact iteF (isi_and T rfl rfl hp1 hq1 (ki_swap T _) (ki_swap T _) (iteF k1))
        | move => exact iteF (isi_and T rfl rfl hp1 hq1 (ki_swap T _) (ki_swap T _) (iteF k1))
      | add f => cases q <;> exact iteF (isi_and T rfl rfl hp1 hq1 (ki_swap T _) (ki_swap T _) (iteF k1))
      | remove f => cases q <;> exact iteF (isi_and T rfl rfl hp1 hq1 (ki_swap T _) (ki_swap T _) (iteF k1))
      | move f g => cases q <;> exact iteF (isi_and T rfl rfl hp1 hq1 (ki_swap T _) (ki_swap T _) (iteF k1))
end
end P58
end
section
set_option Elab.async false
set_option linter.all false
set_option maxRecDepth 100000
set_option maxHeartbeats 1000000
namespace P58
open PySem PySem.Spec PyProof.Rows L2
theorem inR_true {lo hi z : Int} (h1 : decide (lo ≤ z) = true) : decide (VM.inR lo hi z) = decide (z ≤ hi) := by
  apply decide_eq_decide.mpr
  exact ⟨fun q => q.2, fun q => ⟨of_decide_eq_true h1, q⟩⟩
theorem inR_false {lo hi z : Int} (h1 : ¬ decide (lo ≤ z) = true) : decide (VM.inR lo hi z) = false := by
  apply decide_eq_false
  exact fun q => h1 (decide_eq_true q.1)
theorem chainV {lo hi z : Int} {H : Hp} {Q : VK} (q : Q (.bl (decide (VM.inR lo hi z))) H) : ∃ i j, V.int lo = .int i ∧ V.int z = .int j ∧ ∃ k, V.bl (decide (i ≤ j)) = .bl k ∧
    if k = true then ∃ i' j', V.int z = .int i' ∧ V.int hi = .int j' ∧ Q (.bl (decide (i' ≤ j'))) H else Q (.bl false) H := by
  refine ⟨_, _, rfl, rfl, _, rfl, ite2 (fun h => ⟨_, _, rfl, rfl, ?_⟩) (fun h => ?_)⟩
  · rw [inR_true h] at q; exact q
  · rw [inR_false h] at q; exact q
theorem chainT {lo hi z : Int} {H : Hp} {Q : Bool → Hp → Prop} (q : Q (decide (VM.inR lo hi z)) H) : ∃ i j, V.int lo = .int i ∧ V.int z = .int j ∧ ∃ k, V.bl (decide (i ≤ j)) = .bl k ∧
    if k = true then ∃ i' j', V.int z = .int i' ∧ V.int hi = .int j' ∧ ∃ k', V.bl (decide (i' ≤ j')) = .bl k' ∧ Q k' H else ∃ k', V.bl false = .bl k' ∧ Q k' H :=
  chainV (Q := fun x H' => ∃ k', x = .bl k' ∧ Q k' H') ⟨_, rfl, q⟩
theorem chainTv {lo hi z : Int} {n : Nat} {σ : L2.St} {H : Hp} {Q : Bool → Hp → Prop} (e : σ[n]? = some (some (V.int hi))) (q : Q (decide (VM.inR lo hi z)) H) : ∃ i j, V.int lo = .int i ∧ V.int z = .int j ∧ ∃ k, V.bl (decide (i ≤ j)) = .bl k ∧
    if k = true then ∃ v, σ[n]? = some (some v) ∧ ∃ i' j', V.int z = .int i' ∧ v = .int j' ∧ ∃ k', V.bl (decide (i' ≤ j')) = .bl k' ∧ Q k' H else ∃ k', V.bl false = .bl k' ∧ Q k' H := by
  refine ⟨_, _, rfl, rfl, _, rfl, ite2 (fun h => ⟨_, e, _, _, rfl, rfl, _, rfl, ?_⟩) (fun h => ⟨_, rfl, ?_⟩)⟩
  · rw [inR_true h] at q; exact q
  · rw [inR_false h] at q; exact q
def TokAt (H : Hp) (v : V) : Option (List Nat × List Int) → Prop
  | none => v = .non
  | some r => ∃ l, v = .ref l ∧ TL H l r.1
def spInR (lo hi : Int) : Sp := fun vs H Q _ => ∃ z : Int, vs = [.int z] ∧ Q (.bl (decide (VM.inR lo hi z))) H
def spTokens : Sp := fun vs H Q _ => ∃ a ns i m, ∃ zi zm : Int, vs = [.ref a, .int zi, .int zm] ∧ zi = ((i : Nat) : Int) ∧ zm = ((m : Nat) : Int) ∧ IL H a ns ∧ ns.length ≤ 1000 ∧ ∀ H' v, Same H H' → TokAt H' v (VapatBase.readTokens m (ns.drop i)) → Q v H'
theorem all_in (l : List Int) : ((l.map fun t => decide (VM.inR 0 99 t)).all id) = decide (∀ t ∈ l, VM.inR 0 99 t) := by
  rw [Bool.eq_iff_iff]
  simp
theorem toks_nV {l : List Int} (h : ∀ t ∈ l, VM.inR 0 99 t) : l.map V.int = (VM.toks l).map nV := by
  unfold VM.toks
  rw [List.map_map]
  apply List.map_congr_left
  intro t ht
  have := h t ht
  unfold VM.inR at this
  show V.int t = V.int ((t.toNat : Nat) : Int)
  congr 1
  omega
theorem getInt {l : List Int} {i : Nat} {x : V} (h : (l.map V.int)[i]? = some x) : ∃ t, l[i]? = some t ∧ x = V.int t := by
  rw [List.getElem?_map] at h
  cases e : l[i]? with
  | none => rw [e] at h; cases h
  | some t => rw [e] at h; exact ⟨t, rfl, (Option.some.inj h).symm⟩
theorem atInt {l : List Int} {i : Nat} {z t : Int} (e : z = (i : Int)) (h : l[i]? = some t) : atI (l.map V.int) z = some (V.int t) := at_of e (by rw [List.getElem?_map, h]; rfl)
section
variable {P : Program} {w : World} {K : PySem.W.Frag} {mg : Str → Option Value} {base : Heap} {A : Adr}
theorem ok_52 (T : Txt K mg A) : FnOk P w K mg base CX0 1 A.f_52 A.d_52 ["number"] (spInR 0 9) := by
  refine T.F_52.ok sc_52 (fun vs H Q E h => ?_) (fun cdv A' outer s H vs Q E hr h => ?_)
  · obtain ⟨z, rfl, _⟩ := h
    rfl
  · obtain ⟨z, rfl, k⟩ := h
    refine ⟨_, (pss_one (ps_ret (pe_chain op_le op_le pe_int (pv 0) (pe_gi rfl T.g_LAST_NAME)))), ?_⟩
    exact ⟨_, rfl, chainV k⟩
theorem ok_53 (T : Txt K mg A) : FnOk P w K mg base CX0 1 A.f_53 A.d_53 ["number"] (spInR 0 99) := by
  refine T.F_53.ok sc_53 (fun vs H Q E h => ?_) (fun cdv A' outer s H vs Q E hr h => ?_)
  · obtain ⟨z, rfl, _⟩ := h
    rfl
  · obtain ⟨z, rfl, k⟩ := h
    refine ⟨_, (pss_one (ps_ret (pe_chain op_le op_le pe_int (pv 0) (pe_gi rfl T.g_LAST_TOKEN)))), ?_⟩
    exact ⟨_, rfl, chainV k⟩
theorem ok_48 (T : Txt K mg A) : FnOk P w K mg base CX0 2 A.f_48 A.d_48 ["numbers", "at", "most"] spTokens := by
  refine T.F_48.ok sc_48 (fun vs H Q E h => ?_) (fun cdv A' outer s H vs Q E hr h => ?_)
  · obtain ⟨a, ns, i, m, zi, zm, rfl, _⟩ := h
    rfl
  · obtain ⟨a, ns, i, m, zi, zm, rfl, rfl, rfl, ha, hlen, k⟩ := h
    refine ⟨_, (pss_cons (ps_if (PW.pt (pw_or (pt_cmpR op_ge (pv 1) (pe_callB call_len_seq (by rfl) T.n_len PySem.boot_len (pa_cons (pv 0) pa_nil)) (nomark _)) (pw_or1 (pt_not (pt_chain op_le op_le pe_int (pe_ix ix_list (pv 0) (pv 1) (fun _ _ => rfl)) (pv 2))))))
          (pss_one (ps_ret pe_non))
          pss_nil)
        (pss_cons (ps_set (i := 3) sc_48.nd rfl (Or.inl rfl) (pe_slice sl_list (pv 0) (po_some (pe_op op_add (pv 1) pe_int)) (po_some (pe_op op_add (pe_op op_add (pv 1) pe_int) (pe_ix ix_list (pv 0) (pv 1) (fun _ _ => rfl))))))
        (pss_cons (ps_if (pt_cmpR op_lt (pe_callB call_len_seq (by rfl) T.n_len PySem.boot_len (pa_cons (pv 3) pa_nil)) (pe_ix ix_list (pv 0) (pv 1) (fun _ _ => rfl)) (nomark _))
          (pss_one (ps_ret pe_non))
          pss_nil)
        (pss_cons (ps_if (pt_not (pt_val (pe_callB (cr_all rfl) (by rfl) T.n_all boot_all (pa_cons (pe_lc rfl sc_48.nd (pi_list (pv 3)) (blkOk_by (N := ["numbers", "at", "most", "tokens", "token"]) (sc := defScope st_48) (own := [("token", 4)]) (by decide +kernel)) (fun _ _ _ _ _ => pg_name (i := 4) sc_48.nd rfl (Or.inl rfl)) (fun _ _ _ _ _ => pts_nil) (fun _ _ _ _ _ => (pe_call (ok_53 T) (hr.mono (by decide)) rfl T.mg_53 T.F_53.kp T.b_53 .nil pass0 (pa_cons (pv 4) pa_nil)))) pa_nil))))
          (pss_one (ps_ret pe_non))
          pss_nil)
        (pss_one (ps_ret (pv 3))))))), ?_⟩
    refine ⟨_, rfl, _, rfl, a, _, rfl, .inl (SqL.of ha), _, _, rfl, rfl, _, rfl, ?_⟩
    by_cases hi : i < ns.length
    · rw [decide_eq_false (by rw [List.length_map]; omega)]
      refine iteF ?_
      have hz : ns[i]? = some ns[i] := List.getElem?_eq_getElem hi
      have hdrop : ns.drop i = ns[i] :: ns.drop (i + 1) := by rw [List.getElem_cons_drop]
      generalize ns[i] = z at hz hdrop
      rw [hdrop, VM.readTokens_cons] at k
      refine ⟨_, rfl, _, rfl, a, _, _, _, rfl, rfl, SqL.of ha, atInt rfl hz, chainTv rfl ?_⟩
      by_cases hr0 : VM.inR 0 (m : Int) z
      · rw [decide_eq_true hr0]
        refine iteF ?_
        have hz0 : 0 ≤ z := hr0.1
        refine ⟨_, rfl, _, rfl, _, _, rfl, rfl, _, rfl, _, rfl, _, _, rfl, rfl, _, rfl, _, rfl, a, _, _, _, rfl, rfl, SqL.of ha, atInt rfl hz, _, _, rfl, rfl, _, rfl, a, _, rfl, SqL.of ha, fun l gl => ?_⟩
        have ecut : cutV (ns.map V.int) (some ((i : Int) + 1)) (some ((i : Int) + 1 + z)) = ((ns.drop (i + 1)).take z.toNat).map V.int := by
          have e1 : (i : Int) + 1 = ((i + 1 : Nat) : Int) := by omega
          have e2 : (i : Int) + 1 + z = ((i + 1 + z.toNat : Nat) : Int) := by omega
          rw [e2, e1, cut_both, ints_drop, ints_take]
          congr 2
          omega
        have s1 := Same.new (o := .lst (cutV (ns.map V.int) (some ((i : Int) + 1)) (some ((i : Int) + 1 + z)))) gl
        have hl : IL (upd H l (.lst (cutV (ns.map V.int) (some ((i : Int) + 1)) (some ((i : Int) + 1 + z))))) l ((ns.drop (i + 1)).take z.toNat) := by
          show upd _ l _ l = _
          rw [upd_same, ecut]
        generalize upd H l (.lst (cutV (ns.map V.int) (some ((i : Int) + 1)) (some ((i : Int) + 1 + z)))) = H1 at s1 hl
        have ha1 := s1 _ _ ha
        refine ⟨_, rfl, l, _, rfl, .inl (SqL.of hl), _, rfl, _, rfl, a, _, _, _, rfl, rfl, SqL.of ha1, atInt rfl hz, _, _, rfl, rfl, _, rfl, ?_⟩
        by_cases hlt : z.toNat ≤ (ns.drop (i + 1)).length
        · rw [decide_eq_false (by rw [List.length_map, List.length_take]; omega)]
          refine iteF ?_
          refine ⟨_, rfl, l, rfl, ⟨_, SqL.of hl⟩, fun D hD => lc_list (K := K) (a := l) (xs := ((ns.drop (i + 1)).take z.toNat).map V.int)
            (fun j H' => Same H1 H' ∧ H' D = some (.lst (((((ns.drop (i + 1)).take z.toNat).take j).map fun t => decide (VM.inR 0 99 t)).map V.bl))) ⟨Same.new hD, upd_same⟩ (fun j H' _ z => SqL.of (z.1 _ _ hl)) ?_ ?_⟩
          · rintro j v H' hj ⟨s', hD'⟩
            obtain ⟨t, ht, rfl⟩ := getInt hj
            refine ⟨rfl, ?_⟩
            unfold tYes
            dsimp only
            rw [if_pos rfl]
            refine ⟨_, rfl, t, rfl, _, hD', ?_, ?_⟩
            · refine lt_line ?_
              rw [List.length_map, List.length_map, List.length_take, List.length_take, List.length_drop]
              omega
            · refine ⟨s'.upd hD, ?_⟩
              rw [upd_same, take_one ht]
              simp
          · rintro H' ⟨s', hD'⟩
            rw [List.length_map, List.take_length] at hD'
            refine ⟨D, _, rfl, SqL.of hD', _, rfl, ?_⟩
            rw [all_in]
            by_cases hall : ∀ t ∈ (ns.drop (i + 1)).take z.toNat, VM.inR 0 99 t
            · rw [decide_eq_true hall]
              rw [if_pos ⟨hr0, hlt, hall⟩] at k
              refine iteF ⟨_, rfl, k H' _ (s1.trans s') ⟨l, rfl, ?_⟩⟩
              have := s' _ _ hl
              rw [toks_nV hall] at this
              exact this
            · rw [decide_eq_false hall]
              rw [if_neg fun q => hall q.2.2] at k
              exact iteT (k H' _ (s1.trans s') rfl)
        · rw [decide_eq_true (by rw [List.length_map, List.length_take]; omega)]
          rw [if_neg fun q => hlt q.2.1] at k
          exact iteT (k H1 _ s1 rfl)
      · rw [decide_eq_false hr0]
        rw [if_neg fun q => hr0 q.1] at k
        exact iteT (k H _ (Same.refl H) rfl)
    · rw [decide_eq_true (by rw [List.length_map]; omega)]
      have : ns.drop i = [] := List.drop_of_length_le (by omega)
      rw [this] at k
      exact iteT (iteT (k H _ (Same.refl H) rfl))
end
end P58
end
section
set_option Elab.async false
set_option linter.all false
set_option maxRecDepth 100000
set_option maxHeartbeats 1000000
namespace P58
open PySem PySem.Spec PyProof.Rows L2
def StepO (C : Cs) (H : Hp) (v : V) : Option VStep → Prop
  | none => v = .non
  | some p => ∃ x, v = .ref x ∧ StepAt C H x p
theorem nat_int {z : Int} (h : 0 ≤ z) : V.int z = nV z.toNat := by
  unfold nV
  congr 1
  omega
def spRead (A : Adr) (ok : List Int → Prop) : Sp := fun vs H Q _ => ∃ a ns, vs = [.ref a] ∧ IL H a ns ∧ ns.length ≤ 1000 ∧ ok ns ∧ ∀ H' v, Same H H' → StepO (cs A) H' v (VapatBase.whole VapatBase.readStep ns) → Q v H'
def kindName (k : Int) (ns : List Int) : Prop := ∃ f r, ns = k :: f :: r ∧ VM.inR 0 9 f
theorem mk_hunk_v {C : Cs} {H : Hp} {Q : VK} {f pl : Nat} {v1 v2 : V} {po pn : Addr} {o n : List Nat} (e1 : v1 = nV f) (e2 : v2 = nV pl) (ho : TL H po o) (hn : TL H pn n) (k : ∀ H' x, Same H H' → StepAt C H' x (.hunk f pl o n) → Q (.ref x) H') {E : XK} :
    ∀ x dx, H x = none → H dx = none → dx ≠ x → spInitHunk C.hunk (.ref x :: ([v1, v2, .ref po, .ref pn] ++ [])) (upd (upd H dx (.own x)) x (.ins C.hunk dx [])) (fun v H2 => v = .non ∧ Q (.ref x) H2) E := by
  subst e1 e2
  exact make_hunk ho hn k
theorem mk_swap_v {C : Cs} {H : Hp} {Q : VK} {f y z : Nat} {v1 v2 v3 : V} (e1 : v1 = nV f) (e2 : v2 = nV y) (e3 : v3 = nV z) (k : ∀ H' x, Same H H' → StepAt C H' x (.swap f y z) → Q (.ref x) H') {E : XK} :
    ∀ x dx, H x = none → H dx = none → dx ≠ x → spInitSwap C.swap (.ref x :: ([v1, v2, v3] ++ [])) (upd (upd H dx (.own x)) x (.ins C.swap dx [])) (fun v H2 => v = .non ∧ Q (.ref x) H2) E := by
  subst e1 e2 e3
  exact make_swap k
theorem mk_add_v {C : Cs} {H : Hp} {Q : VK} {f : Nat} {v1 : V} (e1 : v1 = nV f) (k : ∀ H' x, Same H H' → StepAt C H' x (.add f) → Q (.ref x) H') {E : XK} :
    ∀ x dx, H x = none → H dx = none → dx ≠ x → spInitName C.added (.ref x :: ([v1] ++ [])) (upd (upd H dx (.own x)) x (.ins C.added dx [])) (fun v H2 => v = .non ∧ Q (.ref x) H2) E := by
  subst e1
  exact make_add k
theorem mk_remove_v {C : Cs} {H : Hp} {Q : VK} {f : Nat} {v1 : V} (e1 : v1 = nV f) (k : ∀ H' x, Same H H' → StepAt C H' x (.remove f) → Q (.ref x) H') {E : XK} :
    ∀ x dx, H x = none → H dx = none → dx ≠ x → spInitName C.removed (.ref x :: ([v1] ++ [])) (upd (upd H dx (.own x)) x (.ins C.removed dx [])) (fun v H2 => v = .non ∧ Q (.ref x) H2) E := by
  subst e1
  exact make_remove k
theorem mk_move_v {C : Cs} {H : Hp} {Q : VK} {f g : Nat} {v1 v2 : V} (e1 : v1 = nV f) (e2 : v2 = nV g) (k : ∀ H' x, Same H H' → StepAt C H' x (.move f g) → Q (.ref x) H') {E : XK} :
    ∀ x dx, H x = none → H dx = none → dx ≠ x → spInitMove C.moved (.ref x :: ([v1, v2] ++ [])) (upd (upd H dx (.own x)) x (.ins C.moved dx [])) (fun v H2 => v = .non ∧ Q (.ref x) H2) E := by
  subst e1 e2
  exact make_move k
section
variable {P : Program} {w : World} {K : PySem.W.Frag} {mg : Str → Option Value} {base : Heap} {A : Adr}
theorem ok_62 (T : Txt K mg A) : FnOk P w K mg base CX0 3 A.f_62 A.d_62 ["numbers"] (spRead A (kindName 1)) := by
  refine T.F_62.ok sc_62 (fun vs H Q E h => ?_) (fun cdv A' outer s H vs Q E hr h => ?_)
  · obtain ⟨a, ns, rfl, _⟩ := h
    rfl
  · obtain ⟨a, ns, rfl, ha, hlen, ⟨f, r, rfl, hf⟩, k⟩ := h
    rw [VM.step_swap hf] at k
    refine ⟨_, (pss_cons (ps_if (PW.pt (pw_or (pt_cmpR op_ne (pe_callB call_len_seq (by rfl) T.n_len PySem.boot_len (pa_cons (pv 0) pa_nil)) pe_int (nomark _)) (pw_or (pt_not (pt_val (pe_call (ok_53 T) (hr.mono (by decide)) rfl T.mg_53 T.F_53.kp T.b_53 .nil pass0 (pa_cons (pe_ix ix_list (pv 0) pe_int (fun _ _ => rfl)) pa_nil)))) (pw_or1 (pt_not (pt_val (pe_call (ok_53 T) (hr.mono (by decide)) rfl T.mg_53 T.F_53.kp T.b_53 .nil pass0 (pa_cons (pe_ix ix_list (pv 0) pe_int (fun _ _ => rfl)) pa_nil))))))))
          (pss_one (ps_ret pe_non))
          pss_nil)
        (pss_cons (ps_if (pt_cmpR op_eq (pe_ix ix_list (pv 0) pe_int (fun _ _ => rfl)) (pe_ix ix_list (pv 0) pe_int (fun _ _ => rfl)) (nomark _))
          (pss_one (ps_ret pe_non))
          pss_nil)
        (pss_one (ps_ret (pe_make T.mkSwap (ok_30 T) (hr.mono (by decide)) rfl T.mgSwap T.b_30 .nil pass0 (pa_cons (pe_ix ix_list (pv 0) pe_int (fun _ _ => rfl)) (pa_cons (pe_ix ix_list (pv 0) pe_int (fun _ _ => rfl)) (pa_cons (pe_ix ix_list (pv 0) pe_int (fun _ _ => rfl)) pa_nil)))))))), ?_⟩
    refine ⟨_, rfl, a, _, rfl, .inl (SqL.of ha), rfl, _, rfl, ?_⟩
    match r, ha, k with
    | [x, y], ha, k =>
      dsimp only at k
      refine iteF ⟨_, rfl, a, _, _, _, rfl, rfl, SqL.of ha, at_of (j := 2) rfl rfl, x, rfl, _, rfl, ?_⟩
      by_cases hx : VM.inR 0 99 x
      · rw [decide_eq_true hx]
        refine iteF ⟨_, rfl, a, _, _, _, rfl, rfl, SqL.of ha, at_of (j := 3) rfl rfl, y, rfl, _, rfl, ?_⟩
        by_cases hy : VM.inR 0 99 y
        · rw [decide_eq_true hy]
          refine iteF ⟨_, rfl, a, _, _, _, rfl, rfl, SqL.of ha, at_of (j := 2) rfl rfl, _, rfl, a, _, _, _, rfl, rfl, SqL.of ha, at_of (j := 3) rfl rfl, rfl, _, rfl, ?_⟩
          by_cases hxy : x = y
          · rw [if_neg fun q => q.2.2 hxy] at k
            rw [decide_eq_true (congrArg V.int hxy)]
            exact iteT (k H _ (Same.refl H) rfl)
          · rw [if_pos ⟨hx, hy, hxy⟩] at k
            rw [decide_eq_false fun z => hxy (V.int.inj z)]
            refine iteF ⟨_, rfl, a, _, _, _, rfl, rfl, SqL.of ha, at_of (j := 1) rfl rfl, _, rfl, a, _, _, _, rfl, rfl, SqL.of ha, at_of (j := 2) rfl rfl, _, rfl, a, _, _, _, rfl, rfl, SqL.of ha, at_of (j := 3) rfl rfl, ?_⟩
            exact mk_swap_v (C := cs A) (nat_int hf.1) (nat_int hx.1) (nat_int hy.1) fun H' z s' hz => k H' _ s' ⟨z, rfl, hz⟩
        · rw [decide_eq_false hy]
          rw [if_neg fun q => hy q.2.1] at k
          exact iteT (k H _ (Same.refl H) rfl)
      · rw [decide_eq_false hx]
        rw [if_neg fun q => hx q.1] at k
        exact iteT (iteT (k H _ (Same.refl H) rfl))
    | [], ha, k => exact iteT (iteT (k H _ (Same.refl H) rfl))
    | [x], ha, k => exact iteT (iteT (k H _ (Same.refl H) rfl))
    | x :: y :: z :: r, ha, k =>
      have : (!decide (V.int ((((1 : Int) :: f :: x :: y :: z :: r).map V.int).length : Nat) = V.int 4)) = true := by
        rw [decide_eq_false fun q => by have := V.int.inj q; simp at this; omega]
        rfl
      rw [this]
      exact iteT (iteT (k H _ (Same.refl H) rfl))
theorem ok_60 (T : Txt K mg A) : FnOk P w K mg base CX0 3 A.f_60 A.d_60 ["numbers"] (spRead A (kindName 4)) := by
  refine T.F_60.ok sc_60 (fun vs H Q E h => ?_) (fun cdv A' outer s H vs Q E hr h => ?_)
  · obtain ⟨a, ns, rfl, _⟩ := h
    rfl
  · obtain ⟨a, ns, rfl, ha, hlen, ⟨f, r, rfl, hf⟩, k⟩ := h
    rw [VM.step_move hf] at k
    refine ⟨_, (pss_cons (ps_if (PW.pt (pw_or (pt_cmpR op_ne (pe_callB call_len_seq (by rfl) T.n_len PySem.boot_len (pa_cons (pv 0) pa_nil)) pe_int (nomark _)) (pw_or (pt_not (pt_val (pe_call (ok_52 T) (hr.mono (by decide)) rfl T.mg_52 T.F_52.kp T.b_52 .nil pass0 (pa_cons (pe_ix ix_list (pv 0) pe_int (fun _ _ => rfl)) pa_nil)))) (pw_or1 (pt_cmpR op_eq (pe_ix ix_list (pv 0) pe_int (fun _ _ => rfl)) (pe_ix ix_list (pv 0) pe_int (fun _ _ => rfl)) (nomark _))))))
          (pss_one (ps_ret pe_non))
          pss_nil)
        (pss_one (ps_ret (pe_make T.mkMoved (ok_17 T) (hr.mono (by decide)) rfl T.mgMoved T.b_17 .nil pass0 (pa_cons (pe_ix ix_list (pv 0) pe_int (fun _ _ => rfl)) (pa_cons (pe_ix ix_list (pv 0) pe_int (fun _ _ => rfl)) pa_nil)))))), ?_⟩
    refine ⟨_, rfl, a, _, rfl, .inl (SqL.of ha), rfl, _, rfl, ?_⟩
    match r, ha, k with
    | [g], ha, k =>
      dsimp only at k
      refine iteF ⟨_, rfl, a, _, _, _, rfl, rfl, SqL.of ha, at_of (j := 2) rfl rfl, g, rfl, _, rfl, ?_⟩
      by_cases hg : VM.inR 0 9 g
      · rw [decide_eq_true hg]
        refine iteF ⟨_, rfl, a, _, _, _, rfl, rfl, SqL.of ha, at_of (j := 1) rfl rfl, _, rfl, a, _, _, _, rfl, rfl, SqL.of ha, at_of (j := 2) rfl rfl, rfl, _, rfl, ?_⟩
        by_cases hfg : f = g
        · rw [if_neg fun q => q.2 hfg] at k
          rw [decide_eq_true (congrArg V.int hfg)]
          exact iteT (k H _ (Same.refl H) rfl)
        · rw [if_pos ⟨hg, hfg⟩] at k
          rw [decide_eq_false fun z => hfg (V.int.inj z)]
          refine iteF ⟨_, rfl, a, _, _, _, rfl, rfl, SqL.of ha, at_of (j := 1) rfl rfl, _, rfl, a, _, _, _, rfl, rfl, SqL.of ha, at_of (j := 2) rfl rfl, ?_⟩
          exact mk_move_v (C := cs A) (nat_int hf.1) (nat_int hg.1) fun H' z s' hz => k H' _ s' ⟨z, rfl, hz⟩
      · rw [decide_eq_false hg]
        rw [if_neg fun q => hg q.1] at k
        exact iteT (iteT (k H _ (Same.refl H) rfl))
    | [], ha, k => exact iteT (iteT (k H _ (Same.refl H) rfl))
    | x :: y :: r, ha, k =>
      have : (!decide (V.int ((((4 : Int) :: f :: x :: y :: r).map V.int).length : Nat) = V.int 3)) = true := by
        rw [decide_eq_false fun q => by have := V.int.inj q; simp at this; omega]
        rfl
      rw [this]
      exact iteT (iteT (k H _ (Same.refl H) rfl))
theorem ok_59 (T : Txt K mg A) : FnOk P w K mg base CX0 3 A.f_59 A.d_59 ["numbers"] (spRead A (kindName 0)) := by
  refine T.F_59.ok sc_59 (fun vs H Q E h => ?_) (fun cdv A' outer s H vs Q E hr h => ?_)
  · obtain ⟨a, ns, rfl, _⟩ := h
    rfl
  · obtain ⟨a, ns, rfl, ha, hlen, ⟨f, r, rfl, hf⟩, k⟩ := h
    refine ⟨_, (pss_cons (ps_if (PW.pt (pw_or (pt_cmpR op_lt (pe_callB call_len_seq (by rfl) T.n_len PySem.boot_len (pa_cons (pv 0) pa_nil)) pe_int (nomark _)) (pw_or1 (pt_not (pt_chain op_le op_le pe_int (pe_ix ix_list (pv 0) pe_int (fun _ _ => rfl)) (pe_gi rfl T.g_LAST_PLACE))))))
          (pss_one (ps_ret pe_non))
          pss_nil)
        (pss_cons (ps_set (i := 1) sc_59.nd rfl (Or.inl rfl) (pe_call (ok_48 T) (hr.mono (by decide)) rfl T.mg_48 T.F_48.kp T.b_48 .nil pass0 (pa_cons (pv 0) (pa_cons pe_int (pa_cons (pe_gi rfl T.g_MOST_CHANGED) pa_nil)))))
        (pss_cons (ps_if (pt_cmp (pc_isN (pv 1)))
          (pss_one (ps_ret pe_non))
          pss_nil)
        (pss_cons (ps_set (i := 2) sc_59.nd rfl (Or.inl rfl) (pe_call (ok_48 T) (hr.mono (by decide)) rfl T.mg_48 T.F_48.kp T.b_48 .nil pass0 (pa_cons (pv 0) (pa_cons (pe_op op_add pe_int (pe_callB call_len_seq (by rfl) T.n_len PySem.boot_len (pa_cons (pv 1) pa_nil))) (pa_cons (pe_gi rfl T.g_MOST_CHANGED) pa_nil)))))
        (pss_cons (ps_if (pt_cmp (pc_isN (pv 2)))
          (pss_one (ps_ret pe_non))
          pss_nil)
        (pss_cons (ps_set (i := 3) sc_59.nd rfl (Or.inl rfl) (pe_op op_add (pe_callB call_len_seq (by rfl) T.n_len PySem.boot_len (pa_cons (pv 1) pa_nil)) (pe_callB call_len_seq (by rfl) T.n_len PySem.boot_len (pa_cons (pv 2) pa_nil))))
        (pss_cons (ps_if (PW.pt (pw_or (pt_cmpR op_eq (pv 3) pe_int (nomark _)) (pw_or1 (pt_cmpR op_ne (pe_callB call_len_seq (by rfl) T.n_len PySem.boot_len (pa_cons (pv 0) pa_nil)) (pe_op op_add pe_int (pv 3)) (nomark _)))))
          (pss_one (ps_ret pe_non))
          pss_nil)
        (pss_one (ps_ret (pe_make T.mkHunk (ok_9 T) (hr.mono (by decide)) rfl T.mgHunk T.b_9 .nil pass0 (pa_cons (pe_ix ix_list (pv 0) pe_int (fun _ _ => rfl)) (pa_cons (pe_ix ix_list (pv 0) pe_int (fun _ _ => rfl)) (pa_cons (pv 1) (pa_cons (pv 2) pa_nil)))))))))))))), ?_⟩
    refine ⟨_, rfl, a, _, rfl, .inl (SqL.of ha), _, _, rfl, rfl, _, rfl, ?_⟩
    cases r with
    | nil =>
      rw [VM.step_hunk_noplace hf (by intro a s e; cases e)] at k
      exact iteT (iteT (k H _ (Same.refl H) rfl))
    | cons pl r =>
      rw [decide_eq_false (by simp; omega)]
      refine iteF ⟨_, rfl, a, _, _, _, rfl, rfl, SqL.of ha, at_of (j := 2) rfl rfl, chainT ?_⟩
      by_cases hpl : VM.inR 0 1000 pl
      · rw [decide_eq_true hpl]
        rw [VM.step_hunk hf hpl] at k
        refine iteF ⟨_, rfl, a, 0 :: f :: pl :: r, 3, 8, 3, 8, rfl, rfl, rfl, ha, hlen, fun H1 v1 s1 hv1 => ?_⟩
        have hv1' : TokAt H1 v1 (VapatBase.readTokens 8 r) := hv1
        have ha1 := s1 _ _ ha
        refine ⟨_, rfl, _, rfl, ?_⟩
        cases h1 : VapatBase.readTokens 8 r with
        | none =>
          rw [h1] at hv1' k
          have e : v1 = .non := hv1'
          subst e
          exact iteT (k H1 _ s1 rfl)
        | some u =>
          obtain ⟨o, t⟩ := u
          rw [h1] at hv1' k
          obtain ⟨l1, rfl, hl1⟩ := hv1'
          have hl1 : TL H1 l1 o := hl1
          obtain ⟨_, lo, et, lt, _⟩ := VM.readTokens_len h1
          dsimp only at k
          refine iteF ⟨_, rfl, _, rfl, l1, _, rfl, .inl (SqL.of hl1), _, _, rfl, rfl, a, 0 :: f :: pl :: r, 4 + o.length, 8, _, 8, rfl, (by rw [List.length_map]; omega), rfl, ha1, hlen, fun H2 v2 s2 hv2 => ?_⟩
          have hd : (0 :: f :: pl :: r : List Int).drop (4 + o.length) = t := by
            rw [et, show 4 + o.length = (1 + o.length) + 3 from by omega]
            rfl
          rw [hd] at hv2
          have ha2 := s2 _ _ ha1
          have hl12 := s2 _ _ hl1
          refine ⟨_, rfl, _, rfl, ?_⟩
          cases h2 : VapatBase.readTokens 8 t with
          | none =>
            rw [h2] at hv2 k
            have e : v2 = .non := hv2
            subst e
            exact iteT (k H2 _ (s1.trans s2) rfl)
          | some u =>
            obtain ⟨n, t2⟩ := u
            rw [h2] at hv2 k
            obtain ⟨l2, rfl, hl2⟩ := hv2
            have hl2 : TL H2 l2 n := hl2
            obtain ⟨_, ln, et2, lt2, _⟩ := VM.readTokens_len h2
            dsimp only at k
            refine iteF ⟨_, rfl, l1, _, rfl, .inl (SqL.of hl12), _, rfl, l2, _, rfl, .inl (SqL.of hl2), _, _, rfl, rfl, ?_⟩
            refine ⟨_, rfl, rfl, _, rfl, ?_⟩
            have hlens : (o.map nV).length = o.length ∧ (n.map nV).length = n.length := ⟨List.length_map .., List.length_map ..⟩
            have lr : r.length = 1 + o.length + t.length := by rw [et, List.length_drop]; omega
            have lt3 : t.length = 1 + n.length + t2.length := by rw [et2, List.length_drop]; omega
            by_cases h0 : o = [] ∧ n = []
            · rw [if_neg fun q => q.2 h0] at k
              obtain ⟨rfl, rfl⟩ := h0
              exact iteT (iteT (k H2 _ (s1.trans s2) rfl))
            · rw [decide_eq_false (fun q => by
                have q := V.int.inj q
                rw [hlens.1, hlens.2] at q
                refine h0 ⟨List.length_eq_zero_iff.mp (by omega), List.length_eq_zero_iff.mp (by omega)⟩)]
              refine iteF ⟨_, rfl, a, _, rfl, .inl (SqL.of ha2), _, rfl, _, _, rfl, rfl, rfl, _, rfl, ?_⟩
              by_cases ht : t2 = []
              · rw [if_pos ⟨ht, h0⟩] at k
                have ltz : t2.length = 0 := by rw [ht]; rfl
                rw [decide_eq_true (by
                  congr 1
                  rw [hlens.1, hlens.2, List.length_map]
                  simp only [List.length_cons]
                  omega)]
                refine iteF ⟨_, rfl, a, _, _, _, rfl, rfl, SqL.of ha2, at_of (j := 1) rfl rfl, _, rfl, a, _, _, _, rfl, rfl, SqL.of ha2, at_of (j := 2) rfl rfl, _, rfl, _, rfl, ?_⟩
                exact mk_hunk_v (C := cs A) (nat_int hf.1) (nat_int hpl.1) hl12 hl2 fun H' z s' hz => k H' _ ((s1.trans s2).trans s') ⟨z, rfl, hz⟩
              · rw [if_neg fun q => ht q.1] at k
                have ltz : t2.length ≠ 0 := fun q => ht (List.length_eq_zero_iff.mp q)
                rw [decide_eq_false (fun q => by
                  have q := V.int.inj q
                  rw [hlens.1, hlens.2, List.length_map] at q
                  simp only [List.length_cons] at q
                  omega)]
                exact iteT (k H2 _ (s1.trans s2) rfl)
      · rw [decide_eq_false hpl]
        rw [VM.step_hunk_noplace hf (by intro b s e; cases e; exact hpl)] at k
        exact iteT (k H _ (Same.refl H) rfl)
def anyList : List Int → Prop := fun _ => True
theorem ok_61 (T : Txt K mg A) : FnOk P w K mg base CX0 4 A.f_61 A.d_61 ["numbers"] (spRead A anyList) := by
  refine T.F_61.ok sc_61 (fun vs H Q E h => ?_) (fun cdv A' outer s H vs Q E hr h => ?_)
  · obtain ⟨a, ns, rfl, _⟩ := h
    rfl
  · obtain ⟨a, ns, rfl, ha, hlen, _, k⟩ := h
    refine ⟨_, (pss_cons (ps_if (PW.pt (pw_or (pt_cmpR op_lt (pe_callB call_len_seq (by rfl) T.n_len PySem.boot_len (pa_cons (pv 0) pa_nil)) pe_int (nomark _)) (pw_or1 (pt_not (pt_val (pe_call (ok_52 T) (hr.mono (by decide)) rfl T.mg_52 T.F_52.kp T.b_52 .nil pass0 (pa_cons (pe_ix ix_list (pv 0) pe_int (fun _ _ => rfl)) pa_nil)))))))
          (pss_one (ps_ret pe_non))
          pss_nil)
        (pss_cons (ps_set (i := 1) sc_61.nd rfl (Or.inl rfl) (pe_ix ix_list (pv 0) pe_int (fun _ _ => rfl)))
        (pss_cons (ps_if (pt_cmpR op_eq (pv 1) (pe_gi rfl T.g_HUNK) (nomark _))
          (pss_one (ps_ret (pe_call (ok_59 T) (hr.mono (by decide)) rfl T.mg_59 T.F_59.kp T.b_59 .nil pass0 (pa_cons (pv 0) pa_nil))))
          pss_nil)
        (pss_cons (ps_if (pt_cmpR op_eq (pv 1) (pe_gi rfl T.g_SWAP) (nomark _))
          (pss_one (ps_ret (pe_call (ok_62 T) (hr.mono (by decide)) rfl T.mg_62 T.F_62.kp T.b_62 .nil pass0 (pa_cons (pv 0) pa_nil))))
          pss_nil)
        (pss_cons (ps_if (PW.pt (pw_and (pt_cmpR op_eq (pv 1) (pe_gi rfl T.g_ADDED) (nomark _)) (pw_and1 (pt_cmpR op_eq (pe_callB call_len_seq (by rfl) T.n_len PySem.boot_len (pa_cons (pv 0) pa_nil)) pe_int (nomark _)))))
          (pss_one (ps_ret (pe_make T.mkAdded (ok_3 T) (hr.mono (by decide)) rfl T.mgAdded T.b_3 .nil pass0 (pa_cons (pe_ix ix_list (pv 0) pe_int (fun _ _ => rfl)) pa_nil))))
          pss_nil)
        (pss_cons (ps_if (PW.pt (pw_and (pt_cmpR op_eq (pv 1) (pe_gi rfl T.g_REMOVED) (nomark _)) (pw_and1 (pt_cmpR op_eq (pe_callB call_len_seq (by rfl) T.n_len PySem.boot_len (pa_cons (pv 0) pa_nil)) pe_int (nomark _)))))
          (pss_one (ps_ret (pe_make T.mkRemoved (ok_23 T) (hr.mono (by decide)) rfl T.mgRemoved T.b_23 .nil pass0 (pa_cons (pe_ix ix_list (pv 0) pe_int (fun _ _ => rfl)) pa_nil))))
          pss_nil)
        (pss_cons (ps_if (pt_cmpR op_eq (pv 1) (pe_gi rfl T.g_MOVED) (nomark _))
          (pss_one (ps_ret (pe_call (ok_60 T) (hr.mono (by decide)) rfl T.mg_60 T.F_60.kp T.b_60 .nil pass0 (pa_cons (pv 0) pa_nil))))
          pss_nil)
        (pss_one (ps_ret pe_non))))))))), ?_⟩
    refine ⟨_, rfl, a, _, rfl, .inl (SqL.of ha), _, _, rfl, rfl, _, rfl, ?_⟩
    match ns, ha, hlen, k with
    | [], ha, hlen, k => exact iteT (iteT (k H _ (Same.refl H) (by rw [VM.step_short (by simp)]; rfl)))
    | [x], ha, hlen, k => exact iteT (iteT (k H _ (Same.refl H) (by rw [VM.step_short (by simp)]; rfl)))
    | kd0 :: f :: r, ha, hlen, k =>
      rw [decide_eq_false (by simp; omega)]
      refine iteF ⟨_, rfl, a, _, _, _, rfl, rfl, SqL.of ha, at_of (j := 1) rfl rfl, f, rfl, _, rfl, ?_⟩
      by_cases hf : VM.inR 0 9 f
      · rw [decide_eq_true hf]
        refine iteF ⟨_, rfl, a, _, _, _, rfl, rfl, SqL.of ha, at_of (j := 0) rfl rfl, ?_⟩
        have eqk : ∀ c : Int, decide (V.int kd0 = V.int c) = decide (kd0 = c) := fun c => by
          apply decide_eq_decide.mpr
          exact ⟨V.int.inj, congrArg V.int⟩
        have two : decide (V.int (((kd0 :: f :: r).map V.int).length : Nat) = V.int 2) = decide (r = []) := by
          apply decide_eq_decide.mpr
          constructor
          · intro q
            have := V.int.inj q
            simp at this
            exact List.length_eq_zero_iff.mp (by omega)
          · rintro rfl
            rfl
        refine ⟨_, rfl, rfl, _, rfl, ?_⟩
        rw [eqk]
        by_cases h0 : kd0 = 0
        · subst h0
          exact iteT ⟨_, rfl, a, _, rfl, ha, hlen, ⟨f, r, rfl, hf⟩, k⟩
        rw [decide_eq_false h0]
        refine iteF ⟨_, rfl, rfl, _, rfl, ?_⟩
        rw [eqk]
        by_cases h1 : kd0 = 1
        · subst h1
          exact iteT ⟨_, rfl, a, _, rfl, ha, hlen, ⟨f, r, rfl, hf⟩, k⟩
        rw [decide_eq_false h1]
        refine iteF ⟨_, rfl, rfl, _, rfl, ?_⟩
        rw [eqk]
        have noadd : kd0 ≠ 2 → kd0 ≠ 3 → kd0 ≠ 4 → VapatBase.whole VapatBase.readStep (kd0 :: f :: r) = none := fun a b c => VM.step_other h0 h1 a b c
        by_cases h2 : kd0 = 2
        · subst h2
          rw [VM.step_add hf] at k
          refine iteT ⟨_, rfl, a, _, rfl, .inl (SqL.of ha), rfl, _, rfl, ?_⟩
          rw [two]
          by_cases hr0 : r = []
          · rw [if_pos hr0] at k
            rw [decide_eq_true hr0]
            refine iteT ⟨_, rfl, a, _, _, _, rfl, rfl, SqL.of ha, at_of (j := 1) rfl rfl, ?_⟩
            exact mk_add_v (C := cs A) (nat_int hf.1) fun H' z s' hz => k H' _ s' ⟨z, rfl, hz⟩
          · rw [if_neg hr0] at k
            rw [decide_eq_false hr0]
            exact iteF ⟨_, rfl, rfl, _, rfl, iteF (iteF ⟨_, rfl, rfl, _, rfl, iteF (k H _ (Same.refl H) rfl)⟩)⟩
        rw [decide_eq_false h2]
        refine iteF (iteF ⟨_, rfl, rfl, _, rfl, ?_⟩)
        rw [eqk]
        by_cases h3 : kd0 = 3
        · subst h3
          rw [VM.step_remove hf] at k
          refine iteT ⟨_, rfl, a, _, rfl, .inl (SqL.of ha), rfl, _, rfl, ?_⟩
          rw [two]
          by_cases hr0 : r = []
          · rw [if_pos hr0] at k
            rw [decide_eq_true hr0]
            refine iteT ⟨_, rfl, a, _, _, _, rfl, rfl, SqL.of ha, at_of (j := 1) rfl rfl, ?_⟩
            exact mk_remove_v (C := cs A) (nat_int hf.1) fun H' z s' hz => k H' _ s' ⟨z, rfl, hz⟩
          · rw [if_neg hr0] at k
            rw [decide_eq_false hr0]
            exact iteF ⟨_, rfl, rfl, _, rfl, iteF (k H _ (Same.refl H) rfl)⟩
        rw [decide_eq_false h3]
        refine iteF (iteF ⟨_, rfl, rfl, _, rfl, ?_⟩)
        rw [eqk]
        by_cases h4 : kd0 = 4
        · subst h4
          exact iteT ⟨_, rfl, a, _, rfl, ha, hlen, ⟨f, r, rfl, hf⟩, k⟩
        rw [decide_eq_false h4]
        rw [noadd h2 h3 h4] at k
        exact iteF (k H _ (Same.refl H) rfl)
      · rw [decide_eq_false hf]
        exact iteT (k H _ (Same.refl H) (by rw [VM.step_noname hf]; rfl))
end
end P58
end
section
set_option Elab.async false
set_option linter.all false
set_option maxRecDepth 100000
set_option maxHeartbeats 1000000
namespace P58
open PySem PySem.Spec PyProof.Rows L2
def TreeO (H : Hp) (v : V) : Option VTree → Prop
  | none => v = .non
  | some t => ∃ b, v = .ref b ∧ TreeAt H b t
def spReadTree : Sp := fun vs H Q _ => ∃ a ns, vs = [.ref a] ∧ IL H a ns ∧ ns.length ≤ 1000 ∧ ∀ H' v, Same H H' → TreeO H' v (VapatBase.whole Vapatb.readTree ns) → Q v H'
def Lasts (done : VTree) (l : Int) : Prop := (done = [] ∧ l = -1) ∨ ∃ d c, done = d ++ [(l.toNat, c)] ∧ VM.inR 0 9 l
theorem fk_int {z : Int} (h : 0 ≤ z) : (Sum.inl z : Key) = fk z.toNat := by
  unfold fk
  congr 1
  omega
theorem treeIs_nil {H : Hp} : TreeIs H [] [] := ⟨List.nodup_nil, fun k hk => (by cases hk), fun f => trivial⟩
theorem fileIn_snoc {t : VTree} {g : Nat} {c : VapatBase.Tokens} {f : Nat} (hn : VapatBase.fileIn t g = none) : VapatBase.fileIn (t ++ [(g, c)]) f = if g = f then some c else VapatBase.fileIn t f := by
  induction t with
  | nil =>
    show VapatBase.fileIn [(g, c)] f = _
    rw [VM.fileIn_cons]
  | cons x t ih =>
    rw [VM.fileIn_cons] at hn
    by_cases hx : x.1 = g
    · rw [if_pos hx] at hn; cases hn
    · rw [if_neg hx] at hn
      rw [List.cons_append, VM.fileIn_cons, ih hn, VM.fileIn_cons]
      by_cases h1 : x.1 = f
      · rw [if_pos h1, if_pos h1, if_neg (by omega)]
      · rw [if_neg h1, if_neg h1]
theorem TreeIs.snoc {H : Hp} {kvs : List (Key × V)} {t : VTree} {g : Nat} {r : Addr} {c : VapatBase.Tokens} (h : TreeIs H kvs t) (hn : VapatBase.fileIn t g = none) (q : TL H r c) : TreeIs H (putK kvs (fk g) (.ref r)) (t ++ [(g, c)]) := by
  refine ⟨nd_putK' _ h.nd, fun k hk => ?_, fun f => ?_⟩
  · rcases keys_putK hk with e | e
    · exact ⟨g, e⟩
    · exact h.keys k e
  · rw [valV_put, fileIn_snoc hn]
    by_cases e : g = f
    · subst e
      rw [if_pos rfl, if_pos rfl]
      exact ⟨r, rfl, q⟩
    · rw [if_neg (fun z => e (fk_inj z).symm), if_neg e]
      exact h.rel f
theorem rising_below {t : VTree} {l : Nat} {d c : VapatBase.Tokens} {f : Nat} (h : VM.Rising (t ++ [(l, d)])) (hl : l < f) : VapatBase.fileIn (t ++ [(l, d)]) f = none := by
  refine VM.fileIn_none_of fun y hy => ?_
  have key : y.1 ≤ l := by
    induction t with
    | nil =>
      have : y = (l, d) := by simpa using hy
      rw [this]
      exact Nat.le_refl _
    | cons x t ih =>
      rcases List.mem_cons.mp hy with e | e
      · rw [e]
        exact Nat.le_of_lt (h.1 (l, d) (by simp))
      · exact ih h.2 e
  omega
section
variable {P : Program} {w : World} {K : PySem.W.Frag} {mg : Str → Option Value} {base : Heap} {A : Adr}
theorem ok_63 (T : Txt K mg A) : FnOk P w K mg base CX0 3 A.f_63 A.d_63 ["numbers"] spReadTree := by
  refine T.F_63.ok sc_63 (fun vs H Q E h => ?_) (fun cdv A' outer s H vs Q E hr h => ?_)
  · obtain ⟨a, ns, rfl, _⟩ := h
    rfl
  · obtain ⟨a, ns, rfl, ha, hlen, k⟩ := h
    refine ⟨_, (pss_cons (ps_if (PW.pt (pw_or (pt_not (pt_truth (pv 0) (fun _ => rfl))) (pw_or1 (pt_not (pt_chain op_le op_le pe_int (pe_ix ix_list (pv 0) pe_int (fun _ _ => rfl)) (pe_gi rfl T.g_MOST_FILES))))))
          (pss_one (ps_ret pe_non))
          pss_nil)
        (pss_cons (ps_set (i := 1) sc_63.nd rfl (Or.inl rfl) pe_dnewK)
        (pss_cons (ps_set (i := 2) sc_63.nd rfl (Or.inl rfl) (pe_un un_neg pe_int))
        (pss_cons (ps_set (i := 3) sc_63.nd rfl (Or.inl rfl) pe_int)
        (pss_cons (ps_while PassesOwn.never (pt_cmpR op_lt (pe_callB call_lenD (by rfl) T.n_len PySem.boot_len (pa_cons (pv 1) pa_nil)) (pe_ix ix_list (pv 0) pe_int (fun _ _ => rfl)) (nomark _))
          (pss_cons (ps_if (PW.pt (pw_or (pt_cmpR op_ge (pv 3) (pe_callB call_len_seq (by rfl) T.n_len PySem.boot_len (pa_cons (pv 0) pa_nil)) (nomark _)) (pw_or (pt_not (pt_val (pe_call (ok_52 T) (hr.mono (by decide)) rfl T.mg_52 T.F_52.kp T.b_52 .nil pass0 (pa_cons (pe_ix ix_list (pv 0) (pv 3) (fun _ _ => rfl)) pa_nil)))) (pw_or1 (pt_cmpR op_le (pe_ix ix_list (pv 0) (pv 3) (fun _ _ => rfl)) (pv 2) (nomark _))))))
              (pss_one (ps_ret pe_non))
              pss_nil)
            (pss_cons (ps_set (i := 4) sc_63.nd rfl (Or.inl rfl) (pe_call (ok_48 T) (hr.mono (by decide)) rfl T.mg_48 T.F_48.kp T.b_48 .nil pass0 (pa_cons (pv 0) (pa_cons (pe_op op_add (pv 3) pe_int) (pa_cons (pe_gi rfl T.g_MOST_TOKENS) pa_nil)))))
            (pss_cons (ps_if (pt_cmp (pc_isN (pv 4)))
              (pss_one (ps_ret pe_non))
              pss_nil)
            (pss_cons (ps_set (i := 2) sc_63.nd rfl (Or.inl rfl) (pe_ix ix_list (pv 0) (pv 3) (fun _ _ => rfl)))
            (pss_cons (ps_dput (hu_of hr) (pv 1) (pv 2) (pv 4) rfl)
            (pss_one (ps_aug (i := 3) sc_63.nd rfl (Or.inl rfl) (pe_op op_add pe_int (pe_callB call_len_seq (by rfl) T.n_len PySem.boot_len (pa_cons (pv 4) pa_nil))) ip_add))))))))
        (pss_one (ps_ret (pe_ifExp (pt_cmpR op_eq (pv 3) (pe_callB call_len_seq (by rfl) T.n_len PySem.boot_len (pa_cons (pv 0) pa_nil)) (nomark _)) (pv 1) pe_non)))))))), ?_⟩
    refine ⟨_, rfl, !(ns.map V.int).isEmpty, .inl ⟨_, SqL.of ha, rfl⟩, ?_⟩
    cases ns with
    | nil =>
      rw [VM.tree_start_nil] at k
      exact iteT (iteT (k H _ (Same.refl H) rfl))
    | cons n rest =>
      refine iteF ⟨_, rfl, a, _, _, _, rfl, rfl, SqL.of ha, at_of (j := 0) rfl rfl, chainT ?_⟩
      by_cases hn : VM.inR 0 6 n
      · rw [decide_eq_true hn]
        rw [VM.tree_start hn] at k
        have hn0 : 0 ≤ n := hn.1
        have hn6 : n ≤ 6 := hn.2
        refine iteF fun d hd => ?_
        refine ⟨_, rfl, ?_⟩
        refine ⟨fun m σ H' => ∃ (done : VTree) (kvs : List (Key × V)) (lst : Int) (i : Nat) (v : Option V), σ = [some (.ref a), some (.ref d), some (.int lst), some (.int (i : Int)), v] ∧ m = n.toNat - done.length ∧ Same H H' ∧ H' d = some (.dK kvs) ∧ TreeIs H' kvs done ∧ VM.Rising done ∧
          done.length ≤ n.toNat ∧ Lasts done lst ∧ i ≤ (n :: rest).length ∧ VM.finish [] n.toNat rest = VM.finish done (n.toNat - done.length) ((n :: rest).drop i),
          ⟨_, [], [], -1, 1, none, rfl, rfl, Same.new hd, upd_same, treeIs_nil, trivial, Nat.zero_le _, .inl ⟨rfl, rfl⟩, (by simp), rfl⟩, ?_⟩
        rintro m σ H' ⟨done, kvs, lst, i, v, rfl, rfl, s', hd', ht, hri, hdl, hla, hi, hfin⟩
        have ha' := s' _ _ ha
        have hkl := ht.length hri
        refine ⟨_, rfl, d, kvs, rfl, hd', _, rfl, a, _, _, _, rfl, rfl, SqL.of ha', at_of (j := 0) rfl rfl, _, _, rfl, rfl, _, rfl, ?_⟩
        by_cases hmore : done.length < n.toNat
        · rw [decide_eq_true (by rw [hkl]; omega)]
          obtain ⟨k1, hk1⟩ : ∃ k1, n.toNat - done.length = k1 + 1 := ⟨n.toNat - done.length - 1, by omega⟩
          rw [hk1] at hfin
          refine iteT ⟨_, fun _ _ q => q, ?_⟩
          refine ⟨_, rfl, _, rfl, a, _, rfl, .inl (SqL.of ha'), _, _, rfl, rfl, _, rfl, ?_⟩
          by_cases hil : i < (n :: rest).length
          · rw [decide_eq_false (by rw [List.length_map]; omega)]
            have hz : (n :: rest)[i]? = some (n :: rest)[i] := List.getElem?_eq_getElem hil
            have hdrop : (n :: rest).drop i = (n :: rest)[i] :: (n :: rest).drop (i + 1) := by rw [List.getElem_cons_drop]
            generalize (n :: rest)[i] = z at hz hdrop
            rw [hdrop] at hfin
            refine iteF ⟨_, rfl, _, rfl, a, _, _, _, rfl, rfl, SqL.of ha', atInt rfl hz, z, rfl, _, rfl, ?_⟩
            by_cases hzn : VM.inR 0 9 z
            · rw [decide_eq_true hzn]
              have hz0 : 0 ≤ z := hzn.1
              refine iteF ⟨_, rfl, _, rfl, a, _, _, _, rfl, rfl, SqL.of ha', atInt rfl hz, _, rfl, _, _, rfl, rfl, _, rfl, ?_⟩
              by_cases hzl : z ≤ lst
              · rw [decide_eq_true hzl]
                refine iteT (k H' _ s' ?_)
                rcases hla with ⟨_, e⟩ | ⟨d0, c0, e, hl0⟩
                · omega
                · rw [hfin, e, VM.finish_low hl0 hzl]
                  rfl
              · rw [decide_eq_false hzl]
                refine iteF ⟨_, rfl, _, rfl, _, _, rfl, rfl, a, n :: rest, i + 1, 12, _, _, rfl, (by omega), rfl, ha', hlen, fun H1 v1 s1 hv1 => ?_⟩
                have ha1 := s1 _ _ ha'
                have hd1 := s1 _ _ hd'
                refine ⟨_, rfl, _, rfl, ?_⟩
                cases h1 : VapatBase.readTokens 12 ((n :: rest).drop (i + 1)) with
                | none =>
                  rw [h1] at hv1
                  have e : v1 = .non := hv1
                  subst e
                  rw [VM.finish_none (VM.rp_cons_none h1)] at hfin
                  exact iteT (k H1 _ (s'.trans s1) (by rw [hfin]; rfl))
                | some u =>
                  obtain ⟨o, t⟩ := u
                  rw [h1] at hv1
                  obtain ⟨l1, rfl, hl1⟩ := hv1
                  have hl1 : TL H1 l1 o := hl1
                  obtain ⟨_, lo, et, lt, _⟩ := VM.readTokens_len h1
                  rw [VM.finish_step hzn h1] at hfin
                  refine iteF ⟨_, rfl, _, rfl, a, _, _, _, rfl, rfl, SqL.of ha1, atInt rfl hz, ?_⟩
                  have hno : VapatBase.fileIn done z.toNat = none := by
                    rcases hla with ⟨e, _⟩ | ⟨d0, c0, e, hl0⟩
                    · rw [e]; rfl
                    · rw [e]
                      rw [e] at hri
                      have := hl0.1
                      exact rising_below (c := []) hri (by omega)
                  refine ⟨_, rfl, _, rfl, _, rfl, d, _, rfl, DPut.k (k := Sum.inl z) hd1 (lt_line (by omega)), ?_⟩
                  have s2 : Same H (upd H1 d (.dK (putK kvs (Sum.inl z) (.ref l1)))) := (s'.trans s1).upd hd
                  have hl2 : TL (upd H1 d (.dK (putK kvs (Sum.inl z) (.ref l1)))) l1 o := by
                    show upd _ d _ l1 = _
                    rw [upd_ne (ne_of hl1 hd1 (by intro q; cases q))]
                    exact hl1
                  refine ⟨_, rfl, _, rfl, l1, _, rfl, .inl (SqL.of hl2), _, _, rfl, rfl, _, _, rfl, rfl, ?_⟩
                  refine ⟨n.toNat - (done ++ [(z.toNat, o)]).length, by rw [List.length_append, List.length_singleton]; omega, done ++ [(z.toNat, o)], _, z, i + (2 + o.length), some (.ref l1), ?_, rfl, s2, upd_same, ?_, ?_, ?_, ?_, ?_, ?_⟩
                  · have : V.int ((i : Int) + (2 + ((o.map nV).length : Nat))) = V.int ((i + (2 + o.length) : Nat) : Int) := by
                      congr 1
                      rw [List.length_map]
                      omega
                    show [some (V.ref a), some (V.ref d), some (V.int z), some (V.int ((i : Int) + (2 + ((o.map nV).length : Nat)))), some (V.ref l1)] = _
                    rw [this]
                  · rw [fk_int hz0]
                    refine TreeIs.snoc ⟨ht.nd, ht.keys, fun f => ?_⟩ hno (by rw [← fk_int hz0]; exact hl2)
                    have q := (ht.rel f).mono s1
                    cases e1 : valV kvs (fk f) <;> cases e2 : VapatBase.fileIn done f <;> rw [e1, e2] at q
                    · trivial
                    · exact q.elim
                    · exact q.elim
                    · obtain ⟨r, e, hr⟩ := q
                      refine ⟨r, e, ?_⟩
                      show upd _ d _ r = _
                      rw [upd_ne (ne_of hr hd1 (by intro q; cases q))]
                      exact hr
                  · rcases hla with ⟨e, _⟩ | ⟨d0, c0, e, hl0⟩
                    · rw [e]
                      exact ⟨fun y hy => (by cases hy), trivial⟩
                    · rw [e]
                      rw [e] at hri
                      have := hl0.1
                      exact VM.rising_snoc hri (by omega)
                  · rw [List.length_append, List.length_singleton]
                    omega
                  · exact .inr ⟨done, o, rfl, hzn⟩
                  · rw [List.length_drop] at lt
                    omega
                  · have e1 : n.toNat - (done ++ [(z.toNat, o)]).length = k1 := by rw [List.length_append, List.length_singleton]; omega
                    rw [e1, hfin, et, List.drop_drop]
                    congr 2
                    omega
            · rw [decide_eq_false hzn]
              rw [VM.finish_none (VM.rp_cons_no hzn)] at hfin
              exact iteT (iteT (k H' _ s' (by rw [hfin]; rfl)))
          · rw [decide_eq_true (by rw [List.length_map]; omega)]
            have : (n :: rest).drop i = [] := List.drop_of_length_le (by omega)
            rw [this, VM.finish_nil] at hfin
            exact iteT (iteT (k H' _ s' (by rw [hfin]; rfl)))
        · rw [decide_eq_false (by rw [hkl]; omega)]
          have e0 : n.toNat - done.length = 0 := by omega
          rw [e0, VM.finish_zero hri] at hfin
          refine iteF ⟨_, rfl, _, rfl, a, _, rfl, .inl (SqL.of ha'), rfl, _, rfl, ?_⟩
          by_cases hend : (n :: rest).drop i = []
          · rw [if_pos hend] at hfin
            have hil : i = (n :: rest).length := by
              have := congrArg List.length hend
              rw [List.length_drop] at this
              simp only [List.length_nil] at this
              omega
            rw [decide_eq_true (by congr 1; rw [List.length_map, hil])]
            exact iteT ⟨_, rfl, k H' _ s' (by rw [hfin]; exact ⟨d, rfl, kvs, hd', ht⟩)⟩
          · rw [if_neg hend] at hfin
            rw [decide_eq_false (fun q => by
              have q := V.int.inj q
              rw [List.length_map] at q
              exact hend (List.drop_of_length_le (by omega)))]
            exact iteF (k H' _ s' (by rw [hfin]; rfl))
      · rw [decide_eq_false hn]
        rw [VM.tree_start_no hn] at k
        exact iteT (k H _ (Same.refl H) rfl)
end
end P58
end
section
set_option Elab.async false
set_option linter.all false
set_option maxRecDepth 100000
set_option maxHeartbeats 1000000
namespace P58
open PySem PySem.Spec PyProof.Rows L2
theorem big_line {n : Nat} (h : n ≤ 2000000) : n < sizeLine := Nat.lt_of_le_of_lt h (by decide)
def flatFile (x : Nat × VapatBase.Tokens) : List Int := VapatBase.int x.1 :: VapatBase.listed x.2
theorem flatTree_eq (t : VTree) : VapatBase.flatTree t = VapatBase.int t.length :: t.flatMap flatFile := rfl
theorem flatFile_len {m : Nat} {x : Nat × VapatBase.Tokens} (h : x.2.length ≤ m) : (flatFile x).length ≤ m + 2 := by
  simp [flatFile, VapatBase.listed, VapatBase.ints]
  omega
theorem flatFiles_len {m : Nat} : ∀ {t : VTree}, VM.Low m t → (t.flatMap flatFile).length ≤ t.length * (m + 2)
  | [], _ => by simp
  | x :: t, h => by
    have h1 := flatFile_len (h x (by simp)).2
    have h2 := flatFiles_len (t := t) fun y hy => h y (by simp [hy])
    rw [List.flatMap_cons, List.length_append, List.length_cons, Nat.succ_mul]
    omega
def namesI (t : VTree) : List Int := t.map fun x => (x.1 : Int)
theorem names_sorted {t : VTree} (h : VM.Rising t) : (namesI t).Pairwise (· ≤ ·) := by
  unfold namesI
  induction t with
  | nil => exact List.Pairwise.nil
  | cons x t ih =>
    rw [List.map_cons]
    refine List.Pairwise.cons (fun y hy => ?_) (ih h.2)
    obtain ⟨z, hz, rfl⟩ := List.mem_map.mp hy
    have := h.1 z hz
    omega
theorem inl_map_inj : ∀ {l m : List Int}, (l.map Sum.inl : List Key) = m.map Sum.inl → l = m
  | [], [], _ => rfl
  | [], _ :: _, h => by simp at h
  | _ :: _, [], h => by simp at h
  | x :: l, y :: m, h => by
    rw [List.map_cons, List.map_cons] at h
    injection h with h1 h2
    rw [Sum.inl.inj h1, inl_map_inj h2]
theorem keys_ints {kvs : List (Key × V)} (h : ∀ k ∈ kvs.map (·.1), ∃ f : Nat, k = fk f) : ∃ ns : List Int, kvs.map (·.1) = ns.map Sum.inl := by
  generalize kvs.map (·.1) = l at h
  induction l with
  | nil => exact ⟨[], rfl⟩
  | cons x l ih =>
    obtain ⟨f, rfl⟩ := h x (by simp)
    obtain ⟨ns, e⟩ := ih fun k hk => h k (by simp [hk])
    exact ⟨(f : Int) :: ns, by rw [e]; rfl⟩
theorem perm_inl {l m : List Int} (h : (l.map Sum.inl : List Key).Perm (m.map Sum.inl)) : l.Perm m := by
  have := h.map (fun k : Key => match k with | .inl i => i | .inr _ => 0)
  rw [List.map_map, List.map_map] at this
  have e : ((fun k : Key => match k with | .inl i => i | .inr _ => 0) ∘ Sum.inl) = (id : Int → Int) := rfl
  rw [e, List.map_id, List.map_id] at this
  exact this
def spTreeNumbers : Sp := fun vs H Q _ => ∃ b t, vs = [.ref b] ∧ TreeAt H b t ∧ VM.Rising t ∧ VM.Low 100000 t ∧ ∀ H' l, H l = none → Same H H' → IL H' l (VapatBase.flatTree t) → Q (.ref l) H'
section
variable {P : Program} {w : World} {K : PySem.W.Frag} {mg : Str → Option Value} {base : Heap} {A : Adr}
theorem ok_75 (T : Txt K mg A) : FnOk P w K mg base CX0 1 A.f_75 A.d_75 ["tree"] spTreeNumbers := by
  refine T.F_75.ok sc_75 (fun vs H Q E h => ?_) (fun cdv A' outer s H vs Q E hr h => ?_)
  · obtain ⟨b, t, rfl, _⟩ := h
    rfl
  · obtain ⟨b, t, rfl, ⟨kvs, hb, ht⟩, hri, hlow, k⟩ := h
    have hkl := ht.length hri
    have ht10 := VM.low_len hri hlow
    refine ⟨_, (pss_cons (ps_set (i := 1) sc_75.nd rfl (Or.inl rfl) (pe_lst (pa_cons (pe_callB call_lenD (by rfl) T.n_len PySem.boot_len (pa_cons (pv 0) pa_nil)) pa_nil)))
        (pss_cons (ps_for PassesOwn.never rfl (pi_list (pe_callB (cr_sortedD rfl) (by rfl) T.n_sorted boot_sorted (pa_cons (pv 0) pa_nil))) (pg_name (i := 2) sc_75.nd rfl (Or.inl rfl))
          (pss_cons (ps_expr (pe_bm PySem.F.plainAttrs_list PySem.F.slot_list_append PySem.F.type_list_append mt_append (pv 1) (pa_cons (pv 2) pa_nil)))
            (pss_cons (ps_expr (pe_bm PySem.F.plainAttrs_list PySem.F.slot_list_append PySem.F.type_list_append mt_append (pv 1) (pa_cons (pe_callB call_len_seq (by rfl) T.n_len PySem.boot_len (pa_cons (pe_dget (hu_of hr) (pv 0) (pv 2) (fun _ _ => rfl)) pa_nil)) pa_nil)))
            (pss_one (ps_expr (pe_bm PySem.F.plainAttrs_list PySem.F.slot_list_extend PySem.F.type_list_extend mt_extend (pv 1) (pa_cons (pe_dget (hu_of hr) (pv 0) (pv 2) (fun _ _ => rfl)) pa_nil)))))))
        (pss_one (ps_ret (pv 1))))), ?_⟩
    refine ⟨_, rfl, b, kvs, rfl, hb, (by show 1 ≤ sizeLine; decide), fun l gl => ?_⟩
    have s0 := Same.new (o := .lst [.int (kvs.length : Nat)]) gl
    have hl0 : IL (upd H l (.lst [.int (kvs.length : Nat)])) l [VapatBase.int t.length] := by
      show upd _ l _ l = _
      rw [upd_same, hkl]
      rfl
    generalize upd H l (.lst [.int (kvs.length : Nat)]) = H0 at s0 hl0
    obtain ⟨ns, hns⟩ := keys_ints ht.keys
    refine ⟨_, rfl, b, kvs, ns, rfl, s0 _ _ hb, hns, (by omega), fun ns' p hperm hsort gp => ?_⟩
    have e1 : ns' = namesI t := by
      refine PySem.W.ksm_same (hperm.trans (perm_inl ?_)) hsort (names_sorted hri)
      unfold namesI
      rw [← hns, List.map_map]
      exact ht.perm hri
    subst e1
    have s1 := s0.trans (Same.new (o := .lst ((namesI t).map V.int)) gp)
    have hp1 : IL (upd H0 p (.lst ((namesI t).map V.int))) p (namesI t) := upd_same
    have hl1 : IL (upd H0 p (.lst ((namesI t).map V.int))) l [VapatBase.int t.length] := (Same.new gp) _ _ hl0
    generalize upd H0 p (.lst ((namesI t).map V.int)) = H1 at s1 hp1 hl1
    have hlp : l ≠ p := ne_of_none hl0 gp
    refine ⟨p, rfl, ⟨_, SqL.of hp1⟩, for_list (K := K) (a := p) (xs := (namesI t).map V.int) (fun i σ H' => ∃ v, σ = [some (.ref b), some (.ref l), v] ∧ Same H H' ∧ IL H' p (namesI t) ∧ IL H' l (VapatBase.int t.length :: (t.take i).flatMap flatFile))
      ⟨none, rfl, s1, hp1, hl1⟩ (fun i σ H' _ ⟨_, _, _, hp', _⟩ => SqL.of hp') ?_ ?_⟩
    · rintro i y σ H' hi ⟨v, rfl, s', hp', hl'⟩
      obtain ⟨z, hz, rfl⟩ := getInt hi
      unfold namesI at hz
      rw [List.getElem?_map] at hz
      cases e : t[i]? with
      | none => rw [e] at hz; cases hz
      | some x =>
        rw [e] at hz
        have ez : (x.1 : Int) = z := Option.some.inj hz
        subst ez
        have hx := List.mem_of_getElem? e
        have hfile : VapatBase.fileIn t x.1 = some x.2 := VM.fileIn_of_mem hri (by exact hx)
        obtain ⟨r, e1, hr1⟩ := ht.get hfile
        have hlb := flatFiles_len (t := t.take i) (m := 100000) fun y hy => hlow y (List.mem_of_mem_take hy)
        have hti : (t.take i).length ≤ 10 := by rw [List.length_take]; omega
        have hbound : ((t.take i).flatMap flatFile).length ≤ 1000020 := by
          refine Nat.le_trans hlb ?_
          exact Nat.le_trans (Nat.mul_le_mul_right _ hti) (by decide)
        have hx2 := (hlow x hx).2
        refine ⟨_, rfl, .inl ⟨rfl, _, SqL.of hl'⟩, _, rfl, l, _, _, rfl, rfl, hl', big_line (by rw [List.length_map, List.length_cons]; omega), ?_⟩
        have sA := s'.upd (o := .lst ((VapatBase.int t.length :: (t.take i).flatMap flatFile).map V.int ++ [.int (x.1 : Int)])) gl
        have hpA : IL (upd H' l (.lst ((VapatBase.int t.length :: (t.take i).flatMap flatFile).map V.int ++ [.int (x.1 : Int)]))) p (namesI t) := by
          show upd _ l _ p = _
          rw [upd_ne (Ne.symm hlp)]
          exact hp'
        have hlA : IL (upd H' l (.lst ((VapatBase.int t.length :: (t.take i).flatMap flatFile).map V.int ++ [.int (x.1 : Int)]))) l (VapatBase.int t.length :: (t.take i).flatMap flatFile ++ [(x.1 : Int)]) := by
          show upd _ l _ l = _
          rw [upd_same]
          simp
        generalize upd H' l (.lst ((VapatBase.int t.length :: (t.take i).flatMap flatFile).map V.int ++ [.int (x.1 : Int)])) = HA at sA hpA hlA
        have dgA : DGet HA b (V.int (x.1 : Int)) (some (.ref r)) := by
          have := DGet.k (k := fk x.1) (sA _ _ hb)
          rw [e1] at this
          exact this
        refine ⟨_, rfl, .inl ⟨rfl, _, SqL.of hlA⟩, _, rfl, _, rfl, b, _, rfl, dgA, r, _, rfl, .inl (SqL.of (sA _ _ hr1)), l, _, _, rfl, rfl, hlA, big_line (by rw [List.length_map, List.length_append, List.length_cons, List.length_singleton]; omega), ?_⟩
        have sB := sA.upd (o := .lst ((VapatBase.int t.length :: (t.take i).flatMap flatFile ++ [(x.1 : Int)]).map V.int ++ [.int ((x.2.map nV).length : Nat)])) gl
        have hpB : IL (upd HA l (.lst ((VapatBase.int t.length :: (t.take i).flatMap flatFile ++ [(x.1 : Int)]).map V.int ++ [.int ((x.2.map nV).length : Nat)]))) p (namesI t) := by
          show upd _ l _ p = _
          rw [upd_ne (Ne.symm hlp)]
          exact hpA
        have hlB : IL (upd HA l (.lst ((VapatBase.int t.length :: (t.take i).flatMap flatFile ++ [(x.1 : Int)]).map V.int ++ [.int ((x.2.map nV).length : Nat)]))) l (VapatBase.int t.length :: (t.take i).flatMap flatFile ++ [(x.1 : Int), (x.2.length : Int)]) := by
          show upd _ l _ l = _
          rw [upd_same]
          simp
        generalize upd HA l (.lst ((VapatBase.int t.length :: (t.take i).flatMap flatFile ++ [(x.1 : Int)]).map V.int ++ [.int ((x.2.map nV).length : Nat)])) = HB at sB hpB hlB
        have dgB : DGet HB b (V.int (x.1 : Int)) (some (.ref r)) := by
          have := DGet.k (k := fk x.1) (sB _ _ hb)
          rw [e1] at this
          exact this
        refine ⟨_, rfl, .inl ⟨rfl, _, SqL.of hlB⟩, _, rfl, _, rfl, b, _, rfl, dgB, l, r, _, _, rfl, rfl, hlB, sB _ _ hr1, Nat.le_of_lt (big_line (by rw [List.length_map, List.length_append, List.length_cons, List.length_map]; simp only [List.length_cons, List.length_nil]; omega)), ?_⟩
        refine ⟨_, rfl, sB.upd gl, ?_, ?_⟩
        · show upd _ l _ p = _
          rw [upd_ne (Ne.symm hlp)]
          exact hpB
        · show upd _ l _ l = _
          rw [upd_same, take_one e, List.flatMap_append, nV_ints, ← List.map_append]
          simp [flatFile, VapatBase.listed, VapatBase.int]
    · rintro σ H' ⟨v, rfl, s', hp', hl'⟩
      unfold namesI at hl'
      rw [List.length_map, List.length_map, List.take_length] at hl'
      exact ⟨_, rfl, k H' l gl s' hl'⟩
end
end P58
end
section
set_option Elab.async false
set_option linter.all false
set_option maxRecDepth 100000
set_option maxHeartbeats 1000000
namespace P58
open PySem PySem.Spec PyProof.Rows L2
def heldF (g r : V) : List (Str × V) := [("ground", g), ("row", r)]
theorem kf1 {g r : V} : (heldF g r).lookup ("ground" : Str) = some g := by
  unfold heldF
  exact ly _ _ _
theorem kf2 {g r : V} : (heldF g r).lookup ("row" : Str) = some r := by
  unfold heldF
  rw [ln _ _ _ _ (by decide +kernel)]
  exact ly _ _ _
theorem pk1 {g g' r : V} : putF "ground" g' (heldF g r) = heldF g' r := by
  show (if ("ground" : Str) = "ground" then (("ground" : Str), g') :: _ else _) = _
  rw [if_pos rfl]
  rfl
theorem pk2 {g r r' : V} : putF "row" r' (heldF g r) = heldF g r' := by
  show (if ("ground" : Str) = "row" then _ else (("ground" : Str), g) :: (if ("row" : Str) = "row" then (("row" : Str), r') :: _ else _)) = _
  rw [if_neg (by decide +kernel), if_pos rfl]
  rfl
theorem pk0 {g r : V} : putF "row" r [(("ground" : Str), g)] = heldF g r := by
  show (if ("ground" : Str) = "row" then _ else (("ground" : Str), g) :: putF "row" r []) = _
  rw [if_neg (by decide +kernel)]
  rfl
def GroundAt (H : Hp) (v : V) : Option VTree → Prop
  | none => v = .non
  | some t => ∃ b, v = .ref b ∧ TreeAt H b t
def HeldAt (A : Adr) (H : Hp) (a : Addr) (s : Vapatb.State) : Prop := ∃ dx g r, H a = some (.ins A.cRowOnTree dx (heldF g (.ref r))) ∧ GroundAt H g s.tree ∧ RowAt (cs A) H r s.row
def KeepBut (a : Addr) (H H' : Hp) : Prop := ∀ b o, H b = some o → b ≠ a → H' b = some o
theorem KeepBut.of {a : Addr} {H H' : Hp} (s : Same H H') : KeepBut a H H' := fun b o e _ => s b o e
theorem KeepBut.trans {a : Addr} {H H1 H2 : Hp} (h1 : KeepBut a H H1) (h2 : KeepBut a H1 H2) : KeepBut a H H2 := fun b o e hb => h2 b o (h1 b o e hb) hb
theorem KeepBut.free {a l : Addr} {H H' : Hp} {o : HO} (k : KeepBut a H H') (ha : H' a = some o) (h : H' l = none) : H l = none := by
  cases q : H l with
  | none => rfl
  | some u =>
    by_cases e : l = a
    · rw [e, ha] at h; cases h
    · rw [k l u q e] at h; cases h
theorem KeepBut.put {a : Addr} {H : Hp} {o : HO} : KeepBut a H (upd H a o) := fun b u e hb => by rw [upd_ne hb]; exact e
def IsHeld (A : Adr) (H : Hp) (a : Addr) : Prop := ∃ dx g r, H a = some (.ins A.cRowOnTree dx (heldF g r))
theorem key_ne {k k' : Str} {v v' : V} {l l' : List (Str × V)} (h : k ≠ k') : (k, v) :: l ≠ (k', v') :: l' := fun e => by
  injection e with e1 _
  injection e1 with e2 _
  exact h e2
section
variable {A : Adr} {H H' : Hp} {a : Addr} (k : KeepBut a H H') (ih : IsHeld A H a)
include k ih
theorem keep_ins {b C dx : Addr} {f : Str} {v : V} {fs : List (Str × V)} (h : H b = some (.ins C dx ((f, v) :: fs))) (hf : f ≠ "ground") : H' b = some (.ins C dx ((f, v) :: fs)) := by
  obtain ⟨dy, g, r, e⟩ := ih
  refine k _ _ h (ne_of h e fun q => ?_)
  injection q with q1 q2 q3
  exact key_ne hf q3
theorem keep_lst {b : Addr} {xs : List V} (h : H b = some (.lst xs)) : H' b = some (.lst xs) := by
  obtain ⟨dy, g, r, e⟩ := ih
  exact k _ _ h (ne_of h e fun q => by cases q)
theorem keep_dict {b : Addr} {xs : List (Key × V)} (h : H b = some (.dK xs)) : H' b = some (.dK xs) := by
  obtain ⟨dy, g, r, e⟩ := ih
  exact k _ _ h (ne_of h e fun q => by cases q)
theorem keep_step {C : Cs} {b : Addr} {p : VStep} (h : StepAt C H b p) : StepAt C H' b p := by
  cases p with
  | hunk f pl o n =>
    obtain ⟨dx, po, pn, h1, h2, h3⟩ := h
    exact ⟨dx, po, pn, keep_ins k ih h1 (by decide +kernel), keep_lst k ih h2, keep_lst k ih h3⟩
  | swap f x y => obtain ⟨dx, h1⟩ := h; exact ⟨dx, keep_ins k ih h1 (by decide +kernel)⟩
  | add f => obtain ⟨dx, h1⟩ := h; exact ⟨dx, keep_ins k ih h1 (by decide +kernel)⟩
  | remove f => obtain ⟨dx, h1⟩ := h; exact ⟨dx, keep_ins k ih h1 (by decide +kernel)⟩
  | move f g => obtain ⟨dx, h1⟩ := h; exact ⟨dx, keep_ins k ih h1 (by decide +kernel)⟩
theorem keep_steps {C : Cs} : ∀ {as : List Addr} {ps : List VStep}, StepsAt C H as ps → StepsAt C H' as ps
  | [], [], _ => trivial
  | _ :: _, _ :: _, h => ⟨keep_step k ih h.1, keep_steps h.2⟩
  | [], _ :: _, h => h.elim
  | _ :: _, [], h => h.elim
theorem keep_row {C : Cs} {b : Addr} {row : List VStep} (h : RowAt C H b row) : RowAt C H' b row := by
  obtain ⟨as, h1, h2⟩ := h
  exact ⟨as, keep_lst k ih h1, keep_steps k ih h2⟩
theorem keep_tree {b : Addr} {t : VTree} (h : TreeAt H b t) : TreeAt H' b t := by
  obtain ⟨kvs, h1, h2⟩ := h
  refine ⟨kvs, keep_dict k ih h1, h2.nd, h2.keys, fun f => ?_⟩
  have q := h2.rel f
  cases e1 : valV kvs (fk f) <;> cases e2 : VapatBase.fileIn t f <;> rw [e1, e2] at q
  · trivial
  · exact q.elim
  · exact q.elim
  · obtain ⟨r, e, hr⟩ := q
    exact ⟨r, e, keep_lst k ih hr⟩
theorem keep_ground {v : V} {t : Option VTree} (h : GroundAt H v t) : GroundAt H' v t := by
  cases t with
  | none => exact h
  | some t =>
    obtain ⟨b, e, q⟩ := h
    exact ⟨b, e, keep_tree k ih q⟩
end
theorem HeldAt.is {A : Adr} {H : Hp} {a : Addr} {s : Vapatb.State} (h : HeldAt A H a s) : IsHeld A H a := by
  obtain ⟨dx, g, r, e, _⟩ := h
  exact ⟨dx, g, _, e⟩
theorem GroundAt.mono {H H' : Hp} {v : V} {t : Option VTree} (s : Same H H') (h : GroundAt H v t) : GroundAt H' v t := by
  cases t with
  | none => exact h
  | some t =>
    obtain ⟨b, e, q⟩ := h
    exact ⟨b, e, q.mono s⟩
theorem HeldAt.mono {A : Adr} {H H' : Hp} {a : Addr} {s : Vapatb.State} (sm : Same H H') (h : HeldAt A H a s) : HeldAt A H' a s := by
  obtain ⟨dx, g, r, e, h1, h2⟩ := h
  exact ⟨dx, g, r, sm _ _ e, h1.mono sm, h2.mono sm⟩
def spDo (A : Adr) (args : List V → Hp → Vapatb.State → Vapatb.Call → Prop) : Sp := fun vs H Q _ => ∃ a s k c rest, vs = .ref a :: rest ∧ HeldAt A H a s ∧ VM.Good k s ∧ k ≤ 80 ∧ args rest H s c ∧
  ∀ H' r, H r = none → KeepBut a H H' → HeldAt A H' a (Vapatb.step s c).1 → IL H' r (Vapatb.step s c).2 → Q (.ref r) H'
theorem one_answer {H : Hp} {Q : VK} {z : Int} (q : ∀ H' r, H r = none → Same H H' → IL H' r [z] → Q (.ref r) H') : [V.int z].length ≤ sizeLine ∧ ∀ p, H p = none → Q (.ref p) (upd H p (.lst [V.int z])) :=
  ⟨(by show 1 ≤ sizeLine; decide), fun p hp => q _ p hp (Same.new hp) upd_same⟩
def aTree : List V → Hp → Vapatb.State → Vapatb.Call → Prop := fun vs H _ c => ∃ l ns, vs = [.ref l] ∧ IL H l ns ∧ ns.length ≤ 1000 ∧ c = .tree ns
def aStep : List V → Hp → Vapatb.State → Vapatb.Call → Prop := fun vs H s c => ∃ l ns t, vs = [.ref l] ∧ IL H l ns ∧ ns.length ≤ 1000 ∧ c = .step ns ∧ s.tree = some t
def aPlain (c0 : Vapatb.Call) : List V → Hp → Vapatb.State → Vapatb.Call → Prop := fun vs _ s c => ∃ t, vs = [] ∧ c = c0 ∧ s.tree = some t
def aPlace (mk : Int → Vapatb.Call) (n : Nat) : List V → Hp → Vapatb.State → Vapatb.Call → Prop := fun vs _ s c => ∃ (i : Nat) (t : VTree), vs = [.int (i : Int)] ∧ c = mk (i : Int) ∧ s.tree = some t ∧ i + n < s.row.length
section
variable {P : Program} {w : World} {K : PySem.W.Frag} {mg : Str → Option Value} {base : Heap} {A : Adr}
theorem ok_72 (T : Txt K mg A) : FnOk P w K mg base CX0 4 A.f_72 A.d_72 ["held", "numbers"] (spDo A aTree) := by
  refine T.F_72.ok sc_72 (fun vs H Q E h => ?_) (fun cdv A' outer s H vs Q E hr h => ?_)
  · obtain ⟨a, s, k, c, rest, rfl, _, _, _, ⟨l, ns, rfl, _⟩, _⟩ := h
    rfl
  · obtain ⟨a, st, k0, c, rest, rfl, hh, hg, hk, ⟨l, ns, rfl, hl, hlen, rfl⟩, k⟩ := h
    refine ⟨_, (pss_cons (ps_set (i := 2) sc_72.nd rfl (Or.inl rfl) (pe_call (ok_63 T) (hr.mono (by decide)) rfl T.mg_63 T.F_63.kp T.b_63 .nil pass0 (pa_cons (pv 1) pa_nil)))
        (pss_cons (ps_if (pt_cmp (pc_isN (pv 2)))
          (pss_one (ps_ret (pe_lst (pa_cons (pe_gi rfl T.g_NOT_WHOLE) pa_nil))))
          pss_nil)
        (pss_cons (ps_fld (pv 0) (pv 2) rfl)
        (pss_cons (ps_fld (pv 0) (pe_lst pa_nil) rfl)
        (pss_one (ps_ret (pe_lst (pa_cons (pe_callB call_lenD (by rfl) T.n_len PySem.boot_len (pa_cons (pv 2) pa_nil)) pa_nil)))))))), ?_⟩
    refine ⟨_, rfl, l, ns, rfl, hl, hlen, fun H1 v s1 hv => ?_⟩
    have hh1 := hh.mono s1
    refine ⟨_, rfl, _, rfl, ?_⟩
    dsimp only [Vapatb.step] at k
    cases e : VapatBase.whole Vapatb.readTree ns with
    | none =>
      rw [e] at hv k
      have ev : v = .non := hv
      subst ev
      exact iteT (one_answer fun H' r gr s2 hr => k H' r (s1.free gr) (.of (s1.trans s2)) (hh1.mono s2) hr)
    | some t =>
      rw [e] at hv k
      obtain ⟨b, rfl, hb⟩ := hv
      have ih := hh1.is
      obtain ⟨dx, g, r, ha, _, _⟩ := hh1
      refine iteF ⟨_, rfl, _, rfl, a, _, dx, _, rfl, ha, T.clRowOnTree, T.na_RowOnTree_ground, (by show 2 < 1000; decide), ?_⟩
      rw [pk1]
      refine ⟨Nat.zero_le _, fun r2 g2 => ?_⟩
      have ha2 : upd (upd H1 a (.ins A.cRowOnTree dx (heldF (.ref b) (.ref r)))) r2 (.lst []) a = some (.ins A.cRowOnTree dx (heldF (.ref b) (.ref r))) := (Same.new g2) _ _ upd_same
      refine ⟨_, rfl, a, _, dx, _, rfl, ha2, T.clRowOnTree, T.na_RowOnTree_row, (by show 2 < 1000; decide), ?_⟩
      rw [pk2]
      have kb : KeepBut a H1 (upd (upd (upd H1 a (.ins A.cRowOnTree dx (heldF (.ref b) (.ref r)))) r2 (.lst [])) a (.ins A.cRowOnTree dx (heldF (.ref b) (.ref r2)))) := fun x o hx hne => by
        rw [upd_ne hne]
        refine (Same.new g2) _ _ ?_
        rw [upd_ne hne]
        exact hx
      have hr2 : upd (upd (upd H1 a (.ins A.cRowOnTree dx (heldF (.ref b) (.ref r)))) r2 (.lst [])) a (.ins A.cRowOnTree dx (heldF (.ref b) (.ref r2))) r2 = some (.lst []) := by
        rw [upd_ne (fun z => by rw [z, upd_same] at g2; cases g2), upd_same]
      have hb3 := keep_tree kb ih hb
      obtain ⟨kvs, hb4, hb5⟩ := hb3
      have hri := (VM.tree_read e).1
      refine ⟨_, rfl, b, kvs, rfl, hb4, one_answer fun H' q gq s3 hq => k H' q (s1.free (kb.free upd_same gq)) ((KeepBut.of s1).trans (kb.trans (.of s3))) ⟨dx, .ref b, r2, s3 _ _ upd_same, ⟨b, rfl, kvs, s3 _ _ hb4, hb5.mono s3⟩, [], s3 _ _ hr2, trivial⟩ ?_⟩
      rw [hb5.length hri] at hq
      exact hq
theorem ok_71 (T : Txt K mg A) : FnOk P w K mg base CX0 6 A.f_71 A.d_71 ["held", "numbers"] (spDo A aStep) := by
  refine T.F_71.ok sc_71 (fun vs H Q E h => ?_) (fun cdv A' outer s H vs Q E hr h => ?_)
  · obtain ⟨a, s, k, c, rest, rfl, _, _, _, ⟨l, ns, t, rfl, _⟩, _⟩ := h
    rfl
  · obtain ⟨a, st, k0, c, rest, rfl, hh, hg, hk, ⟨l, ns, t, rfl, hl, hlen, rfl, ht⟩, k⟩ := h
    obtain ⟨hri, hlow, ⟨u, hu⟩, hsm, hrl⟩ := hg.yes t ht
    refine ⟨_, (pss_cons (ps_set (i := 2) sc_71.nd rfl (Or.inl rfl) (pe_call (ok_61 T) (hr.mono (by decide)) rfl T.mg_61 T.F_61.kp T.b_61 .nil pass0 (pa_cons (pv 1) pa_nil)))
        (pss_cons (ps_if (pt_cmp (pc_isN (pv 2)))
          (pss_one (ps_ret (pe_lst (pa_cons (pe_gi rfl T.g_NOT_WHOLE) pa_nil))))
          pss_nil)
        (pss_cons (ps_if (pt_cmpR op_ge (pe_callB call_len_seq (by rfl) T.n_len PySem.boot_len (pa_cons (pe_fld (pv 0) rfl) pa_nil)) (pe_gi rfl T.g_MOST_STEPS) (nomark _))
          (pss_one (ps_ret (pe_lst (pa_cons (pe_gi rfl T.g_ROW_IS_FULL) pa_nil))))
          pss_nil)
        (pss_cons (ps_if (pt_not (pt_val (pe_dyn (D_fits T) (hr.mono (by decide)) (by decide +kernel) (pv 2) (pa_cons (pe_call (ok_65 T) (hr.mono (by decide)) rfl T.mg_65 T.F_65.kp T.b_65 .nil pass0 (pa_cons (pe_fld (pv 0) rfl) (pa_cons (pe_fld (pv 0) rfl) pa_nil))) pa_nil))))
          (pss_one (ps_ret (pe_lst (pa_cons (pe_gi rfl T.g_DOES_NOT_FIT) pa_nil))))
          pss_nil)
        (pss_cons (ps_fld (pv 0) (pe_op op_cat (pe_fld (pv 0) rfl) (pe_lst (pa_cons (pv 2) pa_nil))) rfl)
        (pss_one (ps_ret (pe_lst (pa_cons (pe_op op_sub (pe_callB call_len_seq (by rfl) T.n_len PySem.boot_len (pa_cons (pe_fld (pv 0) rfl) pa_nil)) pe_int) pa_nil))))))))), ?_⟩
    refine ⟨_, rfl, l, ns, rfl, hl, hlen, trivial, fun H1 v s1 hv => ?_⟩
    have hh1 := hh.mono s1
    refine ⟨_, rfl, _, rfl, ?_⟩
    dsimp only [Vapatb.step, Vapatb.onTree] at k
    rw [ht] at k
    dsimp only at k
    cases e : VapatBase.whole VapatBase.readStep ns with
    | none =>
      rw [e] at hv k
      have ev : v = .non := hv
      subst ev
      exact iteT (one_answer fun H' r gr s2 hr => k H' r (s1.free gr) (.of (s1.trans s2)) (hh1.mono s2) hr)
    | some p =>
      rw [e] at hv k
      obtain ⟨x, rfl, hx⟩ := hv
      have ih := hh1.is
      have hh1' := hh1
      obtain ⟨dx, g, r, ha, hgr, ⟨as, hr1, hst⟩⟩ := hh1'
      have hasl := hst.length
      dsimp only at k
      refine iteF ⟨_, rfl, _, _, _, _, _, rfl, ha, T.clRowOnTree, T.na_RowOnTree_row, kf2, r, _, rfl, .inl (SqL.of hr1), _, _, rfl, rfl, _, rfl, ?_⟩
      by_cases hfull : 16 ≤ st.row.length
      · rw [if_pos (show Vapatb.ROW ≤ st.row.length from hfull)] at k
        rw [decide_eq_true (by rw [List.length_map, hasl]; omega)]
        exact iteT (one_answer fun H' r gr s2 hr => k H' r (s1.free gr) (.of (s1.trans s2)) (hh1.mono s2) hr)
      · rw [if_neg (show ¬ Vapatb.ROW ≤ st.row.length from hfull)] at k
        rw [decide_eq_false (by rw [List.length_map, hasl]; omega)]
        rw [ht] at hgr
        obtain ⟨b, rfl, hb⟩ := hgr
        rw [hu] at k
        simp only [Option.bind_some] at k
        refine iteF ⟨_, rfl, x, p, rfl, trivial, hx, _, rfl, _, _, _, _, _, rfl, ha, T.clRowOnTree, T.na_RowOnTree_ground, kf1, _, rfl, _, _, _, _, _, rfl, ha, T.clRowOnTree, T.na_RowOnTree_row, kf2,
          b, r, t, st.row, u, _, rfl, hb, ⟨as, hr1, hst⟩, hri, hsm, hlow, (by omega), hu, fun H2 c2 s2 hc2 => ?_⟩
        refine ⟨x, c2, p, u, rfl, rfl, hx.mono s2, hc2, fun H3 s3 => ⟨_, rfl, ?_⟩⟩
        have s23 := s2.trans s3
        cases e2 : VapatBase.applied u p with
        | none =>
          rw [e2] at k
          exact iteT (one_answer fun H' r gr s4 hr => k H' r ((s1.trans s23).free gr) (.of ((s1.trans s23).trans s4)) (hh1.mono (s23.trans s4)) hr)
        | some w' =>
          rw [e2] at k
          dsimp only [Vapatb.withRow] at k
          have ha3 := s23 _ _ ha
          have hr3 := s23 _ _ hr1
          refine iteF ⟨_, rfl, _, _, _, _, _, rfl, ha3, T.clRowOnTree, T.na_RowOnTree_row, kf2, _, rfl, (by show 1 ≤ sizeLine; decide), fun l4 g4 => ?_⟩
          have s4 := Same.new (o := .lst [.ref x]) g4
          refine ⟨r, l4, _, _, rfl, rfl, s4 _ _ hr3, upd_same, le_line (by rw [List.length_map, hasl]; simp only [List.length_cons, List.length_nil]; omega), fun l5 g5 => ?_⟩
          have s5 := s4.trans (Same.new (o := .lst (as.map V.ref ++ [.ref x])) g5)
          have ha5 := s5 _ _ ha3
          refine ⟨_, rfl, a, _, dx, _, rfl, ha5, T.clRowOnTree, T.na_RowOnTree_row, (by show 2 < 1000; decide), ?_⟩
          rw [pk2]
          have kb : KeepBut a (upd (upd H3 l4 (.lst [.ref x])) l5 (.lst (as.map V.ref ++ [.ref x]))) (upd (upd (upd H3 l4 (.lst [.ref x])) l5 (.lst (as.map V.ref ++ [.ref x]))) a (.ins A.cRowOnTree dx (heldF (.ref b) (.ref l5)))) := KeepBut.put
          have ih5 : IsHeld A (upd (upd H3 l4 (.lst [.ref x])) l5 (.lst (as.map V.ref ++ [.ref x]))) a := ⟨_, _, _, ha5⟩
          have hl5 := keep_lst kb ih5 (upd_same (H := upd H3 l4 (.lst [.ref x])) (a := l5) (o := .lst (as.map V.ref ++ [.ref x])))
          have hst5 := keep_steps kb ih5 ((hst.mono (s23.trans s5)).append (bs := [x]) (qs := [p]) ⟨hx.mono (s23.trans s5), trivial⟩)
          have hb5 := keep_tree kb ih5 (hb.mono (s23.trans s5))
          refine ⟨_, rfl, _, _, _, _, _, rfl, upd_same, T.clRowOnTree, T.na_RowOnTree_row, kf2, l5, _, rfl, .inl (SqL.of hl5), _, _, rfl, rfl, one_answer fun H' q gq s6 hq => k H' q ((s1.trans (s23.trans s5)).free (kb.free upd_same gq)) ((KeepBut.of (s1.trans (s23.trans s5))).trans (kb.trans (.of s6))) ?_ ?_⟩
          · refine ⟨dx, .ref b, l5, s6 _ _ upd_same, ?_, as ++ [x], ?_, hst5.mono s6⟩
            · show GroundAt H' (.ref b) st.tree
              rw [ht]
              exact ⟨b, rfl, hb5.mono s6⟩
            · rw [s6 _ _ hl5]
              simp
          · have : ((as.map V.ref ++ [V.ref x]).length : Int) - 1 = Vapatb.int st.row.length := by
              rw [List.length_append, List.length_map, hasl, List.length_singleton]
              show ((st.row.length + 1 : Nat) : Int) - 1 = ((st.row.length : Nat) : Int)
              omega
            rw [this] at hq
            exact hq
theorem ok_70 (T : Txt K mg A) : FnOk P w K mg base CX0 4 A.f_70 A.d_70 ["held"] (spDo A (aPlain .shown)) := by
  refine T.F_70.ok sc_70 (fun vs H Q E h => ?_) (fun cdv A' outer s H vs Q E hr h => ?_)
  · obtain ⟨a, s, k, c, rest, rfl, _, _, _, ⟨t, rfl, _⟩, _⟩ := h
    rfl
  · obtain ⟨a, st, k0, c, rest, rfl, hh, hg, hk, ⟨t, rfl, rfl, ht⟩, k⟩ := h
    obtain ⟨hri, hlow, ⟨u, hu⟩, hsm, hrl⟩ := hg.yes t ht
    have hh' := hh
    obtain ⟨dx, g, r, ha, hgr, hrow⟩ := hh'
    dsimp only [Vapatb.step, Vapatb.onTree] at k
    rw [ht] at k
    refine ⟨_, (pss_one (ps_ret (pe_call (ok_66 T) (hr.mono (by decide)) rfl T.mg_66 T.F_66.kp T.b_66 .nil pass0 (pa_cons (pe_fld (pv 0) rfl) pa_nil)))), ?_⟩
    exact ⟨_, rfl, _, _, _, _, _, rfl, ha, T.clRowOnTree, T.na_RowOnTree_row, kf2, r, st.row, rfl, hrow, hsm, (by omega), fun H' l gl s' hl => k H' l gl (.of s') (hh.mono s') hl⟩
theorem ok_57 (T : Txt K mg A) : FnOk P w K mg base CX0 6 A.f_57 A.d_57 ["held"] (spDo A (aPlain .outcome)) := by
  refine T.F_57.ok sc_57 (fun vs H Q E h => ?_) (fun cdv A' outer s H vs Q E hr h => ?_)
  · obtain ⟨a, s, k, c, rest, rfl, _, _, _, ⟨t, rfl, _⟩, _⟩ := h
    rfl
  · obtain ⟨a, st, k0, c, rest, rfl, hh, hg, hk, ⟨t, rfl, rfl, ht⟩, k⟩ := h
    obtain ⟨hri, hlow, ⟨u, hu⟩, hsm, hrl⟩ := hg.yes t ht
    have hh' := hh
    obtain ⟨dx, g, r, ha, hgr, hrow⟩ := hh'
    dsimp only [Vapatb.step, Vapatb.onTree] at k
    rw [ht] at k hgr
    dsimp only at k
    rw [hu] at k
    obtain ⟨b, rfl, hb⟩ := hgr
    refine ⟨_, (pss_one (ps_ret (pe_call (ok_75 T) (hr.mono (by decide)) rfl T.mg_75 T.F_75.kp T.b_75 .nil pass0 (pa_cons (pe_call (ok_65 T) (hr.mono (by decide)) rfl T.mg_65 T.F_65.kp T.b_65 .nil pass0 (pa_cons (pe_fld (pv 0) rfl) (pa_cons (pe_fld (pv 0) rfl) pa_nil))) pa_nil)))), ?_⟩
    refine ⟨_, rfl, _, _, _, _, _, rfl, ha, T.clRowOnTree, T.na_RowOnTree_ground, kf1, _, rfl, _, _, _, _, _, rfl, ha, T.clRowOnTree, T.na_RowOnTree_row, kf2,
      b, r, t, st.row, u, _, rfl, hb, hrow, hri, hsm, hlow, (by omega), hu, fun H1 c1 s1 hc1 => ?_⟩
    exact ⟨c1, u, rfl, hc1, VM.appliedAll_rising hri hu, VM.low_mono (VM.low_appliedAll hlow hsm hu) (by omega), fun H' l gl s' hl => k H' l (s1.free gl) (.of (s1.trans s')) (hh.mono (s1.trans s')) hl⟩
end
end P58
end
section
set_option Elab.async false
set_option linter.all false
set_option maxRecDepth 100000
set_option maxHeartbeats 1000000
namespace P58
open PySem PySem.Spec PyProof.Rows L2
section
variable {A : Adr} {H H' : Hp} (k : ∀ b x, H b = some x → (∀ od u, x ≠ HO.frz od u) → H' b = some x)
include k
theorem mv_lst {b : Addr} {xs : List V} (h : H b = some (.lst xs)) : H' b = some (.lst xs) := k _ _ h (fun _ _ z => by cases z)
theorem mv_step {C : Cs} {b : Addr} {p : VStep} (h : StepAt C H b p) : StepAt C H' b p := by
  cases p with
  | hunk f pl o n =>
    obtain ⟨dx, po, pn, h1, h2, h3⟩ := h
    exact ⟨dx, po, pn, k _ _ h1 (fun _ _ z => by cases z), mv_lst k h2, mv_lst k h3⟩
  | swap f x y => obtain ⟨dx, h1⟩ := h; exact ⟨dx, k _ _ h1 (fun _ _ z => by cases z)⟩
  | add f => obtain ⟨dx, h1⟩ := h; exact ⟨dx, k _ _ h1 (fun _ _ z => by cases z)⟩
  | remove f => obtain ⟨dx, h1⟩ := h; exact ⟨dx, k _ _ h1 (fun _ _ z => by cases z)⟩
  | move f g => obtain ⟨dx, h1⟩ := h; exact ⟨dx, k _ _ h1 (fun _ _ z => by cases z)⟩
theorem mv_steps {C : Cs} : ∀ {as : List Addr} {ps : List VStep}, StepsAt C H as ps → StepsAt C H' as ps
  | [], [], _ => trivial
  | _ :: _, _ :: _, h => ⟨mv_step k h.1, mv_steps h.2⟩
  | [], _ :: _, h => h.elim
  | _ :: _, [], h => h.elim
theorem mv_tree {b : Addr} {t : VTree} (h : TreeAt H b t) : TreeAt H' b t := by
  obtain ⟨kvs, h1, h2⟩ := h
  refine ⟨kvs, k _ _ h1 (fun _ _ z => by cases z), h2.nd, h2.keys, fun f => ?_⟩
  have q := h2.rel f
  cases e1 : valV kvs (fk f) <;> cases e2 : VapatBase.fileIn t f <;> rw [e1, e2] at q
  · trivial
  · exact q.elim
  · exact q.elim
  · obtain ⟨r, e, hr⟩ := q
    exact ⟨r, e, mv_lst k hr⟩
theorem mv_held {a : Addr} {s : Vapatb.State} (h : HeldAt A H a s) : HeldAt A H' a s := by
  obtain ⟨dx, g, r, h1, h2, as, h3, h4⟩ := h
  refine ⟨dx, g, r, k _ _ h1 (fun _ _ z => by cases z), ?_, as, mv_lst k h3, mv_steps k h4⟩
  cases e : s.tree with
  | none => rw [e] at h2; exact h2
  | some t =>
    rw [e] at h2
    obtain ⟨b, eb, hb⟩ := h2
    exact ⟨b, eb, mv_tree k hb⟩
end
section
variable {A : Adr} {H H' : Hp} (k : ∀ b x, H b = some x → (∀ od u, x ≠ HO.frz od u) → H' b = some x)
include k
theorem mv_row {C : Cs} {b : Addr} {row : List VStep} (h : RowAt C H b row) : RowAt C H' b row := by
  obtain ⟨as, h1, h2⟩ := h
  exact ⟨as, mv_lst k h1, mv_steps k h2⟩
end
def Off (H H' : Hp) : Prop := ∀ b x, H b = some x → (∀ od u, x ≠ HO.frz od u) → H' b = some x
theorem Off.put {H : Hp} {o : Addr} {od : Obj} {u : HO} (ho : H o = some (.frz od u)) (x : HO) : Off H (upd H o x) := fun b y hb hn => by
  rw [upd_ne (fun z => by rw [z, ho] at hb; cases hb; exact hn _ _ rfl)]
  exact hb
theorem Off.same {H H1 H2 : Hp} (h : Off H H1) (s : Same H1 H2) : Off H H2 := fun b y hb hn => s _ _ (h b y hb hn)
theorem Off.at_ {H H1 : Hp} {o : Addr} {od : Obj} {u x : HO} (h : Off H H1) (ho : H o = some (.frz od u)) : Off H (upd H1 o x) := fun b y hb hn => by
  rw [upd_ne (fun z => by rw [z, ho] at hb; cases hb; exact hn _ _ rfl)]
  exact h b y hb hn
def OptRow (C : Cs) (H : Hp) (v : V) : Option (List VStep) → Prop
  | none => v = .non
  | some row => ∃ l, v = .ref l ∧ RowAt C H l row
theorem OptRow.mono {C : Cs} {H H' : Hp} {v : V} {o : Option (List VStep)} (s : Same H H') (h : OptRow C H v o) : OptRow C H' v o := by
  cases o with
  | none => exact h
  | some row => obtain ⟨l, e, q⟩ := h; exact ⟨l, e, q.mono s⟩
theorem OptRow.off {C : Cs} {H H' : Hp} {v : V} {o : Option (List VStep)} (k : Off H H') (h : OptRow C H v o) : OptRow C H' v o := by
  cases o with
  | none => exact h
  | some row => obtain ⟨l, e, q⟩ := h; exact ⟨l, e, mv_row k q⟩
theorem refs_get {as : List Addr} {i : Nat} {a : Addr} (h : as[i]? = some a) : (as.map V.ref)[i]? = some (V.ref a) := by rw [List.getElem?_map, h]; rfl
theorem refs_get' {as : List Addr} {i : Nat} {v : V} (h : (as.map V.ref)[i]? = some v) : ∃ a, as[i]? = some a ∧ v = V.ref a := by
  rw [List.getElem?_map] at h
  cases e : as[i]? with
  | none => rw [e] at h; cases h
  | some t => rw [e] at h; exact ⟨t, rfl, (Option.some.inj h).symm⟩
theorem refs_take (as : List Addr) (n : Nat) : (as.map V.ref).take n = (as.take n).map V.ref := by rw [List.map_take]
theorem refs_drop (as : List Addr) (n : Nat) : (as.map V.ref).drop n = (as.drop n).map V.ref := by rw [List.map_drop]
def spTurned (A : Adr) (k : Nat) : Sp := fun vs H Q _ => ∃ a p, vs = [.ref a] ∧ kd p = k ∧ StepAt (cs A) H a p ∧ ∀ H' x, Same H H' → StepAt (cs A) H' x (VapatBase.turned p) → Q (.ref x) H'
section
variable {P : Program} {w : World} {K : PySem.W.Frag} {mg : Str → Option Value} {base : Heap} {A : Adr}
theorem ok_13 (T : Txt K mg A) : FnOk P w K mg base CX0 3 A.f_13 A.d_13 ["self"] (spTurned A 0) := by
  refine T.F_13.ok sc_13 (fun vs H Q E h => ?_) (fun cdv A' outer s H vs Q E hr h => ?_)
  · obtain ⟨a, p, rfl, _⟩ := h
    rfl
  · obtain ⟨a, p, rfl, hk, hs, k⟩ := h
    cases p with
    | hunk f pl o n =>
      obtain ⟨dx, po, pn, h1, h2, h3⟩ := hs
      refine ⟨_, (pss_one (ps_ret (pe_make T.mkHunk (ok_9 T) (hr.mono (by decide)) rfl T.mgHunk T.b_9 .nil pass0 (pa_cons (pe_fld (pv 0) rfl) (pa_cons (pe_fld (pv 0) rfl) (pa_cons (pe_fld (pv 0) rfl) (pa_cons (pe_fld (pv 0) rfl) pa_nil))))))), ?_⟩
      exact ⟨_, rfl, _, _, _, _, _, rfl, h1, T.clHunk, T.na_Hunk_name, hf1, ⟨_, rfl, _, _, _, _, _, rfl, h1, T.clHunk, T.na_Hunk_place, hf2, _, rfl, _, _, _, _, _, rfl, h1, T.clHunk, T.na_Hunk_new, hf4, _, rfl, _, _, _, _, _, rfl, h1, T.clHunk, T.na_Hunk_old, hf3, make_hunk (C := cs A) h3 h2 k⟩⟩
    | _ => cases hk
theorem ok_35 (T : Txt K mg A) : FnOk P w K mg base CX0 3 A.f_35 A.d_35 ["self"] (spTurned A 1) := by
  refine T.F_35.ok sc_35 (fun vs H Q E h => ?_) (fun cdv A' outer s H vs Q E hr h => ?_)
  · obtain ⟨a, p, rfl, _⟩ := h
    rfl
  · obtain ⟨a, p, rfl, hk, hs, k⟩ := h
    cases p with
    | swap f x y =>
      refine ⟨_, (pss_one (ps_ret (pv 0))), ?_⟩
      exact ⟨_, rfl, k H a (Same.refl H) hs⟩
    | _ => cases hk
theorem ok_5 (T : Txt K mg A) : FnOk P w K mg base CX0 3 A.f_5 A.d_5 ["self"] (spTurned A 2) := by
  refine T.F_5.ok sc_5 (fun vs H Q E h => ?_) (fun cdv A' outer s H vs Q E hr h => ?_)
  · obtain ⟨a, p, rfl, _⟩ := h
    rfl
  · obtain ⟨a, p, rfl, hk, hs, k⟩ := h
    cases p with
    | add f =>
      obtain ⟨dx, h1⟩ := hs
      refine ⟨_, (pss_one (ps_ret (pe_make T.mkRemoved (ok_23 T) (hr.mono (by decide)) rfl T.mgRemoved T.b_23 .nil pass0 (pa_cons (pe_fld (pv 0) rfl) pa_nil)))), ?_⟩
      exact ⟨_, rfl, _, _, _, _, _, rfl, h1, T.clAdded, T.na_Added_name, nf1, make_remove (C := cs A) k⟩
    | _ => cases hk
theorem ok_25 (T : Txt K mg A) : FnOk P w K mg base CX0 3 A.f_25 A.d_25 ["self"] (spTurned A 3) := by
  refine T.F_25.ok sc_25 (fun vs H Q E h => ?_) (fun cdv A' outer s H vs Q E hr h => ?_)
  · obtain ⟨a, p, rfl, _⟩ := h
    rfl
  · obtain ⟨a, p, rfl, hk, hs, k⟩ := h
    cases p with
    | remove f =>
      obtain ⟨dx, h1⟩ := hs
      refine ⟨_, (pss_one (ps_ret (pe_make T.mkAdded (ok_3 T) (hr.mono (by decide)) rfl T.mgAdded T.b_3 .nil pass0 (pa_cons (pe_fld (pv 0) rfl) pa_nil)))), ?_⟩
      exact ⟨_, rfl, _, _, _, _, _, rfl, h1, T.clRemoved, T.na_Removed_name, nf1, make_add (C := cs A) k⟩
    | _ => cases hk
theorem ok_19 (T : Txt K mg A) : FnOk P w K mg base CX0 3 A.f_19 A.d_19 ["self"] (spTurned A 4) := by
  refine T.F_19.ok sc_19 (fun vs H Q E h => ?_) (fun cdv A' outer s H vs Q E hr h => ?_)
  · obtain ⟨a, p, rfl, _⟩ := h
    rfl
  · obtain ⟨a, p, rfl, hk, hs, k⟩ := h
    cases p with
    | move f g =>
      obtain ⟨dx, h1⟩ := hs
      refine ⟨_, (pss_one (ps_ret (pe_make T.mkMoved (ok_17 T) (hr.mono (by decide)) rfl T.mgMoved T.b_17 .nil pass0 (pa_cons (pe_fld (pv 0) rfl) (pa_cons (pe_fld (pv 0) rfl) pa_nil))))), ?_⟩
      exact ⟨_, rfl, _, _, _, _, _, rfl, h1, T.clMoved, T.na_Moved_new_name, mf2, ⟨_, rfl, _, _, _, _, _, rfl, h1, T.clMoved, T.na_Moved_old_name, mf1, make_move (C := cs A) k⟩⟩
    | _ => cases hk
end
section
variable {X : Cx} {A : Adr}
theorem D_turned (T : Txt X.K X.mg A) : Disp X (cs A) any5 "turned" 3 ["self"] (spTurned A) := fun p _ => by
  cases p with
  | hunk => exact ⟨_, _, T.clHunk, T.m_13, ok_13 T, T.b_13⟩
  | swap => exact ⟨_, _, T.clSwap, T.m_35, ok_35 T, T.b_35⟩
  | add => exact ⟨_, _, T.clAdded, T.m_5, ok_5 T, T.b_5⟩
  | remove => exact ⟨_, _, T.clRemoved, T.m_25, ok_25 T, T.b_25⟩
  | move => exact ⟨_, _, T.clMoved, T.m_19, ok_19 T, T.b_19⟩
end
theorem lc_rev {K : PySem.W.Frag} {a : Addr} {xs : List V} {g : TG} {tt : TT} {te : TE} {vs : List Nat} {σ : L2.St} {H1 : Hp} {D : Addr} {Qd : Hp → Prop} (Pv : Nat → Hp → Prop) (h0 : Pv 0 (upd H1 D (.lst []))) (hl : ∀ i H, i ≤ xs.length → Pv i H → SqL K H a xs)
    (hs : ∀ i x H, i < xs.length → xs[xs.length - 1 - i]? = some x → Pv i H → g x (wipe σ vs) H fun σ2 H2 => wipe σ2 vs = wipe σ vs ∧ tt σ2 H2 fun b H3 =>
      if b = true then te σ2 H3 fun y H4 => ∃ acc, H4 D = some (.lst acc) ∧ acc.length < sizeLine ∧ Pv (i + 1) (upd H4 D (.lst (acc ++ [y]))) else Pv (i + 1) H3) (hd : ∀ H, Pv xs.length H → Qd H) :
    ∃ W : Nat → Nat → Hp → Prop, (∃ m, W 0 m (upd H1 D (.lst []))) ∧ ∀ i m H, W i m H →
      ((Itv K a xs.length).stop i H ∧ Qd H) ∨ ((Itv K a xs.length).go i H ∧ ∃ Nx : Hp → Prop, (∀ H', Nx H' → ∃ m', m' < m ∧ W (i + 1) m' H') ∧ ∀ x H', (Itv K a xs.length).yld i H x H' → g x (wipe σ vs) H' fun σ2 H2 => wipe σ2 vs = wipe σ vs ∧ tt σ2 H2 fun b H3 =>
        if b = true then te σ2 H3 fun y H4 => ∃ acc, H4 D = some (.lst acc) ∧ acc.length < sizeLine ∧ Nx (upd H4 D (.lst (acc ++ [y]))) else Nx H3) := by
  refine ⟨fun i m H => m = xs.length - i ∧ i ≤ xs.length ∧ Pv i H, ⟨xs.length, by simp, Nat.zero_le _, h0⟩, ?_⟩
  rintro i m H ⟨rfl, hi, p⟩
  have q := hl i H hi p
  by_cases hlt : i < xs.length
  · have hx : xs[xs.length - 1 - i]? = some xs[xs.length - 1 - i] := List.getElem?_eq_getElem (by omega)
    refine .inr ⟨⟨hlt, xs, xs[xs.length - 1 - i], q, hx⟩, Pv (i + 1), fun H' p' => ⟨xs.length - (i + 1), by omega, rfl, hlt, p'⟩, fun x H' y => ?_⟩
    obtain ⟨e, y⟩ := y
    subst e
    exact hs i x _ hlt (y xs q) p
  · have e : i = xs.length := by omega
    subst e
    exact .inl ⟨Nat.le_refl _, hd H p⟩
theorem rev_take {α : Type} {l : List α} {i : Nat} {x : α} (hi : i < l.length) (h : l[l.length - 1 - i]? = some x) : l.reverse.take (i + 1) = l.reverse.take i ++ [x] := by
  refine take_one ?_
  rw [List.getElem?_reverse hi]
  exact h
def spRowTurned (A : Adr) : Sp := fun vs H Q _ => ∃ r row, vs = [.ref r] ∧ RowAt (cs A) H r row ∧ row.length ≤ 1000 ∧ ∀ H' l, Same H H' → RowAt (cs A) H' l (VapatBase.turnedAll row) → Q (.ref l) H'
section
variable {P : Program} {w : World} {K : PySem.W.Frag} {mg : Str → Option Value} {base : Heap} {A : Adr}
theorem ok_67 (T : Txt K mg A) : FnOk P w K mg base CX0 5 A.f_67 A.d_67 ["row"] (spRowTurned A) := by
  refine T.F_67.ok sc_67 (fun vs H Q E h => ?_) (fun cdv A' outer s H vs Q E hr h => ?_)
  · obtain ⟨r, row, rfl, _⟩ := h
    rfl
  · obtain ⟨r, row, rfl, ⟨as, hr1, hst⟩, hlen, k⟩ := h
    have hasl := hst.length
    refine ⟨_, (pss_one (ps_ret (pe_lc rfl sc_67.nd (pi_reversed rfl T.n_reversed (pa_cons (pv 0) pa_nil)) (blkOk_by (N := ["row", "step"]) (sc := defScope st_67) (own := [("step", 1)]) (by decide +kernel)) (fun _ _ _ _ _ => pg_name (i := 1) sc_67.nd rfl (Or.inl rfl)) (fun _ _ _ _ _ => pts_nil) (fun _ _ _ _ _ => (pe_lock (pe_dyn0 (D_turned T) (hr.mono (by decide)) (by decide +kernel) (pv 1))))))), ?_⟩
    refine ⟨_, rfl, r, _, rfl, SqL.of hr1, fun D hD => lc_rev (K := K) (a := r) (xs := as.map V.ref)
      (fun i H' => ∃ bs : List Addr, Same H H' ∧ H' D = some (.lst (bs.map V.ref)) ∧ bs.length = i ∧ ∀ x, StepsAt (cs A) (upd H' D x) bs ((row.reverse.take i).map VapatBase.turned)) ⟨[], Same.new hD, upd_same, rfl, fun x => trivial⟩ (fun i H' _ ⟨_, z, _⟩ => SqL.of (z _ _ hr1)) ?_ ?_⟩
    · rintro i v H' hi hv ⟨bs, s', hD', hbl, hbs⟩
      obtain ⟨a, ha, rfl⟩ := refs_get' hv
      rw [List.length_map] at hi ha
      obtain ⟨p, hp, hpa⟩ := hst.get' ha
      refine ⟨rfl, ?_⟩
      unfold tYes
      dsimp only
      rw [if_pos rfl]
      refine ⟨D, _, hD', trivial, fun od => ?_⟩
      have sL : Same H (upd H' D (.frz od (.lst (bs.map V.ref)))) := s'.upd hD
      have hbL := hbs (.frz od (.lst (bs.map V.ref)))
      have hDL : upd H' D (.frz od (.lst (bs.map V.ref))) D = some (.frz od (.lst (bs.map V.ref))) := upd_same
      generalize upd H' D (.frz od (.lst (bs.map V.ref))) = HL at sL hbL hDL
      refine ⟨_, rfl, a, p, rfl, trivial, hpa.mono sL, a, p, rfl, rfl, hpa.mono sL, fun H2 x s2 hx => ⟨s2 _ _ hDL, _, upd_same, lt_line (by rw [List.length_map]; omega), bs ++ [x], ?_, ?_, ?_, fun y => ?_⟩⟩
      · rw [upd_upd]
        exact (sL.trans s2).upd hD
      · rw [upd_upd, upd_same, List.map_append]
        rfl
      · rw [List.length_append, hbl]
        rfl
      · rw [upd_upd, upd_upd, rev_take (by omega) (by rw [← hasl]; exact hp), List.map_append]
        have of := Off.put (s2 _ _ hDL) y
        exact (mv_steps of (hbL.mono s2)).append ⟨mv_step of hx, trivial⟩
    · rintro H' ⟨bs, s', hD', hbl, hbs⟩
      refine k H' D s' ⟨bs, hD', ?_⟩
      have := hbs (.lst (bs.map V.ref))
      rw [List.length_map, hasl, List.take_of_length_le (by rw [List.length_reverse]; omega), List.map_reverse] at this
      have e : upd H' D (.lst (bs.map V.ref)) = H' := by
        funext b
        by_cases hb : b = D
        · rw [hb, upd_same, hD']
        · rw [upd_ne hb]
      rw [e] at this
      exact this
end
end P58
end
section
set_option Elab.async false
set_option linter.all false
set_option maxRecDepth 100000
set_option maxHeartbeats 1000000
namespace P58
open PySem PySem.Spec PyProof.Rows L2
theorem drop_pred {α : Type} {l : List α} {j : Nat} {x : α} (hj : 0 < j) (h : l[j - 1]? = some x) : l.drop (j - 1) = x :: l.drop j := by
  obtain ⟨hk, e⟩ := List.getElem?_eq_some_iff.mp h
  have : l.drop (j - 1) = l[j - 1] :: l.drop (j - 1 + 1) := by rw [List.getElem_cons_drop]
  rw [this, e]
  congr 2
  omega
def spCommAt (A : Adr) : Sp := fun vs H Q _ => ∃ (r : Addr) (row : List VStep) (i : Nat) (z : Int), vs = [.ref r, .int z] ∧ z = (i : Int) ∧ RowAt (cs A) H r row ∧ i + 1 < row.length ∧ VM.smalls row ∧ row.length ≤ 1000 ∧ ∀ H' v, Same H H' → OptRow (cs A) H' v (VM.commAt row i) → Q v H'
def aheadRes (A : Adr) (H : Hp) (row : List VStep) (k g : Nat) (l : Addr) (j : Nat) : Except Nat (VStep × List VStep) → Prop
  | .error n => g < j ∧ j ≤ k ∧ n = k - j
  | .ok r => j = g ∧ RowAt (cs A) H l (row.take g ++ r.1 :: (r.2 ++ row.drop (k + 1)))
def spAhead (A : Adr) : Sp := fun vs H Q _ => ∃ (r : Addr) (row : List VStep) (k g : Nat) (y z : Int) (q : VStep), vs = [.ref r, .int y, .int z] ∧ y = (k : Int) ∧ z = (g : Int) ∧ RowAt (cs A) H r row ∧ row[k]? = some q ∧ g ≤ k ∧ VM.smalls row ∧ row.length ≤ 1000 ∧
  ∀ (H' : Hp) (tp l : Addr) (j : Nat), Same H H' → H' tp = some (.tup [.ref l, .int (j : Int)]) → aheadRes A H' row k g l j (Vapatb.aheadOf ((row.take k).drop g) q) → Q (.ref tp) H'
def behindRes (A : Adr) (H : Hp) (row : List VStep) (k : Nat) (l : Addr) (j : Nat) : Except Nat (List VStep × VStep) → Prop
  | .error n => j = k + n ∧ j + 1 < row.length
  | .ok r => j + 1 = row.length ∧ RowAt (cs A) H l (row.take k ++ (r.1 ++ [r.2]))
def spBehind (A : Adr) : Sp := fun vs H Q _ => ∃ (r : Addr) (row : List VStep) (k : Nat) (y : Int) (p : VStep), vs = [.ref r, .int y] ∧ y = (k : Int) ∧ RowAt (cs A) H r row ∧ row[k]? = some p ∧ VM.smalls row ∧ row.length ≤ 1000 ∧
  ∀ (H' : Hp) (tp l : Addr) (j : Nat), Same H H' → H' tp = some (.tup [.ref l, .int (j : Int)]) → behindRes A H' row k l j (Vapatb.behind p (row.drop (k + 1))) → Q (.ref tp) H'
section
variable {P : Program} {w : World} {K : PySem.W.Frag} {mg : Str → Option Value} {base : Heap} {A : Adr}
theorem ok_44 (T : Txt K mg A) : FnOk P w K mg base CX0 6 A.f_44 A.d_44 ["row", "place"] (spCommAt A) := by
  refine T.F_44.ok sc_44 (fun vs H Q E h => ?_) (fun cdv A' outer s H vs Q E hr h => ?_)
  · obtain ⟨r, row, i, z, rfl, _⟩ := h
    rfl
  · obtain ⟨r, row, i, z, rfl, rfl, ⟨as, hr1, hst⟩, hi, hsm, hrl, k⟩ := h
    have hasl := hst.length
    have e1 : row[i]? = some row[i] := List.getElem?_eq_getElem (by omega)
    have e2 : row[i + 1]? = some row[i + 1] := List.getElem?_eq_getElem hi
    generalize row[i] = p at e1
    generalize row[i + 1] = q at e2
    obtain ⟨x, x1, hx⟩ := hst.get e1
    obtain ⟨y, y1, hy⟩ := hst.get e2
    have smp := hsm p (List.mem_of_getElem? e1)
    have smq := hsm q (List.mem_of_getElem? e2)
    rw [VM.commAt_eq e1 e2] at k
    refine ⟨_, (pss_cons (ps_set (i := 2) sc_44.nd rfl (Or.inl rfl) (pe_call (ok_43 T) (hr.mono (by decide)) rfl T.mg_43 T.F_43.kp T.b_43 .nil pass0 (pa_cons (pe_ix ix_list (pv 0) (pv 1) (fun _ _ => rfl)) (pa_cons (pe_ix ix_list (pv 0) (pe_op op_add (pv 1) pe_int) (fun _ _ => rfl)) pa_nil))))
        (pss_cons (ps_if (pt_cmp (pc_isN (pv 2)))
          (pss_one (ps_ret pe_non))
          pss_nil)
        (pss_one (ps_ret (pe_op op_cat (pe_op op_cat (pe_slice sl_list (pv 0) po_none (po_some (pv 1))) (pe_callTy call_list_of (by rfl) T.n_list boot_list (pa_cons (pv 2) pa_nil))) (pe_slice sl_list (pv 0) (po_some (pe_op op_add (pv 1) pe_int)) po_none)))))), ?_⟩
    refine ⟨_, rfl, _, rfl, r, _, _, _, rfl, rfl, SqL.of hr1, at_of (j := i) rfl (refs_get x1), _, rfl, _, rfl, _, _, rfl, rfl,
      r, _, _, _, rfl, rfl, SqL.of hr1, at_of (j := i + 1) (by omega) (refs_get y1), x, y, p, q, rfl, hx, hy, smp, smq, trivial, fun H1 v s1 hv => ?_⟩
    refine ⟨_, rfl, _, rfl, ?_⟩
    cases e : VapatBase.commuted p q with
    | none =>
      rw [e] at hv k
      have ev : v = .non := hv
      subst ev
      exact iteT (k H1 _ s1 rfl)
    | some rr =>
      obtain ⟨q', p'⟩ := rr
      rw [e] at hv k
      obtain ⟨tp, x', y', rfl, htp, hx', hy'⟩ := hv
      dsimp only at hx' hy'
      have hr2 := s1 _ _ hr1
      refine iteF ⟨_, rfl, _, rfl, _, rfl, r, _, rfl, SqL.of hr2, fun l1 g1 => ?_⟩
      have f1 := Same.new (o := .lst (cutV (as.map V.ref) none (some (i : Int)))) g1
      refine ⟨_, rfl, tp, _, rfl, .inr (SqT.of (f1 _ _ htp)), fun l2 g2 => ?_⟩
      have f2 := Same.new (o := .lst [V.ref x', V.ref y']) g2
      refine ⟨l1, l2, _, _, rfl, rfl, f2 _ _ upd_same, upd_same, ?_, fun l3 g3 => ?_⟩
      · rw [cut_to]
        refine le_line ?_
        rw [List.length_take, List.length_map, hasl]
        simp only [List.length_cons, List.length_nil]
        omega
      have f3 := Same.new (o := .lst (cutV (as.map V.ref) none (some (i : Int)) ++ [V.ref x', V.ref y'])) g3
      have f13 := (f1.trans f2).trans f3
      refine ⟨_, rfl, _, rfl, _, _, rfl, rfl, _, rfl, r, _, rfl, SqL.of (f13 _ _ hr2), fun l4 g4 => ?_⟩
      have ec4 : cutV (as.map V.ref) (some ((i : Int) + 2)) none = (as.map V.ref).drop (i + 2) := by
        have : (i : Int) + 2 = ((i + 2 : Nat) : Int) := by omega
        rw [this, cut_from]
      have f4 := Same.new (o := .lst (cutV (as.map V.ref) (some ((i : Int) + 2)) none)) g4
      refine ⟨l3, l4, _, _, rfl, rfl, f4 _ _ upd_same, upd_same, ?_, fun l5 g5 => ?_⟩
      · rw [cut_to, ec4]
        refine le_line ?_
        rw [List.length_append, List.length_take, List.length_drop, List.length_map, hasl]
        simp only [List.length_cons, List.length_nil]
        omega
      have f5 := Same.new (o := .lst ((cutV (as.map V.ref) none (some (i : Int)) ++ [V.ref x', V.ref y']) ++ cutV (as.map V.ref) (some ((i : Int) + 2)) none)) g5
      have f15 := (f13.trans f4).trans f5
      refine k _ _ (s1.trans f15) ⟨l5, rfl, as.take i ++ (x' :: y' :: as.drop (i + 2)), ?_, ?_⟩
      · rw [upd_same, cut_to, ec4, refs_take, refs_drop]
        simp
      · exact ((hst.take i).mono (s1.trans f15)).append ⟨hx'.mono f15, hy'.mono f15, (hst.drop (i + 2)).mono (s1.trans f15)⟩
theorem ok_39 (T : Txt K mg A) : FnOk P w K mg base CX0 7 A.f_39 A.d_39 ["row", "place", "goal"] (spAhead A) := by
  refine T.F_39.ok sc_39 (fun vs H Q E h => ?_) (fun cdv A' outer s H vs Q E hr h => ?_)
  · obtain ⟨r, row, k, g, y, z, q, rfl, _⟩ := h
    rfl
  · obtain ⟨r, row, k, g, y, z, q, rfl, rfl, rfl, hrow, hq, hgk, hsm, hlen, kk⟩ := h
    have hkl : k < row.length := (List.getElem?_eq_some_iff.mp hq).1
    refine ⟨_, (pss_cons (ps_while PassesOwn.never (pt_cmpR op_gt (pv 1) (pv 2) (nomark _))
          (pss_cons (ps_set (i := 3) sc_39.nd rfl (Or.inl rfl) (pe_call (ok_44 T) (hr.mono (by decide)) rfl T.mg_44 T.F_44.kp T.b_44 .nil pass0 (pa_cons (pv 0) (pa_cons (pe_op op_sub (pv 1) pe_int) pa_nil))))
            (pss_cons (ps_if (pt_cmp (pc_isN (pv 3)))
              (pss_one ps_break)
              pss_nil)
            (pss_cons (ps_set (i := 0) sc_39.nd rfl (Or.inl rfl) (pv 3))
            (pss_one (ps_aug (i := 1) sc_39.nd rfl (Or.inl rfl) pe_int ip_sub))))))
        (pss_one (ps_ret (pe_tup (pa_cons (pv 0) (pa_cons (pv 1) pa_nil)))))), ?_⟩
    refine ⟨fun m σ H' => ∃ (j : Nat) (v : Option V) (l : Addr) (rowj : List VStep) (qj : VStep) (lj : List VStep), σ = [some (.ref l), some (.int (j : Int)), some (.int (g : Int)), v] ∧ j = m ∧ g ≤ j ∧ j ≤ k ∧ Same H H' ∧ RowAt (cs A) H' l rowj ∧
      rowj = row.take j ++ qj :: (lj ++ row.drop (k + 1)) ∧ VM.smalls rowj ∧ rowj.length = row.length ∧ Vapatb.aheadOf ((row.take k).drop j) q = .ok (qj, lj),
      ⟨k, k, none, r, row, q, [], rfl, rfl, hgk, Nat.le_refl _, Same.refl H, hrow, ?_, hsm, rfl, ?_⟩, ?_⟩
    · rw [List.nil_append]
      exact VM.take_get_drop hq
    · rw [List.drop_of_length_le (by rw [List.length_take]; omega)]
      rfl
    rintro m σ H' ⟨j, v, l, rowj, qj, lj, rfl, rfl, hgj, hjk, s', hl, hrj, hsj, hlj, hah⟩
    refine ⟨_, rfl, _, rfl, _, _, rfl, rfl, _, rfl, ?_⟩
    by_cases hj : g < j
    · rw [decide_eq_true (by omega)]
      refine iteT ⟨_, fun _ _ z => z, ?_⟩
      have e0 : row[j - 1]? = some row[j - 1] := List.getElem?_eq_getElem (by omega)
      generalize row[j - 1] = p at e0
      have ht : row.take j = row.take (j - 1) ++ [p] := by
        have := take_one (l := row) (i := j - 1) (x := p) e0
        rw [← this]
        congr 1
        omega
      have hpl : (row.take (j - 1)).length = j - 1 := by rw [List.length_take]; omega
      have hrj' : rowj = row.take (j - 1) ++ p :: qj :: (lj ++ row.drop (k + 1)) := by rw [hrj, ht, List.append_assoc]; rfl
      have ldrop : (row.take k).drop (j - 1) = p :: (row.take k).drop j := drop_pred (by omega) (by rw [List.getElem?_take_of_lt (by omega)]; exact e0)
      have hc : VM.commAt rowj (j - 1) = (VapatBase.commuted p qj).map fun r => row.take (j - 1) ++ (r.1 :: r.2 :: (lj ++ row.drop (k + 1))) := by
        have := VM.commAt_mid (row.take (j - 1)) (lj ++ row.drop (k + 1)) p qj
        rw [hpl, ← hrj'] at this
        exact this
      refine ⟨_, rfl, _, rfl, _, _, rfl, rfl, l, rowj, j - 1, _, rfl, (by omega), hl, (by omega), hsj, (by omega), fun H1 v1 s1 hv1 => ?_⟩
      refine ⟨_, rfl, _, rfl, ?_⟩
      cases e : VapatBase.commuted p qj with
      | none =>
        rw [hc, e] at hv1
        have ev : v1 = .non := hv1
        subst ev
        refine iteT ⟨_, rfl, _, rfl, (by show 2 ≤ sizeLine; decide), fun tp gp => ?_⟩
        refine kk _ tp l j ((s'.trans s1).trans (Same.new gp)) upd_same ?_
        have := VM.ahead_none hah e
        rw [← ldrop] at this
        have h2 := VM.ahead_err (pre := ((row.take k).drop g).take (j - 1 - g)) this
        have h3 : (row.take k).drop (j - 1) = ((row.take k).drop g).drop (j - 1 - g) := by rw [List.drop_drop]; congr 1; omega
        rw [h3, List.take_append_drop] at h2
        rw [h2]
        refine ⟨hj, hjk, ?_⟩
        rw [List.length_drop, List.length_take]
        omega
      | some rr =>
        obtain ⟨q', p'⟩ := rr
        rw [hc, e] at hv1
        obtain ⟨l1, rfl, hl1⟩ := hv1
        rw [e] at hc
        obtain ⟨hs1, hn1⟩ := VM.commAt_keeps hc hsj
        refine iteF ⟨_, rfl, _, rfl, _, _, rfl, rfl, j - 1, by omega, j - 1, some (.ref l1), l1, _, q', p' :: lj, ?_, rfl, by omega, by omega, s'.trans s1, hl1, rfl, hs1, hn1.trans hlj, ?_⟩
        · have : V.int ((j : Int) - 1) = V.int ((j - 1 : Nat) : Int) := by congr 1; omega
          show [some (V.ref l1), some (V.int ((j : Int) - 1)), some (V.int (g : Int)), some (V.ref l1)] = _
          rw [this]
        · rw [ldrop]
          exact VM.ahead_some hah e
    · rw [decide_eq_false (by omega)]
      have hj0 : j = g := by omega
      subst hj0
      refine iteF ⟨_, rfl, _, rfl, (by show 2 ≤ sizeLine; decide), fun tp gp => ?_⟩
      have s2 := Same.new (o := .tup [V.ref l, V.int (j : Int)]) gp
      refine kk _ tp l j (s'.trans s2) upd_same ?_
      rw [hah]
      rw [hrj] at hl
      exact ⟨rfl, hl.mono s2⟩
theorem ok_40 (T : Txt K mg A) : FnOk P w K mg base CX0 7 A.f_40 A.d_40 ["row", "place"] (spBehind A) := by
  refine T.F_40.ok sc_40 (fun vs H Q E h => ?_) (fun cdv A' outer s H vs Q E hr h => ?_)
  · obtain ⟨r, row, k, y, p, rfl, _⟩ := h
    rfl
  · obtain ⟨r, row, k, y, p, rfl, rfl, hrow, hp, hsm, hlen, kk⟩ := h
    have hkl : k < row.length := (List.getElem?_eq_some_iff.mp hp).1
    refine ⟨_, (pss_cons (ps_while PassesOwn.never (pt_cmpR op_lt (pv 1) (pe_op op_sub (pe_callB call_len_seq (by rfl) T.n_len PySem.boot_len (pa_cons (pv 0) pa_nil)) pe_int) (nomark _))
          (pss_cons (ps_set (i := 2) sc_40.nd rfl (Or.inl rfl) (pe_call (ok_44 T) (hr.mono (by decide)) rfl T.mg_44 T.F_44.kp T.b_44 .nil pass0 (pa_cons (pv 0) (pa_cons (pv 1) pa_nil))))
            (pss_cons (ps_if (pt_cmp (pc_isN (pv 2)))
              (pss_one ps_break)
              pss_nil)
            (pss_cons (ps_set (i := 0) sc_40.nd rfl (Or.inl rfl) (pv 2))
            (pss_one (ps_aug (i := 1) sc_40.nd rfl (Or.inl rfl) pe_int ip_add))))))
        (pss_one (ps_ret (pe_tup (pa_cons (pv 0) (pa_cons (pv 1) pa_nil)))))), ?_⟩
    refine ⟨fun m σ H' => ∃ (j : Nat) (v : Option V) (l : Addr) (rowj : List VStep) (pj : VStep) (done : List VStep), σ = [some (.ref l), some (.int (j : Int)), v] ∧ row.length - j = m ∧ j < row.length ∧ j = k + done.length ∧ Same H H' ∧ RowAt (cs A) H' l rowj ∧
      rowj = (row.take k ++ done) ++ pj :: row.drop (j + 1) ∧ VM.smalls rowj ∧ rowj.length = row.length ∧ VM.comb done (Vapatb.behind pj (row.drop (j + 1))) = Vapatb.behind p (row.drop (k + 1)),
      ⟨_, k, none, r, row, p, [], rfl, rfl, hkl, rfl, Same.refl H, hrow, ?_, hsm, rfl, VM.comb_nil _⟩, ?_⟩
    · rw [List.append_nil]
      exact VM.take_get_drop hp
    rintro m σ H' ⟨j, v, l, rowj, pj, done, rfl, rfl, hjl, hjd, s', hl, hrj, hsj, hlj, hco⟩
    have hl' := hl
    obtain ⟨bs, hl1, hbs⟩ := hl'
    have hbl := hbs.length
    refine ⟨_, rfl, _, rfl, l, _, rfl, .inl (SqL.of hl1), _, _, rfl, rfl, _, _, rfl, rfl, _, rfl, ?_⟩
    by_cases hj : j + 1 < row.length
    · rw [decide_eq_true (by rw [List.length_map, hbl, hlj]; omega)]
      refine iteT ⟨_, fun _ _ z => z, ?_⟩
      have e0 : row[j + 1]? = some row[j + 1] := List.getElem?_eq_getElem hj
      generalize row[j + 1] = q at e0
      have hdr : row.drop (j + 1) = q :: row.drop (j + 2) := by
        obtain ⟨hk, e⟩ := List.getElem?_eq_some_iff.mp e0
        rw [← e, List.getElem_cons_drop]
      have hpl : (row.take k ++ done).length = j := by rw [List.length_append, List.length_take]; omega
      have hrj' : rowj = (row.take k ++ done) ++ pj :: q :: row.drop (j + 2) := by rw [hrj, hdr]
      have hc : VM.commAt rowj j = (VapatBase.commuted pj q).map fun r => (row.take k ++ done) ++ (r.1 :: r.2 :: row.drop (j + 2)) := by
        have := VM.commAt_mid (row.take k ++ done) (row.drop (j + 2)) pj q
        rw [hpl, ← hrj'] at this
        exact this
      refine ⟨_, rfl, _, rfl, l, rowj, j, _, rfl, rfl, hl, (by omega), hsj, (by omega), fun H1 v1 s1 hv1 => ?_⟩
      refine ⟨_, rfl, _, rfl, ?_⟩
      cases e : VapatBase.commuted pj q with
      | none =>
        rw [hc, e] at hv1
        have ev : v1 = .non := hv1
        subst ev
        refine iteT ⟨_, rfl, _, rfl, (by show 2 ≤ sizeLine; decide), fun tp gp => ?_⟩
        refine kk _ tp l j ((s'.trans s1).trans (Same.new gp)) upd_same ?_
        rw [← hco, hdr, VM.comb_stop e]
        exact ⟨hjd, hj⟩
      | some rr =>
        obtain ⟨q', p'⟩ := rr
        rw [hc, e] at hv1
        obtain ⟨l1, rfl, hl1⟩ := hv1
        rw [e] at hc
        obtain ⟨hs1, hn1⟩ := VM.commAt_keeps hc hsj
        refine iteF ⟨_, rfl, _, rfl, _, _, rfl, rfl, row.length - (j + 1), by omega, j + 1, some (.ref l1), l1, _, p', done ++ [q'], ?_, rfl, hj, ?_, s'.trans s1, hl1, ?_, hs1, hn1.trans hlj, ?_⟩
        · have : V.int ((j : Int) + 1) = V.int ((j + 1 : Nat) : Int) := by congr 1
          show [some (V.ref l1), some (V.int ((j : Int) + 1)), some (V.ref l1)] = _
          rw [this]
        · rw [List.length_append, List.length_singleton]
          omega
        · simp
        · rw [← hco, hdr, VM.comb_step e]
    · rw [decide_eq_false (by rw [List.length_map, hbl, hlj]; omega)]
      refine iteF ⟨_, rfl, _, rfl, (by show 2 ≤ sizeLine; decide), fun tp gp => ?_⟩
      have s2 := Same.new (o := .tup [V.ref l, V.int (j : Int)]) gp
      refine kk _ tp l j (s'.trans s2) upd_same ?_
      have hdr : row.drop (j + 1) = [] := List.drop_of_length_le (by omega)
      rw [hdr] at hco hrj
      rw [← hco, VM.comb_end]
      rw [hrj, List.append_assoc] at hl
      exact ⟨by omega, hl.mono s2⟩
end
end P58
end
section
set_option Elab.async false
set_option linter.all false
set_option maxRecDepth 100000
set_option maxHeartbeats 1000000
namespace P58
open PySem PySem.Spec PyProof.Rows L2
theorem cut_init (xs : List V) : cutV xs none (some (-1)) = xs.take (xs.length - 1) := by
  unfold cutV
  have e : HT.sIx xs.length xs.length (some (-1)) = xs.length - 1 := by
    unfold HT.sIx
    have h : (-1 : Int) < 0 := by decide
    simp only [h, if_true]
    omega
  rw [e]
  show (xs.drop 0).take (xs.length - 1 - 0) = _
  rw [List.drop_zero, Nat.sub_zero]
def OptRows (C : Cs) (H : Hp) : List V → List (Option (List VStep)) → Prop
  | [], [] => True
  | v :: vs, o :: os => OptRow C H v o ∧ OptRows C H vs os
  | _, _ => False
theorem OptRows.off {C : Cs} {H H' : Hp} (k : Off H H') : ∀ {vs : List V} {os : List (Option (List VStep))}, OptRows C H vs os → OptRows C H' vs os
  | [], [], _ => trivial
  | _ :: _, _ :: _, h => ⟨h.1.off k, OptRows.off k h.2⟩
  | [], _ :: _, h => h.elim
  | _ :: _, [], h => h.elim
theorem OptRows.mono {C : Cs} {H H' : Hp} (k : Same H H') : ∀ {vs : List V} {os : List (Option (List VStep))}, OptRows C H vs os → OptRows C H' vs os
  | [], [], _ => trivial
  | _ :: _, _ :: _, h => ⟨h.1.mono k, OptRows.mono k h.2⟩
  | [], _ :: _, h => h.elim
  | _ :: _, [], h => h.elim
theorem OptRows.append {C : Cs} {H : Hp} : ∀ {vs ws : List V} {os ps : List (Option (List VStep))}, OptRows C H vs os → OptRows C H ws ps → OptRows C H (vs ++ ws) (os ++ ps)
  | [], _, [], _, _, h => h
  | _ :: _, _, _ :: _, _, h, k => ⟨h.1, OptRows.append h.2 k⟩
  | [], _, _ :: _, _, h, _ => h.elim
  | _ :: _, _, [], _, h, _ => h.elim
theorem OptRows.length {C : Cs} {H : Hp} : ∀ {vs : List V} {os : List (Option (List VStep))}, OptRows C H vs os → vs.length = os.length
  | [], [], _ => rfl
  | _ :: _, _ :: _, h => congrArg (· + 1) (OptRows.length h.2)
  | [], _ :: _, h => h.elim
  | _ :: _, [], h => h.elim
theorem upd_id {H : Hp} {D : Addr} {o : HO} (h : H D = some o) : upd H D o = H := by
  funext b
  by_cases hb : b = D
  · rw [hb, upd_same, h]
  · rw [upd_ne hb]
def spRest (A : Adr) : Sp := fun vs H Q _ => ∃ (r : Addr) (row : List VStep) (k : Nat) (y : Int), vs = [.ref r, .int y] ∧ y = (k : Int) ∧ RowAt (cs A) H r row ∧ k ≤ row.length ∧ VM.smalls row ∧ row.length ≤ 1000 ∧
  ∀ H' v, Same H H' → OptRow (cs A) H' v ((Vapatb.rowsCommuted (row.take k) (row.drop k)).map fun r => r.1 ++ r.2) → Q v H'
def spInTurn (K : PySem.W.Frag) (A : Adr) : Sp := fun vs H Q _ => ∃ (r t : Addr) (row : List VStep) (ps : List Nat), vs = [.ref r, .ref t] ∧ RowAt (cs A) H r row ∧ (∀ H', SqT K H' t (ps.map nV)) ∧ (∀ i ∈ ps, i + 1 < row.length) ∧ VM.smalls row ∧ row.length ≤ 1000 ∧
  ∀ H' v, Same H H' → OptRow (cs A) H' v (VM.turns row ps) → Q v H'
def ways : List (List Nat) := [[0, 1, 0], [1, 0, 1]]
def spThree (A : Adr) : Sp := fun vs H Q _ => ∃ (r : Addr) (row : List VStep), vs = [.ref r] ∧ RowAt (cs A) H r row ∧ row.length = 3 ∧ VM.smalls row ∧
  ∀ (H' : Hp) (l : Addr) (os : List V), Same H H' → H' l = some (.lst os) → OptRows (cs A) H' os (ways.map (VM.turns row)) → Q (.ref l) H'
def spNeeds (A : Adr) : Sp := fun vs H Q _ => ∃ (r : Addr) (row : List VStep) (k : Nat) (y : Int) (q : VStep), vs = [.ref r, .int y] ∧ y = (k : Int) ∧ RowAt (cs A) H r row ∧ row[k]? = some q ∧ VM.smalls row ∧ row.length ≤ 1000 ∧
  ∀ H' l, Same H H' → TL H' l (Vapatb.needs row k) → Q (.ref l) H'
section
variable {P : Program} {w : World} {K : PySem.W.Frag} {mg : Str → Option Value} {base : Heap} {A : Adr}
theorem ok_64 (T : Txt K mg A) : FnOk P w K mg base CX0 8 A.f_64 A.d_64 ["row", "place"] (spRest A) := by
  refine T.F_64.ok sc_64 (fun vs H Q E h => ?_) (fun cdv A' outer s H vs Q E hr h => ?_)
  · obtain ⟨r, row, k, y, rfl, _⟩ := h
    rfl
  · obtain ⟨r, row, k, y, rfl, rfl, hrow, hkl, hsm, hlen, kk⟩ := h
    have hrow' := hrow
    obtain ⟨as, hr1, hst⟩ := hrow'
    have hasl := hst.length
    refine ⟨_, (pss_cons (ps_for PassesOwn.never rfl (pi_range2 rfl T.n_range (pa_cons (pv 1) (pa_cons (pe_callB call_len_seq (by rfl) T.n_len PySem.boot_len (pa_cons (pv 0) pa_nil)) pa_nil))) (pg_name (i := 2) sc_64.nd rfl (Or.inl rfl))
          (pss_cons (ps_set (i := 3) sc_64.nd rfl (Or.inl rfl) (pe_call (ok_39 T) (hr.mono (by decide)) rfl T.mg_39 T.F_39.kp T.b_39 .nil pass0 (pa_cons (pv 0) (pa_cons (pv 2) (pa_cons (pe_op op_sub (pv 2) (pv 1)) pa_nil)))))
            (pss_cons (ps_if (pt_cmpR op_gt (pe_ix ix_tup (pv 3) pe_int (fun _ _ => rfl)) (pe_op op_sub (pv 2) (pv 1)) (nomark _))
              (pss_one (ps_ret pe_non))
              pss_nil)
            (pss_one (ps_set (i := 0) sc_64.nd rfl (Or.inl rfl) (pe_ix ix_tup (pv 3) pe_int (fun _ _ => rfl)))))))
        (pss_one (ps_ret (pv 0)))), ?_⟩
    refine ⟨_, rfl, _, rfl, r, _, rfl, .inl (SqL.of hr1), (k : Int), ((as.map V.ref).length : Int), rfl, ⟨by omega, by omega, by omega, by rw [List.length_map]; omega⟩, ?_⟩
    have en : (((as.map V.ref).length : Int) - (k : Int)).toNat = row.length - k := by rw [List.length_map, hasl]; omega
    rw [en]
    refine for_range (lo := (k : Int)) (n := row.length - k) (fun i σ H' => ∃ (v2 v3 : Option V) (l : Addr) (cur done mid : List VStep), σ = [some (.ref l), some (.int (k : Int)), v2, v3] ∧ Same H H' ∧ RowAt (cs A) H' l cur ∧ cur = done ++ (mid ++ row.drop (k + i)) ∧ done.length = i ∧ mid.length = k ∧
      VM.smalls cur ∧ cur.length = row.length ∧ VM.combR done (Vapatb.rowsCommuted mid (row.drop (k + i))) = Vapatb.rowsCommuted (row.take k) (row.drop k))
      ⟨none, none, r, row, [], row.take k, rfl, Same.refl H, hrow, by rw [List.nil_append, Nat.add_zero, List.take_append_drop], rfl, by rw [List.length_take]; omega, hsm, rfl, by rw [VM.combR_nil, Nat.add_zero]⟩ ?_ ?_
    · rintro i σ H' hi ⟨v2, v3, l, cur, done, mid, rfl, s', hl, hcur, hdl, hml, hsc, hcl, hco⟩
      have hki : k + i < row.length := by omega
      have e0 : row[k + i]? = some row[k + i] := List.getElem?_eq_getElem hki
      have hdr : row.drop (k + i) = row[k + i] :: row.drop (k + i + 1) := by rw [List.getElem_cons_drop]
      generalize row[k + i] = q at e0 hdr
      have eq : cur[k + i]? = some q := by
        rw [hcur, List.getElem?_append_right (by omega), List.getElem?_append_right (by omega), hdr]
        have : k + i - done.length - mid.length = 0 := by omega
        rw [this]
        rfl
      have emid : (cur.take (k + i)).drop i = mid := by
        rw [hcur, ← List.append_assoc, List.take_left' (by rw [List.length_append]; omega), List.drop_left' hdl]
      have edone : cur.take i = done := by rw [hcur, List.take_left' hdl]
      have erest : cur.drop (k + i + 1) = row.drop (k + i + 1) := by
        rw [hcur, hdr, ← List.append_assoc, List.drop_append, List.drop_of_length_le (by rw [List.length_append]; omega)]
        have : k + i + 1 - (done ++ mid).length = 1 := by rw [List.length_append]; omega
        rw [this]
        rfl
      refine ⟨_, rfl, _, rfl, _, rfl, _, rfl, _, _, rfl, rfl, l, cur, k + i, i, _, _, q, rfl, (by omega), (by omega), hl, eq, (by omega), hsc, (by omega), fun H1 tp l1 j s1 htp hres => ?_⟩
      refine ⟨_, rfl, tp, _, _, _, rfl, rfl, SqT.of htp, at_of (j := 1) rfl rfl, _, rfl, _, rfl, _, _, rfl, rfl, _, _, rfl, rfl, _, rfl, ?_⟩
      rw [emid] at hres
      cases e : Vapatb.aheadOf mid q with
      | error n =>
        rw [e] at hres
        obtain ⟨h0, h1, h2⟩ := hres
        rw [decide_eq_true (by omega)]
        refine iteT (kk H1 _ (s'.trans s1) ?_)
        rw [← hco, hdr, VM.combR_no e]
        rfl
      | ok rr =>
        obtain ⟨q', l'⟩ := rr
        rw [e] at hres
        obtain ⟨h0, hrow1⟩ := hres
        dsimp only at hrow1
        rw [edone, erest] at hrow1
        rw [decide_eq_false (by omega)]
        have hsc' := hsc
        rw [hcur] at hsc'
        obtain ⟨sd, smr⟩ := VM.smalls_app.mp hsc'
        obtain ⟨sm, sr⟩ := VM.smalls_app.mp smr
        obtain ⟨m1, m2, m3⟩ := VM.aheadOf_small e sm (hsc q (List.mem_of_getElem? eq))
        refine iteF ⟨_, rfl, tp, _, _, _, rfl, rfl, SqT.of htp, at_of (j := 0) rfl rfl, some (.int ((k : Int) + ((i : Nat) : Int))), some (.ref tp), l1, _, done ++ [q'], l', rfl, s'.trans s1, hrow1, ?_, ?_, m3.trans hml, ?_, ?_, ?_⟩
        · rw [List.append_assoc]
          rfl
        · rw [List.length_append, hdl]
          rfl
        · exact VM.smalls_app.mpr ⟨sd, VM.smalls_cons.mpr ⟨m1, VM.smalls_app.mpr ⟨m2, VM.smalls_drop _ hsm⟩⟩⟩
        · rw [List.length_append, List.length_cons, List.length_append, List.length_drop, m3]
          omega
        · rw [← hco, hdr, VM.combR_ok e]
          rfl
    · rintro σ H' ⟨v2, v3, l, cur, done, mid, rfl, s', hl, hcur, hdl, hml, hsc, hcl, hco⟩
      have hdr : row.drop (k + (row.length - k)) = [] := List.drop_of_length_le (by omega)
      rw [hdr] at hco hcur
      refine ⟨_, rfl, kk H' _ s' ?_⟩
      rw [← hco, VM.combR_end]
      rw [List.append_nil] at hcur
      rw [hcur] at hl
      exact ⟨l, rfl, hl⟩
theorem ok_46 (T : Txt K mg A) : FnOk P w K mg base CX0 7 A.f_46 A.d_46 ["row", "places"] (spInTurn K A) := by
  refine T.F_46.ok sc_46 (fun vs H Q E h => ?_) (fun cdv A' outer s H vs Q E hr h => ?_)
  · obtain ⟨r, t, row, ps, rfl, _⟩ := h
    rfl
  · obtain ⟨r, t, row, ps, rfl, hrow, hsq, hps, hsm, hlen, kk⟩ := h
    refine ⟨_, (pss_cons (ps_for PassesOwn.never rfl (pi_tup (pv 1)) (pg_name (i := 2) sc_46.nd rfl (Or.inl rfl))
          (pss_cons (ps_set (i := 0) sc_46.nd rfl (Or.inl rfl) (pe_call (ok_44 T) (hr.mono (by decide)) rfl T.mg_44 T.F_44.kp T.b_44 .nil pass0 (pa_cons (pv 0) (pa_cons (pv 2) pa_nil))))
            (pss_one (ps_if (pt_cmp (pc_isN (pv 0)))
              (pss_one (ps_ret pe_non))
              pss_nil))))
        (pss_one (ps_ret (pv 0)))), ?_⟩
    refine ⟨_, rfl, t, rfl, ⟨_, hsq _⟩, for_tup (K := K) (a := t) (xs := ps.map nV) (fun i σ H' => ∃ (l : Addr) (cur : List VStep) (v2 : Option V), σ = [some (.ref l), some (.ref t), v2] ∧ Same H H' ∧ RowAt (cs A) H' l cur ∧ VM.smalls cur ∧ cur.length = row.length ∧ VM.turns cur (ps.drop i) = VM.turns row ps)
      ⟨r, row, none, rfl, Same.refl H, hrow, hsm, rfl, rfl⟩ (fun i σ H' _ _ => hsq _) ?_ ?_⟩
    · rintro i x σ H' hx ⟨l, cur, v2, rfl, s', hl, hsc, hcl, hco⟩
      obtain ⟨j, hj, rfl⟩ := getnV hx
      have hdr : ps.drop i = j :: ps.drop (i + 1) := by
        obtain ⟨h1, h2⟩ := List.getElem?_eq_some_iff.mp hj
        rw [← h2, List.getElem_cons_drop]
      rw [hdr] at hco
      have hjl := hps j (List.mem_of_getElem? hj)
      have hco' : (VM.commAt cur j).bind (fun r => VM.turns r (ps.drop (i + 1))) = VM.turns row ps := hco
      refine ⟨_, rfl, _, rfl, l, cur, j, _, rfl, rfl, hl, (by omega), hsc, (by omega), fun H1 v s1 hv => ⟨_, rfl, _, rfl, ?_⟩⟩
      cases e : VM.commAt cur j with
      | none =>
        rw [e] at hv hco'
        have ev : v = .non := hv
        subst ev
        refine iteT (kk H1 _ (s'.trans s1) ?_)
        rw [← hco']
        rfl
      | some r1 =>
        rw [e] at hv hco'
        obtain ⟨l1, rfl, hl1⟩ := hv
        obtain ⟨c1, c2⟩ := VM.commAt_keeps e hsc
        exact iteF ⟨l1, r1, some (nV j), rfl, s'.trans s1, hl1, c1, c2.trans hcl, hco'⟩
    · rintro σ H' ⟨l, cur, v2, rfl, s', hl, hsc, hcl, hco⟩
      rw [List.length_map, List.drop_of_length_le (Nat.le_refl _)] at hco
      refine ⟨_, rfl, kk H' _ s' ?_⟩
      rw [← hco]
      exact ⟨l, rfl, hl⟩
theorem way_at (T : Txt K mg A) {i : Nat} {x : V} (h : [V.ref A.g_TWO_WAYS_0, V.ref A.g_TWO_WAYS_1][i]? = some x) : ∃ (a : Addr) (ps : List Nat), x = .ref a ∧ ways[i]? = some ps ∧ (∀ H', SqT K H' a (ps.map nV)) ∧ ∀ j ∈ ps, j + 1 < 3 := by
  match i, h with
  | 0, h => exact ⟨_, [0, 1, 0], (Option.some.inj h).symm, rfl, fun H' => T.gt_TWO_WAYS_0.sq H', by decide⟩
  | 1, h => exact ⟨_, [1, 0, 1], (Option.some.inj h).symm, rfl, fun H' => T.gt_TWO_WAYS_1.sq H', by decide⟩
  | n + 2, h => cases h
theorem ok_74 (T : Txt K mg A) : FnOk P w K mg base CX0 8 A.f_74 A.d_74 ["row"] (spThree A) := by
  refine T.F_74.ok sc_74 (fun vs H Q E h => ?_) (fun cdv A' outer s H vs Q E hr h => ?_)
  · obtain ⟨r, row, rfl, _⟩ := h
    rfl
  · obtain ⟨r, row, rfl, hrow, hlen, hsm, kk⟩ := h
    refine ⟨_, (pss_one (ps_ret (pe_lc rfl sc_74.nd (pi_tup (pe_gref rfl T.mgd_TWO_WAYS)) (blkOk_by (N := ["row", "places"]) (sc := defScope st_74) (own := [("places", 1)]) (by decide +kernel)) (fun _ _ _ _ _ => pg_name (i := 1) sc_74.nd rfl (Or.inl rfl)) (fun _ _ _ _ _ => pts_nil) (fun _ _ _ _ _ => (pe_lock (pe_call (ok_46 T) (hr.mono (by decide)) rfl T.mg_46 T.F_46.kp T.b_46 .nil pass0 (pa_cons (pv 0) (pa_cons (pv 1) pa_nil)))))))), ?_⟩
    refine ⟨_, rfl, ⟨_, T.gt_TWO_WAYS.sq _⟩, fun D hD => lc_tup (K := K) (a := A.g_TWO_WAYS) (xs := [V.ref A.g_TWO_WAYS_0, V.ref A.g_TWO_WAYS_1])
      (fun i H' => ∃ os : List V, Same H H' ∧ H' D = some (.lst os) ∧ os.length = i ∧ ∀ x, OptRows (cs A) (upd H' D x) os ((ways.take i).map (VM.turns row))) ⟨[], Same.new hD, upd_same, rfl, fun x => trivial⟩ (fun i H' _ _ => T.gt_TWO_WAYS.sq _) ?_ ?_⟩
    · rintro i v H' hv ⟨os, s', hD', hol, hos⟩
      obtain ⟨a, ps, rfl, hps, hsq, h3⟩ := way_at T hv
      have hi2 : i < 2 := (List.getElem?_eq_some_iff.mp hps).1
      refine ⟨rfl, ?_⟩
      unfold tYes
      dsimp only
      rw [if_pos rfl]
      refine ⟨D, _, hD', trivial, fun od => ?_⟩
      have sL : Same H (upd H' D (.frz od (.lst os))) := s'.upd hD
      have hoL := hos (.frz od (.lst os))
      have hDL : upd H' D (.frz od (.lst os)) D = some (.frz od (.lst os)) := upd_same
      generalize upd H' D (.frz od (.lst os)) = HL at sL hoL hDL
      refine ⟨_, rfl, _, rfl, r, a, row, ps, rfl, hrow.mono sL, hsq, (by rw [hlen]; exact h3), hsm, (by omega), fun H2 x s2 hx => ⟨s2 _ _ hDL, _, upd_same, lt_line (by omega), os ++ [x], ?_, ?_, ?_, fun y => ?_⟩⟩
      · rw [upd_upd]
        exact (sL.trans s2).upd hD
      · rw [upd_upd, upd_same]
      · rw [List.length_append, hol]
        rfl
      · rw [upd_upd, upd_upd, take_one hps, List.map_append]
        have of := Off.put (s2 _ _ hDL) y
        exact ((hoL.mono s2).off of).append ⟨hx.off of, trivial⟩
    · rintro H' ⟨os, s', hD', hol, hos⟩
      have := hos (.lst os)
      rw [upd_id hD'] at this
      exact kk H' D os s' hD' this
theorem ok_55 (T : Txt K mg A) : FnOk P w K mg base CX0 8 A.f_55 A.d_55 ["row", "place"] (spNeeds A) := by
  refine T.F_55.ok sc_55 (fun vs H Q E h => ?_) (fun cdv A' outer s H vs Q E hr h => ?_)
  · obtain ⟨r, row, k, y, q, rfl, _⟩ := h
    rfl
  · obtain ⟨r, row, k, y, q, rfl, rfl, ⟨as, hr1, hst⟩, hq, hsm, hlen, kk⟩ := h
    have hasl := hst.length
    have hkl : k < row.length := (List.getElem?_eq_some_iff.mp hq).1
    obtain ⟨xq, xq1, hxq⟩ := hst.get hq
    refine ⟨_, (pss_cons (ps_set (i := 2) sc_55.nd rfl (Or.inl rfl) (pe_lst pa_nil))
        (pss_cons (ps_set (i := 3) sc_55.nd rfl (Or.inl rfl) (pe_lst (pa_cons (pe_ix ix_list (pv 0) (pv 1) (fun _ _ => rfl)) pa_nil)))
        (pss_cons (ps_for PassesOwn.never rfl (pi_range3 rfl T.n_range (pa_cons (pe_op op_sub (pv 1) pe_int) (pa_cons (pe_un un_neg pe_int) (pa_cons (pe_un un_neg pe_int) pa_nil)))) (pg_name (i := 4) sc_55.nd rfl (Or.inl rfl))
          (pss_cons (ps_set (i := 5) sc_55.nd rfl (Or.inl rfl) (pe_op op_cat (pe_lst (pa_cons (pe_ix ix_list (pv 0) (pv 4) (fun _ _ => rfl)) pa_nil)) (pv 3)))
            (pss_cons (ps_set (i := 6) sc_55.nd rfl (Or.inl rfl) (pe_call (ok_40 T) (hr.mono (by decide)) rfl T.mg_40 T.F_40.kp T.b_40 .nil pass0 (pa_cons (pv 5) (pa_cons pe_int pa_nil))))
            (pss_one (ps_if (pt_cmpR op_eq (pe_ix ix_tup (pv 6) pe_int (fun _ _ => rfl)) (pe_callB call_len_seq (by rfl) T.n_len PySem.boot_len (pa_cons (pv 3) pa_nil)) (nomark _))
              (pss_one (ps_set (i := 3) sc_55.nd rfl (Or.inl rfl) (pe_slice sl_list (pe_ix ix_tup (pv 6) pe_int (fun _ _ => rfl)) po_none (po_some (pe_un un_neg pe_int)))))
              (pss_cons (ps_set (i := 3) sc_55.nd rfl (Or.inl rfl) (pv 5))
                (pss_one (ps_set (i := 2) sc_55.nd rfl (Or.inl rfl) (pe_op op_cat (pe_lst (pa_cons (pv 4) pa_nil)) (pv 2))))))))))
        (pss_one (ps_ret (pv 2)))))), ?_⟩
    refine ⟨Nat.zero_le _, fun pl gpl => ?_⟩
    have f1 := Same.new (o := .lst []) gpl
    refine ⟨_, rfl, _, rfl, r, _, _, _, rfl, rfl, SqL.of (f1 _ _ hr1), at_of (j := k) rfl (refs_get xq1), (by show 1 ≤ sizeLine; decide), fun kl gkl => ?_⟩
    have f2 := f1.trans (Same.new (o := .lst [V.ref xq]) gkl)
    have hpl0 : TL (upd (upd H pl (.lst [])) kl (.lst [V.ref xq])) pl [] := (Same.new gkl) _ _ upd_same
    refine ⟨_, rfl, _, _, rfl, rfl, _, rfl, _, rfl, (k : Int) - 1, -1, -1, ((k : Int) - 1 - -1).toNat, rfl, RgC.neg (by omega) (by omega) (by omega) (by omega), ?_⟩
    have en : ((k : Int) - 1 - -1).toNat = k := by omega
    rw [en]
    refine for_rangeC (lo := (k : Int) - 1) (c := -1) (n := k) (fun i σ H' => ∃ (pl kl : Addr) (ps : List Nat) (kept : List VStep) (v4 v5 v6 : Option V), σ = [some (.ref r), some (.int (k : Int)), some (.ref pl), some (.ref kl), v4, v5, v6] ∧ Same H H' ∧ TL H' pl ps ∧ RowAt (cs A) H' kl kept ∧ VM.smalls kept ∧ kept.length ≤ i + 1 ∧ ps.length ≤ i ∧
      Vapatb.needsFrom (row.take (k - i)).zipIdx.reverse kept ps = Vapatb.needs row k)
      ⟨pl, kl, [], [q], none, none, none, rfl, f2, hpl0, ⟨[xq], upd_same, hxq.mono f2, trivial⟩, VM.smalls_cons.mpr ⟨hsm q (List.mem_of_getElem? hq), fun p hp => (by cases hp)⟩, Nat.le_refl _, Nat.le_refl _, (VM.needs_start hq).symm⟩ ?_ ?_
    · rintro i σ H' hi ⟨pl, kl, ps, kept, v4, v5, v6, rfl, s', hpl, hkp, hsk, hkn, hpn, hco⟩
      have hki : k - i = (k - 1 - i) + 1 := by omega
      generalize hj : k - 1 - i = j at hki
      have hki' : k - (i + 1) = j := by omega
      have hjl : j < row.length := by omega
      have e0 : row[j]? = some row[j] := List.getElem?_eq_getElem hjl
      generalize row[j] = x at e0
      rw [hki, VM.zip_step e0] at hco
      obtain ⟨xa, xa1, hxa⟩ := hst.get e0
      obtain ⟨bs, hk1, hbs⟩ := hkp
      have hbl := hbs.length
      have ez : (k : Int) - 1 + (i : Nat) * (-1) = (j : Int) := by omega
      rw [ez]
      refine ⟨_, rfl, _, rfl, r, _, _, _, rfl, rfl, SqL.of (s' _ _ hr1), at_of (j := j) rfl (refs_get xa1), (by show 1 ≤ sizeLine; decide), fun l1 g1 => ?_⟩
      have t1 := Same.new (o := .lst [V.ref xa]) g1
      refine ⟨_, rfl, l1, kl, _, _, rfl, rfl, upd_same, t1 _ _ hk1, le_line (by rw [List.length_map, hbl]; simp only [List.length_cons, List.length_nil]; omega), fun l2 g2 => ?_⟩
      have t2 := t1.trans (Same.new (o := .lst ([V.ref xa] ++ bs.map V.ref)) g2)
      have hl2 : upd (upd H' l1 (.lst [V.ref xa])) l2 (.lst ([V.ref xa] ++ bs.map V.ref)) l2 = some (.lst ((xa :: bs).map V.ref)) := by rw [upd_same]; rfl
      generalize upd (upd H' l1 (.lst [V.ref xa])) l2 (.lst ([V.ref xa] ++ bs.map V.ref)) = H2 at t2 hl2
      have hst2 : StepsAt (cs A) H2 (xa :: bs) (x :: kept) := ⟨hxa.mono (s'.trans t2), hbs.mono t2⟩
      have hsx : VM.smalls (x :: kept) := VM.smalls_cons.mpr ⟨hsm x (List.mem_of_getElem? e0), hsk⟩
      refine ⟨_, rfl, l2, x :: kept, 0, _, x, rfl, rfl, ⟨_, hl2, hst2⟩, rfl, hsx, (by rw [List.length_cons]; omega), fun H3 tp l3 j3 s3 htp hres => ?_⟩
      have hres : behindRes A H3 (x :: kept) 0 l3 j3 (Vapatb.behind x kept) := hres
      have hk3 := (t2.trans s3) _ _ hk1
      refine ⟨_, rfl, tp, _, _, _, rfl, rfl, SqT.of htp, at_of (j := 1) rfl rfl, _, rfl, kl, _, rfl, .inl (SqL.of hk3), rfl, _, rfl, ?_⟩
      cases e : Vapatb.behind x kept with
      | ok rr =>
        obtain ⟨b, p'⟩ := rr
        rw [e] at hres
        obtain ⟨h0, cs3, h3, hst3⟩ := hres
        rw [List.length_cons] at h0
        obtain ⟨m1, m2, m3⟩ := VM.behind_small e hsk (hsm x (List.mem_of_getElem? e0))
        rw [decide_eq_true (by rw [List.length_map, hbl]; congr 1; omega)]
        refine iteT ⟨_, rfl, tp, _, _, _, rfl, rfl, SqT.of htp, at_of (j := 0) rfl rfl, _, rfl, _, rfl, l3, _, rfl, SqL.of h3, fun l4 g4 => ?_⟩
        have t4 := Same.new (o := .lst (cutV (cs3.map V.ref) none (some (-1)))) g4
        have hc3 := hst3.length
        have hst3 : StepsAt (cs A) H3 cs3 (b ++ [p']) := hst3
        have hc3 : cs3.length = (b ++ [p']).length := hc3
        have ebt : (b ++ [p']).take (cs3.length - 1) = b := by
          rw [hc3, List.length_append, List.length_singleton, Nat.add_sub_cancel, List.take_left]
        refine ⟨pl, l4, ps, b, _, _, _, rfl, ((s'.trans t2).trans s3).trans t4, ((t2.trans s3).trans t4) _ _ hpl, ⟨cs3.take (cs3.length - 1), ?_, ?_⟩, m2, by omega, by omega, ?_⟩
        · show upd _ l4 _ l4 = _
          rw [upd_same, cut_init, List.length_map, refs_take]
        · have := (hst3.take (cs3.length - 1)).mono t4
          rw [ebt] at this
          exact this
        · rw [hki', ← hco]
          exact (VM.needsFrom_ok (x := (x, j)) e).symm
      | error n =>
        rw [e] at hres
        obtain ⟨h0, h1⟩ := hres
        rw [List.length_cons] at h1
        rw [decide_eq_false (by rw [List.length_map, hbl]; intro z; have := V.int.inj z; omega)]
        refine iteF ⟨_, rfl, _, rfl, (by show 1 ≤ sizeLine; decide), fun l4 g4 => ?_⟩
        have t4 := Same.new (o := .lst [V.int (j : Int)]) g4
        have hpl3 := ((t2.trans s3).trans t4) _ _ hpl
        refine ⟨_, rfl, l4, pl, _, _, rfl, rfl, upd_same, hpl3, le_line (by rw [List.length_map]; simp only [List.length_cons, List.length_nil]; omega), fun l5 g5 => ?_⟩
        have t5 := t4.trans (Same.new (o := .lst ([V.int (j : Int)] ++ ps.map nV)) g5)
        refine ⟨l5, l2, j :: ps, x :: kept, _, _, _, rfl, ((s'.trans t2).trans s3).trans t5, ?_, ⟨_, (s3.trans t5) _ _ hl2, hst2.mono (s3.trans t5)⟩, hsx, by rw [List.length_cons]; omega, by rw [List.length_cons]; omega, ?_⟩
        · show upd _ l5 _ l5 = _
          rw [upd_same]
          rfl
        · rw [hki', ← hco]
          exact (VM.needsFrom_no (x := (x, j)) e).symm
    · rintro σ H' ⟨pl, kl, ps, kept, v4, v5, v6, rfl, s', hpl, hkp, hsk, hkn, hpn, hco⟩
      rw [Nat.sub_self] at hco
      have hco : ps = Vapatb.needs row k := hco
      rw [hco] at hpl
      exact ⟨_, rfl, kk H' _ s' hpl⟩
end
end P58
end
section
set_option Elab.async false
set_option linter.all false
set_option maxRecDepth 100000
set_option maxHeartbeats 1000000
namespace P58
open PySem PySem.Spec PyProof.Rows L2
theorem on_place {s : Vapatb.State} {t : VTree} {i : Nat} (ht : s.tree = some t) (hi : i < s.row.length) (f : Nat → Vapatb.State × Vapatb.Answer) : Vapatb.onStep s (i : Int) f = f i := by
  unfold Vapatb.onStep Vapatb.onTree
  rw [ht]
  dsimp only
  rw [if_pos ⟨by omega, (show (i : Int) < ((s.row.length : Nat) : Int) by omega)⟩]
  rfl
theorem held_row {A : Adr} {H : Hp} {a dx : Addr} {g r0 : V} {l : Addr} {st : Vapatb.State} {row : List VStep} (ha : H a = some (.ins A.cRowOnTree dx (heldF g r0))) (hg : GroundAt H g st.tree) (hr : RowAt (cs A) H l row) :
    HeldAt A (upd H a (.ins A.cRowOnTree dx (heldF g (.ref l)))) a { st with row := row } := by
  have kb : KeepBut a H (upd H a (.ins A.cRowOnTree dx (heldF g (.ref l)))) := KeepBut.put
  have ih : IsHeld A H a := ⟨_, _, _, ha⟩
  exact ⟨dx, g, l, upd_same, keep_ground kb ih hg, keep_row kb ih hr⟩
section
variable {P : Program} {w : World} {K : PySem.W.Frag} {mg : Str → Option Value} {base : Heap} {A : Adr}
theorem ok_42 (T : Txt K mg A) : FnOk P w K mg base CX0 8 A.f_42 A.d_42 ["held", "place"] (spDo A (aPlace .commute 1)) := by
  refine T.F_42.ok sc_42 (fun vs H Q E h => ?_) (fun cdv A' outer s H vs Q E hr h => ?_)
  · obtain ⟨a, s, k, c, rest, rfl, _, _, _, ⟨i, t, rfl, _⟩, _⟩ := h
    rfl
  · obtain ⟨a, st, k0, c, rest, rfl, hh, hg, hk, ⟨i, t, rfl, rfl, ht, hi⟩, k⟩ := h
    obtain ⟨hri, hlow, ⟨u, hu⟩, hsm, hrl⟩ := hg.yes t ht
    have hh' := hh
    obtain ⟨dx, g, r, ha, hgr, hrow⟩ := hh'
    have e1 : st.row[i]? = some st.row[i] := List.getElem?_eq_getElem (by omega)
    have e2 : st.row[i + 1]? = some st.row[i + 1] := List.getElem?_eq_getElem hi
    generalize st.row[i] = p at e1
    generalize st.row[i + 1] = q at e2
    dsimp only [Vapatb.step, Vapatb.doCommute] at k
    rw [on_place ht (by omega), e1, e2] at k
    dsimp only at k
    have smp := hsm p (List.mem_of_getElem? e1)
    have smq := hsm q (List.mem_of_getElem? e2)
    refine ⟨_, (pss_cons (ps_set (i := 2) sc_42.nd rfl (Or.inl rfl) (pe_call (ok_44 T) (hr.mono (by decide)) rfl T.mg_44 T.F_44.kp T.b_44 .nil pass0 (pa_cons (pe_fld (pv 0) rfl) (pa_cons (pv 1) pa_nil))))
        (pss_cons (ps_if (pt_cmp (pc_isN (pv 2)))
          (pss_one (ps_ret (pe_lst (pa_cons (pe_gi rfl T.g_DO_NOT_COMMUTE) pa_nil))))
          pss_nil)
        (pss_cons (ps_fld (pv 0) (pv 2) rfl)
        (pss_one (ps_ret (pe_op op_cat (pe_dyn0 (D_as_numbers T) (hr.mono (by decide)) (by decide +kernel) (pe_ix ix_list (pv 2) (pv 1) (fun _ _ => rfl))) (pe_dyn0 (D_as_numbers T) (hr.mono (by decide)) (by decide +kernel) (pe_ix ix_list (pv 2) (pe_op op_add (pv 1) pe_int) (fun _ _ => rfl))))))))), ?_⟩
    refine ⟨_, rfl, _, _, _, _, _, rfl, ha, T.clRowOnTree, T.na_RowOnTree_row, kf2, _, rfl, r, st.row, i, _, rfl, rfl, hrow, hi, hsm, (by omega), fun H1 v s1 hv => ⟨_, rfl, _, rfl, ?_⟩⟩
    rw [VM.commAt_eq e1 e2] at hv
    cases e : VapatBase.commuted p q with
    | none =>
      rw [e] at hv k
      have ev : v = .non := hv
      subst ev
      exact iteT (one_answer fun H' r gr s2 hr => k H' r (s1.free gr) (.of (s1.trans s2)) (hh.mono (s1.trans s2)) hr)
    | some rr =>
      obtain ⟨q', p'⟩ := rr
      rw [e] at hv k
      obtain ⟨l, rfl, hrow1⟩ := hv
      obtain ⟨smq', smp'⟩ := VM.small_commuted smp smq e
      dsimp only [Vapatb.withRow] at k hrow1
      have ha1 := s1 _ _ ha
      have hrow1' := hrow1
      obtain ⟨as, hl1, hst⟩ := hrow1'
      have htl : (st.row.take i).length = i := by rw [List.length_take]; omega
      obtain ⟨x, x1, hx⟩ := hst.get (i := i) (p := q') (by rw [List.getElem?_append_right (by omega), htl, Nat.sub_self]; rfl)
      obtain ⟨y, y1, hy⟩ := hst.get (i := i + 1) (p := p') (by rw [List.getElem?_append_right (by omega), htl, Nat.add_sub_cancel_left]; rfl)
      refine iteF ⟨_, rfl, _, rfl, a, _, dx, _, rfl, ha1, T.clRowOnTree, T.na_RowOnTree_row, (by show 2 < 1000; decide), ?_⟩
      rw [pk2]
      have kb : KeepBut a H1 (upd H1 a (.ins A.cRowOnTree dx (heldF g (.ref l)))) := KeepBut.put
      have hh2 := held_row (st := st) ha1 (hgr.mono s1) hrow1
      have ih : IsHeld A H1 a := ⟨_, _, _, ha1⟩
      have hx2 := keep_step kb ih hx
      have hy2 := keep_step kb ih hy
      have hl2 := keep_lst kb ih hl1
      have ha2 : upd H1 a (.ins A.cRowOnTree dx (heldF g (.ref l))) a = some (.ins A.cRowOnTree dx (heldF g (.ref l))) := upd_same
      generalize upd H1 a (.ins A.cRowOnTree dx (heldF g (.ref l))) = H2 at kb hh2 hx2 hy2 hl2 ha2
      refine ⟨_, rfl, _, rfl, l, _, _, _, rfl, rfl, SqL.of hl2, at_of (j := i) rfl (refs_get x1), x, q', rfl, trivial, hx2, x, q', rfl, rfl, hx2, smq', fun H7 n1 _ s7 hn1 => ?_⟩
      refine ⟨_, rfl, _, rfl, _, _, rfl, rfl, l, _, _, _, rfl, rfl, SqL.of (s7 _ _ hl2), at_of (j := i + 1) (by omega) (refs_get y1), y, p', rfl, trivial, hy2.mono s7, y, p', rfl, rfl, hy2.mono s7, smp', fun H8 n2 _ s8 hn2 => ?_⟩
      refine ⟨n1, n2, _, _, rfl, rfl, s8 _ _ hn1, hn2, le_line ?_, fun n3 g9 => ?_⟩
      · have := flatStep_len smq'
        have := flatStep_len smp'
        rw [List.length_map, List.length_map]
        omega
      have s9 := Same.new (o := .lst ((VapatBase.flatStep q').map V.int ++ (VapatBase.flatStep p').map V.int)) g9
      refine k _ n3 (s1.free (kb.free ha2 ((s7.trans s8).free g9))) ((KeepBut.of s1).trans (kb.trans (.of ((s7.trans s8).trans s9)))) (hh2.mono ((s7.trans s8).trans s9)) ?_
      show upd _ n3 _ n3 = _
      rw [upd_same, List.map_append]
theorem ok_77 (T : Txt K mg A) : FnOk P w K mg base CX0 7 A.f_77 A.d_77 ["held", "place"] (spDo A (aPlace .why 1)) := by
  refine T.F_77.ok sc_77 (fun vs H Q E h => ?_) (fun cdv A' outer s H vs Q E hr h => ?_)
  · obtain ⟨a, s, k, c, rest, rfl, _, _, _, ⟨i, t, rfl, _⟩, _⟩ := h
    rfl
  · obtain ⟨a, st, k0, c, rest, rfl, hh, hg, hk, ⟨i, t, rfl, rfl, ht, hi⟩, k⟩ := h
    obtain ⟨hri, hlow, ⟨u, hu⟩, hsm, hrl⟩ := hg.yes t ht
    have hh' := hh
    obtain ⟨dx, g, r, ha, hgr, ⟨as, hr1, hst⟩⟩ := hh'
    have hasl := hst.length
    have e1 : st.row[i]? = some st.row[i] := List.getElem?_eq_getElem (by omega)
    have e2 : st.row[i + 1]? = some st.row[i + 1] := List.getElem?_eq_getElem hi
    generalize st.row[i] = p at e1
    generalize st.row[i + 1] = q at e2
    dsimp only [Vapatb.step] at k
    rw [on_place ht (by omega), e1, e2] at k
    dsimp only at k
    obtain ⟨x, x1, hx⟩ := hst.get e1
    obtain ⟨y, y1, hy⟩ := hst.get e2
    have smp := hsm p (List.mem_of_getElem? e1)
    have smq := hsm q (List.mem_of_getElem? e2)
    refine ⟨_, (pss_one (ps_ret (pe_lst (pa_cons (pe_call (ok_78 T) (hr.mono (by decide)) rfl T.mg_78 T.F_78.kp T.b_78 .nil pass0 (pa_cons (pe_ix ix_list (pe_fld (pv 0) rfl) (pv 1) (fun _ _ => rfl)) (pa_cons (pe_ix ix_list (pe_fld (pv 0) rfl) (pe_op op_add (pv 1) pe_int) (fun _ _ => rfl)) pa_nil))) pa_nil)))), ?_⟩
    refine ⟨_, rfl, _, _, _, _, _, rfl, ha, T.clRowOnTree, T.na_RowOnTree_row, kf2, _, rfl, r, _, _, _, rfl, rfl, SqL.of hr1, at_of (j := i) rfl (refs_get x1), _, rfl, _, _, _, _, _, rfl, ha, T.clRowOnTree, T.na_RowOnTree_row, kf2, _, rfl, _, _, rfl, rfl,
      r, _, _, _, rfl, rfl, SqL.of hr1, at_of (j := i + 1) (by omega) (refs_get y1), x, y, p, q, rfl, hx, hy, smp, smq, fun H1 s1 => ?_⟩
    refine one_answer fun H' r gr s2 hr => k H' r (s1.free gr) (.of (s1.trans s2)) (hh.mono (s1.trans s2)) ?_
    unfold whyN at hr
    cases e : Vapatb.whyNot p q with
    | none => rw [e] at hr; exact hr
    | some x => rw [e] at hr; exact hr
end
end P58
end
section
set_option Elab.async false
set_option linter.all false
set_option maxRecDepth 100000
set_option maxHeartbeats 1000000
namespace P58
open PySem PySem.Spec PyProof.Rows L2
section
variable {P : Program} {w : World} {K : PySem.W.Frag} {mg : Str → Option Value} {base : Heap} {A : Adr}
theorem ok_49 (T : Txt K mg A) : FnOk P w K mg base CX0 8 A.f_49 A.d_49 ["held", "place"] (spDo A (aPlace .front 0)) := by
  refine T.F_49.ok sc_49 (fun vs H Q E h => ?_) (fun cdv A' outer s H vs Q E hr h => ?_)
  · obtain ⟨a, s, k, c, rest, rfl, _, _, _, ⟨i, t, rfl, _⟩, _⟩ := h
    rfl
  · obtain ⟨a, st, k0, c, rest, rfl, hh, hg, hk, ⟨i, t, rfl, rfl, ht, hi⟩, k⟩ := h
    obtain ⟨hri, hlow, ⟨u, hu⟩, hsm, hrl⟩ := hg.yes t ht
    have hh' := hh
    obtain ⟨dx, g, r, ha, hgr, hrow⟩ := hh'
    have hi' : i < st.row.length := by omega
    have e1 : st.row[i]? = some st.row[i] := List.getElem?_eq_getElem hi'
    generalize st.row[i] = q at e1
    dsimp only [Vapatb.step, Vapatb.doFront] at k
    rw [on_place ht hi', e1] at k
    dsimp only at k
    refine ⟨_, (pss_cons (ps_set (i := 2) sc_49.nd rfl (Or.inl rfl) (pe_call (ok_39 T) (hr.mono (by decide)) rfl T.mg_39 T.F_39.kp T.b_39 .nil pass0 (pa_cons (pe_fld (pv 0) rfl) (pa_cons (pv 1) (pa_cons pe_int pa_nil)))))
        (pss_cons (ps_if (pt_cmpR op_gt (pe_ix ix_tup (pv 2) pe_int (fun _ _ => rfl)) pe_int (nomark _))
          (pss_one (ps_ret (pe_lst (pa_cons pe_int (pa_cons (pe_op op_sub (pv 1) (pe_ix ix_tup (pv 2) pe_int (fun _ _ => rfl))) pa_nil)))))
          pss_nil)
        (pss_cons (ps_fld (pv 0) (pe_ix ix_tup (pv 2) pe_int (fun _ _ => rfl)) rfl)
        (pss_one (ps_ret (pe_op op_cat (pe_lst (pa_cons pe_int pa_nil)) (pe_dyn0 (D_as_numbers T) (hr.mono (by decide)) (by decide +kernel) (pe_ix ix_list (pe_fld (pv 0) rfl) pe_int (fun _ _ => rfl))))))))), ?_⟩
    refine ⟨_, rfl, _, _, _, _, _, rfl, ha, T.clRowOnTree, T.na_RowOnTree_row, kf2, _, rfl, r, st.row, i, 0, _, _, q, rfl, rfl, rfl, hrow, e1, Nat.zero_le _, hsm, (by omega), fun H1 tp l j s1 htp hres => ?_⟩
    rw [List.drop_zero] at hres
    refine ⟨_, rfl, tp, _, _, _, rfl, rfl, SqT.of htp, at_of (j := 1) rfl rfl, _, _, rfl, rfl, _, rfl, ?_⟩
    cases e : Vapatb.aheadOf (st.row.take i) q with
    | error n =>
      rw [e] at hres k
      obtain ⟨h0, h1, h2⟩ := hres
      rw [decide_eq_true (by omega)]
      refine iteT ⟨_, rfl, _, rfl, tp, _, _, _, rfl, rfl, SqT.of htp, at_of (j := 1) rfl rfl, _, _, rfl, rfl, (by show 2 ≤ sizeLine; decide), fun p gp => ?_⟩
      have s2 := Same.new (o := .lst [V.int 0, V.int ((i : Int) - (j : Int))]) gp
      refine k _ p (s1.free gp) (.of (s1.trans s2)) (hh.mono (s1.trans s2)) ?_
      show upd _ p _ p = _
      rw [upd_same, h2]
      show some (HO.lst [V.int 0, V.int ((i : Int) - (j : Int))]) = _
      have : V.int ((i : Int) - (j : Int)) = V.int ((i - j : Nat) : Int) := by congr 1; omega
      rw [this]
      rfl
    | ok rr =>
      obtain ⟨q', l'⟩ := rr
      rw [e] at hres k
      obtain ⟨h0, hrow1⟩ := hres
      subst h0
      rw [List.take_zero, List.nil_append] at hrow1
      have hrow1' := hrow1
      obtain ⟨as, hl1, hst⟩ := hrow1'
      dsimp only [Vapatb.withRow] at k
      have ha1 := s1 _ _ ha
      refine iteF ⟨_, rfl, tp, _, _, _, rfl, rfl, SqT.of htp, at_of (j := 0) rfl rfl, _, rfl, a, _, dx, _, rfl, ha1, T.clRowOnTree, T.na_RowOnTree_row, (by show 2 < 1000; decide), ?_⟩
      rw [pk2]
      have kb : KeepBut a H1 (upd H1 a (.ins A.cRowOnTree dx (heldF g (.ref l)))) := KeepBut.put
      have hh2 := held_row (st := st) ha1 (hgr.mono s1) hrow1
      obtain ⟨smq', _, _⟩ := VM.aheadOf_small e (VM.smalls_take i hsm) (hsm q (List.mem_of_getElem? e1))
      cases as with
      | nil => exact hst.elim
      | cons x as =>
        have ih : IsHeld A H1 a := ⟨_, _, _, ha1⟩
        have hx := keep_step kb ih hst.1
        have hl2 := keep_lst kb ih hl1
        have ha2 : upd H1 a (.ins A.cRowOnTree dx (heldF g (.ref l))) a = some (.ins A.cRowOnTree dx (heldF g (.ref l))) := upd_same
        generalize upd H1 a (.ins A.cRowOnTree dx (heldF g (.ref l))) = H2 at kb hh2 hx hl2 ha2
        refine ⟨(by show 1 ≤ sizeLine; decide), fun l1 g1 => ?_⟩
        have s3 := Same.new (o := .lst [V.int 1]) g1
        refine ⟨_, rfl, _, _, _, _, _, rfl, s3 _ _ ha2, T.clRowOnTree, T.na_RowOnTree_row, kf2, l, _, _, _, rfl, rfl, SqL.of (s3 _ _ hl2), at_of (j := 0) rfl rfl, x, q', rfl, trivial, hx.mono s3, x, q', rfl, rfl, hx.mono s3, smq', fun H4 n1 _ s4 hn1 => ?_⟩
        refine ⟨l1, n1, _, _, rfl, rfl, s4 _ _ upd_same, hn1, le_line ?_, fun n2 g5 => ?_⟩
        · have := flatStep_len smq'
          rw [List.length_map]
          simp only [List.length_cons, List.length_nil]
          omega
        have s5 := Same.new (o := .lst ([V.int 1] ++ (VapatBase.flatStep q').map V.int)) g5
        exact k _ n2 (s1.free (kb.free ha2 ((s3.trans s4).free g5))) ((KeepBut.of s1).trans (kb.trans (.of ((s3.trans s4).trans s5)))) (hh2.mono ((s3.trans s4).trans s5)) (by show upd _ n2 _ n2 = _; rw [upd_same]; rfl)
end
end P58
end
section
set_option Elab.async false
set_option linter.all false
set_option maxRecDepth 100000
set_option maxHeartbeats 1000000
namespace P58
open PySem PySem.Spec PyProof.Rows L2
theorem steps_last {C : Cs} {H : Hp} {p : VStep} : ∀ {row : List VStep} {as : List Addr}, StepsAt C H as (row ++ [p]) → ∃ as0 x, as = as0 ++ [x] ∧ StepsAt C H as0 row ∧ StepAt C H x p
  | [], [], h => h.elim
  | [], [x], h => ⟨[], x, rfl, trivial, h.1⟩
  | [], _ :: _ :: _, h => h.2.elim
  | _ :: _, [], h => h.elim
  | _ :: row, a :: as, h => by
    obtain ⟨as0, x, e, h1, h2⟩ := steps_last (row := row) (as := as) h.2
    exact ⟨a :: as0, x, by rw [e]; rfl, ⟨h.1, h1⟩, h2⟩
theorem listed_V (l : List Nat) : (Vapatb.listed l).map V.int = [V.int (l.length : Int)] ++ l.map nV := by
  show V.int (l.length : Int) :: (l.map Vapatb.int).map V.int = _
  rw [List.map_map]
  rfl
theorem drop_get {α : Type} {l : List α} {k : Nat} {x : α} (h : l[k]? = some x) : l.drop k = x :: l.drop (k + 1) := by
  obtain ⟨hk, e⟩ := List.getElem?_eq_some_iff.mp h
  rw [← e, List.getElem_cons_drop]
section
variable {P : Program} {w : World} {K : PySem.W.Frag} {mg : Str → Option Value} {base : Heap} {A : Adr}
theorem ok_38 (T : Txt K mg A) : FnOk P w K mg base CX0 8 A.f_38 A.d_38 ["held", "place"] (spDo A (aPlace .back 0)) := by
  refine T.F_38.ok sc_38 (fun vs H Q E h => ?_) (fun cdv A' outer s H vs Q E hr h => ?_)
  · obtain ⟨a, s, k, c, rest, rfl, _, _, _, ⟨i, t, rfl, _⟩, _⟩ := h
    rfl
  · obtain ⟨a, st, k0, c, rest, rfl, hh, hg, hk, ⟨i, t, rfl, rfl, ht, hi⟩, k⟩ := h
    obtain ⟨hri, hlow, ⟨u, hu⟩, hsm, hrl⟩ := hg.yes t ht
    have hh' := hh
    obtain ⟨dx, g, r, ha, hgr, hrow⟩ := hh'
    have hi' : i < st.row.length := by omega
    have e1 : st.row[i]? = some st.row[i] := List.getElem?_eq_getElem hi'
    generalize st.row[i] = q at e1
    dsimp only [Vapatb.step, Vapatb.doBack] at k
    rw [on_place ht hi', drop_get e1] at k
    dsimp only at k
    have hrow' := hrow
    obtain ⟨as0, hr1, hst0⟩ := hrow'
    have hasl := hst0.length
    refine ⟨_, (pss_cons (ps_set (i := 2) sc_38.nd rfl (Or.inl rfl) (pe_call (ok_40 T) (hr.mono (by decide)) rfl T.mg_40 T.F_40.kp T.b_40 .nil pass0 (pa_cons (pe_fld (pv 0) rfl) (pa_cons (pv 1) pa_nil))))
        (pss_cons (ps_if (pt_cmpR op_lt (pe_ix ix_tup (pv 2) pe_int (fun _ _ => rfl)) (pe_op op_sub (pe_callB call_len_seq (by rfl) T.n_len PySem.boot_len (pa_cons (pe_fld (pv 0) rfl) pa_nil)) pe_int) (nomark _))
          (pss_one (ps_ret (pe_lst (pa_cons pe_int (pa_cons (pe_op op_sub (pe_ix ix_tup (pv 2) pe_int (fun _ _ => rfl)) (pv 1)) pa_nil)))))
          pss_nil)
        (pss_cons (ps_fld (pv 0) (pe_ix ix_tup (pv 2) pe_int (fun _ _ => rfl)) rfl)
        (pss_one (ps_ret (pe_op op_cat (pe_lst (pa_cons pe_int pa_nil)) (pe_dyn0 (D_as_numbers T) (hr.mono (by decide)) (by decide +kernel) (pe_ix ix_list (pe_fld (pv 0) rfl) (pe_un un_neg pe_int) (fun _ _ => rfl))))))))), ?_⟩
    refine ⟨_, rfl, _, _, _, _, _, rfl, ha, T.clRowOnTree, T.na_RowOnTree_row, kf2, _, rfl, r, st.row, i, _, q, rfl, rfl, hrow, e1, hsm, (by omega), fun H1 tp l j s1 htp hres => ?_⟩
    have ha1 := s1 _ _ ha
    refine ⟨_, rfl, tp, _, _, _, rfl, rfl, SqT.of htp, at_of (j := 1) rfl rfl, _, rfl, _, _, _, _, _, rfl, ha1, T.clRowOnTree, T.na_RowOnTree_row, kf2, r, _, rfl, .inl (SqL.of (s1 _ _ hr1)), _, _, rfl, rfl, _, _, rfl, rfl, _, rfl, ?_⟩
    cases e : Vapatb.behind q (st.row.drop (i + 1)) with
    | error n =>
      rw [e] at hres k
      obtain ⟨h0, h1⟩ := hres
      rw [decide_eq_true (by rw [List.length_map, hasl]; omega)]
      refine iteT ⟨_, rfl, tp, _, _, _, rfl, rfl, SqT.of htp, at_of (j := 1) rfl rfl, _, rfl, _, _, rfl, rfl, (by show 2 ≤ sizeLine; decide), fun p gp => ?_⟩
      have s2 := Same.new (o := .lst [V.int 0, V.int ((j : Int) - (i : Int))]) gp
      refine k _ p (s1.free gp) (.of (s1.trans s2)) (hh.mono (s1.trans s2)) ?_
      show upd _ p _ p = _
      rw [upd_same]
      have : V.int ((j : Int) - (i : Int)) = V.int ((n : Nat) : Int) := by congr 1; omega
      show some (HO.lst [V.int 0, V.int ((j : Int) - (i : Int))]) = _
      rw [this]
      rfl
    | ok rr =>
      obtain ⟨l', p'⟩ := rr
      rw [e] at hres k
      obtain ⟨h0, hrow1⟩ := hres
      dsimp only at hrow1
      have hrow1' := hrow1
      obtain ⟨as, hl1, hst⟩ := hrow1'
      dsimp only [Vapatb.withRow] at k
      rw [decide_eq_false (by rw [List.length_map, hasl]; omega)]
      refine iteF ⟨_, rfl, tp, _, _, _, rfl, rfl, SqT.of htp, at_of (j := 0) rfl rfl, _, rfl, a, _, dx, _, rfl, ha1, T.clRowOnTree, T.na_RowOnTree_row, (by show 2 < 1000; decide), ?_⟩
      rw [pk2]
      have kb : KeepBut a H1 (upd H1 a (.ins A.cRowOnTree dx (heldF g (.ref l)))) := KeepBut.put
      have hh2 := held_row (st := st) ha1 (hgr.mono s1) hrow1
      obtain ⟨smp', _, _⟩ := VM.behind_small e (VM.smalls_drop (i + 1) hsm) (hsm q (List.mem_of_getElem? e1))
      rw [← List.append_assoc] at hst
      obtain ⟨as1, x, rfl, _, hx1⟩ := steps_last hst
      have ih : IsHeld A H1 a := ⟨_, _, _, ha1⟩
      have hx := keep_step kb ih hx1
      have hl2 := keep_lst kb ih hl1
      have ha2 : upd H1 a (.ins A.cRowOnTree dx (heldF g (.ref l))) a = some (.ins A.cRowOnTree dx (heldF g (.ref l))) := upd_same
      generalize upd H1 a (.ins A.cRowOnTree dx (heldF g (.ref l))) = H2 at kb hh2 hx hl2 ha2
      refine ⟨(by show 1 ≤ sizeLine; decide), fun l1 g1 => ?_⟩
      have s3 := Same.new (o := .lst [V.int 1]) g1
      refine ⟨_, rfl, _, _, _, _, _, rfl, s3 _ _ ha2, T.clRowOnTree, T.na_RowOnTree_row, kf2, _, rfl, l, _, _, _, rfl, rfl, SqL.of (s3 _ _ hl2), (by rw [List.map_append]; exact atI_last _ _), x, p', rfl, trivial, hx.mono s3, x, p', rfl, rfl, hx.mono s3, smp', fun H4 n1 _ s4 hn1 => ?_⟩
      refine ⟨l1, n1, _, _, rfl, rfl, s4 _ _ upd_same, hn1, le_line ?_, fun n2 g5 => ?_⟩
      · have := flatStep_len smp'
        rw [List.length_map]
        simp only [List.length_cons, List.length_nil]
        omega
      have s5 := Same.new (o := .lst ([V.int 1] ++ (VapatBase.flatStep p').map V.int)) g5
      exact k _ n2 (s1.free (kb.free ha2 ((s3.trans s4).free g5))) ((KeepBut.of s1).trans (kb.trans (.of ((s3.trans s4).trans s5)))) (hh2.mono ((s3.trans s4).trans s5)) (by show upd _ n2 _ n2 = _; rw [upd_same]; rfl)
theorem ok_56 (T : Txt K mg A) : FnOk P w K mg base CX0 9 A.f_56 A.d_56 ["held", "place"] (spDo A (aPlace .needs 0)) := by
  refine T.F_56.ok sc_56 (fun vs H Q E h => ?_) (fun cdv A' outer s H vs Q E hr h => ?_)
  · obtain ⟨a, s, k, c, rest, rfl, _, _, _, ⟨i, t, rfl, _⟩, _⟩ := h
    rfl
  · obtain ⟨a, st, k0, c, rest, rfl, hh, hg, hk, ⟨i, t, rfl, rfl, ht, hi⟩, k⟩ := h
    obtain ⟨hri, hlow, ⟨u, hu⟩, hsm, hrl⟩ := hg.yes t ht
    have hh' := hh
    obtain ⟨dx, g, r, ha, hgr, hrow⟩ := hh'
    have hi' : i < st.row.length := by omega
    have e1 : st.row[i]? = some st.row[i] := List.getElem?_eq_getElem hi'
    generalize st.row[i] = q at e1
    dsimp only [Vapatb.step] at k
    rw [on_place ht hi'] at k
    refine ⟨_, (pss_cons (ps_set (i := 2) sc_56.nd rfl (Or.inl rfl) (pe_call (ok_55 T) (hr.mono (by decide)) rfl T.mg_55 T.F_55.kp T.b_55 .nil pass0 (pa_cons (pe_fld (pv 0) rfl) (pa_cons (pv 1) pa_nil))))
        (pss_one (ps_ret (pe_op op_cat (pe_lst (pa_cons (pe_callB call_len_seq (by rfl) T.n_len PySem.boot_len (pa_cons (pv 2) pa_nil)) pa_nil)) (pv 2))))), ?_⟩
    refine ⟨_, rfl, _, _, _, _, _, rfl, ha, T.clRowOnTree, T.na_RowOnTree_row, kf2, _, rfl, r, st.row, i, _, q, rfl, rfl, hrow, e1, hsm, (by omega), fun H1 l s1 hl => ?_⟩
    refine ⟨_, rfl, l, _, rfl, .inl (SqL.of hl), (by show 1 ≤ sizeLine; decide), fun l1 g1 => ?_⟩
    have hn := VM.needs_len st.row i
    have s2 := Same.new (o := .lst [V.int (((Vapatb.needs st.row i).map nV).length : Int)]) g1
    refine ⟨_, rfl, l1, l, _, _, rfl, rfl, upd_same, s2 _ _ hl, le_line (by rw [List.length_map]; simp only [List.length_cons, List.length_nil]; omega), fun l2 g2 => ?_⟩
    have s3 := s2.trans (Same.new (o := .lst ([V.int (((Vapatb.needs st.row i).map nV).length : Int)] ++ (Vapatb.needs st.row i).map nV)) g2)
    refine k _ l2 (s1.free (s2.free g2)) (.of (s1.trans s3)) (hh.mono (s1.trans s3)) ?_
    show upd _ l2 _ l2 = _
    rw [upd_same, listed_V, List.length_map]
theorem ok_54 (T : Txt K mg A) : FnOk P w K mg base CX0 9 A.f_54 A.d_54 ["held", "place"] (spDo A (aPlace .neededBy 0)) := by
  refine T.F_54.ok sc_54 (fun vs H Q E h => ?_) (fun cdv A' outer s H vs Q E hr h => ?_)
  · obtain ⟨a, s, k, c, rest, rfl, _, _, _, ⟨i, t, rfl, _⟩, _⟩ := h
    rfl
  · obtain ⟨a, st, k0, c, rest, rfl, hh, hg, hk, ⟨i, t, rfl, rfl, ht, hi⟩, k⟩ := h
    obtain ⟨hri, hlow, ⟨u, hu⟩, hsm, hrl⟩ := hg.yes t ht
    have hh' := hh
    obtain ⟨dx, g, r, ha, hgr, hrow⟩ := hh'
    have hi' : i < st.row.length := by omega
    have hrow' := hrow
    obtain ⟨as0, hr1, hst0⟩ := hrow'
    have hasl := hst0.length
    dsimp only [Vapatb.step] at k
    rw [on_place ht hi'] at k
    refine ⟨_, (pss_cons (ps_setLc (i := 2) rfl sc_54.nd rfl rfl (sw_true rfl rfl rfl rfl) (pi_range2 rfl T.n_range (pa_cons (pe_op op_add (pv 1) pe_int) (pa_cons (pe_callB call_len_seq (by rfl) T.n_len PySem.boot_len (pa_cons (pe_fld (pv 0) rfl) pa_nil)) pa_nil))) (blkOk_by (N := ["held", "place", "places", "at"]) (sc := defScope st_54) (own := [("at", 3)]) (by decide +kernel)) (fun _ _ _ _ _ => pg_name (i := 3) sc_54.nd rfl (Or.inl rfl)) (fun _ _ _ _ _ => (pts_one (pt_cmpR (op_in_seq : OpR _ _ (rIn K false)) (pv 1) (pe_call (ok_55 T) (hr.mono (by decide)) rfl T.mg_55 T.F_55.kp T.b_55 .nil pass0 (pa_cons (pe_fld (pv 0) rfl : PE _ _ (tFld K _ _)) (pa_cons (pv 3) pa_nil))) (by with_unfolding_all rfl)))) (fun _ _ _ _ _ => (pv 3)))
        (pss_one (ps_ret (pe_op op_cat (pe_lst (pa_cons (pe_callB call_len_seq (by rfl) T.n_len PySem.boot_len (pa_cons (pv 2) pa_nil)) pa_nil)) (pv 2))))), ?_⟩
    refine ⟨_, rfl, _, _, rfl, rfl, _, rfl, _, _, _, _, _, rfl, ha, T.clRowOnTree, T.na_RowOnTree_row, kf2, r, _, rfl, .inl (SqL.of hr1), (i : Int) + 1, ((as0.map V.ref).length : Int), rfl, ⟨by omega, by omega, by omega, by rw [List.length_map]; omega⟩, fun D hD => ?_⟩
    have en : (((as0.map V.ref).length : Int) - ((i : Int) + 1)).toNat = st.row.length - (i + 1) := by rw [List.length_map, hasl]; omega
    rw [en]
    refine lc_range (lo := (i : Int) + 1) (n := st.row.length - (i + 1)) (fun m H' => Same H H' ∧ H' D = some (.lst (((List.range' (i + 1) m).filter fun j => (Vapatb.needs st.row j).contains i).map nV))) ⟨Same.new hD, upd_same⟩ ?_ ?_
    · rintro m H' hm ⟨s', hD'⟩
      refine ⟨rfl, ?_⟩
      have hj : i + 1 + m < st.row.length := by omega
      refine ⟨_, rfl, _, rfl, _, _, _, _, _, rfl, s' _ _ ha, T.clRowOnTree, T.na_RowOnTree_row, kf2, _, rfl, r, st.row, i + 1 + m, _, _, rfl, (by omega), hrow.mono s', List.getElem?_eq_getElem hj, hsm, (by omega), fun H2 l s2 hl => ?_⟩
      refine ⟨l, _, rfl, .inl (SqL.of hl), rfl, flat_toks _, _, rfl, ?_⟩
      have hin : inV (V.int (i : Int)) ((Vapatb.needs st.row (i + 1 + m)).map nV) = (Vapatb.needs st.row (i + 1 + m)).contains i := inV_toks i _
      have hstep : (List.range' (i + 1) (m + 1)).filter (fun j => (Vapatb.needs st.row j).contains i) = (List.range' (i + 1) m).filter (fun j => (Vapatb.needs st.row j).contains i) ++ (if (Vapatb.needs st.row (i + 1 + m)).contains i = true then [i + 1 + m] else []) := by
        rw [List.range'_1_concat, List.filter_append]
        congr 1
        cases e : (Vapatb.needs st.row (i + 1 + m)).contains i with
        | true => rw [if_pos rfl, List.filter_cons_of_pos (by exact e)]; rfl
        | false => rw [if_neg Bool.false_ne_true, List.filter_cons_of_neg (by rw [e]; exact Bool.false_ne_true)]; rfl
      refine ite2 (fun hc => ?_) (fun hc => ?_)
      · have hc : inV (V.int (i : Int)) ((Vapatb.needs st.row (i + 1 + m)).map nV) = true := hc
        rw [hin] at hc
        refine ⟨_, rfl, _, s2 _ _ hD', ?_, (s'.trans s2).upd hD, ?_⟩
        · refine lt_line ?_
          have := List.length_filter_le (fun j => (Vapatb.needs st.row j).contains i) (List.range' (i + 1) m)
          rw [List.length_range'] at this
          rw [List.length_map]
          omega
        · rw [upd_same, hstep, if_pos hc, List.map_append]
          have : V.int ((i : Int) + 1 + ((m : Nat) : Int)) = nV (i + 1 + m) := by unfold nV; congr 1
          rw [this]
          rfl
      · have hc : ¬ inV (V.int (i : Int)) ((Vapatb.needs st.row (i + 1 + m)).map nV) = true := hc
        rw [hin] at hc
        refine ⟨s'.trans s2, ?_⟩
        rw [s2 _ _ hD', hstep, if_neg hc, List.append_nil]
    · rintro H1 ⟨s1, hl⟩
      have hl : TL H1 D (Vapatb.neededBy st.row i) := by
        rw [VM.neededBy_range hi']
        exact hl
      refine ⟨_, rfl, D, _, rfl, .inl (SqL.of hl), (by show 1 ≤ sizeLine; decide), fun l1 g1 => ?_⟩
      have hn := VM.neededBy_len st.row i
      have s2 := Same.new (o := .lst [V.int (((Vapatb.neededBy st.row i).map nV).length : Int)]) g1
      refine ⟨_, rfl, l1, D, _, _, rfl, rfl, upd_same, s2 _ _ hl, le_line (by rw [List.length_map]; simp only [List.length_cons, List.length_nil]; omega), fun l2 g2 => ?_⟩
      have s3 := s2.trans (Same.new (o := .lst ([V.int (((Vapatb.neededBy st.row i).map nV).length : Int)] ++ (Vapatb.neededBy st.row i).map nV)) g2)
      refine k _ l2 (s1.free (s2.free g2)) (.of (s1.trans s3)) (hh.mono (s1.trans s3)) ?_
      show upd _ l2 _ l2 = _
      rw [upd_same, listed_V, List.length_map]
theorem ok_79 (T : Txt K mg A) : FnOk P w K mg base CX0 9 A.f_79 A.d_79 ["held", "place"] (spDo A (aPlace .without 0)) := by
  refine T.F_79.ok sc_79 (fun vs H Q E h => ?_) (fun cdv A' outer s H vs Q E hr h => ?_)
  · obtain ⟨a, s, k, c, rest, rfl, _, _, _, ⟨i, t, rfl, _⟩, _⟩ := h
    rfl
  · obtain ⟨a, st, k0, c, rest, rfl, hh, hg, hk, ⟨i, t, rfl, rfl, ht, hi⟩, k⟩ := h
    obtain ⟨hri, hlow, ⟨u, hu⟩, hsm, hrl⟩ := hg.yes t ht
    have hi' : i < st.row.length := by omega
    have e1 : st.row[i]? = some st.row[i] := List.getElem?_eq_getElem hi'
    generalize st.row[i] = q at e1
    dsimp only [Vapatb.step] at k
    rw [on_place ht hi'] at k
    dsimp only [Vapatb.without] at k
    rw [drop_get e1] at k
    dsimp only at k
    refine ⟨_, (pss_cons (ps_set (i := 2) sc_79.nd rfl (Or.inl rfl) (pe_call (ok_38 T) (hr.mono (by decide)) rfl T.mg_38 T.F_38.kp T.b_38 .nil pass0 (pa_cons (pv 0) (pa_cons (pv 1) pa_nil))))
        (pss_cons (ps_if (pt_cmpR op_eq (pe_ix ix_list (pv 2) pe_int (fun _ _ => rfl)) pe_int (nomark _))
          (pss_one (ps_ret (pv 2)))
          pss_nil)
        (pss_cons (ps_fld (pv 0) (pe_slice sl_list (pe_fld (pv 0) rfl) po_none (po_some (pe_un un_neg pe_int))) rfl)
        (pss_one (ps_ret (pe_lst (pa_cons pe_int (pa_cons (pe_callB call_len_seq (by rfl) T.n_len PySem.boot_len (pa_cons (pe_fld (pv 0) rfl) pa_nil)) pa_nil)))))))), ?_⟩
    refine ⟨_, rfl, _, rfl, a, st, k0, .back (i : Int), _, rfl, hh, hg, hk, ⟨i, t, rfl, rfl, ht, hi⟩, fun H1 r1 g1 kb hh1 hr1 => ?_⟩
    dsimp only [Vapatb.step, Vapatb.doBack] at hh1 hr1
    rw [on_place ht hi', drop_get e1] at hh1 hr1
    dsimp only at hh1 hr1
    cases e : Vapatb.behind q (st.row.drop (i + 1)) with
    | error n =>
      rw [e] at hh1 hr1 k
      exact ⟨_, rfl, r1, _, _, _, rfl, rfl, SqL.of hr1, at_of (j := 0) rfl rfl, rfl, _, rfl, iteT ⟨_, rfl, k H1 r1 g1 kb hh1 hr1⟩⟩
    | ok rr =>
      obtain ⟨l', p'⟩ := rr
      rw [e] at hh1 hr1 k
      dsimp only [Vapatb.withRow, Except.map] at hh1 hr1 k
      refine ⟨_, rfl, r1, _, _, _, rfl, rfl, SqL.of hr1, at_of (j := 0) rfl rfl, rfl, _, rfl, iteF ?_⟩
      obtain ⟨dx, g, r, ha, hgr, as, hr2, hst⟩ := hh1
      dsimp only at hgr hst
      rw [← List.append_assoc] at hst
      obtain ⟨as1, x, rfl, hst1, _⟩ := steps_last hst
      refine ⟨_, rfl, _, _, _, _, _, rfl, ha, T.clRowOnTree, T.na_RowOnTree_row, kf2, _, rfl, _, rfl, r, _, rfl, SqL.of hr2, fun l4 g4 => ?_⟩
      have s4 := Same.new (o := .lst (cutV ((as1 ++ [x]).map V.ref) none (some (-1)))) g4
      have hl4 : upd H1 l4 (.lst (cutV ((as1 ++ [x]).map V.ref) none (some (-1)))) l4 = some (.lst (as1.map V.ref)) := by
        rw [upd_same, cut_init, List.length_map, refs_take, List.length_append, List.length_singleton, Nat.add_sub_cancel, List.take_left]
      generalize upd H1 l4 (.lst (cutV ((as1 ++ [x]).map V.ref) none (some (-1)))) = H4 at s4 hl4
      have ha4 := s4 _ _ ha
      refine ⟨_, rfl, a, _, dx, _, rfl, ha4, T.clRowOnTree, T.na_RowOnTree_row, (by show 2 < 1000; decide), ?_⟩
      rw [pk2]
      have kb5 : KeepBut a H4 (upd H4 a (.ins A.cRowOnTree dx (heldF g (.ref l4)))) := KeepBut.put
      have hh5 := held_row (st := st) (l := l4) (row := st.row.take i ++ l') ha4 (hgr.mono s4) ⟨as1, hl4, hst1.mono s4⟩
      have hl5 := keep_lst kb5 ⟨_, _, _, ha4⟩ hl4
      have ha5 : upd H4 a (.ins A.cRowOnTree dx (heldF g (.ref l4))) a = some (.ins A.cRowOnTree dx (heldF g (.ref l4))) := upd_same
      generalize upd H4 a (.ins A.cRowOnTree dx (heldF g (.ref l4))) = H5 at kb5 hh5 hl5 ha5
      refine ⟨_, rfl, _, _, _, _, _, rfl, ha5, T.clRowOnTree, T.na_RowOnTree_row, kf2, l4, _, rfl, .inl (SqL.of hl5), (by show 2 ≤ sizeLine; decide), fun p gp => ?_⟩
      have s6 := Same.new (o := .lst [V.int 1, V.int ((as1.map V.ref).length : Int)]) gp
      have hfree : H1 p = none := s4.free (kb5.free ha5 gp)
      refine k _ p (kb.free ha hfree) (kb.trans ((KeepBut.of s4).trans (kb5.trans (.of s6)))) (hh5.mono s6) ?_
      show upd _ p _ p = _
      rw [upd_same, List.length_map, hst1.length]
      rfl
theorem ok_58 (T : Txt K mg A) : FnOk P w K mg base CX0 9 A.f_58 A.d_58 ["held", "place"] (spDo A (aPlace .past 0)) := by
  refine T.F_58.ok sc_58 (fun vs H Q E h => ?_) (fun cdv A' outer s H vs Q E hr h => ?_)
  · obtain ⟨a, s, k, c, rest, rfl, _, _, _, ⟨i, t, rfl, _⟩, _⟩ := h
    rfl
  · obtain ⟨a, st, k0, c, rest, rfl, hh, hg, hk, ⟨i, t, rfl, rfl, ht, hi⟩, k⟩ := h
    obtain ⟨hri, hlow, ⟨u, hu⟩, hsm, hrl⟩ := hg.yes t ht
    have hh' := hh
    obtain ⟨dx, g, r, ha, hgr, hrow⟩ := hh'
    have hi' : i < st.row.length := by omega
    dsimp only [Vapatb.step] at k
    rw [on_place ht hi'] at k
    refine ⟨_, (pss_cons (ps_set (i := 2) sc_58.nd rfl (Or.inl rfl) (pe_call (ok_64 T) (hr.mono (by decide)) rfl T.mg_64 T.F_64.kp T.b_64 .nil pass0 (pa_cons (pe_fld (pv 0) rfl) (pa_cons (pv 1) pa_nil))))
        (pss_cons (ps_if (pt_cmp (pc_isN (pv 2)))
          (pss_one (ps_ret (pe_lst (pa_cons pe_int pa_nil))))
          pss_nil)
        (pss_cons (ps_fld (pv 0) (pv 2) rfl)
        (pss_one (ps_ret (pe_lst (pa_cons pe_int (pa_cons (pe_op op_sub (pe_callB call_len_seq (by rfl) T.n_len PySem.boot_len (pa_cons (pv 2) pa_nil)) (pv 1)) pa_nil)))))))), ?_⟩
    refine ⟨_, rfl, _, _, _, _, _, rfl, ha, T.clRowOnTree, T.na_RowOnTree_row, kf2, _, rfl, r, st.row, i, _, rfl, rfl, hrow, (by omega), hsm, (by omega), fun H1 v s1 hv => ⟨_, rfl, _, rfl, ?_⟩⟩
    cases e : Vapatb.rowsCommuted (st.row.take i) (st.row.drop i) with
    | none =>
      rw [e] at hv k
      have ev : v = .non := hv
      subst ev
      exact iteT (one_answer fun H' r gr s2 hr => k H' r (s1.free gr) (.of (s1.trans s2)) (hh.mono (s1.trans s2)) hr)
    | some rr =>
      obtain ⟨m', l'⟩ := rr
      rw [e] at hv k
      obtain ⟨l, rfl, hrow1⟩ := hv
      dsimp only [Vapatb.withRow] at k hrow1
      obtain ⟨_, _, m4', m3'⟩ := VM.rowsCommuted_small e (VM.smalls_take i hsm) (VM.smalls_drop i hsm)
      have ha1 := s1 _ _ ha
      have hrow1' := hrow1
      obtain ⟨as, hl1, hst⟩ := hrow1'
      have hasl := hst.length
      refine iteF ⟨_, rfl, _, rfl, a, _, dx, _, rfl, ha1, T.clRowOnTree, T.na_RowOnTree_row, (by show 2 < 1000; decide), ?_⟩
      rw [pk2]
      have kb : KeepBut a H1 (upd H1 a (.ins A.cRowOnTree dx (heldF g (.ref l)))) := KeepBut.put
      have hh2 := held_row (st := st) ha1 (hgr.mono s1) hrow1
      have hl2 := keep_lst kb ⟨_, _, _, ha1⟩ hl1
      have ha2 : upd H1 a (.ins A.cRowOnTree dx (heldF g (.ref l))) a = some (.ins A.cRowOnTree dx (heldF g (.ref l))) := upd_same
      generalize upd H1 a (.ins A.cRowOnTree dx (heldF g (.ref l))) = H2 at kb hh2 hl2 ha2
      refine ⟨_, rfl, l, _, rfl, .inl (SqL.of hl2), _, rfl, _, _, rfl, rfl, (by show 2 ≤ sizeLine; decide), fun p gp => ?_⟩
      have s3 := Same.new (o := .lst [V.int 1, V.int (((as.map V.ref).length : Int) - (i : Int))]) gp
      refine k _ p (s1.free (kb.free ha2 gp)) ((KeepBut.of s1).trans (kb.trans (.of s3))) (hh2.mono s3) ?_
      show upd _ p _ p = _
      rw [upd_same]
      have : V.int (((as.map V.ref).length : Int) - (i : Int)) = V.int ((m'.length : Nat) : Int) := by
        congr 1
        rw [List.length_map, hasl, List.length_append]
        first
          | (rw [List.length_take] at m4'; rw [List.length_drop] at m3'; omega)
          | (rw [List.length_drop] at m4'; rw [List.length_take] at m3'; omega)
      show some (HO.lst [V.int 1, V.int (((as.map V.ref).length : Int) - (i : Int))]) = _
      rw [this]
      rfl
theorem ok_76 (T : Txt K mg A) : FnOk P w K mg base CX0 7 A.f_76 A.d_76 ["held"] (spDo A (aPlain .turn)) := by
  refine T.F_76.ok sc_76 (fun vs H Q E h => ?_) (fun cdv A' outer s H vs Q E hr h => ?_)
  · obtain ⟨a, s, k, c, rest, rfl, _, _, _, ⟨t, rfl, _⟩, _⟩ := h
    rfl
  · obtain ⟨a, st, k0, c, rest, rfl, hh, hg, hk, ⟨t, rfl, rfl, ht⟩, k⟩ := h
    obtain ⟨hri, hlow, ⟨u, hu⟩, hsm, hrl⟩ := hg.yes t ht
    have hh' := hh
    obtain ⟨dx, g, r, ha, hgr, hrow⟩ := hh'
    dsimp only [Vapatb.step, Vapatb.onTree] at k
    rw [ht] at k hgr
    dsimp only at k
    rw [hu] at k
    dsimp only at k
    obtain ⟨b, rfl, hb⟩ := hgr
    refine ⟨_, (pss_cons (ps_fld (pv 0) (pe_call (ok_65 T) (hr.mono (by decide)) rfl T.mg_65 T.F_65.kp T.b_65 .nil pass0 (pa_cons (pe_fld (pv 0) rfl) (pa_cons (pe_fld (pv 0) rfl) pa_nil))) rfl)
        (pss_cons (ps_fld (pv 0) (pe_call (ok_67 T) (hr.mono (by decide)) rfl T.mg_67 T.F_67.kp T.b_67 .nil pass0 (pa_cons (pe_fld (pv 0) rfl) pa_nil)) rfl)
        (pss_one (ps_ret (pe_call (ok_75 T) (hr.mono (by decide)) rfl T.mg_75 T.F_75.kp T.b_75 .nil pass0 (pa_cons (pe_fld (pv 0) rfl) pa_nil)))))), ?_⟩
    refine ⟨_, rfl, _, _, _, _, _, rfl, ha, T.clRowOnTree, T.na_RowOnTree_ground, kf1, _, rfl, _, _, _, _, _, rfl, ha, T.clRowOnTree, T.na_RowOnTree_row, kf2,
      b, r, t, st.row, u, _, rfl, hb, hrow, hri, hsm, hlow, (by omega), hu, fun H1 c1 s1 hc1 => ?_⟩
    have ha1 := s1 _ _ ha
    refine ⟨_, rfl, a, _, dx, _, rfl, ha1, T.clRowOnTree, T.na_RowOnTree_ground, (by show 2 < 1000; decide), ?_⟩
    rw [pk1]
    have kb : KeepBut a H1 (upd H1 a (.ins A.cRowOnTree dx (heldF (.ref c1) (.ref r)))) := KeepBut.put
    have ih : IsHeld A H1 a := ⟨_, _, _, ha1⟩
    have hc2 := keep_tree kb ih hc1
    have hrow2 := keep_row kb ih (hrow.mono s1)
    have ha2 : upd H1 a (.ins A.cRowOnTree dx (heldF (.ref c1) (.ref r))) a = some (.ins A.cRowOnTree dx (heldF (.ref c1) (.ref r))) := upd_same
    generalize upd H1 a (.ins A.cRowOnTree dx (heldF (.ref c1) (.ref r))) = H2 at kb hc2 hrow2 ha2
    refine ⟨_, rfl, _, _, _, _, _, rfl, ha2, T.clRowOnTree, T.na_RowOnTree_row, kf2, r, st.row, rfl, hrow2, (by omega), fun H3 l s3 hl => ?_⟩
    have ha3 := s3 _ _ ha2
    refine ⟨_, rfl, a, _, dx, _, rfl, ha3, T.clRowOnTree, T.na_RowOnTree_row, (by show 2 < 1000; decide), ?_⟩
    rw [pk2]
    have kb4 : KeepBut a H3 (upd H3 a (.ins A.cRowOnTree dx (heldF (.ref c1) (.ref l)))) := KeepBut.put
    have ih3 : IsHeld A H3 a := ⟨_, _, _, ha3⟩
    have hc4 := keep_tree kb4 ih3 (hc2.mono s3)
    have hl4 := keep_row kb4 ih3 hl
    have ha4 : upd H3 a (.ins A.cRowOnTree dx (heldF (.ref c1) (.ref l))) a = some (.ins A.cRowOnTree dx (heldF (.ref c1) (.ref l))) := upd_same
    generalize upd H3 a (.ins A.cRowOnTree dx (heldF (.ref c1) (.ref l))) = H4 at kb4 hc4 hl4 ha4
    refine ⟨_, rfl, _, _, _, _, _, rfl, ha4, T.clRowOnTree, T.na_RowOnTree_ground, kf1, c1, u, rfl, hc4, VM.appliedAll_rising hri hu, VM.low_mono (VM.low_appliedAll hlow hsm hu) (by omega), fun H' n gn s' hn => ?_⟩
    refine k H' n (s1.free (kb.free ha2 (s3.free (kb4.free ha4 gn)))) ((KeepBut.of s1).trans (kb.trans ((KeepBut.of s3).trans (kb4.trans (.of s'))))) ?_ hn
    exact ⟨dx, .ref c1, l, s' _ _ ha4, ⟨c1, rfl, hc4.mono s'⟩, hl4.mono s'⟩
end
end P58
end
section
set_option Elab.async false
set_option linter.all false
set_option maxRecDepth 100000
set_option maxHeartbeats 1000000
namespace P58
open PySem PySem.Spec PyProof.Rows L2
theorem OptRows.get' {C : Cs} {H : Hp} : ∀ {vs : List V} {os : List (Option (List VStep))} {i : Nat} {v : V}, OptRows C H vs os → vs[i]? = some v → ∃ o, os[i]? = some o ∧ OptRow C H v o
  | [], [], _, _, _, e => by simp at e
  | x :: _, o :: _, 0, v, h, e => by
    have : x = v := Option.some.inj e
    exact ⟨o, rfl, this ▸ h.1⟩
  | _ :: _, _ :: _, i + 1, v, h, e => OptRows.get' (i := i) h.2 e
  | [], _ :: _, _, _, h, _ => h.elim
  | _ :: _, [], _, _, h, _ => h.elim
theorem told_len {row : List VStep} {ps : List Nat} (hs : VM.smalls row) (hl : row.length = 3) : (Vapatb.threeTold (VM.turns row ps)).length ≤ 64 := by
  cases e : VM.turns row ps with
  | none => show 1 ≤ 64; decide
  | some r =>
    obtain ⟨a, b⟩ := VM.turns_keeps e hs
    have := flats_len a
    show (r.flatMap VapatBase.flatStep).length + 1 ≤ 64
    omega
theorem tolds_len {row : List VStep} (hs : VM.smalls row) (hl : row.length = 3) : ∀ (ws : List (List Nat)), ((ws.map (VM.turns row)).flatMap Vapatb.threeTold).length ≤ 64 * ws.length
  | [] => Nat.le_refl _
  | ps :: ws => by
    have h1 := told_len (ps := ps) hs hl
    have h2 := tolds_len hs hl ws
    rw [List.map_cons, List.flatMap_cons, List.length_append, List.length_cons]
    omega
section
variable {P : Program} {w : World} {K : PySem.W.Frag} {mg : Str → Option Value} {base : Heap} {A : Adr}
theorem ok_73 (T : Txt K mg A) : FnOk P w K mg base CX0 9 A.f_73 A.d_73 ["held", "place"] (spDo A (aPlace .three 2)) := by
  refine T.F_73.ok sc_73 (fun vs H Q E h => ?_) (fun cdv A' outer s H vs Q E hr h => ?_)
  · obtain ⟨a, s, k, c, rest, rfl, _, _, _, ⟨i, t, rfl, _⟩, _⟩ := h
    rfl
  · obtain ⟨a, st, k0, c, rest, rfl, hh, hg, hk, ⟨i, t, rfl, rfl, ht, hi⟩, k⟩ := h
    obtain ⟨hri, hlow, ⟨u, hu⟩, hsm, hrl⟩ := hg.yes t ht
    have hh' := hh
    obtain ⟨dx, g, r, ha, hgr, ⟨as, hr1, hst⟩⟩ := hh'
    have hasl := hst.length
    have e1 : st.row[i]? = some st.row[i] := List.getElem?_eq_getElem (by omega)
    have e2 : st.row[i + 1]? = some st.row[i + 1] := List.getElem?_eq_getElem (by omega)
    have e3 : st.row[i + 2]? = some st.row[i + 2] := List.getElem?_eq_getElem hi
    generalize st.row[i] = p1 at e1
    generalize st.row[i + 1] = p2 at e2
    generalize st.row[i + 2] = p3 at e3
    have hrow3 : (st.row.drop i).take 3 = [p1, p2, p3] := by
      rw [drop_get e1, drop_get e2, drop_get e3]
      rfl
    have hsm3 : VM.smalls [p1, p2, p3] := by
      rw [← hrow3]
      exact VM.smalls_take 3 (VM.smalls_drop i hsm)
    dsimp only [Vapatb.step] at k
    rw [on_place ht (by omega), e1, e2, e3] at k
    dsimp only at k
    rw [VM.three1, VM.three2] at k
    refine ⟨_, (pss_cons (ps_set (i := 2) sc_73.nd rfl (Or.inl rfl) (pe_lst pa_nil))
        (pss_cons (ps_for PassesOwn.never rfl (pi_list (pe_lock (pe_call (ok_74 T) (hr.mono (by decide)) rfl T.mg_74 T.F_74.kp T.b_74 .nil pass0 (pa_cons (pe_slice sl_list (pe_fld (pv 0) rfl) (po_some (pv 1)) (po_some (pe_op op_add (pv 1) pe_int))) pa_nil)))) (pg_name (i := 3) sc_73.nd rfl (Or.inl rfl))
          (pss_one (ps_if (pt_cmp (pc_isN (pv 3)))
              (pss_one (ps_expr (pe_bm PySem.F.plainAttrs_list PySem.F.slot_list_append PySem.F.type_list_append mt_append (pv 2) (pa_cons pe_int pa_nil))))
              (pss_cons (ps_expr (pe_bm PySem.F.plainAttrs_list PySem.F.slot_list_append PySem.F.type_list_append mt_append (pv 2) (pa_cons pe_int pa_nil)))
                (pss_one (ps_for PassesOwn.never rfl (pi_list (pv 3)) (pg_name (i := 4) sc_73.nd rfl (Or.inl rfl))
                  (pss_one (ps_expr (pe_bm PySem.F.plainAttrs_list PySem.F.slot_list_extend PySem.F.type_list_extend mt_extend (pv 2) (pa_cons (pe_dyn0 (D_as_numbers T) (hr.mono (by decide)) (by decide +kernel) (pv 4)) pa_nil))))))))))
        (pss_one (ps_ret (pv 2))))), ?_⟩
    refine ⟨Nat.zero_le _, fun l gl => ?_⟩
    refine ⟨l, .lst [], upd_same, trivial, fun od => ?_⟩
    rw [upd_upd]
    have sL : Same H (upd H l (.frz od (.lst []))) := Same.new gl
    have hDL : upd H l (.frz od (.lst [])) l = some (.frz od (.lst [])) := upd_same
    generalize upd H l (.frz od (.lst [])) = HL at sL hDL
    refine ⟨_, rfl, _, _, _, _, _, rfl, sL _ _ ha, T.clRowOnTree, T.na_RowOnTree_row, kf2, _, rfl, _, rfl, _, rfl, _, _, rfl, rfl, _, rfl, r, _, rfl, SqL.of (sL _ _ hr1), fun l1 g1 => ?_⟩
    have ecut : cutV (as.map V.ref) (some (i : Int)) (some ((i : Int) + 3)) = ((as.drop i).take 3).map V.ref := by
      have : (i : Int) + 3 = ((i + 3 : Nat) : Int) := by omega
      rw [this, cut_both, refs_drop, refs_take]
      congr 2
      omega
    have s1 := Same.new (o := .lst (cutV (as.map V.ref) (some (i : Int)) (some ((i : Int) + 3)))) g1
    have hl1 : upd HL l1 (.lst (cutV (as.map V.ref) (some (i : Int)) (some ((i : Int) + 3)))) l1 = some (.lst (((as.drop i).take 3).map V.ref)) := by rw [upd_same, ecut]
    generalize upd HL l1 (.lst (cutV (as.map V.ref) (some (i : Int)) (some ((i : Int) + 3)))) = H1 at s1 hl1
    have hst3 : StepsAt (cs A) H1 ((as.drop i).take 3) [p1, p2, p3] := by
      rw [← hrow3]
      exact ((hst.drop i).take 3).mono (sL.trans s1)
    refine ⟨l1, [p1, p2, p3], rfl, ⟨_, hl1, hst3⟩, rfl, hsm3, fun H2 q os s2 hq hos => ?_⟩
    have hlf : H2 l = some (.frz od (.lst [])) := (s1.trans s2) _ _ hDL
    have sH2 : Same H H2 := (sL.trans s1).trans s2
    have of0 : Off H2 (upd H2 l (.lst [])) := Off.put hlf _
    refine ⟨hlf, q, rfl, ⟨_, SqL.of (mv_lst of0 hq)⟩, for_list (K := K) (a := q) (xs := os) (fun m σ H' => ∃ v3 v4 : Option V, σ = [some (.ref a), some (.int (i : Int)), some (.ref l), v3, v4] ∧ Same H H' ∧ Off H2 H' ∧ IL H' l (((ways.take m).map (VM.turns [p1, p2, p3])).flatMap Vapatb.threeTold))
      ⟨none, none, rfl, sH2.upd gl, of0, upd_same⟩ (fun m σ H' _ ⟨_, _, _, _, of, _⟩ => SqL.of (mv_lst of hq)) ?_ ?_⟩
    · rintro m x σ H' hx ⟨v3, v4, rfl, s', of, hl⟩
      obtain ⟨o, ho, hxo⟩ := hos.get' hx
      rw [List.getElem?_map] at ho
      cases ew : ways[m]? with
      | none => rw [ew] at ho; cases ho
      | some ps =>
        rw [ew] at ho
        have ho : VM.turns [p1, p2, p3] ps = o := Option.some.inj ho
        subst ho
        have hm2 : m < 2 := (List.getElem?_eq_some_iff.mp ew).1
        have hnext : ((ways.take (m + 1)).map (VM.turns [p1, p2, p3])).flatMap Vapatb.threeTold = ((ways.take m).map (VM.turns [p1, p2, p3])).flatMap Vapatb.threeTold ++ Vapatb.threeTold (VM.turns [p1, p2, p3] ps) := by
          rw [take_one ew, List.map_append, List.flatMap_append]
          simp
        have hbl := tolds_len (row := [p1, p2, p3]) hsm3 rfl (ways.take m)
        rw [List.length_take] at hbl
        generalize ((ways.take m).map (VM.turns [p1, p2, p3])).flatMap Vapatb.threeTold = out at hl hnext hbl
        refine ⟨_, rfl, _, rfl, ?_⟩
        cases et : VM.turns [p1, p2, p3] ps with
        | none =>
          rw [et] at hxo hnext
          have ex : x = .non := hxo
          subst ex
          refine iteT ⟨_, rfl, .inl ⟨rfl, _, SqL.of hl⟩, l, _, _, rfl, rfl, hl, lt_line (by rw [List.length_map]; omega), _, _, rfl, s'.upd gl, of.at_ hlf, ?_⟩
          show upd _ l _ l = _
          rw [upd_same, hnext, List.map_append]
          rfl
        | some rowz =>
          rw [et] at hxo hnext
          obtain ⟨lz, rfl, bs, hz1, hbs⟩ := hxo
          obtain ⟨hsz, hzl⟩ := VM.turns_keeps et hsm3
          have hzl : rowz.length = 3 := hzl
          have hbsl := hbs.length
          refine iteF ⟨_, rfl, .inl ⟨rfl, _, SqL.of hl⟩, l, _, _, rfl, rfl, hl, lt_line (by rw [List.length_map]; omega), ?_⟩
          have of1 : Off H2 (upd H' l (.lst (out.map V.int ++ [V.int 1]))) := of.at_ hlf
          refine ⟨_, rfl, lz, rfl, ⟨_, SqL.of (mv_lst of1 hz1)⟩, for_list (K := K) (a := lz) (xs := bs.map V.ref) (fun n σ H' => ∃ v4 : Option V, σ = [some (.ref a), some (.int (i : Int)), some (.ref l), some (.ref lz), v4] ∧ Same H H' ∧ Off H2 H' ∧ IL H' l (out ++ (1 :: (rowz.take n).flatMap VapatBase.flatStep)))
            ⟨_, rfl, s'.upd gl, of1, ?_⟩ (fun n σ H' _ ⟨_, _, _, of, _⟩ => SqL.of (mv_lst of hz1)) ?_ ?_⟩
          · show upd _ l _ l = _
            rw [upd_same, List.map_append]
            rfl
          · rintro n y σ H3 hy ⟨v4, rfl, s3, of3, hl3⟩
            obtain ⟨b, hb1, rfl⟩ := refs_get' hy
            obtain ⟨p, hp, hpb⟩ := hbs.get' hb1
            have hp3 := mv_step of3 hpb
            have hsp := hsz p (List.mem_of_getElem? hp)
            refine ⟨_, rfl, .inl ⟨rfl, _, SqL.of hl3⟩, _, rfl, b, p, rfl, trivial, hp3, b, p, rfl, rfl, hp3, hsp, fun H4 l2 _ s4 hl2 => ?_⟩
            refine ⟨l, l2, _, _, rfl, rfl, s4 _ _ hl3, hl2, le_line ?_, ?_⟩
            · have h1 := flats_len (VM.smalls_take n hsz)
              have h2 := flatStep_len hsp
              rw [List.length_map, List.length_map, List.length_append, List.length_cons]
              rw [List.length_take] at h1
              omega
            · refine ⟨_, rfl, (s3.trans s4).upd gl, (of3.same s4).at_ hlf, ?_⟩
              show upd _ l _ l = _
              rw [upd_same, take_one hp, List.flatMap_append, ← List.map_append]
              simp
          · rintro σ H3 ⟨v4, rfl, s3, of3, hl3⟩
            rw [List.length_map, hbsl, List.take_length] at hl3
            refine ⟨_, _, rfl, s3, of3, ?_⟩
            rw [hnext]
            exact hl3
    · rintro σ H' ⟨v3, v4, rfl, s', of, hl⟩
      have hol : os.length = 2 := hos.length
      rw [hol] at hl
      refine ⟨_, rfl, k H' l gl (.of s') (hh.mono s') ?_⟩
      have e : ((ways.take 2).map (VM.turns [p1, p2, p3])).flatMap Vapatb.threeTold = Vapatb.threeTold (VM.turns [p1, p2, p3] [0, 1, 0]) ++ Vapatb.threeTold (VM.turns [p1, p2, p3] [1, 0, 1]) := by
        show Vapatb.threeTold _ ++ (Vapatb.threeTold _ ++ []) = _
        rw [List.append_nil]
      rw [e] at hl
      exact hl
end
end P58
end
section
set_option Elab.async false
set_option linter.all false
set_option maxRecDepth 100000
set_option maxHeartbeats 1000000
namespace P58
open PySem PySem.Spec PyProof.Rows L2
def spSize (K : PySem.W.Frag) : Sp := fun vs H Q _ => ∃ (a : Addr) (ns : List Int) (i : Nat) (p : Int) (r t : List Int) (c : Vapatb.Call), vs = [.ref a, .int (i : Int)] ∧ SqL K H a (ns.map V.int) ∧ ns.drop i = p :: r ∧ VM.Told p r t c ∧ Q (.int (1 + ((r.length - t.length : Nat) : Int))) H
def spAnswer (A : Adr) : Sp := fun vs H Q _ => ∃ a s k c p l hs, vs = [.ref a, .int p, .ref l] ∧ HeldAt A H a s ∧ VM.Good k s ∧ k ≤ 80 ∧ IL H l hs ∧ VM.Told p hs [] c ∧ VM.lens c ∧
  ∀ H' r, H r = none → KeepBut a H H' → HeldAt A H' a (Vapatb.step s c).1 → IL H' r (Vapatb.step s c).2 → Q (.ref r) H'
theorem get_drop {l r : List Int} {i : Nat} {x : Int} (h : l.drop i = x :: r) : l[i]? = some x := by
  rw [← List.head?_drop, h]
  rfl
theorem next_drop {l r : List Int} {i : Nat} {x : Int} (h : l.drop i = x :: r) : l.drop (i + 1) = r := by
  rw [← List.tail_drop, h]
  rfl
inductive OkL (A : Adr) : Addr → Int → Prop
  | tree : OkL A A.f_72 0
  | step : OkL A A.f_71 1
inductive OkN (A : Adr) : Addr → Int → Prop
  | shown : OkN A A.f_70 2
  | outcome : OkN A A.f_57 3
  | turn : OkN A A.f_76 13
inductive OkP (A : Adr) : Addr → Int → Prop
  | commute : OkP A A.f_42 4
  | why : OkP A A.f_77 5
  | front : OkP A A.f_49 6
  | back : OkP A A.f_38 7
  | needs : OkP A A.f_56 8
  | neededBy : OkP A A.f_54 9
  | without : OkP A A.f_79 10
  | three : OkP A A.f_73 11
  | past : OkP A A.f_58 12
def spL (A : Adr) (c : Int) : Sp := if c = 0 then spDo A aTree else spDo A aStep
def spN (A : Adr) (c : Int) : Sp := if c = 2 then spDo A (aPlain .shown) else if c = 3 then spDo A (aPlain .outcome) else spDo A (aPlain .turn)
def spP (A : Adr) (c : Int) : Sp := if c = 4 then spDo A (aPlace .commute 1) else if c = 5 then spDo A (aPlace .why 1) else if c = 6 then spDo A (aPlace .front 0) else if c = 7 then spDo A (aPlace .back 0) else if c = 8 then spDo A (aPlace .needs 0) else if c = 9 then spDo A (aPlace .neededBy 0) else if c = 10 then spDo A (aPlace .without 0) else if c = 11 then spDo A (aPlace .three 2) else spDo A (aPlace .past 0)
section
variable {X : Cx} {A : Adr}
theorem DL (T : Txt X.K X.mg A) : DispF X (OkL A) 9 (spL A) := fun f c h => by
  cases h with
  | tree => exact ⟨_, _, (ok_72 T).mono (by decide), T.b_72, T.F_72.kp⟩
  | step => exact ⟨_, _, (ok_71 T).mono (by decide), T.b_71, T.F_71.kp⟩
theorem DN (T : Txt X.K X.mg A) : DispF X (OkN A) 9 (spN A) := fun f c h => by
  cases h with
  | shown => exact ⟨_, _, (ok_70 T).mono (by decide), T.b_70, T.F_70.kp⟩
  | outcome => exact ⟨_, _, (ok_57 T).mono (by decide), T.b_57, T.F_57.kp⟩
  | turn => exact ⟨_, _, (ok_76 T).mono (by decide), T.b_76, T.F_76.kp⟩
theorem DP (T : Txt X.K X.mg A) : DispF X (OkP A) 9 (spP A) := fun f c h => by
  cases h with
  | commute => exact ⟨_, _, (ok_42 T).mono (by decide), T.b_42, T.F_42.kp⟩
  | why => exact ⟨_, _, (ok_77 T).mono (by decide), T.b_77, T.F_77.kp⟩
  | front => exact ⟨_, _, (ok_49 T).mono (by decide), T.b_49, T.F_49.kp⟩
  | back => exact ⟨_, _, (ok_38 T).mono (by decide), T.b_38, T.F_38.kp⟩
  | needs => exact ⟨_, _, (ok_56 T).mono (by decide), T.b_56, T.F_56.kp⟩
  | neededBy => exact ⟨_, _, (ok_54 T).mono (by decide), T.b_54, T.F_54.kp⟩
  | without => exact ⟨_, _, (ok_79 T).mono (by decide), T.b_79, T.F_79.kp⟩
  | three => exact ⟨_, _, (ok_73 T).mono (by decide), T.b_73, T.F_73.kp⟩
  | past => exact ⟨_, _, (ok_58 T).mono (by decide), T.b_58, T.F_58.kp⟩
end
theorem gate {H : Hp} {g : V} {tr : Option VTree} {X Y : Prop} (hg : GroundAt H g tr) (h1 : tr = none → X) (h2 : ∀ t, tr = some t → Y) : if decide (g = V.non) = true then X else Y := by
  cases tr with
  | none =>
    have e : g = .non := hg
    rw [decide_eq_true e]
    exact iteT (h1 rfl)
  | some t =>
    obtain ⟨b, e, _⟩ := hg
    rw [decide_eq_false (by rw [e]; intro z; cases z)]
    exact iteF (h2 t rfl)
theorem no8 {A : Adr} {H : Hp} {Q : VK} {a : Addr} {st : Vapatb.State} {c : Vapatb.Call} (hh : HeldAt A H a st) (hn : st.tree = none) (hc : ∀ l, c ≠ .tree l)
    (k : ∀ H' r, H r = none → KeepBut a H H' → HeldAt A H' a (Vapatb.step st c).1 → IL H' r (Vapatb.step st c).2 → Q (.ref r) H') : [V.int (-8)].length ≤ sizeLine ∧ ∀ p, H p = none → Q (.ref p) (upd H p (.lst [V.int (-8)])) :=
  one_answer fun H' r gr s2 hr => k H' r gr (.of s2) (by rw [VM.step_notree hn hc]; exact hh.mono s2) (by rw [VM.step_notree hn hc]; exact hr)
theorem no2 {A : Adr} {H : Hp} {Q : VK} {a : Addr} {st : Vapatb.State} {c : Vapatb.Call} (hh : HeldAt A H a st) (e : Vapatb.step st c = (st, [-2]))
    (k : ∀ H' r, H r = none → KeepBut a H H' → HeldAt A H' a (Vapatb.step st c).1 → IL H' r (Vapatb.step st c).2 → Q (.ref r) H') : [V.int (-2)].length ≤ sizeLine ∧ ∀ p, H p = none → Q (.ref p) (upd H p (.lst [V.int (-2)])) :=
  one_answer fun H' r gr s2 hr => k H' r gr (.of s2) (by rw [e]; exact hh.mono s2) (by rw [e]; exact hr)
theorem num_ne {p q : Int} (h : p ≠ q) : decide (V.int p = V.int q) = false := decide_eq_false fun z => h (V.int.inj z)
section
variable {P : Program} {w : World} {K : PySem.W.Frag} {mg : Str → Option Value} {base : Heap} {A : Adr}
theorem ok_41 (T : Txt K mg A) : FnOk P w K mg base CX0 1 A.f_41 A.d_41 ["calls", "at"] (spSize K) := by
  refine T.F_41.ok sc_41 (fun vs H Q E h => ?_) (fun cdv A' outer s H vs Q E hr h => ?_)
  · obtain ⟨a, ns, i, p, r, t, c, rfl, _⟩ := h
    rfl
  · obtain ⟨a, ns, i, p, r, t, c, rfl, ha, hd, htd, k⟩ := h
    have hp := get_drop hd
    have hn := next_drop hd
    refine ⟨_, (pss_cons (ps_if (pt_cmpR op_in_g (pe_ix ix_list (pv 0) (pv 1) (fun _ _ => rfl)) (pe_gref rfl T.mgd_LIST_CALLS) (by with_unfolding_all rfl))
          (pss_one (ps_ret (pe_op op_add pe_int (pe_ix ix_list (pv 0) (pe_op op_add (pv 1) pe_int) (fun _ _ => rfl)))))
          pss_nil)
        (pss_one (ps_ret (pe_ifExp (pt_cmpR op_in_g (pe_ix ix_list (pv 0) (pv 1) (fun _ _ => rfl)) (pe_gref rfl T.mgd_PLAIN_CALLS) (by with_unfolding_all rfl)) pe_int pe_int)))), ?_⟩
    refine ⟨_, rfl, _, rfl, a, _, _, _, rfl, rfl, ha, atInt rfl hp, _, _, _, rfl, rfl, T.gd_LIST_CALLS, _, rfl, ?_⟩
    cases htd with
    | @tree n row t e =>
      have h1 := get_drop hn
      refine iteT ⟨_, rfl, _, rfl, _, _, rfl, rfl, a, _, _, _, rfl, rfl, ha, atInt (i := i + 1) (by omega) h1, _, _, rfl, rfl, ?_⟩
      have : (2 : Int) + n = 1 + (((n :: (row ++ t)).length - t.length : Nat) : Int) := by
        rw [e, List.length_cons, List.length_append]
        omega
      show Q (V.int ((2 : Int) + n)) H
      rw [this]
      exact k
    | @step n row t e =>
      have h1 := get_drop hn
      refine iteT ⟨_, rfl, _, rfl, _, _, rfl, rfl, a, _, _, _, rfl, rfl, ha, atInt (i := i + 1) (by omega) h1, _, _, rfl, rfl, ?_⟩
      have : (2 : Int) + n = 1 + (((n :: (row ++ t)).length - t.length : Nat) : Int) := by
        rw [e, List.length_cons, List.length_append]
        omega
      show Q (V.int ((2 : Int) + n)) H
      rw [this]
      exact k
    | shown =>
      refine iteF ⟨_, rfl, _, rfl, a, _, _, _, rfl, rfl, ha, atInt rfl hp, _, _, _, rfl, rfl, T.gd_PLAIN_CALLS, _, rfl, iteT ?_⟩
      rw [Nat.sub_self] at k
      exact k
    | outcome =>
      refine iteF ⟨_, rfl, _, rfl, a, _, _, _, rfl, rfl, ha, atInt rfl hp, _, _, _, rfl, rfl, T.gd_PLAIN_CALLS, _, rfl, iteT ?_⟩
      rw [Nat.sub_self] at k
      exact k
    | turn =>
      refine iteF ⟨_, rfl, _, rfl, a, _, _, _, rfl, rfl, ha, atInt rfl hp, _, _, _, rfl, rfl, T.gd_PLAIN_CALLS, _, rfl, iteT ?_⟩
      rw [Nat.sub_self] at k
      exact k
    | @commute j =>
      refine iteF ⟨_, rfl, _, rfl, a, _, _, _, rfl, rfl, ha, atInt rfl hp, _, _, _, rfl, rfl, T.gd_PLAIN_CALLS, _, rfl, iteF ?_⟩
      have : (2 : Int) = 1 + (((j :: t).length - t.length : Nat) : Int) := by
        rw [List.length_cons]
        omega
      rw [this]
      exact k
    | @why j =>
      refine iteF ⟨_, rfl, _, rfl, a, _, _, _, rfl, rfl, ha, atInt rfl hp, _, _, _, rfl, rfl, T.gd_PLAIN_CALLS, _, rfl, iteF ?_⟩
      have : (2 : Int) = 1 + (((j :: t).length - t.length : Nat) : Int) := by
        rw [List.length_cons]
        omega
      rw [this]
      exact k
    | @front j =>
      refine iteF ⟨_, rfl, _, rfl, a, _, _, _, rfl, rfl, ha, atInt rfl hp, _, _, _, rfl, rfl, T.gd_PLAIN_CALLS, _, rfl, iteF ?_⟩
      have : (2 : Int) = 1 + (((j :: t).length - t.length : Nat) : Int) := by
        rw [List.length_cons]
        omega
      rw [this]
      exact k
    | @back j =>
      refine iteF ⟨_, rfl, _, rfl, a, _, _, _, rfl, rfl, ha, atInt rfl hp, _, _, _, rfl, rfl, T.gd_PLAIN_CALLS, _, rfl, iteF ?_⟩
      have : (2 : Int) = 1 + (((j :: t).length - t.length : Nat) : Int) := by
        rw [List.length_cons]
        omega
      rw [this]
      exact k
    | @needs j =>
      refine iteF ⟨_, rfl, _, rfl, a, _, _, _, rfl, rfl, ha, atInt rfl hp, _, _, _, rfl, rfl, T.gd_PLAIN_CALLS, _, rfl, iteF ?_⟩
      have : (2 : Int) = 1 + (((j :: t).length - t.length : Nat) : Int) := by
        rw [List.length_cons]
        omega
      rw [this]
      exact k
    | @neededBy j =>
      refine iteF ⟨_, rfl, _, rfl, a, _, _, _, rfl, rfl, ha, atInt rfl hp, _, _, _, rfl, rfl, T.gd_PLAIN_CALLS, _, rfl, iteF ?_⟩
      have : (2 : Int) = 1 + (((j :: t).length - t.length : Nat) : Int) := by
        rw [List.length_cons]
        omega
      rw [this]
      exact k
    | @without j =>
      refine iteF ⟨_, rfl, _, rfl, a, _, _, _, rfl, rfl, ha, atInt rfl hp, _, _, _, rfl, rfl, T.gd_PLAIN_CALLS, _, rfl, iteF ?_⟩
      have : (2 : Int) = 1 + (((j :: t).length - t.length : Nat) : Int) := by
        rw [List.length_cons]
        omega
      rw [this]
      exact k
    | @three j =>
      refine iteF ⟨_, rfl, _, rfl, a, _, _, _, rfl, rfl, ha, atInt rfl hp, _, _, _, rfl, rfl, T.gd_PLAIN_CALLS, _, rfl, iteF ?_⟩
      have : (2 : Int) = 1 + (((j :: t).length - t.length : Nat) : Int) := by
        rw [List.length_cons]
        omega
      rw [this]
      exact k
    | @past j =>
      refine iteF ⟨_, rfl, _, rfl, a, _, _, _, rfl, rfl, ha, atInt rfl hp, _, _, _, rfl, rfl, T.gd_PLAIN_CALLS, _, rfl, iteF ?_⟩
      have : (2 : Int) = 1 + (((j :: t).length - t.length : Nat) : Int) := by
        rw [List.length_cons]
        omega
      rw [this]
      exact k
theorem ok_36 (T : Txt K mg A) : FnOk P w K mg base CX0 10 A.f_36 A.d_36 ["held", "call", "handed"] (spAnswer A) := by
  refine T.F_36.ok sc_36 (fun vs H Q E h => ?_) (fun cdv A' outer s H vs Q E hr h => ?_)
  · obtain ⟨a, st, k0, c, p, l, hs, rfl, _⟩ := h
    rfl
  · obtain ⟨a, st, k0, c, p, l, hs, rfl, hh, hg, hk, hl, htd, hlen, k⟩ := h
    have hh' := hh
    obtain ⟨dx, g, r, ha, hgr, ⟨as, hr1, hst⟩⟩ := hh'
    have hasl := hst.length
    refine ⟨_, (pss_cons (ps_if (PW.pt (pw_and (pt_cmp (pc_isN (pe_fld (pv 0) rfl))) (pw_and1 (pt_cmpR op_ne (pv 1) (pe_gi rfl T.g_TREE_CALL) (nomark _)))))
          (pss_one (ps_ret (pe_lst (pa_cons (pe_gi rfl T.g_NO_TREE) pa_nil))))
          pss_nil)
        (pss_cons (ps_if (pt_cmpR op_in_g (pv 1) (pe_gref rfl T.mgd_LIST_CALLS) (by with_unfolding_all rfl))
          (pss_one (ps_ret (pe_callF (DL T) (hr.mono (by decide)) (pe_ix ix_g (pe_gref rfl T.mgd_LIST_CALLS) (pv 1) (fun _ _ => rfl)) (pa_cons (pv 0) (pa_cons (pe_slice sl_list (pv 2) (po_some pe_int) po_none) pa_nil)))))
          pss_nil)
        (pss_cons (ps_if (pt_cmpR op_in_g (pv 1) (pe_gref rfl T.mgd_PLAIN_CALLS) (by with_unfolding_all rfl))
          (pss_one (ps_ret (pe_callF (DN T) (hr.mono (by decide)) (pe_ix ix_g (pe_gref rfl T.mgd_PLAIN_CALLS) (pv 1) (fun _ _ => rfl)) (pa_cons (pv 0) pa_nil))))
          pss_nil)
        (pss_cons (ps_set (i := 3) sc_36.nd rfl (Or.inl rfl) (pe_ix ix_list (pv 2) pe_int (fun _ _ => rfl)))
        (pss_cons (ps_if (pt_not (pt_chain op_le op_lt pe_int (pv 3) (pe_op op_sub (pe_callB call_len_seq (by rfl) T.n_len PySem.boot_len (pa_cons (pe_fld (pv 0) rfl) pa_nil)) (pe_gget2 (hu_of hr) (pe_gref rfl T.mgd_STEPS_BEHIND) (pv 1) pe_int ⟨rfl, rfl, rfl, rfl⟩))))
          (pss_one (ps_ret (pe_lst (pa_cons (pe_gi rfl T.g_NO_SUCH_STEP) pa_nil))))
          pss_nil)
        (pss_one (ps_ret (pe_callF (DP T) (hr.mono (by decide)) (pe_ix ix_g (pe_gref rfl T.mgd_PLACE_CALLS) (pv 1) (fun _ _ => rfl)) (pa_cons (pv 0) (pa_cons (pv 3) pa_nil)))))))))), ?_⟩
    refine ⟨_, rfl, _, _, _, _, _, rfl, ha, T.clRowOnTree, T.na_RowOnTree_ground, kf1, _, rfl, ?_⟩
    generalize ehs : hs = hs' at htd
    generalize et : ([] : List Int) = t' at htd
    cases htd with
    | @tree n row t e =>
      subst et
      rw [List.append_nil] at ehs
      refine (fun rest => gate hgr (fun _ => ⟨_, rfl, rfl, _, rfl, (by rw [decide_eq_true (show V.int 0 = V.int 0 from rfl)]; exact iteF rest)⟩) (fun _ _ => iteF rest)) ?_
      refine ⟨_, rfl, _, _, _, rfl, rfl, T.gd_LIST_CALLS, _, rfl, iteT ⟨_, rfl, _, _, _, _, rfl, rfl, T.gd_LIST_CALLS, rfl, _, _, rfl, OkL.tree, _, rfl, _, rfl, _, rfl, l, _, rfl, SqL.of hl, fun l1 g1 => ?_⟩⟩
      have ec : cutV (hs.map V.int) (some (1 : Int)) none = row.map V.int := by
        rw [show (1 : Int) = ((1 : Nat) : Int) from rfl, cut_from, ehs]
        rfl
      have s1 := Same.new (o := .lst (cutV (hs.map V.int) (some (1 : Int)) none)) g1
      have hl1 : upd H l1 (.lst (cutV (hs.map V.int) (some (1 : Int)) none)) l1 = some (.lst (row.map V.int)) := by rw [upd_same, ec]
      have hlen : row.length ≤ 100 := hlen
      exact ⟨a, st, k0, .tree row, _, rfl, hh.mono s1, hg, hk, ⟨l1, row, rfl, hl1, (by omega), rfl⟩, fun H' q gq kb hh' hr' => k H' q (s1.free gq) ((KeepBut.of s1).trans kb) hh' hr'⟩
    | @step n row t e =>
      subst et
      rw [List.append_nil] at ehs
      refine gate hgr (fun hn => ⟨_, rfl, rfl, _, rfl, (by rw [num_ne (by decide)]; exact iteT (no8 hh hn (fun _ z => by cases z) k))⟩) (fun t ht => iteF ?_)
      refine ⟨_, rfl, _, _, _, rfl, rfl, T.gd_LIST_CALLS, _, rfl, iteT ⟨_, rfl, _, _, _, _, rfl, rfl, T.gd_LIST_CALLS, rfl, _, _, rfl, OkL.step, _, rfl, _, rfl, _, rfl, l, _, rfl, SqL.of hl, fun l1 g1 => ?_⟩⟩
      have ec : cutV (hs.map V.int) (some (1 : Int)) none = row.map V.int := by
        rw [show (1 : Int) = ((1 : Nat) : Int) from rfl, cut_from, ehs]
        rfl
      have s1 := Same.new (o := .lst (cutV (hs.map V.int) (some (1 : Int)) none)) g1
      have hl1 : upd H l1 (.lst (cutV (hs.map V.int) (some (1 : Int)) none)) l1 = some (.lst (row.map V.int)) := by rw [upd_same, ec]
      have hlen : row.length ≤ 30 := hlen
      exact ⟨a, st, k0, .step row, _, rfl, hh.mono s1, hg, hk, ⟨l1, row, t, rfl, hl1, (by omega), rfl, ht⟩, fun H' q gq kb hh' hr' => k H' q (s1.free gq) ((KeepBut.of s1).trans kb) hh' hr'⟩
    | shown =>
      refine gate hgr (fun hn => ⟨_, rfl, rfl, _, rfl, (by rw [num_ne (by decide)]; exact iteT (no8 hh hn (fun _ z => by cases z) k))⟩) (fun t ht => iteF ?_)
      refine ⟨_, rfl, _, _, _, rfl, rfl, T.gd_LIST_CALLS, _, rfl, iteF ⟨_, rfl, _, _, _, rfl, rfl, T.gd_PLAIN_CALLS, _, rfl, iteT ⟨_, rfl, _, _, _, _, rfl, rfl, T.gd_PLAIN_CALLS, rfl, _, _, rfl, OkN.shown, _, rfl, ?_⟩⟩⟩
      exact ⟨a, st, k0, .shown, _, rfl, hh, hg, hk, ⟨t, rfl, rfl, ht⟩, k⟩
    | outcome =>
      refine gate hgr (fun hn => ⟨_, rfl, rfl, _, rfl, (by rw [num_ne (by decide)]; exact iteT (no8 hh hn (fun _ z => by cases z) k))⟩) (fun t ht => iteF ?_)
      refine ⟨_, rfl, _, _, _, rfl, rfl, T.gd_LIST_CALLS, _, rfl, iteF ⟨_, rfl, _, _, _, rfl, rfl, T.gd_PLAIN_CALLS, _, rfl, iteT ⟨_, rfl, _, _, _, _, rfl, rfl, T.gd_PLAIN_CALLS, rfl, _, _, rfl, OkN.outcome, _, rfl, ?_⟩⟩⟩
      exact ⟨a, st, k0, .outcome, _, rfl, hh, hg, hk, ⟨t, rfl, rfl, ht⟩, k⟩
    | turn =>
      refine gate hgr (fun hn => ⟨_, rfl, rfl, _, rfl, (by rw [num_ne (by decide)]; exact iteT (no8 hh hn (fun _ z => by cases z) k))⟩) (fun t ht => iteF ?_)
      refine ⟨_, rfl, _, _, _, rfl, rfl, T.gd_LIST_CALLS, _, rfl, iteF ⟨_, rfl, _, _, _, rfl, rfl, T.gd_PLAIN_CALLS, _, rfl, iteT ⟨_, rfl, _, _, _, _, rfl, rfl, T.gd_PLAIN_CALLS, rfl, _, _, rfl, OkN.turn, _, rfl, ?_⟩⟩⟩
      exact ⟨a, st, k0, .turn, _, rfl, hh, hg, hk, ⟨t, rfl, rfl, ht⟩, k⟩
    | @commute j =>
      subst et
      refine gate hgr (fun hn => ⟨_, rfl, rfl, _, rfl, (by rw [num_ne (by decide)]; exact iteT (no8 hh hn (fun _ z => by cases z) k))⟩) (fun t ht => iteF ?_)
      rw [ehs] at hl
      refine ⟨_, rfl, _, _, _, rfl, rfl, T.gd_LIST_CALLS, _, rfl, iteF ⟨_, rfl, _, _, _, rfl, rfl, T.gd_PLAIN_CALLS, _, rfl, iteF ?_⟩⟩
      have no : ¬ (0 ≤ j ∧ j < (st.row.length : Int) - 1) → Vapatb.step st (.commute j) = (st, [-2]) := fun hno => VM.commute_no ht hno
      refine ⟨_, rfl, l, _, _, _, rfl, rfl, SqL.of hl, at_of (j := 0) rfl rfl, _, rfl, _, _, rfl, rfl, _, rfl, ite2 (fun h0 => ?_) (fun h0 => ?_)⟩
      · have h0 : 0 ≤ j := of_decide_eq_true h0
        refine ⟨_, rfl, _, _, _, _, _, rfl, ha, T.clRowOnTree, T.na_RowOnTree_row, kf2, r, _, rfl, .inl (SqL.of hr1), _, _, rfl, T.gd_STEPS_BEHIND, _, rfl, _, rfl, _, (1 : Int), rfl, rfl, _, _, rfl, rfl, _, rfl, ?_⟩
        by_cases h1 : j < (st.row.length : Int) - 1
        · rw [decide_eq_true (by rw [List.length_map, hasl]; exact h1)]
          obtain ⟨m, rfl⟩ : ∃ m : Nat, j = (m : Int) := ⟨j.toNat, by omega⟩
          refine iteF ⟨_, rfl, _, _, _, _, rfl, rfl, T.gd_PLACE_CALLS, rfl, _, _, rfl, OkP.commute, _, rfl, _, rfl, ?_⟩
          exact ⟨a, st, k0, .commute (m : Int), _, rfl, hh, hg, hk, ⟨m, t, rfl, rfl, ht, by omega⟩, k⟩
        · rw [decide_eq_false (by rw [List.length_map, hasl]; exact h1)]
          have e := no (fun z => h1 z.2)
          exact iteT (no2 hh e k)
      · have h0 : ¬ 0 ≤ j := fun z => h0 (decide_eq_true z)
        have e := no (fun z => h0 z.1)
        exact ⟨_, rfl, iteT (no2 hh e k)⟩
    | @why j =>
      subst et
      refine gate hgr (fun hn => ⟨_, rfl, rfl, _, rfl, (by rw [num_ne (by decide)]; exact iteT (no8 hh hn (fun _ z => by cases z) k))⟩) (fun t ht => iteF ?_)
      rw [ehs] at hl
      refine ⟨_, rfl, _, _, _, rfl, rfl, T.gd_LIST_CALLS, _, rfl, iteF ⟨_, rfl, _, _, _, rfl, rfl, T.gd_PLAIN_CALLS, _, rfl, iteF ?_⟩⟩
      have no : ¬ (0 ≤ j ∧ j < (st.row.length : Int) - 1) → Vapatb.step st (.why j) = (st, [-2]) := fun hno => VM.why_no ht hno
      refine ⟨_, rfl, l, _, _, _, rfl, rfl, SqL.of hl, at_of (j := 0) rfl rfl, _, rfl, _, _, rfl, rfl, _, rfl, ite2 (fun h0 => ?_) (fun h0 => ?_)⟩
      · have h0 : 0 ≤ j := of_decide_eq_true h0
        refine ⟨_, rfl, _, _, _, _, _, rfl, ha, T.clRowOnTree, T.na_RowOnTree_row, kf2, r, _, rfl, .inl (SqL.of hr1), _, _, rfl, T.gd_STEPS_BEHIND, _, rfl, _, rfl, _, (1 : Int), rfl, rfl, _, _, rfl, rfl, _, rfl, ?_⟩
        by_cases h1 : j < (st.row.length : Int) - 1
        · rw [decide_eq_true (by rw [List.length_map, hasl]; exact h1)]
          obtain ⟨m, rfl⟩ : ∃ m : Nat, j = (m : Int) := ⟨j.toNat, by omega⟩
          refine iteF ⟨_, rfl, _, _, _, _, rfl, rfl, T.gd_PLACE_CALLS, rfl, _, _, rfl, OkP.why, _, rfl, _, rfl, ?_⟩
          exact ⟨a, st, k0, .why (m : Int), _, rfl, hh, hg, hk, ⟨m, t, rfl, rfl, ht, by omega⟩, k⟩
        · rw [decide_eq_false (by rw [List.length_map, hasl]; exact h1)]
          have e := no (fun z => h1 z.2)
          exact iteT (no2 hh e k)
      · have h0 : ¬ 0 ≤ j := fun z => h0 (decide_eq_true z)
        have e := no (fun z => h0 z.1)
        exact ⟨_, rfl, iteT (no2 hh e k)⟩
    | @front j =>
      subst et
      refine gate hgr (fun hn => ⟨_, rfl, rfl, _, rfl, (by rw [num_ne (by decide)]; exact iteT (no8 hh hn (fun _ z => by cases z) k))⟩) (fun t ht => iteF ?_)
      rw [ehs] at hl
      refine ⟨_, rfl, _, _, _, rfl, rfl, T.gd_LIST_CALLS, _, rfl, iteF ⟨_, rfl, _, _, _, rfl, rfl, T.gd_PLAIN_CALLS, _, rfl, iteF ?_⟩⟩
      have no : ¬ (0 ≤ j ∧ j < (st.row.length : Int) - 0) → Vapatb.step st (.front j) = (st, [-2]) := fun hno => by dsimp only [Vapatb.step, Vapatb.doFront, Vapatb.doBack]; exact VM.onStep_no ht (fun z => hno ⟨z.1, by omega⟩) _
      refine ⟨_, rfl, l, _, _, _, rfl, rfl, SqL.of hl, at_of (j := 0) rfl rfl, _, rfl, _, _, rfl, rfl, _, rfl, ite2 (fun h0 => ?_) (fun h0 => ?_)⟩
      · have h0 : 0 ≤ j := of_decide_eq_true h0
        refine ⟨_, rfl, _, _, _, _, _, rfl, ha, T.clRowOnTree, T.na_RowOnTree_row, kf2, r, _, rfl, .inl (SqL.of hr1), _, _, rfl, T.gd_STEPS_BEHIND, _, rfl, _, rfl, _, (0 : Int), rfl, rfl, _, _, rfl, rfl, _, rfl, ?_⟩
        by_cases h1 : j < (st.row.length : Int) - 0
        · rw [decide_eq_true (by rw [List.length_map, hasl]; exact h1)]
          obtain ⟨m, rfl⟩ : ∃ m : Nat, j = (m : Int) := ⟨j.toNat, by omega⟩
          refine iteF ⟨_, rfl, _, _, _, _, rfl, rfl, T.gd_PLACE_CALLS, rfl, _, _, rfl, OkP.front, _, rfl, _, rfl, ?_⟩
          exact ⟨a, st, k0, .front (m : Int), _, rfl, hh, hg, hk, ⟨m, t, rfl, rfl, ht, by omega⟩, k⟩
        · rw [decide_eq_false (by rw [List.length_map, hasl]; exact h1)]
          have e := no (fun z => h1 z.2)
          exact iteT (no2 hh e k)
      · have h0 : ¬ 0 ≤ j := fun z => h0 (decide_eq_true z)
        have e := no (fun z => h0 z.1)
        exact ⟨_, rfl, iteT (no2 hh e k)⟩
    | @back j =>
      subst et
      refine gate hgr (fun hn => ⟨_, rfl, rfl, _, rfl, (by rw [num_ne (by decide)]; exact iteT (no8 hh hn (fun _ z => by cases z) k))⟩) (fun t ht => iteF ?_)
      rw [ehs] at hl
      refine ⟨_, rfl, _, _, _, rfl, rfl, T.gd_LIST_CALLS, _, rfl, iteF ⟨_, rfl, _, _, _, rfl, rfl, T.gd_PLAIN_CALLS, _, rfl, iteF ?_⟩⟩
      have no : ¬ (0 ≤ j ∧ j < (st.row.length : Int) - 0) → Vapatb.step st (.back j) = (st, [-2]) := fun hno => by dsimp only [Vapatb.step, Vapatb.doFront, Vapatb.doBack]; exact VM.onStep_no ht (fun z => hno ⟨z.1, by omega⟩) _
      refine ⟨_, rfl, l, _, _, _, rfl, rfl, SqL.of hl, at_of (j := 0) rfl rfl, _, rfl, _, _, rfl, rfl, _, rfl, ite2 (fun h0 => ?_) (fun h0 => ?_)⟩
      · have h0 : 0 ≤ j := of_decide_eq_true h0
        refine ⟨_, rfl, _, _, _, _, _, rfl, ha, T.clRowOnTree, T.na_RowOnTree_row, kf2, r, _, rfl, .inl (SqL.of hr1), _, _, rfl, T.gd_STEPS_BEHIND, _, rfl, _, rfl, _, (0 : Int), rfl, rfl, _, _, rfl, rfl, _, rfl, ?_⟩
        by_cases h1 : j < (st.row.length : Int) - 0
        · rw [decide_eq_true (by rw [List.length_map, hasl]; exact h1)]
          obtain ⟨m, rfl⟩ : ∃ m : Nat, j = (m : Int) := ⟨j.toNat, by omega⟩
          refine iteF ⟨_, rfl, _, _, _, _, rfl, rfl, T.gd_PLACE_CALLS, rfl, _, _, rfl, OkP.back, _, rfl, _, rfl, ?_⟩
          exact ⟨a, st, k0, .back (m : Int), _, rfl, hh, hg, hk, ⟨m, t, rfl, rfl, ht, by omega⟩, k⟩
        · rw [decide_eq_false (by rw [List.length_map, hasl]; exact h1)]
          have e := no (fun z => h1 z.2)
          exact iteT (no2 hh e k)
      · have h0 : ¬ 0 ≤ j := fun z => h0 (decide_eq_true z)
        have e := no (fun z => h0 z.1)
        exact ⟨_, rfl, iteT (no2 hh e k)⟩
    | @needs j =>
      subst et
      refine gate hgr (fun hn => ⟨_, rfl, rfl, _, rfl, (by rw [num_ne (by decide)]; exact iteT (no8 hh hn (fun _ z => by cases z) k))⟩) (fun t ht => iteF ?_)
      rw [ehs] at hl
      refine ⟨_, rfl, _, _, _, rfl, rfl, T.gd_LIST_CALLS, _, rfl, iteF ⟨_, rfl, _, _, _, rfl, rfl, T.gd_PLAIN_CALLS, _, rfl, iteF ?_⟩⟩
      have no : ¬ (0 ≤ j ∧ j < (st.row.length : Int) - 0) → Vapatb.step st (.needs j) = (st, [-2]) := fun hno => by dsimp only [Vapatb.step, Vapatb.doFront, Vapatb.doBack]; exact VM.onStep_no ht (fun z => hno ⟨z.1, by omega⟩) _
      refine ⟨_, rfl, l, _, _, _, rfl, rfl, SqL.of hl, at_of (j := 0) rfl rfl, _, rfl, _, _, rfl, rfl, _, rfl, ite2 (fun h0 => ?_) (fun h0 => ?_)⟩
      · have h0 : 0 ≤ j := of_decide_eq_true h0
        refine ⟨_, rfl, _, _, _, _, _, rfl, ha, T.clRowOnTree, T.na_RowOnTree_row, kf2, r, _, rfl, .inl (SqL.of hr1), _, _, rfl, T.gd_STEPS_BEHIND, _, rfl, _, rfl, _, (0 : Int), rfl, rfl, _, _, rfl, rfl, _, rfl, ?_⟩
        by_cases h1 : j < (st.row.length : Int) - 0
        · rw [decide_eq_true (by rw [List.length_map, hasl]; exact h1)]
          obtain ⟨m, rfl⟩ : ∃ m : Nat, j = (m : Int) := ⟨j.toNat, by omega⟩
          refine iteF ⟨_, rfl, _, _, _, _, rfl, rfl, T.gd_PLACE_CALLS, rfl, _, _, rfl, OkP.needs, _, rfl, _, rfl, ?_⟩
          exact ⟨a, st, k0, .needs (m : Int), _, rfl, hh, hg, hk, ⟨m, t, rfl, rfl, ht, by omega⟩, k⟩
        · rw [decide_eq_false (by rw [List.length_map, hasl]; exact h1)]
          have e := no (fun z => h1 z.2)
          exact iteT (no2 hh e k)
      · have h0 : ¬ 0 ≤ j := fun z => h0 (decide_eq_true z)
        have e := no (fun z => h0 z.1)
        exact ⟨_, rfl, iteT (no2 hh e k)⟩
    | @neededBy j =>
      subst et
      refine gate hgr (fun hn => ⟨_, rfl, rfl, _, rfl, (by rw [num_ne (by decide)]; exact iteT (no8 hh hn (fun _ z => by cases z) k))⟩) (fun t ht => iteF ?_)
      rw [ehs] at hl
      refine ⟨_, rfl, _, _, _, rfl, rfl, T.gd_LIST_CALLS, _, rfl, iteF ⟨_, rfl, _, _, _, rfl, rfl, T.gd_PLAIN_CALLS, _, rfl, iteF ?_⟩⟩
      have no : ¬ (0 ≤ j ∧ j < (st.row.length : Int) - 0) → Vapatb.step st (.neededBy j) = (st, [-2]) := fun hno => by dsimp only [Vapatb.step, Vapatb.doFront, Vapatb.doBack]; exact VM.onStep_no ht (fun z => hno ⟨z.1, by omega⟩) _
      refine ⟨_, rfl, l, _, _, _, rfl, rfl, SqL.of hl, at_of (j := 0) rfl rfl, _, rfl, _, _, rfl, rfl, _, rfl, ite2 (fun h0 => ?_) (fun h0 => ?_)⟩
      · have h0 : 0 ≤ j := of_decide_eq_true h0
        refine ⟨_, rfl, _, _, _, _, _, rfl, ha, T.clRowOnTree, T.na_RowOnTree_row, kf2, r, _, rfl, .inl (SqL.of hr1), _, _, rfl, T.gd_STEPS_BEHIND, _, rfl, _, rfl, _, (0 : Int), rfl, rfl, _, _, rfl, rfl, _, rfl, ?_⟩
        by_cases h1 : j < (st.row.length : Int) - 0
        · rw [decide_eq_true (by rw [List.length_map, hasl]; exact h1)]
          obtain ⟨m, rfl⟩ : ∃ m : Nat, j = (m : Int) := ⟨j.toNat, by omega⟩
          refine iteF ⟨_, rfl, _, _, _, _, rfl, rfl, T.gd_PLACE_CALLS, rfl, _, _, rfl, OkP.neededBy, _, rfl, _, rfl, ?_⟩
          exact ⟨a, st, k0, .neededBy (m : Int), _, rfl, hh, hg, hk, ⟨m, t, rfl, rfl, ht, by omega⟩, k⟩
        · rw [decide_eq_false (by rw [List.length_map, hasl]; exact h1)]
          have e := no (fun z => h1 z.2)
          exact iteT (no2 hh e k)
      · have h0 : ¬ 0 ≤ j := fun z => h0 (decide_eq_true z)
        have e := no (fun z => h0 z.1)
        exact ⟨_, rfl, iteT (no2 hh e k)⟩
    | @without j =>
      subst et
      refine gate hgr (fun hn => ⟨_, rfl, rfl, _, rfl, (by rw [num_ne (by decide)]; exact iteT (no8 hh hn (fun _ z => by cases z) k))⟩) (fun t ht => iteF ?_)
      rw [ehs] at hl
      refine ⟨_, rfl, _, _, _, rfl, rfl, T.gd_LIST_CALLS, _, rfl, iteF ⟨_, rfl, _, _, _, rfl, rfl, T.gd_PLAIN_CALLS, _, rfl, iteF ?_⟩⟩
      have no : ¬ (0 ≤ j ∧ j < (st.row.length : Int) - 0) → Vapatb.step st (.without j) = (st, [-2]) := fun hno => by dsimp only [Vapatb.step, Vapatb.doFront, Vapatb.doBack]; exact VM.onStep_no ht (fun z => hno ⟨z.1, by omega⟩) _
      refine ⟨_, rfl, l, _, _, _, rfl, rfl, SqL.of hl, at_of (j := 0) rfl rfl, _, rfl, _, _, rfl, rfl, _, rfl, ite2 (fun h0 => ?_) (fun h0 => ?_)⟩
      · have h0 : 0 ≤ j := of_decide_eq_true h0
        refine ⟨_, rfl, _, _, _, _, _, rfl, ha, T.clRowOnTree, T.na_RowOnTree_row, kf2, r, _, rfl, .inl (SqL.of hr1), _, _, rfl, T.gd_STEPS_BEHIND, _, rfl, _, rfl, _, (0 : Int), rfl, rfl, _, _, rfl, rfl, _, rfl, ?_⟩
        by_cases h1 : j < (st.row.length : Int) - 0
        · rw [decide_eq_true (by rw [List.length_map, hasl]; exact h1)]
          obtain ⟨m, rfl⟩ : ∃ m : Nat, j = (m : Int) := ⟨j.toNat, by omega⟩
          refine iteF ⟨_, rfl, _, _, _, _, rfl, rfl, T.gd_PLACE_CALLS, rfl, _, _, rfl, OkP.without, _, rfl, _, rfl, ?_⟩
          exact ⟨a, st, k0, .without (m : Int), _, rfl, hh, hg, hk, ⟨m, t, rfl, rfl, ht, by omega⟩, k⟩
        · rw [decide_eq_false (by rw [List.length_map, hasl]; exact h1)]
          have e := no (fun z => h1 z.2)
          exact iteT (no2 hh e k)
      · have h0 : ¬ 0 ≤ j := fun z => h0 (decide_eq_true z)
        have e := no (fun z => h0 z.1)
        exact ⟨_, rfl, iteT (no2 hh e k)⟩
    | @three j =>
      subst et
      refine gate hgr (fun hn => ⟨_, rfl, rfl, _, rfl, (by rw [num_ne (by decide)]; exact iteT (no8 hh hn (fun _ z => by cases z) k))⟩) (fun t ht => iteF ?_)
      rw [ehs] at hl
      refine ⟨_, rfl, _, _, _, rfl, rfl, T.gd_LIST_CALLS, _, rfl, iteF ⟨_, rfl, _, _, _, rfl, rfl, T.gd_PLAIN_CALLS, _, rfl, iteF ?_⟩⟩
      have no : ¬ (0 ≤ j ∧ j < (st.row.length : Int) - 2) → Vapatb.step st (.three j) = (st, [-2]) := fun hno => VM.three_no ht hno
      refine ⟨_, rfl, l, _, _, _, rfl, rfl, SqL.of hl, at_of (j := 0) rfl rfl, _, rfl, _, _, rfl, rfl, _, rfl, ite2 (fun h0 => ?_) (fun h0 => ?_)⟩
      · have h0 : 0 ≤ j := of_decide_eq_true h0
        refine ⟨_, rfl, _, _, _, _, _, rfl, ha, T.clRowOnTree, T.na_RowOnTree_row, kf2, r, _, rfl, .inl (SqL.of hr1), _, _, rfl, T.gd_STEPS_BEHIND, _, rfl, _, rfl, _, (2 : Int), rfl, rfl, _, _, rfl, rfl, _, rfl, ?_⟩
        by_cases h1 : j < (st.row.length : Int) - 2
        · rw [decide_eq_true (by rw [List.length_map, hasl]; exact h1)]
          obtain ⟨m, rfl⟩ : ∃ m : Nat, j = (m : Int) := ⟨j.toNat, by omega⟩
          refine iteF ⟨_, rfl, _, _, _, _, rfl, rfl, T.gd_PLACE_CALLS, rfl, _, _, rfl, OkP.three, _, rfl, _, rfl, ?_⟩
          exact ⟨a, st, k0, .three (m : Int), _, rfl, hh, hg, hk, ⟨m, t, rfl, rfl, ht, by omega⟩, k⟩
        · rw [decide_eq_false (by rw [List.length_map, hasl]; exact h1)]
          have e := no (fun z => h1 z.2)
          exact iteT (no2 hh e k)
      · have h0 : ¬ 0 ≤ j := fun z => h0 (decide_eq_true z)
        have e := no (fun z => h0 z.1)
        exact ⟨_, rfl, iteT (no2 hh e k)⟩
    | @past j =>
      subst et
      refine gate hgr (fun hn => ⟨_, rfl, rfl, _, rfl, (by rw [num_ne (by decide)]; exact iteT (no8 hh hn (fun _ z => by cases z) k))⟩) (fun t ht => iteF ?_)
      rw [ehs] at hl
      refine ⟨_, rfl, _, _, _, rfl, rfl, T.gd_LIST_CALLS, _, rfl, iteF ⟨_, rfl, _, _, _, rfl, rfl, T.gd_PLAIN_CALLS, _, rfl, iteF ?_⟩⟩
      have no : ¬ (0 ≤ j ∧ j < (st.row.length : Int) - 0) → Vapatb.step st (.past j) = (st, [-2]) := fun hno => by dsimp only [Vapatb.step, Vapatb.doFront, Vapatb.doBack]; exact VM.onStep_no ht (fun z => hno ⟨z.1, by omega⟩) _
      refine ⟨_, rfl, l, _, _, _, rfl, rfl, SqL.of hl, at_of (j := 0) rfl rfl, _, rfl, _, _, rfl, rfl, _, rfl, ite2 (fun h0 => ?_) (fun h0 => ?_)⟩
      · have h0 : 0 ≤ j := of_decide_eq_true h0
        refine ⟨_, rfl, _, _, _, _, _, rfl, ha, T.clRowOnTree, T.na_RowOnTree_row, kf2, r, _, rfl, .inl (SqL.of hr1), _, _, rfl, T.gd_STEPS_BEHIND, _, rfl, _, rfl, _, (0 : Int), rfl, rfl, _, _, rfl, rfl, _, rfl, ?_⟩
        by_cases h1 : j < (st.row.length : Int) - 0
        · rw [decide_eq_true (by rw [List.length_map, hasl]; exact h1)]
          obtain ⟨m, rfl⟩ : ∃ m : Nat, j = (m : Int) := ⟨j.toNat, by omega⟩
          refine iteF ⟨_, rfl, _, _, _, _, rfl, rfl, T.gd_PLACE_CALLS, rfl, _, _, rfl, OkP.past, _, rfl, _, rfl, ?_⟩
          exact ⟨a, st, k0, .past (m : Int), _, rfl, hh, hg, hk, ⟨m, t, rfl, rfl, ht, by omega⟩, k⟩
        · rw [decide_eq_false (by rw [List.length_map, hasl]; exact h1)]
          have e := no (fun z => h1 z.2)
          exact iteT (no2 hh e k)
      · have h0 : ¬ 0 ≤ j := fun z => h0 (decide_eq_true z)
        have e := no (fun z => h0 z.1)
        exact ⟨_, rfl, iteT (no2 hh e k)⟩
end
end P58
end
section
set_option Elab.async false
set_option linter.all false
set_option maxRecDepth 100000
set_option maxHeartbeats 1000000
namespace P58
open PySem PySem.Spec PyProof.Rows L2
theorem told_cut {p : Int} {r t : List Int} {c : Vapatb.Call} (h : VM.Told p r t c) : ∃ hs, r = hs ++ t ∧ VM.Told p hs [] c := by
  cases h with
  | @tree n row t e => exact ⟨n :: row, rfl, by have := VM.Told.tree (t := []) e; rw [List.append_nil] at this; exact this⟩
  | @step n row t e => exact ⟨n :: row, rfl, by have := VM.Told.step (t := []) e; rw [List.append_nil] at this; exact this⟩
  | shown => exact ⟨[], rfl, .shown⟩
  | outcome => exact ⟨[], rfl, .outcome⟩
  | @commute i => exact ⟨[i], rfl, .commute⟩
  | @why i => exact ⟨[i], rfl, .why⟩
  | @front i => exact ⟨[i], rfl, .front⟩
  | @back i => exact ⟨[i], rfl, .back⟩
  | @needs i => exact ⟨[i], rfl, .needs⟩
  | @neededBy i => exact ⟨[i], rfl, .neededBy⟩
  | @without i => exact ⟨[i], rfl, .without⟩
  | @three i => exact ⟨[i], rfl, .three⟩
  | @past i => exact ⟨[i], rfl, .past⟩
  | turn => exact ⟨[], rfl, .turn⟩
theorem keep_seq {A : Adr} {K : PySem.W.Frag} {H H' : Hp} {a b : Addr} {xs : List V} (k : KeepBut a H H') (ih : IsHeld A H a) (h : SqL K H b xs) : SqL K H' b xs := by
  obtain ⟨dy, g, r, e⟩ := ih
  rcases h with (h | ⟨o, h⟩) | h
  · exact .inl (.inl (k _ _ h (ne_of h e (by intro z; cases z))))
  · exact .inl (.inr ⟨o, k _ _ h (ne_of h e (by intro z; cases z))⟩)
  · exact .inr h
theorem off_held {A : Adr} {H : Hp} {o a : Addr} {od : Obj} {u : HO} {s : Vapatb.State} (ho : H o = some (.frz od u)) (h : HeldAt A H a s) (x : HO) : HeldAt A (upd H o x) a s :=
  mv_held (fun b y hb hn => by rw [upd_ne (fun z => by rw [z, ho] at hb; cases hb; exact hn _ _ rfl)]; exact hb) h
def spInitHeld (A : Adr) : Sp := fun vs H Q _ => ∃ p dx, vs = [.ref p] ∧ H p = some (.ins A.cRowOnTree dx []) ∧ ∀ (H' : Hp) (r : Addr), H' p = some (.ins A.cRowOnTree dx (heldF .non (.ref r))) → H' r = some (.lst []) → (∀ b o, H b = some o → b ≠ p → H' b = some o) → Q .non H'
def spAnswers (K : PySem.W.Frag) : Sp := fun vs H Q _ => ∃ (a : Addr) (ns : List Int), vs = [.ref a] ∧ SqL K H a (ns.map V.int) ∧ PyVapatb.answers_asked ns = true ∧ ∀ (H' : Hp) (p : Addr), H' p = some (.lst ((PyVapatb.answers ns).map V.int)) → Q (.ref p) H'
section
variable {P : Program} {w : World} {K : PySem.W.Frag} {mg : Str → Option Value} {base : Heap} {A : Adr}
theorem ok_26 (T : Txt K mg A) : FnOk P w K mg base CX0 1 A.f_26 A.d_26 ["self"] (spInitHeld A) := by
  refine T.F_26.ok sc_26 (fun vs H Q E h => ?_) (fun cdv A' outer s H vs Q E hr h => ?_)
  · obtain ⟨p, dx, rfl, _⟩ := h
    rfl
  · obtain ⟨p, dx, rfl, hp, k⟩ := h
    refine ⟨_, (pss_cons (ps_fld (pv 0) pe_non rfl)
        (pss_one (ps_fld (pv 0) (pe_lst pa_nil) rfl))), ?_⟩
    refine ⟨_, rfl, p, _, dx, [], rfl, hp, T.clRowOnTree, T.na_RowOnTree_ground, (by show 0 < 1000; decide), ?_⟩
    refine ⟨Nat.zero_le _, fun r gr => ?_⟩
    have hp1 := (Same.new (o := .lst []) gr) _ _ (upd_same (H := H) (a := p) (o := .ins A.cRowOnTree dx (putF "ground" .non [])))
    refine ⟨_, rfl, p, _, dx, _, rfl, hp1, T.clRowOnTree, T.na_RowOnTree_row, (by show 1 < 1000; decide), ?_⟩
    rw [show putF "ground" V.non [] = ([("ground", V.non)] : List (Str × V)) from rfl, pk0]
    have hrp : r ≠ p := fun z => by rw [z, upd_same] at gr; cases gr
    refine k _ r upd_same (by rw [upd_ne hrp, upd_same]) fun b o e hb => ?_
    rw [upd_ne hb]
    refine (Same.new gr) _ _ ?_
    rw [upd_ne hb]
    exact e
theorem ok_37 (T : Txt K mg A) : FnOk P w K mg base CX0 12 A.f_37 A.d_37 ["calls"] (spAnswers K) := by
  refine T.F_37.ok sc_37 (fun vs H Q E h => ?_) (fun cdv A' outer s H vs Q E hr h => ?_)
  · obtain ⟨a, ns, rfl, _⟩ := h
    rfl
  · obtain ⟨c, ns, rfl, hc, hask, kk⟩ := h
    obtain ⟨all, htold, h80, hlens, hans, htot⟩ := VM.asked_told hask
    refine ⟨_, (pss_cons (ps_set (i := 1) sc_37.nd rfl (Or.inl rfl) (pe_make0 T.mkRowOnTree (ok_26 T) (hr.mono (by decide)) rfl T.mgRowOnTree T.b_26 .nil pass0))
        (pss_cons (ps_set (i := 2) sc_37.nd rfl (Or.inl rfl) (pe_lst pa_nil))
        (pss_cons (ps_set (i := 3) sc_37.nd rfl (Or.inl rfl) pe_int)
        (pss_cons (ps_while PassesOwn.never (pt_cmpR op_lt (pv 3) (pe_callB call_len_seq (by rfl) T.n_len PySem.boot_len (pa_cons (pv 0) pa_nil)) (nomark _))
          (pss_cons (ps_set (i := 4) sc_37.nd rfl (Or.inl rfl) (pe_call (ok_41 T) (hr.mono (by decide)) rfl T.mg_41 T.F_41.kp T.b_41 .nil pass0 (pa_cons (pv 0) (pa_cons (pv 3) pa_nil))))
            (pss_cons (ps_lock (ps_set (i := 5) sc_37.nd rfl (Or.inl rfl) (pe_call (ok_36 T) (hr.mono (by decide)) rfl T.mg_36 T.F_36.kp T.b_36 .nil pass0 (pa_cons (pv 1) (pa_cons (pe_ix ix_list (pv 0) (pv 3) (fun _ _ => rfl)) (pa_cons (pe_slice sl_list (pv 0) (po_some (pe_op op_add (pv 3) pe_int)) (po_some (pe_op op_add (pv 3) (pv 4)))) pa_nil))))))
            (pss_cons (ps_expr (pe_bm PySem.F.plainAttrs_list PySem.F.slot_list_append PySem.F.type_list_append mt_append (pv 2) (pa_cons (pe_callB call_len_seq (by rfl) T.n_len PySem.boot_len (pa_cons (pv 5) pa_nil)) pa_nil)))
            (pss_cons (ps_expr (pe_bm PySem.F.plainAttrs_list PySem.F.slot_list_extend PySem.F.type_list_extend mt_extend (pv 2) (pa_cons (pv 5) pa_nil)))
            (pss_one (ps_aug (i := 3) sc_37.nd rfl (Or.inl rfl) (pv 4) ip_add)))))))
        (pss_one (ps_ret (pv 2))))))), ?_⟩
    intro h0 dx n0 m0 e0
    refine ⟨h0, dx, rfl, upd_same, fun H1 r1 hh1 hr1 kp => ⟨rfl, ?_⟩⟩
    have s1 : Same H H1 := Same.made n0 m0 kp
    refine ⟨Nat.zero_le _, fun o go => ?_⟩
    have s2 := Same.new (o := .lst []) go
    have no : H o = none := s1.free go
    have hoh : o ≠ h0 := fun z => by rw [z, hh1] at go; cases go
    refine ⟨fun m σ H' => ∃ (i : Nat) (v4 v5 : Option V) (st : Vapatb.State) (kN : Nat) (ks : List Vapatb.Call) (out : List Int), σ = [some (.ref c), some (.ref h0), some (.ref o), some (.int (i : Int)), v4, v5] ∧ ns.length - i = m ∧ i ≤ ns.length ∧ Same H H' ∧
      (∀ x, HeldAt A (upd H' o x) h0 st) ∧ VM.Good kN st ∧ kN + ks.length ≤ 80 ∧ VM.Tolds (ns.drop i) ks ∧ (∀ x ∈ ks, VM.lens x) ∧ IL H' o out ∧ out ++ VM.play st ks = PyVapatb.answers ns,
      ⟨_, 0, none, none, Vapatb.start, 0, all, [], rfl, rfl, Nat.zero_le _, s1.trans s2, fun x => ?_, VM.good_start, by omega, htold, hlens, upd_same, by rw [hans]; rfl⟩, ?_⟩
    · rw [upd_upd]
      have s3 := Same.new (o := x) go
      exact ⟨dx, .non, r1, s3 _ _ hh1, rfl, [], s3 _ _ hr1, trivial⟩
    rintro m σ H' ⟨i, v4, v5, st, kN, ks, out, rfl, rfl, hi, s', hh', hg, hk, ht, hl, ho, hout⟩
    have hc' := s'.seq hc
    refine ⟨_, rfl, _, rfl, c, _, rfl, .inl hc', _, _, rfl, rfl, _, rfl, ?_⟩
    have hol : out.length + (VM.play st ks).length ≤ 10000000 := by
      have := congrArg List.length hout
      rw [List.length_append, hans] at this
      omega
    by_cases hlt : i < ns.length
    · rw [decide_eq_true (by rw [List.length_map]; omega)]
      refine iteT ⟨_, fun _ _ z => z, ?_⟩
      have hp : ns[i]? = some ns[i] := List.getElem?_eq_getElem hlt
      have hdrop : ns.drop i = ns[i] :: ns.drop (i + 1) := by rw [List.getElem_cons_drop]
      generalize ns[i] = p at hp hdrop
      generalize hr : ns.drop (i + 1) = r at hdrop
      rw [hdrop] at ht
      cases ht with
      | @cons _ _ t cc ks' htd hts =>
        obtain ⟨hs, er, htd'⟩ := told_cut htd
        have hlr : r.length = hs.length + t.length := by rw [er, List.length_append]
        have hrl : r.length = ns.length - (i + 1) := by rw [← hr, List.length_drop]
        refine ⟨_, rfl, _, rfl, c, ns, i, p, r, t, cc, rfl, hc', hdrop, htd, ?_⟩
        refine ⟨o, _, ho, trivial, fun od => ?_⟩
        have sL : Same H (upd H' o (.frz od (.lst (out.map V.int)))) := s'.upd no
        have hhL := hh' (.frz od (.lst (out.map V.int)))
        have hoL : upd H' o (.frz od (.lst (out.map V.int))) o = some (.frz od (.lst (out.map V.int))) := upd_same
        generalize upd H' o (.frz od (.lst (out.map V.int))) = HL at sL hhL hoL
        have hcL := sL.seq hc
        refine ⟨_, rfl, _, rfl, _, rfl, c, _, _, _, rfl, rfl, hcL, atInt rfl hp, _, rfl, _, rfl, _, _, rfl, rfl, _, rfl, _, rfl, _, rfl, _, _, rfl, rfl, _, rfl, c, _, rfl, hcL, fun l gl => ?_⟩
        have ecut : cutV (ns.map V.int) (some ((i : Int) + 1)) (some ((i : Int) + (1 + ((r.length - t.length : Nat) : Int)))) = hs.map V.int := by
          have e1 : (i : Int) + 1 = ((i + 1 : Nat) : Int) := by omega
          have e2 : (i : Int) + (1 + ((r.length - t.length : Nat) : Int)) = ((i + 1 + hs.length : Nat) : Int) := by omega
          rw [e2, e1, cut_both, ints_drop, hr, ints_take, er]
          congr 1
          have : i + 1 + hs.length - (i + 1) = hs.length := by omega
          rw [this, List.take_left]
        have s3 := Same.new (o := .lst (cutV (ns.map V.int) (some ((i : Int) + 1)) (some ((i : Int) + (1 + ((r.length - t.length : Nat) : Int)))))) gl
        have hl3 : IL (upd HL l (.lst (cutV (ns.map V.int) (some ((i : Int) + 1)) (some ((i : Int) + (1 + ((r.length - t.length : Nat) : Int))))))) l hs := by
          show upd _ l _ l = _
          rw [upd_same, ecut]
        generalize upd HL l (.lst (cutV (ns.map V.int) (some ((i : Int) + 1)) (some ((i : Int) + (1 + ((r.length - t.length : Nat) : Int)))))) = H3 at s3 hl3
        have hk' : kN ≤ 80 := by omega
        refine ⟨h0, st, kN, cc, p, l, hs, rfl, hhL.mono s3, hg, hk', hl3, htd', hl cc (by simp), fun H4 a4 gr4 kb hh4 ha4 => ?_⟩
        have ho3 := s3 _ _ hoL
        have ho4 : H4 o = some (.frz od (.lst (out.map V.int))) := kb _ _ ho3 hoh
        refine ⟨ho4, ?_⟩
        have hoa : a4 ≠ o := fun z => by rw [z, ho3] at gr4; cases gr4
        have sH4 : Same H H4 := fun b x hb => kb _ _ ((sL.trans s3) _ _ hb) (fun z => by rw [z, n0] at hb; cases hb)
        have off := off_held ho4 hh4
        have hplay : VM.play st (cc :: ks') = ((Vapatb.step st cc).2.length : Int) :: ((Vapatb.step st cc).2 ++ VM.play (Vapatb.step st cc).1 ks') := rfl
        rw [hplay, List.length_cons, List.length_append] at hol
        have ha5 : ∀ x, upd H4 o x a4 = some (.lst ((Vapatb.step st cc).2.map V.int)) := fun x => by
          rw [upd_ne hoa]
          exact ha4
        refine ⟨_, rfl, .inl ⟨rfl, _, SqL.of upd_same⟩, _, rfl, a4, _, rfl, .inl (SqL.of (ha5 _)), o, _, _, rfl, rfl, upd_same, Nat.lt_of_le_of_lt (show _ ≤ 10000000 by rw [List.length_map]; omega) (by decide), ?_⟩
        rw [upd_upd]
        refine ⟨_, rfl, .inl ⟨rfl, _, SqL.of upd_same⟩, _, rfl, o, a4, _, _, rfl, rfl, upd_same, ha5 _, Nat.le_trans (show _ ≤ 10000000 by rw [List.length_append, List.length_map, List.length_map, List.length_singleton]; omega) (by decide), ?_⟩
        rw [upd_upd]
        refine ⟨_, rfl, _, rfl, _, _, rfl, rfl, ?_⟩
        refine ⟨ns.length - (i + (1 + hs.length)), by omega, i + (1 + hs.length), some (.int (1 + ((r.length - t.length : Nat) : Int))), some (.ref a4), (Vapatb.step st cc).1, kN + 1, ks', out ++ (((Vapatb.step st cc).2.length : Int) :: (Vapatb.step st cc).2), ?_, rfl, by omega, sH4.upd no, fun x => ?_, VM.good_step hg cc, ?_, ?_, fun x hx => hl x (by simp [hx]), ?_, ?_⟩
        · have : V.int ((i : Int) + (1 + ((r.length - t.length : Nat) : Int))) = V.int ((i + (1 + hs.length) : Nat) : Int) := by congr 1; omega
          show [some (V.ref c), some (V.ref h0), some (V.ref o), some (V.int ((i : Int) + (1 + ((r.length - t.length : Nat) : Int)))), some (V.int (1 + ((r.length - t.length : Nat) : Int))), some (V.ref a4)] = _
          rw [this]
        · rw [upd_upd]
          exact off x
        · rw [List.length_cons] at hk
          omega
        · have : ns.drop (i + (1 + hs.length)) = t := by
            have e1 : ns.drop (i + (1 + hs.length)) = (ns.drop (i + 1)).drop hs.length := by rw [List.drop_drop]; congr 1; omega
            rw [e1, hr, er, List.drop_left]
          rw [this]
          exact hts
        · show upd _ o _ o = _
          rw [upd_same]
          simp
        · rw [← hout, hplay]
          simp
    · rw [decide_eq_false (by rw [List.length_map]; omega)]
      have : ns.drop i = [] := List.drop_of_length_le (by omega)
      rw [this] at ht
      cases ht
      refine iteF ⟨_, rfl, kk H' o ?_⟩
      rw [← hout]
      have : out ++ VM.play st [] = out := List.append_nil out
      rw [this]
      exact ho
end
end P58
end
section
set_option Elab.async false
set_option linter.all false
namespace PySem.W.Fast
theorem tw14323015099421109469 : True := trivial
theorem tw3509702569979284812 : True := trivial
theorem tw8249822005867433700 : True := trivial
theorem tw9100690222025434328 : True := trivial
theorem tw9111864184845609434 : True := trivial
theorem tw3924757729163237850 : True := trivial
theorem tw16523131813956414351 : True := trivial
theorem tw16703706343557615398 : True := trivial
theorem tw587043137923056568 : True := trivial
theorem tw11978970954317785061 : True := trivial
theorem tw4990282417528228410 : True := trivial
theorem tw11307250875039989421 : True := trivial
theorem tw14107136174265222249 : True := trivial
theorem tw9014758973490762394 : True := trivial
theorem tw13265798097792438504 : True := trivial
theorem tw5961249855575556620 : True := trivial
theorem tw7894440875446888111 : True := trivial
theorem tw8959916254996106521 : True := trivial
theorem tw3999818268140266827 : True := trivial
theorem tw15811201517695115661 : True := trivial
theorem tw15096077443179421163 : True := trivial
theorem tw16966012159378999457 : True := trivial
theorem tw17276158811195969459 : True := trivial
theorem tw7905478530419039919 : True := trivial
theorem tw7287484918929156124 : True := trivial
theorem tw9908356686232253759 : True := trivial
theorem tw271947560805175399 : True := trivial
theorem tw1009357661820425883 : True := trivial
theorem tw9903972741459052217 : True := trivial
theorem tw3129130477150968249 : True := trivial
theorem tw7531783558788774177 : True := trivial
theorem tw12222644759668845674 : True := trivial
theorem tw372617206180267839 : True := trivial
theorem tw11800449512366302764 : True := trivial
theorem tw15854282523773088979 : True := trivial
theorem tw6515372897924539905 : True := trivial
theorem tw4897877020449896379 : True := trivial
theorem tw5889341846961668893 : True := trivial
theorem tw1709258854910519636 : True := trivial
theorem tw111361500952039302 : True := trivial
theorem tw2192306712800773479 : True := trivial
theorem tw5105500354425796170 : True := trivial
theorem tw2139786821226769653 : True := trivial
theorem tw10718091777550931458 : True := trivial
theorem tw18432373669502423797 : True := trivial
theorem tw2122664727504202618 : True := trivial
theorem tw17713379988470726280 : True := trivial
theorem tw6297977613727229544 : True := trivial
theorem tw7486225229010100388 : True := trivial
theorem tw8549866456399228910 : True := trivial
theorem tw6721541500653591 : True := trivial
theorem tw6368381142536832778 : True := trivial
theorem tw5771752745191052144 : True := trivial
theorem tw15756045872387529084 : True := trivial
theorem tw543855058710490115 : True := trivial
theorem tw11341580646246597209 : True := trivial
theorem tw17298129007274277696 : True := trivial
theorem tw5275412882955821229 : True := trivial
theorem tw10735863666178139332 : True := trivial
theorem tw2604139272184928871 : True := trivial
theorem tw15128660826872867389 : True := trivial
theorem tw8690899588074295717 : True := trivial
theorem tw1533008690346797720 : True := trivial
theorem tw927846604702520948 : True := trivial
theorem tw3376617878180887143 : True := trivial
theorem tw3003742176175667597 : True := trivial
theorem tw10145416017071879652 : True := trivial
theorem tw14857447928216845761 : True := trivial
theorem tw11097734275935552489 : True := trivial
theorem tw18409919290560903306 : True := trivial
theorem tw16636087115514924474 : True := trivial
theorem tw13928693648199163368 : True := trivial
theorem tw15144733975501040109 : True := trivial
theorem tw1547452092119913198 : True := trivial
theorem tw10205523389442267778 : True := trivial
theorem tw3642378617040341475 : True := trivial
theorem tw14284611938464936380 : True := trivial
theorem tw9284362512202978579 : True := trivial
theorem tw6853081515282870935 : True := trivial
theorem tw903151596037022247 : True := trivial
theorem tw10466729375331882332 : True := trivial
theorem tw5981882564189704311 : True := trivial
theorem tw4142005999732006761 : True := trivial
theorem tw752759254216306354 : True := trivial
theorem tw12509965922834472525 : True := trivial
theorem tw4311233095710672471 : True := trivial
theorem tw1447568360123969169 : True := trivial
theorem tw14173315434587462285 : True := trivial
theorem tw4744339496171056122 : True := trivial
theorem tw11989158361368578958 : True := trivial
theorem tw12598243719434708788 : True := trivial
theorem tw1290030661698951960 : True := trivial
theorem tw5906335287618030905 : True := trivial
theorem tw7012359599076422756 : True := trivial
theorem tw7787969015403561426 : True := trivial
theorem tw10324188466041422398 : True := trivial
theorem tw6879731921601304383 : True := trivial
theorem tw11222640252790157231 : True := trivial
theorem tw2641633350910095569 : True := trivial
theorem tw7513762933128345215 : True := trivial
theorem tw15899055983564682776 : True := trivial
theorem tw10374272365815089880 : True := trivial
theorem tw12411888449222617 : True := trivial
theorem tw14493719031974112453 : True := trivial
theorem tw4813074314029058256 : True := trivial
theorem tw11137141449062865479 : True := trivial
theorem tw11827764160681650475 : True := trivial
theorem tw8369599986899255541 : True := trivial
theorem tw17527766498560048136 : True := trivial
theorem tw17799409520291385664 : True := trivial
theorem tw16784319488131113577 : True := trivial
theorem tw13628402832868517493 : True := trivial
theorem tw11848351947940291141 : True := trivial
theorem tw16557654761791524003 : True := trivial
theorem tw9156513209472091176 : True := trivial
theorem tw13875325402965138865 : True := trivial
theorem tw4271246397860507225 : True := trivial
theorem tw10105287055520238063 : True := trivial
theorem tw10086596497277156466 : True := trivial
theorem tw17566107535903091947 : True := trivial
theorem tw17352525553449933771 : True := trivial
theorem tw9075473608884993567 : True := trivial
theorem tw9278524968719606315 : True := trivial
theorem tw12728421818585058856 : True := trivial
theorem tw2747708706323521334 : True := trivial
theorem tw4693674025759972485 : True := trivial
theorem tw13491136006176560591 : True := trivial
theorem tw12132037632782000001 : True := trivial
theorem tw18224972700762093857 : True := trivial
theorem tw16843743504677211516 : True := trivial
theorem tw9408325880326061773 : True := trivial
theorem tw358710703863659450 : True := trivial
theorem tw18002867984835754120 : True := trivial
end PySem.W.Fast
open PySem PySem.W PyProof.Rows
set_option maxRecDepth 100000 in
set_option maxHeartbeats 0 in
theorem PySem.Challenge.cw_stepscommuted_s01_answers_holds : PySem.Challenge.rw_stepscommuted_s01_answers.Holds := by
  w_on; k_headS; (case hw => exact ⟨[.list [.int 2]], by decide +kernel, by decide +kernel⟩)
  k_fillS
  refine L2.walk_specK (r := PySem.Challenge.rw_stepscommuted_s01_answers) (k := 40) (CX := L2.CX0) (ps := ["calls"]) (sp := P58.spAnswers) (by decide +kernel) rfl rfl ⟨rfl, by decide, by decide⟩ (fun w h Y => PySem.W.kIn_of Y) ?F ?S (fun _ _ _ _ z => z)
  case F =>
    intro w mg fa h Y KX G hmg
    have TT : ∃ A : P58.Adr, P58.Txt (L2.KOf KX) mg A := by
      dsimp only [L2.KOf]
      apply P58.all_mk KX G
      k_is
      k_is
      k_is
      k_is
      k_is
      k_is
      k_is
      k_is
      k_is
      k_is
      k_is
      k_is
      k_is
      k_is
      k_is
      k_is
      k_is
      k_is
      k_is
      k_is
      k_is
      k_is
      k_is
      k_is
      k_is
      k_is
      k_is
      k_is
      k_is
      k_is
      k_is
      k_is
      k_is
      k_is
      k_is
      k_is
      k_is
      k_is
      k_is
      k_is
      k_is
      k_is
      k_is
      k_is
      k_is
      k_is
      k_is
      k_is
      k_is
      k_is
      k_is
      k_is
      k_is
      k_is
      k_is
      k_is
      k_is
      k_is
      k_is
      k_is
      k_is
      k_is
      k_is
      k_is
      k_is
      k_is
      k_is
      k_is
      k_is
      decide
      k_is
      decide
      k_is
      decide
      k_is
      decide
      k_is
      k_is
      k_is
      decide
      k_is
      decide
      k_is
      decide
      k_is
      decide
      k_is
      k_is
      k_is
      decide
      k_is
      decide
      k_is
      decide
      k_is
      decide
      k_is
      k_is
      k_is
      apply L2.fun_mk
      k_is
      k_is
      k_is
      k_is
      k_is
      apply L2.fun_mk
      k_is
      k_is
      k_is
      k_is
      k_is
      apply L2.fun_mk
      k_is
      k_is
      k_is
      k_is
      k_is
      apply L2.fun_mk
      k_is
      k_is
      k_is
      k_is
      k_is
      apply L2.fun_mk
      k_is
      k_is
      k_is
      k_is
      k_is
      apply L2.fun_mk
      k_is
      k_is
      k_is
      k_is
      k_is
      apply L2.fun_mk
      k_is
      k_is
      k_is
      k_is
      k_is
      apply L2.fun_mk
      k_is
      k_is
      k_is
      k_is
      k_is
      apply L2.fun_mk
      k_is
      k_is
      k_is
      k_is
      k_is
      apply L2.fun_mk
      k_is
      k_is
      k_is
      k_is
      k_is
      apply L2.fun_mk
      k_is
      k_is
      k_is
      k_is
      k_is
      apply L2.fun_mk
      k_is
      k_is
      k_is
      k_is
      k_is
      apply L2.fun_mk
      k_is
      k_is
      k_is
      k_is
      k_is
      apply L2.fun_mk
      k_is
      k_is
      k_is
      k_is
      k_is
      apply L2.fun_mk
      k_is
      k_is
      k_is
      k_is
      k_is
      apply L2.fun_mk
      k_is
      k_is
      k_is
      k_is
      k_is
      apply L2.fun_mk
      k_is
      k_is
      k_is
      k_is
      k_is
      apply L2.fun_mk
      k_is
      k_is
      k_is
      k_is
      k_is
      apply L2.fun_mk
      k_is
      k_is
      k_is
      k_is
      k_is
      apply L2.fun_mk
      k_is
      k_is
      k_is
      k_is
      k_is
      apply L2.fun_mk
      k_is
      k_is
      k_is
      k_is
      k_is
      apply L2.fun_mk
      k_is
      k_is
      k_is
      k_is
      k_is
      apply L2.fun_mk
      k_is
      k_is
      k_is
      k_is
      k_is
      apply L2.fun_mk
      k_is
      k_is
      k_is
      k_is
      k_is
      apply L2.fun_mk
      k_is
      k_is
      k_is
      k_is
      k_is
      apply L2.fun_mk
      k_is
      k_is
      k_is
      k_is
      k_is
      apply L2.fun_mk
      k_is
      k_is
      k_is
      k_is
      k_is
      apply L2.fun_mk
      k_is
      k_is
      k_is
      k_is
      k_is
      apply L2.fun_mk
      k_is
      k_is
      k_is
      k_is
      k_is
      apply L2.fun_mk
      k_is
      k_is
      k_is
      k_is
      k_is
      apply L2.fun_mk
      k_is
      k_is
      k_is
      k_is
      k_is
      apply L2.fun_mk
      k_is
      k_is
      k_is
      k_is
      k_is
      apply L2.fun_mk
      k_is
      k_is
      k_is
      k_is
      k_is
      apply L2.fun_mk
      k_is
      k_is
      k_is
      k_is
      k_is
      apply L2.fun_mk
      k_is
      k_is
      k_is
      k_is
      apply L2.fun_mk
      k_is
      k_is
      k_is
      k_is
      apply L2.fun_mk
      k_is
      k_is
      k_is
      k_is
      apply L2.fun_mk
      k_is
      k_is
      k_is
      k_is
      apply L2.fun_mk
      k_is
      k_is
      k_is
      k_is
      apply L2.fun_mk
      k_is
      k_is
      k_is
      k_is
      apply L2.fun_mk
      k_is
      k_is
      k_is
      k_is
      apply L2.fun_mk
      k_is
      k_is
      k_is
      k_is
      apply L2.fun_mk
      k_is
      k_is
      k_is
      k_is
      apply L2.fun_mk
      k_is
      k_is
      k_is
      k_is
      apply L2.fun_mk
      k_is
      k_is
      k_is
      k_is
      apply L2.fun_mk
      k_is
      k_is
      k_is
      k_is
      apply L2.fun_mk
      k_is
      k_is
      k_is
      k_is
      apply L2.fun_mk
      k_is
      k_is
      k_is
      k_is
      apply L2.fun_mk
      k_is
      k_is
      k_is
      k_is
      apply L2.fun_mk
      k_is
      k_is
      k_is
      k_is
      apply L2.fun_mk
      k_is
      k_is
      k_is
      k_is
      apply L2.fun_mk
      k_is
      k_is
      k_is
      k_is
      apply L2.fun_mk
      k_is
      k_is
      k_is
      k_is
      apply L2.fun_mk
      k_is
      k_is
      k_is
      k_is
      apply L2.fun_mk
      k_is
      k_is
      k_is
      k_is
      apply L2.fun_mk
      k_is
      k_is
      k_is
      k_is
      apply L2.fun_mk
      k_is
      k_is
      k_is
      k_is
      apply L2.fun_mk
      k_is
      k_is
      k_is
      k_is
      apply L2.fun_mk
      k_is
      k_is
      k_is
      k_is
      apply L2.fun_mk
      k_is
      k_is
      k_is
      k_is
      apply L2.fun_mk
      k_is
      k_is
      k_is
      k_is
      apply L2.fun_mk
      k_is
      k_is
      k_is
      k_is
      k_is
      apply L2.fun_mk
      k_is
      k_is
      k_is
      k_is
      apply L2.fun_mk
      k_is
      k_is
      k_is
      k_is
      apply L2.fun_mk
      k_is
      k_is
      k_is
      k_is
      apply L2.fun_mk
      k_is
      k_is
      k_is
      k_is
      apply L2.fun_mk
      k_is
      k_is
      k_is
      k_is
      apply L2.fun_mk
      k_is
      k_is
      k_is
      k_is
      apply L2.fun_mk
      k_is
      k_is
      k_is
      k_is
      apply L2.fun_mk
      k_is
      k_is
      k_is
      k_is
      apply L2.fun_mk
      k_is
      k_is
      k_is
      k_is
      apply L2.fun_mk
      k_is
      k_is
      k_is
      k_is
      apply L2.fun_mk
      k_is
      k_is
      k_is
      k_is
      apply L2.fun_mk
      k_is
      k_is
      k_is
      k_is
      apply L2.fun_mk
      k_is
      k_is
      k_is
      k_is
      apply L2.fun_mk
      k_is
      k_is
      k_is
      k_is
      apply L2.fun_mk
      k_is
      k_is
      k_is
      k_is
      apply L2.fun_mk
      k_is
      k_is
      k_is
      k_is
      apply L2.fun_mk
      k_is
      k_is
      k_is
      k_is
      apply L2.fun_mk
      k_is
      k_is
      k_is
      k_is
      k_is
      k_is
      k_is
      k_is
      k_is
      k_is
      k_is
      k_is
      k_is
      k_is
      k_is
      k_is
      k_is
      k_is
      k_is
      k_is
      k_is
      k_is
      k_is
      k_is
      k_is
      k_is
      k_is
      k_is
      rfl
      rfl
      decide
      k_is
      k_is
      rfl
      rfl
      rfl
      decide
      k_is
      k_is
      rfl
      rfl
      rfl
      rfl
      rfl
      rfl
      rfl
      rfl
      rfl
      decide
      k_is
      k_is
      rfl
      rfl
      rfl
      decide
      k_is
      k_is
      k_is
      k_is
      k_is
      k_is
      k_is
      k_is
      k_is
      k_is
      k_is
      k_is
      k_is
    obtain ⟨A, T⟩ := TT
    have e0 := hmg.symm.trans T.mg_37
    cases e0
    exact ⟨A.d_37, T.bt_37, fun base _ _ => (P58.ok_37 T).mono (by decide)⟩
  case S =>
    intro K H xs a hO hwi hask hx
    cases hx with
    | cons h1 h2 =>
      cases h2
      cases h1 with
      | lst hs ha =>
        have e := L2.ints_dw a.1 _ ha
        subst e
        exact ⟨_, a.1, rfl, hs, hask, fun H' p hp => .lst (L2.SqL.of hp) (L2.dw_ints _)⟩
end
