import PyProof.Rows.All
import Wide.All
import OpenK.AllK
import Wide.FinOn
import Lean
import PyProof.EqAt
import PyProof.EqKinds
import PyProof.NeKinds
import PyProof.TupleCall
import KE.KDictSum
import KE.KSortTup
import PyProof.DictItems
import PyProof.DictValues
import PyProof.Rows.TupDisplay
import PySem.Challenge.RW_stintwise_k24_runs_counted_and_told
set_option Elab.async false
set_option linter.all false
set_option maxRecDepth 100000
def PySem.W.Fast.tw3614520338068688142 : Unit := ()
def PySem.W.Fast.tw2458117379466655164 : Unit := ()
def PySem.W.Fast.tw17626853432149459637 : Unit := ()
def PySem.W.Fast.tw2612284267476531265 : Unit := ()
def PySem.W.Fast.tw10922903875551102650 : Unit := ()
def PySem.W.Fast.tw9521476132441062848 : Unit := ()
def PySem.W.Fast.tw661664568888901531 : Unit := ()
def PySem.W.Fast.tw16448518759599768081 : Unit := ()
def PySem.W.Fast.tw16679427220054443551 : Unit := ()
def PySem.W.Fast.tw17414059771087243439 : Unit := ()
def PySem.W.Fast.tw16208699414305680115 : Unit := ()
namespace L2
open PySem PySem.Spec PyProof.Rows
abbrev Key := Sum Int Str
def keyIs : Key → Value → Bool
  | .inl k, v => Value.isInt k v
  | .inr x, v => Value.isStrOf x v
def keyH (w : World) : Key → Int
  | .inl k => hashInt k
  | .inr x => hashStr w x
theorem keyIs_shape : ∀ {k : Key} {v : Value}, keyIs k v = true → (∃ i t, k = Sum.inl i ∧ v = Value.int i t) ∨ (∃ x t, k = Sum.inr x ∧ v = Value.str x t)
  | .inl i, v, h => by
    obtain ⟨t, e⟩ := Value.isInt_shape (k := i) (v := v) h
    exact .inl ⟨i, t, rfl, e⟩
  | .inr x, v, h => by
    obtain ⟨t, e⟩ := Value.isStrOf_shape (x := x) (v := v) h
    exact .inr ⟨x, t, rfl, e⟩
theorem keyIs_int (i : Int) (t : Tok) : keyIs (.inl i) (.int i t) = true := by simp [keyIs, Value.isInt]
theorem keyIs_str (x : Str) (t : Tok) : keyIs (.inr x) (.str x t) = true := by simp [keyIs, Value.isStrOf]
theorem key_ll (a b : Int) : decide ((Sum.inl a : Key) = Sum.inl b) = (a == b) := by
  by_cases e : a = b
  · subst e; simp
  · have h : ¬ (Sum.inl a : Key) = Sum.inl b := fun q => e (Sum.inl.inj q)
    rw [decide_eq_false h]
    exact (beq_eq_false_iff_ne.mpr e).symm
theorem key_rr (a b : Str) : decide ((Sum.inr a : Key) = Sum.inr b) = decide (a = b) := by
  by_cases e : a = b
  · subst e; simp
  · have h : ¬ (Sum.inr a : Key) = Sum.inr b := fun q => e (Sum.inr.inj q)
    rw [decide_eq_false h, decide_eq_false e]
theorem key_lr (a : Int) (b : Str) : decide ((Sum.inl a : Key) = Sum.inr b) = false := decide_eq_false (fun q => nomatch q)
theorem key_rl (a : Str) (b : Int) : decide ((Sum.inr a : Key) = Sum.inl b) = false := decide_eq_false (fun q => nomatch q)
def mixKind (prog : Program) (w : World) : PySem.KeyKind prog w Key where
  is := keyIs
  hash := keyH w
  inj := fun v a b ha hb => by
    rcases keyIs_shape ha with ⟨i, t, rfl, rfl⟩ | ⟨x, t, rfl, rfl⟩
    · rcases keyIs_shape hb with ⟨j, u, rfl, e⟩ | ⟨y, u, rfl, e⟩
      · injection e with e1 _; rw [e1]
      · exact nomatch e
    · rcases keyIs_shape hb with ⟨j, u, rfl, e⟩ | ⟨y, u, rfl, e⟩
      · exact nomatch e
      · injection e with e1 _; rw [e1]
  byValue := fun k v h => by
    rcases keyIs_shape h with ⟨i, t, rfl, rfl⟩ | ⟨x, t, rfl, rfl⟩ <;> rfl
  pyHash := fun hv h => by
    rcases keyIs_shape hv with ⟨i, t, rfl, rfl⟩ | ⟨x, t, rfl, rfl⟩
    · exact wpAny_pyHash_int h
    · exact wpAny_pyHash_str h
  eqBool := fun hu hv h => by
    rcases keyIs_shape hu with ⟨i, t, rfl, rfl⟩ | ⟨x, t, rfl, rfl⟩
    · rcases keyIs_shape hv with ⟨j, u, rfl, rfl⟩ | ⟨y, u, rfl, rfl⟩
      · rw [key_ll] at h; exact wpAny_eqBool_int h
      · rw [key_lr] at h; exact SeqAt.EqAt.int_str i t y u _ _ _ _ h
    · rcases keyIs_shape hv with ⟨j, u, rfl, rfl⟩ | ⟨y, u, rfl, rfl⟩
      · rw [key_rl] at h; exact SeqAt.EqAt.str_int x t j u _ _ _ _ h
      · rw [key_rr] at h; exact wpAny_eqBool_str h
  «strs» := fun k x t v h => by
    rcases keyIs_shape h with ⟨i, u, rfl, e⟩ | ⟨y, u, rfl, e⟩
    · exact nomatch e
    · injection e with e1 _
      subst e1
      cases v <;> rfl
theorem mixKind_int (prog : Program) (w : World) (i : Int) (t : Tok) : (mixKind prog w).is (.inl i) (.int i t) = true := keyIs_int i t
theorem mixKind_str (prog : Program) (w : World) (x : Str) (t : Tok) : (mixKind prog w).is (.inr x) (.str x t) = true := keyIs_str x t
end L2
namespace L2
open PySem PySem.Spec PyProof.Rows
inductive V where
  | non | bl (b : Bool) | int (i : Int) | str (x : Str) | byt (b : Array UInt8) | flt (b : UInt64) | ref (a : Addr) | ty (n : String)
  deriving DecidableEq
def RelV : V → Value → Prop
  | .non, u => u = Value.none
  | .bl b, u => u = Value.bool b
  | .int i, u => ∃ t, u = Value.int i t
  | .str x, u => ∃ t, u = Value.str x t
  | .byt b, u => ∃ t, u = Value.bytes b t
  | .flt b, u => ∃ t, u = Value.float b t
  | .ref a, u => u = Value.ref a
  | .ty n, u => u = Value.type n
abbrev Vals : List V → List Value → Prop := Paired RelV
theorem Vals.length {xs : List V} {us : List Value} (r : Vals xs us) : xs.length = us.length := Paired.length r
theorem Vals.get : ∀ {xs : List V} {us : List Value} {i : Nat} {x : V}, Vals xs us → xs[i]? = some x → ∃ u, us[i]? = some u ∧ RelV x u
  | _, _, _, _, .nil, e => by simp at e
  | _, _, 0, _, .cons r _, e => by simp at e; subst e; exact ⟨_, rfl, r⟩
  | _, _, i + 1, x, .cons _ t, e => by
    obtain ⟨u, h1, h2⟩ := Vals.get (i := i) (x := x) t (by simpa using e)
    exact ⟨u, by simpa using h1, h2⟩
theorem Vals.set {x : V} {u : Value} (r : RelV x u) : ∀ {xs : List V} {us : List Value} (i : Nat), Vals xs us → Vals (xs.set i x) (us.set i u)
  | _, _, _, .nil => .nil
  | _, _, 0, .cons _ t => .cons r t
  | _, _, i + 1, .cons q t => .cons q (Vals.set r i t)
theorem Vals.append : ∀ {xs ys : List V} {us ws : List Value}, Vals xs us → Vals ys ws → Vals (xs ++ ys) (us ++ ws)
  | _, _, _, _, .nil, s => s
  | _, _, _, _, .cons r t, s => .cons r (Vals.append t s)
theorem Vals.take : ∀ {xs : List V} {us : List Value} (n : Nat), Vals xs us → Vals (xs.take n) (us.take n)
  | _, _, 0, _ => .nil
  | _, _, _ + 1, .nil => .nil
  | _, _, n + 1, .cons r t => .cons r (Vals.take n t)
theorem Vals.drop : ∀ {xs : List V} {us : List Value} (n : Nat), Vals xs us → Vals (xs.drop n) (us.drop n)
  | _, _, 0, r => r
  | _, _, _ + 1, .nil => .nil
  | _, _, n + 1, .cons _ t => Vals.drop n t
def RelO : Option V → Option Value → Prop
  | some v, some u => RelV v u
  | none, none => True
  | _, _ => False
def KV {κ : Type} : List (κ × V) → List (κ × Value) → Prop := Paired fun (p : κ × V) (q : κ × Value) => p.1 = q.1 ∧ RelV p.2 q.2
def kV : Key → V
  | .inl i => .int i
  | .inr x => .str x
inductive HO where
  /-- a list -/
  | lst (xs : List V)
  /-- a tuple (never changes) -/
  | tup (xs : List V)
  /-- a dict whose keys are ints and texts; one whose keys are tuples of ints and texts (the empty one is both) -/
  | dK (kvs : List (Key × V)) | dT (kvs : List (List Key × V))
  /-- a set of ints: its members, its size -/
  | set (S : Int → Bool) (n : Nat)
  /-- an instance of the class at C, its dict at dx, its attributes -/
  | ins (C dx : Addr) (fs : List (Str × V))
  /-- the dict of the instance at x -/
  | own (x : Addr)
  /-- the dict of an exception -/
  | xd (fs : List (Str × V))
  /-- a bound method, f of x -/
  | met (f x : Addr)
  /-- a range object lo, lo + 1, .. below hi -/
  | rng (lo hi : Int)
  /-- a thing that is known to the object (the script; a dict while a loop walks it): read, never written while it is so -/
  | frz (o : Obj) (u : HO)
  /-- a code object's table -/
  | tbl (ps : Array Value)
  /-- any other thing, by what is true of its one object (a def of one's own: SetO a S n := HO.ext fun h => ..) -/
  | ext (φ : Heap → Prop)
  /-- a code object of that name; a def's table of code objects: at pos none yet, or one of that name -/
  | cod (q : Str) | ctb (pos : Pos) (q : Str)
def Sty : HO → Prop
  | .tup _ => True
  | .cod _ => True
  | _ => False
abbrev Hp := Addr → Option HO
def upd (H : Hp) (a : Addr) (o : HO) : Hp := fun b => if b = a then some o else H b
theorem upd_same {H : Hp} {a : Addr} {o : HO} : upd H a o a = some o := by unfold upd; rw [if_pos rfl]
theorem upd_ne {H : Hp} {a b : Addr} {o : HO} (h : b ≠ a) : upd H a o b = H b := by unfold upd; rw [if_neg h]
theorem upd_upd {H : Hp} {a : Addr} {o u : HO} : upd (upd H a o) a u = upd H a u := by
  funext b; unfold upd; split <;> rfl
theorem ne_of {H : Hp} {a b : Addr} {o u : HO} (h : H a = some o) (h' : H b = some u) (d : o ≠ u) : a ≠ b := by
  intro e; subst e; rw [h] at h'; exact d (Option.some.inj h')
theorem ne_of_none {H : Hp} {a b : Addr} {o : HO} (h : H a = some o) (h' : H b = none) : a ≠ b := by
  intro e; subst e; rw [h] at h'; cases h'
section
variable (P : Program) (w : World)
def ObjOk (H : Hp) (h : Heap) (a : Addr) : HO → Prop
  | .lst xs => xs.length ≤ sizeLine ∧ ∃ (its : List Value) (n : Nat), Vals xs its ∧ h.get? a = some { cls := .type "list", data := .seq its.toArray n }
  | .tup xs => xs.length ≤ sizeLine ∧ ∃ its : List Value, Vals xs its ∧ IsTup h a its.toArray
  | .dK kvs => kvs.length ≤ sizeLine ∧ (a == sysModules) = false ∧ ∃ vs, KV kvs vs ∧ h.DictOf (mixKind P w) a vs
  | .dT kvs => kvs.length ≤ sizeLine ∧ (a == sysModules) = false ∧ ∃ xs : List (List Key × Addr × Value),
      Paired (fun (p : List Key × V) (q : List Key × Addr × Value) => p.1 = q.1 ∧ H q.2.1 = some (.tup (p.1.map kV)) ∧ RelV p.2 q.2.2) kvs xs ∧
      ∃ o es ep, h.get? a = some o ∧ o.ExactDict ∧ o.data = .dict es ep ∧ es.toList = xs.map (entryOfKey (tupleKind (mixKind P w))) ∧ (xs.map (·.1)).Nodup
  | .set S n => h.SetOf (intKind P w) a S n
  | .ins C dx fs => H dx = some (.own a) ∧ fs.length ≤ 1000 ∧ dx ≠ a ∧ h.get? a = some (PySem.W.instObj C dx) ∧
      ∃ mA, h.Ns1 dx mA ∧ (∀ f, RelO (fs.lookup f) (mA f)) ∧ PySem.Within mA (fs.map (·.1))
  | .own _ => ∃ o, h.get? a = some o
  | .xd fs => ∃ mA, h.Ns1 a mA ∧ ∀ f, RelO (fs.lookup f) (mA f)
  | .rng lo hi => ∃ t u v, h.get? a = some { cls := .type "range", data := .fields #[.int lo t, .int hi u, .int 1 v] }
  | .frz o u => h.get? a = some o ∧ ObjOk H h a u
  | .tbl ps => h.get? a = some { cls := .none, data := .fields ps }
  | .met f x => h.get? a = some (PySem.W.methodObj (.ref f) (.ref x))
  | .ext φ => φ h ∧ (∃ o, h.get? a = some o) ∧ ∀ h1 h2 : Heap, φ h1 → (∀ o, h1.get? a = some o → h2.get? a = some o) → φ h2
  | .cod q => ∃ o vs t, h.get? a = some o ∧ o.data = .fields vs ∧ vs[1]? = some (.str q t)
  | .ctb pos q => ∃ ps : Array Value, h.get? a = some { cls := .none, data := .fields ps } ∧ TriplesOk ps.toList ∧ (codeAmong pos ps.toList = none ∨ ∃ c, codeAmong pos ps.toList = some (.ref c) ∧ H c = some (.cod q))
def HOk (H : Hp) (h : Heap) : Prop := ∀ a o, H a = some o → ObjOk P w H h a o
end
section
variable {P : Program} {w : World} {H H' : Hp} {h h' : Heap} {a : Addr} {o : HO}
theorem ObjOk.lt (x : ObjOk P w H h a o) : a < h.objs.size := by
  cases o with
  | lst xs => obtain ⟨_, _, _, _, e⟩ := x; exact Heap.lt_size e
  | tup xs => obtain ⟨_, _, _, p⟩ := x; exact p.lt
  | dK kvs => obtain ⟨_, _, _, _, o, _, _, e, _⟩ := x; exact Heap.lt_size e
  | dT kvs => obtain ⟨_, _, _, _, o, _, _, e, _⟩ := x; exact Heap.lt_size e
  | set S n => obtain ⟨o, _, _, _, e, _⟩ := x; exact Heap.lt_size e
  | ins C dx fs => obtain ⟨_, _, _, e, _⟩ := x; exact Heap.lt_size e
  | own y => obtain ⟨_, e⟩ := x; exact Heap.lt_size e
  | xd fs => obtain ⟨_, ⟨_, _, _, e, _⟩, _⟩ := x; exact Heap.lt_size e
  | rng lo hi => obtain ⟨_, _, _, e⟩ := x; exact Heap.lt_size e
  | frz ob u => obtain ⟨e, _⟩ := x; exact Heap.lt_size e
  | tbl ps => exact Heap.lt_size (show h.get? a = some _ from x)
  | met f y => exact Heap.lt_size (show h.get? a = some _ from x)
  | ext φ => obtain ⟨_, ⟨_, e⟩, _⟩ := x; exact Heap.lt_size e
  | cod q => obtain ⟨_, _, _, e, _⟩ := x; exact Heap.lt_size e
  | ctb pos q => obtain ⟨_, e, _⟩ := x; exact Heap.lt_size e
theorem Paired.mapP {α β : Type} {F G : α → β → Prop} : ∀ {l₁ : List α} {l₂ : List β}, Paired F l₁ l₂ → (∀ a b, F a b → G a b) → Paired G l₁ l₂
  | _, _, .nil, _ => .nil
  | _, _, .cons r t, f => .cons (f _ _ r) (Paired.mapP t f)
theorem ObjOk.stay (x : ObjOk P w H h a o) (k : ∀ b u, (b = a ∨ H b = some (.own a)) → h.get? b = some u → h'.get? b = some u)
    (ho : ∀ b, H b = some (.own a) → H' b = some (.own a)) (ht : ∀ b u, Sty u → H b = some u → H' b = some u) : ObjOk P w H' h' a o := by
  induction o with
  | lst xs => obtain ⟨z, its, n, r, e⟩ := x; exact ⟨z, its, n, r, k _ _ (.inl rfl) e⟩
  | tup xs => obtain ⟨z, its, r, ob, e, c⟩ := x; exact ⟨z, its, r, ob, k _ _ (.inl rfl) e, c⟩
  | dK kvs => obtain ⟨z, y, vs, r, ob, es, ep, e, c⟩ := x; exact ⟨z, y, vs, r, ob, es, ep, k _ _ (.inl rfl) e, c⟩
  | dT kvs =>
    obtain ⟨z, y, xs, r, ob, es, ep, e, c⟩ := x
    exact ⟨z, y, xs, Paired.mapP r fun p q z => ⟨z.1, ht _ _ trivial z.2.1, z.2.2⟩, ob, es, ep, k _ _ (.inl rfl) e, c⟩
  | set S n => obtain ⟨ob, es, ep, t, e, c⟩ := x; exact ⟨ob, es, ep, t, k _ _ (.inl rfl) e, c⟩
  | ins C dx fs =>
    obtain ⟨d, z, ne, e, mA, ⟨od, es, ep, e2, c⟩, r⟩ := x
    exact ⟨ho _ d, z, ne, k _ _ (.inl rfl) e, mA, ⟨od, es, ep, k _ _ (.inr d) e2, c⟩, r⟩
  | own y => obtain ⟨ob, e⟩ := x; exact ⟨ob, k _ _ (.inl rfl) e⟩
  | xd fs => obtain ⟨mA, ⟨od, es, ep, e, c⟩, r⟩ := x; exact ⟨mA, ⟨od, es, ep, k _ _ (.inl rfl) e, c⟩, r⟩
  | rng lo hi => obtain ⟨t, u, v, e⟩ := x; exact ⟨t, u, v, k _ _ (.inl rfl) e⟩
  | frz ob u ih => obtain ⟨e, q⟩ := x; exact ⟨k _ _ (.inl rfl) e, ih q⟩
  | tbl ps =>
    have e : h.get? a = some { cls := .none, data := .fields ps } := x
    show h'.get? a = some { cls := .none, data := .fields ps }
    exact k a _ (.inl rfl) e
  | met f y =>
    have e : h.get? a = some (PySem.W.methodObj (.ref f) (.ref y)) := x
    show h'.get? a = some (PySem.W.methodObj (.ref f) (.ref y))
    exact k a _ (.inl rfl) e
  | ext φ => obtain ⟨p, ⟨o, e⟩, st⟩ := x; exact ⟨st _ _ p fun o q => k _ _ (.inl rfl) q, ⟨o, k _ _ (.inl rfl) e⟩, st⟩
  | cod q => obtain ⟨o, vs, t, e, r⟩ := x; exact ⟨o, vs, t, k _ _ (.inl rfl) e, r⟩
  | ctb pos q =>
    obtain ⟨ps, e, t, c⟩ := x
    refine ⟨ps, k _ _ (.inl rfl) e, t, ?_⟩
    rcases c with c | ⟨c, e1, e2⟩
    · exact .inl c
    · exact .inr ⟨c, e1, ht _ _ trivial e2⟩
theorem HOk.lt (x : HOk P w H h) (e : H a = some o) : a < h.objs.size := (x a o e).lt
theorem HOk.fresh (x : HOk P w H h) (e : h.objs.size ≤ a) : H a = none := by
  cases q : H a with
  | none => rfl
  | some u => exact absurd (Nat.lt_of_lt_of_le (x.lt q) e) (Nat.lt_irrefl _)
theorem HOk.kept (x : HOk P w H h) (k : ∀ b u, h.get? b = some u → h'.get? b = some u) : HOk P w H h' := fun a o e =>
  (x a o e).stay (fun b u _ q => k b u q) (fun _ q => q) fun _ _ _ q => q
theorem HOk.laid (x : HOk P w H h) (k : ∀ b u, h.get? b = some u → h'.get? b = some u) (hp : h.objs.size ≤ a) (new : ObjOk P w (upd H a o) h' a o) : HOk P w (upd H a o) h' := fun b u e => by
  have hn := x.fresh hp
  by_cases hb : b = a
  · subst hb; rw [upd_same] at e; cases e; exact new
  · rw [upd_ne hb] at e
    exact (x b u e).stay (fun c v _ q => k c v q) (fun c q => by rw [upd_ne (ne_of_none q hn)]; exact q) fun c xs _ q => by rw [upd_ne (ne_of_none q hn)]; exact q
end
def Rd (H : Hp) (a : Addr) (u : HO) : Prop := H a = some u ∨ ∃ o, H a = some (.frz o u)
theorem Rd.of {H : Hp} {a : Addr} {u : HO} (h : H a = some u) : Rd H a u := .inl h
theorem Rd.ok {P : Program} {w : World} {H : Hp} {h : Heap} {a : Addr} {u : HO} (r : Rd H a u) (x : HOk P w H h) : ObjOk P w H h a u := by
  rcases r with r | ⟨o, r⟩
  · exact x a u r
  · obtain ⟨_, q⟩ := x a _ r
    exact q
def Mut : Option HO → Prop
  | some (.lst _) => True
  | some (.dK _) => True
  | some (.dT _) => True
  | some (.set _ _) => True
  | some (.ins _ _ _) => True
  | some (.ext _) => True
  | _ => False
section
variable {P : Program} {w : World} {H : Hp} {h h' : Heap} {x e : Addr} {o' : HO}
theorem HOk.write (ok : HOk P w H h) (mu : Mut (H x)) (he : e = x ∨ H e = some (.own x)) (k : ∀ b u, b ≠ e → h.get? b = some u → h'.get? b = some u) (heo : ∃ u, h'.get? e = some u)
    (new : ObjOk P w (upd H x o') h' x o') : HOk P w (upd H x o') h' := fun b u q => by
  have nown : ∀ c y, H c = some (.own y) → c ≠ x := fun c y r z => by subst z; rw [r] at mu; exact mu
  have ntup : ∀ c u, Sty u → H c = some u → c ≠ x := fun c u y r z => by
    subst z
    rw [r] at mu
    cases u <;> first | exact mu | exact y
  by_cases hb : b = x
  · subst hb; rw [upd_same] at q; cases q; exact new
  · rw [upd_ne hb] at q
    by_cases hbe : b = e
    · have q' : H b = some (.own x) := by
        rcases he with z | z
        · exact absurd (hbe.trans z) hb
        · rw [hbe]; exact z
      rw [q] at q'; cases q'
      obtain ⟨v, hv⟩ := heo
      exact ⟨v, by rw [hbe]; exact hv⟩
    · refine (ok b u q).stay (fun c v hc r => k c v ?_ r) (fun c r => by rw [upd_ne (nown c b r)]; exact r) fun c xs y r => by rw [upd_ne (ntup c xs y r)]; exact r
      rcases hc with rfl | hc
      · exact hbe
      · rintro rfl
        rcases he with z | z
        · exact nown c b hc z
        · rw [hc] at z; cases z; exact hb rfl
end
structure Un (fs ex : List Addr) (H H' : Hp) (h h' : Heap) : Prop where
  keep : ∀ b o, h.get? b = some o → H b = none → b ∉ fs → b ∉ ex → h'.get? b = some o
  slot : ∀ b o, h.get? b = some o → H b = none → b ∈ fs → b ∉ ex → ∃ sl, h'.get? b = some { o with slots := sl }
  free : ∀ b o, h.get? b = some o → H b = none → b ∉ ex → H' b = none
  there : ∀ b o, h.get? b = some o → b ∉ ex → ∃ o', h'.get? b = some o'
  tups : ∀ b xs, H b = some (.tup xs) → H' b = some (.tup xs)
  frzs : ∀ b o u, H b = some (.frz o u) → H' b = some (.frz o u)
  tbls : ∀ b ps, H b = some (.tbl ps) → ∃ more, H' b = some (.tbl (ps ++ more))
section
variable {fs fs' ex ex' : List Addr} {H H1 H2 : Hp} {h h1 h2 h' : Heap} {a x e : Addr} {o : HO}
theorem Un.any (u : Un fs ex H H1 h h1) {b : Addr} {ob : Obj} (q : h.get? b = some ob) (n : H b = none) (hx : b ∉ ex) : ∃ sl, h1.get? b = some { ob with slots := sl } := by
  by_cases hb : b ∈ fs
  · exact u.slot b ob q n hb hx
  · exact ⟨ob.slots, u.keep b ob q n hb hx⟩
theorem Un.trans (a : Un fs ex H H1 h h1) (b : Un fs ex H1 H2 h1 h2) : Un fs ex H H2 h h2 where
  keep := fun c ob q n hc hx => b.keep c ob (a.keep c ob q n hc hx) (a.free c ob q n hx) hc hx
  slot := fun c ob q n hc hx => by
    obtain ⟨sl, e1⟩ := a.slot c ob q n hc hx
    obtain ⟨sl', e2⟩ := b.slot c _ e1 (a.free c ob q n hx) hc hx
    exact ⟨sl', e2⟩
  free := fun c ob q n hx => by
    obtain ⟨o', e1⟩ := a.there c ob q hx
    exact b.free c o' e1 (a.free c ob q n hx) hx
  there := fun c ob q hx => by
    obtain ⟨o', e1⟩ := a.there c ob q hx
    exact b.there c o' e1 hx
  tups := fun c xs q => b.tups c xs (a.tups c xs q)
  frzs := fun c ob xs q => b.frzs c ob xs (a.frzs c ob xs q)
  tbls := fun c ps q => by
    obtain ⟨m1, e1⟩ := a.tbls c ps q
    obtain ⟨m2, e2⟩ := b.tbls c _ e1
    exact ⟨m1 ++ m2, by rw [e2, Array.append_assoc]⟩
theorem Un.kept (k : ∀ b u, h.get? b = some u → h'.get? b = some u) : Un fs ex H H h h' :=
  ⟨fun b ob q _ _ _ => k b ob q, fun b ob q _ _ _ => ⟨ob.slots, k b ob q⟩, fun _ _ _ n _ => n, fun b ob q _ => ⟨ob, k b ob q⟩, fun _ _ q => q, fun _ _ _ q => q, fun _ ps q => ⟨#[], by rw [q]; simp⟩⟩
theorem Un.refl : Un fs ex H H h h := Un.kept fun _ _ q => q
theorem Un.laid (k : ∀ b u, h.get? b = some u → h'.get? b = some u) (hp : h.objs.size ≤ a) (hn : H a = none) : Un fs ex H (upd H a o) h h' where
  keep := fun b u q _ _ _ => k b u q
  slot := fun b u q _ _ _ => ⟨u.slots, k b u q⟩
  free := fun b u q n _ => by rw [upd_ne (Nat.ne_of_lt (Nat.lt_of_lt_of_le (Heap.lt_size q) hp))]; exact n
  there := fun b u q _ => ⟨u, k b u q⟩
  tups := fun b xs q => by rw [upd_ne (ne_of_none q hn)]; exact q
  frzs := fun b u xs q => by rw [upd_ne (ne_of_none q hn)]; exact q
  tbls := fun b ps q => ⟨#[], by rw [upd_ne (ne_of_none q hn), q]; simp⟩
theorem Un.write (mu : Mut (H x)) (he : e = x ∨ H e = some (.own x)) (k : ∀ b u, b ≠ e → h.get? b = some u → h'.get? b = some u) (heo : ∃ u, h'.get? e = some u) : Un fs ex H (upd H x o) h h' := by
  have hx : ∀ b, H b = none → b ≠ x := fun b n z => by subst z; rw [n] at mu; exact mu
  have hb : ∀ b, H b = none → b ≠ e := fun b n z => by
    subst z
    rcases he with r | r
    · exact hx b n r
    · rw [n] at r; cases r
  have hm : ∀ b u, H b = some u → ¬ Mut (some u) → b ≠ x := fun b u q nm z => by subst z; rw [q] at mu; exact nm mu
  refine ⟨fun b u q n _ _ => k b u (hb b n) q, fun b u q n _ _ => ⟨u.slots, k b u (hb b n) q⟩, fun b u q n _ => by rw [upd_ne (hx b n)]; exact n, fun b u q _ => ?_,
    fun b xs q => by rw [upd_ne (hm b _ q fun z => z)]; exact q, fun b u xs q => by rw [upd_ne (hm b _ q fun z => z)]; exact q, fun b ps q => ⟨#[], by rw [upd_ne (hm b _ q fun z => z), q]; simp⟩⟩
  by_cases hbe : b = e
  · subst hbe; exact heo
  · exact ⟨u, k b u hbe q⟩
theorem Un.mono (u : Un fs ex H H1 h h1) (hs : ∀ b ∈ fs, b ∈ fs') (hx : ∀ b ∈ ex, b ∈ ex') : Un fs' ex' H H1 h h1 :=
  ⟨fun b ob q n hb he => u.keep b ob q n (fun z => hb (hs b z)) fun z => he (hx b z), fun _ _ q n _ he => u.any q n fun z => he (hx _ z), fun b ob q n he => u.free b ob q n fun z => he (hx b z), fun b ob q he => u.there b ob q fun z => he (hx b z), u.tups, u.frzs, u.tbls⟩
end
def trk (h : Heap) (H : Hp) : List Addr := (List.range h.objs.size).filter fun a => (H a).isSome
def hidT (h : Heap) (H : Hp) : Heap := PySem.W.hideAll h (trk h H)
theorem hidT_size (h : Heap) (H : Hp) : (hidT h H).objs.size = h.objs.size := PySem.W.hideAll_size _ _
theorem hidT_get {h : Heap} {H : Hp} {b : Addr} {o : Obj} (e : h.get? b = some o) (n : H b = none) : (hidT h H).get? b = some o :=
  PySem.W.hideAll_get _ e fun hm => by
    have q : (H b).isSome = true := (List.mem_filter.mp hm).2
    rw [n] at q; simp at q
theorem of_hidT {h : Heap} {H : Hp} {b : Addr} {o : Obj} (e : (hidT h H).get? b = some o) : h.get? b = some o ∧ H b = none := by
  have e' : h.get? b = some o := PySem.W.of_hideAll (trk h H) e
  refine ⟨e', ?_⟩
  cases q : H b with
  | none => rfl
  | some x =>
    have hm : b ∈ trk h H := List.mem_filter.mpr ⟨List.mem_range.mpr (Heap.lt_size e'), by simp [q]⟩
    have z : (hidT h H).get? b = none := PySem.W.hideAll_none (trk h H) hm
    rw [z] at e; cases e
def allNews (g h : Heap) (L : Addr) : List (Addr × Obj) := (List.range h.objs.size).filterMap fun a => if a = L ∨ (g.get? a).isSome = true then none else (h.get? a).map fun o => (a, o)
def rest (g h : Heap) (L d : Addr) : List (Addr × Obj) := (allNews g h L).filter fun p => decide (p.1 ≠ d)
end L2
namespace L2
open PySem PySem.Spec PyProof.Rows
structure Mod (K : PySem.W.Frag) (mg : Str → Option Value) (base : Heap) : Prop where
  kin : K.In base
  glob : base.Ns mainGlobals mg
  blt : ∃ mb, base.Ns builtinsNs mb ∧ ∀ x : Str, x ≠ "__name__" → mb x = bootBuiltins x
  nolimit : base.NoLimit
  bm : ∃ bm o, mg "__builtins__" = some (.ref bm) ∧ bm ≠ builtinsNs ∧ base.get? bm = some o ∧ o.cls = .type "module" ∧ o.dict = some builtinsNs ∧ o.data = .plain
structure Cx where
  prog : Program
  w : World
  K : PySem.W.Frag
  mg : Str → Option Value
  base : Heap
  A : Around
  N : List Str
  s₀ : Shared
  H₀ : Hp
  env : Env
  outer : List Env
  stack : List Env
  ex : List Addr
  fn : Str → Bool
  calm : Bool
  pn : List (Addr × Obj)
  xe : Value → Shared → Prop
def frs (l : List Env) : List Addr := l.filterMap (·.frame)
abbrev Cx.fs (X : Cx) : List Addr := frs X.outer
def Vis (sc : Scope) (x : Str) : Prop := sc.names.lookup x = some .local ∨ sc.names.lookup x = some .cell ∨ sc.names.lookup x = some .free
def Loc (sc : Scope) (x : Str) : Prop := sc.names.lookup x = some .local ∨ sc.names.lookup x = some .cell
def Look (env : Env) (h : Heap) (m : Str → Option Value) (x : Str) (u : Value) : Prop :=
  (env.kindOf x = some .local ∧ m x = some u) ∨ ((env.kindOf x = some .cell ∨ env.kindOf x = some .free) ∧ ∃ c, env.cells.lookup x = some c ∧ h.IsCell c (some u))
structure Cx.Ok (X : Cx) : Prop where
  mod : Mod X.K X.mg X.base
  kind : X.env.scope.kind = .function
  glob : X.env.globals = mainGlobals
  blt : X.env.builtins = builtinsNs
  above : X.s₀.heap.objs.size ≤ X.env.locals
  inj : ∀ x y c, X.env.cells.lookup x = some c → X.env.cells.lookup y = some c → x = y
  has : ∀ x, (X.env.kindOf x = some .cell ∨ X.env.kindOf x = some .free) → ∃ c, X.env.cells.lookup x = some c
  cab : ∀ x c, X.fn x = true → X.env.cells.lookup x = some c → X.s₀.heap.objs.size ≤ c
  hd : X.calm = true → X.A.handled = none
  frames : X.A.frames = some X.stack
  stk : X.stack = X.outer ∨ (X.stack = X.env :: X.outer ∧ X.env.frame = some X.env.locals)
  exf : ∀ b ∈ X.ex, b ≠ X.env.locals ∧ ∀ x c, X.env.cells.lookup x = some c → c ≠ b
  bs : ∀ b o, X.base.get? b = some o → X.s₀.heap.get? b = some o ∧ X.H₀ b = none
  bsz : X.base.objs.size ≤ X.s₀.heap.objs.size
  noex : ∀ b o, X.base.get? b = some o → b ∉ X.ex
  exfs : ∀ b ∈ X.ex, b ∉ X.fs
  funs : X.s₀.heap.FunFrames X.base X.outer
  frf : ∀ b ∈ X.fs, X.H₀ b = none
structure Inv (X : Cx) (pins : List (Addr × Obj)) (σ : List (Option V)) (H : Hp) (s : Shared) : Prop where
  ok : X.Ok
  os : s.os = X.s₀.os
  bare : AllBare s.gens
  base : Un X.fs X.ex X.H₀ H X.s₀.heap s.heap
  loc : ∃ m, s.heap.Ns X.env.locals m ∧ ∀ (i : Nat) (x : Str) (v : V), X.N[i]? = some x → σ[i]? = some (some v) → Vis X.env.scope x → ∃ u, RelV v u ∧ Look X.env s.heap m x u
  cell : ∀ x c, X.env.cells.lookup x = some c → ∃ v, s.heap.IsCell c v
  free : H X.env.locals = none
  freeC : ∀ x c, X.env.cells.lookup x = some c → H c = none
  pin : ∀ p ∈ X.pn ++ pins, s.heap.get? p.1 = some p.2 ∧ H p.1 = none ∧ p.1 ≠ X.env.locals ∧ p.1 ∉ X.fs ∧ ∀ v, p.2.data ≠ .cell v
  hok : HOk X.prog X.w H s.heap
  len : σ.length = X.N.length
section
variable {X : Cx} {pins : List (Addr × Obj)} {σ : List (Option V)} {H H' : Hp} {s : Shared} {h' : Heap}
theorem Cx.Ok.nofr (ok : X.Ok) {b : Addr} {o : Obj} (e : X.base.get? b = some o) : b ∉ X.fs := fun hb => by
  have := (ok.funs.mem hb).1
  rw [e] at this; cases this
theorem Inv.bs (I : Inv X pins σ H s) : ∀ b o, X.base.get? b = some o → s.heap.get? b = some o ∧ H b = none := fun b o e =>
  ⟨I.base.keep b o (I.ok.bs b o e).1 (I.ok.bs b o e).2 (I.ok.nofr e) (I.ok.noex b o e), I.base.free b o (I.ok.bs b o e).1 (I.ok.bs b o e).2 (I.ok.noex b o e)⟩
theorem Inv.bk (I : Inv X pins σ H s) : ∀ b o, X.base.get? b = some o → s.heap.get? b = some o := fun b o e => (I.bs b o e).1
theorem Inv.mod (I : Inv X pins σ H s) : Mod X.K X.mg X.base := I.ok.mod
theorem Inv.kIn (I : Inv X pins σ H s) : X.K.In s.heap := I.ok.mod.kin.keeps I.bk
theorem Inv.nolimit (I : Inv X pins σ H s) : s.heap.NoLimit := I.ok.mod.nolimit.keeps I.bk
theorem Inv.lt (I : Inv X pins σ H s) : X.env.locals < s.heap.objs.size := let ⟨_, hn, _⟩ := I.loc; hn.lt
theorem Inv.sz (I : Inv X pins σ H s) : X.s₀.heap.objs.size ≤ s.heap.objs.size := Nat.le_trans I.ok.above (Nat.le_of_lt I.lt)
theorem Inv.nofs (I : Inv X pins σ H s) {a : Addr} (h : s.heap.objs.size ≤ a) : a ∉ X.fs := fun hb => by
  obtain ⟨_, o, ho, _⟩ := I.ok.funs.mem hb
  exact absurd (Nat.lt_of_lt_of_le (Heap.lt_size ho) (Nat.le_trans I.sz h)) (Nat.lt_irrefl _)
theorem Inv.cne (I : Inv X pins σ H s) : ∀ x c, X.env.cells.lookup x = some c → c ≠ X.env.locals := fun x c e z => by
  obtain ⟨v, o, ho, hd⟩ := I.cell x c e
  obtain ⟨m, ⟨o', es, ep, ho', hd', _⟩, _⟩ := I.loc
  rw [z, ho'] at ho; cases ho; rw [hd'] at hd; cases hd
theorem Inv.funs (I : Inv X pins σ H s) : s.heap.FunFrames X.base X.outer := by
  have all : ∀ (l : List Env), (∀ b ∈ frs l, b ∈ X.fs) → X.s₀.heap.FunFrames X.base l → s.heap.FunFrames X.base l := by
    intro l
    induction l with
    | nil => intro _ _; trivial
    | cons env r ih =>
      intro hs hl
      obtain ⟨hk, ⟨L, o, hf, hn, ho, hd⟩, hr⟩ := hl
      have hL : L ∈ X.fs := hs L (by unfold frs; rw [List.filterMap_cons, hf]; exact List.mem_cons_self)
      obtain ⟨sl, e⟩ := I.base.slot L o ho (I.ok.frf L hL) hL fun z => I.ok.exfs L z hL
      exact ⟨hk, ⟨L, _, hf, hn, e, hd⟩, ih (fun b hb => hs b (by unfold frs; rw [List.filterMap_cons, hf]; exact List.mem_cons_of_mem _ hb)) hr⟩
  exact all X.outer (fun _ hb => hb) I.ok.funs
theorem Inv.stack (I : Inv X pins σ H s) : s.heap.FunFrames X.base X.stack := by
  rcases I.ok.stk with e | ⟨e, hf⟩
  · rw [e]; exact I.funs
  · rw [e]
    obtain ⟨m, hn, _⟩ := I.loc
    refine .cons (by rw [I.ok.kind]; decide) hf hn ?_ I.funs
    exact Heap.get?_none_of_le (Nat.le_trans I.ok.bsz I.ok.above)
theorem Inv.stkSub (I : Inv X pins σ H s) : ∀ b ∈ frs X.stack, b ∈ X.env.locals :: X.fs := fun b hb => by
  rcases I.ok.stk with e | ⟨e, hf⟩
  · rw [e] at hb; exact List.mem_cons_of_mem _ hb
  · rw [e] at hb
    unfold frs at hb
    rw [List.filterMap_cons, hf] at hb
    exact hb
theorem Inv.stkFree (I : Inv X pins σ H s) : ∀ b ∈ frs X.stack, H b = none := fun b hb => by
  rcases List.mem_cons.mp (I.stkSub b hb) with e | hb
  · rw [e]; exact I.free
  · obtain ⟨_, o, ho, _⟩ := I.ok.funs.mem hb
    exact I.base.free b o ho (I.ok.frf b hb) fun z => I.ok.exfs b z hb
theorem Inv.step {g' : Array GenState} {t' : Nat} {d' : Drawn} {ch : List Addr} (I : Inv X pins σ H s)
    (hch : ∀ b ∈ ch, (b ∈ X.ex ∨ X.s₀.heap.objs.size ≤ b) ∧ b ≠ X.env.locals ∧ (∀ x c, X.env.cells.lookup x = some c → c ≠ b) ∧ ∀ p ∈ X.pn ++ pins, p.1 ≠ b)
    (keep : ∀ b o, b ≠ X.env.locals → b ∉ X.fs → b ∉ ch → s.heap.get? b = some o → H b = none → h'.get? b = some o)
    (slot : ∀ b o, b ≠ X.env.locals → b ∈ X.fs → b ∉ ch → s.heap.get? b = some o → H b = none → ∃ sl, h'.get? b = some { o with slots := sl }) (free : ∀ b o, b ∉ ch → s.heap.get? b = some o → H b = none → H' b = none)
    (there : ∀ b o, b ∉ ch → s.heap.get? b = some o → ∃ o', h'.get? b = some o')
    (tups : ∀ b xs, H b = some (.tup xs) → H' b = some (.tup xs)) (frzs : ∀ b o u, H b = some (.frz o u) → H' b = some (.frz o u)) (tbls : ∀ b ps, H b = some (.tbl ps) → ∃ more, H' b = some (.tbl (ps ++ more)))
    (ns : ∀ m, s.heap.Ns X.env.locals m → h'.Ns X.env.locals m) (hok : HOk X.prog X.w H' h') (hg : AllBare g') :
    Inv X pins σ H' { s with heap := h', gens := g', drawn := d', toks := t' } := by
  have neL : ∀ b o, X.s₀.heap.get? b = some o → b ≠ X.env.locals := fun b o e => Nat.ne_of_lt (Nat.lt_of_lt_of_le (Heap.lt_size e) I.ok.above)
  have neC : ∀ b o, X.s₀.heap.get? b = some o → b ∉ X.ex → b ∉ ch := fun b o e hx hb => by
    rcases (hch b hb).1 with z | z
    · exact hx z
    · exact absurd (Nat.lt_of_lt_of_le (Heap.lt_size e) z) (Nat.lt_irrefl _)
  have cellK : ∀ x c, X.env.cells.lookup x = some c → ∀ v, s.heap.IsCell c v → h'.IsCell c v := fun x c e v ⟨o, ho, hd⟩ => by
    have nch : c ∉ ch := fun z => (hch c z).2.2.1 x c e rfl
    by_cases hc : c ∈ X.fs
    · obtain ⟨sl, q⟩ := slot c o (I.cne x c e) hc nch ho (I.freeC x c e)
      exact ⟨_, q, hd⟩
    · exact ⟨o, keep c o (I.cne x c e) hc nch ho (I.freeC x c e), hd⟩
  refine ⟨I.ok, I.os, hg, ⟨fun b o e n hb hx => ?_, fun b o e n hb hx => ?_, fun b o e n hx => ?_, fun b o e hx => ?_, fun b xs e => tups b xs (I.base.tups b xs e), fun b o xs e => frzs b o xs (I.base.frzs b o xs e), fun b ps e => ?_⟩, ?_, fun x c e => ?_, ?_, fun x c e => ?_, fun p hp => ?_, hok, I.len⟩
  · exact keep b o (neL b o e) hb (neC b o e hx) (I.base.keep b o e n hb hx) (I.base.free b o e n hx)
  · obtain ⟨sl, e1⟩ := I.base.slot b o e n hb hx
    obtain ⟨sl', e2⟩ := slot b _ (neL b o e) hb (neC b o e hx) e1 (I.base.free b o e n hx)
    exact ⟨sl', e2⟩
  · obtain ⟨o', e1⟩ := I.base.there b o e hx
    exact free b o' (neC b o e hx) e1 (I.base.free b o e n hx)
  · obtain ⟨o', e1⟩ := I.base.there b o e hx
    exact there b o' (neC b o e hx) e1
  · obtain ⟨m1, e1⟩ := I.base.tbls b ps e
    obtain ⟨m2, e2⟩ := tbls b _ e1
    exact ⟨m1 ++ m2, by rw [e2, Array.append_assoc]⟩
  · obtain ⟨m, hn, hl⟩ := I.loc
    refine ⟨m, ns m hn, fun i x v e1 e2 e3 => ?_⟩
    obtain ⟨u, r, l⟩ := hl i x v e1 e2 e3
    refine ⟨u, r, ?_⟩
    rcases l with l | ⟨k, c, e, z⟩
    · exact .inl l
    · exact .inr ⟨k, c, e, cellK x c e _ z⟩
  · obtain ⟨v, z⟩ := I.cell x c e
    exact ⟨v, cellK x c e v z⟩
  · obtain ⟨m, ⟨o, _, _, ho, _⟩, _⟩ := I.loc
    exact free _ o (fun z => (hch _ z).2.1 rfl) ho I.free
  · obtain ⟨v, o, ho, hd⟩ := I.cell x c e
    exact free c o (fun z => (hch c z).2.2.1 x c e rfl) ho (I.freeC x c e)
  · obtain ⟨e, n, ne, nf, d⟩ := I.pin p hp
    have nch : p.1 ∉ ch := fun z => (hch p.1 z).2.2.2 p hp rfl
    exact ⟨keep p.1 p.2 ne nf nch e n, free p.1 p.2 nch e n, ne, nf, d⟩
theorem Inv.un {t' : Nat} (I : Inv X pins σ H s) (u : Un X.fs [] H H' s.heap h') (hok : HOk X.prog X.w H' h') : Inv X pins σ H' { s with heap := h', toks := t' } := by
  obtain ⟨m, ⟨o, es, ep, ho, r⟩, _⟩ := id I.loc
  obtain ⟨sl, hL⟩ := u.any ho I.free (by simp)
  exact I.step (g' := s.gens) (d' := s.drawn) (ch := []) (fun _ z => nomatch z) (fun b o _ hb _ e n => u.keep b o e n hb (by simp)) (fun b o _ hb _ e n => u.slot b o e n hb (by simp)) (fun b o _ e n => u.free b o e n (by simp)) (fun b o _ e => u.there b o e (by simp)) u.tups u.frzs u.tbls (fun m' hm => by
    obtain ⟨o', es', ep', ho', r'⟩ := hm
    rw [ho] at ho'; cases ho'
    exact ⟨_, es', ep', hL, r'⟩) hok I.bare
theorem Inv.call {g' : Array GenState} {t' : Nat} {d' : Drawn} {ch : List Addr} (I : Inv X pins σ H s) (u : Un (frs X.stack) ch H H' s.heap h') (hok : HOk X.prog X.w H' h') (hg : AllBare g')
    (hch : ∀ b ∈ ch, (b ∈ X.ex ∨ X.s₀.heap.objs.size ≤ b) ∧ b ≠ X.env.locals ∧ (∀ x c, X.env.cells.lookup x = some c → c ≠ b) ∧ ∀ p ∈ X.pn ++ pins, p.1 ≠ b) :
    Inv X pins σ H' { s with heap := h', gens := g', drawn := d', toks := t' } := by
  obtain ⟨m, ⟨o, es, ep, ho, r⟩, _⟩ := id I.loc
  obtain ⟨sl, hL⟩ := u.any ho I.free fun z => (hch _ z).2.1 rfl
  exact I.step (ch := ch) hch (fun b o hL hb hc e n => u.keep b o e n (fun z => (List.mem_cons.mp (I.stkSub b z)).elim hL hb) hc) (fun b o _ _ hc e n => u.any e n hc) (fun b o hc e n => u.free b o e n hc) (fun b o hc e => u.there b o e hc) u.tups u.frzs u.tbls (fun m' hm => by
    obtain ⟨o', es', ep', ho', r'⟩ := hm
    rw [ho] at ho'; cases ho'
    exact ⟨_, es', ep', hL, r'⟩) hok hg
theorem Inv.turned {t' : Nat} {it : Addr} (I : Inv X pins σ H s) (k : ∀ b o, b ≠ it → s.heap.get? b = some o → h'.get? b = some o) (hn : H it = none) (hL : it ≠ X.env.locals)
    (h1 : it ∈ X.ex ∨ X.s₀.heap.objs.size ≤ it) (h2 : ∀ x c, X.env.cells.lookup x = some c → c ≠ it) (h3 : ∀ p ∈ X.pn ++ pins, p.1 ≠ it) : Inv X pins σ H { s with heap := h', toks := t' } := by
  have nit : ∀ b u, H b = some u → b ≠ it := fun b u e z => by rw [z, hn] at e; cases e
  refine I.step (g' := s.gens) (d' := s.drawn) (ch := [it]) (fun b hb => ?_) (fun b o _ _ hc e _ => k b o (fun z => hc (by simp [z])) e) (fun b o _ _ hc e _ => ⟨o.slots, k b o (fun z => hc (by simp [z])) e⟩) (fun _ _ _ _ n => n)
    (fun b o hc e => ⟨o, k b o (fun z => hc (by simp [z])) e⟩) (fun _ _ e => e) (fun _ _ _ e => e) (fun b ps e => ⟨#[], by rw [e]; simp⟩) (fun m hm => ?_) (fun b u e => ?_) I.bare
  · have e : b = it := by simpa using hb
    subst e
    exact ⟨h1, hL, h2, h3⟩
  · obtain ⟨o, es, ep, ho, r⟩ := hm
    exact ⟨o, es, ep, k _ o (Ne.symm hL) ho, r⟩
  · refine (I.hok b u e).stay (fun c v hc q => k c v ?_ q) (fun _ q => q) fun _ _ _ q => q
    rcases hc with z | z
    · rw [z]; exact nit b u e
    · exact nit c _ z
theorem Inv.tok (I : Inv X pins σ H s) (t : Nat) : Inv X pins σ H { s with toks := t } := I.un (h' := s.heap) (t' := t) Un.refl I.hok
theorem Inv.kept {t' : Nat} (I : Inv X pins σ H s) (k : ∀ b u, s.heap.get? b = some u → h'.get? b = some u) : Inv X pins σ H { s with heap := h', toks := t' } := I.un (Un.kept k) (I.hok.kept k)
theorem Inv.laid {a : Addr} {o : HO} {t' : Nat} (I : Inv X pins σ H s) (k : ∀ b u, s.heap.get? b = some u → h'.get? b = some u) (hp : s.heap.objs.size ≤ a) (new : ObjOk X.prog X.w (upd H a o) h' a o) :
    Inv X pins σ (upd H a o) { s with heap := h', toks := t' } := I.un (Un.laid k hp (I.hok.fresh hp)) (I.hok.laid k hp new)
theorem Inv.write {x e : Addr} {o : HO} {t' : Nat} (I : Inv X pins σ H s) (mu : Mut (H x)) (he : e = x ∨ H e = some (.own x)) (k : ∀ b u, b ≠ e → s.heap.get? b = some u → h'.get? b = some u) (heo : ∃ u, h'.get? e = some u)
    (new : ObjOk X.prog X.w (upd H x o) h' x o) : Inv X pins σ (upd H x o) { s with heap := h', toks := t' } := I.un (Un.write mu he k heo) (I.hok.write mu he k heo new)
theorem Inv.weak {σ' : List (Option V)} (I : Inv X pins σ H s) (hl : σ'.length = σ.length) (w : ∀ (i : Nat) v, σ'[i]? = some (some v) → σ[i]? = some (some v)) : Inv X pins σ' H s :=
  ⟨I.ok, I.os, I.bare, I.base, let ⟨m, hn, hl'⟩ := I.loc; ⟨m, hn, fun i x v e1 e2 e3 => hl' i x v e1 (w i v e2) e3⟩, I.cell, I.free, I.freeC, I.pin, I.hok, hl.trans I.len⟩
theorem Inv.pins_of {pins' : List (Addr × Obj)} (I : Inv X pins σ H s) (h : ∀ p ∈ pins', s.heap.get? p.1 = some p.2 ∧ H p.1 = none ∧ p.1 ≠ X.env.locals ∧ p.1 ∉ X.fs ∧ ∀ v, p.2.data ≠ .cell v) : Inv X pins' σ H s :=
  ⟨I.ok, I.os, I.bare, I.base, I.loc, I.cell, I.free, I.freeC, fun p hp => (List.mem_append.mp hp).elim (fun z => I.pin p (List.mem_append_left _ z)) (h p), I.hok, I.len⟩
theorem nodup_ix {N : List Str} (hN : N.Nodup) {i j : Nat} {x : Str} (a : N[i]? = some x) (b : N[j]? = some x) : i = j := by
  obtain ⟨h1, e1⟩ := List.getElem?_eq_some_iff.mp a
  obtain ⟨h2, e2⟩ := List.getElem?_eq_some_iff.mp b
  exact (List.getElem_inj hN).mp (e1.trans e2.symm)
theorem store_ok2 {M : Model} {A : Around} {E : Value → Shared → Prop} {i : Nat} {x : Str} {v : V} {u : Value} {Q : Unit → Shared → Prop} (I : Inv X pins σ H s) (hN : X.N.Nodup) (hi : X.N[i]? = some x) (hx : Loc X.env.scope x) (r : RelV v u)
    (h : ∀ s', Inv X pins (σ.set i (some v)) H s' → (∃ a, Heap.SameBut a s.heap s'.heap ∧ (a = X.env.locals ∨ X.env.cells.lookup x = some a)) → Q () s') (hf : X.fn x = true ∨ X.env.scope.names.lookup x = some .local := by first | exact .inl rfl | exact .inr rfl | assumption) : wpAny M A (storeName X.env x u) Q E s := by
  obtain ⟨m, hn, hl⟩ := id I.loc
  have hcls : (X.env.scope.kind == .class || (X.env.scope.kind == .module && X.env.locals != X.env.globals)) = false := by rw [I.ok.kind]; rfl
  have hiσ : i < σ.length := by rw [I.len]; exact (List.getElem?_eq_some_iff.mp hi).1
  have cne := I.cne
  have tracked : ∀ {a : Addr} {h' : Heap}, (∃ o, s.heap.get? a = some o ∧ H a = none) → Heap.SameBut a s.heap h' → HOk X.prog X.w H h' := fun {a h'} ha hs b ob e => by
    obtain ⟨_, _, hfree⟩ := ha
    refine (I.hok b ob e).stay (fun c w' hc q => (hs.2 c ?_).trans q) (fun _ q => q) fun _ _ _ q => q
    rintro rfl
    rcases hc with rfl | hc
    · rw [hfree] at e; cases e
    · rw [hfree] at hc; cases hc
  rcases hx with hk | hk
  · refine wpAny_storeName_local hk hn (fun h' hn' hs => ?_) hcls
    obtain ⟨oL, _, _, hoL, _⟩ := id hn
    refine h _ ⟨I.ok, I.os, I.bare, ⟨fun b o e n hb hx => ?_, fun b o e n hb hx => ?_, I.base.free, fun b o e hx => ?_, I.base.tups, I.base.frzs, I.base.tbls⟩, ⟨_, hn', fun j y v' e1 e2 e3 => ?_⟩, fun y c e => ?_, I.free, I.freeC, fun p hp => ?_, tracked ⟨oL, hoL, I.free⟩ hs, by simpa using I.len⟩ ⟨_, hs, .inl rfl⟩
    · exact (hs.2 b (Nat.ne_of_lt (Nat.lt_of_lt_of_le (Heap.lt_size e) I.ok.above))).trans (I.base.keep b o e n hb hx)
    · obtain ⟨sl, e1⟩ := I.base.slot b o e n hb hx
      exact ⟨sl, (hs.2 b (Nat.ne_of_lt (Nat.lt_of_lt_of_le (Heap.lt_size e) I.ok.above))).trans e1⟩
    · obtain ⟨o', e1⟩ := I.base.there b o e hx
      exact ⟨o', (hs.2 b (Nat.ne_of_lt (Nat.lt_of_lt_of_le (Heap.lt_size e) I.ok.above))).trans e1⟩
    · by_cases hj : j = i
      · subst hj
        rw [hi] at e1; cases e1
        rw [List.getElem?_set_self hiσ] at e2
        cases e2
        exact ⟨u, r, .inl ⟨hk, by simp⟩⟩
      · rw [List.getElem?_set_ne (Ne.symm hj)] at e2
        obtain ⟨u', r', q⟩ := hl j y v' e1 e2 e3
        refine ⟨u', r', ?_⟩
        rcases q with ⟨k, e⟩ | ⟨k, c, e, z⟩
        · refine .inl ⟨k, ?_⟩
          have : y ≠ x := fun e => hj (nodup_ix hN e1 (e ▸ hi))
          simp [this, e]
        · exact .inr ⟨k, c, e, z.sameBut hs (cne y c e)⟩
    · obtain ⟨w', z⟩ := I.cell y c e
      exact ⟨w', z.sameBut hs (cne y c e)⟩
    · obtain ⟨e, n, ne, nf, d⟩ := I.pin p hp
      exact ⟨(hs.2 p.1 ne).trans e, n, ne, nf, d⟩
  · have hfn : X.fn x = true := by
      rcases hf with z | z
      · exact z
      · rw [z] at hk; cases hk
    obtain ⟨c, hc⟩ := I.ok.has x (.inl hk)
    obtain ⟨w', z⟩ := I.cell x c hc
    refine wpAny_storeName_cell I.ok.kind hk hc z (fun h' hc' hs => ?_)
    obtain ⟨oc, hoc, hocd⟩ := id z
    refine h { s with heap := h' } ⟨I.ok, I.os, I.bare, ⟨fun b o e n hb hx => ?_, fun b o e n hb hx => ?_, I.base.free, fun b o e hx => ?_, I.base.tups, I.base.frzs, I.base.tbls⟩, ⟨m, hn.sameBut hs (Ne.symm (cne x c hc)), fun j y v' e1 e2 e3 => ?_⟩, fun y c' e => ?_, I.free, I.freeC, fun p hp => ?_, tracked ⟨oc, hoc, I.freeC x c hc⟩ hs, by simpa using I.len⟩ ⟨c, hs, .inr hc⟩
    · exact (hs.2 b (Nat.ne_of_lt (Nat.lt_of_lt_of_le (Heap.lt_size e) (I.ok.cab x c hfn hc)))).trans (I.base.keep b o e n hb hx)
    · obtain ⟨sl, e1⟩ := I.base.slot b o e n hb hx
      exact ⟨sl, (hs.2 b (Nat.ne_of_lt (Nat.lt_of_lt_of_le (Heap.lt_size e) (I.ok.cab x c hfn hc)))).trans e1⟩
    · obtain ⟨o', e1⟩ := I.base.there b o e hx
      exact ⟨o', (hs.2 b (Nat.ne_of_lt (Nat.lt_of_lt_of_le (Heap.lt_size e) (I.ok.cab x c hfn hc)))).trans e1⟩
    · by_cases hj : j = i
      · subst hj
        rw [hi] at e1; cases e1
        rw [List.getElem?_set_self hiσ] at e2
        cases e2
        exact ⟨u, r, .inr ⟨.inl hk, c, hc, hc'⟩⟩
      · rw [List.getElem?_set_ne (Ne.symm hj)] at e2
        obtain ⟨u', r', q⟩ := hl j y v' e1 e2 e3
        refine ⟨u', r', ?_⟩
        rcases q with q | ⟨k, c', e, z'⟩
        · exact .inl q
        · refine .inr ⟨k, c', e, z'.sameBut hs ?_⟩
          rintro rfl
          exact hj (nodup_ix hN e1 (I.ok.inj _ _ _ e hc ▸ hi))
    · by_cases hcc : c' = c
      · subst hcc; exact ⟨_, hc'⟩
      · obtain ⟨w2, z2⟩ := I.cell y c' e
        exact ⟨w2, z2.sameBut hs hcc⟩
    · obtain ⟨e, n, ne, nf, d⟩ := I.pin p hp
      refine ⟨(hs.2 p.1 ?_).trans e, n, ne, nf, d⟩
      intro q
      rw [q, hoc] at e
      have q' : oc = p.2 := Option.some.inj e
      exact d w' (by rw [← q']; exact hocd)
theorem store_ok {M : Model} {A : Around} {E : Value → Shared → Prop} {i : Nat} {x : Str} {v : V} {u : Value} {Q : Unit → Shared → Prop} (I : Inv X pins σ H s) (hN : X.N.Nodup) (hi : X.N[i]? = some x) (hx : Loc X.env.scope x) (r : RelV v u)
    (h : ∀ s', Inv X pins (σ.set i (some v)) H s' → Q () s') (hf : X.fn x = true ∨ X.env.scope.names.lookup x = some .local := by first | exact .inl rfl | exact .inr rfl | assumption) : wpAny M A (storeName X.env x u) Q E s :=
  store_ok2 I hN hi hx r (fun s' I' _ => h s' I') hf
theorem Inv.call' {s' : Shared} {ch : List Addr} (I : Inv X pins σ H s) (ho : s'.os = s.os) (u : Un (frs X.stack) ch H H' s.heap s'.heap) (hok : HOk X.prog X.w H' s'.heap) (hg : AllBare s'.gens)
    (hch : ∀ b ∈ ch, (b ∈ X.ex ∨ X.s₀.heap.objs.size ≤ b) ∧ b ≠ X.env.locals ∧ (∀ x c, X.env.cells.lookup x = some c → c ≠ b) ∧ ∀ p ∈ X.pn ++ pins, p.1 ≠ b) : Inv X pins σ H' s' := by
  obtain ⟨h', g', d', t', o'⟩ := s'
  have e : o' = s.os := ho
  subst e
  exact I.call (g' := g') (t' := t') (d' := d') u hok hg hch
end
abbrev XK := Value → Option Addr → Hp → Prop
abbrev St := List (Option V)
abbrev VK := V → Hp → Prop
abbrev TE := St → Hp → VK → Prop
abbrev TT := St → Hp → (Bool → Hp → Prop) → Prop
abbrev TA := St → Hp → (List V → Hp → Prop) → Prop
structure Ends where
  nx : St → Hp → Prop
  rt : VK
  bk : St → Hp → Prop := fun _ _ => False
  ct : St → Hp → Prop := fun _ _ => False
abbrev TS := Ends → St → Hp → Prop
def EP (X : Cx) (pins : List (Addr × Obj)) (σ : St) (Q : VK) (u : Value) (s' : Shared) : Prop := ∃ v H', Inv X pins σ H' s' ∧ RelV v u ∧ Q v H'
def TP (X : Cx) (pins : List (Addr × Obj)) (σ : St) (Q : Bool → Hp → Prop) (b : Bool) (s' : Shared) : Prop := ∃ H', Inv X pins σ H' s' ∧ Q b H'
def AP (X : Cx) (pins : List (Addr × Obj)) (σ : St) (Q : List V → Hp → Prop) (us : List Value) (s' : Shared) : Prop := ∃ vs H', Inv X pins σ H' s' ∧ Vals vs us ∧ Q vs H'
def SP (X : Cx) (pins : List (Addr × Obj)) (D : Ends) (f : Flow) (s' : Shared) : Prop :=
  match f with
  | .next => ∃ σ' H', Inv X pins σ' H' s' ∧ D.nx σ' H'
  | .brk => ∃ σ' H', Inv X pins σ' H' s' ∧ D.bk σ' H'
  | .cont => ∃ σ' H', Inv X pins σ' H' s' ∧ D.ct σ' H'
  | .ret u => ∃ v σ' H', Inv X pins σ' H' s' ∧ RelV v u ∧ D.rt v H'
def PE (X : Cx) (e : Expr) (t : TE) : Prop :=
  ∀ (pins : List (Addr × Obj)) (s : Shared) (σ : St) (H : Hp) (Q : VK), Inv X pins σ H s → t σ H Q → wpAny (model X.prog X.w) X.A (eval e X.env) (EP X pins σ Q) X.xe s
def PT (X : Cx) (e : Expr) (t : TT) : Prop :=
  ∀ (pins : List (Addr × Obj)) (s : Shared) (σ : St) (H : Hp) (Q : Bool → Hp → Prop), Inv X pins σ H s → t σ H Q → wpAny (model X.prog X.w) X.A (isTrue e X.env (eval e X.env)) (TP X pins σ Q) X.xe s
def PW (X : Cx) (e : Expr) (t : TT) : Prop :=
  ∀ (whole : Sem Value) (pins : List (Addr × Obj)) (s : Shared) (σ : St) (H : Hp) (Q : Bool → Hp → Prop), Inv X pins σ H s → t σ H Q → wpAny (model X.prog X.w) X.A (isTrue e X.env whole) (TP X pins σ Q) X.xe s
theorem PW.pt {X : Cx} {e : Expr} {t : TT} (h : PW X e t) : PT X e t := h _
def PA (X : Cx) (es : List Expr) (t : TA) : Prop :=
  ∀ (pos : Pos) (pins : List (Addr × Obj)) (s : Shared) (σ : St) (H : Hp) (Q : List V → Hp → Prop), Inv X pins σ H s → t σ H Q → wpAny (model X.prog X.w) X.A (spliced (backTo pos (starEach es X.env))) (AP X pins σ Q) X.xe s
def PS (X : Cx) (st : Stmt) (t : TS) : Prop :=
  ∀ (pins : List (Addr × Obj)) (s : Shared) (σ : St) (H : Hp) (D : Ends), Inv X pins σ H s → t D σ H → wpAny (model X.prog X.w) X.A (exec st X.env) (SP X pins D) X.xe s
def PSs (X : Cx) (st : List Stmt) (t : TS) : Prop :=
  ∀ (pins : List (Addr × Obj)) (s : Shared) (σ : St) (H : Hp) (D : Ends), Inv X pins σ H s → t D σ H → wpAny (model X.prog X.w) X.A (execs st X.env) (SP X pins D) X.xe s
theorem thn {α : Type} {t : Sem α} {Q Q' : α → Shared → Prop} {M : Model} {A : Around} {E : Value → Shared → Prop} {s : Shared} (h : wpAny M A t Q E s) (hQ : ∀ a s, Q a s → Q' a s) : wpAny M A t Q' E s := wpAny_mono h hQ fun _ _ x => x
end L2
namespace L2
open PySem PySem.Spec PyProof.Rows
section
variable {X : Cx}
def tVar (i : Nat) : TE := fun σ H Q => ∃ v, σ[i]? = some (some v) ∧ Q v H
def tC (v : V) : TE := fun _ H Q => Q v H
theorem pe_var {i : Nat} {x : Str} {pos : Pos} (hN : X.N[i]? = some x) (hv : Vis X.env.scope x) (hd : (x == ("__debug__" : Str)) = false := by decide) (hcd : (x == ("__classdict__" : Str)) = false := by decide) : PE X (.Name x pos) (tVar i) := by
  intro pins s σ H Q I h
  obtain ⟨v, e, h⟩ := h
  obtain ⟨m, hn, hl⟩ := I.loc
  obtain ⟨u, r, l⟩ := hl i x v hN e hv
  have fin : EP X pins σ Q u s := ⟨v, H, I, r, h⟩
  rcases l with ⟨hk, hm⟩ | ⟨hk, c, hc, hcell⟩
  · exact wpAny_Name (wpAny_loadName_local I.ok.kind hk hn hm fin) hd
  · rcases hk with hk | hk
    · exact wpAny_Name (wpAny_loadName_cell I.ok.kind hk hc hcell fin) hd
    · exact wpAny_Name (wpAny_loadName_free I.ok.kind hk hc hcell fin hcd) hd
theorem pe_int {i j pos} : PE X (.Constant (.int i) j pos) (tC (.int i)) := fun _ _ _ H _ I h => wpAny_Constant_int ⟨.int i, H, I.tok _, ⟨_, rfl⟩, h⟩
theorem pe_bl {b j pos} : PE X (.Constant (.bool b) j pos) (tC (.bl b)) := fun _ _ _ H _ I h => Constant_bool ⟨.bl b, H, I, rfl, h⟩
theorem pe_non {j pos} : PE X (.Constant .none j pos) (tC .non) := fun _ _ _ H _ I h => Constant_none ⟨.non, H, I, rfl, h⟩
def Gl (X : Cx) (x : Str) : Prop := X.env.kindOf x = some .globalImplicit
theorem ld_glob {E : Value → Shared → Prop} {pins : List (Addr × Obj)} {s : Shared} {σ : St} {H : Hp} {x : Str} {u : Value} {pos : Pos} {Q : Value → Shared → Prop} (I : Inv X pins σ H s) (hg : Gl X x) (hm : X.mg x = some u) (h : Q u s)
    (hd : (x == ("__debug__" : Str)) = false := by decide) : wpAny (model X.prog X.w) X.A (eval (.Name x pos) X.env) Q E s :=
  Calls.Name_function_global I.ok.kind hg (Calls.loadGlobal_global (by rw [I.ok.glob]; exact I.mod.glob.keeps I.bk) hm h) hd
theorem ld_blt {E : Value → Shared → Prop} {pins : List (Addr × Obj)} {s : Shared} {σ : St} {H : Hp} {x : Str} {u : Value} {pos : Pos} {Q : Value → Shared → Prop} (I : Inv X pins σ H s) (hg : Gl X x) (hm : X.mg x = none) (hv : bootBuiltins x = some u) (h : Q u s)
    (hn : x ≠ "__name__" := by decide) (hd : (x == ("__debug__" : Str)) = false := by decide) : wpAny (model X.prog X.w) X.A (eval (.Name x pos) X.env) Q E s := by
  obtain ⟨mb, h1, h2⟩ := I.mod.blt
  exact Calls.Name_function_global I.ok.kind hg (Calls.loadGlobal_builtin (by rw [I.ok.glob]; exact I.mod.glob.keeps I.bk) hm (by rw [I.ok.blt]; exact h1.keeps I.bk) ((h2 x hn).trans hv) h) hd
theorem pe_glob {x : Str} {v : V} {u : Value} {pos : Pos} (hg : Gl X x) (hm : X.mg x = some u) (r : RelV v u) (hd : (x == ("__debug__" : Str)) = false := by decide) : PE X (.Name x pos) (tC v) :=
  fun _ _ _ H _ I h => ld_glob I hg hm ⟨v, H, I, r, h⟩ hd
theorem pe_bltn {x : Str} {v : V} {u : Value} {pos : Pos} (hg : Gl X x) (hm : X.mg x = none) (hv : bootBuiltins x = some u) (r : RelV v u) (hn : x ≠ "__name__" := by decide) (hd : (x == ("__debug__" : Str)) = false := by decide) : PE X (.Name x pos) (tC v) :=
  fun _ _ _ H _ I h => ld_blt I hg hm hv ⟨v, H, I, r, h⟩ hn hd
variable {a b : Expr} {ta tb : TE} {pos : Pos}
def tB (t : TE) : TT := fun σ H Q => t σ H fun x H1 => ∃ c, x = .bl c ∧ Q c H1
theorem pt_val {e : Expr} {t : TE} (h : PE X e t) (he : ∀ whole, isTrue e X.env whole = (do let v ← whole; standAt e.pos; holding [v] (truthy v)) := by intro _; rfl) : PT X e (tB t) := by
  intro pins s σ H Q I hw
  refine isTrue_plain (thn (h pins s σ H _ I hw) fun v s1 ⟨x, H1, I1, r1, q1⟩ => ?_) (he _)
  obtain ⟨d, rfl, q⟩ := q1
  cases r1
  exact wpAny_truthy_bool ⟨H1, I1, q⟩
variable {tA tB' : TT} {rest : List Expr}
def tAnd (t u : TT) : TT := fun σ H Q => t σ H fun c H1 => if c = true then u σ H1 Q else Q false H1
def tOr (t u : TT) : TT := fun σ H Q => t σ H fun c H1 => if c = true then Q true H1 else u σ H1 Q
def tNot (t : TT) : TT := fun σ H Q => t σ H fun c H1 => Q (!c) H1
theorem pw_and1 (ha : PT X a tA) : PW X (.BoolOp .And [a] pos) tA := by
  intro wh pins s σ H Q I h
  refine isTrue_and (thn (ha pins s σ H Q I h) fun c s1 e => ?_)
  cases c with
  | true => exact isTrue_and_nil e
  | false => exact e
theorem pw_or1 (ha : PT X a tA) : PW X (.BoolOp .Or [a] pos) tA := by
  intro wh pins s σ H Q I h
  refine isTrue_or (thn (ha pins s σ H Q I h) fun c s1 e => ?_)
  cases c with
  | false => exact isTrue_or_nil e
  | true => exact e
theorem pw_and (ha : PT X a tA) (hb : PW X (.BoolOp .And (b :: rest) pos) tB') : PW X (.BoolOp .And (a :: b :: rest) pos) (tAnd tA tB') := by
  intro wh pins s σ H Q I h
  refine isTrue_and (thn (ha pins s σ H _ I h) fun c s1 ⟨H1, I1, q1⟩ => ?_)
  cases c with
  | true => exact hb wh pins s1 σ H1 Q I1 q1
  | false => exact ⟨H1, I1, q1⟩
theorem pw_or (ha : PT X a tA) (hb : PW X (.BoolOp .Or (b :: rest) pos) tB') : PW X (.BoolOp .Or (a :: b :: rest) pos) (tOr tA tB') := by
  intro wh pins s σ H Q I h
  refine isTrue_or (thn (ha pins s σ H _ I h) fun c s1 ⟨H1, I1, q1⟩ => ?_)
  cases c with
  | true => exact ⟨H1, I1, q1⟩
  | false => exact hb wh pins s1 σ H1 Q I1 q1
theorem pt_not (ha : PT X a tA) : PT X (.UnaryOp .Not a pos) (tNot tA) := by
  intro pins s σ H Q I h
  exact isTrue_not (ha pins s σ H (fun c H1 => Q (!c) H1) I h)
def tAndV (ta tb : TE) : TE := fun σ H Q => ta σ H fun x H1 => ∃ c, x = .bl c ∧ if c = true then tb σ H1 Q else Q (.bl false) H1
def tOrV (ta tb : TE) : TE := fun σ H Q => ta σ H fun x H1 => ∃ c, x = .bl c ∧ if c = true then Q (.bl true) H1 else tb σ H1 Q
def tNotV (ta : TE) : TE := fun σ H Q => ta σ H fun x H1 => ∃ c, x = .bl c ∧ Q (.bl (!c)) H1
theorem pe_one {op} {t : TE} (h : PE X a t) : PE X (.BoolOp op [a] pos) t := fun pins s σ H Q I hw => BoolOp_one (h pins s σ H Q I hw)
theorem pe_and (ha : PE X a ta) (hb : PE X (.BoolOp .And (b :: rest) pos) tb) : PE X (.BoolOp .And (a :: b :: rest) pos) (tAndV ta tb) := by
  intro pins s σ H Q I h
  refine BoolOp_and (thn (ha pins s σ H _ I h) fun v s1 ⟨x, H1, I1, r1, q1⟩ => ?_)
  obtain ⟨c, rfl, q1⟩ := q1
  cases r1
  refine wpAny_truthy_bool ?_
  cases c with
  | true => exact hb pins s1 σ H1 Q I1 q1
  | false => exact ⟨.bl false, H1, I1, rfl, q1⟩
theorem pe_or (ha : PE X a ta) (hb : PE X (.BoolOp .Or (b :: rest) pos) tb) : PE X (.BoolOp .Or (a :: b :: rest) pos) (tOrV ta tb) := by
  intro pins s σ H Q I h
  refine BoolOp_or (thn (ha pins s σ H _ I h) fun v s1 ⟨x, H1, I1, r1, q1⟩ => ?_)
  obtain ⟨c, rfl, q1⟩ := q1
  cases r1
  refine wpAny_truthy_bool ?_
  cases c with
  | false => exact hb pins s1 σ H1 Q I1 q1
  | true => exact ⟨.bl true, H1, I1, rfl, q1⟩
theorem pe_not (ha : PE X a ta) : PE X (.UnaryOp .Not a pos) (tNotV ta) := by
  intro pins s σ H Q I h
  refine UnaryOp_ (thn (ha pins s σ H _ I h) fun v s1 ⟨x, H1, I1, r1, q1⟩ => ?_)
  obtain ⟨c, rfl, q1⟩ := q1
  cases r1
  exact not_of (wpAny_truthy_bool ⟨.bl (!c), H1, I1, rfl, q1⟩)
def tIf (t : TT) (ta tb : TE) : TE := fun σ H Q => t σ H fun c H1 => if c = true then ta σ H1 Q else tb σ H1 Q
end
end L2
namespace L2
open PySem PySem.Spec PyProof.Rows
def SqL (K : PySem.W.Frag) (H : Hp) (a : Addr) (xs : List V) : Prop :=
  Rd H a (.lst xs) ∨
    ∃ (o : Obj) (its : Array Value) (n : Nat), K.lookup a = some o ∧ o.cls = .type "list" ∧ o.dict = none ∧ o.data = .seq its n ∧ its.size ≤ sizeLine ∧ Vals xs its.toList
def SqT (K : PySem.W.Frag) (H : Hp) (a : Addr) (xs : List V) : Prop :=
  Rd H a (.tup xs) ∨
    ∃ (o : Obj) (its : Array Value) (n : Nat), K.lookup a = some o ∧ o.cls = .type "tuple" ∧ o.data = .seq its n ∧ its.size ≤ sizeLine ∧ Vals xs its.toList
def absV : Value → Option V
  | .none => some .non
  | .bool b => some (.bl b)
  | .int i _ => some (.int i)
  | .str x _ => some (.str x)
  | .bytes b _ => some (.byt b)
  | .float b _ => some (.flt b)
  | .ref a => some (.ref a)
  | .type n => some (.ty n)
  | _ => none
theorem RelV.abs {x : V} {u : Value} (r : RelV x u) : absV u = some x := by
  cases x with
  | non => cases r; rfl
  | bl _ => cases r; rfl
  | int _ => obtain ⟨t, rfl⟩ := r; rfl
  | str _ => obtain ⟨t, rfl⟩ := r; rfl
  | byt _ => obtain ⟨t, rfl⟩ := r; rfl
  | flt _ => obtain ⟨t, rfl⟩ := r; rfl
  | ref _ => cases r; rfl
  | ty _ => cases r; rfl
theorem RelV.inj {x y : V} {u : Value} (r : RelV x u) (q : RelV y u) : x = y := Option.some.inj (r.abs.symm.trans q.abs)
theorem Vals.inj : ∀ {xs ys : List V} {us : List Value}, Vals xs us → Vals ys us → xs = ys
  | _, _, _, .nil, .nil => rfl
  | _, _, _, .cons r t, .cons r' t' => by rw [r.inj r', Vals.inj t t']
section
variable {X : Cx} {pins : List (Addr × Obj)} {σ : St} {H : Hp} {s : Shared} {a : Addr} {xs ys : List V}
theorem SqL.of {K : PySem.W.Frag} (h : H a = some (.lst xs)) : SqL K H a xs := .inl (.inl h)
theorem SqT.of {K : PySem.W.Frag} (h : H a = some (.tup xs)) : SqT K H a xs := .inl (.inl h)
theorem Inv.list (I : Inv X pins σ H s) (h : SqL X.K H a xs) : ∃ its : List Value, Vals xs its ∧ PlainL s.heap a its.toArray ∧ xs.length ≤ sizeLine := by
  rcases h with h | ⟨o, its, n, hk, hc, hd, hs, hz, r⟩
  · obtain ⟨z, its, n, r, e⟩ := h.ok I.hok
    exact ⟨its, r, ⟨_, n, e, rfl, rfl, rfl⟩, z⟩
  · refine ⟨its.toList, r, ⟨o, n, I.kIn a o hk, hc, hd, by simpa using hs⟩, ?_⟩
    have e := r.length
    simp only [Array.length_toList] at e
    omega
theorem Inv.tuple (I : Inv X pins σ H s) (h : SqT X.K H a xs) : ∃ its : List Value, Vals xs its ∧ IsTup s.heap a its.toArray ∧ xs.length ≤ sizeLine := by
  rcases h with h | ⟨o, its, n, hk, hc, hs, hz, r⟩
  · obtain ⟨z, its, r, p⟩ := h.ok I.hok
    exact ⟨its, r, p, z⟩
  · refine ⟨its.toList, r, ⟨o, I.kIn a o hk, hc, n, by simpa using hs⟩, ?_⟩
    have e := r.length
    simp only [Array.length_toList] at e
    omega
theorem Inv.list_inj (I : Inv X pins σ H s) (h : SqL X.K H a xs) (h' : SqL X.K H a ys) : xs = ys := by
  obtain ⟨its, r, ⟨o, n, e, _, _, d⟩, _⟩ := I.list h
  obtain ⟨its', r', ⟨o', n', e', _, _, d'⟩, _⟩ := I.list h'
  rw [e] at e'; cases e'
  rw [d] at d'
  injection d' with d1 _
  have : its = its' := by simpa using congrArg Array.toList d1
  subst this
  exact r.inj r'
theorem Inv.tuple_inj (I : Inv X pins σ H s) (h : SqT X.K H a xs) (h' : SqT X.K H a ys) : xs = ys := by
  obtain ⟨its, r, ⟨o, e, _, n, d⟩, _⟩ := I.tuple h
  obtain ⟨its', r', ⟨o', e', _, n', d'⟩, _⟩ := I.tuple h'
  rw [e] at e'; cases e'
  rw [d] at d'
  injection d' with d1 _
  have : its = its' := by simpa using congrArg Array.toList d1
  subst this
  exact r.inj r'
end
abbrev Cx.wish (X : Cx) (E : Value → Shared → Prop) : Cx := { X with xe := E }
abbrev Cx.nox (X : Cx) : Cx := X.wish fun _ _ => False
theorem Cx.Ok.wish {X : Cx} (ok : X.Ok) (E : Value → Shared → Prop) : (X.wish E).Ok :=
  ⟨ok.mod, ok.kind, ok.glob, ok.blt, ok.above, ok.inj, ok.has, ok.cab, ok.hd, ok.frames, ok.stk, ok.exf, ok.bs, ok.bsz, ok.noex, ok.exfs, ok.funs, ok.frf⟩
theorem Cx.Ok.unwish {X : Cx} {E : Value → Shared → Prop} (ok : (X.wish E).Ok) : X.Ok :=
  ⟨ok.mod, ok.kind, ok.glob, ok.blt, ok.above, ok.inj, ok.has, ok.cab, ok.hd, ok.frames, ok.stk, ok.exf, ok.bs, ok.bsz, ok.noex, ok.exfs, ok.funs, ok.frf⟩
section
variable {X : Cx} {pins : List (Addr × Obj)} {σ : St} {H : Hp} {s : Shared} {E : Value → Shared → Prop}
theorem Inv.wish (I : Inv X pins σ H s) (E : Value → Shared → Prop) : Inv (X.wish E) pins σ H s := ⟨I.ok.wish E, I.os, I.bare, I.base, I.loc, I.cell, I.free, I.freeC, I.pin, I.hok, I.len⟩
theorem Inv.unwish (I : Inv (X.wish E) pins σ H s) : Inv X pins σ H s := ⟨I.ok.unwish, I.os, I.bare, I.base, I.loc, I.cell, I.free, I.freeC, I.pin, I.hok, I.len⟩
theorem SP.unwish {D : Ends} {f : Flow} {s' : Shared} (h : SP (X.wish E) pins D f s') : SP X pins D f s' := by
  cases f with
  | next => obtain ⟨σ', H', I, q⟩ := h; exact ⟨σ', H', I.unwish, q⟩
  | brk => obtain ⟨σ', H', I, q⟩ := h; exact ⟨σ', H', I.unwish, q⟩
  | cont => obtain ⟨σ', H', I, q⟩ := h; exact ⟨σ', H', I.unwish, q⟩
  | ret u => obtain ⟨v, σ', H', I, r, q⟩ := h; exact ⟨v, σ', H', I.unwish, r, q⟩
theorem PE.nox {e : Expr} {t : TE} (h : PE X.nox e t) : PE X e t := fun pins s σ H Q I hw =>
  wpAny_mono (h pins s σ H Q (I.wish _) hw) (fun _ _ ⟨v, H', I', r, q⟩ => ⟨v, H', I'.unwish, r, q⟩) fun _ _ z => False.elim z
theorem PT.nox {e : Expr} {t : TT} (h : PT X.nox e t) : PT X e t := fun pins s σ H Q I hw =>
  wpAny_mono (h pins s σ H Q (I.wish _) hw) (fun _ _ ⟨H', I', q⟩ => ⟨H', I'.unwish, q⟩) fun _ _ z => False.elim z
theorem PSs.nox {st : List Stmt} {t : TS} (h : PSs X.nox st t) : PSs X st t := fun pins s σ H D I hw =>
  wpAny_mono (h pins s σ H D (I.wish _) hw) (fun _ _ q => q.unwish) fun _ _ z => False.elim z
end
section
variable {X : Cx} {st : Stmt} {rest : List Stmt} {t u : TS} {e : Expr} {te : TE} {pos : Pos}
def tNext : TS := fun D σ H => D.nx σ H
def tSeq (t u : TS) : TS := fun D σ H => t { D with nx := u D } σ H
theorem pss_nil : PSs X [] tNext := fun _ _ σ H _ I h => wpAny_execs_nil ⟨σ, H, I, h⟩
theorem pss_cons (h1 : PS X st t) (h2 : PSs X rest u) : PSs X (st :: rest) (tSeq t u) := by
  intro pins s σ H D I h
  refine wpAny_execs_cons (thn (h1 pins s σ H { D with nx := u D } I h) fun f s1 q => ?_)
  cases f with
  | next =>
    obtain ⟨σ', H', I', q⟩ := q
    exact h2 pins s1 σ' H' D I' q
  | ret v => exact q
  | brk => exact q
  | cont => exact q
theorem pss_one (h1 : PS X st t) : PSs X [st] t := by
  intro pins s σ H D I h
  refine wpAny_execs_cons (thn (h1 pins s σ H D I h) fun f s1 q => ?_)
  cases f with
  | next => exact wpAny_execs_nil q
  | ret v => exact q
  | brk => exact q
  | cont => exact q
def tBreak : TS := fun D σ H => D.bk σ H
def tCont : TS := fun D σ H => D.ct σ H
theorem Inv.quiet {pins : List (Addr × Obj)} {σ : St} {H : Hp} {s : Shared} (I : Inv X pins σ H s) : interactive X.env = false := by simp [interactive, I.ok.kind]
def tDrop (te : TE) : TS := fun D σ H => te σ H fun _ H1 => D.nx σ H1
theorem ps_expr (he : PE X e te) (hs : swapsWith e none pos.line X.env = pure false := by rfl) : PS X (.Expr e pos) (tDrop te) := by
  intro pins s σ H D I h
  exact wpAny_Expr_any (thn (he pins s σ H _ I h) fun v s1 ⟨x, H1, I1, r1, q1⟩ => ⟨σ, H1, I1, q1⟩) I.quiet hs
def tRet (te : TE) : TS := fun D σ H => te σ H D.rt
theorem ps_ret (he : PE X e te) : PS X (.Return (some e) pos) (tRet te) := by
  intro pins s σ H D I h
  exact wpAny_Return_some (thn (he pins s σ H _ I h) fun v s1 ⟨x, H1, I1, r1, q1⟩ => ⟨x, σ, H1, I1, r1, q1⟩)
def tRetN : TS := fun D _ H => D.rt .non H
def tIfS (c : TT) (t u : TS) : TS := fun D σ H => c σ H fun b H1 => if b = true then t D σ H1 else u D σ H1
theorem ps_if {c : Expr} {a b : List Stmt} {tc : TT} (hc : PT X c tc) (ha : PSs X a t) (hb : PSs X b u) : PS X (.If c a b pos) (tIfS tc t u) := by
  intro pins s σ H D I h
  refine wpAny_If (thn (hc pins s σ H _ I h) fun d s1 ⟨H1, I1, q1⟩ => ?_)
  cases d with
  | true => exact ha pins s1 σ H1 D I1 q1
  | false => exact hb pins s1 σ H1 D I1 q1
def tNever : TS := fun _ _ _ => False
theorem ps_never : PS X st tNever := fun _ _ _ _ _ _ h => h.elim
end
abbrev TG := V → St → Hp → (St → Hp → Prop) → Prop
abbrev TGs := List V → St → Hp → (St → Hp → Prop) → Prop
def PG (X : Cx) (target : Expr) (t : TG) : Prop :=
  ∀ (pins : List (Addr × Obj)) (s : Shared) (σ : St) (H : Hp) (v : V) (u : Value) (Q : St → Hp → Prop), Inv X pins σ H s → RelV v u → t v σ H Q →
    wpAny (model X.prog X.w) X.A (assign target X.env u) (fun _ s' => ∃ σ' H', Inv X pins σ' H' s' ∧ Q σ' H') X.xe s
def PGs (X : Cx) (ts : List Expr) (t : TGs) : Prop :=
  ∀ (pins : List (Addr × Obj)) (s : Shared) (σ : St) (H : Hp) (vs : List V) (us : List Value) (Q : St → Hp → Prop), Inv X pins σ H s → Vals vs us → t vs σ H Q →
    wpAny (model X.prog X.w) X.A (assignInOrder ((assignEach ts X.env).map (·.2)) us) (fun _ s' => ∃ σ' H', Inv X pins σ' H' s' ∧ Q σ' H') X.xe s
abbrev TSet := V → V → V → Hp → (Hp → Prop) → Prop
def PSet (X : Cx) (t : TSet) : Prop :=
  ∀ (pins : List (Addr × Obj)) (s : Shared) (σ : St) (H : Hp) (o i v : V) (ov iv u : Value) (Q : Hp → Prop), Inv X pins σ H s → RelV o ov → RelV i iv → RelV v u → t o i v H Q →
    wpAny (model X.prog X.w) X.A (setItem ov iv u) (fun _ s' => ∃ H', Inv X pins σ H' s' ∧ Q H') X.xe s
abbrev TIp := V → V → Hp → VK → Prop
def PIp (X : Cx) (op : Operator) (t : TIp) : Prop :=
  ∀ (pins : List (Addr × Obj)) (s : Shared) (σ : St) (H : Hp) (x y : V) (v u : Value) (Q : VK), Inv X pins σ H s → RelV x v → RelV y u → t x y H Q →
    wpAny (model X.prog X.w) X.A (inplaceOp op v u) (EP X pins σ Q) X.xe s
section
variable {X : Cx} {pos : Pos}
def gName (i : Nat) : TG := fun v σ H Q => Q (σ.set i (some v)) H
theorem pg_name {i : Nat} {x : Str} (hN : X.N.Nodup) (hi : X.N[i]? = some x) (hx : Loc X.env.scope x) (hf : X.fn x = true ∨ X.env.scope.names.lookup x = some .local := by first | exact .inl rfl | exact .inr rfl | assumption) : PG X (.Name x pos) (gName i) := by
  intro pins s σ H v u Q I r h
  exact wpAny_assign_Name (store_ok I hN hi hx r (fun s' I' => ⟨_, H, I', h⟩) hf)
def gNil : TGs := fun vs σ H Q => vs = [] ∧ Q σ H
def gCons (t : TG) (u : TGs) : TGs := fun vs σ H Q => ∃ v r, vs = v :: r ∧ t v σ H fun σ' H' => u r σ' H' Q
theorem pgs_nil : PGs X [] gNil := by
  intro pins s σ H vs us Q I r h
  obtain ⟨e, h⟩ := h
  subst e
  cases r
  exact assignInOrder_nil ⟨σ, H, I, h⟩
theorem pgs_cons {e : Expr} {es : List Expr} {t : TG} {u : TGs} (h1 : PG X e t) (h2 : PGs X es u)
    (hs : (assignEach (e :: es) X.env).map (·.2) = assign e X.env :: (assignEach es X.env).map (·.2) := by rfl) : PGs X (e :: es) (gCons t u) := by
  intro pins s σ H vs us Q I r h
  obtain ⟨v, vr, e1, h⟩ := h
  subst e1
  cases r with
  | cons r rr =>
    rw [hs]
    refine assignInOrder_cons (thn (h1 pins s σ H _ _ _ I r h) fun _ s1 ⟨σ1, H1, I1, q1⟩ => ?_)
    exact h2 pins s1 σ1 H1 _ _ Q I1 rr q1
def gTup (K : PySem.W.Frag) (n : Nat) (t : TGs) : TG := fun v σ H Q => ∃ a xs, v = .ref a ∧ SqT K H a xs ∧ xs.length = n ∧ t xs σ H Q
theorem pg_tup {es : List Expr} {k : Nat} {t : TGs} {n : Nat} (hc : X.calm = true) (h : PGs X es t)
    (hn : (assignEach es X.env).length = n := by rfl) (hst : (assignEach es X.env).findIdx? (·.1) = none := by rfl) : PG X (.Tuple es k pos) (gTup X.K n t) := by
  intro pins s σ H v u Q I r hw
  obtain ⟨a, xs, e1, hq, hl, hw⟩ := hw
  subst e1
  cases r
  obtain ⟨its, rv, ht, hz⟩ := I.tuple hq
  refine assign_Tuple_tuple (I.ok.hd hc) ht (by simp [hn, ← hl, rv.length]) hst fun h' hx => ?_
  have I1 : Inv X pins σ H { s with heap := h' } := I.kept (t' := s.toks) fun b o e => hx b o (Nat.ne_of_lt (Heap.lt_size e)) e
  exact h pins _ σ H xs _ Q I1 (by simpa using rv) hw
def gSub (to ti : TE) (t : TSet) : TG := fun v σ H Q => to σ H fun o H1 => ti σ H1 fun i H2 => t o i v H2 fun H3 => Q σ H3
theorem pg_sub {o i : Expr} {to ti : TE} {t : TSet} (ho : PE X o to) (hi : PE X i ti) (hs : PSet X t)
    (ha : ∀ v, assign (.Subscript o i pos) X.env v = (do
      let ov ← holding [v] (eval o X.env)
      let iv ← holding [v, ov] (eval i X.env)
      standAt pos
      holding [v, ov, iv] (setItem ov iv v)
      release [v, ov, iv] []) := by intro _; rfl) : PG X (.Subscript o i pos) (gSub to ti t) := by
  intro pins s σ H v u Q I r h
  rw [ha]
  refine wpAny_bind (wpAny_holding (thn (ho pins s σ H _ I h) fun ov s1 ⟨x, H1, I1, r1, q1⟩ => ?_))
  refine wpAny_bind (wpAny_holding (thn (hi pins s1 σ H1 _ I1 q1) fun iv s2 ⟨y, H2, I2, r2, q2⟩ => ?_))
  refine wpAny_bind (wpAny_standAt (wpAny_bind (wpAny_holding (thn (hs pins s2 σ H2 x y v ov iv u _ I2 r1 r2 r q2) fun _ s3 ⟨H3, I3, q3⟩ => ?_))))
  exact wpAny_release ⟨σ, H3, I3, q3⟩
def tAsg (te : TE) (g : TG) : TS := fun D σ H => te σ H fun x H1 => g x σ H1 D.nx
theorem ps_asg {tg e : Expr} {te : TE} {g : TG} (he : PE X e te) (hg : PG X tg g) (hs : swapsWithSole [tg] e pos.line X.env = pure false := by rfl) (hw : swappedStores [tg] e X.env = pure none := by rfl)
    (h1 : (assignEach [tg] X.env).map (·.2) = [assign tg X.env] := by rfl) : PS X (.Assign [tg] e pos) (tAsg te g) := by
  intro pins s σ H D I h
  refine wpAny_Assign_stores (thn (he pins s σ H _ I h) fun v s1 ⟨x, H1, I1, r1, q1⟩ => ?_) hs hw
  rw [h1]
  exact thn (hg pins s1 σ H1 x v _ I1 r1 q1) fun _ s2 q => q
theorem ps_set {i : Nat} {x : Str} {e : Expr} {te : TE} {pos' : Pos} (hN : X.N.Nodup) (hi : X.N[i]? = some x) (hx : Loc X.env.scope x) (he : PE X e te) (hs : swapsWith e (some (.Name x pos')) pos.line X.env = pure false := by rfl) (hf : X.fn x = true ∨ X.env.scope.names.lookup x = some .local := by first | exact .inl rfl | exact .inr rfl | assumption) :
    PS X (.Assign [.Name x pos'] e pos) (tAsg te (gName i)) := by
  intro pins s σ H D I h
  refine wpAny_Assign_Name (thn (he pins s σ H _ I h) fun v s1 ⟨y, H1, I1, r1, q1⟩ => ?_) hs
  exact store_ok I1 hN hi hx r1 (fun s2 I2 => ⟨_, H1, I2, q1⟩) hf
def tPar (i j : Nat) (ta : TA) : TS := fun D σ H => ta σ H fun vs H1 => ∃ v w, vs = [v, w] ∧ D.nx ((σ.set i (some v)).set j (some w)) H1
def tAug (i : Nat) (te : TE) (ti : TIp) : TS := fun D σ H => ∃ x, σ[i]? = some (some x) ∧ te σ H fun y H1 => ti x y H1 fun z H2 => D.nx (σ.set i (some z)) H2
theorem ps_aug {i : Nat} {x : Str} {e : Expr} {te : TE} {op : Operator} {ti : TIp} {pos' : Pos} (hN : X.N.Nodup) (hi : X.N[i]? = some x) (hx : Loc X.env.scope x) (he : PE X e te) (ho : PIp X op ti) (hf : X.fn x = true ∨ X.env.scope.names.lookup x = some .local := by first | exact .inl rfl | exact .inr rfl | assumption) :
    PS X (.AugAssign (.Name x pos') op e pos) (tAug i te ti) := by
  intro pins s σ H D I h
  obtain ⟨v, e1, h⟩ := h
  obtain ⟨m, hn, hl⟩ := I.loc
  have vis : Vis X.env.scope x := by rcases hx with k | k; exact .inl k; exact .inr (.inl k)
  obtain ⟨u, r, l⟩ := hl i x v hi e1 vis
  refine wpAny_AugAssign_Name ?_
  have go : wpAny (model X.prog X.w) X.A (eval e X.env) (fun w s₂ => wpAny (model X.prog X.w) X.A (inplaceOp op u w) (fun r s₃ => wpAny (model X.prog X.w) X.A (storeName X.env x r) (fun _ => SP X pins D .next) X.xe s₃) X.xe s₂) X.xe s := by
    refine thn (he pins s σ H _ I h) fun w s1 ⟨y, H1, I1, r1, q1⟩ => ?_
    refine thn (ho pins s1 σ H1 v y u w _ I1 r r1 q1) fun z s2 ⟨zv, H2, I2, r2, q2⟩ => ?_
    exact store_ok I2 hN hi hx r2 (fun s3 I3 => ⟨_, H2, I3, q2⟩) hf
  rcases l with ⟨hk, hm⟩ | ⟨hk, c, hc, hcell⟩
  · exact wpAny_loadName_local I.ok.kind hk hn hm go
  · rcases hk with hk | hk
    · exact wpAny_loadName_cell I.ok.kind hk hc hcell go
    · rcases hx with k | k
      · have : X.env.scope.names.lookup x = some .free := hk
        rw [k] at this; cases this
      · have : X.env.scope.names.lookup x = some .free := hk
        rw [k] at this; cases this
def tAugS (to ti te : TE) (tget : V → V → Hp → VK → Prop) (tip : TIp) (tset : TSet) : TS := fun D σ H => to σ H fun o H1 => ti σ H1 fun i H2 => tget o i H2 fun x H3 => te σ H3 fun y H4 => tip x y H4 fun z H5 => tset o i z H5 fun H6 => D.nx σ H6
def PGet (X : Cx) (t : V → V → Hp → VK → Prop) : Prop :=
  ∀ (pins : List (Addr × Obj)) (s : Shared) (σ : St) (H : Hp) (o i : V) (ov iv : Value) (Q : VK), Inv X pins σ H s → RelV o ov → RelV i iv → t o i H Q →
    wpAny (model X.prog X.w) X.A (getItem ov iv) (EP X pins σ Q) X.xe s
theorem ps_augS {o i e : Expr} {to ti te : TE} {tget : V → V → Hp → VK → Prop} {tip : TIp} {tset : TSet} {op : Operator} {tpos : Pos} (ho : PE X o to) (hi : PE X i ti) (hg : PGet X tget) (he : PE X e te) (hp : PIp X op tip) (hs : PSet X tset)
    (ha : ∀ ov iv new, augStore i ov iv new = (do holding [new, ov, iv] (setItem ov iv new); release [new, ov, iv] []; pure .next) := by intros; rfl) : PS X (.AugAssign (.Subscript o i tpos) op e pos) (tAugS to ti te tget tip tset) := by
  intro pins s σ H D I h
  refine wpAny_AugAssign_SubscriptAny (thn (ho pins s σ H _ I h) fun ov s1 ⟨x1, H1, I1, r1, q1⟩ => ?_) ha
  refine thn (hi pins s1 σ H1 _ I1 q1) fun iv s2 ⟨x2, H2, I2, r2, q2⟩ => ?_
  refine thn (hg pins s2 σ H2 x1 x2 ov iv _ I2 r1 r2 q2) fun old s3 ⟨x3, H3, I3, r3, q3⟩ => ?_
  refine thn (he pins s3 σ H3 _ I3 q3) fun v s4 ⟨x4, H4, I4, r4, q4⟩ => ?_
  refine thn (hp pins s4 σ H4 x3 x4 old v _ I4 r3 r4 q4) fun new s5 ⟨x5, H5, I5, r5, q5⟩ => ?_
  exact thn (hs pins s5 σ H5 x1 x2 x5 ov iv new _ I5 r1 r2 r5 q5) fun _ s6 ⟨H6, I6, q6⟩ => ⟨σ, H6, I6, q6⟩
def ipI (f : Int → Int → Int) : TIp := fun x y H Q => ∃ i j, x = .int i ∧ y = .int j ∧ Q (.int (f i j)) H
theorem ip_add : PIp X .Add (ipI fun i j => i + j) := by
  intro pins s σ H x y v u Q I r1 r2 h
  obtain ⟨i, j, e1, e2, q⟩ := h
  subst e1; subst e2
  obtain ⟨t, rfl⟩ := r1
  obtain ⟨t', rfl⟩ := r2
  exact iadd_int ⟨.int _, H, I.tok _, ⟨_, rfl⟩, q⟩
end
section
variable {X : Cx} {pos : Pos}
end
structure It where
  go : Nat → Hp → Prop
  yld : Nat → Hp → V → Hp → Prop
  stop : Nat → Hp → Prop
def FpOk (X : Cx) (pins : List (Addr × Obj)) (H : Hp) (b : Addr) : Prop :=
  H b = none ∧ b ≠ X.env.locals ∧ b ∉ X.fs ∧ (b ∈ X.ex ∨ X.s₀.heap.objs.size ≤ b) ∧ (∀ x c, X.env.cells.lookup x = some c → c ≠ b) ∧ ∀ p ∈ X.pn ++ pins, p.1 ≠ b
theorem Inv.fpOk {X : Cx} {pins : List (Addr × Obj)} {σ : St} {H H' : Hp} {s : Shared} {b : Addr} (I : Inv X pins σ H s) (hb : s.heap.objs.size ≤ b) (hn : H' b = none) : FpOk X pins H' b := by
  refine ⟨hn, Nat.ne_of_gt (Nat.lt_of_lt_of_le I.lt hb), I.nofs hb, .inr (Nat.le_trans I.sz hb), fun x c e z => ?_, fun p hp z => ?_⟩
  · obtain ⟨v, q⟩ := I.cell x c e
    exact absurd (Nat.lt_of_lt_of_le q.lt (by rw [z]; exact hb)) (Nat.lt_irrefl _)
  · exact absurd (Nat.lt_of_lt_of_le (Heap.lt_size (I.pin p hp).1) (by rw [z]; exact hb)) (Nat.lt_irrefl _)
structure Turn (P : Program) (w : World) (K : PySem.W.Frag) (tg : Expr) (J : It) (fp : List Addr) (it : Addr) (tn : Nat → Heap → Prop) : Prop where
  mem : it ∈ fp
  obj : ∀ i h, tn i h → ∀ b ∈ fp, ∃ o, h.get? b = some o ∧ ∀ v, o.data ≠ .cell v
  keep : ∀ i h h', tn i h → (∀ b ∈ fp, ∀ o, h.get? b = some o → h'.get? b = some o) → tn i h'
  item : ∀ (X : Cx), X.prog = P → X.w = w → X.K = K → X.calm = true → ∀ (i : Nat) (pins : List (Addr × Obj)) (s : Shared) (σ : St) (H : Hp) (E : Value → Shared → Prop), Inv X pins σ H s → (∀ b ∈ fp, FpOk X pins H b) → tn i s.heap → J.go i H →
    wpAny (model P w) X.A (pyNext (.ref it)) (fun r s1 => ∃ u, r = some u ∧
      wpAny (model P w) X.A (letOwnedTupleGo tg (.ref it) u) (fun _ s2 => ∃ x H', Inv X pins σ H' s2 ∧ RelV x u ∧ J.yld i H x H' ∧ tn (i + 1) s2.heap ∧ ∀ b ∈ fp, H' b = none) E s1) E s
  done : ∀ (X : Cx), X.prog = P → X.w = w → X.K = K → X.calm = true → ∀ (i : Nat) (pins : List (Addr × Obj)) (s : Shared) (σ : St) (H : Hp) (E : Value → Shared → Prop), Inv X pins σ H s → (∀ b ∈ fp, FpOk X pins H b) → tn i s.heap → J.stop i H →
    wpAny (model P w) X.A (pyNext (.ref it)) (fun r s1 => r = none ∧ Inv X pins σ H s1) E s
  self : ∀ (A : Around) (i : Nat) (s : Shared) (Q : Value → Shared → Prop) (E : Value → Shared → Prop), tn i s.heap → Q (.ref it) s → wpAny (model P w) A (pyIter (.ref it)) Q E s
abbrev TI := St → Hp → (It → Hp → Prop) → Prop
def PIE (X : Cx) (pins : List (Addr × Obj)) (σ : St) (tg : Expr) (R : It → Hp → Prop) (itv : Value) (s2 : Shared) : Prop :=
  ∃ (it : Addr) (fp : List Addr) (tn : Nat → Heap → Prop) (J : It) (H' : Hp), itv = .ref it ∧ Inv X pins σ H' s2 ∧ Turn X.prog X.w X.K tg J fp it tn ∧ tn 0 s2.heap ∧ (∀ b ∈ fp, FpOk X pins H' b) ∧ R J H'
def PI (X : Cx) (tg iter : Expr) (wi : TI) : Prop :=
  ∀ (pins : List (Addr × Obj)) (s : Shared) (σ : St) (H : Hp) (R : It → Hp → Prop), Inv X pins σ H s → wi σ H R →
    wpAny (model X.prog X.w) X.A (eval iter X.env) (fun v s1 => wpAny (model X.prog X.w) X.A (pyIter v) (PIE X pins σ tg R) X.xe s1) X.xe s
theorem go_of {M : Model} {A : Around} {E : Value → Shared → Prop} {s : Shared} {tg : Expr} {it : Addr} {u : Value} {o : Obj} {n : String} {vs : Array Value} {Q : Unit → Shared → Prop} (ho : s.heap.get? it = some o) (hc : o.cls = .type n) (hd : o.data = .fields vs)
    (hn : ["enumerate", "zip", "dict_itemiterator", "dict_reverseitemiterator", "odict_iterator", "itertools.zip_longest", "itertools.pairwise"].contains n = false) (hQ : Q () s) : wpAny M A (letOwnedTupleGo tg (.ref it) u) Q E s := by
  unfold letOwnedTupleGo
  cases tg <;> first
    | exact wpAny_pure hQ
    | (cases u <;> first
        | exact wpAny_pure hQ
        | (refine wpAny_bind (wpAny_load ho ?_)
           rw [hc, hd]
           show wpAny M A (if (["enumerate", "zip", "dict_itemiterator", "dict_reverseitemiterator", "odict_iterator", "itertools.zip_longest", "itertools.pairwise"].contains n && vs[0]? == some (rawInt _)) = true then _ else _) Q E s
           rw [if_neg (by intro h; rw [hn, Bool.false_and] at h; cases h)]
           exact wpAny_pure hQ))
def Itl (K : PySem.W.Frag) (a : Addr) : It :=
  ⟨fun i H => ∃ xs x, SqL K H a xs ∧ xs[i]? = some x, fun i H x H' => H' = H ∧ ∀ xs, SqL K H a xs → xs[i]? = some x, fun i H => ∃ xs, SqL K H a xs ∧ xs.length ≤ i⟩
def Itt (K : PySem.W.Frag) (a : Addr) : It :=
  ⟨fun i H => ∃ xs x, SqT K H a xs ∧ xs[i]? = some x, fun i H x H' => H' = H ∧ ∀ xs, SqT K H a xs → xs[i]? = some x, fun i H => ∃ xs, SqT K H a xs ∧ xs.length ≤ i⟩
def Itr (lo : Int) (n : Nat) : It := ⟨fun i _ => i < n, fun i H x H' => H' = H ∧ x = .int (lo + i), fun i _ => n ≤ i⟩
theorem turn_list {P : Program} {w : World} {K : PySem.W.Frag} {tg : Expr} (a it : Addr) : Turn P w K tg (Itl K a) [it] it (fun i h => h.IsListIter it a i) where
  mem := by simp
  obj := fun i h st b hb => by
    have e : b = it := by simpa using hb
    subst e
    obtain ⟨o, e, c, d⟩ := st
    exact ⟨o, e, fun v z => by rw [d] at z; cases z⟩
  keep := fun i h h' st k => st.at fun o e => k it (by simp) o e
  item := by
    intro X hP hw hK hc i pins s σ H E I hf st hg
    subst hP hw hK
    obtain ⟨xs, x, hq, hx⟩ := hg
    obtain ⟨its, rv, p, hz⟩ := I.list hq
    obtain ⟨u, hu, ru⟩ := rv.get hx
    obtain ⟨f0, f1, f2, f3, f4, f5⟩ := hf it (by simp)
    refine wpAny_pyNext_list_item st p.isList (x := u) (by simpa using hu) fun h' st' sb => ?_
    have I1 : Inv X pins σ H { s with heap := h' } := I.turned (t' := s.toks) (fun b o hb e => (sb.2 b hb).trans e) f0 f1 f3 f4 f5
    obtain ⟨o, e, c, d⟩ := id st'
    exact ⟨u, rfl, go_of (s := { s with heap := h' }) e c d (by decide) ⟨x, H, I1, ru, ⟨rfl, fun ys hy => by rw [I.list_inj hy hq]; exact hx⟩, st', fun b hb => (hf b hb).1⟩⟩
  done := by
    intro X hP hw hK hc i pins s σ H E I hf st hg
    subst hP hw hK
    obtain ⟨xs, hq, hx⟩ := hg
    obtain ⟨its, rv, p, hz⟩ := I.list hq
    obtain ⟨f0, f1, f2, f3, f4, f5⟩ := hf it (by simp)
    have hl := rv.length
    exact wpAny_pyNext_list_end (I.ok.hd hc) st p.isList (by simp; omega) fun h' eb => ⟨rfl, I.turned (t' := s.toks) (fun b o hb e => eb b o hb e) f0 f1 f3 f4 f5⟩
  self := fun _ _ _ _ _ st h => wpAny_pyIter_listiter st h
theorem turn_tuple {P : Program} {w : World} {K : PySem.W.Frag} {tg : Expr} (a it : Addr) : Turn P w K tg (Itt K a) [it] it (fun i h => h.IsTupleIter it a i) where
  mem := by simp
  obj := fun i h st b hb => by
    have e : b = it := by simpa using hb
    subst e
    obtain ⟨o, e, c, d⟩ := st
    exact ⟨o, e, fun v z => by rw [d] at z; cases z⟩
  keep := fun i h h' st k => st.at fun o e => k it (by simp) o e
  item := by
    intro X hP hw hK hc i pins s σ H E I hf st hg
    subst hP hw hK
    obtain ⟨xs, x, hq, hx⟩ := hg
    obtain ⟨its, rv, p, hz⟩ := I.tuple hq
    obtain ⟨u, hu, ru⟩ := rv.get hx
    obtain ⟨f0, f1, f2, f3, f4, f5⟩ := hf it (by simp)
    refine wpAny_pyNext_tuple_item st (show s.heap.IsTuple a its.toArray from p) (x := u) (by simpa using hu) fun h' st' sb => ?_
    have I1 : Inv X pins σ H { s with heap := h' } := I.turned (t' := s.toks) (fun b o hb e => (sb.2 b hb).trans e) f0 f1 f3 f4 f5
    obtain ⟨o, e, c, d⟩ := id st'
    exact ⟨u, rfl, go_of (s := { s with heap := h' }) e c d (by decide) ⟨x, H, I1, ru, ⟨rfl, fun ys hy => by rw [I.tuple_inj hy hq]; exact hx⟩, st', fun b hb => (hf b hb).1⟩⟩
  done := by
    intro X hP hw hK hc i pins s σ H E I hf st hg
    subst hP hw hK
    obtain ⟨xs, hq, hx⟩ := hg
    obtain ⟨its, rv, p, hz⟩ := I.tuple hq
    obtain ⟨f0, f1, f2, f3, f4, f5⟩ := hf it (by simp)
    have hl := rv.length
    exact wpAny_pyNext_tuple_end (I.ok.hd hc) st (show s.heap.IsTuple a its.toArray from p) (by simp; omega) fun h' eb => ⟨rfl, I.turned (t' := s.toks) (fun b o hb e => eb b o hb e) f0 f1 f3 f4 f5⟩
  self := fun _ _ _ _ _ st h => wpAny_pyIter_tupleiter st h
theorem turn_range {P : Program} {w : World} {K : PySem.W.Frag} {tg : Expr} (it : Addr) (lo : Int) (n : Nat) : Turn P w K tg (Itr lo n) [it] it (fun i h => IsRangeIter h it (lo + (i : Nat) * 1) ((n : Int) - (i : Nat)) 1) where
  mem := by simp
  obj := fun i h st b hb => by
    have e : b = it := by simpa using hb
    subst e
    exact ⟨_, st, fun v z => by
      have z' : Data.fields _ = Data.cell v := z
      cases z'⟩
  keep := fun i h h' st k => k it (by simp) _ st
  item := by
    intro X hP hw hK hc i pins s σ H E I hf st hg
    subst hP hw hK
    obtain ⟨f0, f1, f2, f3, f4, f5⟩ := hf it (by simp)
    have W := Walks.range (prog := X.prog) (w := X.w) (I.ok.hd hc) it lo 1 n
    refine W.item i s _ _ hg st fun v h' tk hv st' kk => ?_
    obtain ⟨t, rfl⟩ := hv
    have I1 : Inv X pins σ H { s with heap := h', toks := tk } := I.turned (fun b o hb e => kk b o (by simpa using hb) e) f0 f1 f3 f4 f5
    refine ⟨_, rfl, go_of (s := { s with heap := h', toks := tk }) (n := "range_iterator") st' rfl rfl (by decide) ⟨.int (lo + i), H, I1, ⟨t, ?_⟩, ⟨rfl, rfl⟩, st', fun b hb => (hf b hb).1⟩⟩
    rw [Int.mul_one]
  done := by
    intro X hP hw hK hc i pins s σ H E I hf st hg
    subst hP hw hK
    obtain ⟨f0, f1, f2, f3, f4, f5⟩ := hf it (by simp)
    exact wpAny_pyNext_range_end (I.ok.hd hc) st (by have : n ≤ i := hg; omega) fun h' eb => ⟨rfl, I.turned (t' := s.toks) (fun b o hb e => eb b o hb e) f0 f1 f3 f4 f5⟩
  self := fun _ _ _ _ _ st h => wpAny_pyIter_rangeiter st h
end L2
namespace L2
open PySem PySem.Spec PyProof.Rows
section
variable {X : Cx} {tg : Expr}
def iList (K : PySem.W.Frag) (tl : TE) : TI := fun σ H R => tl σ H fun x H1 => ∃ a, x = .ref a ∧ (∃ xs, SqL K H1 a xs) ∧ R (Itl K a) H1
def iTup (K : PySem.W.Frag) (tl : TE) : TI := fun σ H R => tl σ H fun x H1 => ∃ a, x = .ref a ∧ (∃ xs, SqT K H1 a xs) ∧ R (Itt K a) H1
theorem pi_list {l : Expr} {tl : TE} (hl : PE X l tl) : PI X tg l (iList X.K tl) := by
  intro pins s σ H R I h
  refine thn (hl pins s σ H _ I h) fun v s1 ⟨x, H1, I1, r1, q1⟩ => ?_
  obtain ⟨a, e, ⟨xs, hq⟩, q⟩ := q1
  subst e
  cases r1
  obtain ⟨its, rv, p, hz⟩ := I1.list hq
  refine wpAny_pyIter_list p.isList ?_
  refine ⟨s1.heap.objs.size, [s1.heap.objs.size], _, _, H1, rfl, I1.kept (t' := s1.toks) fun b o e => Heap.get?_push_of_some _ e, turn_list a _, ⟨_, Heap.get?_push_size _ rfl, rfl, rfl⟩, fun b hb => ?_, q⟩
  have e : b = s1.heap.objs.size := by simpa using hb
  subst e
  exact I1.fpOk (Nat.le_refl _) (I1.hok.fresh (Nat.le_refl _))
theorem pi_tup {l : Expr} {tl : TE} (hl : PE X l tl) : PI X tg l (iTup X.K tl) := by
  intro pins s σ H R I h
  refine thn (hl pins s σ H _ I h) fun v s1 ⟨x, H1, I1, r1, q1⟩ => ?_
  obtain ⟨a, e, ⟨xs, hq⟩, q⟩ := q1
  subst e
  cases r1
  obtain ⟨its, rv, p, hz⟩ := I1.tuple hq
  refine wpAny_pyIter_tuple (show s1.heap.IsTuple a its.toArray from p) ?_
  refine ⟨s1.heap.objs.size, [s1.heap.objs.size], _, _, H1, rfl, I1.kept (t' := s1.toks) fun b o e => Heap.get?_push_of_some _ e, turn_tuple a _, ⟨_, Heap.get?_push_size _ rfl, rfl, rfl⟩, fun b hb => ?_, q⟩
  have e : b = s1.heap.objs.size := by simpa using hb
  subst e
  exact I1.fpOk (Nat.le_refl _) (I1.hok.fresh (Nat.le_refl _))
theorem range_it {pins : List (Addr × Obj)} {σ : St} {H : Hp} {s : Shared} {R : It → Hp → Prop} {E : Value → Shared → Prop} {lo hi : Int} {t u v : Tok} {tk : Nat} (I : Inv X pins σ H s) (h1 : -(2 ^ 62) ≤ lo) (h2 : lo < 2 ^ 62) (h3 : -(2 ^ 62) ≤ hi) (h4 : hi < 2 ^ 62)
    (q : R (Itr lo (hi - lo).toNat) H) : wpAny (model X.prog X.w) X.A (pyIter (.ref s.heap.objs.size)) (PIE X pins σ tg R) E { s with heap := s.heap.push { cls := .type "range", data := .fields #[.int lo t, .int hi u, .int 1 v] }, toks := tk } := by
  refine wpAny_pyIter_range (IsRange.new ..) (small_one h1 h2 h3 h4) ?_
  have I1 : Inv X pins σ H { s with heap := s.heap.push { cls := .type "range", data := .fields #[.int lo t, .int hi u, .int 1 v] }, toks := tk } := I.kept fun b o e => Heap.get?_push_of_some _ e
  refine ⟨(s.heap.push { cls := .type "range", data := .fields #[.int lo t, .int hi u, .int 1 v] }).objs.size, [(s.heap.push { cls := .type "range", data := .fields #[.int lo t, .int hi u, .int 1 v] }).objs.size], _, _, H, rfl,
    I1.kept (t' := tk) fun b o e => Heap.get?_push_of_some _ e, turn_range _ lo (hi - lo).toNat, ?_, fun b hb => ?_, q⟩
  · have e1 : lo + ((0 : Nat) : Int) * 1 = lo := by simp
    have e2 : (((hi - lo).toNat : Nat) : Int) - ((0 : Nat) : Int) = Builtin.Range.rangeSize lo hi 1 := by rw [rangeSize_one]; split <;> omega
    show IsRangeIter _ _ (lo + ((0 : Nat) : Int) * 1) ((((hi - lo).toNat : Nat) : Int) - ((0 : Nat) : Int)) 1
    rw [e1, e2]
    exact Heap.get?_push_size _ rfl
  · have e : b = (s.heap.push { cls := .type "range", data := .fields #[.int lo t, .int hi u, .int 1 v] }).objs.size := by simpa using hb
    subst e
    exact I1.fpOk (Nat.le_refl _) (I1.hok.fresh (Nat.le_refl _))
def iRng1 (ta : TA) : TI := fun σ H R => ta σ H fun vs H1 => ∃ j : Int, vs = [.int j] ∧ -(2 ^ 62) ≤ j ∧ j < 2 ^ 62 ∧ R (Itr 0 j.toNat) H1
def iRng2 (ta : TA) : TI := fun σ H R => ta σ H fun vs H1 => ∃ i j : Int, vs = [.int i, .int j] ∧ (-(2 ^ 62) ≤ i ∧ i < 2 ^ 62 ∧ -(2 ^ 62) ≤ j ∧ j < 2 ^ 62) ∧ R (Itr i (j - i).toNat) H1
theorem pi_range1 {a : Expr} {ta : TA} {p pos : Pos} (hg : Gl X "range") (hm : X.mg "range" = none) (ha : PA X [a] ta) (hs : starEach [a] X.env = [(false, eval a X.env)] := by rfl) : PI X tg (.Call (.Name "range" p) [a] [] pos) (iRng1 ta) := by
  intro pins s σ H R I h
  refine Call_ (ld_blt I hg hm boot_range (PyProof.Rows.callWith_type1 (thn (ha pos pins s σ H _ I h) fun us s1 ⟨vs, H1, I1, r1, q1⟩ => ?_) hs rfl))
  obtain ⟨j, e, q1, q2, q⟩ := q1
  subst e
  cases r1 with
  | cons r rr =>
    cases rr
    obtain ⟨t, rfl⟩ := r
    exact call_range_1 (range_it I1 (by omega) (by omega) q1 q2 (by simpa using q))
theorem pi_range2 {a b : Expr} {ta : TA} {p pos : Pos} (hg : Gl X "range") (hm : X.mg "range" = none) (ha : PA X [a, b] ta) (hs : starEach [a, b] X.env = [(false, eval a X.env), (false, eval b X.env)] := by rfl) (hs2 : starEach [b] X.env = [(false, eval b X.env)] := by rfl) :
    PI X tg (.Call (.Name "range" p) [a, b] [] pos) (iRng2 ta) := by
  intro pins s σ H R I h
  refine Call_ (ld_blt I hg hm boot_range (PyProof.Rows.callWith_type1 (thn (ha pos pins s σ H _ I h) fun us s1 ⟨vs, H1, I1, r1, q1⟩ => ?_) (by rw [hs, hs2]) (by rw [hs2]; rfl)))
  obtain ⟨i, j, e, ⟨q1, q2, q3, q4⟩, q⟩ := q1
  subst e
  cases r1 with
  | cons r rr =>
    cases rr with
    | cons r' rr =>
      cases rr
      obtain ⟨t, rfl⟩ := r
      obtain ⟨t', rfl⟩ := r'
      exact call_range_2 (range_it I1 q1 q2 q3 q4 q)
def tFor (wi : TI) (g : TG) (tb : TS) : TS := fun D σ H => wi σ H fun J H1 => ∃ W : Nat → Nat → St → Hp → Prop, (∃ m, W 0 m σ H1) ∧ ∀ i m σ H, W i m σ H →
  (J.stop i H ∧ D.nx σ H) ∨ (J.go i H ∧ ∃ N : St → Hp → Prop, (∀ σ' H', N σ' H' → ∃ m', m' < m ∧ W (i + 1) m' σ' H') ∧ ∀ x H', J.yld i H x H' → g x σ H' fun σ2 H2 => tb { D with nx := N, ct := N, bk := D.nx } σ2 H2)
def pinsAt (fp : List Addr) (h : Heap) : List (Addr × Obj) := fp.filterMap fun b => (h.get? b).map fun o => (b, o)
theorem mem_pinsAt {fp : List Addr} {h : Heap} {b : Addr} {o : Obj} (hb : b ∈ fp) (e : h.get? b = some o) : (b, o) ∈ pinsAt fp h := List.mem_filterMap.mpr ⟨b, hb, by rw [e]; rfl⟩
theorem of_pinsAt {fp : List Addr} {h : Heap} {p : Addr × Obj} (hp : p ∈ pinsAt fp h) : p.1 ∈ fp ∧ h.get? p.1 = some p.2 := by
  obtain ⟨b, hb, e⟩ := List.mem_filterMap.mp hp
  cases q : h.get? b with
  | none => rw [q] at e; cases e
  | some o =>
    rw [q] at e
    have e' : (b, o) = p := Option.some.inj e
    subst e'
    exact ⟨hb, q⟩
theorem Inv.pinned {pins : List (Addr × Obj)} {σ : St} {H : Hp} {s : Shared} {fp : List Addr} (I : Inv X pins σ H s) (hf : ∀ b ∈ fp, FpOk X pins H b) (ho : ∀ b ∈ fp, ∃ o, s.heap.get? b = some o ∧ ∀ v, o.data ≠ .cell v) : Inv X (pins ++ pinsAt fp s.heap) σ H s :=
  I.pins_of fun p hp => (List.mem_append.mp hp).elim (fun z => I.pin p (List.mem_append_right _ z)) fun z => by
    obtain ⟨hb, e⟩ := of_pinsAt z
    obtain ⟨f0, f1, f2, _⟩ := hf p.1 hb
    obtain ⟨o, e', d⟩ := ho p.1 hb
    rw [e] at e'; cases e'
    exact ⟨e, f0, f1, f2, d⟩
theorem Inv.unpinned {pins pl : List (Addr × Obj)} {σ : St} {H : Hp} {s : Shared} (I : Inv X (pins ++ pl) σ H s) : Inv X pins σ H s := I.pins_of fun p hp => I.pin p (List.mem_append_right _ (List.mem_append_left _ hp))
theorem ps_for {iter : Expr} {body : List Stmt} {wi : TI} {g : TG} {tb : TS} {pos : Pos} (hp : PassesOwn (model X.prog X.w) X.A X.env X.xe) (hc : X.calm = true) (hi : PI X tg iter wi) (hg : PG X tg g) (hb : PSs X body tb)
    (hs : ∀ x, foldedSetIterable iter X.env x = pure x := by intro _; rfl) : PS X (.For tg iter body [] pos) (tFor wi g tb) := by
  intro pins s σ H D I h
  refine wpAny_For (thn (hi pins s σ H _ I h) fun v s1 h1 => thn h1 fun itv s2 h2 => ?_) hs
  obtain ⟨it, fp, tn, J, H2, e, I2, T, st2, f2, W, ⟨m0, w0⟩, turn⟩ := h2
  subst e
  -- what stays true of the iterator's objects through the loop
  have stat : ∀ {H' : Hp}, (∀ b ∈ fp, H' b = none) → ∀ b ∈ fp, FpOk X pins H' b := fun hn b hb => ⟨hn b hb, (f2 b hb).2⟩
  refine codeAny_forLoop_any (fun n s' => ∃ i σ' H', Inv X pins σ' H' s' ∧ tn i s'.heap ∧ (∀ b ∈ fp, H' b = none) ∧ W i n σ' H') ?_ m0 ⟨0, σ, H2, I2, st2, fun b hb => (f2 b hb).1, w0⟩
  rintro n s3 ⟨i, σ3, H3, I3, st3, fr3, w3⟩
  rcases turn i n σ3 H3 w3 with ⟨stop, qn⟩ | ⟨go, N, hN, step⟩
  · refine wpAny_passesOwn hp (thn (T.done X rfl rfl rfl hc i pins s3 σ3 H3 X.xe I3 (stat fr3) st3 stop) fun r s4 ⟨hr, I4⟩ => ?_)
    subst hr
    exact wpAny_execs_nil ⟨σ3, H3, I4, qn⟩
  · refine wpAny_passesOwn hp (thn (T.item X rfl rfl rfl hc i pins s3 σ3 H3 X.xe I3 (stat fr3) st3 go) fun r s4 ⟨u, hr, h4⟩ => ?_)
    subst hr
    refine wpAny_passesOwn hp (thn h4 fun _ s5 ⟨x, H5, I5, r5, y5, st5, fr5⟩ => ?_)
    have I5' := I5.pinned (stat fr5) (T.obj _ _ st5)
    refine wpAny_passesOwn hp (thn (hg _ s5 σ3 H5 x u _ I5' r5 (step x H5 y5)) fun _ s6 ⟨σ6, H6, I6, q6⟩ => ?_)
    refine wpAny_passesOwn hp (thn (hb _ s6 σ6 H6 _ I6 q6) fun f s7 q7 => ?_)
    have again : ∀ {σ7 : St} {H7 : Hp}, Inv X (pins ++ pinsAt fp s5.heap) σ7 H7 s7 → N σ7 H7 → ∃ m, m < n ∧ ∃ i σ' H', Inv X pins σ' H' s7 ∧ tn i s7.heap ∧ (∀ b ∈ fp, H' b = none) ∧ W i m σ' H' := fun {σ7 H7} I7 n7 => by
      obtain ⟨m', hm, w7⟩ := hN σ7 H7 n7
      refine ⟨m', hm, i + 1, σ7, H7, I7.unpinned, T.keep _ _ _ st5 fun b hb o e => (I7.pin (b, o) (List.mem_append_right _ (List.mem_append_right _ (mem_pinsAt hb e)))).1, fun b hb => ?_, w7⟩
      obtain ⟨o, e, d⟩ := T.obj _ _ st5 b hb
      exact (I7.pin (b, o) (List.mem_append_right _ (List.mem_append_right _ (mem_pinsAt hb e)))).2.1
    cases f with
    | next => obtain ⟨σ7, H7, I7, n7⟩ := q7; exact again I7 n7
    | cont => obtain ⟨σ7, H7, I7, n7⟩ := q7; exact again I7 n7
    | brk => obtain ⟨σ7, H7, I7, q7⟩ := q7; exact ⟨σ7, H7, I7.unpinned, q7⟩
    | ret v => obtain ⟨x7, σ7, H7, I7, r7, q7⟩ := q7; exact ⟨x7, σ7, H7, I7.unpinned, r7, q7⟩
end
theorem for_list {K : PySem.W.Frag} {a : Addr} {xs : List V} {g : TG} {tb : TS} {D : Ends} {σ : St} {H : Hp} (Pv : Nat → St → Hp → Prop) (h0 : Pv 0 σ H) (hl : ∀ i σ H, i ≤ xs.length → Pv i σ H → SqL K H a xs)
    (hs : ∀ i x σ H, xs[i]? = some x → Pv i σ H → g x σ H fun σ2 H2 => tb { D with nx := Pv (i + 1), ct := Pv (i + 1), bk := D.nx } σ2 H2) (hd : ∀ σ H, Pv xs.length σ H → D.nx σ H) :
    ∃ W : Nat → Nat → St → Hp → Prop, (∃ m, W 0 m σ H) ∧ ∀ i m σ H, W i m σ H →
      ((Itl K a).stop i H ∧ D.nx σ H) ∨ ((Itl K a).go i H ∧ ∃ N : St → Hp → Prop, (∀ σ' H', N σ' H' → ∃ m', m' < m ∧ W (i + 1) m' σ' H') ∧ ∀ x H', (Itl K a).yld i H x H' → g x σ H' fun σ2 H2 => tb { D with nx := N, ct := N, bk := D.nx } σ2 H2) := by
  refine ⟨fun i m σ H => m = xs.length - i ∧ i ≤ xs.length ∧ Pv i σ H, ⟨xs.length, by simp, Nat.zero_le _, h0⟩, ?_⟩
  rintro i m σ H ⟨rfl, hi, p⟩
  have q := hl i σ H hi p
  by_cases hlt : i < xs.length
  · refine .inr ⟨⟨xs, xs[i], q, by simp [hlt]⟩, Pv (i + 1), fun σ' H' p' => ⟨xs.length - (i + 1), by omega, rfl, hlt, p'⟩, fun x H' y => ?_⟩
    obtain ⟨e, y⟩ := y
    subst e
    exact hs i x σ _ (y xs q) p
  · have e : i = xs.length := by omega
    subst e
    exact .inl ⟨⟨xs, q, Nat.le_refl _⟩, hd σ H p⟩
theorem for_tup {K : PySem.W.Frag} {a : Addr} {xs : List V} {g : TG} {tb : TS} {D : Ends} {σ : St} {H : Hp} (Pv : Nat → St → Hp → Prop) (h0 : Pv 0 σ H) (hl : ∀ i σ H, i ≤ xs.length → Pv i σ H → SqT K H a xs)
    (hs : ∀ i x σ H, xs[i]? = some x → Pv i σ H → g x σ H fun σ2 H2 => tb { D with nx := Pv (i + 1), ct := Pv (i + 1), bk := D.nx } σ2 H2) (hd : ∀ σ H, Pv xs.length σ H → D.nx σ H) :
    ∃ W : Nat → Nat → St → Hp → Prop, (∃ m, W 0 m σ H) ∧ ∀ i m σ H, W i m σ H →
      ((Itt K a).stop i H ∧ D.nx σ H) ∨ ((Itt K a).go i H ∧ ∃ N : St → Hp → Prop, (∀ σ' H', N σ' H' → ∃ m', m' < m ∧ W (i + 1) m' σ' H') ∧ ∀ x H', (Itt K a).yld i H x H' → g x σ H' fun σ2 H2 => tb { D with nx := N, ct := N, bk := D.nx } σ2 H2) := by
  refine ⟨fun i m σ H => m = xs.length - i ∧ i ≤ xs.length ∧ Pv i σ H, ⟨xs.length, by simp, Nat.zero_le _, h0⟩, ?_⟩
  rintro i m σ H ⟨rfl, hi, p⟩
  have q := hl i σ H hi p
  by_cases hlt : i < xs.length
  · refine .inr ⟨⟨xs, xs[i], q, by simp [hlt]⟩, Pv (i + 1), fun σ' H' p' => ⟨xs.length - (i + 1), by omega, rfl, hlt, p'⟩, fun x H' y => ?_⟩
    obtain ⟨e, y⟩ := y
    subst e
    exact hs i x σ _ (y xs q) p
  · have e : i = xs.length := by omega
    subst e
    exact .inl ⟨⟨xs, q, Nat.le_refl _⟩, hd σ H p⟩
theorem for_range {lo : Int} {n : Nat} {g : TG} {tb : TS} {D : Ends} {σ : St} {H : Hp} (Pv : Nat → St → Hp → Prop) (h0 : Pv 0 σ H)
    (hs : ∀ i σ H, i < n → Pv i σ H → g (.int (lo + i)) σ H fun σ2 H2 => tb { D with nx := Pv (i + 1), ct := Pv (i + 1), bk := D.nx } σ2 H2) (hd : ∀ σ H, Pv n σ H → D.nx σ H) :
    ∃ W : Nat → Nat → St → Hp → Prop, (∃ m, W 0 m σ H) ∧ ∀ i m σ H, W i m σ H →
      ((Itr lo n).stop i H ∧ D.nx σ H) ∨ ((Itr lo n).go i H ∧ ∃ N : St → Hp → Prop, (∀ σ' H', N σ' H' → ∃ m', m' < m ∧ W (i + 1) m' σ' H') ∧ ∀ x H', (Itr lo n).yld i H x H' → g x σ H' fun σ2 H2 => tb { D with nx := N, ct := N, bk := D.nx } σ2 H2) := by
  refine ⟨fun i m σ H => m = n - i ∧ i ≤ n ∧ Pv i σ H, ⟨n, by simp, Nat.zero_le _, h0⟩, ?_⟩
  rintro i m σ H ⟨rfl, hi, p⟩
  by_cases hlt : i < n
  · refine .inr ⟨hlt, Pv (i + 1), fun σ' H' p' => ⟨n - (i + 1), by omega, rfl, hlt, p'⟩, fun x H' y => ?_⟩
    obtain ⟨e, y⟩ := y
    subst e y
    exact hs i σ _ hlt p
  · have e : i = n := by omega
    subst e
    exact .inl ⟨Nat.le_refl _, hd σ H p⟩
end L2
namespace L2
open PySem PySem.Spec PyProof.Rows
abbrev R2 := V → V → Hp → VK → Prop
def OpR (X : Cx) (f : Value → Value → Sem Value) (r : R2) : Prop :=
  ∀ (pins : List (Addr × Obj)) (s : Shared) (σ : St) (H : Hp) (x y : V) (v u : Value) (Q : VK), Inv X pins σ H s → RelV x v → RelV y u → r x y H Q →
    wpAny (model X.prog X.w) X.A (f v u) (EP X pins σ Q) X.xe s
def UnR (X : Cx) (f : Value → Sem Value) (r : V → Hp → VK → Prop) : Prop :=
  ∀ (pins : List (Addr × Obj)) (s : Shared) (σ : St) (H : Hp) (x : V) (v : Value) (Q : VK), Inv X pins σ H s → RelV x v → r x H Q →
    wpAny (model X.prog X.w) X.A (f v) (EP X pins σ Q) X.xe s
def CallR (X : Cx) (f : Value) (r : List V → Hp → VK → Prop) : Prop :=
  ∀ (pins : List (Addr × Obj)) (s : Shared) (σ : St) (H : Hp) (xs : List V) (us : List Value) (Q : VK), Inv X pins σ H s → Vals xs us → r xs H Q →
    wpAny (model X.prog X.w) X.A (call f us) (EP X pins σ Q) X.xe s
def tOp (r : R2) (ta tb : TE) : TE := fun σ H Q => ta σ H fun x H1 => tb σ H1 fun y H2 => r x y H2 Q
def tUn (r : V → Hp → VK → Prop) (ta : TE) : TE := fun σ H Q => ta σ H fun x H1 => r x H1 Q
def rI (C : Int → Int → Prop) (g : Int → Int → V) : R2 := fun x y H Q => ∃ i j, x = .int i ∧ y = .int j ∧ C i j ∧ Q (g i j) H
def rI0 (g : Int → Int → V) : R2 := fun x y H Q => ∃ i j, x = .int i ∧ y = .int j ∧ Q (g i j) H
def rU (g : Int → V) : V → Hp → VK → Prop := fun x H Q => ∃ i, x = .int i ∧ Q (g i) H
section
variable {X : Cx} {a b c : Expr} {ta tb tc : TE} {pos : Pos}
theorem binT (ha : PE X a ta) (hb : PE X b tb) {pins : List (Addr × Obj)} {s : Shared} {σ : St} {H : Hp} {R : V → V → Hp → Prop} (I : Inv X pins σ H s)
    (h : ta σ H fun x H1 => tb σ H1 fun y H2 => R x y H2) {Q : Value → Shared → Prop} {f : Value → Value → Sem Value}
    (hf : ∀ v u s2 x y H2, Inv X pins σ H2 s2 → RelV x v → RelV y u → R x y H2 → wpAny (model X.prog X.w) X.A (f v u) Q X.xe s2) :
    wpAny (model X.prog X.w) X.A (eval a X.env) (fun v s₁ => wpAny (model X.prog X.w) X.A (eval b X.env) (fun u s₂ => wpAny (model X.prog X.w) X.A (f v u) Q X.xe s₂) X.xe s₁) X.xe s := by
  refine thn (ha pins s σ H _ I h) fun v s1 ⟨x, H1, I1, r1, q1⟩ => ?_
  refine thn (hb pins s1 σ H1 _ I1 q1) fun u s2 ⟨y, H2, I2, r2, q2⟩ => ?_
  exact hf v u s2 x y H2 I2 r1 r2 q2
theorem pe_op {op : Operator} {r : R2} (ho : OpR X (binaryOp op) r) (ha : PE X a ta) (hb : PE X b tb) : PE X (.BinOp a op b pos) (tOp r ta tb) := by
  intro pins s σ H Q I h
  exact wpAny_BinOp (binT ha hb I h fun v u s2 x y H2 I2 rx ry q => ho pins s2 σ H2 x y v u Q I2 rx ry q)
theorem pe_un {op : UnaryOp} {r : V → Hp → VK → Prop} (ho : UnR X (unaryOp op) r) (ha : PE X a ta) : PE X (.UnaryOp op a pos) (tUn r ta) := by
  intro pins s σ H Q I h
  exact UnaryOp_ (thn (ha pins s σ H _ I h) fun v s1 ⟨x, H1, I1, r1, q1⟩ => ho pins s1 σ H1 x v Q I1 r1 q1)
theorem opI {f : Value → Value → Sem Value} {C : Int → Int → Prop} {g : Int → Int → Int}
    (rule : ∀ (i j : Int) (t u : Tok) (s : Shared) (Q : Value → Shared → Prop) (E : Value → Shared → Prop), C i j → Q (.int (g i j) s.toks) { s with toks := s.toks + 1 } → wpAny (model X.prog X.w) X.A (f (.int i t) (.int j u)) Q E s) :
    OpR X f (rI C fun i j => .int (g i j)) := by
  intro pins s σ H x y v u Q I rx ry h
  obtain ⟨i, j, rfl, rfl, hc, q⟩ := h
  obtain ⟨t, rfl⟩ := rx
  obtain ⟨t', rfl⟩ := ry
  exact rule i j t t' s _ _ hc ⟨.int (g i j), H, I.tok _, ⟨_, rfl⟩, q⟩
theorem opI0 {f : Value → Value → Sem Value} {g : Int → Int → Int}
    (rule : ∀ (i j : Int) (t u : Tok) (s : Shared) (Q : Value → Shared → Prop) (E : Value → Shared → Prop), Q (.int (g i j) s.toks) { s with toks := s.toks + 1 } → wpAny (model X.prog X.w) X.A (f (.int i t) (.int j u)) Q E s) :
    OpR X f (rI0 fun i j => .int (g i j)) := by
  intro pins s σ H x y v u Q I rx ry h
  obtain ⟨i, j, rfl, rfl, q⟩ := h
  obtain ⟨t, rfl⟩ := rx
  obtain ⟨t', rfl⟩ := ry
  exact rule i j t t' s _ _ ⟨.int (g i j), H, I.tok _, ⟨_, rfl⟩, q⟩
theorem opB0 {f : Value → Value → Sem Value} {g : Int → Int → Bool}
    (rule : ∀ (i j : Int) (t u : Tok) (s : Shared) (Q : Value → Shared → Prop) (E : Value → Shared → Prop), Q (.bool (g i j)) s → wpAny (model X.prog X.w) X.A (f (.int i t) (.int j u)) Q E s) :
    OpR X f (rI0 fun i j => .bl (g i j)) := by
  intro pins s σ H x y v u Q I rx ry h
  obtain ⟨i, j, rfl, rfl, q⟩ := h
  obtain ⟨t, rfl⟩ := rx
  obtain ⟨t', rfl⟩ := ry
  exact rule i j t t' s _ _ ⟨.bl (g i j), H, I, rfl, q⟩
def CDiv (i j : Int) : Prop := 0 < j ∧ j < 1073741824
def CPow (i j : Int) : Prop := 0 ≤ j ∧ j ≤ 1000000 ∧ i.natAbs < 2 ^ 64
def CMul (i j : Int) : Prop := (-(2 ^ 64) < i ∧ i < 2 ^ 64) ∨ (-(2 ^ 64) < j ∧ j < 2 ^ 64)
theorem CMul.ok {i j : Int} (h : CMul i j) : IntMulOk i j := by
  rcases h with ⟨h1, h2⟩ | ⟨h1, h2⟩
  · exact .of_left (intBits_le_64 h1 h2)
  · exact .of_right (intBits_le_64 h1 h2)
theorem op_add : OpR X (binaryOp .Add) (rI0 fun i j => .int (i + j)) := opI0 fun _ _ _ _ _ _ _ q => add_int q
theorem op_sub : OpR X (binaryOp .Sub) (rI0 fun i j => .int (i - j)) := opI0 fun _ _ _ _ _ _ _ q => sub_int q
theorem op_mul : OpR X (binaryOp .Mult) (rI CMul fun i j => .int (i * j)) := opI fun _ _ _ _ _ _ _ hc q => mul_int q hc.ok
theorem op_fdiv : OpR X (binaryOp .FloorDiv) (rI CDiv fun i j => .int (i / j)) := opI fun i j _ _ _ _ _ hc q => by
  have h1 : (0 : Int) < j := hc.1
  have h2 : j < 1073741824 := hc.2
  exact floordiv_int (by omega) (by rw [Int.fdiv_eq_ediv_of_nonneg i (by omega)]; exact q) (.inl (PyProof.noPylong_small (by omega)))
theorem op_mod : OpR X (binaryOp .Mod) (rI (fun _ j => 0 < j) fun i j => .int (i % j)) := opI fun i j _ _ _ _ _ hc q => by
  have h1 : (0 : Int) < j := hc
  exact mod_int' (by omega) (by rw [Int.fmod_eq_emod_of_nonneg i (by omega)]; exact q)
theorem op_pow : OpR X (binaryOp .Pow) (rI CPow fun i j => .int (i ^ j.toNat)) := opI fun _ _ _ _ _ _ _ hc q => pow_int_small hc.1 hc.2.1 hc.2.2 q
theorem unI {f : Value → Sem Value} {g : Int → Int}
    (rule : ∀ (i : Int) (t : Tok) (s : Shared) (Q : Value → Shared → Prop) (E : Value → Shared → Prop), Q (.int (g i) s.toks) { s with toks := s.toks + 1 } → wpAny (model X.prog X.w) X.A (f (.int i t)) Q E s) :
    UnR X f (rU fun i => .int (g i)) := by
  intro pins s σ H x v Q I rx h
  obtain ⟨i, rfl, q⟩ := h
  obtain ⟨t, rfl⟩ := rx
  exact rule i t s _ _ ⟨.int (g i), H, I.tok _, ⟨_, rfl⟩, q⟩
theorem un_neg : UnR X (unaryOp .USub) (rU fun i => .int (-i)) := unI fun _ _ _ _ _ q => neg_int q
end
section
variable {X : Cx} {a b c : Expr} {ta tb tc : TE} {pos : Pos}
theorem op_lt : OpR X (compareOp .Lt) (rI0 fun i j => .bl (decide (i < j))) := opB0 fun _ _ _ _ _ _ _ q => lt_int q
theorem op_le : OpR X (compareOp .LtE) (rI0 fun i j => .bl (decide (i ≤ j))) := opB0 fun _ _ _ _ _ _ _ q => le_int q
theorem op_gt : OpR X (compareOp .Gt) (rI0 fun i j => .bl (decide (j < i))) := opB0 fun _ _ _ _ _ _ _ q => gt_int q
theorem op_ge : OpR X (compareOp .GtE) (rI0 fun i j => .bl (decide (j ≤ i))) := opB0 fun _ _ _ _ _ _ _ q => ge_int q
theorem OpR.or {f : Value → Value → Sem Value} {r r' : R2} (h : OpR X f r) (h' : OpR X f r') : OpR X f (fun x y H Q => r x y H Q ∨ r' x y H Q) := by
  intro pins s σ H x y v u Q I rx ry q
  rcases q with q | q
  · exact h pins s σ H x y v u Q I rx ry q
  · exact h' pins s σ H x y v u Q I rx ry q
theorem nomark (b : Expr) {op : CmpOp} (h : op ≠ .In := by decide) (h2 : op ≠ .NotIn := by decide) : behindInMarks op b = false := by
  have e1 : (op == CmpOp.In) = false := by cases op <;> first | rfl | exact absurd rfl h
  have e2 : (op == CmpOp.NotIn) = false := by cases op <;> first | rfl | exact absurd rfl h2
  cases b <;> simp [behindInMarks, e1, e2]
theorem pe_cmpR {op : CmpOp} {r : R2} (ho : OpR X (compareOp op) r) (ha : PE X a ta) (hb : PE X b tb) (hm : behindInMarks op b = false) : PE X (.Compare a [op] [b] pos) (tOp r ta tb) := by
  intro pins s σ H Q I h
  exact wpAny_Compare1 (binT ha hb I h fun v u s2 x y H2 I2 rx ry q => ho pins s2 σ H2 x y v u Q I2 rx ry q) hm
def tTest (t : TE) : TT := fun σ H Q => t σ H fun x H' => ∃ k, x = .bl k ∧ Q k H'
theorem pt_cmpR {op : CmpOp} {r : R2} (ho : OpR X (compareOp op) r) (ha : PE X a ta) (hb : PE X b tb) (hm : behindInMarks op b = false) : PT X (.Compare a [op] [b] pos) (tTest (tOp r ta tb)) := by
  intro pins s σ H Q I h
  refine wpAny_isTrue_Compare1 (thn (ha pins s σ H _ I h) fun v s1 ⟨x, H1, I1, r1, q1⟩ => thn (hb pins s1 σ H1 _ I1 q1) fun u s2 ⟨y, H2, I2, r2, q2⟩ =>
    thn (ho pins s2 σ H2 x y v u _ I2 r1 r2 q2) fun c s3 ⟨z, H3, I3, r3, k, e, q3⟩ => ?_) hm
  subst e
  cases r3
  exact wpAny_truthy_bool ⟨H3, I3, q3⟩
def tChain (r r' : R2) (ta tb tc : TE) : TE := fun σ H Q => ta σ H fun x H1 => tb σ H1 fun y H2 => r x y H2 fun z H3 => ∃ k, z = .bl k ∧
  (if k = true then tc σ H3 fun w' H4 => r' y w' H4 Q else Q (.bl false) H3)
theorem pe_chain {op op' : CmpOp} {r r' : R2} (ho : OpR X (compareOp op) r) (ho' : OpR X (compareOp op') r') (ha : PE X a ta) (hb : PE X b tb) (hc : PE X c tc)
    (hm : lastMarks [op, op'] [b, c] = false := by with_unfolding_all rfl) : PE X (.Compare a [op, op'] [b, c] pos) (tChain r r' ta tb tc) := by
  intro pins s σ H Q I h
  refine Compare_chain (thn (ha pins s σ H _ I h) fun v s1 ⟨x, H1, I1, r1, q1⟩ => chain_link (thn (hb pins s1 σ H1 _ I1 q1) fun u s2 ⟨y, H2, I2, r2, q2⟩ =>
    thn (ho pins s2 σ H2 x y v u _ I2 r1 r2 q2) fun d s3 ⟨z, H3, I3, r3, k, e, q3⟩ => ?_)) hm
  subst e
  cases r3
  refine wpAny_truthy_bool ?_
  cases k with
  | false => exact ite_ff ⟨.bl false, H3, I3, rfl, q3⟩
  | true => exact ite_tt (chain_last (thn (hc pins s3 σ H3 _ I3 q3) fun w' s4 ⟨z', H4, I4, r4, q4⟩ => ho' pins s4 σ H4 y z' u w' Q I4 r2 r4 q4))
theorem line63 : (sizeLine : Nat) < 2 ^ 63 := by rw [sizeLine_eq]; decide
theorem vals1 {x : V} {us : List Value} (r : Vals [x] us) : ∃ u, us = [u] ∧ RelV x u := by
  cases r with
  | cons r1 r2 => cases r2; exact ⟨_, rfl, r1⟩
theorem vals2 {x y : V} {us : List Value} (r : Vals [x, y] us) : ∃ u w', us = [u, w'] ∧ RelV x u ∧ RelV y w' := by
  cases r with
  | cons r1 r2 =>
    cases r2 with
    | cons r3 r4 => cases r4; exact ⟨_, _, rfl, r1, r3⟩
theorem call_abs : CallR X (.builtin "abs") (fun xs H Q => ∃ i, xs = [.int i] ∧ Q (.int (if i < 0 then -i else i)) H) := by
  intro pins s σ H xs us Q I r h
  obtain ⟨i, rfl, q⟩ := h
  obtain ⟨u, rfl, t, rfl⟩ := vals1 r
  exact call_abs_int fun u tk => ⟨.int (if i < 0 then -i else i), H, I.tok _, ⟨_, rfl⟩, q⟩
theorem call_max2 (hc : X.calm = true) : CallR X (.builtin "max") (fun xs H Q => ∃ i j, xs = [.int i, .int j] ∧ Q (.int (if j > i then j else i)) H) := by
  intro pins s σ H xs us Q I r h
  obtain ⟨i, j, rfl, q⟩ := h
  obtain ⟨u, w', rfl, ⟨t, rfl⟩, ⟨t', rfl⟩⟩ := vals2 r
  refine max_two_ints (I.ok.hd hc) fun h' tk k => ⟨_, H, I.kept k, ?_, q⟩
  by_cases hj : j > i
  · rw [if_pos hj, if_pos hj]; exact ⟨_, rfl⟩
  · rw [if_neg hj, if_neg hj]; exact ⟨_, rfl⟩
theorem call_min2 (hc : X.calm = true) : CallR X (.builtin "min") (fun xs H Q => ∃ i j, xs = [.int i, .int j] ∧ Q (.int (if j < i then j else i)) H) := by
  intro pins s σ H xs us Q I r h
  obtain ⟨i, j, rfl, q⟩ := h
  obtain ⟨u, w', rfl, ⟨t, rfl⟩, ⟨t', rfl⟩⟩ := vals2 r
  refine min_two_ints (I.ok.hd hc) fun h' tk k => ⟨_, H, I.kept k, ?_, q⟩
  by_cases hj : j < i
  · rw [if_pos hj, if_pos hj]; exact ⟨_, rfl⟩
  · rw [if_neg hj, if_neg hj]; exact ⟨_, rfl⟩
def LenV (K : PySem.W.Frag) (x : V) (H : Hp) (n : Nat) : Prop :=
  match x with
  | .str y => y.length ≤ sizeLine ∧ n = y.length
  | .byt y => y.size ≤ sizeLine ∧ n = y.size
  | .ref p => (∃ xs, SqL K H p xs ∧ n = xs.length) ∨ ∃ xs, SqT K H p xs ∧ n = xs.length
  | _ => False
theorem call_len : CallR X (.builtin "len") (fun xs H Q => ∃ x n, xs = [x] ∧ LenV X.K x H n ∧ Q (.int n) H) := by
  intro pins s σ H xs us Q I r h
  obtain ⟨x, n, rfl, e, q⟩ := h
  obtain ⟨u, rfl, rx⟩ := vals1 r
  have hl := line63
  have hs : sizeLine = 16777216 := sizeLine_eq
  cases x with
  | str y =>
    obtain ⟨t, rfl⟩ := rx
    obtain ⟨hy, e'⟩ : y.length ≤ sizeLine ∧ n = y.length := e
    subst e'
    exact len_str (by omega) ⟨.int _, H, I.tok _, ⟨_, rfl⟩, q⟩
  | byt y =>
    obtain ⟨t, rfl⟩ := rx
    obtain ⟨hy, e'⟩ : y.size ≤ sizeLine ∧ n = y.size := e
    subst e'
    exact PySem.W.len_bytes (by omega) ⟨.int _, H, I.tok _, ⟨_, rfl⟩, q⟩
  | ref p =>
    cases rx
    have e' : (∃ xs, SqL X.K H p xs ∧ n = xs.length) ∨ ∃ xs, SqT X.K H p xs ∧ n = xs.length := e
    rcases e' with ⟨xs, hx, e'⟩ | ⟨xs, hx, e'⟩
    · subst e'
      obtain ⟨its, r', pl, hz⟩ := I.list hx
      have hlen := r'.length
      exact Calls.call_len_list pl.isList (by simp only [List.size_toArray]; omega) ⟨.int xs.length, H, I.tok _, ⟨_, by simp only [List.size_toArray]; rw [hlen]⟩, q⟩
    · subst e'
      obtain ⟨its, r', pl, hz⟩ := I.tuple hx
      have hlen := r'.length
      exact len_tuple pl (by simp only [List.size_toArray]; omega) ⟨.int xs.length, H, I.tok _, ⟨_, by simp only [List.size_toArray]; rw [hlen]⟩, q⟩
  | _ => exact (show False from e).elim
end
end L2
namespace L2
open PySem PySem.Spec PyProof.Rows
structure ObjM (h : Heap) (x dx C : Addr) (mA : Str → Option Value) : Prop where
  obj : h.get? x = some (PySem.W.instObj C dx)
  ns : h.Ns1 dx mA
  ne : dx ≠ x
theorem lookIn_ns {h : Heap} {dx : Addr} {mA : Str → Option Value} (n : h.Ns1 dx mA) : ∃ od, h.get? dx = some od ∧ ∀ name, PySem.W.lookIn name od = some (mA name) := by
  obtain ⟨o, es, ep, ho, hd, hk, _, hm⟩ := n
  refine ⟨o, ho, fun name => ?_⟩
  have e := hm name
  unfold nsFind findBy at e
  rw [← Array.find?_toList] at e
  unfold PySem.W.lookIn
  rw [hd]
  dsimp only
  split
  · rename_i y q
    rw [q] at e
    exact congrArg some e
  · rename_i q
    rw [q] at e
    have a : es.toList.any (·.refKey) = false := by
      rw [List.any_eq_false]
      intro y hy
      obtain ⟨z, t, hkey⟩ := hk y (Array.mem_toList_iff.mp hy)
      simp [DictEntry.refKey, hkey]
    have a' : ¬ es.toList.any (·.refKey) = true := by rw [a]; exact Bool.false_ne_true
    rw [if_neg a']
    exact congrArg some e
theorem ObjM.look {h : Heap} {x dx C : Addr} {mA : Str → Option Value} (I : ObjM h x dx C mA) : ∃ od, PySem.W.InstAt h x (PySem.W.instObj C dx) C (some od) ∧ ∀ name, PySem.W.lookIn name od = some (mA name) :=
  let ⟨od, ho, hl⟩ := lookIn_ns I.ns
  ⟨od, ⟨I.obj, rfl, rfl, ho⟩, hl⟩
section
variable {prog : Program} {w : World} {A : Around} {E : Value → Shared → Prop} {s : Shared} {K : PySem.W.Frag} {x dx C f : Addr} {mA : Str → Option Value} {name : Str} {v : Value}
theorem get_map {expr : Bool} {Q : Value → Shared → Prop} (X : K.In s.heap) (I : ObjM s.heap x dx C mA) (hg : PySem.W.plainGet K C name = true) (hh : PySem.W.hasDictIn K C = true)
    (ha : PySem.W.findIn K (.ref C) name = some none) (hv : mA name = some v) (hv' : PySem.W.handedIn v = true) (h : Q v { s with toks := s.toks + 1 }) :
    wpAny (model prog w) A (getAttr (.ref x) name expr) Q E s := by
  obtain ⟨od, J, hl⟩ := I.look
  exact PySem.W.get_value X J (PySem.W.plainGet_of hg).1 (PySem.W.findObj_own hh ha rfl (by rw [hl, hv])) hv' h
theorem set_map {ns : List Str} {Q : Unit → Shared → Prop} (X : K.In s.heap) (I : ObjM s.heap x dx C mA)
    (hs : PySem.W.findIn K (.ref C) "__setattr__" = some (some (.builtin "object.__setattr__"))) (hp : PySem.W.plainOver K C = true) (ht : PySem.W.takerIn K C name = some none) (hh : PySem.W.hasDictIn K C = true)
    (hw : PySem.Within mA ns) (hsz : ns.length ≤ sizeLine)
    (h : ∀ h', ObjM h' x dx C (fun y => if y = name then some v else mA y) → Heap.SameBut dx s.heap h' → Q () { s with heap := h', toks := s.toks + 2 }) :
    wpAny (model prog w) A (setAttr (.ref x) name v) Q E s := by
  obtain ⟨od, J, hl⟩ := I.look
  refine PySem.W.set_plain X J hs (PySem.W.osa_open (s := { s with toks := s.toks + 1 }) (r := none) X J hp ht fun b => ?_)
  obtain ⟨cd, hc, hd'⟩ := PySem.W.any_some hh
  have hx : s.heap.get? x = some ⟨.ref C, some dx, .plain, #[]⟩ := I.obj
  refine wpAny_bind (wpAny_pure (wpAny_bind (wpAny_bind (wpAny_loadPart hx (wpAny_bind (PySem.W.Looks.here (s := { s with toks := s.toks + 1 }) (PySem.W.looks_clsIn X hc) ?_))))))
  rw [hd']
  refine wpAny_pure (a := some dx) (wpAny_bind (wpAny_pure (wpAny_bind ?_)))
  refine wpAny_nsSet1 (s := { s with toks := s.toks + 1 }) I.ns fun h' hn2 hs2 => ?_
  obtain ⟨oD, esD, epD, hoD, hdD, hcD⟩ := hn2.count (PySem.Within.cons name v hw)
  refine wpAny_bind (wpAny_lookBehind hoD (by rw [hdD]; exact pastItsLine_dict (Nat.le_trans hcD (by rw [List.length_cons]; omega))) ?_)
  exact wpAny_pure (h _ ⟨(hs2.2 _ (Ne.symm I.ne)).trans I.obj, hn2, I.ne⟩ hs2)
theorem make_map {R : Result → Shared → Prop} {vs : List Value} {kw : List (Str × Value)} (X : K.In s.heap) (hm : PySem.W.makesIn K C = true)
    (hi : PySem.W.findIn K (.ref C) "__init__" = some (some (.ref f))) (hf : PySem.W.typeIn K (.ref f) = some (.type "function"))
    (h : codeAny (model prog w) (A.under (.builtin "type.__call__" ⟨.ref C :: vs, kw⟩)) (.call (.ref f) ⟨.ref (s.heap.objs.size + 1) :: vs, kw⟩) (PySem.W.InitBack (s.heap.objs.size + 1) R)
      { s with heap := (s.heap.push PySem.W.emptyDict).push (PySem.W.instObj C s.heap.objs.size) }) :
    codeAny (model prog w) A (.call (.ref C) ⟨vs, kw⟩) R s := by
  obtain ⟨hh, g, d, t, os⟩ := s
  exact PySem.W.make_core (PySem.W.makes_of X hm) (PySem.W.looks_findIn X hi) (fun self => PySem.W.bind_fn X self hf) (.inl rfl) h
end
def putF (f : Str) (v : V) : List (Str × V) → List (Str × V)
  | [] => [(f, v)]
  | (g, x) :: r => if g = f then (g, v) :: r else (g, x) :: putF f v r
theorem lookup_putF (f g : Str) (v : V) : ∀ fs : List (Str × V), (putF f v fs).lookup g = if g = f then some v else fs.lookup g
  | [] => by
    show List.lookup g [(f, v)] = _
    by_cases h : g = f
    · have hb : (g == f) = true := beq_iff_eq.mpr h
      simp only [List.lookup, hb, if_pos h]
    · have hb : (g == f) = false := beq_eq_false_iff_ne.mpr h
      simp only [List.lookup, hb, if_neg h]
  | (k, x) :: r => by
    have ih := lookup_putF f g v r
    rw [show putF f v ((k, x) :: r) = (if k = f then (k, v) :: r else (k, x) :: putF f v r) from rfl]
    by_cases hk : k = f
    · rw [if_pos hk]
      by_cases h : g = k
      · have hb : (g == k) = true := beq_iff_eq.mpr h
        simp only [List.lookup, hb, if_pos (h.trans hk)]
      · have hb : (g == k) = false := beq_eq_false_iff_ne.mpr h
        simp only [List.lookup, hb, if_neg (fun e : g = f => h (e.trans hk.symm))]
    · rw [if_neg hk]
      by_cases h : g = k
      · have hb : (g == k) = true := beq_iff_eq.mpr h
        simp only [List.lookup, hb, if_neg (fun e : g = f => hk (h.symm.trans e))]
      · have hb : (g == k) = false := beq_eq_false_iff_ne.mpr h
        simp only [List.lookup, hb]
        exact ih
theorem keys_putF (f : Str) (v : V) : ∀ fs : List (Str × V), f ∈ (putF f v fs).map (·.1) ∧ ∀ g, g ∈ fs.map (·.1) → g ∈ (putF f v fs).map (·.1)
  | [] => ⟨by simp [putF], fun g h => by simp at h⟩
  | (k, x) :: r => by
    obtain ⟨i1, i2⟩ := keys_putF f v r
    rw [show putF f v ((k, x) :: r) = (if k = f then (k, v) :: r else (k, x) :: putF f v r) from rfl]
    by_cases hk : k = f
    · rw [if_pos hk]
      subst hk
      exact ⟨by simp, fun g h => by simpa using h⟩
    · rw [if_neg hk]
      refine ⟨?_, fun g h => ?_⟩
      · rw [List.map_cons]
        exact List.mem_cons_of_mem _ i1
      · rw [List.map_cons] at h ⊢
        rcases List.mem_cons.mp h with e | e
        · exact List.mem_cons.mpr (.inl e)
        · exact List.mem_cons_of_mem _ (i2 g e)
theorem length_putF (f : Str) (v : V) : ∀ fs : List (Str × V), (putF f v fs).length ≤ fs.length + 1
  | [] => by simp [putF]
  | (k, x) :: r => by
    have ih := length_putF f v r
    rw [show putF f v ((k, x) :: r) = (if k = f then (k, v) :: r else (k, x) :: putF f v r) from rfl]
    by_cases hk : k = f
    · rw [if_pos hk, List.length_cons, List.length_cons]; omega
    · rw [if_neg hk, List.length_cons, List.length_cons]; omega
theorem RelO.some_of {v : V} {o : Option Value} (r : RelO (some v) o) : ∃ u, o = some u ∧ RelV v u := by
  cases o with
  | none => exact (show False from r).elim
  | some u => exact ⟨u, rfl, r⟩
theorem handed_of {v : V} {u : Value} (r : RelV v u) : PySem.W.handedIn u = true := by
  cases v with
  | non => cases (show u = Value.none from r); rfl
  | bl b => cases (show u = Value.bool b from r); rfl
  | int i => obtain ⟨t, e⟩ := (show ∃ t, u = Value.int i t from r); cases e; rfl
  | str x => obtain ⟨t, e⟩ := (show ∃ t, u = Value.str x t from r); cases e; rfl
  | byt b => obtain ⟨t, e⟩ := (show ∃ t, u = Value.bytes b t from r); cases e; rfl
  | flt b => obtain ⟨t, e⟩ := (show ∃ t, u = Value.float b t from r); cases e; rfl
  | ref a => cases (show u = Value.ref a from r); rfl
  | ty n => cases (show u = Value.type n from r); rfl
section
variable {P : Program} {w : World} {H H' : Hp} {h h' : Heap} {a C dx : Addr} {fs fs' : List (Str × V)}
theorem ins_get (hok : HOk P w H h) (e : H a = some (.ins C dx fs)) : ∃ mA, ObjM h a dx C mA ∧ (∀ f, RelO (fs.lookup f) (mA f)) ∧ PySem.Within mA (fs.map (·.1)) ∧ fs.length ≤ 1000 ∧ H dx = some (.own a) := by
  obtain ⟨d, z, ne, ob, mA, n, r, q⟩ := (show ObjOk P w H h a (.ins C dx fs) from hok a _ e)
  exact ⟨mA, ⟨ob, n, ne⟩, r, q, z, d⟩
end
structure Cls (K : PySem.W.Frag) (C : Addr) : Prop where
  pg : PySem.W.plainGet K C Str.empty = true
  hd : PySem.W.hasDictIn K C = true
  po : PySem.W.plainOver K C = true
  sa : PySem.W.findIn K (.ref C) "__setattr__" = some (some (.builtin "object.__setattr__"))
theorem Cls.get {K : PySem.W.Frag} {C : Addr} (c : Cls K C) (f : Str) : PySem.W.plainGet K C f = true := c.pg
def NoAttr (K : PySem.W.Frag) (C : Addr) (f : Str) : Prop := PySem.W.findIn K (.ref C) f = some none
theorem NoAttr.taker {K : PySem.W.Frag} {C : Addr} {f : Str} (n : NoAttr K C f) : PySem.W.takerIn K C f = some none := by
  unfold PySem.W.takerIn
  rw [show PySem.W.findIn K (.ref C) f = some none from n]
  rfl
section
variable {X : Cx} {pins : List (Addr × Obj)} {σ : St} {H : Hp} {s : Shared} {a C dx : Addr} {fs : List (Str × V)} {f : Str} {v : V} {A : Around} {E : Value → Shared → Prop}
theorem getattr_ok {b : Bool} {Q : Value → Shared → Prop} (I : Inv X pins σ H s) (e : H a = some (.ins C dx fs)) (c : Cls X.K C) (n : NoAttr X.K C f) (l : fs.lookup f = some v)
    (h : ∀ u s', Inv X pins σ H s' → RelV v u → Q u s') : wpAny (model X.prog X.w) A (getAttr (.ref a) f b) Q E s := by
  obtain ⟨mA, O, r, _, _, _⟩ := ins_get I.hok e
  obtain ⟨u, hu, ru⟩ := RelO.some_of (v := v) (o := mA f) (by rw [← l]; exact r f)
  exact get_map I.kIn O (c.get f) c.hd n hu (handed_of ru) (h u _ (I.tok _) ru)
theorem setattr_ok {y : V} {u : Value} {Q : Unit → Shared → Prop} (I : Inv X pins σ H s) (e : H a = some (.ins C dx fs)) (c : Cls X.K C) (n : NoAttr X.K C f) (hl : fs.length < 1000) (ry : RelV y u)
    (h : ∀ s', Inv X pins σ (upd H a (.ins C dx (putF f y fs))) s' → Q () s') : wpAny (model X.prog X.w) A (setAttr (.ref a) f u) Q E s := by
  obtain ⟨mA, O, r, wi, _, ho⟩ := ins_get I.hok e
  have hz : (fs.map (·.1)).length ≤ sizeLine := by rw [List.length_map, sizeLine_eq]; omega
  refine set_map I.kIn O c.sa c.po n.taker c.hd wi hz fun h' O' sb => h _ ?_
  have hd : ∃ o, h'.get? dx = some o := let ⟨o, _, _, e', _⟩ := O'.ns; ⟨o, e'⟩
  refine I.write (x := a) (e := dx) (by rw [e]; exact True.intro) (.inr ho) (fun b q hb z => (sb.2 b hb).trans z) hd ?_
  refine ⟨by rw [upd_ne O.ne]; exact ho, ?_, O.ne, O'.obj, _, O'.ns, fun g => ?_, fun g hg => ?_⟩
  · have := length_putF f y fs; omega
  · show RelO ((putF f y fs).lookup g) (if g = f then some u else mA g)
    rw [lookup_putF]
    by_cases q : g = f
    · rw [if_pos q, if_pos q]; exact ry
    · rw [if_neg q, if_neg q]; exact r g
  · by_cases q : g = f
    · rw [q]; exact (keys_putF f y fs).1
    · refine (keys_putF f y fs).2 g (wi g fun z => hg ?_)
      show (if g = f then some u else mA g) = none
      rw [if_neg q]; exact z
theorem Inv.made (I : Inv X pins σ H s) : Inv X pins σ (upd (upd H s.heap.objs.size (.own (s.heap.objs.size + 1))) (s.heap.objs.size + 1) (.ins C s.heap.objs.size []))
    { s with heap := (s.heap.push PySem.W.emptyDict).push (PySem.W.instObj C s.heap.objs.size) } := by
  have e1 : (s.heap.push PySem.W.emptyDict).get? s.heap.objs.size = some PySem.W.emptyDict := Heap.get?_push_size s.heap rfl
  have e2 : ((s.heap.push PySem.W.emptyDict).push (PySem.W.instObj C s.heap.objs.size)).get? (s.heap.objs.size + 1) = some (PySem.W.instObj C s.heap.objs.size) := by
    have := Heap.get?_push_size (s.heap.push PySem.W.emptyDict) (o := PySem.W.instObj C s.heap.objs.size) rfl
    rwa [Heap.size_push] at this
  have e3 : (s.heap.push PySem.W.emptyDict).Ns s.heap.objs.size (fun _ => none) := ⟨PySem.W.emptyDict, #[], _, e1, rfl, (fun e he => absurd he (by simp)), fun _ => rfl⟩
  have I1 := I.laid (a := s.heap.objs.size) (o := .own (s.heap.objs.size + 1)) (h' := s.heap.push PySem.W.emptyDict) (t' := s.toks) (fun b u q => Heap.get?_push_of_some _ q) (Nat.le_refl _) ⟨_, e1⟩
  refine I1.laid (a := s.heap.objs.size + 1) (o := .ins C s.heap.objs.size []) (t' := s.toks) (fun b u q => Heap.get?_push_of_some _ q) (Nat.le_of_eq (Heap.size_push _ _)) ?_
  have ne : s.heap.objs.size ≠ s.heap.objs.size + 1 := Nat.ne_of_lt (Nat.lt_succ_self _)
  refine ⟨by rw [upd_ne ne, upd_same], Nat.zero_le _, ne, e2, fun _ => none, (Heap.Ns1.of_empty e3).at fun o q => Heap.get?_push_of_some _ q, fun _ => True.intro, fun y hy => absurd rfl hy⟩
theorem attr_of {prog : Program} {w : World} {env : Env} {e : Expr} {f : Str} {pos : Pos} {s : Shared} {Q : Value → Shared → Prop} (hb : attributeBase e f env (eval e env) = eval e env)
    (h : wpAny (model prog w) A (eval e env) (fun o s₁ => wpAny (model prog w) A (getAttr o f true) Q E s₁) E s) : wpAny (model prog w) A (eval (.Attribute e f pos) env) Q E s :=
  Attribute_any_ h (by rw [arm_eval_Attribute, hb])
end
def tFld (K : PySem.W.Frag) (ta : TE) (f : Str) : TE := fun σ H Q => ta σ H fun x H1 => ∃ a C dx fs v, x = .ref a ∧ H1 a = some (.ins C dx fs) ∧ Cls K C ∧ NoAttr K C f ∧ fs.lookup f = some v ∧ Q v H1
def sFld (K : PySem.W.Frag) (ta tv : TE) (f : Str) : TS := fun D σ H => tv σ H fun y H1 => ta σ H1 fun x H2 => ∃ a C dx fs, x = .ref a ∧ H2 a = some (.ins C dx fs) ∧ Cls K C ∧ NoAttr K C f ∧ fs.length < 1000 ∧
  D.nx σ (upd H2 a (.ins C dx (putF f y fs)))
section
variable {X : Cx} {o e value : Expr} {f : Str} {pos pos' tpos : Pos} {ta tv : TE}
theorem pe_fld (he : PE X e ta) (hb : attributeBase e f X.env (eval e X.env) = eval e X.env) : PE X (.Attribute e f pos) (tFld X.K ta f) := by
  intro pins s σ H Q I h
  refine attr_of hb (thn (he pins s σ H _ I h) fun u s1 ⟨x, H1, I1, rx, a, C, dx, fs, v, ex, ea, c, n, l, q⟩ => ?_)
  subst ex
  obtain rfl : u = Value.ref a := rx
  exact getattr_ok I1 ea c n l fun u' s2 I2 ru => ⟨v, H1, I2, ru, q⟩
theorem ps_fld (ha : PE X o ta) (hv : PE X value tv) (hs : swapsWith value (some (.Attribute o f pos')) pos.line X.env = pure false) : PS X (.Assign [.Attribute o f pos'] value pos) (sFld X.K ta tv f) := by
  intro pins s σ H D I h
  refine plainObj_wpAny_Assign_Attribute (thn (hv pins s σ H _ I h) fun u s1 ⟨y, H1, I1, ry, q⟩ => thn (ha pins s1 σ H1 _ I1 q) fun ov s2 ⟨x, H2, I2, rx, a, C, dx, fs, ex, ea, c, n, l, q2⟩ => ?_) hs
  subst ex
  obtain rfl : ov = Value.ref a := rx
  exact setattr_ok I2 ea c n l ry fun s3 I3 => ⟨σ, _, I3, q2⟩
end
section
variable {X : Cx} {pins : List (Addr × Obj)} {σ : St} {H : Hp} {s : Shared} {A : Around} {E : Value → Shared → Prop} {Q : Value → Shared → Prop} {c : Value} {b : Bool}
inductive TyOf (K : PySem.W.Frag) (H : Hp) : V → Value → Prop where
  | non : TyOf K H .non (.type "NoneType")
  | bl (x : Bool) : TyOf K H (.bl x) (.type "bool")
  | int (i : Int) : TyOf K H (.int i) (.type "int")
  | str (x : Str) : TyOf K H (.str x) (.type "str")
  | flt (x : UInt64) : TyOf K H (.flt x) (.type "float")
  | lst {a : Addr} {xs : List V} (e : H a = some (.lst xs)) : TyOf K H (.ref a) (.type "list")
  | frz {a : Addr} {o : Obj} {xs : List V} (e : H a = some (.frz o (.lst xs))) : TyOf K H (.ref a) (.type "list")
  | tup {a : Addr} {xs : List V} (e : H a = some (.tup xs)) : TyOf K H (.ref a) (.type "tuple")
  | dK {a : Addr} {kvs : List (Key × V)} (e : H a = some (.dK kvs)) : TyOf K H (.ref a) (.type "dict")
  | dT {a : Addr} {kvs : List (List Key × V)} (e : H a = some (.dT kvs)) : TyOf K H (.ref a) (.type "dict")
  | ins {a C dx : Addr} {fs : List (Str × V)} (e : H a = some (.ins C dx fs)) (cl : Cls K C) (ha : PySem.W.findIn K (.ref C) "__class__" = some (some (.builtin "object.__class__")))
      (hn : PySem.W.specialIn K (.builtin "object.__class__") "__get__" = some (some (.builtin "getset_descriptor.__get__"))) (htk : PySem.W.takesIn K (.builtin "object.__class__") = some true)
      (hm : PySem.W.mroIn K C (.type "object") = some true) : TyOf K H (.ref a) (.ref C)
theorem isinst_ok {x : V} {u t : Value} (I : Inv X pins σ H s) (rx : RelV x u) (ty : TyOf X.K H x t) (e : PySem.W.kitOne X.K t c = some b) (h : ∀ tk, Q (.bool b) { s with toks := tk }) :
    wpAny (model X.prog X.w) A (call (.builtin "isinstance") [u, c]) Q E s := by
  cases ty with
  | non => cases (show u = Value.none from rx); exact PySem.W.kia_one PySem.W.kitx_none I.kIn True.intro e (fun z => nomatch z) h
  | bl y => cases (show u = Value.bool y from rx); exact PySem.W.kia_one PySem.W.kitx_bool I.kIn True.intro e (fun z => nomatch z) h
  | int i => obtain ⟨t, q⟩ := (show ∃ t, u = Value.int i t from rx); cases q; exact PySem.W.kia_one PySem.W.kitx_int I.kIn True.intro e (fun z => nomatch z) h
  | str y => obtain ⟨t, q⟩ := (show ∃ t, u = Value.str y t from rx); cases q; exact PySem.W.kia_one PySem.W.kitx_str I.kIn True.intro e (fun z => nomatch z) h
  | flt y => obtain ⟨t, q⟩ := (show ∃ t, u = Value.float y t from rx); cases q; exact PySem.W.kia_one PySem.W.kitx_float I.kIn True.intro e (fun z => nomatch z) h
  | @lst a xs ea =>
    cases (show u = Value.ref a from rx)
    obtain ⟨_, _, n, _, h1⟩ := (show ObjOk X.prog X.w H s.heap a (.lst xs) from I.hok a _ ea)
    exact PySem.W.kia_one PySem.W.kitx_list I.kIn ⟨_, h1, rfl⟩ e (fun z => nomatch z) h
  | @frz a ob xs ea =>
    cases (show u = Value.ref a from rx)
    obtain ⟨_, _, _, n, _, h1⟩ := (show ObjOk X.prog X.w H s.heap a (.frz ob (.lst xs)) from I.hok a _ ea)
    exact PySem.W.kia_one PySem.W.kitx_list I.kIn ⟨_, h1, rfl⟩ e (fun z => nomatch z) h
  | @tup a xs ea =>
    cases (show u = Value.ref a from rx)
    obtain ⟨_, _, _, p⟩ := (show ObjOk X.prog X.w H s.heap a (.tup xs) from I.hok a _ ea)
    obtain ⟨o, h1, h2, _⟩ := p
    exact PySem.W.kia_one PySem.W.kitx_tuple I.kIn ⟨o, h1, h2⟩ e (fun z => nomatch z) h
  | @dK a kvs ea =>
    cases (show u = Value.ref a from rx)
    obtain ⟨_, _, vs, _, p⟩ := (show ObjOk X.prog X.w H s.heap a (.dK kvs) from I.hok a _ ea)
    obtain ⟨o, es, ep, h1, h2, _⟩ := p
    exact PySem.W.kia_one PySem.W.kitx_dict I.kIn ⟨o, h1, h2.1⟩ e (fun z => nomatch z) h
  | @dT a kvs ea =>
    cases (show u = Value.ref a from rx)
    obtain ⟨_, _, xs, _, o, es, ep, h1, h2, _⟩ := (show ObjOk X.prog X.w H s.heap a (.dT kvs) from I.hok a _ ea)
    exact PySem.W.kia_one PySem.W.kitx_dict I.kIn ⟨o, h1, h2.1⟩ e (fun z => nomatch z) h
  | @ins a C dx fs ea cl ha hn htk hm =>
    cases (show u = Value.ref a from rx)
    obtain ⟨mA, O, _⟩ := ins_get I.hok ea
    obtain ⟨od, J, _⟩ := O.look
    exact PySem.W.kia_one (PySem.W.kitx_own (cl.get _) cl.hd ha hn htk hm) I.kIn J e (fun z => nomatch z) h
end
end L2
namespace L2
open PySem PySem.Spec PyProof.Rows
structure Room (k : Nat) (A : Around) : Prop where
  hd : A.handled = none
  dp : A.depth + 3 * k + 5 < recursionLimit
  un : A.units + 16 * k + 200 < cLine
theorem Room.mono {j k : Nat} {A : Around} (r : Room k A) (h : j ≤ k) : Room j A := ⟨r.hd, by have := r.dp; omega, by have := r.un; omega⟩
theorem Room.deeper {k : Nat} {A : Around} (r : Room (k + 1) A) (env : Env) : Room k (A.deeper env) :=
  ⟨r.hd, by have := r.dp; show A.depth + 1 + 3 * k + 5 < _; omega, by have := r.un; show A.units + 3 + 16 * k + 200 < _; omega⟩
theorem Room.in1 {k : Nat} {A : Around} (r : Room (k + 1) A) : Room k A.in1 :=
  ⟨r.hd, by have := r.dp; show A.depth + 3 * k + 5 < _; omega, by have := r.un; show A.units + 1 + 16 * k + 200 < _; omega⟩
theorem make_depth {A : Around} {C : Addr} {us : List Value} {kw : List (Str × Value)} : (A.under (.builtin "type.__call__" ⟨.ref C :: us, kw⟩)).depth = A.depth + 1 := by
  first | rfl | simp [Around.under, Code.weight, Code.isCreation, Code.isGuard, Code.isCaller, Code.frames, Code.isFrame, guardIds]
theorem make_units {A : Around} {C : Addr} {us : List Value} {kw : List (Str × Value)} : (A.under (.builtin "type.__call__" ⟨.ref C :: us, kw⟩)).units = A.units + 1 := by
  first | rfl | simp [Around.under, Code.cUnits, Code.frames, Code.isFrame]
theorem Room.make {k : Nat} {A : Around} (r : Room (k + 1) A) (C : Addr) (us : List Value) (kw : List (Str × Value)) : Room k (A.under (.builtin "type.__call__" ⟨.ref C :: us, kw⟩)) :=
  ⟨r.hd, by have := r.dp; rw [make_depth]; omega, by have := r.un; rw [make_units]; omega⟩
theorem Room.depth {k : Nat} {A : Around} (r : Room k A) : A.depth < recursionLimit := by have := r.dp; omega
theorem Room.units {k : Nat} {A : Around} (r : Room k A) : A.units + 64 < cLine := by have := r.un; omega
def tNil : TA := fun _ H Q => Q [] H
def tCons (ta : TE) (tr : TA) : TA := fun σ H Q => ta σ H fun x H1 => tr σ H1 fun xs H2 => Q (x :: xs) H2
section
variable {X : Cx} {e : Expr} {es : List Expr} {te : TE} {t : TA} {pos : Pos}
theorem pa_nil : PA X [] tNil := fun _ _ _ _ H Q I h => Calls.spliced_nil ⟨[], H, I, .nil, h⟩
theorem pa_cons (ha : PE X e te) (hr : PA X es t) (hs : starEach (e :: es) X.env = (false, eval e X.env) :: starEach es X.env := by rfl) : PA X (e :: es) (tCons te t) := by
  intro pos pins s σ H Q I h
  rw [hs]
  show wpAny _ _ (spliced ((false, eval e X.env) :: backTo pos (starEach es X.env))) _ _ s
  refine Calls.spliced_cons (thn (ha pins s σ H _ I h) fun u s1 ⟨x, H1, I1, r1, q1⟩ => ?_)
  exact thn (hr pos pins s1 σ H1 _ I1 q1) fun us s2 ⟨xs, H2, I2, r2, q2⟩ => ⟨x :: xs, H2, I2, .cons r1 r2, q2⟩
def tTup (t : TA) : TE := fun σ H Q => t σ H fun xs H1 => xs.length ≤ sizeLine ∧ ∀ p, H1 p = none → Q (.ref p) (upd H1 p (.tup xs))
def tLst (t : TA) : TE := fun σ H Q => t σ H fun xs H1 => xs.length ≤ sizeLine ∧ ∀ p, H1 p = none → Q (.ref p) (upd H1 p (.lst xs))
theorem pe_tup {x1} (h : PA X es t) : PE X (.Tuple es x1 pos) (tTup t) := by
  intro pins s σ H Q I hq
  refine wpAny_Tuple_spliced (thn (h pos pins s σ H _ I hq) fun us s1 ⟨xs, H1, I1, r, z, q⟩ => ⟨by rw [← r.length]; exact z, ?_⟩)
  have hf : H1 s1.heap.objs.size = none := I1.hok.fresh (Nat.le_refl _)
  refine ⟨.ref s1.heap.objs.size, upd H1 s1.heap.objs.size (.tup xs), I1.laid (t' := s1.toks) (fun b u e => Heap.get?_push_of_some _ e) (Nat.le_refl _) ?_, rfl, q _ hf⟩
  exact ⟨z, us, r, ⟨_, Heap.get?_push_size _ rfl, rfl, _, rfl⟩⟩
theorem pe_lst (h : PA X es t) : PE X (.List es pos) (tLst t) := by
  intro pins s σ H Q I hq
  refine wpAny_List_spliced (thn (h pos pins s σ H _ I hq) fun us s1 ⟨xs, H1, I1, r, z, q⟩ => ⟨by rw [← r.length]; exact z, ?_⟩)
  have hf : H1 s1.heap.objs.size = none := I1.hok.fresh (Nat.le_refl _)
  refine ⟨.ref s1.heap.objs.size, upd H1 s1.heap.objs.size (.lst xs), I1.laid (t' := s1.toks) (fun b u e => Heap.get?_push_of_some _ e) (Nat.le_refl _) ?_, rfl, q _ hf⟩
  exact ⟨z, us, 0, r, Heap.get?_push_size _ rfl⟩
end
abbrev Sp := List V → Hp → VK → XK → Prop
abbrev CXT := List Env → Hp → Shared → XK → Value → Shared → Prop
structure Env0 (P : Program) (w : World) (K : PySem.W.Frag) (mg : Str → Option Value) (base : Heap) (A : Around) (outer : List Env) (s : Shared) (H : Hp) : Prop where
  frames : A.frames = some outer
  mod : Mod K mg base
  bs : ∀ b o, base.get? b = some o → s.heap.get? b = some o ∧ H b = none
  bsz : base.objs.size ≤ s.heap.objs.size
  funs : s.heap.FunFrames base outer
  frf : ∀ b ∈ frs outer, H b = none
  hok : HOk P w H s.heap
  bare : AllBare s.gens
def CE (outer : List Env) (P : Program) (w : World) (H : Hp) (s : Shared) (Q : VK) (u : Value) (s' : Shared) : Prop :=
  ∃ v H', s'.os = s.os ∧ AllBare s'.gens ∧ Un (frs outer) [] H H' s.heap s'.heap ∧ HOk P w H' s'.heap ∧ RelV v u ∧ Q v H'
def CR (CX : CXT) (outer : List Env) (P : Program) (w : World) (H : Hp) (s : Shared) (Q : VK) (E : XK) (r : Result) (s' : Shared) : Prop :=
  match r with
  | .ok (.ret u) => CE outer P w H s Q u s'
  | .ok _ => False
  | .error e => CX outer H s E e s'
structure FnOk (P : Program) (w : World) (K : PySem.W.Frag) (mg : Str → Option Value) (base : Heap) (CX : CXT) (k : Nat) (f : Addr) (fd : FuncData) (ps : List Str) (sp : Sp) : Prop where
  len : ∀ vs H Q E, sp vs H Q E → vs.length = ps.length
  run : ∀ (A : Around) (outer : List Env) (s : Shared) (H : Hp) (args : Args) (us : List Value) (vs : List V) (Q : VK) (E : XK), Room k A → Env0 P w K mg base A outer s H → BindsTo s fd args (ps.zip us) → Vals vs us → sp vs H Q E →
    codeAny (model P w) A (.call (.ref f) args) (CR CX outer P w H s Q E) s
theorem FnOk.mono {P : Program} {w : World} {K : PySem.W.Frag} {mg : Str → Option Value} {base : Heap} {CX : CXT} {j k : Nat} {f : Addr} {fd : FuncData} {ps : List Str} {sp : Sp} (F : FnOk P w K mg base CX j f fd ps sp) (h : j ≤ k) :
    FnOk P w K mg base CX k f fd ps sp := ⟨F.len, fun A outer s H args us vs Q E hr => F.run A outer s H args us vs Q E (hr.mono h)⟩
theorem FnOk.imp {P : Program} {w : World} {K : PySem.W.Frag} {mg : Str → Option Value} {base : Heap} {CX : CXT} {k : Nat} {f : Addr} {fd : FuncData} {ps : List Str} {sp sp' : Sp} (F : FnOk P w K mg base CX k f fd ps sp)
    (h : ∀ vs H Q E, sp' vs H Q E → sp vs H Q E) : FnOk P w K mg base CX k f fd ps sp' :=
  ⟨fun vs H Q E q => F.len vs H Q E (h _ _ _ _ q), fun A outer s H args us vs Q E hr he hb hv hs => F.run A outer s H args us vs Q E hr he hb hv (h _ _ _ _ hs)⟩
theorem Env0.make {P : Program} {w : World} {K : PySem.W.Frag} {mg : Str → Option Value} {base : Heap} {A : Around} {outer : List Env} {s : Shared} {H : Hp} (e : Env0 P w K mg base A outer s H) (C : Addr) (us : List Value) (kw : List (Str × Value)) :
    Env0 P w K mg base (A.under (.builtin "type.__call__" ⟨.ref C :: us, kw⟩)) outer s H := ⟨by first | exact e.frames | (simpa [Around.under, Code.envs, Code.isFrame, pushEnvs] using e.frames), e.mod, e.bs, e.bsz, e.funs, e.frf, e.hok, e.bare⟩
theorem Env0.in1 {P : Program} {w : World} {K : PySem.W.Frag} {mg : Str → Option Value} {base : Heap} {A : Around} {outer : List Env} {s : Shared} {H : Hp} (e : Env0 P w K mg base A outer s H) :
    Env0 P w K mg base A.in1 outer s H := ⟨e.frames, e.mod, e.bs, e.bsz, e.funs, e.frf, e.hok, e.bare⟩
section
variable {X : Cx} {pins : List (Addr × Obj)} {σ : St} {H : Hp} {s s' : Shared}
theorem Inv.env0 (I : Inv X pins σ H s) : Env0 X.prog X.w X.K X.mg X.base X.A X.stack s H :=
  ⟨I.ok.frames, I.ok.mod, I.bs, Nat.le_trans I.ok.bsz I.sz, I.stack, I.stkFree, I.hok, I.bare⟩
theorem Inv.after {Q : VK} {u : Value} (I : Inv X pins σ H s) (h : CE X.stack X.prog X.w H s Q u s') : EP X pins σ Q u s' := by
  obtain ⟨v, H', os, bare, un, hok, r, q⟩ := h
  obtain ⟨hh, g, d, t, os'⟩ := s'
  obtain rfl : os' = s.os := os
  exact ⟨v, H', I.call (h' := hh) (g' := g) (d' := d) (t' := t) (ch := []) un hok bare (fun b z => absurd z (by simp)), r, q⟩
end
def tCall (sp : Sp) (dvs : List V) (E : XK) (t : TA) : TE := fun σ H Q => t σ H fun vs H1 => sp (vs ++ dvs) H1 Q E
def tMake (C : Addr) (sp : Sp) (dvs : List V) (E : XK) (t : TA) : TE := fun σ H Q => t σ H fun vs H1 => ∀ x dx, H1 x = none → H1 dx = none → dx ≠ x →
  sp (.ref x :: (vs ++ dvs)) (upd (upd H1 dx (.own x)) x (.ins C dx [])) (fun v H2 => v = .non ∧ Q (.ref x) H2) E
def Binds (K : PySem.W.Frag) (fd : FuncData) (ps : List Str) (ds : List Value) : Prop :=
  ∀ (s : Shared) (us : List Value), K.In s.heap → (us ++ ds).length = ps.length → BindsTo s fd ⟨us, []⟩ (ps.zip (us ++ ds))
theorem Binds.all {K : PySem.W.Frag} {fd : FuncData} {ps : List Str} (h : ∀ us : List Value, us.length = ps.length → bindArgs fd ⟨us, []⟩ = pure (ps.zip us)) : Binds K fd ps [] := fun s us _ hl => by
  rw [List.append_nil] at hl ⊢
  exact .of_eq (h us hl)
def Passes (CX : CXT) (X : Cx) (E : XK) : Prop := ∀ (pins : List (Addr × Obj)) (σ : St) (H : Hp) (s : Shared) (e : Value) (s' : Shared), Inv X pins σ H s → CX X.stack H s E e s' → X.xe e s'
section
variable {X : Cx} {CX : CXT} {k : Nat} {f C : Addr} {fd : FuncData} {ps : List Str} {sp : Sp} {dvs : List V} {ds : List Value} {E : XK} {x m : Str} {p pos apos : Pos} {e o : Expr} {es : List Expr} {ta : TE} {t : TA}
theorem run_fn {pins : List (Addr × Obj)} {σ : St} {H : Hp} {s : Shared} {Q : VK} {us : List Value} {vs : List V} (F : FnOk X.prog X.w X.K X.mg X.base CX k f fd ps sp) (hr : Room k X.A) (hb : Binds X.K fd ps ds) (hd : Vals dvs ds) (hx : Passes CX X E)
    (I : Inv X pins σ H s) (r : Vals vs us) (h : sp (vs ++ dvs) H Q E) : wpAny (model X.prog X.w) X.A (call (.ref f) us) (EP X pins σ Q) X.xe s := by
  have r2 : Vals (vs ++ dvs) (us ++ ds) := r.append hd
  have hl : (us ++ ds).length = ps.length := by rw [← r2.length]; exact F.len _ _ _ _ h
  refine wpAny_call (codeAny_mono (F.run X.A X.stack s H ⟨us, []⟩ (us ++ ds) (vs ++ dvs) Q E hr I.env0 (hb s us I.kIn hl) r2 h) fun r s' hq => ?_)
  cases r with
  | error e => exact hx pins σ H s e s' I hq
  | ok fl =>
    cases fl with
    | ret u => exact I.after hq
    | next => exact False.elim hq
    | brk => exact False.elim hq
    | cont => exact False.elim hq
theorem pe_call (F : FnOk X.prog X.w X.K X.mg X.base CX k f fd ps sp) (hr : Room k X.A) (hg : Gl X x) (hm : X.mg x = some (.ref f)) (hk : PySem.W.keepIn X.K (.ref f) = true) (hb : Binds X.K fd ps ds) (hd : Vals dvs ds) (hx : Passes CX X E)
    (ha : PA X (e :: es) t) (hdb : (x == ("__debug__" : Str)) = false := by decide) (he : starEach (e :: es) X.env = (false, eval e X.env) :: starEach es X.env := by rfl) (hpl : (backTo pos (starEach es X.env)).any (·.1) = false := by rfl) :
    PE X (.Call (.Name x p) (e :: es) [] pos) (tCall sp dvs E t) := by
  intro pins s σ H Q I h
  refine wpAny_Call_Name_kw (ld_glob I hg hm ?_ hdb)
  refine PySem.W.callWith_K (h₀ := X.base) I.ok.mod.kin hk (thn (ha pos pins s σ H _ I h) fun us s1 ⟨vs, H1, I1, r, q⟩ => ⟨I1.kIn, ?_⟩) he hpl
  exact run_fn F hr hb hd hx I1 r q
structure Mk (K : PySem.W.Frag) (C f : Addr) : Prop where
  makes : PySem.W.makesIn K C = true
  init : PySem.W.findIn K (.ref C) "__init__" = some (some (.ref f))
  fn : PySem.W.isFn K (.ref f) = true
  kp : PySem.W.keepIn K (.ref C) = true
theorem run_make {pins : List (Addr × Obj)} {σ : St} {H : Hp} {s : Shared} {Q : VK} {us : List Value} {vs : List V} (M : Mk X.K C f) (F : FnOk X.prog X.w X.K X.mg X.base CX k f fd ps sp) (hr : Room (k + 1) X.A) (hb : Binds X.K fd ps ds) (hd : Vals dvs ds)
    (hx : Passes CX X E) (I : Inv X pins σ H s) (r : Vals vs us)
    (h : ∀ x dx, H x = none → H dx = none → dx ≠ x → sp (.ref x :: (vs ++ dvs)) (upd (upd H dx (.own x)) x (.ins C dx [])) (fun v H2 => v = .non ∧ Q (.ref x) H2) E) :
    wpAny (model X.prog X.w) X.A (call (.ref C) us) (EP X pins σ Q) X.xe s := by
  have hq := h (s.heap.objs.size + 1) s.heap.objs.size (I.hok.fresh (Nat.le_succ _)) (I.hok.fresh (Nat.le_refl _)) (Nat.ne_of_lt (Nat.lt_succ_self _))
  have I2 := Inv.made (C := C) I
  have r2 : Vals (V.ref (s.heap.objs.size + 1) :: (vs ++ dvs)) (Value.ref (s.heap.objs.size + 1) :: (us ++ ds)) := .cons rfl (r.append hd)
  have hl : (Value.ref (s.heap.objs.size + 1) :: us ++ ds).length = ps.length := by
    have e := r2.length
    rw [F.len _ _ _ _ hq] at e
    exact e.symm
  refine wpAny_call (make_map (f := f) I.kIn M.makes M.init (beq_iff_eq.mp M.fn) (codeAny_mono (F.run _ X.stack _ _ ⟨Value.ref (s.heap.objs.size + 1) :: us, []⟩ (Value.ref (s.heap.objs.size + 1) :: (us ++ ds)) _ _ E (hr.make C us [])
    (I2.env0.make C us []) (hb _ (Value.ref (s.heap.objs.size + 1) :: us) I2.kIn hl) r2 hq) fun r s' hq' => ?_))
  cases r with
  | error e => exact hx pins σ _ _ e s' I2 hq'
  | ok fl =>
    cases fl with
    | ret u =>
      obtain ⟨v, H', I3, rv, ev, q3⟩ := I2.after hq'
      subst ev
      exact ⟨rv, ⟨V.ref (s.heap.objs.size + 1), H', I3, rfl, q3⟩⟩
    | next => exact False.elim hq'
    | brk => exact False.elim hq'
    | cont => exact False.elim hq'
theorem pe_make (M : Mk X.K C f) (F : FnOk X.prog X.w X.K X.mg X.base CX k f fd ps sp) (hr : Room (k + 1) X.A) (hg : Gl X x) (hm : X.mg x = some (.ref C)) (hb : Binds X.K fd ps ds) (hd : Vals dvs ds) (hx : Passes CX X E)
    (ha : PA X (e :: es) t) (hdb : (x == ("__debug__" : Str)) = false := by decide) (he : starEach (e :: es) X.env = (false, eval e X.env) :: starEach es X.env := by rfl) (hpl : (backTo pos (starEach es X.env)).any (·.1) = false := by rfl) :
    PE X (.Call (.Name x p) (e :: es) [] pos) (tMake C sp dvs E t) := by
  intro pins s σ H Q I h
  refine wpAny_Call_Name_kw (ld_glob I hg hm ?_ hdb)
  refine PySem.W.callWith_K (h₀ := X.base) I.ok.mod.kin M.kp (thn (ha pos pins s σ H _ I h) fun us s1 ⟨vs, H1, I1, r, q⟩ => ⟨I1.kIn, ?_⟩) he hpl
  exact run_make M F hr hb hd hx I1 r q
end
section
variable {X : Cx} {CX : CXT} {k : Nat} {f C : Addr} {fd : FuncData} {ps ks : List Str} {sp : Sp} {E : XK} {x m : Str} {p pos apos kpos : Pos} {e o : Expr} {es : List Expr} {kws : List Keyword} {te ta : TE} {t tk : TA} {nm : Option Str}
variable {g : List Value → List Value → List Value} {gV : List V → List V → List V}
end
structure FnScope (N P : List Str) (sc : Scope) : Prop where
  kind : sc.kind = .function
  co : sc.isCoroutine = false
  gen : sc.isGenerator = false
  nd : N.Nodup
  pre : N.take P.length = P
  par : ∀ x ∈ P, sc.names.lookup x = some .local ∨ sc.names.lookup x = some .cell
  nofree : ∀ y ∈ sc.names, y.2 ≠ .free
theorem bindL_out {kindOf : Str → Option NameKind} {x : Str} : ∀ {binds : List (Str × Value)} {m : Str → Option Value}, (∀ v, (x, v) ∉ binds) → bindL kindOf binds m x = m x
  | [], _, _ => rfl
  | (n, v) :: r, m, h => by
    unfold bindL
    rw [bindL_out fun w hw => h w (List.mem_cons_of_mem _ hw)]
    split
    · have : x ≠ n := by rintro rfl; exact h v List.mem_cons_self
      simp [this]
    · rfl
theorem bindC_out {kindOf : Str → Option NameKind} {x : Str} : ∀ {binds : List (Str × Value)} {m : Str → Option Value}, (∀ v, (x, v) ∉ binds) → bindC kindOf binds m x = m x
  | [], _, _ => rfl
  | (n, v) :: r, m, h => by
    unfold bindC
    rw [bindC_out fun w hw => h w (List.mem_cons_of_mem _ hw)]
    split
    · rfl
    · have : x ≠ n := by rintro rfl; exact h v List.mem_cons_self
      simp [this]
theorem bindL_get {kindOf : Str → Option NameKind} {x : Str} {v : Value} : ∀ {P : List Str} {vs : List Value} {i : Nat} {m : Str → Option Value}, P.Nodup → P[i]? = some x → vs[i]? = some v → kindOf x = some .local →
    bindL kindOf (P.zip vs) m x = some v
  | [], _, _, _, _, h, _, _ => by simp at h
  | _ :: _, [], _, _, _, _, h, _ => by simp at h
  | p :: P, w :: vs, 0, m, nd, h1, h2, hk => by
    simp at h1 h2; subst h1; subst h2
    show bindL kindOf ((p, w) :: P.zip vs) m p = _
    unfold bindL
    rw [bindL_out fun v hv => (List.nodup_cons.mp nd).1 (List.of_mem_zip hv).1, if_pos hk]
    simp
  | p :: P, w :: vs, i + 1, m, nd, h1, h2, hk => by
    show bindL kindOf ((p, w) :: P.zip vs) m x = _
    unfold bindL
    exact bindL_get (i := i) (List.nodup_cons.mp nd).2 (by simpa using h1) (by simpa using h2) hk
theorem bindC_get {kindOf : Str → Option NameKind} {x : Str} {v : Value} : ∀ {P : List Str} {vs : List Value} {i : Nat} {m : Str → Option Value}, P.Nodup → P[i]? = some x → vs[i]? = some v → kindOf x ≠ some .local →
    bindC kindOf (P.zip vs) m x = some v
  | [], _, _, _, _, h, _, _ => by simp at h
  | _ :: _, [], _, _, _, _, h, _ => by simp at h
  | p :: P, w :: vs, 0, m, nd, h1, h2, hk => by
    simp at h1 h2; subst h1; subst h2
    show bindC kindOf ((p, w) :: P.zip vs) m p = _
    unfold bindC
    rw [bindC_out fun v hv => (List.nodup_cons.mp nd).1 (List.of_mem_zip hv).1, if_neg hk]
    simp
  | p :: P, w :: vs, i + 1, m, nd, h1, h2, hk => by
    show bindC kindOf ((p, w) :: P.zip vs) m x = _
    unfold bindC
    exact bindC_get (i := i) (List.nodup_cons.mp nd).2 (by simpa using h1) (by simpa using h2) hk
def start (N : List Str) (vs : List V) : St := vs.map some ++ List.replicate (N.length - vs.length) none
def cxOf (CX : CXT) (P : Program) (w : World) (K : PySem.W.Frag) (mg : Str → Option Value) (base : Heap) (N : List Str) (qual : Str) (scope : Scope) (f : Addr) (cd : Value) (A : Around) (outer : List Env) (s : Shared) (H : Hp) (E : XK) : Cx where
  prog := P
  w := w
  K := K
  mg := mg
  base := base
  A := A.deeper (envOfC qual scope s.heap.objs.size f cd)
  N := N
  s₀ := s
  H₀ := H
  env := envOfC qual scope s.heap.objs.size f cd
  outer := outer
  stack := envOfC qual scope s.heap.objs.size f cd :: outer
  ex := []
  calm := true
  fn := fun _ => true
  pn := []
  xe := fun e s' => wpAny (model P w) (A.deeper (envOfC qual scope s.heap.objs.size f cd)) (leaving (envOfC qual scope s.heap.objs.size f cd) e) (fun _ s'' => CX outer H s E e s'') (fun e' s'' => CX outer H s E e' s'') s'
theorem cell_has {sc : Scope} {n : Nat} {x : Str} (h : sc.names.lookup x = some .cell) : ∃ c, (cellsFrom n sc.names []).lookup x = some c := by
  have q := PySem.W.cellsFrom_some sc.names n [] (.inl h)
  exact Option.isSome_iff_exists.mp q
theorem inv_start {CX : CXT} {P : Program} {w : World} {K : PySem.W.Frag} {mg : Str → Option Value} {base : Heap} {N ps : List Str} {qual : Str} {scope : Scope} {f : Addr} {cd : Value} {A : Around} {outer : List Env} {s s1 : Shared} {H : Hp} {E : XK} {us : List Value} {vs : List V}
    (S : FnScope N ps scope) (hd : A.handled = none) (e0 : Env0 P w K mg base A outer s H) (hl : vs.length = ps.length) (r : Vals vs us)
    (x : InCallC s s.heap.objs.size (bindL (envOfC qual scope s.heap.objs.size f cd).kindOf (ps.zip us) fun _ => none) (cellsFrom (s.heap.objs.size + 1) scope.names []) (bindC (envOfC qual scope s.heap.objs.size f cd).kindOf (ps.zip us) fun _ => none) s1) :
    Inv (cxOf CX P w K mg base N qual scope f cd A outer s H E) [] (start N vs) H s1 := by
  have hpl : ps.length ≤ N.length := by have := congrArg List.length S.pre; rw [List.length_take] at this; omega
  obtain ⟨h1, tk, rfl, hk⟩ := x.done
  have noA : ∀ b : Addr, b ∉ (cxOf CX P w K mg base N qual scope f cd A outer s H E).ex := fun b z => absurd (show b ∈ ([] : List Addr) from z) (by simp)
  refine ⟨⟨e0.mod, S.kind, rfl, rfl, Nat.le_refl _, fun y z c h1 h2 => ?_, fun y hy => ?_, fun y c _ h => ?_, fun _ => hd, Around.frames_deeper e0.frames, .inr ⟨rfl, rfl⟩, fun b z => absurd z (noA b), e0.bs, e0.bsz, fun b _ _ => noA b, fun b z => absurd z (noA b), e0.funs, e0.frf⟩,
    rfl, e0.bare, Un.kept hk, ⟨_, x.toInCall.ns, fun i y v h1 h2 h3 => ?_⟩, fun y c h => ⟨_, x.cell y c h⟩, e0.hok.fresh (Nat.le_refl _), fun y c h => ?_, fun p hp => absurd (show p ∈ ([] : List (Addr × Obj)) from hp) (by simp), e0.hok.kept hk, ?_⟩
  · exact name_of_addr x.apart (PySem.mem_of_lookup h1) (PySem.mem_of_lookup h2)
  · have hy : scope.names.lookup y = some .cell ∨ scope.names.lookup y = some .free := hy
    rcases hy with hy | hy
    · exact cell_has hy
    · exact absurd rfl (S.nofree _ (PySem.mem_of_lookup hy))
  · exact Nat.le_of_lt (x.above y c (PySem.mem_of_lookup h))
  · have hi : i < vs.length := by
      unfold start at h2
      by_cases hi : i < vs.length
      · exact hi
      · rw [List.getElem?_append_right (by simpa using hi)] at h2
        rw [List.getElem?_replicate] at h2
        split at h2 <;> cases h2
    have ha : vs[i]? = some v := by
      unfold start at h2
      rw [List.getElem?_append_left (by simpa using hi), List.getElem?_map] at h2
      cases e : vs[i]? with
      | none => rw [e] at h2; cases h2
      | some a => rw [e] at h2; cases h2; rfl
    obtain ⟨u, hu, rv⟩ := r.get ha
    have hp : ps[i]? = some y := by
      rw [← S.pre, List.getElem?_take_of_lt (by omega)]; exact h1
    have ndP : ps.Nodup := by rw [← S.pre]; exact S.nd.sublist (List.take_sublist _ _)
    refine ⟨u, rv, ?_⟩
    rcases S.par y (List.mem_of_getElem? hp) with k | k
    · exact .inl ⟨k, bindL_get ndP hp hu k⟩
    · obtain ⟨c, e⟩ := cell_has (n := s.heap.objs.size + 1) k
      refine .inr ⟨.inl k, c, e, ?_⟩
      have q := x.cell y c e
      rw [bindC_get ndP hp hu (by show scope.names.lookup y ≠ _; rw [k]; decide)] at q
      exact q
  · exact e0.hok.fresh (Nat.le_of_lt (x.above y c (PySem.mem_of_lookup h)))
  · unfold start
    show _ = N.length
    rw [List.length_append, List.length_map, List.length_replicate]
    omega
theorem fn_of {CX : CXT} {P : Program} {w : World} {K : PySem.W.Frag} {mg : Str → Option Value} {base : Heap} {k : Nat} {f : Addr} {name qual : Str} {params : Arguments} {body : List Stmt} {scope : Scope} {dV kV doc pm cdv ct oc : Value} {an od : Option Addr}
    {osl : Array (Option Value)} {N ps : List Str} {sp : Sp} (lk : K.lookup f = some ⟨oc, od, .func (PySem.W.fnOf name qual params body scope dV kV doc pm an cdv ct), osl⟩) (hcd : PySem.W.codeIn K cdv qual = true) (S : FnScope N ps scope)
    (len : ∀ vs H Q E, sp vs H Q E → vs.length = ps.length)
    (hbody : ∀ (A : Around) (outer : List Env) (s : Shared) (H : Hp) (vs : List V) (Q : VK) (E : XK), Room k (A.deeper (envOfC qual scope s.heap.objs.size f cdv)) → sp vs H Q E →
      ∃ t, PSs (cxOf CX P w K mg base N qual scope f cdv A outer s H E) body t ∧ t { nx := fun _ H' => Q .non H', rt := Q } (start N vs) H) :
    FnOk P w K mg base CX (k + 1) f (PySem.W.fnOf name qual params body scope dV kV doc pm an cdv ct) ps sp := by
  refine ⟨len, fun A outer s H args us vs Q E hr e0 hb r hsp => ?_⟩
  have hl := len _ _ _ _ hsp
  have KX : K.In s.heap := e0.mod.kin.keeps fun b o e => (e0.bs b o e).1
  have lim : s.heap.NoLimit := e0.mod.nolimit.keeps fun b o e => (e0.bs b o e).1
  have hkind : ∀ y ∈ ps.zip us, scope.names.lookup y.1 = some .local ∨ (scope.names.lookup y.1 = some .cell ∧ ((cellsFrom (s.heap.objs.size + 1) scope.names []).lookup y.1).isSome = true) := fun ⟨n, v⟩ hy => by
    rcases S.par n (List.of_mem_zip hy).1 with q | q
    · exact .inl q
    · exact .inr ⟨q, PySem.W.cellsFrom_some _ _ _ (.inl q)⟩
  refine codeAny_call_function hr.depth (KX _ _ lk) rfl S.co S.gen rfl (PySem.W.codeRec_of KX hcd) (hb _ _ _ _ ?_)
  refine wpAny_newFunctionEnv_cells S.kind hkind fun env he s1 x => ?_
  subst he
  refine ⟨lim.keeps x.toInCall.keep, codeAny_func ?_⟩
  obtain ⟨t, ht, hq⟩ := hbody A outer s H vs Q E (hr.deeper _) hsp
  have I : Inv (cxOf CX P w K mg base N qual scope f cdv A outer s H E) [] (start N vs) H s1 := inv_start S hr.hd e0 hl r x
  refine wpAny_mono (ht [] s1 (start N vs) H _ I hq) (fun fl s' hs => ?_) fun e s' hs => hs
  have fin : ∀ {σ' : St} {H' : Hp} {v : V} {u : Value}, Inv (cxOf CX P w K mg base N qual scope f cdv A outer s H E) [] σ' H' s' → RelV v u → Q v H' → CE outer P w H s Q u s' :=
    fun {σ' H' v u} J rv q => ⟨v, H', J.os, J.bare, J.base, J.hok, rv, q⟩
  cases fl with
  | ret u =>
    obtain ⟨v, σ', H', J, rv, q⟩ := hs
    exact fin J rv q
  | next =>
    obtain ⟨σ', H', J, q⟩ := hs
    exact fin (v := V.non) (u := Value.none) J rfl q
  | brk =>
    obtain ⟨_, _, _, q⟩ := hs
    exact False.elim q
  | cont =>
    obtain ⟨_, _, _, q⟩ := hs
    exact False.elim q
end L2
namespace L2
open PySem PySem.Spec PyProof.Rows
section
variable {X : Cx} {x : Str} {p pos : Pos} {e : Expr} {es : List Expr} {t : TA} {id T : String} {r : List V → Hp → VK → Prop}
def tCB (r : List V → Hp → VK → Prop) (t : TA) : TE := fun σ H Q => t σ H fun vs H1 => r vs H1 Q
theorem pe_callB (hc : CallR X (.builtin id) r) (hg : Gl X x) (hm : X.mg x = none) (hv : bootBuiltins x = some (.builtin id)) (ha : PA X (e :: es) t) (hn : x ≠ "__name__" := by decide) (hdb : (x == ("__debug__" : Str)) = false := by decide)
    (he : starEach (e :: es) X.env = (false, eval e X.env) :: starEach es X.env := by rfl) (hpl : (backTo pos (starEach es X.env)).any (·.1) = false := by rfl) : PE X (.Call (.Name x p) (e :: es) [] pos) (tCB r t) := by
  intro pins s σ H Q I h
  refine wpAny_Call_Name_kw (ld_blt I hg hm hv ?_ hn hdb)
  exact PyProof.Rows.callWith_builtin1 (thn (ha pos pins s σ H _ I h) fun us s1 ⟨vs, H1, I1, r1, q1⟩ => hc pins s1 σ H1 vs us Q I1 r1 q1) he hpl
theorem pe_callTy (hc : CallR X (.type T) r) (hg : Gl X x) (hm : X.mg x = none) (hv : bootBuiltins x = some (.type T)) (ha : PA X (e :: es) t) (hn : x ≠ "__name__" := by decide) (hdb : (x == ("__debug__" : Str)) = false := by decide)
    (he : starEach (e :: es) X.env = (false, eval e X.env) :: starEach es X.env := by rfl) (hpl : (backTo pos (starEach es X.env)).any (·.1) = false := by rfl) : PE X (.Call (.Name x p) (e :: es) [] pos) (tCB r t) := by
  intro pins s σ H Q I h
  refine wpAny_Call_Name_kw (ld_blt I hg hm hv ?_ hn hdb)
  exact PyProof.Rows.callWith_type1 (thn (ha pos pins s σ H _ I h) fun us s1 ⟨vs, H1, I1, r1, q1⟩ => hc pins s1 σ H1 vs us Q I1 r1 q1) he hpl
end
end L2
namespace HT
open PySem PyProof.Rows
def lexLt : List Int → List Int → Bool
  | [], [] => false
  | [], _ :: _ => true
  | _ :: _, [] => false
  | x :: xs, y :: ys => if x = y then lexLt xs ys else decide (x < y)
theorem lexLt_cons (x y : Int) (xs ys : List Int) : lexLt (x :: xs) (y :: ys) = if x = y then lexLt xs ys else decide (x < y) := rfl
theorem eqAt_int (A : Around) (s : Shared) (a : Int) (t : Tok) (c : Int) (u : Tok) : ∃ e, SeqAt.EqAt A s (.int a t) (.int c u) e ∧ (e = true ↔ a = c) :=
  ⟨(a == c), SeqAt.EqAt.int_int a t c u, by simp⟩
theorem rcLt_int (A : Around) (s : Shared) (a : Int) (t : Tok) (c : Int) (u : Tok) (prog : Program) (w : World) (E : Value → Shared → Prop) (Q : Value → Shared → Prop) (h : Q (.bool (decide (a < c))) s) :
    wpAny (model prog w) A (richCompare .Lt (.int a t) (.int c u)) Q E s :=
  (PyProof.Rows.lt_int h : wpAny (model prog w) A (compareOp .Lt (.int a t) (.int c u)) Q E s)
section
open PySem.SeqAt
open PySem.AutoSeq1 (wpAny_loadPart')
open PySem.MeetsSeq PySem.MeetsSeq2 PySem.MeetsSeq3
end
section
variable {prog : Program} {w : World} {A : Around} {E : Value → Shared → Prop} {s : Shared}
def sIx (n d : Nat) : Option Int → Nat
  | none => d
  | some v => if v < 0 then (v + (n : Int)).toNat else min v.toNat n
theorem sIx_none (n d : Nat) : sIx n d none = d := rfl
theorem sIx_nat (n d k : Nat) : sIx n d (some (k : Int)) = min k n := by
  show (if (k : Int) < 0 then ((k : Int) + (n : Int)).toNat else min (k : Int).toNat n) = min k n
  rw [if_neg (by omega), Int.toNat_natCast]
theorem sIx_le (n d : Nat) (hd : d ≤ n) (o : Option Int) : sIx n d o ≤ n := by
  cases o with
  | none => exact hd
  | some v =>
    show (if v < 0 then (v + (n : Int)).toNat else min v.toNat n) ≤ n
    by_cases hv : v < 0
    · rw [if_pos hv]; omega
    · rw [if_neg hv]; exact Nat.min_le_right _ _
theorem clip_eq (v : Int) (n d : Nat) : (if v < 0 then max (v + (n : Int)) 0 else min v (n : Int)) = ((sIx n d (some v) : Nat) : Int) := by
  show (if v < 0 then max (v + (n : Int)) 0 else min v (n : Int)) = (((if v < 0 then (v + (n : Int)).toNat else min v.toNat n) : Nat) : Int)
  by_cases hv : v < 0
  · simp only [if_pos hv]; omega
  · simp only [if_neg hv]; omega
theorem adjust_gen (lo hi : Option Int) (n : Nat) : Builtin.Slice.sliceAdjust lo hi 1 (n : Int) = (((sIx n 0 lo : Nat) : Int), ((sIx n n hi : Nat) : Int)) := by
  have h1 : ¬ ((1 : Int) < 0) := by omega
  unfold Builtin.Slice.sliceAdjust
  simp only [h1, if_false]
  refine Prod.ext ?_ ?_
  · cases lo with
    | none => rfl
    | some v => exact clip_eq v n 0
  · cases hi with
    | none => rfl
    | some v => exact clip_eq v n n
theorem places_gen (i j : Nat) : Builtin.Slice.slicePlaces (i : Int) (j : Int) 1 = j - i := by
  unfold Builtin.Slice.slicePlaces
  have h1 : (1 : Int) > 0 := by omega
  simp only [h1, if_true, Int.ediv_one]
  split <;> omega
theorem slicePart_ {v : Value} {o : Option Int} {Q : Option Int → Shared → Prop} (p : IsPart v o) (h : Q o s) : wpAny (model prog w) A (Builtin.Slice.slicePartIndex v) Q E s := by
  cases p with
  | none => exact slicePart_none h
  | int i t => exact slicePart_int h
theorem sliceApplied_gen {sl : Addr} {vl vu : Value} {lo hi : Option Int} {n : Nat} {Q : Int × Int × Nat → Shared → Prop} (hs : s.heap.IsSliceOf sl vl vu .none) (pl : IsPart vl lo) (pu : IsPart vu hi)
    (h : Q (((sIx n 0 lo : Nat) : Int), 1, sIx n n hi - sIx n 0 lo) s) : wpAny (model prog w) A (Builtin.Slice.sliceApplied (.ref sl) (pure (n : Int))) Q E s := by
  obtain ⟨os, hos, hcs, hds⟩ := id hs
  unfold Builtin.Slice.sliceApplied Builtin.Slice.sliceFields
  refine wpAny_bind (wpAny_bind (wpAny_field hos hds (x := vl) rfl (wpAny_bind (wpAny_field hos hds (x := vu) rfl (wpAny_bind (wpAny_field hos hds (x := .none) rfl (wpAny_pure ?_)))))))
  refine wpAny_bind (slicePart_none ?_)
  show wpAny _ _ (if ((1 : Int) == 0) = true then _ else _) _ _ s
  rw [if_neg (by decide)]
  refine wpAny_bind (slicePart_ pl (wpAny_bind (slicePart_ pu (wpAny_bind (wpAny_pure ?_)))))
  show wpAny _ _ (match Builtin.Slice.sliceAdjust lo hi 1 (n : Int) with | (lo, hi) => pure (lo, (1 : Int), Builtin.Slice.slicePlaces lo hi 1)) _ _ s
  rw [adjust_gen lo hi n]
  show wpAny _ _ (pure (((sIx n 0 lo : Nat) : Int), (1 : Int), Builtin.Slice.slicePlaces ((sIx n 0 lo : Nat) : Int) ((sIx n n hi : Nat) : Int) 1)) _ _ s
  rw [places_gen]
  exact wpAny_pure h
theorem pick_gen (xs : Array Value) (i k : Nat) : ((List.range k).filterMap fun (m : Nat) => xs[((i : Int) + (m : Int) * 1).toNat]?).toArray = ((xs.toList.drop i).take k).toArray := by
  have e : (fun (m : Nat) => xs[((i : Int) + (m : Int) * 1).toNat]?) = fun m => xs[i + m]? := by
    funext m
    have : ((i : Int) + (m : Int) * 1).toNat = i + m := by omega
    rw [this]
  rw [e]
  have := pick_run xs i k
  rw [List.filterMap_map] at this
  have e2 : ((fun x => xs[x]?) ∘ fun x => i + x) = fun m => xs[i + m]? := rfl
  rw [e2] at this
  rw [this]
theorem getItem_tuple_cut {t sl : Addr} {items : Array Value} {vl vu : Value} {lo hi : Option Int} {Q : Value → Shared → Prop} (ht : IsTup s.heap t items) (hs : s.heap.IsSliceOf sl vl vu .none) (pl : IsPart vl lo) (pu : IsPart vu hi)
    (hw : ¬ (sIx items.size 0 lo = 0 ∧ sIx items.size items.size hi = items.size))
    (h : Q (.ref s.heap.objs.size) { s with heap := s.heap.push { cls := .type "tuple", data := .seq ((items.toList.drop (sIx items.size 0 lo)).take (sIx items.size items.size hi - sIx items.size 0 lo)).toArray } })
    (hsz : items.size ≤ sizeLine) : wpAny (model prog w) A (getItem (.ref t) (.ref sl)) Q E s := by
  have htake : sizeOk (.seq ((items.toList.drop (sIx items.size 0 lo)).take (sIx items.size items.size hi - sIx items.size 0 lo)).toArray) := by
    show ((items.toList.drop (sIx items.size 0 lo)).take (sIx items.size items.size hi - sIx items.size 0 lo)).toArray.size ≤ sizeLine
    rw [List.size_toArray, List.length_take, List.length_drop, Array.length_toList]
    omega
  have hj : sIx items.size items.size hi ≤ items.size := sIx_le _ _ (Nat.le_refl _) hi
  obtain ⟨os, hos, hcs, hds⟩ := id hs
  have hTs : s.TypeIs (.ref sl) "slice" := ⟨os, hos, hcs⟩
  unfold getItem
  try with_reducible refine wpAny_holding ?_
  first | refine wpAny_bind (wpAny_pure ?_) | skip
  refine wpAny_bind (wpAny_sequenceKey ht.typeIs (by decide) ?_)
  refine wpAny_bind (wpAny_callSpecial?_slot (name := Str.ofString "__getitem__") ht.typeIs PyProof.Rows.slot_tuple_getitem
    (wpAny_call_entry PyProof.Rows.slot_tuple_getitem ht.typeIs entry_tuple_getitem ?_ (args_tuple_getitem _ _)))
  show wpAny _ _ (Builtin.Tuple.tupleItemsOf (.ref t) >>= _) _ _ s
  refine wpAny_bind (tupleItemsOf_ ht ?_)
  refine wpAny_bind (wpAny_typeOf hTs ?_)
  rw [if_pos (by decide)]
  refine wpAny_bind (sliceApplied_gen hs pl pu ?_)
  have hno : ¬ ((((sIx items.size 0 lo : Nat) : Int) == 0 && (1 : Int) == 1 && (sIx items.size items.size hi - sIx items.size 0 lo) == items.size) = true) := by
    intro q
    rw [Bool.and_eq_true, Bool.and_eq_true] at q
    have q1 : ((sIx items.size 0 lo : Nat) : Int) = 0 := eq_of_beq q.1.1
    have q2 : sIx items.size items.size hi - sIx items.size 0 lo = items.size := eq_of_beq q.2
    exact hw ⟨by omega, by omega⟩
  show wpAny _ _ (if (((sIx items.size 0 lo : Nat) : Int) == 0 && (1 : Int) == 1 && (sIx items.size items.size hi - sIx items.size 0 lo) == items.size) = true then _ else _) _ _ s
  rw [if_neg hno, pick_gen]
  first
    | exact wpAny_bind (m := Builtin.Tuple.tupleExact _) (wpAny_newObj_type (wpAny_pure ⟨_, rfl, wpAny_pure h⟩) htake)
    | exact wpAny_bind (m := Builtin.Tuple.tupleExact _) (wpAny_newObj_type (wpAny_bind (wpAny_pure (wpAny_pure ⟨_, rfl, wpAny_pure h⟩))) htake)
    | exact wpAny_bind (wpAny_bind (m := Builtin.Tuple.tupleExact _) (wpAny_newObj_type (wpAny_pure (wpAny_pure ⟨_, rfl, wpAny_pure h⟩)) htake))
    | exact wpAny_bind (wpAny_bind (m := Builtin.Tuple.tupleExact _) (wpAny_newObj_type (wpAny_pure ⟨_, rfl, wpAny_pure h⟩) htake))
end
end HT
namespace L2
open PySem PySem.Spec PyProof.Rows
abbrev TO := St → Hp → (Option Int → Hp → Prop) → Prop
def PO (X : Cx) (e : Option Expr) (t : TO) : Prop :=
  ∀ (pins : List (Addr × Obj)) (s : Shared) (σ : St) (H : Hp) (Q : Option Int → Hp → Prop), Inv X pins σ H s → t σ H Q →
    wpAny (model X.prog X.w) X.A (evalPart e X.env) (fun u s' => ∃ o H', Inv X pins σ H' s' ∧ IsPart u o ∧ Q o H') X.xe s
def tNoPart : TO := fun _ H Q => Q none H
def tPart (t : TE) : TO := fun σ H Q => t σ H fun x H1 => ∃ i, x = .int i ∧ Q (some i) H1
theorem intsAre_of {ns : List Int} : ∀ {us : List Value}, Vals (ns.map V.int) us → IntsAre us ns := by
  induction ns with
  | nil => intro us r; rw [List.map_nil] at r; cases r; exact .nil
  | cons n ns ih =>
    intro us r
    rw [List.map_cons] at r
    cases r with
    | cons r1 r2 =>
      obtain ⟨t, e⟩ := r1
      subst e
      exact .cons n t (ih r2)
section
variable {X : Cx} {e : Expr} {te : TE} {lo hi : Option Expr} {tl th : TO} {pos p2 : Pos}
theorem po_none : PO X none tNoPart := by
  intro pins s σ H Q I h
  rw [evalPart_none]
  exact wpAny_pure ⟨none, H, I, .none, h⟩
theorem po_some (h : PE X e te) : PO X (some e) (tPart te) := by
  intro pins s σ H Q I hw
  rw [evalPart_some]
  refine thn (h pins s σ H _ I hw) fun u s1 ⟨x, H1, I1, r1, q1⟩ => ?_
  obtain ⟨i, rfl, q⟩ := q1
  obtain ⟨t, rfl⟩ := r1
  exact ⟨some i, H1, I1, .int i t, q⟩
def SlR (X : Cx) (r : V → Option Int → Option Int → Hp → VK → Prop) : Prop :=
  ∀ (pins : List (Addr × Obj)) (s : Shared) (σ : St) (H : Hp) (x : V) (v vl vu : Value) (lo hi : Option Int) (sl : Addr) (Q : VK), Inv X pins σ H s → RelV x v → s.heap.IsSliceOf sl vl vu .none → IsPart vl lo → IsPart vu hi → r x lo hi H Q →
    ∃ T id, typeLookup (.type T) "__getitem__" = pure (some (.builtin id)) ∧ s.TypeIs v T ∧ wpAny (model X.prog X.w) X.A (getItem v (.ref sl)) (EP X pins σ Q) X.xe s
theorem SlR.or {r r' : V → Option Int → Option Int → Hp → VK → Prop} (h : SlR X r) (h' : SlR X r') : SlR X (fun x lo hi H Q => r x lo hi H Q ∨ r' x lo hi H Q) := by
  intro pins s σ H x v vl vu lo hi sl Q I rx hs pl pu q
  rcases q with q | q
  · exact h pins s σ H x v vl vu lo hi sl Q I rx hs pl pu q
  · exact h' pins s σ H x v vl vu lo hi sl Q I rx hs pl pu q
def tSl (r : V → Option Int → Option Int → Hp → VK → Prop) (te : TE) (tl th : TO) : TE := fun σ H Q => te σ H fun x H1 => tl σ H1 fun l H2 => th σ H2 fun u H3 => r x l u H3 Q
theorem pe_slice {r : V → Option Int → Option Int → Hp → VK → Prop} (hr : SlR X r) (he : PE X e te) (hl : PO X lo tl) (hu : PO X hi th) : PE X (.Subscript e (.Slice lo hi none p2) pos) (tSl r te tl th) := by
  intro pins s σ H Q I h
  refine Subscript_ (thn (he pins s σ H _ I h) fun v s1 ⟨x, H1, I1, r1, q1⟩ => ?_)
  refine wpAny_Slice (thn (hl pins s1 σ H1 _ I1 q1) fun vl s2 ⟨l, H2, I2, pl, q2⟩ => thn (hu pins s2 σ H2 _ I2 q2) fun vu s3 ⟨u, H3, I3, pu, q3⟩ => ?_)
  rw [evalPart_none]
  refine wpAny_pure ?_
  have I4 : Inv X pins σ H3 { s3 with heap := s3.heap.push { cls := .type "slice", data := .fields #[vl, vu, .none] } } := I3.kept (t' := s3.toks) fun b ob q => Heap.get?_push_of_some _ q
  obtain ⟨T, id, hT, ht, hg⟩ := hr pins { s3 with heap := s3.heap.push { cls := .type "slice", data := .fields #[vl, vu, .none] } } σ H3 x v vl vu l u s3.heap.objs.size Q I4 r1 (Heap.IsSliceOf.new ..) pl pu q3
  show wpAny (model X.prog X.w) X.A (subscriptTail e (.Slice lo hi none p2) v (.ref s3.heap.objs.size)) (EP X pins σ Q) X.xe { s3 with heap := s3.heap.push { cls := .type "slice", data := .fields #[vl, vu, .none] } }
  exact tail_any (ops := [.ref s3.heap.objs.size, v]) ht hT hg (by with_unfolding_all rfl)
def cutV (xs : List V) (lo hi : Option Int) : List V := (xs.drop (HT.sIx xs.length 0 lo)).take (HT.sIx xs.length xs.length hi - HT.sIx xs.length 0 lo)
theorem cutV_length (xs : List V) (lo hi : Option Int) : (cutV xs lo hi).length ≤ xs.length := by
  unfold cutV
  rw [List.length_take, List.length_drop]
  omega
def rSlT (K : PySem.W.Frag) : V → Option Int → Option Int → Hp → VK → Prop := fun x lo hi H Q => ∃ a xs, x = .ref a ∧ SqT K H a xs ∧
  ¬ (HT.sIx xs.length 0 lo = 0 ∧ HT.sIx xs.length xs.length hi = xs.length) ∧ ∀ p, H p = none → Q (.ref p) (upd H p (.tup (cutV xs lo hi)))
theorem sl_tup : SlR X (rSlT X.K) := by
  intro pins s σ H x v vl vu lo hi sl Q I rx hs pl pu h
  obtain ⟨a, xs, rfl, hx, hw, q⟩ := h
  cases rx
  obtain ⟨its, r, ht, hz⟩ := I.tuple hx
  have hlen : its.toArray.size = xs.length := by rw [List.size_toArray]; exact r.length.symm
  refine ⟨"tuple", _, PyProof.Rows.slot_tuple_getitem.lookup, ht.typeIs, ?_⟩
  refine HT.getItem_tuple_cut ht hs pl pu (by rw [hlen]; exact hw) ?_ (by rw [hlen]; exact hz)
  rw [hlen]
  refine ⟨.ref s.heap.objs.size, _, I.laid (t' := s.toks) (o := .tup (cutV xs lo hi)) (fun b ob q => Heap.get?_push_of_some _ q) (Nat.le_refl _) ?_, rfl, q _ (I.hok.fresh (Nat.le_refl _))⟩
  exact ⟨Nat.le_trans (cutV_length xs lo hi) hz, _, (r.drop (HT.sIx xs.length 0 lo)).take (HT.sIx xs.length xs.length hi - HT.sIx xs.length 0 lo), IsTup.new _ _⟩
end
end L2
namespace L2
open PySem PySem.Spec PyProof.Rows
def ixN (n : Nat) (i : Int) : Option Nat := if 0 ≤ i then (if i < n then some i.toNat else none) else if -(n : Int) ≤ i then some (i + n).toNat else none
def atI {α : Type} (xs : List α) (i : Int) : Option α := (ixN xs.length i).bind fun j => xs[j]?
theorem ixN_seq {n : Nat} {i : Int} {j : Nat} (h : ixN n i = some j) : seqIndex? i n = some j ∧ j < n ∧ -(n : Int) ≤ i ∧ i < n := by
  unfold ixN at h
  by_cases h0 : 0 ≤ i
  · rw [if_pos h0] at h
    by_cases h1 : i < n
    · rw [if_pos h1] at h
      have e : i.toNat = j := Option.some.inj h
      exact ⟨by rw [seqIndex_of h0 h1, e], by omega, by omega, h1⟩
    · rw [if_neg h1] at h; cases h
  · rw [if_neg h0] at h
    by_cases h1 : -(n : Int) ≤ i
    · rw [if_pos h1] at h
      have e : (i + n).toNat = j := Option.some.inj h
      exact ⟨by rw [seqIndex_neg (by omega) h1, e], by omega, h1, by omega⟩
    · rw [if_neg h1] at h; cases h
theorem atI_get {α : Type} {xs : List α} {i : Int} {v : α} (h : atI xs i = some v) : ∃ j, seqIndex? i xs.length = some j ∧ xs[j]? = some v ∧ j < xs.length ∧ -(xs.length : Int) ≤ i ∧ i < xs.length := by
  unfold atI at h
  cases e : ixN xs.length i with
  | none => rw [e] at h; cases h
  | some j =>
    rw [e] at h
    obtain ⟨h1, h2, h3, h4⟩ := ixN_seq e
    exact ⟨j, h1, h, h2, h3, h4⟩
theorem atI_nat {α : Type} {xs : List α} {j : Nat} {v : α} (h : xs[j]? = some v) : atI xs (j : Int) = some v := by
  have hj : j < xs.length := (List.getElem?_eq_some_iff.mp h).1
  have e : ixN xs.length (j : Int) = some j := by
    unfold ixN
    rw [if_pos (by omega), if_pos (by omega)]; simp
  unfold atI; rw [e]; exact h
def PlainIx (b : Expr) : Prop := ∀ o i, subscripted b false o i = operate [o, i] (getItem o i)
def IxR (X : Cx) (r : R2) : Prop :=
  ∀ (value slice : Expr) (pins : List (Addr × Obj)) (s : Shared) (σ : St) (H : Hp) (x y : V) (v u : Value) (Q : VK), Inv X pins σ H s → RelV x v → RelV y u → r x y H Q →
    subscripted slice false v u = operate [v, u] (getItem v u) → wpAny (model X.prog X.w) X.A (subscriptTail value slice v u) (EP X pins σ Q) X.xe s
def MtR (X : Cx) (id : String) (r : V → List V → Hp → VK → Prop) : Prop :=
  ∀ (pins : List (Addr × Obj)) (s : Shared) (σ : St) (H : Hp) (x : V) (xs : List V) (v : Value) (us : List Value) (Q : VK), Inv X pins σ H s → RelV x v → Vals xs us → r x xs H Q →
    wpAny (model X.prog X.w) X.A (call (.builtin id) (v :: us)) (EP X pins σ Q) X.xe s
section
variable {X : Cx} {a b : Expr} {ta tb : TE} {pos : Pos}
theorem IxR.or {r r' : R2} (h : IxR X r) (h' : IxR X r') : IxR X (fun x y H Q => r x y H Q ∨ r' x y H Q) := by
  intro value slice pins s σ H x y v u Q I rx ry q hs
  rcases q with q | q
  · exact h value slice pins s σ H x y v u Q I rx ry q hs
  · exact h' value slice pins s σ H x y v u Q I rx ry q hs
theorem MtR.or {id : String} {r r' : V → List V → Hp → VK → Prop} (h : MtR X id r) (h' : MtR X id r') : MtR X id (fun x xs H Q => r x xs H Q ∨ r' x xs H Q) := by
  intro pins s σ H x xs v us Q I rx rs q
  rcases q with q | q
  · exact h pins s σ H x xs v us Q I rx rs q
  · exact h' pins s σ H x xs v us Q I rx rs q
theorem pe_ix {r : R2} (hr : IxR X r) (ha : PE X a ta) (hb : PE X b tb) (hs : PlainIx b) : PE X (.Subscript a b pos) (tOp r ta tb) := by
  intro pins s σ H Q I h
  exact Subscript_ (binT ha hb I h fun v u s2 x y H2 I2 rx ry q => hr a b pins s2 σ H2 x y v u Q I2 rx ry q (hs _ _))
def rIxL (K : PySem.W.Frag) : R2 := fun x y H Q => ∃ p xs i v, x = .ref p ∧ y = .int i ∧ SqL K H p xs ∧ atI xs i = some v ∧ Q v H
def rIxT (K : PySem.W.Frag) : R2 := fun x y H Q => ∃ p xs i v, x = .ref p ∧ y = .int i ∧ SqT K H p xs ∧ atI xs i = some v ∧ Q v H
def rIxS : R2 := fun x y H Q => ∃ z i c, x = .str z ∧ y = .int i ∧ z.length ≤ sizeLine ∧ atI z.cps.toList i = some c ∧ Q (.str ⟨#[c]⟩) H
theorem ix_list : IxR X (rIxL X.K) := by
  intro value slice pins s σ H x y v u Q I rx ry h hs
  obtain ⟨p, xs, i, z, rfl, rfl, hq, he, q⟩ := h
  cases rx
  obtain ⟨t, rfl⟩ := ry
  obtain ⟨its, r, pl, hz⟩ := I.list hq
  obtain ⟨j, h1, h2, h3, h4, h5⟩ := atI_get he
  obtain ⟨w, ew, rw'⟩ := r.get h2
  have hl := r.length
  have hn := line63
  have fin : EP X pins σ Q w s := ⟨z, H, I, rw', q⟩
  by_cases h0 : 0 ≤ i
  · have hj : i.toNat = j := by
      rw [seqIndex_of h0 h5] at h1
      exact Option.some.inj h1
    exact item_listR pl.isList h0 (by omega) (by rw [hj]; simpa using ew) fin hs
  · have hj : (i + (its.toArray.size : Int)).toNat = j := by
      rw [seqIndex_neg (by omega) h4] at h1
      rw [List.size_toArray, ← hl]
      exact Option.some.inj h1
    exact subscriptTail_builtinR (x := w) pl.isList.typeIs slot_list_getitem.lookup
      (wpAny_getItem_list_neg (Q := fun r s' => r = w ∧ EP X pins σ Q r s') pl.isList (by omega) (by rw [List.size_toArray] <;> omega) (by omega) (by rw [hj]; simpa using ew) ⟨rfl, fin⟩) hs
theorem ix_tup : IxR X (rIxT X.K) := by
  intro value slice pins s σ H x y v u Q I rx ry h hs
  obtain ⟨p, xs, i, z, rfl, rfl, hq, he, q⟩ := h
  cases rx
  obtain ⟨t, rfl⟩ := ry
  obtain ⟨its, r, pl, hz⟩ := I.tuple hq
  obtain ⟨j, h1, h2, h3, h4, h5⟩ := atI_get he
  obtain ⟨w, ew, rw'⟩ := r.get h2
  have hl := r.length
  have hn := line63
  have fin : EP X pins σ Q w s := ⟨z, H, I, rw', q⟩
  exact subscriptTail_builtinR (x := w) pl.typeIs slot_tuple_getitem.lookup
    (getItem_tuple (j := j) (Q := fun r s' => r = w ∧ EP X pins σ Q r s') pl (by omega) (by omega) (by rw [List.size_toArray, ← hl]; exact h1) (by simpa using ew) ⟨rfl, fin⟩) hs
theorem ix_str : IxR X rIxS := by
  intro value slice pins s σ H x y v u Q I rx ry h hs
  obtain ⟨z, i, c, rfl, rfl, hz, he, q⟩ := h
  obtain ⟨t, rfl⟩ := rx
  obtain ⟨t', rfl⟩ := ry
  obtain ⟨j, h1, h2, h3, h4, h5⟩ := atI_get he
  have hl : z.cps.toList.length = z.length := by simp [Str.length]
  rw [hl] at h1 h4 h5
  have hn := line63
  exact tail_any (typeIs_str s z t) slot_str_getitem.lookup (getItem_str (c := c) (by
    have e1 : decide (i < -(2 ^ 63 : Int)) = false := decide_eq_false (by omega)
    have e2 : decide (i ≥ 2 ^ 63) = false := decide_eq_false (by omega)
    rw [e1, e2, Bool.or_false]) (by rw [h1]; simpa using h2) ⟨.str ⟨#[c]⟩, H, I.tok _, ⟨_, rfl⟩, q⟩) hs
def rIx (K : PySem.W.Frag) : R2 := fun x y H Q => rIxL K x y H Q ∨ rIxT K x y H Q ∨ rIxS x y H Q
theorem ix_seq : IxR X (rIx X.K) := ix_list.or (ix_tup.or ix_str)
theorem mapSeq_set (its : List Value) (n j : Nat) (u : Value) : Obj.mapSeq (·.setIfInBounds j u) { cls := .type "list", data := .seq its.toArray n } = { cls := .type "list", data := .seq (its.set j u).toArray n } := by
  simp [Obj.mapSeq]
theorem Inv.lst {pins : List (Addr × Obj)} {σ : St} {H : Hp} {s : Shared} {p : Addr} {xs : List V} (I : Inv X pins σ H s) (h : H p = some (.lst xs)) :
    ∃ (its : List Value) (n : Nat), Vals xs its ∧ s.heap.get? p = some { cls := .type "list", data := .seq its.toArray n } ∧ xs.length ≤ sizeLine := by
  obtain ⟨z, its, n, r, e⟩ := I.hok p _ h
  exact ⟨its, n, r, e, z⟩
theorem Inv.lstUpd {pins : List (Addr × Obj)} {σ : St} {H : Hp} {s : Shared} {p : Addr} {xs ys : List V} {its its' : List Value} {n n' : Nat} {f : Obj → Obj} (I : Inv X pins σ H s) (h : H p = some (.lst xs))
    (ho : s.heap.get? p = some { cls := .type "list", data := .seq its.toArray n }) (hf : f { cls := .type "list", data := .seq its.toArray n } = { cls := .type "list", data := .seq its'.toArray n' }) (r : Vals ys its') (hz : ys.length ≤ sizeLine) (t : Nat) :
    Inv X pins σ (upd H p (.lst ys)) { s with heap := s.heap.update p f, toks := t } := by
  have e : (s.heap.update p f).get? p = some { cls := .type "list", data := .seq its'.toArray n' } := by
    rw [Heap.get?_update_self f ho (by rw [hf] <;> rfl), hf]
  refine I.write (x := p) (e := p) (by rw [h]; trivial) (.inl rfl) (fun b u hb q => (Heap.get?_update_other _ _ (Ne.symm hb)).trans q) ⟨_, e⟩ ?_
  exact ⟨hz, its', n', r, e⟩
def rSetL : V → V → V → Hp → (Hp → Prop) → Prop := fun o i v H Q => ∃ p xs k j, o = .ref p ∧ i = .int k ∧ H p = some (.lst xs) ∧ ixN xs.length k = some j ∧ Q (upd H p (.lst (xs.set j v)))
theorem set_list : PSet X rSetL := by
  intro pins s σ H o i v ov iv u Q I ro ri rv h
  obtain ⟨p, xs, k, j, rfl, rfl, hp, hj, q⟩ := h
  cases ro
  obtain ⟨t, rfl⟩ := ri
  obtain ⟨its, n, r, ho, hz⟩ := I.lst hp
  obtain ⟨h1, h2, h3, h4⟩ := ixN_seq hj
  have hl := r.length
  have hn := line63
  have I' : Inv X pins σ (upd H p (.lst (xs.set j v))) { s with heap := s.heap.update p (Obj.mapSeq (·.setIfInBounds j u)) } :=
    I.lstUpd hp ho (mapSeq_set its n j u) (r.set rv j) (by rw [List.length_set]; exact hz) s.toks
  by_cases h0 : 0 ≤ k
  · have hk : k.toNat = j := by
      rw [seqIndex_of h0 h4] at h1
      exact Option.some.inj h1
    exact PySem.W.ki_setAt ho h0 (by omega) (by rw [List.size_toArray, ← hl]; exact h4) (by rw [hk]; exact ⟨_, I', q⟩)
  · have hk : (k + (its.toArray.size : Int)).toNat = j := by
      rw [seqIndex_neg (by omega) h3] at h1
      rw [List.size_toArray, ← hl]
      exact Option.some.inj h1
    exact PySem.W.ki_setBack ho (by omega) (by rw [List.size_toArray, ← hl]; exact h3) (by omega) (by rw [hk]; exact ⟨_, I', q⟩)
theorem slice_bounds (lo hi : Option Int) (n : Nat) : (sliceBounds lo hi none n).1 = ((HT.sIx n 0 lo : Nat) : Int) ∧ (sliceBounds lo hi none n).2.1 = ((HT.sIx n n hi : Nat) : Int) ∧ (sliceBounds lo hi none n).2.2 = 1 := by
  refine ⟨?_, ?_, rfl⟩
  · cases lo with
    | none => simp [sliceBounds, HT.sIx]
    | some i =>
      simp only [sliceBounds, HT.sIx, Option.getD_none, show (1 : Int) > 0 by decide, if_true]
      by_cases h : i < 0
      · simp only [h, if_true] <;> omega
      · simp only [h, if_false] <;> omega
  · cases hi with
    | none => simp [sliceBounds, HT.sIx]
    | some i =>
      simp only [sliceBounds, HT.sIx, Option.getD_none, show (1 : Int) > 0 by decide, if_true]
      by_cases h : i < 0
      · simp only [h, if_true] <;> omega
      · simp only [h, if_false] <;> omega
theorem slicePick_cut (its : List Value) (lo hi : Option Int) : slicePick its.toArray lo hi none = ((its.drop (HT.sIx its.length 0 lo)).take (HT.sIx its.length its.length hi - HT.sIx its.length 0 lo)).toArray := by
  obtain ⟨h1, h2, h3⟩ := slice_bounds lo hi its.toArray.size
  unfold slicePick
  rw [h1, h2, h3]
  simp only [sliceRange_one, pick_run, List.size_toArray] <;> rfl
def rSlL (K : PySem.W.Frag) : V → Option Int → Option Int → Hp → VK → Prop := fun x lo hi H Q => ∃ a xs, x = .ref a ∧ SqL K H a xs ∧ ∀ p, H p = none → Q (.ref p) (upd H p (.lst (cutV xs lo hi)))
theorem sl_list : SlR X (rSlL X.K) := by
  intro pins s σ H x v vl vu lo hi sl Q I rx hs pl pu h
  obtain ⟨a, xs, rfl, hx, q⟩ := h
  cases rx
  obtain ⟨its, r, ht, hz⟩ := I.list hx
  have hlen := r.length
  refine ⟨"list", _, slot_list_getitem.lookup, ht.isList.typeIs, ?_⟩
  refine wpAny_getItem_list_slice ht.isList hs pl pu .none (by simp) ?_ (by rw [List.size_toArray] <;> omega)
  rw [slicePick_cut, ← hlen]
  refine ⟨.ref s.heap.objs.size, _, I.laid (t' := s.toks) (o := .lst (cutV xs lo hi)) (fun b ob q => Heap.get?_push_of_some _ q) (Nat.le_refl _) ?_, rfl, q _ (I.hok.fresh (Nat.le_refl _))⟩
  exact ⟨Nat.le_trans (cutV_length xs lo hi) hz, _, 0, (r.drop (HT.sIx xs.length 0 lo)).take (HT.sIx xs.length xs.length hi - HT.sIx xs.length 0 lo), Heap.get?_push_size _ rfl⟩
def flatV : V → Bool
  | .non => true
  | .bl _ => true
  | .int _ => true
  | .str _ => true
  | _ => false
def eqV : V → V → Bool
  | .non, .non => true
  | .bl a, .bl b => a == b
  | .bl a, .int b => (if a then 1 else 0) == b
  | .int a, .bl b => a == (if b then 1 else 0)
  | .int a, .int b => a == b
  | .str a, .str b => a == b
  | _, _ => false
theorem eqAt_V {A : Around} {s : Shared} {y x : V} {u v : Value} (ry : RelV y u) (rx : RelV x v) (fy : flatV y = true) (fx : flatV x = true) : SeqAt.EqAt A s u v (eqV y x) := by
  cases y with
  | non =>
    cases ry
    cases x with
    | non => cases rx; exact SeqAt.EqAt.same _
    | bl b => cases rx; exact SeqAt.EqAt.none_bool b
    | int b => obtain ⟨t, rfl⟩ := rx; exact SeqAt.EqAt.none_int b t
    | str b => obtain ⟨t, rfl⟩ := rx; exact SeqAt.EqAt.none_str b t
    | _ => exact absurd (show false = true from fx) Bool.false_ne_true
  | bl a =>
    cases ry
    cases x with
    | non => cases rx; exact SeqAt.EqAt.bool_none a
    | bl b => cases rx; exact SeqAt.EqAt.bool_bool a b
    | int b => obtain ⟨t, rfl⟩ := rx; exact SeqAt.EqAt.bool_int a b t
    | str b => obtain ⟨t, rfl⟩ := rx; exact SeqAt.EqAt.bool_str a b t
    | _ => exact absurd (show false = true from fx) Bool.false_ne_true
  | int a =>
    obtain ⟨t', rfl⟩ := ry
    cases x with
    | non => cases rx; exact SeqAt.EqAt.int_none a t'
    | bl b => cases rx; exact SeqAt.EqAt.int_bool a t' b
    | int b => obtain ⟨t, rfl⟩ := rx; exact SeqAt.EqAt.int_int a t' b t
    | str b => obtain ⟨t, rfl⟩ := rx; exact SeqAt.EqAt.int_str a t' b t
    | _ => exact absurd (show false = true from fx) Bool.false_ne_true
  | str a =>
    obtain ⟨t', rfl⟩ := ry
    cases x with
    | non => cases rx; exact SeqAt.EqAt.str_none a t'
    | bl b => cases rx; exact SeqAt.EqAt.str_bool a t' b
    | int b => obtain ⟨t, rfl⟩ := rx; exact SeqAt.EqAt.str_int a t' b t
    | str b => obtain ⟨t, rfl⟩ := rx; exact SeqAt.EqAt.str_str a t' b t
    | _ => exact absurd (show false = true from fx) Bool.false_ne_true
  | _ => exact absurd (show false = true from fy) Bool.false_ne_true
theorem CallR.or {f : Value} {r r' : List V → Hp → VK → Prop} (h : CallR X f r) (h' : CallR X f r') : CallR X f (fun xs H Q => r xs H Q ∨ r' xs H Q) := by
  intro pins s σ H xs us Q I rs q
  rcases q with q | q
  · exact h pins s σ H xs us Q I rs q
  · exact h' pins s σ H xs us Q I rs q
theorem call_list_of : CallR X (.type "list") (fun xs H Q => ∃ p ys, xs = [.ref p] ∧ (SqL X.K H p ys ∨ SqT X.K H p ys) ∧ ∀ l, H l = none → Q (.ref l) (upd H l (.lst ys))) := by
  intro pins s σ H xs us Q I r h
  obtain ⟨p, ys, rfl, hq, q⟩ := h
  obtain ⟨u, rfl, rx⟩ := vals1 r
  cases rx
  have fin : ∀ (its : List Value), Vals ys its → ys.length ≤ sizeLine → ∀ (h' : Heap) (c' : Nat), (∀ b o', s.heap.get? b = some o' → h'.get? b = some o') →
      h'.get? s.heap.objs.size = some { cls := .type "list", dict := none, data := .seq its.toArray c', slots := #[] } → EP X pins σ Q (.ref s.heap.objs.size) { s with heap := h' } := fun its r' hz h' c' kp e =>
    ⟨.ref s.heap.objs.size, _, I.laid (t' := s.toks) kp (Nat.le_refl _) (show ObjOk X.prog X.w _ h' _ (.lst ys) from ⟨hz, its, c', r', e⟩), rfl, q _ (I.hok.fresh (Nat.le_refl _))⟩
  rcases hq with hq | hq
  · obtain ⟨its, r', pl, hz⟩ := I.list hq
    have hlen := r'.length
    obtain ⟨o, ho, hc, n, hd⟩ := pl.isList
    exact call_list_seq p (.inl rfl) ho hc hd (fun h' c' kp e => fin its r' hz h' c' kp e) (by simp only [List.size_toArray] <;> omega)
  · obtain ⟨its, r', pl, hz⟩ := I.tuple hq
    have hlen := r'.length
    obtain ⟨o, ho, hc, n, hd⟩ := pl
    exact call_list_seq p (.inr rfl) ho hc hd (fun h' c' kp e => fin its r' hz h' c' kp e) (by simp only [List.size_toArray] <;> omega)
def tyV (K : PySem.W.Frag) (T : String) (x : V) (H : Hp) : Prop := match x with
  | .str _ => T = "str"
  | .int _ => T = "int"
  | .ref p => (T = "list" ∧ ∃ xs, SqL K H p xs) ∨ (T = "tuple" ∧ ∃ o, K.lookup p = some o ∧ o.cls = .type "tuple" ∧ o.dict = none) ∨
      (T = "dict" ∧ ((∃ kvs, H p = some (.dK kvs)) ∨ ∃ kvs, H p = some (.dT kvs))) ∨ (T = "set" ∧ ∃ S n, H p = some (.set S n))
  | _ => False
theorem tyV_is {pins : List (Addr × Obj)} {σ : St} {H : Hp} {s : Shared} {T : String} {x : V} {v : Value} (I : Inv X pins σ H s) (r : RelV x v) (ty : tyV X.K T x H) :
    s.TypeIs v T ∧ ∀ a, v = .ref a → ∃ ob, s.heap.get? a = some ob ∧ ob.dict = none := by
  cases x with
  | str z =>
    obtain ⟨t, rfl⟩ := r
    cases (show T = "str" from ty)
    exact ⟨typeIs_str s z t, fun _ e => nomatch e⟩
  | int i =>
    obtain ⟨t, rfl⟩ := r
    cases (show T = "int" from ty)
    exact ⟨typeIs_int s i t, fun _ e => nomatch e⟩
  | ref p =>
    cases r
    rcases ty with ⟨rfl, xs, hq⟩ | ⟨rfl, o, hk, hc, hd⟩ | ⟨rfl, hk⟩ | ⟨rfl, S, n, hk⟩
    · obtain ⟨its, _, pl, _⟩ := I.list hq
      refine ⟨pl.isList.typeIs, fun a e => ?_⟩
      cases e
      obtain ⟨o, n, e, c, hd, _⟩ := pl
      exact ⟨o, e, hd⟩
    · refine ⟨⟨o, I.kIn p o hk, hc⟩, fun a e => ?_⟩
      cases e
      exact ⟨o, I.kIn _ o hk, hd⟩
    · have z : ∃ o, s.heap.get? p = some o ∧ o.ExactDict := by
        rcases hk with ⟨kvs, hk⟩ | ⟨kvs, hk⟩
        · obtain ⟨_, _, _, _, o, _, _, e, ex, _⟩ := I.hok p _ hk
          exact ⟨o, e, ex⟩
        · obtain ⟨_, _, _, _, o, _, _, e, ex, _⟩ := I.hok p _ hk
          exact ⟨o, e, ex⟩
      obtain ⟨o, e, ex⟩ := z
      refine ⟨⟨o, e, ex.1⟩, fun a e2 => ?_⟩
      cases e2
      exact ⟨o, e, ex.2.1⟩
    · obtain ⟨o, _, _, _, e, ex, _⟩ := I.hok p _ hk
      refine ⟨⟨o, e, ex.1⟩, fun a e2 => ?_⟩
      cases e2
      exact ⟨o, e, ex.2.1⟩
  | _ => exact False.elim ty
def tBM0 (K : PySem.W.Frag) (T : String) (r : V → List V → Hp → VK → Prop) (to : TE) : TE := fun σ H Q => to σ H fun x H1 => tyV K T x H1 ∧ r x [] H1 Q
def tBM (K : PySem.W.Frag) (T : String) (r : V → List V → Hp → VK → Prop) (to : TE) (t : TA) : TE := fun σ H Q => to σ H fun x H1 => tyV K T x H1 ∧ t σ H1 fun xs H2 => r x xs H2 Q
variable {o e : Expr} {es : List Expr} {to : TE} {t : TA} {name : Str} {apos cpos : Pos} {T id : String} {r : V → List V → Hp → VK → Prop}
theorem pe_bm0 (pa : PlainAttrs T) (slot : Slot T name id) (hty : typeOf (.builtin id) = pure (.type "method_descriptor")) (hm : MtR X id r) (ho : PE X o to)
    (hbase : attributeBase o name X.env (eval o X.env) = eval o X.env := by rfl) (hline : (apos.endLine == cpos.line) = true := by rfl) : PE X (.Call (.Attribute o name apos) [] [] cpos) (tBM0 X.K T r to) := by
  intro pins s σ H Q I h
  refine wpAny_Call_method0_late hbase hline (thn (ho pins s σ H _ I h) fun v s1 ⟨x, H1, I1, r1, ty, q1⟩ => ?_)
  obtain ⟨h1, h2⟩ := tyV_is I1 r1 ty
  exact ⟨T, id, pa, slot, hty, h1, h2, Calls.callWith_builtin rfl (PySem.evalArgs_none (hm pins s1 σ H1 x [] v [] Q I1 r1 .nil q1))⟩
theorem pe_bm (pa : PlainAttrs T) (slot : Slot T name id) (hty : typeOf (.builtin id) = pure (.type "method_descriptor")) (hm : MtR X id r) (ho : PE X o to) (ha : PA X (e :: es) t)
    (hbase : attributeBase o name X.env (eval o X.env) = eval o X.env := by rfl)
    (hfew : ((backTo cpos (starEach (e :: es) X.env)).all (fun x => !x.1) && (backToKw cpos (keywordEach [] X.env)).all (fun x => x.1.isSome)
      && decide ((e :: es).length + ([] : List Keyword).length + (if ([] : List Keyword).isEmpty then 0 else 1) < 30)) = true := by rfl)
    (hline : (apos.endLine == cpos.line) = true := by rfl) (hs : starEach (e :: es) X.env = (false, eval e X.env) :: starEach es X.env := by rfl) (hplain : (backTo cpos (starEach es X.env)).any (·.1) = false := by rfl) :
    PE X (.Call (.Attribute o name apos) (e :: es) [] cpos) (tBM X.K T r to t) := by
  intro pins s σ H Q I h
  refine wpAny_Call_method_late hbase hfew hline rfl (thn (ho pins s σ H _ I h) fun v s1 ⟨x, H1, I1, r1, ty, q1⟩ => ?_)
  obtain ⟨h1, h2⟩ := tyV_is I1 r1 ty
  refine ⟨T, id, pa, slot, hty, h1, h2, ?_⟩
  have hA := ha cpos pins s1 σ H1 _ I1 q1
  rw [hs] at hA ⊢
  refine Calls.callWith_builtin (by show (false || (backTo cpos (starEach es X.env)).any (·.1)) = false; rw [hplain] <;> rfl) (Calls.evalArgs_plain ?_)
  exact thn hA fun us s2 ⟨vs, H2, I2, r2, q2⟩ => hm pins s2 σ H2 x vs v us Q I2 r1 r2 q2
/- xs.append(e), list.index on a module's tuple .. are MtR facts of 06m -/
end
end L2
namespace L2
open PySem PySem.Spec PyProof.Rows
def MtM (X : Cx) (id : String) (r : V → List V → Hp → VK → Prop) : Prop :=
  ∀ (pins : List (Addr × Obj)) (s : Shared) (σ : St) (H : Hp) (x : V) (xs : List V) (v : Value) (us : List Value) (Q : VK), Inv X pins σ H s → RelV x v → Vals xs us → r x xs H Q →
    wpAny (model X.prog X.w) X.A (call (.builtin id) (v :: us)) (EP X pins σ Q) X.xe s
theorem Vals.one : ∀ {x : V} {us : List Value}, Vals [x] us → ∃ u, us = [u] ∧ RelV x u
  | _, _, .cons r .nil => ⟨_, rfl, r⟩
theorem Vals.two : ∀ {x y : V} {us : List Value}, Vals [x, y] us → ∃ u v, us = [u, v] ∧ RelV x u ∧ RelV y v
  | _, _, _, .cons r (.cons q .nil) => ⟨_, _, rfl, r, q⟩
theorem Vals.zero : ∀ {us : List Value}, Vals [] us → us = []
  | _, .nil => rfl
theorem Vals.dropLast {xs : List V} {us : List Value} (h : Vals xs us) : Vals xs.dropLast us.dropLast := by
  induction h with
  | nil => exact .nil
  | cons r t ih =>
    cases t with
    | nil => exact .nil
    | cons q t' => exact .cons r ih
theorem Vals.reverse {xs : List V} {us : List Value} (h : Vals xs us) : Vals xs.reverse us.reverse := by
  induction h with
  | nil => exact .nil
  | cons r t ih => rw [List.reverse_cons, List.reverse_cons]; exact Vals.append ih (.cons r .nil)
theorem Vals.rep {xs : List V} {us : List Value} (h : Vals xs us) : ∀ k : Nat, Vals (List.replicate k xs).flatten (List.replicate k us).flatten
  | 0 => .nil
  | k + 1 => by
    rw [List.replicate_succ, List.replicate_succ, List.flatten_cons, List.flatten_cons]
    exact Vals.append h (Vals.rep h k)
theorem foldl_rep (its : List Value) : ∀ (k : Nat) (acc : List Value),
    List.foldl (fun x1 x2 => x1 ++ x2) acc.toArray (List.replicate k its.toArray) = (acc ++ (List.replicate k its).flatten).toArray
  | 0, acc => by simp
  | k + 1, acc => by
    have e : acc.toArray ++ its.toArray = (acc ++ its).toArray := by simp
    have e2 : (acc ++ its) ++ (List.replicate k its).flatten = acc ++ (List.replicate (k + 1) its).flatten := by
      rw [List.replicate_succ, List.flatten_cons, List.append_assoc]
    rw [← e2, ← foldl_rep its k (acc ++ its), ← e, List.replicate_succ, List.foldl_cons]
section
variable {X : Cx} {pins : List (Addr × Obj)} {σ : St} {H : Hp} {s : Shared} {l b : Addr} {xs ys zs : List V}
theorem Inv.lset {its its' : List Value} {n : Nat} {f : Array Value → Array Value} {t' : Nat} (I : Inv X pins σ H s) (hH : H l = some (.lst xs))
    (e : s.heap.get? l = some { cls := .type "list", data := .seq its.toArray n }) (hf : f its.toArray = its'.toArray) (hv : Vals ys its') (hz : ys.length ≤ sizeLine) :
    Inv X pins σ (upd H l (.lst ys)) { s with heap := s.heap.update l (Obj.mapSeq f), toks := t' } := by
  have q := PySem.IsL.update e f
  rw [hf] at q
  refine I.write (x := l) (e := l) (by rw [hH]; exact trivial) (.inl rfl) (fun b' u hb hu => (Heap.get?_update_other s.heap (Obj.mapSeq f) (Ne.symm hb)).trans hu) ⟨_, q⟩ ?_
  exact ⟨hz, its', _, hv, q⟩
theorem Inv.lnew {its : List Value} {t' : Nat} (I : Inv X pins σ H s) (hv : Vals ys its) (hz : ys.length ≤ sizeLine) :
    Inv X pins σ (upd H s.heap.objs.size (.lst ys)) { s with heap := s.heap.push { cls := .type "list", data := .seq its.toArray }, toks := t' } :=
  I.laid (fun _ _ q => Heap.get?_push_of_some _ q) (Nat.le_refl _) ⟨hz, its, 0, hv, Heap.get?_push_size _ rfl⟩
theorem Inv.fresh (I : Inv X pins σ H s) : H s.heap.objs.size = none := I.hok.fresh (Nat.le_refl _)
theorem Inv.lstM (I : Inv X pins σ H s) (hH : H l = some (.lst xs)) : xs.length ≤ sizeLine ∧ ∃ (its : List Value) (n : Nat), Vals xs its ∧ xs.length = its.length ∧ s.heap.get? l = some { cls := .type "list", data := .seq its.toArray n } := by
  obtain ⟨z, its, n, r, e⟩ := I.hok l _ hH
  exact ⟨z, its, n, r, r.length, e⟩
theorem notLongL {n : Nat} (h : n ≤ sizeLine) : Builtin.List.listTooLong n = false := by
  unfold Builtin.List.listTooLong
  exact decide_eq_false (by omega)
end
section
variable {X : Cx}
def rAppend : V → List V → Hp → VK → Prop := fun x vs H Q => ∃ l xs y, x = .ref l ∧ vs = [y] ∧ H l = some (.lst xs) ∧ xs.length < sizeLine ∧ Q .non (upd H l (.lst (xs ++ [y])))
theorem mt_append : MtM X "list.append" rAppend := by
  intro pins s σ H x vs v us Q I rx rv h
  obtain ⟨l, xs, y, rfl, rfl, hH, hz, q⟩ := h
  cases rx
  obtain ⟨u, rfl, ru⟩ := rv.one
  obtain ⟨z, its, n, r, hl, e⟩ := I.lstM hH
  refine call_meets F.slot_list_append ⟨_, e, rfl⟩ F.entry_list_append (F.args_list_append_2 _ _) (PySem.list_append l its.toArray n u (by rw [List.size_toArray]; omega)) ⟨e, ?_⟩
  refine ⟨.non, _, I.lset (its' := its ++ [u]) hH e (by simp) (r.append (.cons ru .nil)) ?_, rfl, q⟩
  rw [List.length_append, List.length_singleton]
  omega
def rClear : V → List V → Hp → VK → Prop := fun x vs H Q => ∃ l xs, x = .ref l ∧ vs = [] ∧ H l = some (.lst xs) ∧ Q .non (upd H l (.lst []))
theorem mt_clear : MtM X "list.clear" rClear := by
  intro pins s σ H x vs v us Q I rx rv h
  obtain ⟨l, xs, rfl, rfl, hH, q⟩ := h
  cases rx
  have hus := rv.zero
  subst hus
  obtain ⟨z, its, n, r, hl, e⟩ := I.lstM hH
  refine call_meets F.slot_list_clear ⟨_, e, rfl⟩ F.entry_list_clear (F.args_list_clear_1 _) (AutoSeq1.list_clear_list_0 l its.toArray n (by rw [List.size_toArray]; omega)) ⟨e, ?_⟩
  exact ⟨.non, _, I.lset (its' := []) (ys := []) hH e rfl .nil (Nat.zero_le _), rfl, q⟩
def rCat : R2 := fun x y H Q => ∃ l b xs zs, x = .ref l ∧ y = .ref b ∧ H l = some (.lst xs) ∧ H b = some (.lst zs) ∧ xs.length + zs.length ≤ sizeLine ∧ ∀ p, H p = none → Q (.ref p) (upd H p (.lst (xs ++ zs)))
theorem op_cat : OpR X (binaryOp .Add) rCat := by
  intro pins s σ H x y v u Q I rx ry h
  obtain ⟨l, b, xs, zs, rfl, rfl, hH, hB, hz, q⟩ := h
  cases rx
  cases ry
  obtain ⟨z, its, n, r, hl, e⟩ := I.lstM hH
  obtain ⟨z2, its2, n2, r2, hl2, e2⟩ := I.lstM hB
  refine PySem.P.add_list e e2 ?_ (by rw [List.size_toArray, List.size_toArray]; omega)
  have ea : its.toArray ++ its2.toArray = (its ++ its2).toArray := by simp
  rw [ea]
  exact ⟨.ref _, _, I.lnew (t' := s.toks) (r.append r2) (by rw [List.length_append]; omega), rfl, q _ I.fresh⟩
def rRep : R2 := fun x y H Q => ∃ l k xs, x = .ref l ∧ y = .int k ∧ H l = some (.lst xs) ∧ -(2 ^ 63) ≤ k ∧ k < 2 ^ 63 ∧ xs.length * k.toNat ≤ sizeLine ∧
  ∀ p, H p = none → Q (.ref p) (upd H p (.lst (List.replicate k.toNat xs).flatten))
theorem len_rep {α : Type} (xs : List α) (k : Nat) : (List.replicate k xs).flatten.length = k * xs.length := by
  induction k with
  | zero => simp
  | succ k ih => rw [List.replicate_succ, List.flatten_cons, List.length_append, ih, Nat.succ_mul, Nat.add_comm]
theorem op_rep : OpR X (binaryOp .Mult) rRep := by
  intro pins s σ H x y v u Q I rx ry h
  obtain ⟨l, k, xs, rfl, rfl, hH, h1, h2, hz, q⟩ := h
  cases rx
  obtain ⟨t, rfl⟩ := ry
  obtain ⟨z, its, n, r, hl, e⟩ := I.lstM hH
  have hlen : its.toArray.size * k.toNat ≤ sizeLine := by rw [List.size_toArray, ← hl]; exact hz
  have hcap : ¬ its.toArray.size * k.toNat > (2 ^ 63 - 1) / 8 := by
    have : (sizeLine : Nat) ≤ (2 ^ 63 - 1) / 8 := by decide
    omega
  have hfit : ¬ (!Builtin.List.listFitsIndex k) = true := by
    rw [fitsIndex_both h1 h2]
    exact Bool.false_ne_true
  have hlong : ¬ Builtin.List.listTooLong (its.toArray.size * k.toNat) = true := by
    rw [notLongL hlen]
    exact Bool.false_ne_true
  have hnew : List.foldl (fun x1 x2 => x1 ++ x2) #[] (List.replicate (if its.toArray.isEmpty = true then 0 else k.toNat) its.toArray) = (List.replicate k.toNat its).flatten.toArray := by
    have f0 : ∀ m : Nat, List.foldl (fun x1 x2 => x1 ++ x2) #[] (List.replicate m its.toArray) = (List.replicate m its).flatten.toArray := fun m => by
      have := foldl_rep its m []
      rw [List.nil_append] at this
      exact this
    rw [f0]
    cases its with
    | nil => simp
    | cons a r' => rw [if_neg (by simp)]
  refine wpAny_binaryOp_repeat_ref (T := "list") (U := "int") (by decide) ⟨_, e, rfl⟩ (fun s' => typeIs_int s' k t) noFill_list_mul F.fills_int_mul F.slot_int_rmul repeat_list F.slot_int_index.lookup
    (call_meets F.slot_int_rmul (typeIs_int s k t) F.entry_int_rmul (F.args_int_rmul_2 _ _) (int___rmul___int_list k t l its.toArray n)
      ⟨e, rfl, ⟨_, e, rfl⟩, call_meets F.slot_list_mul ⟨_, e, rfl⟩ F.entry_list_mul (F.args_list_mul_2 _ _) (AutoListH.list___mul___list_int_3 l its.toArray n k t hfit hcap hlong) ⟨e, ?_⟩⟩)
  rw [hnew]
  exact ⟨.ref _, _, I.lnew (t' := s.toks) (r.rep k.toNat) (by rw [len_rep, Nat.mul_comm]; exact hz), rfl, q _ I.fresh⟩
end
section
variable {prog : Program} {w : World} {A : Around} {E : Value → Shared → Prop} {s : Shared}
end
section
variable {X : Cx}
end
end L2
namespace L2
open PySem PySem.Spec PyProof.Rows
section
variable {κ : Type} [DecidableEq κ]
def valV (kvs : List (κ × V)) (k : κ) : Option V := (kvs.find? fun kv => decide (kv.1 = k)).map (·.2)
def putK (kvs : List (κ × V)) (k : κ) (v : V) : List (κ × V) :=
  if (kvs.any fun kv => decide (kv.1 = k)) = true then kvs.map (fun kv => if kv.1 = k then (kv.1, v) else kv) else kvs ++ [(k, v)]
def dropK (kvs : List (κ × V)) (k : κ) : List (κ × V) := kvs.filter fun kv => decide (kv.1 ≠ k)
theorem valV_pos {p : κ × V} {r : List (κ × V)} {k : κ} (e : p.1 = k) : valV (p :: r) k = some p.2 := by simp [valV, List.find?_cons, e]
theorem valV_neg {p : κ × V} {r : List (κ × V)} {k : κ} (e : ¬ p.1 = k) : valV (p :: r) k = valV r k := by simp [valV, List.find?_cons, e]
theorem valV_any (k : κ) : ∀ kvs : List (κ × V), (kvs.any fun kv => decide (kv.1 = k)) = (valV kvs k).isSome
  | [] => rfl
  | p :: r => by
    rw [List.any_cons]
    by_cases e : p.1 = k
    · simp only [valV_pos e, decide_eq_true e, Bool.true_or, Option.isSome_some]
    · rw [valV_neg e, decide_eq_false e, Bool.false_or]; exact valV_any k r
theorem length_putK (kvs : List (κ × V)) (k : κ) (v : V) : (putK kvs k v).length ≤ kvs.length + 1 := by
  unfold putK
  split
  · rw [List.length_map]; omega
  · rw [List.length_append, List.length_cons, List.length_nil]; omega
theorem RelO.isSome_eq {o : Option V} {u : Option Value} (r : RelO o u) : o.isSome = u.isSome := by
  cases o with
  | none => cases u with
    | none => rfl
    | some _ => exact (show False from r).elim
  | some _ => cases u with
    | none => exact (show False from r).elim
    | some _ => rfl
theorem RelO.getD {o : Option V} {u : Option Value} {d : V} {d' : Value} (r : RelO o u) (rd : RelV d d') : RelV (o.getD d) (u.getD d') := by
  cases o with
  | none => cases u with
    | none => exact rd
    | some _ => exact (show False from r).elim
  | some _ => cases u with
    | none => exact (show False from r).elim
    | some _ => exact r
theorem KV.val {kvs : List (κ × V)} {vs : List (κ × Value)} (r : KV kvs vs) (k : κ) : RelO (valV kvs k) (valueAt vs k) := by
  unfold KV at r
  induction r with
  | nil => exact True.intro
  | @cons p q ps qs h t ih =>
    obtain ⟨h1, h2⟩ := h
    by_cases e : p.1 = k
    · have e' : q.1 = k := h1.symm.trans e
      have b : valueAt (q :: qs) k = some q.2 := by simp [valueAt, List.find?_cons, e']
      rw [valV_pos e, b]; exact h2
    · have e' : ¬ q.1 = k := fun z => e (h1.trans z)
      have b : valueAt (q :: qs) k = valueAt qs k := by simp [valueAt, List.find?_cons, e']
      rw [valV_neg e, b]; exact ih
theorem KV.any {kvs : List (κ × V)} {vs : List (κ × Value)} (r : KV kvs vs) (k : κ) : (kvs.any fun kv => decide (kv.1 = k)) = vs.any fun kv => decide (kv.1 = k) := by
  unfold KV at r
  induction r with
  | nil => rfl
  | cons h t ih => rw [List.any_cons, List.any_cons, ih, h.1]
theorem KV.repl {kvs : List (κ × V)} {vs : List (κ × Value)} (r : KV kvs vs) (k : κ) {y : V} {u : Value} (ry : RelV y u) :
    KV (kvs.map fun kv => if kv.1 = k then (kv.1, y) else kv) (vs.map fun kv => if kv.1 = k then (kv.1, u) else kv) := by
  unfold KV at r ⊢
  induction r with
  | nil => exact .nil
  | @cons p q ps qs h t ih =>
    rw [List.map_cons, List.map_cons]
    refine .cons ?_ ih
    obtain ⟨h1, h2⟩ := h
    by_cases e : p.1 = k
    · rw [if_pos e, if_pos (h1.symm.trans e)]; exact ⟨h1, ry⟩
    · rw [if_neg e, if_neg (fun z => e (h1.trans z))]; exact ⟨h1, h2⟩
theorem KV.put {kvs : List (κ × V)} {vs : List (κ × Value)} (r : KV kvs vs) (k : κ) {y : V} {u : Value} (ry : RelV y u) : KV (putK kvs k y) (stored vs k u) := by
  unfold putK stored
  rw [r.any k]
  by_cases e : (vs.any fun kv => decide (kv.1 = k)) = true
  · rw [if_pos e, if_pos e]; exact r.repl k ry
  · rw [if_neg e, if_neg e]; exact Paired.snoc r ⟨rfl, ry⟩
theorem KV.drop {kvs : List (κ × V)} {vs : List (κ × Value)} (r : KV kvs vs) (k : κ) : KV (dropK kvs k) (without vs k) := by
  unfold KV at r ⊢
  unfold dropK without
  induction r with
  | nil => exact .nil
  | @cons p q ps qs h t ih =>
    obtain ⟨h1, h2⟩ := h
    rw [List.filter_cons, List.filter_cons]
    by_cases e : p.1 = k
    · have a : ¬ decide (p.1 ≠ k) = true := by simp [e]
      have b : ¬ decide (q.1 ≠ k) = true := by simp [h1.symm.trans e]
      rw [if_neg a, if_neg b]; exact ih
    · have e' : ¬ q.1 = k := fun z => e (h1.trans z)
      have a : decide (p.1 ≠ k) = true := by simp [e]
      have b : decide (q.1 ≠ k) = true := by simp [e']
      rw [if_pos a, if_pos b]; exact .cons ⟨h1, h2⟩ ih
theorem KV.keys {kvs : List (κ × V)} {vs : List (κ × Value)} (r : KV kvs vs) : kvs.map (·.1) = vs.map (·.1) := by
  unfold KV at r
  induction r with
  | nil => rfl
  | cons h t ih => rw [List.map_cons, List.map_cons, ih, h.1]
theorem KV.length {kvs : List (κ × V)} {vs : List (κ × Value)} (r : KV kvs vs) : kvs.length = vs.length := Paired.length r
end
theorem kV_is {P : Program} {w : World} {k : Key} {u : Value} (r : RelV (kV k) u) : (mixKind P w).is k u = true := by
  cases k with
  | inl i => obtain ⟨t, e⟩ := (show ∃ t, u = Value.int i t from r); subst e; exact mixKind_int P w i t
  | inr x => obtain ⟨t, e⟩ := (show ∃ t, u = Value.str x t from r); subst e; exact mixKind_str P w x t
theorem items_are {P : Program} {w : World} : ∀ {ks : List Key} {us : List Value}, Vals (ks.map kV) us → ItemsAre (mixKind P w) ks us
  | [], _, r => by rw [List.map_nil] at r; cases r; exact .nil
  | k :: ks, _, r => by
    rw [List.map_cons] at r
    cases r with
    | cons h t => exact .cons (kV_is h) (items_are t)
abbrev KT (H : Hp) : List (List Key × V) → List (List Key × Addr × Value) → Prop := Paired fun p q => p.1 = q.1 ∧ H q.2.1 = some (.tup (p.1.map kV)) ∧ RelV p.2 q.2.2
theorem KT.val {H : Hp} {kvs : List (List Key × V)} {xs : List (List Key × Addr × Value)} (r : KT H kvs xs) (k : List Key) : RelO (valV kvs k) ((atKey xs k).map (·.2)) := by
  induction r with
  | nil => exact True.intro
  | @cons p q ps qs h t ih =>
    obtain ⟨h1, _, h2⟩ := h
    by_cases e : p.1 = k
    · have e' : q.1 = k := h1.symm.trans e
      have b : atKey (q :: qs) k = some q.2 := by simp [atKey, List.find?_cons, e']
      rw [valV_pos e, b]; exact h2
    · have e' : ¬ q.1 = k := fun z => e (h1.trans z)
      have b : atKey (q :: qs) k = atKey qs k := by simp [atKey, List.find?_cons, e']
      rw [valV_neg e, b]; exact ih
theorem KT.repl {H : Hp} {kvs : List (List Key × V)} {xs : List (List Key × Addr × Value)} (r : KT H kvs xs) (k : List Key) {y : V} {u : Value} (ry : RelV y u) :
    KT H (kvs.map fun kv => if kv.1 = k then (kv.1, y) else kv) (xs.map (putAt k u)) := by
  induction r with
  | nil => exact .nil
  | @cons p q ps qs h t ih =>
    rw [List.map_cons, List.map_cons]
    refine .cons ?_ ih
    obtain ⟨h1, h2, h3⟩ := h
    unfold putAt
    by_cases e : p.1 = k
    · rw [if_pos e, if_pos (h1.symm.trans e)]; exact ⟨h1, h2, ry⟩
    · rw [if_neg e, if_neg (fun z => e (h1.trans z))]; exact ⟨h1, h2, h3⟩
theorem KT.put {H : Hp} {kvs : List (List Key × V)} {xs : List (List Key × Addr × Value)} (r : KT H kvs xs) (k : List Key) {b : Addr} {y : V} {u : Value} (hb : H b = some (.tup (k.map kV))) (ry : RelV y u) :
    KT H (putK kvs k y) (storedH xs k b u) := by
  have e : (kvs.any fun kv => decide (kv.1 = k)) = (atKey xs k).isSome := by
    rw [valV_any, (r.val k).isSome_eq, Option.isSome_map]
  unfold putK storedH
  rw [e]
  by_cases q : (atKey xs k).isSome = true
  · rw [if_pos q, if_pos q]; exact r.repl k ry
  · rw [if_neg q, if_neg q]; exact Paired.snoc r ⟨rfl, hb, ry⟩
theorem KT.keeps {H H' : Hp} {kvs : List (List Key × V)} {xs : List (List Key × Addr × Value)} (r : KT H kvs xs) (ht : ∀ b ys, H b = some (.tup ys) → H' b = some (.tup ys)) : KT H' kvs xs :=
  Paired.mapP r fun _ _ z => ⟨z.1, ht _ _ z.2.1, z.2.2⟩
section
variable {P : Program} {w : World} {H : Hp} {h : Heap} {a : Addr}
theorem rd_of {u : HO} (ok : HOk P w H h) (e : Rd H a u) : ObjOk P w H h a u := e.ok ok
theorem dk_rd {kvs : List (Key × V)} (ok : HOk P w H h) (e : Rd H a (.dK kvs)) : kvs.length ≤ sizeLine ∧ (a == sysModules) = false ∧ ∃ vs, KV kvs vs ∧ h.DictOf (mixKind P w) a vs :=
  show ObjOk P w H h a (.dK kvs) from rd_of ok e
theorem dk_of {kvs : List (Key × V)} (ok : HOk P w H h) (e : H a = some (.dK kvs)) : kvs.length ≤ sizeLine ∧ (a == sysModules) = false ∧ ∃ vs, KV kvs vs ∧ h.DictOf (mixKind P w) a vs := dk_rd ok (.inl e)
theorem key_of {ks : List Key} (ok : HOk P w H h) (e : H a = some (.tup (ks.map kV))) : (tupleKind (mixKind P w)).is h ks a := by
  obtain ⟨_, its, r, o, h1, h2, n, h3⟩ := (show ObjOk P w H h a (.tup (ks.map kV)) from ok a _ e)
  exact ⟨o, its.toArray, n, h1, h2, h3, by simpa using items_are r⟩
theorem dt_rd {kvs : List (List Key × V)} (ok : HOk P w H h) (e : Rd H a (.dT kvs)) : kvs.length ≤ sizeLine ∧ (a == sysModules) = false ∧
    ∃ xs, KT H kvs xs ∧ h.DictOfH (tupleKind (mixKind P w)) a xs := by
  obtain ⟨z, y, xs, r, o, es, ep, h1, h2, h3, h4, h5⟩ := (show ObjOk P w H h a (.dT kvs) from rd_of ok e)
  refine ⟨z, y, xs, r, o, es, ep, h1, h2, h3, h4, fun x hx => ?_, h5⟩
  have all : ∀ {l : List (List Key × V)} {m : List (List Key × Addr × Value)}, KT H l m → ∀ x ∈ m, (tupleKind (mixKind P w)).is h x.1 x.2.1 := by
    intro l m q
    induction q with
    | nil => intro x hx; exact nomatch hx
    | @cons p q ps qs hq t ih =>
      intro x hx
      rcases List.mem_cons.mp hx with e | hx
      · subst e
        exact key_of ok (by rw [← hq.1]; exact hq.2.1)
      · exact ih x hx
  exact all r x hx
theorem dt_of {kvs : List (List Key × V)} (ok : HOk P w H h) (e : H a = some (.dT kvs)) : kvs.length ≤ sizeLine ∧ (a == sysModules) = false ∧
    ∃ xs, KT H kvs xs ∧ h.DictOfH (tupleKind (mixKind P w)) a xs := dt_rd ok (.inl e)
end
def DGet (H : Hp) (a : Addr) (y : V) (r : Option V) : Prop :=
  (∃ kvs k, Rd H a (.dK kvs) ∧ y = kV k ∧ r = valV kvs k) ∨ ∃ kvs k b, Rd H a (.dT kvs) ∧ y = .ref b ∧ H b = some (.tup (k.map kV)) ∧ r = valV kvs k
def DPut (H : Hp) (a : Addr) (y v : V) (H' : Hp) : Prop :=
  (∃ kvs k, H a = some (.dK kvs) ∧ y = kV k ∧ kvs.length < sizeLine ∧ H' = upd H a (.dK (putK kvs k v))) ∨
  ∃ kvs k b, H a = some (.dT kvs) ∧ y = .ref b ∧ H b = some (.tup (k.map kV)) ∧ kvs.length < sizeLine ∧ H' = upd H a (.dT (putK kvs k v))
theorem DGet.k {H : Hp} {a : Addr} {kvs : List (Key × V)} {k : Key} (e : H a = some (.dK kvs)) : DGet H a (kV k) (valV kvs k) := .inl ⟨kvs, k, .inl e, rfl, rfl⟩
theorem DGet.t {H : Hp} {a b : Addr} {kvs : List (List Key × V)} {k : List Key} (e : H a = some (.dT kvs)) (eb : H b = some (.tup (k.map kV))) : DGet H a (.ref b) (valV kvs k) := .inr ⟨kvs, k, b, .inl e, rfl, eb, rfl⟩
theorem DPut.k {H : Hp} {a : Addr} {kvs : List (Key × V)} {k : Key} {v : V} (e : H a = some (.dK kvs)) (hl : kvs.length < sizeLine) : DPut H a (kV k) v (upd H a (.dK (putK kvs k v))) := .inl ⟨kvs, k, e, rfl, hl, rfl⟩
theorem DPut.t {H : Hp} {a b : Addr} {kvs : List (List Key × V)} {k : List Key} {v : V} (e : H a = some (.dT kvs)) (eb : H b = some (.tup (k.map kV))) (hl : kvs.length < sizeLine) :
    DPut H a (.ref b) v (upd H a (.dT (putK kvs k v))) := .inr ⟨kvs, k, b, e, rfl, eb, hl, rfl⟩
section
variable {X : Cx} {pins : List (Addr × Obj)} {σ : St} {H : Hp} {s : Shared} {a : Addr} {y v : V} {u r : Value} {o : Option V} {A : Around} {E : Value → Shared → Prop}
theorem Inv.big (I : Inv X pins σ H s) : sysModules < s.heap.objs.size := by
  have h : mainGlobals < s.heap.objs.size := (I.mod.glob.keeps I.bk).lt
  exact Nat.lt_trans (by decide) h
theorem d_write {h' : Heap} {t' : Nat} {ob : HO} (I : Inv X pins σ H s) (mu : Mut (H a)) (hs : Heap.SameBut a s.heap h') (he : ∃ q, h'.get? a = some q) (new : ObjOk X.prog X.w (upd H a ob) h' a ob) :
    Inv X pins σ (upd H a ob) { s with heap := h', toks := t' } :=
  I.write (x := a) (e := a) mu (.inl rfl) (fun b q hb z => (hs.2 b hb).trans z) he new
theorem dk_new {P : Program} {w : World} {H' : Hp} {h' : Heap} {kvs : List (Key × V)} {vs : List (Key × Value)} (z : kvs.length ≤ sizeLine) (hd : (a == sysModules) = false) (rel : KV kvs vs) (dd : h'.DictOf (mixKind P w) a vs) :
    ObjOk P w H' h' a (.dK kvs) := ⟨z, hd, vs, rel, dd⟩
theorem d_setItem {H' : Hp} {Q : Unit → Shared → Prop} (hu : A.units + 1 < cLine) (I : Inv X pins σ H s) (g : DPut H a y v H') (ry : RelV y u) (rv : RelV v r) (h : ∀ s', Inv X pins σ H' s' → Q () s') :
    wpAny (model X.prog X.w) A (setItem (.ref a) u r) Q E s := by
  rcases g with ⟨kvs, k, e, ey, l, eH⟩ | ⟨kvs, k, b, e, ey, eb, l, eH⟩
  · subst ey eH
    obtain ⟨z, hd, vs, rel, dd⟩ := dk_of I.hok e
    have hz : vs.length ≤ sizeLine := by rw [← rel.length]; exact z
    have hl : (putK kvs k v).length ≤ sizeLine := by have := length_putK kvs k v; omega
    refine wpAny_setItem_pairs (hsz := hz) (kV_is ry) dd fun h' dd' hs => h _ ?_
    have he : ∃ q, h'.get? a = some q := let ⟨q, _, _, hq, _⟩ := dd'; ⟨q, hq⟩
    exact d_write I (by rw [e]; exact True.intro) hs he (dk_new hl hd (rel.put k rv) dd')
  · subst ey eH
    cases (show u = Value.ref b from ry)
    obtain ⟨z, hd, xs, rel, dd⟩ := dt_of I.hok e
    have hz : xs.length ≤ sizeLine := by rw [← Paired.length rel]; exact z
    have hl : (putK kvs k v).length ≤ sizeLine := by have := length_putK kvs k v; omega
    refine wpAny_setItem_heap (hsz := hz) (tupleKind_room_in1 hu) (key_of I.hok eb) dd fun h' dd' hs => h _ ?_
    obtain ⟨q, es, ep, hq, h2, h3, h4, _, h5⟩ := dd'
    refine d_write I (by rw [e]; exact True.intro) hs ⟨q, hq⟩ ⟨hl, hd, _, (rel.put k eb rv).keeps fun c ys ec => ?_, q, es, ep, hq, h2, h3, h4, h5⟩
    rw [upd_ne (ne_of ec e (fun z => nomatch z))]
    exact ec
end
section
variable {X : Cx} {pins : List (Addr × Obj)} {σ : St} {H : Hp} {s : Shared} {a : Addr} {kvs : List (Key × V)} {k : Key} {u : Value} {A : Around} {E : Value → Shared → Prop}
end
def sDPut (td ty tv : TE) : TS := fun D σ H => tv σ H fun v H1 => td σ H1 fun x H2 => ty σ H2 fun y H3 => ∃ a H4, x = .ref a ∧ DPut H3 a y v H4 ∧ D.nx σ H4
section
variable {X : Cx} {o i e value : Expr} {pos pos' tpos : Pos} {td ty tv : TE}
theorem ps_dput (hu : X.A.units + 1 < cLine) (ho : PE X o td) (hi : PE X i ty) (hv : PE X value tv) (hs : swapsWith value (some (.Subscript o i pos')) pos.line X.env = pure false) :
    PS X (.Assign [.Subscript o i pos'] value pos) (sDPut td ty tv) := by
  intro pins s σ H D I h
  refine wpAny_Assign_Subscript (thn (hv pins s σ H _ I h) fun r s1 ⟨v, H1, I1, rv, q1⟩ => thn (ho pins s1 σ H1 _ I1 q1) fun u s2 ⟨x, H2, I2, rx, q2⟩ => thn (hi pins s2 σ H2 _ I2 q2) fun iv s3 ⟨y, H3, I3, ry, a, H4, ex, g, q3⟩ => ?_) hs
  subst ex
  obtain rfl : u = Value.ref a := rx
  exact d_setItem hu I3 g ry rv fun s4 I4 => ⟨σ, H4, I4, q3⟩
end
theorem dt_empty {P : Program} {w : World} {H : Hp} (h : Heap) (hb : sysModules < h.objs.size) : ObjOk P w H (h.push { cls := .type "dict", data := .dict #[] }) h.objs.size (.dT []) :=
  ⟨Nat.zero_le _, beq_eq_false_iff_ne.mpr (Ne.symm (Nat.ne_of_lt hb)), [], .nil, _, #[], 0, Heap.get?_push_size _ rfl, ⟨rfl, rfl, rfl⟩, rfl, rfl, List.nodup_nil⟩
def tDNewT : TE := fun _ H Q => ∀ p, H p = none → Q (.ref p) (upd H p (.dT []))
section
variable {X : Cx} {pos : Pos}
theorem pe_dnewT : PE X (.Dict [] [] pos) tDNewT := fun pins s σ H Q I h =>
  wpAny_Dict_empty ⟨.ref s.heap.objs.size, _, I.laid (a := s.heap.objs.size) (o := .dT []) (t' := s.toks) (fun _ _ q => Heap.get?_push_of_some _ q) (Nat.le_refl _) (dt_empty s.heap I.big), rfl, h _ (I.hok.fresh (Nat.le_refl _))⟩
end
structure M2 (X : Cx) (o : Expr) (m : Str) (apos : Pos) (e f : Expr) (cpos : Pos) : Prop where
  base : attributeBase o m X.env (eval o X.env) = eval o X.env
  few : ((backTo cpos (starEach [e, f] X.env)).all (fun x => !x.1) && (backToKw cpos (keywordEach [] X.env)).all (fun x => x.1.isSome)
    && decide (([e, f] : List Expr).length + ([] : List Keyword).length + (if ([] : List Keyword).isEmpty then 0 else 1) < 30)) = true
  line : (apos.endLine == cpos.line) = true
  trees : backTo cpos (starEach [e, f] X.env) = [(false, eval e X.env), (false, eval f X.env)]
def IsD (H : Hp) (a : Addr) : Prop := (∃ kvs, Rd H a (.dK kvs)) ∨ ∃ kvs, Rd H a (.dT kvs)
theorem isD_at {X : Cx} {pins : List (Addr × Obj)} {σ : St} {H : Hp} {s : Shared} {a : Addr} (I : Inv X pins σ H s) (d : IsD H a) :
    s.TypeIs (.ref a) "dict" ∧ (∀ b, Value.ref a = .ref b → ∃ ob, s.heap.get? b = some ob ∧ ob.dict = none) ∧ (a == sysModules) = false := by
  rcases d with ⟨kvs, e⟩ | ⟨kvs, e⟩
  · obtain ⟨_, hd, vs, _, dd⟩ := dk_rd I.hok e
    refine ⟨dd.typeIs, fun b q => ?_, hd⟩
    cases q
    obtain ⟨ob, _, _, h1, h2, _⟩ := dd
    exact ⟨ob, h1, h2.2.1⟩
  · obtain ⟨_, hd, xs, _, dd⟩ := dt_rd I.hok e
    refine ⟨dd.typeIs, fun b q => ?_, hd⟩
    cases q
    obtain ⟨ob, _, _, h1, h2, _⟩ := dd
    exact ⟨ob, h1, h2.2.1⟩
section
variable {X : Cx} {pins : List (Addr × Obj)} {σ : St} {H : Hp} {s : Shared} {a : Addr} {y d : V} {u r : Value} {o : Option V} {A : Around} {E : Value → Shared → Prop}
theorem d_get2 {Q : Value → Shared → Prop} (hu : A.units + 1 < cLine) (I : Inv X pins σ H s) (g : DGet H a y o) (ry : RelV y u) (rd : RelV d r) (h : ∀ w' s', Inv X pins σ H s' → RelV (o.getD d) w' → Q w' s') :
    wpAny (model X.prog X.w) A (call (.builtin "dict.get") [.ref a, u, r]) Q E s := by
  rcases g with ⟨kvs, k, e, ey, l⟩ | ⟨kvs, k, b, e, ey, eb, l⟩
  · subst ey
    obtain ⟨z, hd, vs, rel, dd⟩ := dk_rd I.hok e
    refine call_meetsIn PySem.F.slot_dict_get dd.typeIs PySem.F.entry_dict_get (PySem.F.args_dict_get_3 _ _ _) (meets_dict_get_default (mixKind X.prog X.w) a (kV_is ry) hd r) ⟨_, dd.mapOf, h _ _ (I.tok _) ?_⟩
    rw [l]
    exact (rel.val k).getD rd
  · subst ey
    cases (show u = Value.ref b from ry)
    obtain ⟨z, hd, xs, rel, dd⟩ := dt_rd I.hok e
    refine call_meetsIn PySem.F.slot_dict_get dd.typeIs PySem.F.entry_dict_get (PySem.F.args_dict_get_3 _ _ _) (meetsH_dict_get_default (tupleKind (mixKind X.prog X.w)) a b hd r) ⟨tupleKind_room_in1 hu, k, xs, key_of I.hok eb, dd, h _ _ (I.tok _) ?_⟩
    rw [l]
    exact (rel.val k).getD rd
end
def tDGet2 (td ty tx : TE) : TE := fun σ H Q => td σ H fun x H1 => ∃ a, x = .ref a ∧ IsD H1 a ∧ ty σ H1 fun y H2 => tx σ H2 fun z H3 => ∃ o, DGet H3 a y o ∧ Q (o.getD z) H3
section
variable {X : Cx} {o e f : Expr} {apos cpos : Pos} {td ty tx : TE}
theorem pe_dget2 (hu : X.A.units + 1 < cLine) (ho : PE X o td) (he : PE X e ty) (hf : PE X f tx) (m : M2 X o "get" apos e f cpos) : PE X (.Call (.Attribute o "get" apos) [e, f] [] cpos) (tDGet2 td ty tx) := by
  intro pins s σ H Q I h
  refine wpAny_Call_method m.base m.few m.line PySem.F.plainAttrs_dict PySem.F.slot_dict_get PySem.F.type_dict_get (thn (ho pins s σ H _ I h) fun u s1 ⟨x, H1, I1, rx, a, ex, d, q1⟩ => ?_)
  subst ex
  obtain rfl : u = Value.ref a := rx
  obtain ⟨t1, t2, _⟩ := isD_at I1 d
  refine ⟨t1, t2, ?_⟩
  rw [m.trees]
  refine Calls.callWith_builtin rfl (Calls.evalArgs_plain (Calls.spliced_cons (thn (he pins s1 σ H1 _ I1 q1) fun iv s2 ⟨y, H2, I2, ry, q2⟩ =>
    Calls.spliced_cons (thn (hf pins s2 σ H2 _ I2 q2) fun fv s3 ⟨z, H3, I3, rz, ov, g, q3⟩ => Calls.spliced_nil ?_))))
  exact d_get2 hu I3 g ry rz fun w' s4 I4 rw' => ⟨_, H3, I4, rw', q3⟩
end
section
variable {X : Cx} {pins : List (Addr × Obj)} {σ : St} {H : Hp} {s : Shared} {a : Addr} {kvs : List (Key × V)} {A : Around} {E : Value → Shared → Prop}
end
section
variable {X : Cx} {pins : List (Addr × Obj)} {σ : St} {H : Hp} {s : Shared} {a : Addr} {y : V} {u : Value} {A : Around} {E : Value → Shared → Prop}
end
end L2
namespace Att
open PySem PySem.W PySem.Calls PyProof.Rows
theorem ints_of_wellAll {P : Params} {h : Heap} : ∀ (ns : List Int) (vs : List Value), WellAll P h vs (ns.map WData.int) → IntsAre vs ns := by
  intro ns
  induction ns with
  | nil =>
    intro vs w
    rw [List.map_nil] at w
    cases w
    exact .nil
  | cons n ns ih =>
    intro vs w
    rw [List.map_cons] at w
    cases w with
    | cons a b =>
      cases a
      exact .cons _ _ (ih _ b)
theorem script_of {l : OpenLaw} {n : Nat} (hn : l.most = some n) {P : Params} {h : Heap} {args : List WData} {vals : List Value}
    (hpre : l.row.toRowW.claim.pre args = true) (hwl : WellAll P h vals args) :
    ∃ a vs ns, vals = [Value.ref a] ∧ args = [WData.list (ns.map WData.int)] ∧ h.get? a = some { cls := .type "list", data := .seq vs.toArray } ∧ IntsAre vs ns ∧ ns.length ≤ n := by
  have hsh : WShape.hasAll [] args [.list .int] = true := (pre_splitW hpre).1
  have hc : l.pre.holds [] { args := args } = true := (pre_splitW hpre).2
  obtain ⟨d, r, rfl, h1, h2⟩ := hasAllW_cons hsh
  obtain rfl := hasAllW_nil h2
  obtain ⟨xs, rfl, h3⟩ := hasW_list h1
  obtain ⟨ns, rfl⟩ := items_int h3
  have hlen : ns.length ≤ n := by
    unfold OpenLaw.pre at hc
    have h4 : (WTm.not (.lt (.lit (.int (n : Int))) (.len (.arg 0)))).holds [] { args := [.list (ns.map .int)] } = true := by
      have h4 := (holds_andW hc).1
      rw [hn] at h4
      exact h4
    have h5 := condW_of h4 (w_not (w_lt w_lit (w_len_list (w_arg rfl))))
    rw [List.length_map] at h5
    refine Nat.le_of_not_lt fun q => ?_
    have q' : (n : Int) < ((ns.length : Nat) : Int) := by omega
    first
      | (rw [decide_eq_true q'] at h5; exact absurd h5 (by decide))
      | (simp at h5; omega)
  cases hwl with
  | cons w1 w2 =>
    cases w2
    cases w1 with
    | list ho hall => exact ⟨_, _, ns, rfl, rfl, ho, ints_of_wellAll ns _ hall, hlen⟩
theorem post_true (l : OpenLaw) (args : List WData) : l.row.toRowW.claim.post args (.bool true) args = true :=
  postW_of (r := l.row.toRowW) (X := (true == true))
    (show WShape.has [] (.bool true) .bool = true by first | rfl | decide | simp [WShape.has, WShape.arms, WShape.armsAll])
    (show (WTm.eq .res (.lit (.bool true))).value [] { args := args, res := some (.bool true), after := args } = some (.bool (true == true)) from w_eq_bool (w_res rfl) w_lit) rfl
theorem attach_call {l : OpenLaw} {n : Nat} {q : Program} {loose : List Str} {XP : (Str → Option Value) → Heap → Prop} {YP : World → Heap → Prop} {d : DefRec}
    (hn : l.most = some n) (hdf : d.params.defaults = [])
    (call : ∀ (w : World) (s₀ s₁ : Shared) (mg mb : Str → Option Value) (fa : Addr) (o : Obj) (pm cd doc : Value) (a : Addr) (vs : List Value) (ns : List Int),
      Ground q loose [] XP w s₀ mg mb s₁.heap → YP w s₁.heap →
      s₁.heap.get? fa = some o → o.data = .func (docDef d.name d.params d.body d.scope pm cd doc) → s₁.heap.CodeRec cd d.name → mg d.name = some (.ref fa) →
      s₁.heap.get? a = some { cls := .type "list", data := .seq vs.toArray } → IntsAre vs ns → ns.length ≤ n → s₁.gens = #[] →
      codeAny (model l.prog w) callerA (.call (.ref fa) ⟨[.ref a], []⟩) (fun r s' => r = .ok (.ret (.bool true)) ∧ OldK s₁.heap s'.heap ∧ s'.os = s₁.os ∧ AllBare s'.gens) s₁) :
    WalkO q loose XP YP l.row.toRowW d [] (fun f vs => PySem.call f vs) := by
  intro w s₀ s₁ mg mb G Y fa o pm cd doc dV kV ho hd hcd hD hmg hg args vals as hpre hlay hrd hwl hlo
  obtain rfl : dV = .none := Dflts.none hD hdf
  obtain rfl : kV = .none := Dflts.noKw hD
  obtain ⟨a, vs, ns, rfl, rfl, hobj, hints, hlen⟩ := script_of hn hpre hwl
  refine enter_call (codeAny_mono (call w s₀ s₁ mg mb fa o pm cd doc a vs ns G Y ho (fd_plain hd) hcd hmg hobj hints hlen hg) fun r s' hq => ?_)
  obtain ⟨rfl, h2, h3, h4⟩ := hq
  exact ⟨.inl ⟨.bool true, .bool true, [], rfl, fun _ => rfl, .bool true, post_true l _, fun _ => ⟨List.Pairwise.nil, fun _ hm => (nomatch hm)⟩⟩, h2, h3, h4⟩
section
variable {prog : Program} {w : World} {A : Around} {E : Value → Shared → Prop} {s : Shared} {K : Frag}
end
end Att
namespace L2
open PySem PySem.Spec PyProof.Rows
theorem vals_ints : ∀ {vs : List Value} {ns : List Int}, IntsAre vs ns → Vals (ns.map V.int) vs
  | _, _, .nil => .nil
  | _, _, .cons n t h => .cons ⟨t, rfl⟩ (vals_ints h)
def Only (H : Hp) : Prop := ∀ b, H b = none ∨ ∃ o xs, H b = some (.frz o (.lst xs))
theorem law_call {P : Program} {w : World} {K : PySem.W.Frag} {mg mb : Str → Option Value} {CX : CXT} {k : Nat} {fa a : Addr} {fd : FuncData} {x : Str} {sp : Sp} {s₁ : Shared} {vs : List Value} {ns : List Int}
    (KX : K.In s₁.heap) (hns : s₁.heap.Ns mainGlobals mg) (hb : s₁.heap.Ns builtinsNs mb) (hbb : ∀ x : Str, x ≠ "__name__" → mb x = bootBuiltins x) (hlim : s₁.heap.NoLimit) (hbm : ∃ bm o, mg "__builtins__" = some (.ref bm) ∧ bm ≠ builtinsNs ∧ s₁.heap.get? bm = some o ∧ o.cls = .type "module" ∧ o.dict = some builtinsNs ∧ o.data = .plain) (hg : s₁.gens = #[])
    (ha : s₁.heap.get? a = some { cls := .type "list", data := .seq vs.toArray }) (hi : IntsAre vs ns) (hl : ns.length ≤ sizeLine) (hr : Room k callerA)
    (F : ∀ base : Heap, K.In base → base.Ns mainGlobals mg → FnOk P w K mg base CX k fa fd [x] sp) (hbind : ∀ (s : Shared) (u : Value), BindsTo s fd ⟨[u], []⟩ [(x, u)])
    (hsp : ∀ H : Hp, Only H → SqL K H a (ns.map V.int) → sp [.ref a] H (fun v _ => v = .bl true) fun _ _ _ => False)
    (hCX : ∀ H e s', CX [] H s₁ (fun _ _ _ => False) e s' → False) :
    codeAny (model P w) callerA (.call (.ref fa) ⟨[.ref a], []⟩) (fun r s' => r = .ok (.ret (.bool true)) ∧ OldK s₁.heap s'.heap ∧ s'.os = s₁.os ∧ AllBare s'.gens) s₁ := by
  have rv := vals_ints hi
  have lenV := hi.length
  -- from an abstract heap in which nothing but the script may be tracked
  have core : ∀ H : Hp, Only H → SqL K H a (ns.map V.int) → HOk P w H s₁.heap → (∀ b, H b ≠ none → b = a) → (H a ≠ none → K.lookup a = none) →
      codeAny (model P w) callerA (.call (.ref fa) ⟨[.ref a], []⟩) (fun r s' => r = .ok (.ret (.bool true)) ∧ OldK s₁.heap s'.heap ∧ s'.os = s₁.os ∧ AllBare s'.gens) s₁ := by
    intro H hO hS hok hA hK
    have base_of : ∀ {b : Addr} {o : Obj}, s₁.heap.get? b = some o → H b = none → (hidT s₁.heap H).get? b = some o := fun e n => hidT_get e n
    have noA : ∀ {b : Addr} {o : Obj} {es : Array DictEntry} {ep : Nat}, s₁.heap.get? b = some o → o.data = .dict es ep → H b = none := fun {b o es ep} e d => by
      cases q : H b with
      | none => rfl
      | some u =>
        have e' : b = a := hA b (by rw [q]; simp)
        subst e'
        rw [ha] at e; cases e
        have d' : Data.seq vs.toArray _ = Data.dict es ep := d
        cases d'
    have nsK : ∀ {b : Addr} {m : Str → Option Value}, s₁.heap.Ns b m → (hidT s₁.heap H).Ns b m := fun {b m} ⟨o, es, ep, e, d, r⟩ => ⟨o, es, ep, base_of e (noA e d), d, r⟩
    have hKb : K.In (hidT s₁.heap H) := fun b o e => base_of (KX b o e) (by
      cases q : H b with
      | none => rfl
      | some u =>
        have e' : b = a := hA b (by rw [q]; simp)
        subst e'
        rw [hK (by rw [q]; simp)] at e; cases e)
    have hbm' : ∃ bm o, mg "__builtins__" = some (.ref bm) ∧ bm ≠ builtinsNs ∧ (hidT s₁.heap H).get? bm = some o ∧ o.cls = .type "module" ∧ o.dict = some builtinsNs ∧ o.data = .plain := by
      obtain ⟨bm, ob, b1, b2, b3, b4, b5, b6⟩ := hbm
      refine ⟨bm, ob, b1, b2, base_of b3 ?_, b4, b5, b6⟩
      cases q : H bm with
      | none => rfl
      | some u =>
        have e' : bm = a := hA bm (by rw [q]; simp)
        rw [e', ha] at b3
        cases b3
        exact absurd (show Value.type "list" = Value.type "module" from b4) (by decide)
    have hM : Mod K mg (hidT s₁.heap H) := ⟨hKb, nsK hns, ⟨mb, nsK hb, hbb⟩, (let ⟨mc, h1, h2⟩ := hlim; ⟨mc, nsK h1, h2⟩), hbm'⟩
    have e0 : Env0 P w K mg (hidT s₁.heap H) callerA [] s₁ H := ⟨rfl, hM, fun b o e => of_hidT e, Nat.le_of_eq (hidT_size _ _), trivial, fun b hb => absurd (show b ∈ ([] : List Addr) from hb) (by simp), hok, .of_eq hg⟩
    refine codeAny_mono ((F _ hKb (nsK hns)).run callerA [] s₁ H ⟨[.ref a], []⟩ [.ref a] [.ref a] _ _ hr e0 (hbind s₁ (.ref a)) (.cons rfl .nil) (hsp H hO hS)) fun r s' h => ?_
    cases r with
    | error e => exact (hCX H e s' h).elim
    | ok fl =>
      cases fl with
      | next => exact False.elim h
      | brk => exact False.elim h
      | cont => exact False.elim h
      | ret u =>
        obtain ⟨v, H', os, bare, un, hok', r', q⟩ := h
        have q' : v = .bl true := q
        subst q'
        obtain rfl : u = Value.bool true := r'
        refine ⟨rfl, OldK.of_keep fun b o e => ?_, os, bare⟩
        cases q : H b with
        | none => exact un.keep b o e q (by intro z; exact absurd (show b ∈ ([] : List Addr) from z) (by simp)) (by simp)
        | some u =>
          rcases hO b with z | ⟨ob, xs, z⟩
          · rw [q] at z; cases z
          · have z2 := un.frzs b ob _ z
            obtain ⟨e1, _⟩ := hok b _ z
            obtain ⟨e2, _⟩ := hok' b _ z2
            rw [e] at e1; cases e1
            exact e2
  cases hk : K.lookup a with
  | some o =>
    -- the script is one of the module's own objects
    have e := KX a o hk
    rw [ha] at e
    cases e
    refine core (fun _ => none) (fun _ => .inl rfl) (.inr ⟨_, vs.toArray, _, hk, rfl, rfl, rfl, by rw [List.size_toArray, lenV]; exact hl, by simpa using rv⟩) (fun b u z => by have z' : (none : Option HO) = some u := z; cases z') (fun b z => absurd rfl z) fun z => absurd rfl z
  | none =>
    refine core (fun b => if b = a then some (.frz { cls := .type "list", data := .seq vs.toArray } (.lst (ns.map V.int))) else none) (fun b => ?_) (.inl (.inr ⟨{ cls := .type "list", data := .seq vs.toArray }, if_pos rfl⟩)) (fun b u z => ?_) (fun b z => ?_) fun _ => hk
    · by_cases hb : b = a
      · exact .inr ⟨_, _, if_pos hb⟩
      · exact .inl (if_neg hb)
    · by_cases hb : b = a
      · have z' := (if_pos hb).symm.trans z
        cases z'
        subst hb
        exact ⟨ha, by rw [List.length_map]; exact hl, vs, _, rv, ha⟩
      · have z' := (if_neg hb).symm.trans z
        cases z'
    · by_cases hb : b = a
      · exact hb
      · exact absurd (if_neg hb) z
end L2
namespace L2
open PySem PySem.Spec PyProof.Rows
abbrev KOf {K : PySem.W.Frag} {h : Heap} (_ : K.In h) : PySem.W.Frag := K
theorem walk_of {l : PySem.W.OpenLaw} {n k : Nat} {q : Program} {loose : List Str} {XP : (Str → Option Value) → Heap → Prop} {YP : World → Heap → Prop} {d : DefRec} {K : Params → PySem.W.Frag} {CX : World → CXT} {sp : World → Sp} {x : Str}
    (hn : l.most = some n) (hn2 : n ≤ sizeLine) (hdf : d.params.defaults = []) (hr : Room k callerA)
    (hY : ∀ (w : World) (h : Heap), YP w h → (K w.params).In h)
    (F : ∀ (w : World) (mg : Str → Option Value) (fa : Addr) (h : Heap), (K w.params).In h → h.Ns mainGlobals mg → mg d.name = some (.ref fa) →
      ∃ fd : FuncData, (∀ (s : Shared) (u : Value), BindsTo s fd ⟨[u], []⟩ [(x, u)]) ∧
        ∀ base : Heap, (K w.params).In base → base.Ns mainGlobals mg → FnOk l.prog w (K w.params) mg base (CX w) k fa fd [x] (sp w))
    (hsp : ∀ (w : World) (H : Hp) (a : Addr) (ns : List Int), ns.length ≤ n → Only H → SqL (K w.params) H a (ns.map V.int) → sp w [.ref a] H (fun v _ => v = .bl true) fun _ _ _ => False)
    (hCX : ∀ (w : World) (H : Hp) (s : Shared) (e : Value) (s' : Shared), CX w [] H s (fun _ _ _ => False) e s' → False) :
    PySem.W.WalkO q loose XP YP l.row.toRowW d [] (fun f vs => PySem.call f vs) := by
  refine Att.attach_call hn hdf fun w s₀ s₁ mg mb fa o pm cd doc a vs ns G Y ho hd hcd hmg hobj hints hlen hg => ?_
  have KX := hY w _ Y
  obtain ⟨fd, hb, hF⟩ := F w mg fa _ KX G.T.g hmg
  exact law_call KX G.T.g G.T.b G.T.builtins G.T.nolimit G.T.bmain hg hobj hints (Nat.le_trans hlen hn2) hr hF hb (fun H hO hS => hsp w H a ns hlen hO hS) fun H e s' => hCX w H s₁ e s'
end L2
/- THE LAST THEOREM (shape; LID, My.* are yours):
   My.Adr: a structure of the addresses that your layer names (classes, functions); My.Txt K t: a structure (Prop) of the equations over K;
   My.txt_mk : {K} {implicit addresses ..} (e1 : nsIn K mainGlobals "law" = some (some (.ref f))) (e2 : K.lookup f = some ⟨oc, od, .func (fnOf "law" "law" params body scope dV kV doc pm an cdv ct), sl⟩) (e3 : codeIn K cdv "law" = true) .. : ∃ t, My.Txt K t
set_option maxRecDepth 100000 in
set_option maxHeartbeats 0 in
theorem PySem.Challenge.cw_LID_holds : PySem.Challenge.rw_LID.Holds := by
  w_on; o_law; k_head; (case hw => w_witness2)
  k_fill
  refine L2.walk_of (l := PySem.Challenge.rw_LID) (n := 63) (k := 40) (x := "script") (CX := fun w => ..) (sp := fun _ => My.sp_law) rfl (by decide) rfl ⟨rfl, by decide, by decide⟩ (fun w h Y => PySem.W.kIn_of Y) ?F ?S ?C
  case F =>
    intro w mg fa h KX G hmg
    have T : ∃ t, My.Txt (L2.KOf KX) t := by
      dsimp only [L2.KOf]                          -- K must stand as «<heap const> w.params» for k_is
      refine' My.txt_mk ?e1 ?e2 ?e3 ..
      (case e1 => PySem.W.k_is)                    -- in the order: a name -> its address -> its object -> its parts
      (case e2 => PySem.W.k_is)
      ..
    obtain ⟨t, T⟩ := T
    have e0 := hmg.symm.trans (PySem.W.mg_of KX G T.law)
    cases e0                                       -- fa is the law's own address
    exact ⟨_, fun s u => .of_eq rfl, fun base kb nb => My.law_fn T kb nb⟩     -- if «.of_eq rfl» comes too early: refine' ⟨_, ?b, fun base kb nb => My.law_fn T kb nb⟩; exact fun s u => .of_eq rfl
  case S => exact fun w H a ns hl hO hS => ..
  case C => exact ..
(the tactic k_is has no namespace: write k_is) -/
namespace L2
open PySem PySem.Spec PyProof.Rows
def inClass (s : Stmt) (j : Nat) : Stmt := match s with
  | .ClassDef _ _ _ body _ _ _ _ _ _ _ => body.getD j (.Pass ⟨0, 0, 0, 0⟩)
  | _ => .Pass ⟨0, 0, 0, 0⟩
def defArgs (s : Stmt) : Arguments := match s with
  | .FunctionDef _ a _ _ _ _ _ _ _ _ => a
  | _ => { posonlyargs := [], args := [], vararg := none, kwonlyargs := [], kw_defaults := [], kwarg := none, defaults := [] }
def defBody (s : Stmt) : List Stmt := match s with
  | .FunctionDef _ _ b _ _ _ _ _ _ _ => b
  | _ => []
def defScope (s : Stmt) : Scope := match s with
  | .FunctionDef _ _ _ _ _ _ sc _ _ _ => sc
  | _ => { kind := .function, names := [], isGenerator := false, isCoroutine := false }
abbrev CX0 : CXT := fun _ _ _ _ _ _ => False
abbrev E0 : XK := fun _ _ _ => False
theorem pass0 {X : Cx} : Passes CX0 X E0 := fun _ _ _ _ _ _ _ h => h.elim
structure Fun (K : PySem.W.Frag) (x qual : Str) (st : Stmt) (f : Addr) (fd : FuncData) : Prop where
  ex : ∃ (oc : Value) (od : Option Addr) (kV doc pm : Value) (an : Option Addr) (cdv ct : Value) (osl : Array (Option Value)),
    fd = PySem.W.fnOf x qual (defArgs st) (defBody st) (defScope st) .none kV doc pm an cdv ct ∧ K.lookup f = some ⟨oc, od, .func fd, osl⟩ ∧ PySem.W.codeIn K cdv qual = true
  kp : PySem.W.keepIn K (.ref f) = true
section
variable {P : Program} {w : World} {K : PySem.W.Frag} {mg : Str → Option Value} {base : Heap}
theorem Fun.ok {x qual : Str} {st : Stmt} {f : Addr} {fd : FuncData} {N ps : List Str} {k : Nat} {sp : Sp} (F : Fun K x qual st f fd) (S : FnScope N ps (defScope st)) (len : ∀ vs H Q E, sp vs H Q E → vs.length = ps.length)
    (hbody : ∀ (cdv : Value) (A : Around) (outer : List Env) (s : Shared) (H : Hp) (vs : List V) (Q : VK) (E : XK), Room k (A.deeper (envOfC qual (defScope st) s.heap.objs.size f cdv)) → sp vs H Q E →
      ∃ t, PSs (cxOf CX0 P w K mg base N qual (defScope st) f cdv A outer s H E).nox (defBody st) t ∧ t { nx := fun _ H' => Q .non H', rt := Q } (start N vs) H) : FnOk P w K mg base CX0 (k + 1) f fd ps sp := by
  obtain ⟨oc, od, kV, doc, pm, an, cdv, ct, osl, rfl, lk, hcd⟩ := F.ex
  refine fn_of lk hcd S len fun A outer s H vs Q E hr hsp => ?_
  obtain ⟨t, h, q⟩ := hbody cdv A outer s H vs Q E hr hsp
  exact ⟨t, h.nox, q⟩
theorem Fun.binds {x qual : Str} {st : Stmt} {f : Addr} {fd : FuncData} {ps : List Str} (F : Fun K x qual st f fd)
    (h : ∀ (kV doc pm : Value) (an : Option Addr) (cdv ct : Value) (us : List Value), us.length = ps.length → bindArgs (PySem.W.fnOf x qual (defArgs st) (defBody st) (defScope st) .none kV doc pm an cdv ct) ⟨us, []⟩ = pure (ps.zip us)) : Binds K fd ps [] := by
  obtain ⟨oc, od, kV, doc, pm, an, cdv, ct, osl, rfl, lk, hcd⟩ := F.ex
  exact .all (h kV doc pm an cdv ct)
theorem fun_mk {x qual : Str} {st : Stmt} {f : Addr} {oc : Value} {od an : Option Addr} {osl : Array (Option Value)} {kV doc pm cdv ct : Value} (l : K.lookup f = some ⟨oc, od, .func (PySem.W.fnOf x qual (defArgs st) (defBody st) (defScope st) .none kV doc pm an cdv ct), osl⟩)
    (c : PySem.W.codeIn K cdv qual = true) (k : PySem.W.keepIn K (.ref f) = true) : Fun K x qual st f (PySem.W.fnOf x qual (defArgs st) (defBody st) (defScope st) .none kV doc pm an cdv ct) := ⟨⟨oc, od, kV, doc, pm, an, cdv, ct, osl, rfl, l, c⟩, k⟩
end
section
variable {X : Cx}
theorem pv (i : Nat) {x : Str} {pos : Pos} (hN : X.N[i]? = some x := by rfl) (hv : Vis X.env.scope x := by first | exact Or.inl rfl | exact Or.inr (Or.inl rfl) | exact Or.inr (Or.inr rfl)) (hd : (x == ("__debug__" : Str)) = false := by decide)
    (hcd : (x == ("__classdict__" : Str)) = false := by decide) : PE X (.Name x pos) (tVar i) := pe_var hN hv hd hcd
end
theorem iteF {A B : Prop} (h : B) : if false = true then A else B := by
  rw [if_neg Bool.false_ne_true]
  exact h
theorem iteT {A B : Prop} (h : A) : if true = true then A else B := by
  rw [if_pos rfl]
  exact h
def Same (H H' : Hp) : Prop := ∀ b o, H b = some o → H' b = some o
theorem Same.refl (H : Hp) : Same H H := fun _ _ h => h
theorem Same.trans {H H1 H2 : Hp} (a : Same H H1) (b : Same H1 H2) : Same H H2 := fun c o h => b c o (a c o h)
theorem Same.free {H H' : Hp} (e : Same H H') {l : Addr} (h : H' l = Option.none) : H l = Option.none := by
  cases q : H l with
  | none => rfl
  | some o =>
    rw [e l o q] at h
    cases h
theorem Same.seq {K : PySem.W.Frag} {H H' : Hp} {a : Addr} {xs : List V} (e : Same H H') (h : SqL K H a xs) : SqL K H' a xs := by
  rcases h with (h | ⟨o, h⟩) | h
  · exact .inl (.inl (e _ _ h))
  · exact .inl (.inr ⟨o, e _ _ h⟩)
  · exact .inr h
section
variable {κ : Type} [DecidableEq κ]
end
end L2
namespace L2
open PySem PySem.Spec PyProof.Rows
section
variable {prog : Program} {w : World} {A : Around} {R : Result → Shared → Prop} {s : Shared}
theorem compLoop_go {elt target iter : Expr} {ifs : List Expr} {scope : Scope} {pos : Pos} {it acc : Value} {env : Env} (I : Nat → Shared → Prop)
    (turn : ∀ n s, I n s → wpAny (model prog w) A (pyNext it) (fun r s₁ => match r with
      | none => R (.ok .next) s₁
      | some v => wpAny (model prog w) A (letOwnedTupleGo target it v) (fun _ s₁' => wpAny (model prog w) A (assign target env v) (fun _ s₂ =>
          wpAny (model prog w) A (forIn ifs true fun c r => if r = true then do let ok ← isTrue c env (eval c env); pure (ForInStep.yield ok) else pure (ForInStep.yield r)) (fun ok s₃ =>
            if ok = true then wpAny (model prog w) A (eval elt env) (fun x s₄ =>
              wpAny (model prog w) A (call (.builtin "list.append") [acc, x]) (fun _ s₅ => ∃ m, m < n ∧ I m s₅) (notedBy (model prog w) A env fun e s' => R (.error e) s') s₄) (notedBy (model prog w) A env fun e s' => R (.error e) s') s₃
            else ∃ m, m < n ∧ I m s₃) (notedBy (model prog w) A env fun e s' => R (.error e) s') s₂) (notedBy (model prog w) A env fun e s' => R (.error e) s') s₁') (notedBy (model prog w) A env fun e s' => R (.error e) s') s₁)
      (notedBy (model prog w) A env fun e s' => R (.error e) s') s)
    (n : Nat) (h : I n s) :
    codeAny (model prog w) A (.compLoop (.ListComp elt [⟨target, iter, ifs, 0⟩] scope pos) 0 it acc env) R s := by
  refine codeAny_loop rfl I (fun n s hI => ?_) n h
  show wpAny _ A ((compTurn (.ListComp elt [⟨target, iter, ifs, 0⟩] scope pos) 0 it acc env).onRaise (fun x => do noteFrame x env; theTreesLotGoes x)) _ _ s
  refine wpAny_noted ?_
  rw [compTurn_list]
  refine wpAny_bind (wpAny_standAt (wpAny_bind (wpAny_mono (turn n s hI) (fun r s₁ h₁ => ?_) fun _ _ h' => h')))
  cases r with
  | none => exact wpAny_pure h₁
  | some v =>
    refine wpAny_bind (wpAny_mono h₁ (fun _ s₁' h₁' => ?_) fun _ _ h' => h')
    refine wpAny_bind (wpAny_mono h₁' (fun _ s₂ h₂ => wpAny_bind (wpAny_mono h₂ (fun ok s₃ h₃ => ?_) fun _ _ h' => h')) fun _ _ h' => h')
    cases ok with
    | false => exact wpAny_pure ⟨rfl, h₃⟩
    | true =>
      exact wpAny_bind (wpAny_bind (wpAny_mono h₃ (fun x s₄ h₄ => wpAny_bind (wpAny_mono h₄ (fun _ s₅ h₅ => wpAny_pure (wpAny_pure ⟨rfl, h₅⟩)) fun _ _ h' => h')) fun _ _ h' => h'))
end
def clos (env : Env) : List (Str × NameKind) → List (Str × Addr) → List (Str × Addr)
  | [], cs => cs
  | (n, k) :: r, cs => clos env r (if (k == NameKind.free) = true then (n, (env.cells.lookup n).getD 0) :: cs else cs)
theorem closure_eq {scope : Scope} {env : Env} (h : ∀ x ∈ scope.names, x.2 = .free → ∃ c, env.cells.lookup x.1 = some c) : closureFor scope env = pure (clos env scope.names []) := by
  simp only [closureFor]
  generalize ([] : List (Str × Addr)) = cs
  revert h cs
  generalize scope.names = names
  intro h
  induction names with
  | nil => intro cs; rfl
  | cons x r ih =>
    intro cs
    obtain ⟨n, k⟩ := x
    have ih := ih fun y hy => h y (List.mem_cons_of_mem _ hy)
    rw [List.forIn_cons]
    by_cases hk : k = .free
    · subst hk
      obtain ⟨c, hc⟩ := h (n, .free) List.mem_cons_self rfl
      have hc' : env.cells.lookup n = some c := hc
      have e : clos env ((n, NameKind.free) :: r) cs = clos env r ((n, c) :: cs) := by
        show clos env r (if (NameKind.free == NameKind.free) = true then (n, (env.cells.lookup n).getD 0) :: cs else cs) = _
        rw [hc']
        rfl
      rw [e, ← ih]
      simp only [cellOf, hc', beq_self_eq_true, if_true]
      rfl
    · have hb : (k == NameKind.free) = false := by simpa using hk
      have e : clos env ((n, k) :: r) cs = clos env r cs := by
        show clos env r (if (k == NameKind.free) = true then (n, (env.cells.lookup n).getD 0) :: cs else cs) = _
        rw [hb]
        rfl
      rw [e, ← ih]
      simp only [hb, Bool.false_eq_true, if_false]
      rfl
theorem clos_mem {env : Env} {x : Str} {c : Addr} : ∀ (names : List (Str × NameKind)) (cs : List (Str × Addr)), (∀ y ∈ names, y.2 = .free → ∃ c, env.cells.lookup y.1 = some c) → (x, c) ∈ clos env names cs → (x, c) ∈ cs ∨ env.cells.lookup x = some c
  | [], cs, _, h => .inl h
  | (n, k) :: r, cs, hf, h => by
    have h' : (x, c) ∈ clos env r (if (k == NameKind.free) = true then (n, (env.cells.lookup n).getD 0) :: cs else cs) := h
    rcases clos_mem r _ (fun y hy => hf y (List.mem_cons_of_mem _ hy)) h' with q | q
    · by_cases hk : (k == NameKind.free) = true
      · rw [if_pos hk] at q
        rcases List.mem_cons.mp q with e | q
        · cases e
          obtain ⟨c, hc⟩ := hf (x, k) List.mem_cons_self (by simpa using hk)
          have hc' : env.cells.lookup x = some c := hc
          rw [hc']
          exact .inr rfl
        · exact .inl q
      · rw [if_neg hk] at q
        exact .inl q
    · exact .inr q
theorem clos_sub {env : Env} {p : Str × Addr} : ∀ (names : List (Str × NameKind)) (cs : List (Str × Addr)), p ∈ cs → p ∈ clos env names cs
  | [], _, h => h
  | (n, k) :: r, cs, h => by
    show p ∈ clos env r (if (k == NameKind.free) = true then (n, (env.cells.lookup n).getD 0) :: cs else cs)
    refine clos_sub r _ ?_
    split
    · exact List.mem_cons_of_mem _ h
    · exact h
theorem clos_has {env : Env} {x : Str} {c : Addr} : ∀ (names : List (Str × NameKind)) (cs : List (Str × Addr)), (x, NameKind.free) ∈ names → env.cells.lookup x = some c → (x, c) ∈ clos env names cs
  | [], _, h, _ => by cases h
  | (n, k) :: r, cs, h, hc => by
    show (x, c) ∈ clos env r (if (k == NameKind.free) = true then (n, (env.cells.lookup n).getD 0) :: cs else cs)
    rcases List.mem_cons.mp h with e | h
    · cases e
      refine clos_sub r _ ?_
      rw [if_pos (by simp), hc]
      exact List.mem_cons_self
    · exact clos_has r _ h hc
theorem lookup_of_all {x : Str} {c : Addr} : ∀ {l : List (Str × Addr)}, (x, c) ∈ l → (∀ d, (x, d) ∈ l → d = c) → l.lookup x = some c
  | [], h, _ => by cases h
  | (n, d) :: r, h, u => by
    rw [List.lookup_cons]
    by_cases e : x = n
    · subst e
      rw [beq_self_eq_true]
      rw [u d List.mem_cons_self]
    · rw [show (x == n) = false by simpa using e]
      rcases List.mem_cons.mp h with q | q
      · cases q
        exact absurd rfl e
      · exact lookup_of_all q fun d hd => u d (List.mem_cons_of_mem _ hd)
theorem clos_lookup {env : Env} {names : List (Str × NameKind)} {x : Str} {c : Addr} (hf : ∀ y ∈ names, y.2 = .free → ∃ c, env.cells.lookup y.1 = some c) (hx : (x, NameKind.free) ∈ names) (hc : env.cells.lookup x = some c) : (clos env names []).lookup x = some c :=
  lookup_of_all (clos_has names [] hx hc) fun d hd => by
    rcases clos_mem names [] hf hd with q | q
    · cases q
    · rw [hc] at q
      exact (Option.some.inj q).symm
theorem clos_of {env : Env} {names : List (Str × NameKind)} {x : Str} {c : Addr} (hf : ∀ y ∈ names, y.2 = .free → ∃ c, env.cells.lookup y.1 = some c) (h : (clos env names []).lookup x = some c) : env.cells.lookup x = some c := by
  rcases clos_mem names [] hf (PySem.mem_of_lookup h) with q | q
  · cases q
  · exact q
end L2
namespace L2
open PySem PySem.Spec PyProof.Rows
def cxC (X : Cx) (scope : Scope) (N : List Str) (fp : List Addr) (C : Addr) (s : Shared) (H : Hp) : Cx where
  prog := X.prog
  w := X.w
  K := X.K
  mg := X.mg
  base := X.base
  A := X.A
  N := N
  s₀ := s
  H₀ := H
  env := compEnvC scope (clos X.env scope.names []) C X.env
  outer := X.stack
  stack := X.stack
  ex := fp
  fn := fun _ => false
  calm := X.calm
  pn := []
  xe := fun _ _ => False
theorem HOk.track {P : Program} {w : World} {H : Hp} {h : Heap} {a : Addr} {o : HO} (x : HOk P w H h) (hn : H a = none) (new : ObjOk P w (upd H a o) h a o) : HOk P w (upd H a o) h := fun b u e => by
  by_cases hb : b = a
  · subst hb; rw [upd_same] at e; cases e; exact new
  · rw [upd_ne hb] at e
    exact (x b u e).stay (fun c v _ q => q) (fun c q => by rw [upd_ne (ne_of_none q hn)]; exact q) fun c xs _ q => by rw [upd_ne (ne_of_none q hn)]; exact q
theorem Un.track {fs ex : List Addr} {H H1 : Hp} {h h1 : Heap} {a : Addr} {o : HO} (u : Un fs ex H H1 h h1) (hs : h.objs.size ≤ a) (hn : H1 a = none) : Un fs ex H (upd H1 a o) h h1 where
  keep := u.keep
  slot := u.slot
  free := fun b ob q n hx => by rw [upd_ne (Nat.ne_of_lt (Nat.lt_of_lt_of_le (Heap.lt_size q) hs))]; exact u.free b ob q n hx
  there := u.there
  tups := fun b xs q => by rw [upd_ne (ne_of_none (u.tups b xs q) hn)]; exact u.tups b xs q
  frzs := fun b ob xs q => by rw [upd_ne (ne_of_none (u.frzs b ob xs q) hn)]; exact u.frzs b ob xs q
  tbls := fun b ps q => by
    obtain ⟨m, e⟩ := u.tbls b ps q
    exact ⟨m, by rw [upd_ne (ne_of_none e hn)]; exact e⟩
theorem lookup_relabel_free {env : Env} : ∀ {names : List (Str × NameKind)} {x : Str}, names.lookup x = some .free →
    (names.map fun (n, k) => if (k == NameKind.free && env.scope.kind == .function && env.kindOf n == some .cell) then (n, NameKind.cell) else (n, k)).lookup x = some .cell ∨
    (names.map fun (n, k) => if (k == NameKind.free && env.scope.kind == .function && env.kindOf n == some .cell) then (n, NameKind.cell) else (n, k)).lookup x = some .free
  | [], _, h => by simp at h
  | (n, k) :: r, x, h => by
    have ih := @lookup_relabel_free env r x
    show List.lookup x ((if (k == NameKind.free && env.scope.kind == .function && env.kindOf n == some .cell) = true then (n, NameKind.cell) else (n, k)) :: _) = _ ∨ List.lookup x ((if (k == NameKind.free && env.scope.kind == .function && env.kindOf n == some .cell) = true then (n, NameKind.cell) else (n, k)) :: _) = _
    cases hx : x == n with
    | true =>
      simp only [List.lookup_cons, hx] at h
      cases h
      by_cases hc : (NameKind.free == NameKind.free && env.scope.kind == .function && env.kindOf n == some .cell) = true
      · rw [if_pos hc]; simp only [List.lookup_cons, hx]; exact .inl trivial
      · rw [if_neg hc]; simp only [List.lookup_cons, hx]; exact .inr trivial
    | false =>
      simp only [List.lookup_cons, hx] at h
      by_cases hc : (k == NameKind.free && env.scope.kind == .function && env.kindOf n == some .cell) = true
      · rw [if_pos hc]; simp only [List.lookup_cons, hx]; exact ih h
      · rw [if_neg hc]; simp only [List.lookup_cons, hx]; exact ih h
theorem relabel_hasD {env : Env} {ow : Option Str} : ∀ {names : List (Str × NameKind)} {x : Str}, (∀ z ∈ names, z.2 = .cell → ow = some z.1) →
    ((names.map fun (n, k) => if (k == NameKind.free && env.scope.kind == .function && env.kindOf n == some .cell) then (n, NameKind.cell) else (n, k)).lookup x = some .cell ∨
    (names.map fun (n, k) => if (k == NameKind.free && env.scope.kind == .function && env.kindOf n == some .cell) then (n, NameKind.cell) else (n, k)).lookup x = some .free) → ow = some x ∨ (x, NameKind.free) ∈ names
  | [], _, _, h => by simp at h
  | (n, k) :: r, x, hc, h => by
    have ih := @relabel_hasD env ow r x fun z hz => hc z (List.mem_cons_of_mem _ hz)
    have h' : List.lookup x ((if (k == NameKind.free && env.scope.kind == .function && env.kindOf n == some .cell) = true then (n, NameKind.cell) else (n, k)) :: _) = _ ∨ List.lookup x ((if (k == NameKind.free && env.scope.kind == .function && env.kindOf n == some .cell) = true then (n, NameKind.cell) else (n, k)) :: _) = _ := h
    cases hx : x == n with
    | true =>
      have e : x = n := by simpa using hx
      subst e
      by_cases hq : (k == NameKind.free && env.scope.kind == .function && env.kindOf x == some .cell) = true
      · have hk : (k == NameKind.free) = true := by
          rw [Bool.and_assoc] at hq
          exact (Bool.and_eq_true _ _ ▸ hq).1
        rw [show k = NameKind.free by simpa using hk]
        exact .inr List.mem_cons_self
      · rw [if_neg hq] at h'
        simp only [List.lookup_cons, hx] at h'
        rcases h' with z | z
        · cases z
          exact .inl (hc _ List.mem_cons_self rfl)
        · cases z
          exact .inr List.mem_cons_self
    | false =>
      have go : _ → ow = some x ∨ (x, NameKind.free) ∈ (n, k) :: r := fun q => (ih q).imp id (List.mem_cons_of_mem _)
      by_cases hq : (k == NameKind.free && env.scope.kind == .function && env.kindOf n == some .cell) = true
      · rw [if_pos hq] at h'; simp only [List.lookup_cons, hx] at h'; exact go h'
      · rw [if_neg hq] at h'; simp only [List.lookup_cons, hx] at h'; exact go h'
structure BlkScope (X : Cx) (scope : Scope) (N : List Str) (k : Nat) (idx : List Nat) : Prop where
  kind : scope.kind = .function
  nocell : ∀ y ∈ scope.names, y.2 ≠ .cell
  names : ∀ y ∈ scope.names, y.2 = .local → scope.names.lookup y.1 = some .local
  free : ∀ y ∈ scope.names, y.2 = .free → X.env.kindOf y.1 = some .cell ∨ X.env.kindOf y.1 = some .free
  nd : N.Nodup
  len : N.length = k + idx.length
  cap : ∀ (i : Nat) (x : Str), (N.drop k)[i]? = some x → ∃ j : Nat, idx[i]? = some j ∧ X.N[j]? = some x ∧ scope.names.lookup x = some .free
def cσ (k : Nat) (idx : List Nat) (σ : St) : St := List.replicate k none ++ idx.map fun j => (σ[j]?).join
def ocl (ow : Option Str) (a : Addr) : List (Str × Addr) := match ow with | none => [] | some y => [(y, a)]
def pow (ow : Option Str) (h : Heap) : Heap := match ow with | none => h | some _ => h.push { cls := .type "cell", data := .cell none }
def cxD (X : Cx) (ow : Option Str) (scope : Scope) (N : List Str) (fp : List Addr) (C : Addr) (s : Shared) (H : Hp) : Cx :=
  { cxC X scope N fp C s H with env := compEnvC scope (ocl ow (C + 1) ++ clos X.env scope.names []) C X.env, fn := fun x => match ow with | none => false | some y => x == y }
structure DlkScope (X : Cx) (ow : Option Str) (scope : Scope) (N : List Str) (k : Nat) (idx : List Nat) : Prop where
  kind : scope.kind = .function
  cf : ∀ n acc, cellsFrom n scope.names acc = ocl ow n ++ acc
  pc : ∀ h, pushCells h scope.names = pow ow h
  nocell : ∀ z ∈ scope.names, z.2 = .cell → ow = some z.1
  names : ∀ z ∈ scope.names, z.2 = .local → scope.names.lookup z.1 = some .local
  free : ∀ z ∈ scope.names, z.2 = .free → ow ≠ some z.1 ∧ (X.env.kindOf z.1 = some .cell ∨ X.env.kindOf z.1 = some .free)
  nd : N.Nodup
  len : N.length = k + idx.length
  cap : ∀ (i : Nat) (x : Str), (N.drop k)[i]? = some x → ∃ j : Nat, idx[i]? = some j ∧ X.N[j]? = some x ∧ scope.names.lookup x = some .free
theorem cells_no : ∀ {names : List (Str × NameKind)}, (∀ y ∈ names, y.2 ≠ .cell) → (∀ n acc, cellsFrom n names acc = acc) ∧ ∀ h, pushCells h names = h
  | [], _ => ⟨fun _ _ => rfl, fun _ => rfl⟩
  | (x, k) :: r, h => by
    have ih := cells_no fun y hy => h y (List.mem_cons_of_mem _ hy)
    have hk : ¬ (k == NameKind.cell) = true := by simpa using h _ List.mem_cons_self
    refine ⟨fun n acc => ?_, fun hp => ?_⟩
    · unfold cellsFrom; rw [if_neg hk]; exact ih.1 n acc
    · unfold pushCells; rw [if_neg hk]; exact ih.2 hp
theorem BlkScope.dlk {X : Cx} {scope : Scope} {N : List Str} {k : Nat} {idx : List Nat} (S : BlkScope X scope N k idx) : DlkScope X none scope N k idx :=
  ⟨S.kind, (cells_no S.nocell).1, (cells_no S.nocell).2, fun z hz e => absurd e (S.nocell z hz), S.names, fun z hz e => ⟨nofun, S.free z hz e⟩, S.nd, S.len, S.cap⟩
theorem lookD {ow : Option Str} {x : Str} {a c : Addr} {cl : List (Str × Addr)} (h : (ocl ow a ++ cl).lookup x = some c) : (ow = some x ∧ c = a) ∨ (ow ≠ some x ∧ cl.lookup x = some c) := by
  cases ow with
  | none => exact .inr ⟨nofun, h⟩
  | some y =>
    have h' : ((y, a) :: cl).lookup x = some c := h
    rw [List.lookup_cons] at h'
    cases e : x == y with
    | true => rw [e] at h'; cases h'; exact .inl ⟨by rw [beq_iff_eq.mp e], rfl⟩
    | false => rw [e] at h'; exact .inr ⟨fun z => by cases z; simp at e, h'⟩
theorem lookD_ne {ow : Option Str} {x : Str} {a : Addr} {cl : List (Str × Addr)} (h : ow ≠ some x) : (ocl ow a ++ cl).lookup x = cl.lookup x := by
  cases ow with
  | none => rfl
  | some y =>
    show ((y, a) :: cl).lookup x = _
    rw [List.lookup_cons, show (x == y) = false from beq_eq_false_iff_ne.mpr fun z => h (by rw [z])]
theorem lookD_eq {y : Str} {a : Addr} {cl : List (Str × Addr)} : (ocl (some y) a ++ cl).lookup y = some a := by
  show ((y, a) :: cl).lookup y = _
  rw [List.lookup_cons, show (y == y) = true by simp]
theorem pow_get {ow : Option Str} {h : Heap} {b : Addr} {o : Obj} (e : h.get? b = some o) : (pow ow h).get? b = some o := by
  cases ow with
  | none => exact e
  | some y => exact Heap.get?_push_of_some _ e
theorem pow_at {y : Str} {h : Heap} {a : Addr} (e : a = h.objs.size) : (pow (some y) h).get? a = some { cls := .type "cell", data := .cell none } := by
  rw [e]; exact Heap.get?_push_size _ rfl
theorem wpAny_newEnvD {M : Model} {A : Around} {E : Value → Shared → Prop} {s : Shared} {scope : Scope} {globals : Addr} {cl : List (Str × Addr)} {qual : Str} {env : Env} {ow : Option Str} {Q : Env → Shared → Prop}
    (cf : ∀ n acc, cellsFrom n scope.names acc = ocl ow n ++ acc) (pc : ∀ h, pushCells h scope.names = pow ow h)
    (hQ : Q (newEnv scope s.heap.objs.size globals (ocl ow (s.heap.objs.size + 1) ++ cl) qual none .none (some env) builtinsNs) { s with heap := pow ow (s.heap.push { cls := .type "dict", data := .dict #[] }) }) :
    wpAny M A (newFunctionEnv scope globals cl [] qual none .none (some env)) Q E s := by
  simp only [newFunctionEnv, Option.isSome_some, if_true]
  refine wpAny_bind (wpAny_alloc ?_)
  refine wpAny_bind (wpAny_layCells _ (fun name kind cells => by cases hkc : kind == NameKind.cell <;> simp [hkc]) _ _ _ _ ?_)
  rw [cf, pc, show ({ s with heap := s.heap.push { cls := .type "dict", data := .dict #[] } } : Shared).heap.objs.size = s.heap.objs.size + 1 from Heap.size_push ..]
  rw [List.forIn_nil]
  exact wpAny_bind (wpAny_pure (wpAny_pure hQ))
section
variable {X : Cx} {pins : List (Addr × Obj)} {σ : St} {H : Hp} {s : Shared} {ow : Option Str} {scope : Scope} {N : List Str} {k : Nat} {idx : List Nat} {fp : List Addr}
theorem DlkScope.cells (S : DlkScope X ow scope N k idx) (I : Inv X pins σ H s) : ∀ z ∈ scope.names, z.2 = .free → ∃ c, X.env.cells.lookup z.1 = some c := fun z hz h => I.ok.has z.1 (S.free z hz h).2
theorem dlk_start {C D : Addr} {h₁ : Heap} {tk : Nat} {oD : Obj} {m : Str → Option Value} (S : DlkScope X ow scope N k idx) (I : Inv X pins σ H s) (hf : ∀ b ∈ fp, FpOk X pins H b) (ho : ∀ b ∈ fp, ∃ o, s.heap.get? b = some o)
    (hC : s.heap.objs.size ≤ C) (hD : s.heap.objs.size ≤ D) (hDC : D ≠ C) (hn : h₁.Ns C m) (old : ∀ b o, s.heap.get? b = some o → h₁.get? b = some o) (eD : h₁.get? D = some oD) (dD : ∀ v, oD.data ≠ .cell v) (ec : ∀ y, ow = some y → h₁.get? (C + 1) = some { cls := .type "cell", data := .cell none }) :
    Inv (cxD X ow scope N fp C s H) [(D, oD)] (cσ k idx σ) H { s with heap := h₁, toks := tk } := by
  have hcl := S.cells I
  have old2 : ∀ {x : Str} {c : Addr}, (clos X.env scope.names []).lookup x = some c → c < s.heap.objs.size := fun {x c} e => by
    obtain ⟨v, q⟩ := I.cell x c (clos_of hcl e)
    exact q.lt
  have hCs : s.heap.objs.size < C + 1 := Nat.lt_succ_of_le hC
  have nst : ∀ b, s.heap.objs.size ≤ b → b ∉ frs X.stack := fun b hb z => by
    obtain ⟨_, o, e, _⟩ := I.stack.mem z
    exact absurd (Nat.lt_of_lt_of_le (Heap.lt_size e) hb) (Nat.lt_irrefl _)
  refine ⟨⟨I.ok.mod, S.kind, I.ok.glob, I.ok.blt, hC, fun x x2 c h1 h2 => ?_, fun x hx => ?_, fun x c z e => ?_, I.ok.hd, I.ok.frames, .inl rfl, fun b hb => ⟨?_, fun x c e => ?_⟩, I.bs,
    Nat.le_trans I.ok.bsz I.sz, fun b o e hb => ?_, fun b hb z => ?_, I.stack, I.stkFree⟩, rfl, I.bare, Un.kept old, ⟨m, hn, fun i x v h1 h2 h3 => ?_⟩, fun x c e => ?_, I.hok.fresh hC, fun x c e => ?_, fun p hp => ?_, I.hok.kept old, ?_⟩
  · rcases lookD h1 with ⟨a1, a2⟩ | ⟨a1, a2⟩ <;> rcases lookD h2 with ⟨b1, b2⟩ | ⟨b1, b2⟩
    · cases a1.symm.trans b1; rfl
    · have := old2 b2; rw [a2] at this; exact absurd (Nat.lt_trans this hCs) (Nat.lt_irrefl _)
    · have := old2 a2; rw [b2] at this; exact absurd (Nat.lt_trans this hCs) (Nat.lt_irrefl _)
    · exact I.ok.inj x x2 c (clos_of hcl a2) (clos_of hcl b2)
  · rcases relabel_hasD S.nocell hx with q | q
    · cases q; exact ⟨C + 1, lookD_eq⟩
    · obtain ⟨c, e⟩ := hcl _ q rfl
      exact ⟨c, (lookD_ne (S.free _ q rfl).1).trans (clos_lookup hcl q e)⟩
  · rcases lookD e with ⟨a1, a2⟩ | ⟨a1, a2⟩
    · rw [a2]; exact Nat.le_of_lt hCs
    · cases ow with
      | none => cases z
      | some y =>
        have z' : (x == y) = true := z
        exact absurd (by rw [beq_iff_eq.mp z']) a1
  · obtain ⟨o, e⟩ := ho b hb
    exact Nat.ne_of_lt (Nat.lt_of_lt_of_le (Heap.lt_size e) hC)
  · rcases lookD e with ⟨a1, a2⟩ | ⟨a1, a2⟩
    · obtain ⟨o, q⟩ := ho b hb
      have := Heap.lt_size q
      intro z; rw [a2] at z; rw [← z] at this; exact absurd (Nat.lt_trans this hCs) (Nat.lt_irrefl _)
    · exact (hf b hb).2.2.2.2.1 x c (clos_of hcl a2)
  · rcases (hf b hb).2.2.2.1 with z | z
    · exact I.ok.noex b o e z
    · exact absurd (Nat.lt_of_lt_of_le (Heap.lt_size (I.ok.bs b o e).1) z) (Nat.lt_irrefl _)
  · rcases List.mem_cons.mp (I.stkSub b z) with q | q
    · exact (hf b hb).2.1 q
    · exact (hf b hb).2.2.1 q
  · have hi : k ≤ i := by
      by_cases hi : i < k
      · unfold cσ at h2
        rw [List.getElem?_append_left (by simpa using hi), List.getElem?_replicate, if_pos hi] at h2
        cases h2
      · omega
    obtain ⟨j, rfl⟩ : ∃ j, i = k + j := ⟨i - k, by omega⟩
    have h1' : N[k + j]? = some x := h1
    obtain ⟨l, e1, e2, e3⟩ := S.cap j x (by rw [List.getElem?_drop]; exact h1')
    have h2' : σ[l]? = some (some v) := by
      unfold cσ at h2
      rw [List.getElem?_append_right (by simp), List.getElem?_map] at h2
      simp only [List.length_replicate, Nat.add_sub_cancel_left, e1, Option.map_some, Option.some.injEq] at h2
      cases q : σ[l]? with
      | none => rw [q] at h2; cases h2
      | some z => rw [q] at h2; exact congrArg some h2
    obtain ⟨m0, hn0, hl⟩ := I.loc
    have hfree : (x, NameKind.free) ∈ scope.names := PySem.mem_of_lookup e3
    have hk := (S.free _ hfree rfl).2
    obtain ⟨u, r, l⟩ := hl l x v e2 h2' (by rcases hk with z | z; exact .inr (.inl z); exact .inr (.inr z))
    refine ⟨u, r, .inr ⟨lookup_relabel_free e3, ?_⟩⟩
    rcases l with ⟨z, _⟩ | ⟨_, c, e, o, q, d⟩
    · rcases hk with w | w
      · rw [w] at z; cases z
      · rw [w] at z; cases z
    · exact ⟨c, (lookD_ne (S.free _ hfree rfl).1).trans (clos_lookup hcl hfree e), o, old c o q, d⟩
  · rcases lookD e with ⟨a1, a2⟩ | ⟨a1, a2⟩
    · rw [a2]; exact ⟨none, _, ec _ a1, rfl⟩
    · obtain ⟨v, o, q, d⟩ := I.cell x c (clos_of hcl a2)
      exact ⟨v, o, old c o q, d⟩
  · rcases lookD e with ⟨a1, a2⟩ | ⟨a1, a2⟩
    · rw [a2]; exact I.hok.fresh (Nat.le_of_lt hCs)
    · exact I.freeC x c (clos_of hcl a2)
  · have hp' : p ∈ ([] : List (Addr × Obj)) ++ [(D, oD)] := hp
    have e : p = (D, oD) := by simpa using hp'
    subst e
    exact ⟨eD, I.hok.fresh hD, hDC, nst D hD, dD⟩
  · unfold cσ
    show _ = N.length
    rw [S.len]
    simp
theorem dlk_end {C D : Addr} {s' : Shared} {σ' : St} {H' : Hp} {ys : List V} {its : List Value} {n : Nat} {pins' : List (Addr × Obj)} (I : Inv X pins σ H s) (hf : ∀ b ∈ fp, FpOk X pins H b) (J : Inv (cxD X ow scope N fp C s H) pins' σ' H' s')
    (hC : s.heap.objs.size ≤ C) (hD : s.heap.objs.size ≤ D) (hDC : D ≠ C) (hDn : H' D = none) (eD : s'.heap.get? D = some { cls := .type "list", data := .seq its.toArray n }) (r : Vals ys its) (hz : ys.length ≤ sizeLine) :
    Inv X pins σ (upd H' D (.lst ys)) s' ∧ FpOk X pins (upd H' D (.lst ys)) C := by
  have hk : HOk X.prog X.w (upd H' D (.lst ys)) s'.heap := HOk.track J.hok hDn ⟨hz, its, n, r, eD⟩
  have u : Un (frs X.stack) fp H (upd H' D (.lst ys)) s.heap s'.heap := Un.track J.base hD hDn
  refine ⟨I.call' J.os u hk J.bare fun b hb => ⟨(hf b hb).2.2.2.1, (hf b hb).2.1, (hf b hb).2.2.2.2.1, (hf b hb).2.2.2.2.2⟩, I.fpOk hC ?_⟩
  rw [upd_ne hDC.symm]
  exact J.free
theorem BlkScope.cells (S : BlkScope X scope N k idx) (I : Inv X pins σ H s) : ∀ y ∈ scope.names, y.2 = .free → ∃ c, X.env.cells.lookup y.1 = some c := S.dlk.cells I
end
def tCompW (J : It) (σ₀ : St) (g : TG) (tt : TT) (te : TE) (R : List V → Hp → Prop) (H1 : Hp) : Prop :=
  ∃ W : Nat → Nat → List V → Hp → Prop, (∃ m, W 0 m [] H1) ∧ ∀ i m ys H, W i m ys H → ys.length ≤ sizeLine ∧
    ((J.stop i H ∧ R ys H) ∨ (J.go i H ∧ ∃ N : List V → Hp → Prop, (∀ ys' H', N ys' H' → ∃ m', m' < m ∧ W (i + 1) m' ys' H') ∧
      ∀ x H', J.yld i H x H' → g x σ₀ H' fun σ2 H2 => tt σ2 H2 fun b H3 => if b = true then te σ2 H3 fun y H4 => N (ys ++ [y]) H4 else N ys H3))
def tComp (wi : TI) (k : Nat) (idx : List Nat) (g : TG) (tt : TT) (te : TE) : TE := fun σ H Q => wi σ H fun J H1 => tCompW J (cσ k idx σ) g tt te (fun ys H' => ∀ p, H' p = none → Q (.ref p) (upd H' p (.lst ys))) H1
def PTs (X : Cx) (ifs : List Expr) (t : TT) : Prop :=
  ∀ (pins : List (Addr × Obj)) (s : Shared) (σ : St) (H : Hp) (Q : Bool → Hp → Prop), Inv X pins σ H s → t σ H Q →
    wpAny (model X.prog X.w) X.A (forIn ifs true fun c r => if r = true then do let ok ← isTrue c X.env (eval c X.env); pure (ForInStep.yield ok) else pure (ForInStep.yield r)) (TP X pins σ Q) X.xe s
def tYes : TT := fun _ H Q => Q true H
theorem pts_nil {X : Cx} : PTs X [] tYes := fun _ _ _ H _ I h => wpAny_tests_nil ⟨H, I, h⟩
theorem pts_one {X : Cx} {c : Expr} {t : TT} (h : PT X c t) : PTs X [c] t := fun pins s σ H Q I q => wpAny_tests_one (h pins s σ H Q I q)
def Agr (k : Nat) (σ' σ : St) : Prop := σ'.length = σ.length ∧ ∀ i, k ≤ i → σ'[i]? = σ[i]?
theorem Agr.set {k i : Nat} {σ σb : St} {v : Option V} (h : Agr k σ σb) (hi : i < k) : Agr k (σ.set i v) σb := ⟨by rw [List.length_set]; exact h.1, fun j hj => by rw [List.getElem?_set_ne (by omega)]; exact h.2 j hj⟩
def Own (k : Nat) (g : TG) : Prop := ∀ x σ H (Q : St → Hp → Prop) (σb : St), Agr k σ σb → g x σ H Q → g x σ H fun σ' H' => Agr k σ' σb ∧ Q σ' H'
theorem own_name {k i : Nat} (h : i < k) : Own k (gName i) := fun _ _ _ _ _ a q => ⟨a.set h, q⟩
theorem lst_push (its : List Value) (u : Value) (n : Nat) : ({ cls := .type "list", data := .seq (its.toArray.push u) n } : Obj) = { cls := .type "list", data := .seq (its ++ [u]).toArray n } := by
  rw [List.push_toArray]
section
variable {X : Cx} {pins : List (Addr × Obj)} {σ : St} {H : Hp} {s : Shared} {ow : Option Str} {scope : Scope} {N : List Str} {k : Nat} {idx : List Nat} {fp : List Addr}
theorem comp_blockD {elt target iter : Expr} {ifs : List Expr} {pos : Pos} {it : Addr} {tn : Nat → Heap → Prop} {J : It} {g : TG} {tt : TT} {te : TE} {R : List V → Hp → Prop} {E : Value → Shared → Prop} {RR : Value → Addr → Result → Shared → Prop}
    (S : DlkScope X ow scope N k idx) (hc : X.calm = true) (I : Inv X pins σ H s) (T : Turn X.prog X.w X.K target J fp it tn) (st : tn 0 s.heap) (hf : ∀ b ∈ fp, FpOk X pins H b)
    (hg : ∀ C, PG (cxD X ow scope N fp C s H) target g) (ho : Own k g) (ht : ∀ C, PTs (cxD X ow scope N fp C s H) ifs tt) (he : ∀ C, PE (cxD X ow scope N fp C s H) elt te)
    (hw : tCompW J (cσ k idx σ) g tt te R H)
    (hRR : ∀ D C s' m ys H', s'.heap.Ns C m → Inv X pins σ (upd H' D (.lst ys)) s' → FpOk X pins (upd H' D (.lst ys)) C → H' D = none → R ys H' → RR (.ref D) C (.ok .next) s') :
    wpAny (model X.prog X.w) X.A (newList []) (fun acc s₃ => wpAny (model X.prog X.w) X.A (newFunctionEnv scope X.env.globals (clos X.env scope.names []) [] X.env.qual none .none (some X.env)) (fun cenv s₄ =>
      codeAny (model X.prog X.w) X.A (.compStart (.ListComp elt [⟨target, iter, ifs, 0⟩] scope pos) 0 (.ref it) acc { cenv with scope := relabel scope X.env }) (RR acc cenv.locals) s₄) E s₃) E s := by
  refine wpAny_newObj_type (wpAny_newEnvD S.cf S.pc ?_)
  dsimp only
  generalize hH2 : s.heap.push { cls := .type "list", dict := none, data := .seq ([] : List Value).toArray } = H2
  have hCs : H2.objs.size = s.heap.objs.size + 1 := by rw [← hH2, Heap.size_push]
  have hDC : s.heap.objs.size ≠ H2.objs.size := by rw [hCs]; exact Nat.ne_of_lt (Nat.lt_succ_self _)
  have hCle : s.heap.objs.size ≤ H2.objs.size := by rw [hCs]; exact Nat.le_succ _
  have below : ∀ b, b < s.heap.objs.size → b ≠ H2.objs.size := fun b hb => by rw [hCs]; exact Nat.ne_of_lt (Nat.lt_succ_of_lt hb)
  generalize hh1 : pow ow (H2.push { cls := .type "dict", data := .dict #[] }) = h₁
  have hns₁ : h₁.Ns H2.objs.size (fun _ => none) := hh1 ▸ (Heap.Ns.new H2 (.type "dict")).keeps fun b o e => pow_get e
  have old : ∀ b o, s.heap.get? b = some o → h₁.get? b = some o := fun b o e => hh1 ▸ pow_get (Heap.get?_push_of_some _ (hH2 ▸ Heap.get?_push_of_some _ e))
  have hacc : h₁.get? s.heap.objs.size = some { cls := .type "list", data := .seq ([] : List Value).toArray 0 } := hh1 ▸ pow_get (Heap.get?_push_of_some _ (hH2 ▸ Heap.get?_push_size _ rfl))
  have hcell : ∀ y, ow = some y → h₁.get? (H2.objs.size + 1) = some { cls := .type "cell", data := .cell none } := fun y e => by
    subst e
    rw [← hh1]
    exact pow_at (Heap.size_push ..).symm
  have st₁ : tn 0 h₁ := T.keep _ _ _ st fun b _ o e => old b o e
  obtain ⟨W, ⟨m0, w0⟩, turn⟩ := hw
  have fp0 : ∀ b ∈ fp, b < s.heap.objs.size := fun b hb => by
    obtain ⟨o, e, _⟩ := T.obj _ _ st b hb
    exact Heap.lt_size e
  -- the iterator's records and the block's own objects
  have stat : ∀ {H' : Hp} {pl : List (Addr × Obj)}, (∀ b ∈ fp, H' b = none) → (∀ p ∈ pl, s.heap.objs.size ≤ p.1) → ∀ b ∈ fp, FpOk (cxD X ow scope N fp H2.objs.size s H) pl H' b := fun {H' pl} hn hp b hb => by
    refine ⟨hn b hb, below b (fp0 b hb), fun z => ?_, .inl hb, fun x c e => by
      rcases lookD e with ⟨a1, a2⟩ | ⟨a1, a2⟩
      · have := fp0 b hb
        intro z; rw [a2] at z; rw [← z, hCs] at this; exact absurd (Nat.lt_trans this (Nat.lt_succ_of_lt (Nat.lt_succ_self _))) (Nat.lt_irrefl _)
      · exact (hf b hb).2.2.2.2.1 x c (clos_of (S.cells I) a2), fun p q z => ?_⟩
    · have z' : b ∈ frs X.stack := z
      rcases List.mem_cons.mp (I.stkSub b z') with q | q
      · exact (hf b hb).2.1 q
      · exact (hf b hb).2.2.1 q
    · have q' : p ∈ ([] : List (Addr × Obj)) ++ pl := q
      have h1 := hp p (by simpa using q')
      rw [z] at h1
      exact absurd (Nat.lt_of_lt_of_le (fp0 b hb) h1) (Nat.lt_irrefl _)
  have loop : ∀ s₃ : Shared, s₃ = { s with heap := h₁ } →
      codeAny (model X.prog X.w) X.A (.compLoop (.ListComp elt [⟨target, iter, ifs, 0⟩] scope pos) 0 (.ref it) (.ref s.heap.objs.size) (compEnvC scope (ocl ow (H2.objs.size + 1) ++ clos X.env scope.names []) H2.objs.size X.env))
        (RR (.ref s.heap.objs.size) H2.objs.size) s₃ := by
    rintro s₃ rfl
    refine compLoop_go (fun n s' => ∃ i ys its H' nn, Inv (cxD X ow scope N fp H2.objs.size s H) [(s.heap.objs.size, { cls := .type "list", data := .seq its.toArray nn })] (cσ k idx σ) H' s' ∧ tn i s'.heap ∧ (∀ b ∈ fp, H' b = none) ∧ Vals ys its ∧ W i n ys H') ?_ m0
      ⟨0, [], [], H, 0, dlk_start S I hf (fun b hb => let ⟨o, e, _⟩ := T.obj _ _ st b hb; ⟨o, e⟩) hCle (Nat.le_refl _) hDC hns₁ old hacc (fun v z => by cases z) hcell, st₁, fun b hb => (hf b hb).1, .nil, w0⟩
    rintro n s' ⟨i, ys, its, H', nn, I', st', fr', rv, w'⟩
    obtain ⟨hz, alt⟩ := turn i n ys H' w'
    have pl : ∀ p ∈ [((s.heap.objs.size : Addr), ({ cls := .type "list", data := .seq its.toArray nn } : Obj))], s.heap.objs.size ≤ p.1 := fun p hp => by
      have e : p = ((s.heap.objs.size : Addr), ({ cls := .type "list", data := .seq its.toArray nn } : Obj)) := by simpa using hp
      rw [e]
      exact Nat.le_refl _
    rcases alt with ⟨stop, q⟩ | ⟨go, Nx, hN, step⟩
    · refine thn (T.done (cxD X ow scope N fp H2.objs.size s H) rfl rfl rfl hc i _ s' _ H' _ I' (stat fr' pl) st' stop) fun r s4 ⟨hr, I4⟩ => ?_
      subst hr
      obtain ⟨eD, nD, _⟩ := I4.pin _ (List.mem_append_right _ List.mem_cons_self)
      obtain ⟨a1, a2⟩ := dlk_end I hf I4 hCle (Nat.le_refl _) hDC nD eD rv hz
      obtain ⟨m4, hn4, _⟩ := I4.loc
      exact hRR _ _ s4 m4 ys H' hn4 a1 a2 nD q
    · refine thn (T.item (cxD X ow scope N fp H2.objs.size s H) rfl rfl rfl hc i _ s' _ H' _ I' (stat fr' pl) st' go) fun r s4 ⟨u, hr, h4⟩ => ?_
      subst hr
      refine thn h4 fun _ s5 ⟨x, H5, I5, r5, y5, st5, fr5⟩ => ?_
      have I5' := I5.pinned (stat fr5 pl) (T.obj _ _ st5)
      have noE : ∀ {α : Type} {t : Sem α} {Q : α → Shared → Prop} {E' : Value → Shared → Prop} {sx : Shared}, wpAny (model X.prog X.w) X.A t Q (fun _ _ => False) sx → wpAny (model X.prog X.w) X.A t Q E' sx := fun h => wpAny_mono h (fun _ _ q => q) fun _ _ z => z.elim
      refine noE (thn (hg _ _ s5 _ H5 x u _ I5' r5 (ho x _ H5 _ _ ⟨rfl, fun _ _ => rfl⟩ (step x H5 y5))) fun _ s6 ⟨σ6, H6, I6, ag, q6⟩ => ?_)
      have back : ∀ {H7 : Hp} {s7 : Shared}, Inv (cxD X ow scope N fp H2.objs.size s H) ([((s.heap.objs.size : Addr), ({ cls := .type "list", data := .seq its.toArray nn } : Obj))] ++ pinsAt fp s5.heap) σ6 H7 s7 →
          Inv (cxD X ow scope N fp H2.objs.size s H) [((s.heap.objs.size : Addr), ({ cls := .type "list", data := .seq its.toArray nn } : Obj))] (cσ k idx σ) H7 s7 ∧ tn (i + 1) s7.heap ∧ ∀ b ∈ fp, H7 b = none := fun {H7 s7} I7 => by
        refine ⟨I7.unpinned.weak (by rw [ag.1]) fun j v e => ?_, T.keep _ _ _ st5 fun b hb o e => (I7.pin (b, o) (List.mem_append_right _ (List.mem_append_right _ (mem_pinsAt hb e)))).1, fun b hb => ?_⟩
        · have hj : k ≤ j := by
            by_cases hj : j < k
            · unfold cσ at e
              rw [List.getElem?_append_left (by simpa using hj), List.getElem?_replicate, if_pos hj] at e
              cases e
            · omega
          rw [ag.2 j hj]
          exact e
        · obtain ⟨o, e, d⟩ := T.obj _ _ st5 b hb
          exact (I7.pin (b, o) (List.mem_append_right _ (List.mem_append_right _ (mem_pinsAt hb e)))).2.1
      refine noE (thn (ht _ _ s6 σ6 H6 _ I6 q6) fun b s7 ⟨H7, I7, q7⟩ => ?_)
      cases b with
      | false =>
        rw [if_neg Bool.false_ne_true] at q7 ⊢
        obtain ⟨m', hm, w7⟩ := hN _ _ q7
        obtain ⟨b1, b2, b3⟩ := back I7
        exact ⟨m', hm, i + 1, ys, its, H7, nn, b1, b2, b3, rv, w7⟩
      | true =>
        rw [if_pos rfl] at q7 ⊢
        refine noE (thn (he _ _ s7 σ6 H7 _ I7 q7) fun yv s8 ⟨z, H8, I8, r8, q8⟩ => ?_)
        obtain ⟨m', hm, w8⟩ := hN _ _ q8
        obtain ⟨b1, b2, b3⟩ := back I8
        obtain ⟨eD, nD, neD, nfD, _⟩ := b1.pin _ (List.mem_append_right _ List.mem_cons_self)
        have lenV := rv.length
        refine append_at (hsz := by rw [List.size_toArray, ← lenV]; exact hz) eD fun h9 hs9 hD9 => ?_
        have b1' : Inv (cxD X ow scope N fp H2.objs.size s H) [] (cσ k idx σ) H8 s8 := b1.pins_of fun p hp => by cases hp
        have I9 : Inv (cxD X ow scope N fp H2.objs.size s H) [] (cσ k idx σ) H8 { s8 with heap := h9 } := b1'.turned (t' := s8.toks) (fun b o hb e => (hs9.2 b hb).trans e) nD neD (.inr (Nat.le_refl _)) (fun x c e z => by
          rcases lookD e with ⟨a1, a2⟩ | ⟨a1, a2⟩
          · rw [a2, hCs] at z; exact absurd z (Nat.ne_of_gt (Nat.lt_succ_of_lt (Nat.lt_succ_self _)))
          · obtain ⟨v, q⟩ := I.cell x c (clos_of (S.cells I) a2)
            exact absurd (Nat.lt_of_lt_of_le q.lt (by rw [z]; exact Nat.le_refl _)) (Nat.lt_irrefl _)) (fun p hp => by
          have hp' : p ∈ ([] : List (Addr × Obj)) ++ [] := hp
          simp at hp')
        refine ⟨m', hm, i + 1, ys ++ [z], its ++ [yv], H8, nn + 1, I9.pins_of fun p hp => ?_, T.keep _ _ _ b2 fun b hb o e => (hs9.2 b (Nat.ne_of_lt (fp0 b hb))).trans e, b3, rv.append (.cons r8 .nil), w8⟩
        have e : p = ((s.heap.objs.size : Addr), ({ cls := .type "list", data := .seq (its ++ [yv]).toArray (nn + 1) } : Obj)) := by simpa using hp
        subst e
        exact ⟨by rw [← lst_push]; exact hD9, nD, neD, nfD, fun v z => by cases z⟩
  exact codeAny_compStart_list (loop _ rfl) (T.self _ 0 _ _ _ st₁ (loop _ rfl))
theorem pe_comp (k : Nat) (idx : List Nat) {N : List Str} {elt target iter : Expr} {ifs : List Expr} {pos : Pos} {wi : TI} {g : TG} {tt : TT} {te : TE} (S : BlkScope X scope N k idx) (hc : X.calm = true) (hi : PI X target iter wi)
    (hg : ∀ fp C s H, PG (cxC X scope N fp C s H) target g) (ho : Own k g) (ht : ∀ fp C s H, PTs (cxC X scope N fp C s H) ifs tt) (he : ∀ fp C s H, PE (cxC X scope N fp C s H) elt te)
    (hs : ∀ x, foldedSetIterable iter X.env x = pure x := by intro _; rfl) : PE X (.ListComp elt [⟨target, iter, ifs, 0⟩] scope pos) (tComp wi k idx g tt te) := by
  intro pins s σ H Q I h
  rw [eval_ListComp]
  refine wpAny_comprehension_free (use := none) rfl hs (closure_eq (S.dlk.cells I)) S.kind S.names (thn (hi pins s σ H _ I h) fun v s1 h1 => thn h1 fun itv s2 h2 => ?_)
  obtain ⟨it, fp, tn, J, H2, e, I2, T, st2, f2, w2⟩ := h2
  subst e
  refine comp_blockD (RR := fun acc C => compPost (model X.prog X.w) X.A X.xe none (EP X pins σ Q) acc C) S.dlk hc I2 T st2 f2 (fun C => hg fp C s2 H2) ho (fun C => ht fp C s2 H2) (fun C => he fp C s2 H2) w2 fun D C s' m ys H' hn I' fC hD q => ?_
  refine ⟨m, hn, fun h'' hs'' => ⟨.ref D, _, I'.turned (t' := s'.toks) (fun b o hb e => (hs''.2 b hb).trans e) fC.1 fC.2.1 fC.2.2.2.1 fC.2.2.2.2.1 fC.2.2.2.2.2, rfl, q D hD⟩⟩
theorem ps_setC (k : Nat) (idx : List Nat) {i : Nat} {x : Str} {N : List Str} {elt target iter : Expr} {ifs : List Expr} {pos pos' spos : Pos} {wi : TI} {g : TG} {tt : TT} {te : TE} (hN : X.N.Nodup) (hix : X.N[i]? = some x) (hx : Loc X.env.scope x)
    (S : BlkScope X scope N k idx) (hc : X.calm = true) (hi : PI X target iter wi)
    (hg : ∀ fp C s H, PG (cxC X scope N fp C s H) target g) (ho : Own k g) (ht : ∀ fp C s H, PTs (cxC X scope N fp C s H) ifs tt) (he : ∀ fp C s H, PE (cxC X scope N fp C s H) elt te)
    (hsw : swapsWith (.ListComp elt [⟨target, iter, ifs, 0⟩] scope pos) (some (.Name x pos')) spos.line X.env = pure true := by rfl)
    (hs : ∀ x, foldedSetIterable iter X.env x = pure x := by intro _; rfl) (hfn : X.fn x = true ∨ X.env.scope.names.lookup x = some .local := by first | exact .inl rfl | exact .inr rfl | assumption) :
    PS X (.Assign [.Name x pos'] (.ListComp elt [⟨target, iter, ifs, 0⟩] scope pos) spos) (tAsg (tComp wi k idx g tt te) (gName i)) := by
  intro pins s σ H D I h
  rw [exec_Assign_Name_used _ _ _ _ hsw]
  refine wpAny_bind (wpAny_standAt (wpAny_bind ?_))
  show wpAny _ X.A (do let _ ← comprehension (.ListComp elt [⟨target, iter, ifs, 0⟩] scope pos) scope X.env _ (newList []) false (eval iter X.env) (some (assign (.Name x pos') X.env))) _ _ s
  refine wpAny_bind (wpAny_mono (wpAny_comprehension_free (use := some (assign (.Name x pos') X.env)) (Q := fun _ s' => SP X pins D .next s') rfl hs (closure_eq (S.dlk.cells I)) S.kind S.names
    (thn (hi pins s σ H _ I h) fun v s1 h1 => thn h1 fun itv s2 h2 => ?_)) (fun _ s' hq => wpAny_pure (wpAny_pure hq)) fun _ _ e => e)
  obtain ⟨it, fp, tn, J, H2, e, I2, T, st2, f2, w2⟩ := h2
  subst e
  refine comp_blockD (RR := fun acc C => compPost (model X.prog X.w) X.A X.xe (some (assign (.Name x pos') X.env)) (fun _ s' => SP X pins D .next s') acc C) S.dlk hc I2 T st2 f2 (fun C => hg fp C s2 H2) ho (fun C => ht fp C s2 H2) (fun C => he fp C s2 H2) w2 fun D' C s' m ys H' hn I' fC hD q => ?_
  show wpAny _ X.A (assign (.Name x pos') X.env (.ref D')) _ _ s'
  refine wpAny_assign_Name (store_ok2 I' hN hix hx (show RelV (.ref D') (.ref D') from rfl) (fun s3 I3 ⟨a, sb, ha⟩ => ?_) hfn)
  have hCa : C ≠ a := by
    rcases ha with z | z
    · rw [z]; exact fC.2.1
    · exact (fC.2.2.2.2.1 x a z).symm
  refine ⟨m, hn.sameBut sb hCa, fun h'' hs'' => ⟨_, _, I3.turned (t' := s3.toks) (fun b o hb e => (hs''.2 b hb).trans e) fC.1 fC.2.1 fC.2.2.2.1 fC.2.2.2.2.1 fC.2.2.2.2.2, q D' hD⟩⟩
end
theorem comp_list {K : PySem.W.Frag} {a : Addr} {xs : List V} {σ₀ : St} {g : TG} {tt : TT} {te : TE} {R : List V → Hp → Prop} {H : Hp} (Pv : Nat → List V → Hp → Prop) (h0 : Pv 0 [] H) (hz : xs.length ≤ sizeLine)
    (hl : ∀ i ys H, i ≤ xs.length → Pv i ys H → SqL K H a xs ∧ ys.length ≤ i)
    (hs : ∀ i x ys H, xs[i]? = some x → Pv i ys H → g x σ₀ H fun σ2 H2 => tt σ2 H2 fun b H3 => if b = true then te σ2 H3 fun y H4 => Pv (i + 1) (ys ++ [y]) H4 else Pv (i + 1) ys H3)
    (hd : ∀ ys H, Pv xs.length ys H → R ys H) : tCompW (Itl K a) σ₀ g tt te R H := by
  refine ⟨fun i m ys H => m = xs.length - i ∧ i ≤ xs.length ∧ Pv i ys H, ⟨xs.length, by simp, Nat.zero_le _, h0⟩, ?_⟩
  rintro i m ys H ⟨rfl, hi, p⟩
  obtain ⟨q, ql⟩ := hl i ys H hi p
  refine ⟨by omega, ?_⟩
  by_cases hlt : i < xs.length
  · refine .inr ⟨⟨xs, xs[i], q, by simp [hlt]⟩, Pv (i + 1), fun ys' H' p' => ⟨xs.length - (i + 1), by omega, rfl, hlt, p'⟩, fun x H' y => ?_⟩
    obtain ⟨e, y⟩ := y
    subst e
    exact hs i x ys _ (y xs q) p
  · have e : i = xs.length := by omega
    subst e
    exact .inl ⟨⟨xs, q, Nat.le_refl _⟩, hd ys H p⟩
theorem comp_range {lo : Int} {n : Nat} {σ₀ : St} {g : TG} {tt : TT} {te : TE} {R : List V → Hp → Prop} {H : Hp} (Pv : Nat → List V → Hp → Prop) (h0 : Pv 0 [] H) (hz : n ≤ sizeLine)
    (hl : ∀ i ys H, i ≤ n → Pv i ys H → ys.length ≤ i)
    (hs : ∀ i ys H, i < n → Pv i ys H → g (.int (lo + i)) σ₀ H fun σ2 H2 => tt σ2 H2 fun b H3 => if b = true then te σ2 H3 fun y H4 => Pv (i + 1) (ys ++ [y]) H4 else Pv (i + 1) ys H3)
    (hd : ∀ ys H, Pv n ys H → R ys H) : tCompW (Itr lo n) σ₀ g tt te R H := by
  refine ⟨fun i m ys H => m = n - i ∧ i ≤ n ∧ Pv i ys H, ⟨n, by simp, Nat.zero_le _, h0⟩, ?_⟩
  rintro i m ys H ⟨rfl, hi, p⟩
  have ql := hl i ys H hi p
  refine ⟨by omega, ?_⟩
  by_cases hlt : i < n
  · refine .inr ⟨hlt, Pv (i + 1), fun ys' H' p' => ⟨n - (i + 1), by omega, rfl, hlt, p'⟩, fun x H' y => ?_⟩
    obtain ⟨e, y⟩ := y
    subst e y
    exact hs i ys _ hlt p
  · have e : i = n := by omega
    subst e
    exact .inl ⟨Nat.le_refl _, hd ys H p⟩
end L2
namespace L2
open PySem PySem.Spec PyProof.Rows
theorem bt_int : bootBuiltins "int" = some (.type "int") := by decide +kernel
theorem bt_bool : bootBuiltins "bool" = some (.type "bool") := by decide +kernel
theorem bt_str : bootBuiltins "str" = some (.type "str") := by decide +kernel
theorem bt_list : bootBuiltins "list" = some (.type "list") := by decide +kernel
theorem bt_tuple : bootBuiltins "tuple" = some (.type "tuple") := by decide +kernel
theorem bt_len : bootBuiltins "len" = some (.builtin "len") := by decide +kernel
theorem bt_abs : bootBuiltins "abs" = some (.builtin "abs") := by decide +kernel
theorem bt_max : bootBuiltins "max" = some (.builtin "max") := by decide +kernel
theorem bt_min : bootBuiltins "min" = some (.builtin "min") := by decide +kernel
theorem bt_sum : bootBuiltins "sum" = some (.builtin "sum") := by decide +kernel
theorem bt_all : bootBuiltins "all" = some (.builtin "all") := by decide +kernel
theorem bt_sorted : bootBuiltins "sorted" = some (.builtin "sorted") := by decide +kernel
theorem bt_isinstance : bootBuiltins "isinstance" = some (.builtin "isinstance") := by decide +kernel
section
variable {X : Cx}
def rAddG : R2 := fun x y H Q => rI0 (fun i j => .int (i + j)) x y H Q ∨ rCat x y H Q
theorem op_addG : OpR X (binaryOp .Add) rAddG := op_add.or op_cat
def rMulG : R2 := fun x y H Q => rI CMul (fun i j => .int (i * j)) x y H Q ∨ rRep x y H Q
theorem op_mulG : OpR X (binaryOp .Mult) rMulG := op_mul.or op_rep
def rSlG (K : PySem.W.Frag) : V → Option Int → Option Int → Hp → VK → Prop := fun x lo hi H Q => rSlL K x lo hi H Q ∨ rSlT K x lo hi H Q
theorem sl_G : SlR X (rSlG X.K) := sl_list.or sl_tup
def EqN (K : PySem.W.Frag) (H : Hp) : Nat → V → V → Bool → Prop
  | 0, x, y, b => flatV x = true ∧ flatV y = true ∧ b = eqV x y
  | n + 1, x, y, b => (flatV x = true ∧ flatV y = true ∧ b = eqV x y) ∨
    ∃ (p q : Addr) (xs ys : List V) (e : Nat → Bool), x = .ref p ∧ y = .ref q ∧ ((SqL K H p xs ∧ SqL K H q ys) ∨ (SqT K H p xs ∧ SqT K H q ys)) ∧
      (∀ (j : Nat) u v, xs[j]? = some u → ys[j]? = some v → EqN K H n u v (e j)) ∧ b = (xs.length == ys.length && (List.range xs.length).all e)
theorem eqV_refl {x : V} (h : flatV x = true) : eqV x x = true := by
  cases x with
  | non => rfl
  | bl b => cases b <;> rfl
  | int i => exact beq_self_eq_true i
  | str z => exact beq_self_eq_true z
  | _ => exact absurd (show false = true from h) Bool.false_ne_true
theorem eqN_refl {pins : List (Addr × Obj)} {σ : St} {H : Hp} {s : Shared} (I : Inv X pins σ H s) : ∀ {n : Nat} {x : V} {b : Bool}, EqN X.K H n x x b → b = true
  | 0, x, b, ⟨h, _, e⟩ => by rw [e]; exact eqV_refl h
  | n + 1, x, b, h => by
    rcases h with ⟨h, _, e⟩ | ⟨p, q, xs, ys, e, e1, e2, hs, he, eb⟩
    · rw [e]; exact eqV_refl h
    · subst e1
      cases e2
      have exy : xs = ys := by
        rcases hs with ⟨h1, h2⟩ | ⟨h1, h2⟩
        · exact I.list_inj h1 h2
        · exact I.tuple_inj h1 h2
      subst exy
      rw [eb, beq_self_eq_true, Bool.true_and, List.all_eq_true]
      intro j hj
      have hj' : j < xs.length := List.mem_range.mp hj
      exact eqN_refl I (he j xs[j] xs[j] (List.getElem?_eq_getElem hj') (List.getElem?_eq_getElem hj'))
theorem eqN_at {pins : List (Addr × Obj)} {σ : St} {H : Hp} {s : Shared} (I : Inv X pins σ H s) : ∀ {n : Nat} {A : Around} {x y : V} {u v : Value} {b : Bool}, A.units + n < cLine → RelV x u → RelV y v → EqN X.K H n x y b → SeqAt.EqAt A s u v b
  | 0, A, x, y, u, v, b, _, rx, ry, ⟨h1, h2, e⟩ => by rw [e]; exact eqAt_V rx ry h1 h2
  | n + 1, A, x, y, u, v, b, hu, rx, ry, h => by
    rcases id h with ⟨h1, h2, e⟩ | ⟨p, q, xs, ys, e, e1, e2, hs, he, eb⟩
    · rw [e]; exact eqAt_V rx ry h1 h2
    · subst e1 e2
      cases rx
      cases ry
      by_cases hpq : p = q
      · subst hpq
        rw [eqN_refl I h]
        exact SeqAt.EqAt.same _
      · refine SeqAt.EqAt.of_refs hpq ?_
        have items : ∀ {us vs : List Value}, Vals xs us → Vals ys vs → ∀ j (h1 : j < us.toArray.size) (h2 : j < vs.toArray.size), SeqAt.EqAt A.in1 s us.toArray[j] vs.toArray[j] (e j) := fun {us vs} r1 r2 j h1 h2 => by
          have l1 := r1.length
          have l2 := r2.length
          rw [List.size_toArray] at h1 h2
          have g1 : xs[j]? = some xs[j] := List.getElem?_eq_getElem (by omega)
          have g2 : ys[j]? = some ys[j] := List.getElem?_eq_getElem (by omega)
          obtain ⟨u', eu, ru⟩ := r1.get g1
          obtain ⟨v', ev, rv⟩ := r2.get g2
          have eu' : us.toArray[j] = u' := by
            rw [List.getElem_toArray]
            exact Option.some.inj ((List.getElem?_eq_getElem h1).symm.trans eu)
          have ev' : vs.toArray[j] = v' := by
            rw [List.getElem_toArray]
            exact Option.some.inj ((List.getElem?_eq_getElem h2).symm.trans ev)
          rw [eu', ev']
          exact eqN_at I (n := n) (by show A.units + 1 + n < cLine; omega) ru rv (he j _ _ g1 g2)
        rcases hs with ⟨h1, h2⟩ | ⟨h1, h2⟩
        · obtain ⟨us, r1, p1, _⟩ := I.list h1
          obtain ⟨vs, r2, p2, _⟩ := I.list h2
          have l1 := r1.length
          have l2 := r2.length
          by_cases hl : xs.length = ys.length
          · rw [eb, hl, beq_self_eq_true, Bool.true_and, ← hl, show xs.length = us.toArray.size by rw [List.size_toArray]; exact l1]
            exact SeqAt.RcAt.lists p1.isList p2.isList (by rw [List.size_toArray, List.size_toArray]; omega) (by omega) (items r1 r2)
          · rw [eb, show (xs.length == ys.length) = false by simpa using hl, Bool.false_and]
            exact SeqAt.RcAt.lists_lengths p1.isList p2.isList (by rw [List.size_toArray, List.size_toArray]; simp; omega) (by omega)
        · obtain ⟨us, r1, p1, _⟩ := I.tuple h1
          obtain ⟨vs, r2, p2, _⟩ := I.tuple h2
          have l1 := r1.length
          have l2 := r2.length
          have q := SeqAt.RcAt.tuples (s := s) (A := A) (l := p) (b := q) (e := e) p1 p2 (by omega) (items r1 r2)
          rw [List.size_toArray, List.size_toArray, ← l1, ← l2] at q
          by_cases hl : xs.length = ys.length
          · rw [eb, hl, beq_self_eq_true, Bool.true_and]
            rw [hl, Nat.min_self, beq_self_eq_true, Bool.and_true] at q
            exact q
          · have hb : (xs.length == ys.length) = false := by simpa using hl
            rw [eb, hb, Bool.false_and]
            rw [hb, Bool.and_false] at q
            exact q
def rEqG (K : PySem.W.Frag) : R2 := fun x y H Q => ∃ b, EqN K H 8 x y b ∧ Q (.bl b) H
def rNeG (K : PySem.W.Frag) : R2 := fun x y H Q => ∃ b, EqN K H 8 x y b ∧ Q (.bl (!b)) H
theorem eqN_items {pins : List (Addr × Obj)} {σ : St} {H : Hp} {s : Shared} {n : Nat} {A : Around} {xs ys : List V} {us vs : List Value} {e : Nat → Bool} (I : Inv X pins σ H s) (hu : A.units + 1 + n < cLine)
    (he : ∀ (j : Nat) u v, xs[j]? = some u → ys[j]? = some v → EqN X.K H n u v (e j)) (r1 : Vals xs us) (r2 : Vals ys vs) : ∀ j (h1 : j < us.toArray.size) (h2 : j < vs.toArray.size), SeqAt.EqAt A.in1 s us.toArray[j] vs.toArray[j] (e j) := fun j h1 h2 => by
  have l1 := r1.length
  have l2 := r2.length
  rw [List.size_toArray] at h1 h2
  have g1 : xs[j]? = some xs[j] := List.getElem?_eq_getElem (by omega)
  have g2 : ys[j]? = some ys[j] := List.getElem?_eq_getElem (by omega)
  obtain ⟨u', eu, ru⟩ := r1.get g1
  obtain ⟨v', ev, rv⟩ := r2.get g2
  have eu' : us.toArray[j] = u' := by
    rw [List.getElem_toArray]
    exact Option.some.inj ((List.getElem?_eq_getElem h1).symm.trans eu)
  have ev' : vs.toArray[j] = v' := by
    rw [List.getElem_toArray]
    exact Option.some.inj ((List.getElem?_eq_getElem h2).symm.trans ev)
  rw [eu', ev']
  exact eqN_at I (n := n) (by show A.units + 1 + n < cLine; omega) ru rv (he j _ _ g1 g2)
theorem rcAt_V {A : Around} {s : Shared} {y x : V} {u v : Value} (ry : RelV y u) (rx : RelV x v) (fy : flatV y = true) (fx : flatV x = true) : SeqAt.RcAt A s u v (eqV y x) := by
  cases y with
  | non =>
    cases ry
    cases x with
    | non => cases rx; exact SeqAt.RcAt.none_none
    | bl b => cases rx; exact SeqAt.RcAt.none_bool b
    | int b => obtain ⟨t, rfl⟩ := rx; exact SeqAt.RcAt.none_int b t
    | str b => obtain ⟨t, rfl⟩ := rx; exact SeqAt.RcAt.none_str b t
    | _ => exact absurd (show false = true from fx) Bool.false_ne_true
  | bl a =>
    cases ry
    cases x with
    | non => cases rx; exact SeqAt.RcAt.bool_none a
    | bl b => cases rx; exact SeqAt.RcAt.bool_bool a b
    | int b => obtain ⟨t, rfl⟩ := rx; exact SeqAt.RcAt.bool_int a b t
    | str b => obtain ⟨t, rfl⟩ := rx; exact SeqAt.RcAt.bool_str a b t
    | _ => exact absurd (show false = true from fx) Bool.false_ne_true
  | int a =>
    obtain ⟨t', rfl⟩ := ry
    cases x with
    | non => cases rx; exact SeqAt.RcAt.int_none a t'
    | bl b => cases rx; exact SeqAt.RcAt.int_bool a t' b
    | int b => obtain ⟨t, rfl⟩ := rx; exact SeqAt.RcAt.int_int a t' b t
    | str b => obtain ⟨t, rfl⟩ := rx; exact SeqAt.RcAt.int_str a t' b t
    | _ => exact absurd (show false = true from fx) Bool.false_ne_true
  | str a =>
    obtain ⟨t', rfl⟩ := ry
    cases x with
    | non => cases rx; exact SeqAt.RcAt.str_none a t'
    | bl b => cases rx; exact SeqAt.RcAt.str_bool a t' b
    | int b => obtain ⟨t, rfl⟩ := rx; exact SeqAt.RcAt.str_int a t' b t
    | str b => obtain ⟨t, rfl⟩ := rx; exact SeqAt.RcAt.str_str a t' b t
    | _ => exact absurd (show false = true from fx) Bool.false_ne_true
  | _ => exact absurd (show false = true from fy) Bool.false_ne_true
theorem rcNeAt_V {A : Around} {s : Shared} {y x : V} {u v : Value} (ry : RelV y u) (rx : RelV x v) (fy : flatV y = true) (fx : flatV x = true) : SeqAt.RcNeAt A s u v (!eqV y x) := by
  cases y with
  | non =>
    cases ry
    cases x with
    | non => cases rx; exact SeqAt.RcNeAt.none_none
    | bl b => cases rx; exact SeqAt.RcNeAt.none_bool b
    | int b => obtain ⟨t, rfl⟩ := rx; exact SeqAt.RcNeAt.none_int b t
    | str b => obtain ⟨t, rfl⟩ := rx; exact SeqAt.RcNeAt.none_str b t
    | _ => exact absurd (show false = true from fx) Bool.false_ne_true
  | bl a =>
    cases ry
    cases x with
    | non => cases rx; exact SeqAt.RcNeAt.bool_none a
    | bl b => cases rx; exact SeqAt.RcNeAt.bool_bool a b
    | int b => obtain ⟨t, rfl⟩ := rx; exact SeqAt.RcNeAt.bool_int a b t
    | str b => obtain ⟨t, rfl⟩ := rx; exact SeqAt.RcNeAt.bool_str a b t
    | _ => exact absurd (show false = true from fx) Bool.false_ne_true
  | int a =>
    obtain ⟨t', rfl⟩ := ry
    cases x with
    | non => cases rx; exact SeqAt.RcNeAt.int_none a t'
    | bl b => cases rx; exact SeqAt.RcNeAt.int_bool a t' b
    | int b => obtain ⟨t, rfl⟩ := rx; exact SeqAt.RcNeAt.int_int a t' b t
    | str b => obtain ⟨t, rfl⟩ := rx; exact SeqAt.RcNeAt.int_str a t' b t
    | _ => exact absurd (show false = true from fx) Bool.false_ne_true
  | str a =>
    obtain ⟨t', rfl⟩ := ry
    cases x with
    | non => cases rx; exact SeqAt.RcNeAt.str_none a t'
    | bl b => cases rx; exact SeqAt.RcNeAt.str_bool a t' b
    | int b => obtain ⟨t, rfl⟩ := rx; exact SeqAt.RcNeAt.str_int a t' b t
    | str b => obtain ⟨t, rfl⟩ := rx; exact SeqAt.RcNeAt.str_str a t' b t
    | _ => exact absurd (show false = true from fx) Bool.false_ne_true
  | _ => exact absurd (show false = true from fy) Bool.false_ne_true
theorem op_eqG (hu : X.A.units + 9 < cLine) : OpR X (compareOp .Eq) (rEqG X.K) := by
  intro pins s σ H x y v u Q I rx ry h
  obtain ⟨b, h, q⟩ := h
  have fin : EP X pins σ Q (.bool b) s := ⟨.bl b, H, I, rfl, q⟩
  rcases h with ⟨h1, h2, e⟩ | ⟨p, l, xs, ys, e, e1, e2, hs, he, eb⟩
  · exact rcAt_V rx ry h1 h2 X.prog X.w X.xe _ (by rw [← e]; exact fin)
  · subst e1 e2
    cases rx
    cases ry
    rcases hs with ⟨h1, h2⟩ | ⟨h1, h2⟩
    · obtain ⟨us, r1, p1, _⟩ := I.list h1
      obtain ⟨vs, r2, p2, _⟩ := I.list h2
      have l1 := r1.length
      have l2 := r2.length
      by_cases hl : xs.length = ys.length
      · refine SeqAt.RcAt.lists p1.isList p2.isList (by rw [List.size_toArray, List.size_toArray]; omega) (by omega) (eqN_items I (n := 7) (A := X.A) (by omega) he r1 r2) X.prog X.w X.xe _ ?_
        rw [List.size_toArray, ← l1]
        rw [eb, hl, beq_self_eq_true, Bool.true_and, ← hl] at fin
        exact fin
      · refine SeqAt.RcAt.lists_lengths p1.isList p2.isList (by rw [List.size_toArray, List.size_toArray]; simp; omega) (by omega) X.prog X.w X.xe _ ?_
        rw [eb, show (xs.length == ys.length) = false by simpa using hl, Bool.false_and] at fin
        exact fin
    · obtain ⟨us, r1, p1, _⟩ := I.tuple h1
      obtain ⟨vs, r2, p2, _⟩ := I.tuple h2
      have l1 := r1.length
      have l2 := r2.length
      refine SeqAt.RcAt.tuples p1 p2 (by omega) (eqN_items I (n := 7) (A := X.A) (by omega) he r1 r2) X.prog X.w X.xe _ ?_
      rw [List.size_toArray, List.size_toArray, ← l1, ← l2]
      rw [eb] at fin
      by_cases hl : xs.length = ys.length
      · rw [hl, beq_self_eq_true, Bool.true_and] at fin
        rw [hl, Nat.min_self, beq_self_eq_true, Bool.and_true]
        exact fin
      · have hb : (xs.length == ys.length) = false := by simpa using hl
        rw [hb, Bool.false_and] at fin
        rw [hb, Bool.and_false]
        exact fin
theorem op_neG (hu : X.A.units + 9 < cLine) : OpR X (compareOp .NotEq) (rNeG X.K) := by
  intro pins s σ H x y v u Q I rx ry h
  obtain ⟨b, h, q⟩ := h
  have fin : EP X pins σ Q (.bool (!b)) s := ⟨.bl (!b), H, I, rfl, q⟩
  rcases h with ⟨h1, h2, e⟩ | ⟨p, l, xs, ys, e, e1, e2, hs, he, eb⟩
  · exact rcNeAt_V rx ry h1 h2 X.prog X.w X.xe _ (by rw [← e]; exact fin)
  · subst e1 e2
    cases rx
    cases ry
    rcases hs with ⟨h1, h2⟩ | ⟨h1, h2⟩
    · obtain ⟨us, r1, p1, _⟩ := I.list h1
      obtain ⟨vs, r2, p2, _⟩ := I.list h2
      have l1 := r1.length
      have l2 := r2.length
      by_cases hl : xs.length = ys.length
      · refine SeqAt.RcNeAt.lists p1.isList p2.isList (by rw [List.size_toArray, List.size_toArray]; omega) (by omega) (eqN_items I (n := 7) (A := X.A) (by omega) he r1 r2) X.prog X.w X.xe _ ?_
        rw [List.size_toArray, ← l1]
        rw [eb, hl, beq_self_eq_true, Bool.true_and, ← hl] at fin
        exact fin
      · refine SeqAt.RcNeAt.lists_lengths p1.isList p2.isList (by rw [List.size_toArray, List.size_toArray]; simp; omega) (by omega) X.prog X.w X.xe _ ?_
        rw [eb, show (xs.length == ys.length) = false by simpa using hl, Bool.false_and] at fin
        exact fin
    · obtain ⟨us, r1, p1, _⟩ := I.tuple h1
      obtain ⟨vs, r2, p2, _⟩ := I.tuple h2
      have l1 := r1.length
      have l2 := r2.length
      refine SeqAt.RcNeAt.tuples p1 p2 (by omega) (eqN_items I (n := 7) (A := X.A) (by omega) he r1 r2) X.prog X.w X.xe _ ?_
      rw [List.size_toArray, List.size_toArray, ← l1, ← l2]
      rw [eb] at fin
      by_cases hl : xs.length = ys.length
      · rw [hl, beq_self_eq_true, Bool.true_and] at fin
        rw [hl, Nat.min_self, beq_self_eq_true, Bool.and_true]
        exact fin
      · have hb : (xs.length == ys.length) = false := by simpa using hl
        rw [hb, Bool.false_and] at fin
        rw [hb, Bool.and_false]
        exact fin
def IsI (K : PySem.W.Frag) (H : Hp) (x : V) (c : V) (b : Bool) : Prop := ∃ t, TyOf K H x t ∧ ((∃ T, c = .ty T ∧ PySem.W.kitOne K t (.type T) = some b) ∨ (∃ C, c = .ref C ∧ PySem.W.kitOne K t (.ref C) = some b))
theorem call_isi : CallR X (.builtin "isinstance") (fun xs H Q => ∃ x c b, xs = [x, c] ∧ IsI X.K H x c b ∧ Q (.bl b) H) := by
  intro pins s σ H xs us Q I r h
  obtain ⟨x, c, b, rfl, ⟨t, ty, hc⟩, q⟩ := h
  obtain ⟨u, w', rfl, rx, ry⟩ := vals2 r
  rcases hc with ⟨T, rfl, e⟩ | ⟨C, rfl, e⟩
  · cases ry
    exact isinst_ok I rx ty e fun tk => ⟨.bl b, H, I.tok _, rfl, q⟩
  · cases ry
    exact isinst_ok I rx ty e fun tk => ⟨.bl b, H, I.tok _, rfl, q⟩
end
end L2
namespace L2
open PySem PySem.Spec PyProof.Rows
section
variable {X : Cx}
def gIx (K : PySem.W.Frag) : V → V → Hp → VK → Prop := fun x y H Q => ∃ p xs i v, x = .ref p ∧ y = .int i ∧ SqL K H p xs ∧ 0 ≤ i ∧ xs[i.toNat]? = some v ∧ Q v H
theorem get_ix : PGet X (gIx X.K) := by
  intro pins s σ H x y v u Q I rx ry h
  obtain ⟨p, xs, i, z, rfl, rfl, hq, h0, he, q⟩ := h
  cases rx
  obtain ⟨t, rfl⟩ := ry
  obtain ⟨its, r, pl, hz⟩ := I.list hq
  obtain ⟨w, ew, rw'⟩ := r.get he
  have hl := r.length
  have hn := line63
  have hi : i.toNat < xs.length := (List.getElem?_eq_some_iff.mp he).1
  exact wpAny_getItem_list pl.isList h0 (by omega) (by simpa using ew) ⟨z, H, I, rw', q⟩
theorem hu9 {k : Nat} {A : Around} (hr : Room k A) : A.units + 9 < cLine := by have := hr.un; omega
end
section
variable {σ : St} {H : Hp} {nx bk ct : St → Hp → Prop} {rt : VK} {Q : VK} {QT : Bool → Hp → Prop} {QA : List V → Hp → Prop} {QG : St → Hp → Prop}
theorem rd_start {t : TS} {D : Ends} {σ σ' : St} (e : σ' = σ) (h : t D σ H) : t D σ' H := e ▸ h
theorem rd_seq {t u : TS} (h : t ⟨u ⟨nx, rt, bk, ct⟩, rt, bk, ct⟩ σ H) : tSeq t u ⟨nx, rt, bk, ct⟩ σ H := h
theorem rd_next (h : nx σ H) : tNext ⟨nx, rt, bk, ct⟩ σ H := h
theorem rd_asg {te : TE} {g : TG} (h : te σ H fun x H1 => g x σ H1 nx) : tAsg te g ⟨nx, rt, bk, ct⟩ σ H := h
theorem rd_drop {te : TE} (h : te σ H fun _ H1 => nx σ H1) : tDrop te ⟨nx, rt, bk, ct⟩ σ H := h
theorem rd_ret {te : TE} (h : te σ H rt) : tRet te ⟨nx, rt, bk, ct⟩ σ H := h
theorem rd_retN (h : rt .non H) : tRetN ⟨nx, rt, bk, ct⟩ σ H := h
theorem rd_break (h : bk σ H) : tBreak ⟨nx, rt, bk, ct⟩ σ H := h
theorem rd_cont (h : ct σ H) : tCont ⟨nx, rt, bk, ct⟩ σ H := h
theorem rd_ifS {c : TT} {t u : TS} (h : c σ H fun b H1 => if b = true then t ⟨nx, rt, bk, ct⟩ σ H1 else u ⟨nx, rt, bk, ct⟩ σ H1) : tIfS c t u ⟨nx, rt, bk, ct⟩ σ H := h
theorem rd_par {i j : Nat} {ta : TA} (h : ta σ H fun vs H1 => ∃ v w, vs = [v, w] ∧ nx ((σ.set i (some v)).set j (some w)) H1) : tPar i j ta ⟨nx, rt, bk, ct⟩ σ H := h
theorem rd_aug {i : Nat} {te : TE} {ti : TIp} {x : V} (e : σ[i]? = some (some x)) (h : te σ H fun y H1 => ti x y H1 fun z H2 => nx (σ.set i (some z)) H2) : tAug i te ti ⟨nx, rt, bk, ct⟩ σ H := ⟨x, e, h⟩
theorem rd_augS {to ti te : TE} {tget : V → V → Hp → VK → Prop} {tip : TIp} {tset : TSet} (h : to σ H fun o H1 => ti σ H1 fun i H2 => tget o i H2 fun x H3 => te σ H3 fun y H4 => tip x y H4 fun z H5 => tset o i z H5 fun H6 => nx σ H6) : tAugS to ti te tget tip tset ⟨nx, rt, bk, ct⟩ σ H := h
theorem rd_for {wi : TI} {g : TG} {tb : TS} (h : wi σ H fun J H1 => ∃ W : Nat → Nat → St → Hp → Prop, (∃ m, W 0 m σ H1) ∧ ∀ i m σ H, W i m σ H →
  (J.stop i H ∧ nx σ H) ∨ (J.go i H ∧ ∃ N : St → Hp → Prop, (∀ σ' H', N σ' H' → ∃ m', m' < m ∧ W (i + 1) m' σ' H') ∧ ∀ x H', J.yld i H x H' → g x σ H' fun σ2 H2 => tb ⟨N, rt, nx, N⟩ σ2 H2)) : tFor wi g tb ⟨nx, rt, bk, ct⟩ σ H := h
theorem rd_gname {i : Nat} {v : V} {σ' : St} (e : σ.set i (some v) = σ') (h : QG σ' H) : gName i v σ H QG := by unfold gName; rw [e]; exact h
theorem rd_gtup {K : PySem.W.Frag} {n : Nat} {t : TGs} {a : Addr} {xs : List V} (h1 : SqT K H a xs) (h2 : xs.length = n) (h : t xs σ H QG) : gTup K n t (.ref a) σ H QG := ⟨a, xs, rfl, h1, h2, h⟩
theorem rd_gnil (h : QG σ H) : gNil [] σ H QG := ⟨rfl, h⟩
theorem rd_gcons {t : TG} {u : TGs} {v : V} {r : List V} (h : t v σ H fun σ' H' => u r σ' H' QG) : gCons t u (v :: r) σ H QG := ⟨v, r, rfl, h⟩
theorem rd_gsub {to ti : TE} {t : TSet} {v : V} (h : to σ H fun o H1 => ti σ H1 fun i H2 => t o i v H2 fun H3 => QG σ H3) : gSub to ti t v σ H QG := h
theorem rd_setL {p : Addr} {xs : List V} {k : Int} {v : V} {j : Nat} {QH : Hp → Prop} (h1 : H p = some (.lst xs)) (h2 : ixN xs.length k = some j) (h : QH (upd H p (.lst (xs.set j v)))) : rSetL (.ref p) (.int k) v H QH := ⟨p, xs, k, j, rfl, rfl, h1, h2, h⟩
theorem rd_gIx {K : PySem.W.Frag} {p : Addr} {xs : List V} {i : Int} {v : V} (h1 : SqL K H p xs) (h0 : 0 ≤ i) (h2 : xs[i.toNat]? = some v) (h : Q v H) : gIx K (.ref p) (.int i) H Q := ⟨p, xs, i, v, rfl, rfl, h1, h0, h2, h⟩
theorem rd_ipI {f : Int → Int → Int} {i j : Int} (h : Q (.int (f i j)) H) : ipI f (.int i) (.int j) H Q := ⟨i, j, rfl, rfl, h⟩
-- expressions
theorem rd_var {i : Nat} {v : V} (e : σ[i]? = some (some v)) (h : Q v H) : tVar i σ H Q := ⟨v, e, h⟩
theorem rd_c {v : V} (h : Q v H) : tC v σ H Q := h
theorem rd_op {r : R2} {ta tb : TE} (h : ta σ H fun x H1 => tb σ H1 fun y H2 => r x y H2 Q) : tOp r ta tb σ H Q := h
theorem rd_un {r : V → Hp → VK → Prop} {ta : TE} (h : ta σ H fun x H1 => r x H1 Q) : tUn r ta σ H Q := h
theorem rd_rI0 {g : Int → Int → V} {i j : Int} (h : Q (g i j) H) : rI0 g (.int i) (.int j) H Q := ⟨i, j, rfl, rfl, h⟩
theorem rd_rI {C : Int → Int → Prop} {g : Int → Int → V} {i j : Int} (c : C i j) (h : Q (g i j) H) : rI C g (.int i) (.int j) H Q := ⟨i, j, rfl, rfl, c, h⟩
theorem rd_rU {g : Int → V} {i : Int} (h : Q (g i) H) : rU g (.int i) H Q := ⟨i, rfl, h⟩
theorem rd_addI {i j : Int} (h : Q (.int (i + j)) H) : rAddG (.int i) (.int j) H Q := .inl ⟨i, j, rfl, rfl, h⟩
theorem rd_addL {l b : Addr} {xs zs : List V} (h1 : H l = some (.lst xs)) (h2 : H b = some (.lst zs)) (hz : xs.length + zs.length ≤ sizeLine) (h : ∀ p, H p = none → Q (.ref p) (upd H p (.lst (xs ++ zs)))) : rAddG (.ref l) (.ref b) H Q := .inr ⟨l, b, xs, zs, rfl, rfl, h1, h2, hz, h⟩
theorem rd_mulI {i j : Int} (c : CMul i j) (h : Q (.int (i * j)) H) : rMulG (.int i) (.int j) H Q := .inl ⟨i, j, rfl, rfl, c, h⟩
theorem rd_eqF {K : PySem.W.Frag} {x y : V} (h1 : flatV x = true) (h2 : flatV y = true) (h : Q (.bl (eqV x y)) H) : rEqG K x y H Q := ⟨_, .inl ⟨h1, h2, rfl⟩, h⟩
theorem rd_neF {K : PySem.W.Frag} {x y : V} (h1 : flatV x = true) (h2 : flatV y = true) (h : Q (.bl (!eqV x y)) H) : rNeG K x y H Q := ⟨_, .inl ⟨h1, h2, rfl⟩, h⟩
theorem rd_ixL {K : PySem.W.Frag} {p : Addr} {xs : List V} {i : Int} {v : V} (h1 : SqL K H p xs) (h2 : atI xs i = some v) (h : Q v H) : rIx K (.ref p) (.int i) H Q := .inl ⟨p, xs, i, v, rfl, rfl, h1, h2, h⟩
theorem rd_ixT {K : PySem.W.Frag} {p : Addr} {xs : List V} {i : Int} {v : V} (h1 : SqT K H p xs) (h2 : atI xs i = some v) (h : Q v H) : rIx K (.ref p) (.int i) H Q := .inr (.inl ⟨p, xs, i, v, rfl, rfl, h1, h2, h⟩)
theorem rd_sl {r : V → Option Int → Option Int → Hp → VK → Prop} {te : TE} {tl th : TO} (h : te σ H fun x H1 => tl σ H1 fun l H2 => th σ H2 fun u H3 => r x l u H3 Q) : tSl r te tl th σ H Q := h
theorem rd_nopart {QO : Option Int → Hp → Prop} (h : QO none H) : tNoPart σ H QO := h
theorem rd_part {t : TE} {QO : Option Int → Hp → Prop} (h : t σ H fun x H1 => ∃ i, x = .int i ∧ QO (some i) H1) : tPart t σ H QO := h
theorem rd_slL {K : PySem.W.Frag} {a : Addr} {xs : List V} {lo hi : Option Int} (h1 : SqL K H a xs) (h : ∀ p, H p = none → Q (.ref p) (upd H p (.lst (cutV xs lo hi)))) : rSlG K (.ref a) lo hi H Q := .inl ⟨a, xs, rfl, h1, h⟩
theorem rd_andV {ta tb : TE} (h : ta σ H fun x H1 => ∃ c, x = .bl c ∧ if c = true then tb σ H1 Q else Q (.bl false) H1) : tAndV ta tb σ H Q := h
theorem rd_orV {ta tb : TE} (h : ta σ H fun x H1 => ∃ c, x = .bl c ∧ if c = true then Q (.bl true) H1 else tb σ H1 Q) : tOrV ta tb σ H Q := h
theorem rd_notV {ta : TE} (h : ta σ H fun x H1 => ∃ c, x = .bl c ∧ Q (.bl (!c)) H1) : tNotV ta σ H Q := h
theorem rd_ifE {t : TT} {ta tb : TE} (h : t σ H fun c H1 => if c = true then ta σ H1 Q else tb σ H1 Q) : tIf t ta tb σ H Q := h
theorem rd_chain {r r' : R2} {ta tb tc : TE} (h : ta σ H fun x H1 => tb σ H1 fun y H2 => r x y H2 fun z H3 => ∃ k, z = .bl k ∧ (if k = true then tc σ H3 fun w' H4 => r' y w' H4 Q else Q (.bl false) H3)) : tChain r r' ta tb tc σ H Q := h
-- tests
theorem rd_test {t : TE} (h : t σ H fun x H' => ∃ k, x = .bl k ∧ QT k H') : tTest t σ H QT := h
theorem rd_tB {t : TE} (h : t σ H fun x H' => ∃ k, x = .bl k ∧ QT k H') : tB t σ H QT := h
theorem rd_and {t u : TT} (h : t σ H fun c H1 => if c = true then u σ H1 QT else QT false H1) : tAnd t u σ H QT := h
theorem rd_or {t u : TT} (h : t σ H fun c H1 => if c = true then QT true H1 else u σ H1 QT) : tOr t u σ H QT := h
theorem rd_not {t : TT} (h : t σ H fun c H1 => QT (!c) H1) : tNot t σ H QT := h
theorem rd_yes (h : QT true H) : tYes σ H QT := h
theorem rd_bl {b : Bool} {P : Bool → Prop} (h : P b) : ∃ k, V.bl b = V.bl k ∧ P k := ⟨b, rfl, h⟩
theorem rd_int1 {i : Int} {P : Int → Prop} (h : P i) : ∃ k, V.int i = V.int k ∧ P k := ⟨i, rfl, h⟩
theorem rd_l1 {i : Int} {P : Int → Prop} (h : P i) : ∃ k, [V.int i] = [V.int k] ∧ P k := ⟨i, rfl, h⟩
theorem rd_l2 {i j : Int} {P : Int → Int → Prop} (h : P i j) : ∃ k l, [V.int i, V.int j] = [V.int k, V.int l] ∧ P k l := ⟨i, j, rfl, h⟩
theorem rd_bl2 {b : Bool} {P : Bool → Prop} {R : Prop} (h : P b) : R ∨ ∃ k, [V.bl b] = [V.bl k] ∧ P k := .inr ⟨b, rfl, h⟩
theorem rd_nil (h : QA [] H) : tNil σ H QA := h
theorem rd_cons {ta : TE} {tr : TA} (h : ta σ H fun x H1 => tr σ H1 fun xs H2 => QA (x :: xs) H2) : tCons ta tr σ H QA := h
theorem rd_tup {t : TA} (h : t σ H fun xs H1 => xs.length ≤ sizeLine ∧ ∀ p, H1 p = none → Q (.ref p) (upd H1 p (.tup xs))) : tTup t σ H Q := h
theorem rd_lst {t : TA} (h : t σ H fun xs H1 => xs.length ≤ sizeLine ∧ ∀ p, H1 p = none → Q (.ref p) (upd H1 p (.lst xs))) : tLst t σ H Q := h
theorem rd_call {sp : Sp} {E : XK} {t : TA} (h : t σ H fun vs H1 => sp vs H1 Q E) : tCall sp [] E t σ H Q := by
  unfold tCall
  simpa only [List.append_nil] using h
theorem rd_cb {r : List V → Hp → VK → Prop} {t : TA} (h : t σ H fun vs H1 => r vs H1 Q) : tCB r t σ H Q := h
theorem rd_comp {wi : TI} {k : Nat} {idx : List Nat} {g : TG} {tt : TT} {te : TE} (h : wi σ H fun J H1 => tCompW J (cσ k idx σ) g tt te (fun ys H' => ∀ p, H' p = none → Q (.ref p) (upd H' p (.lst ys))) H1) : tComp wi k idx g tt te σ H Q := h
theorem rd_iRng1 {ta : TA} {R : It → Hp → Prop} (h : ta σ H fun vs H1 => ∃ j : Int, vs = [.int j] ∧ -(2 ^ 62) ≤ j ∧ j < 2 ^ 62 ∧ R (Itr 0 j.toNat) H1) : iRng1 ta σ H R := h
theorem rd_iRng2 {ta : TA} {R : It → Hp → Prop} (h : ta σ H fun vs H1 => ∃ i j : Int, vs = [.int i, .int j] ∧ (-(2 ^ 62) ≤ i ∧ i < 2 ^ 62 ∧ -(2 ^ 62) ≤ j ∧ j < 2 ^ 62) ∧ R (Itr i (j - i).toNat) H1) : iRng2 ta σ H R := h
theorem rd_fld {K : PySem.W.Frag} {ta : TE} {f : Str} (h : ta σ H fun x H1 => ∃ a C dx fs v, x = .ref a ∧ H1 a = some (.ins C dx fs) ∧ Cls K C ∧ NoAttr K C f ∧ fs.lookup f = some v ∧ Q v H1) : tFld K ta f σ H Q := h
theorem rd_size {n : Nat} {P : Prop} (h1 : n ≤ sizeLine) (h : P) : n ≤ sizeLine ∧ P := ⟨h1, h⟩
theorem sz_le {n : Nat} (h : n ≤ 16777216) : n ≤ sizeLine := by rw [sizeLine_eq]; exact h
end
section
variable {A B : Prop} {c : Prop} [Decidable c]
theorem rd_dec (h1 : c → A) (h2 : ¬ c → B) : if decide c = true then A else B := by
  by_cases h : c
  · rw [if_pos (decide_eq_true h)]; exact h1 h
  · rw [if_neg (by simpa using h)]; exact h2 h
theorem rd_decN (h1 : ¬ c → A) (h2 : c → B) : if (!decide c) = true then A else B := by
  by_cases h : c
  · rw [if_neg (by simpa using h)]; exact h2 h
  · rw [if_pos (by simpa using h)]; exact h1 h
theorem rd_bool {b : Bool} (h1 : b = true → A) (h2 : b = false → B) : if b = true then A else B := by
  cases b
  · exact iteF (h2 rfl)
  · exact iteT (h1 rfl)
end
def blkOk (sc : Scope) (NX : List Str) (scope : Scope) (N : List Str) (k : Nat) (idx : List Nat) : Bool :=
  scope.names.all (fun y => !(y.2 == .cell)) && scope.names.all (fun y => !(y.2 == .local) || scope.names.lookup y.1 == some .local) &&
  scope.names.all (fun y => !(y.2 == .free) || (sc.names.lookup y.1 == some .cell || sc.names.lookup y.1 == some .free)) &&
  decide N.Nodup && decide (N.length = k + idx.length) && (List.range idx.length).all fun i =>
    match (N.drop k)[i]?, idx[i]? with
    | some x, some j => decide (NX[j]? = some x) && scope.names.lookup x == some .free
    | _, _ => false
theorem blk_sc {X : Cx} {scope : Scope} {N : List Str} {k : Nat} {idx : List Nat} {sc : Scope} {NX : List Str} (hsc : X.env.scope = sc) (hN : X.N = NX) (hk : scope.kind = .function) (h : blkOk sc NX scope N k idx = true) : BlkScope X scope N k idx := by
  unfold blkOk at h
  simp only [Bool.and_eq_true, decide_eq_true_eq] at h
  obtain ⟨⟨⟨⟨⟨h1, h2⟩, h3⟩, h4⟩, h5⟩, h6⟩ := h
  rw [List.all_eq_true] at h1 h2 h3 h6
  refine ⟨hk, fun y hy e => ?_, fun y hy e => ?_, fun y hy e => ?_, h4, h5, fun i x e => ?_⟩
  · have := h1 y hy
    rw [e] at this
    simp at this
  · have := h2 y hy
    rw [e] at this
    simpa using this
  · have := h3 y hy
    rw [e] at this
    show X.env.scope.names.lookup y.1 = _ ∨ X.env.scope.names.lookup y.1 = _
    rw [hsc]
    simpa using this
  · have hi : i < (N.drop k).length := (List.getElem?_eq_some_iff.mp e).1
    have hi2 : i < idx.length := by rw [List.length_drop] at hi; omega
    have q := h6 i (List.mem_range.mpr hi2)
    rw [e, List.getElem?_eq_getElem hi2] at q
    simp only [Bool.and_eq_true, decide_eq_true_eq] at q
    exact ⟨idx[i], List.getElem?_eq_getElem hi2, by rw [hN]; exact q.1, by simpa using q.2⟩
theorem ne_none {H : Hp} {a b : Addr} {o : HO} (h' : H b = none) (h : H a = some o) : a ≠ b := ne_of_none h h'
theorem Same.at {H H' : Hp} {b : Addr} {o : HO} (e : Same H H') (h : H b = some o) : H' b = some o := e b o h
def Keep (p : Addr) (H H' : Hp) : Prop := ∀ b o, H b = some o → b ≠ p → H' b = some o
theorem Keep.at {p : Addr} {H H' : Hp} {b : Addr} {o : HO} (e : Keep p H H') (h : H b = some o) (n : b ≠ p) : H' b = some o := e b o h n
theorem Same.new {H : Hp} {p : Addr} {o : HO} (h : H p = none) : Same H (upd H p o) := fun b u e => by rw [upd_ne (ne_of_none e h)]; exact e
theorem Keep.upd {H : Hp} {p : Addr} {o : HO} : Keep p H (upd H p o) := fun b u e n => by rw [upd_ne n]; exact e
theorem Keep.trans {p : Addr} {H H1 H2 : Hp} (a : Keep p H H1) (b : Keep p H1 H2) : Keep p H H2 := fun c o h n => b c o (a c o h n) n
theorem Same.keep {p : Addr} {H H' : Hp} (a : Same H H') : Keep p H H' := fun c o h _ => a c o h
end L2
namespace L2
open PySem PySem.Spec PyProof.Rows
section
variable {σ : St} {H : Hp} {nx bk ct : St → Hp → Prop} {rt : VK}
theorem rd_seqJ {t u : TS} (J : St → Hp → Prop) (h1 : ∀ N : St → Hp → Prop, (∀ σ' H', J σ' H' → N σ' H') → t ⟨N, rt, bk, ct⟩ σ H) (h2 : ∀ σ' H', J σ' H' → u ⟨nx, rt, bk, ct⟩ σ' H') : tSeq t u ⟨nx, rt, bk, ct⟩ σ H := h1 _ h2
end
theorem comp_pure {K : PySem.W.Frag} {a : Addr} {xs : List V} {σ₀ : St} {g : TG} {tt : TT} {te : TE} {R : List V → Hp → Prop} {H : Hp} (f : V → V) (hS : SqL K H a xs) (hz : xs.length ≤ sizeLine)
    (hs : ∀ x (N : V → Hp → Prop) (N' : Hp → Prop), x ∈ xs → N (f x) H → g x σ₀ H fun σ2 H2 => tt σ2 H2 fun b H3 => if b = true then te σ2 H3 fun y H4 => N y H4 else N' H3)
    (hd : R (xs.map f) H) : tCompW (Itl K a) σ₀ g tt te R H := by
  refine comp_list (fun i ys H' => H' = H ∧ ys = (xs.take i).map f) ⟨rfl, by simp⟩ hz (fun i ys H' hi ⟨e1, e2⟩ => ?_) (fun i x ys H' hx ⟨e1, e2⟩ => ?_) (fun ys H' ⟨e1, e2⟩ => ?_)
  · subst e1 e2
    exact ⟨hS, by simp; omega⟩
  · subst e1 e2
    refine hs x (fun y H4 => H4 = H' ∧ (xs.take i).map f ++ [y] = (xs.take (i + 1)).map f) (fun H3 => H3 = H' ∧ (xs.take i).map f = (xs.take (i + 1)).map f) (List.mem_of_getElem? hx) ⟨rfl, ?_⟩
    rw [List.take_add_one, hx, List.map_append]
    rfl
  · subst e1 e2
    rw [List.take_length]
    exact hd
theorem comp_pureR {lo : Int} {n : Nat} {σ₀ : St} {g : TG} {tt : TT} {te : TE} {R : List V → Hp → Prop} {H : Hp} (f : Nat → V) (hz : n ≤ sizeLine)
    (hs : ∀ i (N : V → Hp → Prop) (N' : Hp → Prop), i < n → N (f i) H → g (.int (lo + i)) σ₀ H fun σ2 H2 => tt σ2 H2 fun b H3 => if b = true then te σ2 H3 fun y H4 => N y H4 else N' H3)
    (hd : R ((List.range n).map f) H) : tCompW (Itr lo n) σ₀ g tt te R H := by
  refine comp_range (fun i ys H' => H' = H ∧ ys = (List.range i).map f) ⟨rfl, by simp⟩ hz (fun i ys H' hi ⟨e1, e2⟩ => ?_) (fun i ys H' hi ⟨e1, e2⟩ => ?_) (fun ys H' ⟨e1, e2⟩ => ?_)
  · subst e1 e2
    simp
  · subst e1 e2
    refine hs i (fun y H4 => H4 = H' ∧ (List.range i).map f ++ [y] = (List.range (i + 1)).map f) (fun H3 => H3 = H' ∧ (List.range i).map f = (List.range (i + 1)).map f) hi ⟨rfl, ?_⟩
    rw [List.range_succ, List.map_append]
    rfl
  · subst e1 e2
    exact hd
theorem pe_gint {X : Cx} {x : Str} {n : Int} {pos : Pos} (hg : Gl X x) (hm : ∃ t, X.mg x = some (.int n t)) (hd : (x == ("__debug__" : Str)) = false := by decide) : PE X (.Name x pos) (tC (.int n)) := by
  obtain ⟨t, hm⟩ := hm
  exact pe_glob (v := .int n) hg hm ⟨t, rfl⟩ hd
section
variable {X : Cx} {K : PySem.W.Frag} {H : Hp} {Q : VK}
def rLen (K : PySem.W.Frag) : List V → Hp → VK → Prop := fun xs H Q => ∃ x n, xs = [x] ∧ LenV K x H n ∧ Q (.int n) H
theorem call_lenG : CallR X (.builtin "len") (rLen X.K) := call_len
theorem rd_lenL {p : Addr} {xs : List V} (h : SqL K H p xs) (q : Q (.int xs.length) H) : rLen K [.ref p] H Q := ⟨_, _, rfl, .inl ⟨_, h, rfl⟩, q⟩
theorem rd_lenT {p : Addr} {xs : List V} (h : SqT K H p xs) (q : Q (.int xs.length) H) : rLen K [.ref p] H Q := ⟨_, _, rfl, .inr ⟨_, h, rfl⟩, q⟩
def rAbs : List V → Hp → VK → Prop := fun xs H Q => ∃ i, xs = [.int i] ∧ Q (.int (if i < 0 then -i else i)) H
theorem call_absG : CallR X (.builtin "abs") rAbs := call_abs
theorem rd_abs {i : Int} (h : Q (.int (if i < 0 then -i else i)) H) : rAbs [.int i] H Q := ⟨i, rfl, h⟩
def rMax : List V → Hp → VK → Prop := fun xs H Q => ∃ i j, xs = [.int i, .int j] ∧ Q (.int (if j > i then j else i)) H
theorem call_maxG (hc : X.calm = true) : CallR X (.builtin "max") rMax := call_max2 hc
theorem rd_max {i j : Int} (h : Q (.int (max i j)) H) : rMax [.int i, .int j] H Q := ⟨i, j, rfl, by
  rw [show (if j > i then j else i) = max i j by split <;> omega]; exact h⟩
def rMin : List V → Hp → VK → Prop := fun xs H Q => ∃ i j, xs = [.int i, .int j] ∧ Q (.int (if j < i then j else i)) H
theorem call_minG (hc : X.calm = true) : CallR X (.builtin "min") rMin := call_min2 hc
theorem rd_min {i j : Int} (h : Q (.int (min i j)) H) : rMin [.int i, .int j] H Q := ⟨i, j, rfl, by
  rw [show (if j < i then j else i) = min i j by split <;> omega]; exact h⟩
def rInt1 : List V → Hp → VK → Prop := fun xs H Q => (∃ i, xs = [.int i] ∧ Q (.int i) H) ∨ ∃ k, xs = [.bl k] ∧ Q (.int (if k then 1 else 0)) H
theorem rd_intI {i : Int} (h : Q (.int i) H) : rInt1 [.int i] H Q := .inl ⟨i, rfl, h⟩
theorem rd_intB {b : Bool} (h : Q (.int (if b then 1 else 0)) H) : rInt1 [.bl b] H Q := .inr ⟨b, rfl, h⟩
def rIsi (K : PySem.W.Frag) : List V → Hp → VK → Prop := fun xs H Q => ∃ x c b, xs = [x, c] ∧ IsI K H x c b ∧ Q (.bl b) H
theorem call_isiG : CallR X (.builtin "isinstance") (rIsi X.K) := call_isi
theorem rd_isi {x c : V} {b : Bool} (h1 : IsI K H x c b) (h : Q (.bl b) H) : rIsi K [x, c] H Q := ⟨x, c, b, rfl, h1, h⟩
def rListOf (K : PySem.W.Frag) : List V → Hp → VK → Prop := fun xs H Q => ∃ p ys, xs = [.ref p] ∧ (SqL K H p ys ∨ SqT K H p ys) ∧ ∀ l, H l = none → Q (.ref l) (upd H l (.lst ys))
theorem call_listG : CallR X (.type "list") (rListOf X.K) := call_list_of
theorem rd_listL {p : Addr} {ys : List V} (h1 : SqL K H p ys) (h : ∀ l, H l = none → Q (.ref l) (upd H l (.lst ys))) : rListOf K [.ref p] H Q := ⟨p, ys, rfl, .inl h1, h⟩
end
theorem eqN_nil {K : PySem.W.Frag} {H : Hp} {p q : Addr} {xs : List V} (h1 : SqL K H p xs) (h2 : SqL K H q []) : EqN K H 8 (.ref p) (.ref q) xs.isEmpty :=
  .inr ⟨p, q, xs, [], fun _ => true, rfl, rfl, .inl ⟨h1, h2⟩, fun j u v _ e => by simp at e, by cases xs <;> simp⟩
theorem cut_head {xs : List V} {n : Nat} (h : xs.length ≤ n) : cutV xs none (some (n : Int)) = xs := by
  unfold cutV
  rw [HT.sIx_none, HT.sIx_nat, Nat.min_eq_right h, List.drop_zero, Nat.sub_zero, List.take_length]
end L2
namespace L2
open PySem PySem.Spec PyProof.Rows
section
variable {σ : St} {H : Hp} {nx : St → Hp → Prop} {rt : VK} {g : TG} {tb : TS} {Q : VK}
theorem rf_range {lo : Int} {n : Nat} (Pv : Nat → St → Hp → Prop) (h0 : Pv 0 σ H)
    (hs : ∀ i σ H, i < n → Pv i σ H → g (.int (lo + i)) σ H fun σ2 H2 => tb ⟨Pv (i + 1), rt, nx, Pv (i + 1)⟩ σ2 H2) (hd : ∀ σ H, Pv n σ H → nx σ H) :
    ∃ W : Nat → Nat → St → Hp → Prop, (∃ m, W 0 m σ H) ∧ ∀ i m σ H, W i m σ H →
      ((Itr lo n).stop i H ∧ nx σ H) ∨ ((Itr lo n).go i H ∧ ∃ N : St → Hp → Prop, (∀ σ' H', N σ' H' → ∃ m', m' < m ∧ W (i + 1) m' σ' H') ∧ ∀ x H', (Itr lo n).yld i H x H' → g x σ H' fun σ2 H2 => tb ⟨N, rt, nx, N⟩ σ2 H2) :=
  for_range (D := ⟨nx, rt, fun _ _ => False, fun _ _ => False⟩) Pv h0 hs hd
theorem rf_list {K : PySem.W.Frag} {a : Addr} {xs : List V} (Pv : Nat → St → Hp → Prop) (h0 : Pv 0 σ H) (hl : ∀ i σ H, i ≤ xs.length → Pv i σ H → SqL K H a xs)
    (hs : ∀ i x σ H, xs[i]? = some x → Pv i σ H → g x σ H fun σ2 H2 => tb ⟨Pv (i + 1), rt, nx, Pv (i + 1)⟩ σ2 H2) (hd : ∀ σ H, Pv xs.length σ H → nx σ H) :
    ∃ W : Nat → Nat → St → Hp → Prop, (∃ m, W 0 m σ H) ∧ ∀ i m σ H, W i m σ H →
      ((Itl K a).stop i H ∧ nx σ H) ∨ ((Itl K a).go i H ∧ ∃ N : St → Hp → Prop, (∀ σ' H', N σ' H' → ∃ m', m' < m ∧ W (i + 1) m' σ' H') ∧ ∀ x H', (Itl K a).yld i H x H' → g x σ H' fun σ2 H2 => tb ⟨N, rt, nx, N⟩ σ2 H2) :=
  for_list (D := ⟨nx, rt, fun _ _ => False, fun _ _ => False⟩) Pv h0 hl hs hd
theorem rf_tup {K : PySem.W.Frag} {a : Addr} {xs : List V} (Pv : Nat → St → Hp → Prop) (h0 : Pv 0 σ H) (hl : ∀ i σ H, i ≤ xs.length → Pv i σ H → SqT K H a xs)
    (hs : ∀ i x σ H, xs[i]? = some x → Pv i σ H → g x σ H fun σ2 H2 => tb ⟨Pv (i + 1), rt, nx, Pv (i + 1)⟩ σ2 H2) (hd : ∀ σ H, Pv xs.length σ H → nx σ H) :
    ∃ W : Nat → Nat → St → Hp → Prop, (∃ m, W 0 m σ H) ∧ ∀ i m σ H, W i m σ H →
      ((Itt K a).stop i H ∧ nx σ H) ∨ ((Itt K a).go i H ∧ ∃ N : St → Hp → Prop, (∀ σ' H', N σ' H' → ∃ m', m' < m ∧ W (i + 1) m' σ' H') ∧ ∀ x H', (Itt K a).yld i H x H' → g x σ H' fun σ2 H2 => tb ⟨N, rt, nx, N⟩ σ2 H2) :=
  for_tup (D := ⟨nx, rt, fun _ _ => False, fun _ _ => False⟩) Pv h0 hl hs hd
theorem rd_eqI {K : PySem.W.Frag} {i j : Int} (h : Q (.bl (decide (i = j))) H) : rEqG K (.int i) (.int j) H Q := ⟨_, .inl ⟨rfl, rfl, rfl⟩, h⟩
theorem rd_neI {K : PySem.W.Frag} {i j : Int} (h : Q (.bl (!decide (i = j))) H) : rNeG K (.int i) (.int j) H Q := ⟨_, .inl ⟨rfl, rfl, rfl⟩, h⟩
end
end L2
namespace L2
open PySem PySem.Spec PyProof.Rows
def noStar : Expr → Bool
  | .Starred _ _ => false
  | _ => true
theorem star_cons {e : Expr} {es : List Expr} {env : Env} (h : noStar e = true) : starEach (e :: es) env = (false, eval e env) :: starEach es env := by
  cases e <;> first | rfl | exact absurd h Bool.false_ne_true
theorem back_any {env : Env} {pos : Pos} : ∀ {es : List Expr}, es.all noStar = true → (backTo pos (starEach es env)).any (·.1) = false
  | [], _ => rfl
  | e :: es, h => by
    rw [List.all_cons, Bool.and_eq_true] at h
    rw [star_cons h.1]
    have ih := back_any (env := env) (pos := pos) h.2
    unfold backTo at ih ⊢
    rw [List.map_cons, List.any_cons]
    rw [ih]
    rfl
section
variable {X : Cx} {CX : CXT} {k : Nat} {f C : Addr} {fd : FuncData} {ps : List Str} {sp : Sp} {dvs : List V} {ds : List Value} {E : XK} {x m : Str} {p pos apos : Pos} {e o : Expr} {es : List Expr} {ta te : TE} {t : TA}
theorem pa_c (ha : PE X e te) (hr : PA X es t) (hs : noStar e = true := by rfl) : PA X (e :: es) (tCons te t) := pa_cons ha hr (star_cons hs)
theorem all_tl {e : Expr} {es : List Expr} (h : (e :: es).all noStar = true) : noStar e = true ∧ es.all noStar = true := by
  rw [List.all_cons, Bool.and_eq_true] at h
  exact h
theorem pe_callN (F : FnOk X.prog X.w X.K X.mg X.base CX k f fd ps sp) (hr : Room k X.A) (hg : Gl X x) (hm : X.mg x = some (.ref f)) (hk : PySem.W.keepIn X.K (.ref f) = true) (hb : Binds X.K fd ps ds) (hd : Vals dvs ds) (hx : Passes CX X E)
    (ha : PA X (e :: es) t) (hn : (e :: es).all noStar = true := by rfl) (hdb : (x == ("__debug__" : Str)) = false := by decide) : PE X (.Call (.Name x p) (e :: es) [] pos) (tCall sp dvs E t) :=
  pe_call F hr hg hm hk hb hd hx ha hdb (star_cons (all_tl hn).1) (back_any (all_tl hn).2)
theorem pe_makeN (M : Mk X.K C f) (F : FnOk X.prog X.w X.K X.mg X.base CX k f fd ps sp) (hr : Room (k + 1) X.A) (hg : Gl X x) (hm : X.mg x = some (.ref C)) (hb : Binds X.K fd ps ds) (hd : Vals dvs ds) (hx : Passes CX X E)
    (ha : PA X (e :: es) t) (hn : (e :: es).all noStar = true := by rfl) (hdb : (x == ("__debug__" : Str)) = false := by decide) : PE X (.Call (.Name x p) (e :: es) [] pos) (tMake C sp dvs E t) :=
  pe_make M F hr hg hm hb hd hx ha hdb (star_cons (all_tl hn).1) (back_any (all_tl hn).2)
variable {id T : String} {r : List V → Hp → VK → Prop}
theorem pe_callBN (hc : CallR X (.builtin id) r) (hg : Gl X x) (hm : X.mg x = none) (hv : bootBuiltins x = some (.builtin id)) (ha : PA X (e :: es) t) (hn : (e :: es).all noStar = true := by rfl) (hne : x ≠ "__name__" := by decide) (hdb : (x == ("__debug__" : Str)) = false := by decide) :
    PE X (.Call (.Name x p) (e :: es) [] pos) (tCB r t) := pe_callB hc hg hm hv ha hne hdb (star_cons (all_tl hn).1) (back_any (all_tl hn).2)
theorem pe_callTyN (hc : CallR X (.type T) r) (hg : Gl X x) (hm : X.mg x = none) (hv : bootBuiltins x = some (.type T)) (ha : PA X (e :: es) t) (hn : (e :: es).all noStar = true := by rfl) (hne : x ≠ "__name__" := by decide) (hdb : (x == ("__debug__" : Str)) = false := by decide) :
    PE X (.Call (.Name x p) (e :: es) [] pos) (tCB r t) := pe_callTy hc hg hm hv ha hne hdb (star_cons (all_tl hn).1) (back_any (all_tl hn).2)
variable {tg a b : Expr}
theorem pi_range1N (hg : Gl X "range") (hm : X.mg "range" = none) (ha : PA X [a] t) (hn : noStar a = true := by rfl) : PI X tg (.Call (.Name "range" p) [a] [] pos) (iRng1 t) := pi_range1 hg hm ha (star_cons hn)
theorem pi_range2N (hg : Gl X "range") (hm : X.mg "range" = none) (ha : PA X [a, b] t) (hn : noStar a = true := by rfl) (hn2 : noStar b = true := by rfl) : PI X tg (.Call (.Name "range" p) [a, b] [] pos) (iRng2 t) :=
  pi_range2 hg hm ha (by rw [star_cons hn, star_cons hn2]; rfl) (star_cons hn2)
end
end L2
namespace L2
open PySem PySem.Spec PyProof.Rows
section
variable {X : Cx} {pos : Pos} {x1 : Nat} {e1 e2 e3 e4 e5 e6 e7 e8 : Expr} {t1 t2 t3 t4 t5 t6 t7 t8 : TE}
theorem lst1 (h1 : PE X e1 t1) (n1 : noStar e1 = true := by rfl) : PE X (.List [e1] pos) (tLst (tCons t1 tNil)) := pe_lst (pa_c h1 pa_nil n1)
theorem lst2 (h1 : PE X e1 t1) (h2 : PE X e2 t2) (n1 : noStar e1 = true := by rfl) (n2 : noStar e2 = true := by rfl) : PE X (.List [e1, e2] pos) (tLst (tCons t1 (tCons t2 tNil))) := pe_lst (pa_c h1 (pa_c h2 pa_nil n2) n1)
theorem tup2 {k1} (h1 : PE X e1 t1) (h2 : PE X e2 t2) (n1 : noStar e1 = true := by rfl) (n2 : noStar e2 = true := by rfl) : PE X (.Tuple [e1, e2] k1 pos) (tTup (tCons t1 (tCons t2 tNil))) := pe_tup (pa_c h1 (pa_c h2 pa_nil n2) n1)
theorem lst3 (h1 : PE X e1 t1) (h2 : PE X e2 t2) (h3 : PE X e3 t3) (n1 : noStar e1 = true := by rfl) (n2 : noStar e2 = true := by rfl) (n3 : noStar e3 = true := by rfl) : PE X (.List [e1, e2, e3] pos) (tLst (tCons t1 (tCons t2 (tCons t3 tNil)))) := pe_lst (pa_c h1 (pa_c h2 (pa_c h3 pa_nil n3) n2) n1)
theorem lst4 (h1 : PE X e1 t1) (h2 : PE X e2 t2) (h3 : PE X e3 t3) (h4 : PE X e4 t4) (n1 : noStar e1 = true := by rfl) (n2 : noStar e2 = true := by rfl) (n3 : noStar e3 = true := by rfl) (n4 : noStar e4 = true := by rfl) : PE X (.List [e1, e2, e3, e4] pos) (tLst (tCons t1 (tCons t2 (tCons t3 (tCons t4 tNil))))) := pe_lst (pa_c h1 (pa_c h2 (pa_c h3 (pa_c h4 pa_nil n4) n3) n2) n1)
theorem lst7 (h1 : PE X e1 t1) (h2 : PE X e2 t2) (h3 : PE X e3 t3) (h4 : PE X e4 t4) (h5 : PE X e5 t5) (h6 : PE X e6 t6) (h7 : PE X e7 t7) (n1 : noStar e1 = true := by rfl) (n2 : noStar e2 = true := by rfl) (n3 : noStar e3 = true := by rfl) (n4 : noStar e4 = true := by rfl) (n5 : noStar e5 = true := by rfl) (n6 : noStar e6 = true := by rfl) (n7 : noStar e7 = true := by rfl) : PE X (.List [e1, e2, e3, e4, e5, e6, e7] pos) (tLst (tCons t1 (tCons t2 (tCons t3 (tCons t4 (tCons t5 (tCons t6 (tCons t7 tNil)))))))) := pe_lst (pa_c h1 (pa_c h2 (pa_c h3 (pa_c h4 (pa_c h5 (pa_c h6 (pa_c h7 pa_nil n7) n6) n5) n4) n3) n2) n1)
end
end L2
namespace L2
open PySem PySem.Spec PyProof.Rows
section
variable {X : Cx} {pins : List (Addr × Obj)} {σ : St} {H : Hp} {s : Shared} {h' : Heap}
theorem Inv.turnedNew {t' : Nat} {ch : List Addr} {T : Addr} {o : HO} (I : Inv X pins σ H s) (k : ∀ b u, b ∉ ch → s.heap.get? b = some u → h'.get? b = some u)
    (hch : ∀ b ∈ ch, FpOk X pins H b) (hT : s.heap.objs.size ≤ T) (new : ObjOk X.prog X.w (upd H T o) h' T o) : Inv X pins σ (upd H T o) { s with heap := h', toks := t' } := by
  have hn : H T = none := I.hok.fresh hT
  have nit : ∀ b u, H b = some u → b ∉ ch := fun b u e z => by rw [(hch b z).1] at e; cases e
  have neT : ∀ b u, H b = some u → b ≠ T := fun b u e => ne_of_none e hn
  refine I.step (g' := s.gens) (d' := s.drawn) (ch := ch) (fun b hb => ?_) (fun b u _ _ hc e _ => k b u hc e) (fun b u _ _ hc e _ => ⟨u.slots, k b u hc e⟩) (fun b u hc e n => ?_)
    (fun b u hc e => ⟨u, k b u hc e⟩) (fun b xs e => ?_) (fun b u v e => ?_) (fun b ps e => ⟨#[], ?_⟩) (fun m hm => ?_) (fun b u e => ?_) I.bare
  · obtain ⟨f0, f1, f2, f3, f4, f5⟩ := hch b hb
    exact ⟨f3, f1, f4, f5⟩
  · rw [upd_ne (Nat.ne_of_lt (Nat.lt_of_lt_of_le (Heap.lt_size e) hT))]; exact n
  · rw [upd_ne (neT _ _ e)]; exact e
  · rw [upd_ne (neT _ _ e)]; exact e
  · rw [upd_ne (neT _ _ e), e]; simp
  · obtain ⟨u, es, ep, ho, r⟩ := hm
    exact ⟨u, es, ep, k _ u (fun z => (hch _ z).2.1 rfl) ho, r⟩
  · by_cases hb : b = T
    · subst hb; rw [upd_same] at e; cases e; exact new
    · rw [upd_ne hb] at e
      refine (I.hok b u e).stay (fun c v hc q => k c v ?_ q) (fun c q => by rw [upd_ne (ne_of_none q hn)]; exact q) fun c xs _ q => by rw [upd_ne (ne_of_none q hn)]; exact q
      rcases hc with z | z
      · rw [z]; exact nit b u e
      · exact nit c _ z
end
def Ite (K : PySem.W.Frag) (a : Addr) : It :=
  ⟨fun i H => ∃ xs x, SqL K H a xs ∧ xs[i]? = some x, fun i H x H' => ∃ T v, H T = none ∧ x = .ref T ∧ H' = upd H T (.tup [.int i, v]) ∧ ∀ xs, SqL K H a xs → xs[i]? = some v, fun i H => ∃ xs, SqL K H a xs ∧ xs.length ≤ i⟩
theorem turn_enum {P : Program} {w : World} {K : PySem.W.Frag} {elts : List Expr} {x1 : Nat} {tp : Pos} (a e it : Addr) (hei : e ≠ it) :
    Turn P w K (.Tuple elts x1 tp) (Ite K a) [e, it] e (fun i h => (∃ old, IsEnum h e it ((i : Nat) : Int) old) ∧ h.IsListIter it a i) where
  mem := by simp
  obj := fun i h st b hb => by
    obtain ⟨⟨old, he⟩, st⟩ := st
    rcases List.mem_cons.mp hb with z | hb
    · subst z
      exact ⟨_, he, fun v z => by cases z⟩
    · have z : b = it := by simpa using hb
      subst z
      obtain ⟨o, e, c, d⟩ := st
      exact ⟨o, e, fun v z => by rw [d] at z; cases z⟩
  keep := fun i h h' st k => by
    obtain ⟨⟨old, he⟩, st⟩ := st
    exact ⟨⟨old, k e (by simp) _ he⟩, st.at fun o q => k it (by simp) o q⟩
  item := by
    intro X hP hw hK hc i pins s σ H E I hf st hg
    subst hP hw hK
    obtain ⟨⟨old, he⟩, st⟩ := st
    obtain ⟨xs, x, hq, hx⟩ := hg
    obtain ⟨its, rv, p, hz⟩ := I.list hq
    obtain ⟨u, hu, ru⟩ := rv.get hx
    have helt : e < s.heap.objs.size := Heap.lt_size he
    have hilt : it < s.heap.objs.size := by obtain ⟨_, z, _⟩ := id st; exact Heap.lt_size z
    refine wpAny_pyNext_enum_item he st p.isList (x := u) (by simpa using hu) hei fun h1 ho hit1 hT hsz hk => ?_
    refine ⟨_, rfl, wpAny_letOwnedTupleGo_enum ho fun h2 he2 hs2 => ?_⟩
    replace hs2 : Heap.SameBut e h1 h2 := hs2
    have hT2 : h2.IsTuple s.heap.objs.size #[.int i s.toks, u] := ⟨_, (hs2.2 _ (Nat.ne_of_gt helt)).trans hT, rfl, _, rfl⟩
    have kk : ∀ b o, b ∉ [e, it] → s.heap.get? b = some o → h2.get? b = some o := fun b o hb q => by
      have n1 : b ≠ e := fun z => hb (by simp [z])
      have n2 : b ≠ it := fun z => hb (by simp [z])
      exact (hs2.2 b n1).trans (hk b o n1 n2 q)
    have I2 : Inv X pins σ (upd H s.heap.objs.size (.tup [.int i, x])) { s with heap := h2, toks := s.toks + 1 } :=
      I.turnedNew kk hf (Nat.le_refl _) (show ObjOk X.prog X.w _ h2 _ (.tup [.int i, x]) from ⟨sz_le (by simp), [.int i s.toks, u], .cons ⟨_, rfl⟩ (.cons ru .nil), hT2⟩)
    have hfr : H s.heap.objs.size = none := I.hok.fresh (Nat.le_refl _)
    refine ⟨.ref s.heap.objs.size, _, I2, rfl, ⟨_, x, hfr, rfl, rfl, fun ys hy => by rw [I.list_inj hy hq]; exact hx⟩, ⟨⟨u, ?_⟩, ?_⟩, fun b hb => ?_⟩
    · have e1 : ((i + 1 : Nat) : Int) = (i : Int) + 1 := by push_cast; rfl
      rw [e1]
      exact he2
    · exact hit1.at fun o q => (hs2.2 it hei.symm).trans q
    · have hlt : b < s.heap.objs.size := by
        rcases List.mem_cons.mp hb with z | hb
        · rw [z]; exact helt
        · rw [show b = it by simpa using hb]; exact hilt
      rw [upd_ne (Nat.ne_of_lt hlt)]
      exact (hf b hb).1
  done := by
    intro X hP hw hK hc i pins s σ H E I hf st hg
    subst hP hw hK
    obtain ⟨⟨old, he⟩, st⟩ := st
    obtain ⟨xs, hq, hx⟩ := hg
    obtain ⟨its, rv, p, hz⟩ := I.list hq
    obtain ⟨f0, f1, f2, f3, f4, f5⟩ := hf it (by simp)
    have hl := rv.length
    exact wpAny_pyNext_enum_end (I.ok.hd hc) he st p.isList (by simp; omega) fun h' eb => ⟨rfl, I.turned (t' := s.toks) (fun b o hb e => eb b o hb e) f0 f1 f3 f4 f5⟩
  self := fun _ _ _ _ _ st h => by
    obtain ⟨⟨old, he⟩, st⟩ := st
    exact wpAny_pyIter_enum he h
section
variable {X : Cx} {elts : List Expr} {x1 : Nat} {tp : Pos}
def iEnum (K : PySem.W.Frag) (ta : TA) : TI := fun σ H R => ta σ H fun vs H1 => ∃ a, vs = [.ref a] ∧ (∃ xs, SqL K H1 a xs) ∧ R (Ite K a) H1
theorem pi_enum {a : Expr} {ta : TA} {p pos : Pos} (hg : Gl X "enumerate") (hm : X.mg "enumerate" = none) (ha : PA X [a] ta) (hn : noStar a = true := by rfl) : PI X (.Tuple elts x1 tp) (.Call (.Name "enumerate" p) [a] [] pos) (iEnum X.K ta) := by
  intro pins s σ H R I h
  refine Call_ (ld_blt I hg hm boot_enumerate (PyProof.Rows.callWith_type1 (thn (ha pos pins s σ H _ I h) fun us s1 ⟨vs, H1, I1, r1, q1⟩ => ?_) (star_cons hn) rfl))
  obtain ⟨l, e, ⟨xs, hq⟩, q⟩ := q1
  subst e
  obtain ⟨u, rfl, ru⟩ := vals1 r1
  cases ru
  obtain ⟨its, rv, pl, hz⟩ := I1.list hq
  refine call_enumerate_list pl.isList fun h' he hit hsz hk => ?_
  refine wpAny_pyIter_enum he ?_
  refine ⟨s1.heap.objs.size + 1, [s1.heap.objs.size + 1, s1.heap.objs.size], _, _, H1, rfl, I1.kept (t' := s1.toks) hk, turn_enum l _ _ (Nat.succ_ne_self _), ⟨⟨_, he⟩, hit⟩, fun b hb => ?_, q⟩
  have hle : s1.heap.objs.size ≤ b := by
    rcases List.mem_cons.mp hb with z | hb
    · rw [z]; exact Nat.le_succ _
    · rw [show b = s1.heap.objs.size by simpa using hb]; exact Nat.le_refl _
  exact I1.fpOk hle (I1.hok.fresh hle)
end
section
variable {σ : St} {H : Hp} {nx : St → Hp → Prop} {rt : VK} {g : TG} {tb : TS} {Q : VK} {K : PySem.W.Frag}
def EnQ (K : PySem.W.Frag) (R : It → Hp → Prop) : List V → Hp → Prop := fun vs H1 => ∃ a, vs = [.ref a] ∧ (∃ xs, SqL K H1 a xs) ∧ R (Ite K a) H1
def LiQ (K : PySem.W.Frag) (R : It → Hp → Prop) : V → Hp → Prop := fun x H1 => ∃ a, x = .ref a ∧ (∃ xs, SqL K H1 a xs) ∧ R (Itl K a) H1
def TiQ (K : PySem.W.Frag) (R : It → Hp → Prop) : V → Hp → Prop := fun x H1 => ∃ a, x = .ref a ∧ (∃ xs, SqT K H1 a xs) ∧ R (Itt K a) H1
theorem rd_iEnum {ta : TA} {R : It → Hp → Prop} (h : ta σ H (EnQ K R)) : iEnum K ta σ H R := h
theorem rd_iListQ {tl : TE} {R : It → Hp → Prop} (h : tl σ H (LiQ K R)) : iList K tl σ H R := h
theorem rd_iTupQ {tl : TE} {R : It → Hp → Prop} (h : tl σ H (TiQ K R)) : iTup K tl σ H R := h
theorem rd_en {a : Addr} {xs : List V} {R : It → Hp → Prop} (h1 : SqL K H a xs) (h : R (Ite K a) H) : EnQ K R [.ref a] H := ⟨a, rfl, ⟨xs, h1⟩, h⟩
theorem rd_li {a : Addr} {xs : List V} {R : It → Hp → Prop} (h1 : SqL K H a xs) (h : R (Itl K a) H) : LiQ K R (.ref a) H := ⟨a, rfl, ⟨xs, h1⟩, h⟩
theorem rd_ti {a : Addr} {xs : List V} {R : It → Hp → Prop} (h1 : SqT K H a xs) (h : R (Itt K a) H) : TiQ K R (.ref a) H := ⟨a, rfl, ⟨xs, h1⟩, h⟩
theorem rf_enum {a : Addr} {xs : List V} (Pv : Nat → St → Hp → Prop) (h0 : Pv 0 σ H) (hl : ∀ i σ H, i ≤ xs.length → Pv i σ H → SqL K H a xs)
    (hs : ∀ i x σ H T, xs[i]? = some x → Pv i σ H → H T = none → g (.ref T) σ (upd H T (.tup [.int i, x])) fun σ2 H2 => tb ⟨Pv (i + 1), rt, nx, Pv (i + 1)⟩ σ2 H2) (hd : ∀ σ H, Pv xs.length σ H → nx σ H) :
    ∃ W : Nat → Nat → St → Hp → Prop, (∃ m, W 0 m σ H) ∧ ∀ i m σ H, W i m σ H →
      ((Ite K a).stop i H ∧ nx σ H) ∨ ((Ite K a).go i H ∧ ∃ N : St → Hp → Prop, (∀ σ' H', N σ' H' → ∃ m', m' < m ∧ W (i + 1) m' σ' H') ∧ ∀ x H', (Ite K a).yld i H x H' → g x σ H' fun σ2 H2 => tb ⟨N, rt, nx, N⟩ σ2 H2) := by
  refine ⟨fun i m σ H => m = xs.length - i ∧ i ≤ xs.length ∧ Pv i σ H, ⟨xs.length, by simp, Nat.zero_le _, h0⟩, ?_⟩
  rintro i m σ H ⟨rfl, hi, p⟩
  have q := hl i σ H hi p
  by_cases hlt : i < xs.length
  · refine .inr ⟨⟨xs, xs[i], q, by simp [hlt]⟩, Pv (i + 1), fun σ' H' p' => ⟨xs.length - (i + 1), by omega, rfl, hlt, p'⟩, fun x H' y => ?_⟩
    obtain ⟨T, v, hT, e1, e2, y⟩ := y
    subst e1 e2
    exact hs i v σ H T (y xs q) p hT
  · have e : i = xs.length := by omega
    subst e
    exact .inl ⟨⟨xs, q, Nat.le_refl _⟩, hd σ H p⟩
end
section
variable {X : Cx}
theorem vals_bools : ∀ {bs : List Bool} {us : List Value}, Vals (bs.map V.bl) us → us = bs.map Value.bool
  | [], _, .nil => rfl
  | b :: bs, _, .cons r t => by cases r; rw [vals_bools t]; rfl
def rAll (K : PySem.W.Frag) : List V → Hp → VK → Prop := fun xs H Q => ∃ (p : Addr) (bs : List Bool), xs = [.ref p] ∧ SqL K H p (bs.map V.bl) ∧ Q (.bl (bs.all id)) H
theorem call_allG (hc : X.calm = true) : CallR X (.builtin "all") (rAll X.K) := by
  intro pins s σ H xs us Q I r h
  obtain ⟨p, bs, rfl, hq, q⟩ := h
  obtain ⟨u, rfl, rx⟩ := vals1 r
  cases rx
  obtain ⟨its, r', pl, hz⟩ := I.list hq
  have e := vals_bools r'
  subst e
  have hl := pl.isList
  have hlt : p < s.heap.objs.size := by obtain ⟨_, e, _⟩ := id hl; exact Heap.lt_size e
  refine call_all_walk (wpAny_pyIter_list hl ?_)
  refine ⟨s.heap.objs.size, [s.heap.objs.size, p], [s.heap.objs.size], (bs.map Value.bool).toArray.size, _, _, fun i => (bs[i]?).getD true, rfl, Walks.list (A := X.A.in1) (I.ok.hd hc) _ p (Nat.ne_of_lt hlt) (bs.map Value.bool).toArray,
    ⟨⟨_, Heap.get?_push_size _ rfl, rfl, rfl⟩, hl.push _⟩, fun i v s' Q' E' hP hQ => ?_, fun h' tk hk => ?_⟩
  · have hP' : (bs.map Value.bool)[i]? = some v := by simpa using hP
    rw [List.getElem?_map] at hP'
    cases hb : bs[i]? with
    | none => rw [hb] at hP'; cases hP'
    | some b =>
      rw [hb] at hP'
      cases hP'
      simp only [hb, Option.getD_some] at hQ
      exact wpAny_truthy_bool hQ
  · have e : ((List.range (bs.map Value.bool).toArray.size).all fun i => (bs[i]?).getD true) = bs.all id := by
      rw [List.size_toArray, List.length_map]; exact LSm.range_all bs
    rw [e]
    exact ⟨.bl _, H, I.kept (t' := tk) (LSm.kept_iter hk), rfl, q⟩
end
section
variable {X : Cx} {e st : Expr} {te : TE} {ts : TO} {pos p2 : Pos}
end
section
variable {X : Cx} {o e : Expr} {to : TE} {t : TA} {apos cpos : Pos}
theorem pe_app (ho : PE X o to) (ha : PA X [e] t) (hn : noStar e = true := by rfl) (hbase : attributeBase o "append" X.env (eval o X.env) = eval o X.env := by rfl) (hline : (apos.endLine == cpos.line) = true := by rfl) :
    PE X (.Call (.Attribute o "append" apos) [e] [] cpos) (tBM X.K "list" rAppend to t) :=
  pe_bm PySem.F.plainAttrs_list PySem.F.slot_list_append PySem.F.type_list_append mt_append ho ha hbase (by rw [star_cons hn]; rfl) hline (star_cons hn) (by rfl)
end
section
variable {K : PySem.W.Frag} {σ : St} {H : Hp} {Q : VK}
theorem rd_bm {T : String} {r : V → List V → Hp → VK → Prop} {to : TE} {t : TA} (h : to σ H fun x H1 => tyV K T x H1 ∧ t σ H1 fun xs H2 => r x xs H2 Q) : tBM K T r to t σ H Q := h
theorem rd_tyL {p : Addr} {xs : List V} {P : Prop} (h : SqL K H p xs) (q : P) : tyV K "list" (.ref p) H ∧ P := ⟨.inl ⟨rfl, xs, h⟩, q⟩
theorem rd_app {l : Addr} {xs : List V} {y : V} (h : H l = some (.lst xs)) (hz : xs.length < sizeLine) (q : Q .non (upd H l (.lst (xs ++ [y])))) : rAppend (.ref l) [y] H Q := ⟨l, xs, y, rfl, rfl, h, hz, q⟩
end
end L2
namespace L2
open PySem PySem.Spec PyProof.Rows
section
variable {K : PySem.W.Frag} {σ : St} {H : Hp} {Q : VK} {nx bk ct : St → Hp → Prop} {rt : VK}
theorem iteNT {A B : Prop} (h : B) : if (!true) = true then A else B := iteF h
theorem iteNF {A B : Prop} (h : A) : if (!false) = true then A else B := iteT h
theorem iteGF {A B : Prop} {b : Bool} (e : b = false) (h : B) : if b = true then A else B := by rw [e]; exact iteF h
theorem iteGT {A B : Prop} {b : Bool} (e : b = true) (h : A) : if b = true then A else B := by rw [e]; exact iteT h
theorem rd_make {C : Addr} {sp : Sp} {E : XK} {t : TA} (h : t σ H fun vs H1 => ∀ x dx, H1 x = none → H1 dx = none → dx ≠ x → sp (.ref x :: vs) (upd (upd H1 dx (.own x)) x (.ins C dx [])) (fun v H2 => v = .non ∧ Q (.ref x) H2) E) : tMake C sp [] E t σ H Q := by
  unfold tMake
  simpa only [List.append_nil] using h
theorem rd_sfld {ta tv : TE} {f : Str} (h : tv σ H fun y H1 => ta σ H1 fun x H2 => ∃ a C dx fs, x = .ref a ∧ H2 a = some (.ins C dx fs) ∧ Cls K C ∧ NoAttr K C f ∧ fs.length < 1000 ∧ nx σ (upd H2 a (.ins C dx (putF f y fs)))) : sFld K ta tv f ⟨nx, rt, bk, ct⟩ σ H := h
theorem rd_put {a C dx : Addr} {fs fs' : List (Str × V)} {f : Str} {y : V} {P : Hp → Prop} (h1 : H a = some (.ins C dx fs)) (c : Cls K C) (n : NoAttr K C f) (hl : fs.length < 1000) (e : putF f y fs = fs') (h : P (upd H a (.ins C dx fs'))) :
    ∃ a' C dx fs, V.ref a = V.ref a' ∧ H a' = some (.ins C dx fs) ∧ Cls K C ∧ NoAttr K C f ∧ fs.length < 1000 ∧ P (upd H a' (.ins C dx (putF f y fs))) := ⟨a, C, dx, fs, rfl, h1, c, n, hl, by rw [e]; exact h⟩
theorem rd_get {a C dx : Addr} {fs : List (Str × V)} {f : Str} {v : V} {P : V → Prop} (h1 : H a = some (.ins C dx fs)) (c : Cls K C) (n : NoAttr K C f) (l : fs.lookup f = some v) (h : P v) :
    ∃ a' C dx fs v, V.ref a = V.ref a' ∧ H a' = some (.ins C dx fs) ∧ Cls K C ∧ NoAttr K C f ∧ fs.lookup f = some v ∧ P v := ⟨a, C, dx, fs, v, rfl, h1, c, n, l, h⟩
theorem bools_of : ∀ {xs : List V}, (∀ x ∈ xs, x = .bl true) → xs = (List.replicate xs.length true).map V.bl
  | [], _ => rfl
  | x :: xs, h => by
    rw [List.length_cons, List.replicate_succ, List.map_cons, ← bools_of (fun y hy => h y (List.mem_cons_of_mem _ hy)), h x (List.mem_cons_self ..)]
theorem rd_allT {p : Addr} {xs : List V} (h1 : SqL K H p xs) (h2 : ∀ x ∈ xs, x = .bl true) (h : Q (.bl true) H) : rAll K [.ref p] H Q := by
  refine ⟨p, List.replicate xs.length true, rfl, ?_, ?_⟩
  · rw [← bools_of h2]; exact h1
  · rw [show (List.replicate xs.length true).all id = true by simp]; exact h
end
end L2
namespace L2
open PySem PySem.Spec PyProof.Rows
section
variable {X : Cx} {pins : List (Addr × Obj)} {σ : St} {H : Hp} {s : Shared} {A : Around} {E : Value → Shared → Prop} {Q : Value → Shared → Prop} {b : Bool}
theorem isinstT_ok {tp : Addr} {dd : Option Addr} {its : List Value} {nn : Nat} {sl : Array (Option Value)} {x : V} {u t : Value} (I : Inv X pins σ H s) (rx : RelV x u) (ty : TyOf X.K H x t) (htp : s.heap.get? tp = some ⟨.type "tuple", dd, .seq its.toArray nn, sl⟩) (e : PySem.W.kitAny X.K t its = some b) (h : ∀ tk, Q (.bool b) { s with toks := tk }) :
    wpAny (model X.prog X.w) A (call (.builtin "isinstance") [u, .ref tp]) Q E s := by
  cases ty with
  | non => cases (show u = Value.none from rx); exact PySem.W.kia_tup PySem.W.kitx_none I.kIn True.intro htp e (fun z => nomatch z) h
  | bl y => cases (show u = Value.bool y from rx); exact PySem.W.kia_tup PySem.W.kitx_bool I.kIn True.intro htp e (fun z => nomatch z) h
  | int i => obtain ⟨t, q⟩ := (show ∃ t, u = Value.int i t from rx); cases q; exact PySem.W.kia_tup PySem.W.kitx_int I.kIn True.intro htp e (fun z => nomatch z) h
  | str y => obtain ⟨t, q⟩ := (show ∃ t, u = Value.str y t from rx); cases q; exact PySem.W.kia_tup PySem.W.kitx_str I.kIn True.intro htp e (fun z => nomatch z) h
  | flt y => obtain ⟨t, q⟩ := (show ∃ t, u = Value.float y t from rx); cases q; exact PySem.W.kia_tup PySem.W.kitx_float I.kIn True.intro htp e (fun z => nomatch z) h
  | @lst a xs ea =>
    cases (show u = Value.ref a from rx)
    obtain ⟨_, _, n, _, h1⟩ := (show ObjOk X.prog X.w H s.heap a (.lst xs) from I.hok a _ ea)
    exact PySem.W.kia_tup PySem.W.kitx_list I.kIn ⟨_, h1, rfl⟩ htp e (fun z => nomatch z) h
  | @frz a ob xs ea =>
    cases (show u = Value.ref a from rx)
    obtain ⟨_, _, _, n, _, h1⟩ := (show ObjOk X.prog X.w H s.heap a (.frz ob (.lst xs)) from I.hok a _ ea)
    exact PySem.W.kia_tup PySem.W.kitx_list I.kIn ⟨_, h1, rfl⟩ htp e (fun z => nomatch z) h
  | @tup a xs ea =>
    cases (show u = Value.ref a from rx)
    obtain ⟨_, _, _, p⟩ := (show ObjOk X.prog X.w H s.heap a (.tup xs) from I.hok a _ ea)
    obtain ⟨o, h1, h2, _⟩ := p
    exact PySem.W.kia_tup PySem.W.kitx_tuple I.kIn ⟨o, h1, h2⟩ htp e (fun z => nomatch z) h
  | @dK a kvs ea =>
    cases (show u = Value.ref a from rx)
    obtain ⟨_, _, vs, _, p⟩ := (show ObjOk X.prog X.w H s.heap a (.dK kvs) from I.hok a _ ea)
    obtain ⟨o, es, ep, h1, h2, _⟩ := p
    exact PySem.W.kia_tup PySem.W.kitx_dict I.kIn ⟨o, h1, h2.1⟩ htp e (fun z => nomatch z) h
  | @dT a kvs ea =>
    cases (show u = Value.ref a from rx)
    obtain ⟨_, _, xs, _, o, es, ep, h1, h2, _⟩ := (show ObjOk X.prog X.w H s.heap a (.dT kvs) from I.hok a _ ea)
    exact PySem.W.kia_tup PySem.W.kitx_dict I.kIn ⟨o, h1, h2.1⟩ htp e (fun z => nomatch z) h
  | @ins a C dx fs ea cl ha hn htk hm =>
    cases (show u = Value.ref a from rx)
    obtain ⟨mA, O, _⟩ := ins_get I.hok ea
    obtain ⟨od, J, _⟩ := O.look
    exact PySem.W.kia_tup (PySem.W.kitx_own (cl.get _) cl.hd ha hn htk hm) I.kIn J htp e (fun z => nomatch z) h
end
section
variable {X : Cx} {K : PySem.W.Frag} {H : Hp} {Q : VK}
theorem vals_types : ∀ {Ts : List String} {us : List Value}, Vals (Ts.map V.ty) us → us = Ts.map Value.type
  | [], _, .nil => rfl
  | T :: Ts, _, .cons r t => by cases r; rw [vals_types t]; rfl
def rIsiT (K : PySem.W.Frag) : List V → Hp → VK → Prop := fun xs H Q => ∃ (x : V) (p : Addr) (Ts : List String) (t : Value) (b : Bool), xs = [x, .ref p] ∧ H p = some (.tup (Ts.map V.ty)) ∧ TyOf K H x t ∧ PySem.W.kitAny K t (Ts.map Value.type) = some b ∧ Q (.bl b) H
theorem call_isiT : CallR X (.builtin "isinstance") (rIsiT X.K) := by
  intro pins s σ H xs us Q I r h
  obtain ⟨x, p, Ts, t, b, rfl, hp, ty, e, q⟩ := h
  obtain ⟨u, w', rfl, rx, ry⟩ := vals2 r
  cases ry
  obtain ⟨hz, its, rv, ⟨o, ho, hc, n, hd⟩⟩ := (show ObjOk X.prog X.w H s.heap p (.tup (Ts.map V.ty)) from I.hok p _ hp)
  have ei := vals_types rv
  subst ei
  obtain ⟨oc, od, odt, osl⟩ := o
  replace hc : oc = .type "tuple" := hc
  replace hd : odt = .seq (Ts.map Value.type).toArray n := hd
  subst hc hd
  exact isinstT_ok I rx ty ho e fun tk => ⟨.bl b, H, I.tok _, rfl, q⟩
theorem rd_isiT {x : V} {p : Addr} {Ts : List String} {t : Value} {b : Bool} (hp : H p = some (.tup (Ts.map V.ty))) (ty : TyOf K H x t) (e : PySem.W.kitAny K t (Ts.map Value.type) = some b) (h : Q (.bl b) H) : rIsiT K [x, .ref p] H Q := ⟨x, p, Ts, t, b, rfl, hp, ty, e, h⟩
def isB : V → V → Option Bool
  | .non, .non => some true
  | .bl a, .bl b => some (a == b)
  | .bl _, .non => some false
  | .int _, .non => some false
  | .str _, .non => some false
  | .ref _, .non => some false
  | _, _ => none
def rIs : R2 := fun x y H Q => ∃ b, isB x y = some b ∧ Q (.bl b) H
def rIsNot : R2 := fun x y H Q => ∃ b, isB x y = some b ∧ Q (.bl (!b)) H
theorem op_isG : OpR X (compareOp .Is) rIs := by
  intro pins s σ H x y v u Q I rx ry h
  obtain ⟨b, e, q⟩ := h
  have fin : EP X pins σ Q (.bool b) s := ⟨.bl b, H, I, rfl, q⟩
  cases x with
  | non => cases y with
    | non => cases e; cases rx; cases ry; exact is_none_gen fin
    | _ => cases e
  | bl a => cases y with
    | bl c => cases e; cases rx; cases ry; exact is_bool fin
    | non => cases e; cases rx; cases ry; exact is_none_gen fin
    | _ => cases e
  | int i => cases y with
    | non => cases e; obtain ⟨t, rfl⟩ := rx; cases ry; exact is_none_gen fin
    | _ => cases e
  | str i => cases y with
    | non => cases e; obtain ⟨t, rfl⟩ := rx; cases ry; exact is_none_gen fin
    | _ => cases e
  | ref i => cases y with
    | non => cases e; cases rx; cases ry; exact is_none_gen fin
    | _ => cases e
  | _ => cases y <;> cases e
theorem rd_is {x y : V} {b : Bool} (e : isB x y = some b) (h : Q (.bl b) H) : rIs x y H Q := ⟨b, e, h⟩
theorem rd_isNot {x y : V} {b : Bool} (e : isB x y = some b) (h : Q (.bl (!b)) H) : rIsNot x y H Q := ⟨b, e, h⟩
end
end L2
namespace L2
open PySem PySem.Spec PyProof.Rows
section
variable {X : Cx}
end
end L2
namespace L2
open PySem PySem.Spec PyProof.Rows
section
variable {prog : Program} {w : World} {A : Around} {E : Value → Shared → Prop}
end
section
variable {X : Cx} {pos : Pos}
end
end L2
namespace L2
open PySem PySem.Spec PyProof.Rows
section
variable {X : Cx}
def rRng : List V → Hp → VK → Prop := fun xs H Q => ∃ i j : Int, xs = [.int i, .int j] ∧ ∀ p, H p = none → Q (.ref p) (upd H p (.rng i j))
theorem rd_rng {H : Hp} {Q : VK} {i j : Int} (h : ∀ p, H p = none → Q (.ref p) (upd H p (.rng i j))) : rRng [.int i, .int j] H Q := ⟨i, j, rfl, h⟩
end
section
variable {X : Cx} {pins : List (Addr × Obj)} {σ : St} {H : Hp} {s : Shared} {h' : Heap}
end
structure Z5 (z TI TO i1 i2 : Addr) : Prop where
  TIz : TI ≠ z
  TOz : TO ≠ z
  i1z : i1 ≠ z
  i2z : i2 ≠ z
  TITO : TI ≠ TO
  TIi1 : TI ≠ i1
  TIi2 : TI ≠ i2
  TOi1 : TO ≠ i1
  TOi2 : TO ≠ i2
  i12 : i1 ≠ i2
theorem Z5.apart {z TI TO i1 i2 l1 l2 : Addr} (d : Z5 z TI TO i1 i2) {h : Heap} {f0 a b : Value} {k1 k2 : Nat} {m1 m2 : Addr} {xs ys : Array Value} (hz : IsZip h z TI TO f0) (hTO : IsPair h TO a b) (h1 : h.IsListIter i1 m1 k1) (h2 : h.IsListIter i2 m2 k2)
    (hl1 : h.IsList l1 xs) (hl2 : h.IsList l2 ys) : ZipApart z TI TO i1 i2 l1 l2 := by
  have key : ∀ {l : Addr} {vs : Array Value}, h.IsList l vs → l ≠ z ∧ l ≠ TO ∧ l ≠ i1 ∧ l ≠ i2 := fun {l vs} hl => by
    obtain ⟨o, ho, hc, n, hd⟩ := hl
    refine ⟨fun e => ?_, fun e => ?_, fun e => ?_, fun e => ?_⟩
    · rw [e, hz] at ho; cases ho; cases hd
    · rw [e, hTO] at ho
      cases ho
      exact absurd (show Value.type "tuple" = Value.type "list" from hc) (by decide)
    · obtain ⟨o1, e1, c1, d1⟩ := h1
      rw [e, e1] at ho; cases ho; rw [d1] at hd; cases hd
    · obtain ⟨o1, e1, c1, d1⟩ := h2
      rw [e, e1] at ho; cases ho; rw [d1] at hd; cases hd
  obtain ⟨a1, a2, a3, a4⟩ := key hl1
  obtain ⟨b1, b2, b3, b4⟩ := key hl2
  exact ⟨d.TIz, d.TOz, d.i1z, d.i2z, d.TITO, d.TIi1, d.TIi2, d.TOi1, d.TOi2, d.i12, a1, a2, a3, a4, b1, b2, b3, b4⟩
section
variable {X : Cx} {elts : List Expr} {x1 : Nat} {tp : Pos}
end
section
variable {σ : St} {H : Hp} {nx : St → Hp → Prop} {rt : VK} {g : TG} {tb : TS} {Q : VK} {K : PySem.W.Frag}
end
end L2
namespace L2
open PySem PySem.Spec PyProof.Rows
section
variable {X : Cx} {e : Expr} {te : TE}
def tPartN (t : TE) : TO := fun σ H Q => t σ H fun x H1 => (x = .non ∧ Q none H1) ∨ ∃ i, x = .int i ∧ Q (some i) H1
theorem rd_partN {σ : St} {H : Hp} {QO : Option Int → Hp → Prop} (h : te σ H fun x H1 => (x = .non ∧ QO none H1) ∨ ∃ i, x = .int i ∧ QO (some i) H1) : tPartN te σ H QO := h
theorem rd_pnN {H : Hp} {QO : Option Int → Hp → Prop} (h : QO none H) : (V.non = .non ∧ QO none H) ∨ ∃ i, V.non = .int i ∧ QO (some i) H := .inl ⟨rfl, h⟩
theorem rd_pnI {H : Hp} {QO : Option Int → Hp → Prop} {i : Int} (h : QO (some i) H) : (V.int i = .non ∧ QO none H) ∨ ∃ j, V.int i = .int j ∧ QO (some j) H := .inr ⟨i, rfl, h⟩
end
end L2
namespace L2.Q
open PySem PySem.Spec PyProof.Rows L2
structure QE (X : Cx) (e : Expr) (t : TE) : Prop where
  h : PE X e t
structure QT (X : Cx) (e : Expr) (t : TT) : Prop where
  h : PT X e t
structure QW (X : Cx) (e : Expr) (t : TT) : Prop where
  h : PW X e t
structure QA (X : Cx) (es : List Expr) (t : TA) : Prop where
  h : PA X es t
structure QS (X : Cx) (st : Stmt) (t : TS) : Prop where
  h : PS X st t
structure QSs (X : Cx) (st : List Stmt) (t : TS) : Prop where
  h : PSs X st t
structure QG (X : Cx) (tg : Expr) (g : TG) : Prop where
  h : PG X tg g
structure QGs (X : Cx) (tg : List Expr) (g : TGs) : Prop where
  h : PGs X tg g
structure QI (X : Cx) (tg it : Expr) (w : TI) : Prop where
  h : PI X tg it w
structure QTs (X : Cx) (ifs : List Expr) (t : TT) : Prop where
  h : PTs X ifs t
structure QO (X : Cx) (o : Option Expr) (t : TO) : Prop where
  h : PO X o t
section
variable {X : Cx} {CX : CXT} {k : Nat} {f C : Addr} {fd : FuncData} {ps : List Str} {sp : Sp} {dvs : List V} {ds : List Value} {E : XK} {x m : Str} {p pos apos p2 spos : Pos} {a b c e o : Expr} {es rest : List Expr} {ta tb tc te to ti : TE} {t : TA} {tA tB tt : TT} {id T : String} {r r' : R2} {rc : List V → Hp → VK → Prop} {st : Stmt} {sts sts2 : List Stmt} {ts us : TS} {g : TG} {gs : TGs} {wi : TI} {tg iter : Expr}
theorem QW.pt {e : Expr} {t : TT} (q : QW X e t) : QT X e t := ⟨q.h.pt⟩
theorem pw_pt {e : Expr} {t : TT} (q : QW X e t) : QT X e t := ⟨q.h.pt⟩
theorem pv (i : Nat) (hN : X.N[i]? = some x := by rfl) (hv : Vis X.env.scope x := by first | exact Or.inl rfl | exact Or.inr (Or.inl rfl) | exact Or.inr (Or.inr rfl)) (hd : (x == ("__debug__" : Str)) = false := by decide)
    (hcd : (x == ("__classdict__" : Str)) = false := by decide) : QE X (.Name x pos) (tVar i) := ⟨pe_var hN hv hd hcd⟩
theorem pe_int {i j} : QE X (.Constant (.int i) j pos) (tC (.int i)) := ⟨L2.pe_int⟩
theorem pe_bl {b j} : QE X (.Constant (.bool b) j pos) (tC (.bl b)) := ⟨L2.pe_bl⟩
theorem pe_non {j} : QE X (.Constant .none j pos) (tC .non) := ⟨L2.pe_non⟩
theorem pe_glob {v : V} {u : Value} (hg : Gl X x) (hm : X.mg x = some u) (r : RelV v u) (hd : (x == ("__debug__" : Str)) = false := by decide) : QE X (.Name x pos) (tC v) := ⟨L2.pe_glob hg hm r hd⟩
theorem pe_gint {n : Int} (hg : Gl X x) (hm : ∃ t, X.mg x = some (.int n t)) (hd : (x == ("__debug__" : Str)) = false := by decide) : QE X (.Name x pos) (tC (.int n)) := ⟨L2.pe_gint hg hm hd⟩
theorem pe_bltn {v : V} {u : Value} (hg : Gl X x) (hm : X.mg x = none) (hv : bootBuiltins x = some u) (r : RelV v u) (hn : x ≠ "__name__" := by decide) (hd : (x == ("__debug__" : Str)) = false := by decide) : QE X (.Name x pos) (tC v) := ⟨L2.pe_bltn hg hm hv r hn hd⟩
theorem pe_op {op : Operator} (ho : OpR X (binaryOp op) r) (ha : QE X a ta) (hb : QE X b tb) : QE X (.BinOp a op b pos) (tOp r ta tb) := ⟨L2.pe_op ho ha.h hb.h⟩
theorem pe_un {op : UnaryOp} {ru : V → Hp → VK → Prop} (ho : UnR X (unaryOp op) ru) (ha : QE X a ta) : QE X (.UnaryOp op a pos) (tUn ru ta) := ⟨L2.pe_un ho ha.h⟩
theorem pe_not (ha : QE X a ta) : QE X (.UnaryOp .Not a pos) (tNotV ta) := ⟨L2.pe_not ha.h⟩
theorem pe_one {op} (h : QE X a ta) : QE X (.BoolOp op [a] pos) ta := ⟨L2.pe_one h.h⟩
theorem pe_and (ha : QE X a ta) (hb : QE X (.BoolOp .And (b :: rest) pos) tb) : QE X (.BoolOp .And (a :: b :: rest) pos) (tAndV ta tb) := ⟨L2.pe_and ha.h hb.h⟩
theorem pe_or (ha : QE X a ta) (hb : QE X (.BoolOp .Or (b :: rest) pos) tb) : QE X (.BoolOp .Or (a :: b :: rest) pos) (tOrV ta tb) := ⟨L2.pe_or ha.h hb.h⟩
theorem pe_cmpR {op : CmpOp} (ho : OpR X (compareOp op) r) (ha : QE X a ta) (hb : QE X b tb) (hm : behindInMarks op b = false) : QE X (.Compare a [op] [b] pos) (tOp r ta tb) := ⟨L2.pe_cmpR ho ha.h hb.h hm⟩
theorem pt_cmpR {op : CmpOp} (ho : OpR X (compareOp op) r) (ha : QE X a ta) (hb : QE X b tb) (hm : behindInMarks op b = false) : QT X (.Compare a [op] [b] pos) (tTest (tOp r ta tb)) := ⟨L2.pt_cmpR ho ha.h hb.h hm⟩
theorem pe_chain {op op' : CmpOp} (ho : OpR X (compareOp op) r) (ho' : OpR X (compareOp op') r') (ha : QE X a ta) (hb : QE X b tb) (hc : QE X c tc) (hm : lastMarks [op, op'] [b, c] = false := by with_unfolding_all rfl) : QE X (.Compare a [op, op'] [b, c] pos) (tChain r r' ta tb tc) := ⟨L2.pe_chain ho ho' ha.h hb.h hc.h hm⟩
theorem pt_val (h : QE X e te) (he : ∀ whole, isTrue e X.env whole = (do let v ← whole; standAt e.pos; holding [v] (truthy v)) := by intro _; rfl) : QT X e (L2.tB te) := ⟨L2.pt_val h.h he⟩
theorem pt_not (ha : QT X a tA) : QT X (.UnaryOp .Not a pos) (tNot tA) := ⟨L2.pt_not ha.h⟩
theorem pw_and1 (ha : QT X a tA) : QW X (.BoolOp .And [a] pos) tA := ⟨L2.pw_and1 ha.h⟩
theorem pw_or1 (ha : QT X a tA) : QW X (.BoolOp .Or [a] pos) tA := ⟨L2.pw_or1 ha.h⟩
theorem pw_and (ha : QT X a tA) (hb : QW X (.BoolOp .And (b :: rest) pos) tB) : QW X (.BoolOp .And (a :: b :: rest) pos) (tAnd tA tB) := ⟨L2.pw_and ha.h hb.h⟩
theorem pw_or (ha : QT X a tA) (hb : QW X (.BoolOp .Or (b :: rest) pos) tB) : QW X (.BoolOp .Or (a :: b :: rest) pos) (tOr tA tB) := ⟨L2.pw_or ha.h hb.h⟩
theorem pa_nil : QA X [] tNil := ⟨L2.pa_nil⟩
theorem pa_c (ha : QE X e te) (hr : QA X es t) (hs : noStar e = true := by rfl) : QA X (e :: es) (tCons te t) := ⟨L2.pa_c ha.h hr.h hs⟩
theorem pe_callN (F : FnOk X.prog X.w X.K X.mg X.base CX k f fd ps sp) (hr : Room k X.A) (hg : Gl X x) (hm : X.mg x = some (.ref f)) (hk : PySem.W.keepIn X.K (.ref f) = true) (hb : Binds X.K fd ps ds) (hd : Vals dvs ds) (hx : Passes CX X E)
    (ha : QA X (e :: es) t) (hn : (e :: es).all noStar = true := by rfl) (hdb : (x == ("__debug__" : Str)) = false := by decide) : QE X (.Call (.Name x p) (e :: es) [] pos) (tCall sp dvs E t) := ⟨L2.pe_callN F hr hg hm hk hb hd hx ha.h hn hdb⟩
theorem pe_makeN (M : Mk X.K C f) (F : FnOk X.prog X.w X.K X.mg X.base CX k f fd ps sp) (hr : Room (k + 1) X.A) (hg : Gl X x) (hm : X.mg x = some (.ref C)) (hb : Binds X.K fd ps ds) (hd : Vals dvs ds) (hx : Passes CX X E)
    (ha : QA X (e :: es) t) (hn : (e :: es).all noStar = true := by rfl) (hdb : (x == ("__debug__" : Str)) = false := by decide) : QE X (.Call (.Name x p) (e :: es) [] pos) (tMake C sp dvs E t) := ⟨L2.pe_makeN M F hr hg hm hb hd hx ha.h hn hdb⟩
theorem pe_callBN (hc : CallR X (.builtin id) rc) (hg : Gl X x) (hm : X.mg x = none) (hv : bootBuiltins x = some (.builtin id)) (ha : QA X (e :: es) t) (hn : (e :: es).all noStar = true := by rfl) (hne : x ≠ "__name__" := by decide) (hdb : (x == ("__debug__" : Str)) = false := by decide) :
    QE X (.Call (.Name x p) (e :: es) [] pos) (tCB rc t) := ⟨L2.pe_callBN hc hg hm hv ha.h hn hne hdb⟩
theorem pe_callTyN (hc : CallR X (.type T) rc) (hg : Gl X x) (hm : X.mg x = none) (hv : bootBuiltins x = some (.type T)) (ha : QA X (e :: es) t) (hn : (e :: es).all noStar = true := by rfl) (hne : x ≠ "__name__" := by decide) (hdb : (x == ("__debug__" : Str)) = false := by decide) :
    QE X (.Call (.Name x p) (e :: es) [] pos) (tCB rc t) := ⟨L2.pe_callTyN hc hg hm hv ha.h hn hne hdb⟩
theorem pe_fld {n : Str} (he : QE X e ta) (hb : attributeBase e n X.env (eval e X.env) = eval e X.env) : QE X (.Attribute e n pos) (tFld X.K ta n) := ⟨L2.pe_fld he.h hb⟩
theorem pe_ix (hr : IxR X r) (ha : QE X a ta) (hb : QE X b tb) (hs : PlainIx b) : QE X (.Subscript a b pos) (tOp r ta tb) := ⟨L2.pe_ix hr ha.h hb.h hs⟩
theorem po_none : QO X none tNoPart := ⟨L2.po_none⟩
theorem po_some (h : QE X e te) : QO X (some e) (tPart te) := ⟨L2.po_some h.h⟩
theorem pe_slice {rs : V → Option Int → Option Int → Hp → VK → Prop} {lo hi : Option Expr} {tl th : TO} (hr : SlR X rs) (he : QE X e te) (hl : QO X lo tl) (hu : QO X hi th) : QE X (.Subscript e (.Slice lo hi none p2) pos) (tSl rs te tl th) := ⟨L2.pe_slice hr he.h hl.h hu.h⟩
theorem pe_lst (h : QA X es t) : QE X (.List es pos) (tLst t) := ⟨L2.pe_lst h.h⟩
theorem pe_tup {k1} (h : QA X es t) : QE X (.Tuple es k1 pos) (tTup t) := ⟨L2.pe_tup h.h⟩
theorem pi_range1N (hg : Gl X "range") (hm : X.mg "range" = none) (ha : QA X [a] t) (hn : noStar a = true := by rfl) : QI X tg (.Call (.Name "range" p) [a] [] pos) (iRng1 t) := ⟨L2.pi_range1N hg hm ha.h hn⟩
theorem pi_range2N (hg : Gl X "range") (hm : X.mg "range" = none) (ha : QA X [a, b] t) (hn : noStar a = true := by rfl) (hn2 : noStar b = true := by rfl) : QI X tg (.Call (.Name "range" p) [a, b] [] pos) (iRng2 t) := ⟨L2.pi_range2N hg hm ha.h hn hn2⟩
theorem pi_list (hl : QE X e te) : QI X tg e (iList X.K te) := ⟨L2.pi_list hl.h⟩
theorem pi_tup (hl : QE X e te) : QI X tg e (iTup X.K te) := ⟨L2.pi_tup hl.h⟩
theorem pg_name {i : Nat} (hN : X.N.Nodup) (hi : X.N[i]? = some x) (hx : Loc X.env.scope x) (hf : X.fn x = true ∨ X.env.scope.names.lookup x = some .local := by first | exact .inl rfl | exact .inr rfl | assumption) : QG X (.Name x pos) (gName i) := ⟨L2.pg_name hN hi hx hf⟩
theorem pgs_nil : QGs X [] gNil := ⟨L2.pgs_nil⟩
theorem pgs_cons {e : Expr} {es : List Expr} {t : TG} {u : TGs} (h1 : QG X e t) (h2 : QGs X es u) (hs : (assignEach (e :: es) X.env).map (·.2) = assign e X.env :: (assignEach es X.env).map (·.2) := by rfl) : QGs X (e :: es) (gCons t u) := ⟨L2.pgs_cons h1.h h2.h hs⟩
theorem pg_tup {k1 n : Nat} (hc : X.calm = true) (h : QGs X es gs) (hn : (assignEach es X.env).length = n := by rfl) (hst : (assignEach es X.env).findIdx? (·.1) = none := by rfl) : QG X (.Tuple es k1 pos) (gTup X.K n gs) := ⟨L2.pg_tup hc h.h hn hst⟩
theorem pg_sub {i : Expr} {tset : TSet} (ho : QE X o to) (hi : QE X i ti) (hs : PSet X tset)
    (ha : ∀ v, assign (.Subscript o i pos) X.env v = (do
      let ov ← holding [v] (eval o X.env)
      let iv ← holding [v, ov] (eval i X.env)
      standAt pos
      holding [v, ov, iv] (setItem ov iv v)
      release [v, ov, iv] []) := by intro _; rfl) : QG X (.Subscript o i pos) (gSub to ti tset) := ⟨L2.pg_sub ho.h hi.h hs ha⟩
theorem pts_nil : QTs X [] tYes := ⟨L2.pts_nil⟩
theorem pts_one (h : QT X c tt) : QTs X [c] tt := ⟨L2.pts_one h.h⟩
theorem root {D : Ends} {σ : St} {H : Hp} (q : QSs X sts ts) (h : ts D σ H) : ∃ t, PSs X sts t ∧ t D σ H := ⟨ts, q.h, h⟩
theorem imp {ts' : TS} (q : QSs X sts ts) (h : ∀ D σ H, ts' D σ H → ts D σ H) : QSs X sts ts' := ⟨fun pins s σ H D I z => q.h pins s σ H D I (h D σ H z)⟩
theorem pss_nil : QSs X [] tNext := ⟨L2.pss_nil⟩
theorem pss_cons (h1 : QS X st ts) (h2 : QSs X sts us) : QSs X (st :: sts) (tSeq ts us) := ⟨L2.pss_cons h1.h h2.h⟩
theorem pss_one (h1 : QS X st ts) : QSs X [st] ts := ⟨L2.pss_one h1.h⟩
theorem ps_never : QS X st tNever := ⟨L2.ps_never⟩
theorem ps_expr (he : QE X e te) (hs : swapsWith e none pos.line X.env = pure false := by rfl) : QS X (.Expr e pos) (tDrop te) := ⟨L2.ps_expr he.h hs⟩
theorem ps_ret (he : QE X e te) : QS X (.Return (some e) pos) (tRet te) := ⟨L2.ps_ret he.h⟩
theorem ps_if (hc : QT X c tt) (ha : QSs X sts ts) (hb : QSs X sts2 us) : QS X (.If c sts sts2 pos) (tIfS tt ts us) := ⟨L2.ps_if hc.h ha.h hb.h⟩
theorem ps_set {i : Nat} {pos' : Pos} (hN : X.N.Nodup) (hi : X.N[i]? = some x) (hx : Loc X.env.scope x) (he : QE X e te) (hs : swapsWith e (some (.Name x pos')) pos.line X.env = pure false := by rfl) (hf : X.fn x = true ∨ X.env.scope.names.lookup x = some .local := by first | exact .inl rfl | exact .inr rfl | assumption) :
    QS X (.Assign [.Name x pos'] e pos) (tAsg te (gName i)) := ⟨L2.ps_set hN hi hx he.h hs hf⟩
theorem ps_asg (he : QE X e te) (hg : QG X tg g) (hs : swapsWithSole [tg] e pos.line X.env = pure false := by rfl) (hw : swappedStores [tg] e X.env = pure none := by rfl)
    (h1 : (assignEach [tg] X.env).map (·.2) = [assign tg X.env] := by rfl) : QS X (.Assign [tg] e pos) (tAsg te g) := ⟨L2.ps_asg he.h hg.h hs hw h1⟩
theorem ps_aug {i : Nat} {op : Operator} {tip : TIp} {pos' : Pos} (hN : X.N.Nodup) (hi : X.N[i]? = some x) (hx : Loc X.env.scope x) (he : QE X e te) (ho : PIp X op tip) (hf : X.fn x = true ∨ X.env.scope.names.lookup x = some .local := by first | exact .inl rfl | exact .inr rfl | assumption) :
    QS X (.AugAssign (.Name x pos') op e pos) (tAug i te tip) := ⟨L2.ps_aug hN hi hx he.h ho hf⟩
theorem ps_augS {i : Expr} {tget : V → V → Hp → VK → Prop} {tip : TIp} {tset : TSet} {op : Operator} {tpos : Pos} (ho : QE X o to) (hi : QE X i ti) (hg : PGet X tget) (he : QE X e te) (hp : PIp X op tip) (hs : PSet X tset)
    (ha : ∀ ov iv new, augStore i ov iv new = (do holding [new, ov, iv] (setItem ov iv new); release [new, ov, iv] []; pure .next) := by intros; rfl) : QS X (.AugAssign (.Subscript o i tpos) op e pos) (tAugS to ti te tget tip tset) := ⟨L2.ps_augS ho.h hi.h hg he.h hp hs ha⟩
theorem ps_fld {n : Str} {pos' : Pos} (ha : QE X o ta) (hv : QE X e te) (hs : swapsWith e (some (.Attribute o n pos')) pos.line X.env = pure false) : QS X (.Assign [.Attribute o n pos'] e pos) (sFld X.K ta te n) := ⟨L2.ps_fld ha.h hv.h hs⟩
theorem ps_for (hp : PassesOwn (model X.prog X.w) X.A X.env X.xe) (hc : X.calm = true) (hi : QI X tg iter wi) (hg : QG X tg g) (hb : QSs X sts ts)
    (hs : ∀ x, foldedSetIterable iter X.env x = pure x := by intro _; rfl) : QS X (.For tg iter sts [] pos) (tFor wi g ts) := ⟨L2.ps_for hp hc hi.h hg.h hb.h hs⟩
variable {scope : Scope} {elt target : Expr} {ifs : List Expr} {N : List Str}
theorem pe_comp {k : Nat} {idx : List Nat} {N : List Str} (S : BlkScope X scope N k idx) (hc : X.calm = true) (hi : QI X target iter wi)
    (hg : ∀ fp C s H, QG (cxC X scope N fp C s H) target g) (ho : Own k g) (ht : ∀ fp C s H, QTs (cxC X scope N fp C s H) ifs tt) (he : ∀ fp C s H, QE (cxC X scope N fp C s H) elt te)
    (hs : ∀ x, foldedSetIterable iter X.env x = pure x := by intro _; rfl) : QE X (.ListComp elt [⟨target, iter, ifs, 0⟩] scope pos) (tComp wi k idx g tt te) :=
  ⟨L2.pe_comp k idx S hc hi.h (fun fp C s H => (hg fp C s H).h) ho (fun fp C s H => (ht fp C s H).h) (fun fp C s H => (he fp C s H).h) hs⟩
theorem ps_setC {k : Nat} {idx : List Nat} {i : Nat} {N : List Str} {pos' : Pos} (hN : X.N.Nodup) (hix : X.N[i]? = some x) (hx : Loc X.env.scope x)
    (S : BlkScope X scope N k idx) (hc : X.calm = true) (hi : QI X target iter wi)
    (hg : ∀ fp C s H, QG (cxC X scope N fp C s H) target g) (ho : Own k g) (ht : ∀ fp C s H, QTs (cxC X scope N fp C s H) ifs tt) (he : ∀ fp C s H, QE (cxC X scope N fp C s H) elt te)
    (hsw : swapsWith (.ListComp elt [⟨target, iter, ifs, 0⟩] scope pos) (some (.Name x pos')) spos.line X.env = pure true := by rfl)
    (hs : ∀ x, foldedSetIterable iter X.env x = pure x := by intro _; rfl) (hfn : X.fn x = true ∨ X.env.scope.names.lookup x = some .local := by first | exact .inl rfl | exact .inr rfl | assumption) :
    QS X (.Assign [.Name x pos'] (.ListComp elt [⟨target, iter, ifs, 0⟩] scope pos) spos) (tAsg (tComp wi k idx g tt te) (gName i)) :=
  ⟨L2.ps_setC k idx hN hix hx S hc hi.h (fun fp C s H => (hg fp C s H).h) ho (fun fp C s H => (ht fp C s H).h) (fun fp C s H => (he fp C s H).h) hsw hs hfn⟩
variable {x1 : Nat} {e1 e2 e3 e4 e5 e6 e7 e8 : Expr} {t1 t2 t3 t4 t5 t6 t7 t8 : TE}
theorem lst1 (h1 : QE X e1 t1) (n1 : noStar e1 = true := by rfl) : QE X (.List [e1] pos) (tLst (tCons t1 tNil)) := ⟨L2.lst1 h1.h n1⟩
theorem lst2 (h1 : QE X e1 t1) (h2 : QE X e2 t2) (n1 : noStar e1 = true := by rfl) (n2 : noStar e2 = true := by rfl) : QE X (.List [e1, e2] pos) (tLst (tCons t1 (tCons t2 tNil))) := ⟨L2.lst2 h1.h h2.h n1 n2⟩
theorem tup2 {k1} (h1 : QE X e1 t1) (h2 : QE X e2 t2) (n1 : noStar e1 = true := by rfl) (n2 : noStar e2 = true := by rfl) : QE X (.Tuple [e1, e2] k1 pos) (tTup (tCons t1 (tCons t2 tNil))) := ⟨L2.tup2 h1.h h2.h n1 n2⟩
theorem lst3 (h1 : QE X e1 t1) (h2 : QE X e2 t2) (h3 : QE X e3 t3) (n1 : noStar e1 = true := by rfl) (n2 : noStar e2 = true := by rfl) (n3 : noStar e3 = true := by rfl) : QE X (.List [e1, e2, e3] pos) (tLst (tCons t1 (tCons t2 (tCons t3 tNil)))) := ⟨L2.lst3 h1.h h2.h h3.h n1 n2 n3⟩
theorem lst4 (h1 : QE X e1 t1) (h2 : QE X e2 t2) (h3 : QE X e3 t3) (h4 : QE X e4 t4) (n1 : noStar e1 = true := by rfl) (n2 : noStar e2 = true := by rfl) (n3 : noStar e3 = true := by rfl) (n4 : noStar e4 = true := by rfl) : QE X (.List [e1, e2, e3, e4] pos) (tLst (tCons t1 (tCons t2 (tCons t3 (tCons t4 tNil))))) := ⟨L2.lst4 h1.h h2.h h3.h h4.h n1 n2 n3 n4⟩
theorem lst7 (h1 : QE X e1 t1) (h2 : QE X e2 t2) (h3 : QE X e3 t3) (h4 : QE X e4 t4) (h5 : QE X e5 t5) (h6 : QE X e6 t6) (h7 : QE X e7 t7) (n1 : noStar e1 = true := by rfl) (n2 : noStar e2 = true := by rfl) (n3 : noStar e3 = true := by rfl) (n4 : noStar e4 = true := by rfl) (n5 : noStar e5 = true := by rfl) (n6 : noStar e6 = true := by rfl) (n7 : noStar e7 = true := by rfl) : QE X (.List [e1, e2, e3, e4, e5, e6, e7] pos) (tLst (tCons t1 (tCons t2 (tCons t3 (tCons t4 (tCons t5 (tCons t6 (tCons t7 tNil)))))))) := ⟨L2.lst7 h1.h h2.h h3.h h4.h h5.h h6.h h7.h n1 n2 n3 n4 n5 n6 n7⟩
end
end L2.Q
namespace L2.Q
open PySem PySem.Spec PyProof.Rows L2
section
variable {X : Cx} {CX : CXT} {k : Nat} {f C : Addr} {fd : FuncData} {ps : List Str} {sp : Sp} {dvs : List V} {ds : List Value} {E : XK} {x m : Str} {p pos apos p2 spos cpos tp : Pos} {a b c e o st : Expr} {es rest elts : List Expr} {ta tb tc te to ti : TE} {t : TA} {x1 : Nat} {ts : TO}
theorem pi_enum (hg : Gl X "enumerate") (hm : X.mg "enumerate" = none) (ha : QA X [a] t) (hn : noStar a = true := by rfl) : QI X (.Tuple elts x1 tp) (.Call (.Name "enumerate" p) [a] [] pos) (iEnum X.K t) := ⟨L2.pi_enum hg hm ha.h hn⟩
theorem pe_app (ho : QE X o to) (ha : QA X [e] t) (hn : noStar e = true := by rfl) (hbase : attributeBase o "append" X.env (eval o X.env) = eval o X.env := by rfl) (hline : (apos.endLine == cpos.line) = true := by rfl) :
    QE X (.Call (.Attribute o "append" apos) [e] [] cpos) (tBM X.K "list" rAppend to t) := ⟨L2.pe_app ho.h ha.h hn hbase hline⟩
end
end L2.Q
namespace L2.Q
open PySem PySem.Spec PyProof.Rows L2
section
variable {X : Cx} {K' : PySem.W.Frag} {x m n : Str} {p pos apos p2 spos cpos tp pos' : Pos} {a b c e o st iter tg : Expr} {es rest elts : List Expr} {ta tb tc te to ti : TE} {t : TA} {x1 : Nat} {ts : TO}
theorem pe_ixK (ha : QE X a ta) (hb : QE X b tb) (hs : PlainIx b) (hK : X.K = K' := by rfl) : QE X (.Subscript a b pos) (tOp (rIx K') ta tb) := by subst hK; exact ⟨L2.pe_ix ix_seq ha.h hb.h hs⟩
theorem pi_listK (hl : QE X e te) (hK : X.K = K' := by rfl) : QI X tg e (iList K' te) := by subst hK; exact ⟨L2.pi_list hl.h⟩
theorem pi_tupK (hl : QE X e te) (hK : X.K = K' := by rfl) : QI X tg e (iTup K' te) := by subst hK; exact ⟨L2.pi_tup hl.h⟩
theorem pi_enumK (hg : Gl X "enumerate") (hm : X.mg "enumerate" = none) (ha : QA X [a] t) (hn : noStar a = true := by rfl) (hK : X.K = K' := by rfl) : QI X (.Tuple elts x1 tp) (.Call (.Name "enumerate" p) [a] [] pos) (iEnum K' t) := by subst hK; exact ⟨L2.pi_enum hg hm ha.h hn⟩
theorem pg_tupK {k1 n : Nat} {gs : TGs} (hc : X.calm = true) (h : QGs X es gs) (hn : (assignEach es X.env).length = n := by rfl) (hst : (assignEach es X.env).findIdx? (·.1) = none := by rfl) (hK : X.K = K' := by rfl) : QG X (.Tuple es k1 pos) (gTup K' n gs) := by subst hK; exact ⟨L2.pg_tup hc h.h hn hst⟩
theorem pe_fldK (he : QE X e ta) (hb : attributeBase e n X.env (eval e X.env) = eval e X.env) (hK : X.K = K' := by rfl) : QE X (.Attribute e n pos) (tFld K' ta n) := by subst hK; exact ⟨L2.pe_fld he.h hb⟩
theorem ps_fldK (ha : QE X o ta) (hv : QE X e te) (hs : swapsWith e (some (.Attribute o n pos')) pos.line X.env = pure false) (hK : X.K = K' := by rfl) : QS X (.Assign [.Attribute o n pos'] e pos) (sFld K' ta te n) := by subst hK; exact ⟨L2.ps_fld ha.h hv.h hs⟩
theorem pe_appK (ho : QE X o to) (ha : QA X [e] t) (hn : noStar e = true := by rfl) (hbase : attributeBase o "append" X.env (eval o X.env) = eval o X.env := by rfl) (hline : (apos.endLine == cpos.line) = true := by rfl) (hK : X.K = K' := by rfl) :
    QE X (.Call (.Attribute o "append" apos) [e] [] cpos) (tBM K' "list" rAppend to t) := by subst hK; exact ⟨L2.pe_app ho.h ha.h hn hbase hline⟩
end
end L2.Q
namespace L2.Q
open PySem PySem.Spec PyProof.Rows L2
section
variable {X : Cx} {K' : PySem.W.Frag} {p pos tp : Pos} {a b : Expr} {elts : List Expr} {t : TA} {x1 : Nat}
end
end L2.Q
namespace L2
open PySem
section
variable {prog : Program} {w : World} {A : Around} {E : Value → Shared → Prop} {s : Shared}
end
def SIt (h : Heap) (k : Bool) (it src : Addr) (i : Nat) : Prop := if k = true then h.IsListIter it src i else h.IsTupleIter it src i
def SSrc (h : Heap) (k : Bool) (src : Addr) (items : Array Value) : Prop := if k = true then h.IsList src items else h.IsTuple src items
theorem SIt.at {h h' : Heap} {k : Bool} {it src : Addr} {i : Nat} (x : SIt h k it src i) (e : ∀ o, h.get? it = some o → h'.get? it = some o) : SIt h' k it src i := by
  cases k with
  | true => obtain ⟨o, ho, r⟩ := (show h.IsListIter it src i from x); exact (show h'.IsListIter it src i from ⟨o, e o ho, r⟩)
  | false => obtain ⟨o, ho, r⟩ := (show h.IsTupleIter it src i from x); exact (show h'.IsTupleIter it src i from ⟨o, e o ho, r⟩)
theorem SSrc.at {h h' : Heap} {k : Bool} {src : Addr} {items : Array Value} (x : SSrc h k src items) (e : ∀ o, h.get? src = some o → h'.get? src = some o) : SSrc h' k src items := by
  cases k with
  | true => obtain ⟨o, ho, r⟩ := (show h.IsList src items from x); exact (show h'.IsList src items from ⟨o, e o ho, r⟩)
  | false => obtain ⟨o, ho, r⟩ := (show h.IsTuple src items from x); exact (show h'.IsTuple src items from ⟨o, e o ho, r⟩)
theorem SIt.obj {h : Heap} {k : Bool} {it src : Addr} {i : Nat} (x : SIt h k it src i) : ∃ o vs, h.get? it = some o ∧ o.data = .fields vs := by
  cases k with
  | true => obtain ⟨o, ho, _, r⟩ := (show h.IsListIter it src i from x); exact ⟨o, _, ho, r⟩
  | false => obtain ⟨o, ho, _, r⟩ := (show h.IsTupleIter it src i from x); exact ⟨o, _, ho, r⟩
section
variable {prog : Program} {w : World} {A : Around} {E : Value → Shared → Prop} {s : Shared}
end
abbrev ZS := Bool × Addr × Addr
abbrev IsTupN (h : Heap) (T : Addr) (vs : Array Value) : Prop := h.get? T = some { cls := .type "tuple", data := .seq vs }
section
variable {prog : Program} {w : World} {A : Around} {E : Value → Shared → Prop} {s : Shared}
end
def ZSt (z TI TO : Addr) (L : List ZS) (i : Nat) (h : Heap) : Prop :=
  IsZip h z TI TO .none ∧ IsTupN h TI (L.map fun t => Value.ref t.2.1).toArray ∧ (∃ arr, IsTupN h TO arr ∧ arr.size = L.length) ∧ ∀ t ∈ L, SIt h t.1 t.2.1 t.2.2 i
abbrev itObj (k : Bool) (src : Addr) : Obj := { cls := .type (if k = true then "list_iterator" else "tuple_iterator"), data := .fields #[.ref src, .int 0 0] }
theorem SIt.new {h : Heap} {k : Bool} {it src : Addr} (e : h.get? it = some (itObj k src)) : SIt h k it src 0 := by
  cases k with
  | true => exact (show h.IsListIter it src 0 from ⟨_, e, rfl, rfl⟩)
  | false => exact (show h.IsTupleIter it src 0 from ⟨_, e, rfl, rfl⟩)
section
variable {prog : Program} {w : World} {A : Around} {E : Value → Shared → Prop} {s : Shared}
end
section
variable {prog : Program} {w : World} {A : Around} {E : Value → Shared → Prop} {s : Shared}
end
end L2
namespace L2
open PySem PySem.Spec PyProof.Rows
def Src (H : Hp) (k : Bool) (a : Addr) (xs : List V) : Prop := H a = some (if k = true then .lst xs else .tup xs)
theorem Src.inj {H : Hp} {k : Bool} {a : Addr} {xs ys : List V} (h : Src H k a xs) (h' : Src H k a ys) : xs = ys := by
  unfold Src at h h'
  rw [h] at h'
  cases k with
  | true => injection h' with e; injection e
  | false => injection h' with e; injection e
theorem Src.lst {H : Hp} {a : Addr} {xs : List V} (h : H a = some (.lst xs)) : Src H true a xs := h
theorem Src.tup {H : Hp} {a : Addr} {xs : List V} (h : H a = some (.tup xs)) : Src H false a xs := h
theorem Inv.src {X : Cx} {pins : List (Addr × Obj)} {σ : St} {H : Hp} {s : Shared} {k : Bool} {a : Addr} {xs : List V} (I : Inv X pins σ H s) (h : Src H k a xs) : ∃ its : List Value, Vals xs its ∧ SSrc s.heap k a its.toArray ∧ xs.length ≤ sizeLine := by
  cases k with
  | true =>
    obtain ⟨its, r, p, z⟩ := I.list (SqL.of h)
    exact ⟨its, r, p.isList, z⟩
  | false =>
    obtain ⟨its, r, p, z⟩ := I.tuple (SqT.of h)
    exact ⟨its, r, p, z⟩
abbrev zFp (z TI TO : Addr) (L : List ZS) : List Addr := z :: TI :: TO :: L.map (·.2.1)
theorem ZSt.obj {z TI TO : Addr} {L : List ZS} {i : Nat} {h : Heap} (st : ZSt z TI TO L i h) : ∀ b ∈ zFp z TI TO L, ∃ o, h.get? b = some o ∧ ∀ v, o.data ≠ .cell v := fun b hb => by
  obtain ⟨hz, hTI, ⟨arr, hTO, _⟩, hit⟩ := st
  simp only [zFp, List.mem_cons] at hb
  rcases hb with rfl | rfl | rfl | hb
  · exact ⟨_, hz, fun v z => by cases z⟩
  · exact ⟨_, hTI, fun v z => by cases z⟩
  · exact ⟨_, hTO, fun v z => by cases z⟩
  · obtain ⟨t, ht, rfl⟩ := List.mem_map.mp hb
    obtain ⟨o, vs, e, d⟩ := (hit t ht).obj
    exact ⟨o, e, fun v z => by rw [d] at z; cases z⟩
section
variable {X : Cx} {elts : List Expr} {x1 : Nat} {tp : Pos} {k1 k2 k3 : Bool}
end
section
variable {σ : St} {H : Hp} {nx : St → Hp → Prop} {rt : VK} {g : TG} {tb : TS} {Q : VK} {k1 k2 k3 : Bool} {a b c : Addr} {xs ys zs : List V} {n : Nat}
end
section
variable {σ₀ : St} {g : TG} {tt : TT} {te : TE} {R : List V → Hp → Prop} {H : Hp} {k1 k2 k3 : Bool} {a b c : Addr} {xs ys zs : List V} {n : Nat}
end
section
variable {X : Cx}
end
end L2
namespace L2.Q
open PySem PySem.Spec PyProof.Rows L2
section
variable {X : Cx} {p pos tp : Pos} {a b c : Expr} {elts : List Expr} {t : TA} {x1 : Nat} {k1 k2 k3 : Bool}
end
end L2.Q
namespace L2
open PySem PySem.Spec PyProof.Rows
theorem nw {H : Hp} {p : Addr} (o : HO) (n : H p = none) : ∃ H2, upd H p o = H2 ∧ Same H H2 ∧ H2 p = some o := ⟨_, rfl, Same.new n, upd_same⟩
theorem wr (H : Hp) (p : Addr) (o : HO) : ∃ H2, upd H p o = H2 ∧ Keep p H H2 ∧ H2 p = some o := ⟨_, rfl, Keep.upd, upd_same⟩
end L2
namespace L2
open PySem PySem.Spec PyProof.Rows
end L2
namespace L2
open PySem PySem.Spec PyProof.Rows
def Nx (N : St → Hp → Prop) (σ : St) (H : Hp) : Prop := N σ H
structure Tail (N b : St → Hp → Prop) : Prop where
  h : ∀ σ H, b σ H → N σ H
theorem rd_seqH {nx bk ct : St → Hp → Prop} {rt : VK} {σ : St} {H : Hp} {t u : TS} (h : ∀ N, Tail N (u ⟨nx, rt, bk, ct⟩) → t ⟨Nx N, rt, bk, ct⟩ σ H) : tSeq t u ⟨nx, rt, bk, ct⟩ σ H := h _ ⟨fun _ _ h => h⟩
theorem rd_nx {N b : St → Hp → Prop} {σ : St} {H : Hp} (t : Tail N b) (h : b σ H) : Nx N σ H := t.h _ _ h
end L2
namespace L2
open PySem PySem.Spec PyProof.Rows
section
variable {prog : Program} {w : World} {A : Around} {E : Value → Shared → Prop} {s : Shared} {K : PySem.W.Frag} {x C : Addr} {ox : Obj} {od : Option Obj}
end
section
variable {X : Cx}
end
end L2
namespace L2
open PySem PySem.Spec PyProof.Rows
section
variable {X : Cx} {pins : List (Addr × Obj)} {σ : St} {H : Hp} {s : Shared}
end
theorem ObjOk.obj {P : Program} {w : World} {H : Hp} {h : Heap} {a : Addr} {o : HO} (x : ObjOk P w H h a o) : ∃ u, h.get? a = some u := by
  cases o with
  | lst xs => obtain ⟨_, _, _, _, e⟩ := x; exact ⟨_, e⟩
  | tup xs => obtain ⟨_, _, _, u, e, _⟩ := x; exact ⟨u, e⟩
  | dK kvs => obtain ⟨_, _, _, _, u, _, _, e, _⟩ := x; exact ⟨u, e⟩
  | dT kvs => obtain ⟨_, _, _, _, u, _, _, e, _⟩ := x; exact ⟨u, e⟩
  | set S n => obtain ⟨u, _, _, _, e, _⟩ := x; exact ⟨u, e⟩
  | ins C dx fs => obtain ⟨_, _, _, e, _⟩ := x; exact ⟨_, e⟩
  | own y => exact x
  | xd fs => obtain ⟨_, ⟨u, _, _, e, _⟩, _⟩ := x; exact ⟨u, e⟩
  | rng lo hi => obtain ⟨_, _, _, e⟩ := x; exact ⟨_, e⟩
  | frz ob u => exact ⟨_, x.1⟩
  | tbl ps => exact ⟨_, x⟩
  | met f y => exact ⟨_, x⟩
  | ext φ => exact x.2.1
  | cod q => obtain ⟨o, _, _, e, _⟩ := x; exact ⟨o, e⟩
  | ctb pos q => obtain ⟨_, e, _⟩ := x; exact ⟨_, e⟩
theorem Inv.laidN {X : Cx} {pins : List (Addr × Obj)} {σ : St} {H : Hp} {s : Shared} {h' : Heap} {a : Addr} {o : HO} {t' : Nat} (I : Inv X pins σ H s) (k : ∀ b u, s.heap.get? b = some u → h'.get? b = some u) (hne : ∀ b u, s.heap.get? b = some u → b ≠ a)
    (new : ObjOk X.prog X.w (upd H a o) h' a o) : H a = none ∧ Inv X pins σ (upd H a o) { s with heap := h', toks := t' } := by
  have hn : H a = none := by
    cases e : H a with
    | none => rfl
    | some u =>
      obtain ⟨ob, z⟩ := (I.hok a u e).obj
      exact absurd rfl (hne a ob z)
  refine ⟨hn, I.un ⟨fun b u q _ _ _ => k b u q, fun b u q _ _ _ => ⟨u.slots, k b u q⟩, fun b u q n _ => ?_, fun b u q _ => ⟨u, k b u q⟩, fun b xs q => ?_, fun b u xs q => ?_, fun b ps q => ⟨#[], ?_⟩⟩ fun b u e => ?_⟩
  · rw [upd_ne (hne b u q)]; exact n
  · rw [upd_ne (ne_of_none q hn)]; exact q
  · rw [upd_ne (ne_of_none q hn)]; exact q
  · rw [upd_ne (ne_of_none q hn), q]; simp
  · by_cases hb : b = a
    · subst hb; rw [upd_same] at e; cases e; exact new
    · rw [upd_ne hb] at e
      exact (I.hok b u e).stay (fun c v _ q => k c v q) (fun c q => by rw [upd_ne (ne_of_none q hn)]; exact q) fun c xs _ q => by rw [upd_ne (ne_of_none q hn)]; exact q
section
variable {X : Cx} {tg : Expr}
end
section
variable {σ : St} {H : Hp} {nx : St → Hp → Prop} {rt : VK} {g : TG} {tb : TS}
end
section
variable {X : Cx}
end
section
variable {X : Cx} {o e : Expr} {to : TE} {apos cpos : Pos}
theorem pe_clear (ho : PE X o to) (hbase : attributeBase o "clear" X.env (eval o X.env) = eval o X.env := by rfl) (hline : (apos.endLine == cpos.line) = true := by rfl) :
    PE X (.Call (.Attribute o "clear" apos) [] [] cpos) (tBM0 X.K "list" rClear to) :=
  pe_bm0 PySem.F.plainAttrs_list PySem.F.slot_list_clear PySem.F.type_list_clear mt_clear ho hbase hline
end
section
variable {K : PySem.W.Frag} {σ : St} {H : Hp} {Q : VK}
theorem rd_bm0 {T : String} {r : V → List V → Hp → VK → Prop} {to : TE} (h : to σ H fun x H1 => tyV K T x H1 ∧ r x [] H1 Q) : tBM0 K T r to σ H Q := h
theorem rd_clear {l : Addr} {xs : List V} (h : H l = some (.lst xs)) (q : Q .non (upd H l (.lst []))) : rClear (.ref l) [] H Q := ⟨l, xs, rfl, rfl, h, q⟩
end
end L2
namespace L2.Q
open PySem PySem.Spec PyProof.Rows
section
variable {X : Cx} {K' : PySem.W.Frag} {tg o i value l : Expr} {to td ty tv tl : TE} {pos pos' apos cpos : Pos}
theorem pe_clearK (ho : QE X o to) (hbase : attributeBase o "clear" X.env (eval o X.env) = eval o X.env := by rfl) (hline : (apos.endLine == cpos.line) = true := by rfl) (hK : X.K = K' := by rfl) :
    QE X (.Call (.Attribute o "clear" apos) [] [] cpos) (tBM0 K' "list" rClear to) := by subst hK; exact ⟨L2.pe_clear ho.h hbase hline⟩
theorem ps_dput (hu : X.A.units + 9 < cLine) (ho : QE X o td) (hi : QE X i ty) (hv : QE X value tv) (hs : swapsWith value (some (.Subscript o i pos')) pos.line X.env = pure false := by rfl) :
    QS X (.Assign [.Subscript o i pos'] value pos) (sDPut td ty tv) := ⟨L2.ps_dput (by omega) ho.h hi.h hv.h hs⟩
end
end L2.Q
namespace L2
open PySem PySem.Spec PyProof.Rows
section
variable {σ : St} {H : Hp} {Q : VK} {nx bk ct : St → Hp → Prop} {rt : VK}
theorem rd_dput {td ty tv : TE} (h : tv σ H fun v H1 => td σ H1 fun x H2 => ty σ H2 fun y H3 => ∃ a H4, x = .ref a ∧ DPut H3 a y v H4 ∧ nx σ H4) : sDPut td ty tv ⟨nx, rt, bk, ct⟩ σ H := h
end
end L2
namespace L2
open PySem PySem.Spec PyProof.Rows
structure ErrCls (K : PySem.W.Frag) (C : Addr) : Prop where
  ga : PySem.W.findIn K (.ref C) "__getattribute__" = some (some (.builtin "BaseException.__getattribute__"))
  gx : PySem.W.findIn K (.ref C) "__getattr__" = some none
  ex : PySem.W.mroIn K C (.type "BaseException") = some true
section
variable {prog : Program} {w : World} {A : Around} {E : Value → Shared → Prop} {s : Shared} {K : PySem.W.Frag} {x C : Addr} {ox : Obj} {od : Option Obj} {name : Str} {v : Value} {expr : Bool}
end
def errMro : List Value → Bool
  | .ref _ :: r => errMro r
  | l => l == [.type "ValueError", .type "Exception", .type "BaseException", .type "object"]
theorem refuse_base (self : Value) : refuseLoop self "__setattr__" [.type "ValueError", .type "Exception", .type "BaseException", .type "object"] = pure () := by kernel_rfl
theorem errMro_ind {P : List Value → Prop} (h0 : P [.type "ValueError", .type "Exception", .type "BaseException", .type "object"]) (h1 : ∀ c r, P r → P (.ref c :: r)) : ∀ {l : List Value}, errMro l = true → P l := by
  intro l
  induction l with
  | nil => intro e; cases e
  | cons u r ih =>
    intro e
    cases u with
    | ref c => exact h1 c r (ih e)
    | _ => rw [show _ :: r = [Value.type "ValueError", .type "Exception", .type "BaseException", .type "object"] from beq_iff_eq.mp e]; exact h0
theorem refuse_err (self : Value) {l : List Value} (e : errMro l = true) : refuseLoop self "__setattr__" l = pure () :=
  errMro_ind (P := fun l => refuseLoop self "__setattr__" l = pure ()) (refuse_base self) (fun c r h => by rw [refuseLoop_ref]; exact h) e
theorem errMro_has {l : List Value} (e : errMro l = true) : l.contains (.type "object") = true ∧ l.isEmpty = false :=
  errMro_ind (P := fun l => l.contains (.type "object") = true ∧ l.isEmpty = false) ⟨by decide, rfl⟩ (fun c r h => ⟨by rw [List.contains_cons, h.1, Bool.or_true], rfl⟩) e
section
variable {prog : Program} {w : World} {A : Around} {E : Value → Shared → Prop} {s : Shared} {K : PySem.W.Frag} {x C : Addr} {o : Obj} {name : Str} {v : Value}
open PySem.Builtin PySem.Builtin.ObjectAttr in
theorem set_err {Q : Unit → Shared → Prop} (X : K.In s.heap) (hx : s.heap.get? x = some o) (hc : o.cls = .ref C) (hnc : ∀ c, o.data ≠ .cls c) (hnf : PySem.W.notCls o = true) (hdn : o.dict = none)
    (hs : PySem.W.findIn K (.ref C) "__setattr__" = some (some (.builtin "object.__setattr__"))) (hm : (PySem.W.clsIn K C).any (fun cd => errMro cd.mro && cd.hasDict) = true) (ht : PySem.W.findIn K (.ref C) name = some none)
    (h : ∀ h', h'.get? x = some { o with dict := some s.heap.objs.size } → h'.Ns1 s.heap.objs.size (fun y => if y = name then some v else none) → (∀ b ob, b ≠ x → s.heap.get? b = some ob → h'.get? b = some ob) → ∀ tk, Q () { s with heap := h', toks := tk }) :
    wpAny (model prog w) A (setAttr (.ref x) name v) Q E s := by
  have J : PySem.W.InstAt s.heap x o C none := ⟨hx, hc, hnf, by rw [hdn]; trivial⟩
  obtain ⟨cd, hcd, hq⟩ := PySem.W.any_some hm
  obtain ⟨hmro, hhd⟩ := Bool.and_eq_true_iff.mp hq
  have SF := PySem.F.store_object
  refine PySem.W.set_plain X J hs ?_
  obtain ⟨hp, g, d, t, os⟩ := s
  have L0 := J.type (M := model prog w)
  have LM : PySem.W.Looks (model prog w) hp (mroOf (.ref C)) cd.mro := (PySem.W.looks_clsIn X hcd).andThen .now
  have LA := PySem.W.looks_findIn (M := model prog w) X ht
  have sub : PySem.W.Looks (model prog w) hp (isInstance (.ref x) (.type "object")) true := L0.andThen (PySem.W.looks_mroIn X (by unfold PySem.W.mroIn; rw [hcd, Option.bind_some, if_neg (by rw [(errMro_has hmro).2]; decide), (errMro_has hmro).1]))
  refine codeAny_call_builtin SF.slot.plain SF.entry (@PySem.W.check_slot (model prog w) _ _ _ "object.__setattr__" "object" "__setattr__" (.ref x) [.str name t, v] [] _ SF.kind SF.split sub (SF.args (.ref x) (.str name t) v) ?_)
  rw [PySem.W.osa_eq, refuse_eq]
  refine wpAny_bind (wpAny_bind (PySem.W.Looks.at L0 (wpAny_bind (PySem.W.Looks.at LM ?_))))
  rw [refuse_err _ hmro]
  refine wpAny_pure (wpAny_bind (PySem.W.Looks.at L0 (wpAny_bind (PySem.W.Looks.at LA (wpAny_bind (wpAny_pure ?_))))))
  show wpAny _ _ (storeInOwnDict (.ref x) (.ref C) (.str name t) name v false) _ _ _
  refine wpAny_bind (wpAny_pure (wpAny_bind (wpAny_bind (wpAny_loadPart hx ?_))))
  rw [hc]
  refine wpAny_bind (PySem.W.Looks.at (PySem.W.looks_clsIn X hcd) ?_)
  rw [if_neg (by rw [hhd]; simp)]
  dsimp only
  rw [hdn]
  dsimp only
  rw [if_neg (by simp [typeHasDict])]
  have hx1 : (hp.push { cls := .type "dict", data := .dict #[] }).get? x = some o := Heap.get?_push_of_some _ hx
  have hne : x ≠ hp.objs.size := Nat.ne_of_lt (Heap.lt_size hx)
  split
  · rename_i c z; exact absurd z (hnc c)
  refine wpAny_bind (wpAny_alloc' (wpAny_bind (wpAny_update' hx1 (wpAny_pure ?_))))
  have hg1 : ((hp.push { cls := .type "dict", data := .dict #[] }).update x fun o => { cls := o.cls, dict := some hp.objs.size, data := o.data, slots := o.slots }).Ns hp.objs.size (fun _ => none) :=
    ⟨_, #[], _, (Heap.get?_update_ne _ _ _ _ hne.symm).trans (Heap.get?_push_at rfl rfl), rfl, fun e he => absurd he (by simp), fun _ => rfl⟩
  show wpAny _ _ (storeInDict hp.objs.size (.str name t) name v) _ _ _
  unfold storeInDict newKeyGuard
  refine wpAny_bind (wpAny_pure (wpAny_bind (wpAny_nsSet1 (Heap.Ns1.of_empty hg1) fun h' hn2 hs2 => ?_)))
  obtain ⟨oD, esD, epD, hoD, hdD, hcD⟩ := hn2.count (PySem.Within.cons name v PySem.Within.nil)
  refine wpAny_bind (wpAny_lookBehind hoD (by rw [hdD]; exact pastItsLine_dict (Nat.le_trans hcD (Nat.le_succ_of_le (sz_le (n := 1) (by decide))))) (wpAny_pure ?_))
  refine h h' ?_ ?_ (fun b ob hb e => ?_) _
  · refine (hs2.2 x hne).trans (Heap.get?_update_self _ hx1 ?_)
    have hfr := (Heap.get?_some_iff.mp hx).2
    obtain ⟨oc, od, odt, osl⟩ := o
    cases odt <;> first | rfl | exact hfr
  · exact hn2
  · exact (hs2.2 b (Nat.ne_of_lt (Heap.lt_size e))).trans ((Heap.get?_update_ne _ _ _ _ hb).trans (Heap.get?_push_of_some _ e))
end
section
variable {prog : Program} {w : World} {A : Around} {E : Value → Shared → Prop} {s : Shared} {K : PySem.W.Frag}
variable {nm q : Str} {C N fI : Addr} {bs bm bmB : List Value} {hdct : Bool} {sn : List Str} {sub : List Value} {ab : Bool} {col : Option Bool} {dd : Option Addr} {k0 k1 k2 k3 k5 : Option Value} {B newId initId : String}
theorem call_err (F : ExcBaseFacts B newId initId bmB) {rest : List Value} {Q : Value → Shared → Prop} (X : K.In s.heap) (hC : s.heap.get? C = some (excClassObj nm q C N bs bm hdct sn sub ab col dd k0 k1 k2 k3 k5 newId)) (T : OwnTail s.heap bmB bm)
    (hi : PySem.W.findIn K (.ref C) "__init__" = some (some (.ref fI))) (hf : PySem.W.typeIn K (.ref fI) = some (.type "function")) (hz : rest.length ≤ sizeLine)
    (hq : ∀ h' e, Heap.MadeExcOf s.heap h' e (.ref C) rest → wpAny (model prog w) (A.under (.builtin "type.__call__" ⟨.ref C :: rest, []⟩)) (call (.ref fI) (.ref e :: rest)) (fun r s' => r = .none ∧ Q (.ref e) s') E { s with heap := h' }) :
    wpAny (model prog w) A (call (.ref C) rest) Q E s := by
  obtain ⟨h, g, d, t, os⟩ := s
  have f1 := tc_lookup
  have f2 := tc_bind (.ref C)
  have hT : (⟨h, g, d, t, os⟩ : Shared).TypeIs (.ref C) "type" := ⟨_, hC, rfl⟩
  refine wpAny_call (codeAny_of_tree (show wpAny _ _ (callAny (.ref C) ⟨rest, []⟩) _ _ _ from ?_))
  repeat (any_goals (first | assumption | with_reducible refine wpAny_loadPart_at (o := excClassObj nm q C N bs bm hdct sn sub ab col dd k0 k1 k2 k3 k5 newId) hC ?_ | wp_step))
  refine ⟨rfl, codeAny_call_builtin_at (Code.quiet_builtin _ (by decide +kernel)) entry_typeCall (wpAny_check_type_call_sub hC ?_)⟩
  repeat (first | with_reducible refine wpAny_loadPart_at (o := excClassObj nm q C N bs bm hdct sn sub ab col dd k0 k1 k2 k3 k5 newId) hC ?_ | with_reducible refine wpAny_madeBy_exc hC ?_ | wp_step)
  refine codeAny_call_builtin_code (Code.quiet_builtin _ F.quiet) (wpAny_check_new_subT F T hC (codeAny_exc_new_subT F T hC ?_ hz))
  show wpAny _ _ _ _ _ ⟨(h.push { cls := .type "tuple", data := .seq rest.toArray }).push { cls := .ref C, data := .fields #[.ref h.objs.size, .none, .none, .none, .bool false, .none] }, g, d, t, os⟩
  generalize hH : (h.push { cls := .type "tuple", data := .seq rest.toArray }).push { cls := .ref C, data := .fields #[.ref h.objs.size, .none, .none, .none, .bool false, .none] } = h2
  have kp : ∀ b ob, h.get? b = some ob → h2.get? b = some ob := fun b ob e => by rw [← hH]; exact Heap.get?_push_of_some _ (Heap.get?_push_of_some _ e)
  have he : h2.get? (h.objs.size + 1) = some { cls := .ref C, data := .fields #[.ref h.objs.size, .none, .none, .none, .bool false, .none] } := by rw [← hH]; exact Heap.get?_push_at (by rw [size_push']) rfl
  have ht : h2.get? h.objs.size = some { cls := .type "tuple", data := .seq rest.toArray } := by rw [← hH]; exact Heap.get?_push_of_some _ (Heap.get?_push_at rfl rfl)
  have J : PySem.W.InstAt h2 (h.objs.size + 1) { cls := .ref C, data := .fields #[.ref h.objs.size, .none, .none, .none, .bool false, .none] } C none := ⟨he, rfl, rfl, trivial⟩
  have made : Heap.MadeExcOf h h2 (h.objs.size + 1) (.ref C) rest := ⟨kp, Heap.get?_none_of_le (Nat.le_succ _), h.objs.size, he, Heap.get?_none_of_le (Nat.le_refl _), ht⟩
  refine wpAny_bind ?_
  unfold isInstance
  refine wpAny_bind (PySem.W.Looks.at (J.type (M := model prog w)) (wpAny_isSubtype_exc (kp _ _ hC) ?_))
  rw [show (Value.ref C :: bm).contains (.ref C) = true by simp, if_neg (by decide)]
  refine wpAny_bind (wpAny_holding (PySem.W.special_fn (s := ⟨h2, g, d, t, os⟩) (X.keeps kp) J hi hf (wpAny_mono (hq h2 _ made) (fun r s' z => ?_) fun _ _ y => y)))
  obtain ⟨rfl, hQ⟩ := z
  dsimp only
  rw [if_neg (by decide)]
  exact wpAny_pure hQ
end
structure Lft (fs : List Addr) (e : Addr) (oe : Obj) (h h' : Heap) : Prop where
  keep : ∀ b o, b ∉ fs → b ≠ e → h.get? b = some o → h'.get? b = some o
  slot : ∀ b o, b ∈ fs → h.get? b = some o → ∃ sl, h'.get? b = some { o with slots := sl }
  err : ∃ vs T oT ts, h'.get? e = some { oe with data := .fields vs } ∧ vs[1]? = some (.ref T) ∧ T ≠ e ∧ h.objs.size ≤ T ∧ h'.get? T = some oT ∧ oT.data = .fields ts ∧ ts[3]? = some .none
  ctx : ∀ vs0 vs, oe.data = .fields vs0 → h'.get? e = some { oe with data := .fields vs } → vs[2]? = vs0[2]?
section
variable {M : Model} {A : Around} {E : Value → Shared → Prop} {s : Shared} {base : Heap} {env : Env} {outer : List Env} {L e : Addr} {oe : Obj} {vs : Array Value} {Q : Unit → Shared → Prop}
theorem entry_err {head : Value} {hadNext : Bool} (hfr : A.frames = some (env :: outer)) (hl : s.heap.FunFrames base (env :: outer)) (hf : env.frame = some L) (he : s.heap.get? e = some oe) (hd : oe.data = .fields vs) (hz : 1 < vs.size)
    (h : ∀ h', Lft (frs (env :: outer)) e oe s.heap h' → Q () { s with heap := h' }) :
    wpAny M A (do let a ← frameOf env; let pl ← entryPlaceOf L hadNext; let b ← EntryCells.newEntry head a .none (rawInt L) .none pl; setField (.ref e) 1 b) (fun _ s' => wpAny M A (setFlight (.ref e) none) Q E s') E s := by
  have hene : e ∉ frs (env :: outer) := fun hm => by
    obtain ⟨_, o, ho, hnf⟩ := hl.mem hm
    rw [he] at ho
    cases ho
    exact hnf vs hd
  refine wpAny_bind (wpAny_frameOf_fun hfr hl hf fun h2 hs => wpAny_bind (wpAny_entryPlaceOf fun pl hpl => ?_))
  unfold EntryCells.newEntry newFields
  refine wpAny_bind (wpAny_newObj_type ?_ (hpl.sizeOk5 _ _ _ _ _))
  have he2 : h2.get? e = some oe := (hs.2.1 e hene).trans he
  have nT : h2.objs.size ≠ e := Nat.ne_of_gt (Heap.lt_size he2)
  refine wpAny_setField (Heap.get?_push_of_some _ he2) hd hz ?_
  generalize hTs : ([head, Value.ref L, Value.none, rawInt L, Value.none] ++ if pl.isEmpty = true then List.replicate 6 Value.none else pl).toArray = ts0
  have h3 : 3 < ts0.size := by rw [← hTs]; simp only [List.size_toArray, List.length_append, List.length_cons, List.length_nil]; omega
  have em : Obj.mapFields (·.setIfInBounds 1 (Value.ref h2.objs.size)) oe = { oe with data := .fields (vs.setIfInBounds 1 (Value.ref h2.objs.size)) } := by
    obtain ⟨c, di, dt, sl⟩ := oe
    cases hd
    rfl
  generalize hA : h2.push { cls := .type "traceback", data := .fields ts0 } = hA'
  have ka : ∀ b o, h2.get? b = some o → hA'.get? b = some o := fun b o z => by rw [← hA]; exact Heap.get?_push_of_some _ z
  have kT : hA'.get? h2.objs.size = some { cls := .type "traceback", data := .fields ts0 } := by rw [← hA]; exact Heap.get?_push_size _ rfl
  show wpAny M A (setFlight (.ref e) none) Q E { s with heap := hA'.update e (Obj.mapFields (·.setIfInBounds 1 (Value.ref h2.objs.size))) }
  have he3 : (hA'.update e (Obj.mapFields (·.setIfInBounds 1 (Value.ref h2.objs.size)))).get? e = some { oe with data := .fields (vs.setIfInBounds 1 (Value.ref h2.objs.size)) } := by
    rw [← em]
    exact Heap.get?_update_self _ (ka _ _ he2) (by rw [em]; rfl)
  have hT3 : (hA'.update e (Obj.mapFields (·.setIfInBounds 1 (Value.ref h2.objs.size)))).get? h2.objs.size = some { cls := .type "traceback", data := .fields ts0 } := (Heap.get?_update_other _ _ (Ne.symm nT)).trans kT
  unfold setFlight
  refine wpAny_bind (wpAny_field he3 rfl (x := .ref h2.objs.size) (by simp [hz]) ?_)
  rw [if_pos (show (Value.ref h2.objs.size != Value.none) = true from by simp)]
  refine wpAny_setField hT3 rfl h3 (h _ ⟨fun b o hb hbe z => ?_, fun b o hb z => ?_, ?_, fun vs0 vs1 z1 z2 => ?_⟩)
  · have z2 := (hs.2.1 b hb).trans z
    exact (Heap.get?_update_other _ _ (Nat.ne_of_gt (Heap.lt_size z2))).trans ((Heap.get?_update_other _ _ (Ne.symm hbe)).trans (ka _ _ z2))
  · obtain ⟨sl, z2⟩ := hs.2.2 b o z
    exact ⟨sl, (Heap.get?_update_other _ _ (Nat.ne_of_gt (Heap.lt_size z2))).trans ((Heap.get?_update_other _ _ (show e ≠ b from fun q => hene (by rw [q]; exact hb))).trans (ka _ _ z2))⟩
  · refine ⟨_, h2.objs.size, _, _, (Heap.get?_update_other _ _ nT).trans he3, by simp [hz], nT, Nat.le_of_eq hs.1.symm, Heap.get?_update_self _ hT3 rfl, rfl, by simp [h3]⟩
  · rw [(Heap.get?_update_other _ _ nT).trans he3] at z2
    injection z2 with z2
    injection z2 with _ _ z2
    injection z2 with z2
    rw [hd] at z1
    injection z1 with z1
    rw [← z2, ← z1]
    simp
theorem leave_err (hfr : A.frames = some (env :: outer)) (hl : s.heap.FunFrames base (env :: outer)) (hf : env.frame = some L) (he : s.heap.get? e = some oe) (hd : oe.data = .fields vs) (h1 : vs[1]? = some .none)
    (h : ∀ h', Lft (frs (env :: outer)) e oe s.heap h' → Q () { s with heap := h' }) : wpAny M A (leaving env (.ref e)) Q E s := by
  unfold leaving noteFrame
  simp only [hf]
  refine wpAny_bind (wpAny_bind (wpAny_field he hd h1 ?_))
  rw [if_neg (by decide)]
  exact entry_err hfr hl hf he hd (Array.getElem?_eq_some_iff.mp h1).1 h
end
def ErrO (C : Addr) (od : Option Addr) (e : Addr) : HO := .ext fun h => ∃ o vs, h.get? e = some o ∧ o.cls = .ref C ∧ o.dict = od ∧ o.data = .fields vs ∧ (od ≠ none → vs[2]? = some .none)
theorem errO_ok {P : Program} {w : World} {H : Hp} {h : Heap} {C e : Addr} {od : Option Addr} {o : Obj} {vs : Array Value} (h1 : h.get? e = some o) (h2 : o.cls = .ref C) (h3 : o.dict = od) (h4 : o.data = .fields vs) (h5 : od ≠ none → vs[2]? = some .none) : ObjOk P w H h e (ErrO C od e) :=
  ⟨⟨o, vs, h1, h2, h3, h4, h5⟩, ⟨o, h1⟩, fun _ _ z k => let ⟨o, vs, a, b, c, d⟩ := z; ⟨o, vs, k o a, b, c, d⟩⟩
theorem errO_at {P : Program} {w : World} {H : Hp} {h : Heap} {C e : Addr} {od : Option Addr} (x : ObjOk P w H h e (ErrO C od e)) : ∃ o vs, h.get? e = some o ∧ o.cls = .ref C ∧ o.dict = od ∧ o.data = .fields vs := let ⟨o, vs, a, b, c, d, _⟩ := x.1; ⟨o, vs, a, b, c, d⟩
theorem errO_cx {P : Program} {w : World} {H : Hp} {h : Heap} {C e : Addr} {od : Option Addr} {o : Obj} {vs : Array Value} (x : ObjOk P w H h e (ErrO C od e)) (h1 : h.get? e = some o) (h4 : o.data = .fields vs) (n : od ≠ none) : vs[2]? = some .none := by
  obtain ⟨o', vs', a, b, c, d, f⟩ := x.1
  rw [h1] at a
  cases a
  rw [h4] at d
  cases d
  exact f n
section
variable {X : Cx} {pins : List (Addr × Obj)} {σ : St} {H : Hp} {s : Shared} {h' : Heap} {C e : Addr} {od : Option Addr} {oe : Obj}
theorem Inv.left (I : Inv X pins σ H s) (he : H e = some (ErrO C od e)) (ho : s.heap.get? e = some oe) (lf : Lft (frs X.stack) e oe s.heap h') : Inv X pins σ H { s with heap := h' } := by
  obtain ⟨o, vs, q1, q2, q3, q4⟩ := errO_at (I.hok e _ he)
  rw [ho] at q1
  cases q1
  have stk := I.stkFree
  obtain ⟨vs2, T, oT, ts, r1, _⟩ := lf.err
  have tr : ∀ b u, H b = some u → b ∉ frs X.stack := fun b u z hb => by rw [stk b hb] at z; cases z
  refine I.call (g' := s.gens) (d' := s.drawn) (t' := s.toks) (ch := []) ⟨fun b o z n hb _ => lf.keep b o hb (fun q => by rw [q, he] at n; cases n) z, fun b o z n hb _ => lf.slot b o hb z, fun b o z n _ => n, fun b o z _ => ?_, fun _ _ z => z, fun _ _ _ z => z, fun b ps z => ⟨#[], by rw [z]; simp⟩⟩ (fun a u z => ?_) I.bare (fun b z => nomatch z)
  · by_cases hb : b ∈ frs X.stack
    · obtain ⟨sl, q⟩ := lf.slot b o hb z; exact ⟨_, q⟩
    · by_cases hbe : b = e
      · subst hbe; exact ⟨_, r1⟩
      · exact ⟨o, lf.keep b o hb hbe z⟩
  · by_cases hae : a = e
    · subst hae
      rw [he] at z
      cases z
      exact errO_ok r1 q2 q3 rfl fun n => (lf.ctx _ _ q4 r1).trans (errO_cx (I.hok _ _ he) ho q4 n)
    · refine (I.hok a u z).stay (fun b v hb q => ?_) (fun _ q => q) fun _ _ _ q => q
      rcases hb with rfl | hb
      · exact lf.keep _ v (tr _ _ z) hae q
      · exact lf.keep _ v (tr _ _ hb) (fun y => by rw [y, he] at hb; cases hb) q
end
def CXE (P : Program) (w : World) : CXT := fun outer H s E ev s' => ∃ (e C : Addr) (od : Option Addr) (H' : Hp) (oe : Obj) (vs : Array Value) (T : Addr) (oT : Obj) (ts : Array Value),
  ev = .ref e ∧ s'.os = s.os ∧ AllBare s'.gens ∧ Un (frs outer) [] H H' s.heap s'.heap ∧ HOk P w H' s'.heap ∧ H' e = some (ErrO C od e) ∧ s'.heap.get? e = some oe ∧ oe.data = .fields vs ∧ vs[1]? = some (.ref T) ∧ T ≠ e ∧
  s.heap.objs.size ≤ T ∧ H' T = none ∧ s'.heap.get? T = some oT ∧ oT.data = .fields ts ∧ ts[3]? = some .none ∧ E (.ref e) od H'
theorem raise_out {P : Program} {w : World} {K : PySem.W.Frag} {mg : Str → Option Value} {base : Heap} {N : List Str} {qual : Str} {scope : Scope} {f : Addr} {cd : Value} {A : Around} {outer : List Env} {s s' : Shared} {H H' : Hp} {E : XK} {pins : List (Addr × Obj)} {σ : St}
    {C e : Addr} {od : Option Addr} {oe : Obj} {vs : Array Value} (I : Inv (cxOf (CXE P w) P w K mg base N qual scope f cd A outer s H E) pins σ H' s') (he : H' e = some (ErrO C od e)) (ho : s'.heap.get? e = some oe) (hd : oe.data = .fields vs) (h1 : vs[1]? = some .none) (hE : E (.ref e) od H') :
    (cxOf (CXE P w) P w K mg base N qual scope f cd A outer s H E).xe (.ref e) s' := by
  refine leave_err (base := base) I.ok.frames I.stack rfl ho hd h1 fun h' lf => ?_
  have I2 := I.left he ho lf
  obtain ⟨vs2, T, oT, ts, r1, r2, r3, r4, r5, r6, r7⟩ := lf.err
  have sT : s.heap.objs.size ≤ T := Nat.le_trans I.sz r4
  have nT : s'.heap.get? T = none := Heap.get?_none_of_le r4
  have hT : H' T = none := by
    cases z : H' T with
    | none => rfl
    | some u =>
      obtain ⟨o2, z2⟩ := (I.hok T u z).obj
      rw [nT] at z2
      cases z2
  exact ⟨e, C, od, H', _, _, T, oT, ts, rfl, I2.os, I2.bare, I2.base, I2.hok, he, r1, rfl, r2, r3, sT, hT, r5, r6, r7, hE⟩
end L2
namespace L2
open PySem PySem.Spec PyProof.Rows
def veMro : List Value := [.type "ValueError", .type "Exception", .type "BaseException", .type "object"]
def excMkIn (K : PySem.W.Frag) (C : Addr) : Bool := match K.lookup C with
  | some ⟨.type "type", _, .cls cd, sl⟩ => (match cd.mro, sl.toList with
    | .ref C' :: bm, [_, _, _, _, some (.builtin n), _] => C' == C && n == "ValueError.__new__" && !cd.hasDel && PySem.W.tailIn K veMro bm
    | _, _ => false)
  | _ => false
theorem excMk_of {K : PySem.W.Frag} {h : Heap} {C : Addr} (X : K.In h) (q : excMkIn K C = true) : ∃ nm qn N bs bm hd sn sub ab col dd k0 k1 k2 k3 k5,
    h.get? C = some (excClassObj nm qn C N bs bm hd sn sub ab col dd k0 k1 k2 k3 k5 "ValueError.__new__") ∧ OwnTail h veMro bm := by
  unfold excMkIn at q
  split at q
  · rename_i dd cd sl ho
    split at q
    · rename_i C' bm k0 k1 k2 k3 n k5 hm hs
      simp only [Bool.and_eq_true, beq_iff_eq, Bool.not_eq_true'] at q
      obtain ⟨⟨⟨rfl, rfl⟩, hdel⟩, ht⟩ := q
      obtain ⟨nm, bs, mro, ns, qn, hd, sn, sub, ab, col, del⟩ := cd
      dsimp only at hm hdel
      subst hm hdel
      have hsl : sl = #[k0, k1, k2, k3, some (.builtin "ValueError.__new__"), k5] := by
        obtain ⟨l⟩ := sl
        simp only at hs
        rw [hs]
      subst hsl
      exact ⟨nm, qn, ns, bs, bm, hd, sn, sub, ab, col, dd, k0, k1, k2, k3, k5, X _ _ ho, PySem.W.tail_of_in X ht⟩
    · cases q
  · cases q
structure ErrK (K : PySem.W.Frag) (C : Addr) : Prop where
  z : ErrCls K C
  sa : PySem.W.findIn K (.ref C) "__setattr__" = some (some (.builtin "object.__setattr__"))
  ca : PySem.W.findIn K (.ref C) "__class__" = some (some (.builtin "object.__class__"))
  cg : PySem.W.specialIn K (.builtin "object.__class__") "__get__" = some (some (.builtin "getset_descriptor.__get__"))
  ct : PySem.W.takesIn K (.builtin "object.__class__") = some true
  mo : PySem.W.mroIn K C (.type "object") = some true
  hd : PySem.W.hasDictIn K C = true
  mm : (PySem.W.clsIn K C).any (fun cd => errMro cd.mro && cd.hasDict) = true
  made : excMkIn K C = true
  kp : PySem.W.keepIn K (.ref C) = true
def ErrN (C : Addr) (od : Option Addr) (e : Addr) : HO := .ext fun h => ∃ o t, h.get? e = some o ∧ o.cls = .ref C ∧ o.dict = od ∧ o.data = .fields #[.ref t, .none, .none, .none, .bool false, .none]
theorem errN_ok {P : Program} {w : World} {H : Hp} {h : Heap} {C e t : Addr} {od : Option Addr} {o : Obj} (h1 : h.get? e = some o) (h2 : o.cls = .ref C) (h3 : o.dict = od) (h4 : o.data = .fields #[.ref t, .none, .none, .none, .bool false, .none]) : ObjOk P w H h e (ErrN C od e) :=
  ⟨⟨o, t, h1, h2, h3, h4⟩, ⟨o, h1⟩, fun _ _ z k => let ⟨o, t, a, b, c, d⟩ := z; ⟨o, t, k o a, b, c, d⟩⟩
theorem errN_at {P : Program} {w : World} {H : Hp} {h : Heap} {C e : Addr} {od : Option Addr} (x : ObjOk P w H h e (ErrN C od e)) : ∃ o t, h.get? e = some o ∧ o.cls = .ref C ∧ o.dict = od ∧ o.data = .fields #[.ref t, .none, .none, .none, .bool false, .none] := x.1
theorem not_freed {o : Obj} {vs : Array Value} (h : o.data = .fields vs) : PySem.W.notCls o = true := by
  obtain ⟨c, d, dt, sl⟩ := o
  cases h
  rfl
section
variable {X : Cx} {pins : List (Addr × Obj)} {σ : St} {H : Hp} {s : Shared}
theorem Inv.errOld {C e : Addr} {od : Option Addr} (I : Inv X pins σ H s) (he : H e = some (ErrN C od e)) : Inv X pins σ (upd H e (ErrO C od e)) s := by
  obtain ⟨o, t, a, b, c, d⟩ := errN_at (I.hok e _ he)
  exact I.write (x := e) (e := e) (h' := s.heap) (t' := s.toks) (by rw [he]; trivial) (.inl rfl) (fun _ _ _ q => q) ⟨o, a⟩ (errO_ok a b c d fun _ => rfl)
end
end L2
namespace L2
open PySem PySem.Spec PyProof.Rows
def tMkE (C : Addr) (sp : Sp) (t : TA) : TE := fun σ H Q => t σ H fun vs H1 => ∀ x, H1 x = none → sp (.ref x :: vs) (upd H1 x (ErrN C none x)) (fun v H2 => v = .non ∧ Q (.ref x) H2) E0
section
variable {X : Cx} {k : Nat} {f C : Addr} {fd : FuncData} {ps : List Str} {sp : Sp} {x : Str} {p pos : Pos} {e : Expr} {es : List Expr} {t : TA} {te : TE}
theorem new_err {pins : List (Addr × Obj)} {σ : St} {H : Hp} {s : Shared} {h' : Heap} {e : Addr} {us : List Value} (I : Inv X pins σ H s) (m : Heap.MadeExcOf s.heap h' e (.ref C) us) :
    H e = none ∧ Inv X pins σ (upd H e (ErrN C none e)) { s with heap := h' } := by
  obtain ⟨kp, nE, t, he, _⟩ := m
  exact I.laidN (t' := s.toks) kp (fun b u q z => by rw [z, nE] at q; cases q) (errN_ok he rfl rfl rfl)
theorem pe_mkE (Z : ErrK X.K C) (hi : PySem.W.findIn X.K (.ref C) "__init__" = some (some (.ref f))) (hf : PySem.W.isFn X.K (.ref f) = true) (F : FnOk X.prog X.w X.K X.mg X.base CX0 k f fd ps sp) (hr : Room (k + 1) X.A) (hg : Gl X x) (hm : X.mg x = some (.ref C)) (hb : Binds X.K fd ps [])
    (ha : PA X (e :: es) t) (hlen : ps.length ≤ 1000) (hdb : (x == ("__debug__" : Str)) = false := by decide) (he : starEach (e :: es) X.env = (false, eval e X.env) :: starEach es X.env := by rfl) (hpl : (backTo pos (starEach es X.env)).any (·.1) = false := by rfl) :
    PE X (.Call (.Name x p) (e :: es) [] pos) (tMkE C sp t) := by
  intro pins s σ H Q I h
  refine wpAny_Call_Name_kw (ld_glob I hg hm ?_ hdb)
  refine PySem.W.callWith_K (h₀ := X.base) I.ok.mod.kin Z.kp (thn (ha pos pins s σ H _ I h) fun us s1 ⟨vs, H1, I1, r, q⟩ => ⟨I1.kIn, ?_⟩) he hpl
  obtain ⟨nm, qn, N, bs, bm, hd, sn, sub, ab, col, dd, k0, k1, k2, k3, k5, hC, T⟩ := excMk_of I1.kIn Z.made
  have hln : us.length ≤ sizeLine := by
    have e1 := F.len _ _ _ _ (q _ (I1.hok.fresh (Nat.le_refl s1.heap.objs.size)))
    rw [← r.length]
    rw [List.length_cons] at e1
    exact sz_le (by omega)
  refine call_err PySem.F.excBase_ValueError I1.kIn hC T hi (beq_iff_eq.mp hf) hln fun h' a m => ?_
  obtain ⟨n1, I2⟩ := new_err I1 m
  have hq := q a n1
  have r2 : Vals (V.ref a :: vs) (Value.ref a :: us) := .cons rfl r
  have hl : (Value.ref a :: us).length = ps.length := by rw [← r2.length]; exact F.len _ _ _ _ hq
  refine wpAny_call (codeAny_mono (F.run _ X.stack _ _ ⟨Value.ref a :: us, []⟩ (Value.ref a :: us) _ _ E0 (hr.make C us []) (I2.env0.make C us []) (by have := hb _ (Value.ref a :: us) I2.kIn (by rw [List.append_nil]; exact hl); rwa [List.append_nil] at this) r2 hq) fun r s' hq' => ?_)
  cases r with
  | error e => exact False.elim hq'
  | ok fl =>
    cases fl with
    | ret u =>
      obtain ⟨v, H', I3, rv, ev, q3⟩ := I2.after hq'
      subst ev
      exact ⟨rv, V.ref a, H', I3, rfl, q3⟩
    | next => exact False.elim hq'
    | brk => exact False.elim hq'
    | cont => exact False.elim hq'
def Raises (X : Cx) (E : XK) : Prop := ∀ (pins : List (Addr × Obj)) (σ : St) (H : Hp) (s : Shared) (e C : Addr) (od : Option Addr) (oe : Obj) (vs : Array Value), Inv X pins σ H s → H e = some (ErrO C od e) → s.heap.get? e = some oe → oe.data = .fields vs → vs[1]? = some .none → E (.ref e) od H → X.xe (.ref e) s
theorem raises_cx {P : Program} {w : World} {K : PySem.W.Frag} {mg : Str → Option Value} {base : Heap} {N : List Str} {qual : Str} {scope : Scope} {f : Addr} {cd : Value} {A : Around} {outer : List Env} {s : Shared} {H : Hp} {E : XK} :
    Raises (cxOf (CXE P w) P w K mg base N qual scope f cd A outer s H E) E := fun _ _ _ _ _ _ _ _ _ I he ho hd h1 hE => raise_out I he ho hd h1 hE
theorem pass_cx {P : Program} {w : World} {K : PySem.W.Frag} {mg : Str → Option Value} {base : Heap} {N : List Str} {qual : Str} {scope : Scope} {f : Addr} {cd : Value} {A : Around} {outer : List Env} {s : Shared} {H : Hp} {E : XK} :
    PassesOwn (model P w) (cxOf (CXE P w) P w K mg base N qual scope f cd A outer s H E).A (cxOf (CXE P w) P w K mg base N qual scope f cd A outer s H E).env (cxOf (CXE P w) P w K mg base N qual scope f cd A outer s H E).xe :=
  fun _ _ h => wpAny_leaving_again (SameStack.refl _) h
def tRaise (K : PySem.W.Frag) (E : XK) (te : TE) : TS := fun _ σ H => te σ H fun v H1 => ∃ e C od, v = .ref e ∧ H1 e = some (ErrN C od e) ∧ ErrK K C ∧ E (.ref e) od (upd H1 e (ErrO C od e))
theorem raise_made {M : Model} {A : Around} {Ex : Value → Shared → Prop} {env : Env} {s : Shared} {x : Sem Value} {Q : Flow → Shared → Prop} {K : PySem.W.Frag} (hh : A.handled = none)
    (h : wpAny M A x (fun v s₁ => ∃ e C oe vs, v = .ref e ∧ K.In s₁.heap ∧ excMkIn K C = true ∧ s₁.heap.get? e = some oe ∧ oe.cls = .ref C ∧ oe.data = .fields vs ∧ vs[1]? = some .none ∧ Ex (.ref e) s₁) Ex s) :
    wpAny M A (raiseStmt env (some x) none) Q Ex s := by
  unfold raiseStmt
  refine wpAny_bind (wpAny_mono h (fun v s₁ h₁ => ?_) fun _ _ x => x)
  obtain ⟨e, C, oe, vs, rfl, X, hc, he, hcl, hd, h1, hE⟩ := h₁
  obtain ⟨nm, qn, N, bs, bm, hdd, sn, sub, ab, col, dd, k0, k1, k2, k3, k5, hC, T⟩ := excMk_of X hc
  have hcB : (Value.ref C :: bm).contains (.type "BaseException") = true := by rw [List.contains_cons, T.hasType (b := true) (by decide), Bool.or_true]
  obtain ⟨hp, g, d, tk, os⟩ := s₁
  obtain ⟨oc, od, odt, osl⟩ := oe
  cases hcl
  cases hd
  repeat (first | with_reducible refine wpAny_loadPart_at he ?_ | with_reducible refine wpAny_loadPart_at hC ?_ | (with_reducible refine wpAny_isSubtype_exc hC ?_; rw [hcB]) | wp_step)
  rw [h1]
  refine wpAny_pure ?_
  rw [if_neg (by decide)]
  exact wpAny_pure (wpAny_raiseNew_none hh hE)
theorem ps_raise {E : XK} (hx : Raises X E) (hc : X.calm = true) (he : PE X e te) : PS X (.Raise (some e) none pos) (tRaise X.K E te) := by
  intro pins s σ H D I h
  rw [arm_exec_Raise]
  refine wpAny_bind (wpAny_standAt ?_)
  refine raise_made (K := X.K) (I.ok.hd hc) ?_
  refine wpAny_bind (thn (he pins s σ H _ I h) fun u s1 ⟨v, H1, I1, rv, a, C, od, ev, ea, Z, q⟩ => ?_)
  subst ev
  obtain rfl : u = Value.ref a := rv
  obtain ⟨o, t, h1, h2, h3, h4⟩ := errN_at (I1.hok a _ ea)
  exact wpAny_bind (wpAny_standAt (wpAny_pure ⟨a, C, o, _, rfl, I1.kIn, Z.made, h1, h2, h4, rfl, hx pins σ _ s1 a C od o _ (I1.errOld ea) upd_same h1 h4 rfl q⟩))
end
end L2
namespace L2
open PySem PySem.Spec PyProof.Rows
def ErrAt (K : PySem.W.Frag) (C : Addr) (f : Str) : Prop := PySem.W.findIn K (.ref C) f = some none
def sErr (K : PySem.W.Frag) (ta tv : TE) (f : Str) : TS := fun D σ H => tv σ H fun y H1 => ta σ H1 fun x H2 => ∃ a C, x = .ref a ∧ H2 a = some (ErrN C none a) ∧ ErrK K C ∧ ErrAt K C f ∧
  ∀ dx, H2 dx = none → dx ≠ a → D.nx σ (upd (upd H2 dx (.xd [(f, y)])) a (ErrN C (some dx) a))
section
variable {X : Cx} {o e value : Expr} {f : Str} {pos pos' : Pos} {ta tv : TE}
theorem ps_setE (ha : PE X o ta) (hv : PE X value tv) (hs : swapsWith value (some (.Attribute o f pos')) pos.line X.env = pure false) : PS X (.Assign [.Attribute o f pos'] value pos) (sErr X.K ta tv f) := by
  intro pins s σ H D I h
  refine plainObj_wpAny_Assign_Attribute (thn (hv pins s σ H _ I h) fun u s1 ⟨y, H1, I1, ry, q⟩ => thn (ha pins s1 σ H1 _ I1 q) fun ov s2 ⟨x, H2, I2, rx, a, C, ex, ea, Z, n, q2⟩ => ?_) hs
  subst ex
  obtain rfl : ov = Value.ref a := rx
  obtain ⟨ob, t, h1, h2, h3, h4⟩ := errN_at (I2.hok a _ ea)
  refine set_err (K := X.K) I2.kIn h1 h2 (fun c z => by rw [h4] at z; cases z) (not_freed h4) h3 Z.sa Z.mm n fun h' g1 g2 g3 tk => ?_
  generalize hdx : s2.heap.objs.size = dx at g1 g2
  have nd : H2 dx = none := I2.hok.fresh (Nat.le_of_eq hdx)
  have nda : dx ≠ a := fun z => by rw [z, ea] at nd; cases nd
  have lt : ∀ b u, s2.heap.get? b = some u → b ≠ dx := fun b u z w' => absurd (Heap.lt_size z) (by rw [w', ← hdx]; exact Nat.lt_irrefl _)
  have na : ∀ b, H2 b = none → b ≠ a := fun b z w' => by rw [w', ea] at z; cases z
  have no : ∀ b u, H2 b = some u → u ≠ ErrN C none a → b ≠ a := fun b u z n w' => by rw [w', ea] at z; exact n (Option.some.inj z).symm
  have no2 : ∀ b u, H2 b = some u → b ≠ dx := fun b u z w' => by rw [w', nd] at z; cases z
  refine ⟨σ, _, I2.un (h' := h') (t' := tk) (H' := upd (upd H2 dx (.xd [(f, y)])) a (ErrN C (some dx) a)) ⟨fun b u z n _ _ => g3 b u (na b n) z, fun b u z n _ _ => ⟨u.slots, g3 b u (na b n) z⟩, fun b u z n _ => ?_, fun b u z _ => ?_, fun b xs z => ?_, fun b u xs z => ?_, fun b ps z => ⟨#[], ?_⟩⟩ ?_, q2 dx nd nda⟩
  · rw [upd_ne (na b n), upd_ne (lt b u z)]; exact n
  · by_cases hb : b = a
    · subst hb; exact ⟨_, g1⟩
    · exact ⟨u, g3 b u hb z⟩
  · rw [upd_ne (no b _ z (fun w' => by cases w')), upd_ne (no2 b _ z)]; exact z
  · rw [upd_ne (no b _ z (fun w' => by cases w')), upd_ne (no2 b _ z)]; exact z
  · rw [upd_ne (no b _ z (fun w' => by cases w')), upd_ne (no2 b _ z), z]; simp
  · intro b ho z
    by_cases hb : b = a
    · subst hb
      rw [upd_same] at z
      cases z
      exact errN_ok g1 h2 rfl h4
    · rw [upd_ne hb] at z
      by_cases hbd : b = dx
      · subst hbd
        rw [upd_same] at z
        cases z
        refine ⟨_, g2, fun f' => ?_⟩
        by_cases hf : f' = f
        · rw [if_pos hf, hf]
          show RelO (List.lookup f [(f, y)]) (some u)
          rw [List.lookup_cons, beq_self_eq_true]
          exact ry
        · rw [if_neg hf, List.lookup_cons, beq_eq_false_iff_ne.mpr hf]
          trivial
      · rw [upd_ne hbd] at z
        refine (I2.hok b ho z).stay (fun c v hc q => ?_) (fun c q => ?_) fun c xs yt q => ?_
        · refine g3 c v ?_ q
          rcases hc with rfl | hc
          · exact hb
          · exact no c _ hc (fun w' => by cases w')
        · rw [upd_ne (no c _ q (fun w' => by cases w')), upd_ne (no2 c _ q)]; exact q
        · rw [upd_ne (no c _ q (fun w' => by subst w'; exact yt)), upd_ne (no2 c _ q)]; exact q
end
end L2
namespace L2
open PySem PySem.Spec PyProof.Rows
section
variable {prog : Program} {w : World} {A : Around} {E : Value → Shared → Prop} {s : Shared} {K : PySem.W.Frag} {x D : Addr} {ox : Obj} {odo : Option Obj}
end
def DictOk (H : Hp) (od : Option Addr) : Prop := ∀ dx, od = some dx → ∃ fs, H dx = some (.xd fs)
theorem DictOk.none {H : Hp} : DictOk H none := fun _ z => nomatch z
theorem DictOk.some {H : Hp} {dx : Addr} {fs : List (Str × V)} (h : H dx = some (.xd fs)) : DictOk H (some dx) := fun _ z => by cases z; exact ⟨fs, h⟩
theorem DictOk.there {P : Program} {w : World} {H : Hp} {h : Heap} {od : Option Addr} (hok : HOk P w H h) (d : DictOk H od) : ∀ dx, od = Option.some dx → ∃ o, h.get? dx = Option.some o := fun dx z => by
  obtain ⟨fs, e⟩ := d dx z
  exact (hok dx _ e).obj
section
variable {X : Cx} {K : PySem.W.Frag} {H : Hp} {Q : VK}
end
end L2
namespace L2
open PySem PySem.Spec PyProof.Rows
abbrev TW := St → Hp → Addr → Prop
structure TrFree (X : Cx) (pins : List (Addr × Obj)) (T : Addr) : Prop where
  up : X.s₀.heap.objs.size ≤ T
  loc : T ≠ X.env.locals
  cell : ∀ x c, X.env.cells.lookup x = some c → c ≠ T
  pin : ∀ p ∈ X.pn ++ pins, p.1 ≠ T
section
variable {M : Model} {A : Around} {E : Value → Shared → Prop} {s : Shared} {base : Heap} {env : Env} {outer : List Env} {L e : Addr} {oe : Obj} {vs : Array Value} {Q : Unit → Shared → Prop}
variable {T : Addr} {oT : Obj} {ts : Array Value}
end
section
variable {X : Cx} {pins : List (Addr × Obj)} {σ : St} {H : Hp} {s : Shared} {h' : Heap} {C e T : Addr} {od : Option Addr} {oe : Obj}
end
structure Held (X : Cx) (pins : List (Addr × Obj)) (H : Hp) (h : Heap) (e : Addr) : Prop where
  ex : ∃ (C : Addr) (od : Option Addr) (oe : Obj) (vs : Array Value) (T : Addr) (oT : Obj) (ts : Array Value), H e = some (ErrO C od e) ∧ h.get? e = some oe ∧ oe.data = .fields vs ∧ vs[1]? = some (.ref T) ∧ T ≠ e ∧ TrFree X pins T ∧ H T = none ∧ h.get? T = some oT ∧ oT.data = .fields ts ∧ 3 < ts.size
def Caught (X : Cx) (pins : List (Addr × Obj)) (W : TW) (ev : Value) (s' : Shared) : Prop := ∃ (e : Addr) (σ : St) (H' : Hp), ev = .ref e ∧ Inv X pins σ H' s' ∧ Held X pins H' s'.heap e ∧ W σ H' e
def Cx.tr (X : Cx) (pins : List (Addr × Obj)) (W : TW) : Cx := { X with pn := X.pn ++ pins, xe := Caught X pins W }
section
variable {X : Cx} {pins pins' : List (Addr × Obj)} {σ : St} {H : Hp} {s : Shared} {W : TW} {e : Addr}
theorem Cx.Ok.tr (ok : X.Ok) : (X.tr pins W).Ok := ⟨ok.mod, ok.kind, ok.glob, ok.blt, ok.above, ok.inj, ok.has, ok.cab, ok.hd, ok.frames, ok.stk, ok.exf, ok.bs, ok.bsz, ok.noex, ok.exfs, ok.funs, ok.frf⟩
theorem Inv.tr (I : Inv X pins σ H s) : Inv (X.tr pins W) [] σ H s := ⟨I.ok.tr, I.os, I.bare, I.base, I.loc, I.cell, I.free, I.freeC, fun p hp => I.pin p (by rw [List.append_nil] at hp; exact hp), I.hok, I.len⟩
theorem Inv.trace {T : Addr} {h' : Heap} (I : Inv X pins σ H s) (F : TrFree X pins T) (hT : H T = none) (k : ∀ b, b ≠ T → h'.get? b = s.heap.get? b) : Inv X pins σ H { s with heap := h' } :=
  I.turned (t' := s.toks) (it := T) (fun b o hb z => (k b hb).trans z) hT F.loc (.inr F.up) F.cell F.pin
end
abbrev TH := Ends → St → Hp → Addr → Prop
section
variable {X : Cx} {x n : Str} {C0 : Addr} {i : Nat} {b₀ : Stmt} {suite body : List Stmt} {np pos : Pos} {rest : List ExceptHandler} {h₀ : ExceptHandler} {hs : List ExceptHandler} {ts : TS} {th : TH} {tb : TW → TS}
end
end L2
namespace L2
open PySem PySem.Spec PyProof.Rows
theorem Fun.okE {P : Program} {w : World} {K : PySem.W.Frag} {mg : Str → Option Value} {base : Heap} {x qual : Str} {st : Stmt} {f : Addr} {fd : FuncData} {N ps : List Str} {k : Nat} {sp : Sp} (F : Fun K x qual st f fd) (S : FnScope N ps (defScope st)) (len : ∀ vs H Q E, sp vs H Q E → vs.length = ps.length)
    (hbody : ∀ (cdv : Value) (A : Around) (outer : List Env) (s : Shared) (H : Hp) (vs : List V) (Q : VK) (E : XK), Room k (A.deeper (envOfC qual (defScope st) s.heap.objs.size f cdv)) → sp vs H Q E →
      ∃ t, PSs (cxOf (CXE P w) P w K mg base N qual (defScope st) f cdv A outer s H E) (defBody st) t ∧ t { nx := fun _ H' => Q .non H', rt := Q } (start N vs) H) : FnOk P w K mg base (CXE P w) (k + 1) f fd ps sp := by
  obtain ⟨oc, od, kV, doc, pm, an, cdv, ct, osl, rfl, lk, hcd⟩ := F.ex
  exact fn_of lk hcd S len fun A outer s H vs Q E hr hsp => hbody cdv A outer s H vs Q E hr hsp
section
variable {X : Cx} {pn : List (Addr × Obj)} {W : TW} {k : Nat} {f C : Addr} {fd : FuncData} {ps : List Str} {sp : Sp} {x : Str} {p pos : Pos} {e : Expr} {es : List Expr} {t : TA}
end
structure RoomH (k : Nat) (A : Around) : Prop where
  dp : A.depth + 3 * k + 5 < recursionLimit
  un : A.units + 16 * k + 200 < cLine
theorem Room.h {k : Nat} {A : Around} (r : Room k A) : RoomH k A := ⟨r.dp, r.un⟩
theorem RoomH.mono {j k : Nat} {A : Around} (r : RoomH k A) (h : j ≤ k) : RoomH j A := ⟨by have := r.dp; omega, by have := r.un; omega⟩
theorem RoomH.calm {k : Nat} {A : Around} (r : RoomH k A) : Room k { A with handled := none } := ⟨rfl, r.dp, r.un⟩
section
variable {X : Cx} {k : Nat} {f : Addr} {fd : FuncData} {ps : List Str} {sp : Sp} {x : Str} {p pos : Pos} {e : Expr} {es : List Expr} {t : TA}
end
end L2
namespace L2
open PySem PySem.Spec PyProof.Rows
theorem passE {X : Cx} : Passes (CXE X.prog X.w) X E0 := fun _ _ _ _ _ _ _ ⟨_, _, _, _, _, _, _, _, _, _, _, _, _, _, _, _, _, _, _, _, _, _, _, _, h⟩ => h.elim
section
variable {K : PySem.W.Frag} {σ : St} {H : Hp} {Q : VK} {nx bk ct : St → Hp → Prop} {rt : VK}
theorem rd_mkE {C : Addr} {sp : Sp} {t : TA} (h : t σ H fun vs H1 => ∀ x, H1 x = none → sp (.ref x :: vs) (upd H1 x (ErrN C none x)) (fun v H2 => v = .non ∧ Q (.ref x) H2) E0) : tMkE C sp t σ H Q := h
theorem rd_raise {E : XK} {te : TE} (h : te σ H fun v H1 => ∃ e C od, v = .ref e ∧ H1 e = some (ErrN C od e) ∧ ErrK K C ∧ E (.ref e) od (upd H1 e (ErrO C od e))) : tRaise K E te ⟨nx, rt, bk, ct⟩ σ H := h
theorem rd_setE {ta tv : TE} {f : Str} (h : tv σ H fun y H1 => ta σ H1 fun x H2 => ∃ a C, x = .ref a ∧ H2 a = some (ErrN C none a) ∧ ErrK K C ∧ ErrAt K C f ∧ ∀ dx, H2 dx = none → dx ≠ a → nx σ (upd (upd H2 dx (.xd [(f, y)])) a (ErrN C (some dx) a))) : sErr K ta tv f ⟨nx, rt, bk, ct⟩ σ H := h
end
end L2
namespace L2.Q
open PySem PySem.Spec PyProof.Rows L2
section
variable {X : Cx} {K' : PySem.W.Frag} {pn : List (Addr × Obj)} {W : TW} {k : Nat} {f C C0 : Addr} {fd : FuncData} {ps : List Str} {sp : Sp} {x n : Str} {p pos pos' np : Pos} {e o : Expr} {es : List Expr} {t : TA} {te ta : TE} {E : XK} {i : Nat} {b₀ : Stmt} {suite body : List Stmt} {rest hs : List ExceptHandler} {h₀ : ExceptHandler} {ts : TS} {th : TH} {tb : TW → TS}
theorem pe_mkE (Z : ErrK X.K C) (hi : PySem.W.findIn X.K (.ref C) "__init__" = some (some (.ref f))) (hf : PySem.W.isFn X.K (.ref f) = true) (F : FnOk X.prog X.w X.K X.mg X.base CX0 k f fd ps sp) (hr : Room (k + 1) X.A) (hg : Gl X x) (hm : X.mg x = some (.ref C)) (hb : Binds X.K fd ps [])
    (ha : QA X (e :: es) t) (hlen : ps.length ≤ 1000 := by decide) (hn : (e :: es).all noStar = true := by rfl) (hdb : (x == ("__debug__" : Str)) = false := by decide) : QE X (.Call (.Name x p) (e :: es) [] pos) (tMkE C sp t) :=
  ⟨L2.pe_mkE Z hi hf F hr hg hm hb ha.h hlen hdb (star_cons (all_tl hn).1) (back_any (all_tl hn).2)⟩
theorem ps_raise (hx : Raises X E) (hc : X.calm = true) (he : QE X e te) (hK : X.K = K' := by rfl) : QS X (.Raise (some e) none pos) (tRaise K' E te) := by subst hK; exact ⟨L2.ps_raise hx hc he.h⟩
theorem ps_setE (ha : QE X o ta) (hv : QE X e te) (hs : swapsWith e (some (.Attribute o n pos')) pos.line X.env = pure false) (hK : X.K = K' := by rfl) : QS X (.Assign [.Attribute o n pos'] e pos) (sErr K' ta te n) := by subst hK; exact ⟨L2.ps_setE ha.h hv.h hs⟩
end
end L2.Q
namespace L2
open PySem PySem.Spec PyProof.Rows
section
variable {X : Cx}
end
end L2
namespace L2
open PySem PySem.Spec PyProof.Rows
end L2
namespace L2
open PySem PySem.Spec PyProof.Rows
section
variable {X : Cx} {o e : Expr} {to : TE} {t : TA} {apos cpos : Pos}
end
end L2
namespace L2.Q
open PySem PySem.Spec PyProof.Rows L2
end L2.Q
namespace L2
open PySem PySem.W PyProof.Rows
section
variable {O : KeyOrd} {key : Nat → O.α} {N : Nat} {cmp : Nat → Nat → (Bool → Shared → Prop) → Shared → Prop} {s : Shared}
def kq (key : Nat → O.α) (p : Array Nat) (i : Nat) : O.α := key (p.getD i 0)
def Up (key : Nat → O.α) (p : Array Nat) (k : Nat) : Prop := ∀ i j, i ≤ j → j < k → O.kle (kq key p i) (kq key p j)
def Dn (key : Nat → O.α) (p : Array Nat) (k : Nat) : Prop := ∀ i j, i ≤ j → j < k → O.kle (kq key p j) (kq key p i)
def Row (N : Nat) (p : Array Nat) : Prop := p.Perm (List.toArray (List.range N))
theorem kq_at {p q : Array Nat} {i j : Nat} (h : p[i]? = q[j]?) : kq key p i = kq key q j := by
  unfold kq
  rw [Array.getD_eq_getD_getElem?, Array.getD_eq_getD_getElem?, h]
theorem kq_bub {p : Array Nat} {a d : Nat} (ha : a < p.size) (hd : d ≤ a) (k : Nat) : kq key (bubble p a d) k = if k = a - d then kq key p a else if a - d < k ∧ k ≤ a then kq key p (k - 1) else kq key p k := by
  have e := getElem?_bubble ha d hd k
  split
  · rename_i h; rw [if_pos h] at e; exact kq_at e
  · rename_i h
    rw [if_neg h] at e
    split
    · rename_i g; rw [if_pos g] at e; exact kq_at e
    · rename_i g; rw [if_neg g] at e; exact kq_at e
theorem kq_rev {p : Array Nat} {i j : Nat} (hj : j ≤ p.size) (k : Nat) : kq key (kas_rev p i j) k = if i ≤ k ∧ k < j then kq key p (i + j - 1 - k) else kq key p k := by
  have e := getElem?_mirror_all (i := i) hj k
  split
  · rename_i h; rw [if_pos h] at e; exact kq_at e
  · rename_i h; rw [if_neg h] at e; exact kq_at e
theorem Row.size {p : Array Nat} (h : Row N p) : p.size = N := by
  have := h.size_eq
  rw [this]
  simp
theorem Row.lt {p : Array Nat} (h : Row N p) (hN : 0 < N) (i : Nat) : p.getD i 0 < N := by
  by_cases hi : i < p.size
  · have e : p.getD i 0 = p[i] := by simp [Array.getD, hi]
    have m : p[i] ∈ p.toList := by simp
    have m2 := (Array.perm_iff_toList_perm.mp h).mem_iff.mp m
    rw [e]
    simpa using m2
  · have e : p.getD i 0 = 0 := by simp [Array.getD, hi]
    rw [e]; exact hN
theorem Row.rev {p : Array Nat} (h : Row N p) (i j : Nat) : Row N (kas_rev p i j) := (mirror_perm p i j _).trans h
theorem Row.bub {p : Array Nat} (h : Row N p) (i j : Nat) : Row N (bubble p i j) := (bubble_perm p i j).trans h
theorem Up.more {p : Array Nat} {m : Nat} (h : Up key p m) (e : O.kle (kq key p (m - 1)) (kq key p m)) : Up key p (m + 1) := fun i j hij hj => by
  by_cases hm : j < m
  · exact h i j hij hm
  · have ej : j = m := by omega
    subst ej
    by_cases hi : i = j
    · subst hi; exact KeyOrd.kle_refl _
    · exact KeyOrd.kle_trans (h i (j - 1) (by omega) (by omega)) e
theorem Dn.more {p : Array Nat} {m : Nat} (h : Dn key p m) (e : O.kle (kq key p m) (kq key p (m - 1))) : Dn key p (m + 1) := fun i j hij hj => by
  by_cases hm : j < m
  · exact h i j hij hm
  · have ej : j = m := by omega
    subst ej
    by_cases hi : i = j
    · subst hi; exact KeyOrd.kle_refl _
    · exact KeyOrd.kle_trans e (h i (j - 1) (by omega) (by omega))
def Ans (key : Nat → O.α) (N : Nat) (cmp : Nat → Nat → (Bool → Shared → Prop) → Shared → Prop) (s : Shared) : Prop := ∀ i j (C : Bool → Shared → Prop), i < N → j < N → C (O.blt (key i) (key j)) s → cmp i j C s
theorem Ans.ask {α : Type} (hc : Ans key N cmp s) (hN : 0 < N) {p : Array Nat} (hp : Row N p) {i j : Nat} {k : Bool → KasT α} {Q : α → Shared → Prop} (h1 : O.klt (kq key p i) (kq key p j) → (k true).kasWp cmp Q s) (h2 : O.kle (kq key p j) (kq key p i) → (k false).kasWp cmp Q s) :
    (KasT.ask (p.getD i 0) (p.getD j 0) k).kasWp cmp Q s := by
  refine hc _ _ _ (hp.lt hN i) (hp.lt hN j) ?_
  cases e : O.blt (key (p.getD i 0)) (key (p.getD j 0)) with
  | true => exact h1 e
  | false => exact h2 e
theorem asc_ok (hc : Ans key N cmp s) (hN : 0 < N) {p : Array Nat} (hp : Row N p) {Q : Nat → Shared → Prop} : ∀ {f m : Nat}, f = N - m → 1 ≤ m → m ≤ N → Up key p m →
    (∀ r, m ≤ r → r ≤ N → Up key p r → (r < N → O.klt (kq key p r) (kq key p (r - 1))) → Q r s) → (kas_asc p f m).kasWp cmp Q s
  | 0, m, hf, h1, hm, hu, h => h m (Nat.le_refl _) hm hu (fun z => by omega)
  | f + 1, m, hf, h1, hm, hu, h => by
    refine hc.ask hN hp (fun z => ?_) (fun z => ?_)
    · rw [if_pos rfl]
      exact h m (Nat.le_refl _) hm hu fun _ => z
    · rw [if_neg (by decide)]
      exact asc_ok hc hN hp (by omega) (by omega) (by omega) (hu.more z) fun r a b c d => h r (by omega) b c d
def Blk (key : Nat → O.α) (p : Array Nat) (n q : Nat) : Prop := ∀ i, n - (q + 1) ≤ i → i < n → kq key p i = kq key p (n - 1)
theorem Blk.same {p : Array Nat} {n q : Nat} (h : Blk key p n q) (hz : n ≤ p.size) (k : Nat) : kq key (kas_rev p (n - (q + 1)) n) k = kq key p k := by
  rw [kq_rev hz]
  split
  · rename_i g
    rw [h k g.1 g.2]
    exact h _ (by omega) (by omega)
  · rfl
theorem desc_ok (hc : Ans key N cmp s) (hN : 0 < N) {Q : Array Nat × Nat × Nat → Shared → Prop} : ∀ {f n q : Nat} {p : Array Nat}, Row N p → f = N - n → 1 ≤ n → n ≤ N → q + 1 ≤ n → Dn key p n → Blk key p n q →
    (∀ p' n' q', Row N p' → 1 ≤ n' → n' ≤ N → q' + 1 ≤ n' → Dn key p' n' → Blk key p' n' q' → Q (p', n', q') s) → (kas_desc f p n q).kasWp cmp Q s
  | 0, n, q, p, hp, hf, h1, hn, hq, hd, hb, h => h p n q hp h1 hn hq hd hb
  | f + 1, n, q, p, hp, hf, h1, hn, hq, hd, hb, h => by
    have hz : n ≤ p.size := by rw [hp.size]; exact hn
    refine hc.ask hN hp (fun z => ?_) (fun z => ?_)
    · rw [if_pos rfl]
      have hd' : Dn key p (n + 1) := hd.more (KeyOrd.kle_of_klt z)
      split
      · have e := hb.same hz
        refine desc_ok hc hN (hp.rev _ _) (by omega) (by omega) (by omega) (by omega) (fun i j a b => ?_) (fun i a b => ?_) h
        · rw [e, e]; exact hd' i j a b
        · have : i = n := by omega
          subst this; rfl
      · refine desc_ok hc hN hp (by omega) (by omega) (by omega) (by omega) hd' (fun i a b => ?_) h
        have : i = n := by omega
        subst this; rfl
    · rw [if_neg (by decide)]
      refine hc.ask hN hp (fun y => ?_) (fun y => ?_)
      · rw [if_pos rfl]
        exact h p n q hp h1 hn hq hd hb
      · rw [if_neg (by decide)]
        have e : kq key p (n - 1) = kq key p n := KeyOrd.kle_antisymm z y
        refine desc_ok hc hN hp (by omega) (by omega) (by omega) (by omega) (hd.more y) (fun i a b => ?_) h
        show kq key p i = kq key p n
        by_cases hi : i < n
        · rw [hb i (by omega) hi, e]
        · have : i = n := by omega
          subst this; rfl
theorem tail_ok (hc : Ans key N cmp s) (hN : 0 < N) {n : Nat} {p : Array Nat} {Q : Nat × Array Nat → Shared → Prop} (hp : Row N p) (h1 : 1 ≤ n) (hn : n ≤ N) (hd : Dn key p n) (h : ∀ m p', Row N p' → 1 ≤ m → m ≤ N → Up key p' m → Q (m, p') s) : (kas_tail3 n N p).kasWp cmp Q s := by
  have hz : n ≤ p.size := by rw [hp.size]; exact hn
  unfold kas_tail3
  rw [KasT.kasWp_bind]
  refine asc_ok hc hN (hp.rev 0 n) rfl h1 hn (fun i j a b => ?_) fun r a b c _ => h r _ (hp.rev 0 n) (by omega) b c
  rw [kq_rev hz, kq_rev hz, if_pos ⟨Nat.zero_le _, by omega⟩, if_pos ⟨Nat.zero_le _, b⟩]
  exact hd _ _ (by omega) (by omega)
theorem descPart_ok (hc : Ans key N cmp s) (hN : 0 < N) {n : Nat} {p : Array Nat} {Q : Nat × Array Nat → Shared → Prop} (hp : Row N p) (h1 : 1 ≤ n) (hn : n < N) (hd : Dn key p n) (hl : O.klt (kq key p n) (kq key p (n - 1))) (h : ∀ m p', Row N p' → 1 ≤ m → m ≤ N → Up key p' m → Q (m, p') s) :
    (kas_descPart n N p).kasWp cmp Q s := by
  unfold kas_descPart
  rw [KasT.kasWp_bind]
  refine desc_ok hc hN hp rfl (by omega) (by omega) (by omega) (hd.more (KeyOrd.kle_of_klt hl)) (fun i a b => by have : i = n := by omega
                                                                                                                 subst this; rfl) fun p' n' q' r1 r2 r3 r4 r5 r6 => ?_
  have hz : n' ≤ p'.size := by rw [r1.size]; exact r3
  split
  · refine tail_ok hc hN (r1.rev _ _) r2 r3 (fun i j a b => ?_) h
    have e := r6.same hz
    show O.kle (kq key (kas_rev p' (n' - (q' + 1)) n') j) (kq key (kas_rev p' (n' - (q' + 1)) n') i)
    rw [e, e]
    exact r5 i j a b
  · exact tail_ok hc hN r1 r2 r3 r5 h
theorem count_ok (hc : Ans key N cmp s) (hN : 0 < N) {p : Array Nat} {Q : Nat × Array Nat → Shared → Prop} (hp : Row N p) (h : ∀ m p', Row N p' → 1 ≤ m → m ≤ N → Up key p' m → Q (m, p') s) : (kas_count N p).kasWp cmp Q s := by
  unfold kas_count
  rw [KasT.kasWp_bind]
  refine asc_ok hc hN hp rfl (Nat.le_refl _) hN (fun i j a b => by have : i = j := by omega
                                                                   subst this; exact KeyOrd.kle_refl _) fun n a b c d => ?_
  have hz : n ≤ p.size := by rw [hp.size]; exact b
  split
  · exact h n p hp a b c
  · rename_i ne
    have nN : n < N := by
      have : n ≠ N := fun z => ne (by simp [z])
      omega
    split
    · refine hc.ask hN hp (fun z => ?_) (fun z => ?_)
      · rw [if_pos rfl]
        exact h n p hp a b c
      · rw [if_neg (by decide)]
        have all : ∀ i, i < n → kq key p i = kq key p 0 := fun i hi => KeyOrd.kle_antisymm (KeyOrd.kle_trans (c i (n - 1) (by omega) (by omega)) z) (c 0 i (by omega) hi)
        have e : ∀ k, kq key (kas_rev p 0 n) k = kq key p k := fun k => by
          rw [kq_rev hz]
          split
          · rw [all _ (by omega), all k (by omega)]
          · rfl
        refine descPart_ok hc hN (hp.rev 0 n) a nN (fun i j x y => ?_) ?_ h
        · rw [e, e, all i (by omega), all j y]
          exact KeyOrd.kle_refl _
        · rw [e, e]
          exact d nN
    · have n1 : n = 1 := by omega
      subst n1
      exact descPart_ok hc hN hp (Nat.le_refl _) nN (fun i j x y => by have : i = j := by omega
                                                                       subst this; exact KeyOrd.kle_refl _) (d nN) h
theorem place_ok (hc : Ans key N cmp s) (hN : 0 < N) {p : Array Nat} (hp : Row N p) {k : Nat} (hu : Up key p k) {Q : Nat → Shared → Prop} : ∀ {f l r : Nat}, l ≤ r → r ≤ k → r - l ≤ f →
    (∀ i, i < l → O.kle (kq key p i) (kq key p k)) → (∀ i, r ≤ i → i < k → O.klt (kq key p k) (kq key p i)) →
    (∀ m, m ≤ k → (∀ i, i < m → O.kle (kq key p i) (kq key p k)) → (∀ i, m ≤ i → i < k → O.klt (kq key p k) (kq key p i)) → Q m s) → (kas_place p k f l r).kasWp cmp Q s
  | 0, l, r, hlr, hrk, hf, ha, hb, h => h l (by omega) ha fun i x y => hb i (by omega) y
  | f + 1, l, r, hlr, hrk, hf, ha, hb, h => by
    unfold kas_place
    by_cases g : l ≥ r
    · rw [if_pos g]
      exact h l (by omega) ha fun i x y => hb i (by omega) y
    · rw [if_neg g]
      refine hc.ask hN hp (fun z => ?_) (fun z => ?_)
      · rw [if_pos rfl]
        refine place_ok hc hN hp hu (by omega) (by omega) (by omega) ha (fun i x y => ?_) h
        exact KeyOrd.klt_of_klt_of_kle z (hu _ i x y)
      · rw [if_neg (by decide)]
        refine place_ok hc hN hp hu (by omega) (by omega) (by omega) (fun i x => ?_) hb h
        exact KeyOrd.kle_trans (hu i _ (by omega) (by omega)) z
theorem bin_ok (hc : Ans key N cmp s) (hN : 0 < N) {Q : Array Nat → Shared → Prop} : ∀ {f k : Nat} {p : Array Nat}, Row N p → f = N - k → k ≤ N → Up key p k → (∀ p', Row N p' → Up key p' N → Q p' s) → (kas_bin f p k).kasWp cmp Q s
  | 0, k, p, hp, hf, hk, hu, h => h p hp (by have : k = N := by omega
                                             subst this; exact hu)
  | f + 1, k, p, hp, hf, hk, hu, h => by
    unfold kas_bin
    rw [KasT.kasWp_bind]
    refine place_ok hc hN hp hu (Nat.zero_le _) (Nat.le_refl _) (by omega) (fun i x => by omega) (fun i x y => by omega) fun m hm ha hb => ?_
    have kz : k < p.size := by rw [hp.size]; omega
    refine bin_ok hc hN (hp.bub k (k - m)) (by omega) (by omega) (fun i j hij hj => ?_) h
    have em : k - (k - m) = m := by omega
    rw [kq_bub kz (by omega), kq_bub kz (by omega), em]
    by_cases i1 : i = m
    · rw [if_pos i1]
      by_cases j1 : j = m
      · rw [if_pos j1]; exact KeyOrd.kle_refl _
      · rw [if_neg j1, if_pos (by omega)]
        exact KeyOrd.kle_of_klt (hb _ (by omega) (by omega))
    · rw [if_neg i1]
      by_cases i2 : m < i ∧ i ≤ k
      · rw [if_pos i2, if_neg (by omega), if_pos (by omega)]
        exact hu _ _ (by omega) (by omega)
      · rw [if_neg i2]
        by_cases j1 : j = m
        · rw [if_pos j1]
          exact ha i (by omega)
        · rw [if_neg j1]
          by_cases j2 : m < j ∧ j ≤ k
          · rw [if_pos j2]
            exact hu _ _ (by omega) (by omega)
          · rw [if_neg j2]
            exact hu _ _ (by omega) (by omega)
theorem sort_ok (hc : Ans key N cmp s) (hN : 0 < N) {Q : Array Nat → Shared → Prop} (h : ∀ p, Row N p → Up key p N → Q p s) : (kas_sort N).kasWp cmp Q s := by
  unfold kas_sort
  rw [KasT.kasWp_bind]
  refine count_ok hc hN (Array.Perm.refl _) fun m p hp h1 hm hu => ?_
  split
  · rename_i z
    have e : max m 1 = m := by omega
    show (kas_bin (N - max m 1) p (max m 1)).kasWp cmp Q s
    rw [e]
    exact bin_ok hc hN hp rfl hm hu h
  · rename_i z
    have z' : ¬ m < N := z
    have e : m = N := by omega
    subst e
    exact h p hp hu
end
end L2
namespace L2
open PySem PySem.W PyProof.Rows
def lexB : List Int → List Int → Bool
  | [], [] => false
  | [], _ :: _ => true
  | _ :: _, [] => false
  | a :: as, b :: bs => if a = b then lexB as bs else decide (a < b)
theorem lexB_cons (a b : Int) (as bs : List Int) : lexB (a :: as) (b :: bs) = if a = b then lexB as bs else decide (a < b) := rfl
theorem lexB_irrefl : ∀ as : List Int, lexB as as = false
  | [] => rfl
  | a :: as => by rw [lexB_cons, if_pos rfl]; exact lexB_irrefl as
theorem lexB_trans : ∀ as bs cs : List Int, lexB as bs = true → lexB bs cs = true → lexB as cs = true
  | [], [], _, h, _ => by cases h
  | [], _ :: _, [], _, h => by cases h
  | [], _ :: _, _ :: _, _, _ => rfl
  | _ :: _, [], _, h, _ => by cases h
  | _ :: _, _ :: _, [], _, h => by cases h
  | a :: as, b :: bs, c :: cs, h1, h2 => by
    rw [lexB_cons] at h1 h2 ⊢
    by_cases e1 : a = b
    · subst e1
      rw [if_pos rfl] at h1
      by_cases e2 : a = c
      · rw [if_pos e2] at h2 ⊢; exact lexB_trans as bs cs h1 h2
      · rw [if_neg e2] at h2 ⊢; exact h2
    · rw [if_neg e1] at h1
      have l1 := of_decide_eq_true h1
      by_cases e2 : b = c
      · subst e2
        rw [if_neg e1]; exact h1
      · rw [if_neg e2] at h2
        have l2 := of_decide_eq_true h2
        rw [if_neg (by omega)]
        exact decide_eq_true (by omega)
theorem lexB_neg : ∀ as bs cs : List Int, lexB as cs = true → lexB as bs = true ∨ lexB bs cs = true
  | [], [], _, h => .inr h
  | [], _ :: _, _, _ => .inl rfl
  | _ :: _, _, [], h => by cases h
  | _ :: _, [], _ :: _, _ => .inr rfl
  | a :: as, b :: bs, c :: cs, h => by
    rw [lexB_cons] at h
    rw [lexB_cons, lexB_cons]
    by_cases e1 : a = b
    · subst e1
      rw [if_pos rfl]
      by_cases e2 : a = c
      · rw [if_pos e2] at h ⊢; exact lexB_neg as bs cs h
      · rw [if_neg e2] at h ⊢; exact .inr h
    · rw [if_neg e1]
      by_cases e2 : b = c
      · subst e2
        rw [if_neg e1] at h
        exact .inl h
      · rw [if_neg e2]
        by_cases l : a < b
        · exact .inl (decide_eq_true l)
        · refine .inr (decide_eq_true ?_)
          by_cases e3 : a = c
          · omega
          · rw [if_neg e3] at h
            have := of_decide_eq_true h
            omega
theorem lexB_total : ∀ as bs : List Int, lexB as bs = false → lexB bs as = false → as = bs
  | [], [], _, _ => rfl
  | [], _ :: _, h, _ => by cases h
  | _ :: _, [], _, h => by cases h
  | a :: as, b :: bs, h1, h2 => by
    rw [lexB_cons] at h1 h2
    by_cases e : a = b
    · subst e
      rw [if_pos rfl] at h1 h2
      rw [lexB_total as bs h1 h2]
    · rw [if_neg e] at h1
      rw [if_neg (Ne.symm e)] at h2
      have := of_decide_eq_false h1
      have := of_decide_eq_false h2
      omega
def lexO : KeyOrd := ⟨List Int, lexB, lexB_irrefl, lexB_trans, lexB_neg, lexB_total⟩
theorem ints_of_vals : ∀ {ns : List Int} {its : List Value}, Vals (ns.map V.int) its → IntsAre its ns
  | [], _, r => by cases r; exact .nil
  | n :: ns, _, r => by
    cases r with
    | cons h t =>
      obtain ⟨u, rfl⟩ := h
      exact .cons n u (ints_of_vals t)
inductive Tups (h : Heap) : List Value → List (List Int) → Prop
  | nil : Tups h [] []
  | cons {x : Addr} {o : Obj} {xs : Array Value} {k : Nat} {t : List Int} {vs : List Value} {ts : List (List Int)} (e : h.get? x = some o) (c : o.cls = .type "tuple") (d : o.data = .seq xs k) (i : IntsAre xs.toList t) (ne : t ≠ []) (r : Tups h vs ts) : Tups h (.ref x :: vs) (t :: ts)
theorem Tups.length {h : Heap} {vs : List Value} {ts : List (List Int)} (r : Tups h vs ts) : vs.length = ts.length := by
  induction r with
  | nil => rfl
  | cons _ _ _ _ _ _ ih => rw [List.length_cons, List.length_cons, ih]
theorem Tups.at_ {h : Heap} {vs : List Value} {ts : List (List Int)} (r : Tups h vs ts) : ∀ {j : Nat}, j < vs.length → ∃ x o xs k, vs.getD j Value.none = .ref x ∧ h.get? x = some o ∧ o.data = .seq xs k ∧ IntsAre xs.toList (ts.getD j []) := by
  induction r with
  | nil => intro j hj; simp at hj
  | cons e c d i ne r ih =>
    intro j hj
    cases j with
    | zero => exact ⟨_, _, _, _, rfl, e, d, i⟩
    | succ j => exact ih (by simpa using hj)
theorem Tups.keeps {h h' : Heap} {vs : List Value} {ts : List (List Int)} (r : Tups h vs ts) (k : ∀ (b : Addr) (o : Obj), o.cls = .type "tuple" → h.get? b = some o → h'.get? b = some o) : Tups h' vs ts := by
  induction r with
  | nil => exact .nil
  | cons e c d i ne _ ih => exact .cons (k _ _ c e) c d i ne ih
section
variable {prog : Program} {w : World} {A : Around} {E : Value → Shared → Prop} {s : Shared}
def outOf (vs : List Value) (p : Array Nat) : Array Value := List.toArray (p.toList.map fun i => vs.getD i Value.none)
end
end L2
namespace L2
open PySem PySem.Spec PySem.W PyProof.Rows
theorem range_getD {α : Type} (d : α) (l : List α) : (List.range l.length).map (fun i => l.getD i d) = l := by
  apply List.ext_getElem
  · simp
  · intro i h1 h2
    simp [List.getD_eq_getElem?_getD, List.getElem?_eq_getElem h2]
theorem refs_of : ∀ {qs : List Addr} {its : List Value}, Vals (qs.map V.ref) its → its = qs.map Value.ref
  | [], _, r => by cases r; rfl
  | q :: qs, _, r => by
    cases r with
    | cons h t =>
      cases h
      rw [refs_of t]
      rfl
theorem vals_refs9 : ∀ (qs : List Addr), Vals (qs.map V.ref) (qs.map Value.ref)
  | [] => .nil
  | q :: qs => .cons rfl (vals_refs9 qs)
structure TupsAt (H : Hp) (qs : List Addr) (ts : List (List Int)) : Prop where
  len : qs.length = ts.length
  at_ : ∀ (j : Nat) q t, qs[j]? = some q → ts[j]? = some t → H q = some (.tup (t.map V.int)) ∧ t ≠ []
theorem TupsAt.tail {H : Hp} {q : Addr} {t : List Int} {qs : List Addr} {ts : List (List Int)} (h : TupsAt H (q :: qs) (t :: ts)) : TupsAt H qs ts := ⟨by have := h.len; simpa using this, fun j a b x y => h.at_ (j + 1) a b x y⟩
theorem TupsAt.tups {X : Cx} {pins : List (Addr × Obj)} {σ : St} {H : Hp} {s : Shared} (I : Inv X pins σ H s) : ∀ {qs : List Addr} {ts : List (List Int)}, TupsAt H qs ts → Tups s.heap (qs.map Value.ref) ts
  | [], [], _ => .nil
  | [], _ :: _, h => by have := h.len; simp at this
  | _ :: _, [], h => by have := h.len; simp at this
  | q :: qs, t :: ts, h => by
    obtain ⟨e, ne⟩ := h.at_ 0 q t rfl rfl
    obtain ⟨_, its, r, o, g1, g2, n, g3⟩ := (show ObjOk X.prog X.w H s.heap q (.tup (t.map V.int)) from I.hok q _ e)
    exact .cons g1 g2 g3 (by simpa using ints_of_vals r) ne (TupsAt.tups I h.tail)
section
variable {X : Cx}
end
end L2
namespace L2
open PySem PySem.Spec PyProof.Rows
section
variable {prog : Program} {w : World} {A : Around} {E : Value → Shared → Prop} {s : Shared} {es : Array DictEntry} {d it vw : Addr} {i ep : Nat}
def Raw (h : Heap) (d : Addr) (es : Array DictEntry) (ep : Nat) : Prop := ∃ o, h.get? d = some o ∧ o.cls = .type "dict" ∧ o.data = .dict es ep
theorem Raw.ty (m : Raw s.heap d es ep) : s.TypeIs (.ref d) "dict" := let ⟨o, a, b, _⟩ := m; ⟨o, a, b⟩
theorem Raw.keep {h h' : Heap} (m : Raw h d es ep) (k : ∀ o, h.get? d = some o → h'.get? d = some o) : Raw h' d es ep := let ⟨o, a, r⟩ := m; ⟨o, k o a, r⟩
theorem raw_items (d : Addr) (lo : (d == sysModules) = false) : MeetsIn prog w (Builtin.«dict.items» ⟨[.ref d], []⟩) (fun _ R s => s.TypeIs (.ref d) "dict" ∧
    R (.ok (.ret (.ref s.heap.objs.size))) { s with heap := s.heap.push { cls := .type "dict_items", data := .fields #[.ref d] } }) :=
  .of_wp fun A R s ⟨ty, h⟩ => by
    unfold Builtin.«dict.items»; with_reducible refine wpAny_bind ?_; unfold Builtin.Dict.noArgs
    refine wpAny_bind (wpAny_notOrdered_dict ty (show wpAny _ _ (pure d) _ _ s from wpAny_pure ?_))
    show wpAny _ _ (Builtin.Dict.showsAll d >>= _) _ _ s; unfold Builtin.Dict.showsAll
    rw [if_neg (fun z => Bool.false_ne_true (lo.symm.trans z))]; refine wpAny_bind (wpAny_pure ?_)
    exact wpAny_bind (wpAny_newObj_type (wpAny_pure (show _ from ⟨_, rfl, h⟩)))
theorem raw_values (d : Addr) (lo : (d == sysModules) = false) : MeetsIn prog w (Builtin.«dict.values» ⟨[.ref d], []⟩) (fun _ R s => s.TypeIs (.ref d) "dict" ∧
    R (.ok (.ret (.ref s.heap.objs.size))) { s with heap := s.heap.push { cls := .type "dict_values", data := .fields #[.ref d] } }) :=
  .of_wp fun A R s ⟨ty, h⟩ => by
    refine wpAny_bind (show _ from ?_); unfold Builtin.Dict.noArgs
    refine wpAny_bind (wpAny_notOrdered_dict ty (show wpAny _ _ (pure d) _ _ s from wpAny_pure ?_))
    show wpAny _ _ (Builtin.Dict.showsAll d >>= _) _ _ s; unfold Builtin.Dict.showsAll
    rw [if_neg (fun z => Bool.false_ne_true (lo.symm.trans z))]; refine wpAny_bind (wpAny_pure ?_)
    exact wpAny_bind (wpAny_newObj_type (wpAny_pure (show _ from ⟨_, rfl, h⟩)))
theorem raw_iterItems {Q : Value → Shared → Prop} (hv : s.heap.IsItemsView vw d) (hm : Raw s.heap d es ep)
    (hQ : Q (.ref s.heap.objs.size) { s with heap := s.heap.push { cls := .type "dict_itemiterator", data := .fields #[.none, .bool false, .ref d, .int 0 0, .int es.size 0, .int ep 0, .none, .none] } }) :
    wpAny (model prog w) A (pyIter (.ref vw)) Q E s := by
  obtain ⟨ov, a1, a2, a3⟩ := id hv; obtain ⟨o, b1, b2, b3⟩ := id hm
  refine wpAny_pyIter_slot hv.typeIs F.slot_dict_items_iter (wpAny_call_entry F.slot_dict_items_iter hv.typeIs F.entry_dict_items_iter (show _ from ?_) (F.args_dict_items_iter_1 _))
  unfold Builtin.«dict_items.__iter__»; refine wpAny_bind (wpAny_pure ?_); with_reducible refine wpAny_bind ?_
  unfold Builtin.Dict_items.dictOf; refine wpAny_bind (wpAny_field a1 a3 (x := .ref d) rfl (wpAny_pure ?_)); with_reducible refine wpAny_bind ?_
  unfold Builtin.Dict_items.newIterator; refine wpAny_bind (wpAny_dictEntries b1 b3 (wpAny_bind (wpAny_dictEpoch b1 b3 ?_)))
  have own : Builtin.Dict_items.ownsTuple "dict_itemiterator" = true := rfl
  simp only [own, if_true]
  refine wpAny_newObj_type (wpAny_pure ⟨_, rfl, "dict_itemiterator", _, ⟨_, Heap.get?_push_size _ rfl, rfl⟩, F.slot_dict_itemiterator_next.lookup, (show _ from ?_)⟩)
    (by simp only [sizeOk, Builtin.Dict_items.ownedTupleFields, List.size_toArray, List.length_append, List.length_cons, List.length_nil, sizeLine_eq]; decide)
  simpa [Builtin.Dict_items.ownedTupleFields, rawInt] using hQ
theorem raw_iterValues {Q : Value → Shared → Prop} (hv : s.heap.IsValuesView vw d) (hm : Raw s.heap d es ep)
    (hQ : Q (.ref s.heap.objs.size) { s with heap := s.heap.push { cls := .type "dict_valueiterator", data := .fields #[.ref d, .int 0 0, .int es.size 0, .int ep 0] } }) :
    wpAny (model prog w) A (pyIter (.ref vw)) Q E s := by
  obtain ⟨ov, a1, a2, a3⟩ := id hv; obtain ⟨o, b1, b2, b3⟩ := id hm
  refine wpAny_pyIter_slot hv.typeIs F.slot_dict_values_iter (wpAny_call_entry F.slot_dict_values_iter hv.typeIs F.entry_dict_values_iter (show _ from ?_) (F.args_dict_values_iter_1 _))
  unfold Builtin.«dict_values.__iter__»; refine wpAny_bind (wpAny_pure ?_); with_reducible refine wpAny_bind ?_
  unfold Builtin.Dict_items.dictOf; refine wpAny_bind (wpAny_field a1 a3 (x := .ref d) rfl (wpAny_pure ?_)); with_reducible refine wpAny_bind ?_
  unfold Builtin.Dict_items.newIterator; refine wpAny_bind (wpAny_dictEntries b1 b3 (wpAny_bind (wpAny_dictEpoch b1 b3 ?_)))
  have own : Builtin.Dict_items.ownsTuple "dict_valueiterator" = false := rfl
  simp only [own, Bool.false_eq_true, if_false]
  refine wpAny_newObj_type (wpAny_pure ⟨_, rfl, "dict_valueiterator", _, ⟨_, Heap.get?_push_size _ rfl, rfl⟩, F.slot_dict_valueiterator_next.lookup, (show _ from ?_)⟩)
  simpa [rawInt] using hQ
def It4 (T : String) (h : Heap) (it d : Addr) (i n ep : Nat) : Prop := ∃ o, h.get? it = some o ∧ o.cls = .type T ∧ o.data = .fields #[.ref d, .int i 0, .int n 0, .int ep 0]
theorem It4.ty {T : String} {n : Nat} (x : It4 T s.heap it d i n ep) : s.TypeIs (.ref it) T := let ⟨o, a, b, _⟩ := x; ⟨o, a, b⟩
theorem It4.keep {T : String} {n : Nat} {h h' : Heap} (m : It4 T h it d i n ep) (k : ∀ o, h.get? it = some o → h'.get? it = some o) : It4 T h' it d i n ep := let ⟨o, a, r⟩ := m; ⟨o, k o a, r⟩
theorem It4.turn {T : String} {n : Nat} {h : Heap} {o : Obj} (a : h.get? it = some o) (b : o.cls = .type T) (c : o.data = .fields #[.ref d, .int i 0, .int n 0, .int ep 0]) :
    It4 T (h.update it (Obj.mapFields (·.setIfInBounds 1 (rawInt ((i : Int) + 1))))) it d (i + 1) n ep :=
  ⟨_, Heap.get?_update_self _ a (Obj.isFreed_of_fields (Obj.data_mapFields c _)), (Obj.cls_mapFields ..).trans b, by rw [Obj.data_mapFields c]; simp [rawInt]⟩
theorem raw_nextValue {Q : Option Value → Shared → Prop} {e : DictEntry} (hit : It4 "dict_valueiterator" s.heap it d i es.size ep) (hm : Raw s.heap d es ep) (hx : es[i]? = some e)
    (hQ : ∀ h', It4 "dict_valueiterator" h' it d (i + 1) es.size ep → Heap.SameBut it s.heap h' → Q (some e.val) { s with heap := h' }) : wpAny (model prog w) A (pyNext (.ref it)) Q E s := by
  obtain ⟨o, a1, a2, a3⟩ := id hit; obtain ⟨od, b1, b2, b3⟩ := id hm; have ty := hit.ty
  unfold pyNext; refine wpAny_bind (wpAny_attempt (wpAny_callSpecial?_slot (name := Str.ofString "__next__") ty F.slot_dict_valueiterator_next
    (wpAny_call_entry F.slot_dict_valueiterator_next ty F.entry_dict_valueiterator_next (show _ from ?_) (F.args_dict_valueiterator_next_1 _))))
  refine wpAny_bind (wpAny_pure ?_); refine wpAny_bind (show _ from ?_); refine wpAny_bind (show _ from ?_)
  first | refine wpAny_bind (wpAny_typeNameOfWhole_valiter ty (show _ from wpAny_pure ?_)) | refine wpAny_bind (wpAny_typeNameOf_valiter ty (show _ from wpAny_pure ?_))
  refine wpAny_bind (wpAny_fieldsOf a1 a3 (show _ from ?_)); have own : Builtin.Dict_items.ownsTuple "dict_valueiterator" = false := rfl
  simp only [own, if_false, Bool.false_eq_true]; show wpAny _ _ (if (Value.ref d == Value.none) = true then _ else _) _ _ s
  rw [if_neg (show ¬ ((Value.ref d == Value.none) = true) from fun z => nomatch z)]; refine wpAny_bind (wpAny_pure ?_)
  refine wpAny_bind (wpAny_dictEntries b1 b3 (show _ from ?_)); rw [if_neg (show _ from by simp)]; refine wpAny_bind (wpAny_pure ?_)
  refine wpAny_bind (wpAny_dictEpoch b1 b3 (show _ from ?_)); rw [if_neg (show _ from by simp)]; refine wpAny_pure (show _ from ?_)
  have il : i < es.size := (Array.getElem?_eq_some_iff.mp hx).1
  have ee : es[i] = e := (Array.getElem?_eq_some_iff.mp hx).2
  simp only [show ¬ ((i : Int) < 0) by omega, if_false, Int.toNat_natCast, hx]
  refine wpAny_bind (show _ from ?_)
  first | refine wpAny_bind (wpAny_typeNameOfWhole_valiter ty (show _ from wpAny_pure ?_)) | refine wpAny_bind (wpAny_typeNameOf_valiter ty (show _ from wpAny_pure ?_))
  refine wpAny_bind (wpAny_isOneOf_valiter ty (show _ from ?_)); show wpAny _ _ (setField (.ref it) 1 (rawInt ((i : Int) + 1)) >>= _) _ _ s
  refine wpAny_bind (wpAny_setField a1 a3 (show _ by simp) (show _ from ?_)); have t2 := It4.turn a1 a2 a3
  refine wpAny_bind (wpAny_holding (show _ from ?_))
  refine wpAny_bind (wpAny_isOneOf_valiter (s := { s with heap := s.heap.update it (Obj.mapFields (·.setIfInBounds 1 (rawInt ((i : Int) + 1)))) }) t2.ty (show _ from ?_))
  refine wpAny_bind (wpAny_isOneOf_valiter (s := { s with heap := s.heap.update it (Obj.mapFields (·.setIfInBounds 1 (rawInt ((i : Int) + 1)))) }) t2.ty (show _ from ?_))
  exact wpAny_pure (wpAny_pure ⟨_, rfl, wpAny_pure (hQ _ t2 (Heap.SameBut.update ..))⟩)
theorem raw_endValue {Q : Option Value → Shared → Prop} (hh : A.handled = none) (hit : It4 "dict_valueiterator" s.heap it d i es.size ep) (hm : Raw s.heap d es ep) (hx : es.size ≤ i)
    (hQ : ∀ h', Heap.ExtBut it s.heap h' → Q none { s with heap := h' }) : wpAny (model prog w) A (pyNext (.ref it)) Q E s := by
  obtain ⟨o, a1, a2, a3⟩ := id hit; obtain ⟨od, b1, b2, b3⟩ := id hm; have ty := hit.ty
  unfold pyNext; refine wpAny_bind (wpAny_attempt (wpAny_callSpecial?_slot (name := Str.ofString "__next__") ty F.slot_dict_valueiterator_next
    (wpAny_call_entry F.slot_dict_valueiterator_next ty F.entry_dict_valueiterator_next (show _ from ?_) (F.args_dict_valueiterator_next_1 _))))
  refine wpAny_bind (wpAny_pure ?_); refine wpAny_bind (show _ from ?_); refine wpAny_bind (show _ from ?_)
  first | refine wpAny_bind (wpAny_typeNameOfWhole_valiter ty (show _ from wpAny_pure ?_)) | refine wpAny_bind (wpAny_typeNameOf_valiter ty (show _ from wpAny_pure ?_))
  refine wpAny_bind (wpAny_fieldsOf a1 a3 (show _ from ?_)); have own : Builtin.Dict_items.ownsTuple "dict_valueiterator" = false := rfl
  simp only [own, if_false, Bool.false_eq_true]; show wpAny _ _ (if (Value.ref d == Value.none) = true then _ else _) _ _ s
  rw [if_neg (show ¬ ((Value.ref d == Value.none) = true) from fun z => nomatch z)]; refine wpAny_bind (wpAny_pure ?_)
  refine wpAny_bind (wpAny_dictEntries b1 b3 (show _ from ?_)); rw [if_neg (show _ from by simp)]; refine wpAny_bind (wpAny_pure ?_)
  refine wpAny_bind (wpAny_dictEpoch b1 b3 (show _ from ?_)); rw [if_neg (show _ from by simp)]; refine wpAny_pure (show _ from ?_)
  simp only [show ¬ ((i : Int) < 0) by omega, if_false, Int.toNat_natCast, Array.getElem?_eq_none hx]
  refine wpAny_bind (show _ from ?_)
  first | refine wpAny_bind (wpAny_typeNameOfWhole_valiter ty (show _ from wpAny_pure ?_)) | refine wpAny_bind (wpAny_typeNameOf_valiter ty (show _ from wpAny_pure ?_))
  show wpAny _ _ (setField (.ref it) 0 Value.none >>= _) _ _ s
  refine wpAny_bind (wpAny_setField a1 a3 (show _ by simp) (show _ from ?_)); show wpAny _ _ (newExc (.type "StopIteration") [] >>= _) _ _ _
  refine wpAny_bind (show _ from ?_); simp only [newExc, newTuple]; refine wpAny_bind (wpAny_newObj_type (show _ from ?_) (by size_fits))
  refine wpAny_bind (m := firstArgMember _ _) (wpAny_of_eq (a := Value.none) (show _ by first | rfl | (simp only [firstArgMember]; rfl)) (show _ from ?_))
  refine wpAny_newObj_type (show _ from ?_) (by size_fits); simp only [raiseNew]
  refine wpAny_bind (wpAny_handled (show _ from ?_)); rw [show A.in1.handled = none from hh]; refine wpAny_bind (wpAny_pure (wpAny_throw ?_))
  refine wpAny_bind (wpAny_isInstance (T := "StopIteration") (b := true) ⟨_, Heap.get?_push_size _ rfl, rfl⟩ isSubtype_stop (show _ from ?_))
  exact wpAny_pure (hQ _ (show _ from ((Heap.SameBut.update ..).extBut.push _).push _))
theorem raw_nextItem {ok ov : Value} {Q : Option Value → Shared → Prop} {e : DictEntry} (hit : IsItemIter s.heap it d i es.size ep ok ov) (hm : Raw s.heap d es ep) (hx : es[i]? = some e)
    (hQ : ∀ h', IsItemIterOut h' it d (i + 1) es.size ep e.key e.val s.heap.objs.size → h'.get? s.heap.objs.size = some { cls := .type "tuple", data := .seq #[e.key, e.val] } →
      h'.objs.size = s.heap.objs.size + 1 → (∀ b o, b ≠ it → s.heap.get? b = some o → h'.get? b = some o) → Q (some (.ref s.heap.objs.size)) { s with heap := h' }) :
    wpAny (model prog w) A (pyNext (.ref it)) Q E s := by
  obtain ⟨hp, g, dr, tk, os⟩ := s; obtain ⟨od, b1, b2, b3⟩ := id hm
  have ty : Shared.TypeIs ⟨hp, g, dr, tk, os⟩ (.ref it) "dict_itemiterator" := ⟨_, hit, rfl⟩
  unfold pyNext; refine wpAny_bind (wpAny_attempt (wpAny_callSpecial?_slot (name := Str.ofString "__next__") ty F.slot_dict_itemiterator_next
    (wpAny_call_entry F.slot_dict_itemiterator_next ty F.entry_dict_itemiterator_next (show _ from ?_) (F.args_dict_itemiterator_next_1 _))))
  refine wpAny_bind (wpAny_pure ?_); refine wpAny_bind (show _ from ?_); refine wpAny_bind (show _ from ?_)
  first | refine wpAny_bind (wpAny_typeNameOfWhole_itemiter ty (show _ from wpAny_pure ?_)) | refine wpAny_bind (wpAny_typeNameOf_itemiter ty (show _ from wpAny_pure ?_))
  refine wpAny_bind (wpAny_fieldsOf hit rfl (show _ from ?_)); have own : Builtin.Dict_items.ownsTuple "dict_itemiterator" = true := rfl
  simp only [own, if_true]; show wpAny _ _ (if (Value.ref d == Value.none) = true then _ else _) _ _ _
  rw [if_neg (show ¬ ((Value.ref d == Value.none) = true) from fun z => nomatch z)]; refine wpAny_bind (wpAny_pure ?_)
  refine wpAny_bind (wpAny_dictEntries b1 b3 (show _ from ?_)); rw [if_neg (show _ from by simp)]; refine wpAny_bind (wpAny_pure ?_)
  refine wpAny_bind (wpAny_dictEpoch b1 b3 (show _ from ?_)); rw [if_neg (show _ from by simp)]; refine wpAny_pure (show _ from ?_)
  simp only [show ¬ ((i : Int) < 0) by omega, if_false, Int.toNat_natCast, hx]
  refine wpAny_bind (show _ from ?_)
  first | refine wpAny_bind (wpAny_typeNameOfWhole_itemiter ty (show _ from wpAny_pure ?_)) | refine wpAny_bind (wpAny_typeNameOf_itemiter ty (show _ from wpAny_pure ?_))
  refine wpAny_bind (wpAny_isOneOf_itemiter ty (show _ from ?_)); show wpAny _ _ (setField (.ref it) 3 (rawInt ((i : Int) + 1)) >>= _) _ _ _
  refine wpAny_bind (wpAny_setField_rec hit (show _ by simp) fun j1 c1 d1 => (show _ from ?_))
  replace d1 : Heap.SameBut it hp j1 := d1
  replace c1 : IsItemIter j1 it d (i + 1) es.size ep ok ov := by
    unfold IsItemIter; rw [show ((i + 1 : Nat) : Int) = (i : Int) + 1 by omega]; simpa [rawInt] using c1
  have ty1 : Shared.TypeIs ⟨j1, g, dr, tk, os⟩ (.ref it) "dict_itemiterator" := ⟨_, c1, rfl⟩
  refine wpAny_bind (wpAny_holding (show _ from ?_)); refine wpAny_bind (wpAny_isOneOf_itemiter ty1 (wpAny_bind (wpAny_isOneOf_itemiter ty1 (show _ from ?_))))
  show wpAny _ _ (Builtin.Dict_items.pairFromOwner (.ref it) 6 e.key e.val) _ _ ⟨j1, g, dr, tk, os⟩; unfold Builtin.Dict_items.pairFromOwner
  refine wpAny_bind (wpAny_newTuple (show _ from ?_))
  have c2 : IsItemIter (j1.push { cls := .type "tuple", data := .seq #[e.key, e.val] }) it d (i + 1) es.size ep ok ov := Heap.get?_push_of_some _ c1
  generalize hj2 : j1.push { cls := .type "tuple", data := .seq #[e.key, e.val] } = j2 at c2
  have z1 : j1.objs.size = hp.objs.size := d1.1
  have il : it < hp.objs.size := Heap.lt_size hit
  have t2 : j2.get? hp.objs.size = some { cls := .type "tuple", data := .seq #[e.key, e.val] } := by rw [← hj2, ← z1]; exact Heap.get?_push_size _ rfl
  have z2 : j2.objs.size = hp.objs.size + 1 := by rw [← hj2, Heap.size_push, z1]
  have k2 : ∀ b o, b ≠ it → hp.get? b = some o → j2.get? b = some o := fun b o hb q => by rw [← hj2]; exact Heap.get?_push_of_some _ (d1.extBut b o hb q)
  show wpAny _ _ (Builtin.Dict_items.ownedTupleIsFree (.ref it) >>= _) _ _ ⟨j2, g, dr, tk, os⟩; rw [z1]; clear hj2 c1 d1 ty1 z1 j1
  refine wpAny_bind (show _ from ?_); unfold Builtin.Dict_items.ownedTupleIsFree; refine wpAny_bind (wpAny_field c2 rfl (x := .none) rfl (show _ from wpAny_pure ?_))
  simp only [if_true]; refine wpAny_bind (wpAny_field c2 rfl (x := ok) rfl (wpAny_bind (wpAny_field c2 rfl (x := ov) rfl (show _ from ?_))))
  refine wpAny_bind (wpAny_setField_rec c2 (show _ by simp) fun j3 c3 d3 => (show _ from ?_))
  replace d3 : Heap.SameBut it j2 j3 := d3; replace c3 : IsItemIter j3 it d (i + 1) es.size ep e.key ov := c3
  refine wpAny_bind (wpAny_setField_rec c3 (show _ by simp) fun j4 c4 d4 => (show _ from ?_))
  replace d4 : Heap.SameBut it j3 j4 := d4; replace c4 : IsItemIter j4 it d (i + 1) es.size ep e.key e.val := c4
  refine wpAny_bind (wpAny_setField_rec c4 (show _ by simp) fun j5 c5 d5 => (show _ from ?_))
  replace d5 : Heap.SameBut it j4 j5 := d5; replace c5 : IsItemIterOut j5 it d (i + 1) es.size ep e.key e.val hp.objs.size := c5
  refine wpAny_bind (wpAny_setField_rec c5 (show _ by simp) fun j6 c6 d6 => (show _ from ?_))
  replace d6 : Heap.SameBut it j5 j6 := d6; replace c6 : IsItemIterOut j6 it d (i + 1) es.size ep e.key e.val hp.objs.size := c6
  have up : ∀ b o, b ≠ it → j2.get? b = some o → j6.get? b = some o := fun b o hb q => d6.extBut b o hb (d5.extBut b o hb (d4.extBut b o hb (d3.extBut b o hb q)))
  refine wpAny_bind (wpAny_letGo (wpAny_pure (wpAny_pure ⟨_, rfl, wpAny_pure (hQ j6 c6 (up _ _ (Nat.ne_of_gt il) t2) ?_ fun b o hb q => up b o hb (k2 b o hb q))⟩)))
  show j6.objs.size = _; rw [d6.1, d5.1, d4.1, d3.1, z2]
theorem raw_endItem {ok ov : Value} {Q : Option Value → Shared → Prop} (hh : A.handled = none) (hit : IsItemIter s.heap it d i es.size ep ok ov) (hm : Raw s.heap d es ep) (hx : es.size ≤ i)
    (hQ : ∀ h', Heap.ExtBut it s.heap h' → Q none { s with heap := h' }) : wpAny (model prog w) A (pyNext (.ref it)) Q E s := by
  obtain ⟨od, b1, b2, b3⟩ := id hm; have ty : s.TypeIs (.ref it) "dict_itemiterator" := ⟨_, hit, rfl⟩
  unfold pyNext; refine wpAny_bind (wpAny_attempt (wpAny_callSpecial?_slot (name := Str.ofString "__next__") ty F.slot_dict_itemiterator_next
    (wpAny_call_entry F.slot_dict_itemiterator_next ty F.entry_dict_itemiterator_next (show _ from ?_) (F.args_dict_itemiterator_next_1 _))))
  refine wpAny_bind (wpAny_pure ?_); refine wpAny_bind (show _ from ?_); refine wpAny_bind (show _ from ?_)
  first | refine wpAny_bind (wpAny_typeNameOfWhole_itemiter ty (show _ from wpAny_pure ?_)) | refine wpAny_bind (wpAny_typeNameOf_itemiter ty (show _ from wpAny_pure ?_))
  refine wpAny_bind (wpAny_fieldsOf hit rfl (show _ from ?_)); have own : Builtin.Dict_items.ownsTuple "dict_itemiterator" = true := rfl
  simp only [own, if_true]; show wpAny _ _ (if (Value.ref d == Value.none) = true then _ else _) _ _ _
  rw [if_neg (show ¬ ((Value.ref d == Value.none) = true) from fun z => nomatch z)]; refine wpAny_bind (wpAny_pure ?_)
  refine wpAny_bind (wpAny_dictEntries b1 b3 (show _ from ?_)); rw [if_neg (show _ from by simp)]; refine wpAny_bind (wpAny_pure ?_)
  refine wpAny_bind (wpAny_dictEpoch b1 b3 (show _ from ?_)); rw [if_neg (show _ from by simp)]; refine wpAny_pure (show _ from ?_)
  simp only [show ¬ ((i : Int) < 0) by omega, if_false, Int.toNat_natCast, Array.getElem?_eq_none hx]
  refine wpAny_bind (show _ from ?_)
  first | refine wpAny_bind (wpAny_typeNameOfWhole_itemiter ty (show _ from wpAny_pure ?_)) | refine wpAny_bind (wpAny_typeNameOf_itemiter ty (show _ from wpAny_pure ?_))
  show wpAny _ _ (setField (.ref it) 2 Value.none >>= _) _ _ s
  refine wpAny_bind (wpAny_setField hit rfl (show _ by simp) (show _ from ?_)); show wpAny _ _ (newExc (.type "StopIteration") [] >>= _) _ _ _
  refine wpAny_bind (show _ from ?_); simp only [newExc, newTuple]; refine wpAny_bind (wpAny_newObj_type (show _ from ?_) (by size_fits))
  refine wpAny_bind (m := firstArgMember _ _) (wpAny_of_eq (a := Value.none) (show _ by first | rfl | (simp only [firstArgMember]; rfl)) (show _ from ?_))
  refine wpAny_newObj_type (show _ from ?_) (by size_fits); simp only [raiseNew]
  refine wpAny_bind (wpAny_handled (show _ from ?_)); rw [show A.in1.handled = none from hh]; refine wpAny_bind (wpAny_pure (wpAny_throw ?_))
  refine wpAny_bind (wpAny_isInstance (T := "StopIteration") (b := true) ⟨_, Heap.get?_push_size _ rfl, rfl⟩ isSubtype_stop (show _ from ?_))
  exact wpAny_pure (hQ _ (show _ from ((Heap.SameBut.update ..).extBut.push _).push _))
end
end L2
namespace L2
open PySem PySem.Spec PyProof.Rows
section
variable {X : Cx} {pins : List (Addr × Obj)} {σ : St} {H : Hp} {s : Shared}
theorem Inv.freezeT {d : Addr} {kvs : List (List Key × V)} {o : Obj} (I : Inv X pins σ H s) (e : H d = some (.dT kvs)) (ho : s.heap.get? d = some o) : Inv X pins σ (upd H d (.frz o (.dT kvs))) s := by
  have nd : ∀ b u, H b = some u → u ≠ .dT kvs → b ≠ d := fun b u q n z => by rw [z, e] at q; exact n (Option.some.inj q).symm
  refine I.step (h' := s.heap) (g' := s.gens) (d' := s.drawn) (t' := s.toks) (ch := []) (fun _ z => nomatch z) (fun b u _ _ _ q _ => q) (fun b u _ _ _ q _ => ⟨u.slots, q⟩) (fun b u _ _ n => ?_)
    (fun b u _ q => ⟨u, q⟩) (fun b xs q => ?_) (fun b u v q => ?_) (fun b ps q => ⟨#[], ?_⟩) (fun m hm => hm) (fun b u q => ?_) I.bare
  · rw [upd_ne (fun z => by rw [z, e] at n; cases n)]; exact n
  · rw [upd_ne (nd _ _ q (fun z => by cases z))]; exact q
  · rw [upd_ne (nd _ _ q (fun z => by cases z))]; exact q
  · rw [upd_ne (nd _ _ q (fun z => by cases z)), q]; simp
  · have st : ∀ c v, H c = some v → ObjOk X.prog X.w H s.heap c v → ObjOk X.prog X.w (upd H d (.frz o (.dT kvs))) s.heap c v := fun c v _ z =>
      z.stay (fun _ _ _ z => z) (fun c z => by rw [upd_ne (nd _ _ z (fun y => by cases y))]; exact z) fun c xs t z => by rw [upd_ne (nd _ _ z (fun y => by subst y; exact t))]; exact z
    by_cases hb : b = d
    · subst hb; rw [upd_same] at q; cases q; exact ⟨ho, st b _ e (I.hok b _ e)⟩
    · rw [upd_ne hb] at q
      exact st b u q (I.hok b u q)
end
theorem kt_get {H : Hp} : ∀ {kvs : List (List Key × V)} {xs : List (List Key × Addr × Value)}, KT H kvs xs → ∀ {i : Nat} {p : List Key × V}, kvs[i]? = some p → ∃ q, xs[i]? = some q ∧ H q.2.1 = some (.tup (p.1.map kV)) ∧ RelV p.2 q.2.2
  | [], _, r, i, p, h => by simp at h
  | a :: as, _, r, i, p, h => by
    cases r with
    | cons x t =>
      cases i with
      | zero => cases h; exact ⟨_, rfl, x.2⟩
      | succ i => exact kt_get t (i := i) h
theorem dt_raw {P : Program} {w : World} {H : Hp} {h : Heap} {d : Addr} {kvs : List (List Key × V)} (x : ObjOk P w H h d (.dT kvs)) : (d == sysModules) = false ∧ ∃ (o : Obj) (es : Array DictEntry) (ep : Nat) (xs : List (List Key × Addr × Value)),
    h.get? d = some o ∧ o.ExactDict ∧ o.data = .dict es ep ∧ KT H kvs xs ∧ es.toList = xs.map (entryOfKey (tupleKind (mixKind P w))) ∧ es.size = kvs.length := by
  obtain ⟨z, y, xs, r, o, es, ep, h1, h2, h3, h4, h5⟩ := x
  refine ⟨y, o, es, ep, xs, h1, h2, h3, r, h4, ?_⟩
  rw [size_of_entries h4]
  exact (Paired.length r).symm
def Iti (d : Addr) (o : Obj) (kvs : List (List Key × V)) : It :=
  ⟨fun i H => H d = some (.frz o (.dT kvs)) ∧ i < kvs.length, fun i H x H' => ∃ T b kv, H T = none ∧ x = .ref T ∧ kvs[i]? = some kv ∧ H b = some (.tup (kv.1.map kV)) ∧ H' = upd H T (.tup [.ref b, kv.2]), fun i H => H d = some (.frz o (.dT kvs)) ∧ kvs.length ≤ i⟩
theorem entry_item_iter : entryFor table "dict_itemiterator.__iter__" = some Builtin.«dict_keyiterator.__iter__» := PySem.entryFor_alias (id' := "dict_keyiterator.__iter__") (by kernel_rfl) rfl (by decide +kernel) (show _ by kernel_rfl)
theorem turn_items {P : Program} {w : World} {K : PySem.W.Frag} {elts : List Expr} {x1 : Nat} {tp : Pos} (d it : Addr) (o : Obj) (kvs : List (List Key × V)) (es : Array DictEntry) (ep : Nat) (hc0 : o.cls = .type "dict") (hd0 : o.data = .dict es ep) (hn : es.size = kvs.length) :
    Turn P w K (.Tuple elts x1 tp) (Iti d o kvs) [it] it (fun i h => ∃ ok ov, IsItemIter h it d i es.size ep ok ov) where
  mem := by simp
  obj := fun i h st b hb => by
    obtain ⟨ok, ov, he⟩ := st
    have z : b = it := by simpa using hb
    subst z
    exact ⟨_, he, fun v z => by cases z⟩
  keep := fun i h h' st k => by
    obtain ⟨ok, ov, he⟩ := st
    exact ⟨ok, ov, k it (by simp) _ he⟩
  item := by
    intro X hP hw hK hc i pins s σ H E I hf st hg
    subst hP hw hK
    obtain ⟨ok, ov, he⟩ := st
    obtain ⟨hd, hi⟩ := hg
    have hO : ObjOk X.prog X.w H s.heap d (.frz o (.dT kvs)) := I.hok d _ hd
    obtain ⟨ho, hO⟩ := hO
    obtain ⟨lo, o', es', ep', xs, g1, g2, g3, rel, g4, g5⟩ := dt_raw hO
    have eo : o' = o := Option.some.inj (g1.symm.trans ho)
    subst eo
    have ee : es' = es ∧ ep' = ep := by rw [hd0] at g3; injection g3 with a b; exact ⟨a.symm, b.symm⟩
    obtain ⟨e1, e2⟩ := ee
    subst e1 e2
    have raw : Raw s.heap d es' ep' := ⟨o', ho, hc0, hd0⟩
    have hx : kvs[i]? = some kvs[i] := List.getElem?_eq_getElem hi
    obtain ⟨q, hq, hb, rv⟩ := kt_get rel hx
    have hex : es'[i]? = some (entryOfKey (tupleKind (mixKind X.prog X.w)) q) := by rw [entry_at g4, hq]; rfl
    have hilt : it < s.heap.objs.size := Heap.lt_size he
    refine raw_nextItem he raw hex fun h1 h2' hT hsz hk => ?_
    refine ⟨_, rfl, wpAny_letOwnedTupleGo_items h2' fun h2 he2 hs2 => ?_⟩
    replace hs2 : Heap.SameBut it h1 h2 := hs2
    have hT2 : h2.IsTuple s.heap.objs.size #[.ref q.2.1, q.2.2] := ⟨_, (hs2.2 _ (Nat.ne_of_gt hilt)).trans hT, rfl, _, rfl⟩
    have kk : ∀ b o, b ∉ [it] → s.heap.get? b = some o → h2.get? b = some o := fun b o hb q => by
      have n1 : b ≠ it := fun z => hb (by simp [z])
      exact (hs2.2 b n1).trans (hk b o n1 q)
    have I2 : Inv X pins σ (upd H s.heap.objs.size (.tup [.ref q.2.1, kvs[i].2])) { s with heap := h2, toks := s.toks } :=
      I.turnedNew kk hf (Nat.le_refl _) (show ObjOk X.prog X.w _ h2 _ (.tup [.ref q.2.1, kvs[i].2]) from ⟨sz_le (by simp), [.ref q.2.1, q.2.2], .cons rfl (.cons rv .nil), hT2⟩)
    have hfr : H s.heap.objs.size = none := I.hok.fresh (Nat.le_refl _)
    refine ⟨.ref s.heap.objs.size, _, I2, rfl, ⟨_, q.2.1, kvs[i], hfr, rfl, hx, hb, rfl⟩, ⟨_, _, he2⟩, fun b hb => ?_⟩
    have z : b = it := by simpa using hb
    subst z
    rw [upd_ne (Nat.ne_of_lt hilt)]
    exact (hf b (by simp)).1
  done := by
    intro X hP hw hK hc i pins s σ H E I hf st hg
    subst hP hw hK
    obtain ⟨ok, ov, he⟩ := st
    obtain ⟨hd, hi⟩ := hg
    have hO : ObjOk X.prog X.w H s.heap d (.frz o (.dT kvs)) := I.hok d _ hd
    obtain ⟨f0, f1, f2, f3, f4, f5⟩ := hf it (by simp)
    exact raw_endItem (I.ok.hd hc) he ⟨o, hO.1, hc0, hd0⟩ (by omega) fun h' eb => ⟨rfl, I.turned (t' := s.toks) (fun b o hb e => eb b o hb e) f0 f1 f3 f4 f5⟩
  self := fun _ _ _ _ _ st h => by
    obtain ⟨ok, ov, he⟩ := st
    refine wpAny_pyIter_slot ⟨_, he, rfl⟩ F.slot_dict_itemiterator_iter (wpAny_call_entry F.slot_dict_itemiterator_iter ⟨_, he, rfl⟩ entry_item_iter ?_ (F.args_dict_itemiterator_iter_1 _))
    exact wpAny_pure ⟨_, rfl, "dict_itemiterator", _, ⟨_, he, rfl⟩, F.slot_dict_itemiterator_next.lookup, h⟩
section
variable {X : Cx} {elts : List Expr} {x1 : Nat} {tp : Pos}
def ImQ (R : It → Hp → Prop) : V → Hp → Prop := fun x H1 => ∃ d kvs, x = .ref d ∧ H1 d = some (.dT kvs) ∧ ∀ o, R (Iti d o kvs) (upd H1 d (.frz o (.dT kvs)))
def iItems (td : TE) : TI := fun σ H R => td σ H (ImQ R)
theorem pi_items {o : Expr} {td : TE} {apos cpos : Pos} (ho : PE X o td) (hbase : attributeBase o "items" X.env (eval o X.env) = eval o X.env := by rfl) (hline : (apos.endLine == cpos.line) = true := by rfl) :
    PI X (.Tuple elts x1 tp) (.Call (.Attribute o "items" apos) [] [] cpos) (iItems td) := by
  intro pins s σ H R I h
  refine wpAny_Call_method (T := "dict") (id := "dict.items") hbase rfl hline PySem.F.plainAttrs_dict PySem.F.slot_dict_items PySem.F.type_dict_items (thn (ho pins s σ H _ I h) fun v s1 ⟨x, H1, I1, r1, q1⟩ => ?_)
  obtain ⟨d, kvs, e, hd, q⟩ := q1
  subst e
  cases r1
  obtain ⟨lo, ob, es, ep, xs, g1, g2, g3, rel, g4, g5⟩ := dt_raw (show ObjOk X.prog X.w H1 s1.heap d (.dT kvs) from I1.hok d _ hd)
  have raw : Raw s1.heap d es ep := ⟨ob, g1, g2.1, g3⟩
  refine ⟨raw.ty, fun b z => by cases z; exact ⟨ob, g1, g2.2.1⟩, ?_⟩
  refine method_meetsIn PySem.F.slot_dict_items PySem.F.entry_dict_items rfl (PySem.evalArgs_none ⟨rfl, raw.ty, PySem.F.args_dict_items_1 _, _, raw_items d lo, raw.ty, ?_⟩)
  have I2 := I1.freezeT hd g1
  show wpAny _ _ (pyIter (.ref s1.heap.objs.size)) _ _ _
  refine raw_iterItems (s := { s1 with heap := s1.heap.push { cls := .type "dict_items", data := .fields #[.ref d] } }) ⟨_, Heap.get?_push_size _ rfl, rfl, rfl⟩ (raw.keep fun o e => Heap.get?_push_of_some _ e) ?_
  have hk : ∀ b u, s1.heap.get? b = some u → ((s1.heap.push { cls := .type "dict_items", data := .fields #[.ref d] }).push { cls := .type "dict_itemiterator", data := .fields #[.none, .bool false, .ref d, .int 0 0, .int es.size 0, .int ep 0, .none, .none] }).get? b = some u :=
    fun b u e => Heap.get?_push_of_some _ (Heap.get?_push_of_some _ e)
  refine ⟨_, [(s1.heap.push { cls := .type "dict_items", data := .fields #[.ref d] }).objs.size], _, _, _, rfl, I2.kept (t' := s1.toks) hk, turn_items d _ ob kvs es ep g2.1 g3 g5, ⟨_, _, Heap.get?_push_size _ rfl⟩, fun b hb => ?_, q ob⟩
  have e : b = (s1.heap.push { cls := .type "dict_items", data := .fields #[.ref d] }).objs.size := by simpa using hb
  have hle : s1.heap.objs.size ≤ b := by rw [e, Heap.size_push]; exact Nat.le_succ _
  exact I2.fpOk hle (I2.hok.fresh hle)
end
section
variable {σ : St} {H : Hp} {nx : St → Hp → Prop} {rt : VK} {g : TG} {tb : TS}
theorem rd_iItems {td : TE} {R : It → Hp → Prop} (h : td σ H (ImQ R)) : iItems td σ H R := h
theorem rd_im {d : Addr} {kvs : List (List Key × V)} {R : It → Hp → Prop} (h1 : H d = some (.dT kvs)) (h : ∀ o, R (Iti d o kvs) (upd H d (.frz o (.dT kvs)))) : ImQ R (.ref d) H := ⟨d, kvs, rfl, h1, h⟩
theorem rf_items {d : Addr} {o : Obj} {kvs : List (List Key × V)} (Pv : Nat → St → Hp → Prop) (h0 : Pv 0 σ H) (hl : ∀ i σ H, i ≤ kvs.length → Pv i σ H → H d = some (.frz o (.dT kvs)))
    (hs : ∀ i kv σ H T b, kvs[i]? = some kv → Pv i σ H → H T = none → H b = some (.tup (kv.1.map kV)) → g (.ref T) σ (upd H T (.tup [.ref b, kv.2])) fun σ2 H2 => tb ⟨Pv (i + 1), rt, nx, Pv (i + 1)⟩ σ2 H2) (hd : ∀ σ H, Pv kvs.length σ H → nx σ H) :
    ∃ W : Nat → Nat → St → Hp → Prop, (∃ m, W 0 m σ H) ∧ ∀ i m σ H, W i m σ H →
      ((Iti d o kvs).stop i H ∧ nx σ H) ∨ ((Iti d o kvs).go i H ∧ ∃ N : St → Hp → Prop, (∀ σ' H', N σ' H' → ∃ m', m' < m ∧ W (i + 1) m' σ' H') ∧ ∀ x H', (Iti d o kvs).yld i H x H' → g x σ H' fun σ2 H2 => tb ⟨N, rt, nx, N⟩ σ2 H2) := by
  refine ⟨fun i m σ H => m = kvs.length - i ∧ i ≤ kvs.length ∧ Pv i σ H, ⟨kvs.length, by simp, Nat.zero_le _, h0⟩, ?_⟩
  rintro i m σ H ⟨rfl, hi, p⟩
  have q := hl i σ H hi p
  by_cases hlt : i < kvs.length
  · refine .inr ⟨⟨q, hlt⟩, Pv (i + 1), fun σ' H' p' => ⟨kvs.length - (i + 1), by omega, rfl, hlt, p'⟩, fun x H' y => ?_⟩
    obtain ⟨T, b, kv, hT, e1, hk, hb, e2⟩ := y
    subst e1 e2
    exact hs i kv σ H T b hk p hT hb
  · have e : i = kvs.length := by omega
    subst e
    exact .inl ⟨⟨q, Nat.le_refl _⟩, hd σ H p⟩
end
theorem walk_vals {prog : Program} {w : World} {A : Around} (hh : A.handled = none) (I d : Addr) (hne : d ≠ I) (es : Array DictEntry) (ep : Nat) :
    Walks prog w A I [I, d] [I] es.size (fun i v => ∃ e, es[i]? = some e ∧ v = e.val) (fun i h => It4 "dict_valueiterator" h I d i es.size ep ∧ Raw h d es ep) where
  sub := fun b hb => List.mem_cons.mpr (.inl (by simpa using hb))
  frame := fun _ _ _ st hk => ⟨st.1.keep fun o e => hk I (by simp) o e, st.2.keep fun o e => hk d (by simp) o e⟩
  item := fun i s Q E hi st hQ => by
    have hx : es[i]? = some es[i] := Array.getElem?_eq_getElem hi
    refine raw_nextValue st.1 st.2 hx fun h' a b => hQ es[i].val h' s.toks ⟨_, hx, rfl⟩ ⟨a, st.2.keep fun o e => b.extBut d o hne e⟩ fun b' o hb e => b.extBut b' o (fun z => hb (List.mem_singleton.mpr z)) e
  done := fun s Q E st hQ => raw_endValue hh st.1 st.2 (Nat.le_refl _) fun h' z => hQ h' s.toks fun b o hb e => z b o (fun y => hb (List.mem_singleton.mpr y)) e
  self := fun _ _ _ _ st hQ => wpAny_pyIter_valiter st.1 hQ
section
variable {X : Cx} {o : Expr} {td : TE} {apos cpos : Pos}
def isVw (b d : Addr) : Heap → Prop := fun h => h.IsValuesView b d
def tVals (td : TE) : TE := fun σ H Q => td σ H fun x H1 => ∃ d kvs, x = .ref d ∧ Rd H1 d (.dT kvs) ∧ ∀ b, H1 b = none → Q (.ref b) (upd H1 b (.ext (isVw b d)))
theorem pe_values (ho : PE X o td) (hbase : attributeBase o "values" X.env (eval o X.env) = eval o X.env := by rfl) (hline : (apos.endLine == cpos.line) = true := by rfl) : PE X (.Call (.Attribute o "values" apos) [] [] cpos) (tVals td) := by
  intro pins s σ H Q I h
  refine wpAny_Call_method (T := "dict") (id := "dict.values") hbase rfl hline PySem.F.plainAttrs_dict PySem.F.slot_dict_values PySem.F.type_dict_values (thn (ho pins s σ H _ I h) fun v s1 ⟨x, H1, I1, r1, q1⟩ => ?_)
  obtain ⟨d, kvs, e, hd, q⟩ := q1
  subst e
  cases r1
  obtain ⟨lo, ob, es, ep, xs, g1, g2, g3, rel, g4, g5⟩ := dt_raw (rd_of I1.hok hd)
  have raw : Raw s1.heap d es ep := ⟨ob, g1, g2.1, g3⟩
  refine ⟨raw.ty, fun b z => by cases z; exact ⟨ob, g1, g2.2.1⟩, ?_⟩
  refine method_meetsIn PySem.F.slot_dict_values PySem.F.entry_dict_values rfl (PySem.evalArgs_none ⟨rfl, raw.ty, PySem.F.args_dict_values_1 _, _, raw_values d lo, raw.ty, ?_⟩)
  have hn : H1 s1.heap.objs.size = none := I1.hok.fresh (Nat.le_refl _)
  refine ⟨.ref s1.heap.objs.size, _, I1.laid (a := s1.heap.objs.size) (o := .ext (isVw s1.heap.objs.size d)) (t' := s1.toks) (fun _ _ q => Heap.get?_push_of_some _ q) (Nat.le_refl _) ⟨⟨_, Heap.get?_push_size _ rfl, rfl, rfl⟩, ⟨_, Heap.get?_push_size _ rfl⟩, fun h1 h2 z k => ?_⟩, rfl, q _ hn⟩
  obtain ⟨o', a, r⟩ := z
  exact ⟨o', k o' a, r⟩
def rSumV : List V → Hp → VK → Prop := fun xs H Q => ∃ (b d : Addr) (kvs : List (List Key × V)) (ns : List Int), xs = [.ref b] ∧ H b = some (.ext (isVw b d)) ∧ Rd H d (.dT kvs) ∧ kvs.map (·.2) = ns.map V.int ∧ Q (.int (List.sum ns)) H
theorem preSum_list (ns : List Int) : ∀ n, n ≤ ns.length → preSum (fun i => ns.getD i 0) n = List.sum (ns.take n)
  | 0, _ => by simp [preSum]
  | n + 1, h => by
    show preSum _ n + ns.getD n 0 = _
    have e : ns.take (n + 1) = ns.take n ++ [ns[n]] := by rw [List.take_add_one, List.getElem?_eq_getElem (by omega)]; rfl
    rw [preSum_list ns n (by omega), e, List.sum_append, List.getD_eq_getElem?_getD, List.getElem?_eq_getElem (by omega)]
    simp
theorem call_sumV (hc : X.calm = true) : CallR X (.builtin "sum") rSumV := by
  intro pins s σ H xs us Q I r h
  obtain ⟨b, d, kvs, ns, rfl, hb, hd, en, q⟩ := h
  obtain ⟨u, rfl, ru⟩ := vals1 r
  cases ru
  obtain ⟨lo, ob, es, ep, xs, g1, g2, g3, rel, g4, g5⟩ := dt_raw (rd_of I.hok hd)
  have raw : Raw s.heap d es ep := ⟨ob, g1, g2.1, g3⟩
  have hv : s.heap.IsValuesView b d := (show ObjOk X.prog X.w H s.heap b (.ext (isVw b d)) from I.hok b _ hb).1
  have hdl : d < s.heap.objs.size := Heap.lt_size g1
  have ln : ns.length = kvs.length := by have := congrArg List.length en; simpa using this.symm
  refine call_sum_walkAnyS (raw_iterValues hv raw ⟨s.heap.objs.size, [s.heap.objs.size, d], [s.heap.objs.size], _, es.size, _, _, fun i => ns.getD i 0, rfl, (walk_vals (A := X.A.in1) (show X.A.in1.handled = none from I.ok.hd hc) s.heap.objs.size d (Nat.ne_of_lt hdl) es ep).toS, ⟨⟨_, Heap.get?_push_size _ rfl, rfl, rfl⟩, raw.keep fun o e => Heap.get?_push_of_some _ e⟩, fun b' hb' => ?_, fun i v hi => ?_, fun s' t' hm => ?_⟩)
  · show b' < (s.heap.push _).objs.size
    rw [Heap.size_push]
    rcases List.mem_cons.mp hb' with z | z
    · rw [z]; exact Nat.lt_succ_self _
    · rw [show b' = d by simpa using z]; exact Nat.lt_succ_of_lt hdl
  · obtain ⟨e, he, rfl⟩ := hi
    have il : i < kvs.length := by rw [← g5]; exact (Array.getElem?_eq_some_iff.mp he).1
    obtain ⟨p, hp, _, rv⟩ := kt_get rel (List.getElem?_eq_getElem il)
    have e2 : es[i]? = some (entryOfKey (tupleKind (mixKind X.prog X.w)) p) := by rw [entry_at g4, hp]; rfl
    rw [he] at e2
    cases e2
    have e3 : (kvs.map (·.2))[i]? = some kvs[i].2 := by rw [List.getElem?_map, List.getElem?_eq_getElem il]; rfl
    rw [en, List.getElem?_map, List.getElem?_eq_getElem (by omega)] at e3
    have e4 : kvs[i].2 = V.int (ns.getD i 0) := by rw [List.getD_eq_getElem?_getD, List.getElem?_eq_getElem (by omega)]; exact (Option.some.inj e3).symm
    rw [e4] at rv
    obtain ⟨t, z⟩ := rv
    exact ⟨t, z⟩
  · have e1 : preSum (fun i => ns.getD i 0) es.size = List.sum ns := by rw [g5, ← ln, preSum_list ns _ (Nat.le_refl _), List.take_length]
    rw [e1, Moved.eq_with hm]
    exact ⟨.int _, H, I.kept (t' := s'.toks) (fun b' u e => hm.heap b' u (fun z => Nat.ne_of_lt (Heap.lt_size e) (by simpa using z)) (Heap.get?_push_of_some _ e)), ⟨t', rfl⟩, q⟩
end
section
variable {X : Cx} {ek ev : Expr} {tk tv : TE} {pos : Pos}
theorem d_dictSet {pins : List (Addr × Obj)} {σ : St} {H : Hp} {s : Shared} {a b : Addr} {v : V} {r : Value} {A : Around} {E : Value → Shared → Prop} {kvs : List (List Key × V)} {k : List Key} {Q : Unit → Shared → Prop} (hu : A.units < cLine) (I : Inv X pins σ H s) (e : H a = some (.dT kvs)) (eb : H b = some (.tup (k.map kV))) (l : kvs.length < sizeLine) (rv : RelV v r) (h : ∀ s', Inv X pins σ (upd H a (.dT (putK kvs k v))) s' → Q () s') :
    wpAny (model X.prog X.w) A (dictSet a (.ref b) r) Q E s := by
  obtain ⟨z, hd, xs, rel, dd⟩ := dt_of I.hok e
  have hz : xs.length ≤ sizeLine := by rw [← Paired.length rel]; exact z
  have hl : (putK kvs k v).length ≤ sizeLine := by have := length_putK kvs k v; omega
  refine wpAny_dictSet_heap (hsz := hz) hu (key_of I.hok eb) dd fun h' dd' hs => h _ ?_
  obtain ⟨q, es, ep, hq, h2, h3, h4, _, h5⟩ := dd'
  refine d_write I (by rw [e]; exact True.intro) hs ⟨q, hq⟩ ⟨hl, hd, _, (rel.put k eb rv).keeps fun c ys ec => ?_, q, es, ep, hq, h2, h3, h4, h5⟩
  rw [upd_ne (ne_of ec e (fun z => nomatch z))]
  exact ec
def tDict1 (tk tv : TE) : TE := fun σ H Q => ∀ d, H d = none → tk σ (upd H d (.dT [])) fun y H1 => tv σ H1 fun v H2 => ∃ b k, y = .ref b ∧ H2 b = some (.tup (k.map kV)) ∧ H2 d = some (.dT []) ∧ Q (.ref d) (upd H2 d (.dT [(k, v)]))
theorem pe_dict1 (hu : X.A.units < cLine) (hk : PE X ek tk) (hv : PE X ev tv) : PE X (.Dict [some ek] [ev] pos) (tDict1 tk tv) := by
  intro pins s σ H Q I h
  have hn : H s.heap.objs.size = none := I.hok.fresh (Nat.le_refl _)
  have I0 : Inv X pins σ (upd H s.heap.objs.size (.dT [])) { s with heap := s.heap.push { cls := .type "dict", data := .dict #[] } } := I.laid (a := s.heap.objs.size) (o := .dT []) (t' := s.toks) (fun _ _ q => Heap.get?_push_of_some _ q) (Nat.le_refl _) (dt_empty s.heap I.big)
  refine wpAny_Dict_any rfl rfl (by simp) (by simp) ?_
  refine pairTrees_cons_walk (thn (hk pins _ σ _ _ I0 (h _ hn)) fun u s1 ⟨y, H1, I1, r1, q1⟩ => thn (hv pins s1 σ H1 _ I1 q1) fun v s2 ⟨x, H2, I2, r2, q2⟩ => pairTrees_nil_walk ?_)
  obtain ⟨b, k, e, eb, ed, q⟩ := q2
  subst e
  cases r1
  unfold storeAll
  simp only [List.forIn_cons, List.forIn_nil]
  refine wpAny_bind (wpAny_bind (d_dictSet hu I2 ed eb (by rw [sizeLine_eq]; decide) r2 fun s3 I3 => ?_))
  exact wpAny_pure (wpAny_pure ⟨.ref _, _, I3, rfl, q⟩)
end
end L2
namespace L2
section
variable {σ : St} {H : Hp} {Q : VK}
theorem rd_vals {td : TE} (h : td σ H fun x H1 => ∃ d kvs, x = .ref d ∧ Rd H1 d (.dT kvs) ∧ ∀ b, H1 b = none → Q (.ref b) (upd H1 b (.ext (isVw b d)))) : tVals td σ H Q := h
theorem rd_dict1 {tk tv : TE} (h : ∀ d, H d = none → tk σ (upd H d (.dT [])) fun y H1 => tv σ H1 fun v H2 => ∃ b k, y = .ref b ∧ H2 b = some (.tup (k.map kV)) ∧ H2 d = some (.dT []) ∧ Q (.ref d) (upd H2 d (.dT [(k, v)]))) : tDict1 tk tv σ H Q := h
theorem rd_dnewT (h : ∀ p, H p = none → Q (.ref p) (upd H p (.dT []))) : tDNewT σ H Q := h
theorem rd_dget2 {td ty tx : TE} (h : td σ H fun x H1 => ∃ a, x = .ref a ∧ IsD H1 a ∧ ty σ H1 fun y H2 => tx σ H2 fun z H3 => ∃ o, DGet H3 a y o ∧ Q (o.getD z) H3) : tDGet2 td ty tx σ H Q := h
end
end L2
namespace L2.Q
open PySem PySem.Spec PyProof.Rows L2
section
variable {X : Cx} {o e f ek ev : Expr} {td ty tx tk tv : TE} {pos apos cpos tp : Pos} {elts : List Expr} {x1 : Nat}
theorem pi_items (ho : QE X o td) (hbase : attributeBase o "items" X.env (eval o X.env) = eval o X.env := by rfl) (hline : (apos.endLine == cpos.line) = true := by rfl) :
    QI X (.Tuple elts x1 tp) (.Call (.Attribute o "items" apos) [] [] cpos) (iItems td) := ⟨L2.pi_items ho.h hbase hline⟩
theorem pe_values (ho : QE X o td) (hbase : attributeBase o "values" X.env (eval o X.env) = eval o X.env := by rfl) (hline : (apos.endLine == cpos.line) = true := by rfl) :
    QE X (.Call (.Attribute o "values" apos) [] [] cpos) (tVals td) := ⟨L2.pe_values ho.h hbase hline⟩
theorem pe_dict1 (hu : X.A.units + 9 < cLine) (hk : QE X ek tk) (hv : QE X ev tv) : QE X (.Dict [some ek] [ev] pos) (tDict1 tk tv) := ⟨L2.pe_dict1 (by omega) hk.h hv.h⟩
theorem pe_dnewT : QE X (.Dict [] [] pos) tDNewT := ⟨L2.pe_dnewT⟩
theorem pe_dget2 (hu : X.A.units + 9 < cLine) (ho : QE X o td) (he : QE X e ty) (hf : QE X f tx) (base : attributeBase o "get" X.env (eval o X.env) = eval o X.env := by rfl)
    (few : ((backTo cpos (starEach [e, f] X.env)).all (fun x => !x.1) && (backToKw cpos (keywordEach [] X.env)).all (fun x => x.1.isSome)
      && decide (([e, f] : List Expr).length + ([] : List Keyword).length + (if ([] : List Keyword).isEmpty then 0 else 1) < 30)) = true := by rfl)
    (line : (apos.endLine == cpos.line) = true := by rfl) (trees : backTo cpos (starEach [e, f] X.env) = [(false, eval e X.env), (false, eval f X.env)] := by rfl) :
    QE X (.Call (.Attribute o "get" apos) [e, f] [] cpos) (tDGet2 td ty tx) := ⟨L2.pe_dget2 (by omega) ho.h he.h hf.h ⟨base, few, line, trees⟩⟩
end
end L2.Q
namespace L2
open PySem PySem.Spec PyProof.Rows
section
variable {X : Cx} {tg : Expr}
end
section
variable {σ : St} {H : Hp} {Q : VK} {nx : St → Hp → Prop} {rt : VK} {g : TG} {tb : TS}
theorem DGet.f {H : Hp} {a b : Addr} {o : Obj} {kvs : List (List Key × V)} {k : List Key} (e : H a = some (.frz o (.dT kvs))) (eb : H b = some (.tup (k.map kV))) : DGet H a (.ref b) (valV kvs k) := .inr ⟨kvs, k, b, .inr ⟨o, e⟩, rfl, eb, rfl⟩
end
end L2
namespace L2.Q
open PySem PySem.Spec PyProof.Rows L2
section
variable {X : Cx} {o i l tg : Expr} {td ty tl : TE} {pos : Pos}
end
end L2.Q
namespace L2
open PySem PySem.Spec PyProof.Rows
section
open PySem.SeqAt
open PySem.AutoSeq1 (wpAny_loadPart')
open PySem.MeetsSeq PySem.MeetsSeq2 PySem.MeetsSeq3
theorem ia_get : ∀ {xs : List Value} {ns : List Int}, IntsAre xs ns → ∀ {i : Nat}, i < xs.length → ∃ a t, xs[i]? = some (.int a t) ∧ ns[i]? = some a
  | _, _, .nil, i, h => absurd h (by simp)
  | _, _, .cons a t r, 0, _ => ⟨a, t, rfl, rfl⟩
  | _, _, .cons a t r, i + 1, h => ia_get r (i := i) (by simpa using h)
theorem lt_loop (l b : Addr) (items items2 : Array Value) (n n2 : Nat) (ns ms : List Int) (hi : IntsAre items.toList ns) (hj : IntsAre items2.toList ms) (hsz : items.size = items2.size) (k : Nat) :
    ∀ i : Nat, items.size - i = k → Meets (Builtin.«list.__eq__.loop» ⟨[.ref l, .ref b, rawInt i, rawInt 0], []⟩)
      (fun _ R s => s.heap.get? l = some { cls := .type "list", data := .seq items n } ∧ s.heap.get? b = some { cls := .type "list", data := .seq items2 n2 } ∧
        R (.ok (.ret (.bool (HT.lexLt (ns.drop i) (ms.drop i))))) s) := by
  have z1 : items.size = ns.length := by rw [← hi.length]; simp
  have z2 : items2.size = ms.length := by rw [← hj.length]; simp
  induction k with
  | zero =>
    intro i hk prog w A R s h
    obtain ⟨hp, g, d, tk, os⟩ := s; obtain ⟨hl, hb, h⟩ := h; wp_walk using wpAny_loadPart' hl, wpAny_loadPart' hb
    rw [show items[((i : Nat) : Int).toNat]? = none by simp; omega, show items2[((i : Nat) : Int).toNat]? = none by simp; omega]
    rw [List.drop_of_length_le (by omega), List.drop_of_length_le (by omega)] at h; wp_walk using wpAny_loadPart' hl, wpAny_loadPart' hb
    show R (.ok (.ret (.bool (decide (items.size < items2.size))))) _
    rw [decide_eq_false (by omega)]
    exact h
  | succ k ih =>
    intro i hk prog w A R s h
    obtain ⟨hp, g, d, tk, os⟩ := s; obtain ⟨hl, hb, h⟩ := h; wp_walk using wpAny_loadPart' hl, wpAny_loadPart' hb
    obtain ⟨x, t, ex, en⟩ := ia_get hi (i := i) (by simp; omega)
    obtain ⟨y, u, ey, em⟩ := ia_get hj (i := i) (by simp; omega)
    have ei : items[((i : Nat) : Int).toNat]? = some (.int x t) := by rw [Int.toNat_natCast, ← Array.getElem?_toList]; exact ex
    have ej : items2[((i : Nat) : Int).toNat]? = some (.int y u) := by rw [Int.toNat_natCast, ← Array.getElem?_toList]; exact ey
    have dn : ns.drop i = x :: ns.drop (i + 1) := by
      obtain ⟨q, w⟩ := List.getElem?_eq_some_iff.mp en
      rw [List.drop_eq_getElem_cons q, w]
    have dm : ms.drop i = y :: ms.drop (i + 1) := by
      obtain ⟨q, w⟩ := List.getElem?_eq_some_iff.mp em
      rw [List.drop_eq_getElem_cons q, w]
    rw [dn, dm, HT.lexLt_cons] at h
    rw [ei, ej]
    obtain ⟨e, he, hiff⟩ := HT.eqAt_int A.in1 ⟨hp, g, d, tk, os⟩ x t y u
    refine wpAny_bind (he prog w _ _ (show _ from ?_))
    cases e with
    | true =>
      rw [if_pos (hiff.mp rfl)] at h
      wp_walk
      rw [show ((i : Int) + 1) = ((i + 1 : Nat) : Int) by push_cast; rfl]
      refine ⟨plainId_quiet plain_eq_loop _, codeAny_builtin entry_eq_loop ?_⟩
      rw [Around.under_plainId plain_eq_loop _]
      exact ih (i + 1) (by omega) prog w A R _ ⟨hl, hb, h⟩
    | false =>
      rw [if_neg (fun q => absurd (hiff.mpr q) Bool.false_ne_true)] at h
      wp_walk using wpAny_loadPart' hl, wpAny_loadPart' hb
      rw [ei, ej]
      have hri := HT.rcLt_int A.in1 ⟨hp, g, d, tk, os⟩ x t y u prog w
      wp_walk using hri
      exact h
theorem lt_lists (l b : Addr) (items items2 : Array Value) (n n2 : Nat) (ns ms : List Int) (hi : IntsAre items.toList ns) (hj : IntsAre items2.toList ms) (hsz : items.size = items2.size) :
    Meets (Builtin.«list.__lt__» ⟨[.ref l, .ref b], []⟩) (fun _ R s => s.heap.get? l = some { cls := .type "list", data := .seq items n } ∧ s.heap.get? b = some { cls := .type "list", data := .seq items2 n2 } ∧
      R (.ok (.ret (.bool (HT.lexLt ns ms)))) s) := by
  intro prog w A R s h
  obtain ⟨hp, g, d, tk, os⟩ := s; obtain ⟨hl, hb, h⟩ := h
  have f3 := AutoSeq1.sub_list_list
  wp_walk using wpAny_loadPart' hl, wpAny_loadPart' hb
  refine ⟨plainId_quiet plain_eq_loop _, codeAny_builtin entry_eq_loop ?_⟩
  rw [Around.under_plainId plain_eq_loop _]
  exact lt_loop l b items items2 n n2 ns ms hi hj hsz _ 0 rfl prog w A R _ ⟨hl, hb, by rw [List.drop_zero, List.drop_zero]; exact h⟩
end
section
variable {X : Cx}
end
end L2
namespace L2
open PySem PySem.Spec PyProof.Rows
section
variable {X : Cx}
def gIxA (K : PySem.W.Frag) : V → V → Hp → VK → Prop := fun x y H Q => ∃ p xs i v, x = .ref p ∧ y = .int i ∧ SqL K H p xs ∧ atI xs i = some v ∧ Q v H
theorem get_ixA : PGet X (gIxA X.K) := by
  intro pins s σ H x y v u Q I rx ry h
  obtain ⟨p, xs, i, z, rfl, rfl, hq, he, q⟩ := h
  cases rx
  obtain ⟨t, rfl⟩ := ry
  obtain ⟨its, r, pl, hz⟩ := I.list hq
  obtain ⟨j, h1, h2, h3, h4, h5⟩ := atI_get he
  obtain ⟨w, ew, rw'⟩ := r.get h2
  have hl := r.length
  have hn := line63
  have fin : EP X pins σ Q w s := ⟨z, H, I, rw', q⟩
  by_cases h0 : 0 ≤ i
  · have hj : i.toNat = j := by
      rw [seqIndex_of h0 h5] at h1
      exact Option.some.inj h1
    exact wpAny_getItem_list pl.isList h0 (by omega) (by rw [hj]; simpa using ew) fin
  · have hj : (i + (its.toArray.size : Int)).toNat = j := by
      rw [seqIndex_neg (by omega) h4] at h1
      rw [List.size_toArray, ← hl]
      exact Option.some.inj h1
    exact wpAny_getItem_list_neg pl.isList (by omega) (by rw [List.size_toArray] <;> omega) (by omega) (by rw [hj]; simpa using ew) fin
theorem rd_gIxA {K : PySem.W.Frag} {H : Hp} {Q : VK} {p : Addr} {xs : List V} {i : Int} {v : V} (h1 : SqL K H p xs) (h2 : atI xs i = some v) (h : Q v H) : gIxA K (.ref p) (.int i) H Q := ⟨p, xs, i, v, rfl, rfl, h1, h2, h⟩
end
end L2
namespace L2
open PySem PySem.Spec PySem.W PyProof.Rows
section
variable {prog : Program} {w : World} {A : Around} {E : Value → Shared → Prop} {s : Shared}
theorem oneLt_lists {x y : Addr} {items items2 : Array Value} {n n2 : Nat} {ns ms : List Int} {Q : Bool → Shared → Prop} (hu : A.units < cLine) (hx : s.heap.get? x = some { cls := .type "list", data := .seq items n }) (hy : s.heap.get? y = some { cls := .type "list", data := .seq items2 n2 })
    (hi : IntsAre items.toList ns) (hj : IntsAre items2.toList ms) (hsz : items.size = items2.size) (h : Q (HT.lexLt ns ms) s) : wpAny (model prog w) A (keyLt' oneType' (.ref x) (.ref y)) Q E s := by
  rw [keyLt'_oneType, oneLt'_eq]
  simp only [if_true]
  refine wpAny_bind (wpAny_cRoomFor hu ?_)
  refine wpAny_bind (wpAny_callSpecialIfBound?_slot ⟨_, hx, rfl⟩ PySem.F.slot_list_lt (call_meets PySem.F.slot_list_lt ⟨_, hx, rfl⟩ PySem.F.entry_list_lt (PySem.F.args_list_lt_2 _ _) (lt_lists x y items items2 n n2 ns ms hi hj hsz) ⟨hx, hy, ?_⟩))
  exact wpAny_truthy_bool h
end
end L2
namespace L2
open PySem PySem.Spec PySem.W PyProof.Rows
def gallop' : Bool → Keyed → Array Keyed → Nat → Nat → Nat → StateT SortSt Sem (Option Nat) := sortPriv% PySem.Builtin.gallop
def mergeLo' : Array Keyed → Array Keyed → StateT SortSt Sem (Array Keyed) := sortPriv% PySem.Builtin.mergeLo
def mergeHi' : Array Keyed → Array Keyed → StateT SortSt Sem (Array Keyed) := sortPriv% PySem.Builtin.mergeHi
section
def EvS (prog : Program) (w : World) (A : Around) (E : Value → Shared → Prop) (s : Shared) {α : Type} (m : StateT SortSt Sem α) (st : SortSt) (a : α) (st' : SortSt) : Prop := ∀ Q : α → SortSt → Shared → Prop, Q a st' s → kasC (model prog w) A E m Q st s
def loopF {γ : Type} (F : γ → Option (ForInStep γ)) : Nat → γ → Option γ
  | 0, b => some b
  | f + 1, b => match F b with
    | none => none
    | some (.done b') => some b'
    | some (.yield b') => loopF F f b'
def stepM {β γ : Type} (c : γ → β) : ForInStep γ → ForInStep β
  | .done b => .done (c b)
  | .yield b => .yield (c b)
def stepV {γ : Type} : ForInStep γ → γ
  | .done b => b
  | .yield b => b
variable {prog : Program} {w : World} {A : Around} {E : Value → Shared → Prop} {s : Shared} {κ : SortKind} {it : Array Keyed} {o : Nat → Nat → Bool} {N : Nat}
theorem ev_pure {α : Type} {a : α} {st : SortSt} : EvS prog w A E s (pure a) st a st := fun Q h => kasC_pure h
theorem ev_bind {α β : Type} {m : StateT SortSt Sem α} {f : α → StateT SortSt Sem β} {st st1 st2 : SortSt} {a : α} {b : β} (h1 : EvS prog w A E s m st a st1) (h2 : EvS prog w A E s (f a) st1 b st2) : EvS prog w A E s (m >>= f) st b st2 := fun Q h => kasC_bind (h1 _ (h2 Q h))
theorem ev_get {st : SortSt} : EvS prog w A E s get st st st := fun Q h => kasC_get h
theorem ev_mod {st : SortSt} {f : SortSt → SortSt} : EvS prog w A E s (modify f) st ⟨⟩ (f st) := fun Q h => kasC_modify h
theorem ev_rule {st : SortSt} {x : String} : EvS prog w A E s (liftM (rule x)) st () st := fun Q h => kasC_lift (wpAny_rule h)
theorem ev_loop {β γ : Type} (c : γ → β) (S : γ → SortSt) {body : Nat → β → StateT SortSt Sem (ForInStep β)} (F : γ → Option (ForInStep γ)) (hF : ∀ x b r, F b = some r → EvS prog w A E s (body x (c b)) (S b) (stepM c r) (S (stepV r))) :
    ∀ (l : List Nat) (b b' : γ), loopF F l.length b = some b' → EvS prog w A E s (forIn l (c b) body) (S b) (c b') (S b')
  | [], b, b', h => by
    cases h
    exact fun Q h => kasC_nil h
  | x :: l, b, b', h => by
    intro Q q
    rw [List.length_cons] at h
    unfold loopF at h
    cases e : F b with
    | none => rw [e] at h; cases h
    | some r =>
      rw [e] at h
      refine kasC_cons (hF x b r e _ ?_)
      cases r with
      | done b1 => cases h; exact q
      | yield b1 => exact ev_loop c S F hF l b1 b' h Q q
theorem ev_range {β γ : Type} (c : γ → β) (S : γ → SortSt) {body : Nat → β → StateT SortSt Sem (ForInStep β)} (F : γ → Option (ForInStep γ)) (hF : ∀ x b r, F b = some r → EvS prog w A E s (body x (c b)) (S b) (stepM c r) (S (stepV r))) {i j : Nat} {b b' : γ} (h : loopF F (j - i) b = some b') :
    EvS prog w A E s (forIn [i:j] (c b) body) (S b) (c b') (S b') := fun Q q => kasC_range (ev_loop c S F hF _ b b' (by rw [List.length_range']; exact h) Q q)
def askI (o : Nat → Nat → Bool) (N i j : Nat) : Option Bool := if (Nat.blt i N && Nat.blt j N) = true then some (o i j) else none
def Oracle (prog : Program) (w : World) (A : Around) (κ : SortKind) (it : Array Keyed) (s : Shared) (o : Nat → Nat → Bool) (N : Nat) : Prop := ∀ i j (C : Bool → Shared → Prop), i < N → j < N → C (o i j) s → kas_cmp prog w A κ it i j C s
theorem askI_some {i j : Nat} {b : Bool} (h : askI o N i j = some b) : i < N ∧ j < N ∧ o i j = b := by
  unfold askI at h
  split at h
  · rename_i q
    rw [Bool.and_eq_true] at q
    cases h
    exact ⟨Nat.le_of_ble_eq_true q.1, Nat.le_of_ble_eq_true q.2, rfl⟩
  · cases h
abbrev sst (κ : SortKind) (it : Array Keyed) (p : Array Nat) (pd : Array (Nat × Nat × Nat)) : SortSt := SortSt.mk' κ (p.map (kas_item it)) pd 7 none
theorem ev_lt (ho : Oracle prog w A κ it s o N) {p : Array Nat} {pd : Array (Nat × Nat × Nat)} {i j : Nat} {b : Bool} (h : askI o N i j = some b) : EvS prog w A E s (lt' (kas_item it i) (kas_item it j)) (sst κ it p pd) (some b) (sst κ it p pd) := fun Q q => by
  obtain ⟨h1, h2, rfl⟩ := askI_some h
  rw [lt'_eq]
  refine kasC_bind (kasC_get ?_)
  refine kasC_bind (kasC_lift (wpAny_attempt (wpAny_mono (ho i j (fun c s' => Q (some c) (sst κ it p pd) s') h1 h2 q) (fun c s' hc => ?_) fun _ _ hF => hF.elim)))
  exact kasC_pure hc
theorem ev_elem {st : SortSt} {q : Array Nat} {i x : Nat} (h : q[i]? = some x) : EvS prog w A E s (elem' (q.map (kas_item it)) i) st (kas_item it x) st := by
  rw [elem'_eq, Array.getElem?_map, h]
  exact ev_pure
def askA (o : Nat → Nat → Bool) (N : Nat) (p : Array Nat) (i j : Nat) : Option Bool := match p[i]?, p[j]? with
  | some x, some y => askI o N x y
  | _, _ => none
theorem askA_some {p : Array Nat} {i j : Nat} {b : Bool} (h : askA o N p i j = some b) : ∃ x y, p[i]? = some x ∧ p[j]? = some y ∧ askI o N x y = some b := by
  unfold askA at h
  split at h
  · rename_i x y e1 e2
    exact ⟨x, y, e1, e2, h⟩
  · cases h
theorem ev_ltAt (ho : Oracle prog w A κ it s o N) {p : Array Nat} {pd : Array (Nat × Nat × Nat)} {i j : Nat} {b : Bool} (h : askA o N p i j = some b) : EvS prog w A E s (ltAt' i j) (sst κ it p pd) (some b) (sst κ it p pd) := by
  obtain ⟨x, y, e1, e2, e3⟩ := askA_some h
  rw [ltAt'_eq]
  exact ev_bind ev_get (ev_bind (ev_elem e1) (ev_bind (ev_elem e2) (ev_lt ho e3)))
def byF (o : Nat → Nat → Bool) (N : Nat) (l : Bool) (k : Nat) (q : Array Nat) (i : Nat) : Option Bool := match q[i]? with
  | none => none
  | some x => if l = true then askI o N x k else (askI o N k x).map (!·)
def galR (o : Nat → Nat → Bool) (N : Nat) (l : Bool) (k : Nat) (q : Array Nat) (b n h : Nat) : Nat × Nat → Option (ForInStep (Nat × Nat)) := fun u =>
  if u.2 ≥ n - h then some (.done u) else match byF o N l k q (b + (h + u.2)) with
    | none => none
    | some m => if (!m) = true then some (.done u) else some (.yield (u.2, 2 * u.2 + 1))
def galL (o : Nat → Nat → Bool) (N : Nat) (l : Bool) (k : Nat) (q : Array Nat) (b n h : Nat) : Nat × Nat → Option (ForInStep (Nat × Nat)) := fun u =>
  if u.2 ≥ h + 1 then some (.done u) else match byF o N l k q (b + (h - u.2)) with
    | none => none
    | some m => if m = true then some (.done u) else some (.yield (u.2, 2 * u.2 + 1))
def galB (o : Nat → Nat → Bool) (N : Nat) (l : Bool) (k : Nat) (q : Array Nat) (b : Nat) : Nat × Nat → Option (ForInStep (Nat × Nat)) := fun u =>
  if u.1 ≥ u.2 then some (.done u) else match byF o N l k q (b + (u.1 + (u.2 - u.1) / 2)) with
    | none => none
    | some m => if m = true then some (.yield (u.1 + (u.2 - u.1) / 2 + 1, u.2)) else some (.yield (u.1, u.1 + (u.2 - u.1) / 2))
def galF (o : Nat → Nat → Bool) (N : Nat) (l : Bool) (k : Nat) (q : Array Nat) (b n h : Nat) : Option Nat := match byF o N l k q (b + h) with
  | none => none
  | some true => (match loopF (galR o N l k q b n h) n (0, 1) with
    | none => none
    | some u => (loopF (galB o N l k q b) n (h + u.1 + 1, h + min u.2 (n - h))).map (·.2))
  | some false => (match loopF (galL o N l k q b n h) n (0, 1) with
    | none => none
    | some u => (loopF (galB o N l k q b) n (h + 1 - min u.2 (h + 1), h - u.1)).map (·.2))
theorem ev_by (ho : Oracle prog w A κ it s o N) {p q : Array Nat} {pd : Array (Nat × Nat × Nat)} {l : Bool} {k i : Nat} {b : Bool} (h : byF o N l k q i = some b) :
    EvS prog w A E s (do
      let x ← elem' (q.map (kas_item it)) i
      if l = true then lt' x (kas_item it k) else do
        let y ← lt' (kas_item it k) x
        pure (Option.map (fun x => !x) y)) (sst κ it p pd) (some b) (sst κ it p pd) := by
  unfold byF at h
  split at h
  · cases h
  · rename_i x e
    refine ev_bind (ev_elem e) ?_
    cases l with
    | true => exact ev_lt ho h
    | false =>
      cases e2 : askI o N k x with
      | none => rw [e2] at h; cases h
      | some c =>
        rw [e2] at h
        cases h
        exact ev_bind (ev_lt ho e2) ev_pure
theorem ev_galR (ho : Oracle prog w A κ it s o N) {p q : Array Nat} {pd : Array (Nat × Nat × Nat)} {l : Bool} {k b n h : Nat} {u : Nat × Nat} {r : ForInStep (Nat × Nat)} (hr : galR o N l k q b n h u = some r) :
    EvS prog w A E s (if u.2 ≥ n - h then pure (.done (none, u.1, u.2)) else do
      let c ← (do
        let x ← elem' (q.map (kas_item it)) (b + (h + u.2))
        if l = true then lt' x (kas_item it k) else do
          let y ← lt' (kas_item it k) x
          pure (Option.map (fun x => !x) y))
      match c with
      | some m => if (!m) = true then pure (.done (none, u.1, u.2)) else pure (.yield (none, u.2, 2 * u.2 + 1))
      | _ => pure (.done (some none, u.1, u.2))) (sst κ it p pd) (stepM (fun u : Nat × Nat => ((none, u) : Option (Option Nat) × Nat × Nat)) r) (sst κ it p pd) := by
  unfold galR at hr
  split at hr
  · rename_i q
    cases hr
    rw [if_pos q]
    exact ev_pure
  · rename_i q
    rw [if_neg q]
    split at hr
    · cases hr
    · rename_i m e
      refine ev_bind (ev_by ho e) ?_
      cases m with
      | true => cases hr; exact ev_pure
      | false => cases hr; exact ev_pure
theorem ev_galL (ho : Oracle prog w A κ it s o N) {p q : Array Nat} {pd : Array (Nat × Nat × Nat)} {l : Bool} {k b n h : Nat} {u : Nat × Nat} {r : ForInStep (Nat × Nat)} (hr : galL o N l k q b n h u = some r) :
    EvS prog w A E s (if u.2 ≥ h + 1 then pure (.done (none, u.1, u.2)) else do
      let c ← (do
        let x ← elem' (q.map (kas_item it)) (b + (h - u.2))
        if l = true then lt' x (kas_item it k) else do
          let y ← lt' (kas_item it k) x
          pure (Option.map (fun x => !x) y))
      match c with
      | some m => if m = true then pure (.done (none, u.1, u.2)) else pure (.yield (none, u.2, 2 * u.2 + 1))
      | _ => pure (.done (some none, u.1, u.2))) (sst κ it p pd) (stepM (fun u : Nat × Nat => ((none, u) : Option (Option Nat) × Nat × Nat)) r) (sst κ it p pd) := by
  unfold galL at hr
  split at hr
  · rename_i q
    cases hr
    rw [if_pos q]
    exact ev_pure
  · rename_i q
    rw [if_neg q]
    split at hr
    · cases hr
    · rename_i m e
      refine ev_bind (ev_by ho e) ?_
      cases m with
      | true => cases hr; exact ev_pure
      | false => cases hr; exact ev_pure
theorem ev_galB (ho : Oracle prog w A κ it s o N) {p q : Array Nat} {pd : Array (Nat × Nat × Nat)} {l : Bool} {k b : Nat} {u : Nat × Nat} {r : ForInStep (Nat × Nat)} (hr : galB o N l k q b u = some r) :
    EvS prog w A E s (if u.1 ≥ u.2 then pure (.done (none, u.1, u.2)) else do
      let c ← (do
        let x ← elem' (q.map (kas_item it)) (b + (u.1 + (u.2 - u.1) / 2))
        if l = true then lt' x (kas_item it k) else do
          let y ← lt' (kas_item it k) x
          pure (Option.map (fun x => !x) y))
      match c with
      | some m => if m = true then pure (.yield (none, u.1 + (u.2 - u.1) / 2 + 1, u.2)) else pure (.yield (none, u.1, u.1 + (u.2 - u.1) / 2))
      | _ => pure (.done (some none, u.1, u.2))) (sst κ it p pd) (stepM (fun u : Nat × Nat => ((none, u) : Option (Option Nat) × Nat × Nat)) r) (sst κ it p pd) := by
  unfold galB at hr
  split at hr
  · rename_i q
    cases hr
    rw [if_pos q]
    exact ev_pure
  · rename_i q
    rw [if_neg q]
    split at hr
    · cases hr
    · rename_i m e
      refine ev_bind (ev_by ho e) ?_
      cases m with
      | true => cases hr; exact ev_pure
      | false => cases hr; exact ev_pure
theorem ev_gal (ho : Oracle prog w A κ it s o N) {p q : Array Nat} {pd : Array (Nat × Nat × Nat)} {l : Bool} {k b n h r : Nat} (hF : galF o N l k q b n h = some r) :
    EvS prog w A E s (gallop' l (kas_item it k) (q.map (kas_item it)) b n h) (sst κ it p pd) (some r) (sst κ it p pd) := by
  have hB : ∀ {u : Nat × Nat} {r : Nat}, (loopF (galB o N l k q b) n u).map (·.2) = some r → ∃ v, loopF (galB o N l k q b) n u = some v ∧ v.2 = r := fun {u r} h => by
    cases e : loopF (galB o N l k q b) n u with
    | none => rw [e] at h; cases h
    | some v => rw [e] at h; exact ⟨v, rfl, Option.some.inj h⟩
  unfold galF at hF
  split at hF
  · cases hF
  · rename_i e
    split at hF
    · cases hF
    · rename_i u e2
      obtain ⟨v, e3, rfl⟩ := hB hF
      refine ev_bind (a := some true) (ev_by ho e) ?_
      refine ev_bind (ev_range (fun u : Nat × Nat => ((none, u) : Option (Option Nat) × Nat × Nat)) (fun _ => sst κ it p pd) (galR o N l k q b n h) (fun x u r hr => ev_galR ho hr) e2) ?_
      exact ev_bind (ev_range (fun u : Nat × Nat => ((none, u) : Option (Option Nat) × Nat × Nat)) (fun _ => sst κ it p pd) (galB o N l k q b) (fun x u r hr => ev_galB ho hr) e3) ev_pure
  · rename_i e
    split at hF
    · cases hF
    · rename_i u e2
      obtain ⟨v, e3, rfl⟩ := hB hF
      refine ev_bind (a := some false) (ev_by ho e) ?_
      refine ev_bind (ev_range (fun u : Nat × Nat => ((none, u) : Option (Option Nat) × Nat × Nat)) (fun _ => sst κ it p pd) (galL o N l k q b n h) (fun x u r hr => ev_galL ho hr) e2) ?_
      exact ev_bind (ev_range (fun u : Nat × Nat => ((none, u) : Option (Option Nat) × Nat × Nat)) (fun _ => sst κ it p pd) (galB o N l k q b) (fun x u r hr => ev_galB ho hr) e3) ev_pure
def mloF (o : Nat → Nat → Bool) (N : Nat) (x y : Array Nat) : Option (Array Nat) × Array Nat × Nat × Nat × Nat × Nat → Option (ForInStep (Option (Array Nat) × Array Nat × Nat × Nat × Nat × Nat)) := fun (_, out, ia, ib, ac, bc) => match y[ib]?, x[ia]? with
  | some v, some u => (match askI o N v u with
    | some true => if (ib + 1 == y.size) = true then some (.done (some (out.push v ++ x.extract ia x.size ++ y.extract (ib + 1) y.size), out.push v, ia, ib + 1, 0, bc + 1))
      else if bc + 1 ≥ 7 then some (.done (none, out.push v, ia, ib + 1, 0, bc + 1)) else some (.yield (none, out.push v, ia, ib + 1, 0, bc + 1))
    | some false => if (ia + 1 + 1 == x.size) = true then some (.done (some (out.push u ++ y.extract ib y.size ++ x.extract (ia + 1) x.size), out.push u, ia + 1, ib, ac + 1, 0))
      else if ac + 1 ≥ 7 then some (.done (none, out.push u, ia + 1, ib, ac + 1, 0)) else some (.yield (none, out.push u, ia + 1, ib, ac + 1, 0))
    | none => none)
  | _, _ => none
def mloO (o : Nat → Nat → Bool) (N : Nat) (x y : Array Nat) : Option (Array Nat) × Array Nat × Nat × Nat × Nat → Option (ForInStep (Option (Array Nat) × Array Nat × Nat × Nat × Nat)) := fun (_, out, ia, ib, g) => if g = 7 then (match loopF (mloF o N x y) (x.size + y.size) (none, out, ia, ib, 0, 0) with
    | some (some r, out', ia', ib', _, _) => some (.done (some r, out', ia', ib', g))
    | _ => none) else none
def mloG (o : Nat → Nat → Bool) (N : Nat) (x y : Array Nat) : Option (Array Nat) := match y[0]? with
  | none => none
  | some v => if (1 == y.size) = true then none else if (0 + 1 == x.size) = true then none else match loopF (mloO o N x y) (x.size + y.size) (none, #[v], 0, 1, 7) with
    | some (some r, _) => some r
    | _ => none
def mc (it : Array Keyed) (p : Array Nat) : Array Keyed := p.map (kas_item it)
theorem mc_push (p : Array Nat) (i : Nat) : (mc it p).push (kas_item it i) = mc it (p.push i) := by unfold mc; rw [Array.map_push]
theorem mc_app (p q : Array Nat) : mc it p ++ mc it q = mc it (p ++ q) := by unfold mc; rw [Array.map_append]
theorem mc_ext (p : Array Nat) (i j : Nat) : (mc it p).extract i j = mc it (p.extract i j) := by unfold mc; rw [Array.map_extract]
theorem mc_size (p : Array Nat) : (mc it p).size = p.size := Array.size_map
def mcI (it : Array Keyed) (u : Option (Array Nat) × Array Nat × Nat × Nat × Nat × Nat) : Option (Array Keyed) × Array Keyed × Nat × Nat × Nat × Nat := (u.1.map (mc it), mc it u.2.1, u.2.2)
def mcO (it : Array Keyed) (u : Option (Array Nat) × Array Nat × Nat × Nat × Nat) : Option (Array Keyed) × Array Keyed × Nat × Nat × Nat := (u.1.map (mc it), mc it u.2.1, u.2.2)
theorem ev_elemC {st : SortSt} {q : Array Nat} {i x : Nat} (h : q[i]? = some x) : EvS prog w A E s (elem' (mc it q) i) st (kas_item it x) st := ev_elem h
theorem ev_mlo (ho : Oracle prog w A κ it s o N) {p x y : Array Nat} {pd : Array (Nat × Nat × Nat)} {u : Option (Array Nat) × Array Nat × Nat × Nat × Nat × Nat} {r : ForInStep (Option (Array Nat) × Array Nat × Nat × Nat × Nat × Nat)} (hr : mloF o N x y u = some r) :
    EvS prog w A E s (do
      let a ← elem' (mc it y) u.2.2.2.1
      let b ← elem' (mc it x) u.2.2.1
      let c ← lt' a b
      match c with
      | some c => (if c = true then (elem' (mc it y) u.2.2.2.1 >>= fun v =>
          (if (u.2.2.2.1 + 1 == (mc it y).size) = true then pure (.done (some ((mc it u.2.1).push v ++ (mc it x).extract u.2.2.1 (mc it x).size ++ (mc it y).extract (u.2.2.2.1 + 1) (mc it y).size), (mc it u.2.1).push v, u.2.2.1, u.2.2.2.1 + 1, 0, u.2.2.2.2.2 + 1))
          else (if u.2.2.2.2.2 + 1 ≥ 7 then pure (.done (none, (mc it u.2.1).push v, u.2.2.1, u.2.2.2.1 + 1, 0, u.2.2.2.2.2 + 1)) else pure (.yield (none, (mc it u.2.1).push v, u.2.2.1, u.2.2.2.1 + 1, 0, u.2.2.2.2.2 + 1)))))
        else (elem' (mc it x) u.2.2.1 >>= fun v =>
          (if (u.2.2.1 + 1 + 1 == (mc it x).size) = true then pure (.done (some ((mc it u.2.1).push v ++ (mc it y).extract u.2.2.2.1 (mc it y).size ++ (mc it x).extract (u.2.2.1 + 1) (mc it x).size), (mc it u.2.1).push v, u.2.2.1 + 1, u.2.2.2.1, u.2.2.2.2.1 + 1, 0))
          else (if u.2.2.2.2.1 + 1 ≥ 7 then pure (.done (none, (mc it u.2.1).push v, u.2.2.1 + 1, u.2.2.2.1, u.2.2.2.2.1 + 1, 0)) else pure (.yield (none, (mc it u.2.1).push v, u.2.2.1 + 1, u.2.2.2.1, u.2.2.2.2.1 + 1, 0))))))
      | _ => pure (.done (some (mc it u.2.1 ++ (mc it x).extract u.2.2.1 (mc it x).size ++ (mc it y).extract u.2.2.2.1 (mc it y).size), mc it u.2.1, u.2.2.1, u.2.2.2.1, u.2.2.2.2.1, u.2.2.2.2.2))) (sst κ it p pd) (stepM (mcI it) r) (sst κ it p pd) := by
  obtain ⟨z, out, ia, ib, ac, bc⟩ := u
  unfold mloF at hr
  dsimp only at hr ⊢
  split at hr
  · rename_i v u e1 e2
    refine ev_bind (ev_elemC e1) (ev_bind (ev_elemC e2) ?_)
    split at hr
    · rename_i e3
      refine ev_bind (ev_lt ho e3) ?_
      dsimp only
      rw [if_pos rfl]
      refine ev_bind (ev_elemC e1) ?_
      rw [mc_push, mc_size, mc_size, mc_ext, mc_ext, mc_app, mc_app]
      split at hr
      · rename_i q; rw [if_pos q]; cases hr; exact ev_pure
      · rename_i q
        rw [if_neg q]
        split at hr
        · rename_i q; rw [if_pos q]; cases hr; exact ev_pure
        · rename_i q; rw [if_neg q]; cases hr; exact ev_pure
    · rename_i e3
      refine ev_bind (ev_lt ho e3) ?_
      dsimp only
      rw [if_neg (by decide)]
      refine ev_bind (ev_elemC e2) ?_
      rw [mc_push, mc_size, mc_size, mc_ext, mc_ext, mc_app, mc_app]
      split at hr
      · rename_i q; rw [if_pos q]; cases hr; exact ev_pure
      · rename_i q
        rw [if_neg q]
        split at hr
        · rename_i q; rw [if_pos q]; cases hr; exact ev_pure
        · rename_i q; rw [if_neg q]; cases hr; exact ev_pure
    · cases hr
  · cases hr
theorem ev_mloG (ho : Oracle prog w A κ it s o N) {p x y r : Array Nat} {pd : Array (Nat × Nat × Nat)} (hF : mloG o N x y = some r) : EvS prog w A E s (mergeLo' (mc it x) (mc it y)) (sst κ it p pd) (mc it r) (sst κ it p pd) := by
  unfold mloG at hF
  split at hF
  · cases hF
  · rename_i v e0
    split at hF
    · cases hF
    · rename_i q1
      split at hF
      · cases hF
      · rename_i q2
        split at hF
        · rename_i r' u' e1
          obtain rfl : r' = r := Option.some.inj hF
          refine ev_bind ev_rule (ev_bind (ev_elemC e0) ?_)
          dsimp only
          rw [mc_size, mc_size, if_neg q1, if_neg q2]
          rw [show (#[kas_item it v] : Array Keyed) = mc it #[v] by simp [mc]]
          refine ev_bind ev_get ?_
          refine ev_bind (st1 := sst κ it p pd) (a := mcO it (some r', u')) (ev_range (b := (none, #[v], 0, 1, 7)) (mcO it) (fun _ => sst κ it p pd) (mloO o N x y) (fun i u t ht => ?_) e1) (ev_pure (a := mc it r'))
          obtain ⟨z, out, ia, ib, g⟩ := u
          unfold mloO at ht
          dsimp only at ht
          split at ht
          · rename_i hg
            subst hg
            split at ht
            · rename_i r1 o1 a1 b1 c1 c2 e2
              cases ht
              exact ev_bind (st1 := sst κ it p pd) (a := mcI it (some r1, o1, a1, b1, c1, c2)) (ev_range (b := (none, out, ia, ib, 0, 0)) (mcI it) (fun _ => sst κ it p pd) (mloF o N x y) (fun i u t ht => by
                have := ev_mlo (E := E) (pd := pd) (p := p) ho ht
                rw [mc_size, mc_size] at this
                exact this) e2) (ev_pure (a := ForInStep.done (mcO it (some r1, o1, a1, b1, 7))))
            · cases ht
          · cases ht
        · cases hF
def mhiF (o : Nat → Nat → Bool) (N : Nat) (x y : Array Nat) : Option (Array Nat) × Nat × Nat × Array Nat × Nat × Nat → Option (ForInStep (Option (Array Nat) × Nat × Nat × Array Nat × Nat × Nat)) := fun (_, na, nb, out, ac, bc) => match y[nb - 1]?, x[na - 1]? with
  | some v, some u => (match askI o N v u with
    | some true => if (na - 1 == 0) = true then some (.done (some (x.extract 0 (na - 1) ++ y.extract 0 nb ++ (out.push u).reverse), na - 1, nb, out.push u, ac + 1, 0))
      else if ac + 1 ≥ 7 then some (.done (none, na - 1, nb, out.push u, ac + 1, 0)) else some (.yield (none, na - 1, nb, out.push u, ac + 1, 0))
    | some false => if (nb - 1 == 1) = true then some (.done (some (y.extract 0 (nb - 1) ++ x.extract 0 na ++ (out.push v).reverse), na, nb - 1, out.push v, 0, bc + 1))
      else if bc + 1 ≥ 7 then some (.done (none, na, nb - 1, out.push v, 0, bc + 1)) else some (.yield (none, na, nb - 1, out.push v, 0, bc + 1))
    | none => none)
  | _, _ => none
def mhiO (o : Nat → Nat → Bool) (N : Nat) (x y : Array Nat) : Option (Array Nat) × Nat × Nat × Array Nat × Nat → Option (ForInStep (Option (Array Nat) × Nat × Nat × Array Nat × Nat)) := fun (_, na, nb, out, g) => if g = 7 then (match loopF (mhiF o N x y) (x.size + y.size) (none, na, nb, out, 0, 0) with
    | some (some r, na', nb', out', _, _) => some (.done (some r, na', nb', out', g))
    | _ => none) else none
def mhiG (o : Nat → Nat → Bool) (N : Nat) (x y : Array Nat) : Option (Array Nat) := match x[x.size - 1]? with
  | none => none
  | some u => if (x.size - 1 == 0) = true then none else if (y.size == 1) = true then none else match loopF (mhiO o N x y) (x.size + y.size) (none, x.size - 1, y.size, #[u], 7) with
    | some (some r, _) => some r
    | _ => none
theorem mc_rev (p : Array Nat) : (mc it p).reverse = mc it p.reverse := by unfold mc; rw [Array.map_reverse]
def mdI (it : Array Keyed) (u : Option (Array Nat) × Nat × Nat × Array Nat × Nat × Nat) : Option (Array Keyed) × Nat × Nat × Array Keyed × Nat × Nat := (u.1.map (mc it), u.2.1, u.2.2.1, mc it u.2.2.2.1, u.2.2.2.2)
def mdO (it : Array Keyed) (u : Option (Array Nat) × Nat × Nat × Array Nat × Nat) : Option (Array Keyed) × Nat × Nat × Array Keyed × Nat := (u.1.map (mc it), u.2.1, u.2.2.1, mc it u.2.2.2.1, u.2.2.2.2)
theorem ev_mhi (ho : Oracle prog w A κ it s o N) {p x y : Array Nat} {pd : Array (Nat × Nat × Nat)} {u : Option (Array Nat) × Nat × Nat × Array Nat × Nat × Nat} {r : ForInStep (Option (Array Nat) × Nat × Nat × Array Nat × Nat × Nat)} (hr : mhiF o N x y u = some r) :
    EvS prog w A E s (do
      let a ← elem' (mc it y) (u.2.2.1 - 1)
      let b ← elem' (mc it x) (u.2.1 - 1)
      let c ← lt' a b
      match c with
      | some c => (if c = true then (elem' (mc it x) (u.2.1 - 1) >>= fun v =>
          (if (u.2.1 - 1 == 0) = true then pure (.done (some ((mc it x).extract 0 (u.2.1 - 1) ++ (mc it y).extract 0 u.2.2.1 ++ ((mc it u.2.2.2.1).push v).reverse), u.2.1 - 1, u.2.2.1, (mc it u.2.2.2.1).push v, u.2.2.2.2.1 + 1, 0))
          else (if u.2.2.2.2.1 + 1 ≥ 7 then pure (.done (none, u.2.1 - 1, u.2.2.1, (mc it u.2.2.2.1).push v, u.2.2.2.2.1 + 1, 0)) else pure (.yield (none, u.2.1 - 1, u.2.2.1, (mc it u.2.2.2.1).push v, u.2.2.2.2.1 + 1, 0)))))
        else (elem' (mc it y) (u.2.2.1 - 1) >>= fun v =>
          (if (u.2.2.1 - 1 == 1) = true then pure (.done (some ((mc it y).extract 0 (u.2.2.1 - 1) ++ (mc it x).extract 0 u.2.1 ++ ((mc it u.2.2.2.1).push v).reverse), u.2.1, u.2.2.1 - 1, (mc it u.2.2.2.1).push v, 0, u.2.2.2.2.2 + 1))
          else (if u.2.2.2.2.2 + 1 ≥ 7 then pure (.done (none, u.2.1, u.2.2.1 - 1, (mc it u.2.2.2.1).push v, 0, u.2.2.2.2.2 + 1)) else pure (.yield (none, u.2.1, u.2.2.1 - 1, (mc it u.2.2.2.1).push v, 0, u.2.2.2.2.2 + 1))))))
      | _ => pure (.done (some ((mc it x).extract 0 u.2.1 ++ (mc it y).extract 0 u.2.2.1 ++ (mc it u.2.2.2.1).reverse), u.2.1, u.2.2.1, mc it u.2.2.2.1, u.2.2.2.2.1, u.2.2.2.2.2))) (sst κ it p pd) (stepM (mdI it) r) (sst κ it p pd) := by
  obtain ⟨z, na, nb, out, ac, bc⟩ := u
  unfold mhiF at hr
  dsimp only at hr ⊢
  split at hr
  · rename_i v u e1 e2
    refine ev_bind (ev_elemC e1) (ev_bind (ev_elemC e2) ?_)
    split at hr
    · rename_i e3
      refine ev_bind (ev_lt ho e3) ?_
      dsimp only
      rw [if_pos rfl]
      refine ev_bind (ev_elemC e2) ?_
      rw [mc_push, mc_ext, mc_ext, mc_app, mc_rev, mc_app]
      split at hr
      · rename_i q; rw [if_pos q]; cases hr; exact ev_pure
      · rename_i q
        rw [if_neg q]
        split at hr
        · rename_i q; rw [if_pos q]; cases hr; exact ev_pure
        · rename_i q; rw [if_neg q]; cases hr; exact ev_pure
    · rename_i e3
      refine ev_bind (ev_lt ho e3) ?_
      dsimp only
      rw [if_neg (by decide)]
      refine ev_bind (ev_elemC e1) ?_
      rw [mc_push, mc_ext, mc_ext, mc_app, mc_rev, mc_app]
      split at hr
      · rename_i q; rw [if_pos q]; cases hr; exact ev_pure
      · rename_i q
        rw [if_neg q]
        split at hr
        · rename_i q; rw [if_pos q]; cases hr; exact ev_pure
        · rename_i q; rw [if_neg q]; cases hr; exact ev_pure
    · cases hr
  · cases hr
theorem ev_mhiG (ho : Oracle prog w A κ it s o N) {p x y r : Array Nat} {pd : Array (Nat × Nat × Nat)} (hF : mhiG o N x y = some r) : EvS prog w A E s (mergeHi' (mc it x) (mc it y)) (sst κ it p pd) (mc it r) (sst κ it p pd) := by
  unfold mhiG at hF
  split at hF
  · cases hF
  · rename_i v e0
    split at hF
    · cases hF
    · rename_i q1
      split at hF
      · cases hF
      · rename_i q2
        split at hF
        · rename_i r' u' e1
          obtain rfl : r' = r := Option.some.inj hF
          refine ev_bind ev_rule ?_
          dsimp only
          rw [mc_size, mc_size]
          refine ev_bind (ev_elemC e0) ?_
          rw [if_neg q1, if_neg q2]
          rw [show (#[kas_item it v] : Array Keyed) = mc it #[v] by simp [mc]]
          refine ev_bind ev_get ?_
          refine ev_bind (st1 := sst κ it p pd) (a := mdO it (some r', u')) (ev_range (b := (none, x.size - 1, y.size, #[v], 7)) (mdO it) (fun _ => sst κ it p pd) (mhiO o N x y) (fun i u t ht => ?_) e1) (ev_pure (a := mc it r'))
          obtain ⟨z, na, nb, out, g⟩ := u
          unfold mhiO at ht
          dsimp only at ht
          split at ht
          · rename_i hg
            subst hg
            split at ht
            · rename_i r1 a1 b1 o1 c1 c2 e2
              cases ht
              exact ev_bind (st1 := sst κ it p pd) (a := mdI it (some r1, a1, b1, o1, c1, c2)) (ev_range (b := (none, na, nb, out, 0, 0)) (mdI it) (fun _ => sst κ it p pd) (mhiF o N x y) (fun i u t ht => ev_mhi (E := E) (pd := pd) (p := p) ho ht) e2) (ev_pure (a := ForInStep.done (mdO it (some r1, a1, b1, o1, 7))))
            · cases ht
          · cases ht
        · cases hF
def mrgP {α : Type} (sa : Nat) (m p : Array α) : Array α := m.toList.zipIdx.foldl (fun a u => a.setIfInBounds (sa + u.2) u.1) p
theorem mc_put (sa : Nat) (m p : Array Nat) : mrgP sa (mc it m) (mc it p) = mc it (mrgP sa m p) := by
  have key : ∀ (l : List Nat) (k : Nat) (p : Array Nat), ((l.map (kas_item it)).zipIdx k).foldl (fun a u => a.setIfInBounds (sa + u.2) u.1) (mc it p) = mc it ((l.zipIdx k).foldl (fun a u => a.setIfInBounds (sa + u.2) u.1) p) := by
    intro l
    induction l with
    | nil => intro k p; rfl
    | cons x l ih =>
      intro k p
      rw [List.map_cons, List.zipIdx_cons, List.zipIdx_cons, List.foldl_cons, List.foldl_cons]
      dsimp only
      rw [show (mc it p).setIfInBounds (sa + k) (kas_item it x) = mc it (p.setIfInBounds (sa + k) x) by unfold mc; rw [Array.map_setIfInBounds]]
      exact ih _ _
  unfold mrgP
  rw [show (mc it m).toList = m.toList.map (kas_item it) by unfold mc; rw [Array.toList_map]]
  exact key _ _ _
def matF (o : Nat → Nat → Bool) (N : Nat) (i : Nat) (p : Array Nat) (pd : Array (Nat × Nat × Nat)) : Option (Array Nat × Array (Nat × Nat × Nat)) := match pd[i]?, pd[i + 1]? with
  | some (sa, na, pw), some (sb, nb, _) => (match p[sb]? with
    | none => none
    | some v => (match galF o N false v p sa na 0 with
      | none => none
      | some k => if (na - k == 0) = true then none else (match p[sa + k + (na - k) - 1]? with
        | none => none
        | some u => (match galF o N true u p sb nb (nb - 1) with
          | none => none
          | some nb' => if (nb' == 0) = true then none else
            (match if na - k ≤ nb' then mloG o N (p.extract (sa + k) sb) (p.extract sb (sb + nb')) else mhiG o N (p.extract (sa + k) sb) (p.extract sb (sb + nb')) with
            | none => none
            | some m => some (mrgP (sa + k) m p, (pd.setIfInBounds i (sa, na + nb, pw)).eraseIdxIfInBounds (i + 1)))))))
  | _, _ => none
theorem ev_mat (ho : Oracle prog w A κ it s o N) {i : Nat} {p p' : Array Nat} {pd pd' : Array (Nat × Nat × Nat)} (hF : matF o N i p pd = some (p', pd')) : EvS prog w A E s (mergeAt' i) (sst κ it p pd) true (sst κ it p' pd') := by
  unfold matF at hF
  split at hF
  · rename_i sa na pw sb nb pw2 e1 e2
    split at hF
    · cases hF
    · rename_i v e3
      split at hF
      · cases hF
      · rename_i k e4
        split at hF
        · cases hF
        · rename_i q1
          split at hF
          · cases hF
          · rename_i u e5
            split at hF
            · cases hF
            · rename_i nb' e6
              split at hF
              · cases hF
              · rename_i q2
                split at hF
                · cases hF
                · rename_i m e7
                  cases hF
                  refine ev_bind ev_get ?_
                  dsimp only
                  rw [e1, e2]
                  dsimp only
                  refine ev_bind (ev_mod (f := fun _ => sst κ it p ((pd.setIfInBounds i (sa, na + nb, pw)).eraseIdxIfInBounds (i + 1)))) ?_
                  refine ev_bind (ev_elem e3) (ev_bind (ev_gal ho e4) ?_)
                  dsimp only
                  rw [if_neg q1]
                  refine ev_bind (ev_elem e5) (ev_bind (ev_gal ho e6) ?_)
                  dsimp only
                  rw [if_neg q2]
                  have hst : SortSt.mk' κ (mrgP (sa + k) (mc it m) (mc it p)) ((pd.setIfInBounds i (sa, na + nb, pw)).eraseIdxIfInBounds (i + 1)) 7 none = sst κ it (mrgP (sa + k) m p) ((pd.setIfInBounds i (sa, na + nb, pw)).eraseIdxIfInBounds (i + 1)) := by rw [mc_put]; rfl
                  rw [← hst]
                  split at e7
                  · rename_i q3
                    rw [if_pos q3]
                    refine ev_bind (a := mc it m) (st1 := sst κ it p ((pd.setIfInBounds i (sa, na + nb, pw)).eraseIdxIfInBounds (i + 1))) ?_ (ev_bind ev_mod (ev_bind ev_get ev_pure))
                    have := ev_mloG (E := E) (p := p) (pd := (pd.setIfInBounds i (sa, na + nb, pw)).eraseIdxIfInBounds (i + 1)) ho e7
                    rw [← mc_ext, ← mc_ext] at this
                    exact this
                  · rename_i q3
                    rw [if_neg q3]
                    refine ev_bind (a := mc it m) (st1 := sst κ it p ((pd.setIfInBounds i (sa, na + nb, pw)).eraseIdxIfInBounds (i + 1))) ?_ (ev_bind ev_mod (ev_bind ev_get ev_pure))
                    have := ev_mhiG (E := E) (p := p) (pd := (pd.setIfInBounds i (sa, na + nb, pw)).eraseIdxIfInBounds (i + 1)) ho e7
                    rw [← mc_ext, ← mc_ext] at this
                    exact this
  · cases hF
end
end L2
namespace L2
open PySem PySem.Spec PySem.W PyProof.Rows
section
variable {prog : Program} {w : World} {A : Around} {E : Value → Shared → Prop} {s : Shared} {κ : SortKind} {it : Array Keyed} {o : Nat → Nat → Bool} {N : Nat}
theorem ev_rev {p : Array Nat} {pd : Array (Nat × Nat × Nat)} {i j : Nat} : EvS prog w A E s (reverseSlice' i j) (sst κ it p pd) () (sst κ it (kas_rev p i j) pd) := fun Q h => by
  rw [reverseSlice'_eq]
  refine kasC_modify ?_
  have e1 : mirror (p.map (kas_item it)) i j ((j - i) / 2) = (mirror p i j ((j - i) / 2)).map (kas_item it) := kas_swaps_map (kas_item it) (fun k => i + k) (fun k => j - 1 - k) _ p
  show Q () (SortSt.mk' κ (mirror (p.map (kas_item it)) i j ((j - i) / 2)) pd 7 none) s
  rw [e1]
  exact h
theorem ev_move {p : Array Nat} {pd : Array (Nat × Nat × Nat)} {k l : Nat} : EvS prog w A E s (moveDown' k l) (sst κ it p pd) () (sst κ it (bubble p k (k - l)) pd) := fun Q h => by
  rw [moveDown'_eq]
  refine kasC_modify ?_
  have e1 : bubble (p.map (kas_item it)) k (k - l) = (bubble p k (k - l)).map (kas_item it) := kas_swaps_map (kas_item it) (fun i => k - i) (fun i => k - i - 1) _ p
  show Q () (SortSt.mk' κ (bubble (p.map (kas_item it)) k (k - l)) pd 7 none) s
  rw [e1]
  exact h
def loopX {γ : Type} (F : Nat → γ → Option (ForInStep γ)) : Nat → Nat → γ → Option γ
  | 0, _, b => some b
  | f + 1, k, b => match F k b with
    | none => none
    | some (.done b') => some b'
    | some (.yield b') => loopX F f (k + 1) b'
theorem ev_loopX {β γ : Type} (c : γ → β) (S : γ → SortSt) {body : Nat → β → StateT SortSt Sem (ForInStep β)} (F : Nat → γ → Option (ForInStep γ)) (hF : ∀ x b r, F x b = some r → EvS prog w A E s (body x (c b)) (S b) (stepM c r) (S (stepV r))) :
    ∀ (f k : Nat) (b b' : γ), loopX F f k b = some b' → EvS prog w A E s (forIn (List.range' k f) (c b) body) (S b) (c b') (S b')
  | 0, k, b, b', h => by
    cases h
    exact fun Q h => kasC_nil h
  | f + 1, k, b, b', h => by
    intro Q q
    rw [List.range'_succ]
    unfold loopX at h
    cases e : F k b with
    | none => rw [e] at h; cases h
    | some r =>
      rw [e] at h
      refine kasC_cons (hF k b r e _ ?_)
      cases r with
      | done b1 => cases h; exact q
      | yield b1 => exact ev_loopX c S F hF f (k + 1) b1 b' h Q q
theorem ev_rangeX {β γ : Type} (c : γ → β) (S : γ → SortSt) {body : Nat → β → StateT SortSt Sem (ForInStep β)} (F : Nat → γ → Option (ForInStep γ)) (hF : ∀ x b r, F x b = some r → EvS prog w A E s (body x (c b)) (S b) (stepM c r) (S (stepV r))) {i j : Nat} {b b' : γ} (h : loopX F (j - i) i b = some b') :
    EvS prog w A E s (forIn [i:j] (c b) body) (S b) (c b') (S b') := fun Q q => kasC_range (ev_loopX c S F hF _ _ b b' h Q q)
def ascF (o : Nat → Nat → Bool) (N : Nat) (p : Array Nat) (lo : Nat) : Nat → Option (ForInStep Nat) := fun n => match askA o N p (lo + n) (lo + n - 1) with
  | none => none
  | some c => if c = true then some (.done n) else some (.yield (n + 1))
def dscF (o : Nat → Nat → Bool) (N : Nat) (p : Array Nat) (lo : Nat) : Nat → Option (ForInStep Nat) := fun n => match askA o N p (lo + n) (lo + n - 1) with
  | some true => some (.yield (n + 1))
  | some false => (match askA o N p (lo + n - 1) (lo + n) with
    | some true => some (.done n)
    | _ => none)
  | none => none
def cntF (o : Nat → Nat → Bool) (N : Nat) (p : Array Nat) (lo nrem : Nat) : Option (Nat × Array Nat) := match loopF (ascF o N p lo) (nrem - 1) 1 with
  | none => none
  | some n => if (n == nrem) = true then some (n, p) else if n > 1 then (match askA o N p lo (lo + n - 1) with
      | some true => some (n, p)
      | _ => none)
    else (match loopF (dscF o N p lo) (nrem - (n + 1)) (n + 1) with
      | none => none
      | some m => (loopF (ascF o N (kas_rev p lo (lo + m)) lo) (nrem - m) m).map fun k => (k, kas_rev p lo (lo + m)))
def ascC (n : Nat) : AscSt := (none, n)
theorem ev_asc (ho : Oracle prog w A κ it s o N) {p : Array Nat} {pd : Array (Nat × Nat × Nat)} {lo n : Nat} {r : ForInStep Nat} (hr : ascF o N p lo n = some r) : EvS prog w A E s (do
      let x ← ltAt' (lo + n) (lo + n - 1)
      match x with
      | some c => (if c = true then pure (.done (none, n)) else pure (.yield (none, n + 1)))
      | _ => pure (.done (some none, n))) (sst κ it p pd) (stepM ascC r) (sst κ it p pd) := by
  unfold ascF at hr
  split at hr
  · cases hr
  · rename_i c e
    refine ev_bind (ev_ltAt ho e) ?_
    cases c with
    | true => cases hr; exact ev_pure
    | false => cases hr; exact ev_pure
theorem ev_cnt (ho : Oracle prog w A κ it s o N) {p p' : Array Nat} {pd : Array (Nat × Nat × Nat)} {lo nrem n : Nat} (hF : cntF o N p lo nrem = some (n, p')) : EvS prog w A E s (countRun' lo nrem) (sst κ it p pd) (some n) (sst κ it p' pd) := by
  unfold cntF at hF
  rw [countRun'_eq]
  split at hF
  · cases hF
  · rename_i m e
    refine ev_bind (st1 := sst κ it p pd) (a := ascC m) (ev_range ascC (fun _ => sst κ it p pd) (ascF o N p lo) (fun x b r hr => ev_asc ho hr) e) ?_
    dsimp only [ascC]
    split at hF
    · rename_i q
      cases hF
      rw [if_pos q]
      exact ev_pure
    · rename_i q
      rw [if_neg q]
      split at hF
      · rename_i q2
        rw [if_pos q2]
        split at hF
        · rename_i e2
          cases hF
          exact ev_bind (ev_ltAt ho e2) ev_pure
        · cases hF
      · rename_i q2
        rw [if_neg q2]
        split at hF
        · cases hF
        · rename_i k e2
          refine ev_bind ev_rule ?_
          refine ev_bind (st1 := sst κ it p pd) (a := ((none, k, 0) : DescSt)) (ev_range (b := m + 1) (fun n => ((none, n, 0) : DescSt)) (fun _ => sst κ it p pd) (dscF o N p lo) (fun x b r hr => ?_) e2) ?_
          · unfold dscF at hr
            split at hr
            · rename_i e3
              cases hr
              exact ev_bind (ev_ltAt ho e3) ev_pure
            · rename_i e3
              split at hr
              · rename_i e4
                cases hr
                exact ev_bind (ev_ltAt ho e3) (ev_bind (ev_ltAt ho e4) ev_pure)
              · cases hr
            · cases hr
          · cases e3 : loopF (ascF o N (kas_rev p lo (lo + k)) lo) (nrem - k) k with
            | none => rw [e3] at hF; cases hF
            | some j =>
              rw [e3] at hF
              cases hF
              exact ev_bind ev_rev (ev_bind (st1 := sst κ it (kas_rev p lo (lo + k)) pd) (a := ascC _) (ev_range ascC (fun _ => sst κ it (kas_rev p lo (lo + k)) pd) (ascF o N (kas_rev p lo (lo + k)) lo) (fun x b r hr => ev_asc ho hr) e3) ev_pure)
def plcF (o : Nat → Nat → Bool) (N : Nat) (p : Array Nat) (lo k : Nat) : Nat × Nat → Option (ForInStep (Nat × Nat)) := fun u => if u.1 ≥ u.2 then some (.done u) else match askA o N p (lo + k) (lo + (u.1 + u.2) / 2) with
  | none => none
  | some c => if c = true then some (.yield (u.1, (u.1 + u.2) / 2)) else some (.yield ((u.1 + u.2) / 2 + 1, u.2))
def layF (o : Nat → Nat → Bool) (N lo : Nat) : Nat → Array Nat → Option (ForInStep (Array Nat)) := fun k p => match loopF (plcF o N p lo k) k (0, k) with
  | none => none
  | some u => some (.yield (bubble p (lo + k) (lo + k - (lo + u.1))))
def binF (o : Nat → Nat → Bool) (N : Nat) (p : Array Nat) (lo n ok : Nat) : Option (Array Nat) := loopX (layF o N lo) (n - max ok 1) (max ok 1) p
theorem ev_bin (ho : Oracle prog w A κ it s o N) {p p' : Array Nat} {pd : Array (Nat × Nat × Nat)} {lo n ok : Nat} (hF : binF o N p lo n ok = some p') : EvS prog w A E s (binarySort' lo n ok) (sst κ it p pd) true (sst κ it p' pd) := by
  unfold binF at hF
  rw [binarySort'_eq]
  refine ev_bind (a := ((none, ()) : Option Bool × Unit)) (ev_rangeX (b := p) (fun _ => ((none, ()) : Option Bool × Unit)) (fun p => sst κ it p pd) (layF o N lo) (fun k p r hr => ?_) hF) ev_pure
  unfold layF at hr
  split at hr
  · cases hr
  · rename_i u e
    cases hr
    refine ev_bind (st1 := sst κ it p pd) (a := ((none, u) : Option Bool × Nat × Nat)) (ev_range (b := (0, k)) (fun u : Nat × Nat => ((none, u) : Option Bool × Nat × Nat)) (fun _ => sst κ it p pd) (plcF o N p lo k) (fun x u r hr => ?_) e) (ev_bind ev_move ev_pure)
    unfold plcF at hr
    split at hr
    · rename_i q
      cases hr
      dsimp only
      rw [if_pos q]
      exact ev_pure
    · rename_i q
      dsimp only
      rw [if_neg q]
      split at hr
      · cases hr
      · rename_i c e2
        refine ev_bind (ev_ltAt ho e2) ?_
        cases c with
        | true => cases hr; exact ev_pure
        | false => cases hr; exact ev_pure
def clpF (o : Nat → Nat → Bool) (N pw : Nat) : Array Nat × Array (Nat × Nat × Nat) → Option (ForInStep (Array Nat × Array (Nat × Nat × Nat))) := fun u =>
  match (if u.2.size > 1 then u.2[u.2.size - 2]? else none) with
  | none => some (.done u)
  | some (_, _, older) => if older ≤ pw then some (.done u) else (match matF o N (u.2.size - 2) u.1 u.2 with
    | none => none
    | some v => some (.yield v))
def frcF (o : Nat → Nat → Bool) (N : Nat) : Array Nat × Array (Nat × Nat × Nat) → Option (ForInStep (Array Nat × Array (Nat × Nat × Nat))) := fun u =>
  if u.2.size ≤ 1 then some (.done u) else
    match matF o N (if (if u.2.size - 2 > 0 then u.2[u.2.size - 2 - 1]?.map (·.2.1) else none).any (· < (u.2[u.2.size - 2 + 1]?.elim 0 (·.2.1))) then u.2.size - 2 - 1 else u.2.size - 2) u.1 u.2 with
    | none => none
    | some v => some (.yield v)
def psh (o : Nat → Nat → Bool) (N size lo n : Nat) (p2 : Array Nat) (pd : Array (Nat × Nat × Nat)) : Option (ForInStep (Nat × Array Nat × Array (Nat × Nat × Nat))) := match pd.back? with
  | none => some (.yield (lo + n, p2, pd.push (lo, n, 0)))
  | some (s1, n1, _) => (match loopF (clpF o N (power' size (2 * s1 + n1) (2 * s1 + n1 + n1 + n) size)) size (p2, pd) with
    | none => none
    | some (p3, pd3) => some (.yield (lo + n, p3, (pd3.modify (pd3.size - 1) fun u => (u.1, u.2.1, power' size (2 * s1 + n1) (2 * s1 + n1 + n1 + n) size)).push (lo, n, 0))))
def rC (u : Nat × Array Nat × Array (Nat × Nat × Nat)) : Option Unit × Nat := (none, u.1)
theorem ev_clp (ho : Oracle prog w A κ it s o N) {pw : Nat} {u : Array Nat × Array (Nat × Nat × Nat)} {r : ForInStep (Array Nat × Array (Nat × Nat × Nat))} (hr : clpF o N pw u = some r) : EvS prog w A E s (do
      let g ← get
      match (if (pendingOf g).size > 1 then (pendingOf g)[(pendingOf g).size - 2]? else none) with
      | some (_, _, older) => (if older ≤ pw then pure (ForInStep.done ((none, ()) : Option Unit × Unit)) else (mergeAt' ((pendingOf g).size - 2) >>= fun z => (if (!z) = true then pure (ForInStep.done (some (), ())) else pure (ForInStep.yield (none, ())))))
      | _ => pure (ForInStep.done (none, ()))) (sst κ it u.1 u.2) (stepM (fun _ => ((none, ()) : Option Unit × Unit)) r) (sst κ it (stepV r).1 (stepV r).2) := by
  obtain ⟨p, pd⟩ := u
  unfold clpF at hr
  dsimp only at hr
  refine ev_bind ev_get ?_
  show EvS prog w A E s (match (if pd.size > 1 then pd[pd.size - 2]? else none) with
      | some (_, _, older) => (if older ≤ pw then pure (ForInStep.done ((none, ()) : Option Unit × Unit)) else (mergeAt' (pd.size - 2) >>= fun z => (if (!z) = true then pure (ForInStep.done (some (), ())) else pure (ForInStep.yield (none, ())))))
      | _ => pure (ForInStep.done (none, ()))) _ _ _
  generalize (if pd.size > 1 then pd[pd.size - 2]? else none) = q at hr ⊢
  split at hr
  · cases hr
    exact ev_pure
  · rename_i a b older
    dsimp only
    split at hr
    · rename_i h
      rw [if_pos h]
      cases hr
      exact ev_pure
    · rename_i h
      rw [if_neg h]
      split at hr
      · cases hr
      · rename_i v e
        cases hr
        exact ev_bind (ev_mat ho e) ev_pure
def runF (o : Nat → Nat → Bool) (N size mr : Nat) : Nat × Array Nat × Array (Nat × Nat × Nat) → Option (ForInStep (Nat × Array Nat × Array (Nat × Nat × Nat))) := fun u => if u.1 ≥ size then some (.done u) else match cntF o N u.2.1 u.1 (size - u.1) with
  | none => none
  | some (n, p1) => if n < mr then (match binF o N p1 u.1 (min (size - u.1) mr) n with
      | none => none
      | some p2 => psh o N size u.1 (min (size - u.1) mr) p2 u.2.2)
    else psh o N size u.1 n p1 u.2.2
def timF (o : Nat → Nat → Bool) (N : Nat) (p : Array Nat) : Option (Array Nat) := match loopF (runF o N p.size (minRun' p.size p.size 0)) p.size (0, p, #[]) with
  | none => none
  | some (_, p1, pd1) => (loopF (frcF o N) p.size (p1, pd1)).map (·.1)
theorem ev_tim (ho : Oracle prog w A κ it s o N) {p p' : Array Nat} (hF : timF o N p = some p') : ∃ pd, EvS prog w A E s sortRuns' (sst κ it p #[]) () (sst κ it p' pd) := by
  unfold timF at hF
  split at hF
  · cases hF
  · rename_i lo1 p1 pd1 e1
    cases e2 : loopF (frcF o N) p.size (p1, pd1) with
    | none => rw [e2] at hF; cases hF
    | some u =>
      rw [e2] at hF
      obtain ⟨p2, pd2⟩ := u
      cases hF
      refine ⟨pd2, ?_⟩
      rw [sortRuns'_eq]
      refine ev_bind ev_get ?_
      have hz : (arrOf (sst κ it p #[])).size = p.size := mc_size p
      rw [hz]
      dsimp only
      refine ev_bind (st1 := sst κ it p1 pd1) (a := ((none, lo1) : Option Unit × Nat)) (ev_range (b := (0, p, #[])) (b' := (lo1, p1, pd1)) rC (fun u => sst κ it u.2.1 u.2.2) (runF o N p.size (minRun' p.size p.size 0)) (fun x u r hr => ?_) e1) ?_
      · unfold runF at hr
        show EvS prog w A E s (if u.1 ≥ p.size then _ else _) _ _ _
        split at hr
        · rename_i q
          cases hr
          rw [if_pos q]
          exact ev_pure
        · rename_i q
          rw [if_neg q]
          split at hr
          · cases hr
          · rename_i n q1 e3
            refine ev_bind (ev_cnt ho e3) ?_
            dsimp only
            split at hr
            · rename_i q2
              rw [if_pos q2]
              split at hr
              · cases hr
              · rename_i q3 e4
                refine ev_bind ev_rule (ev_bind (ev_bin ho e4) ?_)
                rw [if_neg (by decide)]
                refine ev_bind ev_get ?_
                unfold psh at hr
                split at hr
                · rename_i e
                  have e' : (pendingOf (sst κ it q3 u.2.2)).back? = none := e
                  cases hr
                  rw [e']
                  exact ev_bind ev_mod ev_pure
                · rename_i s1 n1 z e
                  have e' : (pendingOf (sst κ it q3 u.2.2)).back? = some (s1, n1, z) := e
                  split at hr
                  · cases hr
                  · rename_i p3 pd3 e2
                    cases hr
                    rw [e']
                    exact ev_bind (st1 := sst κ it p3 pd3) (a := ((none, ()) : Option Unit × Unit)) (ev_range (b := (q3, u.2.2)) (b' := (p3, pd3)) (fun _ => ((none, ()) : Option Unit × Unit)) (fun u : Array Nat × Array (Nat × Nat × Nat) => sst κ it u.1 u.2) (clpF o N (power' p.size (2 * s1 + n1) (2 * s1 + n1 + n1 + min (p.size - u.1) (minRun' p.size p.size 0)) p.size)) (fun x u r hr => ev_clp ho hr) e2) (ev_bind ev_mod (ev_bind ev_mod ev_pure))
            · rename_i q2
              rw [if_neg q2]
              refine ev_bind ev_get ?_
              unfold psh at hr
              split at hr
              · rename_i e
                have e' : (pendingOf (sst κ it q1 u.2.2)).back? = none := e
                cases hr
                rw [e']
                exact ev_bind ev_mod ev_pure
              · rename_i s1 n1 z e
                have e' : (pendingOf (sst κ it q1 u.2.2)).back? = some (s1, n1, z) := e
                split at hr
                · cases hr
                · rename_i p3 pd3 e2
                  cases hr
                  rw [e']
                  exact ev_bind (st1 := sst κ it p3 pd3) (a := ((none, ()) : Option Unit × Unit)) (ev_range (b := (q1, u.2.2)) (b' := (p3, pd3)) (fun _ => ((none, ()) : Option Unit × Unit)) (fun u : Array Nat × Array (Nat × Nat × Nat) => sst κ it u.1 u.2) (clpF o N (power' p.size (2 * s1 + n1) (2 * s1 + n1 + n1 + n) p.size)) (fun x u r hr => ev_clp ho hr) e2) (ev_bind ev_mod (ev_bind ev_mod ev_pure))
      · refine ev_bind (st1 := sst κ it p2 pd2) (a := ((none, ()) : Option Unit × Unit)) (ev_range (b := (p1, pd1)) (b' := (p2, pd2)) (fun _ => ((none, ()) : Option Unit × Unit)) (fun u : Array Nat × Array (Nat × Nat × Nat) => sst κ it u.1 u.2) (frcF o N) (fun x u r hr => ?_) e2) ev_pure
        obtain ⟨q, qd⟩ := u
        unfold frcF at hr
        dsimp only at hr
        refine ev_bind ev_get ?_
        show EvS prog w A E s (if qd.size ≤ 1 then _ else _) _ _ _
        split at hr
        · rename_i h
          rw [if_pos h]
          cases hr
          exact ev_pure
        · rename_i h
          rw [if_neg h]
          split at hr
          · cases hr
          · rename_i v e
            cases hr
            exact ev_bind (ev_mat ho e) ev_pure
end
end L2
namespace L2
open PySem PySem.Spec PySem.W PyProof.Rows
def timR (ts : List (List Int)) : Option (Array Nat) := timF (fun i j => lexB (ts.getD i []) (ts.getD j [])) ts.length (List.toArray (List.range ts.length))
def timOk (ts : List (List Int)) : Bool := match timR ts with
  | some p => (p.toList.length == ts.length) && ((List.range ts.length).all fun i => p.toList.elem i) && ((List.range (ts.length - 1)).all fun i => lexB (ts.getD (p.toList.getD i 0) []) (ts.getD (p.toList.getD (i + 1) 0) []))
  | none => false
theorem lexLt_lexB : ∀ {xs ys : List Int}, xs.length = ys.length → HT.lexLt xs ys = lexB xs ys
  | [], [], _ => rfl
  | x :: xs, y :: ys, h => by
    rw [HT.lexLt_cons, lexB_cons, lexLt_lexB (by simpa using h)]
def Lsts (h : Heap) (L : Nat) (vs : List Value) (ts : List (List Int)) : Prop := ∀ j, j < vs.length → ∃ x items n, vs.getD j Value.none = .ref x ∧ h.get? x = some { cls := .type "list", data := .seq items n } ∧ IntsAre items.toList (ts.getD j []) ∧ items.size = L
section
variable {prog : Program} {w : World} {A : Around} {E : Value → Shared → Prop} {s : Shared}
theorem lists_ans {L : Nat} {vs : List Value} {ts : List (List Int)} (hu : A.units < cLine) (r : Lsts s.heap L vs ts) : Ans (O := lexO) (fun i => ts.getD i []) vs.length (kas_ask prog w A oneType' vs) s := fun i j C hi hj h => by
  obtain ⟨x, xs, n, e1, g1, i1, z1⟩ := r i hi
  obtain ⟨y, ys, m, e2, g2, i2, z2⟩ := r j hj
  unfold kas_ask
  rw [e1, e2]
  refine oneLt_lists hu g1 g2 i1 i2 (z1.trans z2.symm) ?_
  rw [lexLt_lexB (by have a := i1.length; have b := i2.length; rw [Array.length_toList] at a b; omega)]
  exact h
theorem perm_of_sub : ∀ {xs ys : List Nat}, xs.Nodup → (∀ x ∈ xs, x ∈ ys) → ys.length = xs.length → xs.Perm ys
  | [], ys, _, _, h => by
    obtain rfl : ys = [] := List.length_eq_zero_iff.mp h
    exact List.Perm.refl _
  | x :: xs, ys, nd, hs, h => by
    obtain ⟨h1, h2⟩ := List.nodup_cons.mp nd
    obtain ⟨a, b, rfl⟩ := List.append_of_mem (hs x (.head _))
    have ih := perm_of_sub (ys := a ++ b) h2 (fun z hz => by
      have := hs z (.tail _ hz)
      rcases List.mem_append.mp this with q | q
      · exact List.mem_append_left _ q
      · rcases List.mem_cons.mp q with q | q
        · exact absurd (q ▸ hz) h1
        · exact List.mem_append_right _ q) (by simp at h ⊢; omega)
    exact (ih.cons x).trans List.perm_middle.symm
theorem rows_of {N : Nat} {p : Array Nat} (h1 : p.toList.length = N) (h2 : ∀ i, i < N → i ∈ p.toList) : Row N p := by
  have pm : (List.range N).Perm p.toList := perm_of_sub List.nodup_range (fun i hi => h2 i (List.mem_range.mp hi)) (by rw [h1, List.length_range])
  refine Array.perm_iff_toList_perm.mpr ?_
  simpa using pm.symm
theorem tim_up {ts : List (List Int)} {p : Array Nat} (h : ∀ i, i < ts.length - 1 → lexB (ts.getD (p.toList.getD i 0) []) (ts.getD (p.toList.getD (i + 1) 0) []) = true) : Up (O := lexO) (fun i => ts.getD i []) p ts.length := by
  have hk : ∀ i, kq (O := lexO) (fun i => ts.getD i []) p i = ts.getD (p.toList.getD i 0) [] := fun i => by
    unfold kq
    congr 1
    simp [Array.getD, List.getD_eq_getElem?_getD]
    split <;> simp_all
  intro i j hij hj
  induction j with
  | zero =>
    obtain rfl : i = 0 := by omega
    exact KeyOrd.kle_refl _
  | succ j ih =>
    by_cases e : i = j + 1
    · subst e; exact KeyOrd.kle_refl _
    · have a := ih (by omega) (by omega)
      refine KeyOrd.kle_trans a ?_
      show lexB _ _ = false
      rw [hk, hk]
      have b := h j (by omega)
      cases e2 : lexB (ts.getD (p.toList.getD (j + 1) 0) []) (ts.getD (p.toList.getD j 0) []) with
      | false => rfl
      | true =>
        have := lexB_trans _ _ _ b e2
        rw [lexB_irrefl] at this
        cases this
theorem tim_ok {ts : List (List Int)} (h : timOk ts = true) : ∃ p, timR ts = some p ∧ Row ts.length p ∧ Up (O := lexO) (fun i => ts.getD i []) p ts.length := by
  unfold timOk at h
  cases e : timR ts with
  | none => rw [e] at h; cases h
  | some p =>
    rw [e] at h
    dsimp only at h
    rw [Bool.and_eq_true, Bool.and_eq_true] at h
    obtain ⟨⟨a, b⟩, c⟩ := h
    refine ⟨p, rfl, rows_of (by simpa using a) fun i hi => ?_, tim_up fun i hi => ?_⟩
    · have := List.all_eq_true.mp b i (List.mem_range.mpr hi)
      simpa using this
    · exact List.all_eq_true.mp c i (List.mem_range.mpr hi)
theorem sort_lists {a : Addr} {L : Nat} {vs : List Value} {ts : List (List Int)} {n : Nat} {P : PySem.Fin → Shared → Prop} (hun : A.units < cLine) (ho : s.heap.get? a = some (seqObj "list" vs.toArray n)) (hl : vs.length = ts.length) (hna : ∀ v ∈ vs, v ≠ .ref a) (hT : Lsts s.heap L vs ts) (h64 : vs.length < 64 ∨ timOk ts = true) (hsz : vs.length ≤ 1000)
    (h : ∀ p, Row vs.length p → Up (O := lexO) (fun i => ts.getD i []) p vs.length → P (.done (.ret .none)) { s with heap := sortedHeap s.heap a vs (outOf vs p) }) :
    wpAny (model prog w) A (Builtin.«list.sort» ⟨[.ref a], []⟩) P E s := by
  rw [list_sort_plain]
  have la := Heap.lt_size ho
  refine wpAny_bind (listItems_at ho rfl (wpAny_bind (listUpdate_at ho rfl ?_)))
  obtain ⟨e1, g1⟩ : ∃ e, (s.heap.update a (Obj.mapSeq fun _ => #[])).get? a = some (seqObj "list" #[] e) := ⟨_, get?_update_seq ho fun _ => #[]⟩
  refine wpAny_bind (seqEpoch_at g1 rfl (wpAny_bind (wpAny_newTuple (wpAny_bind (wpAny_newList (wpAny_holding ?_))))))
  generalize hh6 : ((s.heap.update a (Obj.mapSeq fun _ => #[])).push (seqObj "tuple" vs.toArray 0)).push (seqObj "list" #[] 0) = h6
  have keep6 : ∀ b o, b ≠ a → s.heap.get? b = some o → h6.get? b = some o := fun b o nb e => by
    have lb := Heap.lt_size e
    rw [← hh6, Heap.get?_push_ne _ _ _ (Nat.ne_of_lt (by rw [size_push', Heap.size_update]; exact Nat.lt_succ_of_lt lb)), Heap.get?_push_ne _ _ _ (Nat.ne_of_lt (by rw [Heap.size_update]; exact lb)), Heap.get?_update_ne _ _ _ _ nb]
    exact e
  have g6 : h6.get? a = some (seqObj "list" #[] e1) := by
    rw [← hh6, Heap.get?_push_ne _ _ _ (Nat.ne_of_lt (by rw [size_push', Heap.size_update]; exact Nat.lt_succ_of_lt la)), Heap.get?_push_ne _ _ _ (Nat.ne_of_lt (by rw [Heap.size_update]; exact la))]
    exact g1
  have fin : ∀ p, Row vs.length p → Up (O := lexO) (fun i => ts.getD i []) p vs.length → P (.done (.ret .none)) { s with heap := h6.update a (Obj.mapSeq fun _ => outOf vs p) } := fun p r u => by
    rw [← hh6]
    exact h p r u
  have T6 : Lsts h6 L vs ts := fun j hj => by
    obtain ⟨x, items, n, b1, b2, b3, b4⟩ := hT j hj
    refine ⟨x, items, n, b1, keep6 x _ (fun z => ?_) b2, b3, b4⟩
    refine hna (vs.getD j Value.none) ?_ (by rw [b1, z])
    rw [List.getD_eq_getElem?_getD, List.getElem?_eq_getElem hj]
    exact List.getElem_mem hj
  show wpAny (model prog w) A _ P E { s with heap := h6 }
  have hvz : vs.toArray.size = vs.length := List.size_toArray
  dsimp only
  by_cases small : vs.toArray.size < 2
  · rw [if_pos small, if_pos small]
    refine wpAny_bind (wpAny_pure ?_)
    rw [StateT.run_pure]
    refine wpAny_bind (wpAny_pure ?_)
    have ev : ((vs.toArray.zip vs.toArray).map fun x => x.2) = outOf vs (List.toArray (List.range vs.length)) := by
      unfold outOf
      match vs, hvz, small with
      | [], _, _ => simp
      | [v], _, _ => simp
      | _ :: _ :: _, _, z => simp at z; omega
    refine wpAny_bind (seqEpoch_at g6 rfl (wpAny_bind (listUpdate_at g6 rfl ?_ (hsz2 := ?_))))
    · simp only [bne_self_eq_false, Bool.false_eq_true, if_false]
      refine wpAny_pure ?_
      show P (.done (.ret .none)) { s with heap := h6.update a (Obj.mapSeq fun _ => (vs.toArray.zip vs.toArray).map fun x => x.2) }
      rw [ev]
      exact fin _ (Array.Perm.refl _) fun i j x y => by
        have z : i = j := by omega
        subst z
        exact KeyOrd.kle_refl _
    · show ((vs.toArray.zip vs.toArray).map fun x => x.2).size ≤ _
      rw [ev, outOf, List.size_toArray, List.length_map, sizeLine_eq]
      simp
      omega
  · rw [if_neg small, if_neg small]
    have an := lists_ans (prog := prog) (w := w) (s := { s with heap := h6 }) hun T6
    refine wpAny_bind (kas_kind (s := { s with heap := h6 }) (T := .type "list") (by omega) (fun v hv => ?_) rfl rfl ?_)
    · obtain ⟨j, hj, ej⟩ := List.getElem_of_mem hv
      obtain ⟨x, items, n, b1, b2, _⟩ := T6 j hj
      have : v = .ref x := by rw [← b1, List.getD_eq_getElem?_getD, List.getElem?_eq_getElem hj, ← ej]; rfl
      rw [this]
      exact fun A' Q' E' s' k' q' => wpAny_typeOf_ref (k' _ _ b2) q'
    have goal : wpAny (model prog w) A ((sortRuns').run (SortSt.mk' oneType' (vs.toArray.zip vs.toArray) #[] 7 none)) (fun r s' => s' = { s with heap := h6 } ∧ ∃ p, p.size = vs.length ∧ arrOf r.2 = p.map (kas_item (vs.toArray.zip vs.toArray)) ∧ failedOf r.2 = none ∧ Row vs.length p ∧ Up (O := lexO) (fun i => ts.getD i []) p vs.length) E { s with heap := h6 } := by
      rcases h64 with h64 | hk
      · exact kat_run (ks := vs) (vs := vs) (Q := fun st' s' => s' = { s with heap := h6 } ∧ ∃ p, p.size = vs.length ∧ arrOf st' = p.map (kas_item (vs.toArray.zip vs.toArray)) ∧ failedOf st' = none ∧ Row vs.length p ∧ Up (O := lexO) (fun i => ts.getD i []) p vs.length) (G := fun p s' => s' = { s with heap := h6 } ∧ Row vs.length p ∧ Up (O := lexO) (fun i => ts.getD i []) p vs.length) rfl (by omega) h64 (fun p st' s' hz har hf hG => ⟨hG.1, p, hz, har, hf, hG.2.1, hG.2.2⟩) (sort_ok an (by omega) fun p r u => ⟨rfl, r, u⟩)
      · obtain ⟨p, e, hr, hup⟩ := tim_ok hk
        have an' : Oracle prog w A oneType' (vs.toArray.zip vs.toArray) { s with heap := h6 } (fun i j => lexB (ts.getD i []) (ts.getD j [])) ts.length := fun i j C hi hj hc => by
          have := an i j C (by omega) (by omega) hc
          rw [kat_ask_eq rfl] at this
          exact this
        unfold timR at e
        obtain ⟨pd, ev⟩ := ev_tim (E := E) an' e
        have est : SortSt.mk' oneType' (vs.toArray.zip vs.toArray) #[] 7 none = sst oneType' (vs.toArray.zip vs.toArray) (List.toArray (List.range ts.length)) #[] := by
          have e := kas_range (vs.toArray.zip vs.toArray)
          rw [show (vs.toArray.zip vs.toArray).size = ts.length by simp [hl]] at e
          show SortSt.mk' oneType' (vs.toArray.zip vs.toArray) #[] 7 none = SortSt.mk' oneType' ((List.toArray (List.range ts.length)).map (kas_item (vs.toArray.zip vs.toArray))) #[] 7 none
          rw [e]
        rw [est]
        rw [← hl] at hr hup
        exact ev (fun _ st' s' => s' = { s with heap := h6 } ∧ ∃ p, p.size = vs.length ∧ arrOf st' = p.map (kas_item (vs.toArray.zip vs.toArray)) ∧ failedOf st' = none ∧ Row vs.length p ∧ Up (O := lexO) (fun i => ts.getD i []) p vs.length) ⟨rfl, p, hr.size, rfl, rfl, hr, hup⟩
    refine wpAny_bind (wpAny_mono goal ?_ fun _ _ e => e)
    rintro ⟨_, st'⟩ s' ⟨rfl, p, hz, har, hf, hr, hu⟩
    dsimp only at har hf ⊢
    have eo := kat_snds (ks := vs) (vs := vs) rfl har
    refine wpAny_bind (seqEpoch_at g6 rfl (wpAny_bind (listUpdate_at g6 rfl ?_ (hsz2 := ?_))))
    · rw [hf]
      simp only [bne_self_eq_false, Bool.false_eq_true, if_false]
      refine wpAny_pure ?_
      show P (.done (.ret .none)) { s with heap := h6.update a (Obj.mapSeq fun _ => (arrOf st').map (·.2)) }
      rw [eo]
      exact fin p hr hu
    · show ((arrOf st').map (·.2)).size ≤ _
      rw [eo, List.size_toArray, List.length_map, Array.length_toList, hz, sizeLine_eq]
      omega
end
end L2
namespace L2
open PySem PySem.Spec PySem.W PyProof.Rows
structure RowsAt (H : Hp) (L : Nat) (qs : List Addr) (ts : List (List Int)) : Prop where
  len : qs.length = ts.length
  at_ : ∀ (j : Nat) q t, qs[j]? = some q → ts[j]? = some t → H q = some (.lst (t.map V.int)) ∧ t.length = L
section
variable {X : Cx}
def rSortLL : List V → Hp → VK → Prop := fun xs H Q => ∃ (l : Addr) (qs : List Addr) (ts : List (List Int)) (L : Nat), xs = [.ref l] ∧ H l = some (.lst (qs.map V.ref)) ∧ RowsAt H L qs ts ∧ (qs.length < 64 ∨ timOk ts = true) ∧ qs.length ≤ 1000 ∧
  ∀ (p : Addr) (qs' : List Addr) (ts' : List (List Int)), H p = none → RowsAt H L qs' ts' → ts'.Perm ts → ts'.Pairwise (fun a b => lexB b a = false) → Q (.ref p) (upd H p (.lst (qs'.map V.ref)))
theorem call_sortedLL (hu : X.A.units + 9 < cLine) : CallR X (.builtin "sorted") rSortLL := by
  intro pins s σ H xs us Q I r h
  obtain ⟨l, qs, ts, L, rfl, hl, ht, h64, hbig, q⟩ := h
  obtain ⟨u, rfl, ru⟩ := vals1 r
  cases ru
  obtain ⟨z, its, n, rv, hlen, e⟩ := I.lstM hl
  obtain rfl := refs_of rv
  have hq := ht.len
  have hv : (qs.map Value.ref).length = qs.length := List.length_map ..
  refine Calls.call_function_entry kind_sorted plain_sorted entry_sorted (args_sorted1 (.ref l)) ?_
  unfold Builtin.«sorted»
  refine wpAny_bind (m := checkCount "sorted" 1 1 _) (wpAny_pure (wpAny_bind (collect_list (vs := qs.map Value.ref) ⟨_, e, rfl, _, rfl⟩ (wpAny_bind (wpAny_newList ?_ (by rw [hv, sizeLine_eq]; omega))) (by rw [hv, sizeLine_eq]; omega))))
  generalize hh1 : (s.heap.push (seqObj "list" #[] 0)).update s.heap.objs.size (Obj.mapSeq (· ++ (qs.map Value.ref).toArray)) = h1
  have z1 : h1.objs.size = s.heap.objs.size + 1 := by rw [← hh1, Heap.size_update, size_push']
  have k1 : ∀ b o, s.heap.get? b = some o → (h1.push (seqObj "list" (qs.map Value.ref).toArray 0)).get? b = some o := fun b o g => by
    have lb := Heap.lt_size g
    refine Heap.get?_push_of_some _ ?_
    rw [← hh1, Heap.get?_update_ne _ _ _ _ (Nat.ne_of_lt lb)]
    exact Heap.get?_push_of_some _ g
  have gD : (h1.push (seqObj "list" (qs.map Value.ref).toArray 0)).get? h1.objs.size = some (seqObj "list" (qs.map Value.ref).toArray 0) := Heap.get?_push_size _ rfl
  refine wpAny_bind (wpAny_holding (wpAny_call_entry (s := { s with heap := h1.push (seqObj "list" (qs.map Value.ref).toArray 0) }) slot_list_sort ⟨_, gD, rfl⟩ entry_list_sort (sort_lists (L := L) (by show X.A.units + 2 < cLine; omega) gD (hv.trans hq) (fun v hv z => ?_) (fun j hj => ?_) (by rw [hv]; exact h64) (by rw [hv]; exact hbig) fun p hr hu => ⟨_, rfl, ?_⟩) (args_list_sort (.ref h1.objs.size))))
  · obtain ⟨q0, hq0, rfl⟩ := List.mem_map.mp hv
    obtain ⟨j, hj, ej⟩ := List.getElem_of_mem hq0
    have e1 : qs[j]? = some q0 := by rw [List.getElem?_eq_getElem hj, ej]
    obtain ⟨g0, _⟩ := ht.at_ j q0 _ e1 (List.getElem?_eq_getElem (show j < ts.length by omega))
    obtain ⟨_, its0, n0, _, _, e0⟩ := I.lstM g0
    have l0 := Heap.lt_size e0
    have z2 : q0 = h1.objs.size := by injection z
    rw [z2, z1] at l0
    exact absurd l0 (Nat.not_lt.mpr (Nat.le_succ _))
  · have hj' : j < qs.length := by rw [hv] at hj; exact hj
    have jt : j < ts.length := by omega
    obtain ⟨g0, l0⟩ := ht.at_ j qs[j] ts[j] (List.getElem?_eq_getElem hj') (List.getElem?_eq_getElem jt)
    obtain ⟨_, its0, n0, r0, z0, e0⟩ := I.lstM g0
    refine ⟨qs[j], its0.toArray, n0, by simp [List.getD_eq_getElem?_getD, List.getElem?_eq_getElem hj'], k1 _ _ e0, ?_, ?_⟩
    · rw [List.getD_eq_getElem?_getD, List.getElem?_eq_getElem jt]
      simpa using intsAre_of r0
    · rw [List.size_toArray, ← z0, List.length_map, l0]
  rw [hv] at hr hu
  have pl : p.toList.Perm (List.range qs.length) := by simpa using Array.perm_iff_toList_perm.mp hr
  have plen : p.toList.length = qs.length := by have := pl.length_eq; simpa using this
  have eo : (outOf (qs.map Value.ref) p).toList = (p.toList.map fun i => qs.getD i 0).map Value.ref := by
    unfold outOf
    show p.toList.map (fun i => (qs.map Value.ref).getD i Value.none) = _
    rw [List.map_map]
    refine List.map_congr_left fun i hi => ?_
    have li : i < qs.length := List.mem_range.mp (pl.mem_iff.mp hi)
    show (qs.map Value.ref).getD i Value.none = Value.ref (qs.getD i 0)
    simp [List.getD_eq_getElem?_getD, List.getElem?_eq_getElem li]
  refine wpAny_pure ⟨_, rfl, ?_⟩
  obtain ⟨c, hc2⟩ := sortedHeap_at (out := outOf (qs.map Value.ref) p) gD
  have T' : RowsAt H L (p.toList.map fun i => qs.getD i 0) (p.toList.map fun i => ts.getD i []) := by
    refine ⟨by rw [List.length_map, List.length_map], fun j a b x y => ?_⟩
    rw [List.getElem?_map] at x y
    obtain ⟨i, e1, e2⟩ := Option.map_eq_some_iff.mp x
    rw [e1] at y
    have li : i < qs.length := List.mem_range.mp (pl.mem_iff.mp (List.mem_of_getElem? e1))
    refine ht.at_ i a b ?_ ?_
    · rw [← e2]; simp [List.getD_eq_getElem?_getD, List.getElem?_eq_getElem li]
    · cases y
      simp [List.getD_eq_getElem?_getD, List.getElem?_eq_getElem (show i < ts.length by omega)]
  obtain ⟨hn, I2⟩ := I.laidN (t' := s.toks) (h' := sortedHeap (h1.push (seqObj "list" (qs.map Value.ref).toArray 0)) h1.objs.size (qs.map Value.ref) (outOf (qs.map Value.ref) p)) (a := h1.objs.size) (o := .lst ((p.toList.map fun i => qs.getD i 0).map V.ref)) (fun b ob g => by
      have lb : b < h1.objs.size := by rw [z1]; exact Nat.lt_succ_of_lt (Heap.lt_size g)
      rw [sortedHeap_old (Nat.ne_of_lt lb) (by rw [size_push']; exact Nat.lt_succ_of_lt lb)]
      exact k1 b ob g) (fun b ob g => Nat.ne_of_lt (by rw [z1]; exact Nat.lt_succ_of_lt (Heap.lt_size g)))
    ⟨by rw [List.length_map, List.length_map, plen, sizeLine_eq]; omega, (p.toList.map fun i => qs.getD i 0).map Value.ref, c, vals_refs9 _, by rw [← eo, Array.toArray_toList]; exact hc2⟩
  refine ⟨.ref h1.objs.size, _, I2, rfl, q _ _ _ hn T' ?_ ?_⟩
  · have := pl.map (fun i => ts.getD i [])
    rw [hq, range_getD] at this
    exact this
  · rw [List.pairwise_iff_getElem]
    intro i j hi hj hij
    rw [List.length_map, plen] at hi hj
    have key : ∀ k (hk : k < p.toList.length), (p.toList.map fun i => ts.getD i [])[k]'(by rw [List.length_map]; exact hk) = kq (O := lexO) (fun i => ts.getD i []) p k := fun k hk => by
      rw [List.getElem_map]
      unfold kq
      have : p.getD k 0 = p.toList[k] := by
        have hk' : k < p.size := by simpa using hk
        simp [Array.getD, hk']
      rw [this]
    rw [key i (by omega), key j (by omega)]
    exact hu i j (by omega) hj
theorem rd_sortLL {H : Hp} {Q : VK} {l : Addr} {qs : List Addr} {ts : List (List Int)} {L : Nat} (h1 : H l = some (.lst (qs.map V.ref))) (h2 : RowsAt H L qs ts) (h3 : qs.length < 64 ∨ timOk ts = true) (h4 : qs.length ≤ 1000)
    (h : ∀ (p : Addr) (qs' : List Addr) (ts' : List (List Int)), H p = none → RowsAt H L qs' ts' → ts'.Perm ts → ts'.Pairwise (fun a b => lexB b a = false) → Q (.ref p) (upd H p (.lst (qs'.map V.ref)))) : rSortLL [.ref l] H Q := ⟨l, qs, ts, L, rfl, h1, h2, h3, h4, h⟩
end
theorem RowsAt.same {H H' : Hp} {L : Nat} {qs : List Addr} {ts : List (List Int)} (h : RowsAt H L qs ts) (s : Same H H') : RowsAt H' L qs ts := ⟨h.len, fun j q t a b => ⟨s _ _ (h.at_ j q t a b).1, (h.at_ j q t a b).2⟩⟩
theorem RowsAt.nil {H : Hp} {L : Nat} : RowsAt H L [] [] := ⟨rfl, fun j q t h => by simp at h⟩
theorem RowsAt.app {H : Hp} {L : Nat} {qs qs' : List Addr} {ts ts' : List (List Int)} (h : RowsAt H L qs ts) (h' : RowsAt H L qs' ts') : RowsAt H L (qs ++ qs') (ts ++ ts') := by
  refine ⟨by rw [List.length_append, List.length_append, h.len, h'.len], fun j q t a b => ?_⟩
  by_cases hj : j < qs.length
  · rw [List.getElem?_append_left hj] at a
    rw [List.getElem?_append_left (by rw [← h.len]; exact hj)] at b
    exact h.at_ j q t a b
  · rw [List.getElem?_append_right (by omega)] at a
    rw [List.getElem?_append_right (by rw [← h.len]; omega), ← h.len] at b
    exact h'.at_ _ q t a b
theorem RowsAt.one {H : Hp} {L : Nat} {q : Addr} {t : List Int} (h : H q = some (.lst (t.map V.int))) (hl : t.length = L) : RowsAt H L [q] [t] := ⟨rfl, fun j q' t' a b => by
  cases j with
  | zero => cases a; cases b; exact ⟨h, hl⟩
  | succ j => simp at a⟩
theorem RowsAt.get {H : Hp} {L : Nat} {qs : List Addr} {ts : List (List Int)} (h : RowsAt H L qs ts) {i : Nat} {v : V} (hv : (qs.map V.ref)[i]? = some v) : ∃ q t, v = .ref q ∧ qs[i]? = some q ∧ ts[i]? = some t ∧ H q = some (.lst (t.map V.int)) ∧ t.length = L := by
  rw [List.getElem?_map] at hv
  obtain ⟨q, e, rfl⟩ := Option.map_eq_some_iff.mp hv
  have li : i < ts.length := by rw [← h.len]; exact (List.getElem?_eq_some_iff.mp e).1
  obtain ⟨a, b⟩ := h.at_ i q _ e (List.getElem?_eq_getElem li)
  exact ⟨q, _, rfl, e, List.getElem?_eq_getElem li, a, b⟩
end L2
local macro_rules | `(tactic| walk_at "ne") => `(tactic| first
  | assumption
  | (refine Ne.symm ?_; assumption)
  | exact L2.ne_none (by assumption) (by walk_at "hp")
  | exact Ne.symm (L2.ne_none (by assumption) (by walk_at "hp")))
local macro_rules | `(tactic| walk_at "hp") => `(tactic| first
  | assumption
  | exact L2.upd_same
  | (refine Eq.trans (L2.upd_ne (by walk_at "ne")) ?_; walk_at "hp")
  | (refine L2.Same.at (by assumption) ?_; walk_at "hp")
  | (refine L2.Keep.at (by assumption) ?_ (by walk_at "ne"); walk_at "hp"))
local macro_rules | `(tactic| walk_at "sq") => `(tactic| first
  | assumption
  | exact L2.SqL.of (by walk_at "hp")
  | exact L2.SqT.of (by walk_at "hp")
  | exact L2.Same.seq (by assumption) (by walk_at "sq"))
local macro_rules | `(tactic| walk_at "cnd") => `(tactic| first
  | omega
  | decide
  | (simp only [List.length_map]; omega)
  | (refine ⟨?_, ?_⟩ <;> first | omega | decide)
  | (refine Or.inl ⟨?_, ?_⟩ <;> first | omega | decide)
  | (refine Or.inr ⟨?_, ?_⟩ <;> first | omega | decide)
  | (refine ⟨?_, ?_, ?_⟩ <;> first | omega | decide))
local macro_rules | `(tactic| walk_at "sz") => `(tactic| (refine L2.sz_le ?_; first | decide | (simp only [List.length_cons, List.length_nil, List.length_append]; omega) | omega))
local macro_rules | `(tactic| walk_at "rd") => `(tactic| (with_reducible first
  | refine L2.rd_next ?_
  | refine L2.rd_par ?_
  | refine L2.rd_asg ?_
  | refine L2.rd_drop ?_
  | refine L2.rd_ret ?_
  | refine L2.rd_retN ?_
  | refine L2.rd_break ?_
  | refine L2.rd_cont ?_
  | refine L2.rd_ifS ?_
  | refine L2.rd_augS ?_
  | refine L2.rd_for ?_
  | refine L2.rd_gnil ?_
  | refine L2.rd_gcons ?_
  | refine L2.rd_gsub ?_
  | refine L2.rd_iItems ?_
  | refine L2.rd_updT ?_
  | refine L2.rd_vals ?_
  | refine L2.rd_dict1 ?_
  | refine L2.rd_dnewT ?_
  | refine L2.rd_dget2 ?_
  | refine L2.rd_ipI ?_
  | refine L2.rd_c ?_
  | refine L2.rd_op ?_
  | refine L2.rd_un ?_
  | refine L2.rd_rI0 ?_
  | refine L2.rd_rU ?_
  | refine L2.rd_addI ?_
  | refine L2.rd_sl ?_
  | refine L2.rd_nopart ?_
  | refine L2.rd_part ?_
  | refine L2.rd_partN ?_
  | refine L2.rd_pnN ?_
  | refine L2.rd_pnI ?_
  | refine L2.rd_andV ?_
  | refine L2.rd_orV ?_
  | refine L2.rd_notV ?_
  | refine L2.rd_ifE ?_
  | refine L2.rd_chain ?_
  | refine L2.rd_test ?_
  | refine L2.rd_tB ?_
  | refine L2.rd_and ?_
  | refine L2.rd_or ?_
  | refine L2.rd_not ?_
  | refine L2.rd_yes ?_
  | refine L2.rd_bl ?_
  | refine L2.rd_int1 ?_
  | refine L2.rd_l1 ?_
  | refine L2.rd_l2 ?_
  | refine L2.rd_bl2 ?_
  | refine L2.rd_nil ?_
  | refine L2.rd_cons ?_
  | refine L2.rd_tup ?_
  | refine L2.rd_lst ?_
  | refine L2.rd_call ?_
  | refine L2.rd_cb ?_
  | refine L2.rd_comp ?_
  | refine L2.rd_iListQ ?_
  | refine L2.rd_iTupQ ?_
  | refine L2.rd_iRng1 ?_
  | refine L2.rd_iRng2 ?_
  | refine L2.rd_fld ?_
  | refine L2.iteT ?_
  | refine L2.iteF ?_
  | refine L2.iteNT ?_
  | refine L2.iteNF ?_
  | refine L2.rd_bm ?_
  | refine L2.rd_iEnum ?_
  | refine L2.rd_rng ?_
  | refine L2.rd_make ?_
  | refine L2.rd_sfld ?_
  | refine L2.rd_dput ?_
  | refine L2.rd_bm0 ?_
  | refine L2.rd_mkE ?_
  | refine L2.rd_raise ?_
  | refine L2.rd_setE ?_))
local macro_rules | `(tactic| walk_at "st") => `(tactic| first
  | walk_at "rd"
  | ((with_reducible refine L2.rd_nx (b := ?b) ?t ?_); (case t => assumption))
  | ((with_reducible refine L2.rd_var (v := ?v) ?e ?_); (case e => rfl))
  | ((with_reducible refine L2.rd_gname (σ' := ?s) ?e ?_); (case e => first | (simp only [List.set_cons_zero, List.set_cons_succ]; rfl) | rfl))
  | ((with_reducible refine L2.rd_rI ?c ?_); (case c => walk_at "cnd"))
  | ((with_reducible refine L2.rd_mulI ?c ?_); (case c => walk_at "cnd"))
  | ((with_reducible refine L2.rd_ixL (xs := ?xs) (v := ?v) ?a ?b ?_); (case a => walk_at "sq"); (case b => first | rfl | assumption))
  | ((with_reducible refine L2.rd_ixT (xs := ?xs) (v := ?v) ?a ?b ?_); (case a => walk_at "sq"); (case b => first | rfl | assumption))
  | (with_reducible refine L2.rd_abs ?_)
  | (with_reducible refine L2.rd_max ?_)
  | (with_reducible refine L2.rd_min ?_)
  | (with_reducible refine L2.rd_intI ?_)
  | (with_reducible refine L2.rd_intB ?_)
  | ((with_reducible refine L2.rd_lenL (xs := ?xs) ?a ?_); (case a => walk_at "sq"))
  | ((with_reducible refine L2.rd_lenT (xs := ?xs) ?a ?_); (case a => walk_at "sq"))
  | (with_reducible refine L2.rd_eqI ?_)
  | (with_reducible refine L2.rd_neI ?_)
  | ((with_reducible refine L2.rd_eqF ?a ?b ?_); (case a => rfl); (case b => rfl))
  | ((with_reducible refine L2.rd_neF ?a ?b ?_); (case a => rfl); (case b => rfl))
  | ((with_reducible refine L2.rd_is (b := ?b) ?e ?_); (case e => rfl))
  | ((with_reducible refine L2.rd_isNot (b := ?b) ?e ?_); (case e => rfl))
  | ((with_reducible refine L2.rd_size ?c ?_); (case c => walk_at "sz")))
local macro_rules | `(tactic| walk_at "go") => `(tactic| first
  | (with_reducible refine L2.rd_seqH (fun _ _ => ?_))
  | walk_at "st")
local macro_rules | `(tactic| walk_at "gs") => `(tactic| first
  | walk_at "go"
  | ((with_reducible refine L2.iteGF ?e ?_); (case e => rfl))
  | ((with_reducible refine L2.iteGT ?e ?_); (case e => rfl)))
namespace My
open PySem L2
def top (i : Nat) : Stmt := PySem.Challenge.pw_stintwise_k24_runs_counted_and_told.main.body.getD i (.Pass ⟨0, 0, 0, 0⟩)
abbrev s__law_open : Stmt := top 26
abbrev s__law_draw : Stmt := top 27
abbrev s_is_whole : Stmt := top 7
abbrev s_is_amount : Stmt := top 8
abbrev s_is_span : Stmt := top 21
abbrev s_is_piece : Stmt := top 22
abbrev s_are_pieces : Stmt := top 23
abbrev s_Machine_init : Stmt := inClass (top 24) 0
abbrev s__law_spec : Stmt := top 28
abbrev s__law_machine : Stmt := top 29
abbrev s__law_same : Stmt := top 33
abbrev s_may_be : Stmt := top 10
abbrev s_state_after : Stmt := top 11
abbrev s__law_state : Stmt := top 30
abbrev s_ways_one_on : Stmt := top 12
abbrev s_ways_after : Stmt := top 13
abbrev s_run_count : Stmt := top 15
abbrev s_TooMany_init : Stmt := inClass (top 5) 0
abbrev s_one_hour_on : Stmt := top 16
abbrev s_all_runs : Stmt := top 17
abbrev s__law_stints : Stmt := top 34
abbrev s__law_good : Stmt := top 35
abbrev s__law_all : Stmt := top 36
abbrev s__law_right : Stmt := top 37
abbrev s_law : Stmt := top 38
theorem sc__law_open : FnScope ["_law_script", "_law_place", "_law_cells", "_law_at", "_law_digits"] ["_law_script", "_law_place"] (defScope s__law_open) := ⟨rfl, rfl, rfl, by decide +kernel, rfl, by decide +kernel, by decide +kernel⟩
theorem sc__law_draw : FnScope ["_law_hand", "_law_many", "_law_got", "_law_cell", "_law_number"] ["_law_hand", "_law_many"] (defScope s__law_draw) := ⟨rfl, rfl, rfl, by decide +kernel, rfl, by decide +kernel, by decide +kernel⟩
theorem sc_is_whole : FnScope ["thing"] ["thing"] (defScope s_is_whole) := ⟨rfl, rfl, rfl, by decide +kernel, rfl, by decide +kernel, by decide +kernel⟩
theorem sc_is_amount : FnScope ["thing"] ["thing"] (defScope s_is_amount) := ⟨rfl, rfl, rfl, by decide +kernel, rfl, by decide +kernel, by decide +kernel⟩
theorem sc_is_span : FnScope ["thing"] ["thing"] (defScope s_is_span) := ⟨rfl, rfl, rfl, by decide +kernel, rfl, by decide +kernel, by decide +kernel⟩
theorem sc_is_piece : FnScope ["thing"] ["thing"] (defScope s_is_piece) := ⟨rfl, rfl, rfl, by decide +kernel, rfl, by decide +kernel, by decide +kernel⟩
theorem sc_are_pieces : FnScope ["thing"] ["thing"] (defScope s_are_pieces) := ⟨rfl, rfl, rfl, by decide +kernel, rfl, by decide +kernel, by decide +kernel⟩
theorem sc_Machine_init : FnScope ["self", "up", "down", "begin", "run", "rest", "least", "pieces", "spans", "costs", "at", "fits"] ["self", "up", "down", "begin", "run", "rest", "least", "pieces"] (defScope s_Machine_init) := ⟨rfl, rfl, rfl, by decide +kernel, rfl, by decide +kernel, by decide +kernel⟩
theorem sc__law_spec : FnScope ["_law_hand", "_law_by", "_law_longest", "_law_up", "_law_down", "_law_costs", "_law_least", "_law_rate", "_law_pieces", "_law_k"] ["_law_hand", "_law_by", "_law_longest"] (defScope s__law_spec) := ⟨rfl, rfl, rfl, by decide +kernel, rfl, by decide +kernel, by decide +kernel⟩
theorem sc__law_machine : FnScope ["_law_spec_here"] ["_law_spec_here"] (defScope s__law_machine) := ⟨rfl, rfl, rfl, by decide +kernel, rfl, by decide +kernel, by decide +kernel⟩
theorem sc__law_same : FnScope ["_law_one", "_law_due"] ["_law_one", "_law_due"] (defScope s__law_same) := ⟨rfl, rfl, rfl, by decide +kernel, rfl, by decide +kernel, by decide +kernel⟩
theorem sc_may_be : FnScope ["machine", "state", "on"] ["machine", "state", "on"] (defScope s_may_be) := ⟨rfl, rfl, rfl, by decide +kernel, rfl, by decide +kernel, by decide +kernel⟩
theorem sc_state_after : FnScope ["machine", "state", "on"] ["machine", "state", "on"] (defScope s_state_after) := ⟨rfl, rfl, rfl, by decide +kernel, rfl, by decide +kernel, by decide +kernel⟩
theorem sc__law_state : FnScope ["_law_hand", "_law_spec_here"] ["_law_hand", "_law_spec_here"] (defScope s__law_state) := ⟨rfl, rfl, rfl, by decide +kernel, rfl, by decide +kernel, by decide +kernel⟩
theorem sc_ways_one_on : FnScope ["machine", "ways", "later", "state", "many", "on", "behind"] ["machine", "ways"] (defScope s_ways_one_on) := ⟨rfl, rfl, rfl, by decide +kernel, rfl, by decide +kernel, by decide +kernel⟩
theorem sc_ways_after : FnScope ["machine", "state", "hours", "ways", "hour"] ["machine", "state", "hours"] (defScope s_ways_after) := ⟨rfl, rfl, rfl, by decide +kernel, rfl, by decide +kernel, by decide +kernel⟩
theorem sc_run_count : FnScope ["machine", "state", "hours"] ["machine", "state", "hours"] (defScope s_run_count) := ⟨rfl, rfl, rfl, by decide +kernel, rfl, by decide +kernel, by decide +kernel⟩
theorem sc_TooMany_init : FnScope ["self", "limit"] ["self", "limit"] (defScope s_TooMany_init) := ⟨rfl, rfl, rfl, by decide +kernel, rfl, by decide +kernel, by decide +kernel⟩
theorem sc_one_hour_on : FnScope ["machine", "found", "longer", "run", "state", "on"] ["machine", "found"] (defScope s_one_hour_on) := ⟨rfl, rfl, rfl, by decide +kernel, rfl, by decide +kernel, by decide +kernel⟩
theorem sc_all_runs : FnScope ["machine", "state", "hours", "most", "found", "hour"] ["machine", "state", "hours", "most"] (defScope s_all_runs) := ⟨rfl, rfl, rfl, by decide +kernel, rfl, by decide +kernel, by decide +kernel⟩
theorem sc__law_stints : FnScope ["_law_run", "_law_lengths", "_law_k"] ["_law_run"] (defScope s__law_stints) := ⟨rfl, rfl, rfl, by decide +kernel, rfl, by decide +kernel, by decide +kernel⟩
theorem sc__law_good : FnScope ["_law_spec_here", "_law_state_here", "_law_run", "_law_lengths", "_law_on", "_law_k", "_law_wanted"] ["_law_spec_here", "_law_state_here", "_law_run"] (defScope s__law_good) := ⟨rfl, rfl, rfl, by decide +kernel, rfl, by decide +kernel, by decide +kernel⟩
theorem sc__law_all : FnScope ["_law_spec_here", "_law_state_here", "_law_hours", "_law_rows", "_law_hour"] ["_law_spec_here", "_law_state_here", "_law_hours"] (defScope s__law_all) := ⟨rfl, rfl, rfl, by decide +kernel, rfl, by decide +kernel, by decide +kernel⟩
theorem sc__law_right : FnScope ["_law_machine_here", "_law_spec_here", "_law_state_here", "_law_hours", "_law_due", "_law_found", "_law_run"] ["_law_machine_here", "_law_spec_here", "_law_state_here", "_law_hours"] (defScope s__law_right) := ⟨rfl, rfl, rfl, by decide +kernel, rfl, by decide +kernel, by decide +kernel⟩
theorem sc_law : FnScope ["_law_script", "_law_hand", "_law_longest", "_law_k", "_law_specs", "_law_machines", "_law_place", "_law_state_here"] ["_law_script"] (defScope s_law) := ⟨rfl, rfl, rfl, by decide +kernel, rfl, by decide +kernel, by decide +kernel⟩
theorem ar1 : ∀ us : List Value, us.length = 1 → ∃ a0, us = [a0]
  | [a0], _ => ⟨a0, rfl⟩
theorem ar2 : ∀ us : List Value, us.length = 2 → ∃ a0 a1, us = [a0, a1]
  | [a0, a1], _ => ⟨a0, a1, rfl⟩
theorem ar3 : ∀ us : List Value, us.length = 3 → ∃ a0 a1 a2, us = [a0, a1, a2]
  | [a0, a1, a2], _ => ⟨a0, a1, a2, rfl⟩
theorem ar4 : ∀ us : List Value, us.length = 4 → ∃ a0 a1 a2 a3, us = [a0, a1, a2, a3]
  | [a0, a1, a2, a3], _ => ⟨a0, a1, a2, a3, rfl⟩
theorem ar8 : ∀ us : List Value, us.length = 8 → ∃ a0 a1 a2 a3 a4 a5 a6 a7, us = [a0, a1, a2, a3, a4, a5, a6, a7]
  | [a0, a1, a2, a3, a4, a5, a6, a7], _ => ⟨a0, a1, a2, a3, a4, a5, a6, a7, rfl⟩
set_option genInjectivity false in
set_option genSizeOf false in
structure Adr where
  f__law_open : Addr
  d__law_open : FuncData
  f__law_draw : Addr
  d__law_draw : FuncData
  f_is_whole : Addr
  d_is_whole : FuncData
  f_is_amount : Addr
  d_is_amount : FuncData
  f_is_span : Addr
  d_is_span : FuncData
  f_is_piece : Addr
  d_is_piece : FuncData
  f_are_pieces : Addr
  d_are_pieces : FuncData
  f_Machine_init : Addr
  d_Machine_init : FuncData
  f__law_spec : Addr
  d__law_spec : FuncData
  f__law_machine : Addr
  d__law_machine : FuncData
  f__law_same : Addr
  d__law_same : FuncData
  f_may_be : Addr
  d_may_be : FuncData
  f_state_after : Addr
  d_state_after : FuncData
  f__law_state : Addr
  d__law_state : FuncData
  f_ways_one_on : Addr
  d_ways_one_on : FuncData
  f_ways_after : Addr
  d_ways_after : FuncData
  f_run_count : Addr
  d_run_count : FuncData
  f_TooMany_init : Addr
  d_TooMany_init : FuncData
  f_one_hour_on : Addr
  d_one_hour_on : FuncData
  f_all_runs : Addr
  d_all_runs : FuncData
  f__law_stints : Addr
  d__law_stints : FuncData
  f__law_good : Addr
  d__law_good : FuncData
  f__law_all : Addr
  d__law_all : FuncData
  f__law_right : Addr
  d__law_right : FuncData
  f_law : Addr
  d_law : FuncData
  c_Machine : Addr
  c_TooMany : Addr
structure Txt (K : PySem.W.Frag) (mg : Str → Option Value) (a : Adr) : Prop where
  F__law_open : Fun K "_law_open" "_law_open" s__law_open a.f__law_open a.d__law_open
  b__law_open : Binds K a.d__law_open ["_law_script", "_law_place"] []
  g__law_open : mg "_law_open" = some (.ref a.f__law_open)
  F__law_draw : Fun K "_law_draw" "_law_draw" s__law_draw a.f__law_draw a.d__law_draw
  b__law_draw : Binds K a.d__law_draw ["_law_hand", "_law_many"] []
  g__law_draw : mg "_law_draw" = some (.ref a.f__law_draw)
  F_is_whole : Fun K "is_whole" "is_whole" s_is_whole a.f_is_whole a.d_is_whole
  b_is_whole : Binds K a.d_is_whole ["thing"] []
  g_is_whole : mg "is_whole" = some (.ref a.f_is_whole)
  F_is_amount : Fun K "is_amount" "is_amount" s_is_amount a.f_is_amount a.d_is_amount
  b_is_amount : Binds K a.d_is_amount ["thing"] []
  g_is_amount : mg "is_amount" = some (.ref a.f_is_amount)
  F_is_span : Fun K "is_span" "is_span" s_is_span a.f_is_span a.d_is_span
  b_is_span : Binds K a.d_is_span ["thing"] []
  g_is_span : mg "is_span" = some (.ref a.f_is_span)
  F_is_piece : Fun K "is_piece" "is_piece" s_is_piece a.f_is_piece a.d_is_piece
  b_is_piece : Binds K a.d_is_piece ["thing"] []
  g_is_piece : mg "is_piece" = some (.ref a.f_is_piece)
  F_are_pieces : Fun K "are_pieces" "are_pieces" s_are_pieces a.f_are_pieces a.d_are_pieces
  b_are_pieces : Binds K a.d_are_pieces ["thing"] []
  g_are_pieces : mg "are_pieces" = some (.ref a.f_are_pieces)
  F_Machine_init : Fun K "__init__" "Machine.__init__" s_Machine_init a.f_Machine_init a.d_Machine_init
  b_Machine_init : Binds K a.d_Machine_init ["self", "up", "down", "begin", "run", "rest", "least", "pieces"] []
  F__law_spec : Fun K "_law_spec" "_law_spec" s__law_spec a.f__law_spec a.d__law_spec
  b__law_spec : Binds K a.d__law_spec ["_law_hand", "_law_by", "_law_longest"] []
  g__law_spec : mg "_law_spec" = some (.ref a.f__law_spec)
  F__law_machine : Fun K "_law_machine" "_law_machine" s__law_machine a.f__law_machine a.d__law_machine
  b__law_machine : Binds K a.d__law_machine ["_law_spec_here"] []
  g__law_machine : mg "_law_machine" = some (.ref a.f__law_machine)
  F__law_same : Fun K "_law_same" "_law_same" s__law_same a.f__law_same a.d__law_same
  b__law_same : Binds K a.d__law_same ["_law_one", "_law_due"] []
  g__law_same : mg "_law_same" = some (.ref a.f__law_same)
  F_may_be : Fun K "may_be" "may_be" s_may_be a.f_may_be a.d_may_be
  b_may_be : Binds K a.d_may_be ["machine", "state", "on"] []
  g_may_be : mg "may_be" = some (.ref a.f_may_be)
  F_state_after : Fun K "state_after" "state_after" s_state_after a.f_state_after a.d_state_after
  b_state_after : Binds K a.d_state_after ["machine", "state", "on"] []
  g_state_after : mg "state_after" = some (.ref a.f_state_after)
  F__law_state : Fun K "_law_state" "_law_state" s__law_state a.f__law_state a.d__law_state
  b__law_state : Binds K a.d__law_state ["_law_hand", "_law_spec_here"] []
  g__law_state : mg "_law_state" = some (.ref a.f__law_state)
  F_ways_one_on : Fun K "ways_one_on" "ways_one_on" s_ways_one_on a.f_ways_one_on a.d_ways_one_on
  b_ways_one_on : Binds K a.d_ways_one_on ["machine", "ways"] []
  g_ways_one_on : mg "ways_one_on" = some (.ref a.f_ways_one_on)
  F_ways_after : Fun K "ways_after" "ways_after" s_ways_after a.f_ways_after a.d_ways_after
  b_ways_after : Binds K a.d_ways_after ["machine", "state", "hours"] []
  g_ways_after : mg "ways_after" = some (.ref a.f_ways_after)
  F_run_count : Fun K "run_count" "run_count" s_run_count a.f_run_count a.d_run_count
  b_run_count : Binds K a.d_run_count ["machine", "state", "hours"] []
  g_run_count : mg "run_count" = some (.ref a.f_run_count)
  F_TooMany_init : Fun K "__init__" "TooMany.__init__" s_TooMany_init a.f_TooMany_init a.d_TooMany_init
  b_TooMany_init : Binds K a.d_TooMany_init ["self", "limit"] []
  F_one_hour_on : Fun K "one_hour_on" "one_hour_on" s_one_hour_on a.f_one_hour_on a.d_one_hour_on
  b_one_hour_on : Binds K a.d_one_hour_on ["machine", "found"] []
  g_one_hour_on : mg "one_hour_on" = some (.ref a.f_one_hour_on)
  F_all_runs : Fun K "all_runs" "all_runs" s_all_runs a.f_all_runs a.d_all_runs
  b_all_runs : Binds K a.d_all_runs ["machine", "state", "hours", "most"] []
  g_all_runs : mg "all_runs" = some (.ref a.f_all_runs)
  F__law_stints : Fun K "_law_stints" "_law_stints" s__law_stints a.f__law_stints a.d__law_stints
  b__law_stints : Binds K a.d__law_stints ["_law_run"] []
  g__law_stints : mg "_law_stints" = some (.ref a.f__law_stints)
  F__law_good : Fun K "_law_good" "_law_good" s__law_good a.f__law_good a.d__law_good
  b__law_good : Binds K a.d__law_good ["_law_spec_here", "_law_state_here", "_law_run"] []
  g__law_good : mg "_law_good" = some (.ref a.f__law_good)
  F__law_all : Fun K "_law_all" "_law_all" s__law_all a.f__law_all a.d__law_all
  b__law_all : Binds K a.d__law_all ["_law_spec_here", "_law_state_here", "_law_hours"] []
  g__law_all : mg "_law_all" = some (.ref a.f__law_all)
  F__law_right : Fun K "_law_right" "_law_right" s__law_right a.f__law_right a.d__law_right
  b__law_right : Binds K a.d__law_right ["_law_machine_here", "_law_spec_here", "_law_state_here", "_law_hours"] []
  g__law_right : mg "_law_right" = some (.ref a.f__law_right)
  F_law : Fun K "law" "law" s_law a.f_law a.d_law
  b_law : Binds K a.d_law ["_law_script"] []
  g_law : mg "law" = some (.ref a.f_law)
  C_Machine : Cls K a.c_Machine
  g_Machine : mg "Machine" = some (.ref a.c_Machine)
  M_Machine : Mk K a.c_Machine a.f_Machine_init
  n_Machine_up : NoAttr K a.c_Machine "up"
  n_Machine_down : NoAttr K a.c_Machine "down"
  n_Machine_begin : NoAttr K a.c_Machine "begin"
  n_Machine_run : NoAttr K a.c_Machine "run"
  n_Machine_rest : NoAttr K a.c_Machine "rest"
  n_Machine_least : NoAttr K a.c_Machine "least"
  n_Machine_pieces : NoAttr K a.c_Machine "pieces"
  g_TooMany : mg "TooMany" = some (.ref a.c_TooMany)
  Z_TooMany : ErrK K a.c_TooMany
  fi_TooMany : PySem.W.findIn K (.ref a.c_TooMany) "__init__" = some (some (.ref a.f_TooMany_init))
  ff_TooMany : PySem.W.isFn K (.ref a.f_TooMany_init) = true
  ni_TooMany_limit : ErrAt K a.c_TooMany "limit"
  z_abs : mg "abs" = none
  z_all : mg "all" = none
  z_bool : mg "bool" = none
  z_enumerate : mg "enumerate" = none
  z_int : mg "int" = none
  z_isinstance : mg "isinstance" = none
  z_len : mg "len" = none
  z_list : mg "list" = none
  z_max : mg "max" = none
  z_min : mg "min" = none
  z_range : mg "range" = none
  z_sorted : mg "sorted" = none
  z_str : mg "str" = none
  z_sum : mg "sum" = none
  z_tuple : mg "tuple" = none
  v_LONGEST_STINT : ∃ t, mg "LONGEST_STINT" = some (.int 12 t)
  v_MOST_PIECES : ∃ t, mg "MOST_PIECES" = some (.int 4 t)
end My
namespace My
open PySem L2
inductive Th (H : Hp) : V → String → Prop where
  | non : Th H .non "NoneType"
  | bl (b : Bool) : Th H (.bl b) "bool"
  | int (i : Int) : Th H (.int i) "int"
  | str (x : Str) : Th H (.str x) "str"
  | lst {p : Addr} {xs : List V} (e : H p = some (.lst xs)) : Th H (.ref p) "list"
  | tup {p : Addr} {xs : List V} (e : H p = some (.tup xs)) : Th H (.ref p) "tuple"
  | dK {p : Addr} {kvs : List (Key × V)} (e : H p = some (.dK kvs)) : Th H (.ref p) "dict"
theorem Th.ty {K : PySem.W.Frag} {H : Hp} {v : V} {T : String} (h : Th H v T) : TyOf K H v (.type T) := by
  cases h with
  | non => exact .non
  | bl b => exact .bl b
  | int i => exact .int i
  | str x => exact .str x
  | lst e => exact .lst e
  | tup e => exact .tup e
  | dK e => exact .dK e
theorem Th.keep {H H' : Hp} {p : Addr} {v : V} {T : String} (h : Th H v T) (n : ∀ b, v = .ref b → b ≠ p) (k : Keep p H H') : Th H' v T := by
  cases h with
  | non => exact .non
  | bl b => exact .bl b
  | int i => exact .int i
  | str x => exact .str x
  | lst e => exact .lst (k _ _ e (n _ rfl))
  | tup e => exact .tup (k _ _ e (n _ rfl))
  | dK e => exact .dK (k _ _ e (n _ rfl))
theorem isi_int {K : PySem.W.Frag} {H : Hp} {v : V} {T : String} (h : Th H v T) : IsI K H v (.ty "int") (T == "int" || T == "bool") := by
  refine ⟨_, h.ty, .inl ⟨_, rfl, ?_⟩⟩
  cases h <;> rfl
theorem isi_bool {K : PySem.W.Frag} {H : Hp} {v : V} {T : String} (h : Th H v T) : IsI K H v (.ty "bool") (T == "bool") := by
  refine ⟨_, h.ty, .inl ⟨_, rfl, ?_⟩⟩
  cases h <;> rfl
def amt : V → Bool
  | .int i => decide (0 ≤ i) && decide (i ≤ 10 ^ 12)
  | _ => false
structure HandAt (H : Hp) (p : Addr) : Prop where
  ex : ∃ (d c : Int) (q : Addr) (ms : List Int), H p = some (.lst [.int d, .int c, .ref q]) ∧ H q = some (.lst (ms.map V.int)) ∧ ms ≠ [] ∧ q ≠ p
def SameQ (p : Addr) (H H' : Hp) : Prop := ∀ (d c : Int) (q : Addr), H p = some (.lst [.int d, .int c, .ref q]) → ∃ d' c' : Int, H' p = some (.lst [.int d', .int c', .ref q])
theorem SameQ.trans {p : Addr} {H H1 H2 : Hp} (a : SameQ p H H1) (b : SameQ p H1 H2) : SameQ p H H2 := fun d c q e => by
  obtain ⟨d', c', e'⟩ := a d c q e
  exact b d' c' q e'
theorem SameQ.of {p : Addr} {H H' : Hp} (s : ∀ o, H p = some o → H' p = some o) : SameQ p H H' := fun d c q e => ⟨d, c, s _ e⟩
theorem HandAt.of {p : Addr} {H H' : Hp} (h : HandAt H p) (k : Keep p H H') (s : SameQ p H H') : HandAt H' p := by
  obtain ⟨d, c, q, ms, hp, hq, hne, hqp⟩ := h.ex
  obtain ⟨d', c', e⟩ := s d c q hp
  exact ⟨⟨d', c', q, ms, e, k _ _ hq hqp, hne, hqp⟩⟩
theorem HandAt.same {H H' : Hp} {p : Addr} (h : HandAt H p) (s : Same H H') : HandAt H' p := by
  obtain ⟨d, c, q, ms, hp, hq, hne, hqp⟩ := h.ex
  exact ⟨⟨d, c, q, ms, s _ _ hp, s _ _ hq, hne, hqp⟩⟩
theorem sqKeep {K : PySem.W.Frag} {H H1 H' : Hp} {a p : Addr} {xs : List V} (h : SqL K H a xs) (np : H p = none) (s : Same H H1) (k : Keep p H1 H') : SqL K H' a xs := by
  rcases h with (h | ⟨o, h⟩) | h
  · exact .inl (.inl (k _ _ (s _ _ h) (ne_none np h)))
  · exact .inl (.inr ⟨o, k _ _ (s _ _ h) (ne_none np h)⟩)
  · exact .inr h
theorem isi_list {K : PySem.W.Frag} {H : Hp} {v : V} {T : String} (h : Th H v T) : IsI K H v (.ty "list") (T == "list") := by
  refine ⟨_, h.ty, .inl ⟨_, rfl, ?_⟩⟩
  cases h <;> rfl
theorem isi_str {K : PySem.W.Frag} {H : Hp} {v : V} {T : String} (h : Th H v T) : IsI K H v (.ty "str") (T == "str") := by
  refine ⟨_, h.ty, .inl ⟨_, rfl, ?_⟩⟩
  cases h <;> rfl
theorem isi_tuple {K : PySem.W.Frag} {H : Hp} {v : V} {T : String} (h : Th H v T) : IsI K H v (.ty "tuple") (T == "tuple") := by
  refine ⟨_, h.ty, .inl ⟨_, rfl, ?_⟩⟩
  cases h <;> rfl
theorem mod_at {ms : List Int} {c : Int} (h : ms ≠ []) : ∃ m, m ∈ ms ∧ atI (ms.map V.int) (c % ((ms.map V.int).length : Int)) = some (.int m) := by
  have hl : 0 < ms.length := List.length_pos_iff.mpr h
  have e1 := Int.emod_nonneg c (b := ((ms.map V.int).length : Int)) (by rw [List.length_map]; omega)
  have e2 := Int.emod_lt_of_pos c (b := ((ms.map V.int).length : Int)) (by rw [List.length_map]; omega)
  obtain ⟨j, hj⟩ : ∃ j : Nat, c % ((ms.map V.int).length : Int) = (j : Int) := ⟨_, (Int.toNat_of_nonneg e1).symm⟩
  rw [hj] at e2 ⊢
  rw [List.length_map] at e2
  have hjl : j < ms.length := by omega
  exact ⟨ms[j], List.getElem_mem hjl, atI_nat (by rw [List.getElem?_map, List.getElem?_eq_getElem hjl]; rfl)⟩
theorem cut_map (ms : List Int) (lo hi : Option Int) : ∃ r : List Int, cutV (ms.map V.int) lo hi = r.map V.int ∧ r.length = (cutV (ms.map V.int) lo hi).length := by
  unfold cutV
  rw [← List.map_drop, ← List.map_take]
  exact ⟨_, rfl, by simp⟩
theorem rot {ms : List Int} {i : Int} (h0 : 0 ≤ i) (h1 : i < ms.length) : ∃ ms' : List Int, cutV (ms.map V.int) (some i) none ++ cutV (ms.map V.int) none (some i) = ms'.map V.int ∧ ms' ≠ [] ∧ ms'.length ≤ ms.length + ms.length := by
  obtain ⟨r1, e1, l1⟩ := cut_map ms (some i) none
  obtain ⟨r2, e2, l2⟩ := cut_map ms none (some i)
  have b1 := cutV_length (ms.map V.int) (some i) none
  have b2 := cutV_length (ms.map V.int) none (some i)
  rw [List.length_map] at b1 b2
  refine ⟨r1 ++ r2, by rw [e1, e2, List.map_append], fun z => ?_, by rw [List.length_append]; omega⟩
  have z1 : r1 = [] := (List.append_eq_nil_iff.mp z).1
  obtain ⟨j, rfl⟩ := Int.eq_ofNat_of_zero_le h0
  have hj : j < ms.length := by omega
  rw [z1, List.length_nil] at l1
  have l3 : (cutV (ms.map V.int) (some (j : Int)) none).length = ms.length - j := by
    unfold cutV
    rw [HT.sIx_nat, HT.sIx_none, List.length_take, List.length_drop, List.length_map, Nat.min_eq_left (Nat.le_of_lt hj)]
    omega
  rw [l3] at l1
  omega
def sp__law_open (K : PySem.W.Frag) : Sp := fun vs H Q _ => ∃ (a : Addr) (ns : List Int) (i : Int), vs = [.ref a, .int i] ∧ SqL K H a (ns.map V.int) ∧ ns.length ≤ 63 ∧ 0 ≤ i ∧
  ∀ p H', Same H H' → H p = none → HandAt H' p → Q (.ref p) H'
set_option maxHeartbeats 40000000 in
theorem ok__law_open {P : Program} {w : World} {K : PySem.W.Frag} {mg : Str → Option Value} {base : Heap} {a : Adr} (tx : Txt K mg a) : FnOk P w K mg base CX0 1 a.f__law_open a.d__law_open ["_law_script", "_law_place"] (sp__law_open K) := by
  refine tx.F__law_open.ok sc__law_open (fun vs H Q E h => ?_) (fun cdv A outer s H vs Q E hr h => ?_)
  · obtain ⟨a, ns, i, rfl, _⟩ := h
    rfl
  · obtain ⟨a, ns, i, rfl , hS, hl, h0, k⟩ := h
    have hu := hu9 hr
    refine L2.Q.root (L2.Q.pss_cons (L2.Q.ps_setC (k := 1) (idx := []) (N := ["_law_cell"]) (i := 2) sc__law_open.nd rfl (Or.inl rfl) (blk_sc (sc := defScope s__law_open) (NX := ["_law_script", "_law_place", "_law_cells", "_law_at", "_law_digits"]) rfl rfl rfl (by decide +kernel)) rfl (L2.Q.pi_listK (K' := K) (L2.Q.pe_slice (rs := rSlG K) sl_G (L2.Q.pv 0) L2.Q.po_none (L2.Q.po_some L2.Q.pe_int))) (fun _ _ _ _ => (L2.Q.pg_name (i := 0) (show (["_law_cell"] : List Str).Nodup by decide +kernel) rfl (Or.inl rfl))) (own_name (by decide)) (fun _ _ _ _ => L2.Q.pts_nil) (fun _ _ _ _ => (L2.Q.pe_callBN call_absG (by rfl) tx.z_abs bt_abs (L2.Q.pa_c (L2.Q.pv 0) L2.Q.pa_nil))))
      (L2.Q.pss_cons (L2.Q.ps_if (L2.Q.pt_cmpR (r := rEqG K) (op_eqG hu) (L2.Q.pv 2) (L2.Q.pe_lst L2.Q.pa_nil) (nomark _)) (L2.Q.pss_one (L2.Q.ps_set (i := 2) sc__law_open.nd rfl (Or.inl rfl) (L2.Q.lst1 L2.Q.pe_int))) L2.Q.pss_nil)
      (L2.Q.pss_cons (L2.Q.ps_set (i := 3) sc__law_open.nd rfl (Or.inl rfl) (L2.Q.pe_op op_mod (L2.Q.pv 1) (L2.Q.pe_callBN (rc := rLen K) call_lenG (by rfl) tx.z_len bt_len (L2.Q.pa_c (L2.Q.pv 2) L2.Q.pa_nil))))
      (L2.Q.pss_cons (L2.Q.ps_set (i := 4) sc__law_open.nd rfl (Or.inl rfl) L2.Q.pe_int)
      (L2.Q.pss_cons (L2.Q.ps_if (L2.Q.pw_pt (L2.Q.pw_and (L2.Q.pt_cmpR op_ge (L2.Q.pe_ixK (K' := K) (L2.Q.pv 2) (L2.Q.pv 3) (fun _ _ => rfl)) (L2.Q.pe_op op_pow L2.Q.pe_int L2.Q.pe_int) (nomark _)) (L2.Q.pw_and1 (L2.Q.pt_cmpR op_lt (L2.Q.pv 1) (L2.Q.pe_callBN (rc := rLen K) call_lenG (by rfl) tx.z_len bt_len (L2.Q.pa_c (L2.Q.pv 2) L2.Q.pa_nil)) (nomark _))))) (L2.Q.pss_one (L2.Q.ps_set (i := 4) sc__law_open.nd rfl (Or.inl rfl) (L2.Q.pe_ixK (K' := K) (L2.Q.pv 2) (L2.Q.pv 3) (fun _ _ => rfl)))) L2.Q.pss_nil)
      (L2.Q.pss_one (L2.Q.ps_ret (L2.Q.lst3 (L2.Q.pv 4) (L2.Q.pe_op op_addG L2.Q.pe_int (L2.Q.pe_op op_mulG L2.Q.pe_int (L2.Q.pv 1))) (L2.Q.pe_op op_addG (L2.Q.pe_slice (rs := rSlG K) sl_G (L2.Q.pv 2) (L2.Q.po_some (L2.Q.pv 3)) L2.Q.po_none) (L2.Q.pe_slice (rs := rSlG K) sl_G (L2.Q.pv 2) L2.Q.po_none (L2.Q.po_some (L2.Q.pv 3)))))))))))) ?_
    refine rd_start (σ := [some (.ref a), some (.int i), none, none, none]) rfl ?_
    refine rd_seq ?_
    repeat walk_at "go"
    refine rd_slL hS ?_
    intro p1 n1
    repeat walk_at "go"
    rw [show cutV (ns.map V.int) none (some 63) = ns.map V.int from cut_head (n := 63) (by rw [List.length_map]; exact hl)]
    refine rd_li (SqL.of upd_same) ?_
    refine comp_pure (fun v => match v with | .int i => .int (if i < 0 then -i else i) | v => v) (SqL.of upd_same) (sz_le (by rw [List.length_map]; omega)) (fun x N N' hx hN => ?_) ?_
    · obtain ⟨y, hy, rfl⟩ := List.mem_map.mp hx
      repeat walk_at "go"
      exact hN
    · intro p2 n2
      repeat walk_at "st"
      have s2 : Same H (upd (upd H p1 (.lst (ns.map V.int))) p2 (.lst ((ns.map V.int).map fun v => match v with | .int i => .int (if i < 0 then -i else i) | v => v))) := (Same.new n1).trans (Same.new n2)
      rw [List.map_map] at s2 ⊢
      generalize hm : ns.map ((fun v => match v with | V.int i => V.int (if i < 0 then -i else i) | v => v) ∘ V.int) = xs at s2 ⊢
      obtain ⟨ms, rfl⟩ : ∃ ms : List Int, xs = ms.map V.int := ⟨ns.map fun i => if i < 0 then -i else i, by rw [← hm, List.map_map]; rfl⟩
      have lm : ms.length ≤ 63 := by
        have := congrArg List.length hm
        simp only [List.length_map] at this
        omega
      refine rd_seqJ (fun σ' H' => ∃ (c : Addr) (ms : List Int), σ' = [some (.ref a), some (.int i), some (.ref c), none, none] ∧ Same H H' ∧ H' c = some (.lst (ms.map V.int)) ∧ ms ≠ [] ∧ ms.length ≤ 63) (fun N hN => ?_) ?_
      · repeat walk_at "go"
        intro p3 n3
        repeat walk_at "go"
        refine ⟨_, eqN_nil (SqL.of (by walk_at "hp")) (SqL.of upd_same), ?_⟩
        repeat walk_at "go"
        refine rd_bool (fun h => ?_) (fun h => ?_)
        · repeat walk_at "go"
          intro p4 n4
          repeat walk_at "go"
          exact hN _ _ ⟨p4, [0], rfl, (s2.trans (Same.new n3)).trans (Same.new n4), upd_same, by simp, by simp⟩
        · repeat walk_at "go"
          refine hN _ _ ⟨p2, ms, rfl, s2.trans (Same.new n3), by walk_at "hp", ?_, lm⟩
          rintro rfl
          simp at h
      · rintro σ' H' ⟨c, ms, rfl, sH, hc, hne, lm⟩
        have hl : 0 < ms.length := List.length_pos_iff.mpr hne
        obtain ⟨m, _, hm⟩ := mod_at (c := i) hne
        have e1 := Int.emod_nonneg i (b := ((ms.map V.int).length : Int)) (by rw [List.length_map]; omega)
        have e2 := Int.emod_lt_of_pos i (b := ((ms.map V.int).length : Int)) (by rw [List.length_map]; omega)
        obtain ⟨ms', em, en, el⟩ := rot (ms := ms) e1 (by rw [List.length_map] at e2 ⊢; exact e2)
        repeat walk_at "go"
        refine rd_dec (fun h => ?_) (fun h => ?_)
        · repeat walk_at "go"
          refine rd_dec (fun h => ?_) (fun h => ?_)
          all_goals
            repeat walk_at "go"
            refine rd_slL (SqL.of hc) ?_
            intro p5 n5
            repeat walk_at "go"
            refine rd_slL (SqL.of (by walk_at "hp")) ?_
            intro p6 n6
            repeat walk_at "go"
            refine rd_addL (by walk_at "hp") (by walk_at "hp") (sz_le (by have := cutV_length (ms.map V.int) (some (i % ((ms.map V.int).length : Int))) none; have := cutV_length (ms.map V.int) none (some (i % ((ms.map V.int).length : Int))); simp only [List.length_map] at *; omega)) ?_
            intro p7 n7
            repeat walk_at "go"
            rw [em]
            repeat walk_at "go"
            intro p8 n8
            repeat walk_at "go"
            have s8 := ((Same.new (o := .lst (cutV (ms.map V.int) (some (i % ((ms.map V.int).length : Int))) none)) n5).trans (Same.new (o := .lst (cutV (ms.map V.int) none (some (i % ((ms.map V.int).length : Int))))) n6)).trans (Same.new (o := .lst (ms'.map V.int)) n7)
            refine k _ _ (sH.trans (s8.trans (Same.new n8))) ((sH.trans s8).free n8) ⟨⟨_, _, _, ms', upd_same, by walk_at "hp", en, ?_⟩⟩
            exact ne_none n8 upd_same
        · repeat walk_at "go"
          refine rd_slL (SqL.of hc) ?_
          intro p5 n5
          repeat walk_at "go"
          refine rd_slL (SqL.of (by walk_at "hp")) ?_
          intro p6 n6
          repeat walk_at "go"
          refine rd_addL (by walk_at "hp") (by walk_at "hp") (sz_le (by have := cutV_length (ms.map V.int) (some (i % ((ms.map V.int).length : Int))) none; have := cutV_length (ms.map V.int) none (some (i % ((ms.map V.int).length : Int))); simp only [List.length_map] at *; omega)) ?_
          intro p7 n7
          repeat walk_at "go"
          rw [em]
          repeat walk_at "go"
          intro p8 n8
          repeat walk_at "go"
          have s8 := ((Same.new (o := .lst (cutV (ms.map V.int) (some (i % ((ms.map V.int).length : Int))) none)) n5).trans (Same.new (o := .lst (cutV (ms.map V.int) none (some (i % ((ms.map V.int).length : Int))))) n6)).trans (Same.new (o := .lst (ms'.map V.int)) n7)
          refine k _ _ (sH.trans (s8.trans (Same.new n8))) ((sH.trans s8).free n8) ⟨⟨_, _, _, ms', upd_same, by walk_at "hp", en, ?_⟩⟩
          exact ne_none n8 upd_same
def sp__law_draw (K : PySem.W.Frag) : Sp := fun vs H Q _ => ∃ (p : Addr) (n : Int), vs = [.ref p, .int n] ∧ HandAt H p ∧ 0 < n ∧ n < 1073741824 ∧
  ∀ (r : Int) H', 0 ≤ r → r < n → HandAt H' p → Keep p H H' → SameQ p H H' → Q (.int r) H'
set_option maxHeartbeats 40000000 in
theorem ok__law_draw {P : Program} {w : World} {K : PySem.W.Frag} {mg : Str → Option Value} {base : Heap} {a : Adr} (tx : Txt K mg a) : FnOk P w K mg base CX0 1 a.f__law_draw a.d__law_draw ["_law_hand", "_law_many"] (sp__law_draw K) := by
  refine tx.F__law_draw.ok sc__law_draw (fun vs H Q E h => ?_) (fun cdv A outer s H vs Q E hr h => ?_)
  · obtain ⟨p, n, rfl, _⟩ := h
    rfl
  · obtain ⟨p, n, rfl , hh, h0, h1, k⟩ := h
    have hu := hu9 hr
    refine L2.Q.root (L2.Q.pss_cons (L2.Q.ps_if (L2.Q.pt_cmpR op_gt (L2.Q.pe_ixK (K' := K) (L2.Q.pv 0) L2.Q.pe_int (fun _ _ => rfl)) L2.Q.pe_int (nomark _)) (L2.Q.pss_cons (L2.Q.ps_set (i := 2) sc__law_draw.nd rfl (Or.inl rfl) (L2.Q.pe_op op_mod (L2.Q.pe_ixK (K' := K) (L2.Q.pv 0) L2.Q.pe_int (fun _ _ => rfl)) (L2.Q.pv 1)))
      (L2.Q.pss_cons (L2.Q.ps_asg (L2.Q.pe_op op_fdiv (L2.Q.pe_ixK (K' := K) (L2.Q.pv 0) L2.Q.pe_int (fun _ _ => rfl)) (L2.Q.pv 1)) (L2.Q.pg_sub (L2.Q.pv 0) L2.Q.pe_int set_list))
      (L2.Q.pss_one (L2.Q.ps_ret (L2.Q.pv 2))))) L2.Q.pss_nil)
      (L2.Q.pss_cons (L2.Q.ps_augS (L2.Q.pv 0) L2.Q.pe_int get_ix L2.Q.pe_int ip_add set_list)
      (L2.Q.pss_cons (L2.Q.ps_set (i := 3) sc__law_draw.nd rfl (Or.inl rfl) (L2.Q.pe_op op_mod (L2.Q.pe_ixK (K' := K) (L2.Q.pe_ixK (K' := K) (L2.Q.pv 0) L2.Q.pe_int (fun _ _ => rfl)) (L2.Q.pe_op op_mod (L2.Q.pe_ixK (K' := K) (L2.Q.pv 0) L2.Q.pe_int (fun _ _ => rfl)) (L2.Q.pe_callBN (rc := rLen K) call_lenG (by rfl) tx.z_len bt_len (L2.Q.pa_c (L2.Q.pe_ixK (K' := K) (L2.Q.pv 0) L2.Q.pe_int (fun _ _ => rfl)) L2.Q.pa_nil))) (fun _ _ => rfl)) L2.Q.pe_int))
      (L2.Q.pss_cons (L2.Q.ps_set (i := 4) sc__law_draw.nd rfl (Or.inl rfl) (L2.Q.pe_op op_mod (L2.Q.pe_op op_addG (L2.Q.pe_op op_addG (L2.Q.pe_op op_mulG (L2.Q.pv 3) L2.Q.pe_int) (L2.Q.pe_op op_mulG (L2.Q.pe_ixK (K' := K) (L2.Q.pv 0) L2.Q.pe_int (fun _ _ => rfl)) L2.Q.pe_int)) L2.Q.pe_int) L2.Q.pe_int))
      (L2.Q.pss_cons (L2.Q.ps_set (i := 4) sc__law_draw.nd rfl (Or.inl rfl) (L2.Q.pe_op op_mod (L2.Q.pe_op op_addG (L2.Q.pe_op op_mulG (L2.Q.pv 4) (L2.Q.pv 4)) (L2.Q.pe_ixK (K' := K) (L2.Q.pv 0) L2.Q.pe_int (fun _ _ => rfl))) L2.Q.pe_int))
      (L2.Q.pss_cons (L2.Q.ps_set (i := 4) sc__law_draw.nd rfl (Or.inl rfl) (L2.Q.pe_op op_mod (L2.Q.pe_op op_addG (L2.Q.pe_op op_mulG (L2.Q.pv 4) L2.Q.pe_int) L2.Q.pe_int) L2.Q.pe_int))
      (L2.Q.pss_one (L2.Q.ps_ret (L2.Q.pe_op op_mod (L2.Q.pe_op op_fdiv (L2.Q.pe_op op_mod (L2.Q.pe_op op_mulG (L2.Q.pv 4) (L2.Q.pv 4)) L2.Q.pe_int) L2.Q.pe_int) (L2.Q.pv 1)))))))))) ?_
    obtain ⟨d, c, q, ms, hp, hq, hne, hqp⟩ := hh.ex
    refine rd_start (σ := [some (.ref p), some (.int n), none, none, none]) rfl ?_
    repeat walk_at "go"
    refine rd_dec (fun hd => ?_) (fun hd => ?_)
    · repeat walk_at "go"
      refine rd_setL hp rfl ?_
      repeat walk_at "go"
      refine k _ _ (Int.emod_nonneg _ (by omega)) (Int.emod_lt_of_pos _ h0) ⟨⟨_, c, q, ms, upd_same, by walk_at "hp", hne, hqp⟩⟩ Keep.upd (fun d0 c0 q0 e0 => by rw [hp] at e0; cases e0; exact ⟨_, _, upd_same⟩)
    · repeat walk_at "go"
      refine rd_gIx (SqL.of hp) (by decide) rfl ?_
      repeat walk_at "go"
      refine rd_setL hp rfl ?_
      obtain ⟨m, _, hm⟩ := mod_at (c := c + 1) hne
      have hlen : 0 < ((ms.map V.int).length : Int) := by rw [List.length_map]; have := List.length_pos_iff.mpr hne; omega
      repeat walk_at "go"
      have hq' : (upd H p (.lst [.int d, .int (c + 1), .ref q])) q = some (.lst (ms.map V.int)) := by walk_at "hp"
      repeat walk_at "go"
      exact k _ _ (Int.emod_nonneg _ (by omega)) (Int.emod_lt_of_pos _ h0) ⟨⟨d, c + 1, q, ms, upd_same, hq', hne, hqp⟩⟩ Keep.upd (fun d0 c0 q0 e0 => by rw [hp] at e0; cases e0; exact ⟨_, _, upd_same⟩)
structure MS where
  up : Int
  down : Int
  begin_ : Int
  run : Int
  rest : Int
  least : Int
  pieces : List (Int × Int)
def Am (i : Int) : Prop := 0 ≤ i ∧ i ≤ 1000000000000
structure PcGood (ps : List (Int × Int)) : Prop where
  len : ps.length ≤ 4
  pc : ∀ t ∈ ps, 1 ≤ t.1 ∧ Am t.1 ∧ Am t.2
  up : ∀ (j : Nat) t u, ps[j]? = some t → ps[j + 1]? = some u → t.2 ≤ u.2
structure MS.Good (m : MS) : Prop where
  up : 1 ≤ m.up ∧ m.up ≤ 12
  down : 1 ≤ m.down ∧ m.down ≤ 12
  begin_ : Am m.begin_
  run : Am m.run
  rest : Am m.rest
  least : Am m.least
  pieces : PcGood m.pieces
structure Tup2 (H : Hp) (qs : List Addr) (ps : List (Int × Int)) : Prop where
  len : qs.length = ps.length
  at_ : ∀ (j : Nat) q t, qs[j]? = some q → ps[j]? = some t → H q = some (.tup [.int t.1, .int t.2])
structure PcAt (H : Hp) (p : Addr) (ps : List (Int × Int)) : Prop where
  ex : ∃ qs, H p = some (.lst (qs.map V.ref)) ∧ Tup2 H qs ps
structure SpecAt (H : Hp) (s : Addr) (m : MS) : Prop where
  ex : ∃ pl, H s = some (.lst [.int m.up, .int m.down, .int m.begin_, .int m.run, .int m.rest, .int m.least, .ref pl]) ∧ PcAt H pl m.pieces
def mFs (m : MS) (pl : Addr) : List (Str × V) := [("up", .int m.up), ("down", .int m.down), ("begin", .int m.begin_), ("run", .int m.run), ("rest", .int m.rest), ("least", .int m.least), ("pieces", .ref pl)]
structure MachAt (C : Addr) (H : Hp) (a : Addr) (m : MS) : Prop where
  ex : ∃ dx pl, H a = some (.ins C dx (mFs m pl)) ∧ PcAt H pl m.pieces
theorem Tup2.at2 {H : Hp} {qs : List Addr} {ps : List (Int × Int)} (h : Tup2 H qs ps) {q : Addr} (hq : q ∈ qs) : ∃ t ∈ ps, H q = some (.tup [.int t.1, .int t.2]) := by
  obtain ⟨j, hj, rfl⟩ := List.getElem_of_mem hq
  have hj2 : j < ps.length := by rw [← h.len]; exact hj
  exact ⟨ps[j], List.getElem_mem hj2, h.at_ j _ _ (List.getElem?_eq_getElem hj) (List.getElem?_eq_getElem hj2)⟩
theorem Tup2.same {H H' : Hp} {qs : List Addr} {ps : List (Int × Int)} (h : Tup2 H qs ps) (s : Same H H') : Tup2 H' qs ps := ⟨h.len, fun j q t h1 h2 => s _ _ (h.at_ j q t h1 h2)⟩
theorem PcAt.same {H H' : Hp} {p : Addr} {ps : List (Int × Int)} (h : PcAt H p ps) (s : Same H H') : PcAt H' p ps := by
  obtain ⟨qs, h1, h2⟩ := h.ex
  exact ⟨qs, s _ _ h1, h2.same s⟩
theorem SpecAt.same {H H' : Hp} {p : Addr} {m : MS} (h : SpecAt H p m) (s : Same H H') : SpecAt H' p m := by
  obtain ⟨pl, h1, h2⟩ := h.ex
  exact ⟨pl, s _ _ h1, h2.same s⟩
theorem MachAt.same {C : Addr} {H H' : Hp} {p : Addr} {m : MS} (h : MachAt C H p m) (s : Same H H') : MachAt C H' p m := by
  obtain ⟨dx, pl, h1, h2⟩ := h.ex
  exact ⟨dx, pl, s _ _ h1, h2.same s⟩
theorem Tup2.keep {H H' : Hp} {qs : List Addr} {ps : List (Int × Int)} {p : Addr} (h : Tup2 H qs ps) (hp : ∀ xs, H p ≠ some (.tup xs)) (s : Keep p H H') : Tup2 H' qs ps :=
  ⟨h.len, fun j q t h1 h2 => by
    have e := h.at_ j q t h1 h2
    exact s _ _ e (fun z => hp _ (z ▸ e))⟩
theorem HandAt.ntup {H : Hp} {p : Addr} (h : HandAt H p) (xs : List V) : H p ≠ some (.tup xs) := fun z => by
  obtain ⟨d, c, q, ms, hp, _⟩ := h.ex
  rw [hp] at z
  cases z
theorem PcAt.keep {H H' : Hp} {a p : Addr} {ps : List (Int × Int)} (h : PcAt H a ps) (hh : HandAt H p) (s : Keep p H H') : PcAt H' a ps := by
  obtain ⟨qs, h1, h2⟩ := h.ex
  obtain ⟨d, c, q, ms, hp, _⟩ := id hh.ex
  refine ⟨qs, s _ _ h1 (fun z => ?_), h2.keep hh.ntup s⟩
  rw [z, hp] at h1
  cases qs with
  | nil => cases h1
  | cons x xs => cases h1
theorem SpecAt.keep {H H' : Hp} {a p : Addr} {m : MS} (h : SpecAt H a m) (hh : HandAt H p) (s : Keep p H H') : SpecAt H' a m := by
  obtain ⟨pl, h1, h2⟩ := h.ex
  obtain ⟨d, c, q, ms, hp, _⟩ := id hh.ex
  refine ⟨pl, s _ _ h1 (fun z => ?_), h2.keep hh s⟩
  rw [z, hp] at h1
  cases h1
theorem MachAt.keep {C : Addr} {H H' : Hp} {a p : Addr} {m : MS} (h : MachAt C H a m) (hh : HandAt H p) (s : Keep p H H') : MachAt C H' a m := by
  obtain ⟨dx, pl, h1, h2⟩ := h.ex
  obtain ⟨d, c, q, ms, hp, _⟩ := id hh.ex
  refine ⟨dx, pl, s _ _ h1 (fun z => ?_), h2.keep hh s⟩
  rw [z, hp] at h1
  cases h1
theorem amt_of {i : Int} (h : Am i) : amt (.int i) = true := by
  obtain ⟨h1, h2⟩ := h
  have h3 : i ≤ 10 ^ 12 := h2
  show (decide (0 ≤ i) && decide (i ≤ 10 ^ 12)) = true
  rw [decide_eq_true h1, decide_eq_true h3]
  rfl
def sp_is_whole (K : PySem.W.Frag) : Sp := fun vs H Q _ => ∃ v T, vs = [v] ∧ Th H v T ∧ Q (.bl (T == "int")) H
set_option maxHeartbeats 40000000 in
theorem ok_is_whole {P : Program} {w : World} {K : PySem.W.Frag} {mg : Str → Option Value} {base : Heap} {a : Adr} (tx : Txt K mg a) : FnOk P w K mg base CX0 1 a.f_is_whole a.d_is_whole ["thing"] (sp_is_whole K) := by
  refine tx.F_is_whole.ok sc_is_whole (fun vs H Q E h => ?_) (fun cdv A outer s H vs Q E hr h => ?_)
  · obtain ⟨v, T, rfl, _⟩ := h
    rfl
  · obtain ⟨v, T, rfl , ht, k⟩ := h
    have hu := hu9 hr
    refine L2.Q.root (L2.Q.pss_one (L2.Q.ps_ret (L2.Q.pe_and (L2.Q.pe_callBN (rc := rIsi K) call_isiG (by rfl) tx.z_isinstance bt_isinstance (L2.Q.pa_c (L2.Q.pv 0) (L2.Q.pa_c (L2.Q.pe_bltn (v := .ty "int") (by rfl) tx.z_int bt_int rfl) L2.Q.pa_nil))) (L2.Q.pe_one (L2.Q.pe_not (L2.Q.pe_callBN (rc := rIsi K) call_isiG (by rfl) tx.z_isinstance bt_isinstance (L2.Q.pa_c (L2.Q.pv 0) (L2.Q.pa_c (L2.Q.pe_bltn (v := .ty "bool") (by rfl) tx.z_bool bt_bool rfl) L2.Q.pa_nil)))))))) ?_
    refine rd_start (σ := [some v]) rfl ?_
    repeat walk_at "go"
    refine rd_isi (isi_int ht) ?_
    repeat walk_at "go"
    refine rd_bool (fun h => ?_) (fun h => ?_)
    · repeat walk_at "go"
      refine rd_isi (isi_bool ht) ?_
      repeat walk_at "go"
      have e : (!(T == "bool")) = (T == "int") := by cases ht <;> first | rfl | cases h
      rw [e]
      exact k
    · have e : (T == "int") = false := by cases ht <;> first | rfl | cases h
      rw [e] at k
      exact k
def sp_is_amount (K : PySem.W.Frag) : Sp := fun vs H Q _ => ∃ v T, vs = [v] ∧ Th H v T ∧ Q (.bl (amt v)) H
set_option maxHeartbeats 40000000 in
theorem ok_is_amount {P : Program} {w : World} {K : PySem.W.Frag} {mg : Str → Option Value} {base : Heap} {a : Adr} (tx : Txt K mg a) : FnOk P w K mg base CX0 2 a.f_is_amount a.d_is_amount ["thing"] (sp_is_amount K) := by
  have G_is_whole := ok_is_whole (P := P) (w := w) (base := base) tx
  refine tx.F_is_amount.ok sc_is_amount (fun vs H Q E h => ?_) (fun cdv A outer s H vs Q E hr h => ?_)
  · obtain ⟨v, T, rfl, _⟩ := h
    rfl
  · obtain ⟨v, T, rfl , ht, k⟩ := h
    have hu := hu9 hr
    refine L2.Q.root (L2.Q.pss_one (L2.Q.ps_ret (L2.Q.pe_and (L2.Q.pe_callN (G_is_whole) (hr.mono (by decide)) (by rfl) tx.g_is_whole tx.F_is_whole.kp tx.b_is_whole .nil pass0 (L2.Q.pa_c (L2.Q.pv 0) L2.Q.pa_nil)) (L2.Q.pe_one (L2.Q.pe_chain op_le op_le L2.Q.pe_int (L2.Q.pv 0) (L2.Q.pe_op op_pow L2.Q.pe_int L2.Q.pe_int)))))) ?_
    refine rd_start (σ := [some v]) rfl ?_
    repeat walk_at "go"
    refine ⟨v, T, rfl, ht, ?_⟩
    repeat walk_at "go"
    refine rd_bool (fun h => ?_) (fun h => ?_)
    · cases ht with
      | int i =>
        repeat walk_at "go"
        refine rd_dec (fun h1 => ?_) (fun h1 => ?_)
        · repeat walk_at "go"
          have e : amt (.int i) = decide (i ≤ 10 ^ (12 : Int).toNat) := by simp [amt, h1]
          rw [← e]
          exact k
        · have e : amt (.int i) = false := by simp [amt, h1]
          rw [e] at k
          exact k
      | _ => cases h
    · have e : amt v = false := by cases ht <;> first | rfl | cases h
      rw [e] at k
      exact k
def sp_is_span (K : PySem.W.Frag) : Sp := fun vs H Q _ => ∃ (i : Int), vs = [.int i] ∧ 1 ≤ i ∧ i ≤ 12 ∧ Q (.bl true) H
set_option maxHeartbeats 40000000 in
theorem ok_is_span {P : Program} {w : World} {K : PySem.W.Frag} {mg : Str → Option Value} {base : Heap} {a : Adr} (tx : Txt K mg a) : FnOk P w K mg base CX0 2 a.f_is_span a.d_is_span ["thing"] (sp_is_span K) := by
  have G_is_whole := ok_is_whole (P := P) (w := w) (base := base) tx
  refine tx.F_is_span.ok sc_is_span (fun vs H Q E h => ?_) (fun cdv A outer s H vs Q E hr h => ?_)
  · obtain ⟨i, rfl, _⟩ := h
    rfl
  · obtain ⟨i, rfl , h1, h2, k⟩ := h
    have hu := hu9 hr
    refine L2.Q.root (L2.Q.pss_one (L2.Q.ps_ret (L2.Q.pe_and (L2.Q.pe_callN (G_is_whole) (hr.mono (by decide)) (by rfl) tx.g_is_whole tx.F_is_whole.kp tx.b_is_whole .nil pass0 (L2.Q.pa_c (L2.Q.pv 0) L2.Q.pa_nil)) (L2.Q.pe_one (L2.Q.pe_chain op_le op_le L2.Q.pe_int (L2.Q.pv 0) (L2.Q.pe_gint (n := 12) (by rfl) tx.v_LONGEST_STINT)))))) ?_
    refine rd_start (σ := [some (.int i)]) rfl ?_
    repeat walk_at "go"
    refine ⟨_, _, rfl, .int i, ?_⟩
    repeat walk_at "go"
    refine rd_bool (fun _ => ?_) (fun h => by simp at h)
    repeat walk_at "go"
    refine rd_dec (fun _ => ?_) (fun h => absurd h1 h)
    repeat walk_at "go"
    rw [decide_eq_true h2]
    exact k
def sp_is_piece (K : PySem.W.Frag) : Sp := fun vs H Q _ => ∃ (q : Addr) (x y : Int), vs = [.ref q] ∧ H q = some (.tup [.int x, .int y]) ∧ 1 ≤ x ∧ Am x ∧ Am y ∧ Q (.bl true) H
set_option maxHeartbeats 40000000 in
theorem ok_is_piece {P : Program} {w : World} {K : PySem.W.Frag} {mg : Str → Option Value} {base : Heap} {a : Adr} (tx : Txt K mg a) : FnOk P w K mg base CX0 3 a.f_is_piece a.d_is_piece ["thing"] (sp_is_piece K) := by
  have G_is_amount := ok_is_amount (P := P) (w := w) (base := base) tx
  refine tx.F_is_piece.ok sc_is_piece (fun vs H Q E h => ?_) (fun cdv A outer s H vs Q E hr h => ?_)
  · obtain ⟨q, x, y, rfl, _⟩ := h
    rfl
  · obtain ⟨q, x, y, rfl , hq, h1, h2, h3, k⟩ := h
    have hu := hu9 hr
    refine L2.Q.root (L2.Q.pss_cons (L2.Q.ps_if (L2.Q.pw_pt (L2.Q.pw_or (L2.Q.pt_not (L2.Q.pt_val (L2.Q.pe_callBN (rc := rIsi K) call_isiG (by rfl) tx.z_isinstance bt_isinstance (L2.Q.pa_c (L2.Q.pv 0) (L2.Q.pa_c (L2.Q.pe_bltn (v := .ty "tuple") (by rfl) tx.z_tuple bt_tuple rfl) L2.Q.pa_nil))))) (L2.Q.pw_or1 (L2.Q.pt_cmpR (r := rNeG K) (op_neG hu) (L2.Q.pe_callBN (rc := rLen K) call_lenG (by rfl) tx.z_len bt_len (L2.Q.pa_c (L2.Q.pv 0) L2.Q.pa_nil)) L2.Q.pe_int (nomark _))))) (L2.Q.pss_one (L2.Q.ps_ret L2.Q.pe_bl)) L2.Q.pss_nil)
      (L2.Q.pss_one (L2.Q.ps_ret (L2.Q.pe_and (L2.Q.pe_callN (G_is_amount) (hr.mono (by decide)) (by rfl) tx.g_is_amount tx.F_is_amount.kp tx.b_is_amount .nil pass0 (L2.Q.pa_c (L2.Q.pe_ixK (K' := K) (L2.Q.pv 0) L2.Q.pe_int (fun _ _ => rfl)) L2.Q.pa_nil)) (L2.Q.pe_and (L2.Q.pe_cmpR op_ge (L2.Q.pe_ixK (K' := K) (L2.Q.pv 0) L2.Q.pe_int (fun _ _ => rfl)) L2.Q.pe_int (nomark _)) (L2.Q.pe_one (L2.Q.pe_callN (G_is_amount) (hr.mono (by decide)) (by rfl) tx.g_is_amount tx.F_is_amount.kp tx.b_is_amount .nil pass0 (L2.Q.pa_c (L2.Q.pe_ixK (K' := K) (L2.Q.pv 0) L2.Q.pe_int (fun _ _ => rfl)) L2.Q.pa_nil)))))))) ?_
    refine rd_start (σ := [some (.ref q)]) rfl ?_
    repeat walk_at "go"
    refine rd_isi (isi_tuple (.tup hq)) ?_
    repeat walk_at "go"
    refine rd_bool (fun h => by simp at h) (fun _ => ?_)
    repeat walk_at "go"
    refine rd_decN (fun h => absurd rfl h) (fun _ => ?_)
    repeat walk_at "go"
    refine ⟨_, _, rfl, .int x, ?_⟩
    rw [amt_of h2]
    repeat walk_at "go"
    refine rd_dec (fun _ => ?_) (fun h => absurd h1 h)
    repeat walk_at "go"
    refine ⟨_, _, rfl, .int y, ?_⟩
    rw [amt_of h3]
    exact k
def sp_are_pieces (K : PySem.W.Frag) : Sp := fun vs H Q _ => ∃ (p : Addr) (ps : List (Int × Int)), vs = [.ref p] ∧ PcAt H p ps ∧ PcGood ps ∧ ∀ H', Same H H' → Q (.bl true) H'
set_option maxHeartbeats 40000000 in
theorem ok_are_pieces {P : Program} {w : World} {K : PySem.W.Frag} {mg : Str → Option Value} {base : Heap} {a : Adr} (tx : Txt K mg a) : FnOk P w K mg base CX0 4 a.f_are_pieces a.d_are_pieces ["thing"] (sp_are_pieces K) := by
  have G_is_piece := ok_is_piece (P := P) (w := w) (base := base) tx
  refine tx.F_are_pieces.ok sc_are_pieces (fun vs H Q E h => ?_) (fun cdv A outer s H vs Q E hr h => ?_)
  · obtain ⟨p, ps, rfl, _⟩ := h
    rfl
  · obtain ⟨p, ps, rfl , hp, hg, k⟩ := h
    have hu := hu9 hr
    refine L2.Q.root (L2.Q.pss_cons (L2.Q.ps_if (L2.Q.pw_pt (L2.Q.pw_or (L2.Q.pt_not (L2.Q.pt_val (L2.Q.pe_callBN (rc := rIsi K) call_isiG (by rfl) tx.z_isinstance bt_isinstance (L2.Q.pa_c (L2.Q.pv 0) (L2.Q.pa_c (L2.Q.pe_bltn (v := .ty "list") (by rfl) tx.z_list bt_list rfl) L2.Q.pa_nil))))) (L2.Q.pw_or1 (L2.Q.pt_cmpR op_gt (L2.Q.pe_callBN (rc := rLen K) call_lenG (by rfl) tx.z_len bt_len (L2.Q.pa_c (L2.Q.pv 0) L2.Q.pa_nil)) (L2.Q.pe_gint (n := 4) (by rfl) tx.v_MOST_PIECES) (nomark _))))) (L2.Q.pss_one (L2.Q.ps_ret L2.Q.pe_bl)) L2.Q.pss_nil)
      (L2.Q.pss_cons (L2.Q.ps_if (L2.Q.pt_not (L2.Q.pt_val (L2.Q.pe_callBN (rc := rAll K) (call_allG rfl) (by rfl) tx.z_all bt_all (L2.Q.pa_c (L2.Q.pe_comp (k := 1) (idx := []) (N := ["piece"]) (blk_sc (sc := defScope s_are_pieces) (NX := ["thing"]) rfl rfl rfl (by decide +kernel)) rfl (L2.Q.pi_listK (K' := K) (L2.Q.pv 0)) (fun _ _ _ _ => (L2.Q.pg_name (i := 0) (show (["piece"] : List Str).Nodup by decide +kernel) rfl (Or.inl rfl))) (own_name (by decide)) (fun _ _ _ _ => L2.Q.pts_nil) (fun _ _ _ _ => (L2.Q.pe_callN (G_is_piece) (hr.mono (by decide)) (by rfl) tx.g_is_piece tx.F_is_piece.kp tx.b_is_piece .nil pass0 (L2.Q.pa_c (L2.Q.pv 0) L2.Q.pa_nil)))) L2.Q.pa_nil)))) (L2.Q.pss_one (L2.Q.ps_ret L2.Q.pe_bl)) L2.Q.pss_nil)
      (L2.Q.pss_one (L2.Q.ps_ret (L2.Q.pe_callBN (rc := rAll K) (call_allG rfl) (by rfl) tx.z_all bt_all (L2.Q.pa_c (L2.Q.pe_comp (k := 1) (idx := [0]) (N := ["at", "thing"]) (blk_sc (sc := defScope s_are_pieces) (NX := ["thing"]) rfl rfl rfl (by decide +kernel)) rfl (L2.Q.pi_range2N (by rfl) tx.z_range (L2.Q.pa_c L2.Q.pe_int (L2.Q.pa_c (L2.Q.pe_callBN (rc := rLen K) call_lenG (by rfl) tx.z_len bt_len (L2.Q.pa_c (L2.Q.pv 0) L2.Q.pa_nil)) L2.Q.pa_nil))) (fun _ _ _ _ => (L2.Q.pg_name (i := 0) (show (["at", "thing"] : List Str).Nodup by decide +kernel) rfl (Or.inl rfl))) (own_name (by decide)) (fun _ _ _ _ => L2.Q.pts_nil) (fun _ _ _ _ => (L2.Q.pe_cmpR op_le (L2.Q.pe_ixK (K' := K) (L2.Q.pe_ixK (K' := K) (L2.Q.pv 1) (L2.Q.pe_op op_sub (L2.Q.pv 0) L2.Q.pe_int) (fun _ _ => rfl)) L2.Q.pe_int (fun _ _ => rfl)) (L2.Q.pe_ixK (K' := K) (L2.Q.pe_ixK (K' := K) (L2.Q.pv 1) (L2.Q.pv 0) (fun _ _ => rfl)) L2.Q.pe_int (fun _ _ => rfl)) (nomark _)))) L2.Q.pa_nil)))))) ?_
    obtain ⟨qs, h1, h2⟩ := hp.ex
    have hl := hg.len
    have hql : qs.length ≤ 4 := by rw [h2.len]; exact hl
    refine rd_start (σ := [some (.ref p)]) rfl ?_
    repeat walk_at "go"
    refine rd_isi (isi_list (.lst h1)) ?_
    repeat walk_at "go"
    refine rd_bool (fun h => by simp at h) (fun _ => ?_)
    repeat walk_at "go"
    refine rd_dec (fun h => by rw [List.length_map] at h; omega) (fun _ => ?_)
    repeat walk_at "go"
    refine rd_li (SqL.of h1) ?_
    refine comp_pure (fun _ => .bl true) (SqL.of h1) (sz_le (by rw [List.length_map]; omega)) (fun x N N' hxm hN => ?_) ?_
    · obtain ⟨q, hq, rfl⟩ := List.mem_map.mp hxm
      obtain ⟨t, ht, e⟩ := h2.at2 hq
      obtain ⟨g1, g2, g3⟩ := hg.pc t ht
      repeat walk_at "go"
      exact ⟨q, t.1, t.2, rfl, e, g1, g2, g3, hN⟩
    · intro l1 n1
      repeat walk_at "go"
      refine rd_allT (SqL.of upd_same) (fun x hx => by obtain ⟨_, _, rfl⟩ := List.mem_map.mp hx; rfl) ?_
      repeat walk_at "go"
      have h1' := Same.new (o := .lst ((qs.map V.ref).map fun _ => V.bl true)) n1 _ _ h1
      have h2' := h2.same (Same.new (o := .lst ((qs.map V.ref).map fun _ => V.bl true)) n1)
      repeat walk_at "go"
      refine ⟨⟨by omega, by omega, by omega, by rw [List.length_map]; omega⟩, ?_⟩
      rw [List.length_map]
      refine comp_pureR (fun _ => .bl true) (sz_le (by omega)) (fun i N N' hi hN => ?_) ?_
      · have i1 : i < qs.length := by omega
        have i2 : i + 1 < qs.length := by omega
        have j1 : i < ps.length := by rw [← h2.len]; exact i1
        have j2 : i + 1 < ps.length := by rw [← h2.len]; exact i2
        have e1 : atI (qs.map V.ref) (1 + (i : Int) - 1) = some (.ref qs[i]) := by
          rw [show 1 + (i : Int) - 1 = (i : Int) by omega]
          exact atI_nat (by rw [List.getElem?_map, List.getElem?_eq_getElem i1]; rfl)
        have e2 : atI (qs.map V.ref) (1 + (i : Int)) = some (.ref qs[i + 1]) := by
          rw [show 1 + (i : Int) = ((i + 1 : Nat) : Int) by omega]
          exact atI_nat (by rw [List.getElem?_map, List.getElem?_eq_getElem i2]; rfl)
        have t1 := h2'.at_ i _ _ (List.getElem?_eq_getElem i1) (List.getElem?_eq_getElem j1)
        have t2 := h2'.at_ (i + 1) _ _ (List.getElem?_eq_getElem i2) (List.getElem?_eq_getElem j2)
        have t3 := hg.up i _ _ (List.getElem?_eq_getElem j1) (List.getElem?_eq_getElem j2)
        repeat walk_at "go"
        rw [decide_eq_true t3]
        exact hN
      · intro l2 n2
        repeat walk_at "go"
        refine rd_allT (SqL.of upd_same) (fun x hx => by obtain ⟨_, _, rfl⟩ := List.mem_map.mp hx; rfl) ?_
        exact k _ ((Same.new n1).trans (Same.new n2))
def sp_Machine_init (K : PySem.W.Frag) (C : Addr) : Sp := fun vs H Q _ => ∃ (x dx pl : Addr) (m : MS), vs = [.ref x, .int m.up, .int m.down, .int m.begin_, .int m.run, .int m.rest, .int m.least, .ref pl] ∧ H x = some (.ins C dx []) ∧ PcAt H pl m.pieces ∧ m.Good ∧
  ∀ H', MachAt C H' x m → Keep x H H' → Q .non H'
set_option maxHeartbeats 40000000 in
theorem ok_Machine_init {P : Program} {w : World} {K : PySem.W.Frag} {mg : Str → Option Value} {base : Heap} {a : Adr} (tx : Txt K mg a) : FnOk P w K mg base CX0 5 a.f_Machine_init a.d_Machine_init ["self", "up", "down", "begin", "run", "rest", "least", "pieces"] (sp_Machine_init K a.c_Machine) := by
  have G_are_pieces := ok_are_pieces (P := P) (w := w) (base := base) tx
  have G_is_amount := ok_is_amount (P := P) (w := w) (base := base) tx
  have G_is_span := ok_is_span (P := P) (w := w) (base := base) tx
  refine tx.F_Machine_init.ok sc_Machine_init (fun vs H Q E h => ?_) (fun cdv A outer s H vs Q E hr h => ?_)
  · obtain ⟨x, dx, pl, m, rfl, _⟩ := h
    rfl
  · obtain ⟨x, dx, pl, m, rfl , hx, hp, hg, k⟩ := h
    have hu := hu9 hr
    refine L2.Q.root (L2.Q.pss_cons (L2.Q.ps_set (i := 8) sc_Machine_init.nd rfl (Or.inl rfl) (L2.Q.lst2 (L2.Q.pe_callN (G_is_span) (hr.mono (by decide)) (by rfl) tx.g_is_span tx.F_is_span.kp tx.b_is_span .nil pass0 (L2.Q.pa_c (L2.Q.pv 1) L2.Q.pa_nil)) (L2.Q.pe_callN (G_is_span) (hr.mono (by decide)) (by rfl) tx.g_is_span tx.F_is_span.kp tx.b_is_span .nil pass0 (L2.Q.pa_c (L2.Q.pv 2) L2.Q.pa_nil))))
      (L2.Q.pss_cons (L2.Q.ps_set (i := 9) sc_Machine_init.nd rfl (Or.inl rfl) (L2.Q.lst4 (L2.Q.pe_callN (G_is_amount) (hr.mono (by decide)) (by rfl) tx.g_is_amount tx.F_is_amount.kp tx.b_is_amount .nil pass0 (L2.Q.pa_c (L2.Q.pv 3) L2.Q.pa_nil)) (L2.Q.pe_callN (G_is_amount) (hr.mono (by decide)) (by rfl) tx.g_is_amount tx.F_is_amount.kp tx.b_is_amount .nil pass0 (L2.Q.pa_c (L2.Q.pv 4) L2.Q.pa_nil)) (L2.Q.pe_callN (G_is_amount) (hr.mono (by decide)) (by rfl) tx.g_is_amount tx.F_is_amount.kp tx.b_is_amount .nil pass0 (L2.Q.pa_c (L2.Q.pv 5) L2.Q.pa_nil)) (L2.Q.pe_callN (G_is_amount) (hr.mono (by decide)) (by rfl) tx.g_is_amount tx.F_is_amount.kp tx.b_is_amount .nil pass0 (L2.Q.pa_c (L2.Q.pv 6) L2.Q.pa_nil))))
      (L2.Q.pss_cons (L2.Q.ps_for PassesOwn.never rfl (L2.Q.pi_enumK (K' := K) (by rfl) tx.z_enumerate (L2.Q.pa_c (L2.Q.pe_op op_addG (L2.Q.pe_op op_addG (L2.Q.pv 8) (L2.Q.pv 9)) (L2.Q.lst1 (L2.Q.pe_callN (G_are_pieces) (hr.mono (by decide)) (by rfl) tx.g_are_pieces tx.F_are_pieces.kp tx.b_are_pieces .nil pass0 (L2.Q.pa_c (L2.Q.pv 7) L2.Q.pa_nil)))) L2.Q.pa_nil)) (L2.Q.pg_tupK (K' := K) (n := 2) rfl (L2.Q.pgs_cons (L2.Q.pg_name (i := 10) sc_Machine_init.nd rfl (Or.inl rfl)) (L2.Q.pgs_cons (L2.Q.pg_name (i := 11) sc_Machine_init.nd rfl (Or.inl rfl)) L2.Q.pgs_nil))) (L2.Q.pss_one (L2.Q.ps_if (L2.Q.pt_not (L2.Q.pt_val (L2.Q.pv 11))) (L2.Q.pss_one L2.Q.ps_never) L2.Q.pss_nil)))
      (L2.Q.pss_cons (L2.Q.ps_fldK (K' := K) (L2.Q.pv 0) (L2.Q.pv 1) rfl)
      (L2.Q.pss_cons (L2.Q.ps_fldK (K' := K) (L2.Q.pv 0) (L2.Q.pv 2) rfl)
      (L2.Q.pss_cons (L2.Q.ps_fldK (K' := K) (L2.Q.pv 0) (L2.Q.pv 3) rfl)
      (L2.Q.pss_cons (L2.Q.ps_fldK (K' := K) (L2.Q.pv 0) (L2.Q.pv 4) rfl)
      (L2.Q.pss_cons (L2.Q.ps_fldK (K' := K) (L2.Q.pv 0) (L2.Q.pv 5) rfl)
      (L2.Q.pss_cons (L2.Q.ps_fldK (K' := K) (L2.Q.pv 0) (L2.Q.pv 6) rfl)
      (L2.Q.pss_one (L2.Q.ps_fldK (K' := K) (L2.Q.pv 0) (L2.Q.pe_callTyN (rc := rListOf K) call_listG (by rfl) tx.z_list bt_list (L2.Q.pa_c (L2.Q.pv 7) L2.Q.pa_nil)) rfl))))))))))) ?_
    refine rd_start (σ := [some (.ref x), some (.int m.up), some (.int m.down), some (.int m.begin_), some (.int m.run), some (.int m.rest), some (.int m.least), some (.ref pl), none, none, none, none]) rfl ?_
    repeat walk_at "go"
    refine ⟨_, rfl, hg.up.1, hg.up.2, ?_⟩
    repeat walk_at "go"
    refine ⟨_, rfl, hg.down.1, hg.down.2, ?_⟩
    repeat walk_at "go"
    intro l1 n1
    repeat walk_at "go"
    refine ⟨_, _, rfl, .int _, ?_⟩
    rw [amt_of hg.begin_]
    repeat walk_at "go"
    refine ⟨_, _, rfl, .int _, ?_⟩
    rw [amt_of hg.run]
    repeat walk_at "go"
    refine ⟨_, _, rfl, .int _, ?_⟩
    rw [amt_of hg.rest]
    repeat walk_at "go"
    refine ⟨_, _, rfl, .int _, ?_⟩
    rw [amt_of hg.least]
    repeat walk_at "go"
    intro l2 n2
    repeat walk_at "go"
    refine rd_addL (xs := [.bl true, .bl true]) (zs := [.bl true, .bl true, .bl true, .bl true]) (by walk_at "hp") upd_same (sz_le (by simp)) ?_
    intro l3 n3
    repeat walk_at "go"
    have s3 : Same H (upd (upd (upd H l1 (.lst [.bl true, .bl true])) l2 (.lst [.bl true, .bl true, .bl true, .bl true])) l3 (.lst ([.bl true, .bl true] ++ [.bl true, .bl true, .bl true, .bl true]))) := ((Same.new n1).trans (Same.new n2)).trans (Same.new n3)
    refine ⟨pl, m.pieces, rfl, hp.same s3, hg.pieces, fun H4 s4 => ?_⟩
    repeat walk_at "go"
    intro l5 n5
    repeat walk_at "go"
    refine rd_addL (xs := [.bl true, .bl true] ++ [.bl true, .bl true, .bl true, .bl true]) (zs := [.bl true]) (Same.new n5 _ _ (s4 _ _ upd_same)) upd_same (sz_le (by simp)) ?_
    intro l6 n6
    repeat walk_at "go"
    have s6 : Same H (upd (upd H4 l5 (.lst [.bl true])) l6 (.lst (([.bl true, .bl true] ++ [.bl true, .bl true, .bl true, .bl true]) ++ [.bl true]))) := (s3.trans s4).trans ((Same.new n5).trans (Same.new n6))
    generalize hH6 : upd (upd H4 l5 (.lst [.bl true])) l6 (.lst (([.bl true, .bl true] ++ [.bl true, .bl true, .bl true, .bl true]) ++ [.bl true])) = H6 at s6 ⊢
    have e6 : H6 l6 = some (.lst [.bl true, .bl true, .bl true, .bl true, .bl true, .bl true, .bl true]) := by rw [← hH6, upd_same]; rfl
    refine rd_en (SqL.of e6) ?_
    refine rf_enum (xs := [.bl true, .bl true, .bl true, .bl true, .bl true, .bl true, .bl true]) (fun i σ' H' => ∃ y z, σ' = [some (.ref x), some (.int m.up), some (.int m.down), some (.int m.begin_), some (.int m.run), some (.int m.rest), some (.int m.least), some (.ref pl), some (.ref l1), some (.ref l2), y, z] ∧ Same H6 H')
      ⟨_, _, rfl, Same.refl _⟩ (fun i σ' H' hi ⟨y, z, e, s⟩ => SqL.of (s _ _ e6)) (fun i v σ' H' T hv ⟨y, z, e, s⟩ nT => ?_) (fun σ' H' ⟨y, z, e, s⟩ => ?_)
    · subst e
      have ev : v = .bl true := by
        have := List.mem_of_getElem? hv
        simpa using this
      subst ev
      refine rd_gtup (SqT.of upd_same) rfl ?_
      repeat walk_at "go"
      exact ⟨_, _, rfl, s.trans (Same.new nT)⟩
    · subst e
      have sH : Same H H' := s6.trans s
      have hx' := sH _ _ hx
      have hp' := hp.same sH
      obtain ⟨qs, p1, p2⟩ := hp'.ex
      repeat walk_at "go"
      refine rd_put (fs' := [("up", .int m.up)]) hx' tx.C_Machine tx.n_Machine_up (by simp [mFs]) rfl ?_
      repeat walk_at "go"
      refine rd_put (fs' := [("up", .int m.up), ("down", .int m.down)]) upd_same tx.C_Machine tx.n_Machine_down (by simp [mFs]) rfl ?_
      rw [upd_upd]
      repeat walk_at "go"
      refine rd_put (fs' := [("up", .int m.up), ("down", .int m.down), ("begin", .int m.begin_)]) upd_same tx.C_Machine tx.n_Machine_begin (by simp [mFs]) rfl ?_
      rw [upd_upd]
      repeat walk_at "go"
      refine rd_put (fs' := [("up", .int m.up), ("down", .int m.down), ("begin", .int m.begin_), ("run", .int m.run)]) upd_same tx.C_Machine tx.n_Machine_run (by simp [mFs]) rfl ?_
      rw [upd_upd]
      repeat walk_at "go"
      refine rd_put (fs' := [("up", .int m.up), ("down", .int m.down), ("begin", .int m.begin_), ("run", .int m.run), ("rest", .int m.rest)]) upd_same tx.C_Machine tx.n_Machine_rest (by simp [mFs]) rfl ?_
      rw [upd_upd]
      repeat walk_at "go"
      refine rd_put (fs' := [("up", .int m.up), ("down", .int m.down), ("begin", .int m.begin_), ("run", .int m.run), ("rest", .int m.rest), ("least", .int m.least)]) upd_same tx.C_Machine tx.n_Machine_least (by simp [mFs]) rfl ?_
      rw [upd_upd]
      repeat walk_at "go"
      have px : pl ≠ x := fun z => by rw [z, hx'] at p1; cases p1
      refine rd_listL (ys := qs.map V.ref) (SqL.of (by rw [upd_ne px]; exact p1)) ?_
      intro l9 n9
      repeat walk_at "go"
      have x9 : x ≠ l9 := ne_none n9 upd_same
      repeat walk_at "go"
      refine rd_put (fs' := mFs m l9) (by rw [upd_ne x9]; exact upd_same) tx.C_Machine tx.n_Machine_pieces (by simp [mFs]) rfl ?_
      repeat walk_at "go"
      refine k _ ⟨dx, l9, upd_same, qs, ?_, p2.len, fun j q t h1 h2 => ?_⟩ (fun b o e nb => ?_)
      · rw [upd_ne (Ne.symm x9), upd_same]
      · have e := p2.at_ j q t h1 h2
        have qx : q ≠ x := fun z => by rw [z, hx'] at e; cases e
        have q9 : q ≠ l9 := ne_none n9 (by rw [upd_ne qx]; exact e)
        rw [upd_ne qx, upd_ne q9, upd_ne qx]
        exact e
      · have e1 := sH _ _ e
        have b9 : b ≠ l9 := ne_none n9 (by rw [upd_ne nb]; exact e1)
        rw [upd_ne nb, upd_ne b9, upd_ne nb]
        exact e1
structure PcW (ps : List (Int × Int)) (r : Int) : Prop where
  pc : ∀ t ∈ ps, 1 ≤ t.1 ∧ Am t.1 ∧ Am t.2
  up : ∀ (j : Nat) t u, ps[j]? = some t → ps[j + 1]? = some u → t.2 ≤ u.2
  top : ∀ t ∈ ps, t.2 ≤ r
theorem PcW.nil {r : Int} : PcW [] r := ⟨fun _ h => by simp at h, fun j t u h => by simp at h, fun _ h => by simp at h⟩
theorem PcW.snoc {ps : List (Int × Int)} {r r' a : Int} (w : PcW ps r) (hr : r ≤ r') (h1 : 1 ≤ a) (h2 : Am a) (h3 : Am r') : PcW (ps ++ [(a, r')]) r' := by
  refine ⟨fun t h => ?_, fun j t u ht hu => ?_, fun t h => ?_⟩
  · rcases List.mem_append.mp h with h | h
    · exact w.pc t h
    · rw [List.mem_singleton.mp h]; exact ⟨h1, h2, h3⟩
  · have hj2 : j + 1 < (ps ++ [(a, r')]).length := (List.getElem?_eq_some_iff.mp hu).1
    rw [List.length_append, List.length_singleton] at hj2
    have hj : j < ps.length := by omega
    rw [List.getElem?_append_left hj] at ht
    by_cases hj3 : j + 1 < ps.length
    · rw [List.getElem?_append_left hj3] at hu
      exact w.up j t u ht hu
    · rw [List.getElem?_append_right (by omega), show j + 1 - ps.length = 0 by omega] at hu
      cases hu
      exact Int.le_trans (w.top t (List.mem_of_getElem? ht)) hr
  · rcases List.mem_append.mp h with h | h
    · exact Int.le_trans (w.top t h) hr
    · rw [List.mem_singleton.mp h]; exact Int.le_refl _
theorem Tup2.snoc {H H3 : Hp} {qs : List Addr} {ss : List (Int × Int)} {l T : Addr} {xs : List V} {t : Int × Int} (h : Tup2 H qs ss) (hl : H l = some (.lst xs)) (k : Keep l H H3) (hT : H3 T = some (.tup [.int t.1, .int t.2])) : Tup2 H3 (qs ++ [T]) (ss ++ [t]) := by
  refine ⟨by rw [List.length_append, List.length_append, h.len]; rfl, fun j q u hq hu => ?_⟩
  by_cases hj : j < qs.length
  · rw [List.getElem?_append_left hj] at hq
    rw [List.getElem?_append_left (by rw [← h.len]; exact hj)] at hu
    have e := h.at_ j q u hq hu
    refine k q _ e fun z => ?_
    rw [z, hl] at e
    cases e
  · have hj2 : j < (qs ++ [T]).length := (List.getElem?_eq_some_iff.mp hq).1
    rw [List.length_append, List.length_singleton] at hj2
    have e : j = qs.length := by omega
    subst e
    rw [List.getElem?_append_right (Nat.le_refl _), Nat.sub_self] at hq
    rw [h.len, List.getElem?_append_right (Nat.le_refl _), Nat.sub_self] at hu
    cases hq
    cases hu
    exact hT
theorem HandAt.nrefs {H : Hp} {p c : Addr} {qs : List Addr} (h : HandAt H p) (e : H c = some (.lst (qs.map V.ref))) : c ≠ p := fun z => by
  obtain ⟨d, cc, q, ms, hp, _⟩ := h.ex
  rw [z, hp] at e
  cases qs with
  | nil => cases e
  | cons x xs => cases e
theorem HandAt.nlen {H : Hp} {p c : Addr} {xs : List V} (h : HandAt H p) (e : H c = some (.lst xs)) (hl : xs.length ≠ 3) : c ≠ p := fun z => by
  obtain ⟨d, cc, q, ms, hp, _⟩ := h.ex
  rw [z, hp] at e
  cases e
  exact hl rfl
theorem HandAt.isL {H : Hp} {p : Addr} (h : HandAt H p) : ∃ xs, H p = some (.lst xs) := by
  obtain ⟨d, cc, q, ms, hp, _⟩ := h.ex
  exact ⟨_, hp⟩
theorem fresh_of {H H' : Hp} {p c : Addr} (k : Keep p H H') (hh : HandAt H' p) (n : H' c = none) : H c = none := by
  cases hc : H c with
  | none => rfl
  | some v =>
    obtain ⟨xs, e⟩ := hh.isL
    exact absurd rfl (ne_none n (k c v hc (fun z => ne_none n e z.symm)))
theorem mulB {x r n B : Int} (x0 : 1 ≤ x) (x1 : x ≤ 50000000000) (a : 0 ≤ r) (c : r < n) (h : 50000000000 * (n - 1) ≤ B) : 0 ≤ x * r ∧ x * r ≤ B :=
  ⟨Int.mul_nonneg (by omega) a, Int.le_trans (Int.mul_le_mul x1 (show r ≤ n - 1 by omega) a (by omega)) h⟩
theorem mulB1 {x u n B : Int} (x0 : 1 ≤ x) (x1 : x ≤ 50000000000) (a : 0 ≤ u) (c : u < n) (h : 50000000000 * n ≤ B) : x ≤ x * (1 + u) ∧ x * (1 + u) ≤ B :=
  ⟨by have := Int.mul_le_mul_of_nonneg_left (show 1 ≤ 1 + u by omega) (show 0 ≤ x by omega); rw [Int.mul_one] at this; exact this, Int.le_trans (Int.mul_le_mul x1 (show 1 + u ≤ n by omega) (by omega) (by omega)) h⟩
theorem up1 {r n : Int} (a : 0 ≤ r) (c : r < n) (n1 : n ≤ 12) : (1 ≤ 1 + r ∧ 1 + r ≤ 12) ∧ 1 + r ≤ n := by omega
theorem amB {z : Int} (h : 0 ≤ z ∧ z ≤ 250000000000) : Am z := ⟨h.1, by have := h.2; omega⟩
theorem rtB {rate z : Int} {i : Nat} (f5 : 0 ≤ rate) (f6 : rate ≤ (i : Int) * 100000000000) (g : 0 ≤ z ∧ z ≤ 100000000000) (i4 : i ≤ 3) : rate ≤ rate + z ∧ Am (rate + z) ∧ 0 ≤ rate + z ∧ rate + z ≤ ((i + 1 : Nat) : Int) * 100000000000 := ⟨by omega, ⟨by omega, by omega⟩, by omega, by omega⟩
theorem xB {x z : Int} (x0 : 1 ≤ x) (g : x ≤ z ∧ z ≤ 150000000000) : 1 ≤ z ∧ Am z := ⟨by omega, ⟨by omega, by omega⟩⟩
def sp__law_spec (K : PySem.W.Frag) : Sp := fun vs H Q _ => ∃ (p b : Addr) (x y n : Int), vs = [.ref p, .ref b, .int n] ∧ HandAt H p ∧ H b = some (.lst [.int x, .int y]) ∧ 1 ≤ x ∧ x ≤ 50000000000 ∧ 1 ≤ y ∧ y ≤ 50000000000 ∧ 1 ≤ n ∧ n ≤ 12 ∧
  ∀ (s : Addr) (m : MS) H', SpecAt H' s m → m.Good → m.up ≤ n → m.down ≤ n → HandAt H' p → Keep p H H' → H s = none → Q (.ref s) H'
set_option maxHeartbeats 40000000 in
theorem ok__law_spec {P : Program} {w : World} {K : PySem.W.Frag} {mg : Str → Option Value} {base : Heap} {a : Adr} (tx : Txt K mg a) : FnOk P w K mg base CX0 2 a.f__law_spec a.d__law_spec ["_law_hand", "_law_by", "_law_longest"] (sp__law_spec K) := by
  have G__law_draw := ok__law_draw (P := P) (w := w) (base := base) tx
  refine tx.F__law_spec.ok sc__law_spec (fun vs H Q E h => ?_) (fun cdv A outer s H vs Q E hr h => ?_)
  · obtain ⟨p, b, x, y, n, rfl, _⟩ := h
    rfl
  · obtain ⟨p, b, x, y, n, rfl , hh, hb, x0, x1, y0, y1, n0, n1, k⟩ := h
    have hu := hu9 hr
    refine L2.Q.root (L2.Q.pss_cons (L2.Q.ps_set (i := 3) sc__law_spec.nd rfl (Or.inl rfl) (L2.Q.pe_op op_addG L2.Q.pe_int (L2.Q.pe_callN (G__law_draw) (hr.mono (by decide)) (by rfl) tx.g__law_draw tx.F__law_draw.kp tx.b__law_draw .nil pass0 (L2.Q.pa_c (L2.Q.pv 0) (L2.Q.pa_c (L2.Q.pv 2) L2.Q.pa_nil)))))
      (L2.Q.pss_cons (L2.Q.ps_set (i := 4) sc__law_spec.nd rfl (Or.inl rfl) (L2.Q.pe_op op_addG L2.Q.pe_int (L2.Q.pe_callN (G__law_draw) (hr.mono (by decide)) (by rfl) tx.g__law_draw tx.F__law_draw.kp tx.b__law_draw .nil pass0 (L2.Q.pa_c (L2.Q.pv 0) (L2.Q.pa_c (L2.Q.pv 2) L2.Q.pa_nil)))))
      (L2.Q.pss_cons (L2.Q.ps_set (i := 5) sc__law_spec.nd rfl (Or.inl rfl) (L2.Q.lst3 (L2.Q.pe_op op_mulG (L2.Q.pe_ixK (K' := K) (L2.Q.pv 1) L2.Q.pe_int (fun _ _ => rfl)) (L2.Q.pe_callN (G__law_draw) (hr.mono (by decide)) (by rfl) tx.g__law_draw tx.F__law_draw.kp tx.b__law_draw .nil pass0 (L2.Q.pa_c (L2.Q.pv 0) (L2.Q.pa_c L2.Q.pe_int L2.Q.pa_nil)))) (L2.Q.pe_op op_mulG (L2.Q.pe_ixK (K' := K) (L2.Q.pv 1) L2.Q.pe_int (fun _ _ => rfl)) (L2.Q.pe_callN (G__law_draw) (hr.mono (by decide)) (by rfl) tx.g__law_draw tx.F__law_draw.kp tx.b__law_draw .nil pass0 (L2.Q.pa_c (L2.Q.pv 0) (L2.Q.pa_c L2.Q.pe_int L2.Q.pa_nil)))) (L2.Q.pe_op op_mulG (L2.Q.pe_ixK (K' := K) (L2.Q.pv 1) L2.Q.pe_int (fun _ _ => rfl)) (L2.Q.pe_callN (G__law_draw) (hr.mono (by decide)) (by rfl) tx.g__law_draw tx.F__law_draw.kp tx.b__law_draw .nil pass0 (L2.Q.pa_c (L2.Q.pv 0) (L2.Q.pa_c L2.Q.pe_int L2.Q.pa_nil))))))
      (L2.Q.pss_cons (L2.Q.ps_set (i := 6) sc__law_spec.nd rfl (Or.inl rfl) (L2.Q.pe_op op_mulG (L2.Q.pe_ixK (K' := K) (L2.Q.pv 1) L2.Q.pe_int (fun _ _ => rfl)) (L2.Q.pe_callN (G__law_draw) (hr.mono (by decide)) (by rfl) tx.g__law_draw tx.F__law_draw.kp tx.b__law_draw .nil pass0 (L2.Q.pa_c (L2.Q.pv 0) (L2.Q.pa_c L2.Q.pe_int L2.Q.pa_nil)))))
      (L2.Q.pss_cons (L2.Q.ps_set (i := 7) sc__law_spec.nd rfl (Or.inl rfl) L2.Q.pe_int)
      (L2.Q.pss_cons (L2.Q.ps_set (i := 8) sc__law_spec.nd rfl (Or.inl rfl) (L2.Q.pe_lst L2.Q.pa_nil))
      (L2.Q.pss_cons (L2.Q.ps_for PassesOwn.never rfl (L2.Q.pi_range1N (by rfl) tx.z_range (L2.Q.pa_c (L2.Q.pe_callN (G__law_draw) (hr.mono (by decide)) (by rfl) tx.g__law_draw tx.F__law_draw.kp tx.b__law_draw .nil pass0 (L2.Q.pa_c (L2.Q.pv 0) (L2.Q.pa_c L2.Q.pe_int L2.Q.pa_nil))) L2.Q.pa_nil)) (L2.Q.pg_name (i := 9) sc__law_spec.nd rfl (Or.inl rfl)) (L2.Q.pss_cons (L2.Q.ps_aug (i := 7) sc__law_spec.nd rfl (Or.inl rfl) (L2.Q.pe_op op_mulG (L2.Q.pe_ixK (K' := K) (L2.Q.pv 1) L2.Q.pe_int (fun _ _ => rfl)) (L2.Q.pe_callN (G__law_draw) (hr.mono (by decide)) (by rfl) tx.g__law_draw tx.F__law_draw.kp tx.b__law_draw .nil pass0 (L2.Q.pa_c (L2.Q.pv 0) (L2.Q.pa_c L2.Q.pe_int L2.Q.pa_nil)))) ip_add)
      (L2.Q.pss_one (L2.Q.ps_expr (L2.Q.pe_appK (K' := K) (L2.Q.pv 8) (L2.Q.pa_c (L2.Q.tup2 (L2.Q.pe_op op_mulG (L2.Q.pe_ixK (K' := K) (L2.Q.pv 1) L2.Q.pe_int (fun _ _ => rfl)) (L2.Q.pe_op op_addG L2.Q.pe_int (L2.Q.pe_callN (G__law_draw) (hr.mono (by decide)) (by rfl) tx.g__law_draw tx.F__law_draw.kp tx.b__law_draw .nil pass0 (L2.Q.pa_c (L2.Q.pv 0) (L2.Q.pa_c L2.Q.pe_int L2.Q.pa_nil))))) (L2.Q.pv 7)) L2.Q.pa_nil))))))
      (L2.Q.pss_one (L2.Q.ps_ret (L2.Q.lst7 (L2.Q.pv 3) (L2.Q.pv 4) (L2.Q.pe_ixK (K' := K) (L2.Q.pv 5) L2.Q.pe_int (fun _ _ => rfl)) (L2.Q.pe_ixK (K' := K) (L2.Q.pv 5) L2.Q.pe_int (fun _ _ => rfl)) (L2.Q.pe_ixK (K' := K) (L2.Q.pv 5) L2.Q.pe_int (fun _ _ => rfl)) (L2.Q.pv 6) (L2.Q.pv 8))))))))))) ?_
    have bp : b ≠ p := hh.nlen hb (by simp)
    refine rd_start (σ := [some (.ref p), some (.ref b), some (.int n), none, none, none, none, none, none, none]) rfl ?_
    repeat walk_at "go"
    refine ⟨p, _, rfl, hh, by omega, by omega, fun r1 H1 a1 c1 h1 k1 _ => ?_⟩
    have hb1 := k1 _ _ hb bp
    repeat walk_at "go"
    refine ⟨p, _, rfl, h1, by omega, by omega, fun r2 H2 a2 c2 h2 k2 _ => ?_⟩
    have hb2 := k2 _ _ hb1 bp
    repeat walk_at "go"
    refine ⟨p, _, rfl, h2, by decide, by decide, fun r3 H3 a3 c3 h3 k3 _ => ?_⟩
    have hb3 := k3 _ _ hb2 bp
    repeat walk_at "go"
    refine ⟨p, _, rfl, h3, by decide, by decide, fun r4 H4 a4 c4 h4 k4 _ => ?_⟩
    have hb4 := k4 _ _ hb3 bp
    repeat walk_at "go"
    refine ⟨p, _, rfl, h4, by decide, by decide, fun r5 H5 a5 c5 h5 k5 _ => ?_⟩
    have hb5 := k5 _ _ hb4 bp
    repeat walk_at "go"
    intro l6 n6
    repeat walk_at "go"
    have hb6 := Same.new (o := .lst [.int (y * r3), .int (y * r4), .int (y * r5)]) n6 _ _ hb5
    have h6 := h5.same (Same.new (o := .lst [.int (y * r3), .int (y * r4), .int (y * r5)]) n6)
    repeat walk_at "go"
    refine ⟨p, _, rfl, h6, by decide, by decide, fun r7 H7 a7 c7 h7 k7 _ => ?_⟩
    have hb7 := k7 _ _ hb6 bp
    have l6p : l6 ≠ p := fun z => by obtain ⟨_, e⟩ := h5.isL; exact ne_none n6 e z.symm
    have e7 : H7 l6 = some (.lst [.int (y * r3), .int (y * r4), .int (y * r5)]) := k7 _ _ upd_same l6p
    have kk7 : Keep p H H7 := k1.trans (k2.trans (k3.trans (k4.trans (k5.trans ((Same.new n6).keep.trans k7)))))
    have g3 : 0 ≤ y * r3 ∧ y * r3 ≤ 250000000000 := mulB y0 y1 a3 c3 (by decide)
    have g4 : 0 ≤ y * r4 ∧ y * r4 ≤ 250000000000 := mulB y0 y1 a4 c4 (by decide)
    have g5 : 0 ≤ y * r5 ∧ y * r5 ≤ 250000000000 := mulB y0 y1 a5 c5 (by decide)
    have g7 : 0 ≤ x * r7 ∧ x * r7 ≤ 250000000000 := mulB x0 x1 a7 c7 (by decide)
    repeat walk_at "go"
    intro l8 n8
    repeat walk_at "go"
    have h8 := h7.same (Same.new (o := .lst []) n8)
    repeat walk_at "go"
    refine ⟨p, _, rfl, h8, by decide, by decide, fun r9 H9 a9 c9 h9 k9 _ => ?_⟩
    have l8p : l8 ≠ p := fun z => by obtain ⟨_, e⟩ := h7.isL; exact ne_none n8 e z.symm
    have e9 : H9 l8 = some (.lst []) := k9 _ _ upd_same l8p
    have hb9 := k9 _ _ (Same.new n8 _ _ hb7) bp
    have e69 : H9 l6 = some (.lst [.int (y * r3), .int (y * r4), .int (y * r5)]) := k9 _ _ (Same.new n8 _ _ e7) l6p
    have kk9 : Keep p H H9 := kk7.trans ((Same.new n8).keep.trans k9)
    have n8H : H l8 = none := fresh_of kk7 h7 n8
    have n6H : H l6 = none := fresh_of (k1.trans (k2.trans (k3.trans (k4.trans k5)))) h5 n6
    repeat walk_at "go"
    refine ⟨by omega, by omega, ?_⟩
    refine rf_range (fun i σ' H' => ∃ qs ps rate x9, σ' = [some (.ref p), some (.ref b), some (.int n), some (.int (1 + r1)), some (.int (1 + r2)), some (.ref l6), some (.int (x * r7)), some (.int rate), some (.ref l8), x9] ∧ H' l8 = some (.lst (qs.map V.ref)) ∧ Tup2 H' qs ps ∧ ps.length = i ∧ PcW ps rate ∧
        0 ≤ rate ∧ rate ≤ (i : Int) * 100000000000 ∧ HandAt H' p ∧ Keep p H H' ∧ H' b = some (.lst [.int x, .int y]) ∧ H' l6 = some (.lst [.int (y * r3), .int (y * r4), .int (y * r5)]))
      ⟨[], [], 0, _, rfl, e9, ⟨rfl, fun j q t h => by simp at h⟩, rfl, PcW.nil, by omega, by omega, h9, kk9, hb9, e69⟩
      (fun i σ' H' hi ⟨qs, ps, rate, x9, e, f1, f2, f3, f4, f5, f6, f7, f8, f9, f0⟩ => ?_) (fun σ' H' ⟨qs, ps, rate, x9, e, f1, f2, f3, f4, f5, f6, f7, f8, f9, f0⟩ => ?_)
    · subst e
      have i4 : i ≤ 3 := by omega
      repeat walk_at "go"
      refine rd_aug rfl ?_
      repeat walk_at "go"
      refine ⟨p, _, rfl, f7, by decide, by decide, fun u1 J1 v1 w1 q1 t1 _ => ?_⟩
      have g1 : 0 ≤ y * u1 ∧ y * u1 ≤ 100000000000 := mulB y0 y1 v1 w1 (by decide)
      have l8q : l8 ≠ p := f7.nrefs f1
      have d1 := t1 _ _ f1 l8q
      have d2 := f2.keep f7.ntup t1
      have d3 := t1 _ _ f9 bp
      have d4 := t1 _ _ f0 l6p
      repeat walk_at "go"
      refine rd_tyL (SqL.of d1) ?_
      repeat walk_at "go"
      refine ⟨p, _, rfl, q1, by decide, by decide, fun u2 J2 v2 w2 q2 t2 _ => ?_⟩
      have g2 : x ≤ x * (1 + u2) ∧ x * (1 + u2) ≤ 150000000000 := mulB1 x0 x1 v2 w2 (by decide)
      have dd1 := t2 _ _ d1 l8q
      have dd2 := d2.keep q1.ntup t2
      have dd3 := t2 _ _ d3 bp
      have dd4 := t2 _ _ d4 l6p
      repeat walk_at "go"
      intro T nT
      repeat walk_at "go"
      refine rd_app (xs := qs.map V.ref) (Same.new nT _ _ dd1) (Nat.lt_of_lt_of_le (by rw [List.length_map, f2.len]; omega : (qs.map V.ref).length < 1000) (sz_le (by simp))) ?_
      repeat walk_at "go"
      have hT8 : T ≠ l8 := Ne.symm (ne_none nT dd1)
      have kz : Keep l8 J2 (upd (upd J2 T (.tup [.int (x * (1 + u2)), .int (rate + y * u1)])) l8 (.lst (qs.map V.ref ++ [.ref T]))) := (Same.new nT).keep.trans Keep.upd
      refine ⟨qs ++ [T], ps ++ [(x * (1 + u2), rate + y * u1)], _, _, rfl, ?_, dd2.snoc dd1 kz (by rw [upd_ne hT8, upd_same]), by rw [List.length_append, f3]; rfl, f4.snoc (rtB f5 f6 g1 i4).1 (xB x0 g2).1 (xB x0 g2).2 (rtB f5 f6 g1 i4).2.1, (rtB f5 f6 g1 i4).2.2.1, (rtB f5 f6 g1 i4).2.2.2, ?_, fun c o hc hcp => ?_, ?_, ?_⟩
      · rw [upd_same, List.map_append]; rfl
      · obtain ⟨dd, cc, q, ms, hp, hq, hne, hqp⟩ := q2.ex
        refine ⟨⟨dd, cc, q, ms, kz _ _ hp (Ne.symm l8q), kz _ _ hq (fun z => ?_), hne, hqp⟩⟩
        rw [z, dd1] at hq
        cases qs with
        | nil => cases ms with
          | nil => exact hne rfl
          | cons _ _ => cases hq
        | cons _ _ => cases ms with
          | nil => exact hne rfl
          | cons _ _ => cases hq
      · exact kz _ _ (t2 _ _ (t1 _ _ (f8 _ _ hc hcp) hcp) hcp) (ne_none n8H hc)
      · exact kz _ _ dd3 (fun z => by rw [z, dd1] at dd3; cases qs with
          | nil => cases dd3
          | cons _ _ => cases dd3)
      · exact kz _ _ dd4 (fun z => by rw [z, dd1] at dd4; cases qs with
          | nil => cases dd4
          | cons _ _ => cases dd4)
    · subst e
      repeat walk_at "go"
      intro s ns
      repeat walk_at "go"
      have hr9 : r9.toNat ≤ 4 := by omega
      refine k s ⟨1 + r1, 1 + r2, y * r3, y * r4, y * r5, x * r7, ps⟩ _ ⟨l8, upd_same, qs, Same.new ns _ _ f1, f2.same (Same.new ns)⟩ ⟨(up1 a1 c1 n1).1, (up1 a2 c2 n1).1, amB g3, amB g4, amB g5, amB g7, ⟨by show ps.length ≤ 4; omega, f4.pc, f4.up⟩⟩ (up1 a1 c1 n1).2 (up1 a2 c2 n1).2 (f7.same (Same.new ns)) (f8.trans (Same.new ns).keep) (fresh_of f8 f7 ns)
def sp__law_machine (K : PySem.W.Frag) (C : Addr) : Sp := fun vs H Q _ => ∃ (s : Addr) (m : MS), vs = [.ref s] ∧ SpecAt H s m ∧ m.Good ∧ ∀ x H', MachAt C H' x m → Same H H' → H x = none → Q (.ref x) H'
set_option maxHeartbeats 40000000 in
theorem ok__law_machine {P : Program} {w : World} {K : PySem.W.Frag} {mg : Str → Option Value} {base : Heap} {a : Adr} (tx : Txt K mg a) : FnOk P w K mg base CX0 7 a.f__law_machine a.d__law_machine ["_law_spec_here"] (sp__law_machine K a.c_Machine) := by
  have G_Machine_init := ok_Machine_init (P := P) (w := w) (base := base) tx
  refine tx.F__law_machine.ok sc__law_machine (fun vs H Q E h => ?_) (fun cdv A outer s H vs Q E hr h => ?_)
  · obtain ⟨s, m, rfl, _⟩ := h
    rfl
  · obtain ⟨s, m, rfl , hs, hg, k⟩ := h
    have hu := hu9 hr
    refine L2.Q.root (L2.Q.pss_one (L2.Q.ps_ret (L2.Q.pe_makeN tx.M_Machine (G_Machine_init) (hr.mono (by decide)) (by rfl) tx.g_Machine tx.b_Machine_init .nil pass0 (L2.Q.pa_c (L2.Q.pe_ixK (K' := K) (L2.Q.pv 0) L2.Q.pe_int (fun _ _ => rfl)) (L2.Q.pa_c (L2.Q.pe_ixK (K' := K) (L2.Q.pv 0) L2.Q.pe_int (fun _ _ => rfl)) (L2.Q.pa_c (L2.Q.pe_ixK (K' := K) (L2.Q.pv 0) L2.Q.pe_int (fun _ _ => rfl)) (L2.Q.pa_c (L2.Q.pe_ixK (K' := K) (L2.Q.pv 0) L2.Q.pe_int (fun _ _ => rfl)) (L2.Q.pa_c (L2.Q.pe_ixK (K' := K) (L2.Q.pv 0) L2.Q.pe_int (fun _ _ => rfl)) (L2.Q.pa_c (L2.Q.pe_ixK (K' := K) (L2.Q.pv 0) L2.Q.pe_int (fun _ _ => rfl)) (L2.Q.pa_c (L2.Q.pe_callTyN (rc := rListOf K) call_listG (by rfl) tx.z_list bt_list (L2.Q.pa_c (L2.Q.pe_ixK (K' := K) (L2.Q.pv 0) L2.Q.pe_int (fun _ _ => rfl)) L2.Q.pa_nil)) L2.Q.pa_nil)))))))))) ?_
    obtain ⟨pl, h1, h2⟩ := hs.ex
    obtain ⟨qs, h3, h4⟩ := h2.ex
    refine rd_start (σ := [some (.ref s)]) rfl ?_
    repeat walk_at "go"
    refine rd_listL (SqL.of h3) ?_
    intro l n
    repeat walk_at "go"
    intro x dx nx nd hd
    have sx : Same H (upd (upd (upd H l (.lst (qs.map V.ref))) dx (.own x)) x (.ins a.c_Machine dx [])) := fun b o e => by
      have e1 := Same.new (o := .lst (qs.map V.ref)) n _ _ e
      rw [upd_ne (ne_none nx e1), upd_ne (ne_none nd e1)]
      exact e1
    have lx : l ≠ x := ne_none nx upd_same
    have ld : l ≠ dx := ne_none nd upd_same
    refine ⟨x, dx, l, m, rfl, upd_same, ⟨qs, by rw [upd_ne lx, upd_ne ld, upd_same], h4.same sx⟩, hg, fun H' hM kx => ⟨rfl, ?_⟩⟩
    have nxH : H x = none := (Same.new n).free nx
    exact k x H' hM (fun b o e => kx _ _ (sx _ _ e) (ne_none nxH e)) nxH
theorem HandAt.nnew {H : Hp} {p c : Addr} (hh : HandAt H p) (n : H c = none) : c ≠ p := fun z => by
  obtain ⟨xs, e⟩ := hh.isL
  exact ne_none n e z.symm
def SmV (H : Hp) : Nat → V → V → Prop
  | 0, _, _ => False
  | j + 1, x, y => (∃ i, x = .int i ∧ y = .int i) ∨ (∃ b, x = .bl b ∧ y = .bl b) ∨ (x = .non ∧ y = .non) ∨ (∃ s, x = .str s ∧ y = .str s) ∨
    ∃ (p q : Addr) (xs ys : List V), x = .ref p ∧ y = .ref q ∧ ((H p = some (.tup xs) ∧ H q = some (.tup ys)) ∨ (H p = some (.lst xs) ∧ H q = some (.lst ys))) ∧ xs.length = ys.length ∧ ys.length ≤ 1000000 ∧ ∀ (i : Nat) u v, xs[i]? = some u → ys[i]? = some v → SmV H j u v
theorem SmV.same {H H' : Hp} (s : Same H H') : ∀ {j : Nat} {x y : V}, SmV H j x y → SmV H' j x y
  | 0, _, _, h => h
  | j + 1, x, y, h => by
    rcases h with h | h | h | h | ⟨p, q, xs, ys, e1, e2, e3, e4, e5, e6⟩
    · exact .inl h
    · exact .inr (.inl h)
    · exact .inr (.inr (.inl h))
    · exact .inr (.inr (.inr (.inl h)))
    · refine .inr (.inr (.inr (.inr ⟨p, q, xs, ys, e1, e2, ?_, e4, e5, fun i u v hu hv => SmV.same s (e6 i u v hu hv)⟩)))
      rcases e3 with ⟨a, b⟩ | ⟨a, b⟩
      · exact .inl ⟨s _ _ a, s _ _ b⟩
      · exact .inr ⟨s _ _ a, s _ _ b⟩
theorem SmV.int {H : Hp} {j : Nat} (i : Int) : SmV H (j + 1) (.int i) (.int i) := .inl ⟨i, rfl, rfl⟩
theorem SmV.pair {H : Hp} {j : Nat} {p q : Addr} {x y : Int} (h1 : H p = some (.tup [.int x, .int y])) (h2 : H q = some (.tup [.int x, .int y])) : SmV H (j + 2) (.ref p) (.ref q) := by
  refine .inr (.inr (.inr (.inr ⟨p, q, _, _, rfl, rfl, .inl ⟨h1, h2⟩, rfl, by simp, fun i u v hu hv => ?_⟩)))
  rw [hu] at hv
  cases hv
  match i, hu with
  | 0, hu => cases hu; exact SmV.int x
  | 1, hu => cases hu; exact SmV.int y
  | _ + 2, hu => simp at hu
def sp__law_same (K : PySem.W.Frag) (j : Nat) : Sp := fun vs H Q _ => ∃ (x y : V), vs = [x, y] ∧ SmV H j x y ∧ ∀ H', Same H H' → Q (.bl true) H'
theorem zero__law_same {K : PySem.W.Frag} {vs : List V} {H : Hp} {Q : VK} {E : XK} (h : sp__law_same K 0 vs H Q E) : False := by
  obtain ⟨_, _, _, h, _⟩ := h
  exact h
set_option maxHeartbeats 40000000 in
theorem ok__law_same {P : Program} {w : World} {K : PySem.W.Frag} {mg : Str → Option Value} {base : Heap} {a : Adr} (tx : Txt K mg a) : (j : Nat) → FnOk P w K mg base CX0 (j + 1) a.f__law_same a.d__law_same ["_law_one", "_law_due"] (sp__law_same K j)
  | 0 => ⟨fun vs H Q E h => (zero__law_same h).elim, fun A outer s H args us vs Q E _ _ _ _ h => (zero__law_same h).elim⟩
  | j + 1 => by
    have G__law_same := ok__law_same (P := P) (w := w) (base := base) tx j
    refine tx.F__law_same.ok sc__law_same (fun vs H Q E h => ?_) (fun cdv A outer s H vs Q E hr h => ?_)
    · obtain ⟨x, y, rfl, _⟩ := h
      rfl
    · obtain ⟨x, y, rfl , hs, k⟩ := h
      have hu := hu9 hr
      refine L2.Q.root (L2.Q.pss_cons (L2.Q.ps_if (L2.Q.pt_val (L2.Q.pe_callBN (rc := rIsiT K) call_isiT (by rfl) tx.z_isinstance bt_isinstance (L2.Q.pa_c (L2.Q.pv 1) (L2.Q.pa_c (L2.Q.tup2 (L2.Q.pe_bltn (v := .ty "list") (by rfl) tx.z_list bt_list rfl) (L2.Q.pe_bltn (v := .ty "tuple") (by rfl) tx.z_tuple bt_tuple rfl)) L2.Q.pa_nil)))) (L2.Q.pss_cons (L2.Q.ps_if (L2.Q.pw_pt (L2.Q.pw_or (L2.Q.pt_cmpR (r := rNeG K) (op_neG hu) (L2.Q.pe_callBN (rc := rIsi K) call_isiG (by rfl) tx.z_isinstance bt_isinstance (L2.Q.pa_c (L2.Q.pv 0) (L2.Q.pa_c (L2.Q.pe_bltn (v := .ty "list") (by rfl) tx.z_list bt_list rfl) L2.Q.pa_nil))) (L2.Q.pe_callBN (rc := rIsi K) call_isiG (by rfl) tx.z_isinstance bt_isinstance (L2.Q.pa_c (L2.Q.pv 1) (L2.Q.pa_c (L2.Q.pe_bltn (v := .ty "list") (by rfl) tx.z_list bt_list rfl) L2.Q.pa_nil))) (nomark _)) (L2.Q.pw_or1 (L2.Q.pt_cmpR (r := rNeG K) (op_neG hu) (L2.Q.pe_callBN (rc := rIsi K) call_isiG (by rfl) tx.z_isinstance bt_isinstance (L2.Q.pa_c (L2.Q.pv 0) (L2.Q.pa_c (L2.Q.pe_bltn (v := .ty "tuple") (by rfl) tx.z_tuple bt_tuple rfl) L2.Q.pa_nil))) (L2.Q.pe_callBN (rc := rIsi K) call_isiG (by rfl) tx.z_isinstance bt_isinstance (L2.Q.pa_c (L2.Q.pv 1) (L2.Q.pa_c (L2.Q.pe_bltn (v := .ty "tuple") (by rfl) tx.z_tuple bt_tuple rfl) L2.Q.pa_nil))) (nomark _))))) (L2.Q.pss_one (L2.Q.ps_ret L2.Q.pe_bl)) L2.Q.pss_nil)
        (L2.Q.pss_one (L2.Q.ps_ret (L2.Q.pe_and (L2.Q.pe_cmpR (r := rEqG K) (op_eqG hu) (L2.Q.pe_callBN (rc := rLen K) call_lenG (by rfl) tx.z_len bt_len (L2.Q.pa_c (L2.Q.pv 0) L2.Q.pa_nil)) (L2.Q.pe_callBN (rc := rLen K) call_lenG (by rfl) tx.z_len bt_len (L2.Q.pa_c (L2.Q.pv 1) L2.Q.pa_nil)) (nomark _)) (L2.Q.pe_one (L2.Q.pe_callBN (rc := rAll K) (call_allG rfl) (by rfl) tx.z_all bt_all (L2.Q.pa_c (L2.Q.pe_comp (k := 1) (idx := [1, 0]) (N := ["_law_k", "_law_due", "_law_one"]) (blk_sc (sc := defScope s__law_same) (NX := ["_law_one", "_law_due"]) rfl rfl rfl (by decide +kernel)) rfl (L2.Q.pi_range1N (by rfl) tx.z_range (L2.Q.pa_c (L2.Q.pe_callBN (rc := rLen K) call_lenG (by rfl) tx.z_len bt_len (L2.Q.pa_c (L2.Q.pv 1) L2.Q.pa_nil)) L2.Q.pa_nil)) (fun _ _ _ _ => (L2.Q.pg_name (i := 0) (show (["_law_k", "_law_due", "_law_one"] : List Str).Nodup by decide +kernel) rfl (Or.inl rfl))) (own_name (by decide)) (fun _ _ _ _ => L2.Q.pts_nil) (fun _ _ _ _ => (L2.Q.pe_callN (G__law_same) (hr.mono (by omega)) (by rfl) tx.g__law_same tx.F__law_same.kp tx.b__law_same .nil pass0 (L2.Q.pa_c (L2.Q.pe_ixK (K' := K) (L2.Q.pv 2) (L2.Q.pv 0) (fun _ _ => rfl)) (L2.Q.pa_c (L2.Q.pe_ixK (K' := K) (L2.Q.pv 1) (L2.Q.pv 0) (fun _ _ => rfl)) L2.Q.pa_nil))))) L2.Q.pa_nil))))))) L2.Q.pss_nil)
        (L2.Q.pss_cons (L2.Q.ps_if (L2.Q.pw_pt (L2.Q.pw_or (L2.Q.pt_val (L2.Q.pe_callBN (rc := rIsi K) call_isiG (by rfl) tx.z_isinstance bt_isinstance (L2.Q.pa_c (L2.Q.pv 0) (L2.Q.pa_c (L2.Q.pe_bltn (v := .ty "bool") (by rfl) tx.z_bool bt_bool rfl) L2.Q.pa_nil)))) (L2.Q.pw_or1 (L2.Q.pt_val (L2.Q.pe_callBN (rc := rIsi K) call_isiG (by rfl) tx.z_isinstance bt_isinstance (L2.Q.pa_c (L2.Q.pv 1) (L2.Q.pa_c (L2.Q.pe_bltn (v := .ty "bool") (by rfl) tx.z_bool bt_bool rfl) L2.Q.pa_nil))))))) (L2.Q.pss_one (L2.Q.ps_ret (L2.Q.pe_and (L2.Q.pe_callBN (rc := rIsi K) call_isiG (by rfl) tx.z_isinstance bt_isinstance (L2.Q.pa_c (L2.Q.pv 0) (L2.Q.pa_c (L2.Q.pe_bltn (v := .ty "bool") (by rfl) tx.z_bool bt_bool rfl) L2.Q.pa_nil))) (L2.Q.pe_and (L2.Q.pe_callBN (rc := rIsi K) call_isiG (by rfl) tx.z_isinstance bt_isinstance (L2.Q.pa_c (L2.Q.pv 1) (L2.Q.pa_c (L2.Q.pe_bltn (v := .ty "bool") (by rfl) tx.z_bool bt_bool rfl) L2.Q.pa_nil))) (L2.Q.pe_one (L2.Q.pe_cmpR (r := rEqG K) (op_eqG hu) (L2.Q.pv 0) (L2.Q.pv 1) (nomark _))))))) L2.Q.pss_nil)
        (L2.Q.pss_cons (L2.Q.ps_if (L2.Q.pt_val (L2.Q.pe_callBN (rc := rIsi K) call_isiG (by rfl) tx.z_isinstance bt_isinstance (L2.Q.pa_c (L2.Q.pv 1) (L2.Q.pa_c (L2.Q.pe_bltn (v := .ty "int") (by rfl) tx.z_int bt_int rfl) L2.Q.pa_nil)))) (L2.Q.pss_one (L2.Q.ps_ret (L2.Q.pe_and (L2.Q.pe_callBN (rc := rIsi K) call_isiG (by rfl) tx.z_isinstance bt_isinstance (L2.Q.pa_c (L2.Q.pv 0) (L2.Q.pa_c (L2.Q.pe_bltn (v := .ty "int") (by rfl) tx.z_int bt_int rfl) L2.Q.pa_nil))) (L2.Q.pe_one (L2.Q.pe_cmpR (r := rEqG K) (op_eqG hu) (L2.Q.pv 0) (L2.Q.pv 1) (nomark _)))))) L2.Q.pss_nil)
        (L2.Q.pss_cons (L2.Q.ps_if (L2.Q.pt_val (L2.Q.pe_callBN (rc := rIsi K) call_isiG (by rfl) tx.z_isinstance bt_isinstance (L2.Q.pa_c (L2.Q.pv 1) (L2.Q.pa_c (L2.Q.pe_bltn (v := .ty "str") (by rfl) tx.z_str bt_str rfl) L2.Q.pa_nil)))) (L2.Q.pss_one (L2.Q.ps_ret (L2.Q.pe_and (L2.Q.pe_callBN (rc := rIsi K) call_isiG (by rfl) tx.z_isinstance bt_isinstance (L2.Q.pa_c (L2.Q.pv 0) (L2.Q.pa_c (L2.Q.pe_bltn (v := .ty "str") (by rfl) tx.z_str bt_str rfl) L2.Q.pa_nil))) (L2.Q.pe_one (L2.Q.pe_cmpR (r := rEqG K) (op_eqG hu) (L2.Q.pv 0) (L2.Q.pv 1) (nomark _)))))) L2.Q.pss_nil)
        (L2.Q.pss_one (L2.Q.ps_ret (L2.Q.pe_and (L2.Q.pe_cmpR op_isG (L2.Q.pv 0) L2.Q.pe_non (nomark _)) (L2.Q.pe_one (L2.Q.pe_cmpR op_isG (L2.Q.pv 1) L2.Q.pe_non (nomark _)))))))))) ?_
      refine rd_start (σ := [some x, some y]) rfl ?_
      repeat walk_at "gs"
      intro T nT
      repeat walk_at "gs"
      rcases hs with ⟨i, rfl, rfl⟩ | ⟨b, rfl, rfl⟩ | ⟨rfl, rfl⟩ | ⟨z, rfl, rfl⟩ | ⟨p, q, xs, ys, rfl, rfl, e3, e4, e5, e6⟩
      · refine rd_isiT (Ts := ["list", "tuple"]) upd_same (.int i) rfl ?_
        repeat walk_at "gs"
        refine rd_isi (isi_bool (.int i)) ?_
        repeat walk_at "gs"
        refine rd_isi (isi_bool (.int i)) ?_
        repeat walk_at "gs"
        refine rd_isi (isi_int (.int i)) ?_
        repeat walk_at "gs"
        refine rd_isi (isi_int (.int i)) ?_
        repeat walk_at "gs"
        rw [decide_eq_true rfl]
        exact k _ (Same.new nT)
      · refine rd_isiT (Ts := ["list", "tuple"]) upd_same (.bl b) rfl ?_
        repeat walk_at "gs"
        refine rd_isi (isi_bool (.bl b)) ?_
        repeat walk_at "gs"
        refine rd_isi (isi_bool (.bl b)) ?_
        repeat walk_at "gs"
        refine rd_isi (isi_bool (.bl b)) ?_
        repeat walk_at "gs"
        rw [show eqV (.bl b) (.bl b) = true by cases b <;> rfl]
        exact k _ (Same.new nT)
      · refine rd_isiT (Ts := ["list", "tuple"]) upd_same .non rfl ?_
        repeat walk_at "gs"
        refine rd_isi (isi_bool .non) ?_
        repeat walk_at "gs"
        refine rd_isi (isi_bool .non) ?_
        repeat walk_at "gs"
        refine rd_isi (isi_int .non) ?_
        repeat walk_at "gs"
        refine rd_isi (isi_str .non) ?_
        repeat walk_at "gs"
        exact k _ (Same.new nT)
      · refine rd_isiT (Ts := ["list", "tuple"]) upd_same (.str z) rfl ?_
        repeat walk_at "gs"
        refine rd_isi (isi_bool (.str z)) ?_
        repeat walk_at "gs"
        refine rd_isi (isi_bool (.str z)) ?_
        repeat walk_at "gs"
        refine rd_isi (isi_int (.str z)) ?_
        repeat walk_at "gs"
        refine rd_isi (isi_str (.str z)) ?_
        repeat walk_at "gs"
        refine rd_isi (isi_str (.str z)) ?_
        repeat walk_at "gs"
        rw [show eqV (.str z) (.str z) = true from beq_self_eq_true z]
        exact k _ (Same.new nT)
      · have sT := Same.new (o := .tup [.ty "list", .ty "tuple"]) nT
        have hb : ∃ L : List V → Bool, True := ⟨fun _ => true, trivial⟩
        rcases e3 with ⟨a1, a2⟩ | ⟨a1, a2⟩
        · have c1 := sT _ _ a1
          have c2 := sT _ _ a2
          generalize hH1 : upd H T (.tup [.ty "list", .ty "tuple"]) = H1 at c1 c2 sT ⊢
          have eT : H1 T = some (.tup [.ty "list", .ty "tuple"]) := by rw [← hH1]; exact upd_same
          refine rd_isiT (Ts := ["list", "tuple"]) eT (.tup c2) rfl ?_
          repeat walk_at "gs"
          refine rd_isi (isi_list (.tup c1)) ?_
          repeat walk_at "gs"
          refine rd_isi (isi_list (.tup c2)) ?_
          repeat walk_at "gs"
          refine rd_isi (isi_tuple (.tup c1)) ?_
          repeat walk_at "gs"
          refine rd_isi (isi_tuple (.tup c2)) ?_
          repeat walk_at "gs"
          refine rd_dec (fun _ => ?_) (fun h => absurd (by rw [e4]) h)
          repeat walk_at "gs"
          refine ⟨by omega, by omega, ?_⟩
          refine comp_range (fun i zs H' => Same H1 H' ∧ zs.length = i ∧ ∀ z ∈ zs, z = .bl true) ⟨Same.refl _, rfl, fun z h => by simp at h⟩ (sz_le (by omega)) (fun i zs H' hi ⟨_, h, _⟩ => by omega) (fun i zs H' hi ⟨s1, h1, h2⟩ => ?_) (fun zs H' ⟨s1, h1, h2⟩ => ?_)
          · have hi2 : i < ys.length := by omega
            have hi1 : i < xs.length := by omega
            have g1 : atI xs (0 + (i : Int)) = some xs[i] := by rw [Int.zero_add]; exact atI_nat (List.getElem?_eq_getElem hi1)
            have g2 : atI ys (0 + (i : Int)) = some ys[i] := by rw [Int.zero_add]; exact atI_nat (List.getElem?_eq_getElem hi2)
            have d1 := s1 _ _ c1
            have d2 := s1 _ _ c2
            repeat walk_at "gs"
            refine ⟨_, _, rfl, SmV.same (sT.trans s1) (e6 i _ _ (List.getElem?_eq_getElem hi1) (List.getElem?_eq_getElem hi2)), fun H2 s2 => ?_⟩
            refine ⟨s1.trans s2, by rw [List.length_append, h1]; rfl, fun z hz => ?_⟩
            rcases List.mem_append.mp hz with h | h
            · exact h2 z h
            · exact List.mem_singleton.mp h
          · intro L nL
            repeat walk_at "gs"
            refine rd_allT (SqL.of upd_same) h2 ?_
            exact k _ ((sT.trans s1).trans (Same.new nL))
        · have c1 := sT _ _ a1
          have c2 := sT _ _ a2
          generalize hH1 : upd H T (.tup [.ty "list", .ty "tuple"]) = H1 at c1 c2 sT ⊢
          have eT : H1 T = some (.tup [.ty "list", .ty "tuple"]) := by rw [← hH1]; exact upd_same
          refine rd_isiT (Ts := ["list", "tuple"]) eT (.lst c2) rfl ?_
          repeat walk_at "gs"
          refine rd_isi (isi_list (.lst c1)) ?_
          repeat walk_at "gs"
          refine rd_isi (isi_list (.lst c2)) ?_
          repeat walk_at "gs"
          refine rd_isi (isi_tuple (.lst c1)) ?_
          repeat walk_at "gs"
          refine rd_isi (isi_tuple (.lst c2)) ?_
          repeat walk_at "gs"
          refine rd_dec (fun _ => ?_) (fun h => absurd (by rw [e4]) h)
          repeat walk_at "gs"
          refine ⟨by omega, by omega, ?_⟩
          refine comp_range (fun i zs H' => Same H1 H' ∧ zs.length = i ∧ ∀ z ∈ zs, z = .bl true) ⟨Same.refl _, rfl, fun z h => by simp at h⟩ (sz_le (by omega)) (fun i zs H' hi ⟨_, h, _⟩ => by omega) (fun i zs H' hi ⟨s1, h1, h2⟩ => ?_) (fun zs H' ⟨s1, h1, h2⟩ => ?_)
          · have hi2 : i < ys.length := by omega
            have hi1 : i < xs.length := by omega
            have g1 : atI xs (0 + (i : Int)) = some xs[i] := by rw [Int.zero_add]; exact atI_nat (List.getElem?_eq_getElem hi1)
            have g2 : atI ys (0 + (i : Int)) = some ys[i] := by rw [Int.zero_add]; exact atI_nat (List.getElem?_eq_getElem hi2)
            have d1 := s1 _ _ c1
            have d2 := s1 _ _ c2
            repeat walk_at "gs"
            refine ⟨_, _, rfl, SmV.same (sT.trans s1) (e6 i _ _ (List.getElem?_eq_getElem hi1) (List.getElem?_eq_getElem hi2)), fun H2 s2 => ?_⟩
            refine ⟨s1.trans s2, by rw [List.length_append, h1]; rfl, fun z hz => ?_⟩
            rcases List.mem_append.mp hz with h | h
            · exact h2 z h
            · exact List.mem_singleton.mp h
          · intro L nL
            repeat walk_at "gs"
            refine rd_allT (SqL.of upd_same) h2 ?_
            exact k _ ((sT.trans s1).trans (Same.new nL))
def sumA : List (Int × Int) → Int
  | [] => 0
  | t :: ps => t.1 + sumA ps
def Up : List (Int × Int) → Prop
  | [] => True
  | t :: ps => 1 ≤ t.1 ∧ (∀ u ∈ ps, t.2 ≤ u.2) ∧ Up ps
def sp_may_be (K : PySem.W.Frag) : Sp := fun vs H Q _ => ∃ (v : V) (t : Addr) (o d on : Int), vs = [v, .ref t, .int on] ∧ H t = some (.tup [.int o, .int d]) ∧ Q (.bl (decide (o = on) || decide (d = 0))) H
set_option maxHeartbeats 40000000 in
theorem ok_may_be {P : Program} {w : World} {K : PySem.W.Frag} {mg : Str → Option Value} {base : Heap} {a : Adr} (tx : Txt K mg a) : FnOk P w K mg base CX0 1 a.f_may_be a.d_may_be ["machine", "state", "on"] (sp_may_be K) := by
  refine tx.F_may_be.ok sc_may_be (fun vs H Q E h => ?_) (fun cdv A outer s H vs Q E hr h => ?_)
  · obtain ⟨v, t, o, d, on, rfl, _⟩ := h
    rfl
  · obtain ⟨v, t, o, d, on, rfl , ht, k⟩ := h
    have hu := hu9 hr
    refine L2.Q.root (L2.Q.pss_one (L2.Q.ps_ret (L2.Q.pe_or (L2.Q.pe_cmpR (r := rEqG K) (op_eqG hu) (L2.Q.pe_ixK (K' := K) (L2.Q.pv 1) L2.Q.pe_int (fun _ _ => rfl)) (L2.Q.pv 2) (nomark _)) (L2.Q.pe_one (L2.Q.pe_cmpR (r := rEqG K) (op_eqG hu) (L2.Q.pe_ixK (K' := K) (L2.Q.pv 1) L2.Q.pe_int (fun _ _ => rfl)) L2.Q.pe_int (nomark _)))))) ?_
    refine rd_start (σ := [some v, some (.ref t), some (.int on)]) rfl ?_
    repeat walk_at "go"
    refine rd_dec (fun h => ?_) (fun h => ?_)
    · rw [decide_eq_true h, Bool.true_or] at k
      exact k
    · rw [decide_eq_false h, Bool.false_or] at k
      repeat walk_at "go"
      exact k
def aft (m : MS) (o d on : Int) : Int × Int := if o = on then (on, max (d - 1) 0) else if on = 1 then (1, m.up - 1) else (0, m.down - 1)
def sp_state_after (K : PySem.W.Frag) (C : Addr) : Sp := fun vs H Q _ => ∃ (q : Addr) (m : MS) (t : Addr) (o d on : Int), vs = [.ref q, .ref t, .int on] ∧ MachAt C H q m ∧ H t = some (.tup [.int o, .int d]) ∧ (o = on ∨ d = 0) ∧
  ∀ T H', Same H H' → H T = none → H' T = some (.tup [.int (aft m o d on).1, .int (aft m o d on).2]) → Q (.ref T) H'
set_option maxHeartbeats 40000000 in
theorem ok_state_after {P : Program} {w : World} {K : PySem.W.Frag} {mg : Str → Option Value} {base : Heap} {a : Adr} (tx : Txt K mg a) : FnOk P w K mg base CX0 2 a.f_state_after a.d_state_after ["machine", "state", "on"] (sp_state_after K a.c_Machine) := by
  have G_may_be := ok_may_be (P := P) (w := w) (base := base) tx
  refine tx.F_state_after.ok sc_state_after (fun vs H Q E h => ?_) (fun cdv A outer s H vs Q E hr h => ?_)
  · obtain ⟨q, m, t, o, d, on, rfl, _⟩ := h
    rfl
  · obtain ⟨q, m, t, o, d, on, rfl , hm, ht, hmay, k⟩ := h
    have hu := hu9 hr
    refine L2.Q.root (L2.Q.pss_cons (L2.Q.ps_if (L2.Q.pt_not (L2.Q.pt_val (L2.Q.pe_callN (G_may_be) (hr.mono (by decide)) (by rfl) tx.g_may_be tx.F_may_be.kp tx.b_may_be .nil pass0 (L2.Q.pa_c (L2.Q.pv 0) (L2.Q.pa_c (L2.Q.pv 1) (L2.Q.pa_c (L2.Q.pv 2) L2.Q.pa_nil)))))) (L2.Q.pss_one L2.Q.ps_never) L2.Q.pss_nil)
      (L2.Q.pss_cons (L2.Q.ps_if (L2.Q.pt_cmpR (r := rEqG K) (op_eqG hu) (L2.Q.pe_ixK (K' := K) (L2.Q.pv 1) L2.Q.pe_int (fun _ _ => rfl)) (L2.Q.pv 2) (nomark _)) (L2.Q.pss_one (L2.Q.ps_ret (L2.Q.tup2 (L2.Q.pv 2) (L2.Q.pe_callBN (call_maxG rfl) (by rfl) tx.z_max bt_max (L2.Q.pa_c (L2.Q.pe_op op_sub (L2.Q.pe_ixK (K' := K) (L2.Q.pv 1) L2.Q.pe_int (fun _ _ => rfl)) L2.Q.pe_int) (L2.Q.pa_c L2.Q.pe_int L2.Q.pa_nil)))))) L2.Q.pss_nil)
      (L2.Q.pss_cons (L2.Q.ps_if (L2.Q.pt_cmpR (r := rEqG K) (op_eqG hu) (L2.Q.pv 2) L2.Q.pe_int (nomark _)) (L2.Q.pss_one (L2.Q.ps_ret (L2.Q.tup2 L2.Q.pe_int (L2.Q.pe_op op_sub (L2.Q.pe_fldK (K' := K) (L2.Q.pv 0) rfl) L2.Q.pe_int)))) L2.Q.pss_nil)
      (L2.Q.pss_one (L2.Q.ps_ret (L2.Q.tup2 L2.Q.pe_int (L2.Q.pe_op op_sub (L2.Q.pe_fldK (K' := K) (L2.Q.pv 0) rfl) L2.Q.pe_int))))))) ?_
    obtain ⟨dx, pl, hq, _⟩ := hm.ex
    refine rd_start (σ := [some (.ref q), some (.ref t), some (.int on)]) rfl ?_
    repeat walk_at "go"
    refine ⟨_, _, _, _, _, rfl, ht, ?_⟩
    repeat walk_at "go"
    rw [show (decide (o = on) || decide (d = 0)) = true by rcases hmay with h | h <;> simp [h]]
    repeat walk_at "go"
    unfold aft at k
    refine rd_dec (fun h => ?_) (fun h => ?_)
    · rw [if_pos h] at k
      repeat walk_at "go"
      intro T nT
      repeat walk_at "go"
      exact k _ _ (Same.new nT) nT upd_same
    · rw [if_neg h] at k
      repeat walk_at "go"
      refine rd_dec (fun h1 => ?_) (fun h1 => ?_)
      · rw [if_pos h1] at k
        repeat walk_at "go"
        refine rd_get hq tx.C_Machine tx.n_Machine_up rfl ?_
        repeat walk_at "go"
        intro T nT
        repeat walk_at "go"
        exact k _ _ (Same.new nT) nT upd_same
      · rw [if_neg h1] at k
        repeat walk_at "go"
        refine rd_get hq tx.C_Machine tx.n_Machine_down rfl ?_
        repeat walk_at "go"
        intro T nT
        repeat walk_at "go"
        exact k _ _ (Same.new nT) nT upd_same
def Bit (o : Int) : Prop := o = 0 ∨ o = 1
theorem aft_ok {m : MS} (hg : m.Good) {o d on : Int} (ho : Bit on) : Bit (aft m o d on).1 ∧ 0 ≤ (aft m o d on).2 := by
  obtain ⟨u0, u1⟩ := hg.up
  obtain ⟨d0, d1⟩ := hg.down
  unfold aft
  split
  · exact ⟨ho, by show 0 ≤ max (d - 1) 0; omega⟩
  · split
    · exact ⟨.inr rfl, by show 0 ≤ m.up - 1; omega⟩
    · exact ⟨.inl rfl, by show 0 ≤ m.down - 1; omega⟩
structure RL {α : Type} (P : Addr → α → Prop) (as : List Addr) (xs : List α) : Prop where
  len : as.length = xs.length
  at_ : ∀ (j : Nat) a x, as[j]? = some a → xs[j]? = some x → P a x
theorem RL.nil {α : Type} {P : Addr → α → Prop} : RL P [] [] := ⟨rfl, fun j a x h => by simp at h⟩
theorem RL.imp {α : Type} {P P' : Addr → α → Prop} {as : List Addr} {xs : List α} (h : RL P as xs) (f : ∀ a x, P a x → P' a x) : RL P' as xs := ⟨h.len, fun j a x h1 h2 => f a x (h.at_ j a x h1 h2)⟩
theorem RL.snoc {α : Type} {P : Addr → α → Prop} {as : List Addr} {xs : List α} (h : RL P as xs) {a : Addr} {x : α} (hp : P a x) : RL P (as ++ [a]) (xs ++ [x]) := by
  refine ⟨by rw [List.length_append, List.length_append, h.len]; rfl, fun j q u hq hu => ?_⟩
  by_cases hj : j < as.length
  · rw [List.getElem?_append_left hj] at hq
    rw [List.getElem?_append_left (by rw [← h.len]; exact hj)] at hu
    exact h.at_ j q u hq hu
  · have hj2 : j < (as ++ [a]).length := (List.getElem?_eq_some_iff.mp hq).1
    rw [List.length_append, List.length_singleton] at hj2
    have e : j = as.length := by omega
    subst e
    rw [List.getElem?_append_right (Nat.le_refl _), Nat.sub_self] at hq
    rw [h.len, List.getElem?_append_right (Nat.le_refl _), Nat.sub_self] at hu
    cases hq
    cases hu
    exact hp
theorem RL.two {α : Type} {P : Addr → α → Prop} {as : List Addr} {xs : List α} (h : RL P as xs) (hl : as.length = 2) : ∃ a b x y, as = [a, b] ∧ xs = [x, y] ∧ P a x ∧ P b y := by
  have hx : xs.length = 2 := by rw [← h.len]; exact hl
  match as, xs, hl, hx with
  | [a, b], [x, y], _, _ => exact ⟨a, b, x, y, rfl, rfl, h.at_ 0 a x rfl rfl, h.at_ 1 b y rfl rfl⟩
def HandSh (o : HO) : Prop := (∃ (d c : Int) (q : Addr), o = .lst [.int d, .int c, .ref q]) ∨ ∃ (C dx : Addr), o = .ins C dx []
def Tr (H H' : Hp) : Prop := ∀ b o, H b = some o → ¬ HandSh o → H' b = some o
theorem Tr.refl (H : Hp) : Tr H H := fun _ _ e _ => e
theorem Tr.trans {H H1 H2 : Hp} (a : Tr H H1) (b : Tr H1 H2) : Tr H H2 := fun c o e n => b c o (a c o e n) n
theorem _root_.L2.Same.tr {H H' : Hp} (s : Same H H') : Tr H H' := fun b o e _ => s b o e
theorem HandAt.tr {H H' : Hp} {p : Addr} (hh : HandAt H p) (k : Keep p H H') : Tr H H' := fun b o e n => k b o e fun z => by
  obtain ⟨d, c, q, ms, hp, _⟩ := hh.ex
  rw [z, hp] at e
  cases e
  exact n (.inl ⟨d, c, q, rfl⟩)
def Tk (H H' : Hp) : Prop := ∀ b xs, H b = some (.tup xs) → H' b = some (.tup xs)
theorem Tk.trans {H H1 H2 : Hp} (a : Tk H H1) (b : Tk H1 H2) : Tk H H2 := fun c o e => b c o (a c o e)
theorem nh_tup {xs : List V} : ¬ HandSh (.tup xs) := fun z => by rcases z with ⟨_, _, _, e⟩ | ⟨_, _, e⟩ <;> cases e
theorem nh_ins {C dx : Addr} {fs : List (Str × V)} (h : fs ≠ []) : ¬ HandSh (.ins C dx fs) := fun z => by
  rcases z with ⟨_, _, _, e⟩ | ⟨_, _, e⟩
  · cases e
  · cases e; exact h rfl
theorem nh_len {xs : List V} (h : xs.length ≠ 3) : ¬ HandSh (.lst xs) := fun z => by
  rcases z with ⟨_, _, _, e⟩ | ⟨_, _, e⟩
  · cases e; exact h rfl
  · cases e
theorem nh_refs {qs : List Addr} : ¬ HandSh (.lst (qs.map V.ref)) := fun z => by
  rcases z with ⟨_, _, _, e⟩ | ⟨_, _, e⟩
  · cases qs with
    | nil => cases e
    | cons x xs => cases e
  · cases e
theorem Tr.tk {H H' : Hp} (s : Tr H H') : Tk H H' := fun b xs e => s b _ e nh_tup
theorem _root_.L2.Same.tk {H H' : Hp} (s : Same H H') : Tk H H' := fun b xs e => s b _ e
def del (l : Addr) (H : Hp) : Hp := fun b => if b = l then none else H b
theorem del_at {l b : Addr} {H : Hp} (n : b ≠ l) : del l H b = H b := by unfold del; rw [if_neg n]
theorem del_le {l : Addr} {H : Hp} : Same (del l H) H := fun b o e => by
  unfold del at e
  split at e
  · cases e
  · exact e
theorem del_l {l : Addr} {H : Hp} : del l H l = none := by unfold del; rw [if_pos rfl]
theorem del_some {l b : Addr} {H : Hp} {o : HO} (e : H b = some o) (n : b ≠ l) : del l H b = some o := by rw [del_at n]; exact e
theorem Tr.del {l : Addr} {H H' : Hp} (s : Tr H H') : Tr (del l H) (del l H') := fun b o e n => by
  by_cases hb : b = l
  · subst hb; rw [del_l] at e; cases e
  · rw [del_at hb] at e ⊢; exact s b o e n
theorem del_upd {l : Addr} {H : Hp} {o : HO} : del l (upd H l o) = del l H := by
  funext b
  by_cases hb : b = l
  · subst hb; rw [del_l, del_l]
  · rw [del_at hb, del_at hb, upd_ne hb]
theorem Tup2.tr {H H' : Hp} {qs : List Addr} {ps : List (Int × Int)} (h : Tup2 H qs ps) (s : Tk H H') : Tup2 H' qs ps := ⟨h.len, fun j q t h1 h2 => s _ _ (h.at_ j q t h1 h2)⟩
theorem PcAt.tr {H H' : Hp} {p : Addr} {ps : List (Int × Int)} (h : PcAt H p ps) (s : Tr H H') : PcAt H' p ps := by
  obtain ⟨qs, h1, h2⟩ := h.ex
  exact ⟨qs, s _ _ h1 nh_refs, h2.tr s.tk⟩
theorem SpecAt.tr {H H' : Hp} {p : Addr} {m : MS} (h : SpecAt H p m) (s : Tr H H') : SpecAt H' p m := by
  obtain ⟨pl, h1, h2⟩ := h.ex
  exact ⟨pl, s _ _ h1 (nh_len (by simp)), h2.tr s⟩
theorem MachAt.tr {C : Addr} {H H' : Hp} {p : Addr} {m : MS} (h : MachAt C H p m) (s : Tr H H') : MachAt C H' p m := by
  obtain ⟨dx, pl, h1, h2⟩ := h.ex
  exact ⟨dx, pl, s _ _ h1 (nh_ins (by simp [mFs])), h2.tr s⟩
structure SS where
  cap : Int
  into : Int
  out : Int
  takes : Int
  gives : Int
structure SS.Good (s : SS) : Prop where
  cap : 0 ≤ s.cap ∧ s.cap ≤ 8
  into : 0 ≤ s.into ∧ s.into ≤ 8
  out : 0 ≤ s.out ∧ s.out ≤ 8
  takes : Am s.takes
  gives : Am s.gives
def Lv (s : SS) (l n : Int) : Prop := 0 ≤ n ∧ n ≤ s.cap ∧ l - s.out ≤ n ∧ n ≤ l + s.into
instance (s : SS) (l n : Int) : Decidable (Lv s l n) := by unfold Lv; infer_instance
def dr (s : SS) (l n : Int) : Int := (if l < n then s.takes else s.gives) * (n - l)
def pw (s : SS) : Int → List Int → List Int → Int
  | l, p :: ps, n :: ns => p * dr s l n + pw s n ps ns
  | _, _, _ => 0
def sFs (s : SS) : List (Str × V) := [("cap", .int s.cap), ("into", .int s.into), ("out", .int s.out), ("takes", .int s.takes), ("gives", .int s.gives)]
structure SomeAt (H : Hp) (a : Addr) (s : SS) : Prop where
  at_ : H a = some (.lst [.int s.cap, .int s.into, .int s.out, .int s.takes, .int s.gives])
structure StoreAt (C : Addr) (H : Hp) (x : Addr) (s : SS) : Prop where
  ex : ∃ dx, H x = some (.ins C dx (sFs s))
theorem SomeAt.same {H H' : Hp} {a : Addr} {s : SS} (h : SomeAt H a s) (e : Same H H') : SomeAt H' a s := ⟨e _ _ h.at_⟩
theorem StoreAt.same {C : Addr} {H H' : Hp} {a : Addr} {s : SS} (h : StoreAt C H a s) (e : Same H H') : StoreAt C H' a s := by
  obtain ⟨dx, q⟩ := h.ex
  exact ⟨dx, e _ _ q⟩
theorem SomeAt.tr {H H' : Hp} {a : Addr} {s : SS} (h : SomeAt H a s) (e : Tr H H') : SomeAt H' a s := ⟨e _ _ h.at_ (nh_len (by simp))⟩
theorem StoreAt.tr {C : Addr} {H H' : Hp} {a : Addr} {s : SS} (h : StoreAt C H a s) (e : Tr H H') : StoreAt C H' a s := by
  obtain ⟨dx, q⟩ := h.ex
  exact ⟨dx, e _ _ q (nh_ins (by simp [sFs]))⟩
def StA (H : Hp) (q : Addr) (t : Int × Int) : Prop := H q = some (.tup [.int t.1, .int t.2])
structure StsAt (H : Hp) (t : Addr) (ss : List (Int × Int)) : Prop where
  ex : ∃ qs, H t = some (.tup (qs.map V.ref)) ∧ RL (StA H) qs ss
abbrev Ps := List (Int × Int) × Int
structure PosAt (H : Hp) (a : Addr) (P : Ps) : Prop where
  ex : ∃ t, H a = some (.tup [.ref t, .int P.2]) ∧ StsAt H t P.1
structure Hr where
  ons : List Int
  outs : List Int
  lev : Int
structure HrAt (H : Hp) (a : Addr) (h : Hr) : Prop where
  ex : ∃ t u, H a = some (.tup [.ref t, .ref u, .int h.lev]) ∧ H t = some (.tup (h.ons.map V.int)) ∧ H u = some (.tup (h.outs.map V.int))
structure PlanAt (H : Hp) (a : Addr) (hs : List Hr) : Prop where
  ex : ∃ qs, H a = some (.lst (qs.map V.ref)) ∧ RL (HrAt H) qs hs
structure PossAt (H : Hp) (a : Addr) (hs : List Ps) : Prop where
  ex : ∃ qs, H a = some (.lst (qs.map V.ref)) ∧ RL (PosAt H) qs hs
theorem StsAt.tk {H H' : Hp} {t : Addr} {ss : List (Int × Int)} (h : StsAt H t ss) (s : Tk H H') : StsAt H' t ss := by
  obtain ⟨qs, h1, h2⟩ := h.ex
  exact ⟨qs, s _ _ h1, h2.imp fun a x z => s _ _ z⟩
theorem PosAt.tk {H H' : Hp} {a : Addr} {P : Ps} (h : PosAt H a P) (s : Tk H H') : PosAt H' a P := by
  obtain ⟨t, h1, h2⟩ := h.ex
  exact ⟨t, s _ _ h1, h2.tk s⟩
theorem HrAt.tk {H H' : Hp} {a : Addr} {h : Hr} (x : HrAt H a h) (s : Tk H H') : HrAt H' a h := by
  obtain ⟨t, u, h1, h2, h3⟩ := x.ex
  exact ⟨t, u, s _ _ h1, s _ _ h2, s _ _ h3⟩
theorem PlanAt.tr {H H' : Hp} {a : Addr} {hs : List Hr} (x : PlanAt H a hs) (s : Tr H H') : PlanAt H' a hs := by
  obtain ⟨qs, h1, h2⟩ := x.ex
  exact ⟨qs, s _ _ h1 nh_refs, h2.imp fun a x z => z.tk s.tk⟩
theorem PossAt.tr {H H' : Hp} {a : Addr} {hs : List Ps} (x : PossAt H a hs) (s : Tr H H') : PossAt H' a hs := by
  obtain ⟨qs, h1, h2⟩ := x.ex
  exact ⟨qs, s _ _ h1 nh_refs, h2.imp fun a x z => z.tk s.tk⟩
structure WS where
  specs : List MS
  store : Option SS
  lack : Int
  x : Int
  y : Int
  wide : Int
structure WS.Good (W : WS) : Prop where
  specs : ∀ m ∈ W.specs, m.Good
  len : W.specs.length ≤ 6
  store : ∀ s, W.store = some s → s.Good
  lack : Am W.lack
  x : 1 ≤ W.x ∧ W.x ≤ 50000000000
  y : 1 ≤ W.y ∧ W.y ≤ 50000000000
  wide : W.wide = 0 ∨ W.wide = 1
structure SpecsAt (H : Hp) (l : Addr) (ms : List MS) : Prop where
  ex : ∃ qs, H l = some (.lst (qs.map V.ref)) ∧ RL (SpecAt H) qs ms
structure MachsAt (C : Addr) (H : Hp) (l : Addr) (ms : List MS) : Prop where
  ex : ∃ qs, H l = some (.lst (qs.map V.ref)) ∧ RL (MachAt C H) qs ms
def StoS (H : Hp) (v : V) : Option SS → Prop
  | none => v = .non
  | some s => ∃ a, v = .ref a ∧ SomeAt H a s
def StoO (C : Addr) (H : Hp) (v : V) : Option SS → Prop
  | none => v = .non
  | some s => ∃ a, v = .ref a ∧ StoreAt C H a s
theorem SpecsAt.tr {H H' : Hp} {l : Addr} {ms : List MS} (h : SpecsAt H l ms) (s : Tr H H') : SpecsAt H' l ms := by
  obtain ⟨qs, h1, h2⟩ := h.ex
  exact ⟨qs, s _ _ h1 nh_refs, h2.imp fun a x z => z.tr s⟩
theorem MachsAt.tr {C : Addr} {H H' : Hp} {l : Addr} {ms : List MS} (h : MachsAt C H l ms) (s : Tr H H') : MachsAt C H' l ms := by
  obtain ⟨qs, h1, h2⟩ := h.ex
  exact ⟨qs, s _ _ h1 nh_refs, h2.imp fun a x z => z.tr s⟩
theorem StoS.tr {H H' : Hp} {v : V} : ∀ {o : Option SS}, StoS H v o → Tr H H' → StoS H' v o
  | none, h, _ => h
  | some s, ⟨a, e, h⟩, t => ⟨a, e, h.tr t⟩
theorem StoO.tr {C : Addr} {H H' : Hp} {v : V} : ∀ {o : Option SS}, StoO C H v o → Tr H H' → StoO C H' v o
  | none, h, _ => h
  | some s, ⟨a, e, h⟩, t => ⟨a, e, h.tr t⟩
structure WSpecAt (H : Hp) (a : Addr) (W : WS) : Prop where
  ex : ∃ ls st b, H a = some (.lst [.ref ls, st, .int W.lack, .ref b, .int W.wide]) ∧ SpecsAt H ls W.specs ∧ StoS H st W.store ∧ H b = some (.lst [.int W.x, .int W.y])
theorem WSpecAt.tr {H H' : Hp} {a : Addr} {W : WS} (h : WSpecAt H a W) (s : Tr H H') : WSpecAt H' a W := by
  obtain ⟨ls, st, b, h1, h2, h3, h4⟩ := h.ex
  exact ⟨ls, st, b, s _ _ h1 (nh_len (by simp)), h2.tr s, h3.tr s, s _ _ h4 (nh_len (by simp))⟩
def wFs (lm : Addr) (st : V) (k : Int) : List (Str × V) := [("machines", .ref lm), ("store", st), ("lack", .int k)]
structure WorksAt (CW CM CS : Addr) (H : Hp) (w : Addr) (W : WS) : Prop where
  ex : ∃ dx lm st, H w = some (.ins CW dx (wFs lm st W.lack)) ∧ MachsAt CM H lm W.specs ∧ StoO CS H st W.store
theorem WorksAt.tr {CW CM CS : Addr} {H H' : Hp} {w : Addr} {W : WS} (h : WorksAt CW CM CS H w W) (s : Tr H H') : WorksAt CW CM CS H' w W := by
  obtain ⟨dx, lm, st, h1, h2, h3⟩ := h.ex
  exact ⟨dx, lm, st, s _ _ h1 (nh_ins (by simp [wFs])), h2.tr s, h3.tr s⟩
def VS (s : Int × Int) : Prop := Bit s.1 ∧ 0 ≤ s.2
def aftL : List MS → List (Int × Int) → List Int → List (Int × Int)
  | m :: ms, s :: ss, o :: os => aft m s.1 s.2 o :: aftL ms ss os
  | _, _, _ => []
theorem aftL_len : ∀ {ms : List MS} {ss : List (Int × Int)} {os : List Int}, ss.length = ms.length → os.length = ms.length → (aftL ms ss os).length = ms.length
  | [], _, _, _, _ => by simp [aftL]
  | m :: ms, s :: ss, o :: os, h1, h2 => by
    show (aft m s.1 s.2 o :: aftL ms ss os).length = _
    rw [List.length_cons, aftL_len (by simpa using h1) (by simpa using h2), List.length_cons]
  | _ :: _, [], _, h, _ => by cases h
  | _ :: _, _ :: _, [], _, h => by cases h
theorem aftL_get : ∀ {ms : List MS} {ss : List (Int × Int)} {os : List Int} {j : Nat} {m : MS} {s : Int × Int} {o : Int}, ms[j]? = some m → ss[j]? = some s → os[j]? = some o → (aftL ms ss os)[j]? = some (aft m s.1 s.2 o)
  | m :: ms, s :: ss, o :: os, 0, _, _, _, h1, h2, h3 => by cases h1; cases h2; cases h3; rfl
  | m :: ms, s :: ss, o :: os, j + 1, _, _, _, h1, h2, h3 => by
    show (aftL ms ss os)[j]? = _
    exact aftL_get h1 h2 h3
  | [], _, _, _, _, _, _, h, _, _ => by simp at h
  | _ :: _, [], _, _, _, _, _, _, h, _ => by simp at h
  | _ :: _, _ :: _, [], _, _, _, _, _, _, h => by simp at h
def May (ss : List (Int × Int)) (os : List Int) : Prop := ∀ (j : Nat) (s : Int × Int) (o : Int), ss[j]? = some s → os[j]? = some o → s.1 = o ∨ s.2 = 0
def LevOk (W : WS) (l : Int) : Prop := match W.store with | none => l = 0 | some s => 0 ≤ l ∧ l ≤ s.cap
def LvW (W : WS) (l n : Int) : Prop := match W.store with | none => n = 0 | some s => Lv s l n
structure PosOk (W : WS) (P : Ps) : Prop where
  len : P.1.length = W.specs.length
  vs : ∀ s ∈ P.1, VS s
  lev : LevOk W P.2
def OutOk (m : MS) (on out : Int) : Prop := (on = 0 → out = 0) ∧ (on ≠ 0 → m.least ≤ out ∧ out ≤ m.least + sumA m.pieces)
structure HourOk (W : WS) (P : Ps) (h : Hr) : Prop where
  ons : h.ons.length = W.specs.length
  outs : h.outs.length = W.specs.length
  bits : ∀ o ∈ h.ons, Bit o
  may : May P.1 h.ons
  out : ∀ (j : Nat) m on out, W.specs[j]? = some m → h.ons[j]? = some on → h.outs[j]? = some out → OutOk m on out
  lev : LvW W P.2 h.lev
def nxt (W : WS) (P : Ps) (h : Hr) : Ps := (aftL W.specs P.1 h.ons, h.lev)
theorem LvW.ok {W : WS} {l n : Int} (h : LvW W l n) : LevOk W n := by
  unfold LvW at h
  unfold LevOk
  cases e : W.store with
  | none => rw [e] at h; exact h
  | some s => rw [e] at h; exact ⟨h.1, h.2.1⟩
theorem HourOk.nxt {W : WS} {P : Ps} {h : Hr} (g : W.Good) (p : PosOk W P) (x : HourOk W P h) : PosOk W (nxt W P h) := by
  refine ⟨aftL_len p.len x.ons, fun s hs => ?_, x.lev.ok⟩
  obtain ⟨j, hj⟩ := List.getElem?_of_mem hs
  have hl := aftL_len p.len x.ons
  have hj' : j < W.specs.length := by rw [← hl]; exact (List.getElem?_eq_some_iff.mp hj).1
  have g1 : W.specs[j]? = some W.specs[j] := List.getElem?_eq_getElem hj'
  have g2 : P.1[j]? = some (P.1[j]'(by rw [p.len]; exact hj')) := List.getElem?_eq_getElem _
  have g3 : h.ons[j]? = some (h.ons[j]'(by rw [x.ons]; exact hj')) := List.getElem?_eq_getElem _
  replace hj : (aftL W.specs P.1 h.ons)[j]? = some s := hj
  rw [aftL_get g1 g2 g3] at hj
  cases hj
  exact aft_ok (g.specs _ (List.getElem_mem hj')) (x.bits _ (List.mem_of_getElem? g3))
def PlanOk (W : WS) : Ps → List Hr → Prop
  | _, [] => True
  | P, h :: hs => HourOk W P h ∧ PlanOk W (nxt W P h) hs
def endP (W : WS) : Ps → List Hr → Ps
  | P, [] => P
  | P, h :: hs => endP W (nxt W P h) hs
theorem PlanOk.snoc {W : WS} : ∀ {P : Ps} {hs : List Hr} {h : Hr}, PlanOk W P hs → HourOk W (endP W P hs) h → PlanOk W P (hs ++ [h])
  | _, [], _, _, x => ⟨x, trivial⟩
  | P, g :: hs, h, p, x => ⟨p.1, PlanOk.snoc p.2 x⟩
theorem PlanOk.pos {W : WS} (g : W.Good) : ∀ {P : Ps} {hs : List Hr}, PosOk W P → PlanOk W P hs → PosOk W (endP W P hs)
  | _, [], p, _ => p
  | P, h :: hs, p, x => PlanOk.pos (P := nxt W P h) (hs := hs) g (x.1.nxt g p) x.2
theorem PlanOk.take {W : WS} : ∀ {P : Ps} {hs : List Hr} {i : Nat} {h : Hr}, PlanOk W P hs → hs[i]? = some h → PlanOk W P (hs.take i) ∧ HourOk W (endP W P (hs.take i)) h
  | P, g :: hs, 0, h, x, e => by cases e; exact ⟨trivial, x.1⟩
  | P, g :: hs, i + 1, h, x, e => by
    have := PlanOk.take (i := i) (h := h) x.2 e
    exact ⟨⟨x.1, this.1⟩, this.2⟩
  | _, [], _, _, _, e => by simp at e
theorem take_snoc {α : Type} {l : List α} {i : Nat} {x : α} (h : l[i]? = some x) : l.take (i + 1) = l.take i ++ [x] := by
  rw [List.take_add_one, h]; rfl
theorem RL.get {α : Type} {P : Addr → α → Prop} {as : List Addr} {xs : List α} (h : RL P as xs) {i : Nat} {v : V} (hv : (as.map V.ref)[i]? = some v) : ∃ a x, as[i]? = some a ∧ v = .ref a ∧ xs[i]? = some x ∧ P a x := by
  rw [List.getElem?_map] at hv
  cases hq : as[i]? with
  | none => rw [hq] at hv; cases hv
  | some a =>
    rw [hq] at hv
    cases hv
    have li : i < xs.length := by rw [← h.len]; exact (List.getElem?_eq_some_iff.mp hq).1
    have hx : xs[i]? = some xs[i] := List.getElem?_eq_getElem li
    exact ⟨a, xs[i], rfl, rfl, hx, h.at_ i a _ hq hx⟩
theorem int_get {ns : List Int} {i : Nat} {x : V} (h : (ns.map V.int)[i]? = some x) : ∃ n, ns[i]? = some n ∧ x = .int n := by
  rw [List.getElem?_map] at h
  cases hq : ns[i]? with
  | none => rw [hq] at h; cases h
  | some n => rw [hq] at h; cases h; exact ⟨n, rfl, rfl⟩
theorem keep_fresh {H H1 H2 : Hp} {p : Addr} (np : H p = none) (s : Same H H1) (k : Keep p H1 H2) : Same H H2 := fun b o e => k _ _ (s _ _ e) (ne_none np e)
theorem RL.last {α : Type} {P : Addr → α → Prop} {as : List Addr} {xs : List α} {x : α} (h : RL P as (xs ++ [x])) : ∃ bs b, as = bs ++ [b] ∧ P b x := by
  have hl := h.len
  rw [List.length_append, List.length_singleton] at hl
  have hlt : xs.length < as.length := by omega
  refine ⟨as.take xs.length, as[xs.length], ?_, h.at_ xs.length _ _ (List.getElem?_eq_getElem hlt) (by simp)⟩
  have e := List.take_append_drop xs.length as
  rw [List.drop_eq_getElem_cons hlt, List.drop_of_length_le (by omega)] at e
  exact e.symm
theorem RL.take {α : Type} {P : Addr → α → Prop} {as : List Addr} {xs : List α} (h : RL P as xs) (i : Nat) : RL P (as.take i) (xs.take i) := by
  refine ⟨by rw [List.length_take, List.length_take, h.len], fun j a x h1 h2 => ?_⟩
  rw [List.getElem?_take] at h1 h2
  split at h1
  · rename_i hj
    rw [if_pos hj] at h2
    exact h.at_ j a x h1 h2
  · cases h1
theorem RL.drop {α : Type} {P : Addr → α → Prop} {as : List Addr} {xs : List α} (h : RL P as xs) (i : Nat) : RL P (as.drop i) (xs.drop i) := by
  refine ⟨by rw [List.length_drop, List.length_drop, h.len], fun j a x h1 h2 => ?_⟩
  rw [List.getElem?_drop] at h1 h2
  exact h.at_ _ a x h1 h2
def sp__law_state (K : PySem.W.Frag) : Sp := fun vs H Q _ => ∃ (p s : Addr) (m : MS), vs = [.ref p, .ref s] ∧ HandAt H p ∧ SpecAt H s m ∧ m.Good ∧
  ∀ (t : Addr) (o d : Int) H', H' t = some (.tup [.int o, .int d]) → ((o = 1 ∧ 0 ≤ d ∧ d < m.up) ∨ (o = 0 ∧ 0 ≤ d ∧ d < 60)) → HandAt H' p → Keep p H H' → Q (.ref t) H'
set_option maxHeartbeats 40000000 in
theorem ok__law_state {P : Program} {w : World} {K : PySem.W.Frag} {mg : Str → Option Value} {base : Heap} {a : Adr} (tx : Txt K mg a) : FnOk P w K mg base CX0 2 a.f__law_state a.d__law_state ["_law_hand", "_law_spec_here"] (sp__law_state K) := by
  have G__law_draw := ok__law_draw (P := P) (w := w) (base := base) tx
  refine tx.F__law_state.ok sc__law_state (fun vs H Q E h => ?_) (fun cdv A outer s H vs Q E hr h => ?_)
  · obtain ⟨p, s, m, rfl, _⟩ := h
    rfl
  · obtain ⟨p, s, m, rfl , hh, hs, hg, k⟩ := h
    have hu := hu9 hr
    refine L2.Q.root (L2.Q.pss_cons (L2.Q.ps_if (L2.Q.pt_cmpR (r := rEqG K) (op_eqG hu) (L2.Q.pe_callN (G__law_draw) (hr.mono (by decide)) (by rfl) tx.g__law_draw tx.F__law_draw.kp tx.b__law_draw .nil pass0 (L2.Q.pa_c (L2.Q.pv 0) (L2.Q.pa_c L2.Q.pe_int L2.Q.pa_nil))) L2.Q.pe_int (nomark _)) (L2.Q.pss_one (L2.Q.ps_ret (L2.Q.tup2 L2.Q.pe_int (L2.Q.pe_callN (G__law_draw) (hr.mono (by decide)) (by rfl) tx.g__law_draw tx.F__law_draw.kp tx.b__law_draw .nil pass0 (L2.Q.pa_c (L2.Q.pv 0) (L2.Q.pa_c (L2.Q.pe_ixK (K' := K) (L2.Q.pv 1) L2.Q.pe_int (fun _ _ => rfl)) L2.Q.pa_nil)))))) L2.Q.pss_nil)
      (L2.Q.pss_cons (L2.Q.ps_if (L2.Q.pt_cmpR (r := rEqG K) (op_eqG hu) (L2.Q.pe_callN (G__law_draw) (hr.mono (by decide)) (by rfl) tx.g__law_draw tx.F__law_draw.kp tx.b__law_draw .nil pass0 (L2.Q.pa_c (L2.Q.pv 0) (L2.Q.pa_c L2.Q.pe_int L2.Q.pa_nil))) L2.Q.pe_int (nomark _)) (L2.Q.pss_one (L2.Q.ps_ret (L2.Q.tup2 L2.Q.pe_int (L2.Q.pe_callN (G__law_draw) (hr.mono (by decide)) (by rfl) tx.g__law_draw tx.F__law_draw.kp tx.b__law_draw .nil pass0 (L2.Q.pa_c (L2.Q.pv 0) (L2.Q.pa_c L2.Q.pe_int L2.Q.pa_nil)))))) L2.Q.pss_nil)
      (L2.Q.pss_one (L2.Q.ps_ret (L2.Q.tup2 L2.Q.pe_int (L2.Q.pe_callN (G__law_draw) (hr.mono (by decide)) (by rfl) tx.g__law_draw tx.F__law_draw.kp tx.b__law_draw .nil pass0 (L2.Q.pa_c (L2.Q.pv 0) (L2.Q.pa_c (L2.Q.pe_ixK (K' := K) (L2.Q.pv 1) L2.Q.pe_int (fun _ _ => rfl)) L2.Q.pa_nil)))))))) ?_
    obtain ⟨u0, u1⟩ := hg.up
    obtain ⟨d0, d1⟩ := hg.down
    refine rd_start (σ := [some (.ref p), some (.ref s)]) rfl ?_
    repeat walk_at "go"
    refine ⟨p, _, rfl, hh, by decide, by decide, fun r1 H1 a1 b1 h1 k1 _ => ?_⟩
    have hs1 := hs.keep hh k1
    obtain ⟨pl, e1, _⟩ := hs1.ex
    repeat walk_at "go"
    refine rd_dec (fun h => ?_) (fun h => ?_)
    · repeat walk_at "go"
      refine ⟨p, _, rfl, h1, by omega, by omega, fun r2 H2 a2 b2 h2 k2 _ => ?_⟩
      repeat walk_at "go"
      intro T nT
      repeat walk_at "go"
      exact k _ _ _ _ upd_same (.inl ⟨rfl, a2, b2⟩) (h2.same (Same.new nT)) (k1.trans (k2.trans (Same.new nT).keep))
    · repeat walk_at "go"
      refine ⟨p, _, rfl, h1, by decide, by decide, fun r2 H2 a2 b2 h2 k2 _ => ?_⟩
      have hs2 := hs1.keep h1 k2
      obtain ⟨pl2, e2, _⟩ := hs2.ex
      repeat walk_at "go"
      refine rd_dec (fun h => ?_) (fun h => ?_)
      · repeat walk_at "go"
        refine ⟨p, _, rfl, h2, by decide, by decide, fun r3 H3 a3 b3 h3 k3 _ => ?_⟩
        repeat walk_at "go"
        intro T nT
        repeat walk_at "go"
        exact k _ _ _ _ upd_same (.inr ⟨rfl, a3, b3⟩) (h3.same (Same.new nT)) (k1.trans (k2.trans (k3.trans (Same.new nT).keep)))
      · repeat walk_at "go"
        refine ⟨p, _, rfl, h2, by omega, by omega, fun r3 H3 a3 b3 h3 k3 _ => ?_⟩
        repeat walk_at "go"
        intro T nT
        repeat walk_at "go"
        exact k _ _ _ _ upd_same (.inr ⟨rfl, a3, by omega⟩) (h3.same (Same.new nT)) (k1.trans (k2.trans (k3.trans (Same.new nT).keep)))
def flt (m : MS) : Int → Int → List Int → Nat → V
  | _, _, [], _ => .non
  | o, d, on :: r, i => if o = on ∨ d = 0 then flt m (aft m o d on).1 (aft m o d on).2 r (i + 1) else .int i
def Ok (m : MS) : Int → Int → List Int → Prop
  | _, _, [] => True
  | o, d, on :: r => (o = on ∨ d = 0) ∧ Ok m (aft m o d on).1 (aft m o d on).2 r
def ed (m : MS) : Int → Int → List Int → Int × Int
  | o, d, [] => (o, d)
  | o, d, on :: r => ed m (aft m o d on).1 (aft m o d on).2 r
theorem Ok_app {m : MS} : ∀ {xs ys : List Int} {o d : Int}, Ok m o d (xs ++ ys) ↔ Ok m o d xs ∧ Ok m (ed m o d xs).1 (ed m o d xs).2 ys
  | [], _, _, _ => ⟨fun h => ⟨trivial, h⟩, fun h => h.2⟩
  | x :: xs, ys, o, d => by
    show (o = x ∨ d = 0) ∧ Ok m _ _ (xs ++ ys) ↔ ((o = x ∨ d = 0) ∧ Ok m _ _ xs) ∧ Ok m (ed m (aft m o d x).1 (aft m o d x).2 xs).1 (ed m (aft m o d x).1 (aft m o d x).2 xs).2 ys
    rw [Ok_app, and_assoc]
theorem ed_app {m : MS} : ∀ {xs ys : List Int} {o d : Int}, ed m o d (xs ++ ys) = ed m (ed m o d xs).1 (ed m o d xs).2 ys
  | [], _, _, _ => rfl
  | x :: xs, ys, o, d => ed_app (xs := xs) (ys := ys) (o := (aft m o d x).1) (d := (aft m o d x).2)
def St0 (o d : Int) : Prop := Bit o ∧ 0 ≤ d ∧ d < 60
theorem St0.aft {m : MS} (g : m.Good) {o d on : Int} (h : St0 o d) (b : Bit on) : St0 (aft m o d on).1 (aft m o d on).2 := by
  obtain ⟨h0, h1, h2⟩ := h
  refine ⟨(aft_ok g b).1, (aft_ok g b).2, ?_⟩
  have u := g.up
  have v := g.down
  unfold My.aft
  split
  · show max (d - 1) 0 < 60; omega
  · split
    · show m.up - 1 < 60; omega
    · show m.down - 1 < 60; omega
def tP (m : MS) (on : Int) (f : Int → Int → Int) (o d : Int) : Int := if o = on ∨ d = 0 then f (aft m o d on).1 (aft m o d on).2 else 0
def tB (m : MS) (f : Int → Int → Int) (o d : Int) : Int := tP m 0 f o d + tP m 1 f o d
def tN (m : MS) : Nat → (Int → Int → Int) → Int → Int → Int
  | 0, f => f
  | n + 1, f => tN m n (tB m f)
theorem tN_add (m : MS) (f : Int → Int → Int) : ∀ a b : Nat, tN m a (tN m b f) = tN m (b + a) f
  | 0, _ => rfl
  | a + 1, b => by
    show tN m a (tB m (tN m b f)) = tN m (b + a) (tB m f)
    rw [← tN_add m (tB m f) a b]
    congr 1
    exact tN_comm m f b
where
  tN_comm (m : MS) (f : Int → Int → Int) : ∀ b : Nat, tB m (tN m b f) = tN m b (tB m f)
    | 0 => rfl
    | b + 1 => tN_comm m (tB m f) b
theorem tN_succ (m : MS) (f : Int → Int → Int) (b : Nat) : tB m (tN m b f) = tN m (b + 1) f := tN_add.tN_comm m f b
def one (_ _ : Int) : Int := 1
def cnt (m : MS) (n : Nat) (o d : Int) : Int := tN m n one o d
abbrev WP := (Int × Int) × Int
def encK (k : Int × Int) : List Key := [.inl k.1, .inl k.2]
def enc (ps : List WP) : List (List Key × V) := ps.map fun p => (encK p.1, V.int p.2)
theorem encK_inj {a b : Int × Int} (h : encK a = encK b) : a = b := by
  unfold encK at h
  simp only [List.cons.injEq, Sum.inl.injEq, and_true] at h
  exact Prod.ext h.1 h.2
def getW (ps : List WP) (k : Int × Int) : Option Int := (ps.find? fun p => decide (p.1 = k)).map (·.2)
def addW (ps : List WP) (k : Int × Int) (v : Int) : List WP := if ps.any (fun p => decide (p.1 = k)) then ps.map (fun p => if p.1 = k then (p.1, v) else p) else ps ++ [(k, v)]
theorem enc_get (ps : List WP) (k : Int × Int) : valV (enc ps) (encK k) = (getW ps k).map V.int := by
  unfold valV getW enc
  induction ps with
  | nil => rfl
  | cons p r ih =>
    by_cases h : p.1 = k
    · simp [h]
    · have : encK p.1 ≠ encK k := fun z => h (encK_inj z)
      simp only [List.map_cons, List.find?_cons, this, h, decide_false]
      exact ih
theorem enc_put (ps : List WP) (k : Int × Int) (v : Int) : putK (enc ps) (encK k) (.int v) = enc (addW ps k v) := by
  unfold putK addW enc
  have e : ((ps.map fun p : WP => (encK p.1, V.int p.2)).any fun kv => decide (kv.1 = encK k)) = ps.any fun p => decide (p.1 = k) := by
    rw [List.any_map]
    congr 1
    funext p
    show decide (encK p.1 = encK k) = decide (p.1 = k)
    exact decide_eq_decide.mpr ⟨encK_inj, fun z => by rw [z]⟩
  rw [e]
  split
  · rw [List.map_map, List.map_map]
    congr 1
    funext p
    show (if encK p.1 = encK k then (encK p.1, V.int v) else (encK p.1, V.int p.2)) = (encK (if p.1 = k then (p.1, v) else p).1, V.int (if p.1 = k then (p.1, v) else p).2)
    by_cases h : p.1 = k
    · rw [if_pos h, if_pos (by rw [h])]
    · rw [if_neg h, if_neg fun z => h (encK_inj z)]
  · rw [List.map_append]
    rfl
def wsum (f : Int → Int → Int) (ps : List WP) : Int := List.sum (ps.map fun p => p.2 * f p.1.1 p.1.2)
theorem wsum_cons (f : Int → Int → Int) (p : WP) (ps : List WP) : wsum f (p :: ps) = p.2 * f p.1.1 p.1.2 + wsum f ps := rfl
theorem wsum_app (f : Int → Int → Int) (ps qs : List WP) : wsum f (ps ++ qs) = wsum f ps + wsum f qs := by
  unfold wsum
  rw [List.map_append, List.sum_append]
theorem addW_ok {ps : List WP} {k : Int × Int} {c : Int} (nd : (ps.map (·.1)).Nodup) : ((addW ps k ((getW ps k).getD 0 + c)).map (·.1)).Nodup ∧ (∀ p ∈ addW ps k ((getW ps k).getD 0 + c), p.1 = k ∨ ∃ q ∈ ps, q.1 = p.1) ∧ ∀ f, wsum f (addW ps k ((getW ps k).getD 0 + c)) = wsum f ps + c * f k.1 k.2 := by
  unfold addW
  by_cases h : ps.any (fun p => decide (p.1 = k)) = true
  · rw [if_pos h]
    refine ⟨?_, fun p hp => ?_, fun f => ?_⟩
    · rw [List.map_map]
      have e : ((fun p : WP => p.1) ∘ fun p : WP => if p.1 = k then (p.1, (getW ps k).getD 0 + c) else p) = fun p => p.1 := by
        funext p
        show (if p.1 = k then (p.1, (getW ps k).getD 0 + c) else p).1 = p.1
        split <;> rfl
      rw [e]
      exact nd
    · obtain ⟨q, hq, rfl⟩ := List.mem_map.mp hp
      refine .inr ⟨q, hq, ?_⟩
      split <;> rfl
    · have key : ∀ (qs : List WP), (qs.map (·.1)).Nodup → qs.any (fun p => decide (p.1 = k)) = true → ∀ v, (getW qs k).getD 0 + c = v → wsum f (qs.map fun p => if p.1 = k then (p.1, v) else p) = wsum f qs + c * f k.1 k.2 := by
        intro qs
        induction qs with
        | nil => intro _ z; cases z
        | cons p r ih =>
          intro nd h v hv
          rw [List.map_cons, List.nodup_cons] at nd
          rw [List.map_cons, wsum_cons, wsum_cons]
          by_cases hp : p.1 = k
          · have hn : ∀ q ∈ r, ¬ q.1 = k := fun q hq z => nd.1 (List.mem_map.mpr ⟨q, hq, by rw [z, hp]⟩)
            have e1 : (r.map fun p => if p.1 = k then (p.1, v) else p) = r := by
              conv => rhs; rw [← List.map_id r]
              exact List.map_congr_left fun q hq => if_neg (hn q hq)
            have e2 : getW (p :: r) k = some p.2 := by unfold getW; simp [hp]
            rw [e2] at hv
            rw [e1, if_pos hp, ← hv, hp]
            show (p.2 + c) * f k.1 k.2 + wsum f r = _
            rw [Int.add_mul]
            omega
          · have h' : r.any (fun p => decide (p.1 = k)) = true := by simpa [hp] using h
            have e2 : getW (p :: r) k = getW r k := by unfold getW; simp [hp]
            rw [e2] at hv
            rw [if_neg hp, ih nd.2 h' v hv]
            omega
      exact key ps nd h _ rfl
  · have hn : getW ps k = none := by
      unfold getW
      rw [Option.map_eq_none_iff, List.find?_eq_none]
      intro p hp z
      exact h (List.any_eq_true.mpr ⟨p, hp, z⟩)
    rw [if_neg h, hn]
    refine ⟨?_, fun p hp => ?_, fun f => ?_⟩
    · rw [List.map_append, List.nodup_append]
      refine ⟨nd, by simp, fun a ha b hb => ?_⟩
      rw [List.map_cons, List.map_nil, List.mem_singleton] at hb
      rintro rfl
      obtain ⟨q, hq, e⟩ := List.mem_map.mp ha
      exact h (List.any_eq_true.mpr ⟨q, hq, by simpa using e.trans hb⟩)
    · rcases List.mem_append.mp hp with z | z
      · exact .inr ⟨p, z, rfl⟩
      · rw [List.mem_singleton.mp z]; exact .inl rfl
    · rw [wsum_app]
      show _ + ((0 + c) * f k.1 k.2 + 0) = _
      rw [Int.zero_add, Int.add_zero]
theorem nd_le : ∀ (n : Nat) (l : List Nat), l.Nodup → (∀ x ∈ l, x < n) → l.length ≤ n
  | 0, l, _, h => by
    cases l with
    | nil => exact Nat.le_refl _
    | cons x r => exact absurd (h x (.head _)) (by omega)
  | n + 1, l, nd, h => by
    have := nd_le n (l.erase n) (nd.erase n) (fun x hx => by
      have h1 := (nd.mem_erase_iff.mp hx)
      have := h x h1.2
      have := h1.1
      omega)
    rw [List.length_erase] at this
    split at this <;> omega
structure Ways (ps : List WP) : Prop where
  nd : (ps.map (·.1)).Nodup
  st : ∀ p ∈ ps, St0 p.1.1 p.1.2
theorem Ways.len {ps : List WP} (h : Ways ps) : ps.length ≤ 120 := by
  have := nd_le 120 ((ps.map (·.1)).map fun k => (k.1 * 60 + k.2).toNat) (by
    rw [List.Nodup, List.pairwise_map]
    refine h.nd.imp_of_mem ?_
    intro a b ha hb hab z
    obtain ⟨p, hp, rfl⟩ := List.mem_map.mp ha
    obtain ⟨q, hq, rfl⟩ := List.mem_map.mp hb
    obtain ⟨a1, a2, a3⟩ := h.st p hp
    obtain ⟨b1, b2, b3⟩ := h.st q hq
    refine hab (Prod.ext ?_ ?_)
    · rcases a1 with a1 | a1 <;> rcases b1 with b1 | b1 <;> rw [a1, b1] <;> rw [a1, b1] at z <;> omega
    · rcases a1 with a1 | a1 <;> rcases b1 with b1 | b1 <;> rw [a1, b1] at z <;> omega) (fun x hx => by
    obtain ⟨k, hk, rfl⟩ := List.mem_map.mp hx
    obtain ⟨p, hp, rfl⟩ := List.mem_map.mp hk
    obtain ⟨a1, a2, a3⟩ := h.st p hp
    rcases a1 with a1 | a1 <;> rw [a1] <;> omega)
  simpa using this
theorem Ways.add {ps : List WP} (h : Ways ps) {k : Int × Int} (hk : St0 k.1 k.2) (c : Int) : Ways (addW ps k ((getW ps k).getD 0 + c)) := by
  obtain ⟨h1, h2, _⟩ := addW_ok (k := k) (c := c) h.nd
  refine ⟨h1, fun p hp => ?_⟩
  rcases h2 p hp with z | ⟨q, hq, z⟩
  · rw [z]; exact hk
  · rw [← z]; exact h.st q hq
theorem wsum_one (ps : List WP) : wsum one ps = List.sum (ps.map (·.2)) := by
  unfold wsum
  congr 1
  exact List.map_congr_left fun p _ => Int.mul_one _
theorem MachAt.delT {C : Addr} {H : Hp} {q w : Addr} {m : MS} {kvs : List (List Key × V)} (h : MachAt C H q m) (e : H w = some (.dT kvs)) : MachAt C (del w H) q m := by
  obtain ⟨dx, pl, h1, h2⟩ := h.ex
  obtain ⟨qs, h3, h4⟩ := h2.ex
  refine ⟨dx, pl, del_some h1 (fun z => by rw [z, e] at h1; cases h1), qs, del_some h3 (fun z => by rw [z, e] at h3; cases h3), h4.len, fun j a t h5 h6 => ?_⟩
  have h7 := h4.at_ j a t h5 h6
  exact del_some h7 (fun z => by rw [z, e] at h7; cases h7)
theorem opt_int (x : Option Int) : (x.map V.int).getD (.int 0) = .int (x.getD 0) := by cases x <;> rfl
theorem enc_at {ps : List WP} {i : Nat} {kv : List Key × V} (h : (enc ps)[i]? = some kv) : ∃ p, ps[i]? = some p ∧ kv = (encK p.1, V.int p.2) := by
  unfold enc at h
  rw [List.getElem?_map] at h
  obtain ⟨p, hp, e⟩ := Option.map_eq_some_iff.mp h
  exact ⟨p, hp, e.symm⟩
theorem enc_len (ps : List WP) : (enc ps).length = ps.length := by unfold enc; rw [List.length_map]
def sp_ways_one_on (K : PySem.W.Frag) (C : Addr) : Sp := fun vs H Q _ => ∃ (q : Addr) (m : MS) (w : Addr) (ps : List WP), vs = [.ref q, .ref w] ∧ MachAt C H q m ∧ m.Good ∧ H w = some (.dT (enc ps)) ∧ Ways ps ∧
  ∀ w' ps' H', Same (del w H) H' → H w' = none → H' w' = some (.dT (enc ps')) → Ways ps' → (∀ f, wsum f ps' = wsum (tB m f) ps) → Q (.ref w') H'
set_option maxHeartbeats 40000000 in
theorem ok_ways_one_on {P : Program} {w : World} {K : PySem.W.Frag} {mg : Str → Option Value} {base : Heap} {a : Adr} (tx : Txt K mg a) : FnOk P w K mg base CX0 3 a.f_ways_one_on a.d_ways_one_on ["machine", "ways"] (sp_ways_one_on K a.c_Machine) := by
  have G_may_be := ok_may_be (P := P) (w := w) (base := base) tx
  have G_state_after := ok_state_after (P := P) (w := w) (base := base) tx
  refine tx.F_ways_one_on.ok sc_ways_one_on (fun vs H Q E h => ?_) (fun cdv A outer s H vs Q E hr h => ?_)
  · obtain ⟨q, m, w, ps, rfl, _⟩ := h
    rfl
  · obtain ⟨q, m, w, ps, rfl , hm, hg, gw, hW, k⟩ := h
    have hu := hu9 hr
    refine L2.Q.root (L2.Q.pss_cons (L2.Q.ps_set (i := 2) sc_ways_one_on.nd rfl (Or.inl rfl) L2.Q.pe_dnewT)
      (L2.Q.pss_cons (L2.Q.ps_for PassesOwn.never rfl (L2.Q.pi_items (L2.Q.pv 1)) (L2.Q.pg_tupK (K' := K) (n := 2) rfl (L2.Q.pgs_cons (L2.Q.pg_name (i := 3) sc_ways_one_on.nd rfl (Or.inl rfl)) (L2.Q.pgs_cons (L2.Q.pg_name (i := 4) sc_ways_one_on.nd rfl (Or.inl rfl)) L2.Q.pgs_nil))) (L2.Q.pss_one (L2.Q.ps_for PassesOwn.never rfl (L2.Q.pi_tupK (K' := K) (L2.Q.tup2 L2.Q.pe_int L2.Q.pe_int)) (L2.Q.pg_name (i := 5) sc_ways_one_on.nd rfl (Or.inl rfl)) (L2.Q.pss_one (L2.Q.ps_if (L2.Q.pt_val (L2.Q.pe_callN (G_may_be) (hr.mono (by decide)) (by rfl) tx.g_may_be tx.F_may_be.kp tx.b_may_be .nil pass0 (L2.Q.pa_c (L2.Q.pv 0) (L2.Q.pa_c (L2.Q.pv 3) (L2.Q.pa_c (L2.Q.pv 5) L2.Q.pa_nil))))) (L2.Q.pss_cons (L2.Q.ps_set (i := 6) sc_ways_one_on.nd rfl (Or.inl rfl) (L2.Q.pe_callN (G_state_after) (hr.mono (by decide)) (by rfl) tx.g_state_after tx.F_state_after.kp tx.b_state_after .nil pass0 (L2.Q.pa_c (L2.Q.pv 0) (L2.Q.pa_c (L2.Q.pv 3) (L2.Q.pa_c (L2.Q.pv 5) L2.Q.pa_nil)))))
      (L2.Q.pss_one (L2.Q.ps_dput hu (L2.Q.pv 2) (L2.Q.pv 6) (L2.Q.pe_op op_addG (L2.Q.pe_dget2 hu (L2.Q.pv 2) (L2.Q.pv 6) L2.Q.pe_int) (L2.Q.pv 4))))) L2.Q.pss_nil)))))
      (L2.Q.pss_one (L2.Q.ps_ret (L2.Q.pv 2))))) ?_
    have hmD := hm.delT gw
    refine rd_start (σ := [some (.ref q), some (.ref w), none, none, none, none, none]) rfl ?_
    repeat walk_at "go"
    intro l nl
    obtain ⟨H1, i1, s1, g1⟩ := nw _ nl; rw [i1]
    have gw1 := s1 _ _ gw
    have lw : l ≠ w := fun z => by rw [z, gw] at nl; cases nl
    have nlD : del w H l = none := by rw [del_at lw]; exact nl
    repeat walk_at "go"
    refine rd_im gw1 fun ob => ?_
    obtain ⟨H2, i2, k2, g2⟩ := wr H1 w _; rw [i2]
    have g12 := k2 _ _ g1 lw
    have S2 : Same (del w H) H2 := fun b o e => k2 _ _ (s1 _ _ (del_le _ _ e)) (fun z => by rw [z, del_l] at e; cases e)
    refine rf_items (kvs := enc ps) (fun i σ' H' => ∃ (ps' : List WP) (z3 z4 z5 z6 : Option V), σ' = [some (.ref q), some (.ref w), some (.ref l), z3, z4, z5, z6] ∧ H' l = some (.dT (enc ps')) ∧ Ways ps' ∧ (∀ f, wsum f ps' = wsum (tB m f) (ps.take i)) ∧ Same (del w H) H' ∧ H' w = some (.frz ob (.dT (enc ps))))
      ⟨[], _, _, _, _, rfl, g12, ⟨List.nodup_nil, fun p hp => by cases hp⟩, fun f => rfl, S2, g2⟩ (fun i σ' H' hi ⟨_, _, _, _, _, _, _, _, _, _, h⟩ => h) (fun i kv σ' H' T b hk ⟨ps', z3, z4, z5, z6, e, gl, hW', hs, S', gw'⟩ nT gb => ?_) (fun σ' H' ⟨ps', z3, z4, z5, z6, e, gl, hW', hs, S', gw'⟩ => ?_)
    · subst e
      obtain ⟨p, ep, rfl⟩ := enc_at hk
      have hst := hW.st p (List.mem_of_getElem? ep)
      have gb0 : H' b = some (.tup [.int p.1.1, .int p.1.2]) := gb
      obtain ⟨H3, i3, s3, gT⟩ := nw _ nT; rw [i3]
      refine rd_gtup (SqT.of gT) rfl ?_
      repeat walk_at "go"
      intro Tu nTu
      obtain ⟨H4, i4, s4, gTu⟩ := nw _ nTu; rw [i4]
      have gl4 := (s3.trans s4) _ _ gl
      have gb4 := (s3.trans s4) _ _ gb0
      have gw4 := (s3.trans s4) _ _ gw'
      have S4 := S'.trans (s3.trans s4)
      have Tul : Tu ≠ l := fun z => by rw [z, gl4] at gTu; cases gTu
      have bl : b ≠ l := fun z => by rw [z, gl4] at gb4; cases gb4
      repeat walk_at "go"
      refine rd_ti (SqT.of gTu) ?_
      refine rf_tup (xs := ([0, 1] : List Int).map V.int) (fun j σ' H' => ∃ (ps' : List WP) (z5 z6 : Option V), σ' = [some (.ref q), some (.ref w), some (.ref l), some (.ref b), some (.int p.2), z5, z6] ∧ H' l = some (.dT (enc ps')) ∧ Ways ps' ∧ (∀ f, wsum f ps' = wsum (tB m f) (ps.take i) + p.2 * List.sum ((([0, 1] : List Int).take j).map fun on => tP m on f p.1.1 p.1.2)) ∧ Same (del w H) H' ∧ Keep l H4 H')
        ⟨ps', _, _, rfl, gl4, hW', fun f => by rw [hs f]; simp, S4, fun _ _ e _ => e⟩ (fun j σ' H' hj ⟨_, _, _, _, _, _, _, _, h⟩ => SqT.of (h _ _ gTu Tul)) (fun j v σ' H5 hv ⟨ps', z5, z6, e, gl5, hW5, hs5, S5, k5⟩ => ?_) (fun σ' H5 ⟨ps', z5, z6, e, gl5, hW5, hs5, S5, k5⟩ => ?_)
      · subst e
        obtain ⟨on, eon, rfl⟩ := int_get hv
        have bon : Bit on := by
          have := List.mem_of_getElem? eon
          simp at this
          exact this
        have gb5 := k5 _ _ gb4 bl
        have tk : ([0, 1] : List Int).take (j + 1) = ([0, 1] : List Int).take j ++ [on] := by rw [List.take_add_one, eon]; rfl
        have sumE : ∀ f, List.sum ((([0, 1] : List Int).take (j + 1)).map fun on => tP m on f p.1.1 p.1.2) = List.sum ((([0, 1] : List Int).take j).map fun on => tP m on f p.1.1 p.1.2) + tP m on f p.1.1 p.1.2 := fun f => by
          rw [tk, List.map_append, List.sum_append, List.map_cons, List.map_nil, List.sum_cons, List.sum_nil, Int.add_zero]
        repeat walk_at "go"
        refine ⟨_, b, _, _, on, rfl, gb5, ?_⟩
        by_cases hmay : p.1.1 = on ∨ p.1.2 = 0
        · rw [show (decide (p.1.1 = on) || decide (p.1.2 = 0)) = true by simpa using hmay]
          repeat walk_at "go"
          refine ⟨q, m, b, _, _, on, rfl, hmD.same S5, gb5, hmay, fun T2 H6 s6 nT2 gT2 => ?_⟩
          have gl6 := s6 _ _ gl5
          have gk : H6 T2 = some (.tup ((encK (aft m p.1.1 p.1.2 on)).map kV)) := gT2
          have hle := hW5.len
          repeat walk_at "go"
          refine ⟨l, rfl, .inr ⟨_, .inl gl6⟩, ?_⟩
          repeat walk_at "go"
          refine ⟨_, DGet.t gl6 gk, ?_⟩
          rw [enc_get, opt_int]
          repeat walk_at "go"
          refine ⟨l, _, rfl, DPut.t gl6 gk (Nat.lt_of_lt_of_le (by rw [enc_len]; omega : (enc ps').length < 1000) (sz_le (by decide))), ?_⟩
          rw [enc_put]
          obtain ⟨H7, i7, k7, g7⟩ := wr H6 l _; rw [i7]
          repeat walk_at "go"
          refine ⟨_, _, _, rfl, g7, hW5.add (hst.aft hg bon) p.2, fun f => ?_, fun b o e => k7 _ _ ((S5.trans s6) _ _ e) (ne_none nlD e), k5.trans (s6.keep.trans k7)⟩
          rw [(addW_ok hW5.nd).2.2 f, hs5 f, sumE f, show tP m on f p.1.1 p.1.2 = f (aft m p.1.1 p.1.2 on).1 (aft m p.1.1 p.1.2 on).2 from if_pos hmay, Int.mul_add]
          omega
        · rw [show (decide (p.1.1 = on) || decide (p.1.2 = 0)) = false by simpa using hmay]
          repeat walk_at "go"
          refine ⟨ps', _, _, rfl, gl5, hW5, fun f => ?_, S5, k5⟩
          rw [hs5 f, sumE f, show tP m on f p.1.1 p.1.2 = 0 from if_neg hmay, Int.add_zero]
      · subst e
        refine ⟨ps', _, _, _, _, rfl, gl5, hW5, fun f => ?_, S5, k5 _ _ gw4 (Ne.symm lw)⟩
        rw [hs5 f, take_snoc ep, wsum_app, wsum_cons]
        show _ = _ + (p.2 * tB m f p.1.1 p.1.2 + 0)
        unfold tB
        simp
    · subst e
      repeat walk_at "go"
      refine k l ps' H' S' nl gl hW' fun f => ?_
      rw [hs f, enc_len, List.take_length]
def sp_ways_after (K : PySem.W.Frag) (C : Addr) : Sp := fun vs H Q _ => ∃ (q : Addr) (m : MS) (t : Addr) (o d : Int) (n : Int), vs = [.ref q, .ref t, .int n] ∧ MachAt C H q m ∧ m.Good ∧ H t = some (.tup [.int o, .int d]) ∧ St0 o d ∧ 0 ≤ n ∧ n ≤ 1000 ∧
  ∀ w ps H', Same H H' → H w = none → H' w = some (.dT (enc ps)) → Ways ps → (∀ f, wsum f ps = tN m n.toNat f o d) → Q (.ref w) H'
set_option maxHeartbeats 40000000 in
theorem ok_ways_after {P : Program} {w : World} {K : PySem.W.Frag} {mg : Str → Option Value} {base : Heap} {a : Adr} (tx : Txt K mg a) : FnOk P w K mg base CX0 4 a.f_ways_after a.d_ways_after ["machine", "state", "hours"] (sp_ways_after K a.c_Machine) := by
  have G_ways_one_on := ok_ways_one_on (P := P) (w := w) (base := base) tx
  refine tx.F_ways_after.ok sc_ways_after (fun vs H Q E h => ?_) (fun cdv A outer s H vs Q E hr h => ?_)
  · obtain ⟨q, m, t, o, d, n, rfl, _⟩ := h
    rfl
  · obtain ⟨q, m, t, o, d, n, rfl , hm, hg, ht, hst, n0, n1, k⟩ := h
    have hu := hu9 hr
    refine L2.Q.root (L2.Q.pss_cons (L2.Q.ps_set (i := 3) sc_ways_after.nd rfl (Or.inl rfl) (L2.Q.pe_dict1 hu (L2.Q.pv 1) L2.Q.pe_int))
      (L2.Q.pss_cons (L2.Q.ps_for PassesOwn.never rfl (L2.Q.pi_range1N (by rfl) tx.z_range (L2.Q.pa_c (L2.Q.pv 2) L2.Q.pa_nil)) (L2.Q.pg_name (i := 4) sc_ways_after.nd rfl (Or.inl rfl)) (L2.Q.pss_one (L2.Q.ps_set (i := 3) sc_ways_after.nd rfl (Or.inl rfl) (L2.Q.pe_callN (G_ways_one_on) (hr.mono (by decide)) (by rfl) tx.g_ways_one_on tx.F_ways_one_on.kp tx.b_ways_one_on .nil pass0 (L2.Q.pa_c (L2.Q.pv 0) (L2.Q.pa_c (L2.Q.pv 3) L2.Q.pa_nil))))))
      (L2.Q.pss_one (L2.Q.ps_ret (L2.Q.pv 3))))) ?_
    refine rd_start (σ := [some (.ref q), some (.ref t), some (.int n), none, none]) rfl ?_
    repeat walk_at "go"
    intro w nw0
    obtain ⟨H1, i1, s1, g1⟩ := nw _ nw0; rw [i1]
    have ht1 := s1 _ _ ht
    repeat walk_at "go"
    refine ⟨t, encK (o, d), rfl, ht1, g1, ?_⟩
    obtain ⟨H2, i2, k2, g2⟩ := wr H1 w _; rw [i2]
    have S2 : Same H H2 := fun b o e => k2 _ _ (s1 _ _ e) (ne_none nw0 e)
    repeat walk_at "go"
    refine ⟨by omega, by omega, ?_⟩
    refine rf_range (fun i σ' H' => ∃ (w : Addr) (ps : List WP) (z4 : Option V), σ' = [some (.ref q), some (.ref t), some (.int n), some (.ref w), z4] ∧ H w = none ∧ H' w = some (.dT (enc ps)) ∧ Ways ps ∧ (∀ f, wsum f ps = tN m i f o d) ∧ Same H H')
      ⟨w, [((o, d), 1)], _, rfl, nw0, g2, ⟨by simp, fun p hp => by rw [List.mem_singleton.mp hp]; exact hst⟩, fun f => by show 1 * f o d + 0 = f o d; rw [Int.one_mul, Int.add_zero], S2⟩ (fun i σ' H' hi ⟨w', ps, z4, e, nw', gw, hW, hs, S'⟩ => ?_) (fun σ' H' ⟨w', ps, z4, e, nw', gw, hW, hs, S'⟩ => ?_)
    · subst e
      repeat walk_at "go"
      refine ⟨q, m, w', ps, rfl, hm.same S', hg, gw, hW, fun w2 ps2 H3 s3 nw2 gw2 hW2 hs2 => ?_⟩
      repeat walk_at "go"
      refine ⟨w2, ps2, _, rfl, S'.free nw2, gw2, hW2, fun f => ?_, fun b o e => s3 _ _ (del_some (S' _ _ e) (ne_none nw' e))⟩
      rw [hs2 f, hs (tB m f)]
      rfl
    · subst e
      repeat walk_at "go"
      refine k w' ps H' S' nw' gw hW ?_
      exact hs
def sp_run_count (K : PySem.W.Frag) (C : Addr) : Sp := fun vs H Q _ => ∃ (q : Addr) (m : MS) (t : Addr) (o d : Int) (n : Int), vs = [.ref q, .ref t, .int n] ∧ MachAt C H q m ∧ m.Good ∧ H t = some (.tup [.int o, .int d]) ∧ St0 o d ∧ 0 ≤ n ∧ n ≤ 1000 ∧
  ∀ H', Same H H' → Q (.int (cnt m n.toNat o d)) H'
set_option maxHeartbeats 40000000 in
theorem ok_run_count {P : Program} {w : World} {K : PySem.W.Frag} {mg : Str → Option Value} {base : Heap} {a : Adr} (tx : Txt K mg a) : FnOk P w K mg base CX0 5 a.f_run_count a.d_run_count ["machine", "state", "hours"] (sp_run_count K a.c_Machine) := by
  have G_ways_after := ok_ways_after (P := P) (w := w) (base := base) tx
  refine tx.F_run_count.ok sc_run_count (fun vs H Q E h => ?_) (fun cdv A outer s H vs Q E hr h => ?_)
  · obtain ⟨q, m, t, o, d, n, rfl, _⟩ := h
    rfl
  · obtain ⟨q, m, t, o, d, n, rfl , hm, hg, ht, hst, n0, n1, k⟩ := h
    have hu := hu9 hr
    refine L2.Q.root (L2.Q.pss_one (L2.Q.ps_ret (L2.Q.pe_callBN (rc := rSumV) (call_sumV rfl) (by rfl) tx.z_sum bt_sum (L2.Q.pa_c (L2.Q.pe_values (L2.Q.pe_callN (G_ways_after) (hr.mono (by decide)) (by rfl) tx.g_ways_after tx.F_ways_after.kp tx.b_ways_after .nil pass0 (L2.Q.pa_c (L2.Q.pv 0) (L2.Q.pa_c (L2.Q.pv 1) (L2.Q.pa_c (L2.Q.pv 2) L2.Q.pa_nil))))) L2.Q.pa_nil)))) ?_
    refine rd_start (σ := [some (.ref q), some (.ref t), some (.int n)]) rfl ?_
    repeat walk_at "go"
    refine ⟨q, m, t, o, d, n, rfl, hm, hg, ht, hst, n0, n1, fun w ps H1 s1 nw1 gw hW hs => ?_⟩
    repeat walk_at "go"
    refine ⟨w, _, rfl, .inl gw, fun b nb => ?_⟩
    obtain ⟨H2, i2, s2, g2⟩ := nw _ nb; rw [i2]
    repeat walk_at "go"
    refine ⟨b, w, _, ps.map (·.2), rfl, g2, .inl (s2 _ _ gw), by unfold enc; rw [List.map_map, List.map_map]; rfl, ?_⟩
    rw [← wsum_one, hs one]
    exact k H2 (s1.trans s2)
theorem RL.app {α : Type} {P : Addr → α → Prop} {as bs : List Addr} {xs ys : List α} (h : RL P as xs) (h' : RL P bs ys) : RL P (as ++ bs) (xs ++ ys) := by
  refine ⟨by rw [List.length_append, List.length_append, h.len, h'.len], fun j q u hq hu => ?_⟩
  by_cases hj : j < as.length
  · rw [List.getElem?_append_left hj] at hq
    rw [List.getElem?_append_left (by rw [← h.len]; exact hj)] at hu
    exact h.at_ j q u hq hu
  · rw [List.getElem?_append_right (by omega)] at hq
    rw [List.getElem?_append_right (by rw [← h.len]; omega), ← h.len] at hu
    exact h'.at_ _ q u hq hu
theorem RL.one {α : Type} {P : Addr → α → Prop} {a : Addr} {x : α} (h : P a x) : RL P [a] [x] := ⟨rfl, fun j q u hq hu => by
  match j, hq, hu with
  | 0, hq, hu => cases hq; cases hu; exact h
  | _ + 1, hq, _ => simp at hq⟩
def ErrV (H : Hp) (e C : Addr) (f : Str) (v : V) : Prop := ∃ dx, H e = some (ErrO C (some dx) e) ∧ H dx = some (.xd [(f, v)])
def spErr (f : Str) (K : PySem.W.Frag) : Sp := fun vs H Q _ => ∃ (x C : Addr) (v : V), vs = [.ref x, v] ∧ H x = some (ErrN C none x) ∧ ErrK K C ∧ ErrAt K C f ∧ ∀ dx, H dx = none → dx ≠ x → Q .non (upd (upd H dx (.xd [(f, v)])) x (ErrN C (some dx) x))
theorem err_set {H : Hp} {x dx C : Addr} {a c : HO} {f : Str} {v : V} (nx : H x = none) (n1 : upd H x a dx = none) (n2 : dx ≠ x) :
    Same H (upd (upd (upd (upd H x a) dx (.xd [(f, v)])) x c) x (ErrO C (some dx) x)) ∧ ErrV (upd (upd (upd (upd H x a) dx (.xd [(f, v)])) x c) x (ErrO C (some dx) x)) x C f v := by
  rw [upd_ne n2] at n1
  refine ⟨fun b o e => ?_, dx, upd_same, by rw [upd_ne n2, upd_ne n2, upd_same]⟩
  have hb : b ≠ x := fun z => by rw [z, nx] at e; cases e
  have hd : b ≠ dx := fun z => by rw [z, n1] at e; cases e
  rw [upd_ne hb, upd_ne hb, upd_ne hd, upd_ne hb]
  exact e
def sp_TooMany_init : PySem.W.Frag → Sp := spErr "limit"
set_option maxHeartbeats 40000000 in
theorem ok_TooMany_init {P : Program} {w : World} {K : PySem.W.Frag} {mg : Str → Option Value} {base : Heap} {a : Adr} (tx : Txt K mg a) : FnOk P w K mg base CX0 1 a.f_TooMany_init a.d_TooMany_init ["self", "limit"] (sp_TooMany_init K) := by
  refine tx.F_TooMany_init.ok sc_TooMany_init (fun vs H Q E h => ?_) (fun cdv A outer s H vs Q E hr h => ?_)
  · obtain ⟨x, C, v, rfl, _⟩ := h
    rfl
  · obtain ⟨x, C, v, rfl , he, Z, n, k⟩ := h
    have hu := hu9 hr
    refine L2.Q.root (L2.Q.pss_one (L2.Q.ps_setE (K' := K) (L2.Q.pv 0) (L2.Q.pv 1) rfl)) ?_
    refine rd_start (σ := [some (.ref x), some v]) rfl ?_
    repeat walk_at "go"
    exact ⟨x, C, rfl, he, Z, n, k⟩
def IL (H : Hp) (a : Addr) (ns : List Int) : Prop := H a = some (.lst (ns.map V.int))
abbrev Fnd := List Int × Int × Int
def FAt (H : Hp) (a : Addr) (x : Fnd) : Prop := ∃ r s, H a = some (.tup [.ref r, .ref s]) ∧ H r = some (.lst (x.1.map V.int)) ∧ H s = some (.tup [.int x.2.1, .int x.2.2])
def FAtN (H0 H : Hp) (a : Addr) (x : Fnd) : Prop := ∃ r s, H a = some (.tup [.ref r, .ref s]) ∧ H r = some (.lst (x.1.map V.int)) ∧ H s = some (.tup [.int x.2.1, .int x.2.2]) ∧ H0 r = none
theorem FAtN.same {H0 H H' : Hp} {a : Addr} {x : Fnd} (h : FAtN H0 H a x) (s : Same H H') : FAtN H0 H' a x := let ⟨r, t, h1, h2, h3, h4⟩ := h; ⟨r, t, s _ _ h1, s _ _ h2, s _ _ h3, h4⟩
theorem FAtN.le {H0 H1 H : Hp} {a : Addr} {x : Fnd} (h : FAtN H1 H a x) (s : Same H0 H1) : FAtN H0 H a x := let ⟨r, t, h1, h2, h3, h4⟩ := h; ⟨r, t, h1, h2, h3, s.free h4⟩
theorem FAtN.at {H0 H : Hp} {a : Addr} {x : Fnd} (h : FAtN H0 H a x) : FAt H a x := let ⟨r, t, h1, h2, h3, _⟩ := h; ⟨r, t, h1, h2, h3⟩
theorem FAt.same {H H' : Hp} {a : Addr} {x : Fnd} (h : FAt H a x) (s : Same H H') : FAt H' a x := let ⟨r, t, h1, h2, h3⟩ := h; ⟨r, t, s _ _ h1, s _ _ h2, s _ _ h3⟩
structure Fs (m : MS) (o d : Int) (n : Nat) (fs : List Fnd) : Prop where
  at_ : ∀ x ∈ fs, Ok m o d x.1 ∧ (∀ k ∈ x.1, Bit k) ∧ x.1.length = n ∧ x.2 = ed m o d x.1 ∧ St0 x.2.1 x.2.2
def fsum (f : Int → Int → Int) (fs : List Fnd) : Int := List.sum (fs.map fun x => f x.2.1 x.2.2)
theorem fsum_app (f : Int → Int → Int) (fs gs : List Fnd) : fsum f (fs ++ gs) = fsum f fs + fsum f gs := by
  unfold fsum
  rw [List.map_append, List.sum_append]
theorem fsum_len (fs : List Fnd) : fsum one fs = (fs.length : Int) := by
  induction fs with
  | nil => rfl
  | cons x r ih =>
    have e : fsum one (x :: r) = 1 + fsum one r := rfl
    rw [e, ih, List.length_cons]
    omega
theorem same_dels {c : Addr} {H H' : Hp} (s : Same H H') : Same (del c H) (del c H') := fun b o e => by
  by_cases z : b = c
  · rw [z, del_l] at e; cases e
  · rw [del_at z] at e ⊢; exact s b o e
def ext2 (m : MS) (x : Fnd) (on : Int) : List Fnd := if x.2.1 = on ∨ x.2.2 = 0 then [(x.1 ++ [on], aft m x.2.1 x.2.2 on)] else []
def ext1 (m : MS) (x : Fnd) : List Fnd := ext2 m x 0 ++ ext2 m x 1
def runsF (m : MS) (o d : Int) : Nat → List Fnd
  | 0 => [([], o, d)]
  | n + 1 => (runsF m o d n).flatMap (ext1 m)
theorem ext2_fs {m : MS} (g : m.Good) {o d : Int} {n : Nat} {x : Fnd} (h : Ok m o d x.1 ∧ (∀ k ∈ x.1, Bit k) ∧ x.1.length = n ∧ x.2 = ed m o d x.1 ∧ St0 x.2.1 x.2.2) {on : Int} (b : Bit on) : ∀ y ∈ ext2 m x on, Ok m o d y.1 ∧ (∀ k ∈ y.1, Bit k) ∧ y.1.length = n + 1 ∧ y.2 = ed m o d y.1 ∧ St0 y.2.1 y.2.2 := by
  intro y hy
  unfold ext2 at hy
  split at hy
  · rename_i hmay
    rw [List.mem_singleton.mp hy]
    obtain ⟨x1, x2, x3, x4, x5⟩ := h
    refine ⟨Ok_app.mpr ⟨x1, by rw [← x4]; exact ⟨hmay, trivial⟩⟩, fun k hk => ?_, by rw [List.length_append, x3]; rfl, by rw [ed_app, ← x4]; rfl, x5.aft g b⟩
    rcases List.mem_append.mp hk with w | w
    · exact x2 k w
    · rw [List.mem_singleton.mp w]; exact b
  · cases hy
theorem runsF_fs {m : MS} (g : m.Good) {o d : Int} (h : St0 o d) : ∀ n, Fs m o d n (runsF m o d n)
  | 0 => ⟨fun x hx => by rw [List.mem_singleton.mp hx]; exact ⟨trivial, (fun k hk => by cases hk), rfl, rfl, h⟩⟩
  | n + 1 => ⟨fun y hy => by
    obtain ⟨x, hx, hy⟩ := List.mem_flatMap.mp hy
    have hF := (runsF_fs g h n).at_ x hx
    rcases List.mem_append.mp hy with z | z
    · exact ext2_fs g hF (.inl rfl) y z
    · exact ext2_fs g hF (.inr rfl) y z⟩
theorem fsum_ext2 (m : MS) (f : Int → Int → Int) (x : Fnd) (on : Int) : fsum f (ext2 m x on) = tP m on f x.2.1 x.2.2 := by
  unfold ext2 tP
  split
  · exact Int.add_zero _
  · rfl
theorem fsum_flat (m : MS) (f : Int → Int → Int) (l : List Fnd) : fsum f (l.flatMap (ext1 m)) = fsum (tB m f) l := by
  induction l with
  | nil => rfl
  | cons x r ih =>
    have e : fsum (tB m f) (x :: r) = tB m f x.2.1 x.2.2 + fsum (tB m f) r := rfl
    rw [List.flatMap_cons, fsum_app, ih, e]
    congr 1
    unfold ext1 tB
    rw [fsum_app, fsum_ext2, fsum_ext2]
theorem runsF_sum (m : MS) (o d : Int) : ∀ (n : Nat) (f : Int → Int → Int), fsum f (runsF m o d n) = tN m n f o d
  | 0, f => Int.add_zero _
  | n + 1, f => by
    show fsum f ((runsF m o d n).flatMap (ext1 m)) = tN m n (tB m f) o d
    rw [fsum_flat, runsF_sum m o d n]
theorem runsF_len (m : MS) (o d : Int) (n : Nat) : ((runsF m o d n).length : Int) = cnt m n o d := by
  rw [← fsum_len, runsF_sum]
  rfl
theorem ext1_some {m : MS} {x : Fnd} (h : Bit x.2.1) : 1 ≤ (ext1 m x).length := by
  unfold ext1 ext2
  rw [List.length_append]
  rcases h with h | h
  · rw [if_pos (.inl h)]
    simp
  · rw [if_pos (c := x.2.1 = 1 ∨ x.2.2 = 0) (.inl h)]
    simp
theorem runsF_up {m : MS} (g : m.Good) {o d : Int} (h : St0 o d) (n : Nat) : (runsF m o d n).length ≤ (runsF m o d (n + 1)).length := by
  have hF := (runsF_fs g h n).at_
  show _ ≤ ((runsF m o d n).flatMap (ext1 m)).length
  generalize runsF m o d n = l at hF
  induction l with
  | nil => exact Nat.le_refl _
  | cons x r ih =>
    rw [List.flatMap_cons, List.length_append, List.length_cons]
    have := ext1_some (m := m) (hF x (.head _)).2.2.2.2.1
    have := ih fun y hy => hF y (List.mem_cons_of_mem _ hy)
    omega
theorem runsF_mono {m : MS} (g : m.Good) {o d : Int} (h : St0 o d) {i : Nat} : ∀ {n : Nat}, i ≤ n → (runsF m o d i).length ≤ (runsF m o d n).length
  | 0, hi => by rw [show i = 0 by omega]; exact Nat.le_refl _
  | n + 1, hi => by
    by_cases e : i = n + 1
    · rw [e]; exact Nat.le_refl _
    · exact Nat.le_trans (runsF_mono g h (by omega)) (runsF_up g h n)
def sp_one_hour_on (K : PySem.W.Frag) (C : Addr) : Sp := fun vs H Q _ => ∃ (q : Addr) (m : MS) (l : Addr) (as : List Addr) (fs : List Fnd), vs = [.ref q, .ref l] ∧ MachAt C H q m ∧ m.Good ∧ H l = some (.lst (as.map V.ref)) ∧ RL (FAt H) as fs ∧ fs.length ≤ 600 ∧ (∀ x ∈ fs, x.1.length ≤ 100) ∧
  ∀ l' as' H', Same H H' → H l' = none → H' l' = some (.lst (as'.map V.ref)) → RL (FAtN H H') as' (fs.flatMap (ext1 m)) → Q (.ref l') H'
set_option maxHeartbeats 40000000 in
theorem ok_one_hour_on {P : Program} {w : World} {K : PySem.W.Frag} {mg : Str → Option Value} {base : Heap} {a : Adr} (tx : Txt K mg a) : FnOk P w K mg base CX0 3 a.f_one_hour_on a.d_one_hour_on ["machine", "found"] (sp_one_hour_on K a.c_Machine) := by
  have G_may_be := ok_may_be (P := P) (w := w) (base := base) tx
  have G_state_after := ok_state_after (P := P) (w := w) (base := base) tx
  refine tx.F_one_hour_on.ok sc_one_hour_on (fun vs H Q E h => ?_) (fun cdv A outer s H vs Q E hr h => ?_)
  · obtain ⟨q, m, l, as, fs, rfl, _⟩ := h
    rfl
  · obtain ⟨q, m, l, as, fs, rfl , hm, hg, gl, rl, hz, hn, k⟩ := h
    have hu := hu9 hr
    refine L2.Q.root (L2.Q.pss_cons (L2.Q.ps_set (i := 2) sc_one_hour_on.nd rfl (Or.inl rfl) (L2.Q.pe_lst L2.Q.pa_nil))
      (L2.Q.pss_cons (L2.Q.ps_for PassesOwn.never rfl (L2.Q.pi_listK (K' := K) (L2.Q.pv 1)) (L2.Q.pg_tupK (K' := K) (n := 2) rfl (L2.Q.pgs_cons (L2.Q.pg_name (i := 3) sc_one_hour_on.nd rfl (Or.inl rfl)) (L2.Q.pgs_cons (L2.Q.pg_name (i := 4) sc_one_hour_on.nd rfl (Or.inl rfl)) L2.Q.pgs_nil))) (L2.Q.pss_one (L2.Q.ps_for PassesOwn.never rfl (L2.Q.pi_tupK (K' := K) (L2.Q.tup2 L2.Q.pe_int L2.Q.pe_int)) (L2.Q.pg_name (i := 5) sc_one_hour_on.nd rfl (Or.inl rfl)) (L2.Q.pss_one (L2.Q.ps_if (L2.Q.pt_val (L2.Q.pe_callN (G_may_be) (hr.mono (by decide)) (by rfl) tx.g_may_be tx.F_may_be.kp tx.b_may_be .nil pass0 (L2.Q.pa_c (L2.Q.pv 0) (L2.Q.pa_c (L2.Q.pv 4) (L2.Q.pa_c (L2.Q.pv 5) L2.Q.pa_nil))))) (L2.Q.pss_one (L2.Q.ps_expr (L2.Q.pe_appK (K' := K) (L2.Q.pv 2) (L2.Q.pa_c (L2.Q.tup2 (L2.Q.pe_op op_addG (L2.Q.pv 3) (L2.Q.lst1 (L2.Q.pv 5))) (L2.Q.pe_callN (G_state_after) (hr.mono (by decide)) (by rfl) tx.g_state_after tx.F_state_after.kp tx.b_state_after .nil pass0 (L2.Q.pa_c (L2.Q.pv 0) (L2.Q.pa_c (L2.Q.pv 4) (L2.Q.pa_c (L2.Q.pv 5) L2.Q.pa_nil))))) L2.Q.pa_nil)))) L2.Q.pss_nil)))))
      (L2.Q.pss_one (L2.Q.ps_ret (L2.Q.pv 2))))) ?_
    have las := rl.len
    refine rd_start (σ := [some (.ref q), some (.ref l), none, none, none, none]) rfl ?_
    repeat walk_at "go"
    intro c nc
    obtain ⟨H1, i1, s1, g1⟩ := nw _ nc; rw [i1]
    have gl1 := s1 _ _ gl
    repeat walk_at "go"
    refine rd_li (SqL.of gl1) ?_
    refine rf_list (xs := as.map V.ref) (fun i σ' H' => ∃ (as' : List Addr) (fs' : List Fnd) (z3 z4 z5 : Option V), σ' = [some (.ref q), some (.ref l), some (.ref c), z3, z4, z5] ∧ H' c = some (.lst (as'.map V.ref)) ∧ RL (FAtN H (del c H')) as' fs' ∧ fs'.length ≤ 2 * i ∧ fs' = (fs.take i).flatMap (ext1 m) ∧ Same H H')
      ⟨[], [], _, _, _, rfl, g1, RL.nil, Nat.le_refl _, rfl, s1⟩ (fun i σ' H' hi ⟨_, _, _, _, _, _, _, _, _, _, h⟩ => SqL.of (h _ _ gl)) (fun i v σ' H' hv ⟨as', fs', z3, z4, z5, e, gc, rc, lc, hs, S'⟩ => ?_) (fun σ' H' ⟨as', fs', z3, z4, z5, e, gc, rc, lc, hs, S'⟩ => ?_)
    · subst e
      obtain ⟨a1, x, ea, rfl, ex, hx⟩ := rl.get hv
      have il : i < fs.length := (List.getElem?_eq_some_iff.mp ex).1
      have x3 := hn x (List.mem_of_getElem? ex)
      obtain ⟨r, t, ga, gr, gt⟩ := hx
      have ga' := S' _ _ ga
      refine rd_gtup (SqT.of ga') rfl ?_
      repeat walk_at "go"
      intro Tu nTu
      obtain ⟨H2, i2, s2, gTu⟩ := nw _ nTu; rw [i2]
      have Tuc : Tu ≠ c := fun z => by rw [z, gc] at nTu; cases nTu
      repeat walk_at "go"
      refine rd_ti (SqT.of gTu) ?_
      refine rf_tup (xs := ([0, 1] : List Int).map V.int) (fun j σ' H3 => ∃ (as' : List Addr) (fs' : List Fnd) (z5 : Option V), σ' = [some (.ref q), some (.ref l), some (.ref c), some (.ref r), some (.ref t), z5] ∧ H3 c = some (.lst (as'.map V.ref)) ∧ RL (FAtN H (del c H3)) as' fs' ∧ fs'.length ≤ 2 * i + j ∧ fs' = (fs.take i).flatMap (ext1 m) ++ (([0, 1] : List Int).take j).flatMap (ext2 m x) ∧ Same H H3 ∧ Keep c H2 H3)
        ⟨as', fs', _, rfl, s2 _ _ gc, rc.imp fun a y z => z.same (same_dels s2), lc, by rw [hs, List.take_zero, List.flatMap_nil, List.append_nil], S'.trans s2, fun _ _ e _ => e⟩ (fun j σ' H3 hj ⟨_, _, _, _, _, _, _, _, _, h⟩ => SqT.of (h _ _ gTu Tuc)) (fun j v σ' H3 hv ⟨as', fs', z5, e, gc3, rc3, lc3, hs3, S3, k3⟩ => ?_) (fun σ' H3 ⟨as', fs', z5, e, gc3, rc3, lc3, hs3, S3, k3⟩ => ?_)
      · subst e
        have jl : j < 2 := (List.getElem?_eq_some_iff.mp hv).1
        obtain ⟨on, eon, rfl⟩ := int_get hv
        have bon : Bit on := by
          have := List.mem_of_getElem? eon
          simp at this
          exact this
        have tkE : (([0, 1] : List Int).take (j + 1)).flatMap (ext2 m x) = (([0, 1] : List Int).take j).flatMap (ext2 m x) ++ ext2 m x on := by
          rw [show ([0, 1] : List Int).take (j + 1) = ([0, 1] : List Int).take j ++ [on] by rw [List.take_add_one, eon]; rfl, List.flatMap_append, List.flatMap_cons, List.flatMap_nil, List.append_nil]
        have gt3 := S3 _ _ gt
        repeat walk_at "go"
        refine ⟨_, t, _, _, on, rfl, gt3, ?_⟩
        by_cases hmay : x.2.1 = on ∨ x.2.2 = 0
        · rw [show (decide (x.2.1 = on) || decide (x.2.2 = 0)) = true by simpa using hmay]
          repeat walk_at "go"
          refine rd_tyL (SqL.of gc3) ?_
          repeat walk_at "go"
          intro e4 ne4
          obtain ⟨H4, i4, s4, g4⟩ := nw _ ne4; rw [i4]
          have gr4 := (S3.trans s4) _ _ gr
          repeat walk_at "go"
          refine rd_addL gr4 g4 (sz_le (by rw [List.length_map]; simp; omega)) ?_
          intro r5 n5
          obtain ⟨H5, i5, s5, g5⟩ := nw _ n5; rw [i5]
          replace g5 : H5 r5 = some (.lst ((x.1 ++ [on]).map V.int)) := by rw [g5, List.map_append]; rfl
          have S5 := S3.trans (s4.trans s5)
          repeat walk_at "go"
          refine ⟨q, m, t, _, _, on, rfl, hm.same S5, S5 _ _ gt, hmay, fun T6 H6 s6 nT6 gT6 => ?_⟩
          repeat walk_at "go"
          intro T7 nT7
          obtain ⟨H7, i7, s7, g7⟩ := nw _ nT7; rw [i7]
          have S37 : Same H3 H7 := s4.trans (s5.trans (s6.trans s7))
          have gc7 := S37 _ _ gc3
          have r5c : r5 ≠ c := fun z => by rw [z, s4 _ _ gc3] at n5; cases n5
          have T6c : T6 ≠ c := fun z => by rw [z, (s4.trans s5) _ _ gc3] at nT6; cases nT6
          have T7c : T7 ≠ c := fun z => by rw [z, (s4.trans (s5.trans s6)) _ _ gc3] at nT7; cases nT7
          have las3 := rc3.len
          repeat walk_at "go"
          refine rd_app (xs := as'.map V.ref) gc7 (Nat.lt_of_lt_of_le (by rw [List.length_map]; omega : (as'.map V.ref).length < 2000) (sz_le (by simp))) ?_
          obtain ⟨H8, i8, k8, g8⟩ := wr H7 c _; rw [i8]
          have e8 : del c H8 = del c H7 := by rw [← i8]; exact del_upd
          have fnew : FAtN H (del c H8) T7 (x.1 ++ [on], aft m x.2.1 x.2.2 on) := by
            rw [e8]
            exact ⟨r5, T6, del_some g7 T7c, del_some ((s6.trans s7) _ _ g5) r5c, del_some (s7 _ _ gT6) T6c, (S3.trans s4).free n5⟩
          repeat walk_at "go"
          refine ⟨as' ++ [T7], fs' ++ [(x.1 ++ [on], aft m x.2.1 x.2.2 on)], _, rfl, by rw [g8, List.map_append]; rfl, (rc3.imp fun a y z => by rw [e8]; exact z.same (same_dels S37)).snoc fnew, by rw [List.length_append, List.length_singleton]; omega, ?_, fun b o e => k8 _ _ ((S3.trans S37) _ _ e) (ne_none nc e), k3.trans (S37.keep.trans k8)⟩
          rw [hs3, tkE, List.append_assoc, show ext2 m x on = [(x.1 ++ [on], aft m x.2.1 x.2.2 on)] from if_pos hmay]
        · rw [show (decide (x.2.1 = on) || decide (x.2.2 = 0)) = false by simpa using hmay]
          repeat walk_at "go"
          refine ⟨as', fs', _, rfl, gc3, rc3, by omega, ?_, S3, k3⟩
          rw [hs3, tkE, show ext2 m x on = [] from if_neg hmay, List.append_nil]
      · subst e
        refine ⟨as', fs', _, _, _, rfl, gc3, rc3, by rw [List.length_map] at lc3; simp at lc3; omega, ?_, S3⟩
        rw [hs3, take_snoc ex, List.flatMap_append, List.length_map]
        simp [ext1]
    · subst e
      repeat walk_at "go"
      rw [List.length_map, las, List.take_length] at hs
      subst hs
      exact k c as' H' S' nc gc (rc.imp fun a y z => z.same del_le)
def sp_all_runs (K : PySem.W.Frag) (C CT : Addr) : Sp := fun vs H Q E => ∃ (q : Addr) (m : MS) (t : Addr) (o d : Int) (n most : Int), vs = [.ref q, .ref t, .int n, .int most] ∧ MachAt C H q m ∧ m.Good ∧ H t = some (.tup [.int o, .int d]) ∧ St0 o d ∧ 0 ≤ n ∧ n ≤ 60 ∧ most ≤ 500 ∧
  (cnt m n.toNat o d ≤ most → ∀ c ys H', Same H H' → H c = none → (∀ y ∈ ys, H y = none) → H' c = some (.lst (ys.map V.ref)) → RL (IL H') ys ((runsF m o d n.toNat).map (·.1)) → Q (.ref c) H') ∧ (most < cnt m n.toNat o d → ∀ e od H', Same H H' → ErrV H' e CT "limit" (.int most) → E (.ref e) od H')
set_option maxHeartbeats 40000000 in
theorem ok_all_runs {P : Program} {w : World} {K : PySem.W.Frag} {mg : Str → Option Value} {base : Heap} {a : Adr} (tx : Txt K mg a) : FnOk P w K mg base (CXE P w) 6 a.f_all_runs a.d_all_runs ["machine", "state", "hours", "most"] (sp_all_runs K a.c_Machine a.c_TooMany) := by
  have G_TooMany_init := ok_TooMany_init (P := P) (w := w) (base := base) tx
  have G_one_hour_on := ok_one_hour_on (P := P) (w := w) (base := base) tx
  have G_run_count := ok_run_count (P := P) (w := w) (base := base) tx
  refine tx.F_all_runs.okE sc_all_runs (fun vs H Q E h => ?_) (fun cdv A outer s H vs Q E hr h => ?_)
  · obtain ⟨q, m, t, o, d, n, most, rfl, _⟩ := h
    rfl
  · obtain ⟨q, m, t, o, d, n, most, rfl , hm, hg, ht, hst, n0, n1, m1, k1, k2⟩ := h
    have hu := hu9 hr
    refine L2.Q.root (L2.Q.pss_cons (L2.Q.ps_if (L2.Q.pt_cmpR op_gt (L2.Q.pe_callN (G_run_count) (hr.mono (by decide)) (by rfl) tx.g_run_count tx.F_run_count.kp tx.b_run_count .nil pass0 (L2.Q.pa_c (L2.Q.pv 0) (L2.Q.pa_c (L2.Q.pv 1) (L2.Q.pa_c (L2.Q.pv 2) L2.Q.pa_nil)))) (L2.Q.pv 3) (nomark _)) (L2.Q.pss_one (L2.Q.ps_raise (K' := K) (E := E) raises_cx rfl (L2.Q.pe_mkE tx.Z_TooMany tx.fi_TooMany tx.ff_TooMany (G_TooMany_init) (hr.mono (by decide)) (by rfl) tx.g_TooMany tx.b_TooMany_init (L2.Q.pa_c (L2.Q.pv 3) L2.Q.pa_nil)))) L2.Q.pss_nil)
      (L2.Q.pss_cons (L2.Q.ps_set (i := 4) sc_all_runs.nd rfl (Or.inl rfl) (L2.Q.lst1 (L2.Q.tup2 (L2.Q.pe_lst L2.Q.pa_nil) (L2.Q.pv 1))))
      (L2.Q.pss_cons (L2.Q.ps_for pass_cx rfl (L2.Q.pi_range1N (by rfl) tx.z_range (L2.Q.pa_c (L2.Q.pv 2) L2.Q.pa_nil)) (L2.Q.pg_name (i := 5) sc_all_runs.nd rfl (Or.inl rfl)) (L2.Q.pss_one (L2.Q.ps_set (i := 4) sc_all_runs.nd rfl (Or.inl rfl) (L2.Q.pe_callN (G_one_hour_on) (hr.mono (by decide)) (by rfl) tx.g_one_hour_on tx.F_one_hour_on.kp tx.b_one_hour_on .nil pass0 (L2.Q.pa_c (L2.Q.pv 0) (L2.Q.pa_c (L2.Q.pv 4) L2.Q.pa_nil))))))
      (L2.Q.pss_one (L2.Q.ps_ret (L2.Q.pe_comp (k := 1) (idx := []) (N := ["pair"]) (blk_sc (sc := defScope s_all_runs) (NX := ["machine", "state", "hours", "most", "found", "hour"]) rfl rfl rfl (by decide +kernel)) rfl (L2.Q.pi_listK (K' := K) (L2.Q.pv 4)) (fun _ _ _ _ => (L2.Q.pg_name (i := 0) (show (["pair"] : List Str).Nodup by decide +kernel) rfl (Or.inl rfl))) (own_name (by decide)) (fun _ _ _ _ => L2.Q.pts_nil) (fun _ _ _ _ => (L2.Q.pe_ixK (K' := K) (L2.Q.pv 0) L2.Q.pe_int (fun _ _ => rfl))))))))) ?_
    refine rd_start (σ := [some (.ref q), some (.ref t), some (.int n), some (.int most), none, none]) rfl ?_
    repeat walk_at "go"
    refine ⟨q, m, t, o, d, n, rfl, hm, hg, ht, hst, n0, by omega, fun H1 s1 => ?_⟩
    repeat walk_at "go"
    refine rd_dec (fun h => ?_) (fun hle => ?_)
    · repeat walk_at "gs"
      intro x nx
      refine ⟨x, a.c_TooMany, .int most, rfl, upd_same, tx.Z_TooMany, tx.ni_TooMany_limit, fun dx n1 n2 => ⟨rfl, x, a.c_TooMany, some dx, rfl, upd_same, tx.Z_TooMany, ?_⟩⟩
      obtain ⟨s2, e2⟩ := err_set (C := a.c_TooMany) (c := ErrN a.c_TooMany (some dx) x) nx n1 n2
      exact k2 (by omega) _ _ _ (s1.trans s2) e2
    have hle : cnt m n.toNat o d ≤ most := by omega
    have flen : ∀ i : Nat, i ≤ n.toNat → (runsF m o d i).length ≤ 500 := fun i hi => by
      have e := runsF_len m o d n.toNat
      have := runsF_mono hg hst hi
      omega
    have ht1 := s1 _ _ ht
    repeat walk_at "go"
    intro r0 nr0
    obtain ⟨H2, i2, s2, g2⟩ := nw _ nr0; rw [i2]
    repeat walk_at "go"
    intro T0 nT0
    obtain ⟨H3, i3, s3, g3⟩ := nw _ nT0; rw [i3]
    repeat walk_at "go"
    intro l0 nl0
    obtain ⟨H4, i4, s4, g4⟩ := nw _ nl0; rw [i4]
    have S4 := s1.trans (s2.trans (s3.trans s4))
    have f0 : FAtN H H4 T0 ([], o, d) := ⟨r0, t, s4 _ _ g3, (s3.trans s4) _ _ g2, S4 _ _ ht, s1.free nr0⟩
    repeat walk_at "go"
    refine ⟨by omega, by omega, ?_⟩
    refine rf_range (fun i σ' H' => ∃ (l : Addr) (as : List Addr) (z5 : Option V), σ' = [some (.ref q), some (.ref t), some (.int n), some (.int most), some (.ref l), z5] ∧ H' l = some (.lst (as.map V.ref)) ∧ RL (FAtN H H') as (runsF m o d i) ∧ Same H H')
      ⟨l0, [T0], _, rfl, g4, RL.one f0, S4⟩ (fun i σ' H' hi ⟨l, as, z5, e, gl, rl, S'⟩ => ?_) (fun σ' H' ⟨l, as, z5, e, gl, rl, S'⟩ => ?_)
    · subst e
      have := flen i (by omega)
      repeat walk_at "go"
      refine ⟨q, m, l, as, _, rfl, hm.same S', hg, gl, rl.imp fun a x z => z.at, by omega, fun x hx => by rw [((runsF_fs hg hst i).at_ x hx).2.2.1]; omega, fun l' as' H5 s5 nl' gl' rl' => ?_⟩
      repeat walk_at "go"
      exact ⟨l', as', _, rfl, gl', rl'.imp fun a x z => z.le S', S'.trans s5⟩
    · subst e
      have l16 := flen n.toNat (Nat.le_refl _)
      have las := rl.len
      have k3 := k1 hle
      replace rl : RL (FAtN H H') as (runsF m o d n.toNat) := rl
      generalize runsF m o d n.toNat = fs at rl k3 l16 las
      repeat walk_at "go"
      refine rd_li (SqL.of gl) ?_
      refine comp_list (xs := as.map V.ref) (fun j us H2 => H2 = H' ∧ ∃ ys : List Addr, us = ys.map V.ref ∧ (∀ y ∈ ys, H y = none) ∧ RL (IL H') ys ((fs.take j).map (·.1))) ⟨rfl, [], rfl, (fun y hy => by cases hy), RL.nil⟩ (sz_le (by rw [List.length_map]; omega))
        (fun j us H2 hj ⟨e0, ys, e1, hy, ry⟩ => ⟨by rw [e0]; exact SqL.of gl, by rw [e1, List.length_map, ry.len, List.length_map, List.length_take]; omega⟩) (fun j v us H2 hv ⟨e0, ys, e1, hy, ry⟩ => ?_) (fun us H2 ⟨e0, ys, e1, hy, ry⟩ => ?_)
      · subst e0
        obtain ⟨a1, x, ea, rfl, ex, r, t', ga, gr, gt, nr⟩ := rl.get hv
        repeat walk_at "go"
        refine ⟨rfl, ys ++ [r], by rw [e1, List.map_append]; rfl, fun y h => ?_, ?_⟩
        · rcases List.mem_append.mp h with h | h
          · exact hy y h
          · rw [List.mem_singleton.mp h]; exact nr
        rw [take_snoc ex, List.map_append]
        exact ry.snoc gr
      subst e0 e1
      rw [List.length_map, las, List.take_length] at ry
      intro c nc
      obtain ⟨H6, i6, s6, g6⟩ := nw _ nc; rw [i6]
      repeat walk_at "go"
      exact k3 c ys H6 (S'.trans s6) (S'.free nc) hy g6 (ry.imp fun a x z => s6 _ _ z)
def okB (m : MS) : Int → Int → List Int → Bool
  | _, _, [] => true
  | o, d, on :: r => (decide (o = on) || decide (d = 0)) && okB m (aft m o d on).1 (aft m o d on).2 r
theorem okB_iff {m : MS} : ∀ {ns : List Int} {o d : Int}, okB m o d ns = true ↔ Ok m o d ns
  | [], _, _ => ⟨fun _ => trivial, fun _ => rfl⟩
  | on :: r, o, d => by
    show ((decide (o = on) || decide (d = 0)) && okB m (aft m o d on).1 (aft m o d on).2 r) = true ↔ (o = on ∨ d = 0) ∧ Ok m _ _ r
    rw [Bool.and_eq_true, Bool.or_eq_true, decide_eq_true_eq, decide_eq_true_eq, okB_iff]
def rowsL : Nat → List (List Int)
  | 0 => [[]]
  | n + 1 => (rowsL n).map (· ++ [0]) ++ (rowsL n).map (· ++ [1])
theorem rowsL_mem : ∀ {n : Nat} {t : List Int}, t ∈ rowsL n ↔ t.length = n ∧ ∀ k ∈ t, Bit k
  | 0, t => by
    constructor
    · intro h
      rw [List.mem_singleton.mp h]
      exact ⟨rfl, fun k hk => by cases hk⟩
    · rintro ⟨h, _⟩
      rw [List.length_eq_zero_iff.mp h]
      exact .head _
  | n + 1, t => by
    constructor
    · intro h
      rcases List.mem_append.mp h with h | h
      · obtain ⟨u, hu, rfl⟩ := List.mem_map.mp h
        obtain ⟨a, b⟩ := rowsL_mem.mp hu
        refine ⟨by rw [List.length_append, a]; rfl, fun k hk => ?_⟩
        rcases List.mem_append.mp hk with q | q
        · exact b k q
        · rw [List.mem_singleton.mp q]; exact .inl rfl
      · obtain ⟨u, hu, rfl⟩ := List.mem_map.mp h
        obtain ⟨a, b⟩ := rowsL_mem.mp hu
        refine ⟨by rw [List.length_append, a]; rfl, fun k hk => ?_⟩
        rcases List.mem_append.mp hk with q | q
        · exact b k q
        · rw [List.mem_singleton.mp q]; exact .inr rfl
    · rintro ⟨h, hb⟩
      rcases List.eq_nil_or_concat t with e | ⟨u, x, e⟩
      · rw [e] at h; cases h
      · have e' : t = u ++ [x] := by rw [e]; simp
        subst e'
        have hu : u ∈ rowsL n := rowsL_mem.mpr ⟨by simp at h; exact h, fun k hk => hb k (List.mem_append_left _ hk)⟩
        rcases hb x (List.mem_append_right _ (.head _)) with rfl | rfl
        · exact List.mem_append_left _ (List.mem_map.mpr ⟨u, hu, rfl⟩)
        · exact List.mem_append_right _ (List.mem_map.mpr ⟨u, hu, rfl⟩)
theorem rowsL_nd : ∀ n : Nat, (rowsL n).Nodup
  | 0 => by simp [rowsL]
  | n + 1 => by
    have ih := rowsL_nd n
    show ((rowsL n).map (· ++ [0]) ++ (rowsL n).map (· ++ [1])).Nodup
    rw [List.nodup_append]
    refine ⟨List.Pairwise.map _ (fun a b h z => h (List.append_cancel_right z)) ih, List.Pairwise.map _ (fun a b h z => h (List.append_cancel_right z)) ih, fun a ha b hb z => ?_⟩
    obtain ⟨u, _, rfl⟩ := List.mem_map.mp ha
    obtain ⟨v, _, rfl⟩ := List.mem_map.mp hb
    have := (List.append_inj' z rfl).2
    simp at this
theorem rise_uniq : ∀ {xs ys : List (List Int)}, xs.Pairwise (fun a b => lexB a b = true) → ys.Pairwise (fun a b => lexB a b = true) → (∀ t, t ∈ xs ↔ t ∈ ys) → xs = ys
  | [], [], _, _, _ => rfl
  | [], y :: ys, _, _, h => by have := (h y).mpr (.head _); cases this
  | x :: xs, [], _, _, h => by have := (h x).mp (.head _); cases this
  | x :: xs, y :: ys, hx, hy, h => by
    obtain ⟨x1, x2⟩ := List.pairwise_cons.mp hx
    obtain ⟨y1, y2⟩ := List.pairwise_cons.mp hy
    have irr : ∀ a, ¬ lexB a a = true := fun a z => by rw [lexB_irrefl] at z; cases z
    have e : x = y := by
      rcases List.mem_cons.mp ((h x).mp (.head _)) with e | e
      · exact e
      · rcases List.mem_cons.mp ((h y).mpr (.head _)) with e2 | e2
        · exact e2.symm
        · exact absurd (lexB_trans _ _ _ (y1 x e) (x1 y e2)) (irr _)
    subst e
    rw [rise_uniq x2 y2 fun t => ?_]
    constructor
    · intro ht
      rcases List.mem_cons.mp ((h t).mp (.tail _ ht)) with e | e
      · subst e; exact absurd (x1 t ht) (irr _)
      · exact e
    · intro ht
      rcases List.mem_cons.mp ((h t).mpr (.tail _ ht)) with e | e
      · subst e; exact absurd (y1 t ht) (irr _)
      · exact e
theorem rise_of {xs : List (List Int)} (nd : xs.Nodup) (h : xs.Pairwise (fun a b => lexB b a = false)) : xs.Pairwise (fun a b => lexB a b = true) := by
  refine (List.Pairwise.and nd h).imp fun {a b} ⟨n, f⟩ => ?_
  cases e : lexB a b with
  | true => rfl
  | false => exact absurd (lexB_total _ _ e f) n
theorem lexB_app {a b : List Int} (h : lexB a b = true) (hl : a.length = b.length) (x y : List Int) : lexB (a ++ x) (b ++ y) = true := by
  induction a generalizing b with
  | nil =>
    cases b with
    | nil => cases h
    | cons _ _ => simp at hl
  | cons p a ih =>
    cases b with
    | nil => simp at hl
    | cons q b =>
      rw [lexB_cons] at h
      show lexB (p :: (a ++ x)) (q :: (b ++ y)) = true
      rw [lexB_cons]
      split
      · rename_i e
        rw [if_pos e] at h
        exact ih h (by simpa using hl)
      · rename_i e
        rw [if_neg e] at h
        exact h
theorem lexB_last : ∀ (a : List Int), lexB (a ++ [0]) (a ++ [1]) = true
  | [] => rfl
  | p :: a => by
    show lexB (p :: (a ++ [0])) (p :: (a ++ [1])) = true
    rw [lexB_cons, if_pos rfl]
    exact lexB_last a
theorem ext1_rise (m : MS) (x : Fnd) : ((ext1 m x).map (·.1)).Pairwise (fun a b => lexB a b = true) := by
  unfold ext1 ext2
  split <;> split <;> simp [lexB_last]
theorem ext1_on {m : MS} {x y : Fnd} (h : y ∈ ext1 m x) : ∃ on, y.1 = x.1 ++ [on] := by
  unfold ext1 ext2 at h
  rcases List.mem_append.mp h with h | h
  · split at h
    · rw [List.mem_singleton.mp h]; exact ⟨0, rfl⟩
    · cases h
  · split at h
    · rw [List.mem_singleton.mp h]; exact ⟨1, rfl⟩
    · cases h
theorem runsF_rise {m : MS} (g : m.Good) {o d : Int} (h : St0 o d) : ∀ n, ((runsF m o d n).map (·.1)).Pairwise (fun a b => lexB a b = true)
  | 0 => List.pairwise_singleton _ _
  | n + 1 => by
    have ih := runsF_rise g h n
    have fs := (runsF_fs g h n).at_
    show (((runsF m o d n).flatMap (ext1 m)).map (·.1)).Pairwise _
    generalize runsF m o d n = l at ih fs
    induction l with
    | nil => exact List.Pairwise.nil
    | cons x r ih2 =>
      rw [List.map_cons, List.pairwise_cons] at ih
      rw [List.flatMap_cons, List.map_append, List.pairwise_append]
      refine ⟨ext1_rise m x, ih2 ih.2 fun y hy => fs y (.tail _ hy), fun a ha b hb => ?_⟩
      obtain ⟨y, hy, rfl⟩ := List.mem_map.mp ha
      obtain ⟨z, hz, rfl⟩ := List.mem_map.mp hb
      obtain ⟨w, hw, hz⟩ := List.mem_flatMap.mp hz
      obtain ⟨p, ep⟩ := ext1_on hy
      obtain ⟨q, eq⟩ := ext1_on hz
      rw [ep, eq]
      refine lexB_app (ih.1 w.1 (List.mem_map.mpr ⟨w, hw, rfl⟩)) ?_ _ _
      rw [(fs x (.head _)).2.2.1, (fs w (.tail _ hw)).2.2.1]
theorem runsF_all {m : MS} (g : m.Good) {o d : Int} (h : St0 o d) : ∀ {n : Nat} {t : List Int}, t.length = n → (∀ k ∈ t, Bit k) → Ok m o d t → t ∈ (runsF m o d n).map (·.1)
  | 0, t, hl, _, _ => by
    rw [List.length_eq_zero_iff.mp hl]
    exact .head _
  | n + 1, t, hl, hb, hk => by
    rcases List.eq_nil_or_concat t with e | ⟨u, x, e⟩
    · rw [e] at hl; cases hl
    · have e' : t = u ++ [x] := by rw [e]; simp
      subst e'
      obtain ⟨k1, k2⟩ := Ok_app.mp hk
      obtain ⟨y, hy, ey⟩ := List.mem_map.mp (runsF_all g h (n := n) (by simp at hl; exact hl) (fun k hk => hb k (List.mem_append_left _ hk)) k1)
      have fy := (runsF_fs g h n).at_ y hy
      have ey2 : y.2 = ed m o d u := by rw [fy.2.2.2.1, ey]
      refine List.mem_map.mpr ⟨(u ++ [x], aft m y.2.1 y.2.2 x), List.mem_flatMap.mpr ⟨y, hy, ?_⟩, rfl⟩
      have may : y.2.1 = x ∨ y.2.2 = 0 := by rw [ey2]; exact k2.1
      have me : (u ++ [x], aft m y.2.1 y.2.2 x) ∈ ext2 m y x := by
        unfold ext2
        rw [if_pos may, ey]
        exact .head _
      rcases hb x (List.mem_append_right _ (.head _)) with rfl | rfl
      · exact List.mem_append_left _ me
      · exact List.mem_append_right _ me
theorem runsF_mem {m : MS} (g : m.Good) {o d : Int} (h : St0 o d) {n : Nat} {t : List Int} : t ∈ (runsF m o d n).map (·.1) ↔ t ∈ (rowsL n).filter (okB m o d) := by
  rw [List.mem_filter, rowsL_mem, okB_iff]
  constructor
  · intro ht
    obtain ⟨y, hy, rfl⟩ := List.mem_map.mp ht
    obtain ⟨a, b, c, _⟩ := (runsF_fs g h n).at_ y hy
    exact ⟨⟨c, b⟩, a⟩
  · rintro ⟨⟨a, b⟩, c⟩
    exact runsF_all g h a b c
theorem sorted_runs {m : MS} (g : m.Good) {o d : Int} (h : St0 o d) {n : Nat} {ts : List (List Int)} (hp : ts.Perm ((rowsL n).filter (okB m o d))) (hs : ts.Pairwise (fun a b => lexB b a = false)) : ts = (runsF m o d n).map (·.1) := by
  have nd : ts.Nodup := hp.nodup_iff.mpr ((rowsL_nd n).filter _)
  exact rise_uniq (rise_of nd hs) (runsF_rise g h n) fun t => by rw [hp.mem_iff, runsF_mem g h]
def cntN (u v : Nat) : Nat → Bool → Nat → Nat
  | 0, _, _ => 1
  | n + 1, o, d => cntN u v n o (d - 1) + if d = 0 then cntN u v n (!o) ((if o then v else u) - 1) else 0
theorem cntN_far {u v : Nat} : ∀ {n d : Nat} {o : Bool}, n ≤ d → cntN u v n o d = 1
  | 0, _, _, _ => rfl
  | n + 1, d, o, h => by
    show cntN u v n o (d - 1) + (if d = 0 then _ else 0) = 1
    rw [if_neg (by omega), cntN_far (by omega)]
theorem cnt_succ (m : MS) (n : Nat) (o d : Int) : cnt m (n + 1) o d = tP m 0 (cnt m n) o d + tP m 1 (cnt m n) o d := by
  show tN m (n + 1) one o d = tB m (tN m n one) o d
  rw [tN_succ]
theorem aft00 (m : MS) (d : Int) : aft m 0 d 0 = (0, max (d - 1) 0) := by unfold My.aft; rw [if_pos rfl]
theorem aft11 (m : MS) (d : Int) : aft m 1 d 1 = (1, max (d - 1) 0) := by unfold My.aft; rw [if_pos rfl]
theorem aft01 (m : MS) (d : Int) : aft m 0 d 1 = (1, m.up - 1) := by unfold My.aft; rw [if_neg (by decide), if_pos rfl]
theorem aft10 (m : MS) (d : Int) : aft m 1 d 0 = (0, m.down - 1) := by unfold My.aft; rw [if_neg (by decide), if_neg (by decide)]
theorem tP_yes {m : MS} {on o d : Int} {f : Int → Int → Int} (h : o = on ∨ d = 0) : tP m on f o d = f (aft m o d on).1 (aft m o d on).2 := by unfold tP; rw [if_pos h]
theorem tP_no {m : MS} {on o d : Int} {f : Int → Int → Int} (h : ¬ (o = on ∨ d = 0)) : tP m on f o d = 0 := by unfold tP; rw [if_neg h]
theorem cntN_succ (u v n : Nat) (o : Bool) (d : Nat) : cntN u v (n + 1) o d = cntN u v n o (d - 1) + if d = 0 then cntN u v n (!o) ((if o then v else u) - 1) else 0 := rfl
theorem cnt_cntN {m : MS} (g : m.Good) : ∀ {n : Nat} {d : Int}, 0 ≤ d → cnt m n 0 d = (cntN m.up.toNat m.down.toNat n false d.toNat : Nat) ∧ cnt m n 1 d = (cntN m.up.toNat m.down.toNat n true d.toNat : Nat)
  | 0, _, _ => ⟨rfl, rfl⟩
  | n + 1, d, hd => by
    have gu := g.up
    have gv := g.down
    have e1 : (max (d - 1) 0).toNat = d.toNat - 1 := by omega
    have h1 := cnt_cntN g (n := n) (show (0 : Int) ≤ max (d - 1) 0 by omega)
    have h2 := cnt_cntN g (n := n) (show (0 : Int) ≤ m.up - 1 by omega)
    have h3 := cnt_cntN g (n := n) (show (0 : Int) ≤ m.down - 1 by omega)
    rw [e1] at h1
    rw [show (m.up - 1).toNat = m.up.toNat - 1 by omega] at h2
    rw [show (m.down - 1).toNat = m.down.toNat - 1 by omega] at h3
    rw [cnt_succ, cnt_succ, cntN_succ, cntN_succ]
    by_cases z : d = 0
    · have zn : d.toNat = 0 := by omega
      rw [if_pos zn, if_pos zn, tP_yes (.inr z), tP_yes (.inr z), tP_yes (.inr z), tP_yes (.inr z), aft00, aft01, aft10, aft11]
      dsimp only
      rw [h1.1, h1.2, h2.2, h3.1]
      refine ⟨?_, ?_⟩
      · rw [Int.natCast_add]; rfl
      · rw [Int.natCast_add, Int.add_comm]; rfl
    · have zn : ¬ d.toNat = 0 := by omega
      rw [if_neg zn, if_neg zn, tP_yes (.inl rfl), tP_no (by omega), tP_no (by omega), tP_yes (.inl rfl), aft00, aft11]
      dsimp only
      rw [h1.1, h1.2]
      simp
def bigs : List (Nat × Nat × Bool × Nat × Nat) := [(1, 1, false, 0, 6), (1, 1, false, 0, 7), (1, 1, false, 1, 7), (1, 1, true, 0, 6), (1, 1, true, 0, 7), (1, 1, true, 1, 7), (1, 2, false, 0, 7), (2, 1, true, 0, 7)]
theorem few_all : ∀ (u v : Fin 12) (o : Bool) (d n : Fin 8), (Nat.blt (cntN (u.val + 1) (v.val + 1) n.val o d.val) 64 || bigs.contains (u.val + 1, v.val + 1, o, d.val, n.val)) = true := by decide +kernel
def m0 (u v : Int) : MS := ⟨u, v, 0, 0, 0, 0, []⟩
theorem okB_m0 {m : MS} : ∀ {ns : List Int} {o d : Int}, okB m o d ns = okB (m0 m.up m.down) o d ns
  | [], _, _ => rfl
  | on :: r, o, d => by
    show ((decide (o = on) || decide (d = 0)) && okB m (aft m o d on).1 (aft m o d on).2 r) = ((decide (o = on) || decide (d = 0)) && okB (m0 m.up m.down) (aft (m0 m.up m.down) o d on).1 (aft (m0 m.up m.down) o d on).2 r)
    rw [okB_m0 (ns := r)]
    rfl
def bigOk (x : Nat × Nat × Bool × Nat × Nat) : Bool := timOk ((rowsL x.2.2.2.2).filter (okB (m0 x.1 x.2.1) (if x.2.2.1 = true then 1 else 0) x.2.2.2.1))
theorem big7 : timOk (rowsL 7) = true := by decide +kernel
theorem big6 : timOk (rowsL 6) = true := by decide +kernel
theorem all7 (b : Bool) : (rowsL 7).filter (okB (m0 ((1 : Nat) : Int) ((1 : Nat) : Int)) (if b = true then 1 else 0) ((0 : Nat) : Int)) = rowsL 7 := by cases b <;> decide +kernel
theorem all6 (b : Bool) : (rowsL 6).filter (okB (m0 ((1 : Nat) : Int) ((1 : Nat) : Int)) (if b = true then 1 else 0) ((0 : Nat) : Int)) = rowsL 6 := by cases b <;> decide +kernel
theorem big_a : bigOk (1, 1, false, 1, 7) = true := by decide +kernel
theorem big_b : bigOk (1, 1, true, 1, 7) = true := by decide +kernel
theorem big_c : bigOk (1, 2, false, 0, 7) = true := by decide +kernel
theorem big_d : bigOk (2, 1, true, 0, 7) = true := by decide +kernel
theorem big_e (b : Bool) : bigOk (1, 1, b, 0, 7) = true := (congrArg timOk (all7 b)).trans big7
theorem big_f (b : Bool) : bigOk (1, 1, b, 0, 6) = true := (congrArg timOk (all6 b)).trans big6
theorem bigs_ok : bigs.all bigOk = true := by
  unfold bigs
  rw [List.all_cons, List.all_cons, List.all_cons, List.all_cons, List.all_cons, List.all_cons, List.all_cons, List.all_cons, List.all_nil, big_f, big_e, big_a, big_f, big_e, big_b, big_c, big_d]
  rfl
theorem few_or_big {m : MS} (g : m.Good) {o d : Int} (h : St0 o d) {n : Nat} (hn : n ≤ 7) : ((rowsL n).filter (okB m o d)).length < 64 ∨ timOk ((rowsL n).filter (okB m o d)) = true := by
  have gu := g.up
  have gv := g.down
  have hlen : (((rowsL n).filter (okB m o d)).length : Int) = cnt m n o d := by
    rw [← runsF_len]
    have nd : ((runsF m o d n).map (·.1)).Nodup := (runsF_rise g h n).imp fun {a b} z e => by
      rw [e, lexB_irrefl] at z
      cases z
    have pm := ((List.perm_ext_iff_of_nodup ((rowsL_nd n).filter _) nd).mpr fun t => (runsF_mem g h).symm).length_eq
    rw [pm, List.length_map]
  obtain ⟨ho, d0, _⟩ := h
  have hc : cnt m n o d = (cntN m.up.toNat m.down.toNat n (decide (o = 1)) d.toNat : Nat) := by
    rcases ho with rfl | rfl
    · exact (cnt_cntN g d0).1
    · exact (cnt_cntN g d0).2
  by_cases far : n ≤ d.toNat
  · rw [cntN_far far] at hc
    exact .inl (by omega)
  · have key := few_all ⟨m.up.toNat - 1, by omega⟩ ⟨m.down.toNat - 1, by omega⟩ (decide (o = 1)) ⟨d.toNat, by omega⟩ ⟨n, by omega⟩
    dsimp only at key
    rw [show m.up.toNat - 1 + 1 = m.up.toNat by omega, show m.down.toNat - 1 + 1 = m.down.toNat by omega] at key
    rcases (Bool.or_eq_true _ _).mp key with k | k
    · have := Nat.le_of_ble_eq_true k
      exact .inl (by omega)
    · refine .inr ?_
      rw [show okB m o d = okB (m0 m.up m.down) o d from funext fun t => okB_m0]
      have c := List.all_eq_true.mp bigs_ok _ (List.contains_iff_mem.mp k)
      unfold bigOk at c
      dsimp only at c
      rw [show ((m.up.toNat : Nat) : Int) = m.up by omega, show ((m.down.toNat : Nat) : Int) = m.down by omega, show ((d.toNat : Nat) : Int) = d by omega] at c
      rw [show (if decide (o = 1) = true then (1 : Int) else 0) = o by rcases ho with rfl | rfl <;> rfl] at c
      exact c
def lensA : Int → Int → List Int → List Int
  | _, c, [] => [c]
  | p, c, x :: r => if x = p then lensA p (c + 1) r else c :: lensA x 1 r
def lens : List Int → List Int
  | [] => []
  | x :: r => lensA x 1 r
theorem lensA_ne : ∀ (p c : Int) (r : List Int), lensA p c r ≠ []
  | _, _, [] => by simp [lensA]
  | p, c, x :: r => by
    unfold lensA
    split
    · exact lensA_ne _ _ _
    · simp
theorem lensA_len : ∀ {p c : Int} {r : List Int}, (lensA p c r).length ≤ r.length + 1
  | _, _, [] => Nat.le_refl _
  | p, c, x :: r => by
    unfold lensA
    split
    · have := lensA_len (p := p) (c := c + 1) (r := r)
      rw [List.length_cons]; omega
    · have := lensA_len (p := x) (c := 1) (r := r)
      rw [List.length_cons, List.length_cons]; omega
theorem lensA_snoc : ∀ {p c x : Int} {r : List Int}, lensA p c (r ++ [x]) = if (p :: r).getLast? = some x then (lensA p c r).dropLast ++ [((lensA p c r).getLast?.getD 0) + 1] else lensA p c r ++ [1]
  | p, c, x, [] => by
    show lensA p c [x] = if some p = some x then _ else _
    unfold lensA
    by_cases e : x = p
    · rw [if_pos e, if_pos (by rw [e])]
      rfl
    · rw [if_neg e, if_neg (fun z => e (Option.some.inj z).symm)]
      rfl
  | p, c, x, y :: r => by
    show lensA p c (y :: (r ++ [x])) = _
    have e : (p :: y :: r).getLast? = (y :: r).getLast? := by simp [List.getLast?_cons]
    unfold lensA
    by_cases h : y = p
    · rw [if_pos h, if_pos h, e, lensA_snoc]
      rw [show (p :: r).getLast? = (y :: r).getLast? by rw [h]]
    · rw [if_neg h, if_neg h, e, lensA_snoc]
      obtain ⟨a, l, q⟩ : ∃ a l, lensA y 1 r = a :: l := by
        cases z : lensA y 1 r with
        | nil => exact absurd z (lensA_ne _ _ _)
        | cons a l => exact ⟨a, l, rfl⟩
      rw [q]
      split
      · simp [List.dropLast, List.getLast?_cons]
      · rfl
def wntN (m : MS) (on : Int) : Int := if on = 1 then m.up else m.down
def chk (m : MS) : Int → Int → List Int → Bool
  | _, _, [] => true
  | _, _, [_] => true
  | on, w, l :: l' :: r => decide (w ≤ l) && chk m (1 - on) (wntN m (1 - on)) (l' :: r)
theorem aft_ne {m : MS} {on d x : Int} (b : Bit x) (h : on ≠ x) : aft m on d x = (x, wntN m x - 1) := by
  unfold My.aft wntN
  rw [if_neg h]
  rcases b with rfl | rfl
  · rw [if_neg (by decide), if_neg (by decide)]
  · rw [if_pos rfl, if_pos rfl]
theorem chk_ok {m : MS} (g : m.Good) : ∀ {r : List Int} {on w c : Int}, Bit on → (∀ k ∈ r, Bit k) → chk m on w (lensA on c r) = okB m on (max 0 (w - c)) r
  | [], _, _, _, _, _ => rfl
  | x :: r, on, w, c, bo, hb => by
    have bx := hb x (.head _)
    have gu := g.up
    have gv := g.down
    show chk m on w (if x = on then lensA on (c + 1) r else c :: lensA x 1 r) = ((decide (on = x) || decide (max 0 (w - c) = 0)) && okB m (aft m on (max 0 (w - c)) x).1 (aft m on (max 0 (w - c)) x).2 r)
    by_cases h : x = on
    · subst h
      rw [if_pos rfl, chk_ok g bx fun k hk => hb k (.tail _ hk)]
      have e : aft m x (max 0 (w - c)) x = (x, max (max 0 (w - c) - 1) 0) := by unfold My.aft; rw [if_pos rfl]
      rw [e]
      simp only [decide_true, Bool.true_or, Bool.true_and]
      rw [show max (max 0 (w - c) - 1) 0 = max 0 (w - (c + 1)) by omega]
    · rw [if_neg h, aft_ne bx (Ne.symm h)]
      have e1 : 1 - on = x := by rcases bo with rfl | rfl <;> rcases bx with rfl | rfl <;> simp_all
      have ih := chk_ok g (r := r) (on := x) (w := wntN m x) (c := 1) bx fun k hk => hb k (.tail _ hk)
      obtain ⟨a, l, q⟩ : ∃ a l, lensA x 1 r = a :: l := by
        cases z : lensA x 1 r with
        | nil => exact absurd z (lensA_ne _ _ _)
        | cons a l => exact ⟨a, l, rfl⟩
      rw [q] at ih ⊢
      show (decide (w ≤ c) && chk m (1 - on) (wntN m (1 - on)) (a :: l)) = _
      rw [e1, ih, decide_eq_false (Ne.symm h), Bool.false_or]
      have w1 : 1 ≤ wntN m x := by unfold wntN; split <;> omega
      rw [show max 0 (wntN m x - 1) = wntN m x - 1 by omega]
      congr 1
      by_cases z : w ≤ c
      · rw [decide_eq_true z, decide_eq_true (show max 0 (w - c) = 0 by omega)]
      · rw [decide_eq_false z, decide_eq_false (show ¬ max 0 (w - c) = 0 by omega)]
def goodR (m : MS) (o d : Int) : List Int → Bool
  | [] => true
  | x :: r => !(decide (x ≠ o) && decide (d > 0)) && chk m x (if x = o then d else wntN m x) (lensA x 1 r)
theorem goodR_ok {m : MS} (g : m.Good) {o d : Int} (ho : Bit o) (hd : 0 ≤ d) : ∀ {t : List Int}, (∀ k ∈ t, Bit k) → goodR m o d t = okB m o d t
  | [], _ => rfl
  | x :: r, hb => by
    have bx := hb x (.head _)
    have gu := g.up
    have gv := g.down
    show (!(decide (x ≠ o) && decide (d > 0)) && chk m x (if x = o then d else wntN m x) (lensA x 1 r)) = ((decide (o = x) || decide (d = 0)) && okB m (aft m o d x).1 (aft m o d x).2 r)
    rw [chk_ok g bx fun k hk => hb k (.tail _ hk)]
    by_cases h : x = o
    · subst h
      have e : aft m x d x = (x, max (d - 1) 0) := by unfold My.aft; rw [if_pos rfl]
      rw [e, if_pos rfl, show max 0 (d - 1) = max (d - 1) 0 by omega]
      simp
    · rw [aft_ne bx (Ne.symm h), if_neg h]
      have w1 : 1 ≤ wntN m x := by unfold wntN; split <;> omega
      rw [show max 0 (wntN m x - 1) = wntN m x - 1 by omega]
      congr 1
      by_cases z : d = 0
      · subst z; simp [h]
      · rw [decide_eq_false (Ne.symm h), decide_eq_false z, decide_eq_true (show x ≠ o from h), decide_eq_true (show d > 0 by omega)]
        rfl
theorem lens_snoc : ∀ {t : List Int} {x : Int}, lens (t ++ [x]) = if t.getLast? = some x then (lens t).dropLast ++ [((lens t).getLast?.getD 0) + 1] else lens t ++ [1]
  | [], x => by simp [lens, lensA]
  | y :: r, x => by
    show lensA y 1 (r ++ [x]) = _
    rw [lensA_snoc]
    rfl
theorem lens_ne {t : List Int} (h : t ≠ []) : lens t ≠ [] := by
  cases t with
  | nil => exact absurd rfl h
  | cons x r => exact lensA_ne _ _ _
theorem lens_len (t : List Int) : (lens t).length ≤ t.length := by
  cases t with
  | nil => exact Nat.le_refl _
  | cons x r => exact lensA_len
theorem ixN_last {n : Nat} : ixN (n + 1) (-1) = some n := by
  unfold ixN
  rw [if_neg (by omega), if_pos (by omega)]
  congr 1
  omega
theorem atE {xs : List V} (x : V) : atI (xs ++ [x]) (-1) = some x := by
  have l : (xs ++ [x]).length = xs.length + 1 := by rw [List.length_append]; rfl
  have e : ixN (xs ++ [x]).length (-1) = some xs.length := by rw [l]; exact ixN_last
  unfold atI
  rw [e]
  simp
theorem take_last {ns : List Int} {i : Nat} (h : i < ns.length) (h0 : 0 < i) : (ns.take i).getLast? = some (ns[i - 1]'(by omega)) := by
  obtain ⟨j, rfl⟩ : ∃ j, i = j + 1 := ⟨i - 1, by omega⟩
  rw [List.take_add_one, List.getElem?_eq_getElem (show j < ns.length by omega)]
  exact List.getLast?_concat
theorem split_last {xs : List Int} (h : xs ≠ []) : xs = xs.dropLast ++ [xs.getLast?.getD 0] := by
  conv => lhs; rw [← List.dropLast_concat_getLast h]
  rw [List.getLast?_eq_some_getLast h]
  rfl
def sp__law_stints (K : PySem.W.Frag) : Sp := fun vs H Q _ => ∃ (r : Addr) (ns : List Int), vs = [.ref r] ∧ H r = some (.lst (ns.map V.int)) ∧ ns.length ≤ 60 ∧ ∀ l H', Same H H' → H' l = some (.lst ((lens ns).map V.int)) → H l = none → Q (.ref l) H'
set_option maxHeartbeats 40000000 in
theorem ok__law_stints {P : Program} {w : World} {K : PySem.W.Frag} {mg : Str → Option Value} {base : Heap} {a : Adr} (tx : Txt K mg a) : FnOk P w K mg base CX0 1 a.f__law_stints a.d__law_stints ["_law_run"] (sp__law_stints K) := by
  refine tx.F__law_stints.ok sc__law_stints (fun vs H Q E h => ?_) (fun cdv A outer s H vs Q E hr h => ?_)
  · obtain ⟨r, ns, rfl, _⟩ := h
    rfl
  · obtain ⟨r, ns, rfl , hr0, hz, k⟩ := h
    have hu := hu9 hr
    refine L2.Q.root (L2.Q.pss_cons (L2.Q.ps_set (i := 1) sc__law_stints.nd rfl (Or.inl rfl) (L2.Q.pe_lst L2.Q.pa_nil))
      (L2.Q.pss_cons (L2.Q.ps_for PassesOwn.never rfl (L2.Q.pi_range1N (by rfl) tx.z_range (L2.Q.pa_c (L2.Q.pe_callBN (rc := rLen K) call_lenG (by rfl) tx.z_len bt_len (L2.Q.pa_c (L2.Q.pv 0) L2.Q.pa_nil)) L2.Q.pa_nil)) (L2.Q.pg_name (i := 2) sc__law_stints.nd rfl (Or.inl rfl)) (L2.Q.pss_cons (L2.Q.ps_if (L2.Q.pw_pt (L2.Q.pw_or (L2.Q.pt_cmpR (r := rEqG K) (op_eqG hu) (L2.Q.pv 2) L2.Q.pe_int (nomark _)) (L2.Q.pw_or1 (L2.Q.pt_cmpR (r := rNeG K) (op_neG hu) (L2.Q.pe_ixK (K' := K) (L2.Q.pv 0) (L2.Q.pv 2) (fun _ _ => rfl)) (L2.Q.pe_ixK (K' := K) (L2.Q.pv 0) (L2.Q.pe_op op_sub (L2.Q.pv 2) L2.Q.pe_int) (fun _ _ => rfl)) (nomark _))))) (L2.Q.pss_one (L2.Q.ps_expr (L2.Q.pe_appK (K' := K) (L2.Q.pv 1) (L2.Q.pa_c L2.Q.pe_int L2.Q.pa_nil)))) L2.Q.pss_nil)
      (L2.Q.pss_one (L2.Q.ps_augS (L2.Q.pv 1) (L2.Q.pe_un un_neg L2.Q.pe_int) (tget := gIxA K) get_ixA L2.Q.pe_int ip_add set_list))))
      (L2.Q.pss_one (L2.Q.ps_ret (L2.Q.pv 1))))) ?_
    refine rd_start (σ := [some (.ref r), none, none]) rfl ?_
    repeat walk_at "go"
    intro l nl
    obtain ⟨H1, i1, s1, g1⟩ := nw _ nl; rw [i1]
    have r1 := s1 _ _ hr0
    have rl : r ≠ l := ne_none nl hr0
    repeat walk_at "go"
    rw [List.length_map]
    refine ⟨by omega, by omega, ?_⟩
    rw [show ((ns.length : Int)).toNat = ns.length by omega]
    refine rf_range (fun i σ' H' => H' l = some (.lst ((lens (ns.take i)).map V.int)) ∧ Keep l H1 H' ∧ ∃ z, σ' = [some (.ref r), some (.ref l), z]) ⟨g1, (fun _ _ e _ => e), _, rfl⟩ (fun i σ' H' hi ⟨gl, kl, z, e⟩ => ?_) (fun σ' H' ⟨gl, kl, z, e⟩ => ?_)
    · subst e
      have r2 := kl _ _ r1 rl
      have ei : ns[i]? = some ns[i] := List.getElem?_eq_getElem hi
      have a1 : atI (ns.map V.int) (0 + (i : Int)) = some (.int ns[i]) := by rw [Int.zero_add]; exact atI_nat (by rw [List.getElem?_map, ei]; rfl)
      have lz := lens_len (ns.take i)
      rw [List.length_take] at lz
      have tk : ns.take (i + 1) = ns.take i ++ [ns[i]] := by rw [List.take_add_one, ei]; rfl
      have sn := lens_snoc (t := ns.take i) (x := ns[i])
      rw [← tk] at sn
      repeat walk_at "st"
      refine rd_seqJ (fun σ' H2 => ∃ (c : Int) (ls : List Int), H2 l = some (.lst ((ls ++ [c]).map V.int)) ∧ ls ++ [c + 1] = lens (ns.take (i + 1)) ∧ ls.length ≤ 60 ∧ Keep l H1 H2 ∧ σ' = [some (.ref r), some (.ref l), some (.int (0 + (i : Int)))]) (fun N hN => ?_) ?_
      · have app : ¬ (ns.take i).getLast? = some ns[i] → N [some (.ref r), some (.ref l), some (.int (0 + (i : Int)))] (upd H' l (.lst (((lens (ns.take i)).map V.int) ++ [.int 0]))) := fun hne => by
          rw [if_neg hne] at sn
          obtain ⟨H5, i5, k5, w5⟩ := wr H' l (.lst (((lens (ns.take i)).map V.int) ++ [.int 0])); rw [i5]
          exact hN _ _ ⟨0, lens (ns.take i), by rw [w5, List.map_append]; rfl, by rw [sn]; rfl, by omega, kl.trans k5, rfl⟩
        have fit : ((lens (ns.take i)).map V.int).length < sizeLine := Nat.lt_of_lt_of_le (by rw [List.length_map]; omega : ((lens (ns.take i)).map V.int).length < 2000) (sz_le (by simp))
        repeat walk_at "go"
        refine rd_dec (fun h0 => ?_) (fun h0 => ?_)
        · repeat walk_at "gs"
          refine rd_tyL (SqL.of gl) ?_
          repeat walk_at "go"
          refine rd_app (xs := (lens (ns.take i)).map V.int) gl fit ?_
          repeat walk_at "go"
          refine app fun z => ?_
          have z0 : ns.take i = [] := by rw [show i = 0 by omega]; rfl
          rw [z0] at z
          cases z
        · have i0 : 0 < i := by omega
          have a2 : atI (ns.map V.int) (0 + (i : Int) - 1) = some (.int (ns[i - 1]'(by omega))) := by
            rw [show 0 + (i : Int) - 1 = ((i - 1 : Nat) : Int) by omega]
            exact atI_nat (by rw [List.getElem?_map, List.getElem?_eq_getElem (show i - 1 < ns.length by omega)]; rfl)
          have tl := take_last hi i0
          repeat walk_at "go"
          refine rd_decN (fun hq => ?_) (fun hq => ?_)
          · repeat walk_at "gs"
            refine rd_tyL (SqL.of gl) ?_
            repeat walk_at "go"
            refine rd_app (xs := (lens (ns.take i)).map V.int) gl fit ?_
            repeat walk_at "go"
            refine app fun z => ?_
            rw [tl] at z
            exact hq (Option.some.inj z).symm
          · repeat walk_at "gs"
            have te : ns.take i ≠ [] := fun z => by rw [z] at tl; cases tl
            have sp := split_last (lens_ne te)
            rw [if_pos (by rw [tl, hq])] at sn
            refine hN _ _ ⟨(lens (ns.take i)).getLast?.getD 0, (lens (ns.take i)).dropLast, by rw [← sp]; exact gl, sn.symm, by rw [List.length_dropLast]; omega, kl, rfl⟩
      · rintro σ2 H2 ⟨c, ls, g2, e2, lz2, k2, rfl⟩
        have al : atI ((ls ++ [c]).map V.int) (-1) = some (.int c) := by rw [List.map_append]; exact atE _
        repeat walk_at "go"
        refine rd_gIxA (SqL.of g2) al ?_
        repeat walk_at "go"
        refine rd_setL g2 (by rw [List.length_map, List.length_append]; exact ixN_last) ?_
        obtain ⟨H5, i5, k5, w5⟩ := wr H2 l (.lst (((ls ++ [c]).map V.int).set ls.length (.int (c + 1)))); rw [i5]
        refine ⟨?_, k2.trans k5, _, rfl⟩
        rw [w5, ← e2]
        simp
    · subst e
      rw [List.take_length] at gl
      repeat walk_at "go"
      exact k l H' (fun b o e => kl _ _ (s1 _ _ e) (ne_none nl e)) gl nl
def sp__law_good (K : PySem.W.Frag) : Sp := fun vs H Q _ => ∃ (s : Addr) (m : MS) (t : Addr) (o d : Int) (r : Addr) (ns : List Int), vs = [.ref s, .ref t, .ref r] ∧ SpecAt H s m ∧ m.Good ∧ H t = some (.tup [.int o, .int d]) ∧ Bit o ∧ 0 ≤ d ∧ H r = some (.lst (ns.map V.int)) ∧ ns.length ≤ 60 ∧ (∀ k ∈ ns, Bit k) ∧ ∀ H', Same H H' → Q (.bl (goodR m o d ns)) H'
set_option maxHeartbeats 40000000 in
theorem ok__law_good {P : Program} {w : World} {K : PySem.W.Frag} {mg : Str → Option Value} {base : Heap} {a : Adr} (tx : Txt K mg a) : FnOk P w K mg base CX0 2 a.f__law_good a.d__law_good ["_law_spec_here", "_law_state_here", "_law_run"] (sp__law_good K) := by
  have G__law_stints := ok__law_stints (P := P) (w := w) (base := base) tx
  refine tx.F__law_good.ok sc__law_good (fun vs H Q E h => ?_) (fun cdv A outer s H vs Q E hr h => ?_)
  · obtain ⟨s0, m, t, o, d, r, ns, rfl, _⟩ := h
    rfl
  · obtain ⟨s0, m, t, o, d, r, ns, rfl , hs, hg, ht, ho, hd, hr0, hz, hb, k⟩ := h
    have hu := hu9 hr
    refine L2.Q.root (L2.Q.pss_cons (L2.Q.ps_set (i := 3) sc__law_good.nd rfl (Or.inl rfl) (L2.Q.pe_callN (G__law_stints) (hr.mono (by decide)) (by rfl) tx.g__law_stints tx.F__law_stints.kp tx.b__law_stints .nil pass0 (L2.Q.pa_c (L2.Q.pv 2) L2.Q.pa_nil)))
      (L2.Q.pss_cons (L2.Q.ps_if (L2.Q.pt_cmpR (r := rEqG K) (op_eqG hu) (L2.Q.pv 3) (L2.Q.pe_lst L2.Q.pa_nil) (nomark _)) (L2.Q.pss_one (L2.Q.ps_ret L2.Q.pe_bl)) L2.Q.pss_nil)
      (L2.Q.pss_cons (L2.Q.ps_set (i := 4) sc__law_good.nd rfl (Or.inl rfl) (L2.Q.pe_ixK (K' := K) (L2.Q.pv 2) L2.Q.pe_int (fun _ _ => rfl)))
      (L2.Q.pss_cons (L2.Q.ps_if (L2.Q.pw_pt (L2.Q.pw_and (L2.Q.pt_cmpR (r := rNeG K) (op_neG hu) (L2.Q.pv 4) (L2.Q.pe_ixK (K' := K) (L2.Q.pv 1) L2.Q.pe_int (fun _ _ => rfl)) (nomark _)) (L2.Q.pw_and1 (L2.Q.pt_cmpR op_gt (L2.Q.pe_ixK (K' := K) (L2.Q.pv 1) L2.Q.pe_int (fun _ _ => rfl)) L2.Q.pe_int (nomark _))))) (L2.Q.pss_one (L2.Q.ps_ret L2.Q.pe_bl)) L2.Q.pss_nil)
      (L2.Q.pss_cons (L2.Q.ps_for PassesOwn.never rfl (L2.Q.pi_range1N (by rfl) tx.z_range (L2.Q.pa_c (L2.Q.pe_op op_sub (L2.Q.pe_callBN (rc := rLen K) call_lenG (by rfl) tx.z_len bt_len (L2.Q.pa_c (L2.Q.pv 3) L2.Q.pa_nil)) L2.Q.pe_int) L2.Q.pa_nil)) (L2.Q.pg_name (i := 5) sc__law_good.nd rfl (Or.inl rfl)) (L2.Q.pss_cons (L2.Q.ps_set (i := 6) sc__law_good.nd rfl (Or.inl rfl) (L2.Q.pe_ixK (K' := K) (L2.Q.lst2 (L2.Q.pe_ixK (K' := K) (L2.Q.pv 0) L2.Q.pe_int (fun _ _ => rfl)) (L2.Q.pe_ixK (K' := K) (L2.Q.pv 0) L2.Q.pe_int (fun _ _ => rfl))) (L2.Q.pv 4) (fun _ _ => rfl)))
      (L2.Q.pss_cons (L2.Q.ps_if (L2.Q.pw_pt (L2.Q.pw_and (L2.Q.pt_cmpR (r := rEqG K) (op_eqG hu) (L2.Q.pv 5) L2.Q.pe_int (nomark _)) (L2.Q.pw_and1 (L2.Q.pt_cmpR (r := rEqG K) (op_eqG hu) (L2.Q.pv 4) (L2.Q.pe_ixK (K' := K) (L2.Q.pv 1) L2.Q.pe_int (fun _ _ => rfl)) (nomark _))))) (L2.Q.pss_one (L2.Q.ps_set (i := 6) sc__law_good.nd rfl (Or.inl rfl) (L2.Q.pe_ixK (K' := K) (L2.Q.pv 1) L2.Q.pe_int (fun _ _ => rfl)))) L2.Q.pss_nil)
      (L2.Q.pss_cons (L2.Q.ps_if (L2.Q.pt_cmpR op_lt (L2.Q.pe_ixK (K' := K) (L2.Q.pv 3) (L2.Q.pv 5) (fun _ _ => rfl)) (L2.Q.pv 6) (nomark _)) (L2.Q.pss_one (L2.Q.ps_ret L2.Q.pe_bl)) L2.Q.pss_nil)
      (L2.Q.pss_one (L2.Q.ps_set (i := 4) sc__law_good.nd rfl (Or.inl rfl) (L2.Q.pe_op op_sub L2.Q.pe_int (L2.Q.pv 4))))))))
      (L2.Q.pss_one (L2.Q.ps_ret L2.Q.pe_bl))))))) ?_
    obtain ⟨pl, e0, _⟩ := hs.ex
    refine rd_start (σ := [some (.ref s0), some (.ref t), some (.ref r), none, none, none, none]) rfl ?_
    repeat walk_at "go"
    refine ⟨r, ns, rfl, hr0, hz, fun l H1 s1 gl nl => ?_⟩
    have e1 := s1 _ _ e0
    have t1 := s1 _ _ ht
    have r1 := s1 _ _ hr0
    repeat walk_at "go"
    intro l2 n2
    obtain ⟨H2, i2, s2, g2⟩ := nw _ n2; rw [i2]
    have e2 := s2 _ _ e1
    have t2 := s2 _ _ t1
    have r2 := s2 _ _ r1
    have gl2 := s2 _ _ gl
    have S2 := s1.trans s2
    repeat walk_at "go"
    refine ⟨_, eqN_nil (SqL.of gl2) (SqL.of g2), ?_⟩
    repeat walk_at "go"
    cases ns with
    | nil =>
      repeat walk_at "gs"
      exact k H2 S2
    | cons x rs =>
      have bx := hb x (.head _)
      obtain ⟨L, hL⟩ : ∃ L, lens (x :: rs) = L := ⟨_, rfl⟩
      have hLn : L ≠ [] := by rw [← hL]; exact lensA_ne _ _ _
      have lL : L.length ≤ 61 := by rw [← hL]; have := lens_len (x :: rs); omega
      have eg : goodR m o d (x :: rs) = (!(decide (x ≠ o) && decide (d > 0)) && chk m x (if x = o then d else wntN m x) L) := by rw [← hL]; rfl
      rw [hL] at gl2
      rw [eg] at k
      rw [hL]
      obtain ⟨l0, lr, rfl⟩ : ∃ l0 lr, L = l0 :: lr := by
        cases L with
        | nil => exact absurd rfl hLn
        | cons a b => exact ⟨a, b, rfl⟩
      have ax : atI ((x :: rs).map V.int) 0 = some (.int x) := atI_nat (j := 0) rfl
      refine L2.iteGF (by rfl) ?_
      repeat walk_at "st"
      refine rd_seqJ (fun σ' H' => σ' = [some (.ref s0), some (.ref t), some (.ref r), some (.ref l), some (.int x), none, none] ∧ H' = H2) (fun N hN => ?_) ?_
      · repeat walk_at "go"
        exact hN _ _ ⟨rfl, rfl⟩
      rintro σ2 H2' ⟨rfl, rfl⟩
      refine rd_seqJ (fun σ' H' => σ' = [some (.ref s0), some (.ref t), some (.ref r), some (.ref l), some (.int x), none, none] ∧ H' = H2' ∧ (!(decide (x ≠ o) && decide (d > 0))) = true) (fun N hN => ?_) ?_
      · repeat walk_at "go"
        refine rd_decN (fun h1 => ?_) (fun h1 => ?_)
        · repeat walk_at "go"
          refine rd_dec (fun h2 => ?_) (fun h2 => ?_)
          · repeat walk_at "gs"
            rw [decide_eq_true h1, decide_eq_true h2] at k
            exact k H2' S2
          · repeat walk_at "gs"
            exact hN _ _ ⟨rfl, rfl, by rw [decide_eq_false h2, Bool.and_false]; rfl⟩
        · repeat walk_at "gs"
          exact hN _ _ ⟨rfl, rfl, by rw [decide_eq_false (show ¬ x ≠ o from fun z => z h1), Bool.false_and]; rfl⟩
      rintro σ3 H3 ⟨rfl, rfl, hok⟩
      rw [hok, Bool.true_and] at k
      repeat walk_at "go"
      rw [List.length_cons] at lL
      rw [List.length_map, List.length_cons]
      refine ⟨by omega, by omega, ?_⟩
      rw [show (((lr.length + 1 : Nat) : Int) - 1).toNat = lr.length by omega]
      refine rf_range (fun i σ' H' => Same H3 H' ∧ ∃ (on w : Int) (z5 z6 : Option V), Bit on ∧ (i = 0 → on = x ∧ w = if x = o then d else wntN m x) ∧ (0 < i → w = wntN m on) ∧ chk m x (if x = o then d else wntN m x) (l0 :: lr) = chk m on w ((l0 :: lr).drop i) ∧ σ' = [some (.ref s0), some (.ref t), some (.ref r), some (.ref l), some (.int on), z5, z6]) ⟨Same.refl _, x, _, _, _, bx, fun _ => ⟨rfl, rfl⟩, fun z => absurd z (Nat.lt_irrefl 0), rfl, rfl⟩ (fun i σ' H' hi ⟨s', on, w, z5, z6, b, w0, w1, ec, e⟩ => ?_) (fun σ' H' ⟨s', on, w, z5, z6, b, w0, w1, ec, e⟩ => ?_)
      · subst e
        have e3 := s' _ _ e2
        have t3 := s' _ _ t2
        have gl3 := s' _ _ gl2
        have i1' : i < (l0 :: lr).length := by rw [List.length_cons]; omega
        have i2' : i + 1 < (l0 :: lr).length := by rw [List.length_cons]; omega
        have ea : atI ((l0 :: lr).map V.int) (0 + (i : Int)) = some (.int (l0 :: lr)[i]) := by rw [Int.zero_add]; exact atI_nat (by rw [List.getElem?_map, List.getElem?_eq_getElem i1']; rfl)
        have dr : (l0 :: lr).drop i = (l0 :: lr)[i] :: (l0 :: lr)[i + 1] :: (l0 :: lr).drop (i + 1 + 1) := by rw [List.drop_eq_getElem_cons i1', List.drop_eq_getElem_cons i2']
        have dr2 : (l0 :: lr).drop (i + 1) = (l0 :: lr)[i + 1] :: (l0 :: lr).drop (i + 1 + 1) := List.drop_eq_getElem_cons i2'
        rw [dr] at ec
        have ec2 : chk m x (if x = o then d else wntN m x) (l0 :: lr) = (decide (w ≤ (l0 :: lr)[i]) && chk m (1 - on) (wntN m (1 - on)) ((l0 :: lr).drop (i + 1))) := by rw [dr2]; exact ec
        generalize (l0 :: lr)[i] = li at ea ec2
        repeat walk_at "st"
        refine rd_seqJ (fun σ' H4 => Same H' H4 ∧ σ' = [some (.ref s0), some (.ref t), some (.ref r), some (.ref l), some (.int on), some (.int (0 + (i : Int))), some (.int (wntN m on))]) (fun N hN => ?_) ?_
        · repeat walk_at "go"
          intro l4 n4
          obtain ⟨H4, i4, s4, g4⟩ := nw _ n4; rw [i4]
          have aw : atI [V.int m.down, .int m.up] on = some (.int (wntN m on)) := by rcases b with rfl | rfl <;> rfl
          repeat walk_at "go"
          exact hN _ _ ⟨s4, rfl⟩
        rintro σ4 H4 ⟨s4, rfl⟩
        have t4 := s4 _ _ t3
        have gl4 := s4 _ _ gl3
        refine rd_seqJ (fun σ' H5 => H5 = H4 ∧ σ' = [some (.ref s0), some (.ref t), some (.ref r), some (.ref l), some (.int on), some (.int (0 + (i : Int))), some (.int w)]) (fun N hN => ?_) ?_
        · repeat walk_at "go"
          refine rd_dec (fun h0 => ?_) (fun h0 => ?_)
          · obtain ⟨w2, w3⟩ := w0 (by omega)
            subst w2
            repeat walk_at "go"
            refine rd_dec (fun h1 => ?_) (fun h1 => ?_)
            · rw [if_pos h1] at w3
              subst w3
              repeat walk_at "gs"
              exact hN _ _ ⟨rfl, rfl⟩
            · rw [if_neg h1] at w3
              subst w3
              repeat walk_at "gs"
              exact hN _ _ ⟨rfl, rfl⟩
          · have w2 := w1 (by omega)
            subst w2
            repeat walk_at "gs"
            exact hN _ _ ⟨rfl, rfl⟩
        rintro σ5 H5 ⟨rfl, rfl⟩
        repeat walk_at "go"
        refine rd_dec (fun h1 => ?_) (fun h1 => ?_)
        · repeat walk_at "go"
          rw [ec2, decide_eq_false (by omega), Bool.false_and] at k
          exact k _ (S2.trans (s'.trans s4))
        · repeat walk_at "go"
          rw [decide_eq_true (show w ≤ li by omega), Bool.true_and] at ec2
          refine ⟨s'.trans s4, 1 - on, _, _, _, ?_, fun z => absurd z (Nat.succ_ne_zero i), fun _ => rfl, ec2, rfl⟩
          rcases b with rfl | rfl
          · exact .inr rfl
          · exact .inl rfl
      · subst e
        repeat walk_at "go"
        have dl : (l0 :: lr).drop lr.length = [(l0 :: lr)[lr.length]'(by simp)] := by
          rw [List.drop_eq_getElem_cons (by simp), List.drop_of_length_le (by simp)]
        rw [dl] at ec
        rw [ec] at k
        exact k _ (S2.trans s')
theorem rowsL_len : ∀ n : Nat, (rowsL n).length = 2 ^ n
  | 0 => rfl
  | n + 1 => by
    show ((rowsL n).map (· ++ [0]) ++ (rowsL n).map (· ++ [1])).length = _
    rw [List.length_append, List.length_map, List.length_map, rowsL_len n, Nat.pow_succ]
    omega
theorem rowsL_few {n : Nat} (h : n ≤ 7) : (rowsL n).length ≤ 128 := by
  rw [rowsL_len]
  exact Nat.le_trans (Nat.pow_le_pow_right (by decide) h) (by decide)
theorem take_snocA {α : Type} {l : List α} {i : Nat} {x : α} (h : l[i]? = some x) : l.take (i + 1) = l.take i ++ [x] := by
  rw [List.take_add_one, h]; rfl
def sp__law_all (K : PySem.W.Frag) : Sp := fun vs H Q _ => ∃ (s : Addr) (m : MS) (t : Addr) (o d n : Int), vs = [.ref s, .ref t, .int n] ∧ SpecAt H s m ∧ m.Good ∧ H t = some (.tup [.int o, .int d]) ∧ St0 o d ∧ 0 ≤ n ∧ n ≤ 7 ∧ ∀ c ys H', Same H H' → H c = none → H' c = some (.lst (ys.map V.ref)) → RowsAt H' n.toNat ys ((runsF m o d n.toNat).map (·.1)) → Q (.ref c) H'
set_option maxHeartbeats 40000000 in
theorem ok__law_all {P : Program} {w : World} {K : PySem.W.Frag} {mg : Str → Option Value} {base : Heap} {a : Adr} (tx : Txt K mg a) : FnOk P w K mg base CX0 3 a.f__law_all a.d__law_all ["_law_spec_here", "_law_state_here", "_law_hours"] (sp__law_all K) := by
  have G__law_good := ok__law_good (P := P) (w := w) (base := base) tx
  refine tx.F__law_all.ok sc__law_all (fun vs H Q E h => ?_) (fun cdv A outer s H vs Q E hr h => ?_)
  · obtain ⟨s0, m, t, o, d, n, rfl, _⟩ := h
    rfl
  · obtain ⟨s0, m, t, o, d, n, rfl , hs, hg, ht, hst, n0, n7, k⟩ := h
    have hu := hu9 hr
    refine L2.Q.root (L2.Q.pss_cons (L2.Q.ps_set (i := 3) sc__law_all.nd rfl (Or.inl rfl) (L2.Q.lst1 (L2.Q.pe_lst L2.Q.pa_nil)))
      (L2.Q.pss_cons (L2.Q.ps_for PassesOwn.never rfl (L2.Q.pi_range1N (by rfl) tx.z_range (L2.Q.pa_c (L2.Q.pv 2) L2.Q.pa_nil)) (L2.Q.pg_name (i := 4) sc__law_all.nd rfl (Or.inl rfl)) (L2.Q.pss_one (L2.Q.ps_set (i := 3) sc__law_all.nd rfl (Or.inl rfl) (L2.Q.pe_op op_addG (L2.Q.pe_comp (k := 1) (idx := []) (N := ["_law_row"]) (blk_sc (sc := defScope s__law_all) (NX := ["_law_spec_here", "_law_state_here", "_law_hours", "_law_rows", "_law_hour"]) rfl rfl rfl (by decide +kernel)) rfl (L2.Q.pi_listK (K' := K) (L2.Q.pv 3)) (fun _ _ _ _ => (L2.Q.pg_name (i := 0) (show (["_law_row"] : List Str).Nodup by decide +kernel) rfl (Or.inl rfl))) (own_name (by decide)) (fun _ _ _ _ => L2.Q.pts_nil) (fun _ _ _ _ => (L2.Q.pe_op op_addG (L2.Q.pv 0) (L2.Q.lst1 L2.Q.pe_int)))) (L2.Q.pe_comp (k := 1) (idx := []) (N := ["_law_row"]) (blk_sc (sc := defScope s__law_all) (NX := ["_law_spec_here", "_law_state_here", "_law_hours", "_law_rows", "_law_hour"]) rfl rfl rfl (by decide +kernel)) rfl (L2.Q.pi_listK (K' := K) (L2.Q.pv 3)) (fun _ _ _ _ => (L2.Q.pg_name (i := 0) (show (["_law_row"] : List Str).Nodup by decide +kernel) rfl (Or.inl rfl))) (own_name (by decide)) (fun _ _ _ _ => L2.Q.pts_nil) (fun _ _ _ _ => (L2.Q.pe_op op_addG (L2.Q.pv 0) (L2.Q.lst1 L2.Q.pe_int))))))))
      (L2.Q.pss_one (L2.Q.ps_ret (L2.Q.pe_callBN (rc := rSortLL) (call_sortedLL hu) (by rfl) tx.z_sorted bt_sorted (L2.Q.pa_c (L2.Q.pe_comp (k := 1) (idx := [0, 1]) (N := ["_law_row", "_law_spec_here", "_law_state_here"]) (blk_sc (sc := defScope s__law_all) (NX := ["_law_spec_here", "_law_state_here", "_law_hours", "_law_rows", "_law_hour"]) rfl rfl rfl (by decide +kernel)) rfl (L2.Q.pi_listK (K' := K) (L2.Q.pv 3)) (fun _ _ _ _ => (L2.Q.pg_name (i := 0) (show (["_law_row", "_law_spec_here", "_law_state_here"] : List Str).Nodup by decide +kernel) rfl (Or.inl rfl))) (own_name (by decide)) (fun _ _ _ _ => (L2.Q.pts_one (L2.Q.pt_val (L2.Q.pe_callN (G__law_good) (hr.mono (by decide)) (by rfl) tx.g__law_good tx.F__law_good.kp tx.b__law_good .nil pass0 (L2.Q.pa_c (L2.Q.pv 1) (L2.Q.pa_c (L2.Q.pv 2) (L2.Q.pa_c (L2.Q.pv 0) L2.Q.pa_nil))))))) (fun _ _ _ _ => (L2.Q.pv 0))) L2.Q.pa_nil)))))) ?_
    obtain ⟨N0, rfl⟩ := Int.eq_ofNat_of_zero_le n0
    refine rd_start (σ := [some (.ref s0), some (.ref t), some (.int (N0 : Int)), none, none]) rfl ?_
    repeat walk_at "go"
    intro l0 nl0
    obtain ⟨H1, i1, s1, g1⟩ := nw _ nl0; rw [i1]
    repeat walk_at "go"
    intro l1 nl1
    obtain ⟨H2, i2, s2, g2⟩ := nw _ nl1; rw [i2]
    repeat walk_at "st"
    refine rd_seqJ (fun σ' H' => ∃ (l : Addr) (qs : List Addr) (z : Option V), σ' = [some (.ref s0), some (.ref t), some (.int (N0 : Int)), some (.ref l), z] ∧ H' l = some (.lst (qs.map V.ref)) ∧ RowsAt H' N0 qs (rowsL N0) ∧ Same H H') (fun N hN => ?_) ?_
    · repeat walk_at "go"
      refine ⟨by omega, by omega, ?_⟩
      rw [Int.toNat_natCast]
      refine rf_range (fun i σ' H' => ∃ (l : Addr) (qs : List Addr) (z : Option V), σ' = [some (.ref s0), some (.ref t), some (.int (N0 : Int)), some (.ref l), z] ∧ H' l = some (.lst (qs.map V.ref)) ∧ RowsAt H' i qs (rowsL i) ∧ Same H H') ⟨l1, [l0], _, rfl, g2, RowsAt.one (s2 _ _ g1) rfl, s1.trans s2⟩ (fun i σ' H' hi ⟨l, qs, z, e, gl, ra, s⟩ => ?_) (fun σ' H' ⟨l, qs, z, e, gl, ra, s⟩ => ?_)
      · subst e
        have lq := ra.len
        have l128 := rowsL_few (n := i) (by omega)
        repeat walk_at "go"
        refine rd_li (SqL.of gl) ?_
        refine comp_list (xs := qs.map V.ref) (fun j us H3 => Same H' H3 ∧ ∃ as : List Addr, us = as.map V.ref ∧ RowsAt H3 (i + 1) as (((rowsL i).take j).map (· ++ [0]))) ⟨Same.refl _, [], rfl, RowsAt.nil⟩ (sz_le (by rw [List.length_map]; omega))
          (fun j us H3 hj ⟨s3, as, e1, r3⟩ => ⟨SqL.of (s3 _ _ gl), by rw [e1, List.length_map, r3.len, List.length_map, List.length_take]; omega⟩) (fun j v us H3 hv ⟨s3, as, e1, r3⟩ => ?_) (fun us H3 ⟨s3, as, e1, r3⟩ => ?_)
        · obtain ⟨q, tt, rfl, eq, et, hq, lt⟩ := ra.get hv
          have hq3 := s3 _ _ hq
          repeat walk_at "go"
          intro b1 n1
          obtain ⟨H4, i4, s4, g4⟩ := nw _ n1; rw [i4]
          repeat walk_at "go"
          refine rd_addL (s4 _ _ hq3) g4 (sz_le (by rw [List.length_map, lt]; simp; omega)) ?_
          intro b2 n2
          obtain ⟨H5, i5, s5, g5⟩ := nw _ n2; rw [i5]
          have g5' : H5 b2 = some (.lst ((tt ++ [0]).map V.int)) := by rw [g5, List.map_append]; rfl
          refine ⟨s3.trans (s4.trans s5), as ++ [b2], by rw [e1, List.map_append]; rfl, ?_⟩
          rw [take_snocA et, List.map_append]
          exact (r3.same (s4.trans s5)).app (RowsAt.one g5' (by rw [List.length_append, lt]; rfl))
        subst e1
        rw [List.length_map, lq, List.take_length] at r3
        intro c1 m1
        obtain ⟨H4, i4, s4, g4⟩ := nw _ m1; rw [i4]
        have gl4 := (s3.trans s4) _ _ gl
        have ra4 := ra.same (s3.trans s4)
        repeat walk_at "go"
        refine rd_li (SqL.of gl4) ?_
        refine comp_list (xs := qs.map V.ref) (fun j us H5 => Same H4 H5 ∧ ∃ bs : List Addr, us = bs.map V.ref ∧ RowsAt H5 (i + 1) bs (((rowsL i).take j).map (· ++ [1]))) ⟨Same.refl _, [], rfl, RowsAt.nil⟩ (sz_le (by rw [List.length_map]; omega))
          (fun j us H5 hj ⟨s5, bs, e1, r5⟩ => ⟨SqL.of (s5 _ _ gl4), by rw [e1, List.length_map, r5.len, List.length_map, List.length_take]; omega⟩) (fun j v us H5 hv ⟨s5, bs, e1, r5⟩ => ?_) (fun us H5 ⟨s5, bs, e1, r5⟩ => ?_)
        · obtain ⟨q, tt, rfl, eq, et, hq, lt⟩ := ra4.get hv
          have hq3 := s5 _ _ hq
          repeat walk_at "go"
          intro b1 n1
          obtain ⟨H6, i6, s6, g6⟩ := nw _ n1; rw [i6]
          repeat walk_at "go"
          refine rd_addL (s6 _ _ hq3) g6 (sz_le (by rw [List.length_map, lt]; simp; omega)) ?_
          intro b2 n2
          obtain ⟨H7, i7, s7, g7⟩ := nw _ n2; rw [i7]
          have g7' : H7 b2 = some (.lst ((tt ++ [1]).map V.int)) := by rw [g7, List.map_append]; rfl
          refine ⟨s5.trans (s6.trans s7), bs ++ [b2], by rw [e1, List.map_append]; rfl, ?_⟩
          rw [take_snocA et, List.map_append]
          exact (r5.same (s6.trans s7)).app (RowsAt.one g7' (by rw [List.length_append, lt]; rfl))
        subst e1
        rw [List.length_map, lq, List.take_length] at r5
        intro c2 m2
        obtain ⟨H6, i6, s6, g6⟩ := nw _ m2; rw [i6]
        repeat walk_at "go"
        have la := r3.len
        have lb := r5.len
        rw [List.length_map] at la lb
        refine rd_addL ((s5.trans s6) _ _ g4) g6 (sz_le (by rw [List.length_map, List.length_map]; omega)) ?_
        rw [← List.map_append]
        intro c3 m3
        obtain ⟨H7, i7, s7, g7⟩ := nw _ m3; rw [i7]
        repeat walk_at "go"
        exact ⟨c3, as ++ bs, _, rfl, g7, (r3.same (s4.trans (s5.trans (s6.trans s7)))).app (r5.same (s6.trans s7)), s.trans (s3.trans (s4.trans (s5.trans (s6.trans s7))))⟩
      · subst e
        exact hN _ _ ⟨l, qs, z, rfl, gl, ra, s⟩
    rintro σ3 H3 ⟨l, qs, z, rfl, gl, ra, s⟩
    have lq := ra.len
    have N7 : N0 ≤ 7 := by omega
    have l128 := rowsL_few N7
    repeat walk_at "go"
    refine rd_li (SqL.of gl) ?_
    refine comp_list (xs := qs.map V.ref) (fun j us H4 => Same H3 H4 ∧ ∃ as : List Addr, us = as.map V.ref ∧ RowsAt H4 N0 as (((rowsL N0).take j).filter (okB m o d))) ⟨Same.refl _, [], rfl, RowsAt.nil⟩ (sz_le (by rw [List.length_map]; omega))
      (fun j us H4 hj ⟨s4, as, e1, r4⟩ => ⟨SqL.of (s4 _ _ gl), by rw [e1, List.length_map, r4.len]; have := List.length_filter_le (okB m o d) ((rowsL N0).take j); rw [List.length_take] at this; omega⟩) (fun j v us H4 hv ⟨s4, as, e1, r4⟩ => ?_) (fun us H4 ⟨s4, as, e1, r4⟩ => ?_)
    · obtain ⟨q, tt, rfl, eq, et, hq, lt⟩ := ra.get hv
      have bt := (rowsL_mem.mp (List.mem_of_getElem? et)).2
      have eg := goodR_ok hg hst.1 hst.2.1 bt
      repeat walk_at "go"
      refine ⟨s0, m, t, o, d, q, tt, rfl, hs.same (s.trans s4), hg, (s.trans s4) _ _ ht, hst.1, hst.2.1, s4 _ _ hq, by omega, bt, fun H5 s5 => ?_⟩
      rw [eg, take_snocA et, List.filter_append]
      cases eo : okB m o d tt with
      | true =>
        repeat walk_at "gs"
        refine ⟨s4.trans s5, as ++ [q], by rw [e1, List.map_append]; rfl, ?_⟩
        rw [show [tt].filter (okB m o d) = [tt] by simp [eo]]
        exact (r4.same s5).app (RowsAt.one ((s4.trans s5) _ _ hq) lt)
      | false =>
        repeat walk_at "gs"
        refine ⟨s4.trans s5, as, e1, ?_⟩
        rw [show [tt].filter (okB m o d) = [] by simp [eo], List.append_nil]
        exact r4.same s5
    subst e1
    rw [List.length_map, lq, List.take_length] at r4
    intro c1 m1
    obtain ⟨H5, i5, s5, g5⟩ := nw _ m1; rw [i5]
    have la := r4.len
    have lf := List.length_filter_le (okB m o d) (rowsL N0)
    repeat walk_at "go"
    refine rd_sortLL g5 (r4.same s5) (by rw [la]; exact few_or_big hg hst N7) (by omega) fun p qs' ts' np hr pm so => ?_
    obtain ⟨H6, i6, s6, g6⟩ := nw _ np; rw [i6]
    have S5 := s.trans (s4.trans s5)
    refine k p qs' H6 (S5.trans s6) (S5.free np) g6 ?_
    rw [Int.toNat_natCast, ← sorted_runs hg hst pm so]
    exact hr.same s6
structure Wd (C : Addr) (lS lM sA sB xA xB : Addr) (mA mB : MS) (H : Hp) : Prop where
  s : H lS = some (.lst [.ref sA, .ref sB])
  m : H lM = some (.lst [.ref xA, .ref xB])
  sA : SpecAt H sA mA
  sB : SpecAt H sB mB
  mA : MachAt C H xA mA
  mB : MachAt C H xB mB
theorem Wd.same {C lS lM sA sB xA xB : Addr} {mA mB : MS} {H H' : Hp} (w : Wd C lS lM sA sB xA xB mA mB H) (s : Same H H') : Wd C lS lM sA sB xA xB mA mB H' := ⟨s _ _ w.s, s _ _ w.m, w.sA.same s, w.sB.same s, w.mA.same s, w.mB.same s⟩
theorem Wd.keep {C lS lM sA sB xA xB p : Addr} {mA mB : MS} {H H' : Hp} (w : Wd C lS lM sA sB xA xB mA mB H) (hh : HandAt H p) (s : Keep p H H') : Wd C lS lM sA sB xA xB mA mB H' :=
  ⟨s _ _ w.s (hh.nlen w.s (by simp)), s _ _ w.m (hh.nlen w.m (by simp)), w.sA.keep hh s, w.sB.keep hh s, w.mA.keep hh s, w.mB.keep hh s⟩
theorem sm_rows {H : Hp} {p q : Addr} {as bs : List Addr} {L : Nat} {ts : List (List Int)} (h1 : H p = some (.lst (as.map V.ref))) (h2 : H q = some (.lst (bs.map V.ref))) (ra : RL (IL H) as ts) (rb : RowsAt H L bs ts) (hl : ts.length ≤ 1000) (hL : L ≤ 1000) : SmV H 3 (.ref p) (.ref q) := by
  refine .inr (.inr (.inr (.inr ⟨p, q, _, _, rfl, rfl, .inr ⟨h1, h2⟩, by rw [List.length_map, List.length_map, ra.len, rb.len], by rw [List.length_map, rb.len]; omega, fun i u v hu hv => ?_⟩)))
  obtain ⟨a1, x, ea, rfl, ex, gx⟩ := ra.get hu
  obtain ⟨b1, y, rfl, eb, ey, gy, ly⟩ := rb.get hv
  rw [ex] at ey
  cases ey
  refine .inr (.inr (.inr (.inr ⟨a1, b1, _, _, rfl, rfl, .inr ⟨gx, gy⟩, rfl, by rw [List.length_map, ly]; omega, fun i u v hu hv => ?_⟩)))
  rw [hu] at hv
  cases hv
  obtain ⟨n, _, rfl⟩ := int_get hu
  exact SmV.int n
theorem refs_int {ys : List Addr} {ns : List Int} {y : Addr} (hy : y ∈ ys) (e : ys.map V.ref = ns.map V.int) : False := by
  cases ys with
  | nil => cases hy
  | cons a r =>
    cases ns with
    | nil => cases e
    | cons n ns => cases e
theorem ext1_two (m : MS) (l : List Fnd) : (l.flatMap (ext1 m)).length ≤ 2 * l.length := by
  induction l with
  | nil => exact Nat.le_refl _
  | cons x r ih =>
    rw [List.flatMap_cons, List.length_append, List.length_cons]
    have : (ext1 m x).length ≤ 2 := by
      unfold ext1 ext2
      rw [List.length_append]
      split <;> split <;> simp
    omega
theorem runsF_two (m : MS) (o d : Int) : ∀ n, (runsF m o d n).length ≤ 2 ^ n
  | 0 => Nat.le_refl _
  | n + 1 => by
    have h1 := runsF_two m o d n
    have h2 := ext1_two m (runsF m o d n)
    show ((runsF m o d n).flatMap (ext1 m)).length ≤ _
    rw [Nat.pow_succ]
    omega
def sp__law_right (K : PySem.W.Frag) (C : Addr) : Sp := fun vs H Q _ => ∃ (q s : Addr) (m : MS) (t : Addr) (o d n : Int), vs = [.ref q, .ref s, .ref t, .int n] ∧ MachAt C H q m ∧ SpecAt H s m ∧ m.Good ∧ H t = some (.tup [.int o, .int d]) ∧ St0 o d ∧ 0 ≤ n ∧ n ≤ 7 ∧ ∀ H', Same H H' → Q (.bl true) H'
set_option maxHeartbeats 40000000 in
theorem ok__law_right {P : Program} {w : World} {K : PySem.W.Frag} {mg : Str → Option Value} {base : Heap} {a : Adr} (tx : Txt K mg a) : FnOk P w K mg base CX0 7 a.f__law_right a.d__law_right ["_law_machine_here", "_law_spec_here", "_law_state_here", "_law_hours"] (sp__law_right K a.c_Machine) := by
  have G__law_all := ok__law_all (P := P) (w := w) (base := base) tx
  have G__law_same := ok__law_same (P := P) (w := w) (base := base) tx 3
  have G_all_runs := ok_all_runs (P := P) (w := w) (base := base) tx
  have G_run_count := ok_run_count (P := P) (w := w) (base := base) tx
  refine tx.F__law_right.ok sc__law_right (fun vs H Q E h => ?_) (fun cdv A outer s H vs Q E hr h => ?_)
  · obtain ⟨q, s, m, t, o, d, n, rfl, _⟩ := h
    rfl
  · obtain ⟨q, s, m, t, o, d, n, rfl , hm, hs, hg, ht, hst, n0, n7, k⟩ := h
    have hu := hu9 hr
    refine L2.Q.root (L2.Q.pss_cons (L2.Q.ps_set (i := 4) sc__law_right.nd rfl (Or.inl rfl) (L2.Q.pe_callN (G__law_all) (hr.mono (by decide)) (by rfl) tx.g__law_all tx.F__law_all.kp tx.b__law_all .nil pass0 (L2.Q.pa_c (L2.Q.pv 1) (L2.Q.pa_c (L2.Q.pv 2) (L2.Q.pa_c (L2.Q.pv 3) L2.Q.pa_nil)))))
      (L2.Q.pss_cons (L2.Q.ps_if (L2.Q.pt_not (L2.Q.pt_val (L2.Q.pe_callN (G__law_same) (hr.mono (by decide)) (by rfl) tx.g__law_same tx.F__law_same.kp tx.b__law_same .nil pass0 (L2.Q.pa_c (L2.Q.pe_callN (G_run_count) (hr.mono (by decide)) (by rfl) tx.g_run_count tx.F_run_count.kp tx.b_run_count .nil pass0 (L2.Q.pa_c (L2.Q.pv 0) (L2.Q.pa_c (L2.Q.pv 2) (L2.Q.pa_c (L2.Q.pv 3) L2.Q.pa_nil)))) (L2.Q.pa_c (L2.Q.pe_callBN (rc := rLen K) call_lenG (by rfl) tx.z_len bt_len (L2.Q.pa_c (L2.Q.pv 4) L2.Q.pa_nil)) L2.Q.pa_nil))))) (L2.Q.pss_one (L2.Q.ps_ret L2.Q.pe_bl)) L2.Q.pss_nil)
      (L2.Q.pss_cons (L2.Q.ps_set (i := 5) sc__law_right.nd rfl (Or.inl rfl) (L2.Q.pe_callN (G_all_runs) (hr.mono (by decide)) (by rfl) tx.g_all_runs tx.F_all_runs.kp tx.b_all_runs .nil passE (L2.Q.pa_c (L2.Q.pv 0) (L2.Q.pa_c (L2.Q.pv 2) (L2.Q.pa_c (L2.Q.pv 3) (L2.Q.pa_c L2.Q.pe_int L2.Q.pa_nil))))))
      (L2.Q.pss_cons (L2.Q.ps_if (L2.Q.pt_not (L2.Q.pt_val (L2.Q.pe_callN (G__law_same) (hr.mono (by decide)) (by rfl) tx.g__law_same tx.F__law_same.kp tx.b__law_same .nil pass0 (L2.Q.pa_c (L2.Q.pv 5) (L2.Q.pa_c (L2.Q.pv 4) L2.Q.pa_nil))))) (L2.Q.pss_one (L2.Q.ps_ret L2.Q.pe_bl)) L2.Q.pss_nil)
      (L2.Q.pss_cons (L2.Q.ps_for PassesOwn.never rfl (L2.Q.pi_listK (K' := K) (L2.Q.pv 5)) (L2.Q.pg_name (i := 6) sc__law_right.nd rfl (Or.inl rfl)) (L2.Q.pss_one (L2.Q.ps_expr (L2.Q.pe_appK (K' := K) (L2.Q.pv 6) (L2.Q.pa_c L2.Q.pe_int L2.Q.pa_nil)))))
      (L2.Q.pss_cons (L2.Q.ps_expr (L2.Q.pe_clearK (K' := K) (L2.Q.pv 5)))
      (L2.Q.pss_one (L2.Q.ps_ret (L2.Q.pe_callN (G__law_same) (hr.mono (by decide)) (by rfl) tx.g__law_same tx.F__law_same.kp tx.b__law_same .nil pass0 (L2.Q.pa_c (L2.Q.pe_callN (G_all_runs) (hr.mono (by decide)) (by rfl) tx.g_all_runs tx.F_all_runs.kp tx.b_all_runs .nil passE (L2.Q.pa_c (L2.Q.pv 0) (L2.Q.pa_c (L2.Q.pv 2) (L2.Q.pa_c (L2.Q.pv 3) (L2.Q.pa_c (L2.Q.pe_callBN (rc := rLen K) call_lenG (by rfl) tx.z_len bt_len (L2.Q.pa_c (L2.Q.pv 4) L2.Q.pa_nil)) L2.Q.pa_nil))))) (L2.Q.pa_c (L2.Q.pv 4) L2.Q.pa_nil))))))))))) ?_
    refine rd_start (σ := [some (.ref q), some (.ref s), some (.ref t), some (.int n), none, none, none]) rfl ?_
    repeat walk_at "go"
    refine ⟨s, m, t, o, d, n, rfl, hs, hg, ht, hst, n0, n7, fun c ys H1 s1 nc gc ra => ?_⟩
    have hcn := runsF_len m o d n.toNat
    have hf128 : (runsF m o d n.toNat).length ≤ 128 := Nat.le_trans (runsF_two m o d _) (Nat.le_trans (Nat.pow_le_pow_right (by decide) (show n.toNat ≤ 7 by omega)) (by decide))
    have hbit : ∀ x ∈ (runsF m o d n.toNat).map (·.1), x.length = n.toNat := fun x hx => by
      obtain ⟨y, hy, rfl⟩ := List.mem_map.mp hx
      exact ((runsF_fs hg hst n.toNat).at_ y hy).2.2.1
    have lys : ys.length = (runsF m o d n.toNat).length := by rw [ra.len, List.length_map]
    repeat walk_at "go"
    refine ⟨q, m, t, o, d, n, rfl, hm.same s1, hg, s1 _ _ ht, hst, n0, by omega, fun H2 s2 => ?_⟩
    have gc2 := s2 _ _ gc
    rw [← hcn, ← lys]
    rw [← lys] at hcn hf128
    repeat walk_at "go"
    rw [List.length_map]
    refine ⟨_, _, rfl, SmV.int (j := 2) _, fun H3 s3 => ?_⟩
    have S3 := s1.trans (s2.trans s3)
    have gc3 := s3 _ _ gc2
    have ra3 := ra.same (s2.trans s3)
    repeat walk_at "gs"
    refine ⟨q, m, t, o, d, n, 500, rfl, hm.same S3, hg, S3 _ _ ht, hst, n0, by omega, by decide, fun _ c1 ys1 H4 s4 nc1 ny1 gc1 ry1 => ?_, fun hlt => absurd hlt (by omega)⟩
    have l1 : ys1.length ≤ 128 := by rw [ry1.len, ← ra.len]; omega
    repeat walk_at "gs"
    refine ⟨_, _, rfl, sm_rows gc1 (s4 _ _ gc3) ry1 (ra3.same s4) (by rw [← ra.len]; omega) (by omega), fun H5 s5 => ?_⟩
    have gc5 := s5 _ _ gc1
    have il5 : ∀ y ∈ ys1, ∃ ns : List Int, H5 y = some (.lst (ns.map V.int)) ∧ ns.length ≤ 7 := fun y hy => by
      obtain ⟨j, hj⟩ := List.getElem?_of_mem hy
      have lj : j < ((runsF m o d n.toNat).map (·.1)).length := by rw [← ry1.len]; exact (List.getElem?_eq_some_iff.mp hj).1
      have := ry1.at_ j y _ hj (List.getElem?_eq_getElem lj)
      exact ⟨_, s5 _ _ this, by rw [hbit _ (List.getElem_mem lj)]; omega⟩
    repeat walk_at "gs"
    refine rd_li (SqL.of gc5) ?_
    refine rf_list (xs := ys1.map V.ref) (fun j σ' H' => H' c1 = some (.lst (ys1.map V.ref)) ∧ Same H3 H' ∧ (∀ y ∈ ys1, ∃ ns : List Int, H' y = some (.lst (ns.map V.int)) ∧ ns.length ≤ 7 + j) ∧ ∃ z, σ' = [some (.ref q), some (.ref s), some (.ref t), some (.int n), some (.ref c), some (.ref c1), z])
      ⟨gc5, s4.trans s5, il5, _, rfl⟩ (fun j σ' H' hj ⟨h, _⟩ => SqL.of h) (fun j v σ' H' hv ⟨g', s', il', z, e⟩ => ?_) (fun σ' H' ⟨g', s', il', z, e⟩ => ?_)
    · subst e
      obtain ⟨y, _, ey, rfl, _, _⟩ := ry1.get hv
      have my := List.mem_of_getElem? ey
      have jl : j < ys1.length := (List.getElem?_eq_some_iff.mp ey).1
      obtain ⟨ns, gy, ln⟩ := il' y my
      have yc : c1 ≠ y := fun z => by
        rw [z, gy] at g'
        injection g' with g'
        injection g' with g'
        exact refs_int my g'.symm
      repeat walk_at "gs"
      refine rd_tyL (SqL.of gy) ?_
      repeat walk_at "go"
      refine rd_app (xs := ns.map V.int) gy (Nat.lt_of_lt_of_le (by rw [List.length_map]; omega : (ns.map V.int).length < 20000) (sz_le (by decide))) ?_
      obtain ⟨H6, i6, k6, g6⟩ := wr H' y _; rw [i6]
      repeat walk_at "go"
      refine ⟨k6 _ _ g' yc, fun b o e => k6 _ _ (s' _ _ e) (ne_none (ny1 y my) e), fun y' hy' => ?_, _, rfl⟩
      by_cases e : y' = y
      · subst e
        exact ⟨ns ++ [1], by rw [g6, List.map_append]; rfl, by rw [List.length_append, List.length_singleton]; omega⟩
      · obtain ⟨ns', gy', ln'⟩ := il' y' hy'
        exact ⟨ns', k6 _ _ gy' e, by omega⟩
    · subst e
      repeat walk_at "gs"
      refine rd_tyL (SqL.of g') ?_
      repeat walk_at "go"
      refine rd_clear g' ?_
      obtain ⟨H6, i6, k6, g6⟩ := wr H' c1 _; rw [i6]
      have s6 : Same H3 H6 := fun b o e => k6 _ _ (s' _ _ e) (ne_none nc1 e)
      have gc6 := s6 _ _ gc3
      repeat walk_at "go"
      rw [List.length_map]
      refine ⟨q, m, t, o, d, n, _, rfl, hm.same (S3.trans s6), hg, (S3.trans s6) _ _ ht, hst, n0, by omega, by omega, fun _ c2 ys2 H7 s7 nc2 ny2 gc2' ry2 => ?_, fun hlt => absurd hlt (by omega)⟩
      repeat walk_at "go"
      refine ⟨_, _, rfl, sm_rows gc2' (s7 _ _ gc6) ry2 ((ra3.same s6).same s7) (by rw [← ra.len]; omega) (by omega), fun H8 s8 => ?_⟩
      exact k H8 (S3.trans (s6.trans (s7.trans s8)))
def sp_law (K : PySem.W.Frag) : Sp := fun vs H Q _ => ∃ (a : Addr) (ns : List Int), vs = [.ref a] ∧ SqL K H a (ns.map V.int) ∧ ns.length ≤ 63 ∧ ∀ H', Q (.bl true) H'
set_option maxHeartbeats 40000000 in
theorem ok_law {P : Program} {w : World} {K : PySem.W.Frag} {mg : Str → Option Value} {base : Heap} {a : Adr} (tx : Txt K mg a) : FnOk P w K mg base CX0 8 a.f_law a.d_law ["_law_script"] (sp_law K) := by
  have G__law_draw := ok__law_draw (P := P) (w := w) (base := base) tx
  have G__law_machine := ok__law_machine (P := P) (w := w) (base := base) tx
  have G__law_open := ok__law_open (P := P) (w := w) (base := base) tx
  have G__law_right := ok__law_right (P := P) (w := w) (base := base) tx
  have G__law_spec := ok__law_spec (P := P) (w := w) (base := base) tx
  have G__law_state := ok__law_state (P := P) (w := w) (base := base) tx
  refine tx.F_law.ok sc_law (fun vs H Q E h => ?_) (fun cdv A outer s H vs Q E hr h => ?_)
  · obtain ⟨ad, ns, rfl, _⟩ := h
    rfl
  · obtain ⟨ad, ns, rfl , hS, hl, k⟩ := h
    have hu := hu9 hr
    refine L2.Q.root (L2.Q.pss_cons (L2.Q.ps_set (i := 1) sc_law.nd rfl (Or.inr rfl) (L2.Q.pe_callN (G__law_open) (hr.mono (by decide)) (by rfl) tx.g__law_open tx.F__law_open.kp tx.b__law_open .nil pass0 (L2.Q.pa_c (L2.Q.pv 0) (L2.Q.pa_c L2.Q.pe_int L2.Q.pa_nil))))
      (L2.Q.pss_cons (L2.Q.ps_set (i := 2) sc_law.nd rfl (Or.inr rfl) (L2.Q.pe_ixK (K' := K) (L2.Q.lst2 L2.Q.pe_int L2.Q.pe_int) (L2.Q.pe_op op_fdiv (L2.Q.pe_callN (G__law_draw) (hr.mono (by decide)) (by rfl) tx.g__law_draw tx.F__law_draw.kp tx.b__law_draw .nil pass0 (L2.Q.pa_c (L2.Q.pv 1) (L2.Q.pa_c L2.Q.pe_int L2.Q.pa_nil))) L2.Q.pe_int) (fun _ _ => rfl)))
      (L2.Q.pss_cons (L2.Q.ps_setC (k := 1) (idx := [1, 2]) (N := ["_law_k", "_law_hand", "_law_longest"]) (i := 4) sc_law.nd rfl (Or.inl rfl) (blk_sc (sc := defScope s_law) (NX := ["_law_script", "_law_hand", "_law_longest", "_law_k", "_law_specs", "_law_machines", "_law_place", "_law_state_here"]) rfl rfl rfl (by decide +kernel)) rfl (L2.Q.pi_range1N (by rfl) tx.z_range (L2.Q.pa_c L2.Q.pe_int L2.Q.pa_nil)) (fun _ _ _ _ => (L2.Q.pg_name (i := 0) (show (["_law_k", "_law_hand", "_law_longest"] : List Str).Nodup by decide +kernel) rfl (Or.inl rfl))) (own_name (by decide)) (fun _ _ _ _ => L2.Q.pts_nil) (fun _ _ _ _ => (L2.Q.pe_callN (G__law_spec) (hr.mono (by decide)) (by rfl) tx.g__law_spec tx.F__law_spec.kp tx.b__law_spec .nil pass0 (L2.Q.pa_c (L2.Q.pv 1) (L2.Q.pa_c (L2.Q.lst2 L2.Q.pe_int L2.Q.pe_int) (L2.Q.pa_c (L2.Q.pv 2) L2.Q.pa_nil))))))
      (L2.Q.pss_cons (L2.Q.ps_setC (k := 1) (idx := []) (N := ["_law_spec_here"]) (i := 5) sc_law.nd rfl (Or.inl rfl) (blk_sc (sc := defScope s_law) (NX := ["_law_script", "_law_hand", "_law_longest", "_law_k", "_law_specs", "_law_machines", "_law_place", "_law_state_here"]) rfl rfl rfl (by decide +kernel)) rfl (L2.Q.pi_listK (K' := K) (L2.Q.pv 4)) (fun _ _ _ _ => (L2.Q.pg_name (i := 0) (show (["_law_spec_here"] : List Str).Nodup by decide +kernel) rfl (Or.inl rfl))) (own_name (by decide)) (fun _ _ _ _ => L2.Q.pts_nil) (fun _ _ _ _ => (L2.Q.pe_callN (G__law_machine) (hr.mono (by decide)) (by rfl) tx.g__law_machine tx.F__law_machine.kp tx.b__law_machine .nil pass0 (L2.Q.pa_c (L2.Q.pv 0) L2.Q.pa_nil))))
      (L2.Q.pss_cons (L2.Q.ps_for PassesOwn.never rfl (L2.Q.pi_range2N (by rfl) tx.z_range (L2.Q.pa_c L2.Q.pe_int (L2.Q.pa_c (L2.Q.pe_op op_addG L2.Q.pe_int (L2.Q.pe_callBN (call_maxG rfl) (by rfl) tx.z_max bt_max (L2.Q.pa_c L2.Q.pe_int (L2.Q.pa_c (L2.Q.pe_callBN (call_minG rfl) (by rfl) tx.z_min bt_min (L2.Q.pa_c (L2.Q.pe_callBN (rc := rLen K) call_lenG (by rfl) tx.z_len bt_len (L2.Q.pa_c (L2.Q.pv 0) L2.Q.pa_nil)) (L2.Q.pa_c L2.Q.pe_int L2.Q.pa_nil))) L2.Q.pa_nil)))) L2.Q.pa_nil))) (L2.Q.pg_name (i := 6) sc_law.nd rfl (Or.inl rfl)) (L2.Q.pss_cons (L2.Q.ps_set (i := 1) sc_law.nd rfl (Or.inr rfl) (L2.Q.pe_callN (G__law_open) (hr.mono (by decide)) (by rfl) tx.g__law_open tx.F__law_open.kp tx.b__law_open .nil pass0 (L2.Q.pa_c (L2.Q.pv 0) (L2.Q.pa_c (L2.Q.pv 6) L2.Q.pa_nil))))
      (L2.Q.pss_one (L2.Q.ps_for PassesOwn.never rfl (L2.Q.pi_tupK (K' := K) (L2.Q.tup2 L2.Q.pe_int L2.Q.pe_int)) (L2.Q.pg_name (i := 3) sc_law.nd rfl (Or.inl rfl)) (L2.Q.pss_cons (L2.Q.ps_set (i := 7) sc_law.nd rfl (Or.inl rfl) (L2.Q.pe_callN (G__law_state) (hr.mono (by decide)) (by rfl) tx.g__law_state tx.F__law_state.kp tx.b__law_state .nil pass0 (L2.Q.pa_c (L2.Q.pv 1) (L2.Q.pa_c (L2.Q.pe_ixK (K' := K) (L2.Q.pv 4) (L2.Q.pv 3) (fun _ _ => rfl)) L2.Q.pa_nil))))
      (L2.Q.pss_one (L2.Q.ps_if (L2.Q.pt_not (L2.Q.pt_val (L2.Q.pe_callN (G__law_right) (hr.mono (by decide)) (by rfl) tx.g__law_right tx.F__law_right.kp tx.b__law_right .nil pass0 (L2.Q.pa_c (L2.Q.pe_ixK (K' := K) (L2.Q.pv 5) (L2.Q.pv 3) (fun _ _ => rfl)) (L2.Q.pa_c (L2.Q.pe_ixK (K' := K) (L2.Q.pv 4) (L2.Q.pv 3) (fun _ _ => rfl)) (L2.Q.pa_c (L2.Q.pv 7) (L2.Q.pa_c (L2.Q.pe_callN (G__law_draw) (hr.mono (by decide)) (by rfl) tx.g__law_draw tx.F__law_draw.kp tx.b__law_draw .nil pass0 (L2.Q.pa_c (L2.Q.pv 1) (L2.Q.pa_c L2.Q.pe_int L2.Q.pa_nil))) L2.Q.pa_nil))))))) (L2.Q.pss_one (L2.Q.ps_ret L2.Q.pe_bl)) L2.Q.pss_nil)))))))
      (L2.Q.pss_one (L2.Q.ps_ret L2.Q.pe_bl))))))) ?_
    refine rd_start (σ := [some (.ref ad), none, none, none, none, none, none, none]) rfl ?_
    repeat walk_at "go"
    refine ⟨ad, ns, _, rfl, hS, hl, by decide, fun p H1 s1 np hh => ?_⟩
    repeat walk_at "go"
    intro l1 nl1
    repeat walk_at "go"
    refine ⟨p, _, rfl, hh.same (Same.new nl1), by decide, by decide, fun r1 H2 a1 b1 h2 k2 _ => ?_⟩
    have e2 : H2 l1 = some (.lst [.int 3, .int 12]) := k2 _ _ upd_same (hh.nnew nl1)
    have kk2 : Keep p H1 H2 := (Same.new nl1).keep.trans k2
    obtain ⟨L, hL, L0, L1⟩ : ∃ m : Int, atI [V.int 3, .int 12] (r1 / 3) = some (.int m) ∧ 1 ≤ m ∧ m ≤ 12 := by
      have : r1 / 3 = 0 ∨ r1 / 3 = 1 := by omega
      rcases this with e | e <;> rw [e]
      · exact ⟨3, rfl, by decide, by decide⟩
      · exact ⟨12, rfl, by decide, by decide⟩
    repeat walk_at "go"
    refine ⟨by decide, by decide, ?_⟩
    refine comp_range (fun i ys H' => ∃ (ss : List Addr) (ms : List MS), ys = ss.map V.ref ∧ ss.length = i ∧ RL (fun s m => SpecAt H' s m ∧ m.Good) ss ms ∧ HandAt H' p ∧ Keep p H1 H') ⟨[], [], rfl, rfl, RL.nil, h2, kk2⟩ (sz_le (by simp))
      (fun i ys H' hi ⟨ss, ms, f1, f2, f3, f4, f5⟩ => by rw [f1, List.length_map]; omega) (fun i ys H' hi ⟨ss, ms, f1, f2, f3, f4, f5⟩ => ?_) (fun ys H' ⟨ss, ms, f1, f2, f3, f4, f5⟩ => ?_)
    · repeat walk_at "go"
      intro b1 nb1
      repeat walk_at "go"
      have sb := Same.new (o := .lst [.int 1, .int 1]) nb1
      repeat walk_at "go"
      refine ⟨p, b1, 1, 1, L, rfl, f4.same sb, upd_same, by decide, by decide, by decide, by decide, L0, L1, fun s m H3 hs gm _ _ h3 k3 nA => ?_⟩
      refine ⟨ss ++ [s], ms ++ [m], by rw [f1, List.map_append]; rfl, by rw [List.length_append, f2]; rfl, (f3.imp fun a x z => ⟨(z.1.same sb).keep (f4.same sb) k3, z.2⟩).snoc ⟨hs, gm⟩, h3, f5.trans (sb.keep.trans k3)⟩
    obtain ⟨sA, sB, mA, mB, rfl, rfl, ⟨hA, gA⟩, ⟨hB, gB⟩⟩ := f3.two f2
    subst f1
    intro lS nS
    repeat walk_at "go"
    have sS := Same.new (o := .lst [.ref sA, .ref sB]) nS
    have hd4 := f4.same sS
    have K4 : Keep p H1 (upd H' lS (.lst [.ref sA, .ref sB])) := f5.trans sS.keep
    have hS4 : SqL K (upd H' lS (.lst [.ref sA, .ref sB])) ad (ns.map V.int) := Same.seq sS (sqKeep hS np s1 f5)
    have hA4 := hA.same sS
    have hB4 := hB.same sS
    have e4 : (upd H' lS (.lst [.ref sA, .ref sB])) lS = some (.lst [.ref sA, .ref sB]) := upd_same
    generalize hH4 : upd H' lS (.lst ([sA, sB].map V.ref)) = H4
    rw [show upd H' lS (.lst [.ref sA, .ref sB]) = H4 from hH4] at hS4 hA4 hB4 e4 hd4 K4
    repeat walk_at "go"
    refine rd_li (SqL.of e4) ?_
    refine comp_list (xs := [.ref sA, .ref sB]) (fun i ys H' => Same H4 H' ∧ ∃ as : List Addr, ys = as.map V.ref ∧ as.length = i ∧ ∀ (j : Nat) x m, as[j]? = some x → [mA, mB][j]? = some m → MachAt a.c_Machine H' x m)
      ⟨Same.refl _, [], rfl, rfl, fun j x m h => by simp at h⟩ (sz_le (by simp)) (fun i ys H' hi ⟨s, as, e1, e2, e3⟩ => ⟨SqL.of (s _ _ e4), by rw [e1, List.length_map]; omega⟩) (fun i x ys H' hx ⟨s, as, e1, e2, e3⟩ => ?_) (fun ys H' ⟨s, as, e1, e2, e3⟩ => ?_)
    · obtain ⟨sp, m, hsp, hm, gm, rfl⟩ : ∃ sp m, SpecAt H4 sp m ∧ [mA, mB][i]? = some m ∧ m.Good ∧ x = .ref sp := by
        match i, hx with
        | 0, hx => cases hx; exact ⟨sA, mA, hA4, rfl, gA, rfl⟩
        | 1, hx => cases hx; exact ⟨sB, mB, hB4, rfl, gB, rfl⟩
        | _ + 2, hx => simp at hx
      repeat walk_at "go"
      refine ⟨sp, m, rfl, hsp.same s, gm, fun y H5 hM s5 ny => ?_⟩
      refine ⟨s.trans s5, as ++ [y], by rw [e1, List.map_append]; rfl, by rw [List.length_append, e2]; rfl, fun j z m' hz hm' => ?_⟩
      by_cases hj : j < as.length
      · rw [List.getElem?_append_left hj] at hz
        exact (e3 j z m' hz hm').same s5
      · have hj2 : j < (as ++ [y]).length := (List.getElem?_eq_some_iff.mp hz).1
        rw [List.length_append, List.length_singleton] at hj2
        have ej : j = as.length := by omega
        subst ej
        rw [List.getElem?_append_right (Nat.le_refl _), Nat.sub_self] at hz
        cases hz
        rw [e2, hm] at hm'
        cases hm'
        exact hM
    obtain ⟨xA, xB, rfl⟩ : ∃ x y, as = [x, y] := by
      match as, e2 with
      | [x, y], _ => exact ⟨x, y, rfl⟩
    subst e1
    intro lM nM
    repeat walk_at "go"
    have w5 : Wd a.c_Machine lS lM sA sB xA xB mA mB (upd H' lM (.lst [.ref xA, .ref xB])) := ⟨Same.new nM _ _ (s _ _ e4), upd_same, hA4.same (s.trans (Same.new nM)), hB4.same (s.trans (Same.new nM)), (e3 0 xA mA rfl rfl).same (Same.new nM), (e3 1 xB mB rfl rfl).same (Same.new nM)⟩
    have hS5 : SqL K (upd H' lM (.lst [.ref xA, .ref xB])) ad (ns.map V.int) := Same.seq (s.trans (Same.new nM)) hS4
    generalize hH5 : upd H' lM (.lst ([xA, xB].map V.ref)) = H5
    rw [show upd H' lM (.lst [.ref xA, .ref xB]) = H5 from hH5] at w5 hS5
    repeat walk_at "go"
    refine ⟨⟨by omega, by omega, by omega, by omega⟩, ?_⟩
    refine rf_range (fun i σ' H' => Same H5 H' ∧ ∃ (x1 x3 x6 x7 : Option V), σ' = [some (.ref ad), x1, some (.int L), x3, some (.ref lS), some (.ref lM), x6, x7]) ⟨Same.refl _, _, _, _, _, rfl⟩ (fun i σ' H6 hi ⟨S6, x1, x3, x6, x7, e⟩ => ?_) (fun σ' H6 ⟨S6, x1, x3, x6, x7, e⟩ => ?_)
    · subst e
      repeat walk_at "go"
      refine ⟨ad, ns, _, rfl, Same.seq S6 hS5, hl, by omega, fun p2 H7 s7 np2 hh7 => ?_⟩
      repeat walk_at "go"
      intro Tk nTk
      obtain ⟨H8, i8, s8, g8⟩ := nw _ nTk; rw [i8]
      have hh8 := hh7.same s8
      have w8 := w5.same (S6.trans (s7.trans s8))
      have Tkp : Tk ≠ p2 := hh7.nnew nTk
      repeat walk_at "go"
      refine rd_ti (SqT.of g8) ?_
      refine rf_tup (xs := ([0, 1] : List Int).map V.int) (fun j σ' H' => Keep p2 H8 H' ∧ HandAt H' p2 ∧ ∃ (x3 x7 : Option V), σ' = [some (.ref ad), some (.ref p2), some (.int L), x3, some (.ref lS), some (.ref lM), some (.int (1 + (i : Int))), x7])
        ⟨(fun _ _ e _ => e), hh8, _, _, rfl⟩ (fun j σ' H' hj ⟨h, _⟩ => SqT.of (h _ _ g8 Tkp)) (fun j v σ' H9 hv ⟨k9, hh9, x3, x7, e⟩ => ?_) (fun σ' H9 ⟨k9, hh9, x3, x7, e⟩ => ?_)
      · subst e
        obtain ⟨kk, ek, rfl⟩ := int_get hv
        have bk : kk = 0 ∨ kk = 1 := by
          have := List.mem_of_getElem? ek
          simp at this
          omega
        have w9 := w8.keep hh8 k9
        obtain ⟨s, x, m, i1, i2, f1, f2, f4⟩ : ∃ s x m, atI [V.ref sA, .ref sB] kk = some (.ref s) ∧ atI [V.ref xA, .ref xB] kk = some (.ref x) ∧ SpecAt H9 s m ∧ MachAt a.c_Machine H9 x m ∧ m.Good := by
          rcases bk with rfl | rfl
          · exact ⟨sA, xA, mA, rfl, rfl, w9.sA, w9.mA, gA⟩
          · exact ⟨sB, xB, mB, rfl, rfl, w9.sB, w9.mB, gB⟩
        have vS := w9.s
        have vM := w9.m
        repeat walk_at "go"
        refine ⟨p2, s, m, rfl, hh9, f1, f4, fun t o d H10 ht hod h10 k10 => ?_⟩
        have f1' := f1.keep hh9 k10
        have f2' := f2.keep hh9 k10
        have w10 := w9.keep hh9 k10
        have vS := w10.s
        have vM := w10.m
        have hst : St0 o d := by
          have u1 := f4.up
          rcases hod with ⟨z1, z2, z3⟩ | ⟨z1, z2, z3⟩
          · exact ⟨.inr z1, z2, by omega⟩
          · exact ⟨.inl z1, z2, z3⟩
        repeat walk_at "go"
        refine ⟨p2, _, rfl, h10, by decide, by decide, fun r H11 a11 b11 h11 k11 _ => ?_⟩
        have ht11 : H11 t = some (.tup [.int o, .int d]) := k11 _ _ ht fun z => h10.ntup _ (by rw [← z]; exact ht)
        repeat walk_at "go"
        refine ⟨x, s, m, t, o, d, r, rfl, f2'.keep h10 k11, f1'.keep h10 k11, f4, ht11, hst, a11, by omega, fun H12 s12 => ?_⟩
        repeat walk_at "gs"
        exact ⟨k9.trans (k10.trans (k11.trans s12.keep)), h11.same s12, _, _, rfl⟩
      · subst e
        refine ⟨S6.trans (keep_fresh np2 s7 (s8.keep.trans k9)), _, _, _, _, rfl⟩
    · subst e
      repeat walk_at "go"
      exact k _
end My
namespace My
open PySem L2
set_option maxHeartbeats 0 in
theorem all_mk {l : PySem.W.OpenLaw} {w : World} {K : PySem.W.Frag} {h : Heap} {mg : Str → Option Value} {fa : Addr} (X : K.In h) (G : h.Ns mainGlobals mg) (hfa : mg "law" = some (.ref fa))
    {C0 : Addr} {CE0 : Addr} {f0 : Addr} {od0 an0 : Option Addr} {sl0 : Array (Option Value)} {oc0 kV0 dc0 pm0 cd0 ct0 : Value} {f1 : Addr} {od1 an1 : Option Addr} {sl1 : Array (Option Value)} {oc1 kV1 dc1 pm1 cd1 ct1 : Value} {f2 : Addr} {od2 an2 : Option Addr} {sl2 : Array (Option Value)} {oc2 kV2 dc2 pm2 cd2 ct2 : Value} {f3 : Addr} {od3 an3 : Option Addr} {sl3 : Array (Option Value)} {oc3 kV3 dc3 pm3 cd3 ct3 : Value} {f4 : Addr} {od4 an4 : Option Addr} {sl4 : Array (Option Value)} {oc4 kV4 dc4 pm4 cd4 ct4 : Value} {f5 : Addr} {od5 an5 : Option Addr} {sl5 : Array (Option Value)} {oc5 kV5 dc5 pm5 cd5 ct5 : Value} {f6 : Addr} {od6 an6 : Option Addr} {sl6 : Array (Option Value)} {oc6 kV6 dc6 pm6 cd6 ct6 : Value} {f7 : Addr} {od7 an7 : Option Addr} {sl7 : Array (Option Value)} {oc7 kV7 dc7 pm7 cd7 ct7 : Value} {f8 : Addr} {od8 an8 : Option Addr} {sl8 : Array (Option Value)} {oc8 kV8 dc8 pm8 cd8 ct8 : Value} {f9 : Addr} {od9 an9 : Option Addr} {sl9 : Array (Option Value)} {oc9 kV9 dc9 pm9 cd9 ct9 : Value} {f10 : Addr} {od10 an10 : Option Addr} {sl10 : Array (Option Value)} {oc10 kV10 dc10 pm10 cd10 ct10 : Value} {f11 : Addr} {od11 an11 : Option Addr} {sl11 : Array (Option Value)} {oc11 kV11 dc11 pm11 cd11 ct11 : Value} {f12 : Addr} {od12 an12 : Option Addr} {sl12 : Array (Option Value)} {oc12 kV12 dc12 pm12 cd12 ct12 : Value} {f13 : Addr} {od13 an13 : Option Addr} {sl13 : Array (Option Value)} {oc13 kV13 dc13 pm13 cd13 ct13 : Value} {f14 : Addr} {od14 an14 : Option Addr} {sl14 : Array (Option Value)} {oc14 kV14 dc14 pm14 cd14 ct14 : Value} {f15 : Addr} {od15 an15 : Option Addr} {sl15 : Array (Option Value)} {oc15 kV15 dc15 pm15 cd15 ct15 : Value} {f16 : Addr} {od16 an16 : Option Addr} {sl16 : Array (Option Value)} {oc16 kV16 dc16 pm16 cd16 ct16 : Value} {f17 : Addr} {od17 an17 : Option Addr} {sl17 : Array (Option Value)} {oc17 kV17 dc17 pm17 cd17 ct17 : Value} {f18 : Addr} {od18 an18 : Option Addr} {sl18 : Array (Option Value)} {oc18 kV18 dc18 pm18 cd18 ct18 : Value} {f19 : Addr} {od19 an19 : Option Addr} {sl19 : Array (Option Value)} {oc19 kV19 dc19 pm19 cd19 ct19 : Value} {f20 : Addr} {od20 an20 : Option Addr} {sl20 : Array (Option Value)} {oc20 kV20 dc20 pm20 cd20 ct20 : Value} {f21 : Addr} {od21 an21 : Option Addr} {sl21 : Array (Option Value)} {oc21 kV21 dc21 pm21 cd21 ct21 : Value} {f22 : Addr} {od22 an22 : Option Addr} {sl22 : Array (Option Value)} {oc22 kV22 dc22 pm22 cd22 ct22 : Value} {f23 : Addr} {od23 an23 : Option Addr} {sl23 : Array (Option Value)} {oc23 kV23 dc23 pm23 cd23 ct23 : Value} {f24 : Addr} {od24 an24 : Option Addr} {sl24 : Array (Option Value)} {oc24 kV24 dc24 pm24 cd24 ct24 : Value} {tk_LONGEST_STINT : Tok} {tk_MOST_PIECES : Tok}
    (aC0 : PySem.W.nsIn K mainGlobals "Machine" = some (some (.ref C0)))
    (aE0 : PySem.W.nsIn K mainGlobals "TooMany" = some (some (.ref CE0)))
    (a0 : PySem.W.nsIn K mainGlobals "_law_open" = some (some (.ref f0)))
    (l0 : K.lookup f0 = some ⟨oc0, od0, .func (PySem.W.fnOf "_law_open" "_law_open" (defArgs s__law_open) (defBody s__law_open) (defScope s__law_open) .none kV0 dc0 pm0 an0 cd0 ct0), sl0⟩)
    (c0 : PySem.W.codeIn K cd0 "_law_open" = true)
    (k0 : PySem.W.keepIn K (.ref f0) = true)
    (a1 : PySem.W.nsIn K mainGlobals "_law_draw" = some (some (.ref f1)))
    (l1 : K.lookup f1 = some ⟨oc1, od1, .func (PySem.W.fnOf "_law_draw" "_law_draw" (defArgs s__law_draw) (defBody s__law_draw) (defScope s__law_draw) .none kV1 dc1 pm1 an1 cd1 ct1), sl1⟩)
    (c1 : PySem.W.codeIn K cd1 "_law_draw" = true)
    (k1 : PySem.W.keepIn K (.ref f1) = true)
    (a2 : PySem.W.nsIn K mainGlobals "is_whole" = some (some (.ref f2)))
    (l2 : K.lookup f2 = some ⟨oc2, od2, .func (PySem.W.fnOf "is_whole" "is_whole" (defArgs s_is_whole) (defBody s_is_whole) (defScope s_is_whole) .none kV2 dc2 pm2 an2 cd2 ct2), sl2⟩)
    (c2 : PySem.W.codeIn K cd2 "is_whole" = true)
    (k2 : PySem.W.keepIn K (.ref f2) = true)
    (a3 : PySem.W.nsIn K mainGlobals "is_amount" = some (some (.ref f3)))
    (l3 : K.lookup f3 = some ⟨oc3, od3, .func (PySem.W.fnOf "is_amount" "is_amount" (defArgs s_is_amount) (defBody s_is_amount) (defScope s_is_amount) .none kV3 dc3 pm3 an3 cd3 ct3), sl3⟩)
    (c3 : PySem.W.codeIn K cd3 "is_amount" = true)
    (k3 : PySem.W.keepIn K (.ref f3) = true)
    (a4 : PySem.W.nsIn K mainGlobals "is_span" = some (some (.ref f4)))
    (l4 : K.lookup f4 = some ⟨oc4, od4, .func (PySem.W.fnOf "is_span" "is_span" (defArgs s_is_span) (defBody s_is_span) (defScope s_is_span) .none kV4 dc4 pm4 an4 cd4 ct4), sl4⟩)
    (c4 : PySem.W.codeIn K cd4 "is_span" = true)
    (k4 : PySem.W.keepIn K (.ref f4) = true)
    (a5 : PySem.W.nsIn K mainGlobals "is_piece" = some (some (.ref f5)))
    (l5 : K.lookup f5 = some ⟨oc5, od5, .func (PySem.W.fnOf "is_piece" "is_piece" (defArgs s_is_piece) (defBody s_is_piece) (defScope s_is_piece) .none kV5 dc5 pm5 an5 cd5 ct5), sl5⟩)
    (c5 : PySem.W.codeIn K cd5 "is_piece" = true)
    (k5 : PySem.W.keepIn K (.ref f5) = true)
    (a6 : PySem.W.nsIn K mainGlobals "are_pieces" = some (some (.ref f6)))
    (l6 : K.lookup f6 = some ⟨oc6, od6, .func (PySem.W.fnOf "are_pieces" "are_pieces" (defArgs s_are_pieces) (defBody s_are_pieces) (defScope s_are_pieces) .none kV6 dc6 pm6 an6 cd6 ct6), sl6⟩)
    (c6 : PySem.W.codeIn K cd6 "are_pieces" = true)
    (k6 : PySem.W.keepIn K (.ref f6) = true)
    (a7 : PySem.W.findIn K (.ref C0) "__init__" = some (some (.ref f7)))
    (i7 : PySem.W.isFn K (.ref f7) = true)
    (l7 : K.lookup f7 = some ⟨oc7, od7, .func (PySem.W.fnOf "__init__" "Machine.__init__" (defArgs s_Machine_init) (defBody s_Machine_init) (defScope s_Machine_init) .none kV7 dc7 pm7 an7 cd7 ct7), sl7⟩)
    (c7 : PySem.W.codeIn K cd7 "Machine.__init__" = true)
    (k7 : PySem.W.keepIn K (.ref f7) = true)
    (a8 : PySem.W.nsIn K mainGlobals "_law_spec" = some (some (.ref f8)))
    (l8 : K.lookup f8 = some ⟨oc8, od8, .func (PySem.W.fnOf "_law_spec" "_law_spec" (defArgs s__law_spec) (defBody s__law_spec) (defScope s__law_spec) .none kV8 dc8 pm8 an8 cd8 ct8), sl8⟩)
    (c8 : PySem.W.codeIn K cd8 "_law_spec" = true)
    (k8 : PySem.W.keepIn K (.ref f8) = true)
    (a9 : PySem.W.nsIn K mainGlobals "_law_machine" = some (some (.ref f9)))
    (l9 : K.lookup f9 = some ⟨oc9, od9, .func (PySem.W.fnOf "_law_machine" "_law_machine" (defArgs s__law_machine) (defBody s__law_machine) (defScope s__law_machine) .none kV9 dc9 pm9 an9 cd9 ct9), sl9⟩)
    (c9 : PySem.W.codeIn K cd9 "_law_machine" = true)
    (k9 : PySem.W.keepIn K (.ref f9) = true)
    (a10 : PySem.W.nsIn K mainGlobals "_law_same" = some (some (.ref f10)))
    (l10 : K.lookup f10 = some ⟨oc10, od10, .func (PySem.W.fnOf "_law_same" "_law_same" (defArgs s__law_same) (defBody s__law_same) (defScope s__law_same) .none kV10 dc10 pm10 an10 cd10 ct10), sl10⟩)
    (c10 : PySem.W.codeIn K cd10 "_law_same" = true)
    (k10 : PySem.W.keepIn K (.ref f10) = true)
    (a11 : PySem.W.nsIn K mainGlobals "may_be" = some (some (.ref f11)))
    (l11 : K.lookup f11 = some ⟨oc11, od11, .func (PySem.W.fnOf "may_be" "may_be" (defArgs s_may_be) (defBody s_may_be) (defScope s_may_be) .none kV11 dc11 pm11 an11 cd11 ct11), sl11⟩)
    (c11 : PySem.W.codeIn K cd11 "may_be" = true)
    (k11 : PySem.W.keepIn K (.ref f11) = true)
    (a12 : PySem.W.nsIn K mainGlobals "state_after" = some (some (.ref f12)))
    (l12 : K.lookup f12 = some ⟨oc12, od12, .func (PySem.W.fnOf "state_after" "state_after" (defArgs s_state_after) (defBody s_state_after) (defScope s_state_after) .none kV12 dc12 pm12 an12 cd12 ct12), sl12⟩)
    (c12 : PySem.W.codeIn K cd12 "state_after" = true)
    (k12 : PySem.W.keepIn K (.ref f12) = true)
    (a13 : PySem.W.nsIn K mainGlobals "_law_state" = some (some (.ref f13)))
    (l13 : K.lookup f13 = some ⟨oc13, od13, .func (PySem.W.fnOf "_law_state" "_law_state" (defArgs s__law_state) (defBody s__law_state) (defScope s__law_state) .none kV13 dc13 pm13 an13 cd13 ct13), sl13⟩)
    (c13 : PySem.W.codeIn K cd13 "_law_state" = true)
    (k13 : PySem.W.keepIn K (.ref f13) = true)
    (a14 : PySem.W.nsIn K mainGlobals "ways_one_on" = some (some (.ref f14)))
    (l14 : K.lookup f14 = some ⟨oc14, od14, .func (PySem.W.fnOf "ways_one_on" "ways_one_on" (defArgs s_ways_one_on) (defBody s_ways_one_on) (defScope s_ways_one_on) .none kV14 dc14 pm14 an14 cd14 ct14), sl14⟩)
    (c14 : PySem.W.codeIn K cd14 "ways_one_on" = true)
    (k14 : PySem.W.keepIn K (.ref f14) = true)
    (a15 : PySem.W.nsIn K mainGlobals "ways_after" = some (some (.ref f15)))
    (l15 : K.lookup f15 = some ⟨oc15, od15, .func (PySem.W.fnOf "ways_after" "ways_after" (defArgs s_ways_after) (defBody s_ways_after) (defScope s_ways_after) .none kV15 dc15 pm15 an15 cd15 ct15), sl15⟩)
    (c15 : PySem.W.codeIn K cd15 "ways_after" = true)
    (k15 : PySem.W.keepIn K (.ref f15) = true)
    (a16 : PySem.W.nsIn K mainGlobals "run_count" = some (some (.ref f16)))
    (l16 : K.lookup f16 = some ⟨oc16, od16, .func (PySem.W.fnOf "run_count" "run_count" (defArgs s_run_count) (defBody s_run_count) (defScope s_run_count) .none kV16 dc16 pm16 an16 cd16 ct16), sl16⟩)
    (c16 : PySem.W.codeIn K cd16 "run_count" = true)
    (k16 : PySem.W.keepIn K (.ref f16) = true)
    (a17 : PySem.W.findIn K (.ref CE0) "__init__" = some (some (.ref f17)))
    (i17 : PySem.W.isFn K (.ref f17) = true)
    (l17 : K.lookup f17 = some ⟨oc17, od17, .func (PySem.W.fnOf "__init__" "TooMany.__init__" (defArgs s_TooMany_init) (defBody s_TooMany_init) (defScope s_TooMany_init) .none kV17 dc17 pm17 an17 cd17 ct17), sl17⟩)
    (c17 : PySem.W.codeIn K cd17 "TooMany.__init__" = true)
    (k17 : PySem.W.keepIn K (.ref f17) = true)
    (a18 : PySem.W.nsIn K mainGlobals "one_hour_on" = some (some (.ref f18)))
    (l18 : K.lookup f18 = some ⟨oc18, od18, .func (PySem.W.fnOf "one_hour_on" "one_hour_on" (defArgs s_one_hour_on) (defBody s_one_hour_on) (defScope s_one_hour_on) .none kV18 dc18 pm18 an18 cd18 ct18), sl18⟩)
    (c18 : PySem.W.codeIn K cd18 "one_hour_on" = true)
    (k18 : PySem.W.keepIn K (.ref f18) = true)
    (a19 : PySem.W.nsIn K mainGlobals "all_runs" = some (some (.ref f19)))
    (l19 : K.lookup f19 = some ⟨oc19, od19, .func (PySem.W.fnOf "all_runs" "all_runs" (defArgs s_all_runs) (defBody s_all_runs) (defScope s_all_runs) .none kV19 dc19 pm19 an19 cd19 ct19), sl19⟩)
    (c19 : PySem.W.codeIn K cd19 "all_runs" = true)
    (k19 : PySem.W.keepIn K (.ref f19) = true)
    (a20 : PySem.W.nsIn K mainGlobals "_law_stints" = some (some (.ref f20)))
    (l20 : K.lookup f20 = some ⟨oc20, od20, .func (PySem.W.fnOf "_law_stints" "_law_stints" (defArgs s__law_stints) (defBody s__law_stints) (defScope s__law_stints) .none kV20 dc20 pm20 an20 cd20 ct20), sl20⟩)
    (c20 : PySem.W.codeIn K cd20 "_law_stints" = true)
    (k20 : PySem.W.keepIn K (.ref f20) = true)
    (a21 : PySem.W.nsIn K mainGlobals "_law_good" = some (some (.ref f21)))
    (l21 : K.lookup f21 = some ⟨oc21, od21, .func (PySem.W.fnOf "_law_good" "_law_good" (defArgs s__law_good) (defBody s__law_good) (defScope s__law_good) .none kV21 dc21 pm21 an21 cd21 ct21), sl21⟩)
    (c21 : PySem.W.codeIn K cd21 "_law_good" = true)
    (k21 : PySem.W.keepIn K (.ref f21) = true)
    (a22 : PySem.W.nsIn K mainGlobals "_law_all" = some (some (.ref f22)))
    (l22 : K.lookup f22 = some ⟨oc22, od22, .func (PySem.W.fnOf "_law_all" "_law_all" (defArgs s__law_all) (defBody s__law_all) (defScope s__law_all) .none kV22 dc22 pm22 an22 cd22 ct22), sl22⟩)
    (c22 : PySem.W.codeIn K cd22 "_law_all" = true)
    (k22 : PySem.W.keepIn K (.ref f22) = true)
    (a23 : PySem.W.nsIn K mainGlobals "_law_right" = some (some (.ref f23)))
    (l23 : K.lookup f23 = some ⟨oc23, od23, .func (PySem.W.fnOf "_law_right" "_law_right" (defArgs s__law_right) (defBody s__law_right) (defScope s__law_right) .none kV23 dc23 pm23 an23 cd23 ct23), sl23⟩)
    (c23 : PySem.W.codeIn K cd23 "_law_right" = true)
    (k23 : PySem.W.keepIn K (.ref f23) = true)
    (a24 : PySem.W.nsIn K mainGlobals "law" = some (some (.ref f24)))
    (l24 : K.lookup f24 = some ⟨oc24, od24, .func (PySem.W.fnOf "law" "law" (defArgs s_law) (defBody s_law) (defScope s_law) .none kV24 dc24 pm24 an24 cd24 ct24), sl24⟩)
    (c24 : PySem.W.codeIn K cd24 "law" = true)
    (k24 : PySem.W.keepIn K (.ref f24) = true)
    (pg0 : PySem.W.plainGet K C0 Str.empty = true)
    (hd0 : PySem.W.hasDictIn K C0 = true)
    (po0 : PySem.W.plainOver K C0 = true)
    (sa0 : PySem.W.findIn K (.ref C0) "__setattr__" = some (some (.builtin "object.__setattr__")))
    (mk0 : PySem.W.makesIn K C0 = true)
    (kc0 : PySem.W.keepIn K (.ref C0) = true)
    (n0_up : PySem.W.findIn K (.ref C0) "up" = some none)
    (n0_down : PySem.W.findIn K (.ref C0) "down" = some none)
    (n0_begin : PySem.W.findIn K (.ref C0) "begin" = some none)
    (n0_run : PySem.W.findIn K (.ref C0) "run" = some none)
    (n0_rest : PySem.W.findIn K (.ref C0) "rest" = some none)
    (n0_least : PySem.W.findIn K (.ref C0) "least" = some none)
    (n0_pieces : PySem.W.findIn K (.ref C0) "pieces" = some none)
    (Ega0 : PySem.W.findIn K (.ref CE0) "__getattribute__" = some (some (.builtin "BaseException.__getattribute__")))
    (Egx0 : PySem.W.findIn K (.ref CE0) "__getattr__" = some none)
    (Eex0 : PySem.W.mroIn K CE0 (.type "BaseException") = some true)
    (Esa0 : PySem.W.findIn K (.ref CE0) "__setattr__" = some (some (.builtin "object.__setattr__")))
    (Eca0 : PySem.W.findIn K (.ref CE0) "__class__" = some (some (.builtin "object.__class__")))
    (Ecg0 : PySem.W.specialIn K (.builtin "object.__class__") "__get__" = some (some (.builtin "getset_descriptor.__get__")))
    (Ect0 : PySem.W.takesIn K (.builtin "object.__class__") = some true)
    (Emo0 : PySem.W.mroIn K CE0 (.type "object") = some true)
    (Ehd0 : PySem.W.hasDictIn K CE0 = true)
    (Ekp0 : PySem.W.keepIn K (.ref CE0) = true)
    (Emm0 : (PySem.W.clsIn K CE0).any (fun cd => errMro cd.mro && cd.hasDict) = true)
    (Emd0 : excMkIn K CE0 = true)
    (Eat0_limit : PySem.W.findIn K (.ref CE0) "limit" = some none)
    (z_abs : PySem.W.nsIn K mainGlobals "abs" = some none)
    (z_all : PySem.W.nsIn K mainGlobals "all" = some none)
    (z_bool : PySem.W.nsIn K mainGlobals "bool" = some none)
    (z_enumerate : PySem.W.nsIn K mainGlobals "enumerate" = some none)
    (z_int : PySem.W.nsIn K mainGlobals "int" = some none)
    (z_isinstance : PySem.W.nsIn K mainGlobals "isinstance" = some none)
    (z_len : PySem.W.nsIn K mainGlobals "len" = some none)
    (z_list : PySem.W.nsIn K mainGlobals "list" = some none)
    (z_max : PySem.W.nsIn K mainGlobals "max" = some none)
    (z_min : PySem.W.nsIn K mainGlobals "min" = some none)
    (z_range : PySem.W.nsIn K mainGlobals "range" = some none)
    (z_sorted : PySem.W.nsIn K mainGlobals "sorted" = some none)
    (z_str : PySem.W.nsIn K mainGlobals "str" = some none)
    (z_sum : PySem.W.nsIn K mainGlobals "sum" = some none)
    (z_tuple : PySem.W.nsIn K mainGlobals "tuple" = some none)
    (v_LONGEST_STINT : PySem.W.nsIn K mainGlobals "LONGEST_STINT" = some (some (.int 12 tk_LONGEST_STINT)))
    (v_MOST_PIECES : PySem.W.nsIn K mainGlobals "MOST_PIECES" = some (some (.int 4 tk_MOST_PIECES))) :
    ∃ fd : FuncData, (∀ (s : Shared) (v : Value), BindsTo s fd ⟨[v], []⟩ [("_law_script", v)]) ∧ ∀ base : Heap, K.In base → base.Ns mainGlobals mg → FnOk l.prog w K mg base CX0 8 fa fd ["_law_script"] (sp_law K) := by
  have e := hfa.symm.trans (PySem.W.mg_of X G a24)
  cases e
  have F0 := fun_mk (st := s__law_open) l0 c0 k0
  have b0 := F0.binds (ps := ["_law_script", "_law_place"]) fun _ _ _ _ _ _ us hl => by obtain ⟨_, _, rfl⟩ := ar2 us hl; rfl
  have F1 := fun_mk (st := s__law_draw) l1 c1 k1
  have b1 := F1.binds (ps := ["_law_hand", "_law_many"]) fun _ _ _ _ _ _ us hl => by obtain ⟨_, _, rfl⟩ := ar2 us hl; rfl
  have F2 := fun_mk (st := s_is_whole) l2 c2 k2
  have b2 := F2.binds (ps := ["thing"]) fun _ _ _ _ _ _ us hl => by obtain ⟨_, rfl⟩ := ar1 us hl; rfl
  have F3 := fun_mk (st := s_is_amount) l3 c3 k3
  have b3 := F3.binds (ps := ["thing"]) fun _ _ _ _ _ _ us hl => by obtain ⟨_, rfl⟩ := ar1 us hl; rfl
  have F4 := fun_mk (st := s_is_span) l4 c4 k4
  have b4 := F4.binds (ps := ["thing"]) fun _ _ _ _ _ _ us hl => by obtain ⟨_, rfl⟩ := ar1 us hl; rfl
  have F5 := fun_mk (st := s_is_piece) l5 c5 k5
  have b5 := F5.binds (ps := ["thing"]) fun _ _ _ _ _ _ us hl => by obtain ⟨_, rfl⟩ := ar1 us hl; rfl
  have F6 := fun_mk (st := s_are_pieces) l6 c6 k6
  have b6 := F6.binds (ps := ["thing"]) fun _ _ _ _ _ _ us hl => by obtain ⟨_, rfl⟩ := ar1 us hl; rfl
  have F7 := fun_mk (st := s_Machine_init) l7 c7 k7
  have b7 := F7.binds (ps := ["self", "up", "down", "begin", "run", "rest", "least", "pieces"]) fun _ _ _ _ _ _ us hl => by obtain ⟨_, _, _, _, _, _, _, _, rfl⟩ := ar8 us hl; rfl
  have F8 := fun_mk (st := s__law_spec) l8 c8 k8
  have b8 := F8.binds (ps := ["_law_hand", "_law_by", "_law_longest"]) fun _ _ _ _ _ _ us hl => by obtain ⟨_, _, _, rfl⟩ := ar3 us hl; rfl
  have F9 := fun_mk (st := s__law_machine) l9 c9 k9
  have b9 := F9.binds (ps := ["_law_spec_here"]) fun _ _ _ _ _ _ us hl => by obtain ⟨_, rfl⟩ := ar1 us hl; rfl
  have F10 := fun_mk (st := s__law_same) l10 c10 k10
  have b10 := F10.binds (ps := ["_law_one", "_law_due"]) fun _ _ _ _ _ _ us hl => by obtain ⟨_, _, rfl⟩ := ar2 us hl; rfl
  have F11 := fun_mk (st := s_may_be) l11 c11 k11
  have b11 := F11.binds (ps := ["machine", "state", "on"]) fun _ _ _ _ _ _ us hl => by obtain ⟨_, _, _, rfl⟩ := ar3 us hl; rfl
  have F12 := fun_mk (st := s_state_after) l12 c12 k12
  have b12 := F12.binds (ps := ["machine", "state", "on"]) fun _ _ _ _ _ _ us hl => by obtain ⟨_, _, _, rfl⟩ := ar3 us hl; rfl
  have F13 := fun_mk (st := s__law_state) l13 c13 k13
  have b13 := F13.binds (ps := ["_law_hand", "_law_spec_here"]) fun _ _ _ _ _ _ us hl => by obtain ⟨_, _, rfl⟩ := ar2 us hl; rfl
  have F14 := fun_mk (st := s_ways_one_on) l14 c14 k14
  have b14 := F14.binds (ps := ["machine", "ways"]) fun _ _ _ _ _ _ us hl => by obtain ⟨_, _, rfl⟩ := ar2 us hl; rfl
  have F15 := fun_mk (st := s_ways_after) l15 c15 k15
  have b15 := F15.binds (ps := ["machine", "state", "hours"]) fun _ _ _ _ _ _ us hl => by obtain ⟨_, _, _, rfl⟩ := ar3 us hl; rfl
  have F16 := fun_mk (st := s_run_count) l16 c16 k16
  have b16 := F16.binds (ps := ["machine", "state", "hours"]) fun _ _ _ _ _ _ us hl => by obtain ⟨_, _, _, rfl⟩ := ar3 us hl; rfl
  have F17 := fun_mk (st := s_TooMany_init) l17 c17 k17
  have b17 := F17.binds (ps := ["self", "limit"]) fun _ _ _ _ _ _ us hl => by obtain ⟨_, _, rfl⟩ := ar2 us hl; rfl
  have F18 := fun_mk (st := s_one_hour_on) l18 c18 k18
  have b18 := F18.binds (ps := ["machine", "found"]) fun _ _ _ _ _ _ us hl => by obtain ⟨_, _, rfl⟩ := ar2 us hl; rfl
  have F19 := fun_mk (st := s_all_runs) l19 c19 k19
  have b19 := F19.binds (ps := ["machine", "state", "hours", "most"]) fun _ _ _ _ _ _ us hl => by obtain ⟨_, _, _, _, rfl⟩ := ar4 us hl; rfl
  have F20 := fun_mk (st := s__law_stints) l20 c20 k20
  have b20 := F20.binds (ps := ["_law_run"]) fun _ _ _ _ _ _ us hl => by obtain ⟨_, rfl⟩ := ar1 us hl; rfl
  have F21 := fun_mk (st := s__law_good) l21 c21 k21
  have b21 := F21.binds (ps := ["_law_spec_here", "_law_state_here", "_law_run"]) fun _ _ _ _ _ _ us hl => by obtain ⟨_, _, _, rfl⟩ := ar3 us hl; rfl
  have F22 := fun_mk (st := s__law_all) l22 c22 k22
  have b22 := F22.binds (ps := ["_law_spec_here", "_law_state_here", "_law_hours"]) fun _ _ _ _ _ _ us hl => by obtain ⟨_, _, _, rfl⟩ := ar3 us hl; rfl
  have F23 := fun_mk (st := s__law_right) l23 c23 k23
  have b23 := F23.binds (ps := ["_law_machine_here", "_law_spec_here", "_law_state_here", "_law_hours"]) fun _ _ _ _ _ _ us hl => by obtain ⟨_, _, _, _, rfl⟩ := ar4 us hl; rfl
  have F24 := fun_mk (st := s_law) l24 c24 k24
  have b24 := F24.binds (ps := ["_law_script"]) fun _ _ _ _ _ _ us hl => by obtain ⟨_, rfl⟩ := ar1 us hl; rfl
  have tx : Txt K mg { f__law_open := f0, d__law_open := _, f__law_draw := f1, d__law_draw := _, f_is_whole := f2, d_is_whole := _, f_is_amount := f3, d_is_amount := _, f_is_span := f4, d_is_span := _, f_is_piece := f5, d_is_piece := _, f_are_pieces := f6, d_are_pieces := _, f_Machine_init := f7, d_Machine_init := _, f__law_spec := f8, d__law_spec := _, f__law_machine := f9, d__law_machine := _, f__law_same := f10, d__law_same := _, f_may_be := f11, d_may_be := _, f_state_after := f12, d_state_after := _, f__law_state := f13, d__law_state := _, f_ways_one_on := f14, d_ways_one_on := _, f_ways_after := f15, d_ways_after := _, f_run_count := f16, d_run_count := _, f_TooMany_init := f17, d_TooMany_init := _, f_one_hour_on := f18, d_one_hour_on := _, f_all_runs := f19, d_all_runs := _, f__law_stints := f20, d__law_stints := _, f__law_good := f21, d__law_good := _, f__law_all := f22, d__law_all := _, f__law_right := f23, d__law_right := _, f_law := fa, d_law := _, c_Machine := C0, c_TooMany := CE0 } := { F__law_open := F0, b__law_open := b0, g__law_open := PySem.W.mg_of X G a0, F__law_draw := F1, b__law_draw := b1, g__law_draw := PySem.W.mg_of X G a1, F_is_whole := F2, b_is_whole := b2, g_is_whole := PySem.W.mg_of X G a2, F_is_amount := F3, b_is_amount := b3, g_is_amount := PySem.W.mg_of X G a3, F_is_span := F4, b_is_span := b4, g_is_span := PySem.W.mg_of X G a4, F_is_piece := F5, b_is_piece := b5, g_is_piece := PySem.W.mg_of X G a5, F_are_pieces := F6, b_are_pieces := b6, g_are_pieces := PySem.W.mg_of X G a6, F_Machine_init := F7, b_Machine_init := b7, F__law_spec := F8, b__law_spec := b8, g__law_spec := PySem.W.mg_of X G a8, F__law_machine := F9, b__law_machine := b9, g__law_machine := PySem.W.mg_of X G a9, F__law_same := F10, b__law_same := b10, g__law_same := PySem.W.mg_of X G a10, F_may_be := F11, b_may_be := b11, g_may_be := PySem.W.mg_of X G a11, F_state_after := F12, b_state_after := b12, g_state_after := PySem.W.mg_of X G a12, F__law_state := F13, b__law_state := b13, g__law_state := PySem.W.mg_of X G a13, F_ways_one_on := F14, b_ways_one_on := b14, g_ways_one_on := PySem.W.mg_of X G a14, F_ways_after := F15, b_ways_after := b15, g_ways_after := PySem.W.mg_of X G a15, F_run_count := F16, b_run_count := b16, g_run_count := PySem.W.mg_of X G a16, F_TooMany_init := F17, b_TooMany_init := b17, F_one_hour_on := F18, b_one_hour_on := b18, g_one_hour_on := PySem.W.mg_of X G a18, F_all_runs := F19, b_all_runs := b19, g_all_runs := PySem.W.mg_of X G a19, F__law_stints := F20, b__law_stints := b20, g__law_stints := PySem.W.mg_of X G a20, F__law_good := F21, b__law_good := b21, g__law_good := PySem.W.mg_of X G a21, F__law_all := F22, b__law_all := b22, g__law_all := PySem.W.mg_of X G a22, F__law_right := F23, b__law_right := b23, g__law_right := PySem.W.mg_of X G a23, F_law := F24, b_law := b24, g_law := PySem.W.mg_of X G a24, C_Machine := ⟨pg0, hd0, po0, sa0⟩, g_Machine := PySem.W.mg_of X G aC0, M_Machine := ⟨mk0, a7, i7, kc0⟩, n_Machine_up := n0_up, n_Machine_down := n0_down, n_Machine_begin := n0_begin, n_Machine_run := n0_run, n_Machine_rest := n0_rest, n_Machine_least := n0_least, n_Machine_pieces := n0_pieces, g_TooMany := PySem.W.mg_of X G aE0, Z_TooMany := ⟨⟨Ega0, Egx0, Eex0⟩, Esa0, Eca0, Ecg0, Ect0, Emo0, Ehd0, Emm0, Emd0, Ekp0⟩, fi_TooMany := a17, ff_TooMany := i17, ni_TooMany_limit := Eat0_limit, z_abs := PySem.W.mg_none_of X G z_abs, z_all := PySem.W.mg_none_of X G z_all, z_bool := PySem.W.mg_none_of X G z_bool, z_enumerate := PySem.W.mg_none_of X G z_enumerate, z_int := PySem.W.mg_none_of X G z_int, z_isinstance := PySem.W.mg_none_of X G z_isinstance, z_len := PySem.W.mg_none_of X G z_len, z_list := PySem.W.mg_none_of X G z_list, z_max := PySem.W.mg_none_of X G z_max, z_min := PySem.W.mg_none_of X G z_min, z_range := PySem.W.mg_none_of X G z_range, z_sorted := PySem.W.mg_none_of X G z_sorted, z_str := PySem.W.mg_none_of X G z_str, z_sum := PySem.W.mg_none_of X G z_sum, z_tuple := PySem.W.mg_none_of X G z_tuple, v_LONGEST_STINT := ⟨_, PySem.W.mg_of X G v_LONGEST_STINT⟩, v_MOST_PIECES := ⟨_, PySem.W.mg_of X G v_MOST_PIECES⟩ }
  exact ⟨_, fun s v => .of_eq rfl, fun base _ _ => ok_law tx⟩
theorem walk {l : PySem.W.OpenLaw} {q : Program} {loose : List Str} {XP : (Str → Option Value) → Heap → Prop} {YP : World → Heap → Prop} {d : DefRec} {K : Params → PySem.W.Frag} (hn : l.most = some 63) (hdf : d.params.defaults = [])
    (hY : ∀ (w : World) (h : Heap), YP w h → (K w.params).In h)
    (F : ∀ (w : World) (mg : Str → Option Value) (fa : Addr) (h : Heap), (K w.params).In h → h.Ns mainGlobals mg → mg d.name = some (.ref fa) →
      ∃ fd : FuncData, (∀ (s : Shared) (u : Value), BindsTo s fd ⟨[u], []⟩ [("_law_script", u)]) ∧ ∀ base : Heap, (K w.params).In base → base.Ns mainGlobals mg → FnOk l.prog w (K w.params) mg base CX0 8 fa fd ["_law_script"] (sp_law (K w.params))) :
    PySem.W.WalkO q loose XP YP l.row.toRowW d [] (fun f vs => PySem.call f vs) :=
  L2.walk_of (n := 63) (k := 8) (x := "_law_script") (CX := fun _ => CX0) (sp := fun w => sp_law (K w.params)) hn (by decide) hdf ⟨rfl, by decide, by decide⟩ hY F (fun _ _ a ns hl _ hS => ⟨a, ns, rfl, hS, hl, fun _ => rfl⟩) fun _ _ _ _ _ z => z
end My
open PySem PySem.W PyProof.Rows
set_option maxRecDepth 100000 in
set_option maxHeartbeats 0 in
theorem PySem.Challenge.cw_stintwise_k24_runs_counted_and_told_holds : PySem.Challenge.rw_stintwise_k24_runs_counted_and_told.Holds := by
  w_on; o_law; k_head; (case hw => w_witness2)
  k_fill
  refine My.walk (l := PySem.Challenge.rw_stintwise_k24_runs_counted_and_told) rfl rfl (fun w h Y => PySem.W.kIn_of Y) ?F
  case F =>
    intro w mg fa h KX G hmg
    refine' My.all_mk KX G hmg ?aC0 ?aE0 ?a0 ?l0 ?c0 ?k0 ?a1 ?l1 ?c1 ?k1 ?a2 ?l2 ?c2 ?k2 ?a3 ?l3 ?c3 ?k3 ?a4 ?l4 ?c4 ?k4 ?a5 ?l5 ?c5 ?k5 ?a6 ?l6 ?c6 ?k6 ?a7 ?i7 ?l7 ?c7 ?k7 ?a8 ?l8 ?c8 ?k8 ?a9 ?l9 ?c9 ?k9 ?a10 ?l10 ?c10 ?k10 ?a11 ?l11 ?c11 ?k11 ?a12 ?l12 ?c12 ?k12 ?a13 ?l13 ?c13 ?k13 ?a14 ?l14 ?c14 ?k14 ?a15 ?l15 ?c15 ?k15 ?a16 ?l16 ?c16 ?k16 ?a17 ?i17 ?l17 ?c17 ?k17 ?a18 ?l18 ?c18 ?k18 ?a19 ?l19 ?c19 ?k19 ?a20 ?l20 ?c20 ?k20 ?a21 ?l21 ?c21 ?k21 ?a22 ?l22 ?c22 ?k22 ?a23 ?l23 ?c23 ?k23 ?a24 ?l24 ?c24 ?k24 ?pg0 ?hd0 ?po0 ?sa0 ?mk0 ?kc0 ?n0_up ?n0_down ?n0_begin ?n0_run ?n0_rest ?n0_least ?n0_pieces ?Ega0 ?Egx0 ?Eex0 ?Esa0 ?Eca0 ?Ecg0 ?Ect0 ?Emo0 ?Ehd0 ?Ekp0 ?Emm0 ?Emd0 ?Eat0_limit ?z_abs ?z_all ?z_bool ?z_enumerate ?z_int ?z_isinstance ?z_len ?z_list ?z_max ?z_min ?z_range ?z_sorted ?z_str ?z_sum ?z_tuple ?v_LONGEST_STINT ?v_MOST_PIECES
    (case aC0 => k_is); (case aE0 => k_is); (case a0 => k_is); (case l0 => k_is); (case c0 => k_is); (case k0 => k_is); (case a1 => k_is); (case l1 => k_is)
    (case c1 => k_is); (case k1 => k_is); (case a2 => k_is); (case l2 => k_is); (case c2 => k_is); (case k2 => k_is); (case a3 => k_is); (case l3 => k_is)
    (case c3 => k_is); (case k3 => k_is); (case a4 => k_is); (case l4 => k_is); (case c4 => k_is); (case k4 => k_is); (case a5 => k_is); (case l5 => k_is)
    (case c5 => k_is); (case k5 => k_is); (case a6 => k_is); (case l6 => k_is); (case c6 => k_is); (case k6 => k_is); (case a7 => k_is); (case i7 => k_is)
    (case l7 => k_is); (case c7 => k_is); (case k7 => k_is); (case a8 => k_is); (case l8 => k_is); (case c8 => k_is); (case k8 => k_is); (case a9 => k_is)
    (case l9 => k_is); (case c9 => k_is); (case k9 => k_is); (case a10 => k_is); (case l10 => k_is); (case c10 => k_is); (case k10 => k_is); (case a11 => k_is)
    (case l11 => k_is); (case c11 => k_is); (case k11 => k_is); (case a12 => k_is); (case l12 => k_is); (case c12 => k_is); (case k12 => k_is); (case a13 => k_is)
    (case l13 => k_is); (case c13 => k_is); (case k13 => k_is); (case a14 => k_is); (case l14 => k_is); (case c14 => k_is); (case k14 => k_is); (case a15 => k_is)
    (case l15 => k_is); (case c15 => k_is); (case k15 => k_is); (case a16 => k_is); (case l16 => k_is); (case c16 => k_is); (case k16 => k_is); (case a17 => k_is)
    (case i17 => k_is); (case l17 => k_is); (case c17 => k_is); (case k17 => k_is); (case a18 => k_is); (case l18 => k_is); (case c18 => k_is); (case k18 => k_is)
    (case a19 => k_is); (case l19 => k_is); (case c19 => k_is); (case k19 => k_is); (case a20 => k_is); (case l20 => k_is); (case c20 => k_is); (case k20 => k_is)
    (case a21 => k_is); (case l21 => k_is); (case c21 => k_is); (case k21 => k_is); (case a22 => k_is); (case l22 => k_is); (case c22 => k_is); (case k22 => k_is)
    (case a23 => k_is); (case l23 => k_is); (case c23 => k_is); (case k23 => k_is); (case a24 => k_is); (case l24 => k_is); (case c24 => k_is); (case k24 => k_is)
    (case pg0 => k_is); (case hd0 => k_is); (case po0 => k_is); (case sa0 => k_is); (case mk0 => k_is); (case kc0 => k_is); (case n0_up => k_is); (case n0_down => k_is)
    (case n0_begin => k_is); (case n0_run => k_is); (case n0_rest => k_is); (case n0_least => k_is); (case n0_pieces => k_is); (case Ega0 => k_is); (case Egx0 => k_is); (case Eex0 => k_is)
    (case Esa0 => k_is); (case Eca0 => k_is); (case Ecg0 => k_is); (case Ect0 => k_is); (case Emo0 => k_is); (case Ehd0 => k_is); (case Ekp0 => k_is); (case Emm0 => kernel_rfl)
    (case Emd0 => kernel_rfl); (case Eat0_limit => k_is); (case z_abs => k_is); (case z_all => k_is); (case z_bool => k_is); (case z_enumerate => k_is); (case z_int => k_is); (case z_isinstance => k_is)
    (case z_len => k_is); (case z_list => k_is); (case z_max => k_is); (case z_min => k_is); (case z_range => k_is); (case z_sorted => k_is); (case z_str => k_is); (case z_sum => k_is)
    (case z_tuple => k_is); (case v_LONGEST_STINT => k_is); (case v_MOST_PIECES => k_is)
