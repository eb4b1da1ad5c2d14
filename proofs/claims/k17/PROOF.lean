import PyProof.Rows.All
import Wide.All
import OpenK.AllK
import Wide.FinOn
import Lean
import PyProof.EqAt
import PyProof.EqKinds
import PyProof.NeKinds
import PyProof.TupleCall
import KE.KDictSum
import KE.KSortTup
import PyProof.SetRoads
import PyProof.Rows.SetFrom
import PyProof.DictItems
import PyProof.DictValues
import PyProof.Rows.TupDisplay
import PySem.Challenge.RW_stintwise_k17_states_reached
set_option Elab.async false
set_option linter.all false
set_option maxRecDepth 100000
def PySem.W.Fast.tw15265468987253764128 : Unit := ()
def PySem.W.Fast.tw16394393351780333389 : Unit := ()
def PySem.W.Fast.tw5865341046545668972 : Unit := ()
def PySem.W.Fast.tw15478319238008166920 : Unit := ()
def PySem.W.Fast.tw8519601755566288779 : Unit := ()
def PySem.W.Fast.tw16464572574748892216 : Unit := ()
def PySem.W.Fast.tw2354828093132221586 : Unit := ()
def PySem.W.Fast.tw7961026519569766002 : Unit := ()
def PySem.W.Fast.tw9890849555738802366 : Unit := ()
def PySem.W.Fast.tw7514425717046084143 : Unit := ()
def PySem.W.Fast.tw17188550619562528168 : Unit := ()
def PySem.W.Fast.tw17761022957323386194 : Unit := ()
def PySem.W.Fast.tw10733786343293884597 : Unit := ()
namespace L2
open PySem PySem.Spec PyProof.Rows
abbrev Key := Sum Int Str
def keyIs : Key → Value → Bool
  | .inl k, v => Value.isInt k v
  | .inr x, v => Value.isStrOf x v
def keyH (w : World) : Key → Int
  | .inl k => hashInt k
  | .inr x => hashStr w x
theorem keyIs_shape : ∀ {k : Key} {v : Value}, keyIs k v = true → (∃ i t, k = Sum.inl i ∧ v = Value.int i t) ∨ (∃ x t, k = Sum.inr x ∧ v = Value.str x t)
  | .inl i, v, h => by
    obtain ⟨t, e⟩ := Value.isInt_shape (k := i) (v := v) h
    exact .inl ⟨i, t, rfl, e⟩
  | .inr x, v, h => by
    obtain ⟨t, e⟩ := Value.isStrOf_shape (x := x) (v := v) h
    exact .inr ⟨x, t, rfl, e⟩
theorem keyIs_int (i : Int) (t : Tok) : keyIs (.inl i) (.int i t) = true := by simp [keyIs, Value.isInt]
theorem keyIs_str (x : Str) (t : Tok) : keyIs (.inr x) (.str x t) = true := by simp [keyIs, Value.isStrOf]
theorem key_ll (a b : Int) : decide ((Sum.inl a : Key) = Sum.inl b) = (a == b) := by
  by_cases e : a = b
  · subst e; simp
  · have h : ¬ (Sum.inl a : Key) = Sum.inl b := fun q => e (Sum.inl.inj q)
    rw [decide_eq_false h]
    exact (beq_eq_false_iff_ne.mpr e).symm
theorem key_rr (a b : Str) : decide ((Sum.inr a : Key) = Sum.inr b) = decide (a = b) := by
  by_cases e : a = b
  · subst e; simp
  · have h : ¬ (Sum.inr a : Key) = Sum.inr b := fun q => e (Sum.inr.inj q)
    rw [decide_eq_false h, decide_eq_false e]
theorem key_lr (a : Int) (b : Str) : decide ((Sum.inl a : Key) = Sum.inr b) = false := decide_eq_false (fun q => nomatch q)
theorem key_rl (a : Str) (b : Int) : decide ((Sum.inr a : Key) = Sum.inl b) = false := decide_eq_false (fun q => nomatch q)
def mixKind (prog : Program) (w : World) : PySem.KeyKind prog w Key where
  is := keyIs
  hash := keyH w
  inj := fun v a b ha hb => by
    rcases keyIs_shape ha with ⟨i, t, rfl, rfl⟩ | ⟨x, t, rfl, rfl⟩
    · rcases keyIs_shape hb with ⟨j, u, rfl, e⟩ | ⟨y, u, rfl, e⟩
      · injection e with e1 _; rw [e1]
      · exact nomatch e
    · rcases keyIs_shape hb with ⟨j, u, rfl, e⟩ | ⟨y, u, rfl, e⟩
      · exact nomatch e
      · injection e with e1 _; rw [e1]
  byValue := fun k v h => by
    rcases keyIs_shape h with ⟨i, t, rfl, rfl⟩ | ⟨x, t, rfl, rfl⟩ <;> rfl
  pyHash := fun hv h => by
    rcases keyIs_shape hv with ⟨i, t, rfl, rfl⟩ | ⟨x, t, rfl, rfl⟩
    · exact wpAny_pyHash_int h
    · exact wpAny_pyHash_str h
  eqBool := fun hu hv h => by
    rcases keyIs_shape hu with ⟨i, t, rfl, rfl⟩ | ⟨x, t, rfl, rfl⟩
    · rcases keyIs_shape hv with ⟨j, u, rfl, rfl⟩ | ⟨y, u, rfl, rfl⟩
      · rw [key_ll] at h; exact wpAny_eqBool_int h
      · rw [key_lr] at h; exact SeqAt.EqAt.int_str i t y u _ _ _ _ h
    · rcases keyIs_shape hv with ⟨j, u, rfl, rfl⟩ | ⟨y, u, rfl, rfl⟩
      · rw [key_rl] at h; exact SeqAt.EqAt.str_int x t j u _ _ _ _ h
      · rw [key_rr] at h; exact wpAny_eqBool_str h
  «strs» := fun k x t v h => by
    rcases keyIs_shape h with ⟨i, u, rfl, e⟩ | ⟨y, u, rfl, e⟩
    · exact nomatch e
    · injection e with e1 _
      subst e1
      cases v <;> rfl
theorem mixKind_int (prog : Program) (w : World) (i : Int) (t : Tok) : (mixKind prog w).is (.inl i) (.int i t) = true := keyIs_int i t
theorem mixKind_str (prog : Program) (w : World) (x : Str) (t : Tok) : (mixKind prog w).is (.inr x) (.str x t) = true := keyIs_str x t
end L2
namespace L2
open PySem PySem.Spec PyProof.Rows
inductive V where
  | non | bl (b : Bool) | int (i : Int) | str (x : Str) | byt (b : Array UInt8) | flt (b : UInt64) | ref (a : Addr) | ty (n : String)
  deriving DecidableEq
def RelV : V → Value → Prop
  | .non, u => u = Value.none
  | .bl b, u => u = Value.bool b
  | .int i, u => ∃ t, u = Value.int i t
  | .str x, u => ∃ t, u = Value.str x t
  | .byt b, u => ∃ t, u = Value.bytes b t
  | .flt b, u => ∃ t, u = Value.float b t
  | .ref a, u => u = Value.ref a
  | .ty n, u => u = Value.type n
abbrev Vals : List V → List Value → Prop := Paired RelV
theorem Vals.length {xs : List V} {us : List Value} (r : Vals xs us) : xs.length = us.length := Paired.length r
theorem Vals.get : ∀ {xs : List V} {us : List Value} {i : Nat} {x : V}, Vals xs us → xs[i]? = some x → ∃ u, us[i]? = some u ∧ RelV x u
  | _, _, _, _, .nil, e => by simp at e
  | _, _, 0, _, .cons r _, e => by simp at e; subst e; exact ⟨_, rfl, r⟩
  | _, _, i + 1, x, .cons _ t, e => by
    obtain ⟨u, h1, h2⟩ := Vals.get (i := i) (x := x) t (by simpa using e)
    exact ⟨u, by simpa using h1, h2⟩
theorem Vals.set {x : V} {u : Value} (r : RelV x u) : ∀ {xs : List V} {us : List Value} (i : Nat), Vals xs us → Vals (xs.set i x) (us.set i u)
  | _, _, _, .nil => .nil
  | _, _, 0, .cons _ t => .cons r t
  | _, _, i + 1, .cons q t => .cons q (Vals.set r i t)
theorem Vals.append : ∀ {xs ys : List V} {us ws : List Value}, Vals xs us → Vals ys ws → Vals (xs ++ ys) (us ++ ws)
  | _, _, _, _, .nil, s => s
  | _, _, _, _, .cons r t, s => .cons r (Vals.append t s)
theorem Vals.take : ∀ {xs : List V} {us : List Value} (n : Nat), Vals xs us → Vals (xs.take n) (us.take n)
  | _, _, 0, _ => .nil
  | _, _, _ + 1, .nil => .nil
  | _, _, n + 1, .cons r t => .cons r (Vals.take n t)
theorem Vals.drop : ∀ {xs : List V} {us : List Value} (n : Nat), Vals xs us → Vals (xs.drop n) (us.drop n)
  | _, _, 0, r => r
  | _, _, _ + 1, .nil => .nil
  | _, _, n + 1, .cons _ t => Vals.drop n t
def RelO : Option V → Option Value → Prop
  | some v, some u => RelV v u
  | none, none => True
  | _, _ => False
def KV {κ : Type} : List (κ × V) → List (κ × Value) → Prop := Paired fun (p : κ × V) (q : κ × Value) => p.1 = q.1 ∧ RelV p.2 q.2
def kV : Key → V
  | .inl i => .int i
  | .inr x => .str x
inductive HO where
  /-- a list -/
  | lst (xs : List V)
  /-- a tuple (never changes) -/
  | tup (xs : List V)
  /-- a dict whose keys are ints and texts; one whose keys are tuples of ints and texts (the empty one is both) -/
  | dK (kvs : List (Key × V)) | dT (kvs : List (List Key × V))
  /-- a set of ints: its members, its size -/
  | set (S : Int → Bool) (n : Nat)
  /-- an instance of the class at C, its dict at dx, its attributes -/
  | ins (C dx : Addr) (fs : List (Str × V))
  /-- the dict of the instance at x -/
  | own (x : Addr)
  /-- the dict of an exception -/
  | xd (fs : List (Str × V))
  /-- a bound method, f of x -/
  | met (f x : Addr)
  /-- a range object lo, lo + 1, .. below hi -/
  | rng (lo hi : Int)
  /-- a thing that is known to the object (the script; a dict while a loop walks it): read, never written while it is so -/
  | frz (o : Obj) (u : HO)
  /-- a code object's table -/
  | tbl (ps : Array Value)
  /-- any other thing, by what is true of its one object (a def of one's own: SetO a S n := HO.ext fun h => ..) -/
  | ext (φ : Heap → Prop)
  /-- a code object of that name; a def's table of code objects: at pos none yet, or one of that name -/
  | cod (q : Str) | ctb (pos : Pos) (q : Str)
def Sty : HO → Prop
  | .tup _ => True
  | .cod _ => True
  | _ => False
abbrev Hp := Addr → Option HO
def upd (H : Hp) (a : Addr) (o : HO) : Hp := fun b => if b = a then some o else H b
theorem upd_same {H : Hp} {a : Addr} {o : HO} : upd H a o a = some o := by unfold upd; rw [if_pos rfl]
theorem upd_ne {H : Hp} {a b : Addr} {o : HO} (h : b ≠ a) : upd H a o b = H b := by unfold upd; rw [if_neg h]
theorem upd_upd {H : Hp} {a : Addr} {o u : HO} : upd (upd H a o) a u = upd H a u := by
  funext b; unfold upd; split <;> rfl
theorem ne_of {H : Hp} {a b : Addr} {o u : HO} (h : H a = some o) (h' : H b = some u) (d : o ≠ u) : a ≠ b := by
  intro e; subst e; rw [h] at h'; exact d (Option.some.inj h')
theorem ne_of_none {H : Hp} {a b : Addr} {o : HO} (h : H a = some o) (h' : H b = none) : a ≠ b := by
  intro e; subst e; rw [h] at h'; cases h'
section
variable (P : Program) (w : World)
def ObjOk (H : Hp) (h : Heap) (a : Addr) : HO → Prop
  | .lst xs => xs.length ≤ sizeLine ∧ ∃ (its : List Value) (n : Nat), Vals xs its ∧ h.get? a = some { cls := .type "list", data := .seq its.toArray n }
  | .tup xs => xs.length ≤ sizeLine ∧ ∃ its : List Value, Vals xs its ∧ IsTup h a its.toArray
  | .dK kvs => kvs.length ≤ sizeLine ∧ (a == sysModules) = false ∧ ∃ vs, KV kvs vs ∧ h.DictOf (mixKind P w) a vs
  | .dT kvs => kvs.length ≤ sizeLine ∧ (a == sysModules) = false ∧ ∃ xs : List (List Key × Addr × Value),
      Paired (fun (p : List Key × V) (q : List Key × Addr × Value) => p.1 = q.1 ∧ H q.2.1 = some (.tup (p.1.map kV)) ∧ RelV p.2 q.2.2) kvs xs ∧
      ∃ o es ep, h.get? a = some o ∧ o.ExactDict ∧ o.data = .dict es ep ∧ es.toList = xs.map (entryOfKey (tupleKind (mixKind P w))) ∧ (xs.map (·.1)).Nodup
  | .set S n => h.SetOf (intKind P w) a S n
  | .ins C dx fs => H dx = some (.own a) ∧ fs.length ≤ 1000 ∧ dx ≠ a ∧ h.get? a = some (PySem.W.instObj C dx) ∧
      ∃ mA, h.Ns1 dx mA ∧ (∀ f, RelO (fs.lookup f) (mA f)) ∧ PySem.Within mA (fs.map (·.1))
  | .own _ => ∃ o, h.get? a = some o
  | .xd fs => ∃ mA, h.Ns1 a mA ∧ ∀ f, RelO (fs.lookup f) (mA f)
  | .rng lo hi => ∃ t u v, h.get? a = some { cls := .type "range", data := .fields #[.int lo t, .int hi u, .int 1 v] }
  | .frz o u => h.get? a = some o ∧ ObjOk H h a u
  | .tbl ps => h.get? a = some { cls := .none, data := .fields ps }
  | .met f x => h.get? a = some (PySem.W.methodObj (.ref f) (.ref x))
  | .ext φ => φ h ∧ (∃ o, h.get? a = some o) ∧ ∀ h1 h2 : Heap, φ h1 → (∀ o, h1.get? a = some o → h2.get? a = some o) → φ h2
  | .cod q => ∃ o vs t, h.get? a = some o ∧ o.data = .fields vs ∧ vs[1]? = some (.str q t)
  | .ctb pos q => ∃ ps : Array Value, h.get? a = some { cls := .none, data := .fields ps } ∧ TriplesOk ps.toList ∧ (codeAmong pos ps.toList = none ∨ ∃ c, codeAmong pos ps.toList = some (.ref c) ∧ H c = some (.cod q))
def HOk (H : Hp) (h : Heap) : Prop := ∀ a o, H a = some o → ObjOk P w H h a o
end
section
variable {P : Program} {w : World} {H H' : Hp} {h h' : Heap} {a : Addr} {o : HO}
theorem ObjOk.lt (x : ObjOk P w H h a o) : a < h.objs.size := by
  cases o with
  | lst xs => obtain ⟨_, _, _, _, e⟩ := x; exact Heap.lt_size e
  | tup xs => obtain ⟨_, _, _, p⟩ := x; exact p.lt
  | dK kvs => obtain ⟨_, _, _, _, o, _, _, e, _⟩ := x; exact Heap.lt_size e
  | dT kvs => obtain ⟨_, _, _, _, o, _, _, e, _⟩ := x; exact Heap.lt_size e
  | set S n => obtain ⟨o, _, _, _, e, _⟩ := x; exact Heap.lt_size e
  | ins C dx fs => obtain ⟨_, _, _, e, _⟩ := x; exact Heap.lt_size e
  | own y => obtain ⟨_, e⟩ := x; exact Heap.lt_size e
  | xd fs => obtain ⟨_, ⟨_, _, _, e, _⟩, _⟩ := x; exact Heap.lt_size e
  | rng lo hi => obtain ⟨_, _, _, e⟩ := x; exact Heap.lt_size e
  | frz ob u => obtain ⟨e, _⟩ := x; exact Heap.lt_size e
  | tbl ps => exact Heap.lt_size (show h.get? a = some _ from x)
  | met f y => exact Heap.lt_size (show h.get? a = some _ from x)
  | ext φ => obtain ⟨_, ⟨_, e⟩, _⟩ := x; exact Heap.lt_size e
  | cod q => obtain ⟨_, _, _, e, _⟩ := x; exact Heap.lt_size e
  | ctb pos q => obtain ⟨_, e, _⟩ := x; exact Heap.lt_size e
theorem Paired.mapP {α β : Type} {F G : α → β → Prop} : ∀ {l₁ : List α} {l₂ : List β}, Paired F l₁ l₂ → (∀ a b, F a b → G a b) → Paired G l₁ l₂
  | _, _, .nil, _ => .nil
  | _, _, .cons r t, f => .cons (f _ _ r) (Paired.mapP t f)
theorem ObjOk.stay (x : ObjOk P w H h a o) (k : ∀ b u, (b = a ∨ H b = some (.own a)) → h.get? b = some u → h'.get? b = some u)
    (ho : ∀ b, H b = some (.own a) → H' b = some (.own a)) (ht : ∀ b u, Sty u → H b = some u → H' b = some u) : ObjOk P w H' h' a o := by
  induction o with
  | lst xs => obtain ⟨z, its, n, r, e⟩ := x; exact ⟨z, its, n, r, k _ _ (.inl rfl) e⟩
  | tup xs => obtain ⟨z, its, r, ob, e, c⟩ := x; exact ⟨z, its, r, ob, k _ _ (.inl rfl) e, c⟩
  | dK kvs => obtain ⟨z, y, vs, r, ob, es, ep, e, c⟩ := x; exact ⟨z, y, vs, r, ob, es, ep, k _ _ (.inl rfl) e, c⟩
  | dT kvs =>
    obtain ⟨z, y, xs, r, ob, es, ep, e, c⟩ := x
    exact ⟨z, y, xs, Paired.mapP r fun p q z => ⟨z.1, ht _ _ trivial z.2.1, z.2.2⟩, ob, es, ep, k _ _ (.inl rfl) e, c⟩
  | set S n => obtain ⟨ob, es, ep, t, e, c⟩ := x; exact ⟨ob, es, ep, t, k _ _ (.inl rfl) e, c⟩
  | ins C dx fs =>
    obtain ⟨d, z, ne, e, mA, ⟨od, es, ep, e2, c⟩, r⟩ := x
    exact ⟨ho _ d, z, ne, k _ _ (.inl rfl) e, mA, ⟨od, es, ep, k _ _ (.inr d) e2, c⟩, r⟩
  | own y => obtain ⟨ob, e⟩ := x; exact ⟨ob, k _ _ (.inl rfl) e⟩
  | xd fs => obtain ⟨mA, ⟨od, es, ep, e, c⟩, r⟩ := x; exact ⟨mA, ⟨od, es, ep, k _ _ (.inl rfl) e, c⟩, r⟩
  | rng lo hi => obtain ⟨t, u, v, e⟩ := x; exact ⟨t, u, v, k _ _ (.inl rfl) e⟩
  | frz ob u ih => obtain ⟨e, q⟩ := x; exact ⟨k _ _ (.inl rfl) e, ih q⟩
  | tbl ps =>
    have e : h.get? a = some { cls := .none, data := .fields ps } := x
    show h'.get? a = some { cls := .none, data := .fields ps }
    exact k a _ (.inl rfl) e
  | met f y =>
    have e : h.get? a = some (PySem.W.methodObj (.ref f) (.ref y)) := x
    show h'.get? a = some (PySem.W.methodObj (.ref f) (.ref y))
    exact k a _ (.inl rfl) e
  | ext φ => obtain ⟨p, ⟨o, e⟩, st⟩ := x; exact ⟨st _ _ p fun o q => k _ _ (.inl rfl) q, ⟨o, k _ _ (.inl rfl) e⟩, st⟩
  | cod q => obtain ⟨o, vs, t, e, r⟩ := x; exact ⟨o, vs, t, k _ _ (.inl rfl) e, r⟩
  | ctb pos q =>
    obtain ⟨ps, e, t, c⟩ := x
    refine ⟨ps, k _ _ (.inl rfl) e, t, ?_⟩
    rcases c with c | ⟨c, e1, e2⟩
    · exact .inl c
    · exact .inr ⟨c, e1, ht _ _ trivial e2⟩
theorem HOk.lt (x : HOk P w H h) (e : H a = some o) : a < h.objs.size := (x a o e).lt
theorem HOk.fresh (x : HOk P w H h) (e : h.objs.size ≤ a) : H a = none := by
  cases q : H a with
  | none => rfl
  | some u => exact absurd (Nat.lt_of_lt_of_le (x.lt q) e) (Nat.lt_irrefl _)
theorem HOk.kept (x : HOk P w H h) (k : ∀ b u, h.get? b = some u → h'.get? b = some u) : HOk P w H h' := fun a o e =>
  (x a o e).stay (fun b u _ q => k b u q) (fun _ q => q) fun _ _ _ q => q
theorem HOk.laid (x : HOk P w H h) (k : ∀ b u, h.get? b = some u → h'.get? b = some u) (hp : h.objs.size ≤ a) (new : ObjOk P w (upd H a o) h' a o) : HOk P w (upd H a o) h' := fun b u e => by
  have hn := x.fresh hp
  by_cases hb : b = a
  · subst hb; rw [upd_same] at e; cases e; exact new
  · rw [upd_ne hb] at e
    exact (x b u e).stay (fun c v _ q => k c v q) (fun c q => by rw [upd_ne (ne_of_none q hn)]; exact q) fun c xs _ q => by rw [upd_ne (ne_of_none q hn)]; exact q
end
def Rd (H : Hp) (a : Addr) (u : HO) : Prop := H a = some u ∨ ∃ o, H a = some (.frz o u)
theorem Rd.of {H : Hp} {a : Addr} {u : HO} (h : H a = some u) : Rd H a u := .inl h
theorem Rd.ok {P : Program} {w : World} {H : Hp} {h : Heap} {a : Addr} {u : HO} (r : Rd H a u) (x : HOk P w H h) : ObjOk P w H h a u := by
  rcases r with r | ⟨o, r⟩
  · exact x a u r
  · obtain ⟨_, q⟩ := x a _ r
    exact q
def Mut : Option HO → Prop
  | some (.lst _) => True
  | some (.dK _) => True
  | some (.dT _) => True
  | some (.set _ _) => True
  | some (.ins _ _ _) => True
  | some (.ext _) => True
  | _ => False
section
variable {P : Program} {w : World} {H : Hp} {h h' : Heap} {x e : Addr} {o' : HO}
theorem HOk.write (ok : HOk P w H h) (mu : Mut (H x)) (he : e = x ∨ H e = some (.own x)) (k : ∀ b u, b ≠ e → h.get? b = some u → h'.get? b = some u) (heo : ∃ u, h'.get? e = some u)
    (new : ObjOk P w (upd H x o') h' x o') : HOk P w (upd H x o') h' := fun b u q => by
  have nown : ∀ c y, H c = some (.own y) → c ≠ x := fun c y r z => by subst z; rw [r] at mu; exact mu
  have ntup : ∀ c u, Sty u → H c = some u → c ≠ x := fun c u y r z => by
    subst z
    rw [r] at mu
    cases u <;> first | exact mu | exact y
  by_cases hb : b = x
  · subst hb; rw [upd_same] at q; cases q; exact new
  · rw [upd_ne hb] at q
    by_cases hbe : b = e
    · have q' : H b = some (.own x) := by
        rcases he with z | z
        · exact absurd (hbe.trans z) hb
        · rw [hbe]; exact z
      rw [q] at q'; cases q'
      obtain ⟨v, hv⟩ := heo
      exact ⟨v, by rw [hbe]; exact hv⟩
    · refine (ok b u q).stay (fun c v hc r => k c v ?_ r) (fun c r => by rw [upd_ne (nown c b r)]; exact r) fun c xs y r => by rw [upd_ne (ntup c xs y r)]; exact r
      rcases hc with rfl | hc
      · exact hbe
      · rintro rfl
        rcases he with z | z
        · exact nown c b hc z
        · rw [hc] at z; cases z; exact hb rfl
end
structure Un (fs ex : List Addr) (H H' : Hp) (h h' : Heap) : Prop where
  keep : ∀ b o, h.get? b = some o → H b = none → b ∉ fs → b ∉ ex → h'.get? b = some o
  slot : ∀ b o, h.get? b = some o → H b = none → b ∈ fs → b ∉ ex → ∃ sl, h'.get? b = some { o with slots := sl }
  free : ∀ b o, h.get? b = some o → H b = none → b ∉ ex → H' b = none
  there : ∀ b o, h.get? b = some o → b ∉ ex → ∃ o', h'.get? b = some o'
  tups : ∀ b xs, H b = some (.tup xs) → H' b = some (.tup xs)
  frzs : ∀ b o u, H b = some (.frz o u) → H' b = some (.frz o u)
  tbls : ∀ b ps, H b = some (.tbl ps) → ∃ more, H' b = some (.tbl (ps ++ more))
section
variable {fs fs' ex ex' : List Addr} {H H1 H2 : Hp} {h h1 h2 h' : Heap} {a x e : Addr} {o : HO}
theorem Un.any (u : Un fs ex H H1 h h1) {b : Addr} {ob : Obj} (q : h.get? b = some ob) (n : H b = none) (hx : b ∉ ex) : ∃ sl, h1.get? b = some { ob with slots := sl } := by
  by_cases hb : b ∈ fs
  · exact u.slot b ob q n hb hx
  · exact ⟨ob.slots, u.keep b ob q n hb hx⟩
theorem Un.trans (a : Un fs ex H H1 h h1) (b : Un fs ex H1 H2 h1 h2) : Un fs ex H H2 h h2 where
  keep := fun c ob q n hc hx => b.keep c ob (a.keep c ob q n hc hx) (a.free c ob q n hx) hc hx
  slot := fun c ob q n hc hx => by
    obtain ⟨sl, e1⟩ := a.slot c ob q n hc hx
    obtain ⟨sl', e2⟩ := b.slot c _ e1 (a.free c ob q n hx) hc hx
    exact ⟨sl', e2⟩
  free := fun c ob q n hx => by
    obtain ⟨o', e1⟩ := a.there c ob q hx
    exact b.free c o' e1 (a.free c ob q n hx) hx
  there := fun c ob q hx => by
    obtain ⟨o', e1⟩ := a.there c ob q hx
    exact b.there c o' e1 hx
  tups := fun c xs q => b.tups c xs (a.tups c xs q)
  frzs := fun c ob xs q => b.frzs c ob xs (a.frzs c ob xs q)
  tbls := fun c ps q => by
    obtain ⟨m1, e1⟩ := a.tbls c ps q
    obtain ⟨m2, e2⟩ := b.tbls c _ e1
    exact ⟨m1 ++ m2, by rw [e2, Array.append_assoc]⟩
theorem Un.kept (k : ∀ b u, h.get? b = some u → h'.get? b = some u) : Un fs ex H H h h' :=
  ⟨fun b ob q _ _ _ => k b ob q, fun b ob q _ _ _ => ⟨ob.slots, k b ob q⟩, fun _ _ _ n _ => n, fun b ob q _ => ⟨ob, k b ob q⟩, fun _ _ q => q, fun _ _ _ q => q, fun _ ps q => ⟨#[], by rw [q]; simp⟩⟩
theorem Un.refl : Un fs ex H H h h := Un.kept fun _ _ q => q
theorem Un.laid (k : ∀ b u, h.get? b = some u → h'.get? b = some u) (hp : h.objs.size ≤ a) (hn : H a = none) : Un fs ex H (upd H a o) h h' where
  keep := fun b u q _ _ _ => k b u q
  slot := fun b u q _ _ _ => ⟨u.slots, k b u q⟩
  free := fun b u q n _ => by rw [upd_ne (Nat.ne_of_lt (Nat.lt_of_lt_of_le (Heap.lt_size q) hp))]; exact n
  there := fun b u q _ => ⟨u, k b u q⟩
  tups := fun b xs q => by rw [upd_ne (ne_of_none q hn)]; exact q
  frzs := fun b u xs q => by rw [upd_ne (ne_of_none q hn)]; exact q
  tbls := fun b ps q => ⟨#[], by rw [upd_ne (ne_of_none q hn), q]; simp⟩
theorem Un.write (mu : Mut (H x)) (he : e = x ∨ H e = some (.own x)) (k : ∀ b u, b ≠ e → h.get? b = some u → h'.get? b = some u) (heo : ∃ u, h'.get? e = some u) : Un fs ex H (upd H x o) h h' := by
  have hx : ∀ b, H b = none → b ≠ x := fun b n z => by subst z; rw [n] at mu; exact mu
  have hb : ∀ b, H b = none → b ≠ e := fun b n z => by
    subst z
    rcases he with r | r
    · exact hx b n r
    · rw [n] at r; cases r
  have hm : ∀ b u, H b = some u → ¬ Mut (some u) → b ≠ x := fun b u q nm z => by subst z; rw [q] at mu; exact nm mu
  refine ⟨fun b u q n _ _ => k b u (hb b n) q, fun b u q n _ _ => ⟨u.slots, k b u (hb b n) q⟩, fun b u q n _ => by rw [upd_ne (hx b n)]; exact n, fun b u q _ => ?_,
    fun b xs q => by rw [upd_ne (hm b _ q fun z => z)]; exact q, fun b u xs q => by rw [upd_ne (hm b _ q fun z => z)]; exact q, fun b ps q => ⟨#[], by rw [upd_ne (hm b _ q fun z => z), q]; simp⟩⟩
  by_cases hbe : b = e
  · subst hbe; exact heo
  · exact ⟨u, k b u hbe q⟩
theorem Un.mono (u : Un fs ex H H1 h h1) (hs : ∀ b ∈ fs, b ∈ fs') (hx : ∀ b ∈ ex, b ∈ ex') : Un fs' ex' H H1 h h1 :=
  ⟨fun b ob q n hb he => u.keep b ob q n (fun z => hb (hs b z)) fun z => he (hx b z), fun _ _ q n _ he => u.any q n fun z => he (hx _ z), fun b ob q n he => u.free b ob q n fun z => he (hx b z), fun b ob q he => u.there b ob q fun z => he (hx b z), u.tups, u.frzs, u.tbls⟩
end
def trk (h : Heap) (H : Hp) : List Addr := (List.range h.objs.size).filter fun a => (H a).isSome
def hidT (h : Heap) (H : Hp) : Heap := PySem.W.hideAll h (trk h H)
theorem hidT_size (h : Heap) (H : Hp) : (hidT h H).objs.size = h.objs.size := PySem.W.hideAll_size _ _
theorem hidT_get {h : Heap} {H : Hp} {b : Addr} {o : Obj} (e : h.get? b = some o) (n : H b = none) : (hidT h H).get? b = some o :=
  PySem.W.hideAll_get _ e fun hm => by
    have q : (H b).isSome = true := (List.mem_filter.mp hm).2
    rw [n] at q; simp at q
theorem of_hidT {h : Heap} {H : Hp} {b : Addr} {o : Obj} (e : (hidT h H).get? b = some o) : h.get? b = some o ∧ H b = none := by
  have e' : h.get? b = some o := PySem.W.of_hideAll (trk h H) e
  refine ⟨e', ?_⟩
  cases q : H b with
  | none => rfl
  | some x =>
    have hm : b ∈ trk h H := List.mem_filter.mpr ⟨List.mem_range.mpr (Heap.lt_size e'), by simp [q]⟩
    have z : (hidT h H).get? b = none := PySem.W.hideAll_none (trk h H) hm
    rw [z] at e; cases e
def allNews (g h : Heap) (L : Addr) : List (Addr × Obj) := (List.range h.objs.size).filterMap fun a => if a = L ∨ (g.get? a).isSome = true then none else (h.get? a).map fun o => (a, o)
def rest (g h : Heap) (L d : Addr) : List (Addr × Obj) := (allNews g h L).filter fun p => decide (p.1 ≠ d)
end L2
namespace L2
open PySem PySem.Spec PyProof.Rows
structure Mod (K : PySem.W.Frag) (mg : Str → Option Value) (base : Heap) : Prop where
  kin : K.In base
  glob : base.Ns mainGlobals mg
  blt : ∃ mb, base.Ns builtinsNs mb ∧ ∀ x : Str, x ≠ "__name__" → mb x = bootBuiltins x
  nolimit : base.NoLimit
  bm : ∃ bm o, mg "__builtins__" = some (.ref bm) ∧ bm ≠ builtinsNs ∧ base.get? bm = some o ∧ o.cls = .type "module" ∧ o.dict = some builtinsNs ∧ o.data = .plain
structure Cx where
  prog : Program
  w : World
  K : PySem.W.Frag
  mg : Str → Option Value
  base : Heap
  A : Around
  N : List Str
  s₀ : Shared
  H₀ : Hp
  env : Env
  outer : List Env
  stack : List Env
  ex : List Addr
  fn : Str → Bool
  calm : Bool
  pn : List (Addr × Obj)
  xe : Value → Shared → Prop
def frs (l : List Env) : List Addr := l.filterMap (·.frame)
abbrev Cx.fs (X : Cx) : List Addr := frs X.outer
def Vis (sc : Scope) (x : Str) : Prop := sc.names.lookup x = some .local ∨ sc.names.lookup x = some .cell ∨ sc.names.lookup x = some .free
def Loc (sc : Scope) (x : Str) : Prop := sc.names.lookup x = some .local ∨ sc.names.lookup x = some .cell
def Look (env : Env) (h : Heap) (m : Str → Option Value) (x : Str) (u : Value) : Prop :=
  (env.kindOf x = some .local ∧ m x = some u) ∨ ((env.kindOf x = some .cell ∨ env.kindOf x = some .free) ∧ ∃ c, env.cells.lookup x = some c ∧ h.IsCell c (some u))
structure Cx.Ok (X : Cx) : Prop where
  mod : Mod X.K X.mg X.base
  kind : X.env.scope.kind = .function
  glob : X.env.globals = mainGlobals
  blt : X.env.builtins = builtinsNs
  above : X.s₀.heap.objs.size ≤ X.env.locals
  inj : ∀ x y c, X.env.cells.lookup x = some c → X.env.cells.lookup y = some c → x = y
  has : ∀ x, (X.env.kindOf x = some .cell ∨ X.env.kindOf x = some .free) → ∃ c, X.env.cells.lookup x = some c
  cab : ∀ x c, X.fn x = true → X.env.cells.lookup x = some c → X.s₀.heap.objs.size ≤ c
  hd : X.calm = true → X.A.handled = none
  frames : X.A.frames = some X.stack
  stk : X.stack = X.outer ∨ (X.stack = X.env :: X.outer ∧ X.env.frame = some X.env.locals)
  exf : ∀ b ∈ X.ex, b ≠ X.env.locals ∧ ∀ x c, X.env.cells.lookup x = some c → c ≠ b
  bs : ∀ b o, X.base.get? b = some o → X.s₀.heap.get? b = some o ∧ X.H₀ b = none
  bsz : X.base.objs.size ≤ X.s₀.heap.objs.size
  noex : ∀ b o, X.base.get? b = some o → b ∉ X.ex
  exfs : ∀ b ∈ X.ex, b ∉ X.fs
  funs : X.s₀.heap.FunFrames X.base X.outer
  frf : ∀ b ∈ X.fs, X.H₀ b = none
structure Inv (X : Cx) (pins : List (Addr × Obj)) (σ : List (Option V)) (H : Hp) (s : Shared) : Prop where
  ok : X.Ok
  os : s.os = X.s₀.os
  bare : AllBare s.gens
  base : Un X.fs X.ex X.H₀ H X.s₀.heap s.heap
  loc : ∃ m, s.heap.Ns X.env.locals m ∧ ∀ (i : Nat) (x : Str) (v : V), X.N[i]? = some x → σ[i]? = some (some v) → Vis X.env.scope x → ∃ u, RelV v u ∧ Look X.env s.heap m x u
  cell : ∀ x c, X.env.cells.lookup x = some c → ∃ v, s.heap.IsCell c v
  free : H X.env.locals = none
  freeC : ∀ x c, X.env.cells.lookup x = some c → H c = none
  pin : ∀ p ∈ X.pn ++ pins, s.heap.get? p.1 = some p.2 ∧ H p.1 = none ∧ p.1 ≠ X.env.locals ∧ p.1 ∉ X.fs ∧ ∀ v, p.2.data ≠ .cell v
  hok : HOk X.prog X.w H s.heap
  len : σ.length = X.N.length
section
variable {X : Cx} {pins : List (Addr × Obj)} {σ : List (Option V)} {H H' : Hp} {s : Shared} {h' : Heap}
theorem Cx.Ok.nofr (ok : X.Ok) {b : Addr} {o : Obj} (e : X.base.get? b = some o) : b ∉ X.fs := fun hb => by
  have := (ok.funs.mem hb).1
  rw [e] at this; cases this
theorem Inv.bs (I : Inv X pins σ H s) : ∀ b o, X.base.get? b = some o → s.heap.get? b = some o ∧ H b = none := fun b o e =>
  ⟨I.base.keep b o (I.ok.bs b o e).1 (I.ok.bs b o e).2 (I.ok.nofr e) (I.ok.noex b o e), I.base.free b o (I.ok.bs b o e).1 (I.ok.bs b o e).2 (I.ok.noex b o e)⟩
theorem Inv.bk (I : Inv X pins σ H s) : ∀ b o, X.base.get? b = some o → s.heap.get? b = some o := fun b o e => (I.bs b o e).1
theorem Inv.mod (I : Inv X pins σ H s) : Mod X.K X.mg X.base := I.ok.mod
theorem Inv.kIn (I : Inv X pins σ H s) : X.K.In s.heap := I.ok.mod.kin.keeps I.bk
theorem Inv.nolimit (I : Inv X pins σ H s) : s.heap.NoLimit := I.ok.mod.nolimit.keeps I.bk
theorem Inv.lt (I : Inv X pins σ H s) : X.env.locals < s.heap.objs.size := let ⟨_, hn, _⟩ := I.loc; hn.lt
theorem Inv.sz (I : Inv X pins σ H s) : X.s₀.heap.objs.size ≤ s.heap.objs.size := Nat.le_trans I.ok.above (Nat.le_of_lt I.lt)
theorem Inv.nofs (I : Inv X pins σ H s) {a : Addr} (h : s.heap.objs.size ≤ a) : a ∉ X.fs := fun hb => by
  obtain ⟨_, o, ho, _⟩ := I.ok.funs.mem hb
  exact absurd (Nat.lt_of_lt_of_le (Heap.lt_size ho) (Nat.le_trans I.sz h)) (Nat.lt_irrefl _)
theorem Inv.cne (I : Inv X pins σ H s) : ∀ x c, X.env.cells.lookup x = some c → c ≠ X.env.locals := fun x c e z => by
  obtain ⟨v, o, ho, hd⟩ := I.cell x c e
  obtain ⟨m, ⟨o', es, ep, ho', hd', _⟩, _⟩ := I.loc
  rw [z, ho'] at ho; cases ho; rw [hd'] at hd; cases hd
theorem Inv.funs (I : Inv X pins σ H s) : s.heap.FunFrames X.base X.outer := by
  have all : ∀ (l : List Env), (∀ b ∈ frs l, b ∈ X.fs) → X.s₀.heap.FunFrames X.base l → s.heap.FunFrames X.base l := by
    intro l
    induction l with
    | nil => intro _ _; trivial
    | cons env r ih =>
      intro hs hl
      obtain ⟨hk, ⟨L, o, hf, hn, ho, hd⟩, hr⟩ := hl
      have hL : L ∈ X.fs := hs L (by unfold frs; rw [List.filterMap_cons, hf]; exact List.mem_cons_self)
      obtain ⟨sl, e⟩ := I.base.slot L o ho (I.ok.frf L hL) hL fun z => I.ok.exfs L z hL
      exact ⟨hk, ⟨L, _, hf, hn, e, hd⟩, ih (fun b hb => hs b (by unfold frs; rw [List.filterMap_cons, hf]; exact List.mem_cons_of_mem _ hb)) hr⟩
  exact all X.outer (fun _ hb => hb) I.ok.funs
theorem Inv.stack (I : Inv X pins σ H s) : s.heap.FunFrames X.base X.stack := by
  rcases I.ok.stk with e | ⟨e, hf⟩
  · rw [e]; exact I.funs
  · rw [e]
    obtain ⟨m, hn, _⟩ := I.loc
    refine .cons (by rw [I.ok.kind]; decide) hf hn ?_ I.funs
    exact Heap.get?_none_of_le (Nat.le_trans I.ok.bsz I.ok.above)
theorem Inv.stkSub (I : Inv X pins σ H s) : ∀ b ∈ frs X.stack, b ∈ X.env.locals :: X.fs := fun b hb => by
  rcases I.ok.stk with e | ⟨e, hf⟩
  · rw [e] at hb; exact List.mem_cons_of_mem _ hb
  · rw [e] at hb
    unfold frs at hb
    rw [List.filterMap_cons, hf] at hb
    exact hb
theorem Inv.stkFree (I : Inv X pins σ H s) : ∀ b ∈ frs X.stack, H b = none := fun b hb => by
  rcases List.mem_cons.mp (I.stkSub b hb) with e | hb
  · rw [e]; exact I.free
  · obtain ⟨_, o, ho, _⟩ := I.ok.funs.mem hb
    exact I.base.free b o ho (I.ok.frf b hb) fun z => I.ok.exfs b z hb
theorem Inv.step {g' : Array GenState} {t' : Nat} {d' : Drawn} {ch : List Addr} (I : Inv X pins σ H s)
    (hch : ∀ b ∈ ch, (b ∈ X.ex ∨ X.s₀.heap.objs.size ≤ b) ∧ b ≠ X.env.locals ∧ (∀ x c, X.env.cells.lookup x = some c → c ≠ b) ∧ ∀ p ∈ X.pn ++ pins, p.1 ≠ b)
    (keep : ∀ b o, b ≠ X.env.locals → b ∉ X.fs → b ∉ ch → s.heap.get? b = some o → H b = none → h'.get? b = some o)
    (slot : ∀ b o, b ≠ X.env.locals → b ∈ X.fs → b ∉ ch → s.heap.get? b = some o → H b = none → ∃ sl, h'.get? b = some { o with slots := sl }) (free : ∀ b o, b ∉ ch → s.heap.get? b = some o → H b = none → H' b = none)
    (there : ∀ b o, b ∉ ch → s.heap.get? b = some o → ∃ o', h'.get? b = some o')
    (tups : ∀ b xs, H b = some (.tup xs) → H' b = some (.tup xs)) (frzs : ∀ b o u, H b = some (.frz o u) → H' b = some (.frz o u)) (tbls : ∀ b ps, H b = some (.tbl ps) → ∃ more, H' b = some (.tbl (ps ++ more)))
    (ns : ∀ m, s.heap.Ns X.env.locals m → h'.Ns X.env.locals m) (hok : HOk X.prog X.w H' h') (hg : AllBare g') :
    Inv X pins σ H' { s with heap := h', gens := g', drawn := d', toks := t' } := by
  have neL : ∀ b o, X.s₀.heap.get? b = some o → b ≠ X.env.locals := fun b o e => Nat.ne_of_lt (Nat.lt_of_lt_of_le (Heap.lt_size e) I.ok.above)
  have neC : ∀ b o, X.s₀.heap.get? b = some o → b ∉ X.ex → b ∉ ch := fun b o e hx hb => by
    rcases (hch b hb).1 with z | z
    · exact hx z
    · exact absurd (Nat.lt_of_lt_of_le (Heap.lt_size e) z) (Nat.lt_irrefl _)
  have cellK : ∀ x c, X.env.cells.lookup x = some c → ∀ v, s.heap.IsCell c v → h'.IsCell c v := fun x c e v ⟨o, ho, hd⟩ => by
    have nch : c ∉ ch := fun z => (hch c z).2.2.1 x c e rfl
    by_cases hc : c ∈ X.fs
    · obtain ⟨sl, q⟩ := slot c o (I.cne x c e) hc nch ho (I.freeC x c e)
      exact ⟨_, q, hd⟩
    · exact ⟨o, keep c o (I.cne x c e) hc nch ho (I.freeC x c e), hd⟩
  refine ⟨I.ok, I.os, hg, ⟨fun b o e n hb hx => ?_, fun b o e n hb hx => ?_, fun b o e n hx => ?_, fun b o e hx => ?_, fun b xs e => tups b xs (I.base.tups b xs e), fun b o xs e => frzs b o xs (I.base.frzs b o xs e), fun b ps e => ?_⟩, ?_, fun x c e => ?_, ?_, fun x c e => ?_, fun p hp => ?_, hok, I.len⟩
  · exact keep b o (neL b o e) hb (neC b o e hx) (I.base.keep b o e n hb hx) (I.base.free b o e n hx)
  · obtain ⟨sl, e1⟩ := I.base.slot b o e n hb hx
    obtain ⟨sl', e2⟩ := slot b _ (neL b o e) hb (neC b o e hx) e1 (I.base.free b o e n hx)
    exact ⟨sl', e2⟩
  · obtain ⟨o', e1⟩ := I.base.there b o e hx
    exact free b o' (neC b o e hx) e1 (I.base.free b o e n hx)
  · obtain ⟨o', e1⟩ := I.base.there b o e hx
    exact there b o' (neC b o e hx) e1
  · obtain ⟨m1, e1⟩ := I.base.tbls b ps e
    obtain ⟨m2, e2⟩ := tbls b _ e1
    exact ⟨m1 ++ m2, by rw [e2, Array.append_assoc]⟩
  · obtain ⟨m, hn, hl⟩ := I.loc
    refine ⟨m, ns m hn, fun i x v e1 e2 e3 => ?_⟩
    obtain ⟨u, r, l⟩ := hl i x v e1 e2 e3
    refine ⟨u, r, ?_⟩
    rcases l with l | ⟨k, c, e, z⟩
    · exact .inl l
    · exact .inr ⟨k, c, e, cellK x c e _ z⟩
  · obtain ⟨v, z⟩ := I.cell x c e
    exact ⟨v, cellK x c e v z⟩
  · obtain ⟨m, ⟨o, _, _, ho, _⟩, _⟩ := I.loc
    exact free _ o (fun z => (hch _ z).2.1 rfl) ho I.free
  · obtain ⟨v, o, ho, hd⟩ := I.cell x c e
    exact free c o (fun z => (hch c z).2.2.1 x c e rfl) ho (I.freeC x c e)
  · obtain ⟨e, n, ne, nf, d⟩ := I.pin p hp
    have nch : p.1 ∉ ch := fun z => (hch p.1 z).2.2.2 p hp rfl
    exact ⟨keep p.1 p.2 ne nf nch e n, free p.1 p.2 nch e n, ne, nf, d⟩
theorem Inv.un {t' : Nat} (I : Inv X pins σ H s) (u : Un X.fs [] H H' s.heap h') (hok : HOk X.prog X.w H' h') : Inv X pins σ H' { s with heap := h', toks := t' } := by
  obtain ⟨m, ⟨o, es, ep, ho, r⟩, _⟩ := id I.loc
  obtain ⟨sl, hL⟩ := u.any ho I.free (by simp)
  exact I.step (g' := s.gens) (d' := s.drawn) (ch := []) (fun _ z => nomatch z) (fun b o _ hb _ e n => u.keep b o e n hb (by simp)) (fun b o _ hb _ e n => u.slot b o e n hb (by simp)) (fun b o _ e n => u.free b o e n (by simp)) (fun b o _ e => u.there b o e (by simp)) u.tups u.frzs u.tbls (fun m' hm => by
    obtain ⟨o', es', ep', ho', r'⟩ := hm
    rw [ho] at ho'; cases ho'
    exact ⟨_, es', ep', hL, r'⟩) hok I.bare
theorem Inv.call {g' : Array GenState} {t' : Nat} {d' : Drawn} {ch : List Addr} (I : Inv X pins σ H s) (u : Un (frs X.stack) ch H H' s.heap h') (hok : HOk X.prog X.w H' h') (hg : AllBare g')
    (hch : ∀ b ∈ ch, (b ∈ X.ex ∨ X.s₀.heap.objs.size ≤ b) ∧ b ≠ X.env.locals ∧ (∀ x c, X.env.cells.lookup x = some c → c ≠ b) ∧ ∀ p ∈ X.pn ++ pins, p.1 ≠ b) :
    Inv X pins σ H' { s with heap := h', gens := g', drawn := d', toks := t' } := by
  obtain ⟨m, ⟨o, es, ep, ho, r⟩, _⟩ := id I.loc
  obtain ⟨sl, hL⟩ := u.any ho I.free fun z => (hch _ z).2.1 rfl
  exact I.step (ch := ch) hch (fun b o hL hb hc e n => u.keep b o e n (fun z => (List.mem_cons.mp (I.stkSub b z)).elim hL hb) hc) (fun b o _ _ hc e n => u.any e n hc) (fun b o hc e n => u.free b o e n hc) (fun b o hc e => u.there b o e hc) u.tups u.frzs u.tbls (fun m' hm => by
    obtain ⟨o', es', ep', ho', r'⟩ := hm
    rw [ho] at ho'; cases ho'
    exact ⟨_, es', ep', hL, r'⟩) hok hg
theorem Inv.turned {t' : Nat} {it : Addr} (I : Inv X pins σ H s) (k : ∀ b o, b ≠ it → s.heap.get? b = some o → h'.get? b = some o) (hn : H it = none) (hL : it ≠ X.env.locals)
    (h1 : it ∈ X.ex ∨ X.s₀.heap.objs.size ≤ it) (h2 : ∀ x c, X.env.cells.lookup x = some c → c ≠ it) (h3 : ∀ p ∈ X.pn ++ pins, p.1 ≠ it) : Inv X pins σ H { s with heap := h', toks := t' } := by
  have nit : ∀ b u, H b = some u → b ≠ it := fun b u e z => by rw [z, hn] at e; cases e
  refine I.step (g' := s.gens) (d' := s.drawn) (ch := [it]) (fun b hb => ?_) (fun b o _ _ hc e _ => k b o (fun z => hc (by simp [z])) e) (fun b o _ _ hc e _ => ⟨o.slots, k b o (fun z => hc (by simp [z])) e⟩) (fun _ _ _ _ n => n)
    (fun b o hc e => ⟨o, k b o (fun z => hc (by simp [z])) e⟩) (fun _ _ e => e) (fun _ _ _ e => e) (fun b ps e => ⟨#[], by rw [e]; simp⟩) (fun m hm => ?_) (fun b u e => ?_) I.bare
  · have e : b = it := by simpa using hb
    subst e
    exact ⟨h1, hL, h2, h3⟩
  · obtain ⟨o, es, ep, ho, r⟩ := hm
    exact ⟨o, es, ep, k _ o (Ne.symm hL) ho, r⟩
  · refine (I.hok b u e).stay (fun c v hc q => k c v ?_ q) (fun _ q => q) fun _ _ _ q => q
    rcases hc with z | z
    · rw [z]; exact nit b u e
    · exact nit c _ z
theorem Inv.tok (I : Inv X pins σ H s) (t : Nat) : Inv X pins σ H { s with toks := t } := I.un (h' := s.heap) (t' := t) Un.refl I.hok
theorem Inv.kept {t' : Nat} (I : Inv X pins σ H s) (k : ∀ b u, s.heap.get? b = some u → h'.get? b = some u) : Inv X pins σ H { s with heap := h', toks := t' } := I.un (Un.kept k) (I.hok.kept k)
theorem Inv.laid {a : Addr} {o : HO} {t' : Nat} (I : Inv X pins σ H s) (k : ∀ b u, s.heap.get? b = some u → h'.get? b = some u) (hp : s.heap.objs.size ≤ a) (new : ObjOk X.prog X.w (upd H a o) h' a o) :
    Inv X pins σ (upd H a o) { s with heap := h', toks := t' } := I.un (Un.laid k hp (I.hok.fresh hp)) (I.hok.laid k hp new)
theorem Inv.write {x e : Addr} {o : HO} {t' : Nat} (I : Inv X pins σ H s) (mu : Mut (H x)) (he : e = x ∨ H e = some (.own x)) (k : ∀ b u, b ≠ e → s.heap.get? b = some u → h'.get? b = some u) (heo : ∃ u, h'.get? e = some u)
    (new : ObjOk X.prog X.w (upd H x o) h' x o) : Inv X pins σ (upd H x o) { s with heap := h', toks := t' } := I.un (Un.write mu he k heo) (I.hok.write mu he k heo new)
theorem Inv.weak {σ' : List (Option V)} (I : Inv X pins σ H s) (hl : σ'.length = σ.length) (w : ∀ (i : Nat) v, σ'[i]? = some (some v) → σ[i]? = some (some v)) : Inv X pins σ' H s :=
  ⟨I.ok, I.os, I.bare, I.base, let ⟨m, hn, hl'⟩ := I.loc; ⟨m, hn, fun i x v e1 e2 e3 => hl' i x v e1 (w i v e2) e3⟩, I.cell, I.free, I.freeC, I.pin, I.hok, hl.trans I.len⟩
theorem Inv.pins_of {pins' : List (Addr × Obj)} (I : Inv X pins σ H s) (h : ∀ p ∈ pins', s.heap.get? p.1 = some p.2 ∧ H p.1 = none ∧ p.1 ≠ X.env.locals ∧ p.1 ∉ X.fs ∧ ∀ v, p.2.data ≠ .cell v) : Inv X pins' σ H s :=
  ⟨I.ok, I.os, I.bare, I.base, I.loc, I.cell, I.free, I.freeC, fun p hp => (List.mem_append.mp hp).elim (fun z => I.pin p (List.mem_append_left _ z)) (h p), I.hok, I.len⟩
theorem nodup_ix {N : List Str} (hN : N.Nodup) {i j : Nat} {x : Str} (a : N[i]? = some x) (b : N[j]? = some x) : i = j := by
  obtain ⟨h1, e1⟩ := List.getElem?_eq_some_iff.mp a
  obtain ⟨h2, e2⟩ := List.getElem?_eq_some_iff.mp b
  exact (List.getElem_inj hN).mp (e1.trans e2.symm)
theorem store_ok2 {M : Model} {A : Around} {E : Value → Shared → Prop} {i : Nat} {x : Str} {v : V} {u : Value} {Q : Unit → Shared → Prop} (I : Inv X pins σ H s) (hN : X.N.Nodup) (hi : X.N[i]? = some x) (hx : Loc X.env.scope x) (r : RelV v u)
    (h : ∀ s', Inv X pins (σ.set i (some v)) H s' → (∃ a, Heap.SameBut a s.heap s'.heap ∧ (a = X.env.locals ∨ X.env.cells.lookup x = some a)) → Q () s') (hf : X.fn x = true ∨ X.env.scope.names.lookup x = some .local := by first | exact .inl rfl | exact .inr rfl | assumption) : wpAny M A (storeName X.env x u) Q E s := by
  obtain ⟨m, hn, hl⟩ := id I.loc
  have hcls : (X.env.scope.kind == .class || (X.env.scope.kind == .module && X.env.locals != X.env.globals)) = false := by rw [I.ok.kind]; rfl
  have hiσ : i < σ.length := by rw [I.len]; exact (List.getElem?_eq_some_iff.mp hi).1
  have cne := I.cne
  have tracked : ∀ {a : Addr} {h' : Heap}, (∃ o, s.heap.get? a = some o ∧ H a = none) → Heap.SameBut a s.heap h' → HOk X.prog X.w H h' := fun {a h'} ha hs b ob e => by
    obtain ⟨_, _, hfree⟩ := ha
    refine (I.hok b ob e).stay (fun c w' hc q => (hs.2 c ?_).trans q) (fun _ q => q) fun _ _ _ q => q
    rintro rfl
    rcases hc with rfl | hc
    · rw [hfree] at e; cases e
    · rw [hfree] at hc; cases hc
  rcases hx with hk | hk
  · refine wpAny_storeName_local hk hn (fun h' hn' hs => ?_) hcls
    obtain ⟨oL, _, _, hoL, _⟩ := id hn
    refine h _ ⟨I.ok, I.os, I.bare, ⟨fun b o e n hb hx => ?_, fun b o e n hb hx => ?_, I.base.free, fun b o e hx => ?_, I.base.tups, I.base.frzs, I.base.tbls⟩, ⟨_, hn', fun j y v' e1 e2 e3 => ?_⟩, fun y c e => ?_, I.free, I.freeC, fun p hp => ?_, tracked ⟨oL, hoL, I.free⟩ hs, by simpa using I.len⟩ ⟨_, hs, .inl rfl⟩
    · exact (hs.2 b (Nat.ne_of_lt (Nat.lt_of_lt_of_le (Heap.lt_size e) I.ok.above))).trans (I.base.keep b o e n hb hx)
    · obtain ⟨sl, e1⟩ := I.base.slot b o e n hb hx
      exact ⟨sl, (hs.2 b (Nat.ne_of_lt (Nat.lt_of_lt_of_le (Heap.lt_size e) I.ok.above))).trans e1⟩
    · obtain ⟨o', e1⟩ := I.base.there b o e hx
      exact ⟨o', (hs.2 b (Nat.ne_of_lt (Nat.lt_of_lt_of_le (Heap.lt_size e) I.ok.above))).trans e1⟩
    · by_cases hj : j = i
      · subst hj
        rw [hi] at e1; cases e1
        rw [List.getElem?_set_self hiσ] at e2
        cases e2
        exact ⟨u, r, .inl ⟨hk, by simp⟩⟩
      · rw [List.getElem?_set_ne (Ne.symm hj)] at e2
        obtain ⟨u', r', q⟩ := hl j y v' e1 e2 e3
        refine ⟨u', r', ?_⟩
        rcases q with ⟨k, e⟩ | ⟨k, c, e, z⟩
        · refine .inl ⟨k, ?_⟩
          have : y ≠ x := fun e => hj (nodup_ix hN e1 (e ▸ hi))
          simp [this, e]
        · exact .inr ⟨k, c, e, z.sameBut hs (cne y c e)⟩
    · obtain ⟨w', z⟩ := I.cell y c e
      exact ⟨w', z.sameBut hs (cne y c e)⟩
    · obtain ⟨e, n, ne, nf, d⟩ := I.pin p hp
      exact ⟨(hs.2 p.1 ne).trans e, n, ne, nf, d⟩
  · have hfn : X.fn x = true := by
      rcases hf with z | z
      · exact z
      · rw [z] at hk; cases hk
    obtain ⟨c, hc⟩ := I.ok.has x (.inl hk)
    obtain ⟨w', z⟩ := I.cell x c hc
    refine wpAny_storeName_cell I.ok.kind hk hc z (fun h' hc' hs => ?_)
    obtain ⟨oc, hoc, hocd⟩ := id z
    refine h { s with heap := h' } ⟨I.ok, I.os, I.bare, ⟨fun b o e n hb hx => ?_, fun b o e n hb hx => ?_, I.base.free, fun b o e hx => ?_, I.base.tups, I.base.frzs, I.base.tbls⟩, ⟨m, hn.sameBut hs (Ne.symm (cne x c hc)), fun j y v' e1 e2 e3 => ?_⟩, fun y c' e => ?_, I.free, I.freeC, fun p hp => ?_, tracked ⟨oc, hoc, I.freeC x c hc⟩ hs, by simpa using I.len⟩ ⟨c, hs, .inr hc⟩
    · exact (hs.2 b (Nat.ne_of_lt (Nat.lt_of_lt_of_le (Heap.lt_size e) (I.ok.cab x c hfn hc)))).trans (I.base.keep b o e n hb hx)
    · obtain ⟨sl, e1⟩ := I.base.slot b o e n hb hx
      exact ⟨sl, (hs.2 b (Nat.ne_of_lt (Nat.lt_of_lt_of_le (Heap.lt_size e) (I.ok.cab x c hfn hc)))).trans e1⟩
    · obtain ⟨o', e1⟩ := I.base.there b o e hx
      exact ⟨o', (hs.2 b (Nat.ne_of_lt (Nat.lt_of_lt_of_le (Heap.lt_size e) (I.ok.cab x c hfn hc)))).trans e1⟩
    · by_cases hj : j = i
      · subst hj
        rw [hi] at e1; cases e1
        rw [List.getElem?_set_self hiσ] at e2
        cases e2
        exact ⟨u, r, .inr ⟨.inl hk, c, hc, hc'⟩⟩
      · rw [List.getElem?_set_ne (Ne.symm hj)] at e2
        obtain ⟨u', r', q⟩ := hl j y v' e1 e2 e3
        refine ⟨u', r', ?_⟩
        rcases q with q | ⟨k, c', e, z'⟩
        · exact .inl q
        · refine .inr ⟨k, c', e, z'.sameBut hs ?_⟩
          rintro rfl
          exact hj (nodup_ix hN e1 (I.ok.inj _ _ _ e hc ▸ hi))
    · by_cases hcc : c' = c
      · subst hcc; exact ⟨_, hc'⟩
      · obtain ⟨w2, z2⟩ := I.cell y c' e
        exact ⟨w2, z2.sameBut hs hcc⟩
    · obtain ⟨e, n, ne, nf, d⟩ := I.pin p hp
      refine ⟨(hs.2 p.1 ?_).trans e, n, ne, nf, d⟩
      intro q
      rw [q, hoc] at e
      have q' : oc = p.2 := Option.some.inj e
      exact d w' (by rw [← q']; exact hocd)
theorem store_ok {M : Model} {A : Around} {E : Value → Shared → Prop} {i : Nat} {x : Str} {v : V} {u : Value} {Q : Unit → Shared → Prop} (I : Inv X pins σ H s) (hN : X.N.Nodup) (hi : X.N[i]? = some x) (hx : Loc X.env.scope x) (r : RelV v u)
    (h : ∀ s', Inv X pins (σ.set i (some v)) H s' → Q () s') (hf : X.fn x = true ∨ X.env.scope.names.lookup x = some .local := by first | exact .inl rfl | exact .inr rfl | assumption) : wpAny M A (storeName X.env x u) Q E s :=
  store_ok2 I hN hi hx r (fun s' I' _ => h s' I') hf
theorem Inv.call' {s' : Shared} {ch : List Addr} (I : Inv X pins σ H s) (ho : s'.os = s.os) (u : Un (frs X.stack) ch H H' s.heap s'.heap) (hok : HOk X.prog X.w H' s'.heap) (hg : AllBare s'.gens)
    (hch : ∀ b ∈ ch, (b ∈ X.ex ∨ X.s₀.heap.objs.size ≤ b) ∧ b ≠ X.env.locals ∧ (∀ x c, X.env.cells.lookup x = some c → c ≠ b) ∧ ∀ p ∈ X.pn ++ pins, p.1 ≠ b) : Inv X pins σ H' s' := by
  obtain ⟨h', g', d', t', o'⟩ := s'
  have e : o' = s.os := ho
  subst e
  exact I.call (g' := g') (t' := t') (d' := d') u hok hg hch
end
abbrev XK := Value → Option Addr → Hp → Prop
abbrev St := List (Option V)
abbrev VK := V → Hp → Prop
abbrev TE := St → Hp → VK → Prop
abbrev TT := St → Hp → (Bool → Hp → Prop) → Prop
abbrev TA := St → Hp → (List V → Hp → Prop) → Prop
structure Ends where
  nx : St → Hp → Prop
  rt : VK
  bk : St → Hp → Prop := fun _ _ => False
  ct : St → Hp → Prop := fun _ _ => False
abbrev TS := Ends → St → Hp → Prop
def EP (X : Cx) (pins : List (Addr × Obj)) (σ : St) (Q : VK) (u : Value) (s' : Shared) : Prop := ∃ v H', Inv X pins σ H' s' ∧ RelV v u ∧ Q v H'
def TP (X : Cx) (pins : List (Addr × Obj)) (σ : St) (Q : Bool → Hp → Prop) (b : Bool) (s' : Shared) : Prop := ∃ H', Inv X pins σ H' s' ∧ Q b H'
def AP (X : Cx) (pins : List (Addr × Obj)) (σ : St) (Q : List V → Hp → Prop) (us : List Value) (s' : Shared) : Prop := ∃ vs H', Inv X pins σ H' s' ∧ Vals vs us ∧ Q vs H'
def SP (X : Cx) (pins : List (Addr × Obj)) (D : Ends) (f : Flow) (s' : Shared) : Prop :=
  match f with
  | .next => ∃ σ' H', Inv X pins σ' H' s' ∧ D.nx σ' H'
  | .brk => ∃ σ' H', Inv X pins σ' H' s' ∧ D.bk σ' H'
  | .cont => ∃ σ' H', Inv X pins σ' H' s' ∧ D.ct σ' H'
  | .ret u => ∃ v σ' H', Inv X pins σ' H' s' ∧ RelV v u ∧ D.rt v H'
def PE (X : Cx) (e : Expr) (t : TE) : Prop :=
  ∀ (pins : List (Addr × Obj)) (s : Shared) (σ : St) (H : Hp) (Q : VK), Inv X pins σ H s → t σ H Q → wpAny (model X.prog X.w) X.A (eval e X.env) (EP X pins σ Q) X.xe s
def PT (X : Cx) (e : Expr) (t : TT) : Prop :=
  ∀ (pins : List (Addr × Obj)) (s : Shared) (σ : St) (H : Hp) (Q : Bool → Hp → Prop), Inv X pins σ H s → t σ H Q → wpAny (model X.prog X.w) X.A (isTrue e X.env (eval e X.env)) (TP X pins σ Q) X.xe s
def PW (X : Cx) (e : Expr) (t : TT) : Prop :=
  ∀ (whole : Sem Value) (pins : List (Addr × Obj)) (s : Shared) (σ : St) (H : Hp) (Q : Bool → Hp → Prop), Inv X pins σ H s → t σ H Q → wpAny (model X.prog X.w) X.A (isTrue e X.env whole) (TP X pins σ Q) X.xe s
theorem PW.pt {X : Cx} {e : Expr} {t : TT} (h : PW X e t) : PT X e t := h _
def PA (X : Cx) (es : List Expr) (t : TA) : Prop :=
  ∀ (pos : Pos) (pins : List (Addr × Obj)) (s : Shared) (σ : St) (H : Hp) (Q : List V → Hp → Prop), Inv X pins σ H s → t σ H Q → wpAny (model X.prog X.w) X.A (spliced (backTo pos (starEach es X.env))) (AP X pins σ Q) X.xe s
def PS (X : Cx) (st : Stmt) (t : TS) : Prop :=
  ∀ (pins : List (Addr × Obj)) (s : Shared) (σ : St) (H : Hp) (D : Ends), Inv X pins σ H s → t D σ H → wpAny (model X.prog X.w) X.A (exec st X.env) (SP X pins D) X.xe s
def PSs (X : Cx) (st : List Stmt) (t : TS) : Prop :=
  ∀ (pins : List (Addr × Obj)) (s : Shared) (σ : St) (H : Hp) (D : Ends), Inv X pins σ H s → t D σ H → wpAny (model X.prog X.w) X.A (execs st X.env) (SP X pins D) X.xe s
theorem thn {α : Type} {t : Sem α} {Q Q' : α → Shared → Prop} {M : Model} {A : Around} {E : Value → Shared → Prop} {s : Shared} (h : wpAny M A t Q E s) (hQ : ∀ a s, Q a s → Q' a s) : wpAny M A t Q' E s := wpAny_mono h hQ fun _ _ x => x
end L2
namespace L2
open PySem PySem.Spec PyProof.Rows
section
variable {X : Cx}
def tVar (i : Nat) : TE := fun σ H Q => ∃ v, σ[i]? = some (some v) ∧ Q v H
def tC (v : V) : TE := fun _ H Q => Q v H
theorem pe_var {i : Nat} {x : Str} {pos : Pos} (hN : X.N[i]? = some x) (hv : Vis X.env.scope x) (hd : (x == ("__debug__" : Str)) = false := by decide) (hcd : (x == ("__classdict__" : Str)) = false := by decide) : PE X (.Name x pos) (tVar i) := by
  intro pins s σ H Q I h
  obtain ⟨v, e, h⟩ := h
  obtain ⟨m, hn, hl⟩ := I.loc
  obtain ⟨u, r, l⟩ := hl i x v hN e hv
  have fin : EP X pins σ Q u s := ⟨v, H, I, r, h⟩
  rcases l with ⟨hk, hm⟩ | ⟨hk, c, hc, hcell⟩
  · exact wpAny_Name (wpAny_loadName_local I.ok.kind hk hn hm fin) hd
  · rcases hk with hk | hk
    · exact wpAny_Name (wpAny_loadName_cell I.ok.kind hk hc hcell fin) hd
    · exact wpAny_Name (wpAny_loadName_free I.ok.kind hk hc hcell fin hcd) hd
theorem pe_int {i j pos} : PE X (.Constant (.int i) j pos) (tC (.int i)) := fun _ _ _ H _ I h => wpAny_Constant_int ⟨.int i, H, I.tok _, ⟨_, rfl⟩, h⟩
theorem pe_bl {b j pos} : PE X (.Constant (.bool b) j pos) (tC (.bl b)) := fun _ _ _ H _ I h => Constant_bool ⟨.bl b, H, I, rfl, h⟩
theorem pe_non {j pos} : PE X (.Constant .none j pos) (tC .non) := fun _ _ _ H _ I h => Constant_none ⟨.non, H, I, rfl, h⟩
def Gl (X : Cx) (x : Str) : Prop := X.env.kindOf x = some .globalImplicit
theorem ld_glob {E : Value → Shared → Prop} {pins : List (Addr × Obj)} {s : Shared} {σ : St} {H : Hp} {x : Str} {u : Value} {pos : Pos} {Q : Value → Shared → Prop} (I : Inv X pins σ H s) (hg : Gl X x) (hm : X.mg x = some u) (h : Q u s)
    (hd : (x == ("__debug__" : Str)) = false := by decide) : wpAny (model X.prog X.w) X.A (eval (.Name x pos) X.env) Q E s :=
  Calls.Name_function_global I.ok.kind hg (Calls.loadGlobal_global (by rw [I.ok.glob]; exact I.mod.glob.keeps I.bk) hm h) hd
theorem ld_blt {E : Value → Shared → Prop} {pins : List (Addr × Obj)} {s : Shared} {σ : St} {H : Hp} {x : Str} {u : Value} {pos : Pos} {Q : Value → Shared → Prop} (I : Inv X pins σ H s) (hg : Gl X x) (hm : X.mg x = none) (hv : bootBuiltins x = some u) (h : Q u s)
    (hn : x ≠ "__name__" := by decide) (hd : (x == ("__debug__" : Str)) = false := by decide) : wpAny (model X.prog X.w) X.A (eval (.Name x pos) X.env) Q E s := by
  obtain ⟨mb, h1, h2⟩ := I.mod.blt
  exact Calls.Name_function_global I.ok.kind hg (Calls.loadGlobal_builtin (by rw [I.ok.glob]; exact I.mod.glob.keeps I.bk) hm (by rw [I.ok.blt]; exact h1.keeps I.bk) ((h2 x hn).trans hv) h) hd
theorem pe_glob {x : Str} {v : V} {u : Value} {pos : Pos} (hg : Gl X x) (hm : X.mg x = some u) (r : RelV v u) (hd : (x == ("__debug__" : Str)) = false := by decide) : PE X (.Name x pos) (tC v) :=
  fun _ _ _ H _ I h => ld_glob I hg hm ⟨v, H, I, r, h⟩ hd
theorem pe_bltn {x : Str} {v : V} {u : Value} {pos : Pos} (hg : Gl X x) (hm : X.mg x = none) (hv : bootBuiltins x = some u) (r : RelV v u) (hn : x ≠ "__name__" := by decide) (hd : (x == ("__debug__" : Str)) = false := by decide) : PE X (.Name x pos) (tC v) :=
  fun _ _ _ H _ I h => ld_blt I hg hm hv ⟨v, H, I, r, h⟩ hn hd
variable {a b : Expr} {ta tb : TE} {pos : Pos}
def tB (t : TE) : TT := fun σ H Q => t σ H fun x H1 => ∃ c, x = .bl c ∧ Q c H1
theorem pt_val {e : Expr} {t : TE} (h : PE X e t) (he : ∀ whole, isTrue e X.env whole = (do let v ← whole; standAt e.pos; holding [v] (truthy v)) := by intro _; rfl) : PT X e (tB t) := by
  intro pins s σ H Q I hw
  refine isTrue_plain (thn (h pins s σ H _ I hw) fun v s1 ⟨x, H1, I1, r1, q1⟩ => ?_) (he _)
  obtain ⟨d, rfl, q⟩ := q1
  cases r1
  exact wpAny_truthy_bool ⟨H1, I1, q⟩
variable {tA tB' : TT} {rest : List Expr}
def tAnd (t u : TT) : TT := fun σ H Q => t σ H fun c H1 => if c = true then u σ H1 Q else Q false H1
def tOr (t u : TT) : TT := fun σ H Q => t σ H fun c H1 => if c = true then Q true H1 else u σ H1 Q
def tNot (t : TT) : TT := fun σ H Q => t σ H fun c H1 => Q (!c) H1
theorem pw_and1 (ha : PT X a tA) : PW X (.BoolOp .And [a] pos) tA := by
  intro wh pins s σ H Q I h
  refine isTrue_and (thn (ha pins s σ H Q I h) fun c s1 e => ?_)
  cases c with
  | true => exact isTrue_and_nil e
  | false => exact e
theorem pw_or1 (ha : PT X a tA) : PW X (.BoolOp .Or [a] pos) tA := by
  intro wh pins s σ H Q I h
  refine isTrue_or (thn (ha pins s σ H Q I h) fun c s1 e => ?_)
  cases c with
  | false => exact isTrue_or_nil e
  | true => exact e
theorem pw_and (ha : PT X a tA) (hb : PW X (.BoolOp .And (b :: rest) pos) tB') : PW X (.BoolOp .And (a :: b :: rest) pos) (tAnd tA tB') := by
  intro wh pins s σ H Q I h
  refine isTrue_and (thn (ha pins s σ H _ I h) fun c s1 ⟨H1, I1, q1⟩ => ?_)
  cases c with
  | true => exact hb wh pins s1 σ H1 Q I1 q1
  | false => exact ⟨H1, I1, q1⟩
theorem pw_or (ha : PT X a tA) (hb : PW X (.BoolOp .Or (b :: rest) pos) tB') : PW X (.BoolOp .Or (a :: b :: rest) pos) (tOr tA tB') := by
  intro wh pins s σ H Q I h
  refine isTrue_or (thn (ha pins s σ H _ I h) fun c s1 ⟨H1, I1, q1⟩ => ?_)
  cases c with
  | true => exact ⟨H1, I1, q1⟩
  | false => exact hb wh pins s1 σ H1 Q I1 q1
theorem pt_not (ha : PT X a tA) : PT X (.UnaryOp .Not a pos) (tNot tA) := by
  intro pins s σ H Q I h
  exact isTrue_not (ha pins s σ H (fun c H1 => Q (!c) H1) I h)
def tAndV (ta tb : TE) : TE := fun σ H Q => ta σ H fun x H1 => ∃ c, x = .bl c ∧ if c = true then tb σ H1 Q else Q (.bl false) H1
def tOrV (ta tb : TE) : TE := fun σ H Q => ta σ H fun x H1 => ∃ c, x = .bl c ∧ if c = true then Q (.bl true) H1 else tb σ H1 Q
def tNotV (ta : TE) : TE := fun σ H Q => ta σ H fun x H1 => ∃ c, x = .bl c ∧ Q (.bl (!c)) H1
theorem pe_one {op} {t : TE} (h : PE X a t) : PE X (.BoolOp op [a] pos) t := fun pins s σ H Q I hw => BoolOp_one (h pins s σ H Q I hw)
theorem pe_and (ha : PE X a ta) (hb : PE X (.BoolOp .And (b :: rest) pos) tb) : PE X (.BoolOp .And (a :: b :: rest) pos) (tAndV ta tb) := by
  intro pins s σ H Q I h
  refine BoolOp_and (thn (ha pins s σ H _ I h) fun v s1 ⟨x, H1, I1, r1, q1⟩ => ?_)
  obtain ⟨c, rfl, q1⟩ := q1
  cases r1
  refine wpAny_truthy_bool ?_
  cases c with
  | true => exact hb pins s1 σ H1 Q I1 q1
  | false => exact ⟨.bl false, H1, I1, rfl, q1⟩
theorem pe_or (ha : PE X a ta) (hb : PE X (.BoolOp .Or (b :: rest) pos) tb) : PE X (.BoolOp .Or (a :: b :: rest) pos) (tOrV ta tb) := by
  intro pins s σ H Q I h
  refine BoolOp_or (thn (ha pins s σ H _ I h) fun v s1 ⟨x, H1, I1, r1, q1⟩ => ?_)
  obtain ⟨c, rfl, q1⟩ := q1
  cases r1
  refine wpAny_truthy_bool ?_
  cases c with
  | false => exact hb pins s1 σ H1 Q I1 q1
  | true => exact ⟨.bl true, H1, I1, rfl, q1⟩
theorem pe_not (ha : PE X a ta) : PE X (.UnaryOp .Not a pos) (tNotV ta) := by
  intro pins s σ H Q I h
  refine UnaryOp_ (thn (ha pins s σ H _ I h) fun v s1 ⟨x, H1, I1, r1, q1⟩ => ?_)
  obtain ⟨c, rfl, q1⟩ := q1
  cases r1
  exact not_of (wpAny_truthy_bool ⟨.bl (!c), H1, I1, rfl, q1⟩)
def tIf (t : TT) (ta tb : TE) : TE := fun σ H Q => t σ H fun c H1 => if c = true then ta σ H1 Q else tb σ H1 Q
end
end L2
namespace L2
open PySem PySem.Spec PyProof.Rows
def SqL (K : PySem.W.Frag) (H : Hp) (a : Addr) (xs : List V) : Prop :=
  Rd H a (.lst xs) ∨
    ∃ (o : Obj) (its : Array Value) (n : Nat), K.lookup a = some o ∧ o.cls = .type "list" ∧ o.dict = none ∧ o.data = .seq its n ∧ its.size ≤ sizeLine ∧ Vals xs its.toList
def SqT (K : PySem.W.Frag) (H : Hp) (a : Addr) (xs : List V) : Prop :=
  Rd H a (.tup xs) ∨
    ∃ (o : Obj) (its : Array Value) (n : Nat), K.lookup a = some o ∧ o.cls = .type "tuple" ∧ o.data = .seq its n ∧ its.size ≤ sizeLine ∧ Vals xs its.toList
def absV : Value → Option V
  | .none => some .non
  | .bool b => some (.bl b)
  | .int i _ => some (.int i)
  | .str x _ => some (.str x)
  | .bytes b _ => some (.byt b)
  | .float b _ => some (.flt b)
  | .ref a => some (.ref a)
  | .type n => some (.ty n)
  | _ => none
theorem RelV.abs {x : V} {u : Value} (r : RelV x u) : absV u = some x := by
  cases x with
  | non => cases r; rfl
  | bl _ => cases r; rfl
  | int _ => obtain ⟨t, rfl⟩ := r; rfl
  | str _ => obtain ⟨t, rfl⟩ := r; rfl
  | byt _ => obtain ⟨t, rfl⟩ := r; rfl
  | flt _ => obtain ⟨t, rfl⟩ := r; rfl
  | ref _ => cases r; rfl
  | ty _ => cases r; rfl
theorem RelV.inj {x y : V} {u : Value} (r : RelV x u) (q : RelV y u) : x = y := Option.some.inj (r.abs.symm.trans q.abs)
theorem Vals.inj : ∀ {xs ys : List V} {us : List Value}, Vals xs us → Vals ys us → xs = ys
  | _, _, _, .nil, .nil => rfl
  | _, _, _, .cons r t, .cons r' t' => by rw [r.inj r', Vals.inj t t']
section
variable {X : Cx} {pins : List (Addr × Obj)} {σ : St} {H : Hp} {s : Shared} {a : Addr} {xs ys : List V}
theorem SqL.of {K : PySem.W.Frag} (h : H a = some (.lst xs)) : SqL K H a xs := .inl (.inl h)
theorem SqT.of {K : PySem.W.Frag} (h : H a = some (.tup xs)) : SqT K H a xs := .inl (.inl h)
theorem Inv.list (I : Inv X pins σ H s) (h : SqL X.K H a xs) : ∃ its : List Value, Vals xs its ∧ PlainL s.heap a its.toArray ∧ xs.length ≤ sizeLine := by
  rcases h with h | ⟨o, its, n, hk, hc, hd, hs, hz, r⟩
  · obtain ⟨z, its, n, r, e⟩ := h.ok I.hok
    exact ⟨its, r, ⟨_, n, e, rfl, rfl, rfl⟩, z⟩
  · refine ⟨its.toList, r, ⟨o, n, I.kIn a o hk, hc, hd, by simpa using hs⟩, ?_⟩
    have e := r.length
    simp only [Array.length_toList] at e
    omega
theorem Inv.tuple (I : Inv X pins σ H s) (h : SqT X.K H a xs) : ∃ its : List Value, Vals xs its ∧ IsTup s.heap a its.toArray ∧ xs.length ≤ sizeLine := by
  rcases h with h | ⟨o, its, n, hk, hc, hs, hz, r⟩
  · obtain ⟨z, its, r, p⟩ := h.ok I.hok
    exact ⟨its, r, p, z⟩
  · refine ⟨its.toList, r, ⟨o, I.kIn a o hk, hc, n, by simpa using hs⟩, ?_⟩
    have e := r.length
    simp only [Array.length_toList] at e
    omega
theorem Inv.list_inj (I : Inv X pins σ H s) (h : SqL X.K H a xs) (h' : SqL X.K H a ys) : xs = ys := by
  obtain ⟨its, r, ⟨o, n, e, _, _, d⟩, _⟩ := I.list h
  obtain ⟨its', r', ⟨o', n', e', _, _, d'⟩, _⟩ := I.list h'
  rw [e] at e'; cases e'
  rw [d] at d'
  injection d' with d1 _
  have : its = its' := by simpa using congrArg Array.toList d1
  subst this
  exact r.inj r'
theorem Inv.tuple_inj (I : Inv X pins σ H s) (h : SqT X.K H a xs) (h' : SqT X.K H a ys) : xs = ys := by
  obtain ⟨its, r, ⟨o, e, _, n, d⟩, _⟩ := I.tuple h
  obtain ⟨its', r', ⟨o', e', _, n', d'⟩, _⟩ := I.tuple h'
  rw [e] at e'; cases e'
  rw [d] at d'
  injection d' with d1 _
  have : its = its' := by simpa using congrArg Array.toList d1
  subst this
  exact r.inj r'
end
abbrev Cx.wish (X : Cx) (E : Value → Shared → Prop) : Cx := { X with xe := E }
abbrev Cx.nox (X : Cx) : Cx := X.wish fun _ _ => False
theorem Cx.Ok.wish {X : Cx} (ok : X.Ok) (E : Value → Shared → Prop) : (X.wish E).Ok :=
  ⟨ok.mod, ok.kind, ok.glob, ok.blt, ok.above, ok.inj, ok.has, ok.cab, ok.hd, ok.frames, ok.stk, ok.exf, ok.bs, ok.bsz, ok.noex, ok.exfs, ok.funs, ok.frf⟩
theorem Cx.Ok.unwish {X : Cx} {E : Value → Shared → Prop} (ok : (X.wish E).Ok) : X.Ok :=
  ⟨ok.mod, ok.kind, ok.glob, ok.blt, ok.above, ok.inj, ok.has, ok.cab, ok.hd, ok.frames, ok.stk, ok.exf, ok.bs, ok.bsz, ok.noex, ok.exfs, ok.funs, ok.frf⟩
section
variable {X : Cx} {pins : List (Addr × Obj)} {σ : St} {H : Hp} {s : Shared} {E : Value → Shared → Prop}
theorem Inv.wish (I : Inv X pins σ H s) (E : Value → Shared → Prop) : Inv (X.wish E) pins σ H s := ⟨I.ok.wish E, I.os, I.bare, I.base, I.loc, I.cell, I.free, I.freeC, I.pin, I.hok, I.len⟩
theorem Inv.unwish (I : Inv (X.wish E) pins σ H s) : Inv X pins σ H s := ⟨I.ok.unwish, I.os, I.bare, I.base, I.loc, I.cell, I.free, I.freeC, I.pin, I.hok, I.len⟩
theorem SP.unwish {D : Ends} {f : Flow} {s' : Shared} (h : SP (X.wish E) pins D f s') : SP X pins D f s' := by
  cases f with
  | next => obtain ⟨σ', H', I, q⟩ := h; exact ⟨σ', H', I.unwish, q⟩
  | brk => obtain ⟨σ', H', I, q⟩ := h; exact ⟨σ', H', I.unwish, q⟩
  | cont => obtain ⟨σ', H', I, q⟩ := h; exact ⟨σ', H', I.unwish, q⟩
  | ret u => obtain ⟨v, σ', H', I, r, q⟩ := h; exact ⟨v, σ', H', I.unwish, r, q⟩
theorem PE.nox {e : Expr} {t : TE} (h : PE X.nox e t) : PE X e t := fun pins s σ H Q I hw =>
  wpAny_mono (h pins s σ H Q (I.wish _) hw) (fun _ _ ⟨v, H', I', r, q⟩ => ⟨v, H', I'.unwish, r, q⟩) fun _ _ z => False.elim z
theorem PT.nox {e : Expr} {t : TT} (h : PT X.nox e t) : PT X e t := fun pins s σ H Q I hw =>
  wpAny_mono (h pins s σ H Q (I.wish _) hw) (fun _ _ ⟨H', I', q⟩ => ⟨H', I'.unwish, q⟩) fun _ _ z => False.elim z
theorem PSs.nox {st : List Stmt} {t : TS} (h : PSs X.nox st t) : PSs X st t := fun pins s σ H D I hw =>
  wpAny_mono (h pins s σ H D (I.wish _) hw) (fun _ _ q => q.unwish) fun _ _ z => False.elim z
end
section
variable {X : Cx} {st : Stmt} {rest : List Stmt} {t u : TS} {e : Expr} {te : TE} {pos : Pos}
def tNext : TS := fun D σ H => D.nx σ H
def tSeq (t u : TS) : TS := fun D σ H => t { D with nx := u D } σ H
theorem pss_nil : PSs X [] tNext := fun _ _ σ H _ I h => wpAny_execs_nil ⟨σ, H, I, h⟩
theorem pss_cons (h1 : PS X st t) (h2 : PSs X rest u) : PSs X (st :: rest) (tSeq t u) := by
  intro pins s σ H D I h
  refine wpAny_execs_cons (thn (h1 pins s σ H { D with nx := u D } I h) fun f s1 q => ?_)
  cases f with
  | next =>
    obtain ⟨σ', H', I', q⟩ := q
    exact h2 pins s1 σ' H' D I' q
  | ret v => exact q
  | brk => exact q
  | cont => exact q
theorem pss_one (h1 : PS X st t) : PSs X [st] t := by
  intro pins s σ H D I h
  refine wpAny_execs_cons (thn (h1 pins s σ H D I h) fun f s1 q => ?_)
  cases f with
  | next => exact wpAny_execs_nil q
  | ret v => exact q
  | brk => exact q
  | cont => exact q
def tBreak : TS := fun D σ H => D.bk σ H
def tCont : TS := fun D σ H => D.ct σ H
theorem Inv.quiet {pins : List (Addr × Obj)} {σ : St} {H : Hp} {s : Shared} (I : Inv X pins σ H s) : interactive X.env = false := by simp [interactive, I.ok.kind]
def tDrop (te : TE) : TS := fun D σ H => te σ H fun _ H1 => D.nx σ H1
theorem ps_expr (he : PE X e te) (hs : swapsWith e none pos.line X.env = pure false := by rfl) : PS X (.Expr e pos) (tDrop te) := by
  intro pins s σ H D I h
  exact wpAny_Expr_any (thn (he pins s σ H _ I h) fun v s1 ⟨x, H1, I1, r1, q1⟩ => ⟨σ, H1, I1, q1⟩) I.quiet hs
def tRet (te : TE) : TS := fun D σ H => te σ H D.rt
theorem ps_ret (he : PE X e te) : PS X (.Return (some e) pos) (tRet te) := by
  intro pins s σ H D I h
  exact wpAny_Return_some (thn (he pins s σ H _ I h) fun v s1 ⟨x, H1, I1, r1, q1⟩ => ⟨x, σ, H1, I1, r1, q1⟩)
def tRetN : TS := fun D _ H => D.rt .non H
def tIfS (c : TT) (t u : TS) : TS := fun D σ H => c σ H fun b H1 => if b = true then t D σ H1 else u D σ H1
theorem ps_if {c : Expr} {a b : List Stmt} {tc : TT} (hc : PT X c tc) (ha : PSs X a t) (hb : PSs X b u) : PS X (.If c a b pos) (tIfS tc t u) := by
  intro pins s σ H D I h
  refine wpAny_If (thn (hc pins s σ H _ I h) fun d s1 ⟨H1, I1, q1⟩ => ?_)
  cases d with
  | true => exact ha pins s1 σ H1 D I1 q1
  | false => exact hb pins s1 σ H1 D I1 q1
def tNever : TS := fun _ _ _ => False
theorem ps_never : PS X st tNever := fun _ _ _ _ _ _ h => h.elim
end
abbrev TG := V → St → Hp → (St → Hp → Prop) → Prop
abbrev TGs := List V → St → Hp → (St → Hp → Prop) → Prop
def PG (X : Cx) (target : Expr) (t : TG) : Prop :=
  ∀ (pins : List (Addr × Obj)) (s : Shared) (σ : St) (H : Hp) (v : V) (u : Value) (Q : St → Hp → Prop), Inv X pins σ H s → RelV v u → t v σ H Q →
    wpAny (model X.prog X.w) X.A (assign target X.env u) (fun _ s' => ∃ σ' H', Inv X pins σ' H' s' ∧ Q σ' H') X.xe s
def PGs (X : Cx) (ts : List Expr) (t : TGs) : Prop :=
  ∀ (pins : List (Addr × Obj)) (s : Shared) (σ : St) (H : Hp) (vs : List V) (us : List Value) (Q : St → Hp → Prop), Inv X pins σ H s → Vals vs us → t vs σ H Q →
    wpAny (model X.prog X.w) X.A (assignInOrder ((assignEach ts X.env).map (·.2)) us) (fun _ s' => ∃ σ' H', Inv X pins σ' H' s' ∧ Q σ' H') X.xe s
abbrev TSet := V → V → V → Hp → (Hp → Prop) → Prop
def PSet (X : Cx) (t : TSet) : Prop :=
  ∀ (pins : List (Addr × Obj)) (s : Shared) (σ : St) (H : Hp) (o i v : V) (ov iv u : Value) (Q : Hp → Prop), Inv X pins σ H s → RelV o ov → RelV i iv → RelV v u → t o i v H Q →
    wpAny (model X.prog X.w) X.A (setItem ov iv u) (fun _ s' => ∃ H', Inv X pins σ H' s' ∧ Q H') X.xe s
abbrev TIp := V → V → Hp → VK → Prop
def PIp (X : Cx) (op : Operator) (t : TIp) : Prop :=
  ∀ (pins : List (Addr × Obj)) (s : Shared) (σ : St) (H : Hp) (x y : V) (v u : Value) (Q : VK), Inv X pins σ H s → RelV x v → RelV y u → t x y H Q →
    wpAny (model X.prog X.w) X.A (inplaceOp op v u) (EP X pins σ Q) X.xe s
section
variable {X : Cx} {pos : Pos}
def gName (i : Nat) : TG := fun v σ H Q => Q (σ.set i (some v)) H
theorem pg_name {i : Nat} {x : Str} (hN : X.N.Nodup) (hi : X.N[i]? = some x) (hx : Loc X.env.scope x) (hf : X.fn x = true ∨ X.env.scope.names.lookup x = some .local := by first | exact .inl rfl | exact .inr rfl | assumption) : PG X (.Name x pos) (gName i) := by
  intro pins s σ H v u Q I r h
  exact wpAny_assign_Name (store_ok I hN hi hx r (fun s' I' => ⟨_, H, I', h⟩) hf)
def gNil : TGs := fun vs σ H Q => vs = [] ∧ Q σ H
def gCons (t : TG) (u : TGs) : TGs := fun vs σ H Q => ∃ v r, vs = v :: r ∧ t v σ H fun σ' H' => u r σ' H' Q
theorem pgs_nil : PGs X [] gNil := by
  intro pins s σ H vs us Q I r h
  obtain ⟨e, h⟩ := h
  subst e
  cases r
  exact assignInOrder_nil ⟨σ, H, I, h⟩
theorem pgs_cons {e : Expr} {es : List Expr} {t : TG} {u : TGs} (h1 : PG X e t) (h2 : PGs X es u)
    (hs : (assignEach (e :: es) X.env).map (·.2) = assign e X.env :: (assignEach es X.env).map (·.2) := by rfl) : PGs X (e :: es) (gCons t u) := by
  intro pins s σ H vs us Q I r h
  obtain ⟨v, vr, e1, h⟩ := h
  subst e1
  cases r with
  | cons r rr =>
    rw [hs]
    refine assignInOrder_cons (thn (h1 pins s σ H _ _ _ I r h) fun _ s1 ⟨σ1, H1, I1, q1⟩ => ?_)
    exact h2 pins s1 σ1 H1 _ _ Q I1 rr q1
def gTup (K : PySem.W.Frag) (n : Nat) (t : TGs) : TG := fun v σ H Q => ∃ a xs, v = .ref a ∧ SqT K H a xs ∧ xs.length = n ∧ t xs σ H Q
theorem pg_tup {es : List Expr} {k : Nat} {t : TGs} {n : Nat} (hc : X.calm = true) (h : PGs X es t)
    (hn : (assignEach es X.env).length = n := by rfl) (hst : (assignEach es X.env).findIdx? (·.1) = none := by rfl) : PG X (.Tuple es k pos) (gTup X.K n t) := by
  intro pins s σ H v u Q I r hw
  obtain ⟨a, xs, e1, hq, hl, hw⟩ := hw
  subst e1
  cases r
  obtain ⟨its, rv, ht, hz⟩ := I.tuple hq
  refine assign_Tuple_tuple (I.ok.hd hc) ht (by simp [hn, ← hl, rv.length]) hst fun h' hx => ?_
  have I1 : Inv X pins σ H { s with heap := h' } := I.kept (t' := s.toks) fun b o e => hx b o (Nat.ne_of_lt (Heap.lt_size e)) e
  exact h pins _ σ H xs _ Q I1 (by simpa using rv) hw
def gSub (to ti : TE) (t : TSet) : TG := fun v σ H Q => to σ H fun o H1 => ti σ H1 fun i H2 => t o i v H2 fun H3 => Q σ H3
theorem pg_sub {o i : Expr} {to ti : TE} {t : TSet} (ho : PE X o to) (hi : PE X i ti) (hs : PSet X t)
    (ha : ∀ v, assign (.Subscript o i pos) X.env v = (do
      let ov ← holding [v] (eval o X.env)
      let iv ← holding [v, ov] (eval i X.env)
      standAt pos
      holding [v, ov, iv] (setItem ov iv v)
      release [v, ov, iv] []) := by intro _; rfl) : PG X (.Subscript o i pos) (gSub to ti t) := by
  intro pins s σ H v u Q I r h
  rw [ha]
  refine wpAny_bind (wpAny_holding (thn (ho pins s σ H _ I h) fun ov s1 ⟨x, H1, I1, r1, q1⟩ => ?_))
  refine wpAny_bind (wpAny_holding (thn (hi pins s1 σ H1 _ I1 q1) fun iv s2 ⟨y, H2, I2, r2, q2⟩ => ?_))
  refine wpAny_bind (wpAny_standAt (wpAny_bind (wpAny_holding (thn (hs pins s2 σ H2 x y v ov iv u _ I2 r1 r2 r q2) fun _ s3 ⟨H3, I3, q3⟩ => ?_))))
  exact wpAny_release ⟨σ, H3, I3, q3⟩
def tAsg (te : TE) (g : TG) : TS := fun D σ H => te σ H fun x H1 => g x σ H1 D.nx
theorem ps_asg {tg e : Expr} {te : TE} {g : TG} (he : PE X e te) (hg : PG X tg g) (hs : swapsWithSole [tg] e pos.line X.env = pure false := by rfl) (hw : swappedStores [tg] e X.env = pure none := by rfl)
    (h1 : (assignEach [tg] X.env).map (·.2) = [assign tg X.env] := by rfl) : PS X (.Assign [tg] e pos) (tAsg te g) := by
  intro pins s σ H D I h
  refine wpAny_Assign_stores (thn (he pins s σ H _ I h) fun v s1 ⟨x, H1, I1, r1, q1⟩ => ?_) hs hw
  rw [h1]
  exact thn (hg pins s1 σ H1 x v _ I1 r1 q1) fun _ s2 q => q
theorem ps_set {i : Nat} {x : Str} {e : Expr} {te : TE} {pos' : Pos} (hN : X.N.Nodup) (hi : X.N[i]? = some x) (hx : Loc X.env.scope x) (he : PE X e te) (hs : swapsWith e (some (.Name x pos')) pos.line X.env = pure false := by rfl) (hf : X.fn x = true ∨ X.env.scope.names.lookup x = some .local := by first | exact .inl rfl | exact .inr rfl | assumption) :
    PS X (.Assign [.Name x pos'] e pos) (tAsg te (gName i)) := by
  intro pins s σ H D I h
  refine wpAny_Assign_Name (thn (he pins s σ H _ I h) fun v s1 ⟨y, H1, I1, r1, q1⟩ => ?_) hs
  exact store_ok I1 hN hi hx r1 (fun s2 I2 => ⟨_, H1, I2, q1⟩) hf
def tPar (i j : Nat) (ta : TA) : TS := fun D σ H => ta σ H fun vs H1 => ∃ v w, vs = [v, w] ∧ D.nx ((σ.set i (some v)).set j (some w)) H1
def tAug (i : Nat) (te : TE) (ti : TIp) : TS := fun D σ H => ∃ x, σ[i]? = some (some x) ∧ te σ H fun y H1 => ti x y H1 fun z H2 => D.nx (σ.set i (some z)) H2
theorem ps_aug {i : Nat} {x : Str} {e : Expr} {te : TE} {op : Operator} {ti : TIp} {pos' : Pos} (hN : X.N.Nodup) (hi : X.N[i]? = some x) (hx : Loc X.env.scope x) (he : PE X e te) (ho : PIp X op ti) (hf : X.fn x = true ∨ X.env.scope.names.lookup x = some .local := by first | exact .inl rfl | exact .inr rfl | assumption) :
    PS X (.AugAssign (.Name x pos') op e pos) (tAug i te ti) := by
  intro pins s σ H D I h
  obtain ⟨v, e1, h⟩ := h
  obtain ⟨m, hn, hl⟩ := I.loc
  have vis : Vis X.env.scope x := by rcases hx with k | k; exact .inl k; exact .inr (.inl k)
  obtain ⟨u, r, l⟩ := hl i x v hi e1 vis
  refine wpAny_AugAssign_Name ?_
  have go : wpAny (model X.prog X.w) X.A (eval e X.env) (fun w s₂ => wpAny (model X.prog X.w) X.A (inplaceOp op u w) (fun r s₃ => wpAny (model X.prog X.w) X.A (storeName X.env x r) (fun _ => SP X pins D .next) X.xe s₃) X.xe s₂) X.xe s := by
    refine thn (he pins s σ H _ I h) fun w s1 ⟨y, H1, I1, r1, q1⟩ => ?_
    refine thn (ho pins s1 σ H1 v y u w _ I1 r r1 q1) fun z s2 ⟨zv, H2, I2, r2, q2⟩ => ?_
    exact store_ok I2 hN hi hx r2 (fun s3 I3 => ⟨_, H2, I3, q2⟩) hf
  rcases l with ⟨hk, hm⟩ | ⟨hk, c, hc, hcell⟩
  · exact wpAny_loadName_local I.ok.kind hk hn hm go
  · rcases hk with hk | hk
    · exact wpAny_loadName_cell I.ok.kind hk hc hcell go
    · rcases hx with k | k
      · have : X.env.scope.names.lookup x = some .free := hk
        rw [k] at this; cases this
      · have : X.env.scope.names.lookup x = some .free := hk
        rw [k] at this; cases this
def tAugS (to ti te : TE) (tget : V → V → Hp → VK → Prop) (tip : TIp) (tset : TSet) : TS := fun D σ H => to σ H fun o H1 => ti σ H1 fun i H2 => tget o i H2 fun x H3 => te σ H3 fun y H4 => tip x y H4 fun z H5 => tset o i z H5 fun H6 => D.nx σ H6
def PGet (X : Cx) (t : V → V → Hp → VK → Prop) : Prop :=
  ∀ (pins : List (Addr × Obj)) (s : Shared) (σ : St) (H : Hp) (o i : V) (ov iv : Value) (Q : VK), Inv X pins σ H s → RelV o ov → RelV i iv → t o i H Q →
    wpAny (model X.prog X.w) X.A (getItem ov iv) (EP X pins σ Q) X.xe s
theorem ps_augS {o i e : Expr} {to ti te : TE} {tget : V → V → Hp → VK → Prop} {tip : TIp} {tset : TSet} {op : Operator} {tpos : Pos} (ho : PE X o to) (hi : PE X i ti) (hg : PGet X tget) (he : PE X e te) (hp : PIp X op tip) (hs : PSet X tset)
    (ha : ∀ ov iv new, augStore i ov iv new = (do holding [new, ov, iv] (setItem ov iv new); release [new, ov, iv] []; pure .next) := by intros; rfl) : PS X (.AugAssign (.Subscript o i tpos) op e pos) (tAugS to ti te tget tip tset) := by
  intro pins s σ H D I h
  refine wpAny_AugAssign_SubscriptAny (thn (ho pins s σ H _ I h) fun ov s1 ⟨x1, H1, I1, r1, q1⟩ => ?_) ha
  refine thn (hi pins s1 σ H1 _ I1 q1) fun iv s2 ⟨x2, H2, I2, r2, q2⟩ => ?_
  refine thn (hg pins s2 σ H2 x1 x2 ov iv _ I2 r1 r2 q2) fun old s3 ⟨x3, H3, I3, r3, q3⟩ => ?_
  refine thn (he pins s3 σ H3 _ I3 q3) fun v s4 ⟨x4, H4, I4, r4, q4⟩ => ?_
  refine thn (hp pins s4 σ H4 x3 x4 old v _ I4 r3 r4 q4) fun new s5 ⟨x5, H5, I5, r5, q5⟩ => ?_
  exact thn (hs pins s5 σ H5 x1 x2 x5 ov iv new _ I5 r1 r2 r5 q5) fun _ s6 ⟨H6, I6, q6⟩ => ⟨σ, H6, I6, q6⟩
def ipI (f : Int → Int → Int) : TIp := fun x y H Q => ∃ i j, x = .int i ∧ y = .int j ∧ Q (.int (f i j)) H
theorem ip_add : PIp X .Add (ipI fun i j => i + j) := by
  intro pins s σ H x y v u Q I r1 r2 h
  obtain ⟨i, j, e1, e2, q⟩ := h
  subst e1; subst e2
  obtain ⟨t, rfl⟩ := r1
  obtain ⟨t', rfl⟩ := r2
  exact iadd_int ⟨.int _, H, I.tok _, ⟨_, rfl⟩, q⟩
end
section
variable {X : Cx} {pos : Pos}
end
structure It where
  go : Nat → Hp → Prop
  yld : Nat → Hp → V → Hp → Prop
  stop : Nat → Hp → Prop
def FpOk (X : Cx) (pins : List (Addr × Obj)) (H : Hp) (b : Addr) : Prop :=
  H b = none ∧ b ≠ X.env.locals ∧ b ∉ X.fs ∧ (b ∈ X.ex ∨ X.s₀.heap.objs.size ≤ b) ∧ (∀ x c, X.env.cells.lookup x = some c → c ≠ b) ∧ ∀ p ∈ X.pn ++ pins, p.1 ≠ b
theorem Inv.fpOk {X : Cx} {pins : List (Addr × Obj)} {σ : St} {H H' : Hp} {s : Shared} {b : Addr} (I : Inv X pins σ H s) (hb : s.heap.objs.size ≤ b) (hn : H' b = none) : FpOk X pins H' b := by
  refine ⟨hn, Nat.ne_of_gt (Nat.lt_of_lt_of_le I.lt hb), I.nofs hb, .inr (Nat.le_trans I.sz hb), fun x c e z => ?_, fun p hp z => ?_⟩
  · obtain ⟨v, q⟩ := I.cell x c e
    exact absurd (Nat.lt_of_lt_of_le q.lt (by rw [z]; exact hb)) (Nat.lt_irrefl _)
  · exact absurd (Nat.lt_of_lt_of_le (Heap.lt_size (I.pin p hp).1) (by rw [z]; exact hb)) (Nat.lt_irrefl _)
structure Turn (P : Program) (w : World) (K : PySem.W.Frag) (tg : Expr) (J : It) (fp : List Addr) (it : Addr) (tn : Nat → Heap → Prop) : Prop where
  mem : it ∈ fp
  obj : ∀ i h, tn i h → ∀ b ∈ fp, ∃ o, h.get? b = some o ∧ ∀ v, o.data ≠ .cell v
  keep : ∀ i h h', tn i h → (∀ b ∈ fp, ∀ o, h.get? b = some o → h'.get? b = some o) → tn i h'
  item : ∀ (X : Cx), X.prog = P → X.w = w → X.K = K → X.calm = true → ∀ (i : Nat) (pins : List (Addr × Obj)) (s : Shared) (σ : St) (H : Hp) (E : Value → Shared → Prop), Inv X pins σ H s → (∀ b ∈ fp, FpOk X pins H b) → tn i s.heap → J.go i H →
    wpAny (model P w) X.A (pyNext (.ref it)) (fun r s1 => ∃ u, r = some u ∧
      wpAny (model P w) X.A (letOwnedTupleGo tg (.ref it) u) (fun _ s2 => ∃ x H', Inv X pins σ H' s2 ∧ RelV x u ∧ J.yld i H x H' ∧ tn (i + 1) s2.heap ∧ ∀ b ∈ fp, H' b = none) E s1) E s
  done : ∀ (X : Cx), X.prog = P → X.w = w → X.K = K → X.calm = true → ∀ (i : Nat) (pins : List (Addr × Obj)) (s : Shared) (σ : St) (H : Hp) (E : Value → Shared → Prop), Inv X pins σ H s → (∀ b ∈ fp, FpOk X pins H b) → tn i s.heap → J.stop i H →
    wpAny (model P w) X.A (pyNext (.ref it)) (fun r s1 => r = none ∧ Inv X pins σ H s1) E s
  self : ∀ (A : Around) (i : Nat) (s : Shared) (Q : Value → Shared → Prop) (E : Value → Shared → Prop), tn i s.heap → Q (.ref it) s → wpAny (model P w) A (pyIter (.ref it)) Q E s
abbrev TI := St → Hp → (It → Hp → Prop) → Prop
def PIE (X : Cx) (pins : List (Addr × Obj)) (σ : St) (tg : Expr) (R : It → Hp → Prop) (itv : Value) (s2 : Shared) : Prop :=
  ∃ (it : Addr) (fp : List Addr) (tn : Nat → Heap → Prop) (J : It) (H' : Hp), itv = .ref it ∧ Inv X pins σ H' s2 ∧ Turn X.prog X.w X.K tg J fp it tn ∧ tn 0 s2.heap ∧ (∀ b ∈ fp, FpOk X pins H' b) ∧ R J H'
def PI (X : Cx) (tg iter : Expr) (wi : TI) : Prop :=
  ∀ (pins : List (Addr × Obj)) (s : Shared) (σ : St) (H : Hp) (R : It → Hp → Prop), Inv X pins σ H s → wi σ H R →
    wpAny (model X.prog X.w) X.A (eval iter X.env) (fun v s1 => wpAny (model X.prog X.w) X.A (pyIter v) (PIE X pins σ tg R) X.xe s1) X.xe s
theorem go_of {M : Model} {A : Around} {E : Value → Shared → Prop} {s : Shared} {tg : Expr} {it : Addr} {u : Value} {o : Obj} {n : String} {vs : Array Value} {Q : Unit → Shared → Prop} (ho : s.heap.get? it = some o) (hc : o.cls = .type n) (hd : o.data = .fields vs)
    (hn : ["enumerate", "zip", "dict_itemiterator", "dict_reverseitemiterator", "odict_iterator", "itertools.zip_longest", "itertools.pairwise"].contains n = false) (hQ : Q () s) : wpAny M A (letOwnedTupleGo tg (.ref it) u) Q E s := by
  unfold letOwnedTupleGo
  cases tg <;> first
    | exact wpAny_pure hQ
    | (cases u <;> first
        | exact wpAny_pure hQ
        | (refine wpAny_bind (wpAny_load ho ?_)
           rw [hc, hd]
           show wpAny M A (if (["enumerate", "zip", "dict_itemiterator", "dict_reverseitemiterator", "odict_iterator", "itertools.zip_longest", "itertools.pairwise"].contains n && vs[0]? == some (rawInt _)) = true then _ else _) Q E s
           rw [if_neg (by intro h; rw [hn, Bool.false_and] at h; cases h)]
           exact wpAny_pure hQ))
def Itl (K : PySem.W.Frag) (a : Addr) : It :=
  ⟨fun i H => ∃ xs x, SqL K H a xs ∧ xs[i]? = some x, fun i H x H' => H' = H ∧ ∀ xs, SqL K H a xs → xs[i]? = some x, fun i H => ∃ xs, SqL K H a xs ∧ xs.length ≤ i⟩
def Itt (K : PySem.W.Frag) (a : Addr) : It :=
  ⟨fun i H => ∃ xs x, SqT K H a xs ∧ xs[i]? = some x, fun i H x H' => H' = H ∧ ∀ xs, SqT K H a xs → xs[i]? = some x, fun i H => ∃ xs, SqT K H a xs ∧ xs.length ≤ i⟩
def Itr (lo : Int) (n : Nat) : It := ⟨fun i _ => i < n, fun i H x H' => H' = H ∧ x = .int (lo + i), fun i _ => n ≤ i⟩
theorem turn_list {P : Program} {w : World} {K : PySem.W.Frag} {tg : Expr} (a it : Addr) : Turn P w K tg (Itl K a) [it] it (fun i h => h.IsListIter it a i) where
  mem := by simp
  obj := fun i h st b hb => by
    have e : b = it := by simpa using hb
    subst e
    obtain ⟨o, e, c, d⟩ := st
    exact ⟨o, e, fun v z => by rw [d] at z; cases z⟩
  keep := fun i h h' st k => st.at fun o e => k it (by simp) o e
  item := by
    intro X hP hw hK hc i pins s σ H E I hf st hg
    subst hP hw hK
    obtain ⟨xs, x, hq, hx⟩ := hg
    obtain ⟨its, rv, p, hz⟩ := I.list hq
    obtain ⟨u, hu, ru⟩ := rv.get hx
    obtain ⟨f0, f1, f2, f3, f4, f5⟩ := hf it (by simp)
    refine wpAny_pyNext_list_item st p.isList (x := u) (by simpa using hu) fun h' st' sb => ?_
    have I1 : Inv X pins σ H { s with heap := h' } := I.turned (t' := s.toks) (fun b o hb e => (sb.2 b hb).trans e) f0 f1 f3 f4 f5
    obtain ⟨o, e, c, d⟩ := id st'
    exact ⟨u, rfl, go_of (s := { s with heap := h' }) e c d (by decide) ⟨x, H, I1, ru, ⟨rfl, fun ys hy => by rw [I.list_inj hy hq]; exact hx⟩, st', fun b hb => (hf b hb).1⟩⟩
  done := by
    intro X hP hw hK hc i pins s σ H E I hf st hg
    subst hP hw hK
    obtain ⟨xs, hq, hx⟩ := hg
    obtain ⟨its, rv, p, hz⟩ := I.list hq
    obtain ⟨f0, f1, f2, f3, f4, f5⟩ := hf it (by simp)
    have hl := rv.length
    exact wpAny_pyNext_list_end (I.ok.hd hc) st p.isList (by simp; omega) fun h' eb => ⟨rfl, I.turned (t' := s.toks) (fun b o hb e => eb b o hb e) f0 f1 f3 f4 f5⟩
  self := fun _ _ _ _ _ st h => wpAny_pyIter_listiter st h
theorem turn_tuple {P : Program} {w : World} {K : PySem.W.Frag} {tg : Expr} (a it : Addr) : Turn P w K tg (Itt K a) [it] it (fun i h => h.IsTupleIter it a i) where
  mem := by simp
  obj := fun i h st b hb => by
    have e : b = it := by simpa using hb
    subst e
    obtain ⟨o, e, c, d⟩ := st
    exact ⟨o, e, fun v z => by rw [d] at z; cases z⟩
  keep := fun i h h' st k => st.at fun o e => k it (by simp) o e
  item := by
    intro X hP hw hK hc i pins s σ H E I hf st hg
    subst hP hw hK
    obtain ⟨xs, x, hq, hx⟩ := hg
    obtain ⟨its, rv, p, hz⟩ := I.tuple hq
    obtain ⟨u, hu, ru⟩ := rv.get hx
    obtain ⟨f0, f1, f2, f3, f4, f5⟩ := hf it (by simp)
    refine wpAny_pyNext_tuple_item st (show s.heap.IsTuple a its.toArray from p) (x := u) (by simpa using hu) fun h' st' sb => ?_
    have I1 : Inv X pins σ H { s with heap := h' } := I.turned (t' := s.toks) (fun b o hb e => (sb.2 b hb).trans e) f0 f1 f3 f4 f5
    obtain ⟨o, e, c, d⟩ := id st'
    exact ⟨u, rfl, go_of (s := { s with heap := h' }) e c d (by decide) ⟨x, H, I1, ru, ⟨rfl, fun ys hy => by rw [I.tuple_inj hy hq]; exact hx⟩, st', fun b hb => (hf b hb).1⟩⟩
  done := by
    intro X hP hw hK hc i pins s σ H E I hf st hg
    subst hP hw hK
    obtain ⟨xs, hq, hx⟩ := hg
    obtain ⟨its, rv, p, hz⟩ := I.tuple hq
    obtain ⟨f0, f1, f2, f3, f4, f5⟩ := hf it (by simp)
    have hl := rv.length
    exact wpAny_pyNext_tuple_end (I.ok.hd hc) st (show s.heap.IsTuple a its.toArray from p) (by simp; omega) fun h' eb => ⟨rfl, I.turned (t' := s.toks) (fun b o hb e => eb b o hb e) f0 f1 f3 f4 f5⟩
  self := fun _ _ _ _ _ st h => wpAny_pyIter_tupleiter st h
theorem turn_range {P : Program} {w : World} {K : PySem.W.Frag} {tg : Expr} (it : Addr) (lo : Int) (n : Nat) : Turn P w K tg (Itr lo n) [it] it (fun i h => IsRangeIter h it (lo + (i : Nat) * 1) ((n : Int) - (i : Nat)) 1) where
  mem := by simp
  obj := fun i h st b hb => by
    have e : b = it := by simpa using hb
    subst e
    exact ⟨_, st, fun v z => by
      have z' : Data.fields _ = Data.cell v := z
      cases z'⟩
  keep := fun i h h' st k => k it (by simp) _ st
  item := by
    intro X hP hw hK hc i pins s σ H E I hf st hg
    subst hP hw hK
    obtain ⟨f0, f1, f2, f3, f4, f5⟩ := hf it (by simp)
    have W := Walks.range (prog := X.prog) (w := X.w) (I.ok.hd hc) it lo 1 n
    refine W.item i s _ _ hg st fun v h' tk hv st' kk => ?_
    obtain ⟨t, rfl⟩ := hv
    have I1 : Inv X pins σ H { s with heap := h', toks := tk } := I.turned (fun b o hb e => kk b o (by simpa using hb) e) f0 f1 f3 f4 f5
    refine ⟨_, rfl, go_of (s := { s with heap := h', toks := tk }) (n := "range_iterator") st' rfl rfl (by decide) ⟨.int (lo + i), H, I1, ⟨t, ?_⟩, ⟨rfl, rfl⟩, st', fun b hb => (hf b hb).1⟩⟩
    rw [Int.mul_one]
  done := by
    intro X hP hw hK hc i pins s σ H E I hf st hg
    subst hP hw hK
    obtain ⟨f0, f1, f2, f3, f4, f5⟩ := hf it (by simp)
    exact wpAny_pyNext_range_end (I.ok.hd hc) st (by have : n ≤ i := hg; omega) fun h' eb => ⟨rfl, I.turned (t' := s.toks) (fun b o hb e => eb b o hb e) f0 f1 f3 f4 f5⟩
  self := fun _ _ _ _ _ st h => wpAny_pyIter_rangeiter st h
end L2
namespace L2
open PySem PySem.Spec PyProof.Rows
section
variable {X : Cx} {tg : Expr}
def iList (K : PySem.W.Frag) (tl : TE) : TI := fun σ H R => tl σ H fun x H1 => ∃ a, x = .ref a ∧ (∃ xs, SqL K H1 a xs) ∧ R (Itl K a) H1
def iTup (K : PySem.W.Frag) (tl : TE) : TI := fun σ H R => tl σ H fun x H1 => ∃ a, x = .ref a ∧ (∃ xs, SqT K H1 a xs) ∧ R (Itt K a) H1
theorem pi_list {l : Expr} {tl : TE} (hl : PE X l tl) : PI X tg l (iList X.K tl) := by
  intro pins s σ H R I h
  refine thn (hl pins s σ H _ I h) fun v s1 ⟨x, H1, I1, r1, q1⟩ => ?_
  obtain ⟨a, e, ⟨xs, hq⟩, q⟩ := q1
  subst e
  cases r1
  obtain ⟨its, rv, p, hz⟩ := I1.list hq
  refine wpAny_pyIter_list p.isList ?_
  refine ⟨s1.heap.objs.size, [s1.heap.objs.size], _, _, H1, rfl, I1.kept (t' := s1.toks) fun b o e => Heap.get?_push_of_some _ e, turn_list a _, ⟨_, Heap.get?_push_size _ rfl, rfl, rfl⟩, fun b hb => ?_, q⟩
  have e : b = s1.heap.objs.size := by simpa using hb
  subst e
  exact I1.fpOk (Nat.le_refl _) (I1.hok.fresh (Nat.le_refl _))
theorem pi_tup {l : Expr} {tl : TE} (hl : PE X l tl) : PI X tg l (iTup X.K tl) := by
  intro pins s σ H R I h
  refine thn (hl pins s σ H _ I h) fun v s1 ⟨x, H1, I1, r1, q1⟩ => ?_
  obtain ⟨a, e, ⟨xs, hq⟩, q⟩ := q1
  subst e
  cases r1
  obtain ⟨its, rv, p, hz⟩ := I1.tuple hq
  refine wpAny_pyIter_tuple (show s1.heap.IsTuple a its.toArray from p) ?_
  refine ⟨s1.heap.objs.size, [s1.heap.objs.size], _, _, H1, rfl, I1.kept (t' := s1.toks) fun b o e => Heap.get?_push_of_some _ e, turn_tuple a _, ⟨_, Heap.get?_push_size _ rfl, rfl, rfl⟩, fun b hb => ?_, q⟩
  have e : b = s1.heap.objs.size := by simpa using hb
  subst e
  exact I1.fpOk (Nat.le_refl _) (I1.hok.fresh (Nat.le_refl _))
theorem range_it {pins : List (Addr × Obj)} {σ : St} {H : Hp} {s : Shared} {R : It → Hp → Prop} {E : Value → Shared → Prop} {lo hi : Int} {t u v : Tok} {tk : Nat} (I : Inv X pins σ H s) (h1 : -(2 ^ 62) ≤ lo) (h2 : lo < 2 ^ 62) (h3 : -(2 ^ 62) ≤ hi) (h4 : hi < 2 ^ 62)
    (q : R (Itr lo (hi - lo).toNat) H) : wpAny (model X.prog X.w) X.A (pyIter (.ref s.heap.objs.size)) (PIE X pins σ tg R) E { s with heap := s.heap.push { cls := .type "range", data := .fields #[.int lo t, .int hi u, .int 1 v] }, toks := tk } := by
  refine wpAny_pyIter_range (IsRange.new ..) (small_one h1 h2 h3 h4) ?_
  have I1 : Inv X pins σ H { s with heap := s.heap.push { cls := .type "range", data := .fields #[.int lo t, .int hi u, .int 1 v] }, toks := tk } := I.kept fun b o e => Heap.get?_push_of_some _ e
  refine ⟨(s.heap.push { cls := .type "range", data := .fields #[.int lo t, .int hi u, .int 1 v] }).objs.size, [(s.heap.push { cls := .type "range", data := .fields #[.int lo t, .int hi u, .int 1 v] }).objs.size], _, _, H, rfl,
    I1.kept (t' := tk) fun b o e => Heap.get?_push_of_some _ e, turn_range _ lo (hi - lo).toNat, ?_, fun b hb => ?_, q⟩
  · have e1 : lo + ((0 : Nat) : Int) * 1 = lo := by simp
    have e2 : (((hi - lo).toNat : Nat) : Int) - ((0 : Nat) : Int) = Builtin.Range.rangeSize lo hi 1 := by rw [rangeSize_one]; split <;> omega
    show IsRangeIter _ _ (lo + ((0 : Nat) : Int) * 1) ((((hi - lo).toNat : Nat) : Int) - ((0 : Nat) : Int)) 1
    rw [e1, e2]
    exact Heap.get?_push_size _ rfl
  · have e : b = (s.heap.push { cls := .type "range", data := .fields #[.int lo t, .int hi u, .int 1 v] }).objs.size := by simpa using hb
    subst e
    exact I1.fpOk (Nat.le_refl _) (I1.hok.fresh (Nat.le_refl _))
def iRng1 (ta : TA) : TI := fun σ H R => ta σ H fun vs H1 => ∃ j : Int, vs = [.int j] ∧ -(2 ^ 62) ≤ j ∧ j < 2 ^ 62 ∧ R (Itr 0 j.toNat) H1
def iRng2 (ta : TA) : TI := fun σ H R => ta σ H fun vs H1 => ∃ i j : Int, vs = [.int i, .int j] ∧ (-(2 ^ 62) ≤ i ∧ i < 2 ^ 62 ∧ -(2 ^ 62) ≤ j ∧ j < 2 ^ 62) ∧ R (Itr i (j - i).toNat) H1
theorem pi_range1 {a : Expr} {ta : TA} {p pos : Pos} (hg : Gl X "range") (hm : X.mg "range" = none) (ha : PA X [a] ta) (hs : starEach [a] X.env = [(false, eval a X.env)] := by rfl) : PI X tg (.Call (.Name "range" p) [a] [] pos) (iRng1 ta) := by
  intro pins s σ H R I h
  refine Call_ (ld_blt I hg hm boot_range (PyProof.Rows.callWith_type1 (thn (ha pos pins s σ H _ I h) fun us s1 ⟨vs, H1, I1, r1, q1⟩ => ?_) hs rfl))
  obtain ⟨j, e, q1, q2, q⟩ := q1
  subst e
  cases r1 with
  | cons r rr =>
    cases rr
    obtain ⟨t, rfl⟩ := r
    exact call_range_1 (range_it I1 (by omega) (by omega) q1 q2 (by simpa using q))
theorem pi_range2 {a b : Expr} {ta : TA} {p pos : Pos} (hg : Gl X "range") (hm : X.mg "range" = none) (ha : PA X [a, b] ta) (hs : starEach [a, b] X.env = [(false, eval a X.env), (false, eval b X.env)] := by rfl) (hs2 : starEach [b] X.env = [(false, eval b X.env)] := by rfl) :
    PI X tg (.Call (.Name "range" p) [a, b] [] pos) (iRng2 ta) := by
  intro pins s σ H R I h
  refine Call_ (ld_blt I hg hm boot_range (PyProof.Rows.callWith_type1 (thn (ha pos pins s σ H _ I h) fun us s1 ⟨vs, H1, I1, r1, q1⟩ => ?_) (by rw [hs, hs2]) (by rw [hs2]; rfl)))
  obtain ⟨i, j, e, ⟨q1, q2, q3, q4⟩, q⟩ := q1
  subst e
  cases r1 with
  | cons r rr =>
    cases rr with
    | cons r' rr =>
      cases rr
      obtain ⟨t, rfl⟩ := r
      obtain ⟨t', rfl⟩ := r'
      exact call_range_2 (range_it I1 q1 q2 q3 q4 q)
def tFor (wi : TI) (g : TG) (tb : TS) : TS := fun D σ H => wi σ H fun J H1 => ∃ W : Nat → Nat → St → Hp → Prop, (∃ m, W 0 m σ H1) ∧ ∀ i m σ H, W i m σ H →
  (J.stop i H ∧ D.nx σ H) ∨ (J.go i H ∧ ∃ N : St → Hp → Prop, (∀ σ' H', N σ' H' → ∃ m', m' < m ∧ W (i + 1) m' σ' H') ∧ ∀ x H', J.yld i H x H' → g x σ H' fun σ2 H2 => tb { D with nx := N, ct := N, bk := D.nx } σ2 H2)
def pinsAt (fp : List Addr) (h : Heap) : List (Addr × Obj) := fp.filterMap fun b => (h.get? b).map fun o => (b, o)
theorem mem_pinsAt {fp : List Addr} {h : Heap} {b : Addr} {o : Obj} (hb : b ∈ fp) (e : h.get? b = some o) : (b, o) ∈ pinsAt fp h := List.mem_filterMap.mpr ⟨b, hb, by rw [e]; rfl⟩
theorem of_pinsAt {fp : List Addr} {h : Heap} {p : Addr × Obj} (hp : p ∈ pinsAt fp h) : p.1 ∈ fp ∧ h.get? p.1 = some p.2 := by
  obtain ⟨b, hb, e⟩ := List.mem_filterMap.mp hp
  cases q : h.get? b with
  | none => rw [q] at e; cases e
  | some o =>
    rw [q] at e
    have e' : (b, o) = p := Option.some.inj e
    subst e'
    exact ⟨hb, q⟩
theorem Inv.pinned {pins : List (Addr × Obj)} {σ : St} {H : Hp} {s : Shared} {fp : List Addr} (I : Inv X pins σ H s) (hf : ∀ b ∈ fp, FpOk X pins H b) (ho : ∀ b ∈ fp, ∃ o, s.heap.get? b = some o ∧ ∀ v, o.data ≠ .cell v) : Inv X (pins ++ pinsAt fp s.heap) σ H s :=
  I.pins_of fun p hp => (List.mem_append.mp hp).elim (fun z => I.pin p (List.mem_append_right _ z)) fun z => by
    obtain ⟨hb, e⟩ := of_pinsAt z
    obtain ⟨f0, f1, f2, _⟩ := hf p.1 hb
    obtain ⟨o, e', d⟩ := ho p.1 hb
    rw [e] at e'; cases e'
    exact ⟨e, f0, f1, f2, d⟩
theorem Inv.unpinned {pins pl : List (Addr × Obj)} {σ : St} {H : Hp} {s : Shared} (I : Inv X (pins ++ pl) σ H s) : Inv X pins σ H s := I.pins_of fun p hp => I.pin p (List.mem_append_right _ (List.mem_append_left _ hp))
theorem ps_for {iter : Expr} {body : List Stmt} {wi : TI} {g : TG} {tb : TS} {pos : Pos} (hp : PassesOwn (model X.prog X.w) X.A X.env X.xe) (hc : X.calm = true) (hi : PI X tg iter wi) (hg : PG X tg g) (hb : PSs X body tb)
    (hs : ∀ x, foldedSetIterable iter X.env x = pure x := by intro _; rfl) : PS X (.For tg iter body [] pos) (tFor wi g tb) := by
  intro pins s σ H D I h
  refine wpAny_For (thn (hi pins s σ H _ I h) fun v s1 h1 => thn h1 fun itv s2 h2 => ?_) hs
  obtain ⟨it, fp, tn, J, H2, e, I2, T, st2, f2, W, ⟨m0, w0⟩, turn⟩ := h2
  subst e
  -- what stays true of the iterator's objects through the loop
  have stat : ∀ {H' : Hp}, (∀ b ∈ fp, H' b = none) → ∀ b ∈ fp, FpOk X pins H' b := fun hn b hb => ⟨hn b hb, (f2 b hb).2⟩
  refine codeAny_forLoop_any (fun n s' => ∃ i σ' H', Inv X pins σ' H' s' ∧ tn i s'.heap ∧ (∀ b ∈ fp, H' b = none) ∧ W i n σ' H') ?_ m0 ⟨0, σ, H2, I2, st2, fun b hb => (f2 b hb).1, w0⟩
  rintro n s3 ⟨i, σ3, H3, I3, st3, fr3, w3⟩
  rcases turn i n σ3 H3 w3 with ⟨stop, qn⟩ | ⟨go, N, hN, step⟩
  · refine wpAny_passesOwn hp (thn (T.done X rfl rfl rfl hc i pins s3 σ3 H3 X.xe I3 (stat fr3) st3 stop) fun r s4 ⟨hr, I4⟩ => ?_)
    subst hr
    exact wpAny_execs_nil ⟨σ3, H3, I4, qn⟩
  · refine wpAny_passesOwn hp (thn (T.item X rfl rfl rfl hc i pins s3 σ3 H3 X.xe I3 (stat fr3) st3 go) fun r s4 ⟨u, hr, h4⟩ => ?_)
    subst hr
    refine wpAny_passesOwn hp (thn h4 fun _ s5 ⟨x, H5, I5, r5, y5, st5, fr5⟩ => ?_)
    have I5' := I5.pinned (stat fr5) (T.obj _ _ st5)
    refine wpAny_passesOwn hp (thn (hg _ s5 σ3 H5 x u _ I5' r5 (step x H5 y5)) fun _ s6 ⟨σ6, H6, I6, q6⟩ => ?_)
    refine wpAny_passesOwn hp (thn (hb _ s6 σ6 H6 _ I6 q6) fun f s7 q7 => ?_)
    have again : ∀ {σ7 : St} {H7 : Hp}, Inv X (pins ++ pinsAt fp s5.heap) σ7 H7 s7 → N σ7 H7 → ∃ m, m < n ∧ ∃ i σ' H', Inv X pins σ' H' s7 ∧ tn i s7.heap ∧ (∀ b ∈ fp, H' b = none) ∧ W i m σ' H' := fun {σ7 H7} I7 n7 => by
      obtain ⟨m', hm, w7⟩ := hN σ7 H7 n7
      refine ⟨m', hm, i + 1, σ7, H7, I7.unpinned, T.keep _ _ _ st5 fun b hb o e => (I7.pin (b, o) (List.mem_append_right _ (List.mem_append_right _ (mem_pinsAt hb e)))).1, fun b hb => ?_, w7⟩
      obtain ⟨o, e, d⟩ := T.obj _ _ st5 b hb
      exact (I7.pin (b, o) (List.mem_append_right _ (List.mem_append_right _ (mem_pinsAt hb e)))).2.1
    cases f with
    | next => obtain ⟨σ7, H7, I7, n7⟩ := q7; exact again I7 n7
    | cont => obtain ⟨σ7, H7, I7, n7⟩ := q7; exact again I7 n7
    | brk => obtain ⟨σ7, H7, I7, q7⟩ := q7; exact ⟨σ7, H7, I7.unpinned, q7⟩
    | ret v => obtain ⟨x7, σ7, H7, I7, r7, q7⟩ := q7; exact ⟨x7, σ7, H7, I7.unpinned, r7, q7⟩
end
theorem for_list {K : PySem.W.Frag} {a : Addr} {xs : List V} {g : TG} {tb : TS} {D : Ends} {σ : St} {H : Hp} (Pv : Nat → St → Hp → Prop) (h0 : Pv 0 σ H) (hl : ∀ i σ H, i ≤ xs.length → Pv i σ H → SqL K H a xs)
    (hs : ∀ i x σ H, xs[i]? = some x → Pv i σ H → g x σ H fun σ2 H2 => tb { D with nx := Pv (i + 1), ct := Pv (i + 1), bk := D.nx } σ2 H2) (hd : ∀ σ H, Pv xs.length σ H → D.nx σ H) :
    ∃ W : Nat → Nat → St → Hp → Prop, (∃ m, W 0 m σ H) ∧ ∀ i m σ H, W i m σ H →
      ((Itl K a).stop i H ∧ D.nx σ H) ∨ ((Itl K a).go i H ∧ ∃ N : St → Hp → Prop, (∀ σ' H', N σ' H' → ∃ m', m' < m ∧ W (i + 1) m' σ' H') ∧ ∀ x H', (Itl K a).yld i H x H' → g x σ H' fun σ2 H2 => tb { D with nx := N, ct := N, bk := D.nx } σ2 H2) := by
  refine ⟨fun i m σ H => m = xs.length - i ∧ i ≤ xs.length ∧ Pv i σ H, ⟨xs.length, by simp, Nat.zero_le _, h0⟩, ?_⟩
  rintro i m σ H ⟨rfl, hi, p⟩
  have q := hl i σ H hi p
  by_cases hlt : i < xs.length
  · refine .inr ⟨⟨xs, xs[i], q, by simp [hlt]⟩, Pv (i + 1), fun σ' H' p' => ⟨xs.length - (i + 1), by omega, rfl, hlt, p'⟩, fun x H' y => ?_⟩
    obtain ⟨e, y⟩ := y
    subst e
    exact hs i x σ _ (y xs q) p
  · have e : i = xs.length := by omega
    subst e
    exact .inl ⟨⟨xs, q, Nat.le_refl _⟩, hd σ H p⟩
theorem for_tup {K : PySem.W.Frag} {a : Addr} {xs : List V} {g : TG} {tb : TS} {D : Ends} {σ : St} {H : Hp} (Pv : Nat → St → Hp → Prop) (h0 : Pv 0 σ H) (hl : ∀ i σ H, i ≤ xs.length → Pv i σ H → SqT K H a xs)
    (hs : ∀ i x σ H, xs[i]? = some x → Pv i σ H → g x σ H fun σ2 H2 => tb { D with nx := Pv (i + 1), ct := Pv (i + 1), bk := D.nx } σ2 H2) (hd : ∀ σ H, Pv xs.length σ H → D.nx σ H) :
    ∃ W : Nat → Nat → St → Hp → Prop, (∃ m, W 0 m σ H) ∧ ∀ i m σ H, W i m σ H →
      ((Itt K a).stop i H ∧ D.nx σ H) ∨ ((Itt K a).go i H ∧ ∃ N : St → Hp → Prop, (∀ σ' H', N σ' H' → ∃ m', m' < m ∧ W (i + 1) m' σ' H') ∧ ∀ x H', (Itt K a).yld i H x H' → g x σ H' fun σ2 H2 => tb { D with nx := N, ct := N, bk := D.nx } σ2 H2) := by
  refine ⟨fun i m σ H => m = xs.length - i ∧ i ≤ xs.length ∧ Pv i σ H, ⟨xs.length, by simp, Nat.zero_le _, h0⟩, ?_⟩
  rintro i m σ H ⟨rfl, hi, p⟩
  have q := hl i σ H hi p
  by_cases hlt : i < xs.length
  · refine .inr ⟨⟨xs, xs[i], q, by simp [hlt]⟩, Pv (i + 1), fun σ' H' p' => ⟨xs.length - (i + 1), by omega, rfl, hlt, p'⟩, fun x H' y => ?_⟩
    obtain ⟨e, y⟩ := y
    subst e
    exact hs i x σ _ (y xs q) p
  · have e : i = xs.length := by omega
    subst e
    exact .inl ⟨⟨xs, q, Nat.le_refl _⟩, hd σ H p⟩
theorem for_range {lo : Int} {n : Nat} {g : TG} {tb : TS} {D : Ends} {σ : St} {H : Hp} (Pv : Nat → St → Hp → Prop) (h0 : Pv 0 σ H)
    (hs : ∀ i σ H, i < n → Pv i σ H → g (.int (lo + i)) σ H fun σ2 H2 => tb { D with nx := Pv (i + 1), ct := Pv (i + 1), bk := D.nx } σ2 H2) (hd : ∀ σ H, Pv n σ H → D.nx σ H) :
    ∃ W : Nat → Nat → St → Hp → Prop, (∃ m, W 0 m σ H) ∧ ∀ i m σ H, W i m σ H →
      ((Itr lo n).stop i H ∧ D.nx σ H) ∨ ((Itr lo n).go i H ∧ ∃ N : St → Hp → Prop, (∀ σ' H', N σ' H' → ∃ m', m' < m ∧ W (i + 1) m' σ' H') ∧ ∀ x H', (Itr lo n).yld i H x H' → g x σ H' fun σ2 H2 => tb { D with nx := N, ct := N, bk := D.nx } σ2 H2) := by
  refine ⟨fun i m σ H => m = n - i ∧ i ≤ n ∧ Pv i σ H, ⟨n, by simp, Nat.zero_le _, h0⟩, ?_⟩
  rintro i m σ H ⟨rfl, hi, p⟩
  by_cases hlt : i < n
  · refine .inr ⟨hlt, Pv (i + 1), fun σ' H' p' => ⟨n - (i + 1), by omega, rfl, hlt, p'⟩, fun x H' y => ?_⟩
    obtain ⟨e, y⟩ := y
    subst e y
    exact hs i σ _ hlt p
  · have e : i = n := by omega
    subst e
    exact .inl ⟨Nat.le_refl _, hd σ H p⟩
end L2
namespace L2
open PySem PySem.Spec PyProof.Rows
abbrev R2 := V → V → Hp → VK → Prop
def OpR (X : Cx) (f : Value → Value → Sem Value) (r : R2) : Prop :=
  ∀ (pins : List (Addr × Obj)) (s : Shared) (σ : St) (H : Hp) (x y : V) (v u : Value) (Q : VK), Inv X pins σ H s → RelV x v → RelV y u → r x y H Q →
    wpAny (model X.prog X.w) X.A (f v u) (EP X pins σ Q) X.xe s
def CallR (X : Cx) (f : Value) (r : List V → Hp → VK → Prop) : Prop :=
  ∀ (pins : List (Addr × Obj)) (s : Shared) (σ : St) (H : Hp) (xs : List V) (us : List Value) (Q : VK), Inv X pins σ H s → Vals xs us → r xs H Q →
    wpAny (model X.prog X.w) X.A (call f us) (EP X pins σ Q) X.xe s
def tOp (r : R2) (ta tb : TE) : TE := fun σ H Q => ta σ H fun x H1 => tb σ H1 fun y H2 => r x y H2 Q
def tUn (r : V → Hp → VK → Prop) (ta : TE) : TE := fun σ H Q => ta σ H fun x H1 => r x H1 Q
def rI (C : Int → Int → Prop) (g : Int → Int → V) : R2 := fun x y H Q => ∃ i j, x = .int i ∧ y = .int j ∧ C i j ∧ Q (g i j) H
def rI0 (g : Int → Int → V) : R2 := fun x y H Q => ∃ i j, x = .int i ∧ y = .int j ∧ Q (g i j) H
def rU (g : Int → V) : V → Hp → VK → Prop := fun x H Q => ∃ i, x = .int i ∧ Q (g i) H
section
variable {X : Cx} {a b c : Expr} {ta tb tc : TE} {pos : Pos}
theorem binT (ha : PE X a ta) (hb : PE X b tb) {pins : List (Addr × Obj)} {s : Shared} {σ : St} {H : Hp} {R : V → V → Hp → Prop} (I : Inv X pins σ H s)
    (h : ta σ H fun x H1 => tb σ H1 fun y H2 => R x y H2) {Q : Value → Shared → Prop} {f : Value → Value → Sem Value}
    (hf : ∀ v u s2 x y H2, Inv X pins σ H2 s2 → RelV x v → RelV y u → R x y H2 → wpAny (model X.prog X.w) X.A (f v u) Q X.xe s2) :
    wpAny (model X.prog X.w) X.A (eval a X.env) (fun v s₁ => wpAny (model X.prog X.w) X.A (eval b X.env) (fun u s₂ => wpAny (model X.prog X.w) X.A (f v u) Q X.xe s₂) X.xe s₁) X.xe s := by
  refine thn (ha pins s σ H _ I h) fun v s1 ⟨x, H1, I1, r1, q1⟩ => ?_
  refine thn (hb pins s1 σ H1 _ I1 q1) fun u s2 ⟨y, H2, I2, r2, q2⟩ => ?_
  exact hf v u s2 x y H2 I2 r1 r2 q2
theorem pe_op {op : Operator} {r : R2} (ho : OpR X (binaryOp op) r) (ha : PE X a ta) (hb : PE X b tb) : PE X (.BinOp a op b pos) (tOp r ta tb) := by
  intro pins s σ H Q I h
  exact wpAny_BinOp (binT ha hb I h fun v u s2 x y H2 I2 rx ry q => ho pins s2 σ H2 x y v u Q I2 rx ry q)
theorem opI {f : Value → Value → Sem Value} {C : Int → Int → Prop} {g : Int → Int → Int}
    (rule : ∀ (i j : Int) (t u : Tok) (s : Shared) (Q : Value → Shared → Prop) (E : Value → Shared → Prop), C i j → Q (.int (g i j) s.toks) { s with toks := s.toks + 1 } → wpAny (model X.prog X.w) X.A (f (.int i t) (.int j u)) Q E s) :
    OpR X f (rI C fun i j => .int (g i j)) := by
  intro pins s σ H x y v u Q I rx ry h
  obtain ⟨i, j, rfl, rfl, hc, q⟩ := h
  obtain ⟨t, rfl⟩ := rx
  obtain ⟨t', rfl⟩ := ry
  exact rule i j t t' s _ _ hc ⟨.int (g i j), H, I.tok _, ⟨_, rfl⟩, q⟩
theorem opI0 {f : Value → Value → Sem Value} {g : Int → Int → Int}
    (rule : ∀ (i j : Int) (t u : Tok) (s : Shared) (Q : Value → Shared → Prop) (E : Value → Shared → Prop), Q (.int (g i j) s.toks) { s with toks := s.toks + 1 } → wpAny (model X.prog X.w) X.A (f (.int i t) (.int j u)) Q E s) :
    OpR X f (rI0 fun i j => .int (g i j)) := by
  intro pins s σ H x y v u Q I rx ry h
  obtain ⟨i, j, rfl, rfl, q⟩ := h
  obtain ⟨t, rfl⟩ := rx
  obtain ⟨t', rfl⟩ := ry
  exact rule i j t t' s _ _ ⟨.int (g i j), H, I.tok _, ⟨_, rfl⟩, q⟩
theorem opB0 {f : Value → Value → Sem Value} {g : Int → Int → Bool}
    (rule : ∀ (i j : Int) (t u : Tok) (s : Shared) (Q : Value → Shared → Prop) (E : Value → Shared → Prop), Q (.bool (g i j)) s → wpAny (model X.prog X.w) X.A (f (.int i t) (.int j u)) Q E s) :
    OpR X f (rI0 fun i j => .bl (g i j)) := by
  intro pins s σ H x y v u Q I rx ry h
  obtain ⟨i, j, rfl, rfl, q⟩ := h
  obtain ⟨t, rfl⟩ := rx
  obtain ⟨t', rfl⟩ := ry
  exact rule i j t t' s _ _ ⟨.bl (g i j), H, I, rfl, q⟩
def CDiv (i j : Int) : Prop := 0 < j ∧ j < 1073741824
def CPow (i j : Int) : Prop := 0 ≤ j ∧ j ≤ 1000000 ∧ i.natAbs < 2 ^ 64
def CMul (i j : Int) : Prop := (-(2 ^ 64) < i ∧ i < 2 ^ 64) ∨ (-(2 ^ 64) < j ∧ j < 2 ^ 64)
theorem CMul.ok {i j : Int} (h : CMul i j) : IntMulOk i j := by
  rcases h with ⟨h1, h2⟩ | ⟨h1, h2⟩
  · exact .of_left (intBits_le_64 h1 h2)
  · exact .of_right (intBits_le_64 h1 h2)
theorem op_add : OpR X (binaryOp .Add) (rI0 fun i j => .int (i + j)) := opI0 fun _ _ _ _ _ _ _ q => add_int q
theorem op_sub : OpR X (binaryOp .Sub) (rI0 fun i j => .int (i - j)) := opI0 fun _ _ _ _ _ _ _ q => sub_int q
theorem op_mul : OpR X (binaryOp .Mult) (rI CMul fun i j => .int (i * j)) := opI fun _ _ _ _ _ _ _ hc q => mul_int q hc.ok
theorem op_fdiv : OpR X (binaryOp .FloorDiv) (rI CDiv fun i j => .int (i / j)) := opI fun i j _ _ _ _ _ hc q => by
  have h1 : (0 : Int) < j := hc.1
  have h2 : j < 1073741824 := hc.2
  exact floordiv_int (by omega) (by rw [Int.fdiv_eq_ediv_of_nonneg i (by omega)]; exact q) (.inl (PyProof.noPylong_small (by omega)))
theorem op_mod : OpR X (binaryOp .Mod) (rI (fun _ j => 0 < j) fun i j => .int (i % j)) := opI fun i j _ _ _ _ _ hc q => by
  have h1 : (0 : Int) < j := hc
  exact mod_int' (by omega) (by rw [Int.fmod_eq_emod_of_nonneg i (by omega)]; exact q)
theorem op_pow : OpR X (binaryOp .Pow) (rI CPow fun i j => .int (i ^ j.toNat)) := opI fun _ _ _ _ _ _ _ hc q => pow_int_small hc.1 hc.2.1 hc.2.2 q
end
section
variable {X : Cx} {a b c : Expr} {ta tb tc : TE} {pos : Pos}
theorem op_lt : OpR X (compareOp .Lt) (rI0 fun i j => .bl (decide (i < j))) := opB0 fun _ _ _ _ _ _ _ q => lt_int q
theorem op_le : OpR X (compareOp .LtE) (rI0 fun i j => .bl (decide (i ≤ j))) := opB0 fun _ _ _ _ _ _ _ q => le_int q
theorem op_gt : OpR X (compareOp .Gt) (rI0 fun i j => .bl (decide (j < i))) := opB0 fun _ _ _ _ _ _ _ q => gt_int q
theorem op_ge : OpR X (compareOp .GtE) (rI0 fun i j => .bl (decide (j ≤ i))) := opB0 fun _ _ _ _ _ _ _ q => ge_int q
theorem OpR.or {f : Value → Value → Sem Value} {r r' : R2} (h : OpR X f r) (h' : OpR X f r') : OpR X f (fun x y H Q => r x y H Q ∨ r' x y H Q) := by
  intro pins s σ H x y v u Q I rx ry q
  rcases q with q | q
  · exact h pins s σ H x y v u Q I rx ry q
  · exact h' pins s σ H x y v u Q I rx ry q
theorem nomark (b : Expr) {op : CmpOp} (h : op ≠ .In := by decide) (h2 : op ≠ .NotIn := by decide) : behindInMarks op b = false := by
  have e1 : (op == CmpOp.In) = false := by cases op <;> first | rfl | exact absurd rfl h
  have e2 : (op == CmpOp.NotIn) = false := by cases op <;> first | rfl | exact absurd rfl h2
  cases b <;> simp [behindInMarks, e1, e2]
theorem pe_cmpR {op : CmpOp} {r : R2} (ho : OpR X (compareOp op) r) (ha : PE X a ta) (hb : PE X b tb) (hm : behindInMarks op b = false) : PE X (.Compare a [op] [b] pos) (tOp r ta tb) := by
  intro pins s σ H Q I h
  exact wpAny_Compare1 (binT ha hb I h fun v u s2 x y H2 I2 rx ry q => ho pins s2 σ H2 x y v u Q I2 rx ry q) hm
def tTest (t : TE) : TT := fun σ H Q => t σ H fun x H' => ∃ k, x = .bl k ∧ Q k H'
theorem pt_cmpR {op : CmpOp} {r : R2} (ho : OpR X (compareOp op) r) (ha : PE X a ta) (hb : PE X b tb) (hm : behindInMarks op b = false) : PT X (.Compare a [op] [b] pos) (tTest (tOp r ta tb)) := by
  intro pins s σ H Q I h
  refine wpAny_isTrue_Compare1 (thn (ha pins s σ H _ I h) fun v s1 ⟨x, H1, I1, r1, q1⟩ => thn (hb pins s1 σ H1 _ I1 q1) fun u s2 ⟨y, H2, I2, r2, q2⟩ =>
    thn (ho pins s2 σ H2 x y v u _ I2 r1 r2 q2) fun c s3 ⟨z, H3, I3, r3, k, e, q3⟩ => ?_) hm
  subst e
  cases r3
  exact wpAny_truthy_bool ⟨H3, I3, q3⟩
def tChain (r r' : R2) (ta tb tc : TE) : TE := fun σ H Q => ta σ H fun x H1 => tb σ H1 fun y H2 => r x y H2 fun z H3 => ∃ k, z = .bl k ∧
  (if k = true then tc σ H3 fun w' H4 => r' y w' H4 Q else Q (.bl false) H3)
theorem pe_chain {op op' : CmpOp} {r r' : R2} (ho : OpR X (compareOp op) r) (ho' : OpR X (compareOp op') r') (ha : PE X a ta) (hb : PE X b tb) (hc : PE X c tc)
    (hm : lastMarks [op, op'] [b, c] = false := by with_unfolding_all rfl) : PE X (.Compare a [op, op'] [b, c] pos) (tChain r r' ta tb tc) := by
  intro pins s σ H Q I h
  refine Compare_chain (thn (ha pins s σ H _ I h) fun v s1 ⟨x, H1, I1, r1, q1⟩ => chain_link (thn (hb pins s1 σ H1 _ I1 q1) fun u s2 ⟨y, H2, I2, r2, q2⟩ =>
    thn (ho pins s2 σ H2 x y v u _ I2 r1 r2 q2) fun d s3 ⟨z, H3, I3, r3, k, e, q3⟩ => ?_)) hm
  subst e
  cases r3
  refine wpAny_truthy_bool ?_
  cases k with
  | false => exact ite_ff ⟨.bl false, H3, I3, rfl, q3⟩
  | true => exact ite_tt (chain_last (thn (hc pins s3 σ H3 _ I3 q3) fun w' s4 ⟨z', H4, I4, r4, q4⟩ => ho' pins s4 σ H4 y z' u w' Q I4 r2 r4 q4))
theorem line63 : (sizeLine : Nat) < 2 ^ 63 := by rw [sizeLine_eq]; decide
theorem vals1 {x : V} {us : List Value} (r : Vals [x] us) : ∃ u, us = [u] ∧ RelV x u := by
  cases r with
  | cons r1 r2 => cases r2; exact ⟨_, rfl, r1⟩
theorem vals2 {x y : V} {us : List Value} (r : Vals [x, y] us) : ∃ u w', us = [u, w'] ∧ RelV x u ∧ RelV y w' := by
  cases r with
  | cons r1 r2 =>
    cases r2 with
    | cons r3 r4 => cases r4; exact ⟨_, _, rfl, r1, r3⟩
theorem call_abs : CallR X (.builtin "abs") (fun xs H Q => ∃ i, xs = [.int i] ∧ Q (.int (if i < 0 then -i else i)) H) := by
  intro pins s σ H xs us Q I r h
  obtain ⟨i, rfl, q⟩ := h
  obtain ⟨u, rfl, t, rfl⟩ := vals1 r
  exact call_abs_int fun u tk => ⟨.int (if i < 0 then -i else i), H, I.tok _, ⟨_, rfl⟩, q⟩
theorem call_max2 (hc : X.calm = true) : CallR X (.builtin "max") (fun xs H Q => ∃ i j, xs = [.int i, .int j] ∧ Q (.int (if j > i then j else i)) H) := by
  intro pins s σ H xs us Q I r h
  obtain ⟨i, j, rfl, q⟩ := h
  obtain ⟨u, w', rfl, ⟨t, rfl⟩, ⟨t', rfl⟩⟩ := vals2 r
  refine max_two_ints (I.ok.hd hc) fun h' tk k => ⟨_, H, I.kept k, ?_, q⟩
  by_cases hj : j > i
  · rw [if_pos hj, if_pos hj]; exact ⟨_, rfl⟩
  · rw [if_neg hj, if_neg hj]; exact ⟨_, rfl⟩
theorem call_min2 (hc : X.calm = true) : CallR X (.builtin "min") (fun xs H Q => ∃ i j, xs = [.int i, .int j] ∧ Q (.int (if j < i then j else i)) H) := by
  intro pins s σ H xs us Q I r h
  obtain ⟨i, j, rfl, q⟩ := h
  obtain ⟨u, w', rfl, ⟨t, rfl⟩, ⟨t', rfl⟩⟩ := vals2 r
  refine min_two_ints (I.ok.hd hc) fun h' tk k => ⟨_, H, I.kept k, ?_, q⟩
  by_cases hj : j < i
  · rw [if_pos hj, if_pos hj]; exact ⟨_, rfl⟩
  · rw [if_neg hj, if_neg hj]; exact ⟨_, rfl⟩
theorem call_int1 : CallR X (.type "int") (fun xs H Q => (∃ i, xs = [.int i] ∧ Q (.int i) H) ∨ ∃ k, xs = [.bl k] ∧ Q (.int (if k then 1 else 0)) H) := by
  intro pins s σ H xs us Q I r h
  rcases h with ⟨i, rfl, q⟩ | ⟨k, rfl, q⟩
  · obtain ⟨u, rfl, t, rfl⟩ := vals1 r
    exact call_int_int ⟨.int i, H, I, ⟨_, rfl⟩, q⟩
  · obtain ⟨u, rfl, r1⟩ := vals1 r
    cases r1
    exact call_int_bool ⟨.int (if k then 1 else 0), H, I.tok _, ⟨_, rfl⟩, q⟩
def LenV (K : PySem.W.Frag) (x : V) (H : Hp) (n : Nat) : Prop :=
  match x with
  | .str y => y.length ≤ sizeLine ∧ n = y.length
  | .byt y => y.size ≤ sizeLine ∧ n = y.size
  | .ref p => (∃ xs, SqL K H p xs ∧ n = xs.length) ∨ ∃ xs, SqT K H p xs ∧ n = xs.length
  | _ => False
theorem call_len : CallR X (.builtin "len") (fun xs H Q => ∃ x n, xs = [x] ∧ LenV X.K x H n ∧ Q (.int n) H) := by
  intro pins s σ H xs us Q I r h
  obtain ⟨x, n, rfl, e, q⟩ := h
  obtain ⟨u, rfl, rx⟩ := vals1 r
  have hl := line63
  have hs : sizeLine = 16777216 := sizeLine_eq
  cases x with
  | str y =>
    obtain ⟨t, rfl⟩ := rx
    obtain ⟨hy, e'⟩ : y.length ≤ sizeLine ∧ n = y.length := e
    subst e'
    exact len_str (by omega) ⟨.int _, H, I.tok _, ⟨_, rfl⟩, q⟩
  | byt y =>
    obtain ⟨t, rfl⟩ := rx
    obtain ⟨hy, e'⟩ : y.size ≤ sizeLine ∧ n = y.size := e
    subst e'
    exact PySem.W.len_bytes (by omega) ⟨.int _, H, I.tok _, ⟨_, rfl⟩, q⟩
  | ref p =>
    cases rx
    have e' : (∃ xs, SqL X.K H p xs ∧ n = xs.length) ∨ ∃ xs, SqT X.K H p xs ∧ n = xs.length := e
    rcases e' with ⟨xs, hx, e'⟩ | ⟨xs, hx, e'⟩
    · subst e'
      obtain ⟨its, r', pl, hz⟩ := I.list hx
      have hlen := r'.length
      exact Calls.call_len_list pl.isList (by simp only [List.size_toArray]; omega) ⟨.int xs.length, H, I.tok _, ⟨_, by simp only [List.size_toArray]; rw [hlen]⟩, q⟩
    · subst e'
      obtain ⟨its, r', pl, hz⟩ := I.tuple hx
      have hlen := r'.length
      exact len_tuple pl (by simp only [List.size_toArray]; omega) ⟨.int xs.length, H, I.tok _, ⟨_, by simp only [List.size_toArray]; rw [hlen]⟩, q⟩
  | _ => exact (show False from e).elim
end
end L2
namespace L2
open PySem PySem.Spec PyProof.Rows
structure ObjM (h : Heap) (x dx C : Addr) (mA : Str → Option Value) : Prop where
  obj : h.get? x = some (PySem.W.instObj C dx)
  ns : h.Ns1 dx mA
  ne : dx ≠ x
theorem lookIn_ns {h : Heap} {dx : Addr} {mA : Str → Option Value} (n : h.Ns1 dx mA) : ∃ od, h.get? dx = some od ∧ ∀ name, PySem.W.lookIn name od = some (mA name) := by
  obtain ⟨o, es, ep, ho, hd, hk, _, hm⟩ := n
  refine ⟨o, ho, fun name => ?_⟩
  have e := hm name
  unfold nsFind findBy at e
  rw [← Array.find?_toList] at e
  unfold PySem.W.lookIn
  rw [hd]
  dsimp only
  split
  · rename_i y q
    rw [q] at e
    exact congrArg some e
  · rename_i q
    rw [q] at e
    have a : es.toList.any (·.refKey) = false := by
      rw [List.any_eq_false]
      intro y hy
      obtain ⟨z, t, hkey⟩ := hk y (Array.mem_toList_iff.mp hy)
      simp [DictEntry.refKey, hkey]
    have a' : ¬ es.toList.any (·.refKey) = true := by rw [a]; exact Bool.false_ne_true
    rw [if_neg a']
    exact congrArg some e
theorem ObjM.look {h : Heap} {x dx C : Addr} {mA : Str → Option Value} (I : ObjM h x dx C mA) : ∃ od, PySem.W.InstAt h x (PySem.W.instObj C dx) C (some od) ∧ ∀ name, PySem.W.lookIn name od = some (mA name) :=
  let ⟨od, ho, hl⟩ := lookIn_ns I.ns
  ⟨od, ⟨I.obj, rfl, rfl, ho⟩, hl⟩
section
variable {prog : Program} {w : World} {A : Around} {E : Value → Shared → Prop} {s : Shared} {K : PySem.W.Frag} {x dx C f : Addr} {mA : Str → Option Value} {name : Str} {v : Value}
theorem get_map {expr : Bool} {Q : Value → Shared → Prop} (X : K.In s.heap) (I : ObjM s.heap x dx C mA) (hg : PySem.W.plainGet K C name = true) (hh : PySem.W.hasDictIn K C = true)
    (ha : PySem.W.findIn K (.ref C) name = some none) (hv : mA name = some v) (hv' : PySem.W.handedIn v = true) (h : Q v { s with toks := s.toks + 1 }) :
    wpAny (model prog w) A (getAttr (.ref x) name expr) Q E s := by
  obtain ⟨od, J, hl⟩ := I.look
  exact PySem.W.get_value X J (PySem.W.plainGet_of hg).1 (PySem.W.findObj_own hh ha rfl (by rw [hl, hv])) hv' h
theorem set_map {ns : List Str} {Q : Unit → Shared → Prop} (X : K.In s.heap) (I : ObjM s.heap x dx C mA)
    (hs : PySem.W.findIn K (.ref C) "__setattr__" = some (some (.builtin "object.__setattr__"))) (hp : PySem.W.plainOver K C = true) (ht : PySem.W.takerIn K C name = some none) (hh : PySem.W.hasDictIn K C = true)
    (hw : PySem.Within mA ns) (hsz : ns.length ≤ sizeLine)
    (h : ∀ h', ObjM h' x dx C (fun y => if y = name then some v else mA y) → Heap.SameBut dx s.heap h' → Q () { s with heap := h', toks := s.toks + 2 }) :
    wpAny (model prog w) A (setAttr (.ref x) name v) Q E s := by
  obtain ⟨od, J, hl⟩ := I.look
  refine PySem.W.set_plain X J hs (PySem.W.osa_open (s := { s with toks := s.toks + 1 }) (r := none) X J hp ht fun b => ?_)
  obtain ⟨cd, hc, hd'⟩ := PySem.W.any_some hh
  have hx : s.heap.get? x = some ⟨.ref C, some dx, .plain, #[]⟩ := I.obj
  refine wpAny_bind (wpAny_pure (wpAny_bind (wpAny_bind (wpAny_loadPart hx (wpAny_bind (PySem.W.Looks.here (s := { s with toks := s.toks + 1 }) (PySem.W.looks_clsIn X hc) ?_))))))
  rw [hd']
  refine wpAny_pure (a := some dx) (wpAny_bind (wpAny_pure (wpAny_bind ?_)))
  refine wpAny_nsSet1 (s := { s with toks := s.toks + 1 }) I.ns fun h' hn2 hs2 => ?_
  obtain ⟨oD, esD, epD, hoD, hdD, hcD⟩ := hn2.count (PySem.Within.cons name v hw)
  refine wpAny_bind (wpAny_lookBehind hoD (by rw [hdD]; exact pastItsLine_dict (Nat.le_trans hcD (by rw [List.length_cons]; omega))) ?_)
  exact wpAny_pure (h _ ⟨(hs2.2 _ (Ne.symm I.ne)).trans I.obj, hn2, I.ne⟩ hs2)
theorem make_map {R : Result → Shared → Prop} {vs : List Value} {kw : List (Str × Value)} (X : K.In s.heap) (hm : PySem.W.makesIn K C = true)
    (hi : PySem.W.findIn K (.ref C) "__init__" = some (some (.ref f))) (hf : PySem.W.typeIn K (.ref f) = some (.type "function"))
    (h : codeAny (model prog w) (A.under (.builtin "type.__call__" ⟨.ref C :: vs, kw⟩)) (.call (.ref f) ⟨.ref (s.heap.objs.size + 1) :: vs, kw⟩) (PySem.W.InitBack (s.heap.objs.size + 1) R)
      { s with heap := (s.heap.push PySem.W.emptyDict).push (PySem.W.instObj C s.heap.objs.size) }) :
    codeAny (model prog w) A (.call (.ref C) ⟨vs, kw⟩) R s := by
  obtain ⟨hh, g, d, t, os⟩ := s
  exact PySem.W.make_core (PySem.W.makes_of X hm) (PySem.W.looks_findIn X hi) (fun self => PySem.W.bind_fn X self hf) (.inl rfl) h
end
def putF (f : Str) (v : V) : List (Str × V) → List (Str × V)
  | [] => [(f, v)]
  | (g, x) :: r => if g = f then (g, v) :: r else (g, x) :: putF f v r
theorem lookup_putF (f g : Str) (v : V) : ∀ fs : List (Str × V), (putF f v fs).lookup g = if g = f then some v else fs.lookup g
  | [] => by
    show List.lookup g [(f, v)] = _
    by_cases h : g = f
    · have hb : (g == f) = true := beq_iff_eq.mpr h
      simp only [List.lookup, hb, if_pos h]
    · have hb : (g == f) = false := beq_eq_false_iff_ne.mpr h
      simp only [List.lookup, hb, if_neg h]
  | (k, x) :: r => by
    have ih := lookup_putF f g v r
    rw [show putF f v ((k, x) :: r) = (if k = f then (k, v) :: r else (k, x) :: putF f v r) from rfl]
    by_cases hk : k = f
    · rw [if_pos hk]
      by_cases h : g = k
      · have hb : (g == k) = true := beq_iff_eq.mpr h
        simp only [List.lookup, hb, if_pos (h.trans hk)]
      · have hb : (g == k) = false := beq_eq_false_iff_ne.mpr h
        simp only [List.lookup, hb, if_neg (fun e : g = f => h (e.trans hk.symm))]
    · rw [if_neg hk]
      by_cases h : g = k
      · have hb : (g == k) = true := beq_iff_eq.mpr h
        simp only [List.lookup, hb, if_neg (fun e : g = f => hk (h.symm.trans e))]
      · have hb : (g == k) = false := beq_eq_false_iff_ne.mpr h
        simp only [List.lookup, hb]
        exact ih
theorem keys_putF (f : Str) (v : V) : ∀ fs : List (Str × V), f ∈ (putF f v fs).map (·.1) ∧ ∀ g, g ∈ fs.map (·.1) → g ∈ (putF f v fs).map (·.1)
  | [] => ⟨by simp [putF], fun g h => by simp at h⟩
  | (k, x) :: r => by
    obtain ⟨i1, i2⟩ := keys_putF f v r
    rw [show putF f v ((k, x) :: r) = (if k = f then (k, v) :: r else (k, x) :: putF f v r) from rfl]
    by_cases hk : k = f
    · rw [if_pos hk]
      subst hk
      exact ⟨by simp, fun g h => by simpa using h⟩
    · rw [if_neg hk]
      refine ⟨?_, fun g h => ?_⟩
      · rw [List.map_cons]
        exact List.mem_cons_of_mem _ i1
      · rw [List.map_cons] at h ⊢
        rcases List.mem_cons.mp h with e | e
        · exact List.mem_cons.mpr (.inl e)
        · exact List.mem_cons_of_mem _ (i2 g e)
theorem length_putF (f : Str) (v : V) : ∀ fs : List (Str × V), (putF f v fs).length ≤ fs.length + 1
  | [] => by simp [putF]
  | (k, x) :: r => by
    have ih := length_putF f v r
    rw [show putF f v ((k, x) :: r) = (if k = f then (k, v) :: r else (k, x) :: putF f v r) from rfl]
    by_cases hk : k = f
    · rw [if_pos hk, List.length_cons, List.length_cons]; omega
    · rw [if_neg hk, List.length_cons, List.length_cons]; omega
theorem RelO.some_of {v : V} {o : Option Value} (r : RelO (some v) o) : ∃ u, o = some u ∧ RelV v u := by
  cases o with
  | none => exact (show False from r).elim
  | some u => exact ⟨u, rfl, r⟩
theorem handed_of {v : V} {u : Value} (r : RelV v u) : PySem.W.handedIn u = true := by
  cases v with
  | non => cases (show u = Value.none from r); rfl
  | bl b => cases (show u = Value.bool b from r); rfl
  | int i => obtain ⟨t, e⟩ := (show ∃ t, u = Value.int i t from r); cases e; rfl
  | str x => obtain ⟨t, e⟩ := (show ∃ t, u = Value.str x t from r); cases e; rfl
  | byt b => obtain ⟨t, e⟩ := (show ∃ t, u = Value.bytes b t from r); cases e; rfl
  | flt b => obtain ⟨t, e⟩ := (show ∃ t, u = Value.float b t from r); cases e; rfl
  | ref a => cases (show u = Value.ref a from r); rfl
  | ty n => cases (show u = Value.type n from r); rfl
section
variable {P : Program} {w : World} {H H' : Hp} {h h' : Heap} {a C dx : Addr} {fs fs' : List (Str × V)}
theorem ins_get (hok : HOk P w H h) (e : H a = some (.ins C dx fs)) : ∃ mA, ObjM h a dx C mA ∧ (∀ f, RelO (fs.lookup f) (mA f)) ∧ PySem.Within mA (fs.map (·.1)) ∧ fs.length ≤ 1000 ∧ H dx = some (.own a) := by
  obtain ⟨d, z, ne, ob, mA, n, r, q⟩ := (show ObjOk P w H h a (.ins C dx fs) from hok a _ e)
  exact ⟨mA, ⟨ob, n, ne⟩, r, q, z, d⟩
end
structure Cls (K : PySem.W.Frag) (C : Addr) : Prop where
  pg : PySem.W.plainGet K C Str.empty = true
  hd : PySem.W.hasDictIn K C = true
  po : PySem.W.plainOver K C = true
  sa : PySem.W.findIn K (.ref C) "__setattr__" = some (some (.builtin "object.__setattr__"))
theorem Cls.get {K : PySem.W.Frag} {C : Addr} (c : Cls K C) (f : Str) : PySem.W.plainGet K C f = true := c.pg
def NoAttr (K : PySem.W.Frag) (C : Addr) (f : Str) : Prop := PySem.W.findIn K (.ref C) f = some none
theorem NoAttr.taker {K : PySem.W.Frag} {C : Addr} {f : Str} (n : NoAttr K C f) : PySem.W.takerIn K C f = some none := by
  unfold PySem.W.takerIn
  rw [show PySem.W.findIn K (.ref C) f = some none from n]
  rfl
section
variable {X : Cx} {pins : List (Addr × Obj)} {σ : St} {H : Hp} {s : Shared} {a C dx : Addr} {fs : List (Str × V)} {f : Str} {v : V} {A : Around} {E : Value → Shared → Prop}
theorem getattr_ok {b : Bool} {Q : Value → Shared → Prop} (I : Inv X pins σ H s) (e : H a = some (.ins C dx fs)) (c : Cls X.K C) (n : NoAttr X.K C f) (l : fs.lookup f = some v)
    (h : ∀ u s', Inv X pins σ H s' → RelV v u → Q u s') : wpAny (model X.prog X.w) A (getAttr (.ref a) f b) Q E s := by
  obtain ⟨mA, O, r, _, _, _⟩ := ins_get I.hok e
  obtain ⟨u, hu, ru⟩ := RelO.some_of (v := v) (o := mA f) (by rw [← l]; exact r f)
  exact get_map I.kIn O (c.get f) c.hd n hu (handed_of ru) (h u _ (I.tok _) ru)
theorem setattr_ok {y : V} {u : Value} {Q : Unit → Shared → Prop} (I : Inv X pins σ H s) (e : H a = some (.ins C dx fs)) (c : Cls X.K C) (n : NoAttr X.K C f) (hl : fs.length < 1000) (ry : RelV y u)
    (h : ∀ s', Inv X pins σ (upd H a (.ins C dx (putF f y fs))) s' → Q () s') : wpAny (model X.prog X.w) A (setAttr (.ref a) f u) Q E s := by
  obtain ⟨mA, O, r, wi, _, ho⟩ := ins_get I.hok e
  have hz : (fs.map (·.1)).length ≤ sizeLine := by rw [List.length_map, sizeLine_eq]; omega
  refine set_map I.kIn O c.sa c.po n.taker c.hd wi hz fun h' O' sb => h _ ?_
  have hd : ∃ o, h'.get? dx = some o := let ⟨o, _, _, e', _⟩ := O'.ns; ⟨o, e'⟩
  refine I.write (x := a) (e := dx) (by rw [e]; exact True.intro) (.inr ho) (fun b q hb z => (sb.2 b hb).trans z) hd ?_
  refine ⟨by rw [upd_ne O.ne]; exact ho, ?_, O.ne, O'.obj, _, O'.ns, fun g => ?_, fun g hg => ?_⟩
  · have := length_putF f y fs; omega
  · show RelO ((putF f y fs).lookup g) (if g = f then some u else mA g)
    rw [lookup_putF]
    by_cases q : g = f
    · rw [if_pos q, if_pos q]; exact ry
    · rw [if_neg q, if_neg q]; exact r g
  · by_cases q : g = f
    · rw [q]; exact (keys_putF f y fs).1
    · refine (keys_putF f y fs).2 g (wi g fun z => hg ?_)
      show (if g = f then some u else mA g) = none
      rw [if_neg q]; exact z
theorem Inv.made (I : Inv X pins σ H s) : Inv X pins σ (upd (upd H s.heap.objs.size (.own (s.heap.objs.size + 1))) (s.heap.objs.size + 1) (.ins C s.heap.objs.size []))
    { s with heap := (s.heap.push PySem.W.emptyDict).push (PySem.W.instObj C s.heap.objs.size) } := by
  have e1 : (s.heap.push PySem.W.emptyDict).get? s.heap.objs.size = some PySem.W.emptyDict := Heap.get?_push_size s.heap rfl
  have e2 : ((s.heap.push PySem.W.emptyDict).push (PySem.W.instObj C s.heap.objs.size)).get? (s.heap.objs.size + 1) = some (PySem.W.instObj C s.heap.objs.size) := by
    have := Heap.get?_push_size (s.heap.push PySem.W.emptyDict) (o := PySem.W.instObj C s.heap.objs.size) rfl
    rwa [Heap.size_push] at this
  have e3 : (s.heap.push PySem.W.emptyDict).Ns s.heap.objs.size (fun _ => none) := ⟨PySem.W.emptyDict, #[], _, e1, rfl, (fun e he => absurd he (by simp)), fun _ => rfl⟩
  have I1 := I.laid (a := s.heap.objs.size) (o := .own (s.heap.objs.size + 1)) (h' := s.heap.push PySem.W.emptyDict) (t' := s.toks) (fun b u q => Heap.get?_push_of_some _ q) (Nat.le_refl _) ⟨_, e1⟩
  refine I1.laid (a := s.heap.objs.size + 1) (o := .ins C s.heap.objs.size []) (t' := s.toks) (fun b u q => Heap.get?_push_of_some _ q) (Nat.le_of_eq (Heap.size_push _ _)) ?_
  have ne : s.heap.objs.size ≠ s.heap.objs.size + 1 := Nat.ne_of_lt (Nat.lt_succ_self _)
  refine ⟨by rw [upd_ne ne, upd_same], Nat.zero_le _, ne, e2, fun _ => none, (Heap.Ns1.of_empty e3).at fun o q => Heap.get?_push_of_some _ q, fun _ => True.intro, fun y hy => absurd rfl hy⟩
theorem attr_of {prog : Program} {w : World} {env : Env} {e : Expr} {f : Str} {pos : Pos} {s : Shared} {Q : Value → Shared → Prop} (hb : attributeBase e f env (eval e env) = eval e env)
    (h : wpAny (model prog w) A (eval e env) (fun o s₁ => wpAny (model prog w) A (getAttr o f true) Q E s₁) E s) : wpAny (model prog w) A (eval (.Attribute e f pos) env) Q E s :=
  Attribute_any_ h (by rw [arm_eval_Attribute, hb])
end
def tFld (K : PySem.W.Frag) (ta : TE) (f : Str) : TE := fun σ H Q => ta σ H fun x H1 => ∃ a C dx fs v, x = .ref a ∧ H1 a = some (.ins C dx fs) ∧ Cls K C ∧ NoAttr K C f ∧ fs.lookup f = some v ∧ Q v H1
def sFld (K : PySem.W.Frag) (ta tv : TE) (f : Str) : TS := fun D σ H => tv σ H fun y H1 => ta σ H1 fun x H2 => ∃ a C dx fs, x = .ref a ∧ H2 a = some (.ins C dx fs) ∧ Cls K C ∧ NoAttr K C f ∧ fs.length < 1000 ∧
  D.nx σ (upd H2 a (.ins C dx (putF f y fs)))
section
variable {X : Cx} {o e value : Expr} {f : Str} {pos pos' tpos : Pos} {ta tv : TE}
theorem pe_fld (he : PE X e ta) (hb : attributeBase e f X.env (eval e X.env) = eval e X.env) : PE X (.Attribute e f pos) (tFld X.K ta f) := by
  intro pins s σ H Q I h
  refine attr_of hb (thn (he pins s σ H _ I h) fun u s1 ⟨x, H1, I1, rx, a, C, dx, fs, v, ex, ea, c, n, l, q⟩ => ?_)
  subst ex
  obtain rfl : u = Value.ref a := rx
  exact getattr_ok I1 ea c n l fun u' s2 I2 ru => ⟨v, H1, I2, ru, q⟩
theorem ps_fld (ha : PE X o ta) (hv : PE X value tv) (hs : swapsWith value (some (.Attribute o f pos')) pos.line X.env = pure false) : PS X (.Assign [.Attribute o f pos'] value pos) (sFld X.K ta tv f) := by
  intro pins s σ H D I h
  refine plainObj_wpAny_Assign_Attribute (thn (hv pins s σ H _ I h) fun u s1 ⟨y, H1, I1, ry, q⟩ => thn (ha pins s1 σ H1 _ I1 q) fun ov s2 ⟨x, H2, I2, rx, a, C, dx, fs, ex, ea, c, n, l, q2⟩ => ?_) hs
  subst ex
  obtain rfl : ov = Value.ref a := rx
  exact setattr_ok I2 ea c n l ry fun s3 I3 => ⟨σ, _, I3, q2⟩
end
section
variable {X : Cx} {pins : List (Addr × Obj)} {σ : St} {H : Hp} {s : Shared} {A : Around} {E : Value → Shared → Prop} {Q : Value → Shared → Prop} {c : Value} {b : Bool}
inductive TyOf (K : PySem.W.Frag) (H : Hp) : V → Value → Prop where
  | non : TyOf K H .non (.type "NoneType")
  | bl (x : Bool) : TyOf K H (.bl x) (.type "bool")
  | int (i : Int) : TyOf K H (.int i) (.type "int")
  | str (x : Str) : TyOf K H (.str x) (.type "str")
  | flt (x : UInt64) : TyOf K H (.flt x) (.type "float")
  | lst {a : Addr} {xs : List V} (e : H a = some (.lst xs)) : TyOf K H (.ref a) (.type "list")
  | frz {a : Addr} {o : Obj} {xs : List V} (e : H a = some (.frz o (.lst xs))) : TyOf K H (.ref a) (.type "list")
  | tup {a : Addr} {xs : List V} (e : H a = some (.tup xs)) : TyOf K H (.ref a) (.type "tuple")
  | dK {a : Addr} {kvs : List (Key × V)} (e : H a = some (.dK kvs)) : TyOf K H (.ref a) (.type "dict")
  | dT {a : Addr} {kvs : List (List Key × V)} (e : H a = some (.dT kvs)) : TyOf K H (.ref a) (.type "dict")
  | ins {a C dx : Addr} {fs : List (Str × V)} (e : H a = some (.ins C dx fs)) (cl : Cls K C) (ha : PySem.W.findIn K (.ref C) "__class__" = some (some (.builtin "object.__class__")))
      (hn : PySem.W.specialIn K (.builtin "object.__class__") "__get__" = some (some (.builtin "getset_descriptor.__get__"))) (htk : PySem.W.takesIn K (.builtin "object.__class__") = some true)
      (hm : PySem.W.mroIn K C (.type "object") = some true) : TyOf K H (.ref a) (.ref C)
theorem isinst_ok {x : V} {u t : Value} (I : Inv X pins σ H s) (rx : RelV x u) (ty : TyOf X.K H x t) (e : PySem.W.kitOne X.K t c = some b) (h : ∀ tk, Q (.bool b) { s with toks := tk }) :
    wpAny (model X.prog X.w) A (call (.builtin "isinstance") [u, c]) Q E s := by
  cases ty with
  | non => cases (show u = Value.none from rx); exact PySem.W.kia_one PySem.W.kitx_none I.kIn True.intro e (fun z => nomatch z) h
  | bl y => cases (show u = Value.bool y from rx); exact PySem.W.kia_one PySem.W.kitx_bool I.kIn True.intro e (fun z => nomatch z) h
  | int i => obtain ⟨t, q⟩ := (show ∃ t, u = Value.int i t from rx); cases q; exact PySem.W.kia_one PySem.W.kitx_int I.kIn True.intro e (fun z => nomatch z) h
  | str y => obtain ⟨t, q⟩ := (show ∃ t, u = Value.str y t from rx); cases q; exact PySem.W.kia_one PySem.W.kitx_str I.kIn True.intro e (fun z => nomatch z) h
  | flt y => obtain ⟨t, q⟩ := (show ∃ t, u = Value.float y t from rx); cases q; exact PySem.W.kia_one PySem.W.kitx_float I.kIn True.intro e (fun z => nomatch z) h
  | @lst a xs ea =>
    cases (show u = Value.ref a from rx)
    obtain ⟨_, _, n, _, h1⟩ := (show ObjOk X.prog X.w H s.heap a (.lst xs) from I.hok a _ ea)
    exact PySem.W.kia_one PySem.W.kitx_list I.kIn ⟨_, h1, rfl⟩ e (fun z => nomatch z) h
  | @frz a ob xs ea =>
    cases (show u = Value.ref a from rx)
    obtain ⟨_, _, _, n, _, h1⟩ := (show ObjOk X.prog X.w H s.heap a (.frz ob (.lst xs)) from I.hok a _ ea)
    exact PySem.W.kia_one PySem.W.kitx_list I.kIn ⟨_, h1, rfl⟩ e (fun z => nomatch z) h
  | @tup a xs ea =>
    cases (show u = Value.ref a from rx)
    obtain ⟨_, _, _, p⟩ := (show ObjOk X.prog X.w H s.heap a (.tup xs) from I.hok a _ ea)
    obtain ⟨o, h1, h2, _⟩ := p
    exact PySem.W.kia_one PySem.W.kitx_tuple I.kIn ⟨o, h1, h2⟩ e (fun z => nomatch z) h
  | @dK a kvs ea =>
    cases (show u = Value.ref a from rx)
    obtain ⟨_, _, vs, _, p⟩ := (show ObjOk X.prog X.w H s.heap a (.dK kvs) from I.hok a _ ea)
    obtain ⟨o, es, ep, h1, h2, _⟩ := p
    exact PySem.W.kia_one PySem.W.kitx_dict I.kIn ⟨o, h1, h2.1⟩ e (fun z => nomatch z) h
  | @dT a kvs ea =>
    cases (show u = Value.ref a from rx)
    obtain ⟨_, _, xs, _, o, es, ep, h1, h2, _⟩ := (show ObjOk X.prog X.w H s.heap a (.dT kvs) from I.hok a _ ea)
    exact PySem.W.kia_one PySem.W.kitx_dict I.kIn ⟨o, h1, h2.1⟩ e (fun z => nomatch z) h
  | @ins a C dx fs ea cl ha hn htk hm =>
    cases (show u = Value.ref a from rx)
    obtain ⟨mA, O, _⟩ := ins_get I.hok ea
    obtain ⟨od, J, _⟩ := O.look
    exact PySem.W.kia_one (PySem.W.kitx_own (cl.get _) cl.hd ha hn htk hm) I.kIn J e (fun z => nomatch z) h
end
end L2
namespace L2
open PySem PySem.Spec PyProof.Rows
structure Room (k : Nat) (A : Around) : Prop where
  hd : A.handled = none
  dp : A.depth + 3 * k + 5 < recursionLimit
  un : A.units + 16 * k + 200 < cLine
theorem Room.mono {j k : Nat} {A : Around} (r : Room k A) (h : j ≤ k) : Room j A := ⟨r.hd, by have := r.dp; omega, by have := r.un; omega⟩
theorem Room.deeper {k : Nat} {A : Around} (r : Room (k + 1) A) (env : Env) : Room k (A.deeper env) :=
  ⟨r.hd, by have := r.dp; show A.depth + 1 + 3 * k + 5 < _; omega, by have := r.un; show A.units + 3 + 16 * k + 200 < _; omega⟩
theorem Room.in1 {k : Nat} {A : Around} (r : Room (k + 1) A) : Room k A.in1 :=
  ⟨r.hd, by have := r.dp; show A.depth + 3 * k + 5 < _; omega, by have := r.un; show A.units + 1 + 16 * k + 200 < _; omega⟩
theorem make_depth {A : Around} {C : Addr} {us : List Value} {kw : List (Str × Value)} : (A.under (.builtin "type.__call__" ⟨.ref C :: us, kw⟩)).depth = A.depth + 1 := by
  first | rfl | simp [Around.under, Code.weight, Code.isCreation, Code.isGuard, Code.isCaller, Code.frames, Code.isFrame, guardIds]
theorem make_units {A : Around} {C : Addr} {us : List Value} {kw : List (Str × Value)} : (A.under (.builtin "type.__call__" ⟨.ref C :: us, kw⟩)).units = A.units + 1 := by
  first | rfl | simp [Around.under, Code.cUnits, Code.frames, Code.isFrame]
theorem Room.make {k : Nat} {A : Around} (r : Room (k + 1) A) (C : Addr) (us : List Value) (kw : List (Str × Value)) : Room k (A.under (.builtin "type.__call__" ⟨.ref C :: us, kw⟩)) :=
  ⟨r.hd, by have := r.dp; rw [make_depth]; omega, by have := r.un; rw [make_units]; omega⟩
theorem Room.depth {k : Nat} {A : Around} (r : Room k A) : A.depth < recursionLimit := by have := r.dp; omega
theorem Room.units {k : Nat} {A : Around} (r : Room k A) : A.units + 64 < cLine := by have := r.un; omega
def tNil : TA := fun _ H Q => Q [] H
def tCons (ta : TE) (tr : TA) : TA := fun σ H Q => ta σ H fun x H1 => tr σ H1 fun xs H2 => Q (x :: xs) H2
section
variable {X : Cx} {e : Expr} {es : List Expr} {te : TE} {t : TA} {pos : Pos}
theorem pa_nil : PA X [] tNil := fun _ _ _ _ H Q I h => Calls.spliced_nil ⟨[], H, I, .nil, h⟩
theorem pa_cons (ha : PE X e te) (hr : PA X es t) (hs : starEach (e :: es) X.env = (false, eval e X.env) :: starEach es X.env := by rfl) : PA X (e :: es) (tCons te t) := by
  intro pos pins s σ H Q I h
  rw [hs]
  show wpAny _ _ (spliced ((false, eval e X.env) :: backTo pos (starEach es X.env))) _ _ s
  refine Calls.spliced_cons (thn (ha pins s σ H _ I h) fun u s1 ⟨x, H1, I1, r1, q1⟩ => ?_)
  exact thn (hr pos pins s1 σ H1 _ I1 q1) fun us s2 ⟨xs, H2, I2, r2, q2⟩ => ⟨x :: xs, H2, I2, .cons r1 r2, q2⟩
def tTup (t : TA) : TE := fun σ H Q => t σ H fun xs H1 => xs.length ≤ sizeLine ∧ ∀ p, H1 p = none → Q (.ref p) (upd H1 p (.tup xs))
def tLst (t : TA) : TE := fun σ H Q => t σ H fun xs H1 => xs.length ≤ sizeLine ∧ ∀ p, H1 p = none → Q (.ref p) (upd H1 p (.lst xs))
theorem pe_tup {x1} (h : PA X es t) : PE X (.Tuple es x1 pos) (tTup t) := by
  intro pins s σ H Q I hq
  refine wpAny_Tuple_spliced (thn (h pos pins s σ H _ I hq) fun us s1 ⟨xs, H1, I1, r, z, q⟩ => ⟨by rw [← r.length]; exact z, ?_⟩)
  have hf : H1 s1.heap.objs.size = none := I1.hok.fresh (Nat.le_refl _)
  refine ⟨.ref s1.heap.objs.size, upd H1 s1.heap.objs.size (.tup xs), I1.laid (t' := s1.toks) (fun b u e => Heap.get?_push_of_some _ e) (Nat.le_refl _) ?_, rfl, q _ hf⟩
  exact ⟨z, us, r, ⟨_, Heap.get?_push_size _ rfl, rfl, _, rfl⟩⟩
theorem pe_lst (h : PA X es t) : PE X (.List es pos) (tLst t) := by
  intro pins s σ H Q I hq
  refine wpAny_List_spliced (thn (h pos pins s σ H _ I hq) fun us s1 ⟨xs, H1, I1, r, z, q⟩ => ⟨by rw [← r.length]; exact z, ?_⟩)
  have hf : H1 s1.heap.objs.size = none := I1.hok.fresh (Nat.le_refl _)
  refine ⟨.ref s1.heap.objs.size, upd H1 s1.heap.objs.size (.lst xs), I1.laid (t' := s1.toks) (fun b u e => Heap.get?_push_of_some _ e) (Nat.le_refl _) ?_, rfl, q _ hf⟩
  exact ⟨z, us, 0, r, Heap.get?_push_size _ rfl⟩
end
abbrev Sp := List V → Hp → VK → XK → Prop
abbrev CXT := List Env → Hp → Shared → XK → Value → Shared → Prop
structure Env0 (P : Program) (w : World) (K : PySem.W.Frag) (mg : Str → Option Value) (base : Heap) (A : Around) (outer : List Env) (s : Shared) (H : Hp) : Prop where
  frames : A.frames = some outer
  mod : Mod K mg base
  bs : ∀ b o, base.get? b = some o → s.heap.get? b = some o ∧ H b = none
  bsz : base.objs.size ≤ s.heap.objs.size
  funs : s.heap.FunFrames base outer
  frf : ∀ b ∈ frs outer, H b = none
  hok : HOk P w H s.heap
  bare : AllBare s.gens
def CE (outer : List Env) (P : Program) (w : World) (H : Hp) (s : Shared) (Q : VK) (u : Value) (s' : Shared) : Prop :=
  ∃ v H', s'.os = s.os ∧ AllBare s'.gens ∧ Un (frs outer) [] H H' s.heap s'.heap ∧ HOk P w H' s'.heap ∧ RelV v u ∧ Q v H'
def CR (CX : CXT) (outer : List Env) (P : Program) (w : World) (H : Hp) (s : Shared) (Q : VK) (E : XK) (r : Result) (s' : Shared) : Prop :=
  match r with
  | .ok (.ret u) => CE outer P w H s Q u s'
  | .ok _ => False
  | .error e => CX outer H s E e s'
structure FnOk (P : Program) (w : World) (K : PySem.W.Frag) (mg : Str → Option Value) (base : Heap) (CX : CXT) (k : Nat) (f : Addr) (fd : FuncData) (ps : List Str) (sp : Sp) : Prop where
  len : ∀ vs H Q E, sp vs H Q E → vs.length = ps.length
  run : ∀ (A : Around) (outer : List Env) (s : Shared) (H : Hp) (args : Args) (us : List Value) (vs : List V) (Q : VK) (E : XK), Room k A → Env0 P w K mg base A outer s H → BindsTo s fd args (ps.zip us) → Vals vs us → sp vs H Q E →
    codeAny (model P w) A (.call (.ref f) args) (CR CX outer P w H s Q E) s
theorem FnOk.mono {P : Program} {w : World} {K : PySem.W.Frag} {mg : Str → Option Value} {base : Heap} {CX : CXT} {j k : Nat} {f : Addr} {fd : FuncData} {ps : List Str} {sp : Sp} (F : FnOk P w K mg base CX j f fd ps sp) (h : j ≤ k) :
    FnOk P w K mg base CX k f fd ps sp := ⟨F.len, fun A outer s H args us vs Q E hr => F.run A outer s H args us vs Q E (hr.mono h)⟩
theorem FnOk.imp {P : Program} {w : World} {K : PySem.W.Frag} {mg : Str → Option Value} {base : Heap} {CX : CXT} {k : Nat} {f : Addr} {fd : FuncData} {ps : List Str} {sp sp' : Sp} (F : FnOk P w K mg base CX k f fd ps sp)
    (h : ∀ vs H Q E, sp' vs H Q E → sp vs H Q E) : FnOk P w K mg base CX k f fd ps sp' :=
  ⟨fun vs H Q E q => F.len vs H Q E (h _ _ _ _ q), fun A outer s H args us vs Q E hr he hb hv hs => F.run A outer s H args us vs Q E hr he hb hv (h _ _ _ _ hs)⟩
theorem Env0.make {P : Program} {w : World} {K : PySem.W.Frag} {mg : Str → Option Value} {base : Heap} {A : Around} {outer : List Env} {s : Shared} {H : Hp} (e : Env0 P w K mg base A outer s H) (C : Addr) (us : List Value) (kw : List (Str × Value)) :
    Env0 P w K mg base (A.under (.builtin "type.__call__" ⟨.ref C :: us, kw⟩)) outer s H := ⟨by first | exact e.frames | (simpa [Around.under, Code.envs, Code.isFrame, pushEnvs] using e.frames), e.mod, e.bs, e.bsz, e.funs, e.frf, e.hok, e.bare⟩
theorem Env0.in1 {P : Program} {w : World} {K : PySem.W.Frag} {mg : Str → Option Value} {base : Heap} {A : Around} {outer : List Env} {s : Shared} {H : Hp} (e : Env0 P w K mg base A outer s H) :
    Env0 P w K mg base A.in1 outer s H := ⟨e.frames, e.mod, e.bs, e.bsz, e.funs, e.frf, e.hok, e.bare⟩
section
variable {X : Cx} {pins : List (Addr × Obj)} {σ : St} {H : Hp} {s s' : Shared}
theorem Inv.env0 (I : Inv X pins σ H s) : Env0 X.prog X.w X.K X.mg X.base X.A X.stack s H :=
  ⟨I.ok.frames, I.ok.mod, I.bs, Nat.le_trans I.ok.bsz I.sz, I.stack, I.stkFree, I.hok, I.bare⟩
theorem Inv.after {Q : VK} {u : Value} (I : Inv X pins σ H s) (h : CE X.stack X.prog X.w H s Q u s') : EP X pins σ Q u s' := by
  obtain ⟨v, H', os, bare, un, hok, r, q⟩ := h
  obtain ⟨hh, g, d, t, os'⟩ := s'
  obtain rfl : os' = s.os := os
  exact ⟨v, H', I.call (h' := hh) (g' := g) (d' := d) (t' := t) (ch := []) un hok bare (fun b z => absurd z (by simp)), r, q⟩
end
def tCall (sp : Sp) (dvs : List V) (E : XK) (t : TA) : TE := fun σ H Q => t σ H fun vs H1 => sp (vs ++ dvs) H1 Q E
def tMake (C : Addr) (sp : Sp) (dvs : List V) (E : XK) (t : TA) : TE := fun σ H Q => t σ H fun vs H1 => ∀ x dx, H1 x = none → H1 dx = none → dx ≠ x →
  sp (.ref x :: (vs ++ dvs)) (upd (upd H1 dx (.own x)) x (.ins C dx [])) (fun v H2 => v = .non ∧ Q (.ref x) H2) E
def Binds (K : PySem.W.Frag) (fd : FuncData) (ps : List Str) (ds : List Value) : Prop :=
  ∀ (s : Shared) (us : List Value), K.In s.heap → (us ++ ds).length = ps.length → BindsTo s fd ⟨us, []⟩ (ps.zip (us ++ ds))
theorem Binds.all {K : PySem.W.Frag} {fd : FuncData} {ps : List Str} (h : ∀ us : List Value, us.length = ps.length → bindArgs fd ⟨us, []⟩ = pure (ps.zip us)) : Binds K fd ps [] := fun s us _ hl => by
  rw [List.append_nil] at hl ⊢
  exact .of_eq (h us hl)
def Passes (CX : CXT) (X : Cx) (E : XK) : Prop := ∀ (pins : List (Addr × Obj)) (σ : St) (H : Hp) (s : Shared) (e : Value) (s' : Shared), Inv X pins σ H s → CX X.stack H s E e s' → X.xe e s'
section
variable {X : Cx} {CX : CXT} {k : Nat} {f C : Addr} {fd : FuncData} {ps : List Str} {sp : Sp} {dvs : List V} {ds : List Value} {E : XK} {x m : Str} {p pos apos : Pos} {e o : Expr} {es : List Expr} {ta : TE} {t : TA}
theorem run_fn {pins : List (Addr × Obj)} {σ : St} {H : Hp} {s : Shared} {Q : VK} {us : List Value} {vs : List V} (F : FnOk X.prog X.w X.K X.mg X.base CX k f fd ps sp) (hr : Room k X.A) (hb : Binds X.K fd ps ds) (hd : Vals dvs ds) (hx : Passes CX X E)
    (I : Inv X pins σ H s) (r : Vals vs us) (h : sp (vs ++ dvs) H Q E) : wpAny (model X.prog X.w) X.A (call (.ref f) us) (EP X pins σ Q) X.xe s := by
  have r2 : Vals (vs ++ dvs) (us ++ ds) := r.append hd
  have hl : (us ++ ds).length = ps.length := by rw [← r2.length]; exact F.len _ _ _ _ h
  refine wpAny_call (codeAny_mono (F.run X.A X.stack s H ⟨us, []⟩ (us ++ ds) (vs ++ dvs) Q E hr I.env0 (hb s us I.kIn hl) r2 h) fun r s' hq => ?_)
  cases r with
  | error e => exact hx pins σ H s e s' I hq
  | ok fl =>
    cases fl with
    | ret u => exact I.after hq
    | next => exact False.elim hq
    | brk => exact False.elim hq
    | cont => exact False.elim hq
theorem pe_call (F : FnOk X.prog X.w X.K X.mg X.base CX k f fd ps sp) (hr : Room k X.A) (hg : Gl X x) (hm : X.mg x = some (.ref f)) (hk : PySem.W.keepIn X.K (.ref f) = true) (hb : Binds X.K fd ps ds) (hd : Vals dvs ds) (hx : Passes CX X E)
    (ha : PA X (e :: es) t) (hdb : (x == ("__debug__" : Str)) = false := by decide) (he : starEach (e :: es) X.env = (false, eval e X.env) :: starEach es X.env := by rfl) (hpl : (backTo pos (starEach es X.env)).any (·.1) = false := by rfl) :
    PE X (.Call (.Name x p) (e :: es) [] pos) (tCall sp dvs E t) := by
  intro pins s σ H Q I h
  refine wpAny_Call_Name_kw (ld_glob I hg hm ?_ hdb)
  refine PySem.W.callWith_K (h₀ := X.base) I.ok.mod.kin hk (thn (ha pos pins s σ H _ I h) fun us s1 ⟨vs, H1, I1, r, q⟩ => ⟨I1.kIn, ?_⟩) he hpl
  exact run_fn F hr hb hd hx I1 r q
structure Mk (K : PySem.W.Frag) (C f : Addr) : Prop where
  makes : PySem.W.makesIn K C = true
  init : PySem.W.findIn K (.ref C) "__init__" = some (some (.ref f))
  fn : PySem.W.isFn K (.ref f) = true
  kp : PySem.W.keepIn K (.ref C) = true
theorem run_make {pins : List (Addr × Obj)} {σ : St} {H : Hp} {s : Shared} {Q : VK} {us : List Value} {vs : List V} (M : Mk X.K C f) (F : FnOk X.prog X.w X.K X.mg X.base CX k f fd ps sp) (hr : Room (k + 1) X.A) (hb : Binds X.K fd ps ds) (hd : Vals dvs ds)
    (hx : Passes CX X E) (I : Inv X pins σ H s) (r : Vals vs us)
    (h : ∀ x dx, H x = none → H dx = none → dx ≠ x → sp (.ref x :: (vs ++ dvs)) (upd (upd H dx (.own x)) x (.ins C dx [])) (fun v H2 => v = .non ∧ Q (.ref x) H2) E) :
    wpAny (model X.prog X.w) X.A (call (.ref C) us) (EP X pins σ Q) X.xe s := by
  have hq := h (s.heap.objs.size + 1) s.heap.objs.size (I.hok.fresh (Nat.le_succ _)) (I.hok.fresh (Nat.le_refl _)) (Nat.ne_of_lt (Nat.lt_succ_self _))
  have I2 := Inv.made (C := C) I
  have r2 : Vals (V.ref (s.heap.objs.size + 1) :: (vs ++ dvs)) (Value.ref (s.heap.objs.size + 1) :: (us ++ ds)) := .cons rfl (r.append hd)
  have hl : (Value.ref (s.heap.objs.size + 1) :: us ++ ds).length = ps.length := by
    have e := r2.length
    rw [F.len _ _ _ _ hq] at e
    exact e.symm
  refine wpAny_call (make_map (f := f) I.kIn M.makes M.init (beq_iff_eq.mp M.fn) (codeAny_mono (F.run _ X.stack _ _ ⟨Value.ref (s.heap.objs.size + 1) :: us, []⟩ (Value.ref (s.heap.objs.size + 1) :: (us ++ ds)) _ _ E (hr.make C us [])
    (I2.env0.make C us []) (hb _ (Value.ref (s.heap.objs.size + 1) :: us) I2.kIn hl) r2 hq) fun r s' hq' => ?_))
  cases r with
  | error e => exact hx pins σ _ _ e s' I2 hq'
  | ok fl =>
    cases fl with
    | ret u =>
      obtain ⟨v, H', I3, rv, ev, q3⟩ := I2.after hq'
      subst ev
      exact ⟨rv, ⟨V.ref (s.heap.objs.size + 1), H', I3, rfl, q3⟩⟩
    | next => exact False.elim hq'
    | brk => exact False.elim hq'
    | cont => exact False.elim hq'
theorem pe_make (M : Mk X.K C f) (F : FnOk X.prog X.w X.K X.mg X.base CX k f fd ps sp) (hr : Room (k + 1) X.A) (hg : Gl X x) (hm : X.mg x = some (.ref C)) (hb : Binds X.K fd ps ds) (hd : Vals dvs ds) (hx : Passes CX X E)
    (ha : PA X (e :: es) t) (hdb : (x == ("__debug__" : Str)) = false := by decide) (he : starEach (e :: es) X.env = (false, eval e X.env) :: starEach es X.env := by rfl) (hpl : (backTo pos (starEach es X.env)).any (·.1) = false := by rfl) :
    PE X (.Call (.Name x p) (e :: es) [] pos) (tMake C sp dvs E t) := by
  intro pins s σ H Q I h
  refine wpAny_Call_Name_kw (ld_glob I hg hm ?_ hdb)
  refine PySem.W.callWith_K (h₀ := X.base) I.ok.mod.kin M.kp (thn (ha pos pins s σ H _ I h) fun us s1 ⟨vs, H1, I1, r, q⟩ => ⟨I1.kIn, ?_⟩) he hpl
  exact run_make M F hr hb hd hx I1 r q
end
def PK (X : Cx) (kws : List Keyword) (t : TA) : Prop :=
  ∀ (pos : Pos) (pins : List (Addr × Obj)) (s : Shared) (σ : St) (H : Hp) (Q : List V → Hp → Prop), Inv X pins σ H s → t σ H Q → wpAny (model X.prog X.w) X.A (evalAll ((backToKw pos (keywordEach kws X.env)).map (·.2))) (AP X pins σ Q) X.xe s
section
variable {X : Cx} {CX : CXT} {k : Nat} {f C : Addr} {fd : FuncData} {ps ks : List Str} {sp : Sp} {E : XK} {x m : Str} {p pos apos kpos : Pos} {e o : Expr} {es : List Expr} {kws : List Keyword} {te ta : TE} {t tk : TA} {nm : Option Str}
variable {g : List Value → List Value → List Value} {gV : List V → List V → List V}
end
structure FnScope (N P : List Str) (sc : Scope) : Prop where
  kind : sc.kind = .function
  co : sc.isCoroutine = false
  gen : sc.isGenerator = false
  nd : N.Nodup
  pre : N.take P.length = P
  par : ∀ x ∈ P, sc.names.lookup x = some .local ∨ sc.names.lookup x = some .cell
  nofree : ∀ y ∈ sc.names, y.2 ≠ .free
theorem bindL_out {kindOf : Str → Option NameKind} {x : Str} : ∀ {binds : List (Str × Value)} {m : Str → Option Value}, (∀ v, (x, v) ∉ binds) → bindL kindOf binds m x = m x
  | [], _, _ => rfl
  | (n, v) :: r, m, h => by
    unfold bindL
    rw [bindL_out fun w hw => h w (List.mem_cons_of_mem _ hw)]
    split
    · have : x ≠ n := by rintro rfl; exact h v List.mem_cons_self
      simp [this]
    · rfl
theorem bindC_out {kindOf : Str → Option NameKind} {x : Str} : ∀ {binds : List (Str × Value)} {m : Str → Option Value}, (∀ v, (x, v) ∉ binds) → bindC kindOf binds m x = m x
  | [], _, _ => rfl
  | (n, v) :: r, m, h => by
    unfold bindC
    rw [bindC_out fun w hw => h w (List.mem_cons_of_mem _ hw)]
    split
    · rfl
    · have : x ≠ n := by rintro rfl; exact h v List.mem_cons_self
      simp [this]
theorem bindL_get {kindOf : Str → Option NameKind} {x : Str} {v : Value} : ∀ {P : List Str} {vs : List Value} {i : Nat} {m : Str → Option Value}, P.Nodup → P[i]? = some x → vs[i]? = some v → kindOf x = some .local →
    bindL kindOf (P.zip vs) m x = some v
  | [], _, _, _, _, h, _, _ => by simp at h
  | _ :: _, [], _, _, _, _, h, _ => by simp at h
  | p :: P, w :: vs, 0, m, nd, h1, h2, hk => by
    simp at h1 h2; subst h1; subst h2
    show bindL kindOf ((p, w) :: P.zip vs) m p = _
    unfold bindL
    rw [bindL_out fun v hv => (List.nodup_cons.mp nd).1 (List.of_mem_zip hv).1, if_pos hk]
    simp
  | p :: P, w :: vs, i + 1, m, nd, h1, h2, hk => by
    show bindL kindOf ((p, w) :: P.zip vs) m x = _
    unfold bindL
    exact bindL_get (i := i) (List.nodup_cons.mp nd).2 (by simpa using h1) (by simpa using h2) hk
theorem bindC_get {kindOf : Str → Option NameKind} {x : Str} {v : Value} : ∀ {P : List Str} {vs : List Value} {i : Nat} {m : Str → Option Value}, P.Nodup → P[i]? = some x → vs[i]? = some v → kindOf x ≠ some .local →
    bindC kindOf (P.zip vs) m x = some v
  | [], _, _, _, _, h, _, _ => by simp at h
  | _ :: _, [], _, _, _, _, h, _ => by simp at h
  | p :: P, w :: vs, 0, m, nd, h1, h2, hk => by
    simp at h1 h2; subst h1; subst h2
    show bindC kindOf ((p, w) :: P.zip vs) m p = _
    unfold bindC
    rw [bindC_out fun v hv => (List.nodup_cons.mp nd).1 (List.of_mem_zip hv).1, if_neg hk]
    simp
  | p :: P, w :: vs, i + 1, m, nd, h1, h2, hk => by
    show bindC kindOf ((p, w) :: P.zip vs) m x = _
    unfold bindC
    exact bindC_get (i := i) (List.nodup_cons.mp nd).2 (by simpa using h1) (by simpa using h2) hk
def start (N : List Str) (vs : List V) : St := vs.map some ++ List.replicate (N.length - vs.length) none
def cxOf (CX : CXT) (P : Program) (w : World) (K : PySem.W.Frag) (mg : Str → Option Value) (base : Heap) (N : List Str) (qual : Str) (scope : Scope) (f : Addr) (cd : Value) (A : Around) (outer : List Env) (s : Shared) (H : Hp) (E : XK) : Cx where
  prog := P
  w := w
  K := K
  mg := mg
  base := base
  A := A.deeper (envOfC qual scope s.heap.objs.size f cd)
  N := N
  s₀ := s
  H₀ := H
  env := envOfC qual scope s.heap.objs.size f cd
  outer := outer
  stack := envOfC qual scope s.heap.objs.size f cd :: outer
  ex := []
  calm := true
  fn := fun _ => true
  pn := []
  xe := fun e s' => wpAny (model P w) (A.deeper (envOfC qual scope s.heap.objs.size f cd)) (leaving (envOfC qual scope s.heap.objs.size f cd) e) (fun _ s'' => CX outer H s E e s'') (fun e' s'' => CX outer H s E e' s'') s'
theorem cell_has {sc : Scope} {n : Nat} {x : Str} (h : sc.names.lookup x = some .cell) : ∃ c, (cellsFrom n sc.names []).lookup x = some c := by
  have q := PySem.W.cellsFrom_some sc.names n [] (.inl h)
  exact Option.isSome_iff_exists.mp q
theorem inv_start {CX : CXT} {P : Program} {w : World} {K : PySem.W.Frag} {mg : Str → Option Value} {base : Heap} {N ps : List Str} {qual : Str} {scope : Scope} {f : Addr} {cd : Value} {A : Around} {outer : List Env} {s s1 : Shared} {H : Hp} {E : XK} {us : List Value} {vs : List V}
    (S : FnScope N ps scope) (hd : A.handled = none) (e0 : Env0 P w K mg base A outer s H) (hl : vs.length = ps.length) (r : Vals vs us)
    (x : InCallC s s.heap.objs.size (bindL (envOfC qual scope s.heap.objs.size f cd).kindOf (ps.zip us) fun _ => none) (cellsFrom (s.heap.objs.size + 1) scope.names []) (bindC (envOfC qual scope s.heap.objs.size f cd).kindOf (ps.zip us) fun _ => none) s1) :
    Inv (cxOf CX P w K mg base N qual scope f cd A outer s H E) [] (start N vs) H s1 := by
  have hpl : ps.length ≤ N.length := by have := congrArg List.length S.pre; rw [List.length_take] at this; omega
  obtain ⟨h1, tk, rfl, hk⟩ := x.done
  have noA : ∀ b : Addr, b ∉ (cxOf CX P w K mg base N qual scope f cd A outer s H E).ex := fun b z => absurd (show b ∈ ([] : List Addr) from z) (by simp)
  refine ⟨⟨e0.mod, S.kind, rfl, rfl, Nat.le_refl _, fun y z c h1 h2 => ?_, fun y hy => ?_, fun y c _ h => ?_, fun _ => hd, Around.frames_deeper e0.frames, .inr ⟨rfl, rfl⟩, fun b z => absurd z (noA b), e0.bs, e0.bsz, fun b _ _ => noA b, fun b z => absurd z (noA b), e0.funs, e0.frf⟩,
    rfl, e0.bare, Un.kept hk, ⟨_, x.toInCall.ns, fun i y v h1 h2 h3 => ?_⟩, fun y c h => ⟨_, x.cell y c h⟩, e0.hok.fresh (Nat.le_refl _), fun y c h => ?_, fun p hp => absurd (show p ∈ ([] : List (Addr × Obj)) from hp) (by simp), e0.hok.kept hk, ?_⟩
  · exact name_of_addr x.apart (PySem.mem_of_lookup h1) (PySem.mem_of_lookup h2)
  · have hy : scope.names.lookup y = some .cell ∨ scope.names.lookup y = some .free := hy
    rcases hy with hy | hy
    · exact cell_has hy
    · exact absurd rfl (S.nofree _ (PySem.mem_of_lookup hy))
  · exact Nat.le_of_lt (x.above y c (PySem.mem_of_lookup h))
  · have hi : i < vs.length := by
      unfold start at h2
      by_cases hi : i < vs.length
      · exact hi
      · rw [List.getElem?_append_right (by simpa using hi)] at h2
        rw [List.getElem?_replicate] at h2
        split at h2 <;> cases h2
    have ha : vs[i]? = some v := by
      unfold start at h2
      rw [List.getElem?_append_left (by simpa using hi), List.getElem?_map] at h2
      cases e : vs[i]? with
      | none => rw [e] at h2; cases h2
      | some a => rw [e] at h2; cases h2; rfl
    obtain ⟨u, hu, rv⟩ := r.get ha
    have hp : ps[i]? = some y := by
      rw [← S.pre, List.getElem?_take_of_lt (by omega)]; exact h1
    have ndP : ps.Nodup := by rw [← S.pre]; exact S.nd.sublist (List.take_sublist _ _)
    refine ⟨u, rv, ?_⟩
    rcases S.par y (List.mem_of_getElem? hp) with k | k
    · exact .inl ⟨k, bindL_get ndP hp hu k⟩
    · obtain ⟨c, e⟩ := cell_has (n := s.heap.objs.size + 1) k
      refine .inr ⟨.inl k, c, e, ?_⟩
      have q := x.cell y c e
      rw [bindC_get ndP hp hu (by show scope.names.lookup y ≠ _; rw [k]; decide)] at q
      exact q
  · exact e0.hok.fresh (Nat.le_of_lt (x.above y c (PySem.mem_of_lookup h)))
  · unfold start
    show _ = N.length
    rw [List.length_append, List.length_map, List.length_replicate]
    omega
theorem fn_of {CX : CXT} {P : Program} {w : World} {K : PySem.W.Frag} {mg : Str → Option Value} {base : Heap} {k : Nat} {f : Addr} {name qual : Str} {params : Arguments} {body : List Stmt} {scope : Scope} {dV kV doc pm cdv ct oc : Value} {an od : Option Addr}
    {osl : Array (Option Value)} {N ps : List Str} {sp : Sp} (lk : K.lookup f = some ⟨oc, od, .func (PySem.W.fnOf name qual params body scope dV kV doc pm an cdv ct), osl⟩) (hcd : PySem.W.codeIn K cdv qual = true) (S : FnScope N ps scope)
    (len : ∀ vs H Q E, sp vs H Q E → vs.length = ps.length)
    (hbody : ∀ (A : Around) (outer : List Env) (s : Shared) (H : Hp) (vs : List V) (Q : VK) (E : XK), Room k (A.deeper (envOfC qual scope s.heap.objs.size f cdv)) → sp vs H Q E →
      ∃ t, PSs (cxOf CX P w K mg base N qual scope f cdv A outer s H E) body t ∧ t { nx := fun _ H' => Q .non H', rt := Q } (start N vs) H) :
    FnOk P w K mg base CX (k + 1) f (PySem.W.fnOf name qual params body scope dV kV doc pm an cdv ct) ps sp := by
  refine ⟨len, fun A outer s H args us vs Q E hr e0 hb r hsp => ?_⟩
  have hl := len _ _ _ _ hsp
  have KX : K.In s.heap := e0.mod.kin.keeps fun b o e => (e0.bs b o e).1
  have lim : s.heap.NoLimit := e0.mod.nolimit.keeps fun b o e => (e0.bs b o e).1
  have hkind : ∀ y ∈ ps.zip us, scope.names.lookup y.1 = some .local ∨ (scope.names.lookup y.1 = some .cell ∧ ((cellsFrom (s.heap.objs.size + 1) scope.names []).lookup y.1).isSome = true) := fun ⟨n, v⟩ hy => by
    rcases S.par n (List.of_mem_zip hy).1 with q | q
    · exact .inl q
    · exact .inr ⟨q, PySem.W.cellsFrom_some _ _ _ (.inl q)⟩
  refine codeAny_call_function hr.depth (KX _ _ lk) rfl S.co S.gen rfl (PySem.W.codeRec_of KX hcd) (hb _ _ _ _ ?_)
  refine wpAny_newFunctionEnv_cells S.kind hkind fun env he s1 x => ?_
  subst he
  refine ⟨lim.keeps x.toInCall.keep, codeAny_func ?_⟩
  obtain ⟨t, ht, hq⟩ := hbody A outer s H vs Q E (hr.deeper _) hsp
  have I : Inv (cxOf CX P w K mg base N qual scope f cdv A outer s H E) [] (start N vs) H s1 := inv_start S hr.hd e0 hl r x
  refine wpAny_mono (ht [] s1 (start N vs) H _ I hq) (fun fl s' hs => ?_) fun e s' hs => hs
  have fin : ∀ {σ' : St} {H' : Hp} {v : V} {u : Value}, Inv (cxOf CX P w K mg base N qual scope f cdv A outer s H E) [] σ' H' s' → RelV v u → Q v H' → CE outer P w H s Q u s' :=
    fun {σ' H' v u} J rv q => ⟨v, H', J.os, J.bare, J.base, J.hok, rv, q⟩
  cases fl with
  | ret u =>
    obtain ⟨v, σ', H', J, rv, q⟩ := hs
    exact fin J rv q
  | next =>
    obtain ⟨σ', H', J, q⟩ := hs
    exact fin (v := V.non) (u := Value.none) J rfl q
  | brk =>
    obtain ⟨_, _, _, q⟩ := hs
    exact False.elim q
  | cont =>
    obtain ⟨_, _, _, q⟩ := hs
    exact False.elim q
end L2
namespace L2
open PySem PySem.Spec PyProof.Rows
section
variable {X : Cx} {x : Str} {p pos : Pos} {e : Expr} {es : List Expr} {t : TA} {id T : String} {r : List V → Hp → VK → Prop}
def tCB (r : List V → Hp → VK → Prop) (t : TA) : TE := fun σ H Q => t σ H fun vs H1 => r vs H1 Q
theorem pe_callB (hc : CallR X (.builtin id) r) (hg : Gl X x) (hm : X.mg x = none) (hv : bootBuiltins x = some (.builtin id)) (ha : PA X (e :: es) t) (hn : x ≠ "__name__" := by decide) (hdb : (x == ("__debug__" : Str)) = false := by decide)
    (he : starEach (e :: es) X.env = (false, eval e X.env) :: starEach es X.env := by rfl) (hpl : (backTo pos (starEach es X.env)).any (·.1) = false := by rfl) : PE X (.Call (.Name x p) (e :: es) [] pos) (tCB r t) := by
  intro pins s σ H Q I h
  refine wpAny_Call_Name_kw (ld_blt I hg hm hv ?_ hn hdb)
  exact PyProof.Rows.callWith_builtin1 (thn (ha pos pins s σ H _ I h) fun us s1 ⟨vs, H1, I1, r1, q1⟩ => hc pins s1 σ H1 vs us Q I1 r1 q1) he hpl
theorem pe_callTy (hc : CallR X (.type T) r) (hg : Gl X x) (hm : X.mg x = none) (hv : bootBuiltins x = some (.type T)) (ha : PA X (e :: es) t) (hn : x ≠ "__name__" := by decide) (hdb : (x == ("__debug__" : Str)) = false := by decide)
    (he : starEach (e :: es) X.env = (false, eval e X.env) :: starEach es X.env := by rfl) (hpl : (backTo pos (starEach es X.env)).any (·.1) = false := by rfl) : PE X (.Call (.Name x p) (e :: es) [] pos) (tCB r t) := by
  intro pins s σ H Q I h
  refine wpAny_Call_Name_kw (ld_blt I hg hm hv ?_ hn hdb)
  exact PyProof.Rows.callWith_type1 (thn (ha pos pins s σ H _ I h) fun us s1 ⟨vs, H1, I1, r1, q1⟩ => hc pins s1 σ H1 vs us Q I1 r1 q1) he hpl
end
end L2
namespace HT
open PySem PyProof.Rows
section
open PySem.SeqAt
open PySem.AutoSeq1 (wpAny_loadPart')
open PySem.MeetsSeq PySem.MeetsSeq2 PySem.MeetsSeq3
end
section
variable {prog : Program} {w : World} {A : Around} {E : Value → Shared → Prop} {s : Shared}
def sIx (n d : Nat) : Option Int → Nat
  | none => d
  | some v => if v < 0 then (v + (n : Int)).toNat else min v.toNat n
theorem sIx_none (n d : Nat) : sIx n d none = d := rfl
theorem sIx_nat (n d k : Nat) : sIx n d (some (k : Int)) = min k n := by
  show (if (k : Int) < 0 then ((k : Int) + (n : Int)).toNat else min (k : Int).toNat n) = min k n
  rw [if_neg (by omega), Int.toNat_natCast]
theorem sIx_le (n d : Nat) (hd : d ≤ n) (o : Option Int) : sIx n d o ≤ n := by
  cases o with
  | none => exact hd
  | some v =>
    show (if v < 0 then (v + (n : Int)).toNat else min v.toNat n) ≤ n
    by_cases hv : v < 0
    · rw [if_pos hv]; omega
    · rw [if_neg hv]; exact Nat.min_le_right _ _
theorem clip_eq (v : Int) (n d : Nat) : (if v < 0 then max (v + (n : Int)) 0 else min v (n : Int)) = ((sIx n d (some v) : Nat) : Int) := by
  show (if v < 0 then max (v + (n : Int)) 0 else min v (n : Int)) = (((if v < 0 then (v + (n : Int)).toNat else min v.toNat n) : Nat) : Int)
  by_cases hv : v < 0
  · simp only [if_pos hv]; omega
  · simp only [if_neg hv]; omega
theorem adjust_gen (lo hi : Option Int) (n : Nat) : Builtin.Slice.sliceAdjust lo hi 1 (n : Int) = (((sIx n 0 lo : Nat) : Int), ((sIx n n hi : Nat) : Int)) := by
  have h1 : ¬ ((1 : Int) < 0) := by omega
  unfold Builtin.Slice.sliceAdjust
  simp only [h1, if_false]
  refine Prod.ext ?_ ?_
  · cases lo with
    | none => rfl
    | some v => exact clip_eq v n 0
  · cases hi with
    | none => rfl
    | some v => exact clip_eq v n n
theorem places_gen (i j : Nat) : Builtin.Slice.slicePlaces (i : Int) (j : Int) 1 = j - i := by
  unfold Builtin.Slice.slicePlaces
  have h1 : (1 : Int) > 0 := by omega
  simp only [h1, if_true, Int.ediv_one]
  split <;> omega
theorem slicePart_ {v : Value} {o : Option Int} {Q : Option Int → Shared → Prop} (p : IsPart v o) (h : Q o s) : wpAny (model prog w) A (Builtin.Slice.slicePartIndex v) Q E s := by
  cases p with
  | none => exact slicePart_none h
  | int i t => exact slicePart_int h
theorem sliceApplied_gen {sl : Addr} {vl vu : Value} {lo hi : Option Int} {n : Nat} {Q : Int × Int × Nat → Shared → Prop} (hs : s.heap.IsSliceOf sl vl vu .none) (pl : IsPart vl lo) (pu : IsPart vu hi)
    (h : Q (((sIx n 0 lo : Nat) : Int), 1, sIx n n hi - sIx n 0 lo) s) : wpAny (model prog w) A (Builtin.Slice.sliceApplied (.ref sl) (pure (n : Int))) Q E s := by
  obtain ⟨os, hos, hcs, hds⟩ := id hs
  unfold Builtin.Slice.sliceApplied Builtin.Slice.sliceFields
  refine wpAny_bind (wpAny_bind (wpAny_field hos hds (x := vl) rfl (wpAny_bind (wpAny_field hos hds (x := vu) rfl (wpAny_bind (wpAny_field hos hds (x := .none) rfl (wpAny_pure ?_)))))))
  refine wpAny_bind (slicePart_none ?_)
  show wpAny _ _ (if ((1 : Int) == 0) = true then _ else _) _ _ s
  rw [if_neg (by decide)]
  refine wpAny_bind (slicePart_ pl (wpAny_bind (slicePart_ pu (wpAny_bind (wpAny_pure ?_)))))
  show wpAny _ _ (match Builtin.Slice.sliceAdjust lo hi 1 (n : Int) with | (lo, hi) => pure (lo, (1 : Int), Builtin.Slice.slicePlaces lo hi 1)) _ _ s
  rw [adjust_gen lo hi n]
  show wpAny _ _ (pure (((sIx n 0 lo : Nat) : Int), (1 : Int), Builtin.Slice.slicePlaces ((sIx n 0 lo : Nat) : Int) ((sIx n n hi : Nat) : Int) 1)) _ _ s
  rw [places_gen]
  exact wpAny_pure h
theorem pick_gen (xs : Array Value) (i k : Nat) : ((List.range k).filterMap fun (m : Nat) => xs[((i : Int) + (m : Int) * 1).toNat]?).toArray = ((xs.toList.drop i).take k).toArray := by
  have e : (fun (m : Nat) => xs[((i : Int) + (m : Int) * 1).toNat]?) = fun m => xs[i + m]? := by
    funext m
    have : ((i : Int) + (m : Int) * 1).toNat = i + m := by omega
    rw [this]
  rw [e]
  have := pick_run xs i k
  rw [List.filterMap_map] at this
  have e2 : ((fun x => xs[x]?) ∘ fun x => i + x) = fun m => xs[i + m]? := rfl
  rw [e2] at this
  rw [this]
theorem getItem_tuple_cut {t sl : Addr} {items : Array Value} {vl vu : Value} {lo hi : Option Int} {Q : Value → Shared → Prop} (ht : IsTup s.heap t items) (hs : s.heap.IsSliceOf sl vl vu .none) (pl : IsPart vl lo) (pu : IsPart vu hi)
    (hw : ¬ (sIx items.size 0 lo = 0 ∧ sIx items.size items.size hi = items.size))
    (h : Q (.ref s.heap.objs.size) { s with heap := s.heap.push { cls := .type "tuple", data := .seq ((items.toList.drop (sIx items.size 0 lo)).take (sIx items.size items.size hi - sIx items.size 0 lo)).toArray } })
    (hsz : items.size ≤ sizeLine) : wpAny (model prog w) A (getItem (.ref t) (.ref sl)) Q E s := by
  have htake : sizeOk (.seq ((items.toList.drop (sIx items.size 0 lo)).take (sIx items.size items.size hi - sIx items.size 0 lo)).toArray) := by
    show ((items.toList.drop (sIx items.size 0 lo)).take (sIx items.size items.size hi - sIx items.size 0 lo)).toArray.size ≤ sizeLine
    rw [List.size_toArray, List.length_take, List.length_drop, Array.length_toList]
    omega
  have hj : sIx items.size items.size hi ≤ items.size := sIx_le _ _ (Nat.le_refl _) hi
  obtain ⟨os, hos, hcs, hds⟩ := id hs
  have hTs : s.TypeIs (.ref sl) "slice" := ⟨os, hos, hcs⟩
  unfold getItem
  try with_reducible refine wpAny_holding ?_
  first | refine wpAny_bind (wpAny_pure ?_) | skip
  refine wpAny_bind (wpAny_sequenceKey ht.typeIs (by decide) ?_)
  refine wpAny_bind (wpAny_callSpecial?_slot (name := Str.ofString "__getitem__") ht.typeIs PyProof.Rows.slot_tuple_getitem
    (wpAny_call_entry PyProof.Rows.slot_tuple_getitem ht.typeIs entry_tuple_getitem ?_ (args_tuple_getitem _ _)))
  show wpAny _ _ (Builtin.Tuple.tupleItemsOf (.ref t) >>= _) _ _ s
  refine wpAny_bind (tupleItemsOf_ ht ?_)
  refine wpAny_bind (wpAny_typeOf hTs ?_)
  rw [if_pos (by decide)]
  refine wpAny_bind (sliceApplied_gen hs pl pu ?_)
  have hno : ¬ ((((sIx items.size 0 lo : Nat) : Int) == 0 && (1 : Int) == 1 && (sIx items.size items.size hi - sIx items.size 0 lo) == items.size) = true) := by
    intro q
    rw [Bool.and_eq_true, Bool.and_eq_true] at q
    have q1 : ((sIx items.size 0 lo : Nat) : Int) = 0 := eq_of_beq q.1.1
    have q2 : sIx items.size items.size hi - sIx items.size 0 lo = items.size := eq_of_beq q.2
    exact hw ⟨by omega, by omega⟩
  show wpAny _ _ (if (((sIx items.size 0 lo : Nat) : Int) == 0 && (1 : Int) == 1 && (sIx items.size items.size hi - sIx items.size 0 lo) == items.size) = true then _ else _) _ _ s
  rw [if_neg hno, pick_gen]
  first
    | exact wpAny_bind (m := Builtin.Tuple.tupleExact _) (wpAny_newObj_type (wpAny_pure ⟨_, rfl, wpAny_pure h⟩) htake)
    | exact wpAny_bind (m := Builtin.Tuple.tupleExact _) (wpAny_newObj_type (wpAny_bind (wpAny_pure (wpAny_pure ⟨_, rfl, wpAny_pure h⟩))) htake)
    | exact wpAny_bind (wpAny_bind (m := Builtin.Tuple.tupleExact _) (wpAny_newObj_type (wpAny_pure (wpAny_pure ⟨_, rfl, wpAny_pure h⟩)) htake))
    | exact wpAny_bind (wpAny_bind (m := Builtin.Tuple.tupleExact _) (wpAny_newObj_type (wpAny_pure ⟨_, rfl, wpAny_pure h⟩) htake))
end
end HT
namespace L2
open PySem PySem.Spec PyProof.Rows
abbrev TO := St → Hp → (Option Int → Hp → Prop) → Prop
def PO (X : Cx) (e : Option Expr) (t : TO) : Prop :=
  ∀ (pins : List (Addr × Obj)) (s : Shared) (σ : St) (H : Hp) (Q : Option Int → Hp → Prop), Inv X pins σ H s → t σ H Q →
    wpAny (model X.prog X.w) X.A (evalPart e X.env) (fun u s' => ∃ o H', Inv X pins σ H' s' ∧ IsPart u o ∧ Q o H') X.xe s
def tNoPart : TO := fun _ H Q => Q none H
def tPart (t : TE) : TO := fun σ H Q => t σ H fun x H1 => ∃ i, x = .int i ∧ Q (some i) H1
section
variable {X : Cx} {e : Expr} {te : TE} {lo hi : Option Expr} {tl th : TO} {pos p2 : Pos}
theorem po_none : PO X none tNoPart := by
  intro pins s σ H Q I h
  rw [evalPart_none]
  exact wpAny_pure ⟨none, H, I, .none, h⟩
theorem po_some (h : PE X e te) : PO X (some e) (tPart te) := by
  intro pins s σ H Q I hw
  rw [evalPart_some]
  refine thn (h pins s σ H _ I hw) fun u s1 ⟨x, H1, I1, r1, q1⟩ => ?_
  obtain ⟨i, rfl, q⟩ := q1
  obtain ⟨t, rfl⟩ := r1
  exact ⟨some i, H1, I1, .int i t, q⟩
def SlR (X : Cx) (r : V → Option Int → Option Int → Hp → VK → Prop) : Prop :=
  ∀ (pins : List (Addr × Obj)) (s : Shared) (σ : St) (H : Hp) (x : V) (v vl vu : Value) (lo hi : Option Int) (sl : Addr) (Q : VK), Inv X pins σ H s → RelV x v → s.heap.IsSliceOf sl vl vu .none → IsPart vl lo → IsPart vu hi → r x lo hi H Q →
    ∃ T id, typeLookup (.type T) "__getitem__" = pure (some (.builtin id)) ∧ s.TypeIs v T ∧ wpAny (model X.prog X.w) X.A (getItem v (.ref sl)) (EP X pins σ Q) X.xe s
theorem SlR.or {r r' : V → Option Int → Option Int → Hp → VK → Prop} (h : SlR X r) (h' : SlR X r') : SlR X (fun x lo hi H Q => r x lo hi H Q ∨ r' x lo hi H Q) := by
  intro pins s σ H x v vl vu lo hi sl Q I rx hs pl pu q
  rcases q with q | q
  · exact h pins s σ H x v vl vu lo hi sl Q I rx hs pl pu q
  · exact h' pins s σ H x v vl vu lo hi sl Q I rx hs pl pu q
def tSl (r : V → Option Int → Option Int → Hp → VK → Prop) (te : TE) (tl th : TO) : TE := fun σ H Q => te σ H fun x H1 => tl σ H1 fun l H2 => th σ H2 fun u H3 => r x l u H3 Q
theorem pe_slice {r : V → Option Int → Option Int → Hp → VK → Prop} (hr : SlR X r) (he : PE X e te) (hl : PO X lo tl) (hu : PO X hi th) : PE X (.Subscript e (.Slice lo hi none p2) pos) (tSl r te tl th) := by
  intro pins s σ H Q I h
  refine Subscript_ (thn (he pins s σ H _ I h) fun v s1 ⟨x, H1, I1, r1, q1⟩ => ?_)
  refine wpAny_Slice (thn (hl pins s1 σ H1 _ I1 q1) fun vl s2 ⟨l, H2, I2, pl, q2⟩ => thn (hu pins s2 σ H2 _ I2 q2) fun vu s3 ⟨u, H3, I3, pu, q3⟩ => ?_)
  rw [evalPart_none]
  refine wpAny_pure ?_
  have I4 : Inv X pins σ H3 { s3 with heap := s3.heap.push { cls := .type "slice", data := .fields #[vl, vu, .none] } } := I3.kept (t' := s3.toks) fun b ob q => Heap.get?_push_of_some _ q
  obtain ⟨T, id, hT, ht, hg⟩ := hr pins { s3 with heap := s3.heap.push { cls := .type "slice", data := .fields #[vl, vu, .none] } } σ H3 x v vl vu l u s3.heap.objs.size Q I4 r1 (Heap.IsSliceOf.new ..) pl pu q3
  show wpAny (model X.prog X.w) X.A (subscriptTail e (.Slice lo hi none p2) v (.ref s3.heap.objs.size)) (EP X pins σ Q) X.xe { s3 with heap := s3.heap.push { cls := .type "slice", data := .fields #[vl, vu, .none] } }
  exact tail_any (ops := [.ref s3.heap.objs.size, v]) ht hT hg (by with_unfolding_all rfl)
def cutV (xs : List V) (lo hi : Option Int) : List V := (xs.drop (HT.sIx xs.length 0 lo)).take (HT.sIx xs.length xs.length hi - HT.sIx xs.length 0 lo)
theorem cutV_length (xs : List V) (lo hi : Option Int) : (cutV xs lo hi).length ≤ xs.length := by
  unfold cutV
  rw [List.length_take, List.length_drop]
  omega
def rSlT (K : PySem.W.Frag) : V → Option Int → Option Int → Hp → VK → Prop := fun x lo hi H Q => ∃ a xs, x = .ref a ∧ SqT K H a xs ∧
  ¬ (HT.sIx xs.length 0 lo = 0 ∧ HT.sIx xs.length xs.length hi = xs.length) ∧ ∀ p, H p = none → Q (.ref p) (upd H p (.tup (cutV xs lo hi)))
theorem sl_tup : SlR X (rSlT X.K) := by
  intro pins s σ H x v vl vu lo hi sl Q I rx hs pl pu h
  obtain ⟨a, xs, rfl, hx, hw, q⟩ := h
  cases rx
  obtain ⟨its, r, ht, hz⟩ := I.tuple hx
  have hlen : its.toArray.size = xs.length := by rw [List.size_toArray]; exact r.length.symm
  refine ⟨"tuple", _, PyProof.Rows.slot_tuple_getitem.lookup, ht.typeIs, ?_⟩
  refine HT.getItem_tuple_cut ht hs pl pu (by rw [hlen]; exact hw) ?_ (by rw [hlen]; exact hz)
  rw [hlen]
  refine ⟨.ref s.heap.objs.size, _, I.laid (t' := s.toks) (o := .tup (cutV xs lo hi)) (fun b ob q => Heap.get?_push_of_some _ q) (Nat.le_refl _) ?_, rfl, q _ (I.hok.fresh (Nat.le_refl _))⟩
  exact ⟨Nat.le_trans (cutV_length xs lo hi) hz, _, (r.drop (HT.sIx xs.length 0 lo)).take (HT.sIx xs.length xs.length hi - HT.sIx xs.length 0 lo), IsTup.new _ _⟩
end
end L2
namespace L2
open PySem PySem.Spec PyProof.Rows
def ixN (n : Nat) (i : Int) : Option Nat := if 0 ≤ i then (if i < n then some i.toNat else none) else if -(n : Int) ≤ i then some (i + n).toNat else none
def atI {α : Type} (xs : List α) (i : Int) : Option α := (ixN xs.length i).bind fun j => xs[j]?
theorem ixN_seq {n : Nat} {i : Int} {j : Nat} (h : ixN n i = some j) : seqIndex? i n = some j ∧ j < n ∧ -(n : Int) ≤ i ∧ i < n := by
  unfold ixN at h
  by_cases h0 : 0 ≤ i
  · rw [if_pos h0] at h
    by_cases h1 : i < n
    · rw [if_pos h1] at h
      have e : i.toNat = j := Option.some.inj h
      exact ⟨by rw [seqIndex_of h0 h1, e], by omega, by omega, h1⟩
    · rw [if_neg h1] at h; cases h
  · rw [if_neg h0] at h
    by_cases h1 : -(n : Int) ≤ i
    · rw [if_pos h1] at h
      have e : (i + n).toNat = j := Option.some.inj h
      exact ⟨by rw [seqIndex_neg (by omega) h1, e], by omega, h1, by omega⟩
    · rw [if_neg h1] at h; cases h
theorem atI_get {α : Type} {xs : List α} {i : Int} {v : α} (h : atI xs i = some v) : ∃ j, seqIndex? i xs.length = some j ∧ xs[j]? = some v ∧ j < xs.length ∧ -(xs.length : Int) ≤ i ∧ i < xs.length := by
  unfold atI at h
  cases e : ixN xs.length i with
  | none => rw [e] at h; cases h
  | some j =>
    rw [e] at h
    obtain ⟨h1, h2, h3, h4⟩ := ixN_seq e
    exact ⟨j, h1, h, h2, h3, h4⟩
theorem atI_nat {α : Type} {xs : List α} {j : Nat} {v : α} (h : xs[j]? = some v) : atI xs (j : Int) = some v := by
  have hj : j < xs.length := (List.getElem?_eq_some_iff.mp h).1
  have e : ixN xs.length (j : Int) = some j := by
    unfold ixN
    rw [if_pos (by omega), if_pos (by omega)]; simp
  unfold atI; rw [e]; exact h
def PlainIx (b : Expr) : Prop := ∀ o i, subscripted b false o i = operate [o, i] (getItem o i)
def IxR (X : Cx) (r : R2) : Prop :=
  ∀ (value slice : Expr) (pins : List (Addr × Obj)) (s : Shared) (σ : St) (H : Hp) (x y : V) (v u : Value) (Q : VK), Inv X pins σ H s → RelV x v → RelV y u → r x y H Q →
    subscripted slice false v u = operate [v, u] (getItem v u) → wpAny (model X.prog X.w) X.A (subscriptTail value slice v u) (EP X pins σ Q) X.xe s
def MtR (X : Cx) (id : String) (r : V → List V → Hp → VK → Prop) : Prop :=
  ∀ (pins : List (Addr × Obj)) (s : Shared) (σ : St) (H : Hp) (x : V) (xs : List V) (v : Value) (us : List Value) (Q : VK), Inv X pins σ H s → RelV x v → Vals xs us → r x xs H Q →
    wpAny (model X.prog X.w) X.A (call (.builtin id) (v :: us)) (EP X pins σ Q) X.xe s
section
variable {X : Cx} {a b : Expr} {ta tb : TE} {pos : Pos}
theorem IxR.or {r r' : R2} (h : IxR X r) (h' : IxR X r') : IxR X (fun x y H Q => r x y H Q ∨ r' x y H Q) := by
  intro value slice pins s σ H x y v u Q I rx ry q hs
  rcases q with q | q
  · exact h value slice pins s σ H x y v u Q I rx ry q hs
  · exact h' value slice pins s σ H x y v u Q I rx ry q hs
theorem MtR.or {id : String} {r r' : V → List V → Hp → VK → Prop} (h : MtR X id r) (h' : MtR X id r') : MtR X id (fun x xs H Q => r x xs H Q ∨ r' x xs H Q) := by
  intro pins s σ H x xs v us Q I rx rs q
  rcases q with q | q
  · exact h pins s σ H x xs v us Q I rx rs q
  · exact h' pins s σ H x xs v us Q I rx rs q
theorem pe_ix {r : R2} (hr : IxR X r) (ha : PE X a ta) (hb : PE X b tb) (hs : PlainIx b) : PE X (.Subscript a b pos) (tOp r ta tb) := by
  intro pins s σ H Q I h
  exact Subscript_ (binT ha hb I h fun v u s2 x y H2 I2 rx ry q => hr a b pins s2 σ H2 x y v u Q I2 rx ry q (hs _ _))
def rIxL (K : PySem.W.Frag) : R2 := fun x y H Q => ∃ p xs i v, x = .ref p ∧ y = .int i ∧ SqL K H p xs ∧ atI xs i = some v ∧ Q v H
def rIxT (K : PySem.W.Frag) : R2 := fun x y H Q => ∃ p xs i v, x = .ref p ∧ y = .int i ∧ SqT K H p xs ∧ atI xs i = some v ∧ Q v H
def rIxS : R2 := fun x y H Q => ∃ z i c, x = .str z ∧ y = .int i ∧ z.length ≤ sizeLine ∧ atI z.cps.toList i = some c ∧ Q (.str ⟨#[c]⟩) H
theorem ix_list : IxR X (rIxL X.K) := by
  intro value slice pins s σ H x y v u Q I rx ry h hs
  obtain ⟨p, xs, i, z, rfl, rfl, hq, he, q⟩ := h
  cases rx
  obtain ⟨t, rfl⟩ := ry
  obtain ⟨its, r, pl, hz⟩ := I.list hq
  obtain ⟨j, h1, h2, h3, h4, h5⟩ := atI_get he
  obtain ⟨w, ew, rw'⟩ := r.get h2
  have hl := r.length
  have hn := line63
  have fin : EP X pins σ Q w s := ⟨z, H, I, rw', q⟩
  by_cases h0 : 0 ≤ i
  · have hj : i.toNat = j := by
      rw [seqIndex_of h0 h5] at h1
      exact Option.some.inj h1
    exact item_listR pl.isList h0 (by omega) (by rw [hj]; simpa using ew) fin hs
  · have hj : (i + (its.toArray.size : Int)).toNat = j := by
      rw [seqIndex_neg (by omega) h4] at h1
      rw [List.size_toArray, ← hl]
      exact Option.some.inj h1
    exact subscriptTail_builtinR (x := w) pl.isList.typeIs slot_list_getitem.lookup
      (wpAny_getItem_list_neg (Q := fun r s' => r = w ∧ EP X pins σ Q r s') pl.isList (by omega) (by rw [List.size_toArray] <;> omega) (by omega) (by rw [hj]; simpa using ew) ⟨rfl, fin⟩) hs
theorem ix_tup : IxR X (rIxT X.K) := by
  intro value slice pins s σ H x y v u Q I rx ry h hs
  obtain ⟨p, xs, i, z, rfl, rfl, hq, he, q⟩ := h
  cases rx
  obtain ⟨t, rfl⟩ := ry
  obtain ⟨its, r, pl, hz⟩ := I.tuple hq
  obtain ⟨j, h1, h2, h3, h4, h5⟩ := atI_get he
  obtain ⟨w, ew, rw'⟩ := r.get h2
  have hl := r.length
  have hn := line63
  have fin : EP X pins σ Q w s := ⟨z, H, I, rw', q⟩
  exact subscriptTail_builtinR (x := w) pl.typeIs slot_tuple_getitem.lookup
    (getItem_tuple (j := j) (Q := fun r s' => r = w ∧ EP X pins σ Q r s') pl (by omega) (by omega) (by rw [List.size_toArray, ← hl]; exact h1) (by simpa using ew) ⟨rfl, fin⟩) hs
theorem ix_str : IxR X rIxS := by
  intro value slice pins s σ H x y v u Q I rx ry h hs
  obtain ⟨z, i, c, rfl, rfl, hz, he, q⟩ := h
  obtain ⟨t, rfl⟩ := rx
  obtain ⟨t', rfl⟩ := ry
  obtain ⟨j, h1, h2, h3, h4, h5⟩ := atI_get he
  have hl : z.cps.toList.length = z.length := by simp [Str.length]
  rw [hl] at h1 h4 h5
  have hn := line63
  exact tail_any (typeIs_str s z t) slot_str_getitem.lookup (getItem_str (c := c) (by
    have e1 : decide (i < -(2 ^ 63 : Int)) = false := decide_eq_false (by omega)
    have e2 : decide (i ≥ 2 ^ 63) = false := decide_eq_false (by omega)
    rw [e1, e2, Bool.or_false]) (by rw [h1]; simpa using h2) ⟨.str ⟨#[c]⟩, H, I.tok _, ⟨_, rfl⟩, q⟩) hs
def rIx (K : PySem.W.Frag) : R2 := fun x y H Q => rIxL K x y H Q ∨ rIxT K x y H Q ∨ rIxS x y H Q
theorem ix_seq : IxR X (rIx X.K) := ix_list.or (ix_tup.or ix_str)
theorem mapSeq_set (its : List Value) (n j : Nat) (u : Value) : Obj.mapSeq (·.setIfInBounds j u) { cls := .type "list", data := .seq its.toArray n } = { cls := .type "list", data := .seq (its.set j u).toArray n } := by
  simp [Obj.mapSeq]
theorem Inv.lst {pins : List (Addr × Obj)} {σ : St} {H : Hp} {s : Shared} {p : Addr} {xs : List V} (I : Inv X pins σ H s) (h : H p = some (.lst xs)) :
    ∃ (its : List Value) (n : Nat), Vals xs its ∧ s.heap.get? p = some { cls := .type "list", data := .seq its.toArray n } ∧ xs.length ≤ sizeLine := by
  obtain ⟨z, its, n, r, e⟩ := I.hok p _ h
  exact ⟨its, n, r, e, z⟩
theorem Inv.lstUpd {pins : List (Addr × Obj)} {σ : St} {H : Hp} {s : Shared} {p : Addr} {xs ys : List V} {its its' : List Value} {n n' : Nat} {f : Obj → Obj} (I : Inv X pins σ H s) (h : H p = some (.lst xs))
    (ho : s.heap.get? p = some { cls := .type "list", data := .seq its.toArray n }) (hf : f { cls := .type "list", data := .seq its.toArray n } = { cls := .type "list", data := .seq its'.toArray n' }) (r : Vals ys its') (hz : ys.length ≤ sizeLine) (t : Nat) :
    Inv X pins σ (upd H p (.lst ys)) { s with heap := s.heap.update p f, toks := t } := by
  have e : (s.heap.update p f).get? p = some { cls := .type "list", data := .seq its'.toArray n' } := by
    rw [Heap.get?_update_self f ho (by rw [hf] <;> rfl), hf]
  refine I.write (x := p) (e := p) (by rw [h]; trivial) (.inl rfl) (fun b u hb q => (Heap.get?_update_other _ _ (Ne.symm hb)).trans q) ⟨_, e⟩ ?_
  exact ⟨hz, its', n', r, e⟩
def rSetL : V → V → V → Hp → (Hp → Prop) → Prop := fun o i v H Q => ∃ p xs k j, o = .ref p ∧ i = .int k ∧ H p = some (.lst xs) ∧ ixN xs.length k = some j ∧ Q (upd H p (.lst (xs.set j v)))
theorem set_list : PSet X rSetL := by
  intro pins s σ H o i v ov iv u Q I ro ri rv h
  obtain ⟨p, xs, k, j, rfl, rfl, hp, hj, q⟩ := h
  cases ro
  obtain ⟨t, rfl⟩ := ri
  obtain ⟨its, n, r, ho, hz⟩ := I.lst hp
  obtain ⟨h1, h2, h3, h4⟩ := ixN_seq hj
  have hl := r.length
  have hn := line63
  have I' : Inv X pins σ (upd H p (.lst (xs.set j v))) { s with heap := s.heap.update p (Obj.mapSeq (·.setIfInBounds j u)) } :=
    I.lstUpd hp ho (mapSeq_set its n j u) (r.set rv j) (by rw [List.length_set]; exact hz) s.toks
  by_cases h0 : 0 ≤ k
  · have hk : k.toNat = j := by
      rw [seqIndex_of h0 h4] at h1
      exact Option.some.inj h1
    exact PySem.W.ki_setAt ho h0 (by omega) (by rw [List.size_toArray, ← hl]; exact h4) (by rw [hk]; exact ⟨_, I', q⟩)
  · have hk : (k + (its.toArray.size : Int)).toNat = j := by
      rw [seqIndex_neg (by omega) h3] at h1
      rw [List.size_toArray, ← hl]
      exact Option.some.inj h1
    exact PySem.W.ki_setBack ho (by omega) (by rw [List.size_toArray, ← hl]; exact h3) (by omega) (by rw [hk]; exact ⟨_, I', q⟩)
theorem slice_bounds (lo hi : Option Int) (n : Nat) : (sliceBounds lo hi none n).1 = ((HT.sIx n 0 lo : Nat) : Int) ∧ (sliceBounds lo hi none n).2.1 = ((HT.sIx n n hi : Nat) : Int) ∧ (sliceBounds lo hi none n).2.2 = 1 := by
  refine ⟨?_, ?_, rfl⟩
  · cases lo with
    | none => simp [sliceBounds, HT.sIx]
    | some i =>
      simp only [sliceBounds, HT.sIx, Option.getD_none, show (1 : Int) > 0 by decide, if_true]
      by_cases h : i < 0
      · simp only [h, if_true] <;> omega
      · simp only [h, if_false] <;> omega
  · cases hi with
    | none => simp [sliceBounds, HT.sIx]
    | some i =>
      simp only [sliceBounds, HT.sIx, Option.getD_none, show (1 : Int) > 0 by decide, if_true]
      by_cases h : i < 0
      · simp only [h, if_true] <;> omega
      · simp only [h, if_false] <;> omega
theorem slicePick_cut (its : List Value) (lo hi : Option Int) : slicePick its.toArray lo hi none = ((its.drop (HT.sIx its.length 0 lo)).take (HT.sIx its.length its.length hi - HT.sIx its.length 0 lo)).toArray := by
  obtain ⟨h1, h2, h3⟩ := slice_bounds lo hi its.toArray.size
  unfold slicePick
  rw [h1, h2, h3]
  simp only [sliceRange_one, pick_run, List.size_toArray] <;> rfl
def rSlL (K : PySem.W.Frag) : V → Option Int → Option Int → Hp → VK → Prop := fun x lo hi H Q => ∃ a xs, x = .ref a ∧ SqL K H a xs ∧ ∀ p, H p = none → Q (.ref p) (upd H p (.lst (cutV xs lo hi)))
theorem sl_list : SlR X (rSlL X.K) := by
  intro pins s σ H x v vl vu lo hi sl Q I rx hs pl pu h
  obtain ⟨a, xs, rfl, hx, q⟩ := h
  cases rx
  obtain ⟨its, r, ht, hz⟩ := I.list hx
  have hlen := r.length
  refine ⟨"list", _, slot_list_getitem.lookup, ht.isList.typeIs, ?_⟩
  refine wpAny_getItem_list_slice ht.isList hs pl pu .none (by simp) ?_ (by rw [List.size_toArray] <;> omega)
  rw [slicePick_cut, ← hlen]
  refine ⟨.ref s.heap.objs.size, _, I.laid (t' := s.toks) (o := .lst (cutV xs lo hi)) (fun b ob q => Heap.get?_push_of_some _ q) (Nat.le_refl _) ?_, rfl, q _ (I.hok.fresh (Nat.le_refl _))⟩
  exact ⟨Nat.le_trans (cutV_length xs lo hi) hz, _, 0, (r.drop (HT.sIx xs.length 0 lo)).take (HT.sIx xs.length xs.length hi - HT.sIx xs.length 0 lo), Heap.get?_push_size _ rfl⟩
def flatV : V → Bool
  | .non => true
  | .bl _ => true
  | .int _ => true
  | .str _ => true
  | _ => false
def eqV : V → V → Bool
  | .non, .non => true
  | .bl a, .bl b => a == b
  | .bl a, .int b => (if a then 1 else 0) == b
  | .int a, .bl b => a == (if b then 1 else 0)
  | .int a, .int b => a == b
  | .str a, .str b => a == b
  | _, _ => false
theorem eqAt_V {A : Around} {s : Shared} {y x : V} {u v : Value} (ry : RelV y u) (rx : RelV x v) (fy : flatV y = true) (fx : flatV x = true) : SeqAt.EqAt A s u v (eqV y x) := by
  cases y with
  | non =>
    cases ry
    cases x with
    | non => cases rx; exact SeqAt.EqAt.same _
    | bl b => cases rx; exact SeqAt.EqAt.none_bool b
    | int b => obtain ⟨t, rfl⟩ := rx; exact SeqAt.EqAt.none_int b t
    | str b => obtain ⟨t, rfl⟩ := rx; exact SeqAt.EqAt.none_str b t
    | _ => exact absurd (show false = true from fx) Bool.false_ne_true
  | bl a =>
    cases ry
    cases x with
    | non => cases rx; exact SeqAt.EqAt.bool_none a
    | bl b => cases rx; exact SeqAt.EqAt.bool_bool a b
    | int b => obtain ⟨t, rfl⟩ := rx; exact SeqAt.EqAt.bool_int a b t
    | str b => obtain ⟨t, rfl⟩ := rx; exact SeqAt.EqAt.bool_str a b t
    | _ => exact absurd (show false = true from fx) Bool.false_ne_true
  | int a =>
    obtain ⟨t', rfl⟩ := ry
    cases x with
    | non => cases rx; exact SeqAt.EqAt.int_none a t'
    | bl b => cases rx; exact SeqAt.EqAt.int_bool a t' b
    | int b => obtain ⟨t, rfl⟩ := rx; exact SeqAt.EqAt.int_int a t' b t
    | str b => obtain ⟨t, rfl⟩ := rx; exact SeqAt.EqAt.int_str a t' b t
    | _ => exact absurd (show false = true from fx) Bool.false_ne_true
  | str a =>
    obtain ⟨t', rfl⟩ := ry
    cases x with
    | non => cases rx; exact SeqAt.EqAt.str_none a t'
    | bl b => cases rx; exact SeqAt.EqAt.str_bool a t' b
    | int b => obtain ⟨t, rfl⟩ := rx; exact SeqAt.EqAt.str_int a t' b t
    | str b => obtain ⟨t, rfl⟩ := rx; exact SeqAt.EqAt.str_str a t' b t
    | _ => exact absurd (show false = true from fx) Bool.false_ne_true
  | _ => exact absurd (show false = true from fy) Bool.false_ne_true
theorem CallR.or {f : Value} {r r' : List V → Hp → VK → Prop} (h : CallR X f r) (h' : CallR X f r') : CallR X f (fun xs H Q => r xs H Q ∨ r' xs H Q) := by
  intro pins s σ H xs us Q I rs q
  rcases q with q | q
  · exact h pins s σ H xs us Q I rs q
  · exact h' pins s σ H xs us Q I rs q
theorem call_list_of : CallR X (.type "list") (fun xs H Q => ∃ p ys, xs = [.ref p] ∧ (SqL X.K H p ys ∨ SqT X.K H p ys) ∧ ∀ l, H l = none → Q (.ref l) (upd H l (.lst ys))) := by
  intro pins s σ H xs us Q I r h
  obtain ⟨p, ys, rfl, hq, q⟩ := h
  obtain ⟨u, rfl, rx⟩ := vals1 r
  cases rx
  have fin : ∀ (its : List Value), Vals ys its → ys.length ≤ sizeLine → ∀ (h' : Heap) (c' : Nat), (∀ b o', s.heap.get? b = some o' → h'.get? b = some o') →
      h'.get? s.heap.objs.size = some { cls := .type "list", dict := none, data := .seq its.toArray c', slots := #[] } → EP X pins σ Q (.ref s.heap.objs.size) { s with heap := h' } := fun its r' hz h' c' kp e =>
    ⟨.ref s.heap.objs.size, _, I.laid (t' := s.toks) kp (Nat.le_refl _) (show ObjOk X.prog X.w _ h' _ (.lst ys) from ⟨hz, its, c', r', e⟩), rfl, q _ (I.hok.fresh (Nat.le_refl _))⟩
  rcases hq with hq | hq
  · obtain ⟨its, r', pl, hz⟩ := I.list hq
    have hlen := r'.length
    obtain ⟨o, ho, hc, n, hd⟩ := pl.isList
    exact call_list_seq p (.inl rfl) ho hc hd (fun h' c' kp e => fin its r' hz h' c' kp e) (by simp only [List.size_toArray] <;> omega)
  · obtain ⟨its, r', pl, hz⟩ := I.tuple hq
    have hlen := r'.length
    obtain ⟨o, ho, hc, n, hd⟩ := pl
    exact call_list_seq p (.inr rfl) ho hc hd (fun h' c' kp e => fin its r' hz h' c' kp e) (by simp only [List.size_toArray] <;> omega)
def tyV (K : PySem.W.Frag) (T : String) (x : V) (H : Hp) : Prop := match x with
  | .str _ => T = "str"
  | .int _ => T = "int"
  | .ref p => (T = "list" ∧ ∃ xs, SqL K H p xs) ∨ (T = "tuple" ∧ ∃ o, K.lookup p = some o ∧ o.cls = .type "tuple" ∧ o.dict = none) ∨
      (T = "dict" ∧ ((∃ kvs, H p = some (.dK kvs)) ∨ ∃ kvs, H p = some (.dT kvs))) ∨ (T = "set" ∧ ∃ S n, H p = some (.set S n))
  | _ => False
theorem tyV_is {pins : List (Addr × Obj)} {σ : St} {H : Hp} {s : Shared} {T : String} {x : V} {v : Value} (I : Inv X pins σ H s) (r : RelV x v) (ty : tyV X.K T x H) :
    s.TypeIs v T ∧ ∀ a, v = .ref a → ∃ ob, s.heap.get? a = some ob ∧ ob.dict = none := by
  cases x with
  | str z =>
    obtain ⟨t, rfl⟩ := r
    cases (show T = "str" from ty)
    exact ⟨typeIs_str s z t, fun _ e => nomatch e⟩
  | int i =>
    obtain ⟨t, rfl⟩ := r
    cases (show T = "int" from ty)
    exact ⟨typeIs_int s i t, fun _ e => nomatch e⟩
  | ref p =>
    cases r
    rcases ty with ⟨rfl, xs, hq⟩ | ⟨rfl, o, hk, hc, hd⟩ | ⟨rfl, hk⟩ | ⟨rfl, S, n, hk⟩
    · obtain ⟨its, _, pl, _⟩ := I.list hq
      refine ⟨pl.isList.typeIs, fun a e => ?_⟩
      cases e
      obtain ⟨o, n, e, c, hd, _⟩ := pl
      exact ⟨o, e, hd⟩
    · refine ⟨⟨o, I.kIn p o hk, hc⟩, fun a e => ?_⟩
      cases e
      exact ⟨o, I.kIn _ o hk, hd⟩
    · have z : ∃ o, s.heap.get? p = some o ∧ o.ExactDict := by
        rcases hk with ⟨kvs, hk⟩ | ⟨kvs, hk⟩
        · obtain ⟨_, _, _, _, o, _, _, e, ex, _⟩ := I.hok p _ hk
          exact ⟨o, e, ex⟩
        · obtain ⟨_, _, _, _, o, _, _, e, ex, _⟩ := I.hok p _ hk
          exact ⟨o, e, ex⟩
      obtain ⟨o, e, ex⟩ := z
      refine ⟨⟨o, e, ex.1⟩, fun a e2 => ?_⟩
      cases e2
      exact ⟨o, e, ex.2.1⟩
    · obtain ⟨o, _, _, _, e, ex, _⟩ := I.hok p _ hk
      refine ⟨⟨o, e, ex.1⟩, fun a e2 => ?_⟩
      cases e2
      exact ⟨o, e, ex.2.1⟩
  | _ => exact False.elim ty
def tBM (K : PySem.W.Frag) (T : String) (r : V → List V → Hp → VK → Prop) (to : TE) (t : TA) : TE := fun σ H Q => to σ H fun x H1 => tyV K T x H1 ∧ t σ H1 fun xs H2 => r x xs H2 Q
variable {o e : Expr} {es : List Expr} {to : TE} {t : TA} {name : Str} {apos cpos : Pos} {T id : String} {r : V → List V → Hp → VK → Prop}
theorem pe_bm (pa : PlainAttrs T) (slot : Slot T name id) (hty : typeOf (.builtin id) = pure (.type "method_descriptor")) (hm : MtR X id r) (ho : PE X o to) (ha : PA X (e :: es) t)
    (hbase : attributeBase o name X.env (eval o X.env) = eval o X.env := by rfl)
    (hfew : ((backTo cpos (starEach (e :: es) X.env)).all (fun x => !x.1) && (backToKw cpos (keywordEach [] X.env)).all (fun x => x.1.isSome)
      && decide ((e :: es).length + ([] : List Keyword).length + (if ([] : List Keyword).isEmpty then 0 else 1) < 30)) = true := by rfl)
    (hline : (apos.endLine == cpos.line) = true := by rfl) (hs : starEach (e :: es) X.env = (false, eval e X.env) :: starEach es X.env := by rfl) (hplain : (backTo cpos (starEach es X.env)).any (·.1) = false := by rfl) :
    PE X (.Call (.Attribute o name apos) (e :: es) [] cpos) (tBM X.K T r to t) := by
  intro pins s σ H Q I h
  refine wpAny_Call_method_late hbase hfew hline rfl (thn (ho pins s σ H _ I h) fun v s1 ⟨x, H1, I1, r1, ty, q1⟩ => ?_)
  obtain ⟨h1, h2⟩ := tyV_is I1 r1 ty
  refine ⟨T, id, pa, slot, hty, h1, h2, ?_⟩
  have hA := ha cpos pins s1 σ H1 _ I1 q1
  rw [hs] at hA ⊢
  refine Calls.callWith_builtin (by show (false || (backTo cpos (starEach es X.env)).any (·.1)) = false; rw [hplain] <;> rfl) (Calls.evalArgs_plain ?_)
  exact thn hA fun us s2 ⟨vs, H2, I2, r2, q2⟩ => hm pins s2 σ H2 x vs v us Q I2 r1 r2 q2
/- xs.append(e), list.index on a module's tuple .. are MtR facts of 06m -/
end
end L2
namespace L2
open PySem PySem.Spec PyProof.Rows
def MtM (X : Cx) (id : String) (r : V → List V → Hp → VK → Prop) : Prop :=
  ∀ (pins : List (Addr × Obj)) (s : Shared) (σ : St) (H : Hp) (x : V) (xs : List V) (v : Value) (us : List Value) (Q : VK), Inv X pins σ H s → RelV x v → Vals xs us → r x xs H Q →
    wpAny (model X.prog X.w) X.A (call (.builtin id) (v :: us)) (EP X pins σ Q) X.xe s
theorem Vals.one : ∀ {x : V} {us : List Value}, Vals [x] us → ∃ u, us = [u] ∧ RelV x u
  | _, _, .cons r .nil => ⟨_, rfl, r⟩
theorem Vals.two : ∀ {x y : V} {us : List Value}, Vals [x, y] us → ∃ u v, us = [u, v] ∧ RelV x u ∧ RelV y v
  | _, _, _, .cons r (.cons q .nil) => ⟨_, _, rfl, r, q⟩
theorem Vals.zero : ∀ {us : List Value}, Vals [] us → us = []
  | _, .nil => rfl
theorem Vals.reverse {xs : List V} {us : List Value} (h : Vals xs us) : Vals xs.reverse us.reverse := by
  induction h with
  | nil => exact .nil
  | cons r t ih => rw [List.reverse_cons, List.reverse_cons]; exact Vals.append ih (.cons r .nil)
theorem Vals.rep {xs : List V} {us : List Value} (h : Vals xs us) : ∀ k : Nat, Vals (List.replicate k xs).flatten (List.replicate k us).flatten
  | 0 => .nil
  | k + 1 => by
    rw [List.replicate_succ, List.replicate_succ, List.flatten_cons, List.flatten_cons]
    exact Vals.append h (Vals.rep h k)
theorem foldl_rep (its : List Value) : ∀ (k : Nat) (acc : List Value),
    List.foldl (fun x1 x2 => x1 ++ x2) acc.toArray (List.replicate k its.toArray) = (acc ++ (List.replicate k its).flatten).toArray
  | 0, acc => by simp
  | k + 1, acc => by
    have e : acc.toArray ++ its.toArray = (acc ++ its).toArray := by simp
    have e2 : (acc ++ its) ++ (List.replicate k its).flatten = acc ++ (List.replicate (k + 1) its).flatten := by
      rw [List.replicate_succ, List.flatten_cons, List.append_assoc]
    rw [← e2, ← foldl_rep its k (acc ++ its), ← e, List.replicate_succ, List.foldl_cons]
section
variable {X : Cx} {pins : List (Addr × Obj)} {σ : St} {H : Hp} {s : Shared} {l b : Addr} {xs ys zs : List V}
theorem Inv.lset {its its' : List Value} {n : Nat} {f : Array Value → Array Value} {t' : Nat} (I : Inv X pins σ H s) (hH : H l = some (.lst xs))
    (e : s.heap.get? l = some { cls := .type "list", data := .seq its.toArray n }) (hf : f its.toArray = its'.toArray) (hv : Vals ys its') (hz : ys.length ≤ sizeLine) :
    Inv X pins σ (upd H l (.lst ys)) { s with heap := s.heap.update l (Obj.mapSeq f), toks := t' } := by
  have q := PySem.IsL.update e f
  rw [hf] at q
  refine I.write (x := l) (e := l) (by rw [hH]; exact trivial) (.inl rfl) (fun b' u hb hu => (Heap.get?_update_other s.heap (Obj.mapSeq f) (Ne.symm hb)).trans hu) ⟨_, q⟩ ?_
  exact ⟨hz, its', _, hv, q⟩
theorem Inv.lnew {its : List Value} {t' : Nat} (I : Inv X pins σ H s) (hv : Vals ys its) (hz : ys.length ≤ sizeLine) :
    Inv X pins σ (upd H s.heap.objs.size (.lst ys)) { s with heap := s.heap.push { cls := .type "list", data := .seq its.toArray }, toks := t' } :=
  I.laid (fun _ _ q => Heap.get?_push_of_some _ q) (Nat.le_refl _) ⟨hz, its, 0, hv, Heap.get?_push_size _ rfl⟩
theorem Inv.fresh (I : Inv X pins σ H s) : H s.heap.objs.size = none := I.hok.fresh (Nat.le_refl _)
theorem Inv.lstM (I : Inv X pins σ H s) (hH : H l = some (.lst xs)) : xs.length ≤ sizeLine ∧ ∃ (its : List Value) (n : Nat), Vals xs its ∧ xs.length = its.length ∧ s.heap.get? l = some { cls := .type "list", data := .seq its.toArray n } := by
  obtain ⟨z, its, n, r, e⟩ := I.hok l _ hH
  exact ⟨z, its, n, r, r.length, e⟩
theorem notLongL {n : Nat} (h : n ≤ sizeLine) : Builtin.List.listTooLong n = false := by
  unfold Builtin.List.listTooLong
  exact decide_eq_false (by omega)
end
section
variable {X : Cx}
def rAppend : V → List V → Hp → VK → Prop := fun x vs H Q => ∃ l xs y, x = .ref l ∧ vs = [y] ∧ H l = some (.lst xs) ∧ xs.length < sizeLine ∧ Q .non (upd H l (.lst (xs ++ [y])))
theorem mt_append : MtM X "list.append" rAppend := by
  intro pins s σ H x vs v us Q I rx rv h
  obtain ⟨l, xs, y, rfl, rfl, hH, hz, q⟩ := h
  cases rx
  obtain ⟨u, rfl, ru⟩ := rv.one
  obtain ⟨z, its, n, r, hl, e⟩ := I.lstM hH
  refine call_meets F.slot_list_append ⟨_, e, rfl⟩ F.entry_list_append (F.args_list_append_2 _ _) (PySem.list_append l its.toArray n u (by rw [List.size_toArray]; omega)) ⟨e, ?_⟩
  refine ⟨.non, _, I.lset (its' := its ++ [u]) hH e (by simp) (r.append (.cons ru .nil)) ?_, rfl, q⟩
  rw [List.length_append, List.length_singleton]
  omega
def rCat : R2 := fun x y H Q => ∃ l b xs zs, x = .ref l ∧ y = .ref b ∧ H l = some (.lst xs) ∧ H b = some (.lst zs) ∧ xs.length + zs.length ≤ sizeLine ∧ ∀ p, H p = none → Q (.ref p) (upd H p (.lst (xs ++ zs)))
theorem op_cat : OpR X (binaryOp .Add) rCat := by
  intro pins s σ H x y v u Q I rx ry h
  obtain ⟨l, b, xs, zs, rfl, rfl, hH, hB, hz, q⟩ := h
  cases rx
  cases ry
  obtain ⟨z, its, n, r, hl, e⟩ := I.lstM hH
  obtain ⟨z2, its2, n2, r2, hl2, e2⟩ := I.lstM hB
  refine PySem.P.add_list e e2 ?_ (by rw [List.size_toArray, List.size_toArray]; omega)
  have ea : its.toArray ++ its2.toArray = (its ++ its2).toArray := by simp
  rw [ea]
  exact ⟨.ref _, _, I.lnew (t' := s.toks) (r.append r2) (by rw [List.length_append]; omega), rfl, q _ I.fresh⟩
def rRep : R2 := fun x y H Q => ∃ l k xs, x = .ref l ∧ y = .int k ∧ H l = some (.lst xs) ∧ -(2 ^ 63) ≤ k ∧ k < 2 ^ 63 ∧ xs.length * k.toNat ≤ sizeLine ∧
  ∀ p, H p = none → Q (.ref p) (upd H p (.lst (List.replicate k.toNat xs).flatten))
theorem len_rep {α : Type} (xs : List α) (k : Nat) : (List.replicate k xs).flatten.length = k * xs.length := by
  induction k with
  | zero => simp
  | succ k ih => rw [List.replicate_succ, List.flatten_cons, List.length_append, ih, Nat.succ_mul, Nat.add_comm]
theorem op_rep : OpR X (binaryOp .Mult) rRep := by
  intro pins s σ H x y v u Q I rx ry h
  obtain ⟨l, k, xs, rfl, rfl, hH, h1, h2, hz, q⟩ := h
  cases rx
  obtain ⟨t, rfl⟩ := ry
  obtain ⟨z, its, n, r, hl, e⟩ := I.lstM hH
  have hlen : its.toArray.size * k.toNat ≤ sizeLine := by rw [List.size_toArray, ← hl]; exact hz
  have hcap : ¬ its.toArray.size * k.toNat > (2 ^ 63 - 1) / 8 := by
    have : (sizeLine : Nat) ≤ (2 ^ 63 - 1) / 8 := by decide
    omega
  have hfit : ¬ (!Builtin.List.listFitsIndex k) = true := by
    rw [fitsIndex_both h1 h2]
    exact Bool.false_ne_true
  have hlong : ¬ Builtin.List.listTooLong (its.toArray.size * k.toNat) = true := by
    rw [notLongL hlen]
    exact Bool.false_ne_true
  have hnew : List.foldl (fun x1 x2 => x1 ++ x2) #[] (List.replicate (if its.toArray.isEmpty = true then 0 else k.toNat) its.toArray) = (List.replicate k.toNat its).flatten.toArray := by
    have f0 : ∀ m : Nat, List.foldl (fun x1 x2 => x1 ++ x2) #[] (List.replicate m its.toArray) = (List.replicate m its).flatten.toArray := fun m => by
      have := foldl_rep its m []
      rw [List.nil_append] at this
      exact this
    rw [f0]
    cases its with
    | nil => simp
    | cons a r' => rw [if_neg (by simp)]
  refine wpAny_binaryOp_repeat_ref (T := "list") (U := "int") (by decide) ⟨_, e, rfl⟩ (fun s' => typeIs_int s' k t) noFill_list_mul F.fills_int_mul F.slot_int_rmul repeat_list F.slot_int_index.lookup
    (call_meets F.slot_int_rmul (typeIs_int s k t) F.entry_int_rmul (F.args_int_rmul_2 _ _) (int___rmul___int_list k t l its.toArray n)
      ⟨e, rfl, ⟨_, e, rfl⟩, call_meets F.slot_list_mul ⟨_, e, rfl⟩ F.entry_list_mul (F.args_list_mul_2 _ _) (AutoListH.list___mul___list_int_3 l its.toArray n k t hfit hcap hlong) ⟨e, ?_⟩⟩)
  rw [hnew]
  exact ⟨.ref _, _, I.lnew (t' := s.toks) (r.rep k.toNat) (by rw [len_rep, Nat.mul_comm]; exact hz), rfl, q _ I.fresh⟩
end
section
variable {prog : Program} {w : World} {A : Around} {E : Value → Shared → Prop} {s : Shared}
end
section
variable {X : Cx}
end
end L2
namespace L2
open PySem PySem.Spec PyProof.Rows
section
variable {κ : Type} [DecidableEq κ]
def valV (kvs : List (κ × V)) (k : κ) : Option V := (kvs.find? fun kv => decide (kv.1 = k)).map (·.2)
def putK (kvs : List (κ × V)) (k : κ) (v : V) : List (κ × V) :=
  if (kvs.any fun kv => decide (kv.1 = k)) = true then kvs.map (fun kv => if kv.1 = k then (kv.1, v) else kv) else kvs ++ [(k, v)]
def dropK (kvs : List (κ × V)) (k : κ) : List (κ × V) := kvs.filter fun kv => decide (kv.1 ≠ k)
theorem valV_pos {p : κ × V} {r : List (κ × V)} {k : κ} (e : p.1 = k) : valV (p :: r) k = some p.2 := by simp [valV, List.find?_cons, e]
theorem valV_neg {p : κ × V} {r : List (κ × V)} {k : κ} (e : ¬ p.1 = k) : valV (p :: r) k = valV r k := by simp [valV, List.find?_cons, e]
theorem valV_any (k : κ) : ∀ kvs : List (κ × V), (kvs.any fun kv => decide (kv.1 = k)) = (valV kvs k).isSome
  | [] => rfl
  | p :: r => by
    rw [List.any_cons]
    by_cases e : p.1 = k
    · simp only [valV_pos e, decide_eq_true e, Bool.true_or, Option.isSome_some]
    · rw [valV_neg e, decide_eq_false e, Bool.false_or]; exact valV_any k r
theorem valV_map (k j : κ) (y : V) : ∀ kvs : List (κ × V), valV (kvs.map fun kv => if kv.1 = k then (kv.1, y) else kv) j = (valV kvs j).map fun x => if j = k then y else x
  | [] => rfl
  | p :: r => by
    have ih := valV_map k j y r
    rw [List.map_cons]
    by_cases h : p.1 = k
    · rw [if_pos h]
      by_cases e : p.1 = j
      · rw [valV_pos (p := (p.1, y)) e, valV_pos e, Option.map_some, if_pos (e.symm.trans h)]
      · rw [valV_neg (p := (p.1, y)) e, valV_neg e, ih]
    · rw [if_neg h]
      by_cases e : p.1 = j
      · rw [valV_pos (p := p) e, valV_pos e, Option.map_some, if_neg (fun z => h (e.trans z))]
      · rw [valV_neg (p := p) e, valV_neg e, ih]
theorem length_putK (kvs : List (κ × V)) (k : κ) (v : V) : (putK kvs k v).length ≤ kvs.length + 1 := by
  unfold putK
  split
  · rw [List.length_map]; omega
  · rw [List.length_append, List.length_cons, List.length_nil]; omega
theorem putK_new {kvs : List (κ × V)} {k : κ} (v : V) (h : valV kvs k = none) : putK kvs k v = kvs ++ [(k, v)] := by
  unfold putK
  rw [valV_any, h]
  exact if_neg (by decide)
theorem RelO.isSome_eq {o : Option V} {u : Option Value} (r : RelO o u) : o.isSome = u.isSome := by
  cases o with
  | none => cases u with
    | none => rfl
    | some _ => exact (show False from r).elim
  | some _ => cases u with
    | none => exact (show False from r).elim
    | some _ => rfl
theorem RelO.getD {o : Option V} {u : Option Value} {d : V} {d' : Value} (r : RelO o u) (rd : RelV d d') : RelV (o.getD d) (u.getD d') := by
  cases o with
  | none => cases u with
    | none => exact rd
    | some _ => exact (show False from r).elim
  | some _ => cases u with
    | none => exact (show False from r).elim
    | some _ => exact r
theorem KV.val {kvs : List (κ × V)} {vs : List (κ × Value)} (r : KV kvs vs) (k : κ) : RelO (valV kvs k) (valueAt vs k) := by
  unfold KV at r
  induction r with
  | nil => exact True.intro
  | @cons p q ps qs h t ih =>
    obtain ⟨h1, h2⟩ := h
    by_cases e : p.1 = k
    · have e' : q.1 = k := h1.symm.trans e
      have b : valueAt (q :: qs) k = some q.2 := by simp [valueAt, List.find?_cons, e']
      rw [valV_pos e, b]; exact h2
    · have e' : ¬ q.1 = k := fun z => e (h1.trans z)
      have b : valueAt (q :: qs) k = valueAt qs k := by simp [valueAt, List.find?_cons, e']
      rw [valV_neg e, b]; exact ih
theorem KV.any {kvs : List (κ × V)} {vs : List (κ × Value)} (r : KV kvs vs) (k : κ) : (kvs.any fun kv => decide (kv.1 = k)) = vs.any fun kv => decide (kv.1 = k) := by
  unfold KV at r
  induction r with
  | nil => rfl
  | cons h t ih => rw [List.any_cons, List.any_cons, ih, h.1]
theorem KV.repl {kvs : List (κ × V)} {vs : List (κ × Value)} (r : KV kvs vs) (k : κ) {y : V} {u : Value} (ry : RelV y u) :
    KV (kvs.map fun kv => if kv.1 = k then (kv.1, y) else kv) (vs.map fun kv => if kv.1 = k then (kv.1, u) else kv) := by
  unfold KV at r ⊢
  induction r with
  | nil => exact .nil
  | @cons p q ps qs h t ih =>
    rw [List.map_cons, List.map_cons]
    refine .cons ?_ ih
    obtain ⟨h1, h2⟩ := h
    by_cases e : p.1 = k
    · rw [if_pos e, if_pos (h1.symm.trans e)]; exact ⟨h1, ry⟩
    · rw [if_neg e, if_neg (fun z => e (h1.trans z))]; exact ⟨h1, h2⟩
theorem KV.put {kvs : List (κ × V)} {vs : List (κ × Value)} (r : KV kvs vs) (k : κ) {y : V} {u : Value} (ry : RelV y u) : KV (putK kvs k y) (stored vs k u) := by
  unfold putK stored
  rw [r.any k]
  by_cases e : (vs.any fun kv => decide (kv.1 = k)) = true
  · rw [if_pos e, if_pos e]; exact r.repl k ry
  · rw [if_neg e, if_neg e]; exact Paired.snoc r ⟨rfl, ry⟩
theorem KV.drop {kvs : List (κ × V)} {vs : List (κ × Value)} (r : KV kvs vs) (k : κ) : KV (dropK kvs k) (without vs k) := by
  unfold KV at r ⊢
  unfold dropK without
  induction r with
  | nil => exact .nil
  | @cons p q ps qs h t ih =>
    obtain ⟨h1, h2⟩ := h
    rw [List.filter_cons, List.filter_cons]
    by_cases e : p.1 = k
    · have a : ¬ decide (p.1 ≠ k) = true := by simp [e]
      have b : ¬ decide (q.1 ≠ k) = true := by simp [h1.symm.trans e]
      rw [if_neg a, if_neg b]; exact ih
    · have e' : ¬ q.1 = k := fun z => e (h1.trans z)
      have a : decide (p.1 ≠ k) = true := by simp [e]
      have b : decide (q.1 ≠ k) = true := by simp [e']
      rw [if_pos a, if_pos b]; exact .cons ⟨h1, h2⟩ ih
theorem KV.keys {kvs : List (κ × V)} {vs : List (κ × Value)} (r : KV kvs vs) : kvs.map (·.1) = vs.map (·.1) := by
  unfold KV at r
  induction r with
  | nil => rfl
  | cons h t ih => rw [List.map_cons, List.map_cons, ih, h.1]
theorem KV.length {kvs : List (κ × V)} {vs : List (κ × Value)} (r : KV kvs vs) : kvs.length = vs.length := Paired.length r
end
theorem kV_is {P : Program} {w : World} {k : Key} {u : Value} (r : RelV (kV k) u) : (mixKind P w).is k u = true := by
  cases k with
  | inl i => obtain ⟨t, e⟩ := (show ∃ t, u = Value.int i t from r); subst e; exact mixKind_int P w i t
  | inr x => obtain ⟨t, e⟩ := (show ∃ t, u = Value.str x t from r); subst e; exact mixKind_str P w x t
theorem items_are {P : Program} {w : World} : ∀ {ks : List Key} {us : List Value}, Vals (ks.map kV) us → ItemsAre (mixKind P w) ks us
  | [], _, r => by rw [List.map_nil] at r; cases r; exact .nil
  | k :: ks, _, r => by
    rw [List.map_cons] at r
    cases r with
    | cons h t => exact .cons (kV_is h) (items_are t)
abbrev KT (H : Hp) : List (List Key × V) → List (List Key × Addr × Value) → Prop := Paired fun p q => p.1 = q.1 ∧ H q.2.1 = some (.tup (p.1.map kV)) ∧ RelV p.2 q.2.2
theorem KT.val {H : Hp} {kvs : List (List Key × V)} {xs : List (List Key × Addr × Value)} (r : KT H kvs xs) (k : List Key) : RelO (valV kvs k) ((atKey xs k).map (·.2)) := by
  induction r with
  | nil => exact True.intro
  | @cons p q ps qs h t ih =>
    obtain ⟨h1, _, h2⟩ := h
    by_cases e : p.1 = k
    · have e' : q.1 = k := h1.symm.trans e
      have b : atKey (q :: qs) k = some q.2 := by simp [atKey, List.find?_cons, e']
      rw [valV_pos e, b]; exact h2
    · have e' : ¬ q.1 = k := fun z => e (h1.trans z)
      have b : atKey (q :: qs) k = atKey qs k := by simp [atKey, List.find?_cons, e']
      rw [valV_neg e, b]; exact ih
theorem KT.repl {H : Hp} {kvs : List (List Key × V)} {xs : List (List Key × Addr × Value)} (r : KT H kvs xs) (k : List Key) {y : V} {u : Value} (ry : RelV y u) :
    KT H (kvs.map fun kv => if kv.1 = k then (kv.1, y) else kv) (xs.map (putAt k u)) := by
  induction r with
  | nil => exact .nil
  | @cons p q ps qs h t ih =>
    rw [List.map_cons, List.map_cons]
    refine .cons ?_ ih
    obtain ⟨h1, h2, h3⟩ := h
    unfold putAt
    by_cases e : p.1 = k
    · rw [if_pos e, if_pos (h1.symm.trans e)]; exact ⟨h1, h2, ry⟩
    · rw [if_neg e, if_neg (fun z => e (h1.trans z))]; exact ⟨h1, h2, h3⟩
theorem KT.put {H : Hp} {kvs : List (List Key × V)} {xs : List (List Key × Addr × Value)} (r : KT H kvs xs) (k : List Key) {b : Addr} {y : V} {u : Value} (hb : H b = some (.tup (k.map kV))) (ry : RelV y u) :
    KT H (putK kvs k y) (storedH xs k b u) := by
  have e : (kvs.any fun kv => decide (kv.1 = k)) = (atKey xs k).isSome := by
    rw [valV_any, (r.val k).isSome_eq, Option.isSome_map]
  unfold putK storedH
  rw [e]
  by_cases q : (atKey xs k).isSome = true
  · rw [if_pos q, if_pos q]; exact r.repl k ry
  · rw [if_neg q, if_neg q]; exact Paired.snoc r ⟨rfl, hb, ry⟩
theorem KT.keeps {H H' : Hp} {kvs : List (List Key × V)} {xs : List (List Key × Addr × Value)} (r : KT H kvs xs) (ht : ∀ b ys, H b = some (.tup ys) → H' b = some (.tup ys)) : KT H' kvs xs :=
  Paired.mapP r fun _ _ z => ⟨z.1, ht _ _ z.2.1, z.2.2⟩
section
variable {P : Program} {w : World} {H : Hp} {h : Heap} {a : Addr}
theorem rd_of {u : HO} (ok : HOk P w H h) (e : Rd H a u) : ObjOk P w H h a u := e.ok ok
theorem dk_rd {kvs : List (Key × V)} (ok : HOk P w H h) (e : Rd H a (.dK kvs)) : kvs.length ≤ sizeLine ∧ (a == sysModules) = false ∧ ∃ vs, KV kvs vs ∧ h.DictOf (mixKind P w) a vs :=
  show ObjOk P w H h a (.dK kvs) from rd_of ok e
theorem dk_of {kvs : List (Key × V)} (ok : HOk P w H h) (e : H a = some (.dK kvs)) : kvs.length ≤ sizeLine ∧ (a == sysModules) = false ∧ ∃ vs, KV kvs vs ∧ h.DictOf (mixKind P w) a vs := dk_rd ok (.inl e)
theorem key_of {ks : List Key} (ok : HOk P w H h) (e : H a = some (.tup (ks.map kV))) : (tupleKind (mixKind P w)).is h ks a := by
  obtain ⟨_, its, r, o, h1, h2, n, h3⟩ := (show ObjOk P w H h a (.tup (ks.map kV)) from ok a _ e)
  exact ⟨o, its.toArray, n, h1, h2, h3, by simpa using items_are r⟩
theorem dt_rd {kvs : List (List Key × V)} (ok : HOk P w H h) (e : Rd H a (.dT kvs)) : kvs.length ≤ sizeLine ∧ (a == sysModules) = false ∧
    ∃ xs, KT H kvs xs ∧ h.DictOfH (tupleKind (mixKind P w)) a xs := by
  obtain ⟨z, y, xs, r, o, es, ep, h1, h2, h3, h4, h5⟩ := (show ObjOk P w H h a (.dT kvs) from rd_of ok e)
  refine ⟨z, y, xs, r, o, es, ep, h1, h2, h3, h4, fun x hx => ?_, h5⟩
  have all : ∀ {l : List (List Key × V)} {m : List (List Key × Addr × Value)}, KT H l m → ∀ x ∈ m, (tupleKind (mixKind P w)).is h x.1 x.2.1 := by
    intro l m q
    induction q with
    | nil => intro x hx; exact nomatch hx
    | @cons p q ps qs hq t ih =>
      intro x hx
      rcases List.mem_cons.mp hx with e | hx
      · subst e
        exact key_of ok (by rw [← hq.1]; exact hq.2.1)
      · exact ih x hx
  exact all r x hx
theorem dt_of {kvs : List (List Key × V)} (ok : HOk P w H h) (e : H a = some (.dT kvs)) : kvs.length ≤ sizeLine ∧ (a == sysModules) = false ∧
    ∃ xs, KT H kvs xs ∧ h.DictOfH (tupleKind (mixKind P w)) a xs := dt_rd ok (.inl e)
end
def DGet (H : Hp) (a : Addr) (y : V) (r : Option V) : Prop :=
  (∃ kvs k, Rd H a (.dK kvs) ∧ y = kV k ∧ r = valV kvs k) ∨ ∃ kvs k b, Rd H a (.dT kvs) ∧ y = .ref b ∧ H b = some (.tup (k.map kV)) ∧ r = valV kvs k
def DPut (H : Hp) (a : Addr) (y v : V) (H' : Hp) : Prop :=
  (∃ kvs k, H a = some (.dK kvs) ∧ y = kV k ∧ kvs.length < sizeLine ∧ H' = upd H a (.dK (putK kvs k v))) ∨
  ∃ kvs k b, H a = some (.dT kvs) ∧ y = .ref b ∧ H b = some (.tup (k.map kV)) ∧ kvs.length < sizeLine ∧ H' = upd H a (.dT (putK kvs k v))
theorem DGet.k {H : Hp} {a : Addr} {kvs : List (Key × V)} {k : Key} (e : H a = some (.dK kvs)) : DGet H a (kV k) (valV kvs k) := .inl ⟨kvs, k, .inl e, rfl, rfl⟩
theorem DGet.t {H : Hp} {a b : Addr} {kvs : List (List Key × V)} {k : List Key} (e : H a = some (.dT kvs)) (eb : H b = some (.tup (k.map kV))) : DGet H a (.ref b) (valV kvs k) := .inr ⟨kvs, k, b, .inl e, rfl, eb, rfl⟩
theorem DPut.k {H : Hp} {a : Addr} {kvs : List (Key × V)} {k : Key} {v : V} (e : H a = some (.dK kvs)) (hl : kvs.length < sizeLine) : DPut H a (kV k) v (upd H a (.dK (putK kvs k v))) := .inl ⟨kvs, k, e, rfl, hl, rfl⟩
theorem DPut.t {H : Hp} {a b : Addr} {kvs : List (List Key × V)} {k : List Key} {v : V} (e : H a = some (.dT kvs)) (eb : H b = some (.tup (k.map kV))) (hl : kvs.length < sizeLine) :
    DPut H a (.ref b) v (upd H a (.dT (putK kvs k v))) := .inr ⟨kvs, k, b, e, rfl, eb, hl, rfl⟩
section
variable {X : Cx} {pins : List (Addr × Obj)} {σ : St} {H : Hp} {s : Shared} {a : Addr} {y v : V} {u r : Value} {o : Option V} {A : Around} {E : Value → Shared → Prop}
theorem Inv.big (I : Inv X pins σ H s) : sysModules < s.heap.objs.size := by
  have h : mainGlobals < s.heap.objs.size := (I.mod.glob.keeps I.bk).lt
  exact Nat.lt_trans (by decide) h
theorem d_write {h' : Heap} {t' : Nat} {ob : HO} (I : Inv X pins σ H s) (mu : Mut (H a)) (hs : Heap.SameBut a s.heap h') (he : ∃ q, h'.get? a = some q) (new : ObjOk X.prog X.w (upd H a ob) h' a ob) :
    Inv X pins σ (upd H a ob) { s with heap := h', toks := t' } :=
  I.write (x := a) (e := a) mu (.inl rfl) (fun b q hb z => (hs.2 b hb).trans z) he new
theorem dk_new {P : Program} {w : World} {H' : Hp} {h' : Heap} {kvs : List (Key × V)} {vs : List (Key × Value)} (z : kvs.length ≤ sizeLine) (hd : (a == sysModules) = false) (rel : KV kvs vs) (dd : h'.DictOf (mixKind P w) a vs) :
    ObjOk P w H' h' a (.dK kvs) := ⟨z, hd, vs, rel, dd⟩
theorem d_setItem {H' : Hp} {Q : Unit → Shared → Prop} (hu : A.units + 1 < cLine) (I : Inv X pins σ H s) (g : DPut H a y v H') (ry : RelV y u) (rv : RelV v r) (h : ∀ s', Inv X pins σ H' s' → Q () s') :
    wpAny (model X.prog X.w) A (setItem (.ref a) u r) Q E s := by
  rcases g with ⟨kvs, k, e, ey, l, eH⟩ | ⟨kvs, k, b, e, ey, eb, l, eH⟩
  · subst ey eH
    obtain ⟨z, hd, vs, rel, dd⟩ := dk_of I.hok e
    have hz : vs.length ≤ sizeLine := by rw [← rel.length]; exact z
    have hl : (putK kvs k v).length ≤ sizeLine := by have := length_putK kvs k v; omega
    refine wpAny_setItem_pairs (hsz := hz) (kV_is ry) dd fun h' dd' hs => h _ ?_
    have he : ∃ q, h'.get? a = some q := let ⟨q, _, _, hq, _⟩ := dd'; ⟨q, hq⟩
    exact d_write I (by rw [e]; exact True.intro) hs he (dk_new hl hd (rel.put k rv) dd')
  · subst ey eH
    cases (show u = Value.ref b from ry)
    obtain ⟨z, hd, xs, rel, dd⟩ := dt_of I.hok e
    have hz : xs.length ≤ sizeLine := by rw [← Paired.length rel]; exact z
    have hl : (putK kvs k v).length ≤ sizeLine := by have := length_putK kvs k v; omega
    refine wpAny_setItem_heap (hsz := hz) (tupleKind_room_in1 hu) (key_of I.hok eb) dd fun h' dd' hs => h _ ?_
    obtain ⟨q, es, ep, hq, h2, h3, h4, _, h5⟩ := dd'
    refine d_write I (by rw [e]; exact True.intro) hs ⟨q, hq⟩ ⟨hl, hd, _, (rel.put k eb rv).keeps fun c ys ec => ?_, q, es, ep, hq, h2, h3, h4, h5⟩
    rw [upd_ne (ne_of ec e (fun z => nomatch z))]
    exact ec
end
section
variable {X : Cx} {pins : List (Addr × Obj)} {σ : St} {H : Hp} {s : Shared} {a : Addr} {kvs : List (Key × V)} {k : Key} {u : Value} {A : Around} {E : Value → Shared → Prop}
end
def sDPut (td ty tv : TE) : TS := fun D σ H => tv σ H fun v H1 => td σ H1 fun x H2 => ty σ H2 fun y H3 => ∃ a H4, x = .ref a ∧ DPut H3 a y v H4 ∧ D.nx σ H4
section
variable {X : Cx} {o i e value : Expr} {pos pos' tpos : Pos} {td ty tv : TE}
theorem ps_dput (hu : X.A.units + 1 < cLine) (ho : PE X o td) (hi : PE X i ty) (hv : PE X value tv) (hs : swapsWith value (some (.Subscript o i pos')) pos.line X.env = pure false) :
    PS X (.Assign [.Subscript o i pos'] value pos) (sDPut td ty tv) := by
  intro pins s σ H D I h
  refine wpAny_Assign_Subscript (thn (hv pins s σ H _ I h) fun r s1 ⟨v, H1, I1, rv, q1⟩ => thn (ho pins s1 σ H1 _ I1 q1) fun u s2 ⟨x, H2, I2, rx, q2⟩ => thn (hi pins s2 σ H2 _ I2 q2) fun iv s3 ⟨y, H3, I3, ry, a, H4, ex, g, q3⟩ => ?_) hs
  subst ex
  obtain rfl : u = Value.ref a := rx
  exact d_setItem hu I3 g ry rv fun s4 I4 => ⟨σ, H4, I4, q3⟩
end
theorem dk_empty {P : Program} {w : World} {H : Hp} (h : Heap) (hb : sysModules < h.objs.size) : ObjOk P w H (h.push { cls := .type "dict", data := .dict #[] }) h.objs.size (.dK []) :=
  ⟨Nat.zero_le _, beq_eq_false_iff_ne.mpr (Ne.symm (Nat.ne_of_lt hb)), [], .nil, Heap.DictOf.new h⟩
theorem dt_empty {P : Program} {w : World} {H : Hp} (h : Heap) (hb : sysModules < h.objs.size) : ObjOk P w H (h.push { cls := .type "dict", data := .dict #[] }) h.objs.size (.dT []) :=
  ⟨Nat.zero_le _, beq_eq_false_iff_ne.mpr (Ne.symm (Nat.ne_of_lt hb)), [], .nil, _, #[], 0, Heap.get?_push_size _ rfl, ⟨rfl, rfl, rfl⟩, rfl, rfl, List.nodup_nil⟩
def tDNewK : TE := fun _ H Q => ∀ p, H p = none → Q (.ref p) (upd H p (.dK []))
def tDNewT : TE := fun _ H Q => ∀ p, H p = none → Q (.ref p) (upd H p (.dT []))
section
variable {X : Cx} {pos : Pos}
theorem pe_dnewK : PE X (.Dict [] [] pos) tDNewK := fun pins s σ H Q I h =>
  wpAny_Dict_empty ⟨.ref s.heap.objs.size, _, I.laid (a := s.heap.objs.size) (o := .dK []) (t' := s.toks) (fun _ _ q => Heap.get?_push_of_some _ q) (Nat.le_refl _) (dk_empty s.heap I.big), rfl, h _ (I.hok.fresh (Nat.le_refl _))⟩
theorem pe_dnewT : PE X (.Dict [] [] pos) tDNewT := fun pins s σ H Q I h =>
  wpAny_Dict_empty ⟨.ref s.heap.objs.size, _, I.laid (a := s.heap.objs.size) (o := .dT []) (t' := s.toks) (fun _ _ q => Heap.get?_push_of_some _ q) (Nat.le_refl _) (dt_empty s.heap I.big), rfl, h _ (I.hok.fresh (Nat.le_refl _))⟩
end
structure M2 (X : Cx) (o : Expr) (m : Str) (apos : Pos) (e f : Expr) (cpos : Pos) : Prop where
  base : attributeBase o m X.env (eval o X.env) = eval o X.env
  few : ((backTo cpos (starEach [e, f] X.env)).all (fun x => !x.1) && (backToKw cpos (keywordEach [] X.env)).all (fun x => x.1.isSome)
    && decide (([e, f] : List Expr).length + ([] : List Keyword).length + (if ([] : List Keyword).isEmpty then 0 else 1) < 30)) = true
  line : (apos.endLine == cpos.line) = true
  trees : backTo cpos (starEach [e, f] X.env) = [(false, eval e X.env), (false, eval f X.env)]
def IsD (H : Hp) (a : Addr) : Prop := (∃ kvs, Rd H a (.dK kvs)) ∨ ∃ kvs, Rd H a (.dT kvs)
theorem isD_at {X : Cx} {pins : List (Addr × Obj)} {σ : St} {H : Hp} {s : Shared} {a : Addr} (I : Inv X pins σ H s) (d : IsD H a) :
    s.TypeIs (.ref a) "dict" ∧ (∀ b, Value.ref a = .ref b → ∃ ob, s.heap.get? b = some ob ∧ ob.dict = none) ∧ (a == sysModules) = false := by
  rcases d with ⟨kvs, e⟩ | ⟨kvs, e⟩
  · obtain ⟨_, hd, vs, _, dd⟩ := dk_rd I.hok e
    refine ⟨dd.typeIs, fun b q => ?_, hd⟩
    cases q
    obtain ⟨ob, _, _, h1, h2, _⟩ := dd
    exact ⟨ob, h1, h2.2.1⟩
  · obtain ⟨_, hd, xs, _, dd⟩ := dt_rd I.hok e
    refine ⟨dd.typeIs, fun b q => ?_, hd⟩
    cases q
    obtain ⟨ob, _, _, h1, h2, _⟩ := dd
    exact ⟨ob, h1, h2.2.1⟩
section
variable {X : Cx} {pins : List (Addr × Obj)} {σ : St} {H : Hp} {s : Shared} {a : Addr} {y d : V} {u r : Value} {o : Option V} {A : Around} {E : Value → Shared → Prop}
theorem d_get2 {Q : Value → Shared → Prop} (hu : A.units + 1 < cLine) (I : Inv X pins σ H s) (g : DGet H a y o) (ry : RelV y u) (rd : RelV d r) (h : ∀ w' s', Inv X pins σ H s' → RelV (o.getD d) w' → Q w' s') :
    wpAny (model X.prog X.w) A (call (.builtin "dict.get") [.ref a, u, r]) Q E s := by
  rcases g with ⟨kvs, k, e, ey, l⟩ | ⟨kvs, k, b, e, ey, eb, l⟩
  · subst ey
    obtain ⟨z, hd, vs, rel, dd⟩ := dk_rd I.hok e
    refine call_meetsIn PySem.F.slot_dict_get dd.typeIs PySem.F.entry_dict_get (PySem.F.args_dict_get_3 _ _ _) (meets_dict_get_default (mixKind X.prog X.w) a (kV_is ry) hd r) ⟨_, dd.mapOf, h _ _ (I.tok _) ?_⟩
    rw [l]
    exact (rel.val k).getD rd
  · subst ey
    cases (show u = Value.ref b from ry)
    obtain ⟨z, hd, xs, rel, dd⟩ := dt_rd I.hok e
    refine call_meetsIn PySem.F.slot_dict_get dd.typeIs PySem.F.entry_dict_get (PySem.F.args_dict_get_3 _ _ _) (meetsH_dict_get_default (tupleKind (mixKind X.prog X.w)) a b hd r) ⟨tupleKind_room_in1 hu, k, xs, key_of I.hok eb, dd, h _ _ (I.tok _) ?_⟩
    rw [l]
    exact (rel.val k).getD rd
end
def tDGet2 (td ty tx : TE) : TE := fun σ H Q => td σ H fun x H1 => ∃ a, x = .ref a ∧ IsD H1 a ∧ ty σ H1 fun y H2 => tx σ H2 fun z H3 => ∃ o, DGet H3 a y o ∧ Q (o.getD z) H3
section
variable {X : Cx} {o e f : Expr} {apos cpos : Pos} {td ty tx : TE}
theorem pe_dget2 (hu : X.A.units + 1 < cLine) (ho : PE X o td) (he : PE X e ty) (hf : PE X f tx) (m : M2 X o "get" apos e f cpos) : PE X (.Call (.Attribute o "get" apos) [e, f] [] cpos) (tDGet2 td ty tx) := by
  intro pins s σ H Q I h
  refine wpAny_Call_method m.base m.few m.line PySem.F.plainAttrs_dict PySem.F.slot_dict_get PySem.F.type_dict_get (thn (ho pins s σ H _ I h) fun u s1 ⟨x, H1, I1, rx, a, ex, d, q1⟩ => ?_)
  subst ex
  obtain rfl : u = Value.ref a := rx
  obtain ⟨t1, t2, _⟩ := isD_at I1 d
  refine ⟨t1, t2, ?_⟩
  rw [m.trees]
  refine Calls.callWith_builtin rfl (Calls.evalArgs_plain (Calls.spliced_cons (thn (he pins s1 σ H1 _ I1 q1) fun iv s2 ⟨y, H2, I2, ry, q2⟩ =>
    Calls.spliced_cons (thn (hf pins s2 σ H2 _ I2 q2) fun fv s3 ⟨z, H3, I3, rz, ov, g, q3⟩ => Calls.spliced_nil ?_))))
  exact d_get2 hu I3 g ry rz fun w' s4 I4 rw' => ⟨_, H3, I4, rw', q3⟩
end
section
variable {X : Cx} {pins : List (Addr × Obj)} {σ : St} {H : Hp} {s : Shared} {a : Addr} {kvs : List (Key × V)} {A : Around} {E : Value → Shared → Prop}
end
section
variable {X : Cx} {pins : List (Addr × Obj)} {σ : St} {H : Hp} {s : Shared} {a : Addr} {y : V} {u : Value} {A : Around} {E : Value → Shared → Prop}
end
end L2
namespace Att
open PySem PySem.W PySem.Calls PyProof.Rows
theorem ints_of_wellAll {P : Params} {h : Heap} : ∀ (ns : List Int) (vs : List Value), WellAll P h vs (ns.map WData.int) → IntsAre vs ns := by
  intro ns
  induction ns with
  | nil =>
    intro vs w
    rw [List.map_nil] at w
    cases w
    exact .nil
  | cons n ns ih =>
    intro vs w
    rw [List.map_cons] at w
    cases w with
    | cons a b =>
      cases a
      exact .cons _ _ (ih _ b)
theorem script_of {l : OpenLaw} {n : Nat} (hn : l.most = some n) {P : Params} {h : Heap} {args : List WData} {vals : List Value}
    (hpre : l.row.toRowW.claim.pre args = true) (hwl : WellAll P h vals args) :
    ∃ a vs ns, vals = [Value.ref a] ∧ args = [WData.list (ns.map WData.int)] ∧ h.get? a = some { cls := .type "list", data := .seq vs.toArray } ∧ IntsAre vs ns ∧ ns.length ≤ n := by
  have hsh : WShape.hasAll [] args [.list .int] = true := (pre_splitW hpre).1
  have hc : l.pre.holds [] { args := args } = true := (pre_splitW hpre).2
  obtain ⟨d, r, rfl, h1, h2⟩ := hasAllW_cons hsh
  obtain rfl := hasAllW_nil h2
  obtain ⟨xs, rfl, h3⟩ := hasW_list h1
  obtain ⟨ns, rfl⟩ := items_int h3
  have hlen : ns.length ≤ n := by
    unfold OpenLaw.pre at hc
    have h4 : (WTm.not (.lt (.lit (.int (n : Int))) (.len (.arg 0)))).holds [] { args := [.list (ns.map .int)] } = true := by
      have h4 := (holds_andW hc).1
      rw [hn] at h4
      exact h4
    have h5 := condW_of h4 (w_not (w_lt w_lit (w_len_list (w_arg rfl))))
    rw [List.length_map] at h5
    refine Nat.le_of_not_lt fun q => ?_
    have q' : (n : Int) < ((ns.length : Nat) : Int) := by omega
    first
      | (rw [decide_eq_true q'] at h5; exact absurd h5 (by decide))
      | (simp at h5; omega)
  cases hwl with
  | cons w1 w2 =>
    cases w2
    cases w1 with
    | list ho hall => exact ⟨_, _, ns, rfl, rfl, ho, ints_of_wellAll ns _ hall, hlen⟩
theorem post_true (l : OpenLaw) (args : List WData) : l.row.toRowW.claim.post args (.bool true) args = true :=
  postW_of (r := l.row.toRowW) (X := (true == true))
    (show WShape.has [] (.bool true) .bool = true by first | rfl | decide | simp [WShape.has, WShape.arms, WShape.armsAll])
    (show (WTm.eq .res (.lit (.bool true))).value [] { args := args, res := some (.bool true), after := args } = some (.bool (true == true)) from w_eq_bool (w_res rfl) w_lit) rfl
theorem attach_call {l : OpenLaw} {n : Nat} {q : Program} {loose : List Str} {XP : (Str → Option Value) → Heap → Prop} {YP : World → Heap → Prop} {d : DefRec}
    (hn : l.most = some n) (hdf : d.params.defaults = [])
    (call : ∀ (w : World) (s₀ s₁ : Shared) (mg mb : Str → Option Value) (fa : Addr) (o : Obj) (pm cd doc : Value) (a : Addr) (vs : List Value) (ns : List Int),
      Ground q loose [] XP w s₀ mg mb s₁.heap → YP w s₁.heap →
      s₁.heap.get? fa = some o → o.data = .func (docDef d.name d.params d.body d.scope pm cd doc) → s₁.heap.CodeRec cd d.name → mg d.name = some (.ref fa) →
      s₁.heap.get? a = some { cls := .type "list", data := .seq vs.toArray } → IntsAre vs ns → ns.length ≤ n → s₁.gens = #[] →
      codeAny (model l.prog w) callerA (.call (.ref fa) ⟨[.ref a], []⟩) (fun r s' => r = .ok (.ret (.bool true)) ∧ OldK s₁.heap s'.heap ∧ s'.os = s₁.os ∧ AllBare s'.gens) s₁) :
    WalkO q loose XP YP l.row.toRowW d [] (fun f vs => PySem.call f vs) := by
  intro w s₀ s₁ mg mb G Y fa o pm cd doc dV kV ho hd hcd hD hmg hg args vals as hpre hlay hrd hwl hlo
  obtain rfl : dV = .none := Dflts.none hD hdf
  obtain rfl : kV = .none := Dflts.noKw hD
  obtain ⟨a, vs, ns, rfl, rfl, hobj, hints, hlen⟩ := script_of hn hpre hwl
  refine enter_call (codeAny_mono (call w s₀ s₁ mg mb fa o pm cd doc a vs ns G Y ho (fd_plain hd) hcd hmg hobj hints hlen hg) fun r s' hq => ?_)
  obtain ⟨rfl, h2, h3, h4⟩ := hq
  exact ⟨.inl ⟨.bool true, .bool true, [], rfl, fun _ => rfl, .bool true, post_true l _, fun _ => ⟨List.Pairwise.nil, fun _ hm => (nomatch hm)⟩⟩, h2, h3, h4⟩
section
variable {prog : Program} {w : World} {A : Around} {E : Value → Shared → Prop} {s : Shared} {K : Frag}
end
end Att
namespace L2
open PySem PySem.Spec PyProof.Rows
theorem vals_ints : ∀ {vs : List Value} {ns : List Int}, IntsAre vs ns → Vals (ns.map V.int) vs
  | _, _, .nil => .nil
  | _, _, .cons n t h => .cons ⟨t, rfl⟩ (vals_ints h)
def Only (H : Hp) : Prop := ∀ b, H b = none ∨ ∃ o xs, H b = some (.frz o (.lst xs))
theorem law_call {P : Program} {w : World} {K : PySem.W.Frag} {mg mb : Str → Option Value} {CX : CXT} {k : Nat} {fa a : Addr} {fd : FuncData} {x : Str} {sp : Sp} {s₁ : Shared} {vs : List Value} {ns : List Int}
    (KX : K.In s₁.heap) (hns : s₁.heap.Ns mainGlobals mg) (hb : s₁.heap.Ns builtinsNs mb) (hbb : ∀ x : Str, x ≠ "__name__" → mb x = bootBuiltins x) (hlim : s₁.heap.NoLimit) (hbm : ∃ bm o, mg "__builtins__" = some (.ref bm) ∧ bm ≠ builtinsNs ∧ s₁.heap.get? bm = some o ∧ o.cls = .type "module" ∧ o.dict = some builtinsNs ∧ o.data = .plain) (hg : s₁.gens = #[])
    (ha : s₁.heap.get? a = some { cls := .type "list", data := .seq vs.toArray }) (hi : IntsAre vs ns) (hl : ns.length ≤ sizeLine) (hr : Room k callerA)
    (F : ∀ base : Heap, K.In base → base.Ns mainGlobals mg → FnOk P w K mg base CX k fa fd [x] sp) (hbind : ∀ (s : Shared) (u : Value), BindsTo s fd ⟨[u], []⟩ [(x, u)])
    (hsp : ∀ H : Hp, Only H → SqL K H a (ns.map V.int) → sp [.ref a] H (fun v _ => v = .bl true) fun _ _ _ => False)
    (hCX : ∀ H e s', CX [] H s₁ (fun _ _ _ => False) e s' → False) :
    codeAny (model P w) callerA (.call (.ref fa) ⟨[.ref a], []⟩) (fun r s' => r = .ok (.ret (.bool true)) ∧ OldK s₁.heap s'.heap ∧ s'.os = s₁.os ∧ AllBare s'.gens) s₁ := by
  have rv := vals_ints hi
  have lenV := hi.length
  -- from an abstract heap in which nothing but the script may be tracked
  have core : ∀ H : Hp, Only H → SqL K H a (ns.map V.int) → HOk P w H s₁.heap → (∀ b, H b ≠ none → b = a) → (H a ≠ none → K.lookup a = none) →
      codeAny (model P w) callerA (.call (.ref fa) ⟨[.ref a], []⟩) (fun r s' => r = .ok (.ret (.bool true)) ∧ OldK s₁.heap s'.heap ∧ s'.os = s₁.os ∧ AllBare s'.gens) s₁ := by
    intro H hO hS hok hA hK
    have base_of : ∀ {b : Addr} {o : Obj}, s₁.heap.get? b = some o → H b = none → (hidT s₁.heap H).get? b = some o := fun e n => hidT_get e n
    have noA : ∀ {b : Addr} {o : Obj} {es : Array DictEntry} {ep : Nat}, s₁.heap.get? b = some o → o.data = .dict es ep → H b = none := fun {b o es ep} e d => by
      cases q : H b with
      | none => rfl
      | some u =>
        have e' : b = a := hA b (by rw [q]; simp)
        subst e'
        rw [ha] at e; cases e
        have d' : Data.seq vs.toArray _ = Data.dict es ep := d
        cases d'
    have nsK : ∀ {b : Addr} {m : Str → Option Value}, s₁.heap.Ns b m → (hidT s₁.heap H).Ns b m := fun {b m} ⟨o, es, ep, e, d, r⟩ => ⟨o, es, ep, base_of e (noA e d), d, r⟩
    have hKb : K.In (hidT s₁.heap H) := fun b o e => base_of (KX b o e) (by
      cases q : H b with
      | none => rfl
      | some u =>
        have e' : b = a := hA b (by rw [q]; simp)
        subst e'
        rw [hK (by rw [q]; simp)] at e; cases e)
    have hbm' : ∃ bm o, mg "__builtins__" = some (.ref bm) ∧ bm ≠ builtinsNs ∧ (hidT s₁.heap H).get? bm = some o ∧ o.cls = .type "module" ∧ o.dict = some builtinsNs ∧ o.data = .plain := by
      obtain ⟨bm, ob, b1, b2, b3, b4, b5, b6⟩ := hbm
      refine ⟨bm, ob, b1, b2, base_of b3 ?_, b4, b5, b6⟩
      cases q : H bm with
      | none => rfl
      | some u =>
        have e' : bm = a := hA bm (by rw [q]; simp)
        rw [e', ha] at b3
        cases b3
        exact absurd (show Value.type "list" = Value.type "module" from b4) (by decide)
    have hM : Mod K mg (hidT s₁.heap H) := ⟨hKb, nsK hns, ⟨mb, nsK hb, hbb⟩, (let ⟨mc, h1, h2⟩ := hlim; ⟨mc, nsK h1, h2⟩), hbm'⟩
    have e0 : Env0 P w K mg (hidT s₁.heap H) callerA [] s₁ H := ⟨rfl, hM, fun b o e => of_hidT e, Nat.le_of_eq (hidT_size _ _), trivial, fun b hb => absurd (show b ∈ ([] : List Addr) from hb) (by simp), hok, .of_eq hg⟩
    refine codeAny_mono ((F _ hKb (nsK hns)).run callerA [] s₁ H ⟨[.ref a], []⟩ [.ref a] [.ref a] _ _ hr e0 (hbind s₁ (.ref a)) (.cons rfl .nil) (hsp H hO hS)) fun r s' h => ?_
    cases r with
    | error e => exact (hCX H e s' h).elim
    | ok fl =>
      cases fl with
      | next => exact False.elim h
      | brk => exact False.elim h
      | cont => exact False.elim h
      | ret u =>
        obtain ⟨v, H', os, bare, un, hok', r', q⟩ := h
        have q' : v = .bl true := q
        subst q'
        obtain rfl : u = Value.bool true := r'
        refine ⟨rfl, OldK.of_keep fun b o e => ?_, os, bare⟩
        cases q : H b with
        | none => exact un.keep b o e q (by intro z; exact absurd (show b ∈ ([] : List Addr) from z) (by simp)) (by simp)
        | some u =>
          rcases hO b with z | ⟨ob, xs, z⟩
          · rw [q] at z; cases z
          · have z2 := un.frzs b ob _ z
            obtain ⟨e1, _⟩ := hok b _ z
            obtain ⟨e2, _⟩ := hok' b _ z2
            rw [e] at e1; cases e1
            exact e2
  cases hk : K.lookup a with
  | some o =>
    -- the script is one of the module's own objects
    have e := KX a o hk
    rw [ha] at e
    cases e
    refine core (fun _ => none) (fun _ => .inl rfl) (.inr ⟨_, vs.toArray, _, hk, rfl, rfl, rfl, by rw [List.size_toArray, lenV]; exact hl, by simpa using rv⟩) (fun b u z => by have z' : (none : Option HO) = some u := z; cases z') (fun b z => absurd rfl z) fun z => absurd rfl z
  | none =>
    refine core (fun b => if b = a then some (.frz { cls := .type "list", data := .seq vs.toArray } (.lst (ns.map V.int))) else none) (fun b => ?_) (.inl (.inr ⟨{ cls := .type "list", data := .seq vs.toArray }, if_pos rfl⟩)) (fun b u z => ?_) (fun b z => ?_) fun _ => hk
    · by_cases hb : b = a
      · exact .inr ⟨_, _, if_pos hb⟩
      · exact .inl (if_neg hb)
    · by_cases hb : b = a
      · have z' := (if_pos hb).symm.trans z
        cases z'
        subst hb
        exact ⟨ha, by rw [List.length_map]; exact hl, vs, _, rv, ha⟩
      · have z' := (if_neg hb).symm.trans z
        cases z'
    · by_cases hb : b = a
      · exact hb
      · exact absurd (if_neg hb) z
end L2
namespace L2
open PySem PySem.Spec PyProof.Rows
abbrev KOf {K : PySem.W.Frag} {h : Heap} (_ : K.In h) : PySem.W.Frag := K
theorem walk_of {l : PySem.W.OpenLaw} {n k : Nat} {q : Program} {loose : List Str} {XP : (Str → Option Value) → Heap → Prop} {YP : World → Heap → Prop} {d : DefRec} {K : Params → PySem.W.Frag} {CX : World → CXT} {sp : World → Sp} {x : Str}
    (hn : l.most = some n) (hn2 : n ≤ sizeLine) (hdf : d.params.defaults = []) (hr : Room k callerA)
    (hY : ∀ (w : World) (h : Heap), YP w h → (K w.params).In h)
    (F : ∀ (w : World) (mg : Str → Option Value) (fa : Addr) (h : Heap), (K w.params).In h → h.Ns mainGlobals mg → mg d.name = some (.ref fa) →
      ∃ fd : FuncData, (∀ (s : Shared) (u : Value), BindsTo s fd ⟨[u], []⟩ [(x, u)]) ∧
        ∀ base : Heap, (K w.params).In base → base.Ns mainGlobals mg → FnOk l.prog w (K w.params) mg base (CX w) k fa fd [x] (sp w))
    (hsp : ∀ (w : World) (H : Hp) (a : Addr) (ns : List Int), ns.length ≤ n → Only H → SqL (K w.params) H a (ns.map V.int) → sp w [.ref a] H (fun v _ => v = .bl true) fun _ _ _ => False)
    (hCX : ∀ (w : World) (H : Hp) (s : Shared) (e : Value) (s' : Shared), CX w [] H s (fun _ _ _ => False) e s' → False) :
    PySem.W.WalkO q loose XP YP l.row.toRowW d [] (fun f vs => PySem.call f vs) := by
  refine Att.attach_call hn hdf fun w s₀ s₁ mg mb fa o pm cd doc a vs ns G Y ho hd hcd hmg hobj hints hlen hg => ?_
  have KX := hY w _ Y
  obtain ⟨fd, hb, hF⟩ := F w mg fa _ KX G.T.g hmg
  exact law_call KX G.T.g G.T.b G.T.builtins G.T.nolimit G.T.bmain hg hobj hints (Nat.le_trans hlen hn2) hr hF hb (fun H hO hS => hsp w H a ns hlen hO hS) fun H e s' => hCX w H s₁ e s'
end L2
/- THE LAST THEOREM (shape; LID, My.* are yours):
   My.Adr: a structure of the addresses that your layer names (classes, functions); My.Txt K t: a structure (Prop) of the equations over K;
   My.txt_mk : {K} {implicit addresses ..} (e1 : nsIn K mainGlobals "law" = some (some (.ref f))) (e2 : K.lookup f = some ⟨oc, od, .func (fnOf "law" "law" params body scope dV kV doc pm an cdv ct), sl⟩) (e3 : codeIn K cdv "law" = true) .. : ∃ t, My.Txt K t
set_option maxRecDepth 100000 in
set_option maxHeartbeats 0 in
theorem PySem.Challenge.cw_LID_holds : PySem.Challenge.rw_LID.Holds := by
  w_on; o_law; k_head; (case hw => w_witness2)
  k_fill
  refine L2.walk_of (l := PySem.Challenge.rw_LID) (n := 63) (k := 40) (x := "script") (CX := fun w => ..) (sp := fun _ => My.sp_law) rfl (by decide) rfl ⟨rfl, by decide, by decide⟩ (fun w h Y => PySem.W.kIn_of Y) ?F ?S ?C
  case F =>
    intro w mg fa h KX G hmg
    have T : ∃ t, My.Txt (L2.KOf KX) t := by
      dsimp only [L2.KOf]                          -- K must stand as «<heap const> w.params» for k_is
      refine' My.txt_mk ?e1 ?e2 ?e3 ..
      (case e1 => PySem.W.k_is)                    -- in the order: a name -> its address -> its object -> its parts
      (case e2 => PySem.W.k_is)
      ..
    obtain ⟨t, T⟩ := T
    have e0 := hmg.symm.trans (PySem.W.mg_of KX G T.law)
    cases e0                                       -- fa is the law's own address
    exact ⟨_, fun s u => .of_eq rfl, fun base kb nb => My.law_fn T kb nb⟩     -- if «.of_eq rfl» comes too early: refine' ⟨_, ?b, fun base kb nb => My.law_fn T kb nb⟩; exact fun s u => .of_eq rfl
  case S => exact fun w H a ns hl hO hS => ..
  case C => exact ..
(the tactic k_is has no namespace: write k_is) -/
namespace L2
open PySem PySem.Spec PyProof.Rows
def inClass (s : Stmt) (j : Nat) : Stmt := match s with
  | .ClassDef _ _ _ body _ _ _ _ _ _ _ => body.getD j (.Pass ⟨0, 0, 0, 0⟩)
  | _ => .Pass ⟨0, 0, 0, 0⟩
def defArgs (s : Stmt) : Arguments := match s with
  | .FunctionDef _ a _ _ _ _ _ _ _ _ => a
  | _ => { posonlyargs := [], args := [], vararg := none, kwonlyargs := [], kw_defaults := [], kwarg := none, defaults := [] }
def defBody (s : Stmt) : List Stmt := match s with
  | .FunctionDef _ _ b _ _ _ _ _ _ _ => b
  | _ => []
def defScope (s : Stmt) : Scope := match s with
  | .FunctionDef _ _ _ _ _ _ sc _ _ _ => sc
  | _ => { kind := .function, names := [], isGenerator := false, isCoroutine := false }
abbrev CX0 : CXT := fun _ _ _ _ _ _ => False
abbrev E0 : XK := fun _ _ _ => False
theorem pass0 {X : Cx} : Passes CX0 X E0 := fun _ _ _ _ _ _ _ h => h.elim
structure Fun (K : PySem.W.Frag) (x qual : Str) (st : Stmt) (f : Addr) (fd : FuncData) : Prop where
  ex : ∃ (oc : Value) (od : Option Addr) (kV doc pm : Value) (an : Option Addr) (cdv ct : Value) (osl : Array (Option Value)),
    fd = PySem.W.fnOf x qual (defArgs st) (defBody st) (defScope st) .none kV doc pm an cdv ct ∧ K.lookup f = some ⟨oc, od, .func fd, osl⟩ ∧ PySem.W.codeIn K cdv qual = true
  kp : PySem.W.keepIn K (.ref f) = true
section
variable {P : Program} {w : World} {K : PySem.W.Frag} {mg : Str → Option Value} {base : Heap}
theorem Fun.ok {x qual : Str} {st : Stmt} {f : Addr} {fd : FuncData} {N ps : List Str} {k : Nat} {sp : Sp} (F : Fun K x qual st f fd) (S : FnScope N ps (defScope st)) (len : ∀ vs H Q E, sp vs H Q E → vs.length = ps.length)
    (hbody : ∀ (cdv : Value) (A : Around) (outer : List Env) (s : Shared) (H : Hp) (vs : List V) (Q : VK) (E : XK), Room k (A.deeper (envOfC qual (defScope st) s.heap.objs.size f cdv)) → sp vs H Q E →
      ∃ t, PSs (cxOf CX0 P w K mg base N qual (defScope st) f cdv A outer s H E).nox (defBody st) t ∧ t { nx := fun _ H' => Q .non H', rt := Q } (start N vs) H) : FnOk P w K mg base CX0 (k + 1) f fd ps sp := by
  obtain ⟨oc, od, kV, doc, pm, an, cdv, ct, osl, rfl, lk, hcd⟩ := F.ex
  refine fn_of lk hcd S len fun A outer s H vs Q E hr hsp => ?_
  obtain ⟨t, h, q⟩ := hbody cdv A outer s H vs Q E hr hsp
  exact ⟨t, h.nox, q⟩
theorem Fun.binds {x qual : Str} {st : Stmt} {f : Addr} {fd : FuncData} {ps : List Str} (F : Fun K x qual st f fd)
    (h : ∀ (kV doc pm : Value) (an : Option Addr) (cdv ct : Value) (us : List Value), us.length = ps.length → bindArgs (PySem.W.fnOf x qual (defArgs st) (defBody st) (defScope st) .none kV doc pm an cdv ct) ⟨us, []⟩ = pure (ps.zip us)) : Binds K fd ps [] := by
  obtain ⟨oc, od, kV, doc, pm, an, cdv, ct, osl, rfl, lk, hcd⟩ := F.ex
  exact .all (h kV doc pm an cdv ct)
theorem fun_mk {x qual : Str} {st : Stmt} {f : Addr} {oc : Value} {od an : Option Addr} {osl : Array (Option Value)} {kV doc pm cdv ct : Value} (l : K.lookup f = some ⟨oc, od, .func (PySem.W.fnOf x qual (defArgs st) (defBody st) (defScope st) .none kV doc pm an cdv ct), osl⟩)
    (c : PySem.W.codeIn K cdv qual = true) (k : PySem.W.keepIn K (.ref f) = true) : Fun K x qual st f (PySem.W.fnOf x qual (defArgs st) (defBody st) (defScope st) .none kV doc pm an cdv ct) := ⟨⟨oc, od, kV, doc, pm, an, cdv, ct, osl, rfl, l, c⟩, k⟩
end
section
variable {X : Cx}
theorem pv (i : Nat) {x : Str} {pos : Pos} (hN : X.N[i]? = some x := by rfl) (hv : Vis X.env.scope x := by first | exact Or.inl rfl | exact Or.inr (Or.inl rfl) | exact Or.inr (Or.inr rfl)) (hd : (x == ("__debug__" : Str)) = false := by decide)
    (hcd : (x == ("__classdict__" : Str)) = false := by decide) : PE X (.Name x pos) (tVar i) := pe_var hN hv hd hcd
end
theorem iteF {A B : Prop} (h : B) : if false = true then A else B := by
  rw [if_neg Bool.false_ne_true]
  exact h
theorem iteT {A B : Prop} (h : A) : if true = true then A else B := by
  rw [if_pos rfl]
  exact h
def Same (H H' : Hp) : Prop := ∀ b o, H b = some o → H' b = some o
theorem Same.refl (H : Hp) : Same H H := fun _ _ h => h
theorem Same.trans {H H1 H2 : Hp} (a : Same H H1) (b : Same H1 H2) : Same H H2 := fun c o h => b c o (a c o h)
theorem Same.free {H H' : Hp} (e : Same H H') {l : Addr} (h : H' l = Option.none) : H l = Option.none := by
  cases q : H l with
  | none => rfl
  | some o =>
    rw [e l o q] at h
    cases h
theorem Same.seq {K : PySem.W.Frag} {H H' : Hp} {a : Addr} {xs : List V} (e : Same H H') (h : SqL K H a xs) : SqL K H' a xs := by
  rcases h with (h | ⟨o, h⟩) | h
  · exact .inl (.inl (e _ _ h))
  · exact .inl (.inr ⟨o, e _ _ h⟩)
  · exact .inr h
section
variable {κ : Type} [DecidableEq κ]
end
end L2
namespace L2
open PySem PySem.Spec PyProof.Rows
section
variable {prog : Program} {w : World} {A : Around} {R : Result → Shared → Prop} {s : Shared}
theorem compLoop_go {elt target iter : Expr} {ifs : List Expr} {scope : Scope} {pos : Pos} {it acc : Value} {env : Env} (I : Nat → Shared → Prop)
    (turn : ∀ n s, I n s → wpAny (model prog w) A (pyNext it) (fun r s₁ => match r with
      | none => R (.ok .next) s₁
      | some v => wpAny (model prog w) A (letOwnedTupleGo target it v) (fun _ s₁' => wpAny (model prog w) A (assign target env v) (fun _ s₂ =>
          wpAny (model prog w) A (forIn ifs true fun c r => if r = true then do let ok ← isTrue c env (eval c env); pure (ForInStep.yield ok) else pure (ForInStep.yield r)) (fun ok s₃ =>
            if ok = true then wpAny (model prog w) A (eval elt env) (fun x s₄ =>
              wpAny (model prog w) A (call (.builtin "list.append") [acc, x]) (fun _ s₅ => ∃ m, m < n ∧ I m s₅) (notedBy (model prog w) A env fun e s' => R (.error e) s') s₄) (notedBy (model prog w) A env fun e s' => R (.error e) s') s₃
            else ∃ m, m < n ∧ I m s₃) (notedBy (model prog w) A env fun e s' => R (.error e) s') s₂) (notedBy (model prog w) A env fun e s' => R (.error e) s') s₁') (notedBy (model prog w) A env fun e s' => R (.error e) s') s₁)
      (notedBy (model prog w) A env fun e s' => R (.error e) s') s)
    (n : Nat) (h : I n s) :
    codeAny (model prog w) A (.compLoop (.ListComp elt [⟨target, iter, ifs, 0⟩] scope pos) 0 it acc env) R s := by
  refine codeAny_loop rfl I (fun n s hI => ?_) n h
  show wpAny _ A ((compTurn (.ListComp elt [⟨target, iter, ifs, 0⟩] scope pos) 0 it acc env).onRaise (fun x => do noteFrame x env; theTreesLotGoes x)) _ _ s
  refine wpAny_noted ?_
  rw [compTurn_list]
  refine wpAny_bind (wpAny_standAt (wpAny_bind (wpAny_mono (turn n s hI) (fun r s₁ h₁ => ?_) fun _ _ h' => h')))
  cases r with
  | none => exact wpAny_pure h₁
  | some v =>
    refine wpAny_bind (wpAny_mono h₁ (fun _ s₁' h₁' => ?_) fun _ _ h' => h')
    refine wpAny_bind (wpAny_mono h₁' (fun _ s₂ h₂ => wpAny_bind (wpAny_mono h₂ (fun ok s₃ h₃ => ?_) fun _ _ h' => h')) fun _ _ h' => h')
    cases ok with
    | false => exact wpAny_pure ⟨rfl, h₃⟩
    | true =>
      exact wpAny_bind (wpAny_bind (wpAny_mono h₃ (fun x s₄ h₄ => wpAny_bind (wpAny_mono h₄ (fun _ s₅ h₅ => wpAny_pure (wpAny_pure ⟨rfl, h₅⟩)) fun _ _ h' => h')) fun _ _ h' => h'))
end
def clos (env : Env) : List (Str × NameKind) → List (Str × Addr) → List (Str × Addr)
  | [], cs => cs
  | (n, k) :: r, cs => clos env r (if (k == NameKind.free) = true then (n, (env.cells.lookup n).getD 0) :: cs else cs)
theorem closure_eq {scope : Scope} {env : Env} (h : ∀ x ∈ scope.names, x.2 = .free → ∃ c, env.cells.lookup x.1 = some c) : closureFor scope env = pure (clos env scope.names []) := by
  simp only [closureFor]
  generalize ([] : List (Str × Addr)) = cs
  revert h cs
  generalize scope.names = names
  intro h
  induction names with
  | nil => intro cs; rfl
  | cons x r ih =>
    intro cs
    obtain ⟨n, k⟩ := x
    have ih := ih fun y hy => h y (List.mem_cons_of_mem _ hy)
    rw [List.forIn_cons]
    by_cases hk : k = .free
    · subst hk
      obtain ⟨c, hc⟩ := h (n, .free) List.mem_cons_self rfl
      have hc' : env.cells.lookup n = some c := hc
      have e : clos env ((n, NameKind.free) :: r) cs = clos env r ((n, c) :: cs) := by
        show clos env r (if (NameKind.free == NameKind.free) = true then (n, (env.cells.lookup n).getD 0) :: cs else cs) = _
        rw [hc']
        rfl
      rw [e, ← ih]
      simp only [cellOf, hc', beq_self_eq_true, if_true]
      rfl
    · have hb : (k == NameKind.free) = false := by simpa using hk
      have e : clos env ((n, k) :: r) cs = clos env r cs := by
        show clos env r (if (k == NameKind.free) = true then (n, (env.cells.lookup n).getD 0) :: cs else cs) = _
        rw [hb]
        rfl
      rw [e, ← ih]
      simp only [hb, Bool.false_eq_true, if_false]
      rfl
theorem clos_mem {env : Env} {x : Str} {c : Addr} : ∀ (names : List (Str × NameKind)) (cs : List (Str × Addr)), (∀ y ∈ names, y.2 = .free → ∃ c, env.cells.lookup y.1 = some c) → (x, c) ∈ clos env names cs → (x, c) ∈ cs ∨ env.cells.lookup x = some c
  | [], cs, _, h => .inl h
  | (n, k) :: r, cs, hf, h => by
    have h' : (x, c) ∈ clos env r (if (k == NameKind.free) = true then (n, (env.cells.lookup n).getD 0) :: cs else cs) := h
    rcases clos_mem r _ (fun y hy => hf y (List.mem_cons_of_mem _ hy)) h' with q | q
    · by_cases hk : (k == NameKind.free) = true
      · rw [if_pos hk] at q
        rcases List.mem_cons.mp q with e | q
        · cases e
          obtain ⟨c, hc⟩ := hf (x, k) List.mem_cons_self (by simpa using hk)
          have hc' : env.cells.lookup x = some c := hc
          rw [hc']
          exact .inr rfl
        · exact .inl q
      · rw [if_neg hk] at q
        exact .inl q
    · exact .inr q
theorem clos_sub {env : Env} {p : Str × Addr} : ∀ (names : List (Str × NameKind)) (cs : List (Str × Addr)), p ∈ cs → p ∈ clos env names cs
  | [], _, h => h
  | (n, k) :: r, cs, h => by
    show p ∈ clos env r (if (k == NameKind.free) = true then (n, (env.cells.lookup n).getD 0) :: cs else cs)
    refine clos_sub r _ ?_
    split
    · exact List.mem_cons_of_mem _ h
    · exact h
theorem clos_has {env : Env} {x : Str} {c : Addr} : ∀ (names : List (Str × NameKind)) (cs : List (Str × Addr)), (x, NameKind.free) ∈ names → env.cells.lookup x = some c → (x, c) ∈ clos env names cs
  | [], _, h, _ => by cases h
  | (n, k) :: r, cs, h, hc => by
    show (x, c) ∈ clos env r (if (k == NameKind.free) = true then (n, (env.cells.lookup n).getD 0) :: cs else cs)
    rcases List.mem_cons.mp h with e | h
    · cases e
      refine clos_sub r _ ?_
      rw [if_pos (by simp), hc]
      exact List.mem_cons_self
    · exact clos_has r _ h hc
theorem lookup_of_all {x : Str} {c : Addr} : ∀ {l : List (Str × Addr)}, (x, c) ∈ l → (∀ d, (x, d) ∈ l → d = c) → l.lookup x = some c
  | [], h, _ => by cases h
  | (n, d) :: r, h, u => by
    rw [List.lookup_cons]
    by_cases e : x = n
    · subst e
      rw [beq_self_eq_true]
      rw [u d List.mem_cons_self]
    · rw [show (x == n) = false by simpa using e]
      rcases List.mem_cons.mp h with q | q
      · cases q
        exact absurd rfl e
      · exact lookup_of_all q fun d hd => u d (List.mem_cons_of_mem _ hd)
theorem clos_lookup {env : Env} {names : List (Str × NameKind)} {x : Str} {c : Addr} (hf : ∀ y ∈ names, y.2 = .free → ∃ c, env.cells.lookup y.1 = some c) (hx : (x, NameKind.free) ∈ names) (hc : env.cells.lookup x = some c) : (clos env names []).lookup x = some c :=
  lookup_of_all (clos_has names [] hx hc) fun d hd => by
    rcases clos_mem names [] hf hd with q | q
    · cases q
    · rw [hc] at q
      exact (Option.some.inj q).symm
theorem clos_of {env : Env} {names : List (Str × NameKind)} {x : Str} {c : Addr} (hf : ∀ y ∈ names, y.2 = .free → ∃ c, env.cells.lookup y.1 = some c) (h : (clos env names []).lookup x = some c) : env.cells.lookup x = some c := by
  rcases clos_mem names [] hf (PySem.mem_of_lookup h) with q | q
  · cases q
  · exact q
end L2
namespace L2
open PySem PySem.Spec PyProof.Rows
def cxC (X : Cx) (scope : Scope) (N : List Str) (fp : List Addr) (C : Addr) (s : Shared) (H : Hp) : Cx where
  prog := X.prog
  w := X.w
  K := X.K
  mg := X.mg
  base := X.base
  A := X.A
  N := N
  s₀ := s
  H₀ := H
  env := compEnvC scope (clos X.env scope.names []) C X.env
  outer := X.stack
  stack := X.stack
  ex := fp
  fn := fun _ => false
  calm := X.calm
  pn := []
  xe := fun _ _ => False
theorem HOk.track {P : Program} {w : World} {H : Hp} {h : Heap} {a : Addr} {o : HO} (x : HOk P w H h) (hn : H a = none) (new : ObjOk P w (upd H a o) h a o) : HOk P w (upd H a o) h := fun b u e => by
  by_cases hb : b = a
  · subst hb; rw [upd_same] at e; cases e; exact new
  · rw [upd_ne hb] at e
    exact (x b u e).stay (fun c v _ q => q) (fun c q => by rw [upd_ne (ne_of_none q hn)]; exact q) fun c xs _ q => by rw [upd_ne (ne_of_none q hn)]; exact q
theorem Un.track {fs ex : List Addr} {H H1 : Hp} {h h1 : Heap} {a : Addr} {o : HO} (u : Un fs ex H H1 h h1) (hs : h.objs.size ≤ a) (hn : H1 a = none) : Un fs ex H (upd H1 a o) h h1 where
  keep := u.keep
  slot := u.slot
  free := fun b ob q n hx => by rw [upd_ne (Nat.ne_of_lt (Nat.lt_of_lt_of_le (Heap.lt_size q) hs))]; exact u.free b ob q n hx
  there := u.there
  tups := fun b xs q => by rw [upd_ne (ne_of_none (u.tups b xs q) hn)]; exact u.tups b xs q
  frzs := fun b ob xs q => by rw [upd_ne (ne_of_none (u.frzs b ob xs q) hn)]; exact u.frzs b ob xs q
  tbls := fun b ps q => by
    obtain ⟨m, e⟩ := u.tbls b ps q
    exact ⟨m, by rw [upd_ne (ne_of_none e hn)]; exact e⟩
theorem lookup_relabel_free {env : Env} : ∀ {names : List (Str × NameKind)} {x : Str}, names.lookup x = some .free →
    (names.map fun (n, k) => if (k == NameKind.free && env.scope.kind == .function && env.kindOf n == some .cell) then (n, NameKind.cell) else (n, k)).lookup x = some .cell ∨
    (names.map fun (n, k) => if (k == NameKind.free && env.scope.kind == .function && env.kindOf n == some .cell) then (n, NameKind.cell) else (n, k)).lookup x = some .free
  | [], _, h => by simp at h
  | (n, k) :: r, x, h => by
    have ih := @lookup_relabel_free env r x
    show List.lookup x ((if (k == NameKind.free && env.scope.kind == .function && env.kindOf n == some .cell) = true then (n, NameKind.cell) else (n, k)) :: _) = _ ∨ List.lookup x ((if (k == NameKind.free && env.scope.kind == .function && env.kindOf n == some .cell) = true then (n, NameKind.cell) else (n, k)) :: _) = _
    cases hx : x == n with
    | true =>
      simp only [List.lookup_cons, hx] at h
      cases h
      by_cases hc : (NameKind.free == NameKind.free && env.scope.kind == .function && env.kindOf n == some .cell) = true
      · rw [if_pos hc]; simp only [List.lookup_cons, hx]; exact .inl trivial
      · rw [if_neg hc]; simp only [List.lookup_cons, hx]; exact .inr trivial
    | false =>
      simp only [List.lookup_cons, hx] at h
      by_cases hc : (k == NameKind.free && env.scope.kind == .function && env.kindOf n == some .cell) = true
      · rw [if_pos hc]; simp only [List.lookup_cons, hx]; exact ih h
      · rw [if_neg hc]; simp only [List.lookup_cons, hx]; exact ih h
theorem relabel_has {env : Env} : ∀ {names : List (Str × NameKind)} {x : Str}, (∀ y ∈ names, y.2 ≠ .cell) →
    ((names.map fun (n, k) => if (k == NameKind.free && env.scope.kind == .function && env.kindOf n == some .cell) then (n, NameKind.cell) else (n, k)).lookup x = some .cell ∨
    (names.map fun (n, k) => if (k == NameKind.free && env.scope.kind == .function && env.kindOf n == some .cell) then (n, NameKind.cell) else (n, k)).lookup x = some .free) → (x, NameKind.free) ∈ names
  | [], _, _, h => by simp at h
  | (n, k) :: r, x, hc, h => by
    have ih := @relabel_has env r x fun y hy => hc y (List.mem_cons_of_mem _ hy)
    have h' : List.lookup x ((if (k == NameKind.free && env.scope.kind == .function && env.kindOf n == some .cell) = true then (n, NameKind.cell) else (n, k)) :: _) = _ ∨ List.lookup x ((if (k == NameKind.free && env.scope.kind == .function && env.kindOf n == some .cell) = true then (n, NameKind.cell) else (n, k)) :: _) = _ := h
    cases hx : x == n with
    | true =>
      have e : x = n := by simpa using hx
      subst e
      by_cases hq : (k == NameKind.free && env.scope.kind == .function && env.kindOf x == some .cell) = true
      · have hk : (k == NameKind.free) = true := by
          rw [Bool.and_assoc] at hq
          exact (Bool.and_eq_true _ _ ▸ hq).1
        rw [show k = NameKind.free by simpa using hk]
        exact List.mem_cons_self
      · rw [if_neg hq] at h'
        simp only [List.lookup_cons, hx] at h'
        rcases h' with z | z
        · cases z
          exact absurd rfl (hc _ List.mem_cons_self)
        · cases z
          exact List.mem_cons_self
    | false =>
      by_cases hq : (k == NameKind.free && env.scope.kind == .function && env.kindOf n == some .cell) = true
      · rw [if_pos hq] at h'; simp only [List.lookup_cons, hx] at h'; exact List.mem_cons_of_mem _ (ih h')
      · rw [if_neg hq] at h'; simp only [List.lookup_cons, hx] at h'; exact List.mem_cons_of_mem _ (ih h')
structure BlkScope (X : Cx) (scope : Scope) (N : List Str) (k : Nat) (idx : List Nat) : Prop where
  kind : scope.kind = .function
  nocell : ∀ y ∈ scope.names, y.2 ≠ .cell
  names : ∀ y ∈ scope.names, y.2 = .local → scope.names.lookup y.1 = some .local
  free : ∀ y ∈ scope.names, y.2 = .free → X.env.kindOf y.1 = some .cell ∨ X.env.kindOf y.1 = some .free
  nd : N.Nodup
  len : N.length = k + idx.length
  cap : ∀ (i : Nat) (x : Str), (N.drop k)[i]? = some x → ∃ j : Nat, idx[i]? = some j ∧ X.N[j]? = some x ∧ scope.names.lookup x = some .free
def cσ (k : Nat) (idx : List Nat) (σ : St) : St := List.replicate k none ++ idx.map fun j => (σ[j]?).join
section
variable {X : Cx} {pins : List (Addr × Obj)} {σ : St} {H : Hp} {s : Shared} {scope : Scope} {N : List Str} {k : Nat} {idx : List Nat} {fp : List Addr}
theorem BlkScope.cells (S : BlkScope X scope N k idx) (I : Inv X pins σ H s) : ∀ y ∈ scope.names, y.2 = .free → ∃ c, X.env.cells.lookup y.1 = some c := fun y hy h => I.ok.has y.1 (S.free y hy h)
theorem blk_start {C D : Addr} {h₁ : Heap} {tk : Nat} {oD : Obj} {m : Str → Option Value} (S : BlkScope X scope N k idx) (I : Inv X pins σ H s) (hf : ∀ b ∈ fp, FpOk X pins H b) (ho : ∀ b ∈ fp, ∃ o, s.heap.get? b = some o)
    (hC : s.heap.objs.size ≤ C) (hD : s.heap.objs.size ≤ D) (hDC : D ≠ C) (hn : h₁.Ns C m) (old : ∀ b o, s.heap.get? b = some o → h₁.get? b = some o) (eD : h₁.get? D = some oD) (dD : ∀ v, oD.data ≠ .cell v) :
    Inv (cxC X scope N fp C s H) [(D, oD)] (cσ k idx σ) H { s with heap := h₁, toks := tk } := by
  have hcl := S.cells I
  have nst : ∀ b, s.heap.objs.size ≤ b → b ∉ frs X.stack := fun b hb z => by
    obtain ⟨_, o, e, _⟩ := I.stack.mem z
    exact absurd (Nat.lt_of_lt_of_le (Heap.lt_size e) hb) (Nat.lt_irrefl _)
  refine ⟨⟨I.ok.mod, S.kind, I.ok.glob, I.ok.blt, hC, fun x y c h1 h2 => I.ok.inj x y c (clos_of hcl h1) (clos_of hcl h2), fun x hx => ?_, fun x c z _ => (by cases z), I.ok.hd, I.ok.frames, .inl rfl, fun b hb => ⟨?_, fun x c e => (hf b hb).2.2.2.2.1 x c (clos_of hcl e)⟩, I.bs,
    Nat.le_trans I.ok.bsz I.sz, fun b o e hb => ?_, fun b hb z => ?_, I.stack, I.stkFree⟩, rfl, I.bare, Un.kept old, ⟨m, hn, fun i x v h1 h2 h3 => ?_⟩, fun x c e => ?_, I.hok.fresh hC, fun x c e => I.freeC x c (clos_of hcl e), fun p hp => ?_, I.hok.kept old, ?_⟩
  · obtain ⟨c, e⟩ := hcl _ (relabel_has S.nocell hx) rfl
    exact ⟨c, clos_lookup hcl (relabel_has S.nocell hx) e⟩
  · obtain ⟨o, e⟩ := ho b hb
    exact Nat.ne_of_lt (Nat.lt_of_lt_of_le (Heap.lt_size e) hC)
  · rcases (hf b hb).2.2.2.1 with z | z
    · exact I.ok.noex b o e z
    · exact absurd (Nat.lt_of_lt_of_le (Heap.lt_size (I.ok.bs b o e).1) z) (Nat.lt_irrefl _)
  · rcases List.mem_cons.mp (I.stkSub b z) with q | q
    · exact (hf b hb).2.1 q
    · exact (hf b hb).2.2.1 q
  · have hi : k ≤ i := by
      by_cases hi : i < k
      · unfold cσ at h2
        rw [List.getElem?_append_left (by simpa using hi), List.getElem?_replicate, if_pos hi] at h2
        cases h2
      · omega
    obtain ⟨j, rfl⟩ : ∃ j, i = k + j := ⟨i - k, by omega⟩
    have h1' : N[k + j]? = some x := h1
    obtain ⟨l, e1, e2, e3⟩ := S.cap j x (by rw [List.getElem?_drop]; exact h1')
    have h2' : σ[l]? = some (some v) := by
      unfold cσ at h2
      rw [List.getElem?_append_right (by simp), List.getElem?_map] at h2
      simp only [List.length_replicate, Nat.add_sub_cancel_left, e1, Option.map_some, Option.some.injEq] at h2
      cases q : σ[l]? with
      | none => rw [q] at h2; cases h2
      | some z => rw [q] at h2; exact congrArg some h2
    obtain ⟨m0, hn0, hl⟩ := I.loc
    have hfree : (x, NameKind.free) ∈ scope.names := PySem.mem_of_lookup e3
    have hk := S.free _ hfree rfl
    obtain ⟨u, r, l⟩ := hl l x v e2 h2' (by rcases hk with z | z; exact .inr (.inl z); exact .inr (.inr z))
    refine ⟨u, r, .inr ⟨lookup_relabel_free e3, ?_⟩⟩
    rcases l with ⟨z, _⟩ | ⟨_, c, e, o, q, d⟩
    · rcases hk with y | y
      · rw [y] at z; cases z
      · rw [y] at z; cases z
    · exact ⟨c, clos_lookup hcl hfree e, o, old c o q, d⟩
  · obtain ⟨v, o, q, d⟩ := I.cell x c (clos_of hcl e)
    exact ⟨v, o, old c o q, d⟩
  · have hp' : p ∈ ([] : List (Addr × Obj)) ++ [(D, oD)] := hp
    have e : p = (D, oD) := by simpa using hp'
    subst e
    exact ⟨eD, I.hok.fresh hD, hDC, nst D hD, dD⟩
  · unfold cσ
    show _ = N.length
    rw [S.len]
    simp
theorem blk_end {C D : Addr} {s' : Shared} {σ' : St} {H' : Hp} {ys : List V} {its : List Value} {n : Nat} {pins' : List (Addr × Obj)} (I : Inv X pins σ H s) (hf : ∀ b ∈ fp, FpOk X pins H b) (J : Inv (cxC X scope N fp C s H) pins' σ' H' s')
    (hC : s.heap.objs.size ≤ C) (hD : s.heap.objs.size ≤ D) (hDC : D ≠ C) (hDn : H' D = none) (eD : s'.heap.get? D = some { cls := .type "list", data := .seq its.toArray n }) (r : Vals ys its) (hz : ys.length ≤ sizeLine) :
    Inv X pins σ (upd H' D (.lst ys)) s' ∧ FpOk X pins (upd H' D (.lst ys)) C := by
  have hk : HOk X.prog X.w (upd H' D (.lst ys)) s'.heap := HOk.track J.hok hDn ⟨hz, its, n, r, eD⟩
  have u : Un (frs X.stack) fp H (upd H' D (.lst ys)) s.heap s'.heap := Un.track J.base hD hDn
  refine ⟨I.call' J.os u hk J.bare fun b hb => ⟨(hf b hb).2.2.2.1, (hf b hb).2.1, (hf b hb).2.2.2.2.1, (hf b hb).2.2.2.2.2⟩, I.fpOk hC ?_⟩
  rw [upd_ne hDC.symm]
  exact J.free
end
def tCompW (J : It) (σ₀ : St) (g : TG) (tt : TT) (te : TE) (R : List V → Hp → Prop) (H1 : Hp) : Prop :=
  ∃ W : Nat → Nat → List V → Hp → Prop, (∃ m, W 0 m [] H1) ∧ ∀ i m ys H, W i m ys H → ys.length ≤ sizeLine ∧
    ((J.stop i H ∧ R ys H) ∨ (J.go i H ∧ ∃ N : List V → Hp → Prop, (∀ ys' H', N ys' H' → ∃ m', m' < m ∧ W (i + 1) m' ys' H') ∧
      ∀ x H', J.yld i H x H' → g x σ₀ H' fun σ2 H2 => tt σ2 H2 fun b H3 => if b = true then te σ2 H3 fun y H4 => N (ys ++ [y]) H4 else N ys H3))
def tComp (wi : TI) (k : Nat) (idx : List Nat) (g : TG) (tt : TT) (te : TE) : TE := fun σ H Q => wi σ H fun J H1 => tCompW J (cσ k idx σ) g tt te (fun ys H' => ∀ p, H' p = none → Q (.ref p) (upd H' p (.lst ys))) H1
def PTs (X : Cx) (ifs : List Expr) (t : TT) : Prop :=
  ∀ (pins : List (Addr × Obj)) (s : Shared) (σ : St) (H : Hp) (Q : Bool → Hp → Prop), Inv X pins σ H s → t σ H Q →
    wpAny (model X.prog X.w) X.A (forIn ifs true fun c r => if r = true then do let ok ← isTrue c X.env (eval c X.env); pure (ForInStep.yield ok) else pure (ForInStep.yield r)) (TP X pins σ Q) X.xe s
def tYes : TT := fun _ H Q => Q true H
theorem pts_nil {X : Cx} : PTs X [] tYes := fun _ _ _ H _ I h => wpAny_tests_nil ⟨H, I, h⟩
theorem pts_one {X : Cx} {c : Expr} {t : TT} (h : PT X c t) : PTs X [c] t := fun pins s σ H Q I q => wpAny_tests_one (h pins s σ H Q I q)
def Agr (k : Nat) (σ' σ : St) : Prop := σ'.length = σ.length ∧ ∀ i, k ≤ i → σ'[i]? = σ[i]?
theorem Agr.set {k i : Nat} {σ σb : St} {v : Option V} (h : Agr k σ σb) (hi : i < k) : Agr k (σ.set i v) σb := ⟨by rw [List.length_set]; exact h.1, fun j hj => by rw [List.getElem?_set_ne (by omega)]; exact h.2 j hj⟩
def Own (k : Nat) (g : TG) : Prop := ∀ x σ H (Q : St → Hp → Prop) (σb : St), Agr k σ σb → g x σ H Q → g x σ H fun σ' H' => Agr k σ' σb ∧ Q σ' H'
def Owns (k : Nat) (g : TGs) : Prop := ∀ xs σ H (Q : St → Hp → Prop) (σb : St), Agr k σ σb → g xs σ H Q → g xs σ H fun σ' H' => Agr k σ' σb ∧ Q σ' H'
theorem own_name {k i : Nat} (h : i < k) : Own k (gName i) := fun _ _ _ _ _ a q => ⟨a.set h, q⟩
theorem owns_nil {k : Nat} : Owns k gNil := fun _ _ _ _ _ a ⟨e, q⟩ => ⟨e, a, q⟩
theorem owns_cons {k i : Nat} {u : TGs} (h : i < k) (hu : Owns k u) : Owns k (gCons (gName i) u) := fun _ _ _ Q σb a ⟨v, r, e, q⟩ => ⟨v, r, e, hu r _ _ Q σb (a.set h) q⟩
theorem own_tup {K : PySem.W.Frag} {n k : Nat} {u : TGs} (hu : Owns k u) : Own k (gTup K n u) := fun _ _ _ Q σb a ⟨l, xs, e, h1, h2, q⟩ => ⟨l, xs, e, h1, h2, hu xs _ _ Q σb a q⟩
theorem lst_push (its : List Value) (u : Value) (n : Nat) : ({ cls := .type "list", data := .seq (its.toArray.push u) n } : Obj) = { cls := .type "list", data := .seq (its ++ [u]).toArray n } := by
  rw [List.push_toArray]
section
variable {X : Cx} {pins : List (Addr × Obj)} {σ : St} {H : Hp} {s : Shared} {scope : Scope} {N : List Str} {k : Nat} {idx : List Nat} {fp : List Addr}
theorem comp_block {elt target iter : Expr} {ifs : List Expr} {pos : Pos} {it : Addr} {tn : Nat → Heap → Prop} {J : It} {g : TG} {tt : TT} {te : TE} {R : List V → Hp → Prop} {E : Value → Shared → Prop} {RR : Value → Addr → Result → Shared → Prop}
    (S : BlkScope X scope N k idx) (hc : X.calm = true) (I : Inv X pins σ H s) (T : Turn X.prog X.w X.K target J fp it tn) (st : tn 0 s.heap) (hf : ∀ b ∈ fp, FpOk X pins H b)
    (hg : ∀ C, PG (cxC X scope N fp C s H) target g) (ho : Own k g) (ht : ∀ C, PTs (cxC X scope N fp C s H) ifs tt) (he : ∀ C, PE (cxC X scope N fp C s H) elt te)
    (hw : tCompW J (cσ k idx σ) g tt te R H)
    (hRR : ∀ D C s' m ys H', s'.heap.Ns C m → Inv X pins σ (upd H' D (.lst ys)) s' → FpOk X pins (upd H' D (.lst ys)) C → H' D = none → R ys H' → RR (.ref D) C (.ok .next) s') :
    wpAny (model X.prog X.w) X.A (newList []) (fun acc s₃ => wpAny (model X.prog X.w) X.A (newFunctionEnv scope X.env.globals (clos X.env scope.names []) [] X.env.qual none .none (some X.env)) (fun cenv s₄ =>
      codeAny (model X.prog X.w) X.A (.compStart (.ListComp elt [⟨target, iter, ifs, 0⟩] scope pos) 0 (.ref it) acc { cenv with scope := relabel scope X.env }) (RR acc cenv.locals) s₄) E s₃) E s := by
  refine wpAny_newObj_type (wpAny_newFunctionEnv S.nocell (by intro y hy; simp at hy) (fun h₁ hns₁ hsb₁ => ?_) S.kind)
  dsimp only at hns₁ hsb₁ ⊢
  generalize hH2 : s.heap.push { cls := .type "list", dict := none, data := .seq ([] : List Value).toArray } = H2 at hns₁ hsb₁ ⊢
  have hCs : H2.objs.size = s.heap.objs.size + 1 := by rw [← hH2, Heap.size_push]
  have hDC : s.heap.objs.size ≠ H2.objs.size := by rw [hCs]; exact Nat.ne_of_lt (Nat.lt_succ_self _)
  have hCle : s.heap.objs.size ≤ H2.objs.size := by rw [hCs]; exact Nat.le_succ _
  have below : ∀ b, b < s.heap.objs.size → b ≠ H2.objs.size := fun b hb => by rw [hCs]; exact Nat.ne_of_lt (Nat.lt_succ_of_lt hb)
  have old : ∀ b o, s.heap.get? b = some o → h₁.get? b = some o := fun b o e => hsb₁.extBut b o (below b (Heap.lt_size e)) (Heap.get?_push_of_some _ (hH2 ▸ Heap.get?_push_of_some _ e))
  have hacc : h₁.get? s.heap.objs.size = some { cls := .type "list", data := .seq ([] : List Value).toArray 0 } := hsb₁.extBut _ _ hDC (Heap.get?_push_of_some _ (hH2 ▸ Heap.get?_push_size _ rfl))
  have st₁ : tn 0 h₁ := T.keep _ _ _ st fun b _ o e => old b o e
  obtain ⟨W, ⟨m0, w0⟩, turn⟩ := hw
  have fp0 : ∀ b ∈ fp, b < s.heap.objs.size := fun b hb => by
    obtain ⟨o, e, _⟩ := T.obj _ _ st b hb
    exact Heap.lt_size e
  -- the iterator's records and the block's own objects
  have stat : ∀ {H' : Hp} {pl : List (Addr × Obj)}, (∀ b ∈ fp, H' b = none) → (∀ p ∈ pl, s.heap.objs.size ≤ p.1) → ∀ b ∈ fp, FpOk (cxC X scope N fp H2.objs.size s H) pl H' b := fun {H' pl} hn hp b hb => by
    refine ⟨hn b hb, below b (fp0 b hb), fun z => ?_, .inl hb, fun x c e => (hf b hb).2.2.2.2.1 x c (clos_of (S.cells I) e), fun p q z => ?_⟩
    · have z' : b ∈ frs X.stack := z
      rcases List.mem_cons.mp (I.stkSub b z') with q | q
      · exact (hf b hb).2.1 q
      · exact (hf b hb).2.2.1 q
    · have q' : p ∈ ([] : List (Addr × Obj)) ++ pl := q
      have h1 := hp p (by simpa using q')
      rw [z] at h1
      exact absurd (Nat.lt_of_lt_of_le (fp0 b hb) h1) (Nat.lt_irrefl _)
  have loop : ∀ s₃ : Shared, s₃ = { s with heap := h₁, toks := s.toks + ([] : List (Str × Value)).length } →
      codeAny (model X.prog X.w) X.A (.compLoop (.ListComp elt [⟨target, iter, ifs, 0⟩] scope pos) 0 (.ref it) (.ref s.heap.objs.size) (compEnvC scope (clos X.env scope.names []) H2.objs.size X.env))
        (RR (.ref s.heap.objs.size) H2.objs.size) s₃ := by
    rintro s₃ rfl
    refine compLoop_go (fun n s' => ∃ i ys its H' nn, Inv (cxC X scope N fp H2.objs.size s H) [(s.heap.objs.size, { cls := .type "list", data := .seq its.toArray nn })] (cσ k idx σ) H' s' ∧ tn i s'.heap ∧ (∀ b ∈ fp, H' b = none) ∧ Vals ys its ∧ W i n ys H') ?_ m0
      ⟨0, [], [], H, 0, blk_start S I hf (fun b hb => let ⟨o, e, _⟩ := T.obj _ _ st b hb; ⟨o, e⟩) hCle (Nat.le_refl _) hDC hns₁ old hacc (fun v z => by cases z), st₁, fun b hb => (hf b hb).1, .nil, w0⟩
    rintro n s' ⟨i, ys, its, H', nn, I', st', fr', rv, w'⟩
    obtain ⟨hz, alt⟩ := turn i n ys H' w'
    have pl : ∀ p ∈ [((s.heap.objs.size : Addr), ({ cls := .type "list", data := .seq its.toArray nn } : Obj))], s.heap.objs.size ≤ p.1 := fun p hp => by
      have e : p = ((s.heap.objs.size : Addr), ({ cls := .type "list", data := .seq its.toArray nn } : Obj)) := by simpa using hp
      rw [e]
      exact Nat.le_refl _
    rcases alt with ⟨stop, q⟩ | ⟨go, Nx, hN, step⟩
    · refine thn (T.done (cxC X scope N fp H2.objs.size s H) rfl rfl rfl hc i _ s' _ H' _ I' (stat fr' pl) st' stop) fun r s4 ⟨hr, I4⟩ => ?_
      subst hr
      obtain ⟨eD, nD, _⟩ := I4.pin _ (List.mem_append_right _ List.mem_cons_self)
      obtain ⟨a1, a2⟩ := blk_end I hf I4 hCle (Nat.le_refl _) hDC nD eD rv hz
      obtain ⟨m4, hn4, _⟩ := I4.loc
      exact hRR _ _ s4 m4 ys H' hn4 a1 a2 nD q
    · refine thn (T.item (cxC X scope N fp H2.objs.size s H) rfl rfl rfl hc i _ s' _ H' _ I' (stat fr' pl) st' go) fun r s4 ⟨u, hr, h4⟩ => ?_
      subst hr
      refine thn h4 fun _ s5 ⟨x, H5, I5, r5, y5, st5, fr5⟩ => ?_
      have I5' := I5.pinned (stat fr5 pl) (T.obj _ _ st5)
      have noE : ∀ {α : Type} {t : Sem α} {Q : α → Shared → Prop} {E' : Value → Shared → Prop} {sx : Shared}, wpAny (model X.prog X.w) X.A t Q (fun _ _ => False) sx → wpAny (model X.prog X.w) X.A t Q E' sx := fun h => wpAny_mono h (fun _ _ q => q) fun _ _ z => z.elim
      refine noE (thn (hg _ _ s5 _ H5 x u _ I5' r5 (ho x _ H5 _ _ ⟨rfl, fun _ _ => rfl⟩ (step x H5 y5))) fun _ s6 ⟨σ6, H6, I6, ag, q6⟩ => ?_)
      have back : ∀ {H7 : Hp} {s7 : Shared}, Inv (cxC X scope N fp H2.objs.size s H) ([((s.heap.objs.size : Addr), ({ cls := .type "list", data := .seq its.toArray nn } : Obj))] ++ pinsAt fp s5.heap) σ6 H7 s7 →
          Inv (cxC X scope N fp H2.objs.size s H) [((s.heap.objs.size : Addr), ({ cls := .type "list", data := .seq its.toArray nn } : Obj))] (cσ k idx σ) H7 s7 ∧ tn (i + 1) s7.heap ∧ ∀ b ∈ fp, H7 b = none := fun {H7 s7} I7 => by
        refine ⟨I7.unpinned.weak (by rw [ag.1]) fun j v e => ?_, T.keep _ _ _ st5 fun b hb o e => (I7.pin (b, o) (List.mem_append_right _ (List.mem_append_right _ (mem_pinsAt hb e)))).1, fun b hb => ?_⟩
        · have hj : k ≤ j := by
            by_cases hj : j < k
            · unfold cσ at e
              rw [List.getElem?_append_left (by simpa using hj), List.getElem?_replicate, if_pos hj] at e
              cases e
            · omega
          rw [ag.2 j hj]
          exact e
        · obtain ⟨o, e, d⟩ := T.obj _ _ st5 b hb
          exact (I7.pin (b, o) (List.mem_append_right _ (List.mem_append_right _ (mem_pinsAt hb e)))).2.1
      refine noE (thn (ht _ _ s6 σ6 H6 _ I6 q6) fun b s7 ⟨H7, I7, q7⟩ => ?_)
      cases b with
      | false =>
        rw [if_neg Bool.false_ne_true] at q7 ⊢
        obtain ⟨m', hm, w7⟩ := hN _ _ q7
        obtain ⟨b1, b2, b3⟩ := back I7
        exact ⟨m', hm, i + 1, ys, its, H7, nn, b1, b2, b3, rv, w7⟩
      | true =>
        rw [if_pos rfl] at q7 ⊢
        refine noE (thn (he _ _ s7 σ6 H7 _ I7 q7) fun y s8 ⟨z, H8, I8, r8, q8⟩ => ?_)
        obtain ⟨m', hm, w8⟩ := hN _ _ q8
        obtain ⟨b1, b2, b3⟩ := back I8
        obtain ⟨eD, nD, neD, nfD, _⟩ := b1.pin _ (List.mem_append_right _ List.mem_cons_self)
        have lenV := rv.length
        refine append_at (hsz := by rw [List.size_toArray, ← lenV]; exact hz) eD fun h9 hs9 hD9 => ?_
        have b1' : Inv (cxC X scope N fp H2.objs.size s H) [] (cσ k idx σ) H8 s8 := b1.pins_of fun p hp => by cases hp
        have I9 : Inv (cxC X scope N fp H2.objs.size s H) [] (cσ k idx σ) H8 { s8 with heap := h9 } := b1'.turned (t' := s8.toks) (fun b o hb e => (hs9.2 b hb).trans e) nD neD (.inr (Nat.le_refl _)) (fun x c e z => by
          obtain ⟨v, q⟩ := I.cell x c (clos_of (S.cells I) e)
          exact absurd (Nat.lt_of_lt_of_le q.lt (by rw [z]; exact Nat.le_refl _)) (Nat.lt_irrefl _)) (fun p hp => by
          have hp' : p ∈ ([] : List (Addr × Obj)) ++ [] := hp
          simp at hp')
        refine ⟨m', hm, i + 1, ys ++ [z], its ++ [y], H8, nn + 1, I9.pins_of fun p hp => ?_, T.keep _ _ _ b2 fun b hb o e => (hs9.2 b (Nat.ne_of_lt (fp0 b hb))).trans e, b3, rv.append (.cons r8 .nil), w8⟩
        have e : p = ((s.heap.objs.size : Addr), ({ cls := .type "list", data := .seq (its ++ [y]).toArray (nn + 1) } : Obj)) := by simpa using hp
        subst e
        exact ⟨by rw [← lst_push]; exact hD9, nD, neD, nfD, fun v z => by cases z⟩
  exact codeAny_compStart_list (loop _ rfl) (T.self _ 0 _ _ _ st₁ (loop _ rfl))
theorem pe_comp (k : Nat) (idx : List Nat) {N : List Str} {elt target iter : Expr} {ifs : List Expr} {pos : Pos} {wi : TI} {g : TG} {tt : TT} {te : TE} (S : BlkScope X scope N k idx) (hc : X.calm = true) (hi : PI X target iter wi)
    (hg : ∀ fp C s H, PG (cxC X scope N fp C s H) target g) (ho : Own k g) (ht : ∀ fp C s H, PTs (cxC X scope N fp C s H) ifs tt) (he : ∀ fp C s H, PE (cxC X scope N fp C s H) elt te)
    (hs : ∀ x, foldedSetIterable iter X.env x = pure x := by intro _; rfl) : PE X (.ListComp elt [⟨target, iter, ifs, 0⟩] scope pos) (tComp wi k idx g tt te) := by
  intro pins s σ H Q I h
  rw [eval_ListComp]
  refine wpAny_comprehension_free (use := none) rfl hs (closure_eq (S.cells I)) S.kind S.names (thn (hi pins s σ H _ I h) fun v s1 h1 => thn h1 fun itv s2 h2 => ?_)
  obtain ⟨it, fp, tn, J, H2, e, I2, T, st2, f2, w2⟩ := h2
  subst e
  refine comp_block (RR := fun acc C => compPost (model X.prog X.w) X.A X.xe none (EP X pins σ Q) acc C) S hc I2 T st2 f2 (fun C => hg fp C s2 H2) ho (fun C => ht fp C s2 H2) (fun C => he fp C s2 H2) w2 fun D C s' m ys H' hn I' fC hD q => ?_
  refine ⟨m, hn, fun h'' hs'' => ⟨.ref D, _, I'.turned (t' := s'.toks) (fun b o hb e => (hs''.2 b hb).trans e) fC.1 fC.2.1 fC.2.2.2.1 fC.2.2.2.2.1 fC.2.2.2.2.2, rfl, q D hD⟩⟩
theorem ps_setC (k : Nat) (idx : List Nat) {i : Nat} {x : Str} {N : List Str} {elt target iter : Expr} {ifs : List Expr} {pos pos' spos : Pos} {wi : TI} {g : TG} {tt : TT} {te : TE} (hN : X.N.Nodup) (hix : X.N[i]? = some x) (hx : Loc X.env.scope x)
    (S : BlkScope X scope N k idx) (hc : X.calm = true) (hi : PI X target iter wi)
    (hg : ∀ fp C s H, PG (cxC X scope N fp C s H) target g) (ho : Own k g) (ht : ∀ fp C s H, PTs (cxC X scope N fp C s H) ifs tt) (he : ∀ fp C s H, PE (cxC X scope N fp C s H) elt te)
    (hsw : swapsWith (.ListComp elt [⟨target, iter, ifs, 0⟩] scope pos) (some (.Name x pos')) spos.line X.env = pure true := by rfl)
    (hs : ∀ x, foldedSetIterable iter X.env x = pure x := by intro _; rfl) (hfn : X.fn x = true ∨ X.env.scope.names.lookup x = some .local := by first | exact .inl rfl | exact .inr rfl | assumption) :
    PS X (.Assign [.Name x pos'] (.ListComp elt [⟨target, iter, ifs, 0⟩] scope pos) spos) (tAsg (tComp wi k idx g tt te) (gName i)) := by
  intro pins s σ H D I h
  rw [exec_Assign_Name_used _ _ _ _ hsw]
  refine wpAny_bind (wpAny_standAt (wpAny_bind ?_))
  show wpAny _ X.A (do let _ ← comprehension (.ListComp elt [⟨target, iter, ifs, 0⟩] scope pos) scope X.env _ (newList []) false (eval iter X.env) (some (assign (.Name x pos') X.env))) _ _ s
  refine wpAny_bind (wpAny_mono (wpAny_comprehension_free (use := some (assign (.Name x pos') X.env)) (Q := fun _ s' => SP X pins D .next s') rfl hs (closure_eq (S.cells I)) S.kind S.names
    (thn (hi pins s σ H _ I h) fun v s1 h1 => thn h1 fun itv s2 h2 => ?_)) (fun _ s' hq => wpAny_pure (wpAny_pure hq)) fun _ _ e => e)
  obtain ⟨it, fp, tn, J, H2, e, I2, T, st2, f2, w2⟩ := h2
  subst e
  refine comp_block (RR := fun acc C => compPost (model X.prog X.w) X.A X.xe (some (assign (.Name x pos') X.env)) (fun _ s' => SP X pins D .next s') acc C) S hc I2 T st2 f2 (fun C => hg fp C s2 H2) ho (fun C => ht fp C s2 H2) (fun C => he fp C s2 H2) w2 fun D' C s' m ys H' hn I' fC hD q => ?_
  show wpAny _ X.A (assign (.Name x pos') X.env (.ref D')) _ _ s'
  refine wpAny_assign_Name (store_ok2 I' hN hix hx (show RelV (.ref D') (.ref D') from rfl) (fun s3 I3 ⟨a, sb, ha⟩ => ?_) hfn)
  have hCa : C ≠ a := by
    rcases ha with z | z
    · rw [z]; exact fC.2.1
    · exact (fC.2.2.2.2.1 x a z).symm
  refine ⟨m, hn.sameBut sb hCa, fun h'' hs'' => ⟨_, _, I3.turned (t' := s3.toks) (fun b o hb e => (hs''.2 b hb).trans e) fC.1 fC.2.1 fC.2.2.2.1 fC.2.2.2.2.1 fC.2.2.2.2.2, q D' hD⟩⟩
end
theorem comp_list {K : PySem.W.Frag} {a : Addr} {xs : List V} {σ₀ : St} {g : TG} {tt : TT} {te : TE} {R : List V → Hp → Prop} {H : Hp} (Pv : Nat → List V → Hp → Prop) (h0 : Pv 0 [] H) (hz : xs.length ≤ sizeLine)
    (hl : ∀ i ys H, i ≤ xs.length → Pv i ys H → SqL K H a xs ∧ ys.length ≤ i)
    (hs : ∀ i x ys H, xs[i]? = some x → Pv i ys H → g x σ₀ H fun σ2 H2 => tt σ2 H2 fun b H3 => if b = true then te σ2 H3 fun y H4 => Pv (i + 1) (ys ++ [y]) H4 else Pv (i + 1) ys H3)
    (hd : ∀ ys H, Pv xs.length ys H → R ys H) : tCompW (Itl K a) σ₀ g tt te R H := by
  refine ⟨fun i m ys H => m = xs.length - i ∧ i ≤ xs.length ∧ Pv i ys H, ⟨xs.length, by simp, Nat.zero_le _, h0⟩, ?_⟩
  rintro i m ys H ⟨rfl, hi, p⟩
  obtain ⟨q, ql⟩ := hl i ys H hi p
  refine ⟨by omega, ?_⟩
  by_cases hlt : i < xs.length
  · refine .inr ⟨⟨xs, xs[i], q, by simp [hlt]⟩, Pv (i + 1), fun ys' H' p' => ⟨xs.length - (i + 1), by omega, rfl, hlt, p'⟩, fun x H' y => ?_⟩
    obtain ⟨e, y⟩ := y
    subst e
    exact hs i x ys _ (y xs q) p
  · have e : i = xs.length := by omega
    subst e
    exact .inl ⟨⟨xs, q, Nat.le_refl _⟩, hd ys H p⟩
theorem comp_range {lo : Int} {n : Nat} {σ₀ : St} {g : TG} {tt : TT} {te : TE} {R : List V → Hp → Prop} {H : Hp} (Pv : Nat → List V → Hp → Prop) (h0 : Pv 0 [] H) (hz : n ≤ sizeLine)
    (hl : ∀ i ys H, i ≤ n → Pv i ys H → ys.length ≤ i)
    (hs : ∀ i ys H, i < n → Pv i ys H → g (.int (lo + i)) σ₀ H fun σ2 H2 => tt σ2 H2 fun b H3 => if b = true then te σ2 H3 fun y H4 => Pv (i + 1) (ys ++ [y]) H4 else Pv (i + 1) ys H3)
    (hd : ∀ ys H, Pv n ys H → R ys H) : tCompW (Itr lo n) σ₀ g tt te R H := by
  refine ⟨fun i m ys H => m = n - i ∧ i ≤ n ∧ Pv i ys H, ⟨n, by simp, Nat.zero_le _, h0⟩, ?_⟩
  rintro i m ys H ⟨rfl, hi, p⟩
  have ql := hl i ys H hi p
  refine ⟨by omega, ?_⟩
  by_cases hlt : i < n
  · refine .inr ⟨hlt, Pv (i + 1), fun ys' H' p' => ⟨n - (i + 1), by omega, rfl, hlt, p'⟩, fun x H' y => ?_⟩
    obtain ⟨e, y⟩ := y
    subst e y
    exact hs i ys _ hlt p
  · have e : i = n := by omega
    subst e
    exact .inl ⟨Nat.le_refl _, hd ys H p⟩
end L2
namespace L2
open PySem PySem.Spec PyProof.Rows
theorem bt_int : bootBuiltins "int" = some (.type "int") := by decide +kernel
theorem bt_bool : bootBuiltins "bool" = some (.type "bool") := by decide +kernel
theorem bt_str : bootBuiltins "str" = some (.type "str") := by decide +kernel
theorem bt_list : bootBuiltins "list" = some (.type "list") := by decide +kernel
theorem bt_tuple : bootBuiltins "tuple" = some (.type "tuple") := by decide +kernel
theorem bt_len : bootBuiltins "len" = some (.builtin "len") := by decide +kernel
theorem bt_abs : bootBuiltins "abs" = some (.builtin "abs") := by decide +kernel
theorem bt_max : bootBuiltins "max" = some (.builtin "max") := by decide +kernel
theorem bt_min : bootBuiltins "min" = some (.builtin "min") := by decide +kernel
theorem bt_all : bootBuiltins "all" = some (.builtin "all") := by decide +kernel
theorem bt_sorted : bootBuiltins "sorted" = some (.builtin "sorted") := by decide +kernel
theorem bt_isinstance : bootBuiltins "isinstance" = some (.builtin "isinstance") := by decide +kernel
section
variable {X : Cx}
def rAddG : R2 := fun x y H Q => rI0 (fun i j => .int (i + j)) x y H Q ∨ rCat x y H Q
theorem op_addG : OpR X (binaryOp .Add) rAddG := op_add.or op_cat
def rMulG : R2 := fun x y H Q => rI CMul (fun i j => .int (i * j)) x y H Q ∨ rRep x y H Q
theorem op_mulG : OpR X (binaryOp .Mult) rMulG := op_mul.or op_rep
def rSlG (K : PySem.W.Frag) : V → Option Int → Option Int → Hp → VK → Prop := fun x lo hi H Q => rSlL K x lo hi H Q ∨ rSlT K x lo hi H Q
theorem sl_G : SlR X (rSlG X.K) := sl_list.or sl_tup
def EqN (K : PySem.W.Frag) (H : Hp) : Nat → V → V → Bool → Prop
  | 0, x, y, b => flatV x = true ∧ flatV y = true ∧ b = eqV x y
  | n + 1, x, y, b => (flatV x = true ∧ flatV y = true ∧ b = eqV x y) ∨
    ∃ (p q : Addr) (xs ys : List V) (e : Nat → Bool), x = .ref p ∧ y = .ref q ∧ ((SqL K H p xs ∧ SqL K H q ys) ∨ (SqT K H p xs ∧ SqT K H q ys)) ∧
      (∀ (j : Nat) u v, xs[j]? = some u → ys[j]? = some v → EqN K H n u v (e j)) ∧ b = (xs.length == ys.length && (List.range xs.length).all e)
theorem eqV_refl {x : V} (h : flatV x = true) : eqV x x = true := by
  cases x with
  | non => rfl
  | bl b => cases b <;> rfl
  | int i => exact beq_self_eq_true i
  | str z => exact beq_self_eq_true z
  | _ => exact absurd (show false = true from h) Bool.false_ne_true
theorem eqN_refl {pins : List (Addr × Obj)} {σ : St} {H : Hp} {s : Shared} (I : Inv X pins σ H s) : ∀ {n : Nat} {x : V} {b : Bool}, EqN X.K H n x x b → b = true
  | 0, x, b, ⟨h, _, e⟩ => by rw [e]; exact eqV_refl h
  | n + 1, x, b, h => by
    rcases h with ⟨h, _, e⟩ | ⟨p, q, xs, ys, e, e1, e2, hs, he, eb⟩
    · rw [e]; exact eqV_refl h
    · subst e1
      cases e2
      have exy : xs = ys := by
        rcases hs with ⟨h1, h2⟩ | ⟨h1, h2⟩
        · exact I.list_inj h1 h2
        · exact I.tuple_inj h1 h2
      subst exy
      rw [eb, beq_self_eq_true, Bool.true_and, List.all_eq_true]
      intro j hj
      have hj' : j < xs.length := List.mem_range.mp hj
      exact eqN_refl I (he j xs[j] xs[j] (List.getElem?_eq_getElem hj') (List.getElem?_eq_getElem hj'))
theorem eqN_at {pins : List (Addr × Obj)} {σ : St} {H : Hp} {s : Shared} (I : Inv X pins σ H s) : ∀ {n : Nat} {A : Around} {x y : V} {u v : Value} {b : Bool}, A.units + n < cLine → RelV x u → RelV y v → EqN X.K H n x y b → SeqAt.EqAt A s u v b
  | 0, A, x, y, u, v, b, _, rx, ry, ⟨h1, h2, e⟩ => by rw [e]; exact eqAt_V rx ry h1 h2
  | n + 1, A, x, y, u, v, b, hu, rx, ry, h => by
    rcases id h with ⟨h1, h2, e⟩ | ⟨p, q, xs, ys, e, e1, e2, hs, he, eb⟩
    · rw [e]; exact eqAt_V rx ry h1 h2
    · subst e1 e2
      cases rx
      cases ry
      by_cases hpq : p = q
      · subst hpq
        rw [eqN_refl I h]
        exact SeqAt.EqAt.same _
      · refine SeqAt.EqAt.of_refs hpq ?_
        have items : ∀ {us vs : List Value}, Vals xs us → Vals ys vs → ∀ j (h1 : j < us.toArray.size) (h2 : j < vs.toArray.size), SeqAt.EqAt A.in1 s us.toArray[j] vs.toArray[j] (e j) := fun {us vs} r1 r2 j h1 h2 => by
          have l1 := r1.length
          have l2 := r2.length
          rw [List.size_toArray] at h1 h2
          have g1 : xs[j]? = some xs[j] := List.getElem?_eq_getElem (by omega)
          have g2 : ys[j]? = some ys[j] := List.getElem?_eq_getElem (by omega)
          obtain ⟨u', eu, ru⟩ := r1.get g1
          obtain ⟨v', ev, rv⟩ := r2.get g2
          have eu' : us.toArray[j] = u' := by
            rw [List.getElem_toArray]
            exact Option.some.inj ((List.getElem?_eq_getElem h1).symm.trans eu)
          have ev' : vs.toArray[j] = v' := by
            rw [List.getElem_toArray]
            exact Option.some.inj ((List.getElem?_eq_getElem h2).symm.trans ev)
          rw [eu', ev']
          exact eqN_at I (n := n) (by show A.units + 1 + n < cLine; omega) ru rv (he j _ _ g1 g2)
        rcases hs with ⟨h1, h2⟩ | ⟨h1, h2⟩
        · obtain ⟨us, r1, p1, _⟩ := I.list h1
          obtain ⟨vs, r2, p2, _⟩ := I.list h2
          have l1 := r1.length
          have l2 := r2.length
          by_cases hl : xs.length = ys.length
          · rw [eb, hl, beq_self_eq_true, Bool.true_and, ← hl, show xs.length = us.toArray.size by rw [List.size_toArray]; exact l1]
            exact SeqAt.RcAt.lists p1.isList p2.isList (by rw [List.size_toArray, List.size_toArray]; omega) (by omega) (items r1 r2)
          · rw [eb, show (xs.length == ys.length) = false by simpa using hl, Bool.false_and]
            exact SeqAt.RcAt.lists_lengths p1.isList p2.isList (by rw [List.size_toArray, List.size_toArray]; simp; omega) (by omega)
        · obtain ⟨us, r1, p1, _⟩ := I.tuple h1
          obtain ⟨vs, r2, p2, _⟩ := I.tuple h2
          have l1 := r1.length
          have l2 := r2.length
          have q := SeqAt.RcAt.tuples (s := s) (A := A) (l := p) (b := q) (e := e) p1 p2 (by omega) (items r1 r2)
          rw [List.size_toArray, List.size_toArray, ← l1, ← l2] at q
          by_cases hl : xs.length = ys.length
          · rw [eb, hl, beq_self_eq_true, Bool.true_and]
            rw [hl, Nat.min_self, beq_self_eq_true, Bool.and_true] at q
            exact q
          · have hb : (xs.length == ys.length) = false := by simpa using hl
            rw [eb, hb, Bool.false_and]
            rw [hb, Bool.and_false] at q
            exact q
def rEqG (K : PySem.W.Frag) : R2 := fun x y H Q => ∃ b, EqN K H 8 x y b ∧ Q (.bl b) H
def rNeG (K : PySem.W.Frag) : R2 := fun x y H Q => ∃ b, EqN K H 8 x y b ∧ Q (.bl (!b)) H
theorem eqN_items {pins : List (Addr × Obj)} {σ : St} {H : Hp} {s : Shared} {n : Nat} {A : Around} {xs ys : List V} {us vs : List Value} {e : Nat → Bool} (I : Inv X pins σ H s) (hu : A.units + 1 + n < cLine)
    (he : ∀ (j : Nat) u v, xs[j]? = some u → ys[j]? = some v → EqN X.K H n u v (e j)) (r1 : Vals xs us) (r2 : Vals ys vs) : ∀ j (h1 : j < us.toArray.size) (h2 : j < vs.toArray.size), SeqAt.EqAt A.in1 s us.toArray[j] vs.toArray[j] (e j) := fun j h1 h2 => by
  have l1 := r1.length
  have l2 := r2.length
  rw [List.size_toArray] at h1 h2
  have g1 : xs[j]? = some xs[j] := List.getElem?_eq_getElem (by omega)
  have g2 : ys[j]? = some ys[j] := List.getElem?_eq_getElem (by omega)
  obtain ⟨u', eu, ru⟩ := r1.get g1
  obtain ⟨v', ev, rv⟩ := r2.get g2
  have eu' : us.toArray[j] = u' := by
    rw [List.getElem_toArray]
    exact Option.some.inj ((List.getElem?_eq_getElem h1).symm.trans eu)
  have ev' : vs.toArray[j] = v' := by
    rw [List.getElem_toArray]
    exact Option.some.inj ((List.getElem?_eq_getElem h2).symm.trans ev)
  rw [eu', ev']
  exact eqN_at I (n := n) (by show A.units + 1 + n < cLine; omega) ru rv (he j _ _ g1 g2)
theorem rcAt_V {A : Around} {s : Shared} {y x : V} {u v : Value} (ry : RelV y u) (rx : RelV x v) (fy : flatV y = true) (fx : flatV x = true) : SeqAt.RcAt A s u v (eqV y x) := by
  cases y with
  | non =>
    cases ry
    cases x with
    | non => cases rx; exact SeqAt.RcAt.none_none
    | bl b => cases rx; exact SeqAt.RcAt.none_bool b
    | int b => obtain ⟨t, rfl⟩ := rx; exact SeqAt.RcAt.none_int b t
    | str b => obtain ⟨t, rfl⟩ := rx; exact SeqAt.RcAt.none_str b t
    | _ => exact absurd (show false = true from fx) Bool.false_ne_true
  | bl a =>
    cases ry
    cases x with
    | non => cases rx; exact SeqAt.RcAt.bool_none a
    | bl b => cases rx; exact SeqAt.RcAt.bool_bool a b
    | int b => obtain ⟨t, rfl⟩ := rx; exact SeqAt.RcAt.bool_int a b t
    | str b => obtain ⟨t, rfl⟩ := rx; exact SeqAt.RcAt.bool_str a b t
    | _ => exact absurd (show false = true from fx) Bool.false_ne_true
  | int a =>
    obtain ⟨t', rfl⟩ := ry
    cases x with
    | non => cases rx; exact SeqAt.RcAt.int_none a t'
    | bl b => cases rx; exact SeqAt.RcAt.int_bool a t' b
    | int b => obtain ⟨t, rfl⟩ := rx; exact SeqAt.RcAt.int_int a t' b t
    | str b => obtain ⟨t, rfl⟩ := rx; exact SeqAt.RcAt.int_str a t' b t
    | _ => exact absurd (show false = true from fx) Bool.false_ne_true
  | str a =>
    obtain ⟨t', rfl⟩ := ry
    cases x with
    | non => cases rx; exact SeqAt.RcAt.str_none a t'
    | bl b => cases rx; exact SeqAt.RcAt.str_bool a t' b
    | int b => obtain ⟨t, rfl⟩ := rx; exact SeqAt.RcAt.str_int a t' b t
    | str b => obtain ⟨t, rfl⟩ := rx; exact SeqAt.RcAt.str_str a t' b t
    | _ => exact absurd (show false = true from fx) Bool.false_ne_true
  | _ => exact absurd (show false = true from fy) Bool.false_ne_true
theorem rcNeAt_V {A : Around} {s : Shared} {y x : V} {u v : Value} (ry : RelV y u) (rx : RelV x v) (fy : flatV y = true) (fx : flatV x = true) : SeqAt.RcNeAt A s u v (!eqV y x) := by
  cases y with
  | non =>
    cases ry
    cases x with
    | non => cases rx; exact SeqAt.RcNeAt.none_none
    | bl b => cases rx; exact SeqAt.RcNeAt.none_bool b
    | int b => obtain ⟨t, rfl⟩ := rx; exact SeqAt.RcNeAt.none_int b t
    | str b => obtain ⟨t, rfl⟩ := rx; exact SeqAt.RcNeAt.none_str b t
    | _ => exact absurd (show false = true from fx) Bool.false_ne_true
  | bl a =>
    cases ry
    cases x with
    | non => cases rx; exact SeqAt.RcNeAt.bool_none a
    | bl b => cases rx; exact SeqAt.RcNeAt.bool_bool a b
    | int b => obtain ⟨t, rfl⟩ := rx; exact SeqAt.RcNeAt.bool_int a b t
    | str b => obtain ⟨t, rfl⟩ := rx; exact SeqAt.RcNeAt.bool_str a b t
    | _ => exact absurd (show false = true from fx) Bool.false_ne_true
  | int a =>
    obtain ⟨t', rfl⟩ := ry
    cases x with
    | non => cases rx; exact SeqAt.RcNeAt.int_none a t'
    | bl b => cases rx; exact SeqAt.RcNeAt.int_bool a t' b
    | int b => obtain ⟨t, rfl⟩ := rx; exact SeqAt.RcNeAt.int_int a t' b t
    | str b => obtain ⟨t, rfl⟩ := rx; exact SeqAt.RcNeAt.int_str a t' b t
    | _ => exact absurd (show false = true from fx) Bool.false_ne_true
  | str a =>
    obtain ⟨t', rfl⟩ := ry
    cases x with
    | non => cases rx; exact SeqAt.RcNeAt.str_none a t'
    | bl b => cases rx; exact SeqAt.RcNeAt.str_bool a t' b
    | int b => obtain ⟨t, rfl⟩ := rx; exact SeqAt.RcNeAt.str_int a t' b t
    | str b => obtain ⟨t, rfl⟩ := rx; exact SeqAt.RcNeAt.str_str a t' b t
    | _ => exact absurd (show false = true from fx) Bool.false_ne_true
  | _ => exact absurd (show false = true from fy) Bool.false_ne_true
theorem op_eqG (hu : X.A.units + 9 < cLine) : OpR X (compareOp .Eq) (rEqG X.K) := by
  intro pins s σ H x y v u Q I rx ry h
  obtain ⟨b, h, q⟩ := h
  have fin : EP X pins σ Q (.bool b) s := ⟨.bl b, H, I, rfl, q⟩
  rcases h with ⟨h1, h2, e⟩ | ⟨p, l, xs, ys, e, e1, e2, hs, he, eb⟩
  · exact rcAt_V rx ry h1 h2 X.prog X.w X.xe _ (by rw [← e]; exact fin)
  · subst e1 e2
    cases rx
    cases ry
    rcases hs with ⟨h1, h2⟩ | ⟨h1, h2⟩
    · obtain ⟨us, r1, p1, _⟩ := I.list h1
      obtain ⟨vs, r2, p2, _⟩ := I.list h2
      have l1 := r1.length
      have l2 := r2.length
      by_cases hl : xs.length = ys.length
      · refine SeqAt.RcAt.lists p1.isList p2.isList (by rw [List.size_toArray, List.size_toArray]; omega) (by omega) (eqN_items I (n := 7) (A := X.A) (by omega) he r1 r2) X.prog X.w X.xe _ ?_
        rw [List.size_toArray, ← l1]
        rw [eb, hl, beq_self_eq_true, Bool.true_and, ← hl] at fin
        exact fin
      · refine SeqAt.RcAt.lists_lengths p1.isList p2.isList (by rw [List.size_toArray, List.size_toArray]; simp; omega) (by omega) X.prog X.w X.xe _ ?_
        rw [eb, show (xs.length == ys.length) = false by simpa using hl, Bool.false_and] at fin
        exact fin
    · obtain ⟨us, r1, p1, _⟩ := I.tuple h1
      obtain ⟨vs, r2, p2, _⟩ := I.tuple h2
      have l1 := r1.length
      have l2 := r2.length
      refine SeqAt.RcAt.tuples p1 p2 (by omega) (eqN_items I (n := 7) (A := X.A) (by omega) he r1 r2) X.prog X.w X.xe _ ?_
      rw [List.size_toArray, List.size_toArray, ← l1, ← l2]
      rw [eb] at fin
      by_cases hl : xs.length = ys.length
      · rw [hl, beq_self_eq_true, Bool.true_and] at fin
        rw [hl, Nat.min_self, beq_self_eq_true, Bool.and_true]
        exact fin
      · have hb : (xs.length == ys.length) = false := by simpa using hl
        rw [hb, Bool.false_and] at fin
        rw [hb, Bool.and_false]
        exact fin
theorem op_neG (hu : X.A.units + 9 < cLine) : OpR X (compareOp .NotEq) (rNeG X.K) := by
  intro pins s σ H x y v u Q I rx ry h
  obtain ⟨b, h, q⟩ := h
  have fin : EP X pins σ Q (.bool (!b)) s := ⟨.bl (!b), H, I, rfl, q⟩
  rcases h with ⟨h1, h2, e⟩ | ⟨p, l, xs, ys, e, e1, e2, hs, he, eb⟩
  · exact rcNeAt_V rx ry h1 h2 X.prog X.w X.xe _ (by rw [← e]; exact fin)
  · subst e1 e2
    cases rx
    cases ry
    rcases hs with ⟨h1, h2⟩ | ⟨h1, h2⟩
    · obtain ⟨us, r1, p1, _⟩ := I.list h1
      obtain ⟨vs, r2, p2, _⟩ := I.list h2
      have l1 := r1.length
      have l2 := r2.length
      by_cases hl : xs.length = ys.length
      · refine SeqAt.RcNeAt.lists p1.isList p2.isList (by rw [List.size_toArray, List.size_toArray]; omega) (by omega) (eqN_items I (n := 7) (A := X.A) (by omega) he r1 r2) X.prog X.w X.xe _ ?_
        rw [List.size_toArray, ← l1]
        rw [eb, hl, beq_self_eq_true, Bool.true_and, ← hl] at fin
        exact fin
      · refine SeqAt.RcNeAt.lists_lengths p1.isList p2.isList (by rw [List.size_toArray, List.size_toArray]; simp; omega) (by omega) X.prog X.w X.xe _ ?_
        rw [eb, show (xs.length == ys.length) = false by simpa using hl, Bool.false_and] at fin
        exact fin
    · obtain ⟨us, r1, p1, _⟩ := I.tuple h1
      obtain ⟨vs, r2, p2, _⟩ := I.tuple h2
      have l1 := r1.length
      have l2 := r2.length
      refine SeqAt.RcNeAt.tuples p1 p2 (by omega) (eqN_items I (n := 7) (A := X.A) (by omega) he r1 r2) X.prog X.w X.xe _ ?_
      rw [List.size_toArray, List.size_toArray, ← l1, ← l2]
      rw [eb] at fin
      by_cases hl : xs.length = ys.length
      · rw [hl, beq_self_eq_true, Bool.true_and] at fin
        rw [hl, Nat.min_self, beq_self_eq_true, Bool.and_true]
        exact fin
      · have hb : (xs.length == ys.length) = false := by simpa using hl
        rw [hb, Bool.false_and] at fin
        rw [hb, Bool.and_false]
        exact fin
def IsI (K : PySem.W.Frag) (H : Hp) (x : V) (c : V) (b : Bool) : Prop := ∃ t, TyOf K H x t ∧ ((∃ T, c = .ty T ∧ PySem.W.kitOne K t (.type T) = some b) ∨ (∃ C, c = .ref C ∧ PySem.W.kitOne K t (.ref C) = some b))
theorem call_isi : CallR X (.builtin "isinstance") (fun xs H Q => ∃ x c b, xs = [x, c] ∧ IsI X.K H x c b ∧ Q (.bl b) H) := by
  intro pins s σ H xs us Q I r h
  obtain ⟨x, c, b, rfl, ⟨t, ty, hc⟩, q⟩ := h
  obtain ⟨u, w', rfl, rx, ry⟩ := vals2 r
  rcases hc with ⟨T, rfl, e⟩ | ⟨C, rfl, e⟩
  · cases ry
    exact isinst_ok I rx ty e fun tk => ⟨.bl b, H, I.tok _, rfl, q⟩
  · cases ry
    exact isinst_ok I rx ty e fun tk => ⟨.bl b, H, I.tok _, rfl, q⟩
end
end L2
namespace L2
open PySem PySem.Spec PyProof.Rows
section
variable {X : Cx}
def gIx (K : PySem.W.Frag) : V → V → Hp → VK → Prop := fun x y H Q => ∃ p xs i v, x = .ref p ∧ y = .int i ∧ SqL K H p xs ∧ 0 ≤ i ∧ xs[i.toNat]? = some v ∧ Q v H
theorem get_ix : PGet X (gIx X.K) := by
  intro pins s σ H x y v u Q I rx ry h
  obtain ⟨p, xs, i, z, rfl, rfl, hq, h0, he, q⟩ := h
  cases rx
  obtain ⟨t, rfl⟩ := ry
  obtain ⟨its, r, pl, hz⟩ := I.list hq
  obtain ⟨w, ew, rw'⟩ := r.get he
  have hl := r.length
  have hn := line63
  have hi : i.toNat < xs.length := (List.getElem?_eq_some_iff.mp he).1
  exact wpAny_getItem_list pl.isList h0 (by omega) (by simpa using ew) ⟨z, H, I, rw', q⟩
theorem hu9 {k : Nat} {A : Around} (hr : Room k A) : A.units + 9 < cLine := by have := hr.un; omega
end
section
variable {σ : St} {H : Hp} {nx bk ct : St → Hp → Prop} {rt : VK} {Q : VK} {QT : Bool → Hp → Prop} {QA : List V → Hp → Prop} {QG : St → Hp → Prop}
theorem rd_start {t : TS} {D : Ends} {σ σ' : St} (e : σ' = σ) (h : t D σ H) : t D σ' H := e ▸ h
theorem rd_seq {t u : TS} (h : t ⟨u ⟨nx, rt, bk, ct⟩, rt, bk, ct⟩ σ H) : tSeq t u ⟨nx, rt, bk, ct⟩ σ H := h
theorem rd_next (h : nx σ H) : tNext ⟨nx, rt, bk, ct⟩ σ H := h
theorem rd_asg {te : TE} {g : TG} (h : te σ H fun x H1 => g x σ H1 nx) : tAsg te g ⟨nx, rt, bk, ct⟩ σ H := h
theorem rd_drop {te : TE} (h : te σ H fun _ H1 => nx σ H1) : tDrop te ⟨nx, rt, bk, ct⟩ σ H := h
theorem rd_ret {te : TE} (h : te σ H rt) : tRet te ⟨nx, rt, bk, ct⟩ σ H := h
theorem rd_retN (h : rt .non H) : tRetN ⟨nx, rt, bk, ct⟩ σ H := h
theorem rd_break (h : bk σ H) : tBreak ⟨nx, rt, bk, ct⟩ σ H := h
theorem rd_cont (h : ct σ H) : tCont ⟨nx, rt, bk, ct⟩ σ H := h
theorem rd_ifS {c : TT} {t u : TS} (h : c σ H fun b H1 => if b = true then t ⟨nx, rt, bk, ct⟩ σ H1 else u ⟨nx, rt, bk, ct⟩ σ H1) : tIfS c t u ⟨nx, rt, bk, ct⟩ σ H := h
theorem rd_par {i j : Nat} {ta : TA} (h : ta σ H fun vs H1 => ∃ v w, vs = [v, w] ∧ nx ((σ.set i (some v)).set j (some w)) H1) : tPar i j ta ⟨nx, rt, bk, ct⟩ σ H := h
theorem rd_aug {i : Nat} {te : TE} {ti : TIp} {x : V} (e : σ[i]? = some (some x)) (h : te σ H fun y H1 => ti x y H1 fun z H2 => nx (σ.set i (some z)) H2) : tAug i te ti ⟨nx, rt, bk, ct⟩ σ H := ⟨x, e, h⟩
theorem rd_augS {to ti te : TE} {tget : V → V → Hp → VK → Prop} {tip : TIp} {tset : TSet} (h : to σ H fun o H1 => ti σ H1 fun i H2 => tget o i H2 fun x H3 => te σ H3 fun y H4 => tip x y H4 fun z H5 => tset o i z H5 fun H6 => nx σ H6) : tAugS to ti te tget tip tset ⟨nx, rt, bk, ct⟩ σ H := h
theorem rd_for {wi : TI} {g : TG} {tb : TS} (h : wi σ H fun J H1 => ∃ W : Nat → Nat → St → Hp → Prop, (∃ m, W 0 m σ H1) ∧ ∀ i m σ H, W i m σ H →
  (J.stop i H ∧ nx σ H) ∨ (J.go i H ∧ ∃ N : St → Hp → Prop, (∀ σ' H', N σ' H' → ∃ m', m' < m ∧ W (i + 1) m' σ' H') ∧ ∀ x H', J.yld i H x H' → g x σ H' fun σ2 H2 => tb ⟨N, rt, nx, N⟩ σ2 H2)) : tFor wi g tb ⟨nx, rt, bk, ct⟩ σ H := h
theorem rd_gname {i : Nat} {v : V} {σ' : St} (e : σ.set i (some v) = σ') (h : QG σ' H) : gName i v σ H QG := by unfold gName; rw [e]; exact h
theorem rd_gtup {K : PySem.W.Frag} {n : Nat} {t : TGs} {a : Addr} {xs : List V} (h1 : SqT K H a xs) (h2 : xs.length = n) (h : t xs σ H QG) : gTup K n t (.ref a) σ H QG := ⟨a, xs, rfl, h1, h2, h⟩
theorem rd_gnil (h : QG σ H) : gNil [] σ H QG := ⟨rfl, h⟩
theorem rd_gcons {t : TG} {u : TGs} {v : V} {r : List V} (h : t v σ H fun σ' H' => u r σ' H' QG) : gCons t u (v :: r) σ H QG := ⟨v, r, rfl, h⟩
theorem rd_gsub {to ti : TE} {t : TSet} {v : V} (h : to σ H fun o H1 => ti σ H1 fun i H2 => t o i v H2 fun H3 => QG σ H3) : gSub to ti t v σ H QG := h
theorem rd_setL {p : Addr} {xs : List V} {k : Int} {v : V} {j : Nat} {QH : Hp → Prop} (h1 : H p = some (.lst xs)) (h2 : ixN xs.length k = some j) (h : QH (upd H p (.lst (xs.set j v)))) : rSetL (.ref p) (.int k) v H QH := ⟨p, xs, k, j, rfl, rfl, h1, h2, h⟩
theorem rd_gIx {K : PySem.W.Frag} {p : Addr} {xs : List V} {i : Int} {v : V} (h1 : SqL K H p xs) (h0 : 0 ≤ i) (h2 : xs[i.toNat]? = some v) (h : Q v H) : gIx K (.ref p) (.int i) H Q := ⟨p, xs, i, v, rfl, rfl, h1, h0, h2, h⟩
theorem rd_ipI {f : Int → Int → Int} {i j : Int} (h : Q (.int (f i j)) H) : ipI f (.int i) (.int j) H Q := ⟨i, j, rfl, rfl, h⟩
-- expressions
theorem rd_var {i : Nat} {v : V} (e : σ[i]? = some (some v)) (h : Q v H) : tVar i σ H Q := ⟨v, e, h⟩
theorem rd_c {v : V} (h : Q v H) : tC v σ H Q := h
theorem rd_op {r : R2} {ta tb : TE} (h : ta σ H fun x H1 => tb σ H1 fun y H2 => r x y H2 Q) : tOp r ta tb σ H Q := h
theorem rd_un {r : V → Hp → VK → Prop} {ta : TE} (h : ta σ H fun x H1 => r x H1 Q) : tUn r ta σ H Q := h
theorem rd_rI0 {g : Int → Int → V} {i j : Int} (h : Q (g i j) H) : rI0 g (.int i) (.int j) H Q := ⟨i, j, rfl, rfl, h⟩
theorem rd_rI {C : Int → Int → Prop} {g : Int → Int → V} {i j : Int} (c : C i j) (h : Q (g i j) H) : rI C g (.int i) (.int j) H Q := ⟨i, j, rfl, rfl, c, h⟩
theorem rd_rU {g : Int → V} {i : Int} (h : Q (g i) H) : rU g (.int i) H Q := ⟨i, rfl, h⟩
theorem rd_addI {i j : Int} (h : Q (.int (i + j)) H) : rAddG (.int i) (.int j) H Q := .inl ⟨i, j, rfl, rfl, h⟩
theorem rd_addL {l b : Addr} {xs zs : List V} (h1 : H l = some (.lst xs)) (h2 : H b = some (.lst zs)) (hz : xs.length + zs.length ≤ sizeLine) (h : ∀ p, H p = none → Q (.ref p) (upd H p (.lst (xs ++ zs)))) : rAddG (.ref l) (.ref b) H Q := .inr ⟨l, b, xs, zs, rfl, rfl, h1, h2, hz, h⟩
theorem rd_mulI {i j : Int} (c : CMul i j) (h : Q (.int (i * j)) H) : rMulG (.int i) (.int j) H Q := .inl ⟨i, j, rfl, rfl, c, h⟩
theorem rd_eqF {K : PySem.W.Frag} {x y : V} (h1 : flatV x = true) (h2 : flatV y = true) (h : Q (.bl (eqV x y)) H) : rEqG K x y H Q := ⟨_, .inl ⟨h1, h2, rfl⟩, h⟩
theorem rd_neF {K : PySem.W.Frag} {x y : V} (h1 : flatV x = true) (h2 : flatV y = true) (h : Q (.bl (!eqV x y)) H) : rNeG K x y H Q := ⟨_, .inl ⟨h1, h2, rfl⟩, h⟩
theorem rd_ixL {K : PySem.W.Frag} {p : Addr} {xs : List V} {i : Int} {v : V} (h1 : SqL K H p xs) (h2 : atI xs i = some v) (h : Q v H) : rIx K (.ref p) (.int i) H Q := .inl ⟨p, xs, i, v, rfl, rfl, h1, h2, h⟩
theorem rd_ixT {K : PySem.W.Frag} {p : Addr} {xs : List V} {i : Int} {v : V} (h1 : SqT K H p xs) (h2 : atI xs i = some v) (h : Q v H) : rIx K (.ref p) (.int i) H Q := .inr (.inl ⟨p, xs, i, v, rfl, rfl, h1, h2, h⟩)
theorem rd_sl {r : V → Option Int → Option Int → Hp → VK → Prop} {te : TE} {tl th : TO} (h : te σ H fun x H1 => tl σ H1 fun l H2 => th σ H2 fun u H3 => r x l u H3 Q) : tSl r te tl th σ H Q := h
theorem rd_nopart {QO : Option Int → Hp → Prop} (h : QO none H) : tNoPart σ H QO := h
theorem rd_part {t : TE} {QO : Option Int → Hp → Prop} (h : t σ H fun x H1 => ∃ i, x = .int i ∧ QO (some i) H1) : tPart t σ H QO := h
theorem rd_slL {K : PySem.W.Frag} {a : Addr} {xs : List V} {lo hi : Option Int} (h1 : SqL K H a xs) (h : ∀ p, H p = none → Q (.ref p) (upd H p (.lst (cutV xs lo hi)))) : rSlG K (.ref a) lo hi H Q := .inl ⟨a, xs, rfl, h1, h⟩
theorem rd_andV {ta tb : TE} (h : ta σ H fun x H1 => ∃ c, x = .bl c ∧ if c = true then tb σ H1 Q else Q (.bl false) H1) : tAndV ta tb σ H Q := h
theorem rd_orV {ta tb : TE} (h : ta σ H fun x H1 => ∃ c, x = .bl c ∧ if c = true then Q (.bl true) H1 else tb σ H1 Q) : tOrV ta tb σ H Q := h
theorem rd_notV {ta : TE} (h : ta σ H fun x H1 => ∃ c, x = .bl c ∧ Q (.bl (!c)) H1) : tNotV ta σ H Q := h
theorem rd_ifE {t : TT} {ta tb : TE} (h : t σ H fun c H1 => if c = true then ta σ H1 Q else tb σ H1 Q) : tIf t ta tb σ H Q := h
theorem rd_chain {r r' : R2} {ta tb tc : TE} (h : ta σ H fun x H1 => tb σ H1 fun y H2 => r x y H2 fun z H3 => ∃ k, z = .bl k ∧ (if k = true then tc σ H3 fun w' H4 => r' y w' H4 Q else Q (.bl false) H3)) : tChain r r' ta tb tc σ H Q := h
-- tests
theorem rd_test {t : TE} (h : t σ H fun x H' => ∃ k, x = .bl k ∧ QT k H') : tTest t σ H QT := h
theorem rd_tB {t : TE} (h : t σ H fun x H' => ∃ k, x = .bl k ∧ QT k H') : tB t σ H QT := h
theorem rd_and {t u : TT} (h : t σ H fun c H1 => if c = true then u σ H1 QT else QT false H1) : tAnd t u σ H QT := h
theorem rd_or {t u : TT} (h : t σ H fun c H1 => if c = true then QT true H1 else u σ H1 QT) : tOr t u σ H QT := h
theorem rd_not {t : TT} (h : t σ H fun c H1 => QT (!c) H1) : tNot t σ H QT := h
theorem rd_yes (h : QT true H) : tYes σ H QT := h
theorem rd_bl {b : Bool} {P : Bool → Prop} (h : P b) : ∃ k, V.bl b = V.bl k ∧ P k := ⟨b, rfl, h⟩
theorem rd_int1 {i : Int} {P : Int → Prop} (h : P i) : ∃ k, V.int i = V.int k ∧ P k := ⟨i, rfl, h⟩
theorem rd_l1 {i : Int} {P : Int → Prop} (h : P i) : ∃ k, [V.int i] = [V.int k] ∧ P k := ⟨i, rfl, h⟩
theorem rd_l2 {i j : Int} {P : Int → Int → Prop} (h : P i j) : ∃ k l, [V.int i, V.int j] = [V.int k, V.int l] ∧ P k l := ⟨i, j, rfl, h⟩
theorem rd_bl2 {b : Bool} {P : Bool → Prop} {R : Prop} (h : P b) : R ∨ ∃ k, [V.bl b] = [V.bl k] ∧ P k := .inr ⟨b, rfl, h⟩
theorem rd_nil (h : QA [] H) : tNil σ H QA := h
theorem rd_cons {ta : TE} {tr : TA} (h : ta σ H fun x H1 => tr σ H1 fun xs H2 => QA (x :: xs) H2) : tCons ta tr σ H QA := h
theorem rd_tup {t : TA} (h : t σ H fun xs H1 => xs.length ≤ sizeLine ∧ ∀ p, H1 p = none → Q (.ref p) (upd H1 p (.tup xs))) : tTup t σ H Q := h
theorem rd_lst {t : TA} (h : t σ H fun xs H1 => xs.length ≤ sizeLine ∧ ∀ p, H1 p = none → Q (.ref p) (upd H1 p (.lst xs))) : tLst t σ H Q := h
theorem rd_call {sp : Sp} {E : XK} {t : TA} (h : t σ H fun vs H1 => sp vs H1 Q E) : tCall sp [] E t σ H Q := by
  unfold tCall
  simpa only [List.append_nil] using h
theorem rd_cb {r : List V → Hp → VK → Prop} {t : TA} (h : t σ H fun vs H1 => r vs H1 Q) : tCB r t σ H Q := h
theorem rd_comp {wi : TI} {k : Nat} {idx : List Nat} {g : TG} {tt : TT} {te : TE} (h : wi σ H fun J H1 => tCompW J (cσ k idx σ) g tt te (fun ys H' => ∀ p, H' p = none → Q (.ref p) (upd H' p (.lst ys))) H1) : tComp wi k idx g tt te σ H Q := h
theorem rd_iRng1 {ta : TA} {R : It → Hp → Prop} (h : ta σ H fun vs H1 => ∃ j : Int, vs = [.int j] ∧ -(2 ^ 62) ≤ j ∧ j < 2 ^ 62 ∧ R (Itr 0 j.toNat) H1) : iRng1 ta σ H R := h
theorem rd_iRng2 {ta : TA} {R : It → Hp → Prop} (h : ta σ H fun vs H1 => ∃ i j : Int, vs = [.int i, .int j] ∧ (-(2 ^ 62) ≤ i ∧ i < 2 ^ 62 ∧ -(2 ^ 62) ≤ j ∧ j < 2 ^ 62) ∧ R (Itr i (j - i).toNat) H1) : iRng2 ta σ H R := h
theorem rd_fld {K : PySem.W.Frag} {ta : TE} {f : Str} (h : ta σ H fun x H1 => ∃ a C dx fs v, x = .ref a ∧ H1 a = some (.ins C dx fs) ∧ Cls K C ∧ NoAttr K C f ∧ fs.lookup f = some v ∧ Q v H1) : tFld K ta f σ H Q := h
theorem rd_size {n : Nat} {P : Prop} (h1 : n ≤ sizeLine) (h : P) : n ≤ sizeLine ∧ P := ⟨h1, h⟩
theorem sz_le {n : Nat} (h : n ≤ 16777216) : n ≤ sizeLine := by rw [sizeLine_eq]; exact h
end
section
variable {A B : Prop} {c : Prop} [Decidable c]
theorem rd_dec (h1 : c → A) (h2 : ¬ c → B) : if decide c = true then A else B := by
  by_cases h : c
  · rw [if_pos (decide_eq_true h)]; exact h1 h
  · rw [if_neg (by simpa using h)]; exact h2 h
theorem rd_decN (h1 : ¬ c → A) (h2 : c → B) : if (!decide c) = true then A else B := by
  by_cases h : c
  · rw [if_neg (by simpa using h)]; exact h2 h
  · rw [if_pos (by simpa using h)]; exact h1 h
theorem rd_bool {b : Bool} (h1 : b = true → A) (h2 : b = false → B) : if b = true then A else B := by
  cases b
  · exact iteF (h2 rfl)
  · exact iteT (h1 rfl)
end
def blkOk (sc : Scope) (NX : List Str) (scope : Scope) (N : List Str) (k : Nat) (idx : List Nat) : Bool :=
  scope.names.all (fun y => !(y.2 == .cell)) && scope.names.all (fun y => !(y.2 == .local) || scope.names.lookup y.1 == some .local) &&
  scope.names.all (fun y => !(y.2 == .free) || (sc.names.lookup y.1 == some .cell || sc.names.lookup y.1 == some .free)) &&
  decide N.Nodup && decide (N.length = k + idx.length) && (List.range idx.length).all fun i =>
    match (N.drop k)[i]?, idx[i]? with
    | some x, some j => decide (NX[j]? = some x) && scope.names.lookup x == some .free
    | _, _ => false
theorem blk_sc {X : Cx} {scope : Scope} {N : List Str} {k : Nat} {idx : List Nat} {sc : Scope} {NX : List Str} (hsc : X.env.scope = sc) (hN : X.N = NX) (hk : scope.kind = .function) (h : blkOk sc NX scope N k idx = true) : BlkScope X scope N k idx := by
  unfold blkOk at h
  simp only [Bool.and_eq_true, decide_eq_true_eq] at h
  obtain ⟨⟨⟨⟨⟨h1, h2⟩, h3⟩, h4⟩, h5⟩, h6⟩ := h
  rw [List.all_eq_true] at h1 h2 h3 h6
  refine ⟨hk, fun y hy e => ?_, fun y hy e => ?_, fun y hy e => ?_, h4, h5, fun i x e => ?_⟩
  · have := h1 y hy
    rw [e] at this
    simp at this
  · have := h2 y hy
    rw [e] at this
    simpa using this
  · have := h3 y hy
    rw [e] at this
    show X.env.scope.names.lookup y.1 = _ ∨ X.env.scope.names.lookup y.1 = _
    rw [hsc]
    simpa using this
  · have hi : i < (N.drop k).length := (List.getElem?_eq_some_iff.mp e).1
    have hi2 : i < idx.length := by rw [List.length_drop] at hi; omega
    have q := h6 i (List.mem_range.mpr hi2)
    rw [e, List.getElem?_eq_getElem hi2] at q
    simp only [Bool.and_eq_true, decide_eq_true_eq] at q
    exact ⟨idx[i], List.getElem?_eq_getElem hi2, by rw [hN]; exact q.1, by simpa using q.2⟩
theorem ne_none {H : Hp} {a b : Addr} {o : HO} (h' : H b = none) (h : H a = some o) : a ≠ b := ne_of_none h h'
theorem Same.at {H H' : Hp} {b : Addr} {o : HO} (e : Same H H') (h : H b = some o) : H' b = some o := e b o h
def Keep (p : Addr) (H H' : Hp) : Prop := ∀ b o, H b = some o → b ≠ p → H' b = some o
theorem Keep.at {p : Addr} {H H' : Hp} {b : Addr} {o : HO} (e : Keep p H H') (h : H b = some o) (n : b ≠ p) : H' b = some o := e b o h n
theorem Same.new {H : Hp} {p : Addr} {o : HO} (h : H p = none) : Same H (upd H p o) := fun b u e => by rw [upd_ne (ne_of_none e h)]; exact e
theorem Keep.upd {H : Hp} {p : Addr} {o : HO} : Keep p H (upd H p o) := fun b u e n => by rw [upd_ne n]; exact e
theorem Keep.trans {p : Addr} {H H1 H2 : Hp} (a : Keep p H H1) (b : Keep p H1 H2) : Keep p H H2 := fun c o h n => b c o (a c o h n) n
theorem Same.keep {p : Addr} {H H' : Hp} (a : Same H H') : Keep p H H' := fun c o h _ => a c o h
end L2
namespace L2
open PySem PySem.Spec PyProof.Rows
section
variable {σ : St} {H : Hp} {nx bk ct : St → Hp → Prop} {rt : VK}
theorem rd_seqJ {t u : TS} (J : St → Hp → Prop) (h1 : ∀ N : St → Hp → Prop, (∀ σ' H', J σ' H' → N σ' H') → t ⟨N, rt, bk, ct⟩ σ H) (h2 : ∀ σ' H', J σ' H' → u ⟨nx, rt, bk, ct⟩ σ' H') : tSeq t u ⟨nx, rt, bk, ct⟩ σ H := h1 _ h2
end
theorem comp_pure {K : PySem.W.Frag} {a : Addr} {xs : List V} {σ₀ : St} {g : TG} {tt : TT} {te : TE} {R : List V → Hp → Prop} {H : Hp} (f : V → V) (hS : SqL K H a xs) (hz : xs.length ≤ sizeLine)
    (hs : ∀ x (N : V → Hp → Prop) (N' : Hp → Prop), x ∈ xs → N (f x) H → g x σ₀ H fun σ2 H2 => tt σ2 H2 fun b H3 => if b = true then te σ2 H3 fun y H4 => N y H4 else N' H3)
    (hd : R (xs.map f) H) : tCompW (Itl K a) σ₀ g tt te R H := by
  refine comp_list (fun i ys H' => H' = H ∧ ys = (xs.take i).map f) ⟨rfl, by simp⟩ hz (fun i ys H' hi ⟨e1, e2⟩ => ?_) (fun i x ys H' hx ⟨e1, e2⟩ => ?_) (fun ys H' ⟨e1, e2⟩ => ?_)
  · subst e1 e2
    exact ⟨hS, by simp; omega⟩
  · subst e1 e2
    refine hs x (fun y H4 => H4 = H' ∧ (xs.take i).map f ++ [y] = (xs.take (i + 1)).map f) (fun H3 => H3 = H' ∧ (xs.take i).map f = (xs.take (i + 1)).map f) (List.mem_of_getElem? hx) ⟨rfl, ?_⟩
    rw [List.take_add_one, hx, List.map_append]
    rfl
  · subst e1 e2
    rw [List.take_length]
    exact hd
theorem comp_pureR {lo : Int} {n : Nat} {σ₀ : St} {g : TG} {tt : TT} {te : TE} {R : List V → Hp → Prop} {H : Hp} (f : Nat → V) (hz : n ≤ sizeLine)
    (hs : ∀ i (N : V → Hp → Prop) (N' : Hp → Prop), i < n → N (f i) H → g (.int (lo + i)) σ₀ H fun σ2 H2 => tt σ2 H2 fun b H3 => if b = true then te σ2 H3 fun y H4 => N y H4 else N' H3)
    (hd : R ((List.range n).map f) H) : tCompW (Itr lo n) σ₀ g tt te R H := by
  refine comp_range (fun i ys H' => H' = H ∧ ys = (List.range i).map f) ⟨rfl, by simp⟩ hz (fun i ys H' hi ⟨e1, e2⟩ => ?_) (fun i ys H' hi ⟨e1, e2⟩ => ?_) (fun ys H' ⟨e1, e2⟩ => ?_)
  · subst e1 e2
    simp
  · subst e1 e2
    refine hs i (fun y H4 => H4 = H' ∧ (List.range i).map f ++ [y] = (List.range (i + 1)).map f) (fun H3 => H3 = H' ∧ (List.range i).map f = (List.range (i + 1)).map f) hi ⟨rfl, ?_⟩
    rw [List.range_succ, List.map_append]
    rfl
  · subst e1 e2
    exact hd
theorem pe_gint {X : Cx} {x : Str} {n : Int} {pos : Pos} (hg : Gl X x) (hm : ∃ t, X.mg x = some (.int n t)) (hd : (x == ("__debug__" : Str)) = false := by decide) : PE X (.Name x pos) (tC (.int n)) := by
  obtain ⟨t, hm⟩ := hm
  exact pe_glob (v := .int n) hg hm ⟨t, rfl⟩ hd
section
variable {X : Cx} {K : PySem.W.Frag} {H : Hp} {Q : VK}
def rLen (K : PySem.W.Frag) : List V → Hp → VK → Prop := fun xs H Q => ∃ x n, xs = [x] ∧ LenV K x H n ∧ Q (.int n) H
theorem call_lenG : CallR X (.builtin "len") (rLen X.K) := call_len
theorem rd_lenL {p : Addr} {xs : List V} (h : SqL K H p xs) (q : Q (.int xs.length) H) : rLen K [.ref p] H Q := ⟨_, _, rfl, .inl ⟨_, h, rfl⟩, q⟩
theorem rd_lenT {p : Addr} {xs : List V} (h : SqT K H p xs) (q : Q (.int xs.length) H) : rLen K [.ref p] H Q := ⟨_, _, rfl, .inr ⟨_, h, rfl⟩, q⟩
def rAbs : List V → Hp → VK → Prop := fun xs H Q => ∃ i, xs = [.int i] ∧ Q (.int (if i < 0 then -i else i)) H
theorem call_absG : CallR X (.builtin "abs") rAbs := call_abs
theorem rd_abs {i : Int} (h : Q (.int (if i < 0 then -i else i)) H) : rAbs [.int i] H Q := ⟨i, rfl, h⟩
def rMax : List V → Hp → VK → Prop := fun xs H Q => ∃ i j, xs = [.int i, .int j] ∧ Q (.int (if j > i then j else i)) H
theorem call_maxG (hc : X.calm = true) : CallR X (.builtin "max") rMax := call_max2 hc
theorem rd_max {i j : Int} (h : Q (.int (max i j)) H) : rMax [.int i, .int j] H Q := ⟨i, j, rfl, by
  rw [show (if j > i then j else i) = max i j by split <;> omega]; exact h⟩
def rMin : List V → Hp → VK → Prop := fun xs H Q => ∃ i j, xs = [.int i, .int j] ∧ Q (.int (if j < i then j else i)) H
theorem call_minG (hc : X.calm = true) : CallR X (.builtin "min") rMin := call_min2 hc
theorem rd_min {i j : Int} (h : Q (.int (min i j)) H) : rMin [.int i, .int j] H Q := ⟨i, j, rfl, by
  rw [show (if j < i then j else i) = min i j by split <;> omega]; exact h⟩
def rInt1 : List V → Hp → VK → Prop := fun xs H Q => (∃ i, xs = [.int i] ∧ Q (.int i) H) ∨ ∃ k, xs = [.bl k] ∧ Q (.int (if k then 1 else 0)) H
theorem call_intG : CallR X (.type "int") rInt1 := call_int1
theorem rd_intI {i : Int} (h : Q (.int i) H) : rInt1 [.int i] H Q := .inl ⟨i, rfl, h⟩
theorem rd_intB {b : Bool} (h : Q (.int (if b then 1 else 0)) H) : rInt1 [.bl b] H Q := .inr ⟨b, rfl, h⟩
def rIsi (K : PySem.W.Frag) : List V → Hp → VK → Prop := fun xs H Q => ∃ x c b, xs = [x, c] ∧ IsI K H x c b ∧ Q (.bl b) H
theorem call_isiG : CallR X (.builtin "isinstance") (rIsi X.K) := call_isi
theorem rd_isi {x c : V} {b : Bool} (h1 : IsI K H x c b) (h : Q (.bl b) H) : rIsi K [x, c] H Q := ⟨x, c, b, rfl, h1, h⟩
def rListOf (K : PySem.W.Frag) : List V → Hp → VK → Prop := fun xs H Q => ∃ p ys, xs = [.ref p] ∧ (SqL K H p ys ∨ SqT K H p ys) ∧ ∀ l, H l = none → Q (.ref l) (upd H l (.lst ys))
theorem call_listG : CallR X (.type "list") (rListOf X.K) := call_list_of
theorem rd_listL {p : Addr} {ys : List V} (h1 : SqL K H p ys) (h : ∀ l, H l = none → Q (.ref l) (upd H l (.lst ys))) : rListOf K [.ref p] H Q := ⟨p, ys, rfl, .inl h1, h⟩
end
theorem eqN_nil {K : PySem.W.Frag} {H : Hp} {p q : Addr} {xs : List V} (h1 : SqL K H p xs) (h2 : SqL K H q []) : EqN K H 8 (.ref p) (.ref q) xs.isEmpty :=
  .inr ⟨p, q, xs, [], fun _ => true, rfl, rfl, .inl ⟨h1, h2⟩, fun j u v _ e => by simp at e, by cases xs <;> simp⟩
theorem cut_head {xs : List V} {n : Nat} (h : xs.length ≤ n) : cutV xs none (some (n : Int)) = xs := by
  unfold cutV
  rw [HT.sIx_none, HT.sIx_nat, Nat.min_eq_right h, List.drop_zero, Nat.sub_zero, List.take_length]
end L2
namespace L2
open PySem PySem.Spec PyProof.Rows
section
variable {σ : St} {H : Hp} {nx : St → Hp → Prop} {rt : VK} {g : TG} {tb : TS} {Q : VK}
theorem rf_range {lo : Int} {n : Nat} (Pv : Nat → St → Hp → Prop) (h0 : Pv 0 σ H)
    (hs : ∀ i σ H, i < n → Pv i σ H → g (.int (lo + i)) σ H fun σ2 H2 => tb ⟨Pv (i + 1), rt, nx, Pv (i + 1)⟩ σ2 H2) (hd : ∀ σ H, Pv n σ H → nx σ H) :
    ∃ W : Nat → Nat → St → Hp → Prop, (∃ m, W 0 m σ H) ∧ ∀ i m σ H, W i m σ H →
      ((Itr lo n).stop i H ∧ nx σ H) ∨ ((Itr lo n).go i H ∧ ∃ N : St → Hp → Prop, (∀ σ' H', N σ' H' → ∃ m', m' < m ∧ W (i + 1) m' σ' H') ∧ ∀ x H', (Itr lo n).yld i H x H' → g x σ H' fun σ2 H2 => tb ⟨N, rt, nx, N⟩ σ2 H2) :=
  for_range (D := ⟨nx, rt, fun _ _ => False, fun _ _ => False⟩) Pv h0 hs hd
theorem rf_list {K : PySem.W.Frag} {a : Addr} {xs : List V} (Pv : Nat → St → Hp → Prop) (h0 : Pv 0 σ H) (hl : ∀ i σ H, i ≤ xs.length → Pv i σ H → SqL K H a xs)
    (hs : ∀ i x σ H, xs[i]? = some x → Pv i σ H → g x σ H fun σ2 H2 => tb ⟨Pv (i + 1), rt, nx, Pv (i + 1)⟩ σ2 H2) (hd : ∀ σ H, Pv xs.length σ H → nx σ H) :
    ∃ W : Nat → Nat → St → Hp → Prop, (∃ m, W 0 m σ H) ∧ ∀ i m σ H, W i m σ H →
      ((Itl K a).stop i H ∧ nx σ H) ∨ ((Itl K a).go i H ∧ ∃ N : St → Hp → Prop, (∀ σ' H', N σ' H' → ∃ m', m' < m ∧ W (i + 1) m' σ' H') ∧ ∀ x H', (Itl K a).yld i H x H' → g x σ H' fun σ2 H2 => tb ⟨N, rt, nx, N⟩ σ2 H2) :=
  for_list (D := ⟨nx, rt, fun _ _ => False, fun _ _ => False⟩) Pv h0 hl hs hd
theorem rf_tup {K : PySem.W.Frag} {a : Addr} {xs : List V} (Pv : Nat → St → Hp → Prop) (h0 : Pv 0 σ H) (hl : ∀ i σ H, i ≤ xs.length → Pv i σ H → SqT K H a xs)
    (hs : ∀ i x σ H, xs[i]? = some x → Pv i σ H → g x σ H fun σ2 H2 => tb ⟨Pv (i + 1), rt, nx, Pv (i + 1)⟩ σ2 H2) (hd : ∀ σ H, Pv xs.length σ H → nx σ H) :
    ∃ W : Nat → Nat → St → Hp → Prop, (∃ m, W 0 m σ H) ∧ ∀ i m σ H, W i m σ H →
      ((Itt K a).stop i H ∧ nx σ H) ∨ ((Itt K a).go i H ∧ ∃ N : St → Hp → Prop, (∀ σ' H', N σ' H' → ∃ m', m' < m ∧ W (i + 1) m' σ' H') ∧ ∀ x H', (Itt K a).yld i H x H' → g x σ H' fun σ2 H2 => tb ⟨N, rt, nx, N⟩ σ2 H2) :=
  for_tup (D := ⟨nx, rt, fun _ _ => False, fun _ _ => False⟩) Pv h0 hl hs hd
theorem rd_eqI {K : PySem.W.Frag} {i j : Int} (h : Q (.bl (decide (i = j))) H) : rEqG K (.int i) (.int j) H Q := ⟨_, .inl ⟨rfl, rfl, rfl⟩, h⟩
theorem rd_neI {K : PySem.W.Frag} {i j : Int} (h : Q (.bl (!decide (i = j))) H) : rNeG K (.int i) (.int j) H Q := ⟨_, .inl ⟨rfl, rfl, rfl⟩, h⟩
end
end L2
namespace L2
open PySem PySem.Spec PyProof.Rows
def noStar : Expr → Bool
  | .Starred _ _ => false
  | _ => true
theorem star_cons {e : Expr} {es : List Expr} {env : Env} (h : noStar e = true) : starEach (e :: es) env = (false, eval e env) :: starEach es env := by
  cases e <;> first | rfl | exact absurd h Bool.false_ne_true
theorem back_any {env : Env} {pos : Pos} : ∀ {es : List Expr}, es.all noStar = true → (backTo pos (starEach es env)).any (·.1) = false
  | [], _ => rfl
  | e :: es, h => by
    rw [List.all_cons, Bool.and_eq_true] at h
    rw [star_cons h.1]
    have ih := back_any (env := env) (pos := pos) h.2
    unfold backTo at ih ⊢
    rw [List.map_cons, List.any_cons]
    rw [ih]
    rfl
section
variable {X : Cx} {CX : CXT} {k : Nat} {f C : Addr} {fd : FuncData} {ps : List Str} {sp : Sp} {dvs : List V} {ds : List Value} {E : XK} {x m : Str} {p pos apos : Pos} {e o : Expr} {es : List Expr} {ta te : TE} {t : TA}
theorem pa_c (ha : PE X e te) (hr : PA X es t) (hs : noStar e = true := by rfl) : PA X (e :: es) (tCons te t) := pa_cons ha hr (star_cons hs)
theorem all_tl {e : Expr} {es : List Expr} (h : (e :: es).all noStar = true) : noStar e = true ∧ es.all noStar = true := by
  rw [List.all_cons, Bool.and_eq_true] at h
  exact h
theorem pe_callN (F : FnOk X.prog X.w X.K X.mg X.base CX k f fd ps sp) (hr : Room k X.A) (hg : Gl X x) (hm : X.mg x = some (.ref f)) (hk : PySem.W.keepIn X.K (.ref f) = true) (hb : Binds X.K fd ps ds) (hd : Vals dvs ds) (hx : Passes CX X E)
    (ha : PA X (e :: es) t) (hn : (e :: es).all noStar = true := by rfl) (hdb : (x == ("__debug__" : Str)) = false := by decide) : PE X (.Call (.Name x p) (e :: es) [] pos) (tCall sp dvs E t) :=
  pe_call F hr hg hm hk hb hd hx ha hdb (star_cons (all_tl hn).1) (back_any (all_tl hn).2)
theorem pe_makeN (M : Mk X.K C f) (F : FnOk X.prog X.w X.K X.mg X.base CX k f fd ps sp) (hr : Room (k + 1) X.A) (hg : Gl X x) (hm : X.mg x = some (.ref C)) (hb : Binds X.K fd ps ds) (hd : Vals dvs ds) (hx : Passes CX X E)
    (ha : PA X (e :: es) t) (hn : (e :: es).all noStar = true := by rfl) (hdb : (x == ("__debug__" : Str)) = false := by decide) : PE X (.Call (.Name x p) (e :: es) [] pos) (tMake C sp dvs E t) :=
  pe_make M F hr hg hm hb hd hx ha hdb (star_cons (all_tl hn).1) (back_any (all_tl hn).2)
variable {id T : String} {r : List V → Hp → VK → Prop}
theorem pe_callBN (hc : CallR X (.builtin id) r) (hg : Gl X x) (hm : X.mg x = none) (hv : bootBuiltins x = some (.builtin id)) (ha : PA X (e :: es) t) (hn : (e :: es).all noStar = true := by rfl) (hne : x ≠ "__name__" := by decide) (hdb : (x == ("__debug__" : Str)) = false := by decide) :
    PE X (.Call (.Name x p) (e :: es) [] pos) (tCB r t) := pe_callB hc hg hm hv ha hne hdb (star_cons (all_tl hn).1) (back_any (all_tl hn).2)
theorem pe_callTyN (hc : CallR X (.type T) r) (hg : Gl X x) (hm : X.mg x = none) (hv : bootBuiltins x = some (.type T)) (ha : PA X (e :: es) t) (hn : (e :: es).all noStar = true := by rfl) (hne : x ≠ "__name__" := by decide) (hdb : (x == ("__debug__" : Str)) = false := by decide) :
    PE X (.Call (.Name x p) (e :: es) [] pos) (tCB r t) := pe_callTy hc hg hm hv ha hne hdb (star_cons (all_tl hn).1) (back_any (all_tl hn).2)
variable {tg a b : Expr}
theorem pi_range1N (hg : Gl X "range") (hm : X.mg "range" = none) (ha : PA X [a] t) (hn : noStar a = true := by rfl) : PI X tg (.Call (.Name "range" p) [a] [] pos) (iRng1 t) := pi_range1 hg hm ha (star_cons hn)
theorem pi_range2N (hg : Gl X "range") (hm : X.mg "range" = none) (ha : PA X [a, b] t) (hn : noStar a = true := by rfl) (hn2 : noStar b = true := by rfl) : PI X tg (.Call (.Name "range" p) [a, b] [] pos) (iRng2 t) :=
  pi_range2 hg hm ha (by rw [star_cons hn, star_cons hn2]; rfl) (star_cons hn2)
end
end L2
namespace L2
open PySem PySem.Spec PyProof.Rows
section
variable {X : Cx} {pos : Pos} {x1 : Nat} {e1 e2 e3 e4 e5 e6 e7 e8 : Expr} {t1 t2 t3 t4 t5 t6 t7 t8 : TE}
theorem lst1 (h1 : PE X e1 t1) (n1 : noStar e1 = true := by rfl) : PE X (.List [e1] pos) (tLst (tCons t1 tNil)) := pe_lst (pa_c h1 pa_nil n1)
theorem lst2 (h1 : PE X e1 t1) (h2 : PE X e2 t2) (n1 : noStar e1 = true := by rfl) (n2 : noStar e2 = true := by rfl) : PE X (.List [e1, e2] pos) (tLst (tCons t1 (tCons t2 tNil))) := pe_lst (pa_c h1 (pa_c h2 pa_nil n2) n1)
theorem tup2 {k1} (h1 : PE X e1 t1) (h2 : PE X e2 t2) (n1 : noStar e1 = true := by rfl) (n2 : noStar e2 = true := by rfl) : PE X (.Tuple [e1, e2] k1 pos) (tTup (tCons t1 (tCons t2 tNil))) := pe_tup (pa_c h1 (pa_c h2 pa_nil n2) n1)
theorem lst3 (h1 : PE X e1 t1) (h2 : PE X e2 t2) (h3 : PE X e3 t3) (n1 : noStar e1 = true := by rfl) (n2 : noStar e2 = true := by rfl) (n3 : noStar e3 = true := by rfl) : PE X (.List [e1, e2, e3] pos) (tLst (tCons t1 (tCons t2 (tCons t3 tNil)))) := pe_lst (pa_c h1 (pa_c h2 (pa_c h3 pa_nil n3) n2) n1)
theorem tup3 {k1} (h1 : PE X e1 t1) (h2 : PE X e2 t2) (h3 : PE X e3 t3) (n1 : noStar e1 = true := by rfl) (n2 : noStar e2 = true := by rfl) (n3 : noStar e3 = true := by rfl) : PE X (.Tuple [e1, e2, e3] k1 pos) (tTup (tCons t1 (tCons t2 (tCons t3 tNil)))) := pe_tup (pa_c h1 (pa_c h2 (pa_c h3 pa_nil n3) n2) n1)
theorem lst4 (h1 : PE X e1 t1) (h2 : PE X e2 t2) (h3 : PE X e3 t3) (h4 : PE X e4 t4) (n1 : noStar e1 = true := by rfl) (n2 : noStar e2 = true := by rfl) (n3 : noStar e3 = true := by rfl) (n4 : noStar e4 = true := by rfl) : PE X (.List [e1, e2, e3, e4] pos) (tLst (tCons t1 (tCons t2 (tCons t3 (tCons t4 tNil))))) := pe_lst (pa_c h1 (pa_c h2 (pa_c h3 (pa_c h4 pa_nil n4) n3) n2) n1)
theorem lst7 (h1 : PE X e1 t1) (h2 : PE X e2 t2) (h3 : PE X e3 t3) (h4 : PE X e4 t4) (h5 : PE X e5 t5) (h6 : PE X e6 t6) (h7 : PE X e7 t7) (n1 : noStar e1 = true := by rfl) (n2 : noStar e2 = true := by rfl) (n3 : noStar e3 = true := by rfl) (n4 : noStar e4 = true := by rfl) (n5 : noStar e5 = true := by rfl) (n6 : noStar e6 = true := by rfl) (n7 : noStar e7 = true := by rfl) : PE X (.List [e1, e2, e3, e4, e5, e6, e7] pos) (tLst (tCons t1 (tCons t2 (tCons t3 (tCons t4 (tCons t5 (tCons t6 (tCons t7 tNil)))))))) := pe_lst (pa_c h1 (pa_c h2 (pa_c h3 (pa_c h4 (pa_c h5 (pa_c h6 (pa_c h7 pa_nil n7) n6) n5) n4) n3) n2) n1)
end
end L2
namespace L2
open PySem PySem.Spec PyProof.Rows
section
variable {X : Cx} {pins : List (Addr × Obj)} {σ : St} {H : Hp} {s : Shared} {h' : Heap}
theorem Inv.turnedNew {t' : Nat} {ch : List Addr} {T : Addr} {o : HO} (I : Inv X pins σ H s) (k : ∀ b u, b ∉ ch → s.heap.get? b = some u → h'.get? b = some u)
    (hch : ∀ b ∈ ch, FpOk X pins H b) (hT : s.heap.objs.size ≤ T) (new : ObjOk X.prog X.w (upd H T o) h' T o) : Inv X pins σ (upd H T o) { s with heap := h', toks := t' } := by
  have hn : H T = none := I.hok.fresh hT
  have nit : ∀ b u, H b = some u → b ∉ ch := fun b u e z => by rw [(hch b z).1] at e; cases e
  have neT : ∀ b u, H b = some u → b ≠ T := fun b u e => ne_of_none e hn
  refine I.step (g' := s.gens) (d' := s.drawn) (ch := ch) (fun b hb => ?_) (fun b u _ _ hc e _ => k b u hc e) (fun b u _ _ hc e _ => ⟨u.slots, k b u hc e⟩) (fun b u hc e n => ?_)
    (fun b u hc e => ⟨u, k b u hc e⟩) (fun b xs e => ?_) (fun b u v e => ?_) (fun b ps e => ⟨#[], ?_⟩) (fun m hm => ?_) (fun b u e => ?_) I.bare
  · obtain ⟨f0, f1, f2, f3, f4, f5⟩ := hch b hb
    exact ⟨f3, f1, f4, f5⟩
  · rw [upd_ne (Nat.ne_of_lt (Nat.lt_of_lt_of_le (Heap.lt_size e) hT))]; exact n
  · rw [upd_ne (neT _ _ e)]; exact e
  · rw [upd_ne (neT _ _ e)]; exact e
  · rw [upd_ne (neT _ _ e), e]; simp
  · obtain ⟨u, es, ep, ho, r⟩ := hm
    exact ⟨u, es, ep, k _ u (fun z => (hch _ z).2.1 rfl) ho, r⟩
  · by_cases hb : b = T
    · subst hb; rw [upd_same] at e; cases e; exact new
    · rw [upd_ne hb] at e
      refine (I.hok b u e).stay (fun c v hc q => k c v ?_ q) (fun c q => by rw [upd_ne (ne_of_none q hn)]; exact q) fun c xs _ q => by rw [upd_ne (ne_of_none q hn)]; exact q
      rcases hc with z | z
      · rw [z]; exact nit b u e
      · exact nit c _ z
end
def Ite (K : PySem.W.Frag) (a : Addr) : It :=
  ⟨fun i H => ∃ xs x, SqL K H a xs ∧ xs[i]? = some x, fun i H x H' => ∃ T v, H T = none ∧ x = .ref T ∧ H' = upd H T (.tup [.int i, v]) ∧ ∀ xs, SqL K H a xs → xs[i]? = some v, fun i H => ∃ xs, SqL K H a xs ∧ xs.length ≤ i⟩
theorem turn_enum {P : Program} {w : World} {K : PySem.W.Frag} {elts : List Expr} {x1 : Nat} {tp : Pos} (a e it : Addr) (hei : e ≠ it) :
    Turn P w K (.Tuple elts x1 tp) (Ite K a) [e, it] e (fun i h => (∃ old, IsEnum h e it ((i : Nat) : Int) old) ∧ h.IsListIter it a i) where
  mem := by simp
  obj := fun i h st b hb => by
    obtain ⟨⟨old, he⟩, st⟩ := st
    rcases List.mem_cons.mp hb with z | hb
    · subst z
      exact ⟨_, he, fun v z => by cases z⟩
    · have z : b = it := by simpa using hb
      subst z
      obtain ⟨o, e, c, d⟩ := st
      exact ⟨o, e, fun v z => by rw [d] at z; cases z⟩
  keep := fun i h h' st k => by
    obtain ⟨⟨old, he⟩, st⟩ := st
    exact ⟨⟨old, k e (by simp) _ he⟩, st.at fun o q => k it (by simp) o q⟩
  item := by
    intro X hP hw hK hc i pins s σ H E I hf st hg
    subst hP hw hK
    obtain ⟨⟨old, he⟩, st⟩ := st
    obtain ⟨xs, x, hq, hx⟩ := hg
    obtain ⟨its, rv, p, hz⟩ := I.list hq
    obtain ⟨u, hu, ru⟩ := rv.get hx
    have helt : e < s.heap.objs.size := Heap.lt_size he
    have hilt : it < s.heap.objs.size := by obtain ⟨_, z, _⟩ := id st; exact Heap.lt_size z
    refine wpAny_pyNext_enum_item he st p.isList (x := u) (by simpa using hu) hei fun h1 ho hit1 hT hsz hk => ?_
    refine ⟨_, rfl, wpAny_letOwnedTupleGo_enum ho fun h2 he2 hs2 => ?_⟩
    replace hs2 : Heap.SameBut e h1 h2 := hs2
    have hT2 : h2.IsTuple s.heap.objs.size #[.int i s.toks, u] := ⟨_, (hs2.2 _ (Nat.ne_of_gt helt)).trans hT, rfl, _, rfl⟩
    have kk : ∀ b o, b ∉ [e, it] → s.heap.get? b = some o → h2.get? b = some o := fun b o hb q => by
      have n1 : b ≠ e := fun z => hb (by simp [z])
      have n2 : b ≠ it := fun z => hb (by simp [z])
      exact (hs2.2 b n1).trans (hk b o n1 n2 q)
    have I2 : Inv X pins σ (upd H s.heap.objs.size (.tup [.int i, x])) { s with heap := h2, toks := s.toks + 1 } :=
      I.turnedNew kk hf (Nat.le_refl _) (show ObjOk X.prog X.w _ h2 _ (.tup [.int i, x]) from ⟨sz_le (by simp), [.int i s.toks, u], .cons ⟨_, rfl⟩ (.cons ru .nil), hT2⟩)
    have hfr : H s.heap.objs.size = none := I.hok.fresh (Nat.le_refl _)
    refine ⟨.ref s.heap.objs.size, _, I2, rfl, ⟨_, x, hfr, rfl, rfl, fun ys hy => by rw [I.list_inj hy hq]; exact hx⟩, ⟨⟨u, ?_⟩, ?_⟩, fun b hb => ?_⟩
    · have e1 : ((i + 1 : Nat) : Int) = (i : Int) + 1 := by push_cast; rfl
      rw [e1]
      exact he2
    · exact hit1.at fun o q => (hs2.2 it hei.symm).trans q
    · have hlt : b < s.heap.objs.size := by
        rcases List.mem_cons.mp hb with z | hb
        · rw [z]; exact helt
        · rw [show b = it by simpa using hb]; exact hilt
      rw [upd_ne (Nat.ne_of_lt hlt)]
      exact (hf b hb).1
  done := by
    intro X hP hw hK hc i pins s σ H E I hf st hg
    subst hP hw hK
    obtain ⟨⟨old, he⟩, st⟩ := st
    obtain ⟨xs, hq, hx⟩ := hg
    obtain ⟨its, rv, p, hz⟩ := I.list hq
    obtain ⟨f0, f1, f2, f3, f4, f5⟩ := hf it (by simp)
    have hl := rv.length
    exact wpAny_pyNext_enum_end (I.ok.hd hc) he st p.isList (by simp; omega) fun h' eb => ⟨rfl, I.turned (t' := s.toks) (fun b o hb e => eb b o hb e) f0 f1 f3 f4 f5⟩
  self := fun _ _ _ _ _ st h => by
    obtain ⟨⟨old, he⟩, st⟩ := st
    exact wpAny_pyIter_enum he h
section
variable {X : Cx} {elts : List Expr} {x1 : Nat} {tp : Pos}
def iEnum (K : PySem.W.Frag) (ta : TA) : TI := fun σ H R => ta σ H fun vs H1 => ∃ a, vs = [.ref a] ∧ (∃ xs, SqL K H1 a xs) ∧ R (Ite K a) H1
theorem pi_enum {a : Expr} {ta : TA} {p pos : Pos} (hg : Gl X "enumerate") (hm : X.mg "enumerate" = none) (ha : PA X [a] ta) (hn : noStar a = true := by rfl) : PI X (.Tuple elts x1 tp) (.Call (.Name "enumerate" p) [a] [] pos) (iEnum X.K ta) := by
  intro pins s σ H R I h
  refine Call_ (ld_blt I hg hm boot_enumerate (PyProof.Rows.callWith_type1 (thn (ha pos pins s σ H _ I h) fun us s1 ⟨vs, H1, I1, r1, q1⟩ => ?_) (star_cons hn) rfl))
  obtain ⟨l, e, ⟨xs, hq⟩, q⟩ := q1
  subst e
  obtain ⟨u, rfl, ru⟩ := vals1 r1
  cases ru
  obtain ⟨its, rv, pl, hz⟩ := I1.list hq
  refine call_enumerate_list pl.isList fun h' he hit hsz hk => ?_
  refine wpAny_pyIter_enum he ?_
  refine ⟨s1.heap.objs.size + 1, [s1.heap.objs.size + 1, s1.heap.objs.size], _, _, H1, rfl, I1.kept (t' := s1.toks) hk, turn_enum l _ _ (Nat.succ_ne_self _), ⟨⟨_, he⟩, hit⟩, fun b hb => ?_, q⟩
  have hle : s1.heap.objs.size ≤ b := by
    rcases List.mem_cons.mp hb with z | hb
    · rw [z]; exact Nat.le_succ _
    · rw [show b = s1.heap.objs.size by simpa using hb]; exact Nat.le_refl _
  exact I1.fpOk hle (I1.hok.fresh hle)
end
section
variable {σ : St} {H : Hp} {nx : St → Hp → Prop} {rt : VK} {g : TG} {tb : TS} {Q : VK} {K : PySem.W.Frag}
def EnQ (K : PySem.W.Frag) (R : It → Hp → Prop) : List V → Hp → Prop := fun vs H1 => ∃ a, vs = [.ref a] ∧ (∃ xs, SqL K H1 a xs) ∧ R (Ite K a) H1
def LiQ (K : PySem.W.Frag) (R : It → Hp → Prop) : V → Hp → Prop := fun x H1 => ∃ a, x = .ref a ∧ (∃ xs, SqL K H1 a xs) ∧ R (Itl K a) H1
def TiQ (K : PySem.W.Frag) (R : It → Hp → Prop) : V → Hp → Prop := fun x H1 => ∃ a, x = .ref a ∧ (∃ xs, SqT K H1 a xs) ∧ R (Itt K a) H1
theorem rd_iEnum {ta : TA} {R : It → Hp → Prop} (h : ta σ H (EnQ K R)) : iEnum K ta σ H R := h
theorem rd_iListQ {tl : TE} {R : It → Hp → Prop} (h : tl σ H (LiQ K R)) : iList K tl σ H R := h
theorem rd_iTupQ {tl : TE} {R : It → Hp → Prop} (h : tl σ H (TiQ K R)) : iTup K tl σ H R := h
theorem rd_en {a : Addr} {xs : List V} {R : It → Hp → Prop} (h1 : SqL K H a xs) (h : R (Ite K a) H) : EnQ K R [.ref a] H := ⟨a, rfl, ⟨xs, h1⟩, h⟩
theorem rd_li {a : Addr} {xs : List V} {R : It → Hp → Prop} (h1 : SqL K H a xs) (h : R (Itl K a) H) : LiQ K R (.ref a) H := ⟨a, rfl, ⟨xs, h1⟩, h⟩
theorem rd_ti {a : Addr} {xs : List V} {R : It → Hp → Prop} (h1 : SqT K H a xs) (h : R (Itt K a) H) : TiQ K R (.ref a) H := ⟨a, rfl, ⟨xs, h1⟩, h⟩
theorem rf_enum {a : Addr} {xs : List V} (Pv : Nat → St → Hp → Prop) (h0 : Pv 0 σ H) (hl : ∀ i σ H, i ≤ xs.length → Pv i σ H → SqL K H a xs)
    (hs : ∀ i x σ H T, xs[i]? = some x → Pv i σ H → H T = none → g (.ref T) σ (upd H T (.tup [.int i, x])) fun σ2 H2 => tb ⟨Pv (i + 1), rt, nx, Pv (i + 1)⟩ σ2 H2) (hd : ∀ σ H, Pv xs.length σ H → nx σ H) :
    ∃ W : Nat → Nat → St → Hp → Prop, (∃ m, W 0 m σ H) ∧ ∀ i m σ H, W i m σ H →
      ((Ite K a).stop i H ∧ nx σ H) ∨ ((Ite K a).go i H ∧ ∃ N : St → Hp → Prop, (∀ σ' H', N σ' H' → ∃ m', m' < m ∧ W (i + 1) m' σ' H') ∧ ∀ x H', (Ite K a).yld i H x H' → g x σ H' fun σ2 H2 => tb ⟨N, rt, nx, N⟩ σ2 H2) := by
  refine ⟨fun i m σ H => m = xs.length - i ∧ i ≤ xs.length ∧ Pv i σ H, ⟨xs.length, by simp, Nat.zero_le _, h0⟩, ?_⟩
  rintro i m σ H ⟨rfl, hi, p⟩
  have q := hl i σ H hi p
  by_cases hlt : i < xs.length
  · refine .inr ⟨⟨xs, xs[i], q, by simp [hlt]⟩, Pv (i + 1), fun σ' H' p' => ⟨xs.length - (i + 1), by omega, rfl, hlt, p'⟩, fun x H' y => ?_⟩
    obtain ⟨T, v, hT, e1, e2, y⟩ := y
    subst e1 e2
    exact hs i v σ H T (y xs q) p hT
  · have e : i = xs.length := by omega
    subst e
    exact .inl ⟨⟨xs, q, Nat.le_refl _⟩, hd σ H p⟩
end
section
variable {X : Cx}
theorem vals_bools : ∀ {bs : List Bool} {us : List Value}, Vals (bs.map V.bl) us → us = bs.map Value.bool
  | [], _, .nil => rfl
  | b :: bs, _, .cons r t => by cases r; rw [vals_bools t]; rfl
def rAll (K : PySem.W.Frag) : List V → Hp → VK → Prop := fun xs H Q => ∃ (p : Addr) (bs : List Bool), xs = [.ref p] ∧ SqL K H p (bs.map V.bl) ∧ Q (.bl (bs.all id)) H
theorem call_allG (hc : X.calm = true) : CallR X (.builtin "all") (rAll X.K) := by
  intro pins s σ H xs us Q I r h
  obtain ⟨p, bs, rfl, hq, q⟩ := h
  obtain ⟨u, rfl, rx⟩ := vals1 r
  cases rx
  obtain ⟨its, r', pl, hz⟩ := I.list hq
  have e := vals_bools r'
  subst e
  have hl := pl.isList
  have hlt : p < s.heap.objs.size := by obtain ⟨_, e, _⟩ := id hl; exact Heap.lt_size e
  refine call_all_walk (wpAny_pyIter_list hl ?_)
  refine ⟨s.heap.objs.size, [s.heap.objs.size, p], [s.heap.objs.size], (bs.map Value.bool).toArray.size, _, _, fun i => (bs[i]?).getD true, rfl, Walks.list (A := X.A.in1) (I.ok.hd hc) _ p (Nat.ne_of_lt hlt) (bs.map Value.bool).toArray,
    ⟨⟨_, Heap.get?_push_size _ rfl, rfl, rfl⟩, hl.push _⟩, fun i v s' Q' E' hP hQ => ?_, fun h' tk hk => ?_⟩
  · have hP' : (bs.map Value.bool)[i]? = some v := by simpa using hP
    rw [List.getElem?_map] at hP'
    cases hb : bs[i]? with
    | none => rw [hb] at hP'; cases hP'
    | some b =>
      rw [hb] at hP'
      cases hP'
      simp only [hb, Option.getD_some] at hQ
      exact wpAny_truthy_bool hQ
  · have e : ((List.range (bs.map Value.bool).toArray.size).all fun i => (bs[i]?).getD true) = bs.all id := by
      rw [List.size_toArray, List.length_map]; exact LSm.range_all bs
    rw [e]
    exact ⟨.bl _, H, I.kept (t' := tk) (LSm.kept_iter hk), rfl, q⟩
end
section
variable {X : Cx} {e st : Expr} {te : TE} {ts : TO} {pos p2 : Pos}
end
section
variable {X : Cx} {o e : Expr} {to : TE} {t : TA} {apos cpos : Pos}
theorem pe_app (ho : PE X o to) (ha : PA X [e] t) (hn : noStar e = true := by rfl) (hbase : attributeBase o "append" X.env (eval o X.env) = eval o X.env := by rfl) (hline : (apos.endLine == cpos.line) = true := by rfl) :
    PE X (.Call (.Attribute o "append" apos) [e] [] cpos) (tBM X.K "list" rAppend to t) :=
  pe_bm PySem.F.plainAttrs_list PySem.F.slot_list_append PySem.F.type_list_append mt_append ho ha hbase (by rw [star_cons hn]; rfl) hline (star_cons hn) (by rfl)
end
section
variable {K : PySem.W.Frag} {σ : St} {H : Hp} {Q : VK}
theorem rd_bm {T : String} {r : V → List V → Hp → VK → Prop} {to : TE} {t : TA} (h : to σ H fun x H1 => tyV K T x H1 ∧ t σ H1 fun xs H2 => r x xs H2 Q) : tBM K T r to t σ H Q := h
theorem rd_tyL {p : Addr} {xs : List V} {P : Prop} (h : SqL K H p xs) (q : P) : tyV K "list" (.ref p) H ∧ P := ⟨.inl ⟨rfl, xs, h⟩, q⟩
theorem rd_app {l : Addr} {xs : List V} {y : V} (h : H l = some (.lst xs)) (hz : xs.length < sizeLine) (q : Q .non (upd H l (.lst (xs ++ [y])))) : rAppend (.ref l) [y] H Q := ⟨l, xs, y, rfl, rfl, h, hz, q⟩
end
end L2
namespace L2
open PySem PySem.Spec PyProof.Rows
section
variable {K : PySem.W.Frag} {σ : St} {H : Hp} {Q : VK} {nx bk ct : St → Hp → Prop} {rt : VK}
theorem iteNT {A B : Prop} (h : B) : if (!true) = true then A else B := iteF h
theorem iteNF {A B : Prop} (h : A) : if (!false) = true then A else B := iteT h
theorem iteGF {A B : Prop} {b : Bool} (e : b = false) (h : B) : if b = true then A else B := by rw [e]; exact iteF h
theorem iteGT {A B : Prop} {b : Bool} (e : b = true) (h : A) : if b = true then A else B := by rw [e]; exact iteT h
theorem rd_make {C : Addr} {sp : Sp} {E : XK} {t : TA} (h : t σ H fun vs H1 => ∀ x dx, H1 x = none → H1 dx = none → dx ≠ x → sp (.ref x :: vs) (upd (upd H1 dx (.own x)) x (.ins C dx [])) (fun v H2 => v = .non ∧ Q (.ref x) H2) E) : tMake C sp [] E t σ H Q := by
  unfold tMake
  simpa only [List.append_nil] using h
theorem rd_sfld {ta tv : TE} {f : Str} (h : tv σ H fun y H1 => ta σ H1 fun x H2 => ∃ a C dx fs, x = .ref a ∧ H2 a = some (.ins C dx fs) ∧ Cls K C ∧ NoAttr K C f ∧ fs.length < 1000 ∧ nx σ (upd H2 a (.ins C dx (putF f y fs)))) : sFld K ta tv f ⟨nx, rt, bk, ct⟩ σ H := h
theorem rd_put {a C dx : Addr} {fs fs' : List (Str × V)} {f : Str} {y : V} {P : Hp → Prop} (h1 : H a = some (.ins C dx fs)) (c : Cls K C) (n : NoAttr K C f) (hl : fs.length < 1000) (e : putF f y fs = fs') (h : P (upd H a (.ins C dx fs'))) :
    ∃ a' C dx fs, V.ref a = V.ref a' ∧ H a' = some (.ins C dx fs) ∧ Cls K C ∧ NoAttr K C f ∧ fs.length < 1000 ∧ P (upd H a' (.ins C dx (putF f y fs))) := ⟨a, C, dx, fs, rfl, h1, c, n, hl, by rw [e]; exact h⟩
theorem rd_get {a C dx : Addr} {fs : List (Str × V)} {f : Str} {v : V} {P : V → Prop} (h1 : H a = some (.ins C dx fs)) (c : Cls K C) (n : NoAttr K C f) (l : fs.lookup f = some v) (h : P v) :
    ∃ a' C dx fs v, V.ref a = V.ref a' ∧ H a' = some (.ins C dx fs) ∧ Cls K C ∧ NoAttr K C f ∧ fs.lookup f = some v ∧ P v := ⟨a, C, dx, fs, v, rfl, h1, c, n, l, h⟩
theorem bools_of : ∀ {xs : List V}, (∀ x ∈ xs, x = .bl true) → xs = (List.replicate xs.length true).map V.bl
  | [], _ => rfl
  | x :: xs, h => by
    rw [List.length_cons, List.replicate_succ, List.map_cons, ← bools_of (fun y hy => h y (List.mem_cons_of_mem _ hy)), h x (List.mem_cons_self ..)]
theorem rd_allT {p : Addr} {xs : List V} (h1 : SqL K H p xs) (h2 : ∀ x ∈ xs, x = .bl true) (h : Q (.bl true) H) : rAll K [.ref p] H Q := by
  refine ⟨p, List.replicate xs.length true, rfl, ?_, ?_⟩
  · rw [← bools_of h2]; exact h1
  · rw [show (List.replicate xs.length true).all id = true by simp]; exact h
end
end L2
namespace L2
open PySem PySem.Spec PyProof.Rows
section
variable {X : Cx} {pins : List (Addr × Obj)} {σ : St} {H : Hp} {s : Shared} {A : Around} {E : Value → Shared → Prop} {Q : Value → Shared → Prop} {b : Bool}
theorem isinstT_ok {tp : Addr} {dd : Option Addr} {its : List Value} {nn : Nat} {sl : Array (Option Value)} {x : V} {u t : Value} (I : Inv X pins σ H s) (rx : RelV x u) (ty : TyOf X.K H x t) (htp : s.heap.get? tp = some ⟨.type "tuple", dd, .seq its.toArray nn, sl⟩) (e : PySem.W.kitAny X.K t its = some b) (h : ∀ tk, Q (.bool b) { s with toks := tk }) :
    wpAny (model X.prog X.w) A (call (.builtin "isinstance") [u, .ref tp]) Q E s := by
  cases ty with
  | non => cases (show u = Value.none from rx); exact PySem.W.kia_tup PySem.W.kitx_none I.kIn True.intro htp e (fun z => nomatch z) h
  | bl y => cases (show u = Value.bool y from rx); exact PySem.W.kia_tup PySem.W.kitx_bool I.kIn True.intro htp e (fun z => nomatch z) h
  | int i => obtain ⟨t, q⟩ := (show ∃ t, u = Value.int i t from rx); cases q; exact PySem.W.kia_tup PySem.W.kitx_int I.kIn True.intro htp e (fun z => nomatch z) h
  | str y => obtain ⟨t, q⟩ := (show ∃ t, u = Value.str y t from rx); cases q; exact PySem.W.kia_tup PySem.W.kitx_str I.kIn True.intro htp e (fun z => nomatch z) h
  | flt y => obtain ⟨t, q⟩ := (show ∃ t, u = Value.float y t from rx); cases q; exact PySem.W.kia_tup PySem.W.kitx_float I.kIn True.intro htp e (fun z => nomatch z) h
  | @lst a xs ea =>
    cases (show u = Value.ref a from rx)
    obtain ⟨_, _, n, _, h1⟩ := (show ObjOk X.prog X.w H s.heap a (.lst xs) from I.hok a _ ea)
    exact PySem.W.kia_tup PySem.W.kitx_list I.kIn ⟨_, h1, rfl⟩ htp e (fun z => nomatch z) h
  | @frz a ob xs ea =>
    cases (show u = Value.ref a from rx)
    obtain ⟨_, _, _, n, _, h1⟩ := (show ObjOk X.prog X.w H s.heap a (.frz ob (.lst xs)) from I.hok a _ ea)
    exact PySem.W.kia_tup PySem.W.kitx_list I.kIn ⟨_, h1, rfl⟩ htp e (fun z => nomatch z) h
  | @tup a xs ea =>
    cases (show u = Value.ref a from rx)
    obtain ⟨_, _, _, p⟩ := (show ObjOk X.prog X.w H s.heap a (.tup xs) from I.hok a _ ea)
    obtain ⟨o, h1, h2, _⟩ := p
    exact PySem.W.kia_tup PySem.W.kitx_tuple I.kIn ⟨o, h1, h2⟩ htp e (fun z => nomatch z) h
  | @dK a kvs ea =>
    cases (show u = Value.ref a from rx)
    obtain ⟨_, _, vs, _, p⟩ := (show ObjOk X.prog X.w H s.heap a (.dK kvs) from I.hok a _ ea)
    obtain ⟨o, es, ep, h1, h2, _⟩ := p
    exact PySem.W.kia_tup PySem.W.kitx_dict I.kIn ⟨o, h1, h2.1⟩ htp e (fun z => nomatch z) h
  | @dT a kvs ea =>
    cases (show u = Value.ref a from rx)
    obtain ⟨_, _, xs, _, o, es, ep, h1, h2, _⟩ := (show ObjOk X.prog X.w H s.heap a (.dT kvs) from I.hok a _ ea)
    exact PySem.W.kia_tup PySem.W.kitx_dict I.kIn ⟨o, h1, h2.1⟩ htp e (fun z => nomatch z) h
  | @ins a C dx fs ea cl ha hn htk hm =>
    cases (show u = Value.ref a from rx)
    obtain ⟨mA, O, _⟩ := ins_get I.hok ea
    obtain ⟨od, J, _⟩ := O.look
    exact PySem.W.kia_tup (PySem.W.kitx_own (cl.get _) cl.hd ha hn htk hm) I.kIn J htp e (fun z => nomatch z) h
end
section
variable {X : Cx} {K : PySem.W.Frag} {H : Hp} {Q : VK}
theorem vals_types : ∀ {Ts : List String} {us : List Value}, Vals (Ts.map V.ty) us → us = Ts.map Value.type
  | [], _, .nil => rfl
  | T :: Ts, _, .cons r t => by cases r; rw [vals_types t]; rfl
def rIsiT (K : PySem.W.Frag) : List V → Hp → VK → Prop := fun xs H Q => ∃ (x : V) (p : Addr) (Ts : List String) (t : Value) (b : Bool), xs = [x, .ref p] ∧ H p = some (.tup (Ts.map V.ty)) ∧ TyOf K H x t ∧ PySem.W.kitAny K t (Ts.map Value.type) = some b ∧ Q (.bl b) H
theorem call_isiT : CallR X (.builtin "isinstance") (rIsiT X.K) := by
  intro pins s σ H xs us Q I r h
  obtain ⟨x, p, Ts, t, b, rfl, hp, ty, e, q⟩ := h
  obtain ⟨u, w', rfl, rx, ry⟩ := vals2 r
  cases ry
  obtain ⟨hz, its, rv, ⟨o, ho, hc, n, hd⟩⟩ := (show ObjOk X.prog X.w H s.heap p (.tup (Ts.map V.ty)) from I.hok p _ hp)
  have ei := vals_types rv
  subst ei
  obtain ⟨oc, od, odt, osl⟩ := o
  replace hc : oc = .type "tuple" := hc
  replace hd : odt = .seq (Ts.map Value.type).toArray n := hd
  subst hc hd
  exact isinstT_ok I rx ty ho e fun tk => ⟨.bl b, H, I.tok _, rfl, q⟩
theorem rd_isiT {x : V} {p : Addr} {Ts : List String} {t : Value} {b : Bool} (hp : H p = some (.tup (Ts.map V.ty))) (ty : TyOf K H x t) (e : PySem.W.kitAny K t (Ts.map Value.type) = some b) (h : Q (.bl b) H) : rIsiT K [x, .ref p] H Q := ⟨x, p, Ts, t, b, rfl, hp, ty, e, h⟩
def isB : V → V → Option Bool
  | .non, .non => some true
  | .bl a, .bl b => some (a == b)
  | .bl _, .non => some false
  | .int _, .non => some false
  | .str _, .non => some false
  | .ref _, .non => some false
  | _, _ => none
def rIs : R2 := fun x y H Q => ∃ b, isB x y = some b ∧ Q (.bl b) H
def rIsNot : R2 := fun x y H Q => ∃ b, isB x y = some b ∧ Q (.bl (!b)) H
theorem op_isG : OpR X (compareOp .Is) rIs := by
  intro pins s σ H x y v u Q I rx ry h
  obtain ⟨b, e, q⟩ := h
  have fin : EP X pins σ Q (.bool b) s := ⟨.bl b, H, I, rfl, q⟩
  cases x with
  | non => cases y with
    | non => cases e; cases rx; cases ry; exact is_none_gen fin
    | _ => cases e
  | bl a => cases y with
    | bl c => cases e; cases rx; cases ry; exact is_bool fin
    | non => cases e; cases rx; cases ry; exact is_none_gen fin
    | _ => cases e
  | int i => cases y with
    | non => cases e; obtain ⟨t, rfl⟩ := rx; cases ry; exact is_none_gen fin
    | _ => cases e
  | str i => cases y with
    | non => cases e; obtain ⟨t, rfl⟩ := rx; cases ry; exact is_none_gen fin
    | _ => cases e
  | ref i => cases y with
    | non => cases e; cases rx; cases ry; exact is_none_gen fin
    | _ => cases e
  | _ => cases y <;> cases e
theorem op_isNotG : OpR X (compareOp .IsNot) rIsNot := by
  intro pins s σ H x y v u Q I rx ry h
  obtain ⟨b, e, q⟩ := h
  have fin : EP X pins σ Q (.bool (!b)) s := ⟨.bl (!b), H, I, rfl, q⟩
  cases x with
  | non => cases y with
    | non => cases e; cases rx; cases ry; exact isnot_none_gen fin
    | _ => cases e
  | bl a => cases y with
    | bl c => cases e; cases rx; cases ry; exact isnot_bool fin
    | non => cases e; cases rx; cases ry; exact isnot_none_gen fin
    | _ => cases e
  | int i => cases y with
    | non => cases e; obtain ⟨t, rfl⟩ := rx; cases ry; exact isnot_none_gen fin
    | _ => cases e
  | str i => cases y with
    | non => cases e; obtain ⟨t, rfl⟩ := rx; cases ry; exact isnot_none_gen fin
    | _ => cases e
  | ref i => cases y with
    | non => cases e; cases rx; cases ry; exact isnot_none_gen fin
    | _ => cases e
  | _ => cases y <;> cases e
theorem rd_is {x y : V} {b : Bool} (e : isB x y = some b) (h : Q (.bl b) H) : rIs x y H Q := ⟨b, e, h⟩
theorem rd_isNot {x y : V} {b : Bool} (e : isB x y = some b) (h : Q (.bl (!b)) H) : rIsNot x y H Q := ⟨b, e, h⟩
end
end L2
namespace L2
open PySem PySem.Spec PyProof.Rows
section
variable {X : Cx}
end
end L2
namespace L2
open PySem PySem.Spec PyProof.Rows
section
variable {prog : Program} {w : World} {A : Around} {E : Value → Shared → Prop}
end
section
variable {X : Cx} {pos : Pos}
end
end L2
namespace L2
open PySem PySem.Spec PyProof.Rows
section
variable {X : Cx}
def rRng : List V → Hp → VK → Prop := fun xs H Q => ∃ i j : Int, xs = [.int i, .int j] ∧ ∀ p, H p = none → Q (.ref p) (upd H p (.rng i j))
theorem rd_rng {H : Hp} {Q : VK} {i j : Int} (h : ∀ p, H p = none → Q (.ref p) (upd H p (.rng i j))) : rRng [.int i, .int j] H Q := ⟨i, j, rfl, h⟩
end
section
variable {X : Cx} {pins : List (Addr × Obj)} {σ : St} {H : Hp} {s : Shared} {h' : Heap}
end
structure Z5 (z TI TO i1 i2 : Addr) : Prop where
  TIz : TI ≠ z
  TOz : TO ≠ z
  i1z : i1 ≠ z
  i2z : i2 ≠ z
  TITO : TI ≠ TO
  TIi1 : TI ≠ i1
  TIi2 : TI ≠ i2
  TOi1 : TO ≠ i1
  TOi2 : TO ≠ i2
  i12 : i1 ≠ i2
theorem Z5.apart {z TI TO i1 i2 l1 l2 : Addr} (d : Z5 z TI TO i1 i2) {h : Heap} {f0 a b : Value} {k1 k2 : Nat} {m1 m2 : Addr} {xs ys : Array Value} (hz : IsZip h z TI TO f0) (hTO : IsPair h TO a b) (h1 : h.IsListIter i1 m1 k1) (h2 : h.IsListIter i2 m2 k2)
    (hl1 : h.IsList l1 xs) (hl2 : h.IsList l2 ys) : ZipApart z TI TO i1 i2 l1 l2 := by
  have key : ∀ {l : Addr} {vs : Array Value}, h.IsList l vs → l ≠ z ∧ l ≠ TO ∧ l ≠ i1 ∧ l ≠ i2 := fun {l vs} hl => by
    obtain ⟨o, ho, hc, n, hd⟩ := hl
    refine ⟨fun e => ?_, fun e => ?_, fun e => ?_, fun e => ?_⟩
    · rw [e, hz] at ho; cases ho; cases hd
    · rw [e, hTO] at ho
      cases ho
      exact absurd (show Value.type "tuple" = Value.type "list" from hc) (by decide)
    · obtain ⟨o1, e1, c1, d1⟩ := h1
      rw [e, e1] at ho; cases ho; rw [d1] at hd; cases hd
    · obtain ⟨o1, e1, c1, d1⟩ := h2
      rw [e, e1] at ho; cases ho; rw [d1] at hd; cases hd
  obtain ⟨a1, a2, a3, a4⟩ := key hl1
  obtain ⟨b1, b2, b3, b4⟩ := key hl2
  exact ⟨d.TIz, d.TOz, d.i1z, d.i2z, d.TITO, d.TIi1, d.TIi2, d.TOi1, d.TOi2, d.i12, a1, a2, a3, a4, b1, b2, b3, b4⟩
section
variable {X : Cx} {elts : List Expr} {x1 : Nat} {tp : Pos}
end
section
variable {σ : St} {H : Hp} {nx : St → Hp → Prop} {rt : VK} {g : TG} {tb : TS} {Q : VK} {K : PySem.W.Frag}
end
end L2
namespace L2
open PySem PySem.Spec PyProof.Rows
section
variable {X : Cx} {e : Expr} {te : TE}
def tPartN (t : TE) : TO := fun σ H Q => t σ H fun x H1 => (x = .non ∧ Q none H1) ∨ ∃ i, x = .int i ∧ Q (some i) H1
theorem rd_partN {σ : St} {H : Hp} {QO : Option Int → Hp → Prop} (h : te σ H fun x H1 => (x = .non ∧ QO none H1) ∨ ∃ i, x = .int i ∧ QO (some i) H1) : tPartN te σ H QO := h
theorem rd_pnN {H : Hp} {QO : Option Int → Hp → Prop} (h : QO none H) : (V.non = .non ∧ QO none H) ∨ ∃ i, V.non = .int i ∧ QO (some i) H := .inl ⟨rfl, h⟩
theorem rd_pnI {H : Hp} {QO : Option Int → Hp → Prop} {i : Int} (h : QO (some i) H) : (V.int i = .non ∧ QO none H) ∨ ∃ j, V.int i = .int j ∧ QO (some j) H := .inr ⟨i, rfl, h⟩
end
end L2
namespace L2.Q
open PySem PySem.Spec PyProof.Rows L2
structure QE (X : Cx) (e : Expr) (t : TE) : Prop where
  h : PE X e t
structure QT (X : Cx) (e : Expr) (t : TT) : Prop where
  h : PT X e t
structure QW (X : Cx) (e : Expr) (t : TT) : Prop where
  h : PW X e t
structure QA (X : Cx) (es : List Expr) (t : TA) : Prop where
  h : PA X es t
structure QS (X : Cx) (st : Stmt) (t : TS) : Prop where
  h : PS X st t
structure QSs (X : Cx) (st : List Stmt) (t : TS) : Prop where
  h : PSs X st t
structure QG (X : Cx) (tg : Expr) (g : TG) : Prop where
  h : PG X tg g
structure QGs (X : Cx) (tg : List Expr) (g : TGs) : Prop where
  h : PGs X tg g
structure QI (X : Cx) (tg it : Expr) (w : TI) : Prop where
  h : PI X tg it w
structure QTs (X : Cx) (ifs : List Expr) (t : TT) : Prop where
  h : PTs X ifs t
structure QO (X : Cx) (o : Option Expr) (t : TO) : Prop where
  h : PO X o t
section
variable {X : Cx} {CX : CXT} {k : Nat} {f C : Addr} {fd : FuncData} {ps : List Str} {sp : Sp} {dvs : List V} {ds : List Value} {E : XK} {x m : Str} {p pos apos p2 spos : Pos} {a b c e o : Expr} {es rest : List Expr} {ta tb tc te to ti : TE} {t : TA} {tA tB tt : TT} {id T : String} {r r' : R2} {rc : List V → Hp → VK → Prop} {st : Stmt} {sts sts2 : List Stmt} {ts us : TS} {g : TG} {gs : TGs} {wi : TI} {tg iter : Expr}
theorem QW.pt {e : Expr} {t : TT} (q : QW X e t) : QT X e t := ⟨q.h.pt⟩
theorem pw_pt {e : Expr} {t : TT} (q : QW X e t) : QT X e t := ⟨q.h.pt⟩
theorem pv (i : Nat) (hN : X.N[i]? = some x := by rfl) (hv : Vis X.env.scope x := by first | exact Or.inl rfl | exact Or.inr (Or.inl rfl) | exact Or.inr (Or.inr rfl)) (hd : (x == ("__debug__" : Str)) = false := by decide)
    (hcd : (x == ("__classdict__" : Str)) = false := by decide) : QE X (.Name x pos) (tVar i) := ⟨pe_var hN hv hd hcd⟩
theorem pe_int {i j} : QE X (.Constant (.int i) j pos) (tC (.int i)) := ⟨L2.pe_int⟩
theorem pe_bl {b j} : QE X (.Constant (.bool b) j pos) (tC (.bl b)) := ⟨L2.pe_bl⟩
theorem pe_non {j} : QE X (.Constant .none j pos) (tC .non) := ⟨L2.pe_non⟩
theorem pe_glob {v : V} {u : Value} (hg : Gl X x) (hm : X.mg x = some u) (r : RelV v u) (hd : (x == ("__debug__" : Str)) = false := by decide) : QE X (.Name x pos) (tC v) := ⟨L2.pe_glob hg hm r hd⟩
theorem pe_gint {n : Int} (hg : Gl X x) (hm : ∃ t, X.mg x = some (.int n t)) (hd : (x == ("__debug__" : Str)) = false := by decide) : QE X (.Name x pos) (tC (.int n)) := ⟨L2.pe_gint hg hm hd⟩
theorem pe_bltn {v : V} {u : Value} (hg : Gl X x) (hm : X.mg x = none) (hv : bootBuiltins x = some u) (r : RelV v u) (hn : x ≠ "__name__" := by decide) (hd : (x == ("__debug__" : Str)) = false := by decide) : QE X (.Name x pos) (tC v) := ⟨L2.pe_bltn hg hm hv r hn hd⟩
theorem pe_op {op : Operator} (ho : OpR X (binaryOp op) r) (ha : QE X a ta) (hb : QE X b tb) : QE X (.BinOp a op b pos) (tOp r ta tb) := ⟨L2.pe_op ho ha.h hb.h⟩
theorem pe_not (ha : QE X a ta) : QE X (.UnaryOp .Not a pos) (tNotV ta) := ⟨L2.pe_not ha.h⟩
theorem pe_one {op} (h : QE X a ta) : QE X (.BoolOp op [a] pos) ta := ⟨L2.pe_one h.h⟩
theorem pe_and (ha : QE X a ta) (hb : QE X (.BoolOp .And (b :: rest) pos) tb) : QE X (.BoolOp .And (a :: b :: rest) pos) (tAndV ta tb) := ⟨L2.pe_and ha.h hb.h⟩
theorem pe_or (ha : QE X a ta) (hb : QE X (.BoolOp .Or (b :: rest) pos) tb) : QE X (.BoolOp .Or (a :: b :: rest) pos) (tOrV ta tb) := ⟨L2.pe_or ha.h hb.h⟩
theorem pe_cmpR {op : CmpOp} (ho : OpR X (compareOp op) r) (ha : QE X a ta) (hb : QE X b tb) (hm : behindInMarks op b = false) : QE X (.Compare a [op] [b] pos) (tOp r ta tb) := ⟨L2.pe_cmpR ho ha.h hb.h hm⟩
theorem pt_cmpR {op : CmpOp} (ho : OpR X (compareOp op) r) (ha : QE X a ta) (hb : QE X b tb) (hm : behindInMarks op b = false) : QT X (.Compare a [op] [b] pos) (tTest (tOp r ta tb)) := ⟨L2.pt_cmpR ho ha.h hb.h hm⟩
theorem pe_chain {op op' : CmpOp} (ho : OpR X (compareOp op) r) (ho' : OpR X (compareOp op') r') (ha : QE X a ta) (hb : QE X b tb) (hc : QE X c tc) (hm : lastMarks [op, op'] [b, c] = false := by with_unfolding_all rfl) : QE X (.Compare a [op, op'] [b, c] pos) (tChain r r' ta tb tc) := ⟨L2.pe_chain ho ho' ha.h hb.h hc.h hm⟩
theorem pt_val (h : QE X e te) (he : ∀ whole, isTrue e X.env whole = (do let v ← whole; standAt e.pos; holding [v] (truthy v)) := by intro _; rfl) : QT X e (L2.tB te) := ⟨L2.pt_val h.h he⟩
theorem pt_not (ha : QT X a tA) : QT X (.UnaryOp .Not a pos) (tNot tA) := ⟨L2.pt_not ha.h⟩
theorem pw_and1 (ha : QT X a tA) : QW X (.BoolOp .And [a] pos) tA := ⟨L2.pw_and1 ha.h⟩
theorem pw_or1 (ha : QT X a tA) : QW X (.BoolOp .Or [a] pos) tA := ⟨L2.pw_or1 ha.h⟩
theorem pw_and (ha : QT X a tA) (hb : QW X (.BoolOp .And (b :: rest) pos) tB) : QW X (.BoolOp .And (a :: b :: rest) pos) (tAnd tA tB) := ⟨L2.pw_and ha.h hb.h⟩
theorem pw_or (ha : QT X a tA) (hb : QW X (.BoolOp .Or (b :: rest) pos) tB) : QW X (.BoolOp .Or (a :: b :: rest) pos) (tOr tA tB) := ⟨L2.pw_or ha.h hb.h⟩
theorem pa_nil : QA X [] tNil := ⟨L2.pa_nil⟩
theorem pa_c (ha : QE X e te) (hr : QA X es t) (hs : noStar e = true := by rfl) : QA X (e :: es) (tCons te t) := ⟨L2.pa_c ha.h hr.h hs⟩
theorem pe_callN (F : FnOk X.prog X.w X.K X.mg X.base CX k f fd ps sp) (hr : Room k X.A) (hg : Gl X x) (hm : X.mg x = some (.ref f)) (hk : PySem.W.keepIn X.K (.ref f) = true) (hb : Binds X.K fd ps ds) (hd : Vals dvs ds) (hx : Passes CX X E)
    (ha : QA X (e :: es) t) (hn : (e :: es).all noStar = true := by rfl) (hdb : (x == ("__debug__" : Str)) = false := by decide) : QE X (.Call (.Name x p) (e :: es) [] pos) (tCall sp dvs E t) := ⟨L2.pe_callN F hr hg hm hk hb hd hx ha.h hn hdb⟩
theorem pe_makeN (M : Mk X.K C f) (F : FnOk X.prog X.w X.K X.mg X.base CX k f fd ps sp) (hr : Room (k + 1) X.A) (hg : Gl X x) (hm : X.mg x = some (.ref C)) (hb : Binds X.K fd ps ds) (hd : Vals dvs ds) (hx : Passes CX X E)
    (ha : QA X (e :: es) t) (hn : (e :: es).all noStar = true := by rfl) (hdb : (x == ("__debug__" : Str)) = false := by decide) : QE X (.Call (.Name x p) (e :: es) [] pos) (tMake C sp dvs E t) := ⟨L2.pe_makeN M F hr hg hm hb hd hx ha.h hn hdb⟩
theorem pe_callBN (hc : CallR X (.builtin id) rc) (hg : Gl X x) (hm : X.mg x = none) (hv : bootBuiltins x = some (.builtin id)) (ha : QA X (e :: es) t) (hn : (e :: es).all noStar = true := by rfl) (hne : x ≠ "__name__" := by decide) (hdb : (x == ("__debug__" : Str)) = false := by decide) :
    QE X (.Call (.Name x p) (e :: es) [] pos) (tCB rc t) := ⟨L2.pe_callBN hc hg hm hv ha.h hn hne hdb⟩
theorem pe_callTyN (hc : CallR X (.type T) rc) (hg : Gl X x) (hm : X.mg x = none) (hv : bootBuiltins x = some (.type T)) (ha : QA X (e :: es) t) (hn : (e :: es).all noStar = true := by rfl) (hne : x ≠ "__name__" := by decide) (hdb : (x == ("__debug__" : Str)) = false := by decide) :
    QE X (.Call (.Name x p) (e :: es) [] pos) (tCB rc t) := ⟨L2.pe_callTyN hc hg hm hv ha.h hn hne hdb⟩
theorem pe_fld {n : Str} (he : QE X e ta) (hb : attributeBase e n X.env (eval e X.env) = eval e X.env) : QE X (.Attribute e n pos) (tFld X.K ta n) := ⟨L2.pe_fld he.h hb⟩
theorem pe_ix (hr : IxR X r) (ha : QE X a ta) (hb : QE X b tb) (hs : PlainIx b) : QE X (.Subscript a b pos) (tOp r ta tb) := ⟨L2.pe_ix hr ha.h hb.h hs⟩
theorem po_none : QO X none tNoPart := ⟨L2.po_none⟩
theorem po_some (h : QE X e te) : QO X (some e) (tPart te) := ⟨L2.po_some h.h⟩
theorem pe_slice {rs : V → Option Int → Option Int → Hp → VK → Prop} {lo hi : Option Expr} {tl th : TO} (hr : SlR X rs) (he : QE X e te) (hl : QO X lo tl) (hu : QO X hi th) : QE X (.Subscript e (.Slice lo hi none p2) pos) (tSl rs te tl th) := ⟨L2.pe_slice hr he.h hl.h hu.h⟩
theorem pe_lst (h : QA X es t) : QE X (.List es pos) (tLst t) := ⟨L2.pe_lst h.h⟩
theorem pe_tup {k1} (h : QA X es t) : QE X (.Tuple es k1 pos) (tTup t) := ⟨L2.pe_tup h.h⟩
theorem pe_dnewK : QE X (.Dict [] [] pos) tDNewK := ⟨L2.pe_dnewK⟩
theorem pi_range1N (hg : Gl X "range") (hm : X.mg "range" = none) (ha : QA X [a] t) (hn : noStar a = true := by rfl) : QI X tg (.Call (.Name "range" p) [a] [] pos) (iRng1 t) := ⟨L2.pi_range1N hg hm ha.h hn⟩
theorem pi_range2N (hg : Gl X "range") (hm : X.mg "range" = none) (ha : QA X [a, b] t) (hn : noStar a = true := by rfl) (hn2 : noStar b = true := by rfl) : QI X tg (.Call (.Name "range" p) [a, b] [] pos) (iRng2 t) := ⟨L2.pi_range2N hg hm ha.h hn hn2⟩
theorem pi_list (hl : QE X e te) : QI X tg e (iList X.K te) := ⟨L2.pi_list hl.h⟩
theorem pi_tup (hl : QE X e te) : QI X tg e (iTup X.K te) := ⟨L2.pi_tup hl.h⟩
theorem pg_name {i : Nat} (hN : X.N.Nodup) (hi : X.N[i]? = some x) (hx : Loc X.env.scope x) (hf : X.fn x = true ∨ X.env.scope.names.lookup x = some .local := by first | exact .inl rfl | exact .inr rfl | assumption) : QG X (.Name x pos) (gName i) := ⟨L2.pg_name hN hi hx hf⟩
theorem pgs_nil : QGs X [] gNil := ⟨L2.pgs_nil⟩
theorem pgs_cons {e : Expr} {es : List Expr} {t : TG} {u : TGs} (h1 : QG X e t) (h2 : QGs X es u) (hs : (assignEach (e :: es) X.env).map (·.2) = assign e X.env :: (assignEach es X.env).map (·.2) := by rfl) : QGs X (e :: es) (gCons t u) := ⟨L2.pgs_cons h1.h h2.h hs⟩
theorem pg_tup {k1 n : Nat} (hc : X.calm = true) (h : QGs X es gs) (hn : (assignEach es X.env).length = n := by rfl) (hst : (assignEach es X.env).findIdx? (·.1) = none := by rfl) : QG X (.Tuple es k1 pos) (gTup X.K n gs) := ⟨L2.pg_tup hc h.h hn hst⟩
theorem pg_sub {i : Expr} {tset : TSet} (ho : QE X o to) (hi : QE X i ti) (hs : PSet X tset)
    (ha : ∀ v, assign (.Subscript o i pos) X.env v = (do
      let ov ← holding [v] (eval o X.env)
      let iv ← holding [v, ov] (eval i X.env)
      standAt pos
      holding [v, ov, iv] (setItem ov iv v)
      release [v, ov, iv] []) := by intro _; rfl) : QG X (.Subscript o i pos) (gSub to ti tset) := ⟨L2.pg_sub ho.h hi.h hs ha⟩
theorem pts_nil : QTs X [] tYes := ⟨L2.pts_nil⟩
theorem pts_one (h : QT X c tt) : QTs X [c] tt := ⟨L2.pts_one h.h⟩
theorem root {D : Ends} {σ : St} {H : Hp} (q : QSs X sts ts) (h : ts D σ H) : ∃ t, PSs X sts t ∧ t D σ H := ⟨ts, q.h, h⟩
theorem imp {ts' : TS} (q : QSs X sts ts) (h : ∀ D σ H, ts' D σ H → ts D σ H) : QSs X sts ts' := ⟨fun pins s σ H D I z => q.h pins s σ H D I (h D σ H z)⟩
theorem pss_nil : QSs X [] tNext := ⟨L2.pss_nil⟩
theorem pss_cons (h1 : QS X st ts) (h2 : QSs X sts us) : QSs X (st :: sts) (tSeq ts us) := ⟨L2.pss_cons h1.h h2.h⟩
theorem pss_one (h1 : QS X st ts) : QSs X [st] ts := ⟨L2.pss_one h1.h⟩
theorem ps_never : QS X st tNever := ⟨L2.ps_never⟩
theorem ps_expr (he : QE X e te) (hs : swapsWith e none pos.line X.env = pure false := by rfl) : QS X (.Expr e pos) (tDrop te) := ⟨L2.ps_expr he.h hs⟩
theorem ps_ret (he : QE X e te) : QS X (.Return (some e) pos) (tRet te) := ⟨L2.ps_ret he.h⟩
theorem ps_if (hc : QT X c tt) (ha : QSs X sts ts) (hb : QSs X sts2 us) : QS X (.If c sts sts2 pos) (tIfS tt ts us) := ⟨L2.ps_if hc.h ha.h hb.h⟩
theorem ps_set {i : Nat} {pos' : Pos} (hN : X.N.Nodup) (hi : X.N[i]? = some x) (hx : Loc X.env.scope x) (he : QE X e te) (hs : swapsWith e (some (.Name x pos')) pos.line X.env = pure false := by rfl) (hf : X.fn x = true ∨ X.env.scope.names.lookup x = some .local := by first | exact .inl rfl | exact .inr rfl | assumption) :
    QS X (.Assign [.Name x pos'] e pos) (tAsg te (gName i)) := ⟨L2.ps_set hN hi hx he.h hs hf⟩
theorem ps_asg (he : QE X e te) (hg : QG X tg g) (hs : swapsWithSole [tg] e pos.line X.env = pure false := by rfl) (hw : swappedStores [tg] e X.env = pure none := by rfl)
    (h1 : (assignEach [tg] X.env).map (·.2) = [assign tg X.env] := by rfl) : QS X (.Assign [tg] e pos) (tAsg te g) := ⟨L2.ps_asg he.h hg.h hs hw h1⟩
theorem ps_aug {i : Nat} {op : Operator} {tip : TIp} {pos' : Pos} (hN : X.N.Nodup) (hi : X.N[i]? = some x) (hx : Loc X.env.scope x) (he : QE X e te) (ho : PIp X op tip) (hf : X.fn x = true ∨ X.env.scope.names.lookup x = some .local := by first | exact .inl rfl | exact .inr rfl | assumption) :
    QS X (.AugAssign (.Name x pos') op e pos) (tAug i te tip) := ⟨L2.ps_aug hN hi hx he.h ho hf⟩
theorem ps_augS {i : Expr} {tget : V → V → Hp → VK → Prop} {tip : TIp} {tset : TSet} {op : Operator} {tpos : Pos} (ho : QE X o to) (hi : QE X i ti) (hg : PGet X tget) (he : QE X e te) (hp : PIp X op tip) (hs : PSet X tset)
    (ha : ∀ ov iv new, augStore i ov iv new = (do holding [new, ov, iv] (setItem ov iv new); release [new, ov, iv] []; pure .next) := by intros; rfl) : QS X (.AugAssign (.Subscript o i tpos) op e pos) (tAugS to ti te tget tip tset) := ⟨L2.ps_augS ho.h hi.h hg he.h hp hs ha⟩
theorem ps_fld {n : Str} {pos' : Pos} (ha : QE X o ta) (hv : QE X e te) (hs : swapsWith e (some (.Attribute o n pos')) pos.line X.env = pure false) : QS X (.Assign [.Attribute o n pos'] e pos) (sFld X.K ta te n) := ⟨L2.ps_fld ha.h hv.h hs⟩
theorem ps_for (hp : PassesOwn (model X.prog X.w) X.A X.env X.xe) (hc : X.calm = true) (hi : QI X tg iter wi) (hg : QG X tg g) (hb : QSs X sts ts)
    (hs : ∀ x, foldedSetIterable iter X.env x = pure x := by intro _; rfl) : QS X (.For tg iter sts [] pos) (tFor wi g ts) := ⟨L2.ps_for hp hc hi.h hg.h hb.h hs⟩
variable {scope : Scope} {elt target : Expr} {ifs : List Expr} {N : List Str}
theorem pe_comp {k : Nat} {idx : List Nat} {N : List Str} (S : BlkScope X scope N k idx) (hc : X.calm = true) (hi : QI X target iter wi)
    (hg : ∀ fp C s H, QG (cxC X scope N fp C s H) target g) (ho : Own k g) (ht : ∀ fp C s H, QTs (cxC X scope N fp C s H) ifs tt) (he : ∀ fp C s H, QE (cxC X scope N fp C s H) elt te)
    (hs : ∀ x, foldedSetIterable iter X.env x = pure x := by intro _; rfl) : QE X (.ListComp elt [⟨target, iter, ifs, 0⟩] scope pos) (tComp wi k idx g tt te) :=
  ⟨L2.pe_comp k idx S hc hi.h (fun fp C s H => (hg fp C s H).h) ho (fun fp C s H => (ht fp C s H).h) (fun fp C s H => (he fp C s H).h) hs⟩
theorem ps_setC {k : Nat} {idx : List Nat} {i : Nat} {N : List Str} {pos' : Pos} (hN : X.N.Nodup) (hix : X.N[i]? = some x) (hx : Loc X.env.scope x)
    (S : BlkScope X scope N k idx) (hc : X.calm = true) (hi : QI X target iter wi)
    (hg : ∀ fp C s H, QG (cxC X scope N fp C s H) target g) (ho : Own k g) (ht : ∀ fp C s H, QTs (cxC X scope N fp C s H) ifs tt) (he : ∀ fp C s H, QE (cxC X scope N fp C s H) elt te)
    (hsw : swapsWith (.ListComp elt [⟨target, iter, ifs, 0⟩] scope pos) (some (.Name x pos')) spos.line X.env = pure true := by rfl)
    (hs : ∀ x, foldedSetIterable iter X.env x = pure x := by intro _; rfl) (hfn : X.fn x = true ∨ X.env.scope.names.lookup x = some .local := by first | exact .inl rfl | exact .inr rfl | assumption) :
    QS X (.Assign [.Name x pos'] (.ListComp elt [⟨target, iter, ifs, 0⟩] scope pos) spos) (tAsg (tComp wi k idx g tt te) (gName i)) :=
  ⟨L2.ps_setC k idx hN hix hx S hc hi.h (fun fp C s H => (hg fp C s H).h) ho (fun fp C s H => (ht fp C s H).h) (fun fp C s H => (he fp C s H).h) hsw hs hfn⟩
variable {x1 : Nat} {e1 e2 e3 e4 e5 e6 e7 e8 : Expr} {t1 t2 t3 t4 t5 t6 t7 t8 : TE}
theorem lst1 (h1 : QE X e1 t1) (n1 : noStar e1 = true := by rfl) : QE X (.List [e1] pos) (tLst (tCons t1 tNil)) := ⟨L2.lst1 h1.h n1⟩
theorem lst2 (h1 : QE X e1 t1) (h2 : QE X e2 t2) (n1 : noStar e1 = true := by rfl) (n2 : noStar e2 = true := by rfl) : QE X (.List [e1, e2] pos) (tLst (tCons t1 (tCons t2 tNil))) := ⟨L2.lst2 h1.h h2.h n1 n2⟩
theorem tup2 {k1} (h1 : QE X e1 t1) (h2 : QE X e2 t2) (n1 : noStar e1 = true := by rfl) (n2 : noStar e2 = true := by rfl) : QE X (.Tuple [e1, e2] k1 pos) (tTup (tCons t1 (tCons t2 tNil))) := ⟨L2.tup2 h1.h h2.h n1 n2⟩
theorem lst3 (h1 : QE X e1 t1) (h2 : QE X e2 t2) (h3 : QE X e3 t3) (n1 : noStar e1 = true := by rfl) (n2 : noStar e2 = true := by rfl) (n3 : noStar e3 = true := by rfl) : QE X (.List [e1, e2, e3] pos) (tLst (tCons t1 (tCons t2 (tCons t3 tNil)))) := ⟨L2.lst3 h1.h h2.h h3.h n1 n2 n3⟩
theorem tup3 {k1} (h1 : QE X e1 t1) (h2 : QE X e2 t2) (h3 : QE X e3 t3) (n1 : noStar e1 = true := by rfl) (n2 : noStar e2 = true := by rfl) (n3 : noStar e3 = true := by rfl) : QE X (.Tuple [e1, e2, e3] k1 pos) (tTup (tCons t1 (tCons t2 (tCons t3 tNil)))) := ⟨L2.tup3 h1.h h2.h h3.h n1 n2 n3⟩
theorem lst4 (h1 : QE X e1 t1) (h2 : QE X e2 t2) (h3 : QE X e3 t3) (h4 : QE X e4 t4) (n1 : noStar e1 = true := by rfl) (n2 : noStar e2 = true := by rfl) (n3 : noStar e3 = true := by rfl) (n4 : noStar e4 = true := by rfl) : QE X (.List [e1, e2, e3, e4] pos) (tLst (tCons t1 (tCons t2 (tCons t3 (tCons t4 tNil))))) := ⟨L2.lst4 h1.h h2.h h3.h h4.h n1 n2 n3 n4⟩
theorem lst7 (h1 : QE X e1 t1) (h2 : QE X e2 t2) (h3 : QE X e3 t3) (h4 : QE X e4 t4) (h5 : QE X e5 t5) (h6 : QE X e6 t6) (h7 : QE X e7 t7) (n1 : noStar e1 = true := by rfl) (n2 : noStar e2 = true := by rfl) (n3 : noStar e3 = true := by rfl) (n4 : noStar e4 = true := by rfl) (n5 : noStar e5 = true := by rfl) (n6 : noStar e6 = true := by rfl) (n7 : noStar e7 = true := by rfl) : QE X (.List [e1, e2, e3, e4, e5, e6, e7] pos) (tLst (tCons t1 (tCons t2 (tCons t3 (tCons t4 (tCons t5 (tCons t6 (tCons t7 tNil)))))))) := ⟨L2.lst7 h1.h h2.h h3.h h4.h h5.h h6.h h7.h n1 n2 n3 n4 n5 n6 n7⟩
end
end L2.Q
namespace L2.Q
open PySem PySem.Spec PyProof.Rows L2
section
variable {X : Cx} {CX : CXT} {k : Nat} {f C : Addr} {fd : FuncData} {ps : List Str} {sp : Sp} {dvs : List V} {ds : List Value} {E : XK} {x m : Str} {p pos apos p2 spos cpos tp : Pos} {a b c e o st : Expr} {es rest elts : List Expr} {ta tb tc te to ti : TE} {t : TA} {x1 : Nat} {ts : TO}
theorem pi_enum (hg : Gl X "enumerate") (hm : X.mg "enumerate" = none) (ha : QA X [a] t) (hn : noStar a = true := by rfl) : QI X (.Tuple elts x1 tp) (.Call (.Name "enumerate" p) [a] [] pos) (iEnum X.K t) := ⟨L2.pi_enum hg hm ha.h hn⟩
theorem pe_app (ho : QE X o to) (ha : QA X [e] t) (hn : noStar e = true := by rfl) (hbase : attributeBase o "append" X.env (eval o X.env) = eval o X.env := by rfl) (hline : (apos.endLine == cpos.line) = true := by rfl) :
    QE X (.Call (.Attribute o "append" apos) [e] [] cpos) (tBM X.K "list" rAppend to t) := ⟨L2.pe_app ho.h ha.h hn hbase hline⟩
end
end L2.Q
namespace L2.Q
open PySem PySem.Spec PyProof.Rows L2
section
variable {X : Cx} {K' : PySem.W.Frag} {x m n : Str} {p pos apos p2 spos cpos tp pos' : Pos} {a b c e o st iter tg : Expr} {es rest elts : List Expr} {ta tb tc te to ti : TE} {t : TA} {x1 : Nat} {ts : TO}
theorem pe_ixK (ha : QE X a ta) (hb : QE X b tb) (hs : PlainIx b) (hK : X.K = K' := by rfl) : QE X (.Subscript a b pos) (tOp (rIx K') ta tb) := by subst hK; exact ⟨L2.pe_ix ix_seq ha.h hb.h hs⟩
theorem pi_listK (hl : QE X e te) (hK : X.K = K' := by rfl) : QI X tg e (iList K' te) := by subst hK; exact ⟨L2.pi_list hl.h⟩
theorem pi_tupK (hl : QE X e te) (hK : X.K = K' := by rfl) : QI X tg e (iTup K' te) := by subst hK; exact ⟨L2.pi_tup hl.h⟩
theorem pi_enumK (hg : Gl X "enumerate") (hm : X.mg "enumerate" = none) (ha : QA X [a] t) (hn : noStar a = true := by rfl) (hK : X.K = K' := by rfl) : QI X (.Tuple elts x1 tp) (.Call (.Name "enumerate" p) [a] [] pos) (iEnum K' t) := by subst hK; exact ⟨L2.pi_enum hg hm ha.h hn⟩
theorem pg_tupK {k1 n : Nat} {gs : TGs} (hc : X.calm = true) (h : QGs X es gs) (hn : (assignEach es X.env).length = n := by rfl) (hst : (assignEach es X.env).findIdx? (·.1) = none := by rfl) (hK : X.K = K' := by rfl) : QG X (.Tuple es k1 pos) (gTup K' n gs) := by subst hK; exact ⟨L2.pg_tup hc h.h hn hst⟩
theorem pe_fldK (he : QE X e ta) (hb : attributeBase e n X.env (eval e X.env) = eval e X.env) (hK : X.K = K' := by rfl) : QE X (.Attribute e n pos) (tFld K' ta n) := by subst hK; exact ⟨L2.pe_fld he.h hb⟩
theorem ps_fldK (ha : QE X o ta) (hv : QE X e te) (hs : swapsWith e (some (.Attribute o n pos')) pos.line X.env = pure false) (hK : X.K = K' := by rfl) : QS X (.Assign [.Attribute o n pos'] e pos) (sFld K' ta te n) := by subst hK; exact ⟨L2.ps_fld ha.h hv.h hs⟩
theorem pe_appK (ho : QE X o to) (ha : QA X [e] t) (hn : noStar e = true := by rfl) (hbase : attributeBase o "append" X.env (eval o X.env) = eval o X.env := by rfl) (hline : (apos.endLine == cpos.line) = true := by rfl) (hK : X.K = K' := by rfl) :
    QE X (.Call (.Attribute o "append" apos) [e] [] cpos) (tBM K' "list" rAppend to t) := by subst hK; exact ⟨L2.pe_app ho.h ha.h hn hbase hline⟩
end
end L2.Q
namespace L2.Q
open PySem PySem.Spec PyProof.Rows L2
section
variable {X : Cx} {K' : PySem.W.Frag} {p pos tp : Pos} {a b : Expr} {elts : List Expr} {t : TA} {x1 : Nat}
end
end L2.Q
namespace L2
open PySem
section
variable {prog : Program} {w : World} {A : Around} {E : Value → Shared → Prop} {s : Shared}
end
def SIt (h : Heap) (k : Bool) (it src : Addr) (i : Nat) : Prop := if k = true then h.IsListIter it src i else h.IsTupleIter it src i
def SSrc (h : Heap) (k : Bool) (src : Addr) (items : Array Value) : Prop := if k = true then h.IsList src items else h.IsTuple src items
theorem SIt.at {h h' : Heap} {k : Bool} {it src : Addr} {i : Nat} (x : SIt h k it src i) (e : ∀ o, h.get? it = some o → h'.get? it = some o) : SIt h' k it src i := by
  cases k with
  | true => obtain ⟨o, ho, r⟩ := (show h.IsListIter it src i from x); exact (show h'.IsListIter it src i from ⟨o, e o ho, r⟩)
  | false => obtain ⟨o, ho, r⟩ := (show h.IsTupleIter it src i from x); exact (show h'.IsTupleIter it src i from ⟨o, e o ho, r⟩)
theorem SSrc.at {h h' : Heap} {k : Bool} {src : Addr} {items : Array Value} (x : SSrc h k src items) (e : ∀ o, h.get? src = some o → h'.get? src = some o) : SSrc h' k src items := by
  cases k with
  | true => obtain ⟨o, ho, r⟩ := (show h.IsList src items from x); exact (show h'.IsList src items from ⟨o, e o ho, r⟩)
  | false => obtain ⟨o, ho, r⟩ := (show h.IsTuple src items from x); exact (show h'.IsTuple src items from ⟨o, e o ho, r⟩)
theorem SIt.obj {h : Heap} {k : Bool} {it src : Addr} {i : Nat} (x : SIt h k it src i) : ∃ o vs, h.get? it = some o ∧ o.data = .fields vs := by
  cases k with
  | true => obtain ⟨o, ho, _, r⟩ := (show h.IsListIter it src i from x); exact ⟨o, _, ho, r⟩
  | false => obtain ⟨o, ho, _, r⟩ := (show h.IsTupleIter it src i from x); exact ⟨o, _, ho, r⟩
section
variable {prog : Program} {w : World} {A : Around} {E : Value → Shared → Prop} {s : Shared}
end
abbrev ZS := Bool × Addr × Addr
abbrev IsTupN (h : Heap) (T : Addr) (vs : Array Value) : Prop := h.get? T = some { cls := .type "tuple", data := .seq vs }
section
variable {prog : Program} {w : World} {A : Around} {E : Value → Shared → Prop} {s : Shared}
end
def ZSt (z TI TO : Addr) (L : List ZS) (i : Nat) (h : Heap) : Prop :=
  IsZip h z TI TO .none ∧ IsTupN h TI (L.map fun t => Value.ref t.2.1).toArray ∧ (∃ arr, IsTupN h TO arr ∧ arr.size = L.length) ∧ ∀ t ∈ L, SIt h t.1 t.2.1 t.2.2 i
abbrev itObj (k : Bool) (src : Addr) : Obj := { cls := .type (if k = true then "list_iterator" else "tuple_iterator"), data := .fields #[.ref src, .int 0 0] }
theorem SIt.new {h : Heap} {k : Bool} {it src : Addr} (e : h.get? it = some (itObj k src)) : SIt h k it src 0 := by
  cases k with
  | true => exact (show h.IsListIter it src 0 from ⟨_, e, rfl, rfl⟩)
  | false => exact (show h.IsTupleIter it src 0 from ⟨_, e, rfl, rfl⟩)
section
variable {prog : Program} {w : World} {A : Around} {E : Value → Shared → Prop} {s : Shared}
end
section
variable {prog : Program} {w : World} {A : Around} {E : Value → Shared → Prop} {s : Shared}
end
end L2
namespace L2
open PySem PySem.Spec PyProof.Rows
def Src (H : Hp) (k : Bool) (a : Addr) (xs : List V) : Prop := H a = some (if k = true then .lst xs else .tup xs)
theorem Src.inj {H : Hp} {k : Bool} {a : Addr} {xs ys : List V} (h : Src H k a xs) (h' : Src H k a ys) : xs = ys := by
  unfold Src at h h'
  rw [h] at h'
  cases k with
  | true => injection h' with e; injection e
  | false => injection h' with e; injection e
theorem Src.lst {H : Hp} {a : Addr} {xs : List V} (h : H a = some (.lst xs)) : Src H true a xs := h
theorem Src.tup {H : Hp} {a : Addr} {xs : List V} (h : H a = some (.tup xs)) : Src H false a xs := h
theorem Inv.src {X : Cx} {pins : List (Addr × Obj)} {σ : St} {H : Hp} {s : Shared} {k : Bool} {a : Addr} {xs : List V} (I : Inv X pins σ H s) (h : Src H k a xs) : ∃ its : List Value, Vals xs its ∧ SSrc s.heap k a its.toArray ∧ xs.length ≤ sizeLine := by
  cases k with
  | true =>
    obtain ⟨its, r, p, z⟩ := I.list (SqL.of h)
    exact ⟨its, r, p.isList, z⟩
  | false =>
    obtain ⟨its, r, p, z⟩ := I.tuple (SqT.of h)
    exact ⟨its, r, p, z⟩
abbrev zFp (z TI TO : Addr) (L : List ZS) : List Addr := z :: TI :: TO :: L.map (·.2.1)
theorem ZSt.obj {z TI TO : Addr} {L : List ZS} {i : Nat} {h : Heap} (st : ZSt z TI TO L i h) : ∀ b ∈ zFp z TI TO L, ∃ o, h.get? b = some o ∧ ∀ v, o.data ≠ .cell v := fun b hb => by
  obtain ⟨hz, hTI, ⟨arr, hTO, _⟩, hit⟩ := st
  simp only [zFp, List.mem_cons] at hb
  rcases hb with rfl | rfl | rfl | hb
  · exact ⟨_, hz, fun v z => by cases z⟩
  · exact ⟨_, hTI, fun v z => by cases z⟩
  · exact ⟨_, hTO, fun v z => by cases z⟩
  · obtain ⟨t, ht, rfl⟩ := List.mem_map.mp hb
    obtain ⟨o, vs, e, d⟩ := (hit t ht).obj
    exact ⟨o, e, fun v z => by rw [d] at z; cases z⟩
section
variable {X : Cx} {elts : List Expr} {x1 : Nat} {tp : Pos} {k1 k2 k3 : Bool}
end
section
variable {σ : St} {H : Hp} {nx : St → Hp → Prop} {rt : VK} {g : TG} {tb : TS} {Q : VK} {k1 k2 k3 : Bool} {a b c : Addr} {xs ys zs : List V} {n : Nat}
end
section
variable {σ₀ : St} {g : TG} {tt : TT} {te : TE} {R : List V → Hp → Prop} {H : Hp} {k1 k2 k3 : Bool} {a b c : Addr} {xs ys zs : List V} {n : Nat}
end
section
variable {X : Cx}
end
end L2
namespace L2.Q
open PySem PySem.Spec PyProof.Rows L2
section
variable {X : Cx} {p pos tp : Pos} {a b c : Expr} {elts : List Expr} {t : TA} {x1 : Nat} {k1 k2 k3 : Bool}
end
end L2.Q
namespace L2
open PySem PySem.Spec PyProof.Rows
theorem nw {H : Hp} {p : Addr} (o : HO) (n : H p = none) : ∃ H2, upd H p o = H2 ∧ Same H H2 ∧ H2 p = some o := ⟨_, rfl, Same.new n, upd_same⟩
theorem wr (H : Hp) (p : Addr) (o : HO) : ∃ H2, upd H p o = H2 ∧ Keep p H H2 ∧ H2 p = some o := ⟨_, rfl, Keep.upd, upd_same⟩
end L2
namespace L2
open PySem PySem.Spec PyProof.Rows
end L2
namespace L2
open PySem PySem.Spec PyProof.Rows
def Nx (N : St → Hp → Prop) (σ : St) (H : Hp) : Prop := N σ H
structure Tail (N b : St → Hp → Prop) : Prop where
  h : ∀ σ H, b σ H → N σ H
theorem rd_seqH {nx bk ct : St → Hp → Prop} {rt : VK} {σ : St} {H : Hp} {t u : TS} (h : ∀ N, Tail N (u ⟨nx, rt, bk, ct⟩) → t ⟨Nx N, rt, bk, ct⟩ σ H) : tSeq t u ⟨nx, rt, bk, ct⟩ σ H := h _ ⟨fun _ _ h => h⟩
theorem rd_nx {N b : St → Hp → Prop} {σ : St} {H : Hp} (t : Tail N b) (h : b σ H) : Nx N σ H := t.h _ _ h
end L2
namespace L2
open PySem PySem.Spec PyProof.Rows
section
variable {prog : Program} {w : World} {A : Around} {E : Value → Shared → Prop} {s : Shared} {K : PySem.W.Frag} {x C : Addr} {ox : Obj} {od : Option Obj}
end
section
variable {X : Cx}
end
end L2
namespace L2
open PySem PySem.Spec PyProof.Rows
section
variable {X : Cx} {pins : List (Addr × Obj)} {σ : St} {H : Hp} {s : Shared}
end
theorem ObjOk.obj {P : Program} {w : World} {H : Hp} {h : Heap} {a : Addr} {o : HO} (x : ObjOk P w H h a o) : ∃ u, h.get? a = some u := by
  cases o with
  | lst xs => obtain ⟨_, _, _, _, e⟩ := x; exact ⟨_, e⟩
  | tup xs => obtain ⟨_, _, _, u, e, _⟩ := x; exact ⟨u, e⟩
  | dK kvs => obtain ⟨_, _, _, _, u, _, _, e, _⟩ := x; exact ⟨u, e⟩
  | dT kvs => obtain ⟨_, _, _, _, u, _, _, e, _⟩ := x; exact ⟨u, e⟩
  | set S n => obtain ⟨u, _, _, _, e, _⟩ := x; exact ⟨u, e⟩
  | ins C dx fs => obtain ⟨_, _, _, e, _⟩ := x; exact ⟨_, e⟩
  | own y => exact x
  | xd fs => obtain ⟨_, ⟨u, _, _, e, _⟩, _⟩ := x; exact ⟨u, e⟩
  | rng lo hi => obtain ⟨_, _, _, e⟩ := x; exact ⟨_, e⟩
  | frz ob u => exact ⟨_, x.1⟩
  | tbl ps => exact ⟨_, x⟩
  | met f y => exact ⟨_, x⟩
  | ext φ => exact x.2.1
  | cod q => obtain ⟨o, _, _, e, _⟩ := x; exact ⟨o, e⟩
  | ctb pos q => obtain ⟨_, e, _⟩ := x; exact ⟨_, e⟩
theorem Inv.laidN {X : Cx} {pins : List (Addr × Obj)} {σ : St} {H : Hp} {s : Shared} {h' : Heap} {a : Addr} {o : HO} {t' : Nat} (I : Inv X pins σ H s) (k : ∀ b u, s.heap.get? b = some u → h'.get? b = some u) (hne : ∀ b u, s.heap.get? b = some u → b ≠ a)
    (new : ObjOk X.prog X.w (upd H a o) h' a o) : H a = none ∧ Inv X pins σ (upd H a o) { s with heap := h', toks := t' } := by
  have hn : H a = none := by
    cases e : H a with
    | none => rfl
    | some u =>
      obtain ⟨ob, z⟩ := (I.hok a u e).obj
      exact absurd rfl (hne a ob z)
  refine ⟨hn, I.un ⟨fun b u q _ _ _ => k b u q, fun b u q _ _ _ => ⟨u.slots, k b u q⟩, fun b u q n _ => ?_, fun b u q _ => ⟨u, k b u q⟩, fun b xs q => ?_, fun b u xs q => ?_, fun b ps q => ⟨#[], ?_⟩⟩ fun b u e => ?_⟩
  · rw [upd_ne (hne b u q)]; exact n
  · rw [upd_ne (ne_of_none q hn)]; exact q
  · rw [upd_ne (ne_of_none q hn)]; exact q
  · rw [upd_ne (ne_of_none q hn), q]; simp
  · by_cases hb : b = a
    · subst hb; rw [upd_same] at e; cases e; exact new
    · rw [upd_ne hb] at e
      exact (I.hok b u e).stay (fun c v _ q => k c v q) (fun c q => by rw [upd_ne (ne_of_none q hn)]; exact q) fun c xs _ q => by rw [upd_ne (ne_of_none q hn)]; exact q
section
variable {X : Cx} {tg : Expr}
end
section
variable {σ : St} {H : Hp} {nx : St → Hp → Prop} {rt : VK} {g : TG} {tb : TS}
end
section
variable {X : Cx}
end
section
variable {X : Cx} {o e : Expr} {to : TE} {apos cpos : Pos}
end
section
variable {K : PySem.W.Frag} {σ : St} {H : Hp} {Q : VK}
end
end L2
namespace L2.Q
open PySem PySem.Spec PyProof.Rows
section
variable {X : Cx} {K' : PySem.W.Frag} {tg o i value l : Expr} {to td ty tv tl : TE} {pos pos' apos cpos : Pos}
theorem ps_dput (hu : X.A.units + 9 < cLine) (ho : QE X o td) (hi : QE X i ty) (hv : QE X value tv) (hs : swapsWith value (some (.Subscript o i pos')) pos.line X.env = pure false := by rfl) :
    QS X (.Assign [.Subscript o i pos'] value pos) (sDPut td ty tv) := ⟨L2.ps_dput (by omega) ho.h hi.h hv.h hs⟩
end
end L2.Q
namespace L2
open PySem PySem.Spec PyProof.Rows
section
variable {σ : St} {H : Hp} {Q : VK} {nx bk ct : St → Hp → Prop} {rt : VK}
theorem rd_dput {td ty tv : TE} (h : tv σ H fun v H1 => td σ H1 fun x H2 => ty σ H2 fun y H3 => ∃ a H4, x = .ref a ∧ DPut H3 a y v H4 ∧ nx σ H4) : sDPut td ty tv ⟨nx, rt, bk, ct⟩ σ H := h
end
end L2
namespace L2
open PySem PySem.Spec PyProof.Rows
section
variable {prog : Program} {w : World} {A : Around} {E : Value → Shared → Prop} {s : Shared} {K : PySem.W.Frag} {x C : Addr} {ox : Obj} {od : Option Obj} {name : Str} {v : Value} {expr : Bool}
end
section
variable {prog : Program} {w : World} {A : Around} {E : Value → Shared → Prop} {s : Shared} {K : PySem.W.Frag} {x C : Addr} {o : Obj} {name : Str} {v : Value}
open PySem.Builtin PySem.Builtin.ObjectAttr in
end
section
variable {prog : Program} {w : World} {A : Around} {E : Value → Shared → Prop} {s : Shared} {K : PySem.W.Frag}
variable {nm q : Str} {C N fI : Addr} {bs bm bmB : List Value} {hdct : Bool} {sn : List Str} {sub : List Value} {ab : Bool} {col : Option Bool} {dd : Option Addr} {k0 k1 k2 k3 k5 : Option Value} {B newId initId : String}
end
structure Lft (fs : List Addr) (e : Addr) (oe : Obj) (h h' : Heap) : Prop where
  keep : ∀ b o, b ∉ fs → b ≠ e → h.get? b = some o → h'.get? b = some o
  slot : ∀ b o, b ∈ fs → h.get? b = some o → ∃ sl, h'.get? b = some { o with slots := sl }
  err : ∃ vs T oT ts, h'.get? e = some { oe with data := .fields vs } ∧ vs[1]? = some (.ref T) ∧ T ≠ e ∧ h.objs.size ≤ T ∧ h'.get? T = some oT ∧ oT.data = .fields ts ∧ ts[3]? = some .none
section
variable {M : Model} {A : Around} {E : Value → Shared → Prop} {s : Shared} {base : Heap} {env : Env} {outer : List Env} {L e : Addr} {oe : Obj} {vs : Array Value} {Q : Unit → Shared → Prop}
end
def ErrO (C : Addr) (od : Option Addr) (e : Addr) : HO := .ext fun h => ∃ o vs, h.get? e = some o ∧ o.cls = .ref C ∧ o.dict = od ∧ o.data = .fields vs
theorem errO_ok {P : Program} {w : World} {H : Hp} {h : Heap} {C e : Addr} {od : Option Addr} {o : Obj} {vs : Array Value} (h1 : h.get? e = some o) (h2 : o.cls = .ref C) (h3 : o.dict = od) (h4 : o.data = .fields vs) : ObjOk P w H h e (ErrO C od e) :=
  ⟨⟨o, vs, h1, h2, h3, h4⟩, ⟨o, h1⟩, fun _ _ z k => let ⟨o, vs, a, b, c, d⟩ := z; ⟨o, vs, k o a, b, c, d⟩⟩
theorem errO_at {P : Program} {w : World} {H : Hp} {h : Heap} {C e : Addr} {od : Option Addr} (x : ObjOk P w H h e (ErrO C od e)) : ∃ o vs, h.get? e = some o ∧ o.cls = .ref C ∧ o.dict = od ∧ o.data = .fields vs := x.1
section
variable {X : Cx} {pins : List (Addr × Obj)} {σ : St} {H : Hp} {s : Shared} {h' : Heap} {C e : Addr} {od : Option Addr} {oe : Obj}
theorem Inv.left (I : Inv X pins σ H s) (he : H e = some (ErrO C od e)) (ho : s.heap.get? e = some oe) (lf : Lft (frs X.stack) e oe s.heap h') : Inv X pins σ H { s with heap := h' } := by
  obtain ⟨o, vs, q1, q2, q3, q4⟩ := errO_at (I.hok e _ he)
  rw [ho] at q1
  cases q1
  have stk := I.stkFree
  obtain ⟨vs2, T, oT, ts, r1, _⟩ := lf.err
  have tr : ∀ b u, H b = some u → b ∉ frs X.stack := fun b u z hb => by rw [stk b hb] at z; cases z
  refine I.call (g' := s.gens) (d' := s.drawn) (t' := s.toks) (ch := []) ⟨fun b o z n hb _ => lf.keep b o hb (fun q => by rw [q, he] at n; cases n) z, fun b o z n hb _ => lf.slot b o hb z, fun b o z n _ => n, fun b o z _ => ?_, fun _ _ z => z, fun _ _ _ z => z, fun b ps z => ⟨#[], by rw [z]; simp⟩⟩ (fun a u z => ?_) I.bare (fun b z => nomatch z)
  · by_cases hb : b ∈ frs X.stack
    · obtain ⟨sl, q⟩ := lf.slot b o hb z; exact ⟨_, q⟩
    · by_cases hbe : b = e
      · subst hbe; exact ⟨_, r1⟩
      · exact ⟨o, lf.keep b o hb hbe z⟩
  · by_cases hae : a = e
    · subst hae
      rw [he] at z
      cases z
      exact errO_ok r1 q2 q3 rfl
    · refine (I.hok a u z).stay (fun b v hb q => ?_) (fun _ q => q) fun _ _ _ q => q
      rcases hb with rfl | hb
      · exact lf.keep _ v (tr _ _ z) hae q
      · exact lf.keep _ v (tr _ _ hb) (fun y => by rw [y, he] at hb; cases hb) q
end
end L2
namespace L2
open PySem PySem.Spec PyProof.Rows
section
variable {X : Cx} {pins : List (Addr × Obj)} {σ : St} {H : Hp} {s : Shared}
end
end L2
namespace L2
open PySem PySem.Spec PyProof.Rows
section
variable {X : Cx} {k : Nat} {f C : Addr} {fd : FuncData} {ps : List Str} {sp : Sp} {x : Str} {p pos : Pos} {e : Expr} {es : List Expr} {t : TA} {te : TE}
end
end L2
namespace L2
open PySem PySem.Spec PyProof.Rows
section
variable {X : Cx} {o e value : Expr} {f : Str} {pos pos' : Pos} {ta tv : TE}
end
end L2
namespace L2
open PySem PySem.Spec PyProof.Rows
section
variable {prog : Program} {w : World} {A : Around} {E : Value → Shared → Prop} {s : Shared} {K : PySem.W.Frag} {x D : Addr} {ox : Obj} {odo : Option Obj}
end
def DictOk (H : Hp) (od : Option Addr) : Prop := ∀ dx, od = some dx → ∃ fs, H dx = some (.xd fs)
theorem DictOk.none {H : Hp} : DictOk H none := fun _ z => nomatch z
theorem DictOk.some {H : Hp} {dx : Addr} {fs : List (Str × V)} (h : H dx = some (.xd fs)) : DictOk H (some dx) := fun _ z => by cases z; exact ⟨fs, h⟩
theorem DictOk.there {P : Program} {w : World} {H : Hp} {h : Heap} {od : Option Addr} (hok : HOk P w H h) (d : DictOk H od) : ∀ dx, od = Option.some dx → ∃ o, h.get? dx = Option.some o := fun dx z => by
  obtain ⟨fs, e⟩ := d dx z
  exact (hok dx _ e).obj
section
variable {X : Cx} {K : PySem.W.Frag} {H : Hp} {Q : VK}
end
end L2
namespace L2
open PySem PySem.Spec PyProof.Rows
abbrev TW := St → Hp → Addr → Prop
structure TrFree (X : Cx) (pins : List (Addr × Obj)) (T : Addr) : Prop where
  up : X.s₀.heap.objs.size ≤ T
  loc : T ≠ X.env.locals
  cell : ∀ x c, X.env.cells.lookup x = some c → c ≠ T
  pin : ∀ p ∈ X.pn ++ pins, p.1 ≠ T
section
variable {M : Model} {A : Around} {E : Value → Shared → Prop} {s : Shared} {base : Heap} {env : Env} {outer : List Env} {L e : Addr} {oe : Obj} {vs : Array Value} {Q : Unit → Shared → Prop}
variable {T : Addr} {oT : Obj} {ts : Array Value}
end
section
variable {X : Cx} {pins : List (Addr × Obj)} {σ : St} {H : Hp} {s : Shared} {h' : Heap} {C e T : Addr} {od : Option Addr} {oe : Obj}
end
structure Held (X : Cx) (pins : List (Addr × Obj)) (H : Hp) (h : Heap) (e : Addr) : Prop where
  ex : ∃ (C : Addr) (od : Option Addr) (oe : Obj) (vs : Array Value) (T : Addr) (oT : Obj) (ts : Array Value), H e = some (ErrO C od e) ∧ h.get? e = some oe ∧ oe.data = .fields vs ∧ vs[1]? = some (.ref T) ∧ T ≠ e ∧ TrFree X pins T ∧ H T = none ∧ h.get? T = some oT ∧ oT.data = .fields ts ∧ 3 < ts.size
def Caught (X : Cx) (pins : List (Addr × Obj)) (W : TW) (ev : Value) (s' : Shared) : Prop := ∃ (e : Addr) (σ : St) (H' : Hp), ev = .ref e ∧ Inv X pins σ H' s' ∧ Held X pins H' s'.heap e ∧ W σ H' e
def Cx.tr (X : Cx) (pins : List (Addr × Obj)) (W : TW) : Cx := { X with pn := X.pn ++ pins, xe := Caught X pins W }
section
variable {X : Cx} {pins pins' : List (Addr × Obj)} {σ : St} {H : Hp} {s : Shared} {W : TW} {e : Addr}
theorem Cx.Ok.tr (ok : X.Ok) : (X.tr pins W).Ok := ⟨ok.mod, ok.kind, ok.glob, ok.blt, ok.above, ok.inj, ok.has, ok.cab, ok.hd, ok.frames, ok.stk, ok.exf, ok.bs, ok.bsz, ok.noex, ok.exfs, ok.funs, ok.frf⟩
theorem Inv.tr (I : Inv X pins σ H s) : Inv (X.tr pins W) [] σ H s := ⟨I.ok.tr, I.os, I.bare, I.base, I.loc, I.cell, I.free, I.freeC, fun p hp => I.pin p (by rw [List.append_nil] at hp; exact hp), I.hok, I.len⟩
theorem Inv.trace {T : Addr} {h' : Heap} (I : Inv X pins σ H s) (F : TrFree X pins T) (hT : H T = none) (k : ∀ b, b ≠ T → h'.get? b = s.heap.get? b) : Inv X pins σ H { s with heap := h' } :=
  I.turned (t' := s.toks) (it := T) (fun b o hb z => (k b hb).trans z) hT F.loc (.inr F.up) F.cell F.pin
end
abbrev TH := Ends → St → Hp → Addr → Prop
section
variable {X : Cx} {x n : Str} {C0 : Addr} {i : Nat} {b₀ : Stmt} {suite body : List Stmt} {np pos : Pos} {rest : List ExceptHandler} {h₀ : ExceptHandler} {hs : List ExceptHandler} {ts : TS} {th : TH} {tb : TW → TS}
end
end L2
namespace L2
open PySem PySem.Spec PyProof.Rows
section
variable {X : Cx} {pn : List (Addr × Obj)} {W : TW} {k : Nat} {f C : Addr} {fd : FuncData} {ps : List Str} {sp : Sp} {x : Str} {p pos : Pos} {e : Expr} {es : List Expr} {t : TA}
end
structure RoomH (k : Nat) (A : Around) : Prop where
  dp : A.depth + 3 * k + 5 < recursionLimit
  un : A.units + 16 * k + 200 < cLine
theorem Room.h {k : Nat} {A : Around} (r : Room k A) : RoomH k A := ⟨r.dp, r.un⟩
theorem RoomH.mono {j k : Nat} {A : Around} (r : RoomH k A) (h : j ≤ k) : RoomH j A := ⟨by have := r.dp; omega, by have := r.un; omega⟩
theorem RoomH.calm {k : Nat} {A : Around} (r : RoomH k A) : Room k { A with handled := none } := ⟨rfl, r.dp, r.un⟩
section
variable {X : Cx} {k : Nat} {f : Addr} {fd : FuncData} {ps : List Str} {sp : Sp} {x : Str} {p pos : Pos} {e : Expr} {es : List Expr} {t : TA}
end
end L2
namespace L2
open PySem PySem.Spec PyProof.Rows
section
variable {K : PySem.W.Frag} {σ : St} {H : Hp} {Q : VK} {nx bk ct : St → Hp → Prop} {rt : VK}
end
end L2
namespace L2.Q
open PySem PySem.Spec PyProof.Rows L2
section
variable {X : Cx} {K' : PySem.W.Frag} {pn : List (Addr × Obj)} {W : TW} {k : Nat} {f C C0 : Addr} {fd : FuncData} {ps : List Str} {sp : Sp} {x n : Str} {p pos pos' np : Pos} {e o : Expr} {es : List Expr} {t : TA} {te ta : TE} {E : XK} {i : Nat} {b₀ : Stmt} {suite body : List Stmt} {rest hs : List ExceptHandler} {h₀ : ExceptHandler} {ts : TS} {th : TH} {tb : TW → TS}
end
end L2.Q
namespace L2
open PySem PySem.Spec PyProof.Rows
section
variable {X : Cx}
end
end L2
namespace L2
open PySem PySem.Spec PyProof.Rows
end L2
namespace L2
open PySem PySem.Spec PyProof.Rows
section
variable {X : Cx} {o e : Expr} {to : TE} {t : TA} {apos cpos : Pos}
end
end L2
namespace L2.Q
open PySem PySem.Spec PyProof.Rows L2
end L2.Q
namespace L2
open PySem PySem.W PyProof.Rows
section
variable {O : KeyOrd} {key : Nat → O.α} {N : Nat} {cmp : Nat → Nat → (Bool → Shared → Prop) → Shared → Prop} {s : Shared}
def kq (key : Nat → O.α) (p : Array Nat) (i : Nat) : O.α := key (p.getD i 0)
def Up (key : Nat → O.α) (p : Array Nat) (k : Nat) : Prop := ∀ i j, i ≤ j → j < k → O.kle (kq key p i) (kq key p j)
def Dn (key : Nat → O.α) (p : Array Nat) (k : Nat) : Prop := ∀ i j, i ≤ j → j < k → O.kle (kq key p j) (kq key p i)
def Row (N : Nat) (p : Array Nat) : Prop := p.Perm (List.toArray (List.range N))
theorem kq_at {p q : Array Nat} {i j : Nat} (h : p[i]? = q[j]?) : kq key p i = kq key q j := by
  unfold kq
  rw [Array.getD_eq_getD_getElem?, Array.getD_eq_getD_getElem?, h]
theorem kq_bub {p : Array Nat} {a d : Nat} (ha : a < p.size) (hd : d ≤ a) (k : Nat) : kq key (bubble p a d) k = if k = a - d then kq key p a else if a - d < k ∧ k ≤ a then kq key p (k - 1) else kq key p k := by
  have e := getElem?_bubble ha d hd k
  split
  · rename_i h; rw [if_pos h] at e; exact kq_at e
  · rename_i h
    rw [if_neg h] at e
    split
    · rename_i g; rw [if_pos g] at e; exact kq_at e
    · rename_i g; rw [if_neg g] at e; exact kq_at e
theorem kq_rev {p : Array Nat} {i j : Nat} (hj : j ≤ p.size) (k : Nat) : kq key (kas_rev p i j) k = if i ≤ k ∧ k < j then kq key p (i + j - 1 - k) else kq key p k := by
  have e := getElem?_mirror_all (i := i) hj k
  split
  · rename_i h; rw [if_pos h] at e; exact kq_at e
  · rename_i h; rw [if_neg h] at e; exact kq_at e
theorem Row.size {p : Array Nat} (h : Row N p) : p.size = N := by
  have := h.size_eq
  rw [this]
  simp
theorem Row.lt {p : Array Nat} (h : Row N p) (hN : 0 < N) (i : Nat) : p.getD i 0 < N := by
  by_cases hi : i < p.size
  · have e : p.getD i 0 = p[i] := by simp [Array.getD, hi]
    have m : p[i] ∈ p.toList := by simp
    have m2 := (Array.perm_iff_toList_perm.mp h).mem_iff.mp m
    rw [e]
    simpa using m2
  · have e : p.getD i 0 = 0 := by simp [Array.getD, hi]
    rw [e]; exact hN
theorem Row.rev {p : Array Nat} (h : Row N p) (i j : Nat) : Row N (kas_rev p i j) := (mirror_perm p i j _).trans h
theorem Row.bub {p : Array Nat} (h : Row N p) (i j : Nat) : Row N (bubble p i j) := (bubble_perm p i j).trans h
theorem Up.more {p : Array Nat} {m : Nat} (h : Up key p m) (e : O.kle (kq key p (m - 1)) (kq key p m)) : Up key p (m + 1) := fun i j hij hj => by
  by_cases hm : j < m
  · exact h i j hij hm
  · have ej : j = m := by omega
    subst ej
    by_cases hi : i = j
    · subst hi; exact KeyOrd.kle_refl _
    · exact KeyOrd.kle_trans (h i (j - 1) (by omega) (by omega)) e
theorem Dn.more {p : Array Nat} {m : Nat} (h : Dn key p m) (e : O.kle (kq key p m) (kq key p (m - 1))) : Dn key p (m + 1) := fun i j hij hj => by
  by_cases hm : j < m
  · exact h i j hij hm
  · have ej : j = m := by omega
    subst ej
    by_cases hi : i = j
    · subst hi; exact KeyOrd.kle_refl _
    · exact KeyOrd.kle_trans e (h i (j - 1) (by omega) (by omega))
def Ans (key : Nat → O.α) (N : Nat) (cmp : Nat → Nat → (Bool → Shared → Prop) → Shared → Prop) (s : Shared) : Prop := ∀ i j (C : Bool → Shared → Prop), i < N → j < N → C (O.blt (key i) (key j)) s → cmp i j C s
theorem Ans.ask {α : Type} (hc : Ans key N cmp s) (hN : 0 < N) {p : Array Nat} (hp : Row N p) {i j : Nat} {k : Bool → KasT α} {Q : α → Shared → Prop} (h1 : O.klt (kq key p i) (kq key p j) → (k true).kasWp cmp Q s) (h2 : O.kle (kq key p j) (kq key p i) → (k false).kasWp cmp Q s) :
    (KasT.ask (p.getD i 0) (p.getD j 0) k).kasWp cmp Q s := by
  refine hc _ _ _ (hp.lt hN i) (hp.lt hN j) ?_
  cases e : O.blt (key (p.getD i 0)) (key (p.getD j 0)) with
  | true => exact h1 e
  | false => exact h2 e
theorem asc_ok (hc : Ans key N cmp s) (hN : 0 < N) {p : Array Nat} (hp : Row N p) {Q : Nat → Shared → Prop} : ∀ {f m : Nat}, f = N - m → 1 ≤ m → m ≤ N → Up key p m →
    (∀ r, m ≤ r → r ≤ N → Up key p r → (r < N → O.klt (kq key p r) (kq key p (r - 1))) → Q r s) → (kas_asc p f m).kasWp cmp Q s
  | 0, m, hf, h1, hm, hu, h => h m (Nat.le_refl _) hm hu (fun z => by omega)
  | f + 1, m, hf, h1, hm, hu, h => by
    refine hc.ask hN hp (fun z => ?_) (fun z => ?_)
    · rw [if_pos rfl]
      exact h m (Nat.le_refl _) hm hu fun _ => z
    · rw [if_neg (by decide)]
      exact asc_ok hc hN hp (by omega) (by omega) (by omega) (hu.more z) fun r a b c d => h r (by omega) b c d
def Blk (key : Nat → O.α) (p : Array Nat) (n q : Nat) : Prop := ∀ i, n - (q + 1) ≤ i → i < n → kq key p i = kq key p (n - 1)
theorem Blk.same {p : Array Nat} {n q : Nat} (h : Blk key p n q) (hz : n ≤ p.size) (k : Nat) : kq key (kas_rev p (n - (q + 1)) n) k = kq key p k := by
  rw [kq_rev hz]
  split
  · rename_i g
    rw [h k g.1 g.2]
    exact h _ (by omega) (by omega)
  · rfl
theorem desc_ok (hc : Ans key N cmp s) (hN : 0 < N) {Q : Array Nat × Nat × Nat → Shared → Prop} : ∀ {f n q : Nat} {p : Array Nat}, Row N p → f = N - n → 1 ≤ n → n ≤ N → q + 1 ≤ n → Dn key p n → Blk key p n q →
    (∀ p' n' q', Row N p' → 1 ≤ n' → n' ≤ N → q' + 1 ≤ n' → Dn key p' n' → Blk key p' n' q' → Q (p', n', q') s) → (kas_desc f p n q).kasWp cmp Q s
  | 0, n, q, p, hp, hf, h1, hn, hq, hd, hb, h => h p n q hp h1 hn hq hd hb
  | f + 1, n, q, p, hp, hf, h1, hn, hq, hd, hb, h => by
    have hz : n ≤ p.size := by rw [hp.size]; exact hn
    refine hc.ask hN hp (fun z => ?_) (fun z => ?_)
    · rw [if_pos rfl]
      have hd' : Dn key p (n + 1) := hd.more (KeyOrd.kle_of_klt z)
      split
      · have e := hb.same hz
        refine desc_ok hc hN (hp.rev _ _) (by omega) (by omega) (by omega) (by omega) (fun i j a b => ?_) (fun i a b => ?_) h
        · rw [e, e]; exact hd' i j a b
        · have : i = n := by omega
          subst this; rfl
      · refine desc_ok hc hN hp (by omega) (by omega) (by omega) (by omega) hd' (fun i a b => ?_) h
        have : i = n := by omega
        subst this; rfl
    · rw [if_neg (by decide)]
      refine hc.ask hN hp (fun y => ?_) (fun y => ?_)
      · rw [if_pos rfl]
        exact h p n q hp h1 hn hq hd hb
      · rw [if_neg (by decide)]
        have e : kq key p (n - 1) = kq key p n := KeyOrd.kle_antisymm z y
        refine desc_ok hc hN hp (by omega) (by omega) (by omega) (by omega) (hd.more y) (fun i a b => ?_) h
        show kq key p i = kq key p n
        by_cases hi : i < n
        · rw [hb i (by omega) hi, e]
        · have : i = n := by omega
          subst this; rfl
theorem tail_ok (hc : Ans key N cmp s) (hN : 0 < N) {n : Nat} {p : Array Nat} {Q : Nat × Array Nat → Shared → Prop} (hp : Row N p) (h1 : 1 ≤ n) (hn : n ≤ N) (hd : Dn key p n) (h : ∀ m p', Row N p' → 1 ≤ m → m ≤ N → Up key p' m → Q (m, p') s) : (kas_tail3 n N p).kasWp cmp Q s := by
  have hz : n ≤ p.size := by rw [hp.size]; exact hn
  unfold kas_tail3
  rw [KasT.kasWp_bind]
  refine asc_ok hc hN (hp.rev 0 n) rfl h1 hn (fun i j a b => ?_) fun r a b c _ => h r _ (hp.rev 0 n) (by omega) b c
  rw [kq_rev hz, kq_rev hz, if_pos ⟨Nat.zero_le _, by omega⟩, if_pos ⟨Nat.zero_le _, b⟩]
  exact hd _ _ (by omega) (by omega)
theorem descPart_ok (hc : Ans key N cmp s) (hN : 0 < N) {n : Nat} {p : Array Nat} {Q : Nat × Array Nat → Shared → Prop} (hp : Row N p) (h1 : 1 ≤ n) (hn : n < N) (hd : Dn key p n) (hl : O.klt (kq key p n) (kq key p (n - 1))) (h : ∀ m p', Row N p' → 1 ≤ m → m ≤ N → Up key p' m → Q (m, p') s) :
    (kas_descPart n N p).kasWp cmp Q s := by
  unfold kas_descPart
  rw [KasT.kasWp_bind]
  refine desc_ok hc hN hp rfl (by omega) (by omega) (by omega) (hd.more (KeyOrd.kle_of_klt hl)) (fun i a b => by have : i = n := by omega
                                                                                                                 subst this; rfl) fun p' n' q' r1 r2 r3 r4 r5 r6 => ?_
  have hz : n' ≤ p'.size := by rw [r1.size]; exact r3
  split
  · refine tail_ok hc hN (r1.rev _ _) r2 r3 (fun i j a b => ?_) h
    have e := r6.same hz
    show O.kle (kq key (kas_rev p' (n' - (q' + 1)) n') j) (kq key (kas_rev p' (n' - (q' + 1)) n') i)
    rw [e, e]
    exact r5 i j a b
  · exact tail_ok hc hN r1 r2 r3 r5 h
theorem count_ok (hc : Ans key N cmp s) (hN : 0 < N) {p : Array Nat} {Q : Nat × Array Nat → Shared → Prop} (hp : Row N p) (h : ∀ m p', Row N p' → 1 ≤ m → m ≤ N → Up key p' m → Q (m, p') s) : (kas_count N p).kasWp cmp Q s := by
  unfold kas_count
  rw [KasT.kasWp_bind]
  refine asc_ok hc hN hp rfl (Nat.le_refl _) hN (fun i j a b => by have : i = j := by omega
                                                                   subst this; exact KeyOrd.kle_refl _) fun n a b c d => ?_
  have hz : n ≤ p.size := by rw [hp.size]; exact b
  split
  · exact h n p hp a b c
  · rename_i ne
    have nN : n < N := by
      have : n ≠ N := fun z => ne (by simp [z])
      omega
    split
    · refine hc.ask hN hp (fun z => ?_) (fun z => ?_)
      · rw [if_pos rfl]
        exact h n p hp a b c
      · rw [if_neg (by decide)]
        have all : ∀ i, i < n → kq key p i = kq key p 0 := fun i hi => KeyOrd.kle_antisymm (KeyOrd.kle_trans (c i (n - 1) (by omega) (by omega)) z) (c 0 i (by omega) hi)
        have e : ∀ k, kq key (kas_rev p 0 n) k = kq key p k := fun k => by
          rw [kq_rev hz]
          split
          · rw [all _ (by omega), all k (by omega)]
          · rfl
        refine descPart_ok hc hN (hp.rev 0 n) a nN (fun i j x y => ?_) ?_ h
        · rw [e, e, all i (by omega), all j y]
          exact KeyOrd.kle_refl _
        · rw [e, e]
          exact d nN
    · have n1 : n = 1 := by omega
      subst n1
      exact descPart_ok hc hN hp (Nat.le_refl _) nN (fun i j x y => by have : i = j := by omega
                                                                       subst this; exact KeyOrd.kle_refl _) (d nN) h
theorem place_ok (hc : Ans key N cmp s) (hN : 0 < N) {p : Array Nat} (hp : Row N p) {k : Nat} (hu : Up key p k) {Q : Nat → Shared → Prop} : ∀ {f l r : Nat}, l ≤ r → r ≤ k → r - l ≤ f →
    (∀ i, i < l → O.kle (kq key p i) (kq key p k)) → (∀ i, r ≤ i → i < k → O.klt (kq key p k) (kq key p i)) →
    (∀ m, m ≤ k → (∀ i, i < m → O.kle (kq key p i) (kq key p k)) → (∀ i, m ≤ i → i < k → O.klt (kq key p k) (kq key p i)) → Q m s) → (kas_place p k f l r).kasWp cmp Q s
  | 0, l, r, hlr, hrk, hf, ha, hb, h => h l (by omega) ha fun i x y => hb i (by omega) y
  | f + 1, l, r, hlr, hrk, hf, ha, hb, h => by
    unfold kas_place
    by_cases g : l ≥ r
    · rw [if_pos g]
      exact h l (by omega) ha fun i x y => hb i (by omega) y
    · rw [if_neg g]
      refine hc.ask hN hp (fun z => ?_) (fun z => ?_)
      · rw [if_pos rfl]
        refine place_ok hc hN hp hu (by omega) (by omega) (by omega) ha (fun i x y => ?_) h
        exact KeyOrd.klt_of_klt_of_kle z (hu _ i x y)
      · rw [if_neg (by decide)]
        refine place_ok hc hN hp hu (by omega) (by omega) (by omega) (fun i x => ?_) hb h
        exact KeyOrd.kle_trans (hu i _ (by omega) (by omega)) z
theorem bin_ok (hc : Ans key N cmp s) (hN : 0 < N) {Q : Array Nat → Shared → Prop} : ∀ {f k : Nat} {p : Array Nat}, Row N p → f = N - k → k ≤ N → Up key p k → (∀ p', Row N p' → Up key p' N → Q p' s) → (kas_bin f p k).kasWp cmp Q s
  | 0, k, p, hp, hf, hk, hu, h => h p hp (by have : k = N := by omega
                                             subst this; exact hu)
  | f + 1, k, p, hp, hf, hk, hu, h => by
    unfold kas_bin
    rw [KasT.kasWp_bind]
    refine place_ok hc hN hp hu (Nat.zero_le _) (Nat.le_refl _) (by omega) (fun i x => by omega) (fun i x y => by omega) fun m hm ha hb => ?_
    have kz : k < p.size := by rw [hp.size]; omega
    refine bin_ok hc hN (hp.bub k (k - m)) (by omega) (by omega) (fun i j hij hj => ?_) h
    have em : k - (k - m) = m := by omega
    rw [kq_bub kz (by omega), kq_bub kz (by omega), em]
    by_cases i1 : i = m
    · rw [if_pos i1]
      by_cases j1 : j = m
      · rw [if_pos j1]; exact KeyOrd.kle_refl _
      · rw [if_neg j1, if_pos (by omega)]
        exact KeyOrd.kle_of_klt (hb _ (by omega) (by omega))
    · rw [if_neg i1]
      by_cases i2 : m < i ∧ i ≤ k
      · rw [if_pos i2, if_neg (by omega), if_pos (by omega)]
        exact hu _ _ (by omega) (by omega)
      · rw [if_neg i2]
        by_cases j1 : j = m
        · rw [if_pos j1]
          exact ha i (by omega)
        · rw [if_neg j1]
          by_cases j2 : m < j ∧ j ≤ k
          · rw [if_pos j2]
            exact hu _ _ (by omega) (by omega)
          · rw [if_neg j2]
            exact hu _ _ (by omega) (by omega)
theorem sort_ok (hc : Ans key N cmp s) (hN : 0 < N) {Q : Array Nat → Shared → Prop} (h : ∀ p, Row N p → Up key p N → Q p s) : (kas_sort N).kasWp cmp Q s := by
  unfold kas_sort
  rw [KasT.kasWp_bind]
  refine count_ok hc hN (Array.Perm.refl _) fun m p hp h1 hm hu => ?_
  split
  · rename_i z
    have e : max m 1 = m := by omega
    show (kas_bin (N - max m 1) p (max m 1)).kasWp cmp Q s
    rw [e]
    exact bin_ok hc hN hp rfl hm hu h
  · rename_i z
    have z' : ¬ m < N := z
    have e : m = N := by omega
    subst e
    exact h p hp hu
end
end L2
namespace L2
open PySem PySem.W PyProof.Rows
def lexB : List Int → List Int → Bool
  | [], [] => false
  | [], _ :: _ => true
  | _ :: _, [] => false
  | a :: as, b :: bs => if a = b then lexB as bs else decide (a < b)
theorem lexB_cons (a b : Int) (as bs : List Int) : lexB (a :: as) (b :: bs) = if a = b then lexB as bs else decide (a < b) := rfl
theorem lexB_irrefl : ∀ as : List Int, lexB as as = false
  | [] => rfl
  | a :: as => by rw [lexB_cons, if_pos rfl]; exact lexB_irrefl as
theorem lexB_trans : ∀ as bs cs : List Int, lexB as bs = true → lexB bs cs = true → lexB as cs = true
  | [], [], _, h, _ => by cases h
  | [], _ :: _, [], _, h => by cases h
  | [], _ :: _, _ :: _, _, _ => rfl
  | _ :: _, [], _, h, _ => by cases h
  | _ :: _, _ :: _, [], _, h => by cases h
  | a :: as, b :: bs, c :: cs, h1, h2 => by
    rw [lexB_cons] at h1 h2 ⊢
    by_cases e1 : a = b
    · subst e1
      rw [if_pos rfl] at h1
      by_cases e2 : a = c
      · rw [if_pos e2] at h2 ⊢; exact lexB_trans as bs cs h1 h2
      · rw [if_neg e2] at h2 ⊢; exact h2
    · rw [if_neg e1] at h1
      have l1 := of_decide_eq_true h1
      by_cases e2 : b = c
      · subst e2
        rw [if_neg e1]; exact h1
      · rw [if_neg e2] at h2
        have l2 := of_decide_eq_true h2
        rw [if_neg (by omega)]
        exact decide_eq_true (by omega)
theorem lexB_neg : ∀ as bs cs : List Int, lexB as cs = true → lexB as bs = true ∨ lexB bs cs = true
  | [], [], _, h => .inr h
  | [], _ :: _, _, _ => .inl rfl
  | _ :: _, _, [], h => by cases h
  | _ :: _, [], _ :: _, _ => .inr rfl
  | a :: as, b :: bs, c :: cs, h => by
    rw [lexB_cons] at h
    rw [lexB_cons, lexB_cons]
    by_cases e1 : a = b
    · subst e1
      rw [if_pos rfl]
      by_cases e2 : a = c
      · rw [if_pos e2] at h ⊢; exact lexB_neg as bs cs h
      · rw [if_neg e2] at h ⊢; exact .inr h
    · rw [if_neg e1]
      by_cases e2 : b = c
      · subst e2
        rw [if_neg e1] at h
        exact .inl h
      · rw [if_neg e2]
        by_cases l : a < b
        · exact .inl (decide_eq_true l)
        · refine .inr (decide_eq_true ?_)
          by_cases e3 : a = c
          · omega
          · rw [if_neg e3] at h
            have := of_decide_eq_true h
            omega
theorem lexB_total : ∀ as bs : List Int, lexB as bs = false → lexB bs as = false → as = bs
  | [], [], _, _ => rfl
  | [], _ :: _, h, _ => by cases h
  | _ :: _, [], _, h => by cases h
  | a :: as, b :: bs, h1, h2 => by
    rw [lexB_cons] at h1 h2
    by_cases e : a = b
    · subst e
      rw [if_pos rfl] at h1 h2
      rw [lexB_total as bs h1 h2]
    · rw [if_neg e] at h1
      rw [if_neg (Ne.symm e)] at h2
      have := of_decide_eq_false h1
      have := of_decide_eq_false h2
      omega
def lexO : KeyOrd := ⟨List Int, lexB, lexB_irrefl, lexB_trans, lexB_neg, lexB_total⟩
theorem ints_of_vals : ∀ {ns : List Int} {its : List Value}, Vals (ns.map V.int) its → IntsAre its ns
  | [], _, r => by cases r; exact .nil
  | n :: ns, _, r => by
    cases r with
    | cons h t =>
      obtain ⟨u, rfl⟩ := h
      exact .cons n u (ints_of_vals t)
inductive Tups (h : Heap) : List Value → List (List Int) → Prop
  | nil : Tups h [] []
  | cons {x : Addr} {o : Obj} {xs : Array Value} {k : Nat} {t : List Int} {vs : List Value} {ts : List (List Int)} (e : h.get? x = some o) (c : o.cls = .type "tuple") (d : o.data = .seq xs k) (i : IntsAre xs.toList t) (ne : t ≠ []) (r : Tups h vs ts) : Tups h (.ref x :: vs) (t :: ts)
theorem Tups.length {h : Heap} {vs : List Value} {ts : List (List Int)} (r : Tups h vs ts) : vs.length = ts.length := by
  induction r with
  | nil => rfl
  | cons _ _ _ _ _ _ ih => rw [List.length_cons, List.length_cons, ih]
theorem Tups.at_ {h : Heap} {vs : List Value} {ts : List (List Int)} (r : Tups h vs ts) : ∀ {j : Nat}, j < vs.length → ∃ x o xs k, vs.getD j Value.none = .ref x ∧ h.get? x = some o ∧ o.data = .seq xs k ∧ IntsAre xs.toList (ts.getD j []) := by
  induction r with
  | nil => intro j hj; simp at hj
  | cons e c d i ne r ih =>
    intro j hj
    cases j with
    | zero => exact ⟨_, _, _, _, rfl, e, d, i⟩
    | succ j => exact ih (by simpa using hj)
theorem Tups.keeps {h h' : Heap} {vs : List Value} {ts : List (List Int)} (r : Tups h vs ts) (k : ∀ (b : Addr) (o : Obj), o.cls = .type "tuple" → h.get? b = some o → h'.get? b = some o) : Tups h' vs ts := by
  induction r with
  | nil => exact .nil
  | cons e c d i ne _ ih => exact .cons (k _ _ c e) c d i ne ih
theorem Tups.firsts {h : Heap} {vs : List Value} {ts : List (List Int)} (r : Tups h vs ts) : ∃ fs : List Value, KatTups h vs fs ∧ fs.length = vs.length ∧ ∀ v ∈ fs, ∃ n u, v = Value.int n u := by
  induction r with
  | nil => exact ⟨[], .nil, rfl, fun v z => by cases z⟩
  | @cons x o xs k t vs ts e c d i ne _ ih =>
    obtain ⟨fs, a1, a2, a3⟩ := ih
    obtain ⟨n, u, hx⟩ : ∃ n u, xs[0]? = some (Value.int n u) := by
      rw [← Array.getElem?_toList]
      generalize xs.toList = l at i
      cases i with
      | nil => exact absurd rfl ne
      | cons n u _ => exact ⟨n, u, rfl⟩
    refine ⟨.int n u :: fs, .cons e c d hx a1, by rw [List.length_cons, List.length_cons, a2], fun v z => ?_⟩
    rcases List.mem_cons.mp z with z | z
    · exact ⟨n, u, z⟩
    · exact a3 v z
section
variable {prog : Program} {w : World} {A : Around} {E : Value → Shared → Prop} {s : Shared}
theorem lex_walk {Q : Bool → Shared → Prop} : ∀ {xs ys : List Value} {as bs : List Int} {i : Nat} {fin : Bool}, IntsAre xs as → IntsAre ys bs → fin = decide (as.length < bs.length) → Q (lexB as bs) s → KatLex prog w A true fin Q (xs.zip ys) i s
  | _, _, _, _, i, fin, .nil, .nil, hf, h => kat_nil (by rw [hf]; exact h)
  | _, _, _, _, i, fin, .nil, .cons _ _ _, hf, h => kat_nil (by rw [hf]; exact h)
  | _, _, _, _, i, fin, .cons _ _ _, .nil, hf, h => kat_nil (by rw [hf]; exact h)
  | _, _, _, _, i, fin, .cons a t r, .cons b u q, hf, h => by
    refine kat_cons (wpAny_eqBool_int ?_)
    rw [lexB_cons] at h
    by_cases e : a = b
    · rw [if_pos e] at h
      rw [show (a == b) = true by simp [e]]
      refine kat_yes (lex_walk r q ?_ h)
      rw [hf, List.length_cons, List.length_cons]
      congr 1
      apply propext
      constructor <;> intro z <;> omega
    · rw [if_neg e] at h
      rw [show (a == b) = false by simp [e]]
      refine kat_no ?_
      cases i with
      | zero => exact oneLt_int h
      | succ i =>
        rw [show (true && (i + 1 == 0)) = false by simp]
        exact kat_one _ _ (PyProof.Rows.lt_int h)
theorem tups_ans {vs : List Value} {ts : List (List Int)} (r : Tups s.heap vs ts) : Ans (O := lexO) (fun i => ts.getD i []) vs.length (kas_ask prog w A (tuples' true) vs) s := fun i j C hi hj h => by
  obtain ⟨x, ox, xs, n, e1, g1, d1, i1⟩ := r.at_ hi
  obtain ⟨y, oy, ys, k, e2, g2, d2, i2⟩ := r.at_ hj
  unfold kas_ask
  rw [e1, e2]
  refine kat_lt g1 d1 g2 d2 (lex_walk i1 i2 ?_ h)
  rw [← i1.length, ← i2.length, Array.length_toList, Array.length_toList]
def outOf (vs : List Value) (p : Array Nat) : Array Value := List.toArray (p.toList.map fun i => vs.getD i Value.none)
theorem sort_tups {a : Addr} {vs : List Value} {ts : List (List Int)} {n : Nat} {P : PySem.Fin → Shared → Prop} (ho : s.heap.get? a = some (seqObj "list" vs.toArray n)) (hT : Tups s.heap vs ts) (h64 : vs.length < 64)
    (h : ∀ p, Row vs.length p → Up (O := lexO) (fun i => ts.getD i []) p vs.length → P (.done (.ret .none)) { s with heap := sortedHeap s.heap a vs (outOf vs p) }) :
    wpAny (model prog w) A (Builtin.«list.sort» ⟨[.ref a], []⟩) P E s := by
  rw [list_sort_plain]
  have la := Heap.lt_size ho
  refine wpAny_bind (listItems_at ho rfl (wpAny_bind (listUpdate_at ho rfl ?_)))
  obtain ⟨e1, g1⟩ : ∃ e, (s.heap.update a (Obj.mapSeq fun _ => #[])).get? a = some (seqObj "list" #[] e) := ⟨_, get?_update_seq ho fun _ => #[]⟩
  refine wpAny_bind (seqEpoch_at g1 rfl (wpAny_bind (wpAny_newTuple (wpAny_bind (wpAny_newList (wpAny_holding ?_))))))
  generalize hh6 : ((s.heap.update a (Obj.mapSeq fun _ => #[])).push (seqObj "tuple" vs.toArray 0)).push (seqObj "list" #[] 0) = h6
  have keep6 : ∀ b o, b ≠ a → s.heap.get? b = some o → h6.get? b = some o := fun b o nb e => by
    have lb := Heap.lt_size e
    rw [← hh6, Heap.get?_push_ne _ _ _ (Nat.ne_of_lt (by rw [size_push', Heap.size_update]; exact Nat.lt_succ_of_lt lb)), Heap.get?_push_ne _ _ _ (Nat.ne_of_lt (by rw [Heap.size_update]; exact lb)), Heap.get?_update_ne _ _ _ _ nb]
    exact e
  have g6 : h6.get? a = some (seqObj "list" #[] e1) := by
    rw [← hh6, Heap.get?_push_ne _ _ _ (Nat.ne_of_lt (by rw [size_push', Heap.size_update]; exact Nat.lt_succ_of_lt la)), Heap.get?_push_ne _ _ _ (Nat.ne_of_lt (by rw [Heap.size_update]; exact la))]
    exact g1
  have fin : ∀ p, Row vs.length p → Up (O := lexO) (fun i => ts.getD i []) p vs.length → P (.done (.ret .none)) { s with heap := h6.update a (Obj.mapSeq fun _ => outOf vs p) } := fun p r u => by
    rw [← hh6]
    exact h p r u
  have T6 : Tups h6 vs ts := hT.keeps fun b o c e => keep6 b o (fun z => by rw [z, ho] at e; cases e; exact absurd c (show ¬ Value.type "list" = Value.type "tuple" by decide)) e
  show wpAny (model prog w) A _ P E { s with heap := h6 }
  have hvz : vs.toArray.size = vs.length := List.size_toArray
  dsimp only
  by_cases small : vs.toArray.size < 2
  · rw [if_pos small, if_pos small]
    refine wpAny_bind (wpAny_pure ?_)
    rw [StateT.run_pure]
    refine wpAny_bind (wpAny_pure ?_)
    have ev : ((vs.toArray.zip vs.toArray).map fun x => x.2) = outOf vs (List.toArray (List.range vs.length)) := by
      unfold outOf
      match vs, hvz, small with
      | [], _, _ => simp
      | [v], _, _ => simp
      | _ :: _ :: _, _, z => simp at z; omega
    refine wpAny_bind (seqEpoch_at g6 rfl (wpAny_bind (listUpdate_at g6 rfl ?_ (hsz2 := ?_))))
    · simp only [bne_self_eq_false, Bool.false_eq_true, if_false]
      refine wpAny_pure ?_
      show P (.done (.ret .none)) { s with heap := h6.update a (Obj.mapSeq fun _ => (vs.toArray.zip vs.toArray).map fun x => x.2) }
      rw [ev]
      exact fin _ (Array.Perm.refl _) fun i j x y => by
        have z : i = j := by omega
        subst z
        exact KeyOrd.kle_refl _
    · show ((vs.toArray.zip vs.toArray).map fun x => x.2).size ≤ _
      rw [ev, outOf, List.size_toArray, List.length_map, sizeLine_eq]
      simp
      omega
  · rw [if_neg small, if_neg small]
    obtain ⟨fs, f1, f2, f3⟩ := T6.firsts
    refine wpAny_bind (kat_kind (s := { s with heap := h6 }) (T := .type "int") f1 (by omega) (fun v hv => ?_) rfl ?_)
    · obtain ⟨m, u, rfl⟩ := f3 v hv
      exact Looks.now
    rw [show (Value.type "int" != Value.type "tuple") = true by decide]
    refine wpAny_bind (wpAny_mono (kat_run (ks := vs) (vs := vs) (prog := prog) (w := w) (A := A) (E := E) (s := { s with heap := h6 }) (Q := fun st' s' => s' = { s with heap := h6 } ∧ ∃ p, p.size = vs.length ∧ arrOf st' = p.map (kas_item (vs.toArray.zip vs.toArray)) ∧ failedOf st' = none ∧ Row vs.length p ∧ Up (O := lexO) (fun i => ts.getD i []) p vs.length)
      (G := fun p s' => s' = { s with heap := h6 } ∧ Row vs.length p ∧ Up (O := lexO) (fun i => ts.getD i []) p vs.length) rfl (by omega) h64 (fun p st' s' hz har hf hG => ⟨hG.1, p, hz, har, hf, hG.2.1, hG.2.2⟩) (sort_ok (tups_ans (s := { s with heap := h6 }) T6) (by omega) fun p r u => ⟨rfl, r, u⟩)) ?_ fun _ _ e => e)
    rintro ⟨_, st'⟩ s' ⟨rfl, p, hz, har, hf, hr, hu⟩
    dsimp only at har hf ⊢
    have eo := kat_snds (ks := vs) (vs := vs) rfl har
    refine wpAny_bind (seqEpoch_at g6 rfl (wpAny_bind (listUpdate_at g6 rfl ?_ (hsz2 := ?_))))
    · rw [hf]
      simp only [bne_self_eq_false, Bool.false_eq_true, if_false]
      refine wpAny_pure ?_
      show P (.done (.ret .none)) { s with heap := h6.update a (Obj.mapSeq fun _ => (arrOf st').map (·.2)) }
      rw [eo]
      exact fin p hr hu
    · show ((arrOf st').map (·.2)).size ≤ _
      rw [eo, List.size_toArray, List.length_map, Array.length_toList, hz, sizeLine_eq]
      omega
end
end L2
namespace L2
open PySem PySem.Spec PySem.W PyProof.Rows
theorem range_getD {α : Type} (d : α) (l : List α) : (List.range l.length).map (fun i => l.getD i d) = l := by
  apply List.ext_getElem
  · simp
  · intro i h1 h2
    simp [List.getD_eq_getElem?_getD, List.getElem?_eq_getElem h2]
theorem refs_of : ∀ {qs : List Addr} {its : List Value}, Vals (qs.map V.ref) its → its = qs.map Value.ref
  | [], _, r => by cases r; rfl
  | q :: qs, _, r => by
    cases r with
    | cons h t =>
      cases h
      rw [refs_of t]
      rfl
theorem vals_refs9 : ∀ (qs : List Addr), Vals (qs.map V.ref) (qs.map Value.ref)
  | [] => .nil
  | q :: qs => .cons rfl (vals_refs9 qs)
structure TupsAt (H : Hp) (qs : List Addr) (ts : List (List Int)) : Prop where
  len : qs.length = ts.length
  at_ : ∀ (j : Nat) q t, qs[j]? = some q → ts[j]? = some t → H q = some (.tup (t.map V.int)) ∧ t ≠ []
theorem TupsAt.tail {H : Hp} {q : Addr} {t : List Int} {qs : List Addr} {ts : List (List Int)} (h : TupsAt H (q :: qs) (t :: ts)) : TupsAt H qs ts := ⟨by have := h.len; simpa using this, fun j a b x y => h.at_ (j + 1) a b x y⟩
theorem TupsAt.tups {X : Cx} {pins : List (Addr × Obj)} {σ : St} {H : Hp} {s : Shared} (I : Inv X pins σ H s) : ∀ {qs : List Addr} {ts : List (List Int)}, TupsAt H qs ts → Tups s.heap (qs.map Value.ref) ts
  | [], [], _ => .nil
  | [], _ :: _, h => by have := h.len; simp at this
  | _ :: _, [], h => by have := h.len; simp at this
  | q :: qs, t :: ts, h => by
    obtain ⟨e, ne⟩ := h.at_ 0 q t rfl rfl
    obtain ⟨_, its, r, o, g1, g2, n, g3⟩ := (show ObjOk X.prog X.w H s.heap q (.tup (t.map V.int)) from I.hok q _ e)
    exact .cons g1 g2 g3 (by simpa using ints_of_vals r) ne (TupsAt.tups I h.tail)
section
variable {X : Cx}
end
end L2
namespace L2
open PySem PySem.Spec PyProof.Rows
section
variable {prog : Program} {w : World} {A : Around} {E : Value → Shared → Prop} {s : Shared} {es : Array DictEntry} {d it vw : Addr} {i ep : Nat}
def Raw (h : Heap) (d : Addr) (es : Array DictEntry) (ep : Nat) : Prop := ∃ o, h.get? d = some o ∧ o.cls = .type "dict" ∧ o.data = .dict es ep
theorem Raw.ty (m : Raw s.heap d es ep) : s.TypeIs (.ref d) "dict" := let ⟨o, a, b, _⟩ := m; ⟨o, a, b⟩
theorem Raw.keep {h h' : Heap} (m : Raw h d es ep) (k : ∀ o, h.get? d = some o → h'.get? d = some o) : Raw h' d es ep := let ⟨o, a, r⟩ := m; ⟨o, k o a, r⟩
theorem raw_items (d : Addr) (lo : (d == sysModules) = false) : MeetsIn prog w (Builtin.«dict.items» ⟨[.ref d], []⟩) (fun _ R s => s.TypeIs (.ref d) "dict" ∧
    R (.ok (.ret (.ref s.heap.objs.size))) { s with heap := s.heap.push { cls := .type "dict_items", data := .fields #[.ref d] } }) :=
  .of_wp fun A R s ⟨ty, h⟩ => by
    unfold Builtin.«dict.items»; with_reducible refine wpAny_bind ?_; unfold Builtin.Dict.noArgs
    refine wpAny_bind (wpAny_notOrdered_dict ty (show wpAny _ _ (pure d) _ _ s from wpAny_pure ?_))
    show wpAny _ _ (Builtin.Dict.showsAll d >>= _) _ _ s; unfold Builtin.Dict.showsAll
    rw [if_neg (fun z => Bool.false_ne_true (lo.symm.trans z))]; refine wpAny_bind (wpAny_pure ?_)
    exact wpAny_bind (wpAny_newObj_type (wpAny_pure (show _ from ⟨_, rfl, h⟩)))
theorem raw_iterItems {Q : Value → Shared → Prop} (hv : s.heap.IsItemsView vw d) (hm : Raw s.heap d es ep)
    (hQ : Q (.ref s.heap.objs.size) { s with heap := s.heap.push { cls := .type "dict_itemiterator", data := .fields #[.none, .bool false, .ref d, .int 0 0, .int es.size 0, .int ep 0, .none, .none] } }) :
    wpAny (model prog w) A (pyIter (.ref vw)) Q E s := by
  obtain ⟨ov, a1, a2, a3⟩ := id hv; obtain ⟨o, b1, b2, b3⟩ := id hm
  refine wpAny_pyIter_slot hv.typeIs F.slot_dict_items_iter (wpAny_call_entry F.slot_dict_items_iter hv.typeIs F.entry_dict_items_iter (show _ from ?_) (F.args_dict_items_iter_1 _))
  unfold Builtin.«dict_items.__iter__»; refine wpAny_bind (wpAny_pure ?_); with_reducible refine wpAny_bind ?_
  unfold Builtin.Dict_items.dictOf; refine wpAny_bind (wpAny_field a1 a3 (x := .ref d) rfl (wpAny_pure ?_)); with_reducible refine wpAny_bind ?_
  unfold Builtin.Dict_items.newIterator; refine wpAny_bind (wpAny_dictEntries b1 b3 (wpAny_bind (wpAny_dictEpoch b1 b3 ?_)))
  have own : Builtin.Dict_items.ownsTuple "dict_itemiterator" = true := rfl
  simp only [own, if_true]
  refine wpAny_newObj_type (wpAny_pure ⟨_, rfl, "dict_itemiterator", _, ⟨_, Heap.get?_push_size _ rfl, rfl⟩, F.slot_dict_itemiterator_next.lookup, (show _ from ?_)⟩)
    (by simp only [sizeOk, Builtin.Dict_items.ownedTupleFields, List.size_toArray, List.length_append, List.length_cons, List.length_nil, sizeLine_eq]; decide)
  simpa [Builtin.Dict_items.ownedTupleFields, rawInt] using hQ
theorem raw_iterKeys {Q : Value → Shared → Prop} (lo : (d == sysModules) = false) (hm : Raw s.heap d es ep)
    (hQ : Q (.ref s.heap.objs.size) { s with heap := s.heap.push { cls := .type "dict_keyiterator", data := .fields #[.ref d, .int 0 0, .int es.size 0, .int ep 0] } }) :
    wpAny (model prog w) A (pyIter (.ref d)) Q E s := by
  obtain ⟨o, b1, b2, b3⟩ := id hm
  refine wpAny_pyIter_slot hm.ty F.slot_dict_iter (wpAny_call_entry F.slot_dict_iter hm.ty F.entry_dict_iter (show _ from ?_) (F.args_dict_iter_1 _))
  unfold Builtin.«dict.__iter__»; with_reducible refine wpAny_bind ?_; unfold Builtin.Dict.dictSlotNone
  refine wpAny_bind (wpAny_notOrdered_dict hm.ty (show wpAny _ _ (pure (Value.ref d)) _ _ s from wpAny_pure ?_))
  show wpAny _ _ (Builtin.Dict.showsAll d >>= _) _ _ s; unfold Builtin.Dict.showsAll
  rw [if_neg (fun z => Bool.false_ne_true (lo.symm.trans z))]; refine wpAny_bind (wpAny_pure ?_)
  refine wpAny_bind (wpAny_dictEntries b1 b3 (wpAny_bind (wpAny_dictEpoch b1 b3 ?_)))
  refine wpAny_bind (wpAny_newObj_type (wpAny_pure ⟨_, rfl, "dict_keyiterator", _, ⟨_, Heap.get?_push_size _ rfl, rfl⟩, F.slot_dict_keyiterator_next.lookup, (show _ from ?_)⟩))
  simpa [rawInt] using hQ
def It4 (T : String) (h : Heap) (it d : Addr) (i n ep : Nat) : Prop := ∃ o, h.get? it = some o ∧ o.cls = .type T ∧ o.data = .fields #[.ref d, .int i 0, .int n 0, .int ep 0]
theorem It4.ty {T : String} {n : Nat} (x : It4 T s.heap it d i n ep) : s.TypeIs (.ref it) T := let ⟨o, a, b, _⟩ := x; ⟨o, a, b⟩
theorem It4.keep {T : String} {n : Nat} {h h' : Heap} (m : It4 T h it d i n ep) (k : ∀ o, h.get? it = some o → h'.get? it = some o) : It4 T h' it d i n ep := let ⟨o, a, r⟩ := m; ⟨o, k o a, r⟩
theorem It4.turn {T : String} {n : Nat} {h : Heap} {o : Obj} (a : h.get? it = some o) (b : o.cls = .type T) (c : o.data = .fields #[.ref d, .int i 0, .int n 0, .int ep 0]) :
    It4 T (h.update it (Obj.mapFields (·.setIfInBounds 1 (rawInt ((i : Int) + 1))))) it d (i + 1) n ep :=
  ⟨_, Heap.get?_update_self _ a (Obj.isFreed_of_fields (Obj.data_mapFields c _)), (Obj.cls_mapFields ..).trans b, by rw [Obj.data_mapFields c]; simp [rawInt]⟩
theorem raw_nextKey {Q : Option Value → Shared → Prop} {e : DictEntry} (hit : It4 "dict_keyiterator" s.heap it d i es.size ep) (hm : Raw s.heap d es ep) (hx : es[i]? = some e)
    (hQ : ∀ h', It4 "dict_keyiterator" h' it d (i + 1) es.size ep → Heap.SameBut it s.heap h' → Q (some e.key) { s with heap := h' }) : wpAny (model prog w) A (pyNext (.ref it)) Q E s := by
  obtain ⟨o, a1, a2, a3⟩ := id hit; obtain ⟨od, b1, b2, b3⟩ := id hm; have ty := hit.ty
  unfold pyNext; refine wpAny_bind (wpAny_attempt (wpAny_callSpecial?_slot (name := Str.ofString "__next__") ty F.slot_dict_keyiterator_next
    (wpAny_call_entry F.slot_dict_keyiterator_next ty F.entry_dict_keyiterator_next (show _ from ?_) (F.args_dict_keyiterator_next_1 _))))
  refine wpAny_bind (wpAny_pure ?_); refine wpAny_bind (show _ from ?_); refine wpAny_bind (show _ from ?_)
  first | refine wpAny_bind (wpAny_typeNameOfWhole_keyiter ty (show _ from wpAny_pure ?_)) | refine wpAny_bind (wpAny_typeNameOf_keyiter ty (show _ from wpAny_pure ?_))
  refine wpAny_bind (wpAny_fieldsOf a1 a3 (show _ from ?_)); have own : Builtin.Dict_items.ownsTuple "dict_keyiterator" = false := rfl
  simp only [own, if_false, Bool.false_eq_true]; show wpAny _ _ (if (Value.ref d == Value.none) = true then _ else _) _ _ s
  rw [if_neg (show ¬ ((Value.ref d == Value.none) = true) from fun z => nomatch z)]; refine wpAny_bind (wpAny_pure ?_)
  refine wpAny_bind (wpAny_dictEntries b1 b3 (show _ from ?_)); rw [if_neg (show _ from by simp)]; refine wpAny_bind (wpAny_pure ?_)
  refine wpAny_bind (wpAny_dictEpoch b1 b3 (show _ from ?_)); rw [if_neg (show _ from by simp)]; refine wpAny_pure (show _ from ?_)
  have il : i < es.size := (Array.getElem?_eq_some_iff.mp hx).1
  have ee : es[i] = e := (Array.getElem?_eq_some_iff.mp hx).2
  simp only [show ¬ ((i : Int) < 0) by omega, if_false, Int.toNat_natCast, hx]
  refine wpAny_bind (show _ from ?_)
  first | refine wpAny_bind (wpAny_typeNameOfWhole_keyiter ty (show _ from wpAny_pure ?_)) | refine wpAny_bind (wpAny_typeNameOf_keyiter ty (show _ from wpAny_pure ?_))
  refine wpAny_bind (wpAny_isOneOf_keyiter ty (show _ from ?_)); show wpAny _ _ (setField (.ref it) 1 (rawInt ((i : Int) + 1)) >>= _) _ _ s
  refine wpAny_bind (wpAny_setField a1 a3 (show _ by simp) (show _ from ?_)); have t2 := It4.turn a1 a2 a3
  refine wpAny_bind (wpAny_holding (show _ from ?_))
  refine wpAny_bind (wpAny_isOneOf_keyiter (s := { s with heap := s.heap.update it (Obj.mapFields (·.setIfInBounds 1 (rawInt ((i : Int) + 1)))) }) t2.ty (show _ from ?_))
  exact wpAny_pure (wpAny_pure ⟨_, rfl, wpAny_pure (hQ _ t2 (Heap.SameBut.update ..))⟩)
theorem raw_endKey {Q : Option Value → Shared → Prop} (hh : A.handled = none) (hit : It4 "dict_keyiterator" s.heap it d i es.size ep) (hm : Raw s.heap d es ep) (hx : es.size ≤ i)
    (hQ : ∀ h', Heap.ExtBut it s.heap h' → Q none { s with heap := h' }) : wpAny (model prog w) A (pyNext (.ref it)) Q E s := by
  obtain ⟨o, a1, a2, a3⟩ := id hit; obtain ⟨od, b1, b2, b3⟩ := id hm; have ty := hit.ty
  unfold pyNext; refine wpAny_bind (wpAny_attempt (wpAny_callSpecial?_slot (name := Str.ofString "__next__") ty F.slot_dict_keyiterator_next
    (wpAny_call_entry F.slot_dict_keyiterator_next ty F.entry_dict_keyiterator_next (show _ from ?_) (F.args_dict_keyiterator_next_1 _))))
  refine wpAny_bind (wpAny_pure ?_); refine wpAny_bind (show _ from ?_); refine wpAny_bind (show _ from ?_)
  first | refine wpAny_bind (wpAny_typeNameOfWhole_keyiter ty (show _ from wpAny_pure ?_)) | refine wpAny_bind (wpAny_typeNameOf_keyiter ty (show _ from wpAny_pure ?_))
  refine wpAny_bind (wpAny_fieldsOf a1 a3 (show _ from ?_)); have own : Builtin.Dict_items.ownsTuple "dict_keyiterator" = false := rfl
  simp only [own, if_false, Bool.false_eq_true]; show wpAny _ _ (if (Value.ref d == Value.none) = true then _ else _) _ _ s
  rw [if_neg (show ¬ ((Value.ref d == Value.none) = true) from fun z => nomatch z)]; refine wpAny_bind (wpAny_pure ?_)
  refine wpAny_bind (wpAny_dictEntries b1 b3 (show _ from ?_)); rw [if_neg (show _ from by simp)]; refine wpAny_bind (wpAny_pure ?_)
  refine wpAny_bind (wpAny_dictEpoch b1 b3 (show _ from ?_)); rw [if_neg (show _ from by simp)]; refine wpAny_pure (show _ from ?_)
  simp only [show ¬ ((i : Int) < 0) by omega, if_false, Int.toNat_natCast, Array.getElem?_eq_none hx]
  refine wpAny_bind (show _ from ?_)
  first | refine wpAny_bind (wpAny_typeNameOfWhole_keyiter ty (show _ from wpAny_pure ?_)) | refine wpAny_bind (wpAny_typeNameOf_keyiter ty (show _ from wpAny_pure ?_))
  show wpAny _ _ (setField (.ref it) 0 Value.none >>= _) _ _ s
  refine wpAny_bind (wpAny_setField a1 a3 (show _ by simp) (show _ from ?_)); show wpAny _ _ (newExc (.type "StopIteration") [] >>= _) _ _ _
  refine wpAny_bind (show _ from ?_); simp only [newExc, newTuple]; refine wpAny_bind (wpAny_newObj_type (show _ from ?_) (by size_fits))
  refine wpAny_bind (m := firstArgMember _ _) (wpAny_of_eq (a := Value.none) (show _ by first | rfl | (simp only [firstArgMember]; rfl)) (show _ from ?_))
  refine wpAny_newObj_type (show _ from ?_) (by size_fits); simp only [raiseNew]
  refine wpAny_bind (wpAny_handled (show _ from ?_)); rw [show A.in1.handled = none from hh]; refine wpAny_bind (wpAny_pure (wpAny_throw ?_))
  refine wpAny_bind (wpAny_isInstance (T := "StopIteration") (b := true) ⟨_, Heap.get?_push_size _ rfl, rfl⟩ isSubtype_stop (show _ from ?_))
  exact wpAny_pure (hQ _ (show _ from ((Heap.SameBut.update ..).extBut.push _).push _))
theorem raw_nextItem {ok ov : Value} {Q : Option Value → Shared → Prop} {e : DictEntry} (hit : IsItemIter s.heap it d i es.size ep ok ov) (hm : Raw s.heap d es ep) (hx : es[i]? = some e)
    (hQ : ∀ h', IsItemIterOut h' it d (i + 1) es.size ep e.key e.val s.heap.objs.size → h'.get? s.heap.objs.size = some { cls := .type "tuple", data := .seq #[e.key, e.val] } →
      h'.objs.size = s.heap.objs.size + 1 → (∀ b o, b ≠ it → s.heap.get? b = some o → h'.get? b = some o) → Q (some (.ref s.heap.objs.size)) { s with heap := h' }) :
    wpAny (model prog w) A (pyNext (.ref it)) Q E s := by
  obtain ⟨hp, g, dr, tk, os⟩ := s; obtain ⟨od, b1, b2, b3⟩ := id hm
  have ty : Shared.TypeIs ⟨hp, g, dr, tk, os⟩ (.ref it) "dict_itemiterator" := ⟨_, hit, rfl⟩
  unfold pyNext; refine wpAny_bind (wpAny_attempt (wpAny_callSpecial?_slot (name := Str.ofString "__next__") ty F.slot_dict_itemiterator_next
    (wpAny_call_entry F.slot_dict_itemiterator_next ty F.entry_dict_itemiterator_next (show _ from ?_) (F.args_dict_itemiterator_next_1 _))))
  refine wpAny_bind (wpAny_pure ?_); refine wpAny_bind (show _ from ?_); refine wpAny_bind (show _ from ?_)
  first | refine wpAny_bind (wpAny_typeNameOfWhole_itemiter ty (show _ from wpAny_pure ?_)) | refine wpAny_bind (wpAny_typeNameOf_itemiter ty (show _ from wpAny_pure ?_))
  refine wpAny_bind (wpAny_fieldsOf hit rfl (show _ from ?_)); have own : Builtin.Dict_items.ownsTuple "dict_itemiterator" = true := rfl
  simp only [own, if_true]; show wpAny _ _ (if (Value.ref d == Value.none) = true then _ else _) _ _ _
  rw [if_neg (show ¬ ((Value.ref d == Value.none) = true) from fun z => nomatch z)]; refine wpAny_bind (wpAny_pure ?_)
  refine wpAny_bind (wpAny_dictEntries b1 b3 (show _ from ?_)); rw [if_neg (show _ from by simp)]; refine wpAny_bind (wpAny_pure ?_)
  refine wpAny_bind (wpAny_dictEpoch b1 b3 (show _ from ?_)); rw [if_neg (show _ from by simp)]; refine wpAny_pure (show _ from ?_)
  simp only [show ¬ ((i : Int) < 0) by omega, if_false, Int.toNat_natCast, hx]
  refine wpAny_bind (show _ from ?_)
  first | refine wpAny_bind (wpAny_typeNameOfWhole_itemiter ty (show _ from wpAny_pure ?_)) | refine wpAny_bind (wpAny_typeNameOf_itemiter ty (show _ from wpAny_pure ?_))
  refine wpAny_bind (wpAny_isOneOf_itemiter ty (show _ from ?_)); show wpAny _ _ (setField (.ref it) 3 (rawInt ((i : Int) + 1)) >>= _) _ _ _
  refine wpAny_bind (wpAny_setField_rec hit (show _ by simp) fun j1 c1 d1 => (show _ from ?_))
  replace d1 : Heap.SameBut it hp j1 := d1
  replace c1 : IsItemIter j1 it d (i + 1) es.size ep ok ov := by
    unfold IsItemIter; rw [show ((i + 1 : Nat) : Int) = (i : Int) + 1 by omega]; simpa [rawInt] using c1
  have ty1 : Shared.TypeIs ⟨j1, g, dr, tk, os⟩ (.ref it) "dict_itemiterator" := ⟨_, c1, rfl⟩
  refine wpAny_bind (wpAny_holding (show _ from ?_)); refine wpAny_bind (wpAny_isOneOf_itemiter ty1 (wpAny_bind (wpAny_isOneOf_itemiter ty1 (show _ from ?_))))
  show wpAny _ _ (Builtin.Dict_items.pairFromOwner (.ref it) 6 e.key e.val) _ _ ⟨j1, g, dr, tk, os⟩; unfold Builtin.Dict_items.pairFromOwner
  refine wpAny_bind (wpAny_newTuple (show _ from ?_))
  have c2 : IsItemIter (j1.push { cls := .type "tuple", data := .seq #[e.key, e.val] }) it d (i + 1) es.size ep ok ov := Heap.get?_push_of_some _ c1
  generalize hj2 : j1.push { cls := .type "tuple", data := .seq #[e.key, e.val] } = j2 at c2
  have z1 : j1.objs.size = hp.objs.size := d1.1
  have il : it < hp.objs.size := Heap.lt_size hit
  have t2 : j2.get? hp.objs.size = some { cls := .type "tuple", data := .seq #[e.key, e.val] } := by rw [← hj2, ← z1]; exact Heap.get?_push_size _ rfl
  have z2 : j2.objs.size = hp.objs.size + 1 := by rw [← hj2, Heap.size_push, z1]
  have k2 : ∀ b o, b ≠ it → hp.get? b = some o → j2.get? b = some o := fun b o hb q => by rw [← hj2]; exact Heap.get?_push_of_some _ (d1.extBut b o hb q)
  show wpAny _ _ (Builtin.Dict_items.ownedTupleIsFree (.ref it) >>= _) _ _ ⟨j2, g, dr, tk, os⟩; rw [z1]; clear hj2 c1 d1 ty1 z1 j1
  refine wpAny_bind (show _ from ?_); unfold Builtin.Dict_items.ownedTupleIsFree; refine wpAny_bind (wpAny_field c2 rfl (x := .none) rfl (show _ from wpAny_pure ?_))
  simp only [if_true]; refine wpAny_bind (wpAny_field c2 rfl (x := ok) rfl (wpAny_bind (wpAny_field c2 rfl (x := ov) rfl (show _ from ?_))))
  refine wpAny_bind (wpAny_setField_rec c2 (show _ by simp) fun j3 c3 d3 => (show _ from ?_))
  replace d3 : Heap.SameBut it j2 j3 := d3; replace c3 : IsItemIter j3 it d (i + 1) es.size ep e.key ov := c3
  refine wpAny_bind (wpAny_setField_rec c3 (show _ by simp) fun j4 c4 d4 => (show _ from ?_))
  replace d4 : Heap.SameBut it j3 j4 := d4; replace c4 : IsItemIter j4 it d (i + 1) es.size ep e.key e.val := c4
  refine wpAny_bind (wpAny_setField_rec c4 (show _ by simp) fun j5 c5 d5 => (show _ from ?_))
  replace d5 : Heap.SameBut it j4 j5 := d5; replace c5 : IsItemIterOut j5 it d (i + 1) es.size ep e.key e.val hp.objs.size := c5
  refine wpAny_bind (wpAny_setField_rec c5 (show _ by simp) fun j6 c6 d6 => (show _ from ?_))
  replace d6 : Heap.SameBut it j5 j6 := d6; replace c6 : IsItemIterOut j6 it d (i + 1) es.size ep e.key e.val hp.objs.size := c6
  have up : ∀ b o, b ≠ it → j2.get? b = some o → j6.get? b = some o := fun b o hb q => d6.extBut b o hb (d5.extBut b o hb (d4.extBut b o hb (d3.extBut b o hb q)))
  refine wpAny_bind (wpAny_letGo (wpAny_pure (wpAny_pure ⟨_, rfl, wpAny_pure (hQ j6 c6 (up _ _ (Nat.ne_of_gt il) t2) ?_ fun b o hb q => up b o hb (k2 b o hb q))⟩)))
  show j6.objs.size = _; rw [d6.1, d5.1, d4.1, d3.1, z2]
theorem raw_endItem {ok ov : Value} {Q : Option Value → Shared → Prop} (hh : A.handled = none) (hit : IsItemIter s.heap it d i es.size ep ok ov) (hm : Raw s.heap d es ep) (hx : es.size ≤ i)
    (hQ : ∀ h', Heap.ExtBut it s.heap h' → Q none { s with heap := h' }) : wpAny (model prog w) A (pyNext (.ref it)) Q E s := by
  obtain ⟨od, b1, b2, b3⟩ := id hm; have ty : s.TypeIs (.ref it) "dict_itemiterator" := ⟨_, hit, rfl⟩
  unfold pyNext; refine wpAny_bind (wpAny_attempt (wpAny_callSpecial?_slot (name := Str.ofString "__next__") ty F.slot_dict_itemiterator_next
    (wpAny_call_entry F.slot_dict_itemiterator_next ty F.entry_dict_itemiterator_next (show _ from ?_) (F.args_dict_itemiterator_next_1 _))))
  refine wpAny_bind (wpAny_pure ?_); refine wpAny_bind (show _ from ?_); refine wpAny_bind (show _ from ?_)
  first | refine wpAny_bind (wpAny_typeNameOfWhole_itemiter ty (show _ from wpAny_pure ?_)) | refine wpAny_bind (wpAny_typeNameOf_itemiter ty (show _ from wpAny_pure ?_))
  refine wpAny_bind (wpAny_fieldsOf hit rfl (show _ from ?_)); have own : Builtin.Dict_items.ownsTuple "dict_itemiterator" = true := rfl
  simp only [own, if_true]; show wpAny _ _ (if (Value.ref d == Value.none) = true then _ else _) _ _ _
  rw [if_neg (show ¬ ((Value.ref d == Value.none) = true) from fun z => nomatch z)]; refine wpAny_bind (wpAny_pure ?_)
  refine wpAny_bind (wpAny_dictEntries b1 b3 (show _ from ?_)); rw [if_neg (show _ from by simp)]; refine wpAny_bind (wpAny_pure ?_)
  refine wpAny_bind (wpAny_dictEpoch b1 b3 (show _ from ?_)); rw [if_neg (show _ from by simp)]; refine wpAny_pure (show _ from ?_)
  simp only [show ¬ ((i : Int) < 0) by omega, if_false, Int.toNat_natCast, Array.getElem?_eq_none hx]
  refine wpAny_bind (show _ from ?_)
  first | refine wpAny_bind (wpAny_typeNameOfWhole_itemiter ty (show _ from wpAny_pure ?_)) | refine wpAny_bind (wpAny_typeNameOf_itemiter ty (show _ from wpAny_pure ?_))
  show wpAny _ _ (setField (.ref it) 2 Value.none >>= _) _ _ s
  refine wpAny_bind (wpAny_setField hit rfl (show _ by simp) (show _ from ?_)); show wpAny _ _ (newExc (.type "StopIteration") [] >>= _) _ _ _
  refine wpAny_bind (show _ from ?_); simp only [newExc, newTuple]; refine wpAny_bind (wpAny_newObj_type (show _ from ?_) (by size_fits))
  refine wpAny_bind (m := firstArgMember _ _) (wpAny_of_eq (a := Value.none) (show _ by first | rfl | (simp only [firstArgMember]; rfl)) (show _ from ?_))
  refine wpAny_newObj_type (show _ from ?_) (by size_fits); simp only [raiseNew]
  refine wpAny_bind (wpAny_handled (show _ from ?_)); rw [show A.in1.handled = none from hh]; refine wpAny_bind (wpAny_pure (wpAny_throw ?_))
  refine wpAny_bind (wpAny_isInstance (T := "StopIteration") (b := true) ⟨_, Heap.get?_push_size _ rfl, rfl⟩ isSubtype_stop (show _ from ?_))
  exact wpAny_pure (hQ _ (show _ from ((Heap.SameBut.update ..).extBut.push _).push _))
end
end L2
namespace L2
open PySem PySem.Spec PyProof.Rows
section
variable {X : Cx} {pins : List (Addr × Obj)} {σ : St} {H : Hp} {s : Shared}
theorem Inv.freezeT {d : Addr} {kvs : List (List Key × V)} {o : Obj} (I : Inv X pins σ H s) (e : H d = some (.dT kvs)) (ho : s.heap.get? d = some o) : Inv X pins σ (upd H d (.frz o (.dT kvs))) s := by
  have nd : ∀ b u, H b = some u → u ≠ .dT kvs → b ≠ d := fun b u q n z => by rw [z, e] at q; exact n (Option.some.inj q).symm
  refine I.step (h' := s.heap) (g' := s.gens) (d' := s.drawn) (t' := s.toks) (ch := []) (fun _ z => nomatch z) (fun b u _ _ _ q _ => q) (fun b u _ _ _ q _ => ⟨u.slots, q⟩) (fun b u _ _ n => ?_)
    (fun b u _ q => ⟨u, q⟩) (fun b xs q => ?_) (fun b u v q => ?_) (fun b ps q => ⟨#[], ?_⟩) (fun m hm => hm) (fun b u q => ?_) I.bare
  · rw [upd_ne (fun z => by rw [z, e] at n; cases n)]; exact n
  · rw [upd_ne (nd _ _ q (fun z => by cases z))]; exact q
  · rw [upd_ne (nd _ _ q (fun z => by cases z))]; exact q
  · rw [upd_ne (nd _ _ q (fun z => by cases z)), q]; simp
  · have st : ∀ c v, H c = some v → ObjOk X.prog X.w H s.heap c v → ObjOk X.prog X.w (upd H d (.frz o (.dT kvs))) s.heap c v := fun c v _ z =>
      z.stay (fun _ _ _ z => z) (fun c z => by rw [upd_ne (nd _ _ z (fun y => by cases y))]; exact z) fun c xs t z => by rw [upd_ne (nd _ _ z (fun y => by subst y; exact t))]; exact z
    by_cases hb : b = d
    · subst hb; rw [upd_same] at q; cases q; exact ⟨ho, st b _ e (I.hok b _ e)⟩
    · rw [upd_ne hb] at q
      exact st b u q (I.hok b u q)
end
theorem kt_get {H : Hp} : ∀ {kvs : List (List Key × V)} {xs : List (List Key × Addr × Value)}, KT H kvs xs → ∀ {i : Nat} {p : List Key × V}, kvs[i]? = some p → ∃ q, xs[i]? = some q ∧ H q.2.1 = some (.tup (p.1.map kV)) ∧ RelV p.2 q.2.2
  | [], _, r, i, p, h => by simp at h
  | a :: as, _, r, i, p, h => by
    cases r with
    | cons x t =>
      cases i with
      | zero => cases h; exact ⟨_, rfl, x.2⟩
      | succ i => exact kt_get t (i := i) h
theorem dt_raw {P : Program} {w : World} {H : Hp} {h : Heap} {d : Addr} {kvs : List (List Key × V)} (x : ObjOk P w H h d (.dT kvs)) : (d == sysModules) = false ∧ ∃ (o : Obj) (es : Array DictEntry) (ep : Nat) (xs : List (List Key × Addr × Value)),
    h.get? d = some o ∧ o.ExactDict ∧ o.data = .dict es ep ∧ KT H kvs xs ∧ es.toList = xs.map (entryOfKey (tupleKind (mixKind P w))) ∧ es.size = kvs.length := by
  obtain ⟨z, y, xs, r, o, es, ep, h1, h2, h3, h4, h5⟩ := x
  refine ⟨y, o, es, ep, xs, h1, h2, h3, r, h4, ?_⟩
  rw [size_of_entries h4]
  exact (Paired.length r).symm
def Iti (d : Addr) (o : Obj) (kvs : List (List Key × V)) : It :=
  ⟨fun i H => H d = some (.frz o (.dT kvs)) ∧ i < kvs.length, fun i H x H' => ∃ T b kv, H T = none ∧ x = .ref T ∧ kvs[i]? = some kv ∧ H b = some (.tup (kv.1.map kV)) ∧ H' = upd H T (.tup [.ref b, kv.2]), fun i H => H d = some (.frz o (.dT kvs)) ∧ kvs.length ≤ i⟩
theorem entry_item_iter : entryFor table "dict_itemiterator.__iter__" = some Builtin.«dict_keyiterator.__iter__» := PySem.entryFor_alias (id' := "dict_keyiterator.__iter__") (by kernel_rfl) rfl (by decide +kernel) (show _ by kernel_rfl)
theorem turn_items {P : Program} {w : World} {K : PySem.W.Frag} {elts : List Expr} {x1 : Nat} {tp : Pos} (d it : Addr) (o : Obj) (kvs : List (List Key × V)) (es : Array DictEntry) (ep : Nat) (hc0 : o.cls = .type "dict") (hd0 : o.data = .dict es ep) (hn : es.size = kvs.length) :
    Turn P w K (.Tuple elts x1 tp) (Iti d o kvs) [it] it (fun i h => ∃ ok ov, IsItemIter h it d i es.size ep ok ov) where
  mem := by simp
  obj := fun i h st b hb => by
    obtain ⟨ok, ov, he⟩ := st
    have z : b = it := by simpa using hb
    subst z
    exact ⟨_, he, fun v z => by cases z⟩
  keep := fun i h h' st k => by
    obtain ⟨ok, ov, he⟩ := st
    exact ⟨ok, ov, k it (by simp) _ he⟩
  item := by
    intro X hP hw hK hc i pins s σ H E I hf st hg
    subst hP hw hK
    obtain ⟨ok, ov, he⟩ := st
    obtain ⟨hd, hi⟩ := hg
    have hO : ObjOk X.prog X.w H s.heap d (.frz o (.dT kvs)) := I.hok d _ hd
    obtain ⟨ho, hO⟩ := hO
    obtain ⟨lo, o', es', ep', xs, g1, g2, g3, rel, g4, g5⟩ := dt_raw hO
    have eo : o' = o := Option.some.inj (g1.symm.trans ho)
    subst eo
    have ee : es' = es ∧ ep' = ep := by rw [hd0] at g3; injection g3 with a b; exact ⟨a.symm, b.symm⟩
    obtain ⟨e1, e2⟩ := ee
    subst e1 e2
    have raw : Raw s.heap d es' ep' := ⟨o', ho, hc0, hd0⟩
    have hx : kvs[i]? = some kvs[i] := List.getElem?_eq_getElem hi
    obtain ⟨q, hq, hb, rv⟩ := kt_get rel hx
    have hex : es'[i]? = some (entryOfKey (tupleKind (mixKind X.prog X.w)) q) := by rw [entry_at g4, hq]; rfl
    have hilt : it < s.heap.objs.size := Heap.lt_size he
    refine raw_nextItem he raw hex fun h1 h2' hT hsz hk => ?_
    refine ⟨_, rfl, wpAny_letOwnedTupleGo_items h2' fun h2 he2 hs2 => ?_⟩
    replace hs2 : Heap.SameBut it h1 h2 := hs2
    have hT2 : h2.IsTuple s.heap.objs.size #[.ref q.2.1, q.2.2] := ⟨_, (hs2.2 _ (Nat.ne_of_gt hilt)).trans hT, rfl, _, rfl⟩
    have kk : ∀ b o, b ∉ [it] → s.heap.get? b = some o → h2.get? b = some o := fun b o hb q => by
      have n1 : b ≠ it := fun z => hb (by simp [z])
      exact (hs2.2 b n1).trans (hk b o n1 q)
    have I2 : Inv X pins σ (upd H s.heap.objs.size (.tup [.ref q.2.1, kvs[i].2])) { s with heap := h2, toks := s.toks } :=
      I.turnedNew kk hf (Nat.le_refl _) (show ObjOk X.prog X.w _ h2 _ (.tup [.ref q.2.1, kvs[i].2]) from ⟨sz_le (by simp), [.ref q.2.1, q.2.2], .cons rfl (.cons rv .nil), hT2⟩)
    have hfr : H s.heap.objs.size = none := I.hok.fresh (Nat.le_refl _)
    refine ⟨.ref s.heap.objs.size, _, I2, rfl, ⟨_, q.2.1, kvs[i], hfr, rfl, hx, hb, rfl⟩, ⟨_, _, he2⟩, fun b hb => ?_⟩
    have z : b = it := by simpa using hb
    subst z
    rw [upd_ne (Nat.ne_of_lt hilt)]
    exact (hf b (by simp)).1
  done := by
    intro X hP hw hK hc i pins s σ H E I hf st hg
    subst hP hw hK
    obtain ⟨ok, ov, he⟩ := st
    obtain ⟨hd, hi⟩ := hg
    have hO : ObjOk X.prog X.w H s.heap d (.frz o (.dT kvs)) := I.hok d _ hd
    obtain ⟨f0, f1, f2, f3, f4, f5⟩ := hf it (by simp)
    exact raw_endItem (I.ok.hd hc) he ⟨o, hO.1, hc0, hd0⟩ (by omega) fun h' eb => ⟨rfl, I.turned (t' := s.toks) (fun b o hb e => eb b o hb e) f0 f1 f3 f4 f5⟩
  self := fun _ _ _ _ _ st h => by
    obtain ⟨ok, ov, he⟩ := st
    refine wpAny_pyIter_slot ⟨_, he, rfl⟩ F.slot_dict_itemiterator_iter (wpAny_call_entry F.slot_dict_itemiterator_iter ⟨_, he, rfl⟩ entry_item_iter ?_ (F.args_dict_itemiterator_iter_1 _))
    exact wpAny_pure ⟨_, rfl, "dict_itemiterator", _, ⟨_, he, rfl⟩, F.slot_dict_itemiterator_next.lookup, h⟩
section
variable {X : Cx} {elts : List Expr} {x1 : Nat} {tp : Pos}
def ImQ (R : It → Hp → Prop) : V → Hp → Prop := fun x H1 => ∃ d kvs, x = .ref d ∧ H1 d = some (.dT kvs) ∧ ∀ o, R (Iti d o kvs) (upd H1 d (.frz o (.dT kvs)))
def iItems (td : TE) : TI := fun σ H R => td σ H (ImQ R)
theorem pi_items {o : Expr} {td : TE} {apos cpos : Pos} (ho : PE X o td) (hbase : attributeBase o "items" X.env (eval o X.env) = eval o X.env := by rfl) (hline : (apos.endLine == cpos.line) = true := by rfl) :
    PI X (.Tuple elts x1 tp) (.Call (.Attribute o "items" apos) [] [] cpos) (iItems td) := by
  intro pins s σ H R I h
  refine wpAny_Call_method (T := "dict") (id := "dict.items") hbase rfl hline PySem.F.plainAttrs_dict PySem.F.slot_dict_items PySem.F.type_dict_items (thn (ho pins s σ H _ I h) fun v s1 ⟨x, H1, I1, r1, q1⟩ => ?_)
  obtain ⟨d, kvs, e, hd, q⟩ := q1
  subst e
  cases r1
  obtain ⟨lo, ob, es, ep, xs, g1, g2, g3, rel, g4, g5⟩ := dt_raw (show ObjOk X.prog X.w H1 s1.heap d (.dT kvs) from I1.hok d _ hd)
  have raw : Raw s1.heap d es ep := ⟨ob, g1, g2.1, g3⟩
  refine ⟨raw.ty, fun b z => by cases z; exact ⟨ob, g1, g2.2.1⟩, ?_⟩
  refine method_meetsIn PySem.F.slot_dict_items PySem.F.entry_dict_items rfl (PySem.evalArgs_none ⟨rfl, raw.ty, PySem.F.args_dict_items_1 _, _, raw_items d lo, raw.ty, ?_⟩)
  have I2 := I1.freezeT hd g1
  show wpAny _ _ (pyIter (.ref s1.heap.objs.size)) _ _ _
  refine raw_iterItems (s := { s1 with heap := s1.heap.push { cls := .type "dict_items", data := .fields #[.ref d] } }) ⟨_, Heap.get?_push_size _ rfl, rfl, rfl⟩ (raw.keep fun o e => Heap.get?_push_of_some _ e) ?_
  have hk : ∀ b u, s1.heap.get? b = some u → ((s1.heap.push { cls := .type "dict_items", data := .fields #[.ref d] }).push { cls := .type "dict_itemiterator", data := .fields #[.none, .bool false, .ref d, .int 0 0, .int es.size 0, .int ep 0, .none, .none] }).get? b = some u :=
    fun b u e => Heap.get?_push_of_some _ (Heap.get?_push_of_some _ e)
  refine ⟨_, [(s1.heap.push { cls := .type "dict_items", data := .fields #[.ref d] }).objs.size], _, _, _, rfl, I2.kept (t' := s1.toks) hk, turn_items d _ ob kvs es ep g2.1 g3 g5, ⟨_, _, Heap.get?_push_size _ rfl⟩, fun b hb => ?_, q ob⟩
  have e : b = (s1.heap.push { cls := .type "dict_items", data := .fields #[.ref d] }).objs.size := by simpa using hb
  have hle : s1.heap.objs.size ≤ b := by rw [e, Heap.size_push]; exact Nat.le_succ _
  exact I2.fpOk hle (I2.hok.fresh hle)
end
section
variable {σ : St} {H : Hp} {nx : St → Hp → Prop} {rt : VK} {g : TG} {tb : TS}
theorem rd_iItems {td : TE} {R : It → Hp → Prop} (h : td σ H (ImQ R)) : iItems td σ H R := h
theorem rd_im {d : Addr} {kvs : List (List Key × V)} {R : It → Hp → Prop} (h1 : H d = some (.dT kvs)) (h : ∀ o, R (Iti d o kvs) (upd H d (.frz o (.dT kvs)))) : ImQ R (.ref d) H := ⟨d, kvs, rfl, h1, h⟩
theorem rf_items {d : Addr} {o : Obj} {kvs : List (List Key × V)} (Pv : Nat → St → Hp → Prop) (h0 : Pv 0 σ H) (hl : ∀ i σ H, i ≤ kvs.length → Pv i σ H → H d = some (.frz o (.dT kvs)))
    (hs : ∀ i kv σ H T b, kvs[i]? = some kv → Pv i σ H → H T = none → H b = some (.tup (kv.1.map kV)) → g (.ref T) σ (upd H T (.tup [.ref b, kv.2])) fun σ2 H2 => tb ⟨Pv (i + 1), rt, nx, Pv (i + 1)⟩ σ2 H2) (hd : ∀ σ H, Pv kvs.length σ H → nx σ H) :
    ∃ W : Nat → Nat → St → Hp → Prop, (∃ m, W 0 m σ H) ∧ ∀ i m σ H, W i m σ H →
      ((Iti d o kvs).stop i H ∧ nx σ H) ∨ ((Iti d o kvs).go i H ∧ ∃ N : St → Hp → Prop, (∀ σ' H', N σ' H' → ∃ m', m' < m ∧ W (i + 1) m' σ' H') ∧ ∀ x H', (Iti d o kvs).yld i H x H' → g x σ H' fun σ2 H2 => tb ⟨N, rt, nx, N⟩ σ2 H2) := by
  refine ⟨fun i m σ H => m = kvs.length - i ∧ i ≤ kvs.length ∧ Pv i σ H, ⟨kvs.length, by simp, Nat.zero_le _, h0⟩, ?_⟩
  rintro i m σ H ⟨rfl, hi, p⟩
  have q := hl i σ H hi p
  by_cases hlt : i < kvs.length
  · refine .inr ⟨⟨q, hlt⟩, Pv (i + 1), fun σ' H' p' => ⟨kvs.length - (i + 1), by omega, rfl, hlt, p'⟩, fun x H' y => ?_⟩
    obtain ⟨T, b, kv, hT, e1, hk, hb, e2⟩ := y
    subst e1 e2
    exact hs i kv σ H T b hk p hT hb
  · have e : i = kvs.length := by omega
    subst e
    exact .inl ⟨⟨q, Nat.le_refl _⟩, hd σ H p⟩
end
section
variable {X : Cx} {o : Expr} {td : TE} {apos cpos : Pos}
end
section
variable {X : Cx} {ek ev : Expr} {tk tv : TE} {pos : Pos}
theorem d_dictSet {pins : List (Addr × Obj)} {σ : St} {H : Hp} {s : Shared} {a b : Addr} {v : V} {r : Value} {A : Around} {E : Value → Shared → Prop} {kvs : List (List Key × V)} {k : List Key} {Q : Unit → Shared → Prop} (hu : A.units < cLine) (I : Inv X pins σ H s) (e : H a = some (.dT kvs)) (eb : H b = some (.tup (k.map kV))) (l : kvs.length < sizeLine) (rv : RelV v r) (h : ∀ s', Inv X pins σ (upd H a (.dT (putK kvs k v))) s' → Q () s') :
    wpAny (model X.prog X.w) A (dictSet a (.ref b) r) Q E s := by
  obtain ⟨z, hd, xs, rel, dd⟩ := dt_of I.hok e
  have hz : xs.length ≤ sizeLine := by rw [← Paired.length rel]; exact z
  have hl : (putK kvs k v).length ≤ sizeLine := by have := length_putK kvs k v; omega
  refine wpAny_dictSet_heap (hsz := hz) hu (key_of I.hok eb) dd fun h' dd' hs => h _ ?_
  obtain ⟨q, es, ep, hq, h2, h3, h4, _, h5⟩ := dd'
  refine d_write I (by rw [e]; exact True.intro) hs ⟨q, hq⟩ ⟨hl, hd, _, (rel.put k eb rv).keeps fun c ys ec => ?_, q, es, ep, hq, h2, h3, h4, h5⟩
  rw [upd_ne (ne_of ec e (fun z => nomatch z))]
  exact ec
def tDict1 (tk tv : TE) : TE := fun σ H Q => ∀ d, H d = none → tk σ (upd H d (.dT [])) fun y H1 => tv σ H1 fun v H2 => ∃ b k, y = .ref b ∧ H2 b = some (.tup (k.map kV)) ∧ H2 d = some (.dT []) ∧ Q (.ref d) (upd H2 d (.dT [(k, v)]))
theorem pe_dict1 (hu : X.A.units < cLine) (hk : PE X ek tk) (hv : PE X ev tv) : PE X (.Dict [some ek] [ev] pos) (tDict1 tk tv) := by
  intro pins s σ H Q I h
  have hn : H s.heap.objs.size = none := I.hok.fresh (Nat.le_refl _)
  have I0 : Inv X pins σ (upd H s.heap.objs.size (.dT [])) { s with heap := s.heap.push { cls := .type "dict", data := .dict #[] } } := I.laid (a := s.heap.objs.size) (o := .dT []) (t' := s.toks) (fun _ _ q => Heap.get?_push_of_some _ q) (Nat.le_refl _) (dt_empty s.heap I.big)
  refine wpAny_Dict_any rfl rfl (by simp) (by simp) ?_
  refine pairTrees_cons_walk (thn (hk pins _ σ _ _ I0 (h _ hn)) fun u s1 ⟨y, H1, I1, r1, q1⟩ => thn (hv pins s1 σ H1 _ I1 q1) fun v s2 ⟨x, H2, I2, r2, q2⟩ => pairTrees_nil_walk ?_)
  obtain ⟨b, k, e, eb, ed, q⟩ := q2
  subst e
  cases r1
  unfold storeAll
  simp only [List.forIn_cons, List.forIn_nil]
  refine wpAny_bind (wpAny_bind (d_dictSet hu I2 ed eb (by rw [sizeLine_eq]; decide) r2 fun s3 I3 => ?_))
  exact wpAny_pure (wpAny_pure ⟨.ref _, _, I3, rfl, q⟩)
end
end L2
namespace L2
section
variable {σ : St} {H : Hp} {Q : VK}
theorem rd_dict1 {tk tv : TE} (h : ∀ d, H d = none → tk σ (upd H d (.dT [])) fun y H1 => tv σ H1 fun v H2 => ∃ b k, y = .ref b ∧ H2 b = some (.tup (k.map kV)) ∧ H2 d = some (.dT []) ∧ Q (.ref d) (upd H2 d (.dT [(k, v)]))) : tDict1 tk tv σ H Q := h
theorem rd_dget2 {td ty tx : TE} (h : td σ H fun x H1 => ∃ a, x = .ref a ∧ IsD H1 a ∧ ty σ H1 fun y H2 => tx σ H2 fun z H3 => ∃ o, DGet H3 a y o ∧ Q (o.getD z) H3) : tDGet2 td ty tx σ H Q := h
end
end L2
namespace L2.Q
open PySem PySem.Spec PyProof.Rows L2
section
variable {X : Cx} {o e f ek ev : Expr} {td ty tx tk tv : TE} {pos apos cpos tp : Pos} {elts : List Expr} {x1 : Nat}
theorem pi_items (ho : QE X o td) (hbase : attributeBase o "items" X.env (eval o X.env) = eval o X.env := by rfl) (hline : (apos.endLine == cpos.line) = true := by rfl) :
    QI X (.Tuple elts x1 tp) (.Call (.Attribute o "items" apos) [] [] cpos) (iItems td) := ⟨L2.pi_items ho.h hbase hline⟩
theorem pe_dict1 (hu : X.A.units + 9 < cLine) (hk : QE X ek tk) (hv : QE X ev tv) : QE X (.Dict [some ek] [ev] pos) (tDict1 tk tv) := ⟨L2.pe_dict1 (by omega) hk.h hv.h⟩
theorem pe_dnewT : QE X (.Dict [] [] pos) tDNewT := ⟨L2.pe_dnewT⟩
theorem pe_dget2 (hu : X.A.units + 9 < cLine) (ho : QE X o td) (he : QE X e ty) (hf : QE X f tx) (base : attributeBase o "get" X.env (eval o X.env) = eval o X.env := by rfl)
    (few : ((backTo cpos (starEach [e, f] X.env)).all (fun x => !x.1) && (backToKw cpos (keywordEach [] X.env)).all (fun x => x.1.isSome)
      && decide (([e, f] : List Expr).length + ([] : List Keyword).length + (if ([] : List Keyword).isEmpty then 0 else 1) < 30)) = true := by rfl)
    (line : (apos.endLine == cpos.line) = true := by rfl) (trees : backTo cpos (starEach [e, f] X.env) = [(false, eval e X.env), (false, eval f X.env)] := by rfl) :
    QE X (.Call (.Attribute o "get" apos) [e, f] [] cpos) (tDGet2 td ty tx) := ⟨L2.pe_dget2 (by omega) ho.h he.h hf.h ⟨base, few, line, trees⟩⟩
end
end L2.Q
namespace L2
open PySem PySem.Spec PyProof.Rows
section
variable {X : Cx} {tg : Expr}
end
section
variable {σ : St} {H : Hp} {Q : VK} {nx : St → Hp → Prop} {rt : VK} {g : TG} {tb : TS}
theorem DGet.f {H : Hp} {a b : Addr} {o : Obj} {kvs : List (List Key × V)} {k : List Key} (e : H a = some (.frz o (.dT kvs))) (eb : H b = some (.tup (k.map kV))) : DGet H a (.ref b) (valV kvs k) := .inr ⟨kvs, k, b, .inr ⟨o, e⟩, rfl, eb, rfl⟩
end
end L2
namespace L2.Q
open PySem PySem.Spec PyProof.Rows L2
section
variable {X : Cx} {o i l tg : Expr} {td ty tl : TE} {pos : Pos}
end
end L2.Q
namespace L2
open PySem PySem.Spec PyProof.Rows
section
open PySem.SeqAt
open PySem.AutoSeq1 (wpAny_loadPart')
open PySem.MeetsSeq PySem.MeetsSeq2 PySem.MeetsSeq3
end
section
variable {X : Cx}
end
end L2
namespace L2
open PySem PySem.Spec PyProof.Rows
section
variable {X : Cx}
def tDNewG : TE := fun _ H Q => (∀ p, H p = none → Q (.ref p) (upd H p (.dK []))) ∨ ∀ p, H p = none → Q (.ref p) (upd H p (.dT []))
theorem pe_dnewG {pos : Pos} : PE X (.Dict [] [] pos) tDNewG := by
  intro pins s σ H Q I h
  rcases h with h | h
  · exact pe_dnewK pins s σ H Q I h
  · exact pe_dnewT pins s σ H Q I h
theorem rd_dnewK' {σ : St} {H : Hp} {Q : VK} (h : ∀ p, H p = none → Q (.ref p) (upd H p (.dK []))) : tDNewG σ H Q := .inl h
theorem rd_dnewT' {σ : St} {H : Hp} {Q : VK} (h : ∀ p, H p = none → Q (.ref p) (upd H p (.dT []))) : tDNewG σ H Q := .inr h
end
end L2
namespace L2.Q
open PySem PySem.Spec PyProof.Rows L2
section
variable {X : Cx} {tg : Expr}
theorem pe_dnewG {pos : Pos} : QE X (.Dict [] [] pos) tDNewG := ⟨L2.pe_dnewG⟩
end
end L2.Q
namespace L2
open PySem
section
variable {σ : St} {H : Hp} {Q : VK}
end
end L2
namespace L2
open PySem PySem.Spec PySem.W PyProof.Rows
theorem walk_keys {prog : Program} {w : World} {A : Around} (hh : A.handled = none) (I d : Addr) (hne : d ≠ I) (es : Array DictEntry) (ep : Nat) :
    Walks prog w A I [I, d] [I] es.size (fun i v => ∃ e, es[i]? = some e ∧ v = e.key) (fun i h => It4 "dict_keyiterator" h I d i es.size ep ∧ Raw h d es ep) where
  sub := fun b hb => List.mem_cons.mpr (.inl (by simpa using hb))
  frame := fun _ _ _ st hk => ⟨st.1.keep fun o e => hk I (by simp) o e, st.2.keep fun o e => hk d (by simp) o e⟩
  item := fun i s Q E hi st hQ => by
    have hx : es[i]? = some es[i] := Array.getElem?_eq_getElem hi
    refine raw_nextKey st.1 st.2 hx fun h' a b => hQ es[i].key h' s.toks ⟨_, hx, rfl⟩ ⟨a, st.2.keep fun o e => b.extBut d o hne e⟩ fun b' o hb e => b.extBut b' o (fun z => hb (List.mem_singleton.mpr z)) e
  done := fun s Q E st hQ => raw_endKey hh st.1 st.2 (Nat.le_refl _) fun h' z => hQ h' s.toks fun b o hb e => z b o (fun y => hb (List.mem_singleton.mpr y)) e
  self := fun _ _ _ _ st hQ => wpAny_pyIter_keyiter st.1 hQ
theorem src_keysT {prog : Program} {w : World} {d : Addr} {es : Array DictEntry} {ep : Nat} (lo : (d == sysModules) = false) : KdlSrc prog w "dict" d d es.size (fun i v => ∃ e, es[i]? = some e ∧ v = e.key) (fun h => Raw h d es ep) where
  type := fun _ hm => hm.ty
  there := fun _ hm => let ⟨_, e, _⟩ := hm; ⟨Heap.lt_size e, Heap.lt_size e⟩
  keep := fun _ _ hm hk => hm.keep fun o e => hk d (.inl rfl) o e
  notList := by decide
  notTuple := by decide
  hint := fun _ _ _ _ hm hq => kdl_hint_dict hm.ty hq
  iter := fun _ _ hh hm => ⟨_, _, (fun _ _ hq => raw_iterKeys lo hm hq), walk_keys hh _ d (Nat.ne_of_lt (let ⟨_, e, _⟩ := hm; Heap.lt_size e)) es ep, ⟨⟨_, Heap.get?_push_size _ rfl, rfl, rfl⟩, hm.keep fun o e => Heap.get?_push_of_some _ e⟩⟩
section
variable {X : Cx}
def rSortK : List V → Hp → VK → Prop := fun xs H Q => ∃ (d : Addr) (kvs : List (List Key × V)) (ts : List (List Int)), xs = [.ref d] ∧ H d = some (.dT kvs) ∧ kvs.map (·.1) = ts.map (fun t => t.map Sum.inl) ∧ (∀ t ∈ ts, t ≠ []) ∧ ts.length < 64 ∧
  ∀ (p : Addr) (qs : List Addr) (us : List (List Int)), H p = none → TupsAt H qs us → us.Perm ts → us.Pairwise (fun a b => lexB b a = false) → Q (.ref p) (upd H p (.lst (qs.map V.ref)))
theorem call_sortedK (hc : X.calm = true) : CallR X (.builtin "sorted") rSortK := by
  intro pins s σ H xs us Q I r h
  obtain ⟨d, kvs, ts, rfl, hd, ek, hne, h64', q⟩ := h
  obtain ⟨u, rfl, ru⟩ := vals1 r
  cases ru
  obtain ⟨lo, ob, es, ep, ys, g1, g2, g3, rel, g4, g5⟩ := dt_raw (show ObjOk X.prog X.w H s.heap d (.dT kvs) from I.hok d _ hd)
  have raw : Raw s.heap d es ep := ⟨ob, g1, g2.1, g3⟩
  have hkl : kvs.length = ts.length := by have := congrArg List.length ek; simpa using this
  have hyl : ys.length = kvs.length := (Paired.length rel).symm
  have ht : TupsAt H (ys.map (·.2.1)) ts := by
    refine ⟨by rw [List.length_map, hyl, hkl], fun j a t x y => ?_⟩
    have hj : j < kvs.length := by rw [hkl]; exact (List.getElem?_eq_some_iff.mp y).1
    obtain ⟨p, hp, hb, _⟩ := kt_get rel (List.getElem?_eq_getElem hj)
    rw [List.getElem?_map, hp] at x
    cases x
    refine ⟨?_, hne t (List.mem_of_getElem? y)⟩
    have e3 : (kvs.map (·.1))[j]? = some kvs[j].1 := by rw [List.getElem?_map, List.getElem?_eq_getElem hj]; rfl
    rw [ek, List.getElem?_map, y] at e3
    have e4 : t.map Sum.inl = kvs[j].1 := Option.some.inj e3
    rw [hb, ← e4, List.map_map]
    rfl
  have hv : ((ys.map (·.2.1)).map Value.ref).length = ts.length := by rw [List.length_map]; exact ht.len
  refine Calls.call_function_entry kind_sorted plain_sorted entry_sorted (args_sorted1 (.ref d)) ?_
  unfold Builtin.«sorted»
  refine wpAny_bind (m := checkCount "sorted" 1 1 _) (wpAny_pure (wpAny_bind (PySem.W.kdu_collect (A := X.A.in1) (src_keysT (es := es) (ep := ep) lo) (I.ok.hd hc) raw (by rw [sizeLine_eq]; omega) fun h1 tk acc k0 hacc => ?_)))
  have ea : acc.toList = (ys.map (·.2.1)).map Value.ref := by
    refine List.ext_getElem? fun j => ?_
    by_cases hj : j < kvs.length
    · have hja : j < acc.size := by rw [hacc.1, g5]; exact hj
      have e1 : acc[j]? = some acc[j] := Array.getElem?_eq_getElem hja
      obtain ⟨e, he, ev⟩ := hacc.2 j _ e1
      obtain ⟨p, hp, hb, _⟩ := kt_get rel (List.getElem?_eq_getElem hj)
      rw [entry_at g4, hp] at he
      cases he
      rw [Array.getElem?_toList, e1, ev, List.getElem?_map, List.getElem?_map, hp]
      rfl
    · rw [List.getElem?_eq_none (by rw [Array.length_toList, hacc.1, g5]; omega), List.getElem?_eq_none (by rw [List.length_map, List.length_map, hyl]; omega)]
  rw [ea]
  generalize hqs : ys.map (·.2.1) = qs at ht hv ea
  have hq := ht.len
  have h64 : qs.length < 64 := by omega
  refine wpAny_bind (wpAny_newList ?_ (by rw [hv, sizeLine_eq]; omega))
  have k1 : ∀ b o, s.heap.get? b = some o → (h1.push (seqObj "list" (qs.map Value.ref).toArray 0)).get? b = some o := fun b o g => Heap.get?_push_of_some _ (k0 b o g)
  have gD : (h1.push (seqObj "list" (qs.map Value.ref).toArray 0)).get? h1.objs.size = some (seqObj "list" (qs.map Value.ref).toArray 0) := Heap.get?_push_size _ rfl
  refine wpAny_bind (wpAny_holding (wpAny_call_entry (s := { s with heap := h1.push (seqObj "list" (qs.map Value.ref).toArray 0), toks := tk }) slot_list_sort ⟨_, gD, rfl⟩ entry_list_sort (sort_tups gD ((ht.tups I).keeps fun b o _ g => k1 b o g) (by rw [hv, ← hq]; exact h64) fun p hr hu => ⟨_, rfl, ?_⟩) (args_list_sort (.ref h1.objs.size))))
  rw [hv, ← hq] at hr hu
  have pl : p.toList.Perm (List.range qs.length) := by simpa using Array.perm_iff_toList_perm.mp hr
  have plen : p.toList.length = qs.length := by have := pl.length_eq; simpa using this
  have eo : (outOf (qs.map Value.ref) p).toList = (p.toList.map fun i => qs.getD i 0).map Value.ref := by
    unfold outOf
    show p.toList.map (fun i => (qs.map Value.ref).getD i Value.none) = _
    rw [List.map_map]
    refine List.map_congr_left fun i hi => ?_
    have li : i < qs.length := List.mem_range.mp (pl.mem_iff.mp hi)
    show (qs.map Value.ref).getD i Value.none = Value.ref (qs.getD i 0)
    simp [List.getD_eq_getElem?_getD, List.getElem?_eq_getElem li]
  refine wpAny_pure ⟨_, rfl, ?_⟩
  obtain ⟨c, hc2⟩ := sortedHeap_at (out := outOf (qs.map Value.ref) p) gD
  have T' : TupsAt H (p.toList.map fun i => qs.getD i 0) (p.toList.map fun i => ts.getD i []) := by
    refine ⟨by rw [List.length_map, List.length_map], fun j a b x y => ?_⟩
    rw [List.getElem?_map] at x y
    obtain ⟨i, e1, e2⟩ := Option.map_eq_some_iff.mp x
    rw [e1] at y
    have li : i < qs.length := List.mem_range.mp (pl.mem_iff.mp (List.mem_of_getElem? e1))
    refine ht.at_ i a b ?_ ?_
    · rw [← e2]; simp [List.getD_eq_getElem?_getD, List.getElem?_eq_getElem li]
    · cases y
      simp [List.getD_eq_getElem?_getD, List.getElem?_eq_getElem (show i < ts.length by omega)]
  obtain ⟨hn, I2⟩ := I.laidN (t' := tk) (h' := sortedHeap (h1.push (seqObj "list" (qs.map Value.ref).toArray 0)) h1.objs.size (qs.map Value.ref) (outOf (qs.map Value.ref) p)) (a := h1.objs.size) (o := .lst ((p.toList.map fun i => qs.getD i 0).map V.ref)) (fun b ob g => by
      have lb : b < h1.objs.size := Heap.lt_size (k0 b ob g)
      rw [sortedHeap_old (Nat.ne_of_lt lb) (by rw [size_push']; exact Nat.lt_succ_of_lt lb)]
      exact k1 b ob g) (fun b ob g => Nat.ne_of_lt (Heap.lt_size (k0 b ob g)))
    ⟨by rw [List.length_map, List.length_map, plen, sizeLine_eq]; omega, (p.toList.map fun i => qs.getD i 0).map Value.ref, c, vals_refs9 _, by rw [← eo, Array.toArray_toList]; exact hc2⟩
  refine ⟨.ref h1.objs.size, _, I2, rfl, q _ _ _ hn T' ?_ ?_⟩
  · have := pl.map (fun i => ts.getD i [])
    rw [hq, range_getD] at this
    exact this
  · rw [List.pairwise_iff_getElem]
    intro i j hi hj hij
    rw [List.length_map, plen] at hi hj
    have key : ∀ k (hk : k < p.toList.length), (p.toList.map fun i => ts.getD i [])[k]'(by rw [List.length_map]; exact hk) = kq (O := lexO) (fun i => ts.getD i []) p k := fun k hk => by
      rw [List.getElem_map]
      unfold kq
      have : p.getD k 0 = p.toList[k] := by
        have hk' : k < p.size := by simpa using hk
        simp [Array.getD, hk']
      rw [this]
    rw [key i (by omega), key j (by omega)]
    exact hu i j (by omega) hj
end
section
variable {H : Hp} {Q : VK}
theorem rd_sortK {d : Addr} {kvs : List (List Key × V)} {ts : List (List Int)} (h : H d = some (.dT kvs)) (e : kvs.map (·.1) = ts.map (fun t => t.map Sum.inl)) (hne : ∀ t ∈ ts, t ≠ []) (hl : ts.length < 64) (q : ∀ (p : Addr) (qs : List Addr) (us : List (List Int)), H p = none → TupsAt H qs us → us.Perm ts → us.Pairwise (fun a b => lexB b a = false) → Q (.ref p) (upd H p (.lst (qs.map V.ref)))) : rSortK [.ref d] H Q := ⟨d, kvs, ts, rfl, h, e, hne, hl, q⟩
end
end L2
namespace L2
open PySem
namespace ST
theorem least {P : Nat → Prop} : ∀ {n : Nat}, P n → ∃ m, m ≤ n ∧ P m ∧ ∀ k, k < m → ¬ P k := by
  intro n
  induction n using Nat.strongRecOn with
  | _ n ih =>
    intro h
    by_cases hx : ∃ k, k < n ∧ P k
    · obtain ⟨k, hk, pk⟩ := hx
      obtain ⟨m, a, b, c⟩ := ih k hk pk
      exact ⟨m, by omega, b, c⟩
    · exact ⟨n, Nat.le_refl _, h, fun k hk pk => hx ⟨k, hk, pk⟩⟩
theorem fewer {α : Type} [DecidableEq α] : ∀ {l l' : List α}, l.Nodup → (∀ x ∈ l, x ∈ l') → l.length ≤ l'.length
  | [], _, _, _ => Nat.zero_le _
  | a :: l, l', hn, hs => by
    rw [List.nodup_cons] at hn
    have ha := hs a List.mem_cons_self
    have := fewer (l' := l'.erase a) hn.2 (fun x hx => (List.mem_erase_of_ne (fun (e : x = a) => hn.1 (e ▸ hx))).mpr (hs x (List.mem_cons_of_mem _ hx)))
    rw [List.length_erase_of_mem ha] at this
    have : 0 < l'.length := List.length_pos_of_mem ha
    simp only [List.length_cons]
    omega
def ru (M i : Nat) : Nat := SetTable.runEnd M i - i
theorem ru_le (M i : Nat) : ru M i ≤ 9 := by unfold ru SetTable.runEnd; split <;> omega
theorem ru_in {M i : Nat} (h : i ≤ M) : i + ru M i ≤ M := by unfold ru SetTable.runEnd; split <;> omega
def lp (M : Nat) (h : Int) : Nat → Nat × Nat
  | 0 => (SetTable.bits h % (M + 1), SetTable.bits h)
  | k + 1 => SetTable.leap M (lp M h k).1 (lp M h k).2
theorem lp_lt (M : Nat) (h : Int) : ∀ k, (lp M h k).1 ≤ M
  | 0 => Nat.le_of_lt_succ (Nat.mod_lt _ (Nat.succ_pos _))
  | k + 1 => Nat.le_of_lt_succ (Nat.mod_lt _ (Nat.succ_pos _))
theorem bits_lt (h : Int) : SetTable.bits h < 2 ^ 64 := by unfold SetTable.bits; omega
theorem lp_per (M : Nat) (h : Int) : ∀ k, (lp M h k).2 = SetTable.bits h / 32 ^ k
  | 0 => by simp [lp]
  | k + 1 => by
    show (lp M h k).2 / 32 = _
    rw [lp_per M h k, Nat.div_div_eq_div_mul, Nat.pow_succ]
theorem lp_nil (M : Nat) (h : Int) (k : Nat) : (lp M h (13 + k)).2 = 0 := by
  rw [lp_per]
  apply Nat.div_eq_of_lt
  have h1 := bits_lt h
  have h2 : 32 ^ 13 ≤ 32 ^ (13 + k) := Nat.pow_le_pow_right (by decide) (by omega)
  have h3 : (2 : Nat) ^ 64 ≤ 32 ^ 13 := by decide
  omega
def it (M : Nat) : Nat → Nat → Nat
  | 0, i => i
  | k + 1, i => (it M k i * 5 + 1) % (M + 1)
theorem it_add (M a i : Nat) : ∀ b, it M (a + b) i = it M b (it M a i)
  | 0 => rfl
  | b + 1 => by
    show (it M (a + b) i * 5 + 1) % (M + 1) = _
    rw [it_add M a i b]; rfl
theorem lp_it (M : Nat) (h : Int) : ∀ k, (lp M h (13 + k)).1 = it M k (lp M h 13).1
  | 0 => rfl
  | k + 1 => by
    show ((lp M h (13 + k)).1 * 5 + 1 + (lp M h (13 + k)).2 / 32) % (M + 1) = _
    rw [lp_nil, lp_it M h k]; rfl
def Msk (M : Nat) : Prop := M = 7 ∨ M = 31 ∨ M = 127
def orb (M : Nat) : Nat → Nat → List Nat
  | 0, _ => []
  | n + 1, i => i :: orb M n ((i * 5 + 1) % (M + 1))
theorem orb_mem {M : Nat} : ∀ {n k e : Nat}, e ∈ orb M n (it M k 0) → ∃ j, j < n ∧ it M (k + j) 0 = e
  | 0, _, _, h => by cases h
  | n + 1, k, e, h => by
    rcases List.mem_cons.mp h with h | h
    · exact ⟨0, Nat.succ_pos _, h.symm⟩
    · obtain ⟨j, a, b⟩ := orb_mem (n := n) (k := k + 1) h
      exact ⟨j + 1, by omega, by rw [← b]; congr 1; omega⟩
theorem cov0 {M : Nat} (hM : Msk M) : (∀ e, e ≤ M → ∃ k, k < M + 1 ∧ it M k 0 = e) ∧ it M (M + 1) 0 = 0 := by
  have key : ∀ M, (List.range (M + 1)).all (fun e => (orb M (M + 1) 0).contains e) = true → ∀ e, e ≤ M → ∃ k, k < M + 1 ∧ it M k 0 = e := fun M h e he => by
    have := List.all_eq_true.mp h e (List.mem_range.mpr (by omega))
    obtain ⟨j, a, b⟩ := orb_mem (k := 0) (by show e ∈ orb M (M + 1) 0; simpa using this)
    exact ⟨j, a, by simpa using b⟩
  rcases hM with rfl | rfl | rfl
  · exact ⟨key _ (by decide +kernel), by decide +kernel⟩
  · exact ⟨key _ (by decide +kernel), by decide +kernel⟩
  · exact ⟨key _ (by decide +kernel), by decide +kernel⟩
theorem cov {M i e : Nat} (hM : Msk M) (hi : i ≤ M) (he : e ≤ M) : ∃ k, k < M + 1 ∧ it M k i = e := by
  obtain ⟨c, z⟩ := cov0 hM
  obtain ⟨a, ha, rfl⟩ := c i hi
  obtain ⟨b, hb, rfl⟩ := c e he
  by_cases hab : a ≤ b
  · exact ⟨b - a, by omega, by rw [← it_add]; congr 1; omega⟩
  · refine ⟨b + (M + 1) - a, by omega, ?_⟩
    rw [← it_add, show a + (b + (M + 1) - a) = (M + 1) + b by omega, it_add, z]
theorem cover {M e : Nat} (hM : Msk M) (he : e ≤ M) (h : Int) : ∃ k, k ≤ 13 + M ∧ (lp M h k).1 = e := by
  obtain ⟨k, hk, e1⟩ := cov hM (lp_lt M h 13) he
  exact ⟨13 + k, by omega, by rw [lp_it]; exact e1⟩
def stp (M : Nat) (p : SetTable.Probe) : SetTable.Probe :=
  if p.more > 0 then { p with j := p.j + 1, more := p.more - 1 } else
  let (i, perturb) := SetTable.leap M p.i p.perturb
  { p with j := i, more := SetTable.runEnd M i - i, i, perturb }
def R (M : Nat) (h : Int) (k : Nat) : SetTable.Probe := { j := (lp M h k).1, more := ru M (lp M h k).1, i := (lp M h k).1, perturb := (lp M h k).2, dummy := none }
def pt (M : Nat) (h : Int) : Nat → SetTable.Probe
  | 0 => R M h 0
  | n + 1 => stp M (pt M h n)
theorem pt_start (t : SetTable) (h : Int) : t.probeStart h = pt t.mask h 0 := rfl
def pj (M : Nat) (h : Int) (n : Nat) : Nat := (pt M h n).j
theorem pt_dm (M : Nat) (h : Int) : ∀ n, (pt M h n).dummy = none
  | 0 => rfl
  | n + 1 => by
    show (stp M (pt M h n)).dummy = none
    unfold stp
    split
    · exact pt_dm M h n
    · exact pt_dm M h n
theorem pt_in (M : Nat) (h : Int) : ∀ n, (pt M h n).j + (pt M h n).more ≤ M
  | 0 => ru_in (lp_lt M h 0)
  | n + 1 => by
    have ih := pt_in M h n
    show (stp M (pt M h n)).j + (stp M (pt M h n)).more ≤ M
    unfold stp
    split
    · dsimp only; omega
    · exact ru_in (Nat.le_of_lt_succ (Nat.mod_lt _ (Nat.succ_pos _)))
theorem pj_le (M : Nat) (h : Int) (n : Nat) : pj M h n ≤ M := by have := pt_in M h n; unfold pj; omega
theorem pt_run {M : Nat} {h : Int} {k n : Nat} (e : pt M h n = R M h k) : ∀ d, d ≤ ru M (lp M h k).1 → pt M h (n + d) = { R M h k with j := (lp M h k).1 + d, more := ru M (lp M h k).1 - d }
  | 0, _ => e
  | d + 1, hd => by
    show stp M (pt M h (n + d)) = _
    rw [pt_run e d (by omega)]
    unfold stp
    rw [if_pos (by dsimp only; omega)]
    rfl
theorem pt_next {M : Nat} {h : Int} {k n : Nat} (e : pt M h n = R M h k) : pt M h (n + ru M (lp M h k).1 + 1) = R M h (k + 1) := by
  show stp M (pt M h (n + ru M (lp M h k).1)) = _
  rw [pt_run e _ (Nat.le_refl _)]
  unfold stp
  rw [if_neg (by dsimp only; omega)]
  rfl
theorem run_at (M : Nat) (h : Int) : ∀ k, ∃ n, n ≤ 10 * k ∧ pt M h n = R M h k
  | 0 => ⟨0, Nat.le_refl _, rfl⟩
  | k + 1 => by
    obtain ⟨n, a, b⟩ := run_at M h k
    have := ru_le M (lp M h k).1
    exact ⟨_, by omega, pt_next b⟩
def Fst (oc : Nat → Prop) (M : Nat) (h : Int) (n : Nat) : Prop := ¬ oc (pj M h n) ∧ ∀ m, m < n → oc (pj M h m)
def Rch (oc : Nat → Prop) (M : Nat) (h : Int) (j : Nat) : Prop := ∃ n, pj M h n = j ∧ ∀ m, m < n → oc (pj M h m)
theorem Rch.mono {oc oc' : Nat → Prop} {M : Nat} {h : Int} {j : Nat} (x : Rch oc M h j) (hm : ∀ i, oc i → oc' i) : Rch oc' M h j := let ⟨n, a, b⟩ := x; ⟨n, a, fun m hm' => hm _ (b m hm')⟩
theorem fst_ex {oc : Nat → Prop} {M e : Nat} (hM : Msk M) (he : e ≤ M) (ne : ¬ oc e) (h : Int) : ∃ n, n ≤ 10 * (13 + M) ∧ Fst oc M h n := by
  obtain ⟨k, hk, ek⟩ := cover hM he h
  obtain ⟨n, hn, en⟩ := run_at M h k
  obtain ⟨m, a, b, c⟩ := least (P := fun n => ¬ oc (pj M h n)) (n := n) (by show ¬ oc (pt M h n).j; rw [en]; show ¬ oc (lp M h k).1; rw [ek]; exact ne)
  exact ⟨m, by omega, b, fun k' hk' => Classical.byContradiction fun z => c k' hk' z⟩
def Ris (xs : Array Nat) : Prop := ∀ i k, i < k → k < xs.size → xs.getD i 0 < xs.getD k 0
theorem getD_j {xs : Array Nat} {i : Nat} (hi : i < xs.size) (d : Nat) : xs.getD i d = xs.getD i 0 := by simp [Array.getD, hi]
def Cut (xs : Array Nat) (j r : Nat) : Prop := r ≤ xs.size ∧ (∀ i, i < r → xs.getD i 0 < j) ∧ ∀ i, r ≤ i → i < xs.size → j ≤ xs.getD i 0
theorem below_go {xs : Array Nat} {j : Nat} (hr : Ris xs) : ∀ f lo hi, hi - lo ≤ f → lo ≤ hi → hi ≤ xs.size → (∀ i, i < lo → xs.getD i 0 < j) → (∀ i, hi ≤ i → i < xs.size → j ≤ xs.getD i 0) → Cut xs j (SetTable.below.go xs j f lo hi)
  | 0, lo, hi, hf, h1, h2, h3, h4 => by
    have e : lo = hi := by omega
    subst e
    exact ⟨h2, h3, h4⟩
  | f + 1, lo, hi, hf, h1, h2, h3, h4 => by
    unfold SetTable.below.go
    split
    · rename_i hlt
      have hm : (lo + hi) / 2 < xs.size := by omega
      dsimp only
      rw [getD_j hm]
      by_cases hl : xs.getD ((lo + hi) / 2) 0 < j
      · rw [if_pos hl]
        refine below_go hr f ((lo + hi) / 2 + 1) hi (by omega) (by omega) h2 (fun i hi' => ?_) h4
        by_cases z : i = (lo + hi) / 2
        · rw [z]; exact hl
        · exact Nat.lt_trans (hr i ((lo + hi) / 2) (by omega) hm) hl
      · rw [if_neg hl]
        refine below_go hr f lo ((lo + hi) / 2) (by omega) (by omega) (by omega) h3 (fun i hi' hs => ?_)
        by_cases z : i = (lo + hi) / 2
        · rw [z]; omega
        · have := hr ((lo + hi) / 2) i (by omega) hs
          omega
    · have e : lo = hi := by omega
      subst e
      exact ⟨h2, h3, h4⟩
theorem below_cut {xs : Array Nat} (hr : Ris xs) (j : Nat) : Cut xs j (SetTable.below xs j) :=
  below_go hr _ _ _ (by omega) (by omega) (Nat.le_refl _) (fun i hi => by omega) (fun i a b => by omega)
theorem get_D {xs : Array Nat} {i j : Nat} (h : xs[i]? = some j) : i < xs.size ∧ xs.getD i 0 = j := by
  obtain ⟨a, b⟩ := Array.getElem?_eq_some_iff.mp h
  exact ⟨a, by simp [Array.getD, a, b]⟩
theorem below_at {xs : Array Nat} (hr : Ris xs) {i j : Nat} (h : xs[i]? = some j) : SetTable.below xs j = i := by
  obtain ⟨a, b⟩ := get_D h
  obtain ⟨c1, c2, c3⟩ := below_cut hr j
  rcases Nat.lt_trichotomy (SetTable.below xs j) i with z | z | z
  · have h1 := c3 _ (Nat.le_refl _) (by omega)
    have h2 := hr _ _ z a
    omega
  · exact z
  · have := c2 i z
    omega
theorem slot_live {t : SetTable} (hr : Ris t.place) {i j : Nat} (h : t.place[i]? = some j) : t.slot j = .live i := by
  unfold SetTable.slot
  dsimp only
  rw [below_at hr h, h]
  simp
theorem has_nil (j : Nat) : SetTable.has #[] j = false := by simp [SetTable.has]
theorem slot_empty {t : SetTable} (hd : t.dummies = #[]) {j : Nat} (h : j ∉ t.place.toList) : t.slot j = .empty := by
  unfold SetTable.slot
  dsimp only
  rw [hd, has_nil]
  have : (t.place[SetTable.below t.place j]? == some j) = false := by
    rw [beq_eq_false_iff_ne]
    intro z
    exact h (by rw [← Array.mem_def]; exact Array.mem_of_getElem? z)
  rw [this]
  rfl
theorem probe_go {t : SetTable} (hd : t.dummies = #[]) (hr : Ris t.place) {h : Int} {ha : Nat → Int} {N : Nat} (F : Fst (· ∈ t.place.toList) t.mask h N) : ∀ f m, m ≤ N → N < f + m →
    (SetTable.probe.go t ha h f (pt t.mask h m) = some (.empty (pj t.mask h N) none) ∧ ∀ n i, m ≤ n → n < N → t.place[i]? = some (pj t.mask h n) → ha i ≠ h) ∨
    ∃ n i, m ≤ n ∧ n < N ∧ t.place[i]? = some (pj t.mask h n) ∧ ha i = h ∧ SetTable.probe.go t ha h f (pt t.mask h m) = some (.candidate (pj t.mask h n) i (pt t.mask h (n + 1))) ∧ ∀ n' i', m ≤ n' → n' < n → t.place[i']? = some (pj t.mask h n') → ha i' ≠ h
  | 0, m, h1, h2 => by omega
  | f + 1, m, h1, h2 => by
    by_cases e : m = N
    · subst e
      left
      refine ⟨?_, fun n i a b => by omega⟩
      unfold SetTable.probe.go
      rw [show (pt t.mask h m).j = pj t.mask h m from rfl, slot_empty hd F.1, pt_dm]
    · have hm : m < N := by omega
      have hin := F.2 m hm
      obtain ⟨i, hi⟩ := List.mem_iff_getElem?.mp hin
      rw [Array.getElem?_toList] at hi
      have hs := slot_live hr hi
      by_cases hh : ha i = h
      · right
        refine ⟨m, i, Nat.le_refl _, hm, hi, hh, ?_, fun n' i' a b => by omega⟩
        unfold SetTable.probe.go
        rw [show (pt t.mask h m).j = pj t.mask h m from rfl, hs]
        simp only [hh, beq_self_eq_true, if_true]
        rfl
      · have eg : SetTable.probe.go t ha h (f + 1) (pt t.mask h m) = SetTable.probe.go t ha h f (pt t.mask h (m + 1)) := by
          rw [SetTable.probe.go.eq_2]
          rw [show (pt t.mask h m).j = pj t.mask h m from rfl, hs]
          simp only [beq_iff_eq, hh, if_false]
          rfl
        rw [eg]
        have no : ∀ n i', m ≤ n → ¬ m + 1 ≤ n → t.place[i']? = some (pj t.mask h n) → ha i' ≠ h := fun n i' a b z => by
          have en : n = m := by omega
          subst en
          have : i' = i := by rw [← below_at hr z, below_at hr hi]
          rw [this]; exact hh
        rcases probe_go hd hr F f (m + 1) (by omega) (by omega) with ⟨a, b⟩ | ⟨n, i2, a, b, c, d, e', g⟩
        · exact .inl ⟨a, fun n i' x y z => if w : m + 1 ≤ n then b n i' w y z else no n i' x w z⟩
        · exact .inr ⟨n, i2, by omega, b, c, d, e', fun n' i' x y z => if w : m + 1 ≤ n' then g n' i' w y z else no n' i' x w z⟩
theorem ins_get {α : Type} {xs : Array α} {p : Nat} (hp : p ≤ xs.size) (x : α) (i : Nat) : (SetTable.insertAt xs p x)[i]? = if i < p then xs[i]? else if i = p then some x else xs[i - 1]? := by
  have e : (SetTable.insertAt xs p x).toList = xs.toList.take p ++ x :: xs.toList.drop p := by
    simp [SetTable.insertAt, List.extract_eq_take_drop, List.take_of_length_le]
  rw [← Array.getElem?_toList, e]
  have hl : (xs.toList.take p).length = p := by simp; omega
  split
  · rename_i h
    rw [List.getElem?_append_left (by omega), List.getElem?_take_of_lt h, Array.getElem?_toList]
  · rename_i h
    rw [List.getElem?_append_right (by omega), hl]
    split
    · rename_i h2
      rw [h2]
      simp
    · rename_i h2
      rw [show i - p = (i - 1 - p) + 1 by omega, List.getElem?_cons_succ, List.getElem?_drop, Array.getElem?_toList, show p + (i - 1 - p) = i - 1 by omega]
theorem ins_size {α : Type} {xs : Array α} {p : Nat} (hp : p ≤ xs.size) (x : α) : (SetTable.insertAt xs p x).size = xs.size + 1 := by
  simp [SetTable.insertAt]; omega
theorem ins_mem {α : Type} {xs : Array α} {p : Nat} (hp : p ≤ xs.size) (x y : α) : y ∈ (SetTable.insertAt xs p x).toList ↔ y = x ∨ y ∈ xs.toList := by
  have e : (SetTable.insertAt xs p x).toList = xs.toList.take p ++ x :: xs.toList.drop p := by
    simp [SetTable.insertAt, List.extract_eq_take_drop, List.take_of_length_le]
  rw [e, List.mem_append, List.mem_cons]
  conv => rhs; rw [← List.take_append_drop p xs.toList, List.mem_append]
  constructor
  · rintro (h | h | h)
    · exact .inr (.inl h)
    · exact .inl h
    · exact .inr (.inr h)
  · rintro (h | h | h)
    · exact .inr (.inl h)
    · exact .inl h
    · exact .inr (.inr h)
theorem ris_iff {xs : Array Nat} : Ris xs ↔ ∀ (i k a b : Nat), i < k → xs[i]? = some a → xs[k]? = some b → a < b := by
  constructor
  · intro h i k a b hik ha hb
    obtain ⟨a1, a2⟩ := get_D ha
    obtain ⟨b1, b2⟩ := get_D hb
    have := h i k hik b1
    omega
  · intro h i k hik hk
    have := h i k _ _ hik (Array.getElem?_eq_getElem (by omega : i < xs.size)) (Array.getElem?_eq_getElem hk)
    simpa [Array.getD, hk, (by omega : i < xs.size)] using this
theorem mem_get {xs : Array Nat} {j : Nat} : j ∈ xs.toList ↔ ∃ i : Nat, xs[i]? = some j := by
  rw [List.mem_iff_getElem?]
  simp only [Array.getElem?_toList]
theorem ins_ris {xs : Array Nat} {j : Nat} (hr : Ris xs) (hj : j ∉ xs.toList) : Ris (SetTable.insertAt xs (SetTable.below xs j) j) := by
  obtain ⟨c1, c2, c3⟩ := below_cut hr j
  rw [ris_iff] at hr ⊢
  intro i k a b hik ha hb
  rw [ins_get c1] at ha hb
  have lo : ∀ i a, i < SetTable.below xs j → xs[i]? = some a → a < j := fun i a h z => by have := c2 i h; rw [(get_D z).2] at this; exact this
  have hi : ∀ i a, SetTable.below xs j ≤ i → xs[i]? = some a → j < a := fun i a h z => by
    have h1 := c3 i h (get_D z).1
    rw [(get_D z).2] at h1
    have : a ≠ j := fun e => hj (mem_get.mpr ⟨i, by rw [← e]; exact z⟩)
    omega
  split at ha
  · rename_i h1
    split at hb
    · exact hr i k a b hik ha hb
    · split at hb
      · cases hb
        exact lo i a h1 ha
      · exact hr i (k - 1) a b (by omega) ha hb
  · split at ha
    · rename_i h2
      cases ha
      split at hb
      · omega
      · split at hb
        · omega
        · exact hi _ _ (by omega) hb
    · split at hb
      · omega
      · split at hb
        · omega
        · exact hr (i - 1) (k - 1) a b (by omega) ha hb
structure Tab (t : SetTable) (es : Array (Int × Value)) : Prop where
  dm : t.dummies = #[]
  sz : t.place.size = es.size
  ris : Ris t.place
  top : ∀ j ∈ t.place.toList, j ≤ t.mask
  msk : Msk t.mask
  room : t.place.size ≤ t.mask
  rch : ∀ (i j : Nat) (e : Int × Value), t.place[i]? = some j → es[i]? = some e → Rch (· ∈ t.place.toList) t.mask e.1 j
theorem Tab.hole {t : SetTable} {es : Array (Int × Value)} (T : Tab t es) : ∃ e, e ≤ t.mask ∧ e ∉ t.place.toList := by
  apply Classical.byContradiction
  intro hx
  have h1 := fewer (l := List.range (t.mask + 1)) (l' := t.place.toList) List.nodup_range (fun x hm => Classical.byContradiction fun z => hx ⟨x, by have := List.mem_range.mp hm; omega, z⟩)
  rw [List.length_range, Array.length_toList] at h1
  have := T.room
  omega
theorem Tab.fits {t : SetTable} {es : Array (Int × Value)} (T : Tab t es) : t.fits es.size = true := by
  unfold SetTable.fits SetTable.fill
  rw [T.dm]
  have := T.room
  simp [T.sz]
  rw [← T.sz]
  exact this
theorem Tab.first {t : SetTable} {es : Array (Int × Value)} (T : Tab t es) (h : Int) : ∃ n, n ≤ 10 * (13 + t.mask) ∧ Fst (· ∈ t.place.toList) t.mask h n := by
  obtain ⟨e, a, b⟩ := T.hole
  exact fst_ex T.msk a b h
theorem Tab.put {t : SetTable} {es : Array (Int × Value)} (T : Tab t es) {h : Int} {N : Nat} (F : Fst (· ∈ t.place.toList) t.mask h N) (hz : es.size + 1 ≤ t.mask) (x : Value) :
    (t.put (pj t.mask h N)).1 = { t with place := SetTable.insertAt t.place (SetTable.below t.place (pj t.mask h N)) (pj t.mask h N) } ∧ (t.put (pj t.mask h N)).2 = SetTable.below t.place (pj t.mask h N) ∧
    Tab { t with place := SetTable.insertAt t.place (SetTable.below t.place (pj t.mask h N)) (pj t.mask h N) } (SetTable.insertAt es (SetTable.below t.place (pj t.mask h N)) (h, x)) := by
  obtain ⟨c1, c2, c3⟩ := below_cut T.ris (pj t.mask h N)
  have c1' : SetTable.below t.place (pj t.mask h N) ≤ es.size := by rw [← T.sz]; exact c1
  refine ⟨?_, rfl, ?_⟩
  · unfold SetTable.put
    dsimp only
    rw [T.dm, has_nil]
    rfl
  · refine ⟨T.dm, by dsimp only; rw [ins_size c1, ins_size c1', T.sz], ins_ris T.ris F.1, fun j hj => ?_, T.msk, by dsimp only; rw [ins_size c1, T.sz]; exact hz, fun i j e hi he => ?_⟩
    · rcases (ins_mem c1 _ _).mp hj with rfl | hj
      · exact pj_le ..
      · exact T.top j hj
    · dsimp only at hi ⊢
      rw [ins_get c1] at hi
      rw [ins_get c1'] at he
      have up : ∀ i, i ∈ t.place.toList → i ∈ (SetTable.insertAt t.place (SetTable.below t.place (pj t.mask h N)) (pj t.mask h N)).toList := fun i hi => (ins_mem c1 _ _).mpr (.inr hi)
      split at hi
      · rename_i q
        rw [if_pos q] at he
        exact (T.rch i j e hi he).mono up
      · rename_i q
        rw [if_neg q] at he
        split at hi
        · rename_i q2
          rw [if_pos q2] at he
          cases hi
          cases he
          exact ⟨N, rfl, fun m hm => up _ (F.2 m hm)⟩
        · rename_i q2
          rw [if_neg q2] at he
          exact (T.rch _ j e hi he).mono up
theorem Tab.on {t : SetTable} {es : Array (Int × Value)} (T : Tab t es) {h : Int} {N : Nat} (F : Fst (· ∈ t.place.toList) t.mask h N) {i : Nat} {y : Value} (hi : es[i]? = some (h, y)) : ∃ n, n < N ∧ t.place[i]? = some (pj t.mask h n) := by
  have hl : i < t.place.size := by rw [T.sz]; exact (Array.getElem?_eq_some_iff.mp hi).1
  have hp : t.place[i]? = some t.place[i] := Array.getElem?_eq_getElem hl
  obtain ⟨n, a, b⟩ := T.rch i _ _ hp hi
  have hin : pj t.mask h n ∈ t.place.toList := mem_get.mpr ⟨i, by rw [hp]; exact congrArg some a.symm⟩
  refine ⟨n, ?_, by rw [hp]; exact congrArg some a.symm⟩
  rcases Nat.lt_trichotomy n N with z | z | z
  · exact z
  · rw [z] at hin; exact absurd hin F.1
  · exact absurd (b N z) F.1
def oc (ow : Array (Option Nat)) (j : Nat) : Prop := ∃ i, ow[j]? = some (some i)
theorem free_ok {ow : Array (Option Nat)} {M : Nat} {h : Int} {K : Nat} (hs : ow.size = M + 1) (hK : ¬ oc ow (lp M h K).1) : ∀ f k n, pt M h n = R M h k → (∀ m, m < n → oc ow (pj M h m)) → k ≤ K → K < f + k →
    ∃ N, SetTable.layClean.free M ow f (lp M h k).1 (lp M h k).2 = some (pj M h N) ∧ Fst (oc ow) M h N
  | 0, k, n, e, ho, h1, h2 => by omega
  | f + 1, k, n, e, ho, h1, h2 => by
    have isn : ∀ d, d ≤ ru M (lp M h k).1 → ((ow.getD ((lp M h k).1 + d) (some 0)).isNone = true ↔ ¬ oc ow (pj M h (n + d))) := fun d hd => by
      have ej : pj M h (n + d) = (lp M h k).1 + d := by unfold pj; rw [pt_run e d hd]
      rw [ej]
      have hl : (lp M h k).1 + d < ow.size := by have := ru_in (lp_lt M h k); omega
      have e2 : ow[(lp M h k).1 + d]? = some ow[(lp M h k).1 + d] := Array.getElem?_eq_getElem hl
      have e3 : ow.getD ((lp M h k).1 + d) (some 0) = ow[(lp M h k).1 + d] := by simp [Array.getD, hl]
      rw [e3]
      unfold oc
      rw [e2]
      cases ow[(lp M h k).1 + d] <;> simp
    have er : SetTable.runEnd M (lp M h k).1 + 1 - (lp M h k).1 = ru M (lp M h k).1 + 1 := by unfold ru SetTable.runEnd; split <;> omega
    unfold SetTable.layClean.free
    rw [er]
    split
    · rename_i d hd
      have hp := List.find?_some hd
      have hm := List.mem_of_find?_eq_some hd
      have hdl : d ≤ ru M (lp M h k).1 := by have := List.mem_range.mp hm; omega
      refine ⟨n + d, ?_, (isn d hdl).mp hp, fun m hm => ?_⟩
      · unfold pj; rw [pt_run e d hdl]
      · by_cases z : m < n
        · exact ho m z
        · have z2 : m - n < d := by omega
          apply Classical.byContradiction
          intro q
          rw [show m = n + (m - n) by omega] at q
          have := (isn (m - n) (by omega)).mpr q
          obtain ⟨_, as, bs, e1, e2⟩ := List.find?_eq_some_iff_append.mp hd
          have ed : as.length = d := by
            have h3 : (List.range (ru M (lp M h k).1 + 1))[as.length]? = some d := by rw [e1]; simp
            rw [List.getElem?_range (by have := congrArg List.length e1; simp at this; omega)] at h3
            exact Option.some.inj h3
          have h4 : as[m - n]? = some (m - n) := by
            have h3 : (List.range (ru M (lp M h k).1 + 1))[m - n]? = some (m - n) := List.getElem?_range (by omega)
            rw [e1, List.getElem?_append_left (by omega)] at h3
            exact h3
          have h5 := e2 _ (List.mem_of_getElem? h4)
          rw [this] at h5
          simp at h5
    · rename_i hd
      have all : ∀ d, d ≤ ru M (lp M h k).1 → oc ow (pj M h (n + d)) := fun d hdl => by
        have := List.find?_eq_none.mp hd d (List.mem_range.mpr (by omega))
        exact Classical.byContradiction fun z => this ((isn d hdl).mpr z)
      have hkK : k ≠ K := fun z => by
        subst z
        have := all 0 (Nat.zero_le _)
        rw [Nat.add_zero] at this
        unfold pj at this
        rw [e] at this
        exact hK this
      exact free_ok hs hK f (k + 1) (n + ru M (lp M h k).1 + 1) (pt_next e) (fun m hm => if z : m < n then ho m z else by
        have := all (m - n) (by omega)
        rw [show n + (m - n) = m by omega] at this
        exact this) (by omega) (by omega)
structure Lay (M : Nat) (hs : List Int) (ow : Array (Option Nat)) (k : Nat) : Prop where
  sz : ow.size = M + 1
  at_ : ∀ (j i : Nat), ow[j]? = some (some i) → i < k ∧ ∃ h, hs[i]? = some h ∧ Rch (oc ow) M h j
  all : ∀ i, i < k → ∃ j : Nat, ow[j]? = some (some i)
  inj : ∀ (j j' i : Nat), ow[j]? = some (some i) → ow[j']? = some (some i) → j = j'
theorem Lay.hole {M : Nat} {hs : List Int} {ow : Array (Option Nat)} {k : Nat} (L : Lay M hs ow k) (hk : k ≤ M) : ∃ e, e ≤ M ∧ ¬ oc ow e := by
  apply Classical.byContradiction
  intro hx
  have full : ∀ e, e ≤ M → oc ow e := fun e he => Classical.byContradiction fun z => hx ⟨e, he, z⟩
  have nd : ((List.range (M + 1)).map fun j => (ow.getD j none).getD 0).Nodup := by
    unfold List.Nodup
    rw [List.pairwise_map]
    refine List.Pairwise.imp_of_mem ?_ List.pairwise_lt_range
    intro a b ha hb hab z
    obtain ⟨i, hi⟩ := full a (by have := List.mem_range.mp ha; omega)
    obtain ⟨i', hi'⟩ := full b (by have := List.mem_range.mp hb; omega)
    rw [Array.getD_eq_getD_getElem?, Array.getD_eq_getD_getElem?, hi, hi'] at z
    have z2 : i = i' := z
    subst z2
    have := L.inj a b i hi hi'
    omega
  have := fewer (l' := List.range k) nd (fun x hx => by
    obtain ⟨j, hj, rfl⟩ := List.mem_map.mp hx
    obtain ⟨i, hi⟩ := full j (by have := List.mem_range.mp hj; omega)
    rw [Array.getD_eq_getD_getElem?, hi]
    exact List.mem_range.mpr (L.at_ j i hi).1)
  simp at this
  omega
theorem lay_step {M : Nat} {hs : List Int} {ow : Array (Option Nat)} {k : Nat} (hM : Msk M) (L : Lay M hs ow k) (hk : k ≤ M) {h : Int} (hh : hs[k]? = some h) :
    ∃ j, SetTable.layClean.free M ow (SetTable.turns M) (SetTable.bits h % (M + 1)) (SetTable.bits h) = some j ∧ Lay M hs (ow.setIfInBounds j (some k)) (k + 1) := by
  obtain ⟨e, he, ne⟩ := L.hole hk
  obtain ⟨K, hK, eK⟩ := cover hM he h
  obtain ⟨N, fN, F⟩ := free_ok (K := K) L.sz (by rw [eK]; exact ne) (SetTable.turns M) 0 0 rfl (fun m hm => by omega) (Nat.zero_le _) (by unfold SetTable.turns; omega)
  have jl : pj M h N < ow.size := by have := pj_le M h N; have := L.sz; omega
  have un : ∀ j, (ow.setIfInBounds (pj M h N) (some k))[j]? = if pj M h N = j then some (some k) else ow[j]? := fun j => by
    rw [Array.getElem?_setIfInBounds]
    split <;> first | rfl | rw [if_pos jl] | (split <;> first | rfl | omega)
  have up : ∀ j, oc ow j → oc (ow.setIfInBounds (pj M h N) (some k)) j := fun j ⟨i, hi⟩ => by
    unfold oc
    rw [un]
    split
    · exact ⟨k, rfl⟩
    · exact ⟨i, hi⟩
  refine ⟨pj M h N, fN, by simp [L.sz], fun j i hi => ?_, fun i hi => ?_, fun j j' i hi hi' => ?_⟩
  · rw [un] at hi
    split at hi
    · rename_i z
      cases hi
      exact ⟨Nat.lt_succ_self _, h, hh, ⟨N, z, fun m hm => up _ (F.2 m hm)⟩⟩
    · obtain ⟨a, h', b, c⟩ := L.at_ j i hi
      exact ⟨by omega, h', b, c.mono up⟩
  · by_cases z : i = k
    · exact ⟨pj M h N, by rw [un, if_pos rfl, z]⟩
    · obtain ⟨j, hj⟩ := L.all i (by omega)
      exact ⟨j, by rw [un, if_neg (fun q => F.1 ⟨i, by rw [q]; exact hj⟩)]; exact hj⟩
  · rw [un] at hi hi'
    split at hi
    · rename_i z
      split at hi'
      · rename_i z'; rw [← z, z']
      · cases hi
        have := (L.at_ _ _ hi').1
        omega
    · split at hi'
      · cases hi'
        have := (L.at_ _ _ hi).1
        omega
      · exact L.inj _ _ _ hi hi'
theorem lay_all {M : Nat} {hs : List Int} (hM : Msk M) (hz : hs.length ≤ M) : ∀ (r : List Int) (ow : Array (Option Nat)) (k : Nat), hs.drop k = r → Lay M hs ow k → ∃ ow', List.foldl (fun (acc : Option (Array (Option Nat) × Nat)) (h : Int) => do
      let (owner, k) ← acc
      let j ← SetTable.layClean.free M owner (SetTable.turns M) (SetTable.bits h % (M + 1)) (SetTable.bits h)
      pure (owner.setIfInBounds j (some k), k + 1)) (some (ow, k)) r = some (ow', hs.length) ∧ Lay M hs ow' hs.length
  | [], ow, k, e, L => by
    have h1 : hs.length ≤ k := by have := congrArg List.length e; simp at this; omega
    have h2 : k ≤ hs.length := Classical.byContradiction fun z => by
      obtain ⟨j, hj⟩ := L.all hs.length (by omega)
      obtain ⟨_, h, b, _⟩ := L.at_ j _ hj
      rw [List.getElem?_eq_none (Nat.le_refl _)] at b
      cases b
    have e2 : k = hs.length := by omega
    subst e2
    exact ⟨ow, rfl, L⟩
  | h :: r, ow, k, e, L => by
    have hk : k < hs.length := Classical.byContradiction fun z => by rw [List.drop_eq_nil_of_le (by omega)] at e; cases e
    have hh : hs[k]? = some h := by
      have : (hs.drop k)[0]? = some h := by rw [e]; rfl
      rw [List.getElem?_drop] at this
      exact this
    obtain ⟨j, fj, L'⟩ := lay_step hM L (by omega) hh
    rw [List.foldl_cons]
    have : (do
      let (owner, k) ← some (ow, k)
      let j ← SetTable.layClean.free M owner (SetTable.turns M) (SetTable.bits h % (M + 1)) (SetTable.bits h)
      pure (owner.setIfInBounds j (some k), k + 1) : Option (Array (Option Nat) × Nat)) = some (ow.setIfInBounds j (some k), k + 1) := by
      show (SetTable.layClean.free M ow (SetTable.turns M) (SetTable.bits h % (M + 1)) (SetTable.bits h)).bind _ = _
      rw [fj]; rfl
    rw [this]
    exact lay_all hM hz r _ (k + 1) (by rw [← List.drop_drop, e]; rfl) L'
theorem laid_ok {M : Nat} {hs : Array Int} (hM : Msk M) (hz : hs.size ≤ M) (fg mv : Nat) (led plain : Bool) : ∃ (pl od : Array Nat), SetTable.laid M fg mv led plain hs = some ({ mask := M, place := pl, dummies := #[], finger := fg, led := led, moves := mv, plain := plain }, od) ∧
    od.toList.Perm (List.range hs.size) ∧ Ris pl ∧ (∀ j ∈ pl.toList, j ≤ M) ∧ pl.size = od.size ∧ ∀ (i j k : Nat), pl[i]? = some j → od[i]? = some k → ∃ h, hs[k]? = some h ∧ Rch (· ∈ pl.toList) M h j := by
  have nor : ∀ (j i : Nat), ¬ (Array.replicate (M + 1) (none : Option Nat))[j]? = some (some i) := fun j i hi => by
    rw [Array.getElem?_replicate] at hi
    split at hi <;> cases hi
  obtain ⟨ow, e, L⟩ := lay_all (hs := hs.toList) hM (by simpa using hz) hs.toList (Array.replicate (M + 1) none) 0 rfl ⟨by simp, fun j i hi => absurd hi (nor j i), fun i hi => by omega, fun j j' i hi => absurd hi (nor j i)⟩
  have e1 : SetTable.layClean M hs = some ow := by
    unfold SetTable.layClean
    rw [← Array.foldl_toList, e]
    rfl
  generalize hlv : ((List.range (M + 1)).filterMap fun j => (ow.getD j none).map (j, ·)) = lv
  have mem : ∀ j i, (j, i) ∈ lv ↔ ow[j]? = some (some i) := fun j i => by
    rw [← hlv, List.mem_filterMap]
    constructor
    · rintro ⟨a, ha, b⟩
      rw [Array.getD_eq_getD_getElem?] at b
      cases h : ow[a]? with
      | none => rw [h] at b; cases b
      | some o =>
        rw [h] at b
        cases o with
        | none => cases b
        | some x => cases b; exact h
    · intro h
      refine ⟨j, List.mem_range.mpr ?_, ?_⟩
      · have := (Array.getElem?_eq_some_iff.mp h).1
        rw [L.sz] at this; exact this
      · rw [Array.getD_eq_getD_getElem?, h]; rfl
  have pw : lv.Pairwise fun a b => a.1 < b.1 := by
    rw [← hlv]
    refine List.Pairwise.filterMap _ ?_ List.pairwise_lt_range
    intro a a' h b hb b' hb'
    obtain ⟨_, _, rfl⟩ := Option.map_eq_some_iff.mp hb
    obtain ⟨_, _, rfl⟩ := Option.map_eq_some_iff.mp hb'
    exact h
  refine ⟨(lv.map (·.1)).toArray, (lv.map (·.2)).toArray, ?_, ?_, ?_, ?_, by simp, ?_⟩
  · unfold SetTable.laid
    rw [e1]
    show some _ = some _
    rw [hlv]
  · have nd : (lv.map (·.2)).Nodup := by
      unfold List.Nodup
      rw [List.pairwise_map]
      refine List.Pairwise.imp_of_mem ?_ pw
      intro a b ha hb hab z
      have := L.inj a.1 b.1 a.2 ((mem _ _).mp ha) (by rw [z]; exact (mem _ _).mp hb)
      omega
    show (lv.map (·.2)).Perm _
    refine (List.perm_ext_iff_of_nodup nd List.nodup_range).mpr fun k => ?_
    rw [List.mem_map, List.mem_range]
    constructor
    · rintro ⟨⟨j, i⟩, h, rfl⟩
      have := (L.at_ j i ((mem _ _).mp h)).1
      simpa using this
    · intro hk
      obtain ⟨j, hj⟩ := L.all k (by simpa using hk)
      exact ⟨(j, k), (mem _ _).mpr hj, rfl⟩
  · rw [ris_iff]
    intro i k a b hik ha hb
    have p2 : (lv.map (·.1)).Pairwise (· < ·) := by rw [List.pairwise_map]; exact pw
    rw [List.getElem?_toArray] at ha hb
    obtain ⟨h1, h2⟩ := List.getElem?_eq_some_iff.mp ha
    obtain ⟨h3, h4⟩ := List.getElem?_eq_some_iff.mp hb
    have := List.pairwise_iff_getElem.mp p2 i k h1 h3 hik
    rw [h2, h4] at this
    exact this
  · intro j hj
    obtain ⟨⟨j', i⟩, h, rfl⟩ := List.mem_map.mp hj
    have := (Array.getElem?_eq_some_iff.mp ((mem _ _).mp h)).1
    rw [L.sz] at this
    exact Nat.le_of_lt_succ this
  · intro i j k hj hk
    rw [List.getElem?_toArray, List.getElem?_map] at hj hk
    obtain ⟨⟨j', k'⟩, e5, rfl⟩ := Option.map_eq_some_iff.mp hj
    rw [e5] at hk
    cases hk
    obtain ⟨_, h, e6, e7⟩ := L.at_ j' k' ((mem _ _).mp (List.mem_of_getElem? e5))
    refine ⟨h, by rw [← Array.getElem?_toList]; exact e6, e7.mono fun q ⟨z, hz⟩ => ?_⟩
    exact List.mem_map.mpr ⟨(q, z), (mem _ _).mpr hz, rfl⟩
theorem relaid_ok {t : SetTable} {es : Array (Int × Value)} {W : Nat} (hM : Msk (SetTable.sizeAbove W - 1)) (hz : es.size ≤ SetTable.sizeAbove W - 1) :
    ∃ (pl od : Array Nat), t.relaid (es.map (·.1)) W = some ({ mask := SetTable.sizeAbove W - 1, place := pl, dummies := #[], finger := t.finger, led := t.led, moves := t.movedTo (SetTable.sizeAbove W - 1), plain := t.plain }, od) ∧
    (od.filterMap (es[·]?)).toList.Perm es.toList ∧ Tab { mask := SetTable.sizeAbove W - 1, place := pl, dummies := #[], finger := t.finger, led := t.led, moves := t.movedTo (SetTable.sizeAbove W - 1), plain := t.plain } (od.filterMap (es[·]?)) := by
  obtain ⟨pl, od, e1, e2, e3, e4, e5, e6⟩ := laid_ok (hs := es.map (·.1)) hM (by simpa using hz) t.finger (t.movedTo (SetTable.sizeAbove W - 1)) t.led t.plain
  rw [Array.size_map] at e2
  have ef : (List.range es.size).filterMap (fun i => es[i]?) = es.toList := by
    refine List.ext_getElem? fun n => ?_
    have : ∀ m, m ≤ es.size → (List.range m).filterMap (fun i => es[i]?) = es.toList.take m := fun m => by
      induction m with
      | zero => intro _; rfl
      | succ m ih =>
        intro hm
        rw [List.range_succ, List.filterMap_append, ih (by omega), List.take_succ, Array.getElem?_toList, Array.getElem?_eq_getElem (show m < es.size by omega)]
        simp [List.filterMap, Array.getElem?_eq_getElem (show m < es.size by omega)]
    rw [this es.size (Nat.le_refl _), List.take_of_length_le (by simp)]
  have pm : (od.filterMap (es[·]?)).toList.Perm es.toList := by
    rw [Array.toList_filterMap, ← ef]
    exact e2.filterMap _
  have each : ∀ k ∈ od.toList, ∃ e, es[k]? = some e := fun k hk => by
    have := List.mem_range.mp (e2.mem_iff.mp hk)
    exact ⟨_, Array.getElem?_eq_getElem this⟩
  have ix : ∀ (l : List Nat), (∀ k ∈ l, ∃ e, es[k]? = some e) → ∀ (i : Nat) (e : Int × Value), (l.filterMap (es[·]?))[i]? = some e → ∃ k, l[i]? = some k ∧ es[k]? = some e := fun l => by
    induction l with
    | nil => intro _ i e h; simp at h
    | cons a l ih =>
      intro ha i e h
      obtain ⟨x, hx⟩ := ha a List.mem_cons_self
      rw [List.filterMap_cons_some hx] at h
      cases i with
      | zero => cases h; exact ⟨a, rfl, hx⟩
      | succ i => exact ih (fun k hk => ha k (List.mem_cons_of_mem _ hk)) i e h
  have sz : (od.filterMap (es[·]?)).size = es.size := by have := pm.length_eq; rw [Array.length_toList, Array.length_toList] at this; exact this
  have so : od.size = es.size := by have := e2.length_eq; simpa using this
  refine ⟨pl, od, e1, pm, rfl, by dsimp only; rw [e5, sz, so], e3, e4, hM, by dsimp only; rw [e5, so]; exact hz, fun i j e hi he => ?_⟩
  rw [← Array.getElem?_toList, Array.toList_filterMap] at he
  obtain ⟨k, hk, ek⟩ := ix od.toList each i e he
  obtain ⟨h, h1, h2⟩ := e6 i j k hi (by rw [← Array.getElem?_toList]; exact hk)
  rw [Array.getElem?_map, ek] at h1
  cases h1
  exact h2
end ST
end L2
namespace L2
open PySem PySem.Spec PySem.W PyProof.Rows
section
variable {prog : Program} {w : World} {K : Type} [DecidableEq K] {A : Around} {E : Value → Shared → Prop} {s : Shared}
structure SetKey (kd : HeapKind prog w K) : Prop where
  keepsT : ∀ {h h' : Heap} {k : K} {b : Addr}, kd.is h k b → (∀ (b : Addr) (o : Obj), o.cls = .type "tuple" → h.get? b = some o → h'.get? b = some o) → kd.is h' k b
  byVal : ∀ {A : Around} {E : Value → Shared → Prop} {s : Shared} {k : K} {b : Addr} {Q : Bool → Shared → Prop}, kd.is s.heap k b → Q true s → wpAny (model prog w) A (hashByValue 8 (.ref b)) Q E s
  noCls : ∀ {A : Around} {E : Value → Shared → Prop} {s : Shared} {k : K} {b : Addr} {Q : Bool → Shared → Prop}, kd.is s.heap k b → Q false s → wpAny (model prog w) A (ofAClassStatement 8 (.ref b)) Q E s
theorem scan_ref (b : Addr) (es : Array (Int × Value)) : byScan (.ref b) es = false := by simp [byScan, Value.scannable]
theorem seen_no {kd : HeapKind prog w K} (S : SetKey kd) {k : K} {b : Addr} (hb : kd.is s.heap k b) {Q : Bool → Shared → Prop} (hQ : Q false s) : ∀ {l : List Value}, (∀ y ∈ l, ∃ k' b', y = .ref b' ∧ kd.is s.heap k' b') → wpAny (model prog w) A (searchCouldBeSeen (.ref b) l) Q E s := by
  intro l hl
  unfold searchCouldBeSeen
  refine wpAny_bind (wpAny_forIn_list _ (fun rest r s' => r.1 = none ∧ s' = s ∧ ∀ y ∈ rest, ∃ k' b', y = .ref b' ∧ kd.is s.heap k' b') _ ?_ ?_ _ _ ⟨rfl, rfl, hl⟩)
  · rintro y rest r s' ⟨hr, rfl, hall⟩
    obtain ⟨k', b', rfl, hb'⟩ := hall y List.mem_cons_self
    dsimp only
    by_cases hv : ((b == b') || (carriedByValue (Value.ref b) && carriedByValue (Value.ref b'))) = true
    · rw [if_pos hv]
      exact wpAny_pure ⟨rfl, rfl, fun u hu' => hall u (List.mem_cons_of_mem _ hu')⟩
    · rw [if_neg hv]
      refine wpAny_bind (kd.quiet hb ?_)
      simp only [Bool.not_true, Bool.false_eq_true, if_false]
      refine wpAny_bind (kd.quiet hb' ?_)
      simp only [Bool.not_true, Bool.false_eq_true, if_false]
      refine wpAny_bind (S.noCls hb ?_)
      simp only [Bool.false_eq_true, if_false]
      refine wpAny_bind (S.noCls hb' ?_)
      simp only [Bool.false_eq_true, if_false]
      exact wpAny_pure ⟨rfl, rfl, fun u hu' => hall u (List.mem_cons_of_mem _ hu')⟩
  · rintro ⟨r1, r2⟩ s' ⟨hr, rfl, _⟩
    simp only at hr
    subst hr
    exact wpAny_pure hQ
theorem search_ok {kd : HeapKind prog w K} (S : SetKey kd) (hu : kd.room A) {a : Addr} {o : Obj} {es : Array (Int × Value)} {ep : Nat} {t : SetTable} (ho : s.heap.get? a = some o) (hd : o.data = .set es ep t) (T : ST.Tab t es)
    {k : K} {b : Addr} (hb : kd.is s.heap k b) (els : ∀ (i : Nat) e, es[i]? = some e → ∃ k' b', e = (kd.hash k', Value.ref b') ∧ kd.is s.heap k' b') {N : Nat} (F : ST.Fst (· ∈ t.place.toList) t.mask (kd.hash k) N) (hN : N ≤ 10 * (13 + t.mask))
    {Q : SetFound → Shared → Prop} (yes : ∀ (i : Nat) b', es[i]? = some (kd.hash k, .ref b') → kd.is s.heap k b' → Q (.there none) s) (no : (∀ (i : Nat) k' b', es[i]? = some (kd.hash k', .ref b') → kd.is s.heap k' b' → k' ≠ k) → Q (.free (ST.pj t.mask (kd.hash k) N) false) s) :
    ∀ f m (stand : Option SetTable.Probe), m ≤ N → N < f + m → stand.getD (t.probeStart (kd.hash k)) = ST.pt t.mask (kd.hash k) m → (∀ n (i : Nat) k' b', n < m → t.place[i]? = some (ST.pj t.mask (kd.hash k) n) → es[i]? = some (kd.hash k', .ref b') → kd.is s.heap k' b' → k' ≠ k) →
      wpAny (model prog w) A (setSearchFrom a (.ref b) (kd.hash k) true f stand) Q E s
  | 0, m, _, h1, h2, _, _ => by omega
  | f + 1, m, stand, h1, h2, hst, hbe => by
    unfold setSearchFrom
    refine wpAny_bind (wpAny_setState_of ho hd T.fits ?_)
    dsimp only
    have gw : t.gaveWay = false := by
      unfold SetTable.gaveWay
      rcases T.msk with z | z | z <;> rw [z] <;> rfl
    rw [gw]
    simp only [Bool.false_eq_true, if_false]
    rw [hst]
    rcases ST.probe_go (ha := fun i => (es[i]?.map (·.1)).getD 0) T.dm T.ris F (10 * SetTable.turns t.mask) m h1 (by unfold SetTable.turns; omega) with ⟨e1, e2⟩ | ⟨n, i, e1, e2, e3, e4, e5, e6⟩
    · split
      · rename_i met heq
        obtain rfl := Option.some.inj (e1.symm.trans heq)
        dsimp only
        refine wpAny_pure (no fun i k' b' hi hk hkk => ?_)
        subst hkk
        obtain ⟨n, n1, n2⟩ := T.on F hi
        by_cases hm : n < m
        · exact hbe n i k' b' hm n2 hi hk rfl
        · refine e2 n i (by omega) n1 n2 ?_
          rw [hi]; rfl
      · rename_i heq
        exact (heq _ e1).elim
    · split
      · rename_i met heq
        obtain rfl := Option.some.inj (e5.symm.trans heq)
        dsimp only
        have il : i < es.size := by rw [← T.sz]; exact (Array.getElem?_eq_some_iff.mp e3).1
        obtain ⟨k', b', ee, hk'⟩ := els i _ (Array.getElem?_eq_getElem il)
        have hi : es[i]? = some (kd.hash k', .ref b') := by rw [Array.getElem?_eq_getElem il, ee]
        rw [hi] at e4
        have e4' : kd.hash k' = kd.hash k := e4
        have sm : t.sameMemory t.moves t.mask = some true := by unfold SetTable.sameMemory; simp
        have nxt : k' ≠ k → wpAny (model prog w) A (setSearchFrom a (.ref b) (kd.hash k) true f (some (ST.pt t.mask (kd.hash k) (n + 1)))) Q E s := fun hkk =>
          search_ok S hu ho hd T hb els F hN yes no f (n + 1) (some _) (by omega) (by omega) rfl fun n' i' k2 b2 x1 x2 x3 x4 => by
            by_cases z1 : n' < m
            · exact hbe n' i' k2 b2 z1 x2 x3 x4
            · by_cases z2 : n' < n
              · intro z3
                subst z3
                exact e6 n' i' (by omega) z2 x2 (by rw [x3]; rfl)
              · have z3 : n' = n := by omega
                subst z3
                have z4 : i' = i := by rw [← ST.below_at T.ris x2, ST.below_at T.ris e3]
                subst z4
                rw [hi] at x3
                injection x3 with x3
                injection x3 with _ x5
                injection x5 with x5
                subst x5
                rw [kd.inj x4 hk']
                exact hkk
        split
        · refine wpAny_bind (seen_no S hb ?_ ?_)
          · simp only [Bool.false_eq_true, if_false]
            rw [hi]
            dsimp only
            refine wpAny_bind (wpAny_holding (kd.eqBool hu hk' hb ?_))
            refine wpAny_bind (wpAny_setState_of ho hd T.fits ?_)
            dsimp only
            by_cases hkk : k' = k
            · subst hkk
              simp only [decide_true, Bool.and_self, if_true]
              exact wpAny_pure (yes i b' hi hk')
            · rw [decide_eq_false hkk]
              simp only [Bool.and_false, Bool.false_eq_true, if_false]
              rw [sm]
              dsimp only
              simp only [if_true]
              rw [ST.slot_live T.ris e3]
              dsimp only
              rw [hi]
              dsimp only
              refine wpAny_bind (wpAny_isSame_ref_self ?_)
              refine wpAny_bind (wpAny_pure ?_)
              simp only [if_true]
              exact nxt hkk
          · intro y hy
            obtain ⟨e, he, rfl⟩ := List.mem_map.mp hy
            rw [Array.toList_filter] at he
            obtain ⟨q, hq⟩ := List.mem_iff_getElem?.mp (List.mem_filter.mp he).1
            rw [Array.getElem?_toList] at hq
            obtain ⟨k', b', rfl, hb'⟩ := els q e hq
            exact ⟨k', b', rfl, hb'⟩
        · rw [hi]
          dsimp only
          refine wpAny_bind (wpAny_holding (kd.eqBool hu hk' hb ?_))
          refine wpAny_bind (wpAny_setState_of ho hd T.fits ?_)
          dsimp only
          by_cases hkk : k' = k
          · subst hkk
            simp only [decide_true, Bool.and_self, if_true]
            exact wpAny_pure (yes i b' hi hk')
          · rw [decide_eq_false hkk]
            simp only [Bool.and_false, Bool.false_eq_true, if_false]
            rw [sm]
            dsimp only
            simp only [if_true]
            rw [ST.slot_live T.ris e3]
            dsimp only
            rw [hi]
            dsimp only
            refine wpAny_bind (wpAny_isSame_ref_self ?_)
            refine wpAny_bind (wpAny_pure ?_)
            simp only [if_true]
            exact nxt hkk
      · rename_i heq
        exact (heq _ e5).elim
theorem perm_map {α β : Type} {f : α → β} {l l' : List β} (p : l.Perm l') : ∀ {ps : List α}, l' = ps.map f → ∃ qs : List α, qs.Perm ps ∧ l = qs.map f := by
  induction p with
  | nil => intro ps e; cases ps with
    | nil => exact ⟨[], .nil, rfl⟩
    | cons a ps => cases e
  | cons x _ ih => intro ps e; cases ps with
    | nil => cases e
    | cons a ps =>
      rw [List.map_cons] at e
      injection e with e1 e2
      obtain ⟨qs, a1, a2⟩ := ih e2
      exact ⟨a :: qs, a1.cons _, by rw [List.map_cons, ← e1, ← a2]⟩
  | swap x y l => intro ps e; match ps, e with
    | [], e => cases e
    | [_], e => simp at e
    | a :: b :: ps, e =>
      simp only [List.map_cons] at e
      injection e with e1 e2
      injection e2 with e2 e3
      exact ⟨b :: a :: ps, List.Perm.swap .., by simp [e1, e2, e3]⟩
  | trans _ _ ih1 ih2 =>
    intro ps e
    obtain ⟨qs, a1, a2⟩ := ih2 e
    obtain ⟨rs, b1, b2⟩ := ih1 a2
    exact ⟨rs, b1.trans a1, b2⟩
def SetT (kd : HeapKind prog w K) (bt : Bool) (h : Heap) (a : Addr) (ps : List (K × Addr)) : Prop := ∃ o es ep t, h.get? a = some o ∧ o.ExactSet ∧ o.data = .set es ep t ∧ ST.Tab t es ∧ es.size * 5 < t.mask * 3 ∧ t.plain = true ∧ t.led = bt ∧
  es.toList = ps.map (fun p => (kd.hash p.1, Value.ref p.2)) ∧ (∀ p ∈ ps, kd.is h p.1 p.2) ∧ (ps.map (·.1)).Nodup
theorem SetT.keep {kd : HeapKind prog w K} {bt : Bool} {h h' : Heap} {a : Addr} {ps : List (K × Addr)} (x : SetT kd bt h a ps) (k1 : ∀ o, h.get? a = some o → h'.get? a = some o) (k2 : ∀ p ∈ ps, kd.is h p.1 p.2 → kd.is h' p.1 p.2) : SetT kd bt h' a ps := by
  obtain ⟨o, es, ep, t, ho, r1, r2, r3, r4, r5, r6, r7, r8, r9⟩ := x
  exact ⟨o, es, ep, t, k1 o ho, r1, r2, r3, r4, r5, r6, r7, fun p hp => k2 p hp (r8 p hp), r9⟩
theorem upd_set {h : Heap} {a : Addr} {o : Obj} {es es' : Array (Int × Value)} {ep : Nat} {t t' : SetTable} (ho : h.get? a = some o) (hd : o.data = .set es ep t) : (h.update a (Obj.putSet es' t')).get? a = some { o with data := .set es' (ep + 1) t' } := by
  have := Heap.get?_update_self (Obj.putSet es' t') ho (by rw [putSet_of es' t' hd]; rfl)
  rw [putSet_of es' t' hd] at this; exact this
theorem add_ok {kd : HeapKind prog w K} (S : SetKey kd) (hu : kd.room A) {bt : Bool} {a : Addr} {ps : List (K × Addr)} (hS : SetT kd bt s.heap a ps) {k : K} {b : Addr} (hb : kd.is s.heap k b) (hl : ps.length < 64)
    {Q : Bool → Shared → Prop} (h : ∀ h' ps' r, Heap.SameBut a s.heap h' → SetT kd bt h' a ps' → ps'.Perm (if k ∈ ps.map (·.1) then ps else (k, b) :: ps) → Q r { s with heap := h' }) :
    wpAny (model prog w) A (setAddHashed a (.ref b) (kd.hash k)) Q E s := by
  obtain ⟨o, es, ep, t, ho, hex, hd, T, cap, pl, ld, ee, hel, nd⟩ := id hS
  have sz : es.size = ps.length := by have := congrArg List.length ee; simpa using this
  have els : ∀ (i : Nat) e, es[i]? = some e → ∃ k' b', e = (kd.hash k', Value.ref b') ∧ kd.is s.heap k' b' := fun i e he => by
    rw [← Array.getElem?_toList, ee, List.getElem?_map] at he
    obtain ⟨p, hp, rfl⟩ := Option.map_eq_some_iff.mp he
    exact ⟨p.1, p.2, rfl, hel p (List.mem_of_getElem? hp)⟩
  obtain ⟨N, hN, F⟩ := T.first (kd.hash k)
  have mL : t.mask ≤ 127 := by rcases T.msk with z | z | z <;> omega
  unfold setAddHashed
  refine wpAny_holding ?_
  unfold setAddHashedIn
  refine wpAny_bind (wpAny_setState_of ho hd T.fits ?_)
  dsimp only
  rw [scan_ref]
  simp only [Bool.false_eq_true, if_false]
  unfold setSearch
  refine wpAny_bind (search_ok S hu ho hd T hb els F hN (fun i b' hi hk => ?_) (fun hno => ?_) 100000 0 none (Nat.zero_le _) (by omega) (ST.pt_start t _) (fun n i k' b' z => by omega))
  · refine wpAny_pure ?_
    have hm : k ∈ ps.map (·.1) := by
      rw [← Array.getElem?_toList, ee, List.getElem?_map] at hi
      obtain ⟨p, hp, e⟩ := Option.map_eq_some_iff.mp hi
      injection e with _ e2
      injection e2 with e2
      have hp1 := hel p (List.mem_of_getElem? hp)
      rw [e2] at hp1
      exact List.mem_map.mpr ⟨p, List.mem_of_getElem? hp, kd.inj hp1 hk⟩
    have := h s.heap ps false (Heap.SameBut.refl a s.heap) hS (by rw [if_pos hm])
    exact this
  · dsimp only
    have hm : k ∉ ps.map (·.1) := fun hm => by
      obtain ⟨p, hp, e⟩ := List.mem_map.mp hm
      obtain ⟨i, hi⟩ := List.mem_iff_getElem?.mp hp
      refine hno i p.1 p.2 ?_ (hel p hp) e
      rw [← Array.getElem?_toList, ee, List.getElem?_map, hi]
      rfl
    rw [if_neg hm] at h
    refine wpAny_bind (wpAny_setState_of ho hd T.fits ?_)
    dsimp only
    have hz : es.size + 1 ≤ t.mask := by rcases T.msk with z | z | z <;> rw [z] at cap ⊢ <;> omega
    obtain ⟨p1, p2, T1⟩ := T.put F hz (.ref b)
    rw [p1, p2]
    generalize hpl : SetTable.insertAt t.place (SetTable.below t.place (ST.pj t.mask (kd.hash k) N)) (ST.pj t.mask (kd.hash k) N) = pl1 at T1
    generalize hes : SetTable.insertAt es (SetTable.below t.place (ST.pj t.mask (kd.hash k) N)) (kd.hash k, Value.ref b) = es1 at T1
    have pm1 : es1.toList.Perm (((k, b) :: ps).map fun p => (kd.hash p.1, Value.ref p.2)) := by
      rw [← hes]
      refine (SetTable.insertAt_perm _ _ _).trans ?_
      rw [Array.toList_push, ee, List.map_cons]
      exact List.perm_append_singleton ..
    obtain ⟨ps1, q1, q2⟩ := perm_map pm1 rfl
    have sz1 : es1.size = ps.length + 1 := by have := pm1.length_eq; simpa using this
    have isk : ∀ {h' : Heap}, (∀ b o, b ≠ a → s.heap.get? b = some o → h'.get? b = some o) → ∀ {qs : List (K × Addr)}, qs.Perm ((k, b) :: ps) → (∀ p ∈ qs, kd.is h' p.1 p.2) ∧ (qs.map (·.1)).Nodup := fun hk qs pq => by
      refine ⟨fun p hp => S.keepsT ?_ fun b o c e => hk b o (fun z => by rw [z, ho] at e; cases e; rw [hex.1] at c; exact absurd c (by decide)) e, ?_⟩
      · rcases List.mem_cons.mp (pq.mem_iff.mp hp) with rfl | hp
        · exact hb
        · exact hel p hp
      · refine ((pq.map (·.1)).nodup_iff).mpr ?_
        rw [List.map_cons]
        exact List.nodup_cons.mpr ⟨hm, nd⟩
    rw [if_pos pl]
    refine wpAny_bind (S.byVal hb ?_)
    simp only [if_true]
    refine wpAny_bind (wpAny_storeSet_of ho hd ?_ (by rw [sz1, sizeLine_eq]; omega))
    have g1 := upd_set (es' := es1) (t' := { t with place := pl1 }) ho hd
    have sb1 := Heap.SameBut.update s.heap a (Obj.putSet es1 { t with place := pl1 })
    generalize hh1 : s.heap.update a (Obj.putSet es1 { t with place := pl1 }) = h1 at g1 sb1
    have kp1 : ∀ b o, b ≠ a → s.heap.get? b = some o → h1.get? b = some o := fun b o hn e => (sb1.2 b hn).trans e
    have tf : ({ t with place := pl1 } : SetTable).tooFull = decide ((ps.length + 1) * 5 ≥ t.mask * 3) := by
      unfold SetTable.tooFull SetTable.fill
      have : pl1.size = es1.size := T1.sz
      dsimp only
      rw [this, sz1, T.dm]
      rfl
    rw [tf]
    by_cases full : (ps.length + 1) * 5 ≥ t.mask * 3
    · rw [decide_eq_true full]
      simp only [Bool.not_false, Bool.and_self, if_true]
      have cs : (t.mask = 7 ∧ ps.length = 4) ∨ (t.mask = 31 ∧ ps.length = 18) := by
        rw [sz] at cap
        rcases T.msk with z | z | z <;> rw [z] at cap full
        · exact .inl ⟨z, by omega⟩
        · exact .inr ⟨z, by omega⟩
        · omega
      have ms : ST.Msk (SetTable.sizeAbove (SetTable.grown (es.size + 1)) - 1) ∧ es1.size * 5 < (SetTable.sizeAbove (SetTable.grown (es.size + 1)) - 1) * 3 ∧ ¬ SetTable.sizeAbove (SetTable.grown (es.size + 1)) > sizeLine := by
        rw [sz, sz1]
        rcases cs with ⟨_, z⟩ | ⟨_, z⟩ <;> rw [z]
        · exact ⟨.inr (.inl (by decide)), by decide, by rw [sizeLine_eq]; decide⟩
        · exact ⟨.inr (.inr (by decide)), by decide, by rw [sizeLine_eq]; decide⟩
      generalize hW : SetTable.grown (es.size + 1) = W at ms
      obtain ⟨pl2, od, r1, r2, T2⟩ := ST.relaid_ok (t := { t with place := pl1 }) (es := es1) ms.1 (by omega)
      unfold setRelay
      refine wpAny_bind (wpAny_bind (wpAny_setState_of (s := { s with heap := h1 }) g1 rfl T1.fits ?_))
      dsimp only
      rw [if_neg ms.2.2]
      have er : ∀ {Q' : (Array (Int × Value) × SetTable) → Shared → Prop}, Q' (od.filterMap (es1[·]?), _) { s with heap := h1 } → wpAny (model prog w) A (do
          let some (t, order) := ({ t with place := pl1 } : SetTable).relaid (es1.map (·.1)) W | unsupported "internal:set-table-without-room"
          let es' := order.filterMap (es1[·]?)
          if es'.size != es1.size then unsupported "internal:set-table-lost-an-element"
          pure (es', t)) Q' E { s with heap := h1 } := fun {Q'} hq => by
        rw [r1]
        dsimp only
        have : ((od.filterMap (es1[·]?)).size != es1.size) = false := by
          have := r2.length_eq
          rw [Array.length_toList, Array.length_toList] at this
          simp [this]
        rw [this]
        simp only [Bool.false_eq_true, if_false]
        exact wpAny_pure hq
      refine wpAny_bind (er ?_)
      obtain ⟨ps2, u1, u2⟩ := perm_map r2 q2
      have sz2 : (od.filterMap (es1[·]?)).size = es1.size := by have := r2.length_eq; rw [Array.length_toList, Array.length_toList] at this; exact this
      refine wpAny_storeSet_of (s := { s with heap := h1 }) g1 rfl ?_ (by rw [sz2, sz1, sizeLine_eq]; omega)
      refine wpAny_pure ?_
      have g2 := upd_set (es' := od.filterMap (es1[·]?)) (t' := { mask := SetTable.sizeAbove W - 1, place := pl2, dummies := #[], finger := t.finger, led := t.led, moves := ({ t with place := pl1 } : SetTable).movedTo (SetTable.sizeAbove W - 1), plain := t.plain }) g1 rfl
      have sb2 := sb1.trans (Heap.SameBut.update h1 a (Obj.putSet (od.filterMap (es1[·]?)) { mask := SetTable.sizeAbove W - 1, place := pl2, dummies := #[], finger := t.finger, led := t.led, moves := ({ t with place := pl1 } : SetTable).movedTo (SetTable.sizeAbove W - 1), plain := t.plain }))
      obtain ⟨i1, i2⟩ := isk (fun b o hn e => (sb2.2 b hn).trans e) (u1.trans q1)
      exact h _ ps2 true sb2 ⟨_, _, _, _, g2, hex, rfl, T2, by rw [sz2]; exact ms.2.1, pl, ld, u2, i1, i2⟩ (u1.trans q1)
    · rw [decide_eq_false full]
      simp only [Bool.not_false, Bool.true_and, Bool.and_false, Bool.false_eq_true, if_false]
      obtain ⟨i1, i2⟩ := isk kp1 q1
      exact wpAny_pure (h h1 ps1 true sb1 ⟨_, es1, ep + 1, _, g1, hex, rfl, T1, by rw [sz1]; dsimp only; omega, pl, ld, q2, i1, i2⟩ q1)
end
end L2
namespace L2
open PySem PySem.Spec PySem.W PyProof.Rows
theorem st_owner : Manifest.owners.lookup (String.ofList "rotareti_tes".toList.reverse) = some Manifest.sig_set_iterator := by kernel_rfl
theorem st_slot : Slot "set_iterator" "__next__" "set_iterator.__next__" :=
  .of (owner := "set_iterator") (n := "__next__") (by rw [typeLookup_type]; rw [builtinLookup_eq_fast]; kernel_rfl) (by decide +kernel) (by decide +kernel) (by decide +kernel) (by first | exact Or.inl (by decide +kernel) | exact Or.inr (by decide +kernel)) (by rw [isSubtype_type]; kernel_rfl)
theorem st_entry : entryFor table "set_iterator.__next__" = some Builtin.«set_iterator.__next__» := by refine entryFor_of_tree ?_; kernel_rfl
theorem st_args (a : Value) : argsOk "set_iterator.__next__" ⟨[a], []⟩ := by
  unfold argsOk; rw [signature?_of (id := "set_iterator.__next__") (n := "__txen__".toList) (o := "rotareti_tes".toList) (by kernel_rfl) st_owner]; kernel_rfl
theorem bt_set : bootBuiltins "set" = some (.type "set") := by decide +kernel
theorem st_iter : entryFor table "set.__iter__" = some Builtin.«frozenset.__iter__» := by
  refine entryFor_alias (id' := "frozenset.__iter__") ?_ rfl (by decide +kernel) ?_ <;> kernel_rfl
theorem st_self : entryFor table "set_iterator.__iter__" = some Builtin.«dict_keyiterator.__iter__» := by
  refine entryFor_alias (id' := "dict_keyiterator.__iter__") ?_ rfl (by decide +kernel) ?_ <;> kernel_rfl
theorem st_sslot : Slot "set_iterator" "__iter__" "set_iterator.__iter__" :=
  .of (owner := "set_iterator") (n := "__iter__") (by rw [typeLookup_type]; rw [builtinLookup_eq_fast]; kernel_rfl) (by decide +kernel) (by decide +kernel) (by decide +kernel) (by first | exact Or.inl (by decide +kernel) | exact Or.inr (by decide +kernel)) (by rw [isSubtype_type]; kernel_rfl)
theorem st_sargs (a : Value) : argsOk "set_iterator.__iter__" ⟨[a], []⟩ := by
  unfold argsOk; rw [signature?_of (id := "set_iterator.__iter__") (n := "__reti__".toList) (o := "rotareti_tes".toList) (by kernel_rfl) st_owner]; kernel_rfl
theorem pick_go {α : Type} (f : Nat → Nat) : ∀ (n k : Nat) (l : List α) (out : Array α), l.length = n → (pickOrder.go f n k l out).toList.Perm (out.toList ++ l)
  | 0, k, l, out, h => by
    have : l = [] := List.eq_nil_of_length_eq_zero h
    subst this
    unfold pickOrder.go
    simp
  | n + 1, k, l, out, h => by
    have hl : f k % l.length < l.length := Nat.mod_lt _ (by omega)
    unfold pickOrder.go
    rw [List.getElem?_eq_getElem hl]
    dsimp only
    refine (pick_go f n (k + 1) _ _ (by rw [List.length_eraseIdx_of_lt hl, h]; rfl)).trans ?_
    rw [Array.toList_push, List.append_assoc]
    refine List.Perm.append_left _ ?_
    rw [List.eraseIdx_eq_take_drop_succ]
    conv => rhs; rw [← List.take_append_drop (f k % l.length) l, List.drop_eq_getElem_cons hl]
    rw [List.singleton_append]
    exact List.perm_middle.symm
theorem pick_perm {α : Type} (f : Nat → Nat) (xs : Array α) : (pickOrder f xs).toList.Perm xs.toList := by
  have := pick_go f xs.size 0 xs.toList #[] (by simp)
  simpa [pickOrder] using this
section
variable {prog : Program} {w : World} {A : Around} {E : Value → Shared → Prop} {s : Shared}
def byTxt (w : World) : Bool := w.params.followText "set-order"
theorem ask_txt {Q : Bool → Shared → Prop} (h : Q (byTxt w) s) : wpAny (model prog w) A setsByText Q E s := by
  unfold setsByText
  exact wpAny_bind (wpAny_askSetting (wpAny_pure h))
structure RawS (w : World) (h : Heap) (a : Addr) (es : Array (Int × Value)) (ep : Nat) (t : SetTable) : Prop where
  at_ : ∃ o, h.get? a = some o ∧ o.ExactSet ∧ o.data = .set es ep t
  tab : ST.Tab t es
  pl : t.plain = true
  ld : t.led = !byTxt w
theorem RawS.ty {a : Addr} {es ep t} (m : RawS w s.heap a es ep t) : s.TypeIs (.ref a) "set" := let ⟨o, x, y, _⟩ := m.at_; ⟨o, x, y.1⟩
theorem RawS.keep {h h' : Heap} {a : Addr} {es ep t} (m : RawS w h a es ep t) (k : ∀ o, h.get? a = some o → h'.get? a = some o) : RawS w h' a es ep t := ⟨let ⟨o, x, r⟩ := m.at_; ⟨o, k o x, r⟩, m.tab, m.pl, m.ld⟩
def ordS (w : World) (a : Addr) (es : Array (Int × Value)) (ep : Nat) : Array (Int × Value) := if byTxt w then pickOrder (w.params.setOrder a ep) es else es
theorem ordS_perm (w : World) (a : Addr) (es : Array (Int × Value)) (ep : Nat) : (ordS w a es ep).toList.Perm es.toList := by
  unfold ordS
  split
  · exact pick_perm _ _
  · exact .rfl
theorem ordS_size (w : World) (a : Addr) (es : Array (Int × Value)) (ep : Nat) : (ordS w a es ep).size = es.size := by have := (ordS_perm w a es ep).length_eq; simpa using this
def slS (w : World) (t : SetTable) (i : Nat) : Nat := if byTxt w then 0 else if i = 0 then 0 else t.place.getD (i - 1) 0 + 1
def IzS (w : World) (h : Heap) (it a : Addr) (t : SetTable) (i n ep : Nat) : Prop := ∃ o, h.get? it = some o ∧ o.cls = .type "set_iterator" ∧ o.data = .fields #[.int (slS w t i) 0, .int i 0, .ref a, .int n 0, .int ep 0]
theorem drawn_no {a : Addr} {es ep t} (m : RawS w s.heap a es ep t) {Q : Bool → Shared → Prop} (h : Q false s) : wpAny (model prog w) A (setDrawn a) Q E s := by
  obtain ⟨o, o1, o2, o3⟩ := m.at_
  unfold setDrawn
  refine wpAny_bind (wpAny_setState_of o1 o3 m.tab.fits (wpAny_bind (ask_txt ?_)))
  refine wpAny_pure ?_
  have e : ∀ b : Bool, (!b && (!t.plain && decide (es.size > 1))) = false := fun b => by rw [m.pl]; simp
  have := e (byTxt w)
  show Q (!byTxt w && (!t.plain && decide (es.size > 1))) s
  rw [this]; exact h
theorem iter_set {a : Addr} {es ep t} (m : RawS w s.heap a es ep t) {Q : Value → Shared → Prop} (h : Q (.ref s.heap.objs.size) { s with heap := s.heap.push { cls := .type "set_iterator", data := .fields #[.int 0 0, .int 0 0, .ref a, .int es.size 0, .int ep 0] } }) :
    wpAny (model prog w) A (pyIter (.ref a)) Q E s := by
  obtain ⟨o, o1, o2, o3⟩ := m.at_
  refine wpAny_pyIter_slot m.ty F.slot_set_iter (wpAny_call_entry F.slot_set_iter m.ty st_iter (show _ from ?_) (F.args_set_iter_1 _))
  unfold Builtin.«frozenset.__iter__» Builtin.Frozenset.slot0 slotArgs Builtin.Frozenset.sizeOf
  refine wpAny_bind (wpAny_bind (wpAny_pure (wpAny_pure ?_)))
  refine wpAny_bind (wpAny_bind (wpAny_setEntries_of o1 o3 m.tab.fits (wpAny_pure ?_)))
  refine wpAny_bind (drawn_no m ?_)
  simp only [Bool.false_eq_true, if_false]
  refine wpAny_bind (wpAny_pure (wpAny_bind (wpAny_setEpoch_of o1 o3 m.tab.fits ?_)))
  unfold newFields
  refine wpAny_bind (wpAny_newObj_type (wpAny_pure ⟨_, rfl, "set_iterator", _, ⟨_, Heap.get?_push_size _ rfl, rfl⟩, st_slot.lookup, (show _ from ?_)⟩))
  simpa [rawInt] using h
theorem IzS.ty {it a : Addr} {t : SetTable} {i n ep : Nat} (x : IzS w s.heap it a t i n ep) : s.TypeIs (.ref it) "set_iterator" := let ⟨o, p, q, _⟩ := x; ⟨o, p, q⟩
theorem IzS.keep {h h' : Heap} {it a : Addr} {t : SetTable} {i n ep : Nat} (m : IzS w h it a t i n ep) (k : ∀ o, h.get? it = some o → h'.get? it = some o) : IzS w h' it a t i n ep := let ⟨o, x, r⟩ := m; ⟨o, k o x, r⟩
theorem below_S {t : SetTable} {es : Array (Int × Value)} (T : ST.Tab t es) (bt : byTxt w = false) {i : Nat} (hi : i ≤ es.size) : SetTable.below t.place (slS w t i) = i := by
  have hz := T.sz
  obtain ⟨c1, c2, c3⟩ := ST.below_cut T.ris (slS w t i)
  unfold slS at c1 c2 c3 ⊢
  rw [bt] at c1 c2 c3 ⊢
  simp only [Bool.false_eq_true, if_false] at c1 c2 c3 ⊢
  by_cases z : i = 0
  · rw [if_pos z] at c1 c2 c3 ⊢
    rw [z]
    apply Classical.byContradiction
    intro q
    have := c2 0 (by omega)
    omega
  · rw [if_neg z] at c1 c2 c3 ⊢
    rcases Nat.lt_trichotomy (SetTable.below t.place (t.place.getD (i - 1) 0 + 1)) i with q | q | q
    · have := c3 (i - 1) (by omega) (by omega)
      omega
    · exact q
    · have h1 := c2 i q
      have h2 := T.ris (i - 1) i (by omega) (by omega)
      omega
theorem next_S {a : Addr} {es ep t} (m : RawS w s.heap a es ep t) {i : Nat} (hi : i ≤ es.size) {Q : Option (Value × Nat) → Shared → Prop}
    (h : Q ((ordS w a es ep)[i]?.map fun e => (e.2, slS w t (i + 1))) s) : wpAny (model prog w) A (setNext a (slS w t i) i ep) Q E s := by
  obtain ⟨o, o1, o2, o3⟩ := m.at_
  unfold setNext
  refine wpAny_bind (wpAny_setState_of o1 o3 m.tab.fits (wpAny_bind (ask_txt ?_)))
  by_cases bt : byTxt w = true
  · rw [if_pos bt]
    simp only [bne_self_eq_false, Bool.false_eq_true, if_false]
    unfold setWalk
    refine wpAny_bind (wpAny_bind (wpAny_setState_of o1 o3 m.tab.fits (wpAny_bind (ask_txt ?_))))
    rw [if_pos bt]
    refine wpAny_bind (wpAny_askSetting (wpAny_pure ?_))
    refine wpAny_pure ?_
    unfold ordS slS at h
    rw [if_pos bt, if_pos bt] at h
    unfold slS
    rw [if_pos bt]
    exact h
  · have bf : byTxt w = false := by simpa using bt
    rw [if_neg bt]
    have dn : (!t.plain && decide (es.size > 1)) = false := by rw [m.pl]; rfl
    refine (show wpAny (model prog w) A (if (!t.plain && decide (es.size > 1)) = true then unsupported _ else _) Q E s from ?_)
    rw [dn]
    simp only [Bool.false_eq_true, if_false]
    have ml : wpAny (model prog w) A (do if !t.led && !es.isEmpty then unsupported "set:maker-not-led") (fun _ s' => s' = s) E s := by
      rw [m.ld, bf]
      simp only [Bool.not_false, Bool.not_true, Bool.false_and, Bool.false_eq_true, if_false]
      exact wpAny_pure rfl
    refine wpAny_bind (wpAny_mono ml (fun _ s' e => ?_) fun _ _ e => e)
    subst e
    rw [below_S m.tab bf hi]
    refine wpAny_pure ?_
    have eo : ordS w a es ep = es := by unfold ordS; rw [if_neg bt]
    rw [eo] at h
    by_cases z : i < es.size
    · have z2 : i < t.place.size := by rw [m.tab.sz]; exact z
      rw [Array.getElem?_eq_getElem z] at h ⊢
      rw [Array.getElem?_eq_getElem z2]
      have e2 : slS w t (i + 1) = t.place[i] + 1 := by unfold slS; rw [if_neg bt, if_neg (by omega)]; simp [Array.getD, z2]
      rw [e2] at h
      exact h
    · rw [Array.getElem?_eq_none (by omega)] at h ⊢
      exact h
theorem IzS.turn {h : Heap} {it a : Addr} {t : SetTable} {i n ep : Nat} {o : Obj} (g1 : h.get? it = some o) (g2 : o.cls = .type "set_iterator") (g3 : o.data = .fields #[.int (slS w t i) 0, .int i 0, .ref a, .int n 0, .int ep 0]) :
    IzS w ((h.update it (Obj.mapFields (·.setIfInBounds 0 (rawInt (slS w t (i + 1)))))).update it (Obj.mapFields (·.setIfInBounds 1 (rawInt ((i : Int) + 1))))) it a t (i + 1) n ep := by
  have e1 := Heap.get?_update_self (Obj.mapFields (·.setIfInBounds 0 (rawInt (slS w t (i + 1))))) g1 (Obj.isFreed_of_fields (Obj.data_mapFields g3 _))
  have e2 := Heap.get?_update_self (Obj.mapFields (·.setIfInBounds 1 (rawInt ((i : Int) + 1)))) e1 (Obj.isFreed_of_fields (Obj.data_mapFields (Obj.data_mapFields g3 _) _))
  exact ⟨_, e2, ((Obj.cls_mapFields ..).trans (Obj.cls_mapFields ..)).trans g2, by rw [Obj.data_mapFields (Obj.data_mapFields g3 _)]; simp [rawInt]⟩
theorem pyNext_S {it a : Addr} {es ep t} {i : Nat} {e : Int × Value} (x : IzS w s.heap it a t i es.size ep) (m : RawS w s.heap a es ep t) (he : (ordS w a es ep)[i]? = some e) {Q : Option Value → Shared → Prop}
    (hQ : ∀ h', IzS w h' it a t (i + 1) es.size ep → Heap.SameBut it s.heap h' → Q (some e.2) { s with heap := h' }) : wpAny (model prog w) A (pyNext (.ref it)) Q E s := by
  obtain ⟨o, g1, g2, g3⟩ := id x
  obtain ⟨so, o1, o2, o3⟩ := m.at_
  have il : i < es.size := by rw [← ordS_size w a es ep]; exact (Array.getElem?_eq_some_iff.mp he).1
  unfold pyNext
  refine wpAny_bind (wpAny_attempt (wpAny_callSpecial?_slot (name := Str.ofString "__next__") x.ty st_slot (wpAny_call_entry st_slot x.ty st_entry (show _ from ?_) (st_args _))))
  unfold Builtin.«set_iterator.__next__» slotArgs
  refine wpAny_bind (wpAny_pure ?_)
  refine wpAny_bind (wpAny_fieldsOf g1 g3 ?_)
  dsimp only
  refine wpAny_bind (wpAny_setEntries_of o1 o3 m.tab.fits ?_)
  rw [if_neg (by simp)]
  simp only [Int.toNat_natCast]
  refine wpAny_bind (next_S m (by omega) ?_)
  rw [he]
  dsimp only [Option.map]
  refine wpAny_bind (wpAny_setField g1 g3 (by simp) ?_)
  have e1 := Heap.get?_update_self (Obj.mapFields (·.setIfInBounds 0 (rawInt (slS w t (i + 1))))) g1 (Obj.isFreed_of_fields (Obj.data_mapFields g3 _))
  refine wpAny_bind (wpAny_setField (s := { s with heap := _ }) e1 (Obj.data_mapFields g3 _) (by simp) ?_)
  exact wpAny_pure ⟨_, rfl, wpAny_pure (hQ _ (IzS.turn g1 g2 g3) ((Heap.SameBut.update ..).trans (Heap.SameBut.update ..)))⟩
theorem pyEnd_S {it a : Addr} {es ep t} (hh : A.handled = none) (x : IzS w s.heap it a t es.size es.size ep) (m : RawS w s.heap a es ep t) {Q : Option Value → Shared → Prop}
    (hQ : ∀ h', Heap.ExtBut it s.heap h' → Q none { s with heap := h' }) : wpAny (model prog w) A (pyNext (.ref it)) Q E s := by
  obtain ⟨o, g1, g2, g3⟩ := id x
  obtain ⟨so, o1, o2, o3⟩ := m.at_
  unfold pyNext
  refine wpAny_bind (wpAny_attempt (wpAny_callSpecial?_slot (name := Str.ofString "__next__") x.ty st_slot (wpAny_call_entry st_slot x.ty st_entry (show _ from ?_) (st_args _))))
  unfold Builtin.«set_iterator.__next__» slotArgs
  refine wpAny_bind (wpAny_pure ?_)
  refine wpAny_bind (wpAny_fieldsOf g1 g3 ?_)
  dsimp only
  refine wpAny_bind (wpAny_setEntries_of o1 o3 m.tab.fits ?_)
  rw [if_neg (by simp)]
  simp only [Int.toNat_natCast]
  refine wpAny_bind (next_S m (Nat.le_refl _) ?_)
  rw [Array.getElem?_eq_none (by rw [ordS_size]; omega)]
  dsimp only [Option.map]
  refine wpAny_bind (wpAny_setField g1 g3 (by simp) ?_)
  refine wpAny_bind (show _ from ?_); simp only [newExc, newTuple]; refine wpAny_bind (wpAny_newObj_type (show _ from ?_) (by size_fits))
  refine wpAny_bind (m := firstArgMember _ _) (wpAny_of_eq (a := Value.none) (by first | rfl | (simp only [firstArgMember]; rfl)) ?_)
  refine wpAny_newObj_type ?_ (by size_fits)
  simp only [raiseNew]
  refine wpAny_bind (wpAny_handled ?_)
  rw [show A.in1.handled = none from hh]
  refine wpAny_bind (wpAny_pure (wpAny_throw ?_))
  refine wpAny_bind (wpAny_isInstance (T := "StopIteration") (b := true) ⟨_, Heap.get?_push_size _ rfl, rfl⟩ isSubtype_stop ?_)
  exact wpAny_pure (hQ _ (((Heap.SameBut.update ..).extBut.push _).push _))
theorem walk_S {I a : Addr} (hh : A.handled = none) (hne : a ≠ I) {es : Array (Int × Value)} {ep : Nat} {t : SetTable} :
    Walks prog w A I [I, a] [I] es.size (fun i v => ∃ e, (ordS w a es ep)[i]? = some e ∧ v = e.2) (fun i h => IzS w h I a t i es.size ep ∧ RawS w h a es ep t) where
  sub := fun b hb => List.mem_cons.mpr (.inl (by simpa using hb))
  frame := fun _ _ _ st hk => ⟨st.1.keep fun o e => hk I (by simp) o e, st.2.keep fun o e => hk a (by simp) o e⟩
  item := fun i s Q E hi st hQ => by
    have hx := Array.getElem?_eq_getElem (xs := ordS w a es ep) (i := i) (by rw [ordS_size]; exact hi)
    exact pyNext_S st.1 st.2 hx fun h' p q => hQ _ h' s.toks ⟨_, hx, rfl⟩ ⟨p, st.2.keep fun o e => q.extBut a o hne e⟩ fun b' o hb e => q.extBut b' o (fun z => hb (List.mem_singleton.mpr z)) e
  done := fun s Q E st hQ => pyEnd_S hh st.1 st.2 fun h' z => hQ h' s.toks fun b o hb e => z b o (fun y => hb (List.mem_singleton.mpr y)) e
  self := fun _ _ _ _ st hQ => by
    refine wpAny_pyIter_slot st.1.ty st_sslot (wpAny_call_entry st_sslot st.1.ty st_self ?_ (st_sargs _))
    show wpAny _ _ (ret (.ref I)) _ _ _
    exact wpAny_pure ⟨_, rfl, "set_iterator", _, st.1.ty, st_slot.lookup, hQ⟩
end
end L2
namespace L2
open PySem PySem.Spec PySem.W PyProof.Rows
section
variable {prog : Program} {w : World} {K : Type} [DecidableEq K] {A : Around} {E : Value → Shared → Prop} {s : Shared}
theorem loop_S {kd : HeapKind prog w K} (S : SetKey kd) (hr : kd.room A.in1) (hh : A.in1.handled = none) {bt : Bool} {I l a : Addr} (n1 : l ≠ I) (n2 : a ≠ I) (n3 : a ≠ l) {items : Array Value} {its : List (K × Addr)} (hi : items.toList = its.map fun p => Value.ref p.2) {all : List K} (ha : ∀ p ∈ its, p.1 ∈ all) (h64 : all.length < 64)
    {R : Result → Shared → Prop} {h₀ : Heap} {s₀ : Shared} (hR : ∀ h' tk ps, (∀ b o, b ≠ a → b ≠ I → h₀.get? b = some o → h'.get? b = some o) → SetT kd bt h' a ps → (∀ p ∈ ps, p ∈ its) → (∀ k, k ∈ ps.map (·.1) ↔ k ∈ its.map (·.1)) → R (.ok (.ret .none)) { s₀ with heap := h', toks := tk }) :
    ∀ (k i : Nat) (h : Heap) (tk : Nat) (ps : List (K × Addr)), items.size - i = k → i ≤ items.size → h.IsListIter I l i → h.IsList l items → (∀ p ∈ its, kd.is h p.1 p.2) → (∀ b o, b ≠ a → b ≠ I → h₀.get? b = some o → h.get? b = some o) →
      SetT kd bt h a ps → (∀ p ∈ ps, p ∈ its) → (∀ k, k ∈ ps.map (·.1) ↔ k ∈ (its.take i).map (·.1)) → codeAny (model prog w) A (.builtin "set.update.loop" ⟨[.ref a, .ref I], []⟩) R { s₀ with heap := h, toks := tk } := by
  have zl : items.size = its.length := by have := congrArg List.length hi; simpa using this
  have keepI : ∀ {h h' : Heap} {i : Nat}, h.IsListIter I l i → (∀ b o, b ∉ [I] → h.get? b = some o → h'.get? b = some o) → ∀ (b : Addr) (o : Obj), o.cls = .type "tuple" → h.get? b = some o → h'.get? b = some o := fun ⟨o', g, c, _⟩ hk b o hc e => hk b o (fun z => by
    rw [List.mem_singleton.mp z, g] at e
    cases e
    rw [c] at hc
    exact absurd hc (by decide)) e
  intro k
  induction k with
  | zero =>
    intro i h tk ps hk hle st sl his hfr hS hin hky
    have ei : i = items.size := by omega
    subst ei
    refine codeAny_builtin F.entry_set_update_loop ?_
    rw [Around.under_plainId F.plain_set_update_loop _]
    refine (show wpAny _ A.in1 (pyNext (.ref I) >>= _) _ _ _ from wpAny_bind ((Walks.list hh I l n1 items).done { s₀ with heap := h, toks := tk } _ _ ⟨st, sl⟩ fun h' tk' hm => ?_))
    refine (show wpAny _ A.in1 (ret Value.none) _ _ _ from wpAny_pure (hR h' tk' ps (fun b o x1 x2 e => hm b o (by simpa using x2) (hfr b o x1 x2 e)) (hS.keep (fun o e => hm a o (by simpa using n2) e) fun p hp e => S.keepsT e (keepI st hm)) hin fun k => ?_))
    rw [hky, zl, List.take_length]
  | succ k ih =>
    intro i h tk ps hk hle st sl his hfr hS hin hky
    have hlt : i < items.size := by omega
    refine codeAny_builtin F.entry_set_update_loop ?_
    rw [Around.under_plainId F.plain_set_update_loop _]
    refine (show wpAny _ A.in1 (pyNext (.ref I) >>= _) _ _ _ from wpAny_bind ((Walks.list hh I l n1 items).item i { s₀ with heap := h, toks := tk } _ _ hlt ⟨st, sl⟩ fun v h' tk' hv st' hm => ?_))
    have hil : i < its.length := by omega
    have ev : v = .ref its[i].2 := by
      rw [← Array.getElem?_toList, hi, List.getElem?_map, List.getElem?_eq_getElem hil] at hv
      exact (Option.some.inj hv).symm
    subst ev
    have mi : its[i] ∈ its := List.getElem_mem hil
    have his' : ∀ p ∈ its, kd.is h' p.1 p.2 := fun p hp => S.keepsT (his p hp) (keepI st hm)
    have hS' : SetT kd bt h' a ps := hS.keep (fun o e => hm a o (by simpa using n2) e) fun p hp e => S.keepsT e (keepI st hm)
    have lp : ps.length < 64 := by
      obtain ⟨_, _, _, _, _, _, _, _, _, _, _, _, _, nd⟩ := hS
      have := ST.fewer nd (fun x hx => by obtain ⟨p, hp, rfl⟩ := List.mem_map.mp hx; exact ha p (hin p hp))
      rw [List.length_map] at this
      omega
    refine (show wpAny _ A.in1 (holding [Value.ref its[i].2] (setAdd a (.ref its[i].2)) >>= _) _ _ _ from wpAny_bind (wpAny_holding ?_))
    unfold setAdd
    refine wpAny_holding (wpAny_bind (kd.pyHash (s := { s₀ with heap := h', toks := tk' }) hr (his' _ mi) ?_))
    refine add_ok (s := { s₀ with heap := h', toks := tk' + kd.draws its[i].1 }) S hr hS' (his' _ mi) lp fun h2 ps2 r sb S2 pp => ?_
    obtain ⟨so, sx, sy⟩ : ∃ o, h'.get? a = some o ∧ o.cls = .type "set" := by obtain ⟨o, _, _, _, x, y, _⟩ := hS'; exact ⟨o, x, y.1⟩
    have his2 : ∀ p ∈ its, kd.is h2 p.1 p.2 := fun p hp => S.keepsT (his' p hp) fun b o c e => (sb.2 b (fun z => by
      rw [z, sx] at e
      cases e
      rw [sy] at c
      exact absurd c (by decide))).trans e
    refine wpAny_pure ⟨plainId_quiet F.plain_set_update_loop _, ih (i + 1) h2 _ ps2 (by omega) hlt ?_ ?_ his2 (fun b o x1 x2 e => (sb.2 b x1).trans (hm b o (by simpa using x2) (hfr b o x1 x2 e))) S2 (fun p hp => ?_) fun k' => ?_⟩
    · obtain ⟨o, x, y⟩ := st'.1
      exact ⟨o, (sb.2 I (Ne.symm n2)).trans x, y⟩
    · obtain ⟨o, x, y⟩ := st'.2
      exact ⟨o, (sb.2 l (Ne.symm n3)).trans x, y⟩
    · have := pp.mem_iff.mp hp
      split at this
      · exact hin p this
      · rcases List.mem_cons.mp this with e | e
        · rw [e]; exact mi
        · exact hin p e
    · have e1 : (its.take (i + 1)).map (·.1) = (its.take i).map (·.1) ++ [its[i].1] := by rw [List.take_succ, List.getElem?_eq_getElem hil, List.map_append]; rfl
      rw [e1, List.mem_append, List.mem_singleton, ← hky k', (pp.map (·.1)).mem_iff]
      split
      · rename_i z
        constructor
        · exact .inl
        · rintro (x | x)
          · exact x
          · rw [x]; exact z
      · rw [List.map_cons, List.mem_cons]
        exact Or.comm
theorem fresh_S (kd : HeapKind prog w K) (led : Bool) {h : Heap} {a : Addr} (g : h.get? a = some { cls := .type "set", dict := none, data := .set #[] 0 (.fresh 0 0 led) }) : SetT kd led h a [] :=
  ⟨_, #[], 0, _, g, ⟨rfl, rfl, rfl⟩, rfl, ⟨rfl, rfl, fun i k _ hk => by simp [SetTable.fresh] at hk, fun j hj => by simp [SetTable.fresh] at hj, .inl rfl, by simp [SetTable.fresh], fun i j e hi => by simp [SetTable.fresh] at hi⟩, by simp [SetTable.fresh], rfl, rfl, rfl, (fun p hp => absurd hp List.not_mem_nil), List.nodup_nil⟩
theorem new_S (a : Value) {Q₁ : Value → Shared → Prop} (hq : Q₁ (.ref s.heap.objs.size) { s with heap := s.heap.push { cls := .type "set", dict := none, data := .set #[] 0 (.fresh 0 0 (!byTxt w)) } }) :
    codeAny (model prog w) A (.call (.builtin "set.__new__") ⟨[.type "set", a], []⟩) (wants Q₁ E) s := by
  refine codeAny_of_tree (show wpAny _ A.in1 (do checkBuiltinCall "set.__new__" ⟨[.type "set", a], []⟩; again (.builtin "set.__new__" ⟨[.type "set", a], []⟩)) _ _ s from ?_)
  refine wpAny_bind (wpAny_of_eq (F.newCall_set_1 a) (wpAny_pure ⟨plainId_quiet F.plain_set_new _, codeAny_builtin F.entry_set_new (show _ from ?_)⟩))
  rw [Around.under_plainId F.plain_set_new _]
  unfold Builtin.«set.__new__»; unfold Builtin.Frozenset.newClass
  have hsub := sub_set_self
  obtain ⟨hp, g, d, tk, os⟩ := s; dsimp only
  wp_walk
  refine wpAny_askSetting (show _ from wpAny_pure ?_)
  dsimp only; simp only [newObj]
  refine wpAny_bind (wpAny_alloc (show _ from wpAny_pure ?_))
  exact wpAny_pure hq
set_option maxHeartbeats 3200000 in
theorem call_S {kd : HeapKind prog w K} (S : SetKey kd) (hr : ∀ A' : Around, A'.units ≤ A.units + 8 → kd.room A') (hh : A.handled = none) {l : Addr} {items : Array Value} (hl : s.heap.IsList l items) {its : List (K × Addr)} (hi : items.toList = its.map fun p => Value.ref p.2) (his : ∀ p ∈ its, kd.is s.heap p.1 p.2) {all : List K} (ha : ∀ p ∈ its, p.1 ∈ all) (h64 : all.length < 64)
    {Q : Value → Shared → Prop} (h : ∀ h' tk ps, (∀ b o, s.heap.get? b = some o → h'.get? b = some o) → SetT kd (!byTxt w) h' s.heap.objs.size ps → (∀ p ∈ ps, p ∈ its) → (∀ k, k ∈ ps.map (·.1) ↔ k ∈ its.map (·.1)) → Q (.ref s.heap.objs.size) { s with heap := h', toks := tk }) :
    wpAny (model prog w) A (call (.type "set") [.ref l]) Q E s := by
  obtain ⟨c0, tl0, m0⟩ := F.called_set.mro
  have m1 := F.called_set.made
  have m2 := F.called_set.sub
  refine wpAny_call (codeAny_of_tree (show wpAny _ _ (callAny (.type "set") _) _ _ _ from ?_))
  refine wpAny_pure ⟨Code.quiet_builtin _ (by decide +kernel), codeAny_builtin F.entry_type_call (show _ from ?_)⟩
  rw [Around.under_plain (weight_type_call_type "set" [Value.ref l] []) rfl]
  have m3 := F.called_set.notType
  have m4 := F.called_set.canCreate
  have m5 := F.typeCall_set_1 (.ref l)
  repeat (any_goals (first | wp_step | assumption))
  generalize ho : ({ cls := .type "set", dict := none, data := .set #[] 0 (.fresh 0 0 (!byTxt w)) } : Obj) = ob
  refine codeAny_mono (new_S (.ref l) (E := E) (Q₁ := fun u s₁ => u = .ref s.heap.objs.size ∧ s₁ = { s with heap := s.heap.push ob }) ⟨rfl, by rw [← ho]⟩) fun r s₁ hr1 => ?_
  have gN : (s.heap.push ob).get? s.heap.objs.size = some ob := Heap.get?_push_size _ (by rw [← ho]; rfl)
  cases r with
  | error e => exact hr1
  | ok fl =>
    cases fl with
    | ret obj =>
      obtain ⟨rfl, rfl⟩ := hr1
      have hT : Shared.TypeIs { s with heap := s.heap.push ob } (.ref s.heap.objs.size) "set" := ⟨_, gN, by rw [← ho]⟩
      have m6 := F.called_set.init.lookup
      have m7 := F.called_set.init.bind (.ref s.heap.objs.size)
      repeat (any_goals (first | wp_step | assumption))
      refine codeAny_mono (codeAny_call_builtin (R := wants (fun r s₂ => r = .none ∧ ∃ h' tk ps, s₂ = { s with heap := h', toks := tk } ∧ (∀ b o, s.heap.get? b = some o → h'.get? b = some o) ∧ SetT kd (!byTxt w) h' s.heap.objs.size ps ∧ (∀ p ∈ ps, p ∈ its) ∧ (∀ k, k ∈ ps.map (·.1) ↔ k ∈ its.map (·.1))) E) F.called_set.init.plain F.entry_set_init (check_set_init_1 hT ?_)) fun r₂ s₂ hr₂ => ?_
      · obtain ⟨ol, g1, g2, nl, g3⟩ := id hl
        obtain ⟨oc, od, oda, osl⟩ := ol
        dsimp only at g2 g3
        subst g2; subst g3
        have g4 : (s.heap.push ob).get? l = some { cls := .type "list", dict := od, data := .seq items nl, slots := osl } := Heap.get?_push_of_some _ g1
        have m8 := F.sub_list_set
        have m9 := F.sub_list_frozenset
        have ne : (Value.type "list" == Value.type "dict") = false := by decide
        have hl1 : (s.heap.push ob).IsList l items := ⟨_, g4, rfl, nl, rfl⟩
        subst ho
        unfold Builtin.«set.__init__»; unfold noKeywords; unfold Builtin.Frozenset.updateFrom
        generalize hPI : pyIter = PI
        wp_walk
        subst hPI
        refine wpAny_pyIter_list hl1 (wpAny_bind (wpAny_runValue (show _ from ?_)))
        have ll : l < s.heap.objs.size := Heap.lt_size g1
        have zI : (s.heap.push { cls := .type "set", dict := none, data := .set #[] 0 (.fresh 0 0 (!byTxt w)) }).objs.size = s.heap.objs.size + 1 := Heap.size_push ..
        refine loop_S (kd := kd) (bt := !byTxt w) (s₀ := s) (h₀ := s.heap) S (hr _ (by simp)) (by simp [hh]) (items := items) (its := its) (by rw [zI]; exact Nat.ne_of_lt (Nat.lt_succ_of_lt ll)) (by rw [zI]; exact Nat.ne_of_lt (Nat.lt_succ_self _)) (Nat.ne_of_gt ll) hi ha h64 (fun h' tk ps x1 x2 x3 x4 => ?_) (items.size - 0) 0 _ s.toks [] (by omega) (Nat.zero_le _) ⟨_, Heap.get?_push_size _ rfl, rfl, rfl⟩ (hl1.push _) (fun p hp => S.keepsT (his p hp) fun b o _ e => Heap.get?_push_of_some _ (Heap.get?_push_of_some _ e)) (fun b o _ _ e => Heap.get?_push_of_some _ (Heap.get?_push_of_some _ e)) (fresh_S kd _ (Heap.get?_push_of_some _ gN)) (fun p hp => absurd hp List.not_mem_nil) (fun k => by simp)
        refine wpAny_pure (show wpAny _ _ (ret Value.none) _ _ _ from wpAny_pure ⟨rfl, h', tk, ps, rfl, fun b o e => x1 b o (Nat.ne_of_lt (Heap.lt_size e)) (by rw [zI]; exact Nat.ne_of_lt (Nat.lt_succ_of_lt (Heap.lt_size e))) e, x2, x3, x4⟩)
      · cases r₂ with
        | error e => exact hr₂
        | ok fl₂ =>
          cases fl₂ with
          | ret r =>
            obtain ⟨rfl, h', tk, ps, rfl, x1, x2, x3, x4⟩ := hr₂
            repeat (any_goals (first | wp_step | assumption))
            exact h _ _ _ x1 x2 x3 x4
          | _ => exact hr₂.elim
    | _ => exact hr1.elim
end
end L2
namespace L2
open PySem PySem.Spec PySem.W PyProof.Rows
section
variable {prog : Program} {w : World} {A : Around} {E : Value → Shared → Prop} {s : Shared}
theorem hint_S {r : Addr} {Q : Bool → Shared → Prop} (hT : s.TypeIs (.ref r) "set") (h : Q false s) : wpAny (model prog w) A (Builtin.List.listLengthHint (.ref r)) Q E s := by
  unfold Builtin.List.listLengthHint
  refine wpAny_bind (wpAny_specialOf hT F.slot_set_len.lookup (show _ from ?_))
  generalize hid : ("set.__len__" : String) = id0
  wp_delta
  rw [show splitId id0 = some ("set", "__len__") by subst hid; decide +kernel]
  subst hid
  refine wpAny_bind (wpAny_isInstance (T := "set") (b := true) hT (by rw [isSubtype_type]; kernel_rfl) (show _ from ?_))
  refine wpAny_ite_split (fun z => absurd z (by decide)) (fun _ => (show _ from ?_))
  refine wpAny_ite_split (fun _ => (show _ from ?_)) (fun z => absurd (by decide +kernel) z)
  exact wpAny_bind (wpAny_typeOf hT (wpAny_pure h))
theorem src_S {a : Addr} {es : Array (Int × Value)} {ep : Nat} {t : SetTable} : KdlSrc prog w "set" a a es.size (fun i v => ∃ e, (ordS w a es ep)[i]? = some e ∧ v = e.2) (fun h => RawS w h a es ep t) where
  type := fun _ hm => hm.ty
  there := fun _ hm => let ⟨_, e, _⟩ := hm.at_; ⟨Heap.lt_size e, Heap.lt_size e⟩
  keep := fun _ _ hm hk => hm.keep fun o e => hk a (.inl rfl) o e
  notList := by decide
  notTuple := by decide
  hint := fun _ _ _ _ hm hq => hint_S hm.ty hq
  iter := fun _ _ hh hm => ⟨_, _, (fun _ _ hq => iter_set hm hq), walk_S hh (Nat.ne_of_lt (let ⟨_, e, _⟩ := hm.at_; Heap.lt_size e)), ⟨⟨_, Heap.get?_push_size _ rfl, rfl, by simp [slS]⟩, hm.keep fun o e => Heap.get?_push_of_some _ e⟩⟩
theorem key_T : SetKey (tupleKind (intKind prog w)) where
  keepsT := fun ⟨o, its, n, a, b, c⟩ k => ⟨o, its, n, k _ o b a, b, c⟩
  byVal := by
    intro A E s k b Q hk h
    have hT := IsTupleKey.typeIs hk
    obtain ⟨o, items, n, ho, _, hd, hi⟩ := hk
    unfold hashByValue
    refine wpAny_bind (wpAny_specialOf hT F.slot_tuple_hash.lookup (show _ from ?_))
    dsimp only
    refine wpAny_bind (wpAny_seqItems ho hd ?_)
    rw [Option.getD_some, ← Array.forIn_toList]
    refine wpAny_bind (wpAny_forIn_list _ (fun rest r s' => r.1 = none ∧ s' = s ∧ ∀ v ∈ rest, ∃ n t, v = Value.int n t) _ ?_ ?_ _ _ ⟨rfl, rfl, ?_⟩)
    · rintro v rest r s' ⟨hr, rfl, hall⟩
      obtain ⟨n, t, rfl⟩ := hall v List.mem_cons_self
      refine wpAny_bind (show wpAny _ _ (pure true) _ _ _ from wpAny_pure ?_)
      simp only [Bool.not_true, Bool.false_eq_true, if_false]
      exact wpAny_pure ⟨rfl, rfl, fun u hu' => hall u (List.mem_cons_of_mem _ hu')⟩
    · rintro ⟨r1, r2⟩ s' ⟨hr, rfl, _⟩
      dsimp only at hr
      subst hr
      exact wpAny_pure h
    · clear ho hd
      generalize items.toList = l at hi
      induction hi with
      | nil => intro v hv; cases hv
      | cons h1 _ ih =>
        intro v hv
        rcases List.mem_cons.mp hv with e | hv
        · obtain ⟨t, e2⟩ := Value.isInt_shape h1
          exact ⟨_, t, e.trans e2⟩
        · exact ih v hv
  noCls := by
    intro A E s k b Q hk h
    have hT := IsTupleKey.typeIs hk
    obtain ⟨o, items, n, ho, _, hd, hi⟩ := hk
    unfold ofAClassStatement
    refine wpAny_bind (wpAny_typeOf hT ?_)
    dsimp only
    rw [if_pos (by decide)]
    refine wpAny_bind (wpAny_pure ?_)
    simp only [Bool.not_true, Bool.false_eq_true, if_false]
    refine wpAny_bind (wpAny_seqItems ho hd ?_)
    dsimp only
    rw [← Array.forIn_toList]
    refine wpAny_bind (wpAny_forIn_list _ (fun rest r s' => r.1 = none ∧ s' = s ∧ ∀ v ∈ rest, ∃ n t, v = Value.int n t) _ ?_ ?_ _ _ ⟨rfl, rfl, ?_⟩)
    · rintro v rest r s' ⟨hr, rfl, hall⟩
      obtain ⟨n, t, rfl⟩ := hall v List.mem_cons_self
      refine wpAny_bind (show wpAny _ _ (pure false) _ _ _ from wpAny_pure ?_)
      simp only [Bool.false_eq_true, if_false]
      exact wpAny_pure ⟨rfl, rfl, fun u hu' => hall u (List.mem_cons_of_mem _ hu')⟩
    · rintro ⟨r1, r2⟩ s' ⟨hr, rfl, _⟩
      dsimp only at hr
      subst hr
      exact wpAny_pure h
    · clear ho hd
      generalize items.toList = l at hi
      induction hi with
      | nil => intro v hv; cases hv
      | cons h1 _ ih =>
        intro v hv
        rcases List.mem_cons.mp hv with e | hv
        · obtain ⟨t, e2⟩ := Value.isInt_shape h1
          exact ⟨_, t, e.trans e2⟩
        · exact ih v hv
end
theorem ints_items {prog : Program} {w : World} : ∀ {vs : List Value} {ns : List Int}, IntsAre vs ns → ItemsAre (intKind prog w) ns vs
  | _, _, .nil => .nil
  | _, _, .cons n t r => .cons (intKind_is _ _ _ _) (ints_items r)
def isSt (w : World) (b : Addr) (qs : List Addr) : Heap → Prop := fun h => ∃ es ep t, RawS w h b es ep t ∧ es.toList.map (·.2) = qs.map Value.ref
section
variable {X : Cx}
def rSetT (w : World) : List V → Hp → VK → Prop := fun xs H Q => ∃ (l : Addr) (qs : List Addr) (ts al : List (List Int)), xs = [.ref l] ∧ H l = some (.lst (qs.map V.ref)) ∧ TupsAt H qs ts ∧ (∀ t ∈ ts, t ∈ al) ∧ al.length < 64 ∧
  ∀ (p : Addr) (qs' : List Addr) (us : List (List Int)), H p = none → TupsAt H qs' us → us.Nodup → (∀ t, t ∈ us ↔ t ∈ ts) → Q (.ref p) (upd H p (.ext (isSt w p qs')))
theorem call_setT (hc : X.calm = true) (hu : X.A.units + 9 < cLine) : CallR X (.type "set") (rSetT X.w) := by
  intro pins s σ H xs us Q I r h
  obtain ⟨l, qs, ts, al, rfl, hl, ht, hal, h64, q⟩ := h
  obtain ⟨u, rfl, ru⟩ := vals1 r
  cases ru
  obtain ⟨z, its, n, rv, hlen, e⟩ := I.lstM hl
  obtain rfl := refs_of rv
  have hq := ht.len
  have mz : ∀ p ∈ ts.zip qs, ∃ j : Nat, ts[j]? = some p.1 ∧ qs[j]? = some p.2 := fun p hp => by
    obtain ⟨j, hj⟩ := List.mem_iff_getElem?.mp hp
    obtain ⟨a, b⟩ := List.getElem?_zip_eq_some.mp hj
    exact ⟨j, a, b⟩
  have zq : (ts.zip qs).map (fun p => Value.ref p.2) = qs.map Value.ref := by
    rw [← List.map_snd_zip (l₁ := ts) (l₂ := qs) (by omega), List.map_map]
    congr 1
    rw [List.map_snd_zip (by omega)]
  have zt : (ts.zip qs).map (·.1) = ts := List.map_fst_zip (by omega)
  refine call_S (kd := tupleKind (intKind X.prog X.w)) key_T (fun A' hA => show A'.units < cLine by omega) (I.ok.hd hc) ⟨_, e, rfl, _, rfl⟩ (its := ts.zip qs) zq.symm (fun p hp => ?_) (all := al) (fun p hp => hal _ (List.of_mem_zip hp).1) h64 fun h' tk ps k1 S1 k2 k3 => ?_
  · obtain ⟨j, a, b⟩ := mz p hp
    obtain ⟨x, ne⟩ := ht.at_ j _ _ b a
    obtain ⟨_, its, r, o, g1, g2, n, g3⟩ := (show ObjOk X.prog X.w H s.heap p.2 (.tup (p.1.map V.int)) from I.hok p.2 _ x)
    exact ⟨o, _, n, g1, g2, g3, ints_items (by simpa using ints_of_vals r)⟩
  · obtain ⟨o, es, ep, t, g1, g2, g3, T, cap, pl, ld, ee, _, nd⟩ := S1
    have raw : RawS X.w h' s.heap.objs.size es ep t := ⟨⟨o, g1, g2, g3⟩, T, pl, ld⟩
    have em : es.toList.map (·.2) = (ps.map (·.2)).map Value.ref := by rw [ee, List.map_map, List.map_map]; rfl
    refine ⟨.ref s.heap.objs.size, _, I.laid (a := s.heap.objs.size) (o := .ext (isSt X.w s.heap.objs.size (ps.map (·.2)))) (t' := tk) (fun b u q => k1 b u q) (Nat.le_refl _) ⟨⟨es, ep, t, raw, em⟩, ⟨_, g1⟩, fun h1 h2 z k => ?_⟩, rfl, q _ _ (ps.map (·.1)) (I.hok.fresh (Nat.le_refl _)) ⟨by simp, fun j a b x y => ?_⟩ nd fun t => by rw [k3, zt]⟩
    · obtain ⟨es, ep, t, r, m⟩ := z
      exact ⟨es, ep, t, r.keep k, m⟩
    · rw [List.getElem?_map] at x y
      obtain ⟨p, hp, e1⟩ := Option.map_eq_some_iff.mp x
      rw [hp] at y
      cases y
      obtain ⟨j, a1, b1⟩ := mz p (k2 p (List.mem_of_getElem? hp))
      rw [← e1]
      exact ht.at_ j _ _ b1 a1
def rSortS (w : World) : List V → Hp → VK → Prop := fun xs H Q => ∃ (b : Addr) (rs : List Addr) (ts : List (List Int)), xs = [.ref b] ∧ H b = some (.ext (isSt w b rs)) ∧ TupsAt H rs ts ∧ ts.length < 64 ∧
  ∀ (p : Addr) (qs : List Addr) (us : List (List Int)), H p = none → TupsAt H qs us → us.Perm ts → us.Pairwise (fun a b => lexB b a = false) → Q (.ref p) (upd H p (.lst (qs.map V.ref)))
theorem call_sortS (hc : X.calm = true) : CallR X (.builtin "sorted") (rSortS X.w) := by
  intro pins s σ H xs us Q I r h
  obtain ⟨b, rs, ts0, rfl, hb, ht0, h64', q⟩ := h
  obtain ⟨u, rfl, ru⟩ := vals1 r
  cases ru
  obtain ⟨es, ep, t, raw, em⟩ : isSt X.w b rs s.heap := (show ObjOk X.prog X.w H s.heap b (.ext (isSt X.w b rs)) from I.hok b _ hb).1
  have hz : es.size = rs.length := by have := congrArg List.length em; simpa using this
  have hr0 := ht0.len
  refine Calls.call_function_entry kind_sorted plain_sorted entry_sorted (args_sorted1 (.ref b)) ?_
  unfold Builtin.«sorted»
  refine wpAny_bind (m := checkCount "sorted" 1 1 _) (wpAny_pure (wpAny_bind (PySem.W.kdu_collect (A := X.A.in1) (src_S (a := b) (es := es) (ep := ep) (t := t)) (I.ok.hd hc) raw (by rw [sizeLine_eq]; omega) fun h1 tk acc k0 hacc => ?_)))
  obtain ⟨qs, ts, ht, ea, pm0⟩ : ∃ (qs : List Addr) (ts : List (List Int)), TupsAt H qs ts ∧ acc.toList = qs.map Value.ref ∧ ts.Perm ts0 := by
    have p1 : ((ordS X.w b es ep).toList.map (·.2)).Perm ((rs.zip ts0).map fun p => Value.ref p.1) := by
      have : (rs.zip ts0).map (fun p => Value.ref p.1) = es.toList.map (·.2) := by
        rw [em, ← List.map_fst_zip (l₁ := rs) (l₂ := ts0) (by omega), List.map_map]
        congr 1
        rw [List.map_fst_zip (by omega)]
      rw [this]
      exact (ordS_perm X.w b es ep).map _
    obtain ⟨zs, z1, z2⟩ := perm_map p1 rfl
    refine ⟨zs.map (·.1), zs.map (·.2), ⟨by simp, fun j a t' x y => ?_⟩, ?_, ?_⟩
    · rw [List.getElem?_map] at x y
      obtain ⟨p, hp, e1⟩ := Option.map_eq_some_iff.mp x
      rw [hp] at y
      cases y
      obtain ⟨i, hi⟩ := List.mem_iff_getElem?.mp (z1.mem_iff.mp (List.mem_of_getElem? hp))
      obtain ⟨a1, b1⟩ := List.getElem?_zip_eq_some.mp hi
      rw [← e1]
      exact ht0.at_ i _ _ a1 b1
    · rw [List.map_map]
      refine Eq.trans ?_ z2
      refine List.ext_getElem? fun j => ?_
      by_cases hj : j < acc.size
      · have e1 : acc[j]? = some acc[j] := Array.getElem?_eq_getElem hj
        obtain ⟨e, he, ev⟩ := hacc.2 j _ e1
        rw [Array.getElem?_toList, e1, ev, List.getElem?_map, Array.getElem?_toList, he]
        rfl
      · rw [List.getElem?_eq_none (by simpa using hj), List.getElem?_eq_none (by rw [List.length_map, Array.length_toList, ordS_size, ← hacc.1]; omega)]
    · have := z1.map (·.2)
      rw [List.map_snd_zip (by omega)] at this
      exact this
  have hq := ht.len
  have hts := pm0.length_eq
  have hv : (qs.map Value.ref).length = qs.length := List.length_map ..
  rw [ea]
  have h64 : qs.length < 64 := by omega
  refine wpAny_bind (wpAny_newList ?_ (by rw [hv, sizeLine_eq]; omega))
  have k1 : ∀ b o, s.heap.get? b = some o → (h1.push (seqObj "list" (qs.map Value.ref).toArray 0)).get? b = some o := fun b o g => Heap.get?_push_of_some _ (k0 b o g)
  have gD : (h1.push (seqObj "list" (qs.map Value.ref).toArray 0)).get? h1.objs.size = some (seqObj "list" (qs.map Value.ref).toArray 0) := Heap.get?_push_size _ rfl
  refine wpAny_bind (wpAny_holding (wpAny_call_entry (s := { s with heap := h1.push (seqObj "list" (qs.map Value.ref).toArray 0), toks := tk }) slot_list_sort ⟨_, gD, rfl⟩ entry_list_sort (sort_tups gD ((ht.tups I).keeps fun b o _ g => k1 b o g) (by rw [hv]; exact h64) fun p hr hu => ⟨_, rfl, ?_⟩) (args_list_sort (.ref h1.objs.size))))
  rw [hv] at hr hu
  have pl : p.toList.Perm (List.range qs.length) := by simpa using Array.perm_iff_toList_perm.mp hr
  have plen : p.toList.length = qs.length := by have := pl.length_eq; simpa using this
  have eo : (outOf (qs.map Value.ref) p).toList = (p.toList.map fun i => qs.getD i 0).map Value.ref := by
    unfold outOf
    show p.toList.map (fun i => (qs.map Value.ref).getD i Value.none) = _
    rw [List.map_map]
    refine List.map_congr_left fun i hi => ?_
    have li : i < qs.length := List.mem_range.mp (pl.mem_iff.mp hi)
    show (qs.map Value.ref).getD i Value.none = Value.ref (qs.getD i 0)
    simp [List.getD_eq_getElem?_getD, List.getElem?_eq_getElem li]
  refine wpAny_pure ⟨_, rfl, ?_⟩
  obtain ⟨c, hc2⟩ := sortedHeap_at (out := outOf (qs.map Value.ref) p) gD
  have T' : TupsAt H (p.toList.map fun i => qs.getD i 0) (p.toList.map fun i => ts.getD i []) := by
    refine ⟨by rw [List.length_map, List.length_map], fun j a b x y => ?_⟩
    rw [List.getElem?_map] at x y
    obtain ⟨i, e1, e2⟩ := Option.map_eq_some_iff.mp x
    rw [e1] at y
    have li : i < qs.length := List.mem_range.mp (pl.mem_iff.mp (List.mem_of_getElem? e1))
    refine ht.at_ i a b ?_ ?_
    · rw [← e2]; simp [List.getD_eq_getElem?_getD, List.getElem?_eq_getElem li]
    · cases y
      simp [List.getD_eq_getElem?_getD, List.getElem?_eq_getElem (show i < ts.length by omega)]
  obtain ⟨hn, I2⟩ := I.laidN (t' := tk) (h' := sortedHeap (h1.push (seqObj "list" (qs.map Value.ref).toArray 0)) h1.objs.size (qs.map Value.ref) (outOf (qs.map Value.ref) p)) (a := h1.objs.size) (o := .lst ((p.toList.map fun i => qs.getD i 0).map V.ref)) (fun b ob g => by
      have lb : b < h1.objs.size := Heap.lt_size (k0 b ob g)
      rw [sortedHeap_old (Nat.ne_of_lt lb) (by rw [size_push']; exact Nat.lt_succ_of_lt lb)]
      exact k1 b ob g) (fun b ob g => Nat.ne_of_lt (Heap.lt_size (k0 b ob g)))
    ⟨by rw [List.length_map, List.length_map, plen, sizeLine_eq]; omega, (p.toList.map fun i => qs.getD i 0).map Value.ref, c, vals_refs9 _, by rw [← eo, Array.toArray_toList]; exact hc2⟩
  refine ⟨.ref h1.objs.size, _, I2, rfl, q _ _ _ hn T' ?_ ?_⟩
  · have := pl.map (fun i => ts.getD i [])
    rw [hq, range_getD] at this
    exact this.trans pm0
  · rw [List.pairwise_iff_getElem]
    intro i j hi hj hij
    rw [List.length_map, plen] at hi hj
    have key : ∀ k (hk : k < p.toList.length), (p.toList.map fun i => ts.getD i [])[k]'(by rw [List.length_map]; exact hk) = kq (O := lexO) (fun i => ts.getD i []) p k := fun k hk => by
      rw [List.getElem_map]
      unfold kq
      have : p.getD k 0 = p.toList[k] := by
        have hk' : k < p.size := by simpa using hk
        simp [Array.getD, hk']
      rw [this]
    rw [key i (by omega), key j (by omega)]
    exact hu i j (by omega) hj
end
section
variable {w : World} {H : Hp} {Q : VK}
theorem rd_setT {l : Addr} {qs : List Addr} {ts al : List (List Int)} (h1 : H l = some (.lst (qs.map V.ref))) (h2 : TupsAt H qs ts) (h3 : ∀ t ∈ ts, t ∈ al) (h4 : al.length < 64)
    (h : ∀ (p : Addr) (qs' : List Addr) (us : List (List Int)), H p = none → TupsAt H qs' us → us.Nodup → (∀ t, t ∈ us ↔ t ∈ ts) → Q (.ref p) (upd H p (.ext (isSt w p qs')))) : rSetT w [.ref l] H Q := ⟨l, qs, ts, al, rfl, h1, h2, h3, h4, h⟩
theorem rd_sortS {b : Addr} {rs : List Addr} {ts : List (List Int)} (h1 : H b = some (.ext (isSt w b rs))) (h2 : TupsAt H rs ts) (h3 : ts.length < 64)
    (h : ∀ (p : Addr) (qs : List Addr) (us : List (List Int)), H p = none → TupsAt H qs us → us.Perm ts → us.Pairwise (fun a b => lexB b a = false) → Q (.ref p) (upd H p (.lst (qs.map V.ref)))) : rSortS w [.ref b] H Q := ⟨b, rs, ts, rfl, h1, h2, h3, h⟩
end
end L2
local macro_rules | `(tactic| walk_at "ne") => `(tactic| first
  | assumption
  | (refine Ne.symm ?_; assumption)
  | exact L2.ne_none (by assumption) (by walk_at "hp")
  | exact Ne.symm (L2.ne_none (by assumption) (by walk_at "hp")))
local macro_rules | `(tactic| walk_at "hp") => `(tactic| first
  | assumption
  | exact L2.upd_same
  | (refine Eq.trans (L2.upd_ne (by walk_at "ne")) ?_; walk_at "hp")
  | (refine L2.Same.at (by assumption) ?_; walk_at "hp")
  | (refine L2.Keep.at (by assumption) ?_ (by walk_at "ne"); walk_at "hp"))
local macro_rules | `(tactic| walk_at "sq") => `(tactic| first
  | assumption
  | exact L2.SqL.of (by walk_at "hp")
  | exact L2.SqT.of (by walk_at "hp")
  | exact L2.Same.seq (by assumption) (by walk_at "sq"))
local macro_rules | `(tactic| walk_at "cnd") => `(tactic| first
  | omega
  | decide
  | (simp only [List.length_map]; omega)
  | (refine ⟨?_, ?_⟩ <;> first | omega | decide)
  | (refine Or.inl ⟨?_, ?_⟩ <;> first | omega | decide)
  | (refine Or.inr ⟨?_, ?_⟩ <;> first | omega | decide)
  | (refine ⟨?_, ?_, ?_⟩ <;> first | omega | decide))
local macro_rules | `(tactic| walk_at "sz") => `(tactic| (refine L2.sz_le ?_; first | decide | (simp only [List.length_cons, List.length_nil, List.length_append]; omega) | omega))
local macro_rules | `(tactic| walk_at "rd") => `(tactic| (with_reducible first
  | refine L2.rd_next ?_
  | refine L2.rd_par ?_
  | refine L2.rd_asg ?_
  | refine L2.rd_drop ?_
  | refine L2.rd_ret ?_
  | refine L2.rd_retN ?_
  | refine L2.rd_break ?_
  | refine L2.rd_cont ?_
  | refine L2.rd_ifS ?_
  | refine L2.rd_augS ?_
  | refine L2.rd_for ?_
  | refine L2.rd_gnil ?_
  | refine L2.rd_gcons ?_
  | refine L2.rd_gsub ?_
  | refine L2.rd_iItems ?_
  | refine L2.rd_dict1 ?_
  | refine L2.rd_dget2 ?_
  | refine L2.rd_ipI ?_
  | refine L2.rd_c ?_
  | refine L2.rd_op ?_
  | refine L2.rd_un ?_
  | refine L2.rd_rI0 ?_
  | refine L2.rd_rU ?_
  | refine L2.rd_addI ?_
  | refine L2.rd_sl ?_
  | refine L2.rd_nopart ?_
  | refine L2.rd_part ?_
  | refine L2.rd_partN ?_
  | refine L2.rd_pnN ?_
  | refine L2.rd_pnI ?_
  | refine L2.rd_andV ?_
  | refine L2.rd_orV ?_
  | refine L2.rd_notV ?_
  | refine L2.rd_ifE ?_
  | refine L2.rd_chain ?_
  | refine L2.rd_test ?_
  | refine L2.rd_tB ?_
  | refine L2.rd_and ?_
  | refine L2.rd_or ?_
  | refine L2.rd_not ?_
  | refine L2.rd_yes ?_
  | refine L2.rd_bl ?_
  | refine L2.rd_int1 ?_
  | refine L2.rd_l1 ?_
  | refine L2.rd_l2 ?_
  | refine L2.rd_bl2 ?_
  | refine L2.rd_nil ?_
  | refine L2.rd_cons ?_
  | refine L2.rd_tup ?_
  | refine L2.rd_lst ?_
  | refine L2.rd_call ?_
  | refine L2.rd_cb ?_
  | refine L2.rd_comp ?_
  | refine L2.rd_iListQ ?_
  | refine L2.rd_iTupQ ?_
  | refine L2.rd_iRng1 ?_
  | refine L2.rd_iRng2 ?_
  | refine L2.rd_fld ?_
  | refine L2.iteT ?_
  | refine L2.iteF ?_
  | refine L2.iteNT ?_
  | refine L2.iteNF ?_
  | refine L2.rd_bm ?_
  | refine L2.rd_iEnum ?_
  | refine L2.rd_rng ?_
  | refine L2.rd_make ?_
  | refine L2.rd_sfld ?_
  | refine L2.rd_dput ?_))
local macro_rules | `(tactic| walk_at "st") => `(tactic| first
  | walk_at "rd"
  | ((with_reducible refine L2.rd_nx (b := ?b) ?t ?_); (case t => assumption))
  | ((with_reducible refine L2.rd_var (v := ?v) ?e ?_); (case e => rfl))
  | ((with_reducible refine L2.rd_gname (σ' := ?s) ?e ?_); (case e => first | (simp only [List.set_cons_zero, List.set_cons_succ]; rfl) | rfl))
  | ((with_reducible refine L2.rd_rI ?c ?_); (case c => walk_at "cnd"))
  | ((with_reducible refine L2.rd_mulI ?c ?_); (case c => walk_at "cnd"))
  | ((with_reducible refine L2.rd_ixL (xs := ?xs) (v := ?v) ?a ?b ?_); (case a => walk_at "sq"); (case b => first | rfl | assumption))
  | ((with_reducible refine L2.rd_ixT (xs := ?xs) (v := ?v) ?a ?b ?_); (case a => walk_at "sq"); (case b => first | rfl | assumption))
  | (with_reducible refine L2.rd_abs ?_)
  | (with_reducible refine L2.rd_max ?_)
  | (with_reducible refine L2.rd_min ?_)
  | (with_reducible refine L2.rd_intI ?_)
  | (with_reducible refine L2.rd_intB ?_)
  | ((with_reducible refine L2.rd_lenL (xs := ?xs) ?a ?_); (case a => walk_at "sq"))
  | ((with_reducible refine L2.rd_lenT (xs := ?xs) ?a ?_); (case a => walk_at "sq"))
  | (with_reducible refine L2.rd_eqI ?_)
  | (with_reducible refine L2.rd_neI ?_)
  | ((with_reducible refine L2.rd_eqF ?a ?b ?_); (case a => rfl); (case b => rfl))
  | ((with_reducible refine L2.rd_neF ?a ?b ?_); (case a => rfl); (case b => rfl))
  | ((with_reducible refine L2.rd_is (b := ?b) ?e ?_); (case e => rfl))
  | ((with_reducible refine L2.rd_isNot (b := ?b) ?e ?_); (case e => rfl))
  | ((with_reducible refine L2.rd_size ?c ?_); (case c => walk_at "sz")))
local macro_rules | `(tactic| walk_at "go") => `(tactic| first
  | (with_reducible refine L2.rd_seqH (fun _ _ => ?_))
  | walk_at "st")
local macro_rules | `(tactic| walk_at "gs") => `(tactic| first
  | walk_at "go"
  | ((with_reducible refine L2.iteGF ?e ?_); (case e => rfl))
  | ((with_reducible refine L2.iteGT ?e ?_); (case e => rfl)))
namespace My
open PySem L2
def top (i : Nat) : Stmt := PySem.Challenge.pw_stintwise_k17_states_reached.main.body.getD i (.Pass ⟨0, 0, 0, 0⟩)
abbrev s__law_open : Stmt := top 22
abbrev s__law_draw : Stmt := top 23
abbrev s_is_whole : Stmt := top 6
abbrev s_is_amount : Stmt := top 7
abbrev s_is_span : Stmt := top 17
abbrev s_is_piece : Stmt := top 18
abbrev s_are_pieces : Stmt := top 19
abbrev s_Machine_init : Stmt := inClass (top 20) 0
abbrev s__law_spec : Stmt := top 26
abbrev s__law_machine : Stmt := top 27
abbrev s__law_same : Stmt := top 31
abbrev s_may_be : Stmt := top 9
abbrev s_state_after : Stmt := top 10
abbrev s__law_state : Stmt := top 28
abbrev s_ways_one_on : Stmt := top 11
abbrev s__law_after : Stmt := top 29
abbrev s_ways_after : Stmt := top 12
abbrev s_states_after : Stmt := top 13
abbrev s__law_reached : Stmt := top 32
abbrev s_law : Stmt := top 33
theorem sc__law_open : FnScope ["_law_script", "_law_place", "_law_cells", "_law_at", "_law_digits"] ["_law_script", "_law_place"] (defScope s__law_open) := ⟨rfl, rfl, rfl, by decide +kernel, rfl, by decide +kernel, by decide +kernel⟩
theorem sc__law_draw : FnScope ["_law_hand", "_law_many", "_law_got", "_law_cell", "_law_number"] ["_law_hand", "_law_many"] (defScope s__law_draw) := ⟨rfl, rfl, rfl, by decide +kernel, rfl, by decide +kernel, by decide +kernel⟩
theorem sc_is_whole : FnScope ["thing"] ["thing"] (defScope s_is_whole) := ⟨rfl, rfl, rfl, by decide +kernel, rfl, by decide +kernel, by decide +kernel⟩
theorem sc_is_amount : FnScope ["thing"] ["thing"] (defScope s_is_amount) := ⟨rfl, rfl, rfl, by decide +kernel, rfl, by decide +kernel, by decide +kernel⟩
theorem sc_is_span : FnScope ["thing"] ["thing"] (defScope s_is_span) := ⟨rfl, rfl, rfl, by decide +kernel, rfl, by decide +kernel, by decide +kernel⟩
theorem sc_is_piece : FnScope ["thing"] ["thing"] (defScope s_is_piece) := ⟨rfl, rfl, rfl, by decide +kernel, rfl, by decide +kernel, by decide +kernel⟩
theorem sc_are_pieces : FnScope ["thing"] ["thing"] (defScope s_are_pieces) := ⟨rfl, rfl, rfl, by decide +kernel, rfl, by decide +kernel, by decide +kernel⟩
theorem sc_Machine_init : FnScope ["self", "up", "down", "begin", "run", "rest", "least", "pieces", "spans", "costs", "at", "fits"] ["self", "up", "down", "begin", "run", "rest", "least", "pieces"] (defScope s_Machine_init) := ⟨rfl, rfl, rfl, by decide +kernel, rfl, by decide +kernel, by decide +kernel⟩
theorem sc__law_spec : FnScope ["_law_hand", "_law_by", "_law_longest", "_law_up", "_law_down", "_law_costs", "_law_least", "_law_rate", "_law_pieces", "_law_k"] ["_law_hand", "_law_by", "_law_longest"] (defScope s__law_spec) := ⟨rfl, rfl, rfl, by decide +kernel, rfl, by decide +kernel, by decide +kernel⟩
theorem sc__law_machine : FnScope ["_law_spec_here"] ["_law_spec_here"] (defScope s__law_machine) := ⟨rfl, rfl, rfl, by decide +kernel, rfl, by decide +kernel, by decide +kernel⟩
theorem sc__law_same : FnScope ["_law_one", "_law_due"] ["_law_one", "_law_due"] (defScope s__law_same) := ⟨rfl, rfl, rfl, by decide +kernel, rfl, by decide +kernel, by decide +kernel⟩
theorem sc_may_be : FnScope ["machine", "state", "on"] ["machine", "state", "on"] (defScope s_may_be) := ⟨rfl, rfl, rfl, by decide +kernel, rfl, by decide +kernel, by decide +kernel⟩
theorem sc_state_after : FnScope ["machine", "state", "on"] ["machine", "state", "on"] (defScope s_state_after) := ⟨rfl, rfl, rfl, by decide +kernel, rfl, by decide +kernel, by decide +kernel⟩
theorem sc__law_state : FnScope ["_law_hand", "_law_spec_here"] ["_law_hand", "_law_spec_here"] (defScope s__law_state) := ⟨rfl, rfl, rfl, by decide +kernel, rfl, by decide +kernel, by decide +kernel⟩
theorem sc_ways_one_on : FnScope ["machine", "ways", "later", "state", "many", "on", "behind"] ["machine", "ways"] (defScope s_ways_one_on) := ⟨rfl, rfl, rfl, by decide +kernel, rfl, by decide +kernel, by decide +kernel⟩
theorem sc__law_after : FnScope ["_law_spec_here", "_law_state_here", "_law_on"] ["_law_spec_here", "_law_state_here", "_law_on"] (defScope s__law_after) := ⟨rfl, rfl, rfl, by decide +kernel, rfl, by decide +kernel, by decide +kernel⟩
theorem sc_ways_after : FnScope ["machine", "state", "hours", "ways", "hour"] ["machine", "state", "hours"] (defScope s_ways_after) := ⟨rfl, rfl, rfl, by decide +kernel, rfl, by decide +kernel, by decide +kernel⟩
theorem sc_states_after : FnScope ["machine", "state", "hours"] ["machine", "state", "hours"] (defScope s_states_after) := ⟨rfl, rfl, rfl, by decide +kernel, rfl, by decide +kernel, by decide +kernel⟩
theorem sc__law_reached : FnScope ["_law_spec_here", "_law_state_here", "_law_hours", "_law_some", "_law_hour", "_law_later", "_law_one"] ["_law_spec_here", "_law_state_here", "_law_hours"] (defScope s__law_reached) := ⟨rfl, rfl, rfl, by decide +kernel, rfl, by decide +kernel, by decide +kernel⟩
theorem sc_law : FnScope ["_law_script", "_law_hand", "_law_longest", "_law_k", "_law_specs", "_law_machines", "_law_states", "_law_hours", "_law_held", "_law_more", "_law_many", "_law_state_here", "_law_found"] ["_law_script"] (defScope s_law) := ⟨rfl, rfl, rfl, by decide +kernel, rfl, by decide +kernel, by decide +kernel⟩
theorem ar1 : ∀ us : List Value, us.length = 1 → ∃ a0, us = [a0]
  | [a0], _ => ⟨a0, rfl⟩
theorem ar2 : ∀ us : List Value, us.length = 2 → ∃ a0 a1, us = [a0, a1]
  | [a0, a1], _ => ⟨a0, a1, rfl⟩
theorem ar3 : ∀ us : List Value, us.length = 3 → ∃ a0 a1 a2, us = [a0, a1, a2]
  | [a0, a1, a2], _ => ⟨a0, a1, a2, rfl⟩
theorem ar8 : ∀ us : List Value, us.length = 8 → ∃ a0 a1 a2 a3 a4 a5 a6 a7, us = [a0, a1, a2, a3, a4, a5, a6, a7]
  | [a0, a1, a2, a3, a4, a5, a6, a7], _ => ⟨a0, a1, a2, a3, a4, a5, a6, a7, rfl⟩
set_option genInjectivity false in
set_option genSizeOf false in
structure Adr where
  f__law_open : Addr
  d__law_open : FuncData
  f__law_draw : Addr
  d__law_draw : FuncData
  f_is_whole : Addr
  d_is_whole : FuncData
  f_is_amount : Addr
  d_is_amount : FuncData
  f_is_span : Addr
  d_is_span : FuncData
  f_is_piece : Addr
  d_is_piece : FuncData
  f_are_pieces : Addr
  d_are_pieces : FuncData
  f_Machine_init : Addr
  d_Machine_init : FuncData
  f__law_spec : Addr
  d__law_spec : FuncData
  f__law_machine : Addr
  d__law_machine : FuncData
  f__law_same : Addr
  d__law_same : FuncData
  f_may_be : Addr
  d_may_be : FuncData
  f_state_after : Addr
  d_state_after : FuncData
  f__law_state : Addr
  d__law_state : FuncData
  f_ways_one_on : Addr
  d_ways_one_on : FuncData
  f__law_after : Addr
  d__law_after : FuncData
  f_ways_after : Addr
  d_ways_after : FuncData
  f_states_after : Addr
  d_states_after : FuncData
  f__law_reached : Addr
  d__law_reached : FuncData
  f_law : Addr
  d_law : FuncData
  c_Machine : Addr
structure Txt (K : PySem.W.Frag) (mg : Str → Option Value) (a : Adr) : Prop where
  F__law_open : Fun K "_law_open" "_law_open" s__law_open a.f__law_open a.d__law_open
  b__law_open : Binds K a.d__law_open ["_law_script", "_law_place"] []
  g__law_open : mg "_law_open" = some (.ref a.f__law_open)
  F__law_draw : Fun K "_law_draw" "_law_draw" s__law_draw a.f__law_draw a.d__law_draw
  b__law_draw : Binds K a.d__law_draw ["_law_hand", "_law_many"] []
  g__law_draw : mg "_law_draw" = some (.ref a.f__law_draw)
  F_is_whole : Fun K "is_whole" "is_whole" s_is_whole a.f_is_whole a.d_is_whole
  b_is_whole : Binds K a.d_is_whole ["thing"] []
  g_is_whole : mg "is_whole" = some (.ref a.f_is_whole)
  F_is_amount : Fun K "is_amount" "is_amount" s_is_amount a.f_is_amount a.d_is_amount
  b_is_amount : Binds K a.d_is_amount ["thing"] []
  g_is_amount : mg "is_amount" = some (.ref a.f_is_amount)
  F_is_span : Fun K "is_span" "is_span" s_is_span a.f_is_span a.d_is_span
  b_is_span : Binds K a.d_is_span ["thing"] []
  g_is_span : mg "is_span" = some (.ref a.f_is_span)
  F_is_piece : Fun K "is_piece" "is_piece" s_is_piece a.f_is_piece a.d_is_piece
  b_is_piece : Binds K a.d_is_piece ["thing"] []
  g_is_piece : mg "is_piece" = some (.ref a.f_is_piece)
  F_are_pieces : Fun K "are_pieces" "are_pieces" s_are_pieces a.f_are_pieces a.d_are_pieces
  b_are_pieces : Binds K a.d_are_pieces ["thing"] []
  g_are_pieces : mg "are_pieces" = some (.ref a.f_are_pieces)
  F_Machine_init : Fun K "__init__" "Machine.__init__" s_Machine_init a.f_Machine_init a.d_Machine_init
  b_Machine_init : Binds K a.d_Machine_init ["self", "up", "down", "begin", "run", "rest", "least", "pieces"] []
  F__law_spec : Fun K "_law_spec" "_law_spec" s__law_spec a.f__law_spec a.d__law_spec
  b__law_spec : Binds K a.d__law_spec ["_law_hand", "_law_by", "_law_longest"] []
  g__law_spec : mg "_law_spec" = some (.ref a.f__law_spec)
  F__law_machine : Fun K "_law_machine" "_law_machine" s__law_machine a.f__law_machine a.d__law_machine
  b__law_machine : Binds K a.d__law_machine ["_law_spec_here"] []
  g__law_machine : mg "_law_machine" = some (.ref a.f__law_machine)
  F__law_same : Fun K "_law_same" "_law_same" s__law_same a.f__law_same a.d__law_same
  b__law_same : Binds K a.d__law_same ["_law_one", "_law_due"] []
  g__law_same : mg "_law_same" = some (.ref a.f__law_same)
  F_may_be : Fun K "may_be" "may_be" s_may_be a.f_may_be a.d_may_be
  b_may_be : Binds K a.d_may_be ["machine", "state", "on"] []
  g_may_be : mg "may_be" = some (.ref a.f_may_be)
  F_state_after : Fun K "state_after" "state_after" s_state_after a.f_state_after a.d_state_after
  b_state_after : Binds K a.d_state_after ["machine", "state", "on"] []
  g_state_after : mg "state_after" = some (.ref a.f_state_after)
  F__law_state : Fun K "_law_state" "_law_state" s__law_state a.f__law_state a.d__law_state
  b__law_state : Binds K a.d__law_state ["_law_hand", "_law_spec_here"] []
  g__law_state : mg "_law_state" = some (.ref a.f__law_state)
  F_ways_one_on : Fun K "ways_one_on" "ways_one_on" s_ways_one_on a.f_ways_one_on a.d_ways_one_on
  b_ways_one_on : Binds K a.d_ways_one_on ["machine", "ways"] []
  g_ways_one_on : mg "ways_one_on" = some (.ref a.f_ways_one_on)
  F__law_after : Fun K "_law_after" "_law_after" s__law_after a.f__law_after a.d__law_after
  b__law_after : Binds K a.d__law_after ["_law_spec_here", "_law_state_here", "_law_on"] []
  g__law_after : mg "_law_after" = some (.ref a.f__law_after)
  F_ways_after : Fun K "ways_after" "ways_after" s_ways_after a.f_ways_after a.d_ways_after
  b_ways_after : Binds K a.d_ways_after ["machine", "state", "hours"] []
  g_ways_after : mg "ways_after" = some (.ref a.f_ways_after)
  F_states_after : Fun K "states_after" "states_after" s_states_after a.f_states_after a.d_states_after
  b_states_after : Binds K a.d_states_after ["machine", "state", "hours"] []
  g_states_after : mg "states_after" = some (.ref a.f_states_after)
  F__law_reached : Fun K "_law_reached" "_law_reached" s__law_reached a.f__law_reached a.d__law_reached
  b__law_reached : Binds K a.d__law_reached ["_law_spec_here", "_law_state_here", "_law_hours"] []
  g__law_reached : mg "_law_reached" = some (.ref a.f__law_reached)
  F_law : Fun K "law" "law" s_law a.f_law a.d_law
  b_law : Binds K a.d_law ["_law_script"] []
  g_law : mg "law" = some (.ref a.f_law)
  C_Machine : Cls K a.c_Machine
  g_Machine : mg "Machine" = some (.ref a.c_Machine)
  M_Machine : Mk K a.c_Machine a.f_Machine_init
  n_Machine_up : NoAttr K a.c_Machine "up"
  n_Machine_down : NoAttr K a.c_Machine "down"
  n_Machine_begin : NoAttr K a.c_Machine "begin"
  n_Machine_run : NoAttr K a.c_Machine "run"
  n_Machine_rest : NoAttr K a.c_Machine "rest"
  n_Machine_least : NoAttr K a.c_Machine "least"
  n_Machine_pieces : NoAttr K a.c_Machine "pieces"
  z_abs : mg "abs" = none
  z_all : mg "all" = none
  z_bool : mg "bool" = none
  z_enumerate : mg "enumerate" = none
  z_int : mg "int" = none
  z_isinstance : mg "isinstance" = none
  z_len : mg "len" = none
  z_list : mg "list" = none
  z_max : mg "max" = none
  z_min : mg "min" = none
  z_range : mg "range" = none
  z_set : mg "set" = none
  z_sorted : mg "sorted" = none
  z_str : mg "str" = none
  z_tuple : mg "tuple" = none
  v_LONGEST_STINT : ∃ t, mg "LONGEST_STINT" = some (.int 12 t)
  v_MOST_PIECES : ∃ t, mg "MOST_PIECES" = some (.int 4 t)
end My
namespace My
open PySem L2
inductive Th (H : Hp) : V → String → Prop where
  | non : Th H .non "NoneType"
  | bl (b : Bool) : Th H (.bl b) "bool"
  | int (i : Int) : Th H (.int i) "int"
  | str (x : Str) : Th H (.str x) "str"
  | lst {p : Addr} {xs : List V} (e : H p = some (.lst xs)) : Th H (.ref p) "list"
  | tup {p : Addr} {xs : List V} (e : H p = some (.tup xs)) : Th H (.ref p) "tuple"
  | dK {p : Addr} {kvs : List (Key × V)} (e : H p = some (.dK kvs)) : Th H (.ref p) "dict"
theorem Th.ty {K : PySem.W.Frag} {H : Hp} {v : V} {T : String} (h : Th H v T) : TyOf K H v (.type T) := by
  cases h with
  | non => exact .non
  | bl b => exact .bl b
  | int i => exact .int i
  | str x => exact .str x
  | lst e => exact .lst e
  | tup e => exact .tup e
  | dK e => exact .dK e
theorem Th.keep {H H' : Hp} {p : Addr} {v : V} {T : String} (h : Th H v T) (n : ∀ b, v = .ref b → b ≠ p) (k : Keep p H H') : Th H' v T := by
  cases h with
  | non => exact .non
  | bl b => exact .bl b
  | int i => exact .int i
  | str x => exact .str x
  | lst e => exact .lst (k _ _ e (n _ rfl))
  | tup e => exact .tup (k _ _ e (n _ rfl))
  | dK e => exact .dK (k _ _ e (n _ rfl))
theorem isi_int {K : PySem.W.Frag} {H : Hp} {v : V} {T : String} (h : Th H v T) : IsI K H v (.ty "int") (T == "int" || T == "bool") := by
  refine ⟨_, h.ty, .inl ⟨_, rfl, ?_⟩⟩
  cases h <;> rfl
theorem isi_bool {K : PySem.W.Frag} {H : Hp} {v : V} {T : String} (h : Th H v T) : IsI K H v (.ty "bool") (T == "bool") := by
  refine ⟨_, h.ty, .inl ⟨_, rfl, ?_⟩⟩
  cases h <;> rfl
def amt : V → Bool
  | .int i => decide (0 ≤ i) && decide (i ≤ 10 ^ 12)
  | _ => false
structure HandAt (H : Hp) (p : Addr) : Prop where
  ex : ∃ (d c : Int) (q : Addr) (ms : List Int), H p = some (.lst [.int d, .int c, .ref q]) ∧ H q = some (.lst (ms.map V.int)) ∧ ms ≠ [] ∧ q ≠ p
def SameQ (p : Addr) (H H' : Hp) : Prop := ∀ (d c : Int) (q : Addr), H p = some (.lst [.int d, .int c, .ref q]) → ∃ d' c' : Int, H' p = some (.lst [.int d', .int c', .ref q])
theorem SameQ.trans {p : Addr} {H H1 H2 : Hp} (a : SameQ p H H1) (b : SameQ p H1 H2) : SameQ p H H2 := fun d c q e => by
  obtain ⟨d', c', e'⟩ := a d c q e
  exact b d' c' q e'
theorem SameQ.of {p : Addr} {H H' : Hp} (s : ∀ o, H p = some o → H' p = some o) : SameQ p H H' := fun d c q e => ⟨d, c, s _ e⟩
theorem HandAt.of {p : Addr} {H H' : Hp} (h : HandAt H p) (k : Keep p H H') (s : SameQ p H H') : HandAt H' p := by
  obtain ⟨d, c, q, ms, hp, hq, hne, hqp⟩ := h.ex
  obtain ⟨d', c', e⟩ := s d c q hp
  exact ⟨⟨d', c', q, ms, e, k _ _ hq hqp, hne, hqp⟩⟩
theorem HandAt.same {H H' : Hp} {p : Addr} (h : HandAt H p) (s : Same H H') : HandAt H' p := by
  obtain ⟨d, c, q, ms, hp, hq, hne, hqp⟩ := h.ex
  exact ⟨⟨d, c, q, ms, s _ _ hp, s _ _ hq, hne, hqp⟩⟩
theorem sqKeep {K : PySem.W.Frag} {H H1 H' : Hp} {a p : Addr} {xs : List V} (h : SqL K H a xs) (np : H p = none) (s : Same H H1) (k : Keep p H1 H') : SqL K H' a xs := by
  rcases h with (h | ⟨o, h⟩) | h
  · exact .inl (.inl (k _ _ (s _ _ h) (ne_none np h)))
  · exact .inl (.inr ⟨o, k _ _ (s _ _ h) (ne_none np h)⟩)
  · exact .inr h
theorem isi_list {K : PySem.W.Frag} {H : Hp} {v : V} {T : String} (h : Th H v T) : IsI K H v (.ty "list") (T == "list") := by
  refine ⟨_, h.ty, .inl ⟨_, rfl, ?_⟩⟩
  cases h <;> rfl
theorem isi_str {K : PySem.W.Frag} {H : Hp} {v : V} {T : String} (h : Th H v T) : IsI K H v (.ty "str") (T == "str") := by
  refine ⟨_, h.ty, .inl ⟨_, rfl, ?_⟩⟩
  cases h <;> rfl
theorem isi_tuple {K : PySem.W.Frag} {H : Hp} {v : V} {T : String} (h : Th H v T) : IsI K H v (.ty "tuple") (T == "tuple") := by
  refine ⟨_, h.ty, .inl ⟨_, rfl, ?_⟩⟩
  cases h <;> rfl
theorem mod_at {ms : List Int} {c : Int} (h : ms ≠ []) : ∃ m, m ∈ ms ∧ atI (ms.map V.int) (c % ((ms.map V.int).length : Int)) = some (.int m) := by
  have hl : 0 < ms.length := List.length_pos_iff.mpr h
  have e1 := Int.emod_nonneg c (b := ((ms.map V.int).length : Int)) (by rw [List.length_map]; omega)
  have e2 := Int.emod_lt_of_pos c (b := ((ms.map V.int).length : Int)) (by rw [List.length_map]; omega)
  obtain ⟨j, hj⟩ : ∃ j : Nat, c % ((ms.map V.int).length : Int) = (j : Int) := ⟨_, (Int.toNat_of_nonneg e1).symm⟩
  rw [hj] at e2 ⊢
  rw [List.length_map] at e2
  have hjl : j < ms.length := by omega
  exact ⟨ms[j], List.getElem_mem hjl, atI_nat (by rw [List.getElem?_map, List.getElem?_eq_getElem hjl]; rfl)⟩
theorem cut_map (ms : List Int) (lo hi : Option Int) : ∃ r : List Int, cutV (ms.map V.int) lo hi = r.map V.int ∧ r.length = (cutV (ms.map V.int) lo hi).length := by
  unfold cutV
  rw [← List.map_drop, ← List.map_take]
  exact ⟨_, rfl, by simp⟩
theorem rot {ms : List Int} {i : Int} (h0 : 0 ≤ i) (h1 : i < ms.length) : ∃ ms' : List Int, cutV (ms.map V.int) (some i) none ++ cutV (ms.map V.int) none (some i) = ms'.map V.int ∧ ms' ≠ [] ∧ ms'.length ≤ ms.length + ms.length := by
  obtain ⟨r1, e1, l1⟩ := cut_map ms (some i) none
  obtain ⟨r2, e2, l2⟩ := cut_map ms none (some i)
  have b1 := cutV_length (ms.map V.int) (some i) none
  have b2 := cutV_length (ms.map V.int) none (some i)
  rw [List.length_map] at b1 b2
  refine ⟨r1 ++ r2, by rw [e1, e2, List.map_append], fun z => ?_, by rw [List.length_append]; omega⟩
  have z1 : r1 = [] := (List.append_eq_nil_iff.mp z).1
  obtain ⟨j, rfl⟩ := Int.eq_ofNat_of_zero_le h0
  have hj : j < ms.length := by omega
  rw [z1, List.length_nil] at l1
  have l3 : (cutV (ms.map V.int) (some (j : Int)) none).length = ms.length - j := by
    unfold cutV
    rw [HT.sIx_nat, HT.sIx_none, List.length_take, List.length_drop, List.length_map, Nat.min_eq_left (Nat.le_of_lt hj)]
    omega
  rw [l3] at l1
  omega
def sp__law_open (K : PySem.W.Frag) : Sp := fun vs H Q _ => ∃ (a : Addr) (ns : List Int) (i : Int), vs = [.ref a, .int i] ∧ SqL K H a (ns.map V.int) ∧ ns.length ≤ 63 ∧ 0 ≤ i ∧
  ∀ p H', Same H H' → H p = none → HandAt H' p → Q (.ref p) H'
set_option maxHeartbeats 40000000 in
theorem ok__law_open {P : Program} {w : World} {K : PySem.W.Frag} {mg : Str → Option Value} {base : Heap} {a : Adr} (tx : Txt K mg a) : FnOk P w K mg base CX0 1 a.f__law_open a.d__law_open ["_law_script", "_law_place"] (sp__law_open K) := by
  refine tx.F__law_open.ok sc__law_open (fun vs H Q E h => ?_) (fun cdv A outer s H vs Q E hr h => ?_)
  · obtain ⟨a, ns, i, rfl, _⟩ := h
    rfl
  · obtain ⟨a, ns, i, rfl , hS, hl, h0, k⟩ := h
    have hu := hu9 hr
    refine L2.Q.root (L2.Q.pss_cons (L2.Q.ps_setC (k := 1) (idx := []) (N := ["_law_cell"]) (i := 2) sc__law_open.nd rfl (Or.inl rfl) (blk_sc (sc := defScope s__law_open) (NX := ["_law_script", "_law_place", "_law_cells", "_law_at", "_law_digits"]) rfl rfl rfl (by decide +kernel)) rfl (L2.Q.pi_listK (K' := K) (L2.Q.pe_slice (rs := rSlG K) sl_G (L2.Q.pv 0) L2.Q.po_none (L2.Q.po_some L2.Q.pe_int))) (fun _ _ _ _ => (L2.Q.pg_name (i := 0) (show (["_law_cell"] : List Str).Nodup by decide +kernel) rfl (Or.inl rfl))) (own_name (by decide)) (fun _ _ _ _ => L2.Q.pts_nil) (fun _ _ _ _ => (L2.Q.pe_callBN call_absG (by rfl) tx.z_abs bt_abs (L2.Q.pa_c (L2.Q.pv 0) L2.Q.pa_nil))))
      (L2.Q.pss_cons (L2.Q.ps_if (L2.Q.pt_cmpR (r := rEqG K) (op_eqG hu) (L2.Q.pv 2) (L2.Q.pe_lst L2.Q.pa_nil) (nomark _)) (L2.Q.pss_one (L2.Q.ps_set (i := 2) sc__law_open.nd rfl (Or.inl rfl) (L2.Q.lst1 L2.Q.pe_int))) L2.Q.pss_nil)
      (L2.Q.pss_cons (L2.Q.ps_set (i := 3) sc__law_open.nd rfl (Or.inl rfl) (L2.Q.pe_op op_mod (L2.Q.pv 1) (L2.Q.pe_callBN (rc := rLen K) call_lenG (by rfl) tx.z_len bt_len (L2.Q.pa_c (L2.Q.pv 2) L2.Q.pa_nil))))
      (L2.Q.pss_cons (L2.Q.ps_set (i := 4) sc__law_open.nd rfl (Or.inl rfl) L2.Q.pe_int)
      (L2.Q.pss_cons (L2.Q.ps_if (L2.Q.pw_pt (L2.Q.pw_and (L2.Q.pt_cmpR op_ge (L2.Q.pe_ixK (K' := K) (L2.Q.pv 2) (L2.Q.pv 3) (fun _ _ => rfl)) (L2.Q.pe_op op_pow L2.Q.pe_int L2.Q.pe_int) (nomark _)) (L2.Q.pw_and1 (L2.Q.pt_cmpR op_lt (L2.Q.pv 1) (L2.Q.pe_callBN (rc := rLen K) call_lenG (by rfl) tx.z_len bt_len (L2.Q.pa_c (L2.Q.pv 2) L2.Q.pa_nil)) (nomark _))))) (L2.Q.pss_one (L2.Q.ps_set (i := 4) sc__law_open.nd rfl (Or.inl rfl) (L2.Q.pe_ixK (K' := K) (L2.Q.pv 2) (L2.Q.pv 3) (fun _ _ => rfl)))) L2.Q.pss_nil)
      (L2.Q.pss_one (L2.Q.ps_ret (L2.Q.lst3 (L2.Q.pv 4) (L2.Q.pe_op op_addG L2.Q.pe_int (L2.Q.pe_op op_mulG L2.Q.pe_int (L2.Q.pv 1))) (L2.Q.pe_op op_addG (L2.Q.pe_slice (rs := rSlG K) sl_G (L2.Q.pv 2) (L2.Q.po_some (L2.Q.pv 3)) L2.Q.po_none) (L2.Q.pe_slice (rs := rSlG K) sl_G (L2.Q.pv 2) L2.Q.po_none (L2.Q.po_some (L2.Q.pv 3)))))))))))) ?_
    refine rd_start (σ := [some (.ref a), some (.int i), none, none, none]) rfl ?_
    refine rd_seq ?_
    repeat walk_at "go"
    refine rd_slL hS ?_
    intro p1 n1
    repeat walk_at "go"
    rw [show cutV (ns.map V.int) none (some 63) = ns.map V.int from cut_head (n := 63) (by rw [List.length_map]; exact hl)]
    refine rd_li (SqL.of upd_same) ?_
    refine comp_pure (fun v => match v with | .int i => .int (if i < 0 then -i else i) | v => v) (SqL.of upd_same) (sz_le (by rw [List.length_map]; omega)) (fun x N N' hx hN => ?_) ?_
    · obtain ⟨y, hy, rfl⟩ := List.mem_map.mp hx
      repeat walk_at "go"
      exact hN
    · intro p2 n2
      repeat walk_at "st"
      have s2 : Same H (upd (upd H p1 (.lst (ns.map V.int))) p2 (.lst ((ns.map V.int).map fun v => match v with | .int i => .int (if i < 0 then -i else i) | v => v))) := (Same.new n1).trans (Same.new n2)
      rw [List.map_map] at s2 ⊢
      generalize hm : ns.map ((fun v => match v with | V.int i => V.int (if i < 0 then -i else i) | v => v) ∘ V.int) = xs at s2 ⊢
      obtain ⟨ms, rfl⟩ : ∃ ms : List Int, xs = ms.map V.int := ⟨ns.map fun i => if i < 0 then -i else i, by rw [← hm, List.map_map]; rfl⟩
      have lm : ms.length ≤ 63 := by
        have := congrArg List.length hm
        simp only [List.length_map] at this
        omega
      refine rd_seqJ (fun σ' H' => ∃ (c : Addr) (ms : List Int), σ' = [some (.ref a), some (.int i), some (.ref c), none, none] ∧ Same H H' ∧ H' c = some (.lst (ms.map V.int)) ∧ ms ≠ [] ∧ ms.length ≤ 63) (fun N hN => ?_) ?_
      · repeat walk_at "go"
        intro p3 n3
        repeat walk_at "go"
        refine ⟨_, eqN_nil (SqL.of (by walk_at "hp")) (SqL.of upd_same), ?_⟩
        repeat walk_at "go"
        refine rd_bool (fun h => ?_) (fun h => ?_)
        · repeat walk_at "go"
          intro p4 n4
          repeat walk_at "go"
          exact hN _ _ ⟨p4, [0], rfl, (s2.trans (Same.new n3)).trans (Same.new n4), upd_same, by simp, by simp⟩
        · repeat walk_at "go"
          refine hN _ _ ⟨p2, ms, rfl, s2.trans (Same.new n3), by walk_at "hp", ?_, lm⟩
          rintro rfl
          simp at h
      · rintro σ' H' ⟨c, ms, rfl, sH, hc, hne, lm⟩
        have hl : 0 < ms.length := List.length_pos_iff.mpr hne
        obtain ⟨m, _, hm⟩ := mod_at (c := i) hne
        have e1 := Int.emod_nonneg i (b := ((ms.map V.int).length : Int)) (by rw [List.length_map]; omega)
        have e2 := Int.emod_lt_of_pos i (b := ((ms.map V.int).length : Int)) (by rw [List.length_map]; omega)
        obtain ⟨ms', em, en, el⟩ := rot (ms := ms) e1 (by rw [List.length_map] at e2 ⊢; exact e2)
        repeat walk_at "go"
        refine rd_dec (fun h => ?_) (fun h => ?_)
        · repeat walk_at "go"
          refine rd_dec (fun h => ?_) (fun h => ?_)
          all_goals
            repeat walk_at "go"
            refine rd_slL (SqL.of hc) ?_
            intro p5 n5
            repeat walk_at "go"
            refine rd_slL (SqL.of (by walk_at "hp")) ?_
            intro p6 n6
            repeat walk_at "go"
            refine rd_addL (by walk_at "hp") (by walk_at "hp") (sz_le (by have := cutV_length (ms.map V.int) (some (i % ((ms.map V.int).length : Int))) none; have := cutV_length (ms.map V.int) none (some (i % ((ms.map V.int).length : Int))); simp only [List.length_map] at *; omega)) ?_
            intro p7 n7
            repeat walk_at "go"
            rw [em]
            repeat walk_at "go"
            intro p8 n8
            repeat walk_at "go"
            have s8 := ((Same.new (o := .lst (cutV (ms.map V.int) (some (i % ((ms.map V.int).length : Int))) none)) n5).trans (Same.new (o := .lst (cutV (ms.map V.int) none (some (i % ((ms.map V.int).length : Int))))) n6)).trans (Same.new (o := .lst (ms'.map V.int)) n7)
            refine k _ _ (sH.trans (s8.trans (Same.new n8))) ((sH.trans s8).free n8) ⟨⟨_, _, _, ms', upd_same, by walk_at "hp", en, ?_⟩⟩
            exact ne_none n8 upd_same
        · repeat walk_at "go"
          refine rd_slL (SqL.of hc) ?_
          intro p5 n5
          repeat walk_at "go"
          refine rd_slL (SqL.of (by walk_at "hp")) ?_
          intro p6 n6
          repeat walk_at "go"
          refine rd_addL (by walk_at "hp") (by walk_at "hp") (sz_le (by have := cutV_length (ms.map V.int) (some (i % ((ms.map V.int).length : Int))) none; have := cutV_length (ms.map V.int) none (some (i % ((ms.map V.int).length : Int))); simp only [List.length_map] at *; omega)) ?_
          intro p7 n7
          repeat walk_at "go"
          rw [em]
          repeat walk_at "go"
          intro p8 n8
          repeat walk_at "go"
          have s8 := ((Same.new (o := .lst (cutV (ms.map V.int) (some (i % ((ms.map V.int).length : Int))) none)) n5).trans (Same.new (o := .lst (cutV (ms.map V.int) none (some (i % ((ms.map V.int).length : Int))))) n6)).trans (Same.new (o := .lst (ms'.map V.int)) n7)
          refine k _ _ (sH.trans (s8.trans (Same.new n8))) ((sH.trans s8).free n8) ⟨⟨_, _, _, ms', upd_same, by walk_at "hp", en, ?_⟩⟩
          exact ne_none n8 upd_same
def sp__law_draw (K : PySem.W.Frag) : Sp := fun vs H Q _ => ∃ (p : Addr) (n : Int), vs = [.ref p, .int n] ∧ HandAt H p ∧ 0 < n ∧ n < 1073741824 ∧
  ∀ (r : Int) H', 0 ≤ r → r < n → HandAt H' p → Keep p H H' → SameQ p H H' → Q (.int r) H'
set_option maxHeartbeats 40000000 in
theorem ok__law_draw {P : Program} {w : World} {K : PySem.W.Frag} {mg : Str → Option Value} {base : Heap} {a : Adr} (tx : Txt K mg a) : FnOk P w K mg base CX0 1 a.f__law_draw a.d__law_draw ["_law_hand", "_law_many"] (sp__law_draw K) := by
  refine tx.F__law_draw.ok sc__law_draw (fun vs H Q E h => ?_) (fun cdv A outer s H vs Q E hr h => ?_)
  · obtain ⟨p, n, rfl, _⟩ := h
    rfl
  · obtain ⟨p, n, rfl , hh, h0, h1, k⟩ := h
    have hu := hu9 hr
    refine L2.Q.root (L2.Q.pss_cons (L2.Q.ps_if (L2.Q.pt_cmpR op_gt (L2.Q.pe_ixK (K' := K) (L2.Q.pv 0) L2.Q.pe_int (fun _ _ => rfl)) L2.Q.pe_int (nomark _)) (L2.Q.pss_cons (L2.Q.ps_set (i := 2) sc__law_draw.nd rfl (Or.inl rfl) (L2.Q.pe_op op_mod (L2.Q.pe_ixK (K' := K) (L2.Q.pv 0) L2.Q.pe_int (fun _ _ => rfl)) (L2.Q.pv 1)))
      (L2.Q.pss_cons (L2.Q.ps_asg (L2.Q.pe_op op_fdiv (L2.Q.pe_ixK (K' := K) (L2.Q.pv 0) L2.Q.pe_int (fun _ _ => rfl)) (L2.Q.pv 1)) (L2.Q.pg_sub (L2.Q.pv 0) L2.Q.pe_int set_list))
      (L2.Q.pss_one (L2.Q.ps_ret (L2.Q.pv 2))))) L2.Q.pss_nil)
      (L2.Q.pss_cons (L2.Q.ps_augS (L2.Q.pv 0) L2.Q.pe_int get_ix L2.Q.pe_int ip_add set_list)
      (L2.Q.pss_cons (L2.Q.ps_set (i := 3) sc__law_draw.nd rfl (Or.inl rfl) (L2.Q.pe_op op_mod (L2.Q.pe_ixK (K' := K) (L2.Q.pe_ixK (K' := K) (L2.Q.pv 0) L2.Q.pe_int (fun _ _ => rfl)) (L2.Q.pe_op op_mod (L2.Q.pe_ixK (K' := K) (L2.Q.pv 0) L2.Q.pe_int (fun _ _ => rfl)) (L2.Q.pe_callBN (rc := rLen K) call_lenG (by rfl) tx.z_len bt_len (L2.Q.pa_c (L2.Q.pe_ixK (K' := K) (L2.Q.pv 0) L2.Q.pe_int (fun _ _ => rfl)) L2.Q.pa_nil))) (fun _ _ => rfl)) L2.Q.pe_int))
      (L2.Q.pss_cons (L2.Q.ps_set (i := 4) sc__law_draw.nd rfl (Or.inl rfl) (L2.Q.pe_op op_mod (L2.Q.pe_op op_addG (L2.Q.pe_op op_addG (L2.Q.pe_op op_mulG (L2.Q.pv 3) L2.Q.pe_int) (L2.Q.pe_op op_mulG (L2.Q.pe_ixK (K' := K) (L2.Q.pv 0) L2.Q.pe_int (fun _ _ => rfl)) L2.Q.pe_int)) L2.Q.pe_int) L2.Q.pe_int))
      (L2.Q.pss_cons (L2.Q.ps_set (i := 4) sc__law_draw.nd rfl (Or.inl rfl) (L2.Q.pe_op op_mod (L2.Q.pe_op op_addG (L2.Q.pe_op op_mulG (L2.Q.pv 4) (L2.Q.pv 4)) (L2.Q.pe_ixK (K' := K) (L2.Q.pv 0) L2.Q.pe_int (fun _ _ => rfl))) L2.Q.pe_int))
      (L2.Q.pss_cons (L2.Q.ps_set (i := 4) sc__law_draw.nd rfl (Or.inl rfl) (L2.Q.pe_op op_mod (L2.Q.pe_op op_addG (L2.Q.pe_op op_mulG (L2.Q.pv 4) L2.Q.pe_int) L2.Q.pe_int) L2.Q.pe_int))
      (L2.Q.pss_one (L2.Q.ps_ret (L2.Q.pe_op op_mod (L2.Q.pe_op op_fdiv (L2.Q.pe_op op_mod (L2.Q.pe_op op_mulG (L2.Q.pv 4) (L2.Q.pv 4)) L2.Q.pe_int) L2.Q.pe_int) (L2.Q.pv 1)))))))))) ?_
    obtain ⟨d, c, q, ms, hp, hq, hne, hqp⟩ := hh.ex
    refine rd_start (σ := [some (.ref p), some (.int n), none, none, none]) rfl ?_
    repeat walk_at "go"
    refine rd_dec (fun hd => ?_) (fun hd => ?_)
    · repeat walk_at "go"
      refine rd_setL hp rfl ?_
      repeat walk_at "go"
      refine k _ _ (Int.emod_nonneg _ (by omega)) (Int.emod_lt_of_pos _ h0) ⟨⟨_, c, q, ms, upd_same, by walk_at "hp", hne, hqp⟩⟩ Keep.upd (fun d0 c0 q0 e0 => by rw [hp] at e0; cases e0; exact ⟨_, _, upd_same⟩)
    · repeat walk_at "go"
      refine rd_gIx (SqL.of hp) (by decide) rfl ?_
      repeat walk_at "go"
      refine rd_setL hp rfl ?_
      obtain ⟨m, _, hm⟩ := mod_at (c := c + 1) hne
      have hlen : 0 < ((ms.map V.int).length : Int) := by rw [List.length_map]; have := List.length_pos_iff.mpr hne; omega
      repeat walk_at "go"
      have hq' : (upd H p (.lst [.int d, .int (c + 1), .ref q])) q = some (.lst (ms.map V.int)) := by walk_at "hp"
      repeat walk_at "go"
      exact k _ _ (Int.emod_nonneg _ (by omega)) (Int.emod_lt_of_pos _ h0) ⟨⟨d, c + 1, q, ms, upd_same, hq', hne, hqp⟩⟩ Keep.upd (fun d0 c0 q0 e0 => by rw [hp] at e0; cases e0; exact ⟨_, _, upd_same⟩)
structure MS where
  up : Int
  down : Int
  begin_ : Int
  run : Int
  rest : Int
  least : Int
  pieces : List (Int × Int)
def Am (i : Int) : Prop := 0 ≤ i ∧ i ≤ 1000000000000
structure PcGood (ps : List (Int × Int)) : Prop where
  len : ps.length ≤ 4
  pc : ∀ t ∈ ps, 1 ≤ t.1 ∧ Am t.1 ∧ Am t.2
  up : ∀ (j : Nat) t u, ps[j]? = some t → ps[j + 1]? = some u → t.2 ≤ u.2
structure MS.Good (m : MS) : Prop where
  up : 1 ≤ m.up ∧ m.up ≤ 12
  down : 1 ≤ m.down ∧ m.down ≤ 12
  begin_ : Am m.begin_
  run : Am m.run
  rest : Am m.rest
  least : Am m.least
  pieces : PcGood m.pieces
structure Tup2 (H : Hp) (qs : List Addr) (ps : List (Int × Int)) : Prop where
  len : qs.length = ps.length
  at_ : ∀ (j : Nat) q t, qs[j]? = some q → ps[j]? = some t → H q = some (.tup [.int t.1, .int t.2])
structure PcAt (H : Hp) (p : Addr) (ps : List (Int × Int)) : Prop where
  ex : ∃ qs, H p = some (.lst (qs.map V.ref)) ∧ Tup2 H qs ps
structure SpecAt (H : Hp) (s : Addr) (m : MS) : Prop where
  ex : ∃ pl, H s = some (.lst [.int m.up, .int m.down, .int m.begin_, .int m.run, .int m.rest, .int m.least, .ref pl]) ∧ PcAt H pl m.pieces
def mFs (m : MS) (pl : Addr) : List (Str × V) := [("up", .int m.up), ("down", .int m.down), ("begin", .int m.begin_), ("run", .int m.run), ("rest", .int m.rest), ("least", .int m.least), ("pieces", .ref pl)]
structure MachAt (C : Addr) (H : Hp) (a : Addr) (m : MS) : Prop where
  ex : ∃ dx pl, H a = some (.ins C dx (mFs m pl)) ∧ PcAt H pl m.pieces
theorem Tup2.at2 {H : Hp} {qs : List Addr} {ps : List (Int × Int)} (h : Tup2 H qs ps) {q : Addr} (hq : q ∈ qs) : ∃ t ∈ ps, H q = some (.tup [.int t.1, .int t.2]) := by
  obtain ⟨j, hj, rfl⟩ := List.getElem_of_mem hq
  have hj2 : j < ps.length := by rw [← h.len]; exact hj
  exact ⟨ps[j], List.getElem_mem hj2, h.at_ j _ _ (List.getElem?_eq_getElem hj) (List.getElem?_eq_getElem hj2)⟩
theorem Tup2.same {H H' : Hp} {qs : List Addr} {ps : List (Int × Int)} (h : Tup2 H qs ps) (s : Same H H') : Tup2 H' qs ps := ⟨h.len, fun j q t h1 h2 => s _ _ (h.at_ j q t h1 h2)⟩
theorem PcAt.same {H H' : Hp} {p : Addr} {ps : List (Int × Int)} (h : PcAt H p ps) (s : Same H H') : PcAt H' p ps := by
  obtain ⟨qs, h1, h2⟩ := h.ex
  exact ⟨qs, s _ _ h1, h2.same s⟩
theorem SpecAt.same {H H' : Hp} {p : Addr} {m : MS} (h : SpecAt H p m) (s : Same H H') : SpecAt H' p m := by
  obtain ⟨pl, h1, h2⟩ := h.ex
  exact ⟨pl, s _ _ h1, h2.same s⟩
theorem MachAt.same {C : Addr} {H H' : Hp} {p : Addr} {m : MS} (h : MachAt C H p m) (s : Same H H') : MachAt C H' p m := by
  obtain ⟨dx, pl, h1, h2⟩ := h.ex
  exact ⟨dx, pl, s _ _ h1, h2.same s⟩
theorem Tup2.keep {H H' : Hp} {qs : List Addr} {ps : List (Int × Int)} {p : Addr} (h : Tup2 H qs ps) (hp : ∀ xs, H p ≠ some (.tup xs)) (s : Keep p H H') : Tup2 H' qs ps :=
  ⟨h.len, fun j q t h1 h2 => by
    have e := h.at_ j q t h1 h2
    exact s _ _ e (fun z => hp _ (z ▸ e))⟩
theorem HandAt.ntup {H : Hp} {p : Addr} (h : HandAt H p) (xs : List V) : H p ≠ some (.tup xs) := fun z => by
  obtain ⟨d, c, q, ms, hp, _⟩ := h.ex
  rw [hp] at z
  cases z
theorem PcAt.keep {H H' : Hp} {a p : Addr} {ps : List (Int × Int)} (h : PcAt H a ps) (hh : HandAt H p) (s : Keep p H H') : PcAt H' a ps := by
  obtain ⟨qs, h1, h2⟩ := h.ex
  obtain ⟨d, c, q, ms, hp, _⟩ := id hh.ex
  refine ⟨qs, s _ _ h1 (fun z => ?_), h2.keep hh.ntup s⟩
  rw [z, hp] at h1
  cases qs with
  | nil => cases h1
  | cons x xs => cases h1
theorem SpecAt.keep {H H' : Hp} {a p : Addr} {m : MS} (h : SpecAt H a m) (hh : HandAt H p) (s : Keep p H H') : SpecAt H' a m := by
  obtain ⟨pl, h1, h2⟩ := h.ex
  obtain ⟨d, c, q, ms, hp, _⟩ := id hh.ex
  refine ⟨pl, s _ _ h1 (fun z => ?_), h2.keep hh s⟩
  rw [z, hp] at h1
  cases h1
theorem MachAt.keep {C : Addr} {H H' : Hp} {a p : Addr} {m : MS} (h : MachAt C H a m) (hh : HandAt H p) (s : Keep p H H') : MachAt C H' a m := by
  obtain ⟨dx, pl, h1, h2⟩ := h.ex
  obtain ⟨d, c, q, ms, hp, _⟩ := id hh.ex
  refine ⟨dx, pl, s _ _ h1 (fun z => ?_), h2.keep hh s⟩
  rw [z, hp] at h1
  cases h1
theorem amt_of {i : Int} (h : Am i) : amt (.int i) = true := by
  obtain ⟨h1, h2⟩ := h
  have h3 : i ≤ 10 ^ 12 := h2
  show (decide (0 ≤ i) && decide (i ≤ 10 ^ 12)) = true
  rw [decide_eq_true h1, decide_eq_true h3]
  rfl
def sp_is_whole (K : PySem.W.Frag) : Sp := fun vs H Q _ => ∃ v T, vs = [v] ∧ Th H v T ∧ Q (.bl (T == "int")) H
set_option maxHeartbeats 40000000 in
theorem ok_is_whole {P : Program} {w : World} {K : PySem.W.Frag} {mg : Str → Option Value} {base : Heap} {a : Adr} (tx : Txt K mg a) : FnOk P w K mg base CX0 1 a.f_is_whole a.d_is_whole ["thing"] (sp_is_whole K) := by
  refine tx.F_is_whole.ok sc_is_whole (fun vs H Q E h => ?_) (fun cdv A outer s H vs Q E hr h => ?_)
  · obtain ⟨v, T, rfl, _⟩ := h
    rfl
  · obtain ⟨v, T, rfl , ht, k⟩ := h
    have hu := hu9 hr
    refine L2.Q.root (L2.Q.pss_one (L2.Q.ps_ret (L2.Q.pe_and (L2.Q.pe_callBN (rc := rIsi K) call_isiG (by rfl) tx.z_isinstance bt_isinstance (L2.Q.pa_c (L2.Q.pv 0) (L2.Q.pa_c (L2.Q.pe_bltn (v := .ty "int") (by rfl) tx.z_int bt_int rfl) L2.Q.pa_nil))) (L2.Q.pe_one (L2.Q.pe_not (L2.Q.pe_callBN (rc := rIsi K) call_isiG (by rfl) tx.z_isinstance bt_isinstance (L2.Q.pa_c (L2.Q.pv 0) (L2.Q.pa_c (L2.Q.pe_bltn (v := .ty "bool") (by rfl) tx.z_bool bt_bool rfl) L2.Q.pa_nil)))))))) ?_
    refine rd_start (σ := [some v]) rfl ?_
    repeat walk_at "go"
    refine rd_isi (isi_int ht) ?_
    repeat walk_at "go"
    refine rd_bool (fun h => ?_) (fun h => ?_)
    · repeat walk_at "go"
      refine rd_isi (isi_bool ht) ?_
      repeat walk_at "go"
      have e : (!(T == "bool")) = (T == "int") := by cases ht <;> first | rfl | cases h
      rw [e]
      exact k
    · have e : (T == "int") = false := by cases ht <;> first | rfl | cases h
      rw [e] at k
      exact k
def sp_is_amount (K : PySem.W.Frag) : Sp := fun vs H Q _ => ∃ v T, vs = [v] ∧ Th H v T ∧ Q (.bl (amt v)) H
set_option maxHeartbeats 40000000 in
theorem ok_is_amount {P : Program} {w : World} {K : PySem.W.Frag} {mg : Str → Option Value} {base : Heap} {a : Adr} (tx : Txt K mg a) : FnOk P w K mg base CX0 2 a.f_is_amount a.d_is_amount ["thing"] (sp_is_amount K) := by
  have G_is_whole := ok_is_whole (P := P) (w := w) (base := base) tx
  refine tx.F_is_amount.ok sc_is_amount (fun vs H Q E h => ?_) (fun cdv A outer s H vs Q E hr h => ?_)
  · obtain ⟨v, T, rfl, _⟩ := h
    rfl
  · obtain ⟨v, T, rfl , ht, k⟩ := h
    have hu := hu9 hr
    refine L2.Q.root (L2.Q.pss_one (L2.Q.ps_ret (L2.Q.pe_and (L2.Q.pe_callN (G_is_whole) (hr.mono (by decide)) (by rfl) tx.g_is_whole tx.F_is_whole.kp tx.b_is_whole .nil pass0 (L2.Q.pa_c (L2.Q.pv 0) L2.Q.pa_nil)) (L2.Q.pe_one (L2.Q.pe_chain op_le op_le L2.Q.pe_int (L2.Q.pv 0) (L2.Q.pe_op op_pow L2.Q.pe_int L2.Q.pe_int)))))) ?_
    refine rd_start (σ := [some v]) rfl ?_
    repeat walk_at "go"
    refine ⟨v, T, rfl, ht, ?_⟩
    repeat walk_at "go"
    refine rd_bool (fun h => ?_) (fun h => ?_)
    · cases ht with
      | int i =>
        repeat walk_at "go"
        refine rd_dec (fun h1 => ?_) (fun h1 => ?_)
        · repeat walk_at "go"
          have e : amt (.int i) = decide (i ≤ 10 ^ (12 : Int).toNat) := by simp [amt, h1]
          rw [← e]
          exact k
        · have e : amt (.int i) = false := by simp [amt, h1]
          rw [e] at k
          exact k
      | _ => cases h
    · have e : amt v = false := by cases ht <;> first | rfl | cases h
      rw [e] at k
      exact k
def sp_is_span (K : PySem.W.Frag) : Sp := fun vs H Q _ => ∃ (i : Int), vs = [.int i] ∧ 1 ≤ i ∧ i ≤ 12 ∧ Q (.bl true) H
set_option maxHeartbeats 40000000 in
theorem ok_is_span {P : Program} {w : World} {K : PySem.W.Frag} {mg : Str → Option Value} {base : Heap} {a : Adr} (tx : Txt K mg a) : FnOk P w K mg base CX0 2 a.f_is_span a.d_is_span ["thing"] (sp_is_span K) := by
  have G_is_whole := ok_is_whole (P := P) (w := w) (base := base) tx
  refine tx.F_is_span.ok sc_is_span (fun vs H Q E h => ?_) (fun cdv A outer s H vs Q E hr h => ?_)
  · obtain ⟨i, rfl, _⟩ := h
    rfl
  · obtain ⟨i, rfl , h1, h2, k⟩ := h
    have hu := hu9 hr
    refine L2.Q.root (L2.Q.pss_one (L2.Q.ps_ret (L2.Q.pe_and (L2.Q.pe_callN (G_is_whole) (hr.mono (by decide)) (by rfl) tx.g_is_whole tx.F_is_whole.kp tx.b_is_whole .nil pass0 (L2.Q.pa_c (L2.Q.pv 0) L2.Q.pa_nil)) (L2.Q.pe_one (L2.Q.pe_chain op_le op_le L2.Q.pe_int (L2.Q.pv 0) (L2.Q.pe_gint (n := 12) (by rfl) tx.v_LONGEST_STINT)))))) ?_
    refine rd_start (σ := [some (.int i)]) rfl ?_
    repeat walk_at "go"
    refine ⟨_, _, rfl, .int i, ?_⟩
    repeat walk_at "go"
    refine rd_bool (fun _ => ?_) (fun h => by simp at h)
    repeat walk_at "go"
    refine rd_dec (fun _ => ?_) (fun h => absurd h1 h)
    repeat walk_at "go"
    rw [decide_eq_true h2]
    exact k
def sp_is_piece (K : PySem.W.Frag) : Sp := fun vs H Q _ => ∃ (q : Addr) (x y : Int), vs = [.ref q] ∧ H q = some (.tup [.int x, .int y]) ∧ 1 ≤ x ∧ Am x ∧ Am y ∧ Q (.bl true) H
set_option maxHeartbeats 40000000 in
theorem ok_is_piece {P : Program} {w : World} {K : PySem.W.Frag} {mg : Str → Option Value} {base : Heap} {a : Adr} (tx : Txt K mg a) : FnOk P w K mg base CX0 3 a.f_is_piece a.d_is_piece ["thing"] (sp_is_piece K) := by
  have G_is_amount := ok_is_amount (P := P) (w := w) (base := base) tx
  refine tx.F_is_piece.ok sc_is_piece (fun vs H Q E h => ?_) (fun cdv A outer s H vs Q E hr h => ?_)
  · obtain ⟨q, x, y, rfl, _⟩ := h
    rfl
  · obtain ⟨q, x, y, rfl , hq, h1, h2, h3, k⟩ := h
    have hu := hu9 hr
    refine L2.Q.root (L2.Q.pss_cons (L2.Q.ps_if (L2.Q.pw_pt (L2.Q.pw_or (L2.Q.pt_not (L2.Q.pt_val (L2.Q.pe_callBN (rc := rIsi K) call_isiG (by rfl) tx.z_isinstance bt_isinstance (L2.Q.pa_c (L2.Q.pv 0) (L2.Q.pa_c (L2.Q.pe_bltn (v := .ty "tuple") (by rfl) tx.z_tuple bt_tuple rfl) L2.Q.pa_nil))))) (L2.Q.pw_or1 (L2.Q.pt_cmpR (r := rNeG K) (op_neG hu) (L2.Q.pe_callBN (rc := rLen K) call_lenG (by rfl) tx.z_len bt_len (L2.Q.pa_c (L2.Q.pv 0) L2.Q.pa_nil)) L2.Q.pe_int (nomark _))))) (L2.Q.pss_one (L2.Q.ps_ret L2.Q.pe_bl)) L2.Q.pss_nil)
      (L2.Q.pss_one (L2.Q.ps_ret (L2.Q.pe_and (L2.Q.pe_callN (G_is_amount) (hr.mono (by decide)) (by rfl) tx.g_is_amount tx.F_is_amount.kp tx.b_is_amount .nil pass0 (L2.Q.pa_c (L2.Q.pe_ixK (K' := K) (L2.Q.pv 0) L2.Q.pe_int (fun _ _ => rfl)) L2.Q.pa_nil)) (L2.Q.pe_and (L2.Q.pe_cmpR op_ge (L2.Q.pe_ixK (K' := K) (L2.Q.pv 0) L2.Q.pe_int (fun _ _ => rfl)) L2.Q.pe_int (nomark _)) (L2.Q.pe_one (L2.Q.pe_callN (G_is_amount) (hr.mono (by decide)) (by rfl) tx.g_is_amount tx.F_is_amount.kp tx.b_is_amount .nil pass0 (L2.Q.pa_c (L2.Q.pe_ixK (K' := K) (L2.Q.pv 0) L2.Q.pe_int (fun _ _ => rfl)) L2.Q.pa_nil)))))))) ?_
    refine rd_start (σ := [some (.ref q)]) rfl ?_
    repeat walk_at "go"
    refine rd_isi (isi_tuple (.tup hq)) ?_
    repeat walk_at "go"
    refine rd_bool (fun h => by simp at h) (fun _ => ?_)
    repeat walk_at "go"
    refine rd_decN (fun h => absurd rfl h) (fun _ => ?_)
    repeat walk_at "go"
    refine ⟨_, _, rfl, .int x, ?_⟩
    rw [amt_of h2]
    repeat walk_at "go"
    refine rd_dec (fun _ => ?_) (fun h => absurd h1 h)
    repeat walk_at "go"
    refine ⟨_, _, rfl, .int y, ?_⟩
    rw [amt_of h3]
    exact k
def sp_are_pieces (K : PySem.W.Frag) : Sp := fun vs H Q _ => ∃ (p : Addr) (ps : List (Int × Int)), vs = [.ref p] ∧ PcAt H p ps ∧ PcGood ps ∧ ∀ H', Same H H' → Q (.bl true) H'
set_option maxHeartbeats 40000000 in
theorem ok_are_pieces {P : Program} {w : World} {K : PySem.W.Frag} {mg : Str → Option Value} {base : Heap} {a : Adr} (tx : Txt K mg a) : FnOk P w K mg base CX0 4 a.f_are_pieces a.d_are_pieces ["thing"] (sp_are_pieces K) := by
  have G_is_piece := ok_is_piece (P := P) (w := w) (base := base) tx
  refine tx.F_are_pieces.ok sc_are_pieces (fun vs H Q E h => ?_) (fun cdv A outer s H vs Q E hr h => ?_)
  · obtain ⟨p, ps, rfl, _⟩ := h
    rfl
  · obtain ⟨p, ps, rfl , hp, hg, k⟩ := h
    have hu := hu9 hr
    refine L2.Q.root (L2.Q.pss_cons (L2.Q.ps_if (L2.Q.pw_pt (L2.Q.pw_or (L2.Q.pt_not (L2.Q.pt_val (L2.Q.pe_callBN (rc := rIsi K) call_isiG (by rfl) tx.z_isinstance bt_isinstance (L2.Q.pa_c (L2.Q.pv 0) (L2.Q.pa_c (L2.Q.pe_bltn (v := .ty "list") (by rfl) tx.z_list bt_list rfl) L2.Q.pa_nil))))) (L2.Q.pw_or1 (L2.Q.pt_cmpR op_gt (L2.Q.pe_callBN (rc := rLen K) call_lenG (by rfl) tx.z_len bt_len (L2.Q.pa_c (L2.Q.pv 0) L2.Q.pa_nil)) (L2.Q.pe_gint (n := 4) (by rfl) tx.v_MOST_PIECES) (nomark _))))) (L2.Q.pss_one (L2.Q.ps_ret L2.Q.pe_bl)) L2.Q.pss_nil)
      (L2.Q.pss_cons (L2.Q.ps_if (L2.Q.pt_not (L2.Q.pt_val (L2.Q.pe_callBN (rc := rAll K) (call_allG rfl) (by rfl) tx.z_all bt_all (L2.Q.pa_c (L2.Q.pe_comp (k := 1) (idx := []) (N := ["piece"]) (blk_sc (sc := defScope s_are_pieces) (NX := ["thing"]) rfl rfl rfl (by decide +kernel)) rfl (L2.Q.pi_listK (K' := K) (L2.Q.pv 0)) (fun _ _ _ _ => (L2.Q.pg_name (i := 0) (show (["piece"] : List Str).Nodup by decide +kernel) rfl (Or.inl rfl))) (own_name (by decide)) (fun _ _ _ _ => L2.Q.pts_nil) (fun _ _ _ _ => (L2.Q.pe_callN (G_is_piece) (hr.mono (by decide)) (by rfl) tx.g_is_piece tx.F_is_piece.kp tx.b_is_piece .nil pass0 (L2.Q.pa_c (L2.Q.pv 0) L2.Q.pa_nil)))) L2.Q.pa_nil)))) (L2.Q.pss_one (L2.Q.ps_ret L2.Q.pe_bl)) L2.Q.pss_nil)
      (L2.Q.pss_one (L2.Q.ps_ret (L2.Q.pe_callBN (rc := rAll K) (call_allG rfl) (by rfl) tx.z_all bt_all (L2.Q.pa_c (L2.Q.pe_comp (k := 1) (idx := [0]) (N := ["at", "thing"]) (blk_sc (sc := defScope s_are_pieces) (NX := ["thing"]) rfl rfl rfl (by decide +kernel)) rfl (L2.Q.pi_range2N (by rfl) tx.z_range (L2.Q.pa_c L2.Q.pe_int (L2.Q.pa_c (L2.Q.pe_callBN (rc := rLen K) call_lenG (by rfl) tx.z_len bt_len (L2.Q.pa_c (L2.Q.pv 0) L2.Q.pa_nil)) L2.Q.pa_nil))) (fun _ _ _ _ => (L2.Q.pg_name (i := 0) (show (["at", "thing"] : List Str).Nodup by decide +kernel) rfl (Or.inl rfl))) (own_name (by decide)) (fun _ _ _ _ => L2.Q.pts_nil) (fun _ _ _ _ => (L2.Q.pe_cmpR op_le (L2.Q.pe_ixK (K' := K) (L2.Q.pe_ixK (K' := K) (L2.Q.pv 1) (L2.Q.pe_op op_sub (L2.Q.pv 0) L2.Q.pe_int) (fun _ _ => rfl)) L2.Q.pe_int (fun _ _ => rfl)) (L2.Q.pe_ixK (K' := K) (L2.Q.pe_ixK (K' := K) (L2.Q.pv 1) (L2.Q.pv 0) (fun _ _ => rfl)) L2.Q.pe_int (fun _ _ => rfl)) (nomark _)))) L2.Q.pa_nil)))))) ?_
    obtain ⟨qs, h1, h2⟩ := hp.ex
    have hl := hg.len
    have hql : qs.length ≤ 4 := by rw [h2.len]; exact hl
    refine rd_start (σ := [some (.ref p)]) rfl ?_
    repeat walk_at "go"
    refine rd_isi (isi_list (.lst h1)) ?_
    repeat walk_at "go"
    refine rd_bool (fun h => by simp at h) (fun _ => ?_)
    repeat walk_at "go"
    refine rd_dec (fun h => by rw [List.length_map] at h; omega) (fun _ => ?_)
    repeat walk_at "go"
    refine rd_li (SqL.of h1) ?_
    refine comp_pure (fun _ => .bl true) (SqL.of h1) (sz_le (by rw [List.length_map]; omega)) (fun x N N' hxm hN => ?_) ?_
    · obtain ⟨q, hq, rfl⟩ := List.mem_map.mp hxm
      obtain ⟨t, ht, e⟩ := h2.at2 hq
      obtain ⟨g1, g2, g3⟩ := hg.pc t ht
      repeat walk_at "go"
      exact ⟨q, t.1, t.2, rfl, e, g1, g2, g3, hN⟩
    · intro l1 n1
      repeat walk_at "go"
      refine rd_allT (SqL.of upd_same) (fun x hx => by obtain ⟨_, _, rfl⟩ := List.mem_map.mp hx; rfl) ?_
      repeat walk_at "go"
      have h1' := Same.new (o := .lst ((qs.map V.ref).map fun _ => V.bl true)) n1 _ _ h1
      have h2' := h2.same (Same.new (o := .lst ((qs.map V.ref).map fun _ => V.bl true)) n1)
      repeat walk_at "go"
      refine ⟨⟨by omega, by omega, by omega, by rw [List.length_map]; omega⟩, ?_⟩
      rw [List.length_map]
      refine comp_pureR (fun _ => .bl true) (sz_le (by omega)) (fun i N N' hi hN => ?_) ?_
      · have i1 : i < qs.length := by omega
        have i2 : i + 1 < qs.length := by omega
        have j1 : i < ps.length := by rw [← h2.len]; exact i1
        have j2 : i + 1 < ps.length := by rw [← h2.len]; exact i2
        have e1 : atI (qs.map V.ref) (1 + (i : Int) - 1) = some (.ref qs[i]) := by
          rw [show 1 + (i : Int) - 1 = (i : Int) by omega]
          exact atI_nat (by rw [List.getElem?_map, List.getElem?_eq_getElem i1]; rfl)
        have e2 : atI (qs.map V.ref) (1 + (i : Int)) = some (.ref qs[i + 1]) := by
          rw [show 1 + (i : Int) = ((i + 1 : Nat) : Int) by omega]
          exact atI_nat (by rw [List.getElem?_map, List.getElem?_eq_getElem i2]; rfl)
        have t1 := h2'.at_ i _ _ (List.getElem?_eq_getElem i1) (List.getElem?_eq_getElem j1)
        have t2 := h2'.at_ (i + 1) _ _ (List.getElem?_eq_getElem i2) (List.getElem?_eq_getElem j2)
        have t3 := hg.up i _ _ (List.getElem?_eq_getElem j1) (List.getElem?_eq_getElem j2)
        repeat walk_at "go"
        rw [decide_eq_true t3]
        exact hN
      · intro l2 n2
        repeat walk_at "go"
        refine rd_allT (SqL.of upd_same) (fun x hx => by obtain ⟨_, _, rfl⟩ := List.mem_map.mp hx; rfl) ?_
        exact k _ ((Same.new n1).trans (Same.new n2))
def sp_Machine_init (K : PySem.W.Frag) (C : Addr) : Sp := fun vs H Q _ => ∃ (x dx pl : Addr) (m : MS), vs = [.ref x, .int m.up, .int m.down, .int m.begin_, .int m.run, .int m.rest, .int m.least, .ref pl] ∧ H x = some (.ins C dx []) ∧ PcAt H pl m.pieces ∧ m.Good ∧
  ∀ H', MachAt C H' x m → Keep x H H' → Q .non H'
set_option maxHeartbeats 40000000 in
theorem ok_Machine_init {P : Program} {w : World} {K : PySem.W.Frag} {mg : Str → Option Value} {base : Heap} {a : Adr} (tx : Txt K mg a) : FnOk P w K mg base CX0 5 a.f_Machine_init a.d_Machine_init ["self", "up", "down", "begin", "run", "rest", "least", "pieces"] (sp_Machine_init K a.c_Machine) := by
  have G_are_pieces := ok_are_pieces (P := P) (w := w) (base := base) tx
  have G_is_amount := ok_is_amount (P := P) (w := w) (base := base) tx
  have G_is_span := ok_is_span (P := P) (w := w) (base := base) tx
  refine tx.F_Machine_init.ok sc_Machine_init (fun vs H Q E h => ?_) (fun cdv A outer s H vs Q E hr h => ?_)
  · obtain ⟨x, dx, pl, m, rfl, _⟩ := h
    rfl
  · obtain ⟨x, dx, pl, m, rfl , hx, hp, hg, k⟩ := h
    have hu := hu9 hr
    refine L2.Q.root (L2.Q.pss_cons (L2.Q.ps_set (i := 8) sc_Machine_init.nd rfl (Or.inl rfl) (L2.Q.lst2 (L2.Q.pe_callN (G_is_span) (hr.mono (by decide)) (by rfl) tx.g_is_span tx.F_is_span.kp tx.b_is_span .nil pass0 (L2.Q.pa_c (L2.Q.pv 1) L2.Q.pa_nil)) (L2.Q.pe_callN (G_is_span) (hr.mono (by decide)) (by rfl) tx.g_is_span tx.F_is_span.kp tx.b_is_span .nil pass0 (L2.Q.pa_c (L2.Q.pv 2) L2.Q.pa_nil))))
      (L2.Q.pss_cons (L2.Q.ps_set (i := 9) sc_Machine_init.nd rfl (Or.inl rfl) (L2.Q.lst4 (L2.Q.pe_callN (G_is_amount) (hr.mono (by decide)) (by rfl) tx.g_is_amount tx.F_is_amount.kp tx.b_is_amount .nil pass0 (L2.Q.pa_c (L2.Q.pv 3) L2.Q.pa_nil)) (L2.Q.pe_callN (G_is_amount) (hr.mono (by decide)) (by rfl) tx.g_is_amount tx.F_is_amount.kp tx.b_is_amount .nil pass0 (L2.Q.pa_c (L2.Q.pv 4) L2.Q.pa_nil)) (L2.Q.pe_callN (G_is_amount) (hr.mono (by decide)) (by rfl) tx.g_is_amount tx.F_is_amount.kp tx.b_is_amount .nil pass0 (L2.Q.pa_c (L2.Q.pv 5) L2.Q.pa_nil)) (L2.Q.pe_callN (G_is_amount) (hr.mono (by decide)) (by rfl) tx.g_is_amount tx.F_is_amount.kp tx.b_is_amount .nil pass0 (L2.Q.pa_c (L2.Q.pv 6) L2.Q.pa_nil))))
      (L2.Q.pss_cons (L2.Q.ps_for PassesOwn.never rfl (L2.Q.pi_enumK (K' := K) (by rfl) tx.z_enumerate (L2.Q.pa_c (L2.Q.pe_op op_addG (L2.Q.pe_op op_addG (L2.Q.pv 8) (L2.Q.pv 9)) (L2.Q.lst1 (L2.Q.pe_callN (G_are_pieces) (hr.mono (by decide)) (by rfl) tx.g_are_pieces tx.F_are_pieces.kp tx.b_are_pieces .nil pass0 (L2.Q.pa_c (L2.Q.pv 7) L2.Q.pa_nil)))) L2.Q.pa_nil)) (L2.Q.pg_tupK (K' := K) (n := 2) rfl (L2.Q.pgs_cons (L2.Q.pg_name (i := 10) sc_Machine_init.nd rfl (Or.inl rfl)) (L2.Q.pgs_cons (L2.Q.pg_name (i := 11) sc_Machine_init.nd rfl (Or.inl rfl)) L2.Q.pgs_nil))) (L2.Q.pss_one (L2.Q.ps_if (L2.Q.pt_not (L2.Q.pt_val (L2.Q.pv 11))) (L2.Q.pss_one L2.Q.ps_never) L2.Q.pss_nil)))
      (L2.Q.pss_cons (L2.Q.ps_fldK (K' := K) (L2.Q.pv 0) (L2.Q.pv 1) rfl)
      (L2.Q.pss_cons (L2.Q.ps_fldK (K' := K) (L2.Q.pv 0) (L2.Q.pv 2) rfl)
      (L2.Q.pss_cons (L2.Q.ps_fldK (K' := K) (L2.Q.pv 0) (L2.Q.pv 3) rfl)
      (L2.Q.pss_cons (L2.Q.ps_fldK (K' := K) (L2.Q.pv 0) (L2.Q.pv 4) rfl)
      (L2.Q.pss_cons (L2.Q.ps_fldK (K' := K) (L2.Q.pv 0) (L2.Q.pv 5) rfl)
      (L2.Q.pss_cons (L2.Q.ps_fldK (K' := K) (L2.Q.pv 0) (L2.Q.pv 6) rfl)
      (L2.Q.pss_one (L2.Q.ps_fldK (K' := K) (L2.Q.pv 0) (L2.Q.pe_callTyN (rc := rListOf K) call_listG (by rfl) tx.z_list bt_list (L2.Q.pa_c (L2.Q.pv 7) L2.Q.pa_nil)) rfl))))))))))) ?_
    refine rd_start (σ := [some (.ref x), some (.int m.up), some (.int m.down), some (.int m.begin_), some (.int m.run), some (.int m.rest), some (.int m.least), some (.ref pl), none, none, none, none]) rfl ?_
    repeat walk_at "go"
    refine ⟨_, rfl, hg.up.1, hg.up.2, ?_⟩
    repeat walk_at "go"
    refine ⟨_, rfl, hg.down.1, hg.down.2, ?_⟩
    repeat walk_at "go"
    intro l1 n1
    repeat walk_at "go"
    refine ⟨_, _, rfl, .int _, ?_⟩
    rw [amt_of hg.begin_]
    repeat walk_at "go"
    refine ⟨_, _, rfl, .int _, ?_⟩
    rw [amt_of hg.run]
    repeat walk_at "go"
    refine ⟨_, _, rfl, .int _, ?_⟩
    rw [amt_of hg.rest]
    repeat walk_at "go"
    refine ⟨_, _, rfl, .int _, ?_⟩
    rw [amt_of hg.least]
    repeat walk_at "go"
    intro l2 n2
    repeat walk_at "go"
    refine rd_addL (xs := [.bl true, .bl true]) (zs := [.bl true, .bl true, .bl true, .bl true]) (by walk_at "hp") upd_same (sz_le (by simp)) ?_
    intro l3 n3
    repeat walk_at "go"
    have s3 : Same H (upd (upd (upd H l1 (.lst [.bl true, .bl true])) l2 (.lst [.bl true, .bl true, .bl true, .bl true])) l3 (.lst ([.bl true, .bl true] ++ [.bl true, .bl true, .bl true, .bl true]))) := ((Same.new n1).trans (Same.new n2)).trans (Same.new n3)
    refine ⟨pl, m.pieces, rfl, hp.same s3, hg.pieces, fun H4 s4 => ?_⟩
    repeat walk_at "go"
    intro l5 n5
    repeat walk_at "go"
    refine rd_addL (xs := [.bl true, .bl true] ++ [.bl true, .bl true, .bl true, .bl true]) (zs := [.bl true]) (Same.new n5 _ _ (s4 _ _ upd_same)) upd_same (sz_le (by simp)) ?_
    intro l6 n6
    repeat walk_at "go"
    have s6 : Same H (upd (upd H4 l5 (.lst [.bl true])) l6 (.lst (([.bl true, .bl true] ++ [.bl true, .bl true, .bl true, .bl true]) ++ [.bl true]))) := (s3.trans s4).trans ((Same.new n5).trans (Same.new n6))
    generalize hH6 : upd (upd H4 l5 (.lst [.bl true])) l6 (.lst (([.bl true, .bl true] ++ [.bl true, .bl true, .bl true, .bl true]) ++ [.bl true])) = H6 at s6 ⊢
    have e6 : H6 l6 = some (.lst [.bl true, .bl true, .bl true, .bl true, .bl true, .bl true, .bl true]) := by rw [← hH6, upd_same]; rfl
    refine rd_en (SqL.of e6) ?_
    refine rf_enum (xs := [.bl true, .bl true, .bl true, .bl true, .bl true, .bl true, .bl true]) (fun i σ' H' => ∃ y z, σ' = [some (.ref x), some (.int m.up), some (.int m.down), some (.int m.begin_), some (.int m.run), some (.int m.rest), some (.int m.least), some (.ref pl), some (.ref l1), some (.ref l2), y, z] ∧ Same H6 H')
      ⟨_, _, rfl, Same.refl _⟩ (fun i σ' H' hi ⟨y, z, e, s⟩ => SqL.of (s _ _ e6)) (fun i v σ' H' T hv ⟨y, z, e, s⟩ nT => ?_) (fun σ' H' ⟨y, z, e, s⟩ => ?_)
    · subst e
      have ev : v = .bl true := by
        have := List.mem_of_getElem? hv
        simpa using this
      subst ev
      refine rd_gtup (SqT.of upd_same) rfl ?_
      repeat walk_at "go"
      exact ⟨_, _, rfl, s.trans (Same.new nT)⟩
    · subst e
      have sH : Same H H' := s6.trans s
      have hx' := sH _ _ hx
      have hp' := hp.same sH
      obtain ⟨qs, p1, p2⟩ := hp'.ex
      repeat walk_at "go"
      refine rd_put (fs' := [("up", .int m.up)]) hx' tx.C_Machine tx.n_Machine_up (by simp [mFs]) rfl ?_
      repeat walk_at "go"
      refine rd_put (fs' := [("up", .int m.up), ("down", .int m.down)]) upd_same tx.C_Machine tx.n_Machine_down (by simp [mFs]) rfl ?_
      rw [upd_upd]
      repeat walk_at "go"
      refine rd_put (fs' := [("up", .int m.up), ("down", .int m.down), ("begin", .int m.begin_)]) upd_same tx.C_Machine tx.n_Machine_begin (by simp [mFs]) rfl ?_
      rw [upd_upd]
      repeat walk_at "go"
      refine rd_put (fs' := [("up", .int m.up), ("down", .int m.down), ("begin", .int m.begin_), ("run", .int m.run)]) upd_same tx.C_Machine tx.n_Machine_run (by simp [mFs]) rfl ?_
      rw [upd_upd]
      repeat walk_at "go"
      refine rd_put (fs' := [("up", .int m.up), ("down", .int m.down), ("begin", .int m.begin_), ("run", .int m.run), ("rest", .int m.rest)]) upd_same tx.C_Machine tx.n_Machine_rest (by simp [mFs]) rfl ?_
      rw [upd_upd]
      repeat walk_at "go"
      refine rd_put (fs' := [("up", .int m.up), ("down", .int m.down), ("begin", .int m.begin_), ("run", .int m.run), ("rest", .int m.rest), ("least", .int m.least)]) upd_same tx.C_Machine tx.n_Machine_least (by simp [mFs]) rfl ?_
      rw [upd_upd]
      repeat walk_at "go"
      have px : pl ≠ x := fun z => by rw [z, hx'] at p1; cases p1
      refine rd_listL (ys := qs.map V.ref) (SqL.of (by rw [upd_ne px]; exact p1)) ?_
      intro l9 n9
      repeat walk_at "go"
      have x9 : x ≠ l9 := ne_none n9 upd_same
      repeat walk_at "go"
      refine rd_put (fs' := mFs m l9) (by rw [upd_ne x9]; exact upd_same) tx.C_Machine tx.n_Machine_pieces (by simp [mFs]) rfl ?_
      repeat walk_at "go"
      refine k _ ⟨dx, l9, upd_same, qs, ?_, p2.len, fun j q t h1 h2 => ?_⟩ (fun b o e nb => ?_)
      · rw [upd_ne (Ne.symm x9), upd_same]
      · have e := p2.at_ j q t h1 h2
        have qx : q ≠ x := fun z => by rw [z, hx'] at e; cases e
        have q9 : q ≠ l9 := ne_none n9 (by rw [upd_ne qx]; exact e)
        rw [upd_ne qx, upd_ne q9, upd_ne qx]
        exact e
      · have e1 := sH _ _ e
        have b9 : b ≠ l9 := ne_none n9 (by rw [upd_ne nb]; exact e1)
        rw [upd_ne nb, upd_ne b9, upd_ne nb]
        exact e1
structure PcW (ps : List (Int × Int)) (r : Int) : Prop where
  pc : ∀ t ∈ ps, 1 ≤ t.1 ∧ Am t.1 ∧ Am t.2
  up : ∀ (j : Nat) t u, ps[j]? = some t → ps[j + 1]? = some u → t.2 ≤ u.2
  top : ∀ t ∈ ps, t.2 ≤ r
theorem PcW.nil {r : Int} : PcW [] r := ⟨fun _ h => by simp at h, fun j t u h => by simp at h, fun _ h => by simp at h⟩
theorem PcW.snoc {ps : List (Int × Int)} {r r' a : Int} (w : PcW ps r) (hr : r ≤ r') (h1 : 1 ≤ a) (h2 : Am a) (h3 : Am r') : PcW (ps ++ [(a, r')]) r' := by
  refine ⟨fun t h => ?_, fun j t u ht hu => ?_, fun t h => ?_⟩
  · rcases List.mem_append.mp h with h | h
    · exact w.pc t h
    · rw [List.mem_singleton.mp h]; exact ⟨h1, h2, h3⟩
  · have hj2 : j + 1 < (ps ++ [(a, r')]).length := (List.getElem?_eq_some_iff.mp hu).1
    rw [List.length_append, List.length_singleton] at hj2
    have hj : j < ps.length := by omega
    rw [List.getElem?_append_left hj] at ht
    by_cases hj3 : j + 1 < ps.length
    · rw [List.getElem?_append_left hj3] at hu
      exact w.up j t u ht hu
    · rw [List.getElem?_append_right (by omega), show j + 1 - ps.length = 0 by omega] at hu
      cases hu
      exact Int.le_trans (w.top t (List.mem_of_getElem? ht)) hr
  · rcases List.mem_append.mp h with h | h
    · exact Int.le_trans (w.top t h) hr
    · rw [List.mem_singleton.mp h]; exact Int.le_refl _
theorem Tup2.snoc {H H3 : Hp} {qs : List Addr} {ss : List (Int × Int)} {l T : Addr} {xs : List V} {t : Int × Int} (h : Tup2 H qs ss) (hl : H l = some (.lst xs)) (k : Keep l H H3) (hT : H3 T = some (.tup [.int t.1, .int t.2])) : Tup2 H3 (qs ++ [T]) (ss ++ [t]) := by
  refine ⟨by rw [List.length_append, List.length_append, h.len]; rfl, fun j q u hq hu => ?_⟩
  by_cases hj : j < qs.length
  · rw [List.getElem?_append_left hj] at hq
    rw [List.getElem?_append_left (by rw [← h.len]; exact hj)] at hu
    have e := h.at_ j q u hq hu
    refine k q _ e fun z => ?_
    rw [z, hl] at e
    cases e
  · have hj2 : j < (qs ++ [T]).length := (List.getElem?_eq_some_iff.mp hq).1
    rw [List.length_append, List.length_singleton] at hj2
    have e : j = qs.length := by omega
    subst e
    rw [List.getElem?_append_right (Nat.le_refl _), Nat.sub_self] at hq
    rw [h.len, List.getElem?_append_right (Nat.le_refl _), Nat.sub_self] at hu
    cases hq
    cases hu
    exact hT
theorem HandAt.nrefs {H : Hp} {p c : Addr} {qs : List Addr} (h : HandAt H p) (e : H c = some (.lst (qs.map V.ref))) : c ≠ p := fun z => by
  obtain ⟨d, cc, q, ms, hp, _⟩ := h.ex
  rw [z, hp] at e
  cases qs with
  | nil => cases e
  | cons x xs => cases e
theorem HandAt.nlen {H : Hp} {p c : Addr} {xs : List V} (h : HandAt H p) (e : H c = some (.lst xs)) (hl : xs.length ≠ 3) : c ≠ p := fun z => by
  obtain ⟨d, cc, q, ms, hp, _⟩ := h.ex
  rw [z, hp] at e
  cases e
  exact hl rfl
theorem HandAt.isL {H : Hp} {p : Addr} (h : HandAt H p) : ∃ xs, H p = some (.lst xs) := by
  obtain ⟨d, cc, q, ms, hp, _⟩ := h.ex
  exact ⟨_, hp⟩
theorem fresh_of {H H' : Hp} {p c : Addr} (k : Keep p H H') (hh : HandAt H' p) (n : H' c = none) : H c = none := by
  cases hc : H c with
  | none => rfl
  | some v =>
    obtain ⟨xs, e⟩ := hh.isL
    exact absurd rfl (ne_none n (k c v hc (fun z => ne_none n e z.symm)))
theorem mulB {x r n B : Int} (x0 : 1 ≤ x) (x1 : x ≤ 50000000000) (a : 0 ≤ r) (c : r < n) (h : 50000000000 * (n - 1) ≤ B) : 0 ≤ x * r ∧ x * r ≤ B :=
  ⟨Int.mul_nonneg (by omega) a, Int.le_trans (Int.mul_le_mul x1 (show r ≤ n - 1 by omega) a (by omega)) h⟩
theorem mulB1 {x u n B : Int} (x0 : 1 ≤ x) (x1 : x ≤ 50000000000) (a : 0 ≤ u) (c : u < n) (h : 50000000000 * n ≤ B) : x ≤ x * (1 + u) ∧ x * (1 + u) ≤ B :=
  ⟨by have := Int.mul_le_mul_of_nonneg_left (show 1 ≤ 1 + u by omega) (show 0 ≤ x by omega); rw [Int.mul_one] at this; exact this, Int.le_trans (Int.mul_le_mul x1 (show 1 + u ≤ n by omega) (by omega) (by omega)) h⟩
theorem up1 {r n : Int} (a : 0 ≤ r) (c : r < n) (n1 : n ≤ 12) : (1 ≤ 1 + r ∧ 1 + r ≤ 12) ∧ 1 + r ≤ n := by omega
theorem amB {z : Int} (h : 0 ≤ z ∧ z ≤ 250000000000) : Am z := ⟨h.1, by have := h.2; omega⟩
theorem rtB {rate z : Int} {i : Nat} (f5 : 0 ≤ rate) (f6 : rate ≤ (i : Int) * 100000000000) (g : 0 ≤ z ∧ z ≤ 100000000000) (i4 : i ≤ 3) : rate ≤ rate + z ∧ Am (rate + z) ∧ 0 ≤ rate + z ∧ rate + z ≤ ((i + 1 : Nat) : Int) * 100000000000 := ⟨by omega, ⟨by omega, by omega⟩, by omega, by omega⟩
theorem xB {x z : Int} (x0 : 1 ≤ x) (g : x ≤ z ∧ z ≤ 150000000000) : 1 ≤ z ∧ Am z := ⟨by omega, ⟨by omega, by omega⟩⟩
def sp__law_spec (K : PySem.W.Frag) : Sp := fun vs H Q _ => ∃ (p b : Addr) (x y n : Int), vs = [.ref p, .ref b, .int n] ∧ HandAt H p ∧ H b = some (.lst [.int x, .int y]) ∧ 1 ≤ x ∧ x ≤ 50000000000 ∧ 1 ≤ y ∧ y ≤ 50000000000 ∧ 1 ≤ n ∧ n ≤ 12 ∧
  ∀ (s : Addr) (m : MS) H', SpecAt H' s m → m.Good → m.up ≤ n → m.down ≤ n → HandAt H' p → Keep p H H' → H s = none → Q (.ref s) H'
set_option maxHeartbeats 40000000 in
theorem ok__law_spec {P : Program} {w : World} {K : PySem.W.Frag} {mg : Str → Option Value} {base : Heap} {a : Adr} (tx : Txt K mg a) : FnOk P w K mg base CX0 2 a.f__law_spec a.d__law_spec ["_law_hand", "_law_by", "_law_longest"] (sp__law_spec K) := by
  have G__law_draw := ok__law_draw (P := P) (w := w) (base := base) tx
  refine tx.F__law_spec.ok sc__law_spec (fun vs H Q E h => ?_) (fun cdv A outer s H vs Q E hr h => ?_)
  · obtain ⟨p, b, x, y, n, rfl, _⟩ := h
    rfl
  · obtain ⟨p, b, x, y, n, rfl , hh, hb, x0, x1, y0, y1, n0, n1, k⟩ := h
    have hu := hu9 hr
    refine L2.Q.root (L2.Q.pss_cons (L2.Q.ps_set (i := 3) sc__law_spec.nd rfl (Or.inl rfl) (L2.Q.pe_op op_addG L2.Q.pe_int (L2.Q.pe_callN (G__law_draw) (hr.mono (by decide)) (by rfl) tx.g__law_draw tx.F__law_draw.kp tx.b__law_draw .nil pass0 (L2.Q.pa_c (L2.Q.pv 0) (L2.Q.pa_c (L2.Q.pv 2) L2.Q.pa_nil)))))
      (L2.Q.pss_cons (L2.Q.ps_set (i := 4) sc__law_spec.nd rfl (Or.inl rfl) (L2.Q.pe_op op_addG L2.Q.pe_int (L2.Q.pe_callN (G__law_draw) (hr.mono (by decide)) (by rfl) tx.g__law_draw tx.F__law_draw.kp tx.b__law_draw .nil pass0 (L2.Q.pa_c (L2.Q.pv 0) (L2.Q.pa_c (L2.Q.pv 2) L2.Q.pa_nil)))))
      (L2.Q.pss_cons (L2.Q.ps_set (i := 5) sc__law_spec.nd rfl (Or.inl rfl) (L2.Q.lst3 (L2.Q.pe_op op_mulG (L2.Q.pe_ixK (K' := K) (L2.Q.pv 1) L2.Q.pe_int (fun _ _ => rfl)) (L2.Q.pe_callN (G__law_draw) (hr.mono (by decide)) (by rfl) tx.g__law_draw tx.F__law_draw.kp tx.b__law_draw .nil pass0 (L2.Q.pa_c (L2.Q.pv 0) (L2.Q.pa_c L2.Q.pe_int L2.Q.pa_nil)))) (L2.Q.pe_op op_mulG (L2.Q.pe_ixK (K' := K) (L2.Q.pv 1) L2.Q.pe_int (fun _ _ => rfl)) (L2.Q.pe_callN (G__law_draw) (hr.mono (by decide)) (by rfl) tx.g__law_draw tx.F__law_draw.kp tx.b__law_draw .nil pass0 (L2.Q.pa_c (L2.Q.pv 0) (L2.Q.pa_c L2.Q.pe_int L2.Q.pa_nil)))) (L2.Q.pe_op op_mulG (L2.Q.pe_ixK (K' := K) (L2.Q.pv 1) L2.Q.pe_int (fun _ _ => rfl)) (L2.Q.pe_callN (G__law_draw) (hr.mono (by decide)) (by rfl) tx.g__law_draw tx.F__law_draw.kp tx.b__law_draw .nil pass0 (L2.Q.pa_c (L2.Q.pv 0) (L2.Q.pa_c L2.Q.pe_int L2.Q.pa_nil))))))
      (L2.Q.pss_cons (L2.Q.ps_set (i := 6) sc__law_spec.nd rfl (Or.inl rfl) (L2.Q.pe_op op_mulG (L2.Q.pe_ixK (K' := K) (L2.Q.pv 1) L2.Q.pe_int (fun _ _ => rfl)) (L2.Q.pe_callN (G__law_draw) (hr.mono (by decide)) (by rfl) tx.g__law_draw tx.F__law_draw.kp tx.b__law_draw .nil pass0 (L2.Q.pa_c (L2.Q.pv 0) (L2.Q.pa_c L2.Q.pe_int L2.Q.pa_nil)))))
      (L2.Q.pss_cons (L2.Q.ps_set (i := 7) sc__law_spec.nd rfl (Or.inl rfl) L2.Q.pe_int)
      (L2.Q.pss_cons (L2.Q.ps_set (i := 8) sc__law_spec.nd rfl (Or.inl rfl) (L2.Q.pe_lst L2.Q.pa_nil))
      (L2.Q.pss_cons (L2.Q.ps_for PassesOwn.never rfl (L2.Q.pi_range1N (by rfl) tx.z_range (L2.Q.pa_c (L2.Q.pe_callN (G__law_draw) (hr.mono (by decide)) (by rfl) tx.g__law_draw tx.F__law_draw.kp tx.b__law_draw .nil pass0 (L2.Q.pa_c (L2.Q.pv 0) (L2.Q.pa_c L2.Q.pe_int L2.Q.pa_nil))) L2.Q.pa_nil)) (L2.Q.pg_name (i := 9) sc__law_spec.nd rfl (Or.inl rfl)) (L2.Q.pss_cons (L2.Q.ps_aug (i := 7) sc__law_spec.nd rfl (Or.inl rfl) (L2.Q.pe_op op_mulG (L2.Q.pe_ixK (K' := K) (L2.Q.pv 1) L2.Q.pe_int (fun _ _ => rfl)) (L2.Q.pe_callN (G__law_draw) (hr.mono (by decide)) (by rfl) tx.g__law_draw tx.F__law_draw.kp tx.b__law_draw .nil pass0 (L2.Q.pa_c (L2.Q.pv 0) (L2.Q.pa_c L2.Q.pe_int L2.Q.pa_nil)))) ip_add)
      (L2.Q.pss_one (L2.Q.ps_expr (L2.Q.pe_appK (K' := K) (L2.Q.pv 8) (L2.Q.pa_c (L2.Q.tup2 (L2.Q.pe_op op_mulG (L2.Q.pe_ixK (K' := K) (L2.Q.pv 1) L2.Q.pe_int (fun _ _ => rfl)) (L2.Q.pe_op op_addG L2.Q.pe_int (L2.Q.pe_callN (G__law_draw) (hr.mono (by decide)) (by rfl) tx.g__law_draw tx.F__law_draw.kp tx.b__law_draw .nil pass0 (L2.Q.pa_c (L2.Q.pv 0) (L2.Q.pa_c L2.Q.pe_int L2.Q.pa_nil))))) (L2.Q.pv 7)) L2.Q.pa_nil))))))
      (L2.Q.pss_one (L2.Q.ps_ret (L2.Q.lst7 (L2.Q.pv 3) (L2.Q.pv 4) (L2.Q.pe_ixK (K' := K) (L2.Q.pv 5) L2.Q.pe_int (fun _ _ => rfl)) (L2.Q.pe_ixK (K' := K) (L2.Q.pv 5) L2.Q.pe_int (fun _ _ => rfl)) (L2.Q.pe_ixK (K' := K) (L2.Q.pv 5) L2.Q.pe_int (fun _ _ => rfl)) (L2.Q.pv 6) (L2.Q.pv 8))))))))))) ?_
    have bp : b ≠ p := hh.nlen hb (by simp)
    refine rd_start (σ := [some (.ref p), some (.ref b), some (.int n), none, none, none, none, none, none, none]) rfl ?_
    repeat walk_at "go"
    refine ⟨p, _, rfl, hh, by omega, by omega, fun r1 H1 a1 c1 h1 k1 _ => ?_⟩
    have hb1 := k1 _ _ hb bp
    repeat walk_at "go"
    refine ⟨p, _, rfl, h1, by omega, by omega, fun r2 H2 a2 c2 h2 k2 _ => ?_⟩
    have hb2 := k2 _ _ hb1 bp
    repeat walk_at "go"
    refine ⟨p, _, rfl, h2, by decide, by decide, fun r3 H3 a3 c3 h3 k3 _ => ?_⟩
    have hb3 := k3 _ _ hb2 bp
    repeat walk_at "go"
    refine ⟨p, _, rfl, h3, by decide, by decide, fun r4 H4 a4 c4 h4 k4 _ => ?_⟩
    have hb4 := k4 _ _ hb3 bp
    repeat walk_at "go"
    refine ⟨p, _, rfl, h4, by decide, by decide, fun r5 H5 a5 c5 h5 k5 _ => ?_⟩
    have hb5 := k5 _ _ hb4 bp
    repeat walk_at "go"
    intro l6 n6
    repeat walk_at "go"
    have hb6 := Same.new (o := .lst [.int (y * r3), .int (y * r4), .int (y * r5)]) n6 _ _ hb5
    have h6 := h5.same (Same.new (o := .lst [.int (y * r3), .int (y * r4), .int (y * r5)]) n6)
    repeat walk_at "go"
    refine ⟨p, _, rfl, h6, by decide, by decide, fun r7 H7 a7 c7 h7 k7 _ => ?_⟩
    have hb7 := k7 _ _ hb6 bp
    have l6p : l6 ≠ p := fun z => by obtain ⟨_, e⟩ := h5.isL; exact ne_none n6 e z.symm
    have e7 : H7 l6 = some (.lst [.int (y * r3), .int (y * r4), .int (y * r5)]) := k7 _ _ upd_same l6p
    have kk7 : Keep p H H7 := k1.trans (k2.trans (k3.trans (k4.trans (k5.trans ((Same.new n6).keep.trans k7)))))
    have g3 : 0 ≤ y * r3 ∧ y * r3 ≤ 250000000000 := mulB y0 y1 a3 c3 (by decide)
    have g4 : 0 ≤ y * r4 ∧ y * r4 ≤ 250000000000 := mulB y0 y1 a4 c4 (by decide)
    have g5 : 0 ≤ y * r5 ∧ y * r5 ≤ 250000000000 := mulB y0 y1 a5 c5 (by decide)
    have g7 : 0 ≤ x * r7 ∧ x * r7 ≤ 250000000000 := mulB x0 x1 a7 c7 (by decide)
    repeat walk_at "go"
    intro l8 n8
    repeat walk_at "go"
    have h8 := h7.same (Same.new (o := .lst []) n8)
    repeat walk_at "go"
    refine ⟨p, _, rfl, h8, by decide, by decide, fun r9 H9 a9 c9 h9 k9 _ => ?_⟩
    have l8p : l8 ≠ p := fun z => by obtain ⟨_, e⟩ := h7.isL; exact ne_none n8 e z.symm
    have e9 : H9 l8 = some (.lst []) := k9 _ _ upd_same l8p
    have hb9 := k9 _ _ (Same.new n8 _ _ hb7) bp
    have e69 : H9 l6 = some (.lst [.int (y * r3), .int (y * r4), .int (y * r5)]) := k9 _ _ (Same.new n8 _ _ e7) l6p
    have kk9 : Keep p H H9 := kk7.trans ((Same.new n8).keep.trans k9)
    have n8H : H l8 = none := fresh_of kk7 h7 n8
    have n6H : H l6 = none := fresh_of (k1.trans (k2.trans (k3.trans (k4.trans k5)))) h5 n6
    repeat walk_at "go"
    refine ⟨by omega, by omega, ?_⟩
    refine rf_range (fun i σ' H' => ∃ qs ps rate x9, σ' = [some (.ref p), some (.ref b), some (.int n), some (.int (1 + r1)), some (.int (1 + r2)), some (.ref l6), some (.int (x * r7)), some (.int rate), some (.ref l8), x9] ∧ H' l8 = some (.lst (qs.map V.ref)) ∧ Tup2 H' qs ps ∧ ps.length = i ∧ PcW ps rate ∧
        0 ≤ rate ∧ rate ≤ (i : Int) * 100000000000 ∧ HandAt H' p ∧ Keep p H H' ∧ H' b = some (.lst [.int x, .int y]) ∧ H' l6 = some (.lst [.int (y * r3), .int (y * r4), .int (y * r5)]))
      ⟨[], [], 0, _, rfl, e9, ⟨rfl, fun j q t h => by simp at h⟩, rfl, PcW.nil, by omega, by omega, h9, kk9, hb9, e69⟩
      (fun i σ' H' hi ⟨qs, ps, rate, x9, e, f1, f2, f3, f4, f5, f6, f7, f8, f9, f0⟩ => ?_) (fun σ' H' ⟨qs, ps, rate, x9, e, f1, f2, f3, f4, f5, f6, f7, f8, f9, f0⟩ => ?_)
    · subst e
      have i4 : i ≤ 3 := by omega
      repeat walk_at "go"
      refine rd_aug rfl ?_
      repeat walk_at "go"
      refine ⟨p, _, rfl, f7, by decide, by decide, fun u1 J1 v1 w1 q1 t1 _ => ?_⟩
      have g1 : 0 ≤ y * u1 ∧ y * u1 ≤ 100000000000 := mulB y0 y1 v1 w1 (by decide)
      have l8q : l8 ≠ p := f7.nrefs f1
      have d1 := t1 _ _ f1 l8q
      have d2 := f2.keep f7.ntup t1
      have d3 := t1 _ _ f9 bp
      have d4 := t1 _ _ f0 l6p
      repeat walk_at "go"
      refine rd_tyL (SqL.of d1) ?_
      repeat walk_at "go"
      refine ⟨p, _, rfl, q1, by decide, by decide, fun u2 J2 v2 w2 q2 t2 _ => ?_⟩
      have g2 : x ≤ x * (1 + u2) ∧ x * (1 + u2) ≤ 150000000000 := mulB1 x0 x1 v2 w2 (by decide)
      have dd1 := t2 _ _ d1 l8q
      have dd2 := d2.keep q1.ntup t2
      have dd3 := t2 _ _ d3 bp
      have dd4 := t2 _ _ d4 l6p
      repeat walk_at "go"
      intro T nT
      repeat walk_at "go"
      refine rd_app (xs := qs.map V.ref) (Same.new nT _ _ dd1) (Nat.lt_of_lt_of_le (by rw [List.length_map, f2.len]; omega : (qs.map V.ref).length < 1000) (sz_le (by simp))) ?_
      repeat walk_at "go"
      have hT8 : T ≠ l8 := Ne.symm (ne_none nT dd1)
      have kz : Keep l8 J2 (upd (upd J2 T (.tup [.int (x * (1 + u2)), .int (rate + y * u1)])) l8 (.lst (qs.map V.ref ++ [.ref T]))) := (Same.new nT).keep.trans Keep.upd
      refine ⟨qs ++ [T], ps ++ [(x * (1 + u2), rate + y * u1)], _, _, rfl, ?_, dd2.snoc dd1 kz (by rw [upd_ne hT8, upd_same]), by rw [List.length_append, f3]; rfl, f4.snoc (rtB f5 f6 g1 i4).1 (xB x0 g2).1 (xB x0 g2).2 (rtB f5 f6 g1 i4).2.1, (rtB f5 f6 g1 i4).2.2.1, (rtB f5 f6 g1 i4).2.2.2, ?_, fun c o hc hcp => ?_, ?_, ?_⟩
      · rw [upd_same, List.map_append]; rfl
      · obtain ⟨dd, cc, q, ms, hp, hq, hne, hqp⟩ := q2.ex
        refine ⟨⟨dd, cc, q, ms, kz _ _ hp (Ne.symm l8q), kz _ _ hq (fun z => ?_), hne, hqp⟩⟩
        rw [z, dd1] at hq
        cases qs with
        | nil => cases ms with
          | nil => exact hne rfl
          | cons _ _ => cases hq
        | cons _ _ => cases ms with
          | nil => exact hne rfl
          | cons _ _ => cases hq
      · exact kz _ _ (t2 _ _ (t1 _ _ (f8 _ _ hc hcp) hcp) hcp) (ne_none n8H hc)
      · exact kz _ _ dd3 (fun z => by rw [z, dd1] at dd3; cases qs with
          | nil => cases dd3
          | cons _ _ => cases dd3)
      · exact kz _ _ dd4 (fun z => by rw [z, dd1] at dd4; cases qs with
          | nil => cases dd4
          | cons _ _ => cases dd4)
    · subst e
      repeat walk_at "go"
      intro s ns
      repeat walk_at "go"
      have hr9 : r9.toNat ≤ 4 := by omega
      refine k s ⟨1 + r1, 1 + r2, y * r3, y * r4, y * r5, x * r7, ps⟩ _ ⟨l8, upd_same, qs, Same.new ns _ _ f1, f2.same (Same.new ns)⟩ ⟨(up1 a1 c1 n1).1, (up1 a2 c2 n1).1, amB g3, amB g4, amB g5, amB g7, ⟨by show ps.length ≤ 4; omega, f4.pc, f4.up⟩⟩ (up1 a1 c1 n1).2 (up1 a2 c2 n1).2 (f7.same (Same.new ns)) (f8.trans (Same.new ns).keep) (fresh_of f8 f7 ns)
def sp__law_machine (K : PySem.W.Frag) (C : Addr) : Sp := fun vs H Q _ => ∃ (s : Addr) (m : MS), vs = [.ref s] ∧ SpecAt H s m ∧ m.Good ∧ ∀ x H', MachAt C H' x m → Same H H' → H x = none → Q (.ref x) H'
set_option maxHeartbeats 40000000 in
theorem ok__law_machine {P : Program} {w : World} {K : PySem.W.Frag} {mg : Str → Option Value} {base : Heap} {a : Adr} (tx : Txt K mg a) : FnOk P w K mg base CX0 7 a.f__law_machine a.d__law_machine ["_law_spec_here"] (sp__law_machine K a.c_Machine) := by
  have G_Machine_init := ok_Machine_init (P := P) (w := w) (base := base) tx
  refine tx.F__law_machine.ok sc__law_machine (fun vs H Q E h => ?_) (fun cdv A outer s H vs Q E hr h => ?_)
  · obtain ⟨s, m, rfl, _⟩ := h
    rfl
  · obtain ⟨s, m, rfl , hs, hg, k⟩ := h
    have hu := hu9 hr
    refine L2.Q.root (L2.Q.pss_one (L2.Q.ps_ret (L2.Q.pe_makeN tx.M_Machine (G_Machine_init) (hr.mono (by decide)) (by rfl) tx.g_Machine tx.b_Machine_init .nil pass0 (L2.Q.pa_c (L2.Q.pe_ixK (K' := K) (L2.Q.pv 0) L2.Q.pe_int (fun _ _ => rfl)) (L2.Q.pa_c (L2.Q.pe_ixK (K' := K) (L2.Q.pv 0) L2.Q.pe_int (fun _ _ => rfl)) (L2.Q.pa_c (L2.Q.pe_ixK (K' := K) (L2.Q.pv 0) L2.Q.pe_int (fun _ _ => rfl)) (L2.Q.pa_c (L2.Q.pe_ixK (K' := K) (L2.Q.pv 0) L2.Q.pe_int (fun _ _ => rfl)) (L2.Q.pa_c (L2.Q.pe_ixK (K' := K) (L2.Q.pv 0) L2.Q.pe_int (fun _ _ => rfl)) (L2.Q.pa_c (L2.Q.pe_ixK (K' := K) (L2.Q.pv 0) L2.Q.pe_int (fun _ _ => rfl)) (L2.Q.pa_c (L2.Q.pe_callTyN (rc := rListOf K) call_listG (by rfl) tx.z_list bt_list (L2.Q.pa_c (L2.Q.pe_ixK (K' := K) (L2.Q.pv 0) L2.Q.pe_int (fun _ _ => rfl)) L2.Q.pa_nil)) L2.Q.pa_nil)))))))))) ?_
    obtain ⟨pl, h1, h2⟩ := hs.ex
    obtain ⟨qs, h3, h4⟩ := h2.ex
    refine rd_start (σ := [some (.ref s)]) rfl ?_
    repeat walk_at "go"
    refine rd_listL (SqL.of h3) ?_
    intro l n
    repeat walk_at "go"
    intro x dx nx nd hd
    have sx : Same H (upd (upd (upd H l (.lst (qs.map V.ref))) dx (.own x)) x (.ins a.c_Machine dx [])) := fun b o e => by
      have e1 := Same.new (o := .lst (qs.map V.ref)) n _ _ e
      rw [upd_ne (ne_none nx e1), upd_ne (ne_none nd e1)]
      exact e1
    have lx : l ≠ x := ne_none nx upd_same
    have ld : l ≠ dx := ne_none nd upd_same
    refine ⟨x, dx, l, m, rfl, upd_same, ⟨qs, by rw [upd_ne lx, upd_ne ld, upd_same], h4.same sx⟩, hg, fun H' hM kx => ⟨rfl, ?_⟩⟩
    have nxH : H x = none := (Same.new n).free nx
    exact k x H' hM (fun b o e => kx _ _ (sx _ _ e) (ne_none nxH e)) nxH
theorem HandAt.nnew {H : Hp} {p c : Addr} (hh : HandAt H p) (n : H c = none) : c ≠ p := fun z => by
  obtain ⟨xs, e⟩ := hh.isL
  exact ne_none n e z.symm
def SmV (H : Hp) : Nat → V → V → Prop
  | 0, _, _ => False
  | j + 1, x, y => (∃ i, x = .int i ∧ y = .int i) ∨ (∃ b, x = .bl b ∧ y = .bl b) ∨ (x = .non ∧ y = .non) ∨ (∃ s, x = .str s ∧ y = .str s) ∨
    ∃ (p q : Addr) (xs ys : List V), x = .ref p ∧ y = .ref q ∧ ((H p = some (.tup xs) ∧ H q = some (.tup ys)) ∨ (H p = some (.lst xs) ∧ H q = some (.lst ys))) ∧ xs.length = ys.length ∧ ys.length ≤ 1000000 ∧ ∀ (i : Nat) u v, xs[i]? = some u → ys[i]? = some v → SmV H j u v
theorem SmV.same {H H' : Hp} (s : Same H H') : ∀ {j : Nat} {x y : V}, SmV H j x y → SmV H' j x y
  | 0, _, _, h => h
  | j + 1, x, y, h => by
    rcases h with h | h | h | h | ⟨p, q, xs, ys, e1, e2, e3, e4, e5, e6⟩
    · exact .inl h
    · exact .inr (.inl h)
    · exact .inr (.inr (.inl h))
    · exact .inr (.inr (.inr (.inl h)))
    · refine .inr (.inr (.inr (.inr ⟨p, q, xs, ys, e1, e2, ?_, e4, e5, fun i u v hu hv => SmV.same s (e6 i u v hu hv)⟩)))
      rcases e3 with ⟨a, b⟩ | ⟨a, b⟩
      · exact .inl ⟨s _ _ a, s _ _ b⟩
      · exact .inr ⟨s _ _ a, s _ _ b⟩
theorem SmV.int {H : Hp} {j : Nat} (i : Int) : SmV H (j + 1) (.int i) (.int i) := .inl ⟨i, rfl, rfl⟩
theorem SmV.pair {H : Hp} {j : Nat} {p q : Addr} {x y : Int} (h1 : H p = some (.tup [.int x, .int y])) (h2 : H q = some (.tup [.int x, .int y])) : SmV H (j + 2) (.ref p) (.ref q) := by
  refine .inr (.inr (.inr (.inr ⟨p, q, _, _, rfl, rfl, .inl ⟨h1, h2⟩, rfl, by simp, fun i u v hu hv => ?_⟩)))
  rw [hu] at hv
  cases hv
  match i, hu with
  | 0, hu => cases hu; exact SmV.int x
  | 1, hu => cases hu; exact SmV.int y
  | _ + 2, hu => simp at hu
def sp__law_same (K : PySem.W.Frag) (j : Nat) : Sp := fun vs H Q _ => ∃ (x y : V), vs = [x, y] ∧ SmV H j x y ∧ ∀ H', Same H H' → Q (.bl true) H'
theorem zero__law_same {K : PySem.W.Frag} {vs : List V} {H : Hp} {Q : VK} {E : XK} (h : sp__law_same K 0 vs H Q E) : False := by
  obtain ⟨_, _, _, h, _⟩ := h
  exact h
set_option maxHeartbeats 40000000 in
theorem ok__law_same {P : Program} {w : World} {K : PySem.W.Frag} {mg : Str → Option Value} {base : Heap} {a : Adr} (tx : Txt K mg a) : (j : Nat) → FnOk P w K mg base CX0 (j + 1) a.f__law_same a.d__law_same ["_law_one", "_law_due"] (sp__law_same K j)
  | 0 => ⟨fun vs H Q E h => (zero__law_same h).elim, fun A outer s H args us vs Q E _ _ _ _ h => (zero__law_same h).elim⟩
  | j + 1 => by
    have G__law_same := ok__law_same (P := P) (w := w) (base := base) tx j
    refine tx.F__law_same.ok sc__law_same (fun vs H Q E h => ?_) (fun cdv A outer s H vs Q E hr h => ?_)
    · obtain ⟨x, y, rfl, _⟩ := h
      rfl
    · obtain ⟨x, y, rfl , hs, k⟩ := h
      have hu := hu9 hr
      refine L2.Q.root (L2.Q.pss_cons (L2.Q.ps_if (L2.Q.pt_val (L2.Q.pe_callBN (rc := rIsiT K) call_isiT (by rfl) tx.z_isinstance bt_isinstance (L2.Q.pa_c (L2.Q.pv 1) (L2.Q.pa_c (L2.Q.tup2 (L2.Q.pe_bltn (v := .ty "list") (by rfl) tx.z_list bt_list rfl) (L2.Q.pe_bltn (v := .ty "tuple") (by rfl) tx.z_tuple bt_tuple rfl)) L2.Q.pa_nil)))) (L2.Q.pss_cons (L2.Q.ps_if (L2.Q.pw_pt (L2.Q.pw_or (L2.Q.pt_cmpR (r := rNeG K) (op_neG hu) (L2.Q.pe_callBN (rc := rIsi K) call_isiG (by rfl) tx.z_isinstance bt_isinstance (L2.Q.pa_c (L2.Q.pv 0) (L2.Q.pa_c (L2.Q.pe_bltn (v := .ty "list") (by rfl) tx.z_list bt_list rfl) L2.Q.pa_nil))) (L2.Q.pe_callBN (rc := rIsi K) call_isiG (by rfl) tx.z_isinstance bt_isinstance (L2.Q.pa_c (L2.Q.pv 1) (L2.Q.pa_c (L2.Q.pe_bltn (v := .ty "list") (by rfl) tx.z_list bt_list rfl) L2.Q.pa_nil))) (nomark _)) (L2.Q.pw_or1 (L2.Q.pt_cmpR (r := rNeG K) (op_neG hu) (L2.Q.pe_callBN (rc := rIsi K) call_isiG (by rfl) tx.z_isinstance bt_isinstance (L2.Q.pa_c (L2.Q.pv 0) (L2.Q.pa_c (L2.Q.pe_bltn (v := .ty "tuple") (by rfl) tx.z_tuple bt_tuple rfl) L2.Q.pa_nil))) (L2.Q.pe_callBN (rc := rIsi K) call_isiG (by rfl) tx.z_isinstance bt_isinstance (L2.Q.pa_c (L2.Q.pv 1) (L2.Q.pa_c (L2.Q.pe_bltn (v := .ty "tuple") (by rfl) tx.z_tuple bt_tuple rfl) L2.Q.pa_nil))) (nomark _))))) (L2.Q.pss_one (L2.Q.ps_ret L2.Q.pe_bl)) L2.Q.pss_nil)
        (L2.Q.pss_one (L2.Q.ps_ret (L2.Q.pe_and (L2.Q.pe_cmpR (r := rEqG K) (op_eqG hu) (L2.Q.pe_callBN (rc := rLen K) call_lenG (by rfl) tx.z_len bt_len (L2.Q.pa_c (L2.Q.pv 0) L2.Q.pa_nil)) (L2.Q.pe_callBN (rc := rLen K) call_lenG (by rfl) tx.z_len bt_len (L2.Q.pa_c (L2.Q.pv 1) L2.Q.pa_nil)) (nomark _)) (L2.Q.pe_one (L2.Q.pe_callBN (rc := rAll K) (call_allG rfl) (by rfl) tx.z_all bt_all (L2.Q.pa_c (L2.Q.pe_comp (k := 1) (idx := [1, 0]) (N := ["_law_k", "_law_due", "_law_one"]) (blk_sc (sc := defScope s__law_same) (NX := ["_law_one", "_law_due"]) rfl rfl rfl (by decide +kernel)) rfl (L2.Q.pi_range1N (by rfl) tx.z_range (L2.Q.pa_c (L2.Q.pe_callBN (rc := rLen K) call_lenG (by rfl) tx.z_len bt_len (L2.Q.pa_c (L2.Q.pv 1) L2.Q.pa_nil)) L2.Q.pa_nil)) (fun _ _ _ _ => (L2.Q.pg_name (i := 0) (show (["_law_k", "_law_due", "_law_one"] : List Str).Nodup by decide +kernel) rfl (Or.inl rfl))) (own_name (by decide)) (fun _ _ _ _ => L2.Q.pts_nil) (fun _ _ _ _ => (L2.Q.pe_callN (G__law_same) (hr.mono (by omega)) (by rfl) tx.g__law_same tx.F__law_same.kp tx.b__law_same .nil pass0 (L2.Q.pa_c (L2.Q.pe_ixK (K' := K) (L2.Q.pv 2) (L2.Q.pv 0) (fun _ _ => rfl)) (L2.Q.pa_c (L2.Q.pe_ixK (K' := K) (L2.Q.pv 1) (L2.Q.pv 0) (fun _ _ => rfl)) L2.Q.pa_nil))))) L2.Q.pa_nil))))))) L2.Q.pss_nil)
        (L2.Q.pss_cons (L2.Q.ps_if (L2.Q.pw_pt (L2.Q.pw_or (L2.Q.pt_val (L2.Q.pe_callBN (rc := rIsi K) call_isiG (by rfl) tx.z_isinstance bt_isinstance (L2.Q.pa_c (L2.Q.pv 0) (L2.Q.pa_c (L2.Q.pe_bltn (v := .ty "bool") (by rfl) tx.z_bool bt_bool rfl) L2.Q.pa_nil)))) (L2.Q.pw_or1 (L2.Q.pt_val (L2.Q.pe_callBN (rc := rIsi K) call_isiG (by rfl) tx.z_isinstance bt_isinstance (L2.Q.pa_c (L2.Q.pv 1) (L2.Q.pa_c (L2.Q.pe_bltn (v := .ty "bool") (by rfl) tx.z_bool bt_bool rfl) L2.Q.pa_nil))))))) (L2.Q.pss_one (L2.Q.ps_ret (L2.Q.pe_and (L2.Q.pe_callBN (rc := rIsi K) call_isiG (by rfl) tx.z_isinstance bt_isinstance (L2.Q.pa_c (L2.Q.pv 0) (L2.Q.pa_c (L2.Q.pe_bltn (v := .ty "bool") (by rfl) tx.z_bool bt_bool rfl) L2.Q.pa_nil))) (L2.Q.pe_and (L2.Q.pe_callBN (rc := rIsi K) call_isiG (by rfl) tx.z_isinstance bt_isinstance (L2.Q.pa_c (L2.Q.pv 1) (L2.Q.pa_c (L2.Q.pe_bltn (v := .ty "bool") (by rfl) tx.z_bool bt_bool rfl) L2.Q.pa_nil))) (L2.Q.pe_one (L2.Q.pe_cmpR (r := rEqG K) (op_eqG hu) (L2.Q.pv 0) (L2.Q.pv 1) (nomark _))))))) L2.Q.pss_nil)
        (L2.Q.pss_cons (L2.Q.ps_if (L2.Q.pt_val (L2.Q.pe_callBN (rc := rIsi K) call_isiG (by rfl) tx.z_isinstance bt_isinstance (L2.Q.pa_c (L2.Q.pv 1) (L2.Q.pa_c (L2.Q.pe_bltn (v := .ty "int") (by rfl) tx.z_int bt_int rfl) L2.Q.pa_nil)))) (L2.Q.pss_one (L2.Q.ps_ret (L2.Q.pe_and (L2.Q.pe_callBN (rc := rIsi K) call_isiG (by rfl) tx.z_isinstance bt_isinstance (L2.Q.pa_c (L2.Q.pv 0) (L2.Q.pa_c (L2.Q.pe_bltn (v := .ty "int") (by rfl) tx.z_int bt_int rfl) L2.Q.pa_nil))) (L2.Q.pe_one (L2.Q.pe_cmpR (r := rEqG K) (op_eqG hu) (L2.Q.pv 0) (L2.Q.pv 1) (nomark _)))))) L2.Q.pss_nil)
        (L2.Q.pss_cons (L2.Q.ps_if (L2.Q.pt_val (L2.Q.pe_callBN (rc := rIsi K) call_isiG (by rfl) tx.z_isinstance bt_isinstance (L2.Q.pa_c (L2.Q.pv 1) (L2.Q.pa_c (L2.Q.pe_bltn (v := .ty "str") (by rfl) tx.z_str bt_str rfl) L2.Q.pa_nil)))) (L2.Q.pss_one (L2.Q.ps_ret (L2.Q.pe_and (L2.Q.pe_callBN (rc := rIsi K) call_isiG (by rfl) tx.z_isinstance bt_isinstance (L2.Q.pa_c (L2.Q.pv 0) (L2.Q.pa_c (L2.Q.pe_bltn (v := .ty "str") (by rfl) tx.z_str bt_str rfl) L2.Q.pa_nil))) (L2.Q.pe_one (L2.Q.pe_cmpR (r := rEqG K) (op_eqG hu) (L2.Q.pv 0) (L2.Q.pv 1) (nomark _)))))) L2.Q.pss_nil)
        (L2.Q.pss_one (L2.Q.ps_ret (L2.Q.pe_and (L2.Q.pe_cmpR op_isG (L2.Q.pv 0) L2.Q.pe_non (nomark _)) (L2.Q.pe_one (L2.Q.pe_cmpR op_isG (L2.Q.pv 1) L2.Q.pe_non (nomark _)))))))))) ?_
      refine rd_start (σ := [some x, some y]) rfl ?_
      repeat walk_at "gs"
      intro T nT
      repeat walk_at "gs"
      rcases hs with ⟨i, rfl, rfl⟩ | ⟨b, rfl, rfl⟩ | ⟨rfl, rfl⟩ | ⟨z, rfl, rfl⟩ | ⟨p, q, xs, ys, rfl, rfl, e3, e4, e5, e6⟩
      · refine rd_isiT (Ts := ["list", "tuple"]) upd_same (.int i) rfl ?_
        repeat walk_at "gs"
        refine rd_isi (isi_bool (.int i)) ?_
        repeat walk_at "gs"
        refine rd_isi (isi_bool (.int i)) ?_
        repeat walk_at "gs"
        refine rd_isi (isi_int (.int i)) ?_
        repeat walk_at "gs"
        refine rd_isi (isi_int (.int i)) ?_
        repeat walk_at "gs"
        rw [decide_eq_true rfl]
        exact k _ (Same.new nT)
      · refine rd_isiT (Ts := ["list", "tuple"]) upd_same (.bl b) rfl ?_
        repeat walk_at "gs"
        refine rd_isi (isi_bool (.bl b)) ?_
        repeat walk_at "gs"
        refine rd_isi (isi_bool (.bl b)) ?_
        repeat walk_at "gs"
        refine rd_isi (isi_bool (.bl b)) ?_
        repeat walk_at "gs"
        rw [show eqV (.bl b) (.bl b) = true by cases b <;> rfl]
        exact k _ (Same.new nT)
      · refine rd_isiT (Ts := ["list", "tuple"]) upd_same .non rfl ?_
        repeat walk_at "gs"
        refine rd_isi (isi_bool .non) ?_
        repeat walk_at "gs"
        refine rd_isi (isi_bool .non) ?_
        repeat walk_at "gs"
        refine rd_isi (isi_int .non) ?_
        repeat walk_at "gs"
        refine rd_isi (isi_str .non) ?_
        repeat walk_at "gs"
        exact k _ (Same.new nT)
      · refine rd_isiT (Ts := ["list", "tuple"]) upd_same (.str z) rfl ?_
        repeat walk_at "gs"
        refine rd_isi (isi_bool (.str z)) ?_
        repeat walk_at "gs"
        refine rd_isi (isi_bool (.str z)) ?_
        repeat walk_at "gs"
        refine rd_isi (isi_int (.str z)) ?_
        repeat walk_at "gs"
        refine rd_isi (isi_str (.str z)) ?_
        repeat walk_at "gs"
        refine rd_isi (isi_str (.str z)) ?_
        repeat walk_at "gs"
        rw [show eqV (.str z) (.str z) = true from beq_self_eq_true z]
        exact k _ (Same.new nT)
      · have sT := Same.new (o := .tup [.ty "list", .ty "tuple"]) nT
        have hb : ∃ L : List V → Bool, True := ⟨fun _ => true, trivial⟩
        rcases e3 with ⟨a1, a2⟩ | ⟨a1, a2⟩
        · have c1 := sT _ _ a1
          have c2 := sT _ _ a2
          generalize hH1 : upd H T (.tup [.ty "list", .ty "tuple"]) = H1 at c1 c2 sT ⊢
          have eT : H1 T = some (.tup [.ty "list", .ty "tuple"]) := by rw [← hH1]; exact upd_same
          refine rd_isiT (Ts := ["list", "tuple"]) eT (.tup c2) rfl ?_
          repeat walk_at "gs"
          refine rd_isi (isi_list (.tup c1)) ?_
          repeat walk_at "gs"
          refine rd_isi (isi_list (.tup c2)) ?_
          repeat walk_at "gs"
          refine rd_isi (isi_tuple (.tup c1)) ?_
          repeat walk_at "gs"
          refine rd_isi (isi_tuple (.tup c2)) ?_
          repeat walk_at "gs"
          refine rd_dec (fun _ => ?_) (fun h => absurd (by rw [e4]) h)
          repeat walk_at "gs"
          refine ⟨by omega, by omega, ?_⟩
          refine comp_range (fun i zs H' => Same H1 H' ∧ zs.length = i ∧ ∀ z ∈ zs, z = .bl true) ⟨Same.refl _, rfl, fun z h => by simp at h⟩ (sz_le (by omega)) (fun i zs H' hi ⟨_, h, _⟩ => by omega) (fun i zs H' hi ⟨s1, h1, h2⟩ => ?_) (fun zs H' ⟨s1, h1, h2⟩ => ?_)
          · have hi2 : i < ys.length := by omega
            have hi1 : i < xs.length := by omega
            have g1 : atI xs (0 + (i : Int)) = some xs[i] := by rw [Int.zero_add]; exact atI_nat (List.getElem?_eq_getElem hi1)
            have g2 : atI ys (0 + (i : Int)) = some ys[i] := by rw [Int.zero_add]; exact atI_nat (List.getElem?_eq_getElem hi2)
            have d1 := s1 _ _ c1
            have d2 := s1 _ _ c2
            repeat walk_at "gs"
            refine ⟨_, _, rfl, SmV.same (sT.trans s1) (e6 i _ _ (List.getElem?_eq_getElem hi1) (List.getElem?_eq_getElem hi2)), fun H2 s2 => ?_⟩
            refine ⟨s1.trans s2, by rw [List.length_append, h1]; rfl, fun z hz => ?_⟩
            rcases List.mem_append.mp hz with h | h
            · exact h2 z h
            · exact List.mem_singleton.mp h
          · intro L nL
            repeat walk_at "gs"
            refine rd_allT (SqL.of upd_same) h2 ?_
            exact k _ ((sT.trans s1).trans (Same.new nL))
        · have c1 := sT _ _ a1
          have c2 := sT _ _ a2
          generalize hH1 : upd H T (.tup [.ty "list", .ty "tuple"]) = H1 at c1 c2 sT ⊢
          have eT : H1 T = some (.tup [.ty "list", .ty "tuple"]) := by rw [← hH1]; exact upd_same
          refine rd_isiT (Ts := ["list", "tuple"]) eT (.lst c2) rfl ?_
          repeat walk_at "gs"
          refine rd_isi (isi_list (.lst c1)) ?_
          repeat walk_at "gs"
          refine rd_isi (isi_list (.lst c2)) ?_
          repeat walk_at "gs"
          refine rd_isi (isi_tuple (.lst c1)) ?_
          repeat walk_at "gs"
          refine rd_isi (isi_tuple (.lst c2)) ?_
          repeat walk_at "gs"
          refine rd_dec (fun _ => ?_) (fun h => absurd (by rw [e4]) h)
          repeat walk_at "gs"
          refine ⟨by omega, by omega, ?_⟩
          refine comp_range (fun i zs H' => Same H1 H' ∧ zs.length = i ∧ ∀ z ∈ zs, z = .bl true) ⟨Same.refl _, rfl, fun z h => by simp at h⟩ (sz_le (by omega)) (fun i zs H' hi ⟨_, h, _⟩ => by omega) (fun i zs H' hi ⟨s1, h1, h2⟩ => ?_) (fun zs H' ⟨s1, h1, h2⟩ => ?_)
          · have hi2 : i < ys.length := by omega
            have hi1 : i < xs.length := by omega
            have g1 : atI xs (0 + (i : Int)) = some xs[i] := by rw [Int.zero_add]; exact atI_nat (List.getElem?_eq_getElem hi1)
            have g2 : atI ys (0 + (i : Int)) = some ys[i] := by rw [Int.zero_add]; exact atI_nat (List.getElem?_eq_getElem hi2)
            have d1 := s1 _ _ c1
            have d2 := s1 _ _ c2
            repeat walk_at "gs"
            refine ⟨_, _, rfl, SmV.same (sT.trans s1) (e6 i _ _ (List.getElem?_eq_getElem hi1) (List.getElem?_eq_getElem hi2)), fun H2 s2 => ?_⟩
            refine ⟨s1.trans s2, by rw [List.length_append, h1]; rfl, fun z hz => ?_⟩
            rcases List.mem_append.mp hz with h | h
            · exact h2 z h
            · exact List.mem_singleton.mp h
          · intro L nL
            repeat walk_at "gs"
            refine rd_allT (SqL.of upd_same) h2 ?_
            exact k _ ((sT.trans s1).trans (Same.new nL))
def sumA : List (Int × Int) → Int
  | [] => 0
  | t :: ps => t.1 + sumA ps
def gn (p : Int) : List (Int × Int) → Int
  | [] => 0
  | t :: ps => t.1 * max (p - t.2) 0 + gn p ps
def Up : List (Int × Int) → Prop
  | [] => True
  | t :: ps => 1 ≤ t.1 ∧ (∀ u ∈ ps, t.2 ≤ u.2) ∧ Up ps
def sp_may_be (K : PySem.W.Frag) : Sp := fun vs H Q _ => ∃ (v : V) (t : Addr) (o d on : Int), vs = [v, .ref t, .int on] ∧ H t = some (.tup [.int o, .int d]) ∧ Q (.bl (decide (o = on) || decide (d = 0))) H
set_option maxHeartbeats 40000000 in
theorem ok_may_be {P : Program} {w : World} {K : PySem.W.Frag} {mg : Str → Option Value} {base : Heap} {a : Adr} (tx : Txt K mg a) : FnOk P w K mg base CX0 1 a.f_may_be a.d_may_be ["machine", "state", "on"] (sp_may_be K) := by
  refine tx.F_may_be.ok sc_may_be (fun vs H Q E h => ?_) (fun cdv A outer s H vs Q E hr h => ?_)
  · obtain ⟨v, t, o, d, on, rfl, _⟩ := h
    rfl
  · obtain ⟨v, t, o, d, on, rfl , ht, k⟩ := h
    have hu := hu9 hr
    refine L2.Q.root (L2.Q.pss_one (L2.Q.ps_ret (L2.Q.pe_or (L2.Q.pe_cmpR (r := rEqG K) (op_eqG hu) (L2.Q.pe_ixK (K' := K) (L2.Q.pv 1) L2.Q.pe_int (fun _ _ => rfl)) (L2.Q.pv 2) (nomark _)) (L2.Q.pe_one (L2.Q.pe_cmpR (r := rEqG K) (op_eqG hu) (L2.Q.pe_ixK (K' := K) (L2.Q.pv 1) L2.Q.pe_int (fun _ _ => rfl)) L2.Q.pe_int (nomark _)))))) ?_
    refine rd_start (σ := [some v, some (.ref t), some (.int on)]) rfl ?_
    repeat walk_at "go"
    refine rd_dec (fun h => ?_) (fun h => ?_)
    · rw [decide_eq_true h, Bool.true_or] at k
      exact k
    · rw [decide_eq_false h, Bool.false_or] at k
      repeat walk_at "go"
      exact k
def aft (m : MS) (o d on : Int) : Int × Int := if o = on then (on, max (d - 1) 0) else if on = 1 then (1, m.up - 1) else (0, m.down - 1)
def sp_state_after (K : PySem.W.Frag) (C : Addr) : Sp := fun vs H Q _ => ∃ (q : Addr) (m : MS) (t : Addr) (o d on : Int), vs = [.ref q, .ref t, .int on] ∧ MachAt C H q m ∧ H t = some (.tup [.int o, .int d]) ∧ (o = on ∨ d = 0) ∧
  ∀ T H', Same H H' → H T = none → H' T = some (.tup [.int (aft m o d on).1, .int (aft m o d on).2]) → Q (.ref T) H'
set_option maxHeartbeats 40000000 in
theorem ok_state_after {P : Program} {w : World} {K : PySem.W.Frag} {mg : Str → Option Value} {base : Heap} {a : Adr} (tx : Txt K mg a) : FnOk P w K mg base CX0 2 a.f_state_after a.d_state_after ["machine", "state", "on"] (sp_state_after K a.c_Machine) := by
  have G_may_be := ok_may_be (P := P) (w := w) (base := base) tx
  refine tx.F_state_after.ok sc_state_after (fun vs H Q E h => ?_) (fun cdv A outer s H vs Q E hr h => ?_)
  · obtain ⟨q, m, t, o, d, on, rfl, _⟩ := h
    rfl
  · obtain ⟨q, m, t, o, d, on, rfl , hm, ht, hmay, k⟩ := h
    have hu := hu9 hr
    refine L2.Q.root (L2.Q.pss_cons (L2.Q.ps_if (L2.Q.pt_not (L2.Q.pt_val (L2.Q.pe_callN (G_may_be) (hr.mono (by decide)) (by rfl) tx.g_may_be tx.F_may_be.kp tx.b_may_be .nil pass0 (L2.Q.pa_c (L2.Q.pv 0) (L2.Q.pa_c (L2.Q.pv 1) (L2.Q.pa_c (L2.Q.pv 2) L2.Q.pa_nil)))))) (L2.Q.pss_one L2.Q.ps_never) L2.Q.pss_nil)
      (L2.Q.pss_cons (L2.Q.ps_if (L2.Q.pt_cmpR (r := rEqG K) (op_eqG hu) (L2.Q.pe_ixK (K' := K) (L2.Q.pv 1) L2.Q.pe_int (fun _ _ => rfl)) (L2.Q.pv 2) (nomark _)) (L2.Q.pss_one (L2.Q.ps_ret (L2.Q.tup2 (L2.Q.pv 2) (L2.Q.pe_callBN (call_maxG rfl) (by rfl) tx.z_max bt_max (L2.Q.pa_c (L2.Q.pe_op op_sub (L2.Q.pe_ixK (K' := K) (L2.Q.pv 1) L2.Q.pe_int (fun _ _ => rfl)) L2.Q.pe_int) (L2.Q.pa_c L2.Q.pe_int L2.Q.pa_nil)))))) L2.Q.pss_nil)
      (L2.Q.pss_cons (L2.Q.ps_if (L2.Q.pt_cmpR (r := rEqG K) (op_eqG hu) (L2.Q.pv 2) L2.Q.pe_int (nomark _)) (L2.Q.pss_one (L2.Q.ps_ret (L2.Q.tup2 L2.Q.pe_int (L2.Q.pe_op op_sub (L2.Q.pe_fldK (K' := K) (L2.Q.pv 0) rfl) L2.Q.pe_int)))) L2.Q.pss_nil)
      (L2.Q.pss_one (L2.Q.ps_ret (L2.Q.tup2 L2.Q.pe_int (L2.Q.pe_op op_sub (L2.Q.pe_fldK (K' := K) (L2.Q.pv 0) rfl) L2.Q.pe_int))))))) ?_
    obtain ⟨dx, pl, hq, _⟩ := hm.ex
    refine rd_start (σ := [some (.ref q), some (.ref t), some (.int on)]) rfl ?_
    repeat walk_at "go"
    refine ⟨_, _, _, _, _, rfl, ht, ?_⟩
    repeat walk_at "go"
    rw [show (decide (o = on) || decide (d = 0)) = true by rcases hmay with h | h <;> simp [h]]
    repeat walk_at "go"
    unfold aft at k
    refine rd_dec (fun h => ?_) (fun h => ?_)
    · rw [if_pos h] at k
      repeat walk_at "go"
      intro T nT
      repeat walk_at "go"
      exact k _ _ (Same.new nT) nT upd_same
    · rw [if_neg h] at k
      repeat walk_at "go"
      refine rd_dec (fun h1 => ?_) (fun h1 => ?_)
      · rw [if_pos h1] at k
        repeat walk_at "go"
        refine rd_get hq tx.C_Machine tx.n_Machine_up rfl ?_
        repeat walk_at "go"
        intro T nT
        repeat walk_at "go"
        exact k _ _ (Same.new nT) nT upd_same
      · rw [if_neg h1] at k
        repeat walk_at "go"
        refine rd_get hq tx.C_Machine tx.n_Machine_down rfl ?_
        repeat walk_at "go"
        intro T nT
        repeat walk_at "go"
        exact k _ _ (Same.new nT) nT upd_same
def Bit (o : Int) : Prop := o = 0 ∨ o = 1
theorem aft_ok {m : MS} (hg : m.Good) {o d on : Int} (ho : Bit on) : Bit (aft m o d on).1 ∧ 0 ≤ (aft m o d on).2 := by
  obtain ⟨u0, u1⟩ := hg.up
  obtain ⟨d0, d1⟩ := hg.down
  unfold aft
  split
  · exact ⟨ho, by show 0 ≤ max (d - 1) 0; omega⟩
  · split
    · exact ⟨.inr rfl, by show 0 ≤ m.up - 1; omega⟩
    · exact ⟨.inl rfl, by show 0 ≤ m.down - 1; omega⟩
structure RL {α : Type} (P : Addr → α → Prop) (as : List Addr) (xs : List α) : Prop where
  len : as.length = xs.length
  at_ : ∀ (j : Nat) a x, as[j]? = some a → xs[j]? = some x → P a x
theorem RL.nil {α : Type} {P : Addr → α → Prop} : RL P [] [] := ⟨rfl, fun j a x h => by simp at h⟩
theorem RL.imp {α : Type} {P P' : Addr → α → Prop} {as : List Addr} {xs : List α} (h : RL P as xs) (f : ∀ a x, P a x → P' a x) : RL P' as xs := ⟨h.len, fun j a x h1 h2 => f a x (h.at_ j a x h1 h2)⟩
theorem RL.snoc {α : Type} {P : Addr → α → Prop} {as : List Addr} {xs : List α} (h : RL P as xs) {a : Addr} {x : α} (hp : P a x) : RL P (as ++ [a]) (xs ++ [x]) := by
  refine ⟨by rw [List.length_append, List.length_append, h.len]; rfl, fun j q u hq hu => ?_⟩
  by_cases hj : j < as.length
  · rw [List.getElem?_append_left hj] at hq
    rw [List.getElem?_append_left (by rw [← h.len]; exact hj)] at hu
    exact h.at_ j q u hq hu
  · have hj2 : j < (as ++ [a]).length := (List.getElem?_eq_some_iff.mp hq).1
    rw [List.length_append, List.length_singleton] at hj2
    have e : j = as.length := by omega
    subst e
    rw [List.getElem?_append_right (Nat.le_refl _), Nat.sub_self] at hq
    rw [h.len, List.getElem?_append_right (Nat.le_refl _), Nat.sub_self] at hu
    cases hq
    cases hu
    exact hp
theorem RL.two {α : Type} {P : Addr → α → Prop} {as : List Addr} {xs : List α} (h : RL P as xs) (hl : as.length = 2) : ∃ a b x y, as = [a, b] ∧ xs = [x, y] ∧ P a x ∧ P b y := by
  have hx : xs.length = 2 := by rw [← h.len]; exact hl
  match as, xs, hl, hx with
  | [a, b], [x, y], _, _ => exact ⟨a, b, x, y, rfl, rfl, h.at_ 0 a x rfl rfl, h.at_ 1 b y rfl rfl⟩
def HandSh (o : HO) : Prop := (∃ (d c : Int) (q : Addr), o = .lst [.int d, .int c, .ref q]) ∨ ∃ (C dx : Addr), o = .ins C dx []
def Tr (H H' : Hp) : Prop := ∀ b o, H b = some o → ¬ HandSh o → H' b = some o
theorem Tr.refl (H : Hp) : Tr H H := fun _ _ e _ => e
theorem Tr.trans {H H1 H2 : Hp} (a : Tr H H1) (b : Tr H1 H2) : Tr H H2 := fun c o e n => b c o (a c o e n) n
theorem _root_.L2.Same.tr {H H' : Hp} (s : Same H H') : Tr H H' := fun b o e _ => s b o e
theorem HandAt.tr {H H' : Hp} {p : Addr} (hh : HandAt H p) (k : Keep p H H') : Tr H H' := fun b o e n => k b o e fun z => by
  obtain ⟨d, c, q, ms, hp, _⟩ := hh.ex
  rw [z, hp] at e
  cases e
  exact n (.inl ⟨d, c, q, rfl⟩)
def Tk (H H' : Hp) : Prop := ∀ b xs, H b = some (.tup xs) → H' b = some (.tup xs)
theorem Tk.trans {H H1 H2 : Hp} (a : Tk H H1) (b : Tk H1 H2) : Tk H H2 := fun c o e => b c o (a c o e)
theorem nh_tup {xs : List V} : ¬ HandSh (.tup xs) := fun z => by rcases z with ⟨_, _, _, e⟩ | ⟨_, _, e⟩ <;> cases e
theorem nh_ins {C dx : Addr} {fs : List (Str × V)} (h : fs ≠ []) : ¬ HandSh (.ins C dx fs) := fun z => by
  rcases z with ⟨_, _, _, e⟩ | ⟨_, _, e⟩
  · cases e
  · cases e; exact h rfl
theorem nh_len {xs : List V} (h : xs.length ≠ 3) : ¬ HandSh (.lst xs) := fun z => by
  rcases z with ⟨_, _, _, e⟩ | ⟨_, _, e⟩
  · cases e; exact h rfl
  · cases e
theorem nh_refs {qs : List Addr} : ¬ HandSh (.lst (qs.map V.ref)) := fun z => by
  rcases z with ⟨_, _, _, e⟩ | ⟨_, _, e⟩
  · cases qs with
    | nil => cases e
    | cons x xs => cases e
  · cases e
theorem Tr.tk {H H' : Hp} (s : Tr H H') : Tk H H' := fun b xs e => s b _ e nh_tup
theorem _root_.L2.Same.tk {H H' : Hp} (s : Same H H') : Tk H H' := fun b xs e => s b _ e
def del (l : Addr) (H : Hp) : Hp := fun b => if b = l then none else H b
theorem del_at {l b : Addr} {H : Hp} (n : b ≠ l) : del l H b = H b := by unfold del; rw [if_neg n]
theorem del_le {l : Addr} {H : Hp} : Same (del l H) H := fun b o e => by
  unfold del at e
  split at e
  · cases e
  · exact e
theorem del_l {l : Addr} {H : Hp} : del l H l = none := by unfold del; rw [if_pos rfl]
theorem del_some {l b : Addr} {H : Hp} {o : HO} (e : H b = some o) (n : b ≠ l) : del l H b = some o := by rw [del_at n]; exact e
theorem Tr.del {l : Addr} {H H' : Hp} (s : Tr H H') : Tr (del l H) (del l H') := fun b o e n => by
  by_cases hb : b = l
  · subst hb; rw [del_l] at e; cases e
  · rw [del_at hb] at e ⊢; exact s b o e n
theorem Tup2.tr {H H' : Hp} {qs : List Addr} {ps : List (Int × Int)} (h : Tup2 H qs ps) (s : Tk H H') : Tup2 H' qs ps := ⟨h.len, fun j q t h1 h2 => s _ _ (h.at_ j q t h1 h2)⟩
theorem PcAt.tr {H H' : Hp} {p : Addr} {ps : List (Int × Int)} (h : PcAt H p ps) (s : Tr H H') : PcAt H' p ps := by
  obtain ⟨qs, h1, h2⟩ := h.ex
  exact ⟨qs, s _ _ h1 nh_refs, h2.tr s.tk⟩
theorem SpecAt.tr {H H' : Hp} {p : Addr} {m : MS} (h : SpecAt H p m) (s : Tr H H') : SpecAt H' p m := by
  obtain ⟨pl, h1, h2⟩ := h.ex
  exact ⟨pl, s _ _ h1 (nh_len (by simp)), h2.tr s⟩
theorem MachAt.tr {C : Addr} {H H' : Hp} {p : Addr} {m : MS} (h : MachAt C H p m) (s : Tr H H') : MachAt C H' p m := by
  obtain ⟨dx, pl, h1, h2⟩ := h.ex
  exact ⟨dx, pl, s _ _ h1 (nh_ins (by simp [mFs])), h2.tr s⟩
structure SS where
  cap : Int
  into : Int
  out : Int
  takes : Int
  gives : Int
structure SS.Good (s : SS) : Prop where
  cap : 0 ≤ s.cap ∧ s.cap ≤ 8
  into : 0 ≤ s.into ∧ s.into ≤ 8
  out : 0 ≤ s.out ∧ s.out ≤ 8
  takes : Am s.takes
  gives : Am s.gives
def Lv (s : SS) (l n : Int) : Prop := 0 ≤ n ∧ n ≤ s.cap ∧ l - s.out ≤ n ∧ n ≤ l + s.into
instance (s : SS) (l n : Int) : Decidable (Lv s l n) := by unfold Lv; infer_instance
def dr (s : SS) (l n : Int) : Int := (if l < n then s.takes else s.gives) * (n - l)
def pw (s : SS) : Int → List Int → List Int → Int
  | l, p :: ps, n :: ns => p * dr s l n + pw s n ps ns
  | _, _, _ => 0
def sFs (s : SS) : List (Str × V) := [("cap", .int s.cap), ("into", .int s.into), ("out", .int s.out), ("takes", .int s.takes), ("gives", .int s.gives)]
structure SomeAt (H : Hp) (a : Addr) (s : SS) : Prop where
  at_ : H a = some (.lst [.int s.cap, .int s.into, .int s.out, .int s.takes, .int s.gives])
structure StoreAt (C : Addr) (H : Hp) (x : Addr) (s : SS) : Prop where
  ex : ∃ dx, H x = some (.ins C dx (sFs s))
theorem SomeAt.same {H H' : Hp} {a : Addr} {s : SS} (h : SomeAt H a s) (e : Same H H') : SomeAt H' a s := ⟨e _ _ h.at_⟩
theorem StoreAt.same {C : Addr} {H H' : Hp} {a : Addr} {s : SS} (h : StoreAt C H a s) (e : Same H H') : StoreAt C H' a s := by
  obtain ⟨dx, q⟩ := h.ex
  exact ⟨dx, e _ _ q⟩
theorem SomeAt.tr {H H' : Hp} {a : Addr} {s : SS} (h : SomeAt H a s) (e : Tr H H') : SomeAt H' a s := ⟨e _ _ h.at_ (nh_len (by simp))⟩
theorem StoreAt.tr {C : Addr} {H H' : Hp} {a : Addr} {s : SS} (h : StoreAt C H a s) (e : Tr H H') : StoreAt C H' a s := by
  obtain ⟨dx, q⟩ := h.ex
  exact ⟨dx, e _ _ q (nh_ins (by simp [sFs]))⟩
def StA (H : Hp) (q : Addr) (t : Int × Int) : Prop := H q = some (.tup [.int t.1, .int t.2])
structure StsAt (H : Hp) (t : Addr) (ss : List (Int × Int)) : Prop where
  ex : ∃ qs, H t = some (.tup (qs.map V.ref)) ∧ RL (StA H) qs ss
abbrev Ps := List (Int × Int) × Int
structure PosAt (H : Hp) (a : Addr) (P : Ps) : Prop where
  ex : ∃ t, H a = some (.tup [.ref t, .int P.2]) ∧ StsAt H t P.1
structure Hr where
  ons : List Int
  outs : List Int
  lev : Int
structure HrAt (H : Hp) (a : Addr) (h : Hr) : Prop where
  ex : ∃ t u, H a = some (.tup [.ref t, .ref u, .int h.lev]) ∧ H t = some (.tup (h.ons.map V.int)) ∧ H u = some (.tup (h.outs.map V.int))
structure PlanAt (H : Hp) (a : Addr) (hs : List Hr) : Prop where
  ex : ∃ qs, H a = some (.lst (qs.map V.ref)) ∧ RL (HrAt H) qs hs
structure PossAt (H : Hp) (a : Addr) (hs : List Ps) : Prop where
  ex : ∃ qs, H a = some (.lst (qs.map V.ref)) ∧ RL (PosAt H) qs hs
theorem StsAt.tk {H H' : Hp} {t : Addr} {ss : List (Int × Int)} (h : StsAt H t ss) (s : Tk H H') : StsAt H' t ss := by
  obtain ⟨qs, h1, h2⟩ := h.ex
  exact ⟨qs, s _ _ h1, h2.imp fun a x z => s _ _ z⟩
theorem PosAt.tk {H H' : Hp} {a : Addr} {P : Ps} (h : PosAt H a P) (s : Tk H H') : PosAt H' a P := by
  obtain ⟨t, h1, h2⟩ := h.ex
  exact ⟨t, s _ _ h1, h2.tk s⟩
theorem HrAt.tk {H H' : Hp} {a : Addr} {h : Hr} (x : HrAt H a h) (s : Tk H H') : HrAt H' a h := by
  obtain ⟨t, u, h1, h2, h3⟩ := x.ex
  exact ⟨t, u, s _ _ h1, s _ _ h2, s _ _ h3⟩
theorem PlanAt.tr {H H' : Hp} {a : Addr} {hs : List Hr} (x : PlanAt H a hs) (s : Tr H H') : PlanAt H' a hs := by
  obtain ⟨qs, h1, h2⟩ := x.ex
  exact ⟨qs, s _ _ h1 nh_refs, h2.imp fun a x z => z.tk s.tk⟩
theorem PossAt.tr {H H' : Hp} {a : Addr} {hs : List Ps} (x : PossAt H a hs) (s : Tr H H') : PossAt H' a hs := by
  obtain ⟨qs, h1, h2⟩ := x.ex
  exact ⟨qs, s _ _ h1 nh_refs, h2.imp fun a x z => z.tk s.tk⟩
structure WS where
  specs : List MS
  store : Option SS
  lack : Int
  x : Int
  y : Int
  wide : Int
structure WS.Good (W : WS) : Prop where
  specs : ∀ m ∈ W.specs, m.Good
  len : W.specs.length ≤ 6
  store : ∀ s, W.store = some s → s.Good
  lack : Am W.lack
  x : 1 ≤ W.x ∧ W.x ≤ 50000000000
  y : 1 ≤ W.y ∧ W.y ≤ 50000000000
  wide : W.wide = 0 ∨ W.wide = 1
structure SpecsAt (H : Hp) (l : Addr) (ms : List MS) : Prop where
  ex : ∃ qs, H l = some (.lst (qs.map V.ref)) ∧ RL (SpecAt H) qs ms
structure MachsAt (C : Addr) (H : Hp) (l : Addr) (ms : List MS) : Prop where
  ex : ∃ qs, H l = some (.lst (qs.map V.ref)) ∧ RL (MachAt C H) qs ms
def StoS (H : Hp) (v : V) : Option SS → Prop
  | none => v = .non
  | some s => ∃ a, v = .ref a ∧ SomeAt H a s
def StoO (C : Addr) (H : Hp) (v : V) : Option SS → Prop
  | none => v = .non
  | some s => ∃ a, v = .ref a ∧ StoreAt C H a s
theorem SpecsAt.tr {H H' : Hp} {l : Addr} {ms : List MS} (h : SpecsAt H l ms) (s : Tr H H') : SpecsAt H' l ms := by
  obtain ⟨qs, h1, h2⟩ := h.ex
  exact ⟨qs, s _ _ h1 nh_refs, h2.imp fun a x z => z.tr s⟩
theorem MachsAt.tr {C : Addr} {H H' : Hp} {l : Addr} {ms : List MS} (h : MachsAt C H l ms) (s : Tr H H') : MachsAt C H' l ms := by
  obtain ⟨qs, h1, h2⟩ := h.ex
  exact ⟨qs, s _ _ h1 nh_refs, h2.imp fun a x z => z.tr s⟩
theorem StoS.tr {H H' : Hp} {v : V} : ∀ {o : Option SS}, StoS H v o → Tr H H' → StoS H' v o
  | none, h, _ => h
  | some s, ⟨a, e, h⟩, t => ⟨a, e, h.tr t⟩
theorem StoO.tr {C : Addr} {H H' : Hp} {v : V} : ∀ {o : Option SS}, StoO C H v o → Tr H H' → StoO C H' v o
  | none, h, _ => h
  | some s, ⟨a, e, h⟩, t => ⟨a, e, h.tr t⟩
structure WSpecAt (H : Hp) (a : Addr) (W : WS) : Prop where
  ex : ∃ ls st b, H a = some (.lst [.ref ls, st, .int W.lack, .ref b, .int W.wide]) ∧ SpecsAt H ls W.specs ∧ StoS H st W.store ∧ H b = some (.lst [.int W.x, .int W.y])
theorem WSpecAt.tr {H H' : Hp} {a : Addr} {W : WS} (h : WSpecAt H a W) (s : Tr H H') : WSpecAt H' a W := by
  obtain ⟨ls, st, b, h1, h2, h3, h4⟩ := h.ex
  exact ⟨ls, st, b, s _ _ h1 (nh_len (by simp)), h2.tr s, h3.tr s, s _ _ h4 (nh_len (by simp))⟩
def wFs (lm : Addr) (st : V) (k : Int) : List (Str × V) := [("machines", .ref lm), ("store", st), ("lack", .int k)]
structure WorksAt (CW CM CS : Addr) (H : Hp) (w : Addr) (W : WS) : Prop where
  ex : ∃ dx lm st, H w = some (.ins CW dx (wFs lm st W.lack)) ∧ MachsAt CM H lm W.specs ∧ StoO CS H st W.store
theorem WorksAt.tr {CW CM CS : Addr} {H H' : Hp} {w : Addr} {W : WS} (h : WorksAt CW CM CS H w W) (s : Tr H H') : WorksAt CW CM CS H' w W := by
  obtain ⟨dx, lm, st, h1, h2, h3⟩ := h.ex
  exact ⟨dx, lm, st, s _ _ h1 (nh_ins (by simp [wFs])), h2.tr s, h3.tr s⟩
def VS (s : Int × Int) : Prop := Bit s.1 ∧ 0 ≤ s.2
def aftL : List MS → List (Int × Int) → List Int → List (Int × Int)
  | m :: ms, s :: ss, o :: os => aft m s.1 s.2 o :: aftL ms ss os
  | _, _, _ => []
theorem aftL_len : ∀ {ms : List MS} {ss : List (Int × Int)} {os : List Int}, ss.length = ms.length → os.length = ms.length → (aftL ms ss os).length = ms.length
  | [], _, _, _, _ => by simp [aftL]
  | m :: ms, s :: ss, o :: os, h1, h2 => by
    show (aft m s.1 s.2 o :: aftL ms ss os).length = _
    rw [List.length_cons, aftL_len (by simpa using h1) (by simpa using h2), List.length_cons]
  | _ :: _, [], _, h, _ => by cases h
  | _ :: _, _ :: _, [], _, h => by cases h
theorem aftL_get : ∀ {ms : List MS} {ss : List (Int × Int)} {os : List Int} {j : Nat} {m : MS} {s : Int × Int} {o : Int}, ms[j]? = some m → ss[j]? = some s → os[j]? = some o → (aftL ms ss os)[j]? = some (aft m s.1 s.2 o)
  | m :: ms, s :: ss, o :: os, 0, _, _, _, h1, h2, h3 => by cases h1; cases h2; cases h3; rfl
  | m :: ms, s :: ss, o :: os, j + 1, _, _, _, h1, h2, h3 => by
    show (aftL ms ss os)[j]? = _
    exact aftL_get h1 h2 h3
  | [], _, _, _, _, _, _, h, _, _ => by simp at h
  | _ :: _, [], _, _, _, _, _, _, h, _ => by simp at h
  | _ :: _, _ :: _, [], _, _, _, _, _, _, h => by simp at h
def May (ss : List (Int × Int)) (os : List Int) : Prop := ∀ (j : Nat) (s : Int × Int) (o : Int), ss[j]? = some s → os[j]? = some o → s.1 = o ∨ s.2 = 0
def LevOk (W : WS) (l : Int) : Prop := match W.store with | none => l = 0 | some s => 0 ≤ l ∧ l ≤ s.cap
def LvW (W : WS) (l n : Int) : Prop := match W.store with | none => n = 0 | some s => Lv s l n
structure PosOk (W : WS) (P : Ps) : Prop where
  len : P.1.length = W.specs.length
  vs : ∀ s ∈ P.1, VS s
  lev : LevOk W P.2
def OutOk (m : MS) (on out : Int) : Prop := (on = 0 → out = 0) ∧ (on ≠ 0 → m.least ≤ out ∧ out ≤ m.least + sumA m.pieces)
structure HourOk (W : WS) (P : Ps) (h : Hr) : Prop where
  ons : h.ons.length = W.specs.length
  outs : h.outs.length = W.specs.length
  bits : ∀ o ∈ h.ons, Bit o
  may : May P.1 h.ons
  out : ∀ (j : Nat) m on out, W.specs[j]? = some m → h.ons[j]? = some on → h.outs[j]? = some out → OutOk m on out
  lev : LvW W P.2 h.lev
def nxt (W : WS) (P : Ps) (h : Hr) : Ps := (aftL W.specs P.1 h.ons, h.lev)
theorem LvW.ok {W : WS} {l n : Int} (h : LvW W l n) : LevOk W n := by
  unfold LvW at h
  unfold LevOk
  cases e : W.store with
  | none => rw [e] at h; exact h
  | some s => rw [e] at h; exact ⟨h.1, h.2.1⟩
theorem HourOk.nxt {W : WS} {P : Ps} {h : Hr} (g : W.Good) (p : PosOk W P) (x : HourOk W P h) : PosOk W (nxt W P h) := by
  refine ⟨aftL_len p.len x.ons, fun s hs => ?_, x.lev.ok⟩
  obtain ⟨j, hj⟩ := List.getElem?_of_mem hs
  have hl := aftL_len p.len x.ons
  have hj' : j < W.specs.length := by rw [← hl]; exact (List.getElem?_eq_some_iff.mp hj).1
  have g1 : W.specs[j]? = some W.specs[j] := List.getElem?_eq_getElem hj'
  have g2 : P.1[j]? = some (P.1[j]'(by rw [p.len]; exact hj')) := List.getElem?_eq_getElem _
  have g3 : h.ons[j]? = some (h.ons[j]'(by rw [x.ons]; exact hj')) := List.getElem?_eq_getElem _
  replace hj : (aftL W.specs P.1 h.ons)[j]? = some s := hj
  rw [aftL_get g1 g2 g3] at hj
  cases hj
  exact aft_ok (g.specs _ (List.getElem_mem hj')) (x.bits _ (List.mem_of_getElem? g3))
def PlanOk (W : WS) : Ps → List Hr → Prop
  | _, [] => True
  | P, h :: hs => HourOk W P h ∧ PlanOk W (nxt W P h) hs
def endP (W : WS) : Ps → List Hr → Ps
  | P, [] => P
  | P, h :: hs => endP W (nxt W P h) hs
theorem PlanOk.snoc {W : WS} : ∀ {P : Ps} {hs : List Hr} {h : Hr}, PlanOk W P hs → HourOk W (endP W P hs) h → PlanOk W P (hs ++ [h])
  | _, [], _, _, x => ⟨x, trivial⟩
  | P, g :: hs, h, p, x => ⟨p.1, PlanOk.snoc p.2 x⟩
theorem PlanOk.pos {W : WS} (g : W.Good) : ∀ {P : Ps} {hs : List Hr}, PosOk W P → PlanOk W P hs → PosOk W (endP W P hs)
  | _, [], p, _ => p
  | P, h :: hs, p, x => PlanOk.pos (P := nxt W P h) (hs := hs) g (x.1.nxt g p) x.2
theorem PlanOk.take {W : WS} : ∀ {P : Ps} {hs : List Hr} {i : Nat} {h : Hr}, PlanOk W P hs → hs[i]? = some h → PlanOk W P (hs.take i) ∧ HourOk W (endP W P (hs.take i)) h
  | P, g :: hs, 0, h, x, e => by cases e; exact ⟨trivial, x.1⟩
  | P, g :: hs, i + 1, h, x, e => by
    have := PlanOk.take (i := i) (h := h) x.2 e
    exact ⟨⟨x.1, this.1⟩, this.2⟩
  | _, [], _, _, _, e => by simp at e
theorem take_snoc {α : Type} {l : List α} {i : Nat} {x : α} (h : l[i]? = some x) : l.take (i + 1) = l.take i ++ [x] := by
  rw [List.take_add_one, h]; rfl
theorem RL.get {α : Type} {P : Addr → α → Prop} {as : List Addr} {xs : List α} (h : RL P as xs) {i : Nat} {v : V} (hv : (as.map V.ref)[i]? = some v) : ∃ a x, as[i]? = some a ∧ v = .ref a ∧ xs[i]? = some x ∧ P a x := by
  rw [List.getElem?_map] at hv
  cases hq : as[i]? with
  | none => rw [hq] at hv; cases hv
  | some a =>
    rw [hq] at hv
    cases hv
    have li : i < xs.length := by rw [← h.len]; exact (List.getElem?_eq_some_iff.mp hq).1
    have hx : xs[i]? = some xs[i] := List.getElem?_eq_getElem li
    exact ⟨a, xs[i], rfl, rfl, hx, h.at_ i a _ hq hx⟩
theorem RL.ix {α : Type} {P : Addr → α → Prop} {as : List Addr} {xs : List α} (h : RL P as xs) {i : Nat} (hi : i < xs.length) : ∃ a, as[i]? = some a ∧ P a xs[i] := by
  have li : i < as.length := by rw [h.len]; exact hi
  have ha : as[i]? = some as[i] := List.getElem?_eq_getElem li
  exact ⟨as[i], ha, h.at_ i _ _ ha (List.getElem?_eq_getElem hi)⟩
theorem int_get {ns : List Int} {i : Nat} {x : V} (h : (ns.map V.int)[i]? = some x) : ∃ n, ns[i]? = some n ∧ x = .int n := by
  rw [List.getElem?_map] at h
  cases hq : ns[i]? with
  | none => rw [hq] at h; cases h
  | some n => rw [hq] at h; cases h; exact ⟨n, rfl, rfl⟩
theorem RL.last {α : Type} {P : Addr → α → Prop} {as : List Addr} {xs : List α} {x : α} (h : RL P as (xs ++ [x])) : ∃ bs b, as = bs ++ [b] ∧ P b x := by
  have hl := h.len
  rw [List.length_append, List.length_singleton] at hl
  have hlt : xs.length < as.length := by omega
  refine ⟨as.take xs.length, as[xs.length], ?_, h.at_ xs.length _ _ (List.getElem?_eq_getElem hlt) (by simp)⟩
  have e := List.take_append_drop xs.length as
  rw [List.drop_eq_getElem_cons hlt, List.drop_of_length_le (by omega)] at e
  exact e.symm
theorem RL.take {α : Type} {P : Addr → α → Prop} {as : List Addr} {xs : List α} (h : RL P as xs) (i : Nat) : RL P (as.take i) (xs.take i) := by
  refine ⟨by rw [List.length_take, List.length_take, h.len], fun j a x h1 h2 => ?_⟩
  rw [List.getElem?_take] at h1 h2
  split at h1
  · rename_i hj
    rw [if_pos hj] at h2
    exact h.at_ j a x h1 h2
  · cases h1
theorem RL.drop {α : Type} {P : Addr → α → Prop} {as : List Addr} {xs : List α} (h : RL P as xs) (i : Nat) : RL P (as.drop i) (xs.drop i) := by
  refine ⟨by rw [List.length_drop, List.length_drop, h.len], fun j a x h1 h2 => ?_⟩
  rw [List.getElem?_drop] at h1 h2
  exact h.at_ _ a x h1 h2
theorem StA.sm {H : Hp} {j : Nat} {p q : Addr} {t : Int × Int} (h1 : StA H p t) (h2 : StA H q t) : SmV H (j + 2) (.ref p) (.ref q) := SmV.pair h1 h2
theorem RL.smT {H : Hp} {α : Type} {P : Addr → α → Prop} {j : Nat} {p q : Addr} {as bs : List Addr} {xs : List α} (h1 : H p = some (.tup (as.map V.ref))) (h2 : H q = some (.tup (bs.map V.ref))) (r1 : RL P as xs) (r2 : RL P bs xs) (hl : xs.length ≤ 1000000) (f : ∀ a b x, P a x → P b x → SmV H j (.ref a) (.ref b)) : SmV H (j + 1) (.ref p) (.ref q) := by
  refine .inr (.inr (.inr (.inr ⟨p, q, _, _, rfl, rfl, .inl ⟨h1, h2⟩, by rw [List.length_map, List.length_map, r1.len, r2.len], by rw [List.length_map, r2.len]; exact hl, fun i u v hu hv => ?_⟩)))
  rw [List.getElem?_map] at hu hv
  cases ea : as[i]? with
  | none => rw [ea] at hu; cases hu
  | some a =>
    cases eb : bs[i]? with
    | none => rw [eb] at hv; cases hv
    | some b =>
      rw [ea] at hu
      rw [eb] at hv
      cases hu
      cases hv
      have li : i < xs.length := by rw [← r1.len]; exact (List.getElem?_eq_some_iff.mp ea).1
      exact f a b _ (r1.at_ i a _ ea (List.getElem?_eq_getElem li)) (r2.at_ i b _ eb (List.getElem?_eq_getElem li))
theorem PosAt.sm {H : Hp} {j : Nat} {p q : Addr} {P : Ps} (h1 : PosAt H p P) (h2 : PosAt H q P) (hl : P.1.length ≤ 1000000) : SmV H (j + 4) (.ref p) (.ref q) := by
  obtain ⟨t, a1, s1⟩ := h1.ex
  obtain ⟨u, a2, s2⟩ := h2.ex
  obtain ⟨qs, b1, r1⟩ := s1.ex
  obtain ⟨qs', b2, r2⟩ := s2.ex
  refine .inr (.inr (.inr (.inr ⟨p, q, _, _, rfl, rfl, .inl ⟨a1, a2⟩, rfl, by simp, fun i x y hx hy => ?_⟩)))
  match i, hx, hy with
  | 0, hx, hy => cases hx; cases hy; exact RL.smT b1 b2 r1 r2 hl fun a b x z1 z2 => StA.sm z1 z2
  | 1, hx, hy => cases hx; cases hy; exact SmV.int _
  | _ + 2, hx, _ => simp at hx
def sp__law_state (K : PySem.W.Frag) : Sp := fun vs H Q _ => ∃ (p s : Addr) (m : MS), vs = [.ref p, .ref s] ∧ HandAt H p ∧ SpecAt H s m ∧ m.Good ∧
  ∀ (t : Addr) (o d : Int) H', H' t = some (.tup [.int o, .int d]) → ((o = 1 ∧ 0 ≤ d ∧ d < m.up) ∨ (o = 0 ∧ 0 ≤ d ∧ d < 60)) → HandAt H' p → Keep p H H' → Q (.ref t) H'
set_option maxHeartbeats 40000000 in
theorem ok__law_state {P : Program} {w : World} {K : PySem.W.Frag} {mg : Str → Option Value} {base : Heap} {a : Adr} (tx : Txt K mg a) : FnOk P w K mg base CX0 2 a.f__law_state a.d__law_state ["_law_hand", "_law_spec_here"] (sp__law_state K) := by
  have G__law_draw := ok__law_draw (P := P) (w := w) (base := base) tx
  refine tx.F__law_state.ok sc__law_state (fun vs H Q E h => ?_) (fun cdv A outer s H vs Q E hr h => ?_)
  · obtain ⟨p, s, m, rfl, _⟩ := h
    rfl
  · obtain ⟨p, s, m, rfl , hh, hs, hg, k⟩ := h
    have hu := hu9 hr
    refine L2.Q.root (L2.Q.pss_cons (L2.Q.ps_if (L2.Q.pt_cmpR (r := rEqG K) (op_eqG hu) (L2.Q.pe_callN (G__law_draw) (hr.mono (by decide)) (by rfl) tx.g__law_draw tx.F__law_draw.kp tx.b__law_draw .nil pass0 (L2.Q.pa_c (L2.Q.pv 0) (L2.Q.pa_c L2.Q.pe_int L2.Q.pa_nil))) L2.Q.pe_int (nomark _)) (L2.Q.pss_one (L2.Q.ps_ret (L2.Q.tup2 L2.Q.pe_int (L2.Q.pe_callN (G__law_draw) (hr.mono (by decide)) (by rfl) tx.g__law_draw tx.F__law_draw.kp tx.b__law_draw .nil pass0 (L2.Q.pa_c (L2.Q.pv 0) (L2.Q.pa_c (L2.Q.pe_ixK (K' := K) (L2.Q.pv 1) L2.Q.pe_int (fun _ _ => rfl)) L2.Q.pa_nil)))))) L2.Q.pss_nil)
      (L2.Q.pss_cons (L2.Q.ps_if (L2.Q.pt_cmpR (r := rEqG K) (op_eqG hu) (L2.Q.pe_callN (G__law_draw) (hr.mono (by decide)) (by rfl) tx.g__law_draw tx.F__law_draw.kp tx.b__law_draw .nil pass0 (L2.Q.pa_c (L2.Q.pv 0) (L2.Q.pa_c L2.Q.pe_int L2.Q.pa_nil))) L2.Q.pe_int (nomark _)) (L2.Q.pss_one (L2.Q.ps_ret (L2.Q.tup2 L2.Q.pe_int (L2.Q.pe_callN (G__law_draw) (hr.mono (by decide)) (by rfl) tx.g__law_draw tx.F__law_draw.kp tx.b__law_draw .nil pass0 (L2.Q.pa_c (L2.Q.pv 0) (L2.Q.pa_c L2.Q.pe_int L2.Q.pa_nil)))))) L2.Q.pss_nil)
      (L2.Q.pss_one (L2.Q.ps_ret (L2.Q.tup2 L2.Q.pe_int (L2.Q.pe_callN (G__law_draw) (hr.mono (by decide)) (by rfl) tx.g__law_draw tx.F__law_draw.kp tx.b__law_draw .nil pass0 (L2.Q.pa_c (L2.Q.pv 0) (L2.Q.pa_c (L2.Q.pe_ixK (K' := K) (L2.Q.pv 1) L2.Q.pe_int (fun _ _ => rfl)) L2.Q.pa_nil)))))))) ?_
    obtain ⟨u0, u1⟩ := hg.up
    obtain ⟨d0, d1⟩ := hg.down
    refine rd_start (σ := [some (.ref p), some (.ref s)]) rfl ?_
    repeat walk_at "go"
    refine ⟨p, _, rfl, hh, by decide, by decide, fun r1 H1 a1 b1 h1 k1 _ => ?_⟩
    have hs1 := hs.keep hh k1
    obtain ⟨pl, e1, _⟩ := hs1.ex
    repeat walk_at "go"
    refine rd_dec (fun h => ?_) (fun h => ?_)
    · repeat walk_at "go"
      refine ⟨p, _, rfl, h1, by omega, by omega, fun r2 H2 a2 b2 h2 k2 _ => ?_⟩
      repeat walk_at "go"
      intro T nT
      repeat walk_at "go"
      exact k _ _ _ _ upd_same (.inl ⟨rfl, a2, b2⟩) (h2.same (Same.new nT)) (k1.trans (k2.trans (Same.new nT).keep))
    · repeat walk_at "go"
      refine ⟨p, _, rfl, h1, by decide, by decide, fun r2 H2 a2 b2 h2 k2 _ => ?_⟩
      have hs2 := hs1.keep h1 k2
      obtain ⟨pl2, e2, _⟩ := hs2.ex
      repeat walk_at "go"
      refine rd_dec (fun h => ?_) (fun h => ?_)
      · repeat walk_at "go"
        refine ⟨p, _, rfl, h2, by decide, by decide, fun r3 H3 a3 b3 h3 k3 _ => ?_⟩
        repeat walk_at "go"
        intro T nT
        repeat walk_at "go"
        exact k _ _ _ _ upd_same (.inr ⟨rfl, a3, b3⟩) (h3.same (Same.new nT)) (k1.trans (k2.trans (k3.trans (Same.new nT).keep)))
      · repeat walk_at "go"
        refine ⟨p, _, rfl, h2, by omega, by omega, fun r3 H3 a3 b3 h3 k3 _ => ?_⟩
        repeat walk_at "go"
        intro T nT
        repeat walk_at "go"
        exact k _ _ _ _ upd_same (.inr ⟨rfl, a3, by omega⟩) (h3.same (Same.new nT)) (k1.trans (k2.trans (k3.trans (Same.new nT).keep)))
def flt (m : MS) : Int → Int → List Int → Nat → V
  | _, _, [], _ => .non
  | o, d, on :: r, i => if o = on ∨ d = 0 then flt m (aft m o d on).1 (aft m o d on).2 r (i + 1) else .int i
def bgs : Int → List Int → Nat → List Int
  | _, [], _ => []
  | o, on :: r, i => (if on = 1 ∧ o = 0 then [(i : Int)] else []) ++ bgs on r (i + 1)
def rcst (m : MS) (o : Int) (ns : List Int) : Int := m.begin_ * ((bgs o ns 0).length : Int) + m.run * (ns.count 1 : Nat) + m.rest * (ns.count 0 : Nat)
def Ok (m : MS) : Int → Int → List Int → Prop
  | _, _, [] => True
  | o, d, on :: r => (o = on ∨ d = 0) ∧ Ok m (aft m o d on).1 (aft m o d on).2 r
def ed (m : MS) : Int → Int → List Int → Int × Int
  | o, d, [] => (o, d)
  | o, d, on :: r => ed m (aft m o d on).1 (aft m o d on).2 r
def St0 (o d : Int) : Prop := Bit o ∧ 0 ≤ d ∧ d < 60
theorem St0.aft {m : MS} (g : m.Good) {o d on : Int} (h : St0 o d) (b : Bit on) : St0 (aft m o d on).1 (aft m o d on).2 := by
  obtain ⟨h0, h1, h2⟩ := h
  refine ⟨(aft_ok g b).1, (aft_ok g b).2, ?_⟩
  have u := g.up
  have v := g.down
  unfold My.aft
  split
  · show max (d - 1) 0 < 60; omega
  · split
    · show m.up - 1 < 60; omega
    · show m.down - 1 < 60; omega
def tP (m : MS) (on : Int) (f : Int → Int → Int) (o d : Int) : Int := if o = on ∨ d = 0 then f (aft m o d on).1 (aft m o d on).2 else 0
def tB (m : MS) (f : Int → Int → Int) (o d : Int) : Int := tP m 0 f o d + tP m 1 f o d
def one (_ _ : Int) : Int := 1
abbrev WP := (Int × Int) × Int
def encK (k : Int × Int) : List Key := [.inl k.1, .inl k.2]
def enc (ps : List WP) : List (List Key × V) := ps.map fun p => (encK p.1, V.int p.2)
theorem encK_inj {a b : Int × Int} (h : encK a = encK b) : a = b := by
  unfold encK at h
  simp only [List.cons.injEq, Sum.inl.injEq, and_true] at h
  exact Prod.ext h.1 h.2
def getW (ps : List WP) (k : Int × Int) : Option Int := (ps.find? fun p => decide (p.1 = k)).map (·.2)
def addW (ps : List WP) (k : Int × Int) (v : Int) : List WP := if ps.any (fun p => decide (p.1 = k)) then ps.map (fun p => if p.1 = k then (p.1, v) else p) else ps ++ [(k, v)]
theorem enc_get (ps : List WP) (k : Int × Int) : valV (enc ps) (encK k) = (getW ps k).map V.int := by
  unfold valV getW enc
  induction ps with
  | nil => rfl
  | cons p r ih =>
    by_cases h : p.1 = k
    · simp [h]
    · have : encK p.1 ≠ encK k := fun z => h (encK_inj z)
      simp only [List.map_cons, List.find?_cons, this, h, decide_false]
      exact ih
theorem enc_put (ps : List WP) (k : Int × Int) (v : Int) : putK (enc ps) (encK k) (.int v) = enc (addW ps k v) := by
  unfold putK addW enc
  have e : ((ps.map fun p : WP => (encK p.1, V.int p.2)).any fun kv => decide (kv.1 = encK k)) = ps.any fun p => decide (p.1 = k) := by
    rw [List.any_map]
    congr 1
    funext p
    show decide (encK p.1 = encK k) = decide (p.1 = k)
    exact decide_eq_decide.mpr ⟨encK_inj, fun z => by rw [z]⟩
  rw [e]
  split
  · rw [List.map_map, List.map_map]
    congr 1
    funext p
    show (if encK p.1 = encK k then (encK p.1, V.int v) else (encK p.1, V.int p.2)) = (encK (if p.1 = k then (p.1, v) else p).1, V.int (if p.1 = k then (p.1, v) else p).2)
    by_cases h : p.1 = k
    · rw [if_pos h, if_pos (by rw [h])]
    · rw [if_neg h, if_neg fun z => h (encK_inj z)]
  · rw [List.map_append]
    rfl
def wsum (f : Int → Int → Int) (ps : List WP) : Int := List.sum (ps.map fun p => p.2 * f p.1.1 p.1.2)
theorem wsum_cons (f : Int → Int → Int) (p : WP) (ps : List WP) : wsum f (p :: ps) = p.2 * f p.1.1 p.1.2 + wsum f ps := rfl
theorem wsum_app (f : Int → Int → Int) (ps qs : List WP) : wsum f (ps ++ qs) = wsum f ps + wsum f qs := by
  unfold wsum
  rw [List.map_append, List.sum_append]
theorem addW_ok {ps : List WP} {k : Int × Int} {c : Int} (nd : (ps.map (·.1)).Nodup) : ((addW ps k ((getW ps k).getD 0 + c)).map (·.1)).Nodup ∧ (∀ p ∈ addW ps k ((getW ps k).getD 0 + c), p.1 = k ∨ ∃ q ∈ ps, q.1 = p.1) ∧ ∀ f, wsum f (addW ps k ((getW ps k).getD 0 + c)) = wsum f ps + c * f k.1 k.2 := by
  unfold addW
  by_cases h : ps.any (fun p => decide (p.1 = k)) = true
  · rw [if_pos h]
    refine ⟨?_, fun p hp => ?_, fun f => ?_⟩
    · rw [List.map_map]
      have e : ((fun p : WP => p.1) ∘ fun p : WP => if p.1 = k then (p.1, (getW ps k).getD 0 + c) else p) = fun p => p.1 := by
        funext p
        show (if p.1 = k then (p.1, (getW ps k).getD 0 + c) else p).1 = p.1
        split <;> rfl
      rw [e]
      exact nd
    · obtain ⟨q, hq, rfl⟩ := List.mem_map.mp hp
      refine .inr ⟨q, hq, ?_⟩
      split <;> rfl
    · have key : ∀ (qs : List WP), (qs.map (·.1)).Nodup → qs.any (fun p => decide (p.1 = k)) = true → ∀ v, (getW qs k).getD 0 + c = v → wsum f (qs.map fun p => if p.1 = k then (p.1, v) else p) = wsum f qs + c * f k.1 k.2 := by
        intro qs
        induction qs with
        | nil => intro _ z; cases z
        | cons p r ih =>
          intro nd h v hv
          rw [List.map_cons, List.nodup_cons] at nd
          rw [List.map_cons, wsum_cons, wsum_cons]
          by_cases hp : p.1 = k
          · have hn : ∀ q ∈ r, ¬ q.1 = k := fun q hq z => nd.1 (List.mem_map.mpr ⟨q, hq, by rw [z, hp]⟩)
            have e1 : (r.map fun p => if p.1 = k then (p.1, v) else p) = r := by
              conv => rhs; rw [← List.map_id r]
              exact List.map_congr_left fun q hq => if_neg (hn q hq)
            have e2 : getW (p :: r) k = some p.2 := by unfold getW; simp [hp]
            rw [e2] at hv
            rw [e1, if_pos hp, ← hv, hp]
            show (p.2 + c) * f k.1 k.2 + wsum f r = _
            rw [Int.add_mul]
            omega
          · have h' : r.any (fun p => decide (p.1 = k)) = true := by simpa [hp] using h
            have e2 : getW (p :: r) k = getW r k := by unfold getW; simp [hp]
            rw [e2] at hv
            rw [if_neg hp, ih nd.2 h' v hv]
            omega
      exact key ps nd h _ rfl
  · have hn : getW ps k = none := by
      unfold getW
      rw [Option.map_eq_none_iff, List.find?_eq_none]
      intro p hp z
      exact h (List.any_eq_true.mpr ⟨p, hp, z⟩)
    rw [if_neg h, hn]
    refine ⟨?_, fun p hp => ?_, fun f => ?_⟩
    · rw [List.map_append, List.nodup_append]
      refine ⟨nd, by simp, fun a ha b hb => ?_⟩
      rw [List.map_cons, List.map_nil, List.mem_singleton] at hb
      rintro rfl
      obtain ⟨q, hq, e⟩ := List.mem_map.mp ha
      exact h (List.any_eq_true.mpr ⟨q, hq, by simpa using e.trans hb⟩)
    · rcases List.mem_append.mp hp with z | z
      · exact .inr ⟨p, z, rfl⟩
      · rw [List.mem_singleton.mp z]; exact .inl rfl
    · rw [wsum_app]
      show _ + ((0 + c) * f k.1 k.2 + 0) = _
      rw [Int.zero_add, Int.add_zero]
theorem nd_le : ∀ (n : Nat) (l : List Nat), l.Nodup → (∀ x ∈ l, x < n) → l.length ≤ n
  | 0, l, _, h => by
    cases l with
    | nil => exact Nat.le_refl _
    | cons x r => exact absurd (h x (.head _)) (by omega)
  | n + 1, l, nd, h => by
    have := nd_le n (l.erase n) (nd.erase n) (fun x hx => by
      have h1 := (nd.mem_erase_iff.mp hx)
      have := h x h1.2
      have := h1.1
      omega)
    rw [List.length_erase] at this
    split at this <;> omega
structure Ways (ps : List WP) : Prop where
  nd : (ps.map (·.1)).Nodup
  st : ∀ p ∈ ps, St0 p.1.1 p.1.2
theorem Ways.len {ps : List WP} (h : Ways ps) : ps.length ≤ 120 := by
  have := nd_le 120 ((ps.map (·.1)).map fun k => (k.1 * 60 + k.2).toNat) (by
    rw [List.Nodup, List.pairwise_map]
    refine h.nd.imp_of_mem ?_
    intro a b ha hb hab z
    obtain ⟨p, hp, rfl⟩ := List.mem_map.mp ha
    obtain ⟨q, hq, rfl⟩ := List.mem_map.mp hb
    obtain ⟨a1, a2, a3⟩ := h.st p hp
    obtain ⟨b1, b2, b3⟩ := h.st q hq
    refine hab (Prod.ext ?_ ?_)
    · rcases a1 with a1 | a1 <;> rcases b1 with b1 | b1 <;> rw [a1, b1] <;> rw [a1, b1] at z <;> omega
    · rcases a1 with a1 | a1 <;> rcases b1 with b1 | b1 <;> rw [a1, b1] at z <;> omega) (fun x hx => by
    obtain ⟨k, hk, rfl⟩ := List.mem_map.mp hx
    obtain ⟨p, hp, rfl⟩ := List.mem_map.mp hk
    obtain ⟨a1, a2, a3⟩ := h.st p hp
    rcases a1 with a1 | a1 <;> rw [a1] <;> omega)
  simpa using this
theorem Ways.add {ps : List WP} (h : Ways ps) {k : Int × Int} (hk : St0 k.1 k.2) (c : Int) : Ways (addW ps k ((getW ps k).getD 0 + c)) := by
  obtain ⟨h1, h2, _⟩ := addW_ok (k := k) (c := c) h.nd
  refine ⟨h1, fun p hp => ?_⟩
  rcases h2 p hp with z | ⟨q, hq, z⟩
  · rw [z]; exact hk
  · rw [← z]; exact h.st q hq
section
variable {α : Type}
abbrev Wy (α : Type) := Int × α × Int
structure Lay (W : Nat → α → List (Wy α)) (n : Nat) (L : Nat → α → Prop) : Prop where
  ne : ∀ i x, i < n → L i x → W i x ≠ []
  on : ∀ i x w, i < n → L i x → w ∈ W i x → L (i + 1) w.2.1
end
inductive PK (α : Type) where
  | ik (f : α → Key) (inj : ∀ x y, f x = f y → x = y)
  | tk (f : α → List Key) (inj : ∀ x y, f x = f y → x = y)
def PK.pv {α : Type} : PK α → Hp → V → α → Prop
  | .ik f _, _, v, x => v = kV (f x)
  | .tk f _, H, v, x => ∃ b, v = .ref b ∧ H b = some (.tup ((f x).map kV))
def PK.da {α : Type} : PK α → Hp → Addr → List α → (α → Int) → Prop
  | .ik f _, H, d, ps, g => H d = some (.dK (ps.map fun x => (f x, .int (g x))))
  | .tk f _, H, d, ps, g => H d = some (.dT (ps.map fun x => (f x, .int (g x))))
section
variable {α : Type} {κ : PK α} {H H' : Hp} {v : V} {x : α} {d : Addr} {ps : List α} {g g' : α → Int}
theorem PK.pv_same (h : κ.pv H v x) (s : Same H H') : κ.pv H' v x := by
  cases κ with
  | ik f i => exact h
  | tk f i => obtain ⟨b, e, hb⟩ := h; exact ⟨b, e, s _ _ hb⟩
theorem PK.da_same (h : κ.da H d ps g) (s : Same H H') : κ.da H' d ps g := by
  cases κ with
  | ik f i => exact s _ _ h
  | tk f i => exact s _ _ h
theorem valV_map {κ' : Type} [DecidableEq κ'] {f : α → κ'} (inj : ∀ x y, f x = f y → x = y) {g : α → Int} {x : α} : ∀ {ps : List α}, x ∈ ps → valV (ps.map fun x => (f x, V.int (g x))) (f x) = some (.int (g x))
  | [], h => by cases h
  | y :: r, h => by
    rw [List.map_cons]
    by_cases e : f y = f x
    · rw [valV_pos (show (f y, V.int (g y)).1 = f x from e), inj _ _ e]
    · rw [valV_neg (show ¬ (f y, V.int (g y)).1 = f x from e)]
      rcases List.mem_cons.mp h with rfl | h
      · exact absurd rfl e
      · exact valV_map inj h
theorem valV_none {κ' : Type} [DecidableEq κ'] {f : α → κ'} (inj : ∀ x y, f x = f y → x = y) {g : α → Int} {x : α} : ∀ {ps : List α}, x ∉ ps → valV (ps.map fun x => (f x, V.int (g x))) (f x) = none
  | [], _ => rfl
  | y :: r, h => by
    rw [List.map_cons, valV_neg (show ¬ (f y, V.int (g y)).1 = f x from fun z => h (by rw [inj _ _ z]; exact .head _))]
    exact valV_none inj fun z => h (List.mem_cons_of_mem _ z)
theorem PK.get (h : κ.da H d ps g) (hv : κ.pv H v x) (hx : x ∈ ps) : DGet H d v (some (.int (g x))) := by
  cases κ with
  | ik f i =>
    have hv' : v = kV (f x) := hv
    subst hv'
    have z := DGet.k (k := f x) (show H d = some (.dK _) from h)
    rw [valV_map i hx] at z
    exact z
  | tk f i =>
    obtain ⟨b, rfl, hb⟩ := hv
    have z := DGet.t (show H d = some (.dT _) from h) hb
    rw [valV_map i hx] at z
    exact z
theorem putK_new {κ' : Type} [DecidableEq κ'] {f : α → κ'} (inj : ∀ x y, f x = f y → x = y) {g : α → Int} {x : α} {ps : List α} (hx : x ∉ ps) : putK (ps.map fun x => (f x, V.int (g x))) (f x) (.int (g x)) = (ps ++ [x]).map fun x => (f x, V.int (g x)) := by
  unfold putK
  rw [valV_any, valV_none inj hx, List.map_append]
  rfl
theorem PK.put (h : κ.da H d ps g) (hv : κ.pv H v x) (hx : x ∉ ps) (hl : ps.length < 1000000) : ∃ H', DPut H d v (.int (g x)) H' ∧ κ.da H' d (ps ++ [x]) g ∧ Keep d H H' := by
  have lt : ps.length < sizeLine := Nat.lt_of_lt_of_le hl (sz_le (by decide))
  cases κ with
  | ik f i =>
    have hv' : v = kV (f x) := hv
    subst hv'
    refine ⟨_, DPut.k (k := f x) (show H d = some (.dK _) from h) (by rw [List.length_map]; exact lt), ?_, Keep.upd⟩
    show upd H d _ d = _
    rw [upd_same, putK_new i hx]
  | tk f i =>
    obtain ⟨b, rfl, hb⟩ := hv
    refine ⟨_, DPut.t (show H d = some (.dT _) from h) hb (by rw [List.length_map]; exact lt), ?_, Keep.upd⟩
    show upd H d _ d = _
    rw [upd_same, putK_new i hx]
theorem PK.new {σ : St} {Q : VK} (κ : PK α) (g : α → Int) (h : ∀ p H', H p = none → Same H H' → κ.da H' p [] g → Q (.ref p) H') : tDNewG σ H Q := by
  cases κ with
  | ik f i => exact rd_dnewK' fun p np => h p _ np (Same.new np) upd_same
  | tk f i => exact rd_dnewT' fun p np => h p _ np (Same.new np) upd_same
def WayAt (κ : PK α) (H : Hp) (a : Addr) (w : Wy α) : Prop := ∃ v, H a = some (.tup [.int w.1, v, .int w.2.2]) ∧ κ.pv H v w.2.1
theorem WayAt.same {a : Addr} {w : Wy α} (h : WayAt κ H a w) (s : Same H H') : WayAt κ H' a w := let ⟨v, e, p⟩ := h; ⟨v, s _ _ e, κ.pv_same p s⟩
structure WaysAt (κ : PK α) (H : Hp) (l : Addr) (ws : List (Wy α)) : Prop where
  ex : ∃ as, H l = some (.lst (as.map V.ref)) ∧ RL (WayAt κ H) as ws
theorem WaysAt.same {l : Addr} {ws : List (Wy α)} (h : WaysAt κ H l ws) (s : Same H H') : WaysAt κ H' l ws := let ⟨as, e, r⟩ := h.ex; ⟨as, s _ _ e, r.imp fun _ _ z => z.same s⟩
structure WaysOk (κ : PK α) (C : Addr → Sp → Prop) (H : Hp) (f : Addr) (W : Nat → α → List (Wy α)) (L : Nat → α → Prop) : Prop where
  ex : ∃ spc, C f spc ∧ ∀ (H' : Hp) (h : Nat) (v : V) (x : α) (Q : VK), Same H H' → L h x → κ.pv H' v x → (∀ l H'', Same H' H'' → WaysAt κ H'' l (W h x) → Q (.ref l) H'') → spc [.int (h : Int), v] H' Q E0
theorem WaysOk.same {C : Addr → Sp → Prop} {f : Addr} {W : Nat → α → List (Wy α)} {L : Nat → α → Prop} (h : WaysOk κ C H f W L) (s : Same H H') : WaysOk κ C H' f W L :=
  let ⟨spc, c, p⟩ := h.ex; ⟨spc, c, fun H2 a v x Q s2 => p H2 a v x Q (s.trans s2)⟩
def PVs (κ : PK α) (H : Hp) (vs : List V) (ps : List α) : Prop := vs.length = ps.length ∧ ∀ (i : Nat) v x, vs[i]? = some v → ps[i]? = some x → κ.pv H v x
theorem PVs.same {vs : List V} (h : PVs κ H vs ps) (s : Same H H') : PVs κ H' vs ps := ⟨h.1, fun i v x h1 h2 => κ.pv_same (h.2 i v x h1 h2) s⟩
theorem PVs.get {vs : List V} (h : PVs κ H vs ps) {i : Nat} {v : V} (e : vs[i]? = some v) : ∃ x, ps[i]? = some x ∧ κ.pv H v x := by
  have li : i < ps.length := by rw [← h.1]; exact (List.getElem?_eq_some_iff.mp e).1
  exact ⟨_, List.getElem?_eq_getElem li, h.2 i v _ e (List.getElem?_eq_getElem li)⟩
end
theorem take_sn {α : Type} {l : List α} {i : Nat} {x : α} (h : l[i]? = some x) : l.take (i + 1) = l.take i ++ [x] := by rw [List.take_add_one, h]; rfl
theorem RL.gt {α : Type} {P : Addr → α → Prop} {as : List Addr} {xs : List α} (h : RL P as xs) {i : Nat} {v : V} (hv : (as.map V.ref)[i]? = some v) : ∃ a x, as[i]? = some a ∧ v = .ref a ∧ xs[i]? = some x ∧ P a x := by
  rw [List.getElem?_map] at hv
  obtain ⟨a, e, rfl⟩ := Option.map_eq_some_iff.mp hv
  have li : i < xs.length := by rw [← h.len]; exact (List.getElem?_eq_some_iff.mp e).1
  exact ⟨a, xs[i], e, rfl, List.getElem?_eq_getElem li, h.at_ i a _ e (List.getElem?_eq_getElem li)⟩
structure LayAt {α : Type} (κ : PK α) (H : Hp) (a : Addr) (Ls : List (List α)) : Prop where
  ex : ∃ as, H a = some (.lst (as.map V.ref)) ∧ RL (fun b ps => ∃ us, H b = some (.lst us) ∧ PVs κ H us ps) as Ls
theorem LayAt.same {α : Type} {κ : PK α} {H H' : Hp} {a : Addr} {Ls : List (List α)} (h : LayAt κ H a Ls) (s : Same H H') : LayAt κ H' a Ls :=
  let ⟨as, e, r⟩ := h.ex; ⟨as, s _ _ e, r.imp fun _ _ ⟨us, e, p⟩ => ⟨us, s _ _ e, p.same s⟩⟩
structure DsAt {α : Type} (κ : PK α) (H : Hp) (a : Addr) (Ls : List (List α)) (F : Nat → α → Int) : Prop where
  ex : ∃ ds : List Addr, H a = some (.lst (ds.map V.ref)) ∧ ds.length = Ls.length ∧ ∀ (i : Nat) d ps, ds[i]? = some d → Ls[i]? = some ps → κ.da H d ps (F i)
theorem DsAt.same {α : Type} {κ : PK α} {H H' : Hp} {a : Addr} {Ls : List (List α)} {F : Nat → α → Int} (h : DsAt κ H a Ls F) (s : Same H H') : DsAt κ H' a Ls F :=
  let ⟨ds, e, l, r⟩ := h.ex; ⟨ds, s _ _ e, l, fun i d ps h1 h2 => κ.da_same (r i d ps h1 h2) s⟩
theorem PK.pv_keep {α : Type} {κ : PK α} {H H' : Hp} {v : V} {x : α} {p : Addr} {xs : List V} (h : κ.pv H v x) (gp : H p = some (.lst xs)) (k : Keep p H H') : κ.pv H' v x := by
  cases κ with
  | ik f i => exact h
  | tk f i =>
    obtain ⟨b, e, hb⟩ := h
    exact ⟨b, e, k _ _ hb fun z => by rw [z, gp] at hb; cases hb⟩
def On (m : MS) (s s' : Int × Int) : Prop := ∃ on, Bit on ∧ (s.1 = on ∨ s.2 = 0) ∧ s' = aft m s.1 s.2 on
def Rc (m : MS) (a : Int × Int) : Nat → Int × Int → Prop
  | 0, s => s = a
  | n + 1, s => ∃ q, Rc m a n q ∧ On m q s
def sLt (a b : Int × Int) : Prop := a.1 < b.1 ∨ (a.1 = b.1 ∧ a.2 < b.2)
def St1 (m : MS) (s : Int × Int) : Prop := (s.1 = 1 ∧ 0 ≤ s.2 ∧ s.2 < m.up) ∨ (s.1 = 0 ∧ 0 ≤ s.2 ∧ s.2 < 60)
theorem St1.st0 {m : MS} (g : m.Good) {s : Int × Int} (h : St1 m s) : St0 s.1 s.2 := by
  obtain ⟨u0, u1⟩ := g.up
  rcases h with ⟨a, b, c⟩ | ⟨a, b, c⟩
  · exact ⟨.inr a, b, by omega⟩
  · exact ⟨.inl a, b, c⟩
theorem Rc.st {m : MS} (g : m.Good) {a : Int × Int} (h : St1 m a) : ∀ {n : Nat} {s : Int × Int}, Rc m a n s → St0 s.1 s.2 ∧ (s.2 < 12 ∨ (s.1 = 0 ∧ s.2 = a.2 - n))
  | 0, s, hs => by
    have hs' : s = a := hs
    subst hs'
    obtain ⟨u0, u1⟩ := g.up
    refine ⟨h.st0 g, ?_⟩
    rcases h with ⟨x, y, z⟩ | ⟨x, y, z⟩
    · exact .inl (by omega)
    · exact .inr ⟨x, by omega⟩
  | n + 1, s, hs => by
    obtain ⟨q, hq, on, bon, may, rfl⟩ := hs
    obtain ⟨i1, i2⟩ := Rc.st g h hq
    obtain ⟨u0, u1⟩ := g.up
    obtain ⟨d0, d1⟩ := g.down
    refine ⟨i1.aft g bon, ?_⟩
    unfold My.aft
    by_cases e : q.1 = on
    · rw [if_pos e]
      rcases i2 with i2 | ⟨i2, i3⟩
      · exact .inl (by show max (q.2 - 1) 0 < 12; omega)
      · by_cases z : q.2 - 1 < 12
        · exact .inl (by show max (q.2 - 1) 0 < 12; omega)
        · refine .inr ⟨by show on = 0; omega, ?_⟩
          show max (q.2 - 1) 0 = a.2 - ((n + 1 : Nat) : Int)
          omega
    · rw [if_neg e]
      split
      · exact .inl (by show m.up - 1 < 12; omega)
      · exact .inl (by show m.down - 1 < 12; omega)
theorem Rc.few {m : MS} (g : m.Good) {a : Int × Int} (h : St1 m a) {n : Nat} {ks : List (Int × Int)} (nd : ks.Nodup) (hr : ∀ k ∈ ks, Rc m a n k) : ks.length ≤ 25 := by
  have := nd_le 25 (ks.map fun k => if k.2 < 12 then (k.1 * 12 + k.2).toNat else 24) (by
    rw [List.Nodup, List.pairwise_map]
    refine nd.imp_of_mem ?_
    intro x y hx hy hxy z
    obtain ⟨⟨a1, a2, a3⟩, a4⟩ := Rc.st g h (hr x hx)
    obtain ⟨⟨b1, b2, b3⟩, b4⟩ := Rc.st g h (hr y hy)
    refine hxy ?_
    by_cases c1 : x.2 < 12 <;> by_cases c2 : y.2 < 12
    · rw [if_pos c1, if_pos c2] at z
      refine Prod.ext ?_ ?_
      · rcases a1 with a1 | a1 <;> rcases b1 with b1 | b1 <;> rw [a1, b1] <;> rw [a1, b1] at z <;> omega
      · rcases a1 with a1 | a1 <;> rcases b1 with b1 | b1 <;> rw [a1, b1] at z <;> omega
    · rw [if_pos c1, if_neg c2] at z
      rcases a1 with a1 | a1 <;> rw [a1] at z <;> omega
    · rw [if_neg c1, if_pos c2] at z
      rcases b1 with b1 | b1 <;> rw [b1] at z <;> omega
    · rcases a4 with a4 | ⟨a4, a5⟩
      · omega
      · rcases b4 with b4 | ⟨b4, b5⟩
        · omega
        · exact Prod.ext (by omega) (by omega)) (fun x hx => by
    obtain ⟨k, hk, rfl⟩ := List.mem_map.mp hx
    obtain ⟨⟨a1, a2, a3⟩, a4⟩ := Rc.st g h (hr k hk)
    split
    · rcases a1 with a1 | a1 <;> rw [a1] <;> omega
    · omega)
  simpa using this
theorem sLt_nd {ps : List (Int × Int)} (h : ps.Pairwise sLt) : ps.Nodup := h.imp fun {a b} hab z => by
  subst z
  rcases hab with y | ⟨_, y⟩ <;> omega
theorem sLt_uniq : ∀ {ps qs : List (Int × Int)}, ps.Pairwise sLt → qs.Pairwise sLt → (∀ s, s ∈ ps ↔ s ∈ qs) → ps = qs
  | [], [], _, _, _ => rfl
  | [], q :: qs, _, _, h => by have := (h q).mpr (.head _); cases this
  | p :: ps, [], _, _, h => by have := (h p).mp (.head _); cases this
  | p :: ps, q :: qs, h1, h2, h => by
    obtain ⟨a1, a2⟩ := List.pairwise_cons.mp h1
    obtain ⟨b1, b2⟩ := List.pairwise_cons.mp h2
    have e : p = q := by
      rcases List.mem_cons.mp ((h p).mp (.head _)) with z | z
      · exact z
      · rcases List.mem_cons.mp ((h q).mpr (.head _)) with y | y
        · exact y.symm
        · have x1 := b1 p z
          have x2 := a1 q y
          unfold sLt at x1 x2
          omega
    subst e
    congr 1
    refine sLt_uniq a2 b2 fun s => ⟨fun hs => ?_, fun hs => ?_⟩
    · rcases List.mem_cons.mp ((h s).mp (List.mem_cons_of_mem _ hs)) with z | z
      · subst z
        have := a1 s hs
        unfold sLt at this
        omega
      · exact z
    · rcases List.mem_cons.mp ((h s).mpr (List.mem_cons_of_mem _ hs)) with z | z
      · subst z
        have := b1 s hs
        unfold sLt at this
        omega
      · exact z
def gnT (m : MS) (p : Int) : Int := p * m.least + gn p m.pieces
def hcst (m : MS) (s : Int × Int) (on : Int) : Int := rcst m s.1 [on]
def hw (m : MS) (p : Int) (s : Int × Int) (on : Int) : Int := hcst m s on - on * gnT m p
def κS : PK (Int × Int) := .tk encK fun _ _ h => encK_inj h
theorem MachAt.delT {C : Addr} {H : Hp} {q w : Addr} {m : MS} {kvs : List (List Key × V)} (h : MachAt C H q m) (e : H w = some (.dT kvs)) : MachAt C (del w H) q m := by
  obtain ⟨dx, pl, h1, h2⟩ := h.ex
  obtain ⟨qs, h3, h4⟩ := h2.ex
  refine ⟨dx, pl, del_some h1 (fun z => by rw [z, e] at h1; cases h1), qs, del_some h3 (fun z => by rw [z, e] at h3; cases h3), h4.len, fun j a t h5 h6 => ?_⟩
  have h7 := h4.at_ j a t h5 h6
  exact del_some h7 (fun z => by rw [z, e] at h7; cases h7)
theorem opt_int (x : Option Int) : (x.map V.int).getD (.int 0) = .int (x.getD 0) := by cases x <;> rfl
theorem enc_at {ps : List WP} {i : Nat} {kv : List Key × V} (h : (enc ps)[i]? = some kv) : ∃ p, ps[i]? = some p ∧ kv = (encK p.1, V.int p.2) := by
  unfold enc at h
  rw [List.getElem?_map] at h
  obtain ⟨p, hp, e⟩ := Option.map_eq_some_iff.mp h
  exact ⟨p, hp, e.symm⟩
theorem enc_len (ps : List WP) : (enc ps).length = ps.length := by unfold enc; rw [List.length_map]
theorem addW_keys {ps : List WP} {k s : Int × Int} {v : Int} : s ∈ (addW ps k v).map (·.1) ↔ s ∈ ps.map (·.1) ∨ s = k := by
  unfold addW
  by_cases h : ps.any (fun p => decide (p.1 = k)) = true
  · rw [if_pos h, List.map_map]
    have e : ((fun p : WP => p.1) ∘ fun p : WP => if p.1 = k then (p.1, v) else p) = fun p => p.1 := by
      funext p
      show (if p.1 = k then (p.1, v) else p).1 = p.1
      split <;> rfl
    rw [e]
    refine ⟨.inl, fun z => ?_⟩
    rcases z with z | z
    · exact z
    · obtain ⟨p, hp, e⟩ := List.any_eq_true.mp h
      rw [z]
      exact List.mem_map.mpr ⟨p, hp, of_decide_eq_true e⟩
  · rw [if_neg h, List.map_append, List.mem_append]
    simp
def sp_ways_one_on (K : PySem.W.Frag) (C : Addr) : Sp := fun vs H Q _ => ∃ (q : Addr) (m : MS) (w : Addr) (ps : List WP), vs = [.ref q, .ref w] ∧ MachAt C H q m ∧ m.Good ∧ H w = some (.dT (enc ps)) ∧ Ways ps ∧
  ∀ w' ps' H', Same (del w H) H' → H w' = none → H' w' = some (.dT (enc ps')) → Ways ps' → (∀ s, s ∈ ps'.map (·.1) ↔ ∃ q ∈ ps.map (·.1), On m q s) → Q (.ref w') H'
set_option maxHeartbeats 40000000 in
theorem ok_ways_one_on {P : Program} {w : World} {K : PySem.W.Frag} {mg : Str → Option Value} {base : Heap} {a : Adr} (tx : Txt K mg a) : FnOk P w K mg base CX0 3 a.f_ways_one_on a.d_ways_one_on ["machine", "ways"] (sp_ways_one_on K a.c_Machine) := by
  have G_may_be := ok_may_be (P := P) (w := w) (base := base) tx
  have G_state_after := ok_state_after (P := P) (w := w) (base := base) tx
  refine tx.F_ways_one_on.ok sc_ways_one_on (fun vs H Q E h => ?_) (fun cdv A outer s H vs Q E hr h => ?_)
  · obtain ⟨q, m, w, ps, rfl, _⟩ := h
    rfl
  · obtain ⟨q, m, w, ps, rfl , hm, hg, gw, hW, k⟩ := h
    have hu := hu9 hr
    refine L2.Q.root (L2.Q.pss_cons (L2.Q.ps_set (i := 2) sc_ways_one_on.nd rfl (Or.inl rfl) L2.Q.pe_dnewG)
      (L2.Q.pss_cons (L2.Q.ps_for PassesOwn.never rfl (L2.Q.pi_items (L2.Q.pv 1)) (L2.Q.pg_tupK (K' := K) (n := 2) rfl (L2.Q.pgs_cons (L2.Q.pg_name (i := 3) sc_ways_one_on.nd rfl (Or.inl rfl)) (L2.Q.pgs_cons (L2.Q.pg_name (i := 4) sc_ways_one_on.nd rfl (Or.inl rfl)) L2.Q.pgs_nil))) (L2.Q.pss_one (L2.Q.ps_for PassesOwn.never rfl (L2.Q.pi_tupK (K' := K) (L2.Q.tup2 L2.Q.pe_int L2.Q.pe_int)) (L2.Q.pg_name (i := 5) sc_ways_one_on.nd rfl (Or.inl rfl)) (L2.Q.pss_one (L2.Q.ps_if (L2.Q.pt_val (L2.Q.pe_callN (G_may_be) (hr.mono (by decide)) (by rfl) tx.g_may_be tx.F_may_be.kp tx.b_may_be .nil pass0 (L2.Q.pa_c (L2.Q.pv 0) (L2.Q.pa_c (L2.Q.pv 3) (L2.Q.pa_c (L2.Q.pv 5) L2.Q.pa_nil))))) (L2.Q.pss_cons (L2.Q.ps_set (i := 6) sc_ways_one_on.nd rfl (Or.inl rfl) (L2.Q.pe_callN (G_state_after) (hr.mono (by decide)) (by rfl) tx.g_state_after tx.F_state_after.kp tx.b_state_after .nil pass0 (L2.Q.pa_c (L2.Q.pv 0) (L2.Q.pa_c (L2.Q.pv 3) (L2.Q.pa_c (L2.Q.pv 5) L2.Q.pa_nil)))))
      (L2.Q.pss_one (L2.Q.ps_dput hu (L2.Q.pv 2) (L2.Q.pv 6) (L2.Q.pe_op op_addG (L2.Q.pe_dget2 hu (L2.Q.pv 2) (L2.Q.pv 6) L2.Q.pe_int) (L2.Q.pv 4))))) L2.Q.pss_nil)))))
      (L2.Q.pss_one (L2.Q.ps_ret (L2.Q.pv 2))))) ?_
    have hmD := hm.delT gw
    refine rd_start (σ := [some (.ref q), some (.ref w), none, none, none, none, none]) rfl ?_
    repeat walk_at "go"
    refine rd_dnewT' ?_
    intro l nl
    obtain ⟨H1, i1, s1, g1⟩ := nw _ nl; rw [i1]
    have gw1 := s1 _ _ gw
    have lw : l ≠ w := fun z => by rw [z, gw] at nl; cases nl
    have nlD : del w H l = none := by rw [del_at lw]; exact nl
    repeat walk_at "go"
    refine rd_im gw1 fun ob => ?_
    obtain ⟨H2, i2, k2, g2⟩ := wr H1 w _; rw [i2]
    have g12 := k2 _ _ g1 lw
    have S2 : Same (del w H) H2 := fun b o e => k2 _ _ (s1 _ _ (del_le _ _ e)) (fun z => by rw [z, del_l] at e; cases e)
    refine rf_items (kvs := enc ps) (fun i σ' H' => ∃ (ps' : List WP) (z3 z4 z5 z6 : Option V), σ' = [some (.ref q), some (.ref w), some (.ref l), z3, z4, z5, z6] ∧ H' l = some (.dT (enc ps')) ∧ Ways ps' ∧ (∀ s, s ∈ ps'.map (·.1) ↔ ∃ q ∈ (ps.take i).map (·.1), On m q s) ∧ Same (del w H) H' ∧ H' w = some (.frz ob (.dT (enc ps))))
      ⟨[], _, _, _, _, rfl, g12, ⟨List.nodup_nil, fun p hp => by cases hp⟩, fun s => ⟨(fun h => by cases h), (fun ⟨q, h, _⟩ => by simp at h)⟩, S2, g2⟩ (fun i σ' H' hi ⟨_, _, _, _, _, _, _, _, _, _, h⟩ => h) (fun i kv σ' H' T b hk ⟨ps', z3, z4, z5, z6, e, gl, hW', hs, S', gw'⟩ nT gb => ?_) (fun σ' H' ⟨ps', z3, z4, z5, z6, e, gl, hW', hs, S', gw'⟩ => ?_)
    · subst e
      obtain ⟨p, ep, rfl⟩ := enc_at hk
      have hst := hW.st p (List.mem_of_getElem? ep)
      have gb0 : H' b = some (.tup [.int p.1.1, .int p.1.2]) := gb
      obtain ⟨H3, i3, s3, gT⟩ := nw _ nT; rw [i3]
      refine rd_gtup (SqT.of gT) rfl ?_
      repeat walk_at "go"
      intro Tu nTu
      obtain ⟨H4, i4, s4, gTu⟩ := nw _ nTu; rw [i4]
      have gl4 := (s3.trans s4) _ _ gl
      have gb4 := (s3.trans s4) _ _ gb0
      have gw4 := (s3.trans s4) _ _ gw'
      have S4 := S'.trans (s3.trans s4)
      have Tul : Tu ≠ l := fun z => by rw [z, gl4] at gTu; cases gTu
      have bl : b ≠ l := fun z => by rw [z, gl4] at gb4; cases gb4
      repeat walk_at "go"
      refine rd_ti (SqT.of gTu) ?_
      refine rf_tup (xs := ([0, 1] : List Int).map V.int) (fun j σ' H' => ∃ (ps' : List WP) (z5 z6 : Option V), σ' = [some (.ref q), some (.ref w), some (.ref l), some (.ref b), some (.int p.2), z5, z6] ∧ H' l = some (.dT (enc ps')) ∧ Ways ps' ∧ (∀ s, s ∈ ps'.map (·.1) ↔ (∃ q ∈ (ps.take i).map (·.1), On m q s) ∨ ∃ on ∈ ([0, 1] : List Int).take j, (p.1.1 = on ∨ p.1.2 = 0) ∧ s = aft m p.1.1 p.1.2 on) ∧ Same (del w H) H' ∧ Keep l H4 H')
        ⟨ps', _, _, rfl, gl4, hW', fun s => by rw [hs s]; simp, S4, fun _ _ e _ => e⟩ (fun j σ' H' hj ⟨_, _, _, _, _, _, _, _, h⟩ => SqT.of (h _ _ gTu Tul)) (fun j v σ' H5 hv ⟨ps', z5, z6, e, gl5, hW5, hs5, S5, k5⟩ => ?_) (fun σ' H5 ⟨ps', z5, z6, e, gl5, hW5, hs5, S5, k5⟩ => ?_)
      · subst e
        obtain ⟨on, eon, rfl⟩ := int_get hv
        have bon : Bit on := by
          have := List.mem_of_getElem? eon
          simp at this
          exact this
        have gb5 := k5 _ _ gb4 bl
        have tk : ([0, 1] : List Int).take (j + 1) = ([0, 1] : List Int).take j ++ [on] := by rw [List.take_add_one, eon]; rfl
        repeat walk_at "go"
        refine ⟨_, b, _, _, on, rfl, gb5, ?_⟩
        by_cases hmay : p.1.1 = on ∨ p.1.2 = 0
        · rw [show (decide (p.1.1 = on) || decide (p.1.2 = 0)) = true by simpa using hmay]
          repeat walk_at "go"
          refine ⟨q, m, b, _, _, on, rfl, hmD.same S5, gb5, hmay, fun T2 H6 s6 nT2 gT2 => ?_⟩
          have gl6 := s6 _ _ gl5
          have gk : H6 T2 = some (.tup ((encK (aft m p.1.1 p.1.2 on)).map kV)) := gT2
          have hle := hW5.len
          repeat walk_at "go"
          refine ⟨l, rfl, .inr ⟨_, .inl gl6⟩, ?_⟩
          repeat walk_at "go"
          refine ⟨_, DGet.t gl6 gk, ?_⟩
          rw [enc_get, opt_int]
          repeat walk_at "go"
          refine ⟨l, _, rfl, DPut.t gl6 gk (Nat.lt_of_lt_of_le (by rw [enc_len]; omega : (enc ps').length < 1000) (sz_le (by decide))), ?_⟩
          rw [enc_put]
          obtain ⟨H7, i7, k7, g7⟩ := wr H6 l _; rw [i7]
          repeat walk_at "go"
          refine ⟨_, _, _, rfl, g7, hW5.add (hst.aft hg bon) p.2, fun s => ?_, fun b o e => k7 _ _ ((S5.trans s6) _ _ e) (ne_none nlD e), k5.trans (s6.keep.trans k7)⟩
          rw [addW_keys, hs5 s, tk]
          constructor
          · rintro ((h | ⟨on', h1, h2⟩) | h)
            · exact .inl h
            · exact .inr ⟨on', List.mem_append_left _ h1, h2⟩
            · exact .inr ⟨on, List.mem_append_right _ (.head _), hmay, h⟩
          · rintro (h | ⟨on', h1, h2, h3⟩)
            · exact .inl (.inl h)
            · rcases List.mem_append.mp h1 with z | z
              · exact .inl (.inr ⟨on', z, h2, h3⟩)
              · rw [List.mem_singleton.mp z] at h3; exact .inr h3
        · rw [show (decide (p.1.1 = on) || decide (p.1.2 = 0)) = false by simpa using hmay]
          repeat walk_at "go"
          refine ⟨ps', _, _, rfl, gl5, hW5, fun s => ?_, S5, k5⟩
          rw [hs5 s, tk]
          constructor
          · rintro (h | ⟨on', h1, h2⟩)
            · exact .inl h
            · exact .inr ⟨on', List.mem_append_left _ h1, h2⟩
          · rintro (h | ⟨on', h1, h2, h3⟩)
            · exact .inl h
            · rcases List.mem_append.mp h1 with z | z
              · exact .inr ⟨on', z, h2, h3⟩
              · rw [List.mem_singleton.mp z] at h2; exact absurd h2 hmay
      · subst e
        refine ⟨ps', _, _, _, _, rfl, gl5, hW5, fun s => ?_, S5, k5 _ _ gw4 (Ne.symm lw)⟩
        rw [hs5 s, take_snoc ep, List.map_append]
        constructor
        · rintro (⟨q, h1, h2⟩ | ⟨on', h1, h2, h3⟩)
          · exact ⟨q, List.mem_append_left _ h1, h2⟩
          · exact ⟨p.1, List.mem_append_right _ (.head _), on', by simpa [Bit] using h1, h2, h3⟩
        · rintro ⟨q, h1, on', b1, h2, h3⟩
          rcases List.mem_append.mp h1 with z | z
          · exact .inl ⟨q, z, on', b1, h2, h3⟩
          · rw [show q = p.1 by simpa using z] at h2 h3
            exact .inr ⟨on', by rcases b1 with rfl | rfl <;> simp, h2, h3⟩
    · subst e
      repeat walk_at "go"
      refine k l ps' H' S' nl gl hW' fun s => ?_
      rw [hs s, enc_len, List.take_length]
theorem RL.app {α : Type} {P : Addr → α → Prop} {as bs : List Addr} {xs ys : List α} (h : RL P as xs) (h' : RL P bs ys) : RL P (as ++ bs) (xs ++ ys) := by
  refine ⟨by rw [List.length_append, List.length_append, h.len, h'.len], fun j q u hq hu => ?_⟩
  by_cases hj : j < as.length
  · rw [List.getElem?_append_left hj] at hq
    rw [List.getElem?_append_left (by rw [← h.len]; exact hj)] at hu
    exact h.at_ j q u hq hu
  · rw [List.getElem?_append_right (by omega)] at hq
    rw [List.getElem?_append_right (by rw [← h.len]; omega), ← h.len] at hu
    exact h'.at_ _ q u hq hu
theorem RL.one {α : Type} {P : Addr → α → Prop} {a : Addr} {x : α} (h : P a x) : RL P [a] [x] := ⟨rfl, fun j q u hq hu => by
  match j, hq, hu with
  | 0, hq, hu => cases hq; cases hu; exact h
  | _ + 1, hq, _ => simp at hq⟩
theorem enc_keys (ps : List WP) : (enc ps).map (·.1) = (ps.map fun p => [p.1.1, p.1.2]).map fun t => t.map Sum.inl := by
  unfold enc
  rw [List.map_map, List.map_map]
  rfl
theorem states_sorted {H : Hp} {ps : List WP} {qs : List Addr} {us : List (List Int)} (nd : (ps.map (·.1)).Nodup) (hT : TupsAt H qs us) (hp : us.Perm (ps.map fun p => [p.1.1, p.1.2])) (hs : us.Pairwise fun a b => lexB b a = false) :
    ∃ ks : List (Int × Int), ks.Pairwise sLt ∧ (∀ s, s ∈ ks ↔ s ∈ ps.map (·.1)) ∧ PVs κS H (qs.map V.ref) ks := by
  have hform : ∀ u ∈ us, u = [u.getD 0 0, u.getD 1 0] := fun u hu => by
    obtain ⟨p, _, rfl⟩ := List.mem_map.mp (hp.mem_iff.mp hu)
    rfl
  have pk : (us.map fun u => (u.getD 0 0, u.getD 1 0)).Perm (ps.map (·.1)) := by
    have := hp.map fun u => (u.getD 0 0, u.getD 1 0)
    rw [List.map_map] at this
    exact this
  have ndk := pk.nodup_iff.mpr nd
  refine ⟨us.map fun u => (u.getD 0 0, u.getD 1 0), ?_, fun s => pk.mem_iff, ?_⟩
  · rw [List.pairwise_map]
    have nd' : us.Pairwise fun a b => (a.getD 0 0, a.getD 1 0) ≠ (b.getD 0 0, b.getD 1 0) := List.pairwise_map.mp ndk
    refine (hs.and nd').imp_of_mem ?_
    intro a b ha hb ⟨h1, h2⟩
    rw [hform a ha, hform b hb] at h1
    generalize a.getD 0 0 = a0 at h1 h2 ⊢
    generalize a.getD 1 0 = a1 at h1 h2 ⊢
    generalize b.getD 0 0 = b0 at h1 h2 ⊢
    generalize b.getD 1 0 = b1 at h1 h2 ⊢
    unfold sLt
    show a0 < b0 ∨ (a0 = b0 ∧ a1 < b1)
    by_cases e0 : a0 = b0
    · subst e0
      by_cases e1 : a1 = b1
      · exact absurd (by rw [e1]) h2
      · rw [lexB_cons, if_pos rfl, lexB_cons, if_neg (fun z => e1 z.symm)] at h1
        have := of_decide_eq_false h1
        omega
    · rw [lexB_cons, if_neg (fun z => e0 z.symm)] at h1
      have := of_decide_eq_false h1
      omega
  · refine ⟨by rw [List.length_map, List.length_map, hT.len], fun i v x h1 h2 => ?_⟩
    rw [List.getElem?_map] at h1 h2
    obtain ⟨q, e1, rfl⟩ := Option.map_eq_some_iff.mp h1
    obtain ⟨u, e2, rfl⟩ := Option.map_eq_some_iff.mp h2
    have := (hT.at_ i q u e1 e2).1
    rw [hform u (List.mem_of_getElem? e2)] at this
    exact ⟨q, rfl, this⟩
structure Wd (C : Addr) (lS lM sA sB xA xB : Addr) (mA mB : MS) (H : Hp) : Prop where
  s : H lS = some (.lst [.ref sA, .ref sB])
  m : H lM = some (.lst [.ref xA, .ref xB])
  sA : SpecAt H sA mA
  sB : SpecAt H sB mB
  mA : MachAt C H xA mA
  mB : MachAt C H xB mB
theorem Wd.same {C lS lM sA sB xA xB : Addr} {mA mB : MS} {H H' : Hp} (w : Wd C lS lM sA sB xA xB mA mB H) (s : Same H H') : Wd C lS lM sA sB xA xB mA mB H' := ⟨s _ _ w.s, s _ _ w.m, w.sA.same s, w.sB.same s, w.mA.same s, w.mB.same s⟩
theorem Wd.keep {C lS lM sA sB xA xB p : Addr} {mA mB : MS} {H H' : Hp} (w : Wd C lS lM sA sB xA xB mA mB H) (hh : HandAt H p) (s : Keep p H H') : Wd C lS lM sA sB xA xB mA mB H' :=
  ⟨s _ _ w.s (hh.nlen w.s (by simp)), s _ _ w.m (hh.nlen w.m (by simp)), w.sA.keep hh s, w.sB.keep hh s, w.mA.keep hh s, w.mB.keep hh s⟩
def OV (H : Hp) (v : V) : Option (Int × Int) → Prop
  | none => v = .non
  | some s => ∃ T, v = .ref T ∧ H T = some (.tup [.int s.1, .int s.2])
theorem OV.same {H H' : Hp} {v : V} : ∀ {o : Option (Int × Int)}, OV H v o → Same H H' → OV H' v o
  | none, h, _ => h
  | some _, ⟨T, e, g⟩, s => ⟨T, e, s _ _ g⟩
def aftO (m : MS) (q : Int × Int) (on : Int) : Option (Int × Int) := if q.1 = on ∨ q.2 = 0 then some (aft m q.1 q.2 on) else none
def sp__law_after (K : PySem.W.Frag) : Sp := fun vs H Q _ => ∃ (s : Addr) (m : MS) (t : Addr) (o d on : Int), vs = [.ref s, .ref t, .int on] ∧ SpecAt H s m ∧ H t = some (.tup [.int o, .int d]) ∧ Bit on ∧ Bit o ∧ 0 ≤ d ∧
  ∀ v H', Same H H' → OV H' v (aftO m (o, d) on) → Q v H'
set_option maxHeartbeats 40000000 in
theorem ok__law_after {P : Program} {w : World} {K : PySem.W.Frag} {mg : Str → Option Value} {base : Heap} {a : Adr} (tx : Txt K mg a) : FnOk P w K mg base CX0 1 a.f__law_after a.d__law_after ["_law_spec_here", "_law_state_here", "_law_on"] (sp__law_after K) := by
  refine tx.F__law_after.ok sc__law_after (fun vs H Q E h => ?_) (fun cdv A outer s H vs Q E hr h => ?_)
  · obtain ⟨s, m, t, o, d, on, rfl, _⟩ := h
    rfl
  · obtain ⟨s, m, t, o, d, on, rfl , hs, ht, hon, ho, hd, kk⟩ := h
    have hu := hu9 hr
    refine L2.Q.root (L2.Q.pss_cons (L2.Q.ps_if (L2.Q.pt_cmpR (r := rEqG K) (op_eqG hu) (L2.Q.pv 2) (L2.Q.pe_ixK (K' := K) (L2.Q.pv 1) L2.Q.pe_int (fun _ _ => rfl)) (nomark _)) (L2.Q.pss_one (L2.Q.ps_ret (L2.Q.tup2 (L2.Q.pv 2) (L2.Q.pe_callBN (call_maxG rfl) (by rfl) tx.z_max bt_max (L2.Q.pa_c L2.Q.pe_int (L2.Q.pa_c (L2.Q.pe_op op_sub (L2.Q.pe_ixK (K' := K) (L2.Q.pv 1) L2.Q.pe_int (fun _ _ => rfl)) L2.Q.pe_int) L2.Q.pa_nil)))))) L2.Q.pss_nil)
      (L2.Q.pss_cons (L2.Q.ps_if (L2.Q.pt_cmpR op_gt (L2.Q.pe_ixK (K' := K) (L2.Q.pv 1) L2.Q.pe_int (fun _ _ => rfl)) L2.Q.pe_int (nomark _)) (L2.Q.pss_one (L2.Q.ps_ret L2.Q.pe_non)) L2.Q.pss_nil)
      (L2.Q.pss_one (L2.Q.ps_ret (L2.Q.tup2 (L2.Q.pv 2) (L2.Q.pe_op op_sub (L2.Q.pe_ixK (K' := K) (L2.Q.lst2 (L2.Q.pe_ixK (K' := K) (L2.Q.pv 0) L2.Q.pe_int (fun _ _ => rfl)) (L2.Q.pe_ixK (K' := K) (L2.Q.pv 0) L2.Q.pe_int (fun _ _ => rfl))) (L2.Q.pv 2) (fun _ _ => rfl)) L2.Q.pe_int)))))) ?_
    have k1 : (o = on ∨ d = 0) → ∀ T H', Same H H' → H T = none → H' T = some (.tup [.int (aft m o d on).1, .int (aft m o d on).2]) → Q (.ref T) H' := fun h T H' s _ g => kk _ _ s (by unfold aftO; rw [if_pos h]; exact ⟨T, rfl, g⟩)
    have k2 : ¬ (o = on ∨ d = 0) → Q .non H := fun h => kk _ _ (Same.refl _) (by unfold aftO; rw [if_neg h]; rfl)
    obtain ⟨pl, e1, _⟩ := hs.ex
    refine rd_start (σ := [some (.ref s), some (.ref t), some (.int on)]) rfl ?_
    repeat walk_at "go"
    refine rd_dec (fun h => ?_) (fun h => ?_)
    · have k3 := k1 (.inl h.symm)
      unfold aft at k3
      rw [if_pos h.symm] at k3
      repeat walk_at "go"
      rw [show max 0 (d - 1) = max (d - 1) 0 by omega]
      intro T nT
      repeat walk_at "go"
      exact k3 _ _ (Same.new nT) nT upd_same
    · repeat walk_at "go"
      refine rd_dec (fun h1 => ?_) (fun h1 => ?_)
      · repeat walk_at "go"
        exact k2 (fun z => by rcases z with z | z; exact h z.symm; omega)
      · have k3 := k1 (.inr (by omega))
        unfold aft at k3
        rw [if_neg (fun z => h z.symm)] at k3
        repeat walk_at "go"
        intro l nl
        repeat walk_at "go"
        have sl := Same.new (o := .lst [.int m.down, .int m.up]) nl
        rcases hon with rfl | rfl
        · refine rd_ixL (SqL.of upd_same) rfl ?_
          rw [if_neg (by decide)] at k3
          repeat walk_at "go"
          intro T nT
          repeat walk_at "go"
          exact k3 _ _ (sl.trans (Same.new nT)) (sl.free nT) upd_same
        · refine rd_ixL (SqL.of upd_same) rfl ?_
          rw [if_pos rfl] at k3
          repeat walk_at "go"
          intro T nT
          repeat walk_at "go"
          exact k3 _ _ (sl.trans (Same.new nT)) (sl.free nT) upd_same
theorem tS {H H' : Hp} {qs : List Addr} {ts : List (List Int)} (h : TupsAt H qs ts) (s : Same H H') : TupsAt H' qs ts := ⟨h.len, fun j q t x y => ⟨s _ _ (h.at_ j q t x y).1, (h.at_ j q t x y).2⟩⟩
def OVs (H : Hp) (vs : List V) (os : List (Option (Int × Int))) : Prop := vs.length = os.length ∧ ∀ (i : Nat) v o, vs[i]? = some v → os[i]? = some o → OV H v o
theorem OVs.same {H H' : Hp} {vs : List V} {os : List (Option (Int × Int))} (h : OVs H vs os) (s : Same H H') : OVs H' vs os := ⟨h.1, fun i v o x y => (h.2 i v o x y).same s⟩
theorem OVs.app {H : Hp} {vs us : List V} {os qs : List (Option (Int × Int))} (h : OVs H vs os) (g : OVs H us qs) : OVs H (vs ++ us) (os ++ qs) := by
  refine ⟨by rw [List.length_append, List.length_append, h.1, g.1], fun i v o x y => ?_⟩
  by_cases hi : i < vs.length
  · rw [List.getElem?_append_left hi] at x
    rw [List.getElem?_append_left (by rw [← h.1]; exact hi)] at y
    exact h.2 i v o x y
  · rw [List.getElem?_append_right (by omega)] at x
    rw [List.getElem?_append_right (by rw [← h.1]; omega), ← h.1] at y
    exact g.2 _ v o x y
theorem OVs.two {H : Hp} {u v : V} {a b : Option (Int × Int)} (h : OV H u a) (g : OV H v b) : OVs H [u, v] [a, b] := ⟨rfl, fun i w o x y => by
  match i, x, y with
  | 0, x, y => cases x; cases y; exact h
  | 1, x, y => cases x; cases y; exact g
  | _ + 2, x, _ => simp at x⟩
def nx (m : MS) (q : Int × Int) : List (Option (Int × Int)) := [aftO m q 0, aftO m q 1]
theorem nx_mem {m : MS} {ks : List (Int × Int)} {s : Int × Int} : some s ∈ ks.flatMap (nx m) ↔ ∃ q ∈ ks, On m q s := by
  rw [List.mem_flatMap]
  have one : ∀ {q : Int × Int} {on : Int}, some s = aftO m q on ↔ (q.1 = on ∨ q.2 = 0) ∧ s = aft m q.1 q.2 on := by
    intro q on
    unfold aftO
    by_cases c : q.1 = on ∨ q.2 = 0
    · rw [if_pos c]
      exact ⟨fun h => ⟨c, Option.some.inj h⟩, fun h => congrArg some h.2⟩
    · rw [if_neg c]
      exact ⟨(fun h => by cases h), fun h => absurd h.1 c⟩
  constructor
  · rintro ⟨q, hq, h⟩
    refine ⟨q, hq, ?_⟩
    rcases List.mem_cons.mp h with h | h
    · obtain ⟨c, e⟩ := one.mp h
      exact ⟨0, .inl rfl, c, e⟩
    · rcases List.mem_cons.mp h with h | h
      · obtain ⟨c, e⟩ := one.mp h
        exact ⟨1, .inr rfl, c, e⟩
      · cases h
  · rintro ⟨q, hq, on, b, c, e⟩
    refine ⟨q, hq, ?_⟩
    rcases b with rfl | rfl
    · exact List.mem_cons.mpr (.inl (one.mpr ⟨c, e⟩))
    · exact List.mem_cons.mpr (.inr (List.mem_cons.mpr (.inl (one.mpr ⟨c, e⟩))))
theorem nx_len (m : MS) : ∀ ks : List (Int × Int), (ks.flatMap (nx m)).length = 2 * ks.length
  | [] => rfl
  | k :: ks => by rw [List.flatMap_cons, List.length_append, nx_len m ks, List.length_cons]; show 2 + _ = _; omega
def dd : List (List Int) → List (List Int)
  | [] => []
  | x :: r => if x ∈ dd r then dd r else x :: dd r
theorem dd_mem : ∀ {l : List (List Int)} {x : List Int}, x ∈ dd l ↔ x ∈ l
  | [], _ => Iff.rfl
  | y :: r, x => by
    unfold dd
    split
    · rename_i h
      rw [dd_mem, List.mem_cons]
      exact ⟨.inr, fun z => by rcases z with z | z; rw [z]; exact dd_mem.mp h; exact z⟩
    · rw [List.mem_cons, List.mem_cons, dd_mem]
theorem dd_nd : ∀ l : List (List Int), (dd l).Nodup
  | [] => List.nodup_nil
  | y :: r => by
    unfold dd
    split
    · exact dd_nd r
    · rename_i h
      exact List.nodup_cons.mpr ⟨h, dd_nd r⟩
def stL (s : Int × Int) : List Int := [s.1, s.2]
theorem few_L {m : MS} (g : m.Good) {a : Int × Int} (h : St1 m a) {n : Nat} {us : List (List Int)} (nd : us.Nodup) (hr : ∀ t ∈ us, ∃ s, t = stL s ∧ Rc m a n s) : us.length ≤ 25 := by
  have e : us = (us.map fun u => (u.getD 0 0, u.getD 1 0)).map stL := by
    rw [List.map_map]
    conv => lhs; rw [← List.map_id us]
    refine List.map_congr_left fun u hu => ?_
    obtain ⟨s, rfl, _⟩ := hr u hu
    rfl
  have nd2 : (us.map fun u => (u.getD 0 0, u.getD 1 0)).Nodup := by
    rw [List.Nodup, List.pairwise_map]
    refine nd.imp_of_mem ?_
    intro x y hx hy hxy z
    obtain ⟨s, rfl, _⟩ := hr x hx
    obtain ⟨s', rfl, _⟩ := hr y hy
    refine hxy ?_
    injection z with z1 z2
    unfold stL
    rw [show s.1 = s'.1 from z1, show s.2 = s'.2 from z2]
  have := Rc.few g h nd2 (n := n) fun k hk => by
    obtain ⟨u, hu, rfl⟩ := List.mem_map.mp hk
    obtain ⟨s, rfl, hs⟩ := hr u hu
    exact hs
  rw [List.length_map] at this
  exact this
theorem OVs.refs {H : Hp} : ∀ {vs : List V} {os : List (Option (Int × Int))}, OVs H vs os → ∃ qs : List Addr, vs.filter (fun v => !decide (v = V.non)) = qs.map V.ref ∧ TupsAt H qs ((os.filterMap id).map stL)
  | [], [], _ => ⟨[], rfl, rfl, fun j q t h => by simp at h⟩
  | [], _ :: _, h => by have := h.1; simp at this
  | _ :: _, [], h => by have := h.1; simp at this
  | v :: vs, o :: os, h => by
    obtain ⟨qs, e1, e2⟩ := OVs.refs (vs := vs) (os := os) ⟨by have := h.1; simpa using this, fun i w o x y => h.2 (i + 1) w o x y⟩
    have h0 := h.2 0 v o rfl rfl
    cases o with
    | none =>
      have h0' : v = .non := h0
      subst h0'
      exact ⟨qs, e1, e2⟩
    | some s =>
      obtain ⟨T, rfl, g⟩ := h0
      refine ⟨T :: qs, by rw [List.filter_cons_of_pos (by simp), e1]; rfl, by have := e2.len; simp [this], fun j q t x y => ?_⟩
      cases j with
      | zero => cases x; cases y; exact ⟨g, by unfold stL; simp⟩
      | succ j => exact e2.at_ j q t x y
theorem sorted_L {H : Hp} {qs : List Addr} {us ts : List (List Int)} (nd : ts.Nodup) (hf : ∀ t ∈ ts, ∃ s, t = stL s) (hT : TupsAt H qs us) (hp : us.Perm ts) (hs : us.Pairwise fun a b => lexB b a = false) :
    ∃ ks : List (Int × Int), ks.Pairwise sLt ∧ (∀ s, s ∈ ks ↔ stL s ∈ ts) ∧ PVs κS H (qs.map V.ref) ks := by
  have e : (ts.map fun u => (((u.getD 0 0, u.getD 1 0), 0) : WP)).map (fun p => [p.1.1, p.1.2]) = ts := by
    rw [List.map_map]
    conv => rhs; rw [← List.map_id ts]
    refine List.map_congr_left fun u hu => ?_
    obtain ⟨s, rfl⟩ := hf u hu
    rfl
  have nd2 : ((ts.map fun u => (((u.getD 0 0, u.getD 1 0), 0) : WP)).map (·.1)).Nodup := by
    rw [List.map_map, List.Nodup, List.pairwise_map]
    refine nd.imp_of_mem ?_
    intro x y hx hy hxy z
    obtain ⟨s, rfl⟩ := hf x hx
    obtain ⟨s', rfl⟩ := hf y hy
    refine hxy ?_
    have z1 := congrArg Prod.fst z
    have z2 := congrArg Prod.snd z
    unfold stL
    rw [show s.1 = s'.1 from z1, show s.2 = s'.2 from z2]
  obtain ⟨ks, a1, a2, a3⟩ := states_sorted nd2 hT (by rw [e]; exact hp) hs
  refine ⟨ks, a1, fun s => ?_, a3⟩
  rw [a2, List.map_map, List.mem_map]
  constructor
  · rintro ⟨u, hu, e⟩
    obtain ⟨s', rfl⟩ := hf u hu
    rw [show s = s' from e.symm]
    exact hu
  · intro h
    exact ⟨stL s, h, rfl⟩
theorem next_L {H : Hp} {m : MS} {a : Int × Int} {n : Nat} {ks : List (Int × Int)} (hk : ∀ s, s ∈ ks ↔ Rc m a n s) {t : List Int} : t ∈ ((ks.flatMap (nx m)).filterMap id).map stL ↔ ∃ s, t = stL s ∧ Rc m a (n + 1) s := by
  rw [List.mem_map]
  have one : ∀ s, s ∈ (ks.flatMap (nx m)).filterMap id ↔ Rc m a (n + 1) s := fun s => by
    rw [List.mem_filterMap]
    constructor
    · rintro ⟨o, ho, e⟩
      have e' : o = some s := e
      rw [e', nx_mem] at ho
      obtain ⟨q, hq, h⟩ := ho
      exact ⟨q, (hk q).mp hq, h⟩
    · rintro ⟨q, hq, h⟩
      exact ⟨some s, nx_mem.mpr ⟨q, (hk q).mpr hq, h⟩, rfl⟩
  constructor
  · rintro ⟨s, hs, e⟩
    exact ⟨s, e.symm, (one s).mp hs⟩
  · rintro ⟨s, e, hs⟩
    exact ⟨s, (one s).mpr hs, e.symm⟩
def sp_ways_after (K : PySem.W.Frag) (C : Addr) : Sp := fun vs H Q _ => ∃ (q : Addr) (m : MS) (t : Addr) (a : Int × Int) (n : Nat), vs = [.ref q, .ref t, .int (n : Int)] ∧ MachAt C H q m ∧ m.Good ∧ H t = some (.tup [.int a.1, .int a.2]) ∧ St1 m a ∧ n ≤ 1000 ∧
  ∀ w ps H', Same H H' → H w = none → H' w = some (.dT (enc ps)) → Ways ps → (∀ s, s ∈ ps.map (·.1) ↔ Rc m a n s) → Q (.ref w) H'
set_option maxHeartbeats 40000000 in
theorem ok_ways_after {P : Program} {w : World} {K : PySem.W.Frag} {mg : Str → Option Value} {base : Heap} {a : Adr} (tx : Txt K mg a) : FnOk P w K mg base CX0 4 a.f_ways_after a.d_ways_after ["machine", "state", "hours"] (sp_ways_after K a.c_Machine) := by
  have G_ways_one_on := ok_ways_one_on (P := P) (w := w) (base := base) tx
  refine tx.F_ways_after.ok sc_ways_after (fun vs H Q E h => ?_) (fun cdv A outer s H vs Q E hr h => ?_)
  · obtain ⟨q, m, t, st, n, rfl, _⟩ := h
    rfl
  · obtain ⟨q, m, t, st, n, rfl , hm, hg, ht, hst, hn, k⟩ := h
    have hu := hu9 hr
    refine L2.Q.root (L2.Q.pss_cons (L2.Q.ps_set (i := 3) sc_ways_after.nd rfl (Or.inl rfl) (L2.Q.pe_dict1 hu (L2.Q.pv 1) L2.Q.pe_int))
      (L2.Q.pss_cons (L2.Q.ps_for PassesOwn.never rfl (L2.Q.pi_range1N (by rfl) tx.z_range (L2.Q.pa_c (L2.Q.pv 2) L2.Q.pa_nil)) (L2.Q.pg_name (i := 4) sc_ways_after.nd rfl (Or.inl rfl)) (L2.Q.pss_one (L2.Q.ps_set (i := 3) sc_ways_after.nd rfl (Or.inl rfl) (L2.Q.pe_callN (G_ways_one_on) (hr.mono (by decide)) (by rfl) tx.g_ways_one_on tx.F_ways_one_on.kp tx.b_ways_one_on .nil pass0 (L2.Q.pa_c (L2.Q.pv 0) (L2.Q.pa_c (L2.Q.pv 3) L2.Q.pa_nil))))))
      (L2.Q.pss_one (L2.Q.ps_ret (L2.Q.pv 3))))) ?_
    refine rd_start (σ := [some (.ref q), some (.ref t), some (.int (n : Int)), none, none]) rfl ?_
    repeat walk_at "go"
    intro w nw0
    obtain ⟨H1, i1, s1, g1⟩ := nw _ nw0; rw [i1]
    have ht1 := s1 _ _ ht
    repeat walk_at "go"
    refine ⟨t, encK st, rfl, ht1, g1, ?_⟩
    obtain ⟨H2, i2, k2, g2⟩ := wr H1 w _; rw [i2]
    have S2 : Same H H2 := fun b o e => k2 _ _ (s1 _ _ e) (ne_none nw0 e)
    repeat walk_at "go"
    refine ⟨by omega, by omega, ?_⟩
    refine rf_range (fun i σ' H' => ∃ (w : Addr) (ps : List WP) (z4 : Option V), σ' = [some (.ref q), some (.ref t), some (.int (n : Int)), some (.ref w), z4] ∧ H w = none ∧ H' w = some (.dT (enc ps)) ∧ Ways ps ∧ (∀ s, s ∈ ps.map (·.1) ↔ Rc m st i s) ∧ Same H H')
      ⟨w, [(st, 1)], _, rfl, nw0, g2, ⟨by simp, fun p hp => by rw [List.mem_singleton.mp hp]; exact hst.st0 hg⟩, fun s => by show s ∈ [st] ↔ s = st; simp, S2⟩ (fun i σ' H' hi ⟨w', ps, z4, e, nw', gw, hW, hk, S'⟩ => ?_) (fun σ' H' ⟨w', ps, z4, e, nw', gw, hW, hk, S'⟩ => ?_)
    · subst e
      repeat walk_at "go"
      refine ⟨q, m, w', ps, rfl, hm.same S', hg, gw, hW, fun w2 ps2 H3 s3 nw2 gw2 hW2 hk2 => ?_⟩
      repeat walk_at "go"
      refine ⟨w2, ps2, _, rfl, S'.free nw2, gw2, hW2, fun s => ?_, fun b o e => s3 _ _ (del_some (S' _ _ e) (ne_none nw' e))⟩
      rw [hk2 s]
      exact ⟨fun ⟨p, h1, h2⟩ => ⟨p, (hk p).mp h1, h2⟩, fun ⟨p, h1, h2⟩ => ⟨p, (hk p).mpr h1, h2⟩⟩
    · subst e
      repeat walk_at "go"
      refine k w' ps H' S' nw' gw hW fun s => ?_
      have := hk s
      simpa using this
def sp_states_after (K : PySem.W.Frag) (C : Addr) : Sp := fun vs H Q _ => ∃ (q : Addr) (m : MS) (t : Addr) (a : Int × Int) (n : Nat), vs = [.ref q, .ref t, .int (n : Int)] ∧ MachAt C H q m ∧ m.Good ∧ H t = some (.tup [.int a.1, .int a.2]) ∧ St1 m a ∧ n ≤ 1000 ∧
  ∀ p us ks H', Same H H' → H p = none → H' p = some (.lst us) → PVs κS H' us ks → ks.Pairwise sLt → (∀ s, s ∈ ks ↔ Rc m a n s) → Q (.ref p) H'
set_option maxHeartbeats 40000000 in
theorem ok_states_after {P : Program} {w : World} {K : PySem.W.Frag} {mg : Str → Option Value} {base : Heap} {a : Adr} (tx : Txt K mg a) : FnOk P w K mg base CX0 5 a.f_states_after a.d_states_after ["machine", "state", "hours"] (sp_states_after K a.c_Machine) := by
  have G_ways_after := ok_ways_after (P := P) (w := w) (base := base) tx
  refine tx.F_states_after.ok sc_states_after (fun vs H Q E h => ?_) (fun cdv A outer s H vs Q E hr h => ?_)
  · obtain ⟨q, m, t, st, n, rfl, _⟩ := h
    rfl
  · obtain ⟨q, m, t, st, n, rfl , hm, hg, ht, hst, hn, k⟩ := h
    have hu := hu9 hr
    refine L2.Q.root (L2.Q.pss_one (L2.Q.ps_ret (L2.Q.pe_callBN (rc := rSortK) (call_sortedK rfl) (by rfl) tx.z_sorted bt_sorted (L2.Q.pa_c (L2.Q.pe_callN (G_ways_after) (hr.mono (by decide)) (by rfl) tx.g_ways_after tx.F_ways_after.kp tx.b_ways_after .nil pass0 (L2.Q.pa_c (L2.Q.pv 0) (L2.Q.pa_c (L2.Q.pv 1) (L2.Q.pa_c (L2.Q.pv 2) L2.Q.pa_nil)))) L2.Q.pa_nil)))) ?_
    refine rd_start (σ := [some (.ref q), some (.ref t), some (.int (n : Int))]) rfl ?_
    repeat walk_at "go"
    refine ⟨q, m, t, st, n, rfl, hm, hg, ht, hst, hn, fun w ps H1 s1 nw1 gw hW hk => ?_⟩
    have few := Rc.few hg hst hW.nd fun k hk' => (hk k).mp hk'
    rw [List.length_map] at few
    repeat walk_at "go"
    refine rd_sortK gw (enc_keys ps) (fun t ht => by obtain ⟨p, _, rfl⟩ := List.mem_map.mp ht; simp) (by rw [List.length_map]; omega) fun p qs us np hT hp hs => ?_
    obtain ⟨ks, k1, k2, k3⟩ := states_sorted hW.nd hT hp hs
    obtain ⟨H2, i2, s2, g2⟩ := nw _ np; rw [i2]
    exact k p _ ks H2 (s1.trans s2) (s1.free np) g2 (k3.same s2) k1 fun s => (k2 s).trans (hk s)
def sp__law_reached (K : PySem.W.Frag) : Sp := fun vs H Q _ => ∃ (s : Addr) (m : MS) (t : Addr) (a : Int × Int) (n : Nat), vs = [.ref s, .ref t, .int (n : Int)] ∧ SpecAt H s m ∧ m.Good ∧ H t = some (.tup [.int a.1, .int a.2]) ∧ St1 m a ∧ n ≤ 1000 ∧
  ∀ p us ks H', Same H H' → H p = none → H' p = some (.lst us) → PVs κS H' us ks → ks.Pairwise sLt → (∀ s, s ∈ ks ↔ Rc m a n s) → Q (.ref p) H'
set_option maxHeartbeats 40000000 in
theorem ok__law_reached {P : Program} {w : World} {K : PySem.W.Frag} {mg : Str → Option Value} {base : Heap} {a : Adr} (tx : Txt K mg a) : FnOk P w K mg base CX0 2 a.f__law_reached a.d__law_reached ["_law_spec_here", "_law_state_here", "_law_hours"] (sp__law_reached K) := by
  have G__law_after := ok__law_after (P := P) (w := w) (base := base) tx
  refine tx.F__law_reached.ok sc__law_reached (fun vs H Q E h => ?_) (fun cdv A outer s H vs Q E hr h => ?_)
  · obtain ⟨s, m, t, st, n, rfl, _⟩ := h
    rfl
  · obtain ⟨s, m, t, st, n, rfl , hs, hg, ht, hst, hn, k⟩ := h
    have hu := hu9 hr
    refine L2.Q.root (L2.Q.pss_cons (L2.Q.ps_set (i := 3) sc__law_reached.nd rfl (Or.inl rfl) (L2.Q.lst1 (L2.Q.pv 1)))
      (L2.Q.pss_cons (L2.Q.ps_for PassesOwn.never rfl (L2.Q.pi_range1N (by rfl) tx.z_range (L2.Q.pa_c (L2.Q.pv 2) L2.Q.pa_nil)) (L2.Q.pg_name (i := 4) sc__law_reached.nd rfl (Or.inl rfl)) (L2.Q.pss_cons (L2.Q.ps_set (i := 5) sc__law_reached.nd rfl (Or.inl rfl) (L2.Q.pe_lst L2.Q.pa_nil))
      (L2.Q.pss_cons (L2.Q.ps_for PassesOwn.never rfl (L2.Q.pi_listK (K' := K) (L2.Q.pv 3)) (L2.Q.pg_name (i := 6) sc__law_reached.nd rfl (Or.inl rfl)) (L2.Q.pss_one (L2.Q.ps_set (i := 5) sc__law_reached.nd rfl (Or.inl rfl) (L2.Q.pe_op op_addG (L2.Q.pv 5) (L2.Q.lst2 (L2.Q.pe_callN (G__law_after) (hr.mono (by decide)) (by rfl) tx.g__law_after tx.F__law_after.kp tx.b__law_after .nil pass0 (L2.Q.pa_c (L2.Q.pv 0) (L2.Q.pa_c (L2.Q.pv 6) (L2.Q.pa_c L2.Q.pe_int L2.Q.pa_nil)))) (L2.Q.pe_callN (G__law_after) (hr.mono (by decide)) (by rfl) tx.g__law_after tx.F__law_after.kp tx.b__law_after .nil pass0 (L2.Q.pa_c (L2.Q.pv 0) (L2.Q.pa_c (L2.Q.pv 6) (L2.Q.pa_c L2.Q.pe_int L2.Q.pa_nil)))))))))
      (L2.Q.pss_one (L2.Q.ps_set (i := 3) sc__law_reached.nd rfl (Or.inl rfl) (L2.Q.pe_callBN (rc := rSortS w) (call_sortS rfl) (by rfl) tx.z_sorted bt_sorted (L2.Q.pa_c (L2.Q.pe_callTyN (rc := rSetT w) (call_setT rfl hu) (by rfl) tx.z_set bt_set (L2.Q.pa_c (L2.Q.pe_comp (k := 1) (idx := []) (N := ["_law_one"]) (blk_sc (sc := defScope s__law_reached) (NX := ["_law_spec_here", "_law_state_here", "_law_hours", "_law_some", "_law_hour", "_law_later", "_law_one"]) rfl rfl rfl (by decide +kernel)) rfl (L2.Q.pi_listK (K' := K) (L2.Q.pv 5)) (fun _ _ _ _ => (L2.Q.pg_name (i := 0) (show (["_law_one"] : List Str).Nodup by decide +kernel) rfl (Or.inl rfl))) (own_name (by decide)) (fun _ _ _ _ => (L2.Q.pts_one (L2.Q.pt_cmpR op_isNotG (L2.Q.pv 0) L2.Q.pe_non (nomark _)))) (fun _ _ _ _ => (L2.Q.pv 0))) L2.Q.pa_nil)) L2.Q.pa_nil)))))))
      (L2.Q.pss_one (L2.Q.ps_ret (L2.Q.pv 3))))) ?_
    refine rd_start (σ := [some (.ref s), some (.ref t), some (.int (n : Int)), none, none, none, none]) rfl ?_
    repeat walk_at "go"
    intro l0 nl0
    obtain ⟨H1, i1, s1, g1⟩ := nw _ nl0; rw [i1]
    repeat walk_at "go"
    refine ⟨by omega, by omega, ?_⟩
    refine rf_range (fun i σ' H' => ∃ (p : Addr) (us : List V) (ks : List (Int × Int)) (z4 z5 z6 : Option V), σ' = [some (.ref s), some (.ref t), some (.int (n : Int)), some (.ref p), z4, z5, z6] ∧ H p = none ∧ H' p = some (.lst us) ∧ PVs κS H' us ks ∧ ks.Pairwise sLt ∧ (∀ s, s ∈ ks ↔ Rc m st i s) ∧ Same H H')
      ⟨l0, _, [st], _, _, _, rfl, nl0, g1, ⟨rfl, fun i v x h1 h2 => ?_⟩, by simp, fun s => by show s ∈ [st] ↔ s = st; simp, s1⟩ (fun i σ' H' hi ⟨p, us, ks, z4, z5, z6, e, np, gp, hP, hw, hk, S'⟩ => ?_) (fun σ' H' ⟨p, us, ks, z4, z5, z6, e, np, gp, hP, hw, hk, S'⟩ => ?_)
    · match i, h1, h2 with
      | 0, h1, h2 => cases h1; cases h2; exact ⟨t, rfl, s1 _ _ ht⟩
      | _ + 1, h1, _ => simp at h1
    · subst e
      have few := Rc.few hg hst (sLt_nd hw) fun k hk' => (hk k).mp hk'
      repeat walk_at "go"
      intro lt nlt
      obtain ⟨H2, i2, s2, g2⟩ := nw _ nlt; rw [i2]
      repeat walk_at "go"
      have hPl := hP.1
      refine rd_li (SqL.of (s2 _ _ gp)) ?_
      refine rf_list (xs := us) (fun j σ' H' => ∃ (lt : Addr) (vs : List V) (z4 z6 : Option V), σ' = [some (.ref s), some (.ref t), some (.int (n : Int)), some (.ref p), z4, some (.ref lt), z6] ∧ Same H2 H' ∧ H' lt = some (.lst vs) ∧ OVs H' vs ((ks.take j).flatMap (nx m)))
        ⟨lt, [], _, _, rfl, Same.refl _, g2, rfl, fun i v o h1 => by simp at h1⟩ (fun j σ' H' hj ⟨_, _, _, _, _, s3, _⟩ => SqL.of (s3 _ _ (s2 _ _ gp))) (fun j v σ' H3 hv ⟨lt, vs, z4, z6, e, s3, g3, hO⟩ => ?_) (fun σ' H3 ⟨lt, vs, z4, z6, e, s3, g3, hO⟩ => ?_)
      · subst e
        obtain ⟨x, hx, T, rfl, gT⟩ := hP.get hv
        have gT3 : H3 T = some (.tup [.int x.1, .int x.2]) := (s2.trans s3) _ _ gT
        have S3 := S'.trans (s2.trans s3)
        obtain ⟨⟨b1, b2, b3⟩, _⟩ := Rc.st hg hst ((hk x).mp (List.mem_of_getElem? hx))
        repeat walk_at "go"
        refine ⟨s, m, T, _, _, 0, rfl, hs.same S3, gT3, .inl rfl, b1, b2, fun v0 H4 s4 o0 => ?_⟩
        repeat walk_at "go"
        refine ⟨s, m, T, _, _, 1, rfl, hs.same (S3.trans s4), s4 _ _ gT3, .inr rfl, b1, b2, fun v1 H5 s5 o1 => ?_⟩
        repeat walk_at "go"
        intro l5 nl5
        obtain ⟨H6, i6, s6, g6⟩ := nw _ nl5; rw [i6]
        have hl := hO.1
        rw [nx_len, List.length_take] at hl
        repeat walk_at "go"
        refine rd_addL ((s4.trans (s5.trans s6)) _ _ g3) g6 (sz_le (by simp; omega)) ?_
        intro l7 nl7
        obtain ⟨H8, i8, s8, g8⟩ := nw _ nl7; rw [i8]
        repeat walk_at "go"
        refine ⟨l7, _, _, _, rfl, s3.trans (s4.trans (s5.trans (s6.trans s8))), g8, ?_⟩
        rw [take_sn hx, List.flatMap_append]
        exact (hO.same (s4.trans (s5.trans (s6.trans s8)))).app (by rw [List.flatMap_singleton]; exact OVs.two (o0.same (s5.trans (s6.trans s8))) (o1.same (s6.trans s8)))
      · subst e
        rw [hPl, List.take_length] at hO
        have hl := hO.1
        rw [nx_len] at hl
        repeat walk_at "go"
        refine rd_li (SqL.of g3) ?_
        refine comp_list (xs := vs) (fun j us H' => H' = H3 ∧ us = (vs.take j).filter (fun v => !decide (v = V.non))) ⟨rfl, rfl⟩ (sz_le (by omega)) (fun j us H' hj ⟨e0, e1⟩ => ⟨by rw [e0]; exact SqL.of g3, by rw [e1]; exact Nat.le_trans (List.length_filter_le ..) (List.length_take_le ..)⟩) (fun j v us H' hv ⟨e0, e1⟩ => ?_) (fun us H' ⟨e0, e1⟩ => ?_)
        · subst e0
          have hj : j < ((ks.flatMap (nx m))).length := by rw [← hO.1]; exact (List.getElem?_eq_some_iff.mp hv).1
          have ov := hO.2 j v _ hv (List.getElem?_eq_getElem hj)
          have tk := take_sn hv
          cases he : (ks.flatMap (nx m))[j] with
          | none =>
            rw [he] at ov
            have ov' : v = .non := ov
            subst ov'
            repeat walk_at "gs"
            refine ⟨rfl, ?_⟩
            rw [e1, tk, List.filter_append]
            simp
          | some x =>
            rw [he] at ov
            obtain ⟨T, rfl, _⟩ := ov
            repeat walk_at "gs"
            refine ⟨rfl, ?_⟩
            rw [e1, tk, List.filter_append]
            simp
        · subst e0
          rw [List.take_length] at e1
          obtain ⟨qs, q1, q2⟩ := hO.refs
          rw [q1] at e1
          subst e1
          intro lc nlc
          obtain ⟨H4, i4, s4, g4⟩ := nw _ nlc; rw [i4]
          have nl := fun t => next_L (H := H4) (t := t) hk
          repeat walk_at "go"
          refine rd_setT (al := dd (((ks.flatMap (nx m)).filterMap id).map stL)) g4 (tS q2 s4) (fun t ht => dd_mem.mpr ht) (Nat.lt_of_le_of_lt (few_L hg hst (n := i + 1) (dd_nd _) fun t ht => (nl t).mp (dd_mem.mp ht)) (by decide)) fun pS qs' ts' npS hT' nd' mem' => ?_
          obtain ⟨H5, i5, s5, g5⟩ := nw _ npS; rw [i5]
          have fewS := few_L hg hst (n := i + 1) nd' fun t ht => (nl t).mp ((mem' t).mp ht)
          repeat walk_at "go"
          refine rd_sortS g5 (tS hT' s5) (by omega) fun pL qL uL npL hTL hpL hsL => ?_
          obtain ⟨H6, i6, s6, g6⟩ := nw _ npL; rw [i6]
          obtain ⟨ks', c1, c2, c3⟩ := sorted_L nd' (fun t ht => by obtain ⟨s, e, _⟩ := (nl t).mp ((mem' t).mp ht); exact ⟨s, e⟩) hTL hpL hsL
          have S6 : Same H H6 := S'.trans (s2.trans (s3.trans (s4.trans (s5.trans s6))))
          repeat walk_at "go"
          refine ⟨pL, _, ks', _, _, _, rfl, (S'.trans (s2.trans (s3.trans (s4.trans s5)))).free npL, g6, c3.same s6, c1, fun x => ?_, S6⟩
          rw [c2, mem', nl]
          exact ⟨fun ⟨y, e, h⟩ => by
            unfold stL at e
            injection e with e1 e2
            injection e2 with e2
            rw [show x = y from Prod.ext e1 e2]; exact h, fun h => ⟨x, rfl, h⟩⟩
    · subst e
      repeat walk_at "go"
      refine k p us ks H' S' np gp hP hw fun s => ?_
      have := hk s
      simpa using this
def Pr2 (H : Hp) (m : MS) (u : Addr) (o o' : Int × Int) : Prop := ∃ t t', H u = some (.lst [.ref t, .ref t']) ∧ H t = some (.tup [.int o.1, .int o.2]) ∧ H t' = some (.tup [.int o'.1, .int o'.2]) ∧ St1 m o ∧ St1 m o'
theorem Pr2.same {H H' : Hp} {m : MS} {u : Addr} {o o' : Int × Int} (h : Pr2 H m u o o') (s : Same H H') : Pr2 H' m u o o' := let ⟨t, t', a, b, c, d⟩ := h; ⟨t, t', s _ _ a, s _ _ b, s _ _ c, d⟩
theorem Pr2.keep {H H' : Hp} {m : MS} {u p : Addr} {o o' : Int × Int} (h : Pr2 H m u o o') (hh : HandAt H p) (k : Keep p H H') : Pr2 H' m u o o' := by
  obtain ⟨t, t', a, b, c, d⟩ := h
  exact ⟨t, t', k _ _ a (hh.nlen a (by simp)), k _ _ b (fun z => hh.ntup _ (by rw [← z]; exact b)), k _ _ c (fun z => hh.ntup _ (by rw [← z]; exact c)), d⟩
def Hel (lh : Addr) (H : Hp) (h : Addr) (ks : List (Int × Int)) : Prop := ∃ f c us, H h = some (.tup [.ref f, .ref c]) ∧ H f = some (.lst us) ∧ H c = some (.lst us) ∧ PVs κS H us ks ∧ f ≠ lh ∧ c ≠ lh
theorem Hel.same {lh : Addr} {H H' : Hp} {h : Addr} {ks : List (Int × Int)} (x : Hel lh H h ks) (s : Same H H') : Hel lh H' h ks := let ⟨f, c, us, a, b, d, e, g⟩ := x; ⟨f, c, us, s _ _ a, s _ _ b, s _ _ d, e.same s, g⟩
theorem Hel.keep {lh : Addr} {H H' : Hp} {h : Addr} {ks : List (Int × Int)} {xs : List V} (x : Hel lh H h ks) (g : H lh = some (.lst xs)) (k : Keep lh H H') : Hel lh H' h ks := by
  obtain ⟨f, c, us, a, b, d, e, n1, n2⟩ := x
  exact ⟨f, c, us, k _ _ a (fun z => by rw [z, g] at a; cases a), k _ _ b n1, k _ _ d n2, ⟨e.1, fun i v x h1 h2 => PK.pv_keep (e.2 i v x h1 h2) g k⟩, n1, n2⟩
theorem eq_PVs {K : PySem.W.Frag} {H : Hp} {f c : Addr} {us : List V} {ks : List (Int × Int)} (h1 : H f = some (.lst us)) (h2 : H c = some (.lst us)) (h : PVs κS H us ks) : EqN K H 8 (.ref f) (.ref c) true := by
  refine .inr ⟨f, c, us, us, fun _ => true, rfl, rfl, .inl ⟨SqL.of h1, SqL.of h2⟩, fun j u v hu hv => ?_, by simp⟩
  rw [hu] at hv
  cases hv
  obtain ⟨x, _, T, rfl, gT⟩ := h.get hu
  refine .inr ⟨T, T, _, _, fun _ => true, rfl, rfl, .inr ⟨SqT.of gT, SqT.of gT⟩, fun j u v hu hv => ?_, by simp⟩
  rw [hu] at hv
  cases hv
  have fl : flatV u = true := by
    match j, hu with
    | 0, hu => cases hu; rfl
    | 1, hu => cases hu; rfl
    | _ + 2, hu => simp [encK] at hu
  exact .inl ⟨fl, fl, (eqV_refl fl).symm⟩
theorem sm_PVs {H : Hp} {f c : Addr} {us vs : List V} {ks : List (Int × Int)} (h1 : H f = some (.lst us)) (h2 : H c = some (.lst vs)) (p1 : PVs κS H us ks) (p2 : PVs κS H vs ks) (hl : ks.length ≤ 1000) : SmV H 3 (.ref f) (.ref c) := by
  refine .inr (.inr (.inr (.inr ⟨f, c, us, vs, rfl, rfl, .inr ⟨h1, h2⟩, by rw [p1.1, p2.1], by rw [p2.1]; omega, fun i u v hu hv => ?_⟩)))
  obtain ⟨x, hx, T, rfl, gT⟩ := p1.get hu
  obtain ⟨y, hy, T', rfl, gT'⟩ := p2.get hv
  rw [hx] at hy
  cases hy
  exact SmV.pair gT gT'
def sp_law (K : PySem.W.Frag) : Sp := fun vs H Q _ => ∃ (a : Addr) (ns : List Int), vs = [.ref a] ∧ SqL K H a (ns.map V.int) ∧ ns.length ≤ 63 ∧ ∀ H', Q (.bl true) H'
set_option maxHeartbeats 40000000 in
theorem ok_law {P : Program} {w : World} {K : PySem.W.Frag} {mg : Str → Option Value} {base : Heap} {a : Adr} (tx : Txt K mg a) : FnOk P w K mg base CX0 8 a.f_law a.d_law ["_law_script"] (sp_law K) := by
  have G__law_draw := ok__law_draw (P := P) (w := w) (base := base) tx
  have G__law_machine := ok__law_machine (P := P) (w := w) (base := base) tx
  have G__law_open := ok__law_open (P := P) (w := w) (base := base) tx
  have G__law_reached := ok__law_reached (P := P) (w := w) (base := base) tx
  have G__law_same := ok__law_same (P := P) (w := w) (base := base) tx 3
  have G__law_spec := ok__law_spec (P := P) (w := w) (base := base) tx
  have G__law_state := ok__law_state (P := P) (w := w) (base := base) tx
  have G_states_after := ok_states_after (P := P) (w := w) (base := base) tx
  refine tx.F_law.ok sc_law (fun vs H Q E h => ?_) (fun cdv A outer s H vs Q E hr h => ?_)
  · obtain ⟨ad, ns, rfl, _⟩ := h
    rfl
  · obtain ⟨ad, ns, rfl , hS, hl, k⟩ := h
    have hu := hu9 hr
    refine L2.Q.root (L2.Q.pss_cons (L2.Q.ps_set (i := 1) sc_law.nd rfl (Or.inr rfl) (L2.Q.pe_callN (G__law_open) (hr.mono (by decide)) (by rfl) tx.g__law_open tx.F__law_open.kp tx.b__law_open .nil pass0 (L2.Q.pa_c (L2.Q.pv 0) (L2.Q.pa_c L2.Q.pe_int L2.Q.pa_nil))))
      (L2.Q.pss_cons (L2.Q.ps_set (i := 2) sc_law.nd rfl (Or.inr rfl) (L2.Q.pe_ixK (K' := K) (L2.Q.lst2 L2.Q.pe_int L2.Q.pe_int) (L2.Q.pe_callTyN call_intG (by rfl) tx.z_int bt_int (L2.Q.pa_c (L2.Q.pe_cmpR (r := rEqG K) (op_eqG hu) (L2.Q.pe_callN (G__law_draw) (hr.mono (by decide)) (by rfl) tx.g__law_draw tx.F__law_draw.kp tx.b__law_draw .nil pass0 (L2.Q.pa_c (L2.Q.pv 1) (L2.Q.pa_c L2.Q.pe_int L2.Q.pa_nil))) L2.Q.pe_int (nomark _)) L2.Q.pa_nil)) (fun _ _ => rfl)))
      (L2.Q.pss_cons (L2.Q.ps_setC (k := 1) (idx := [1, 2]) (N := ["_law_k", "_law_hand", "_law_longest"]) (i := 4) sc_law.nd rfl (Or.inl rfl) (blk_sc (sc := defScope s_law) (NX := ["_law_script", "_law_hand", "_law_longest", "_law_k", "_law_specs", "_law_machines", "_law_states", "_law_hours", "_law_held", "_law_more", "_law_many", "_law_state_here", "_law_found"]) rfl rfl rfl (by decide +kernel)) rfl (L2.Q.pi_range1N (by rfl) tx.z_range (L2.Q.pa_c L2.Q.pe_int L2.Q.pa_nil)) (fun _ _ _ _ => (L2.Q.pg_name (i := 0) (show (["_law_k", "_law_hand", "_law_longest"] : List Str).Nodup by decide +kernel) rfl (Or.inl rfl))) (own_name (by decide)) (fun _ _ _ _ => L2.Q.pts_nil) (fun _ _ _ _ => (L2.Q.pe_callN (G__law_spec) (hr.mono (by decide)) (by rfl) tx.g__law_spec tx.F__law_spec.kp tx.b__law_spec .nil pass0 (L2.Q.pa_c (L2.Q.pv 1) (L2.Q.pa_c (L2.Q.lst2 L2.Q.pe_int L2.Q.pe_int) (L2.Q.pa_c (L2.Q.pv 2) L2.Q.pa_nil))))))
      (L2.Q.pss_cons (L2.Q.ps_setC (k := 1) (idx := []) (N := ["_law_spec_here"]) (i := 5) sc_law.nd rfl (Or.inl rfl) (blk_sc (sc := defScope s_law) (NX := ["_law_script", "_law_hand", "_law_longest", "_law_k", "_law_specs", "_law_machines", "_law_states", "_law_hours", "_law_held", "_law_more", "_law_many", "_law_state_here", "_law_found"]) rfl rfl rfl (by decide +kernel)) rfl (L2.Q.pi_listK (K' := K) (L2.Q.pv 4)) (fun _ _ _ _ => (L2.Q.pg_name (i := 0) (show (["_law_spec_here"] : List Str).Nodup by decide +kernel) rfl (Or.inl rfl))) (own_name (by decide)) (fun _ _ _ _ => L2.Q.pts_nil) (fun _ _ _ _ => (L2.Q.pe_callN (G__law_machine) (hr.mono (by decide)) (by rfl) tx.g__law_machine tx.F__law_machine.kp tx.b__law_machine .nil pass0 (L2.Q.pa_c (L2.Q.pv 0) L2.Q.pa_nil))))
      (L2.Q.pss_cons (L2.Q.ps_setC (k := 1) (idx := [1]) (N := ["_law_spec_here", "_law_hand"]) (i := 6) sc_law.nd rfl (Or.inl rfl) (blk_sc (sc := defScope s_law) (NX := ["_law_script", "_law_hand", "_law_longest", "_law_k", "_law_specs", "_law_machines", "_law_states", "_law_hours", "_law_held", "_law_more", "_law_many", "_law_state_here", "_law_found"]) rfl rfl rfl (by decide +kernel)) rfl (L2.Q.pi_listK (K' := K) (L2.Q.pv 4)) (fun _ _ _ _ => (L2.Q.pg_name (i := 0) (show (["_law_spec_here", "_law_hand"] : List Str).Nodup by decide +kernel) rfl (Or.inl rfl))) (own_name (by decide)) (fun _ _ _ _ => L2.Q.pts_nil) (fun _ _ _ _ => (L2.Q.lst2 (L2.Q.pe_callN (G__law_state) (hr.mono (by decide)) (by rfl) tx.g__law_state tx.F__law_state.kp tx.b__law_state .nil pass0 (L2.Q.pa_c (L2.Q.pv 1) (L2.Q.pa_c (L2.Q.pv 0) L2.Q.pa_nil))) (L2.Q.pe_callN (G__law_state) (hr.mono (by decide)) (by rfl) tx.g__law_state tx.F__law_state.kp tx.b__law_state .nil pass0 (L2.Q.pa_c (L2.Q.pv 1) (L2.Q.pa_c (L2.Q.pv 0) L2.Q.pa_nil))))))
      (L2.Q.pss_cons (L2.Q.ps_set (i := 7) sc_law.nd rfl (Or.inl rfl) (L2.Q.pe_callN (G__law_draw) (hr.mono (by decide)) (by rfl) tx.g__law_draw tx.F__law_draw.kp tx.b__law_draw .nil pass0 (L2.Q.pa_c (L2.Q.pv 1) (L2.Q.pa_c L2.Q.pe_int L2.Q.pa_nil))))
      (L2.Q.pss_cons (L2.Q.ps_if (L2.Q.pt_cmpR (r := rEqG K) (op_eqG hu) (L2.Q.pe_callN (G__law_draw) (hr.mono (by decide)) (by rfl) tx.g__law_draw tx.F__law_draw.kp tx.b__law_draw .nil pass0 (L2.Q.pa_c (L2.Q.pv 1) (L2.Q.pa_c L2.Q.pe_int L2.Q.pa_nil))) L2.Q.pe_int (nomark _)) (L2.Q.pss_one (L2.Q.ps_set (i := 7) sc_law.nd rfl (Or.inl rfl) (L2.Q.pe_callN (G__law_draw) (hr.mono (by decide)) (by rfl) tx.g__law_draw tx.F__law_draw.kp tx.b__law_draw .nil pass0 (L2.Q.pa_c (L2.Q.pv 1) (L2.Q.pa_c L2.Q.pe_int L2.Q.pa_nil))))) L2.Q.pss_nil)
      (L2.Q.pss_cons (L2.Q.ps_set (i := 8) sc_law.nd rfl (Or.inl rfl) (L2.Q.pe_lst L2.Q.pa_nil))
      (L2.Q.pss_cons (L2.Q.ps_for PassesOwn.never rfl (L2.Q.pi_tupK (K' := K) (L2.Q.tup3 L2.Q.pe_int L2.Q.pe_int L2.Q.pe_int)) (L2.Q.pg_name (i := 3) sc_law.nd rfl (Or.inl rfl)) (L2.Q.pss_one (L2.Q.ps_for PassesOwn.never rfl (L2.Q.pi_tupK (K' := K) (L2.Q.tup3 L2.Q.pe_int L2.Q.pe_int L2.Q.pe_int)) (L2.Q.pg_name (i := 9) sc_law.nd rfl (Or.inl rfl)) (L2.Q.pss_cons (L2.Q.ps_set (i := 10) sc_law.nd rfl (Or.inl rfl) (L2.Q.pe_callBN (call_minG rfl) (by rfl) tx.z_min bt_min (L2.Q.pa_c L2.Q.pe_int (L2.Q.pa_c (L2.Q.pe_op op_addG (L2.Q.pv 7) (L2.Q.pe_op op_mod (L2.Q.pv 9) L2.Q.pe_int)) L2.Q.pa_nil))))
      (L2.Q.pss_cons (L2.Q.ps_set (i := 11) sc_law.nd rfl (Or.inl rfl) (L2.Q.pe_ixK (K' := K) (L2.Q.pe_ixK (K' := K) (L2.Q.pv 6) (L2.Q.pv 3) (fun _ _ => rfl)) (L2.Q.pe_op op_fdiv (L2.Q.pv 9) L2.Q.pe_int) (fun _ _ => rfl)))
      (L2.Q.pss_cons (L2.Q.ps_set (i := 12) sc_law.nd rfl (Or.inl rfl) (L2.Q.pe_callN (G_states_after) (hr.mono (by decide)) (by rfl) tx.g_states_after tx.F_states_after.kp tx.b_states_after .nil pass0 (L2.Q.pa_c (L2.Q.pe_ixK (K' := K) (L2.Q.pv 5) (L2.Q.pv 3) (fun _ _ => rfl)) (L2.Q.pa_c (L2.Q.pv 11) (L2.Q.pa_c (L2.Q.pv 10) L2.Q.pa_nil)))))
      (L2.Q.pss_cons (L2.Q.ps_if (L2.Q.pt_not (L2.Q.pt_val (L2.Q.pe_callN (G__law_same) (hr.mono (by decide)) (by rfl) tx.g__law_same tx.F__law_same.kp tx.b__law_same .nil pass0 (L2.Q.pa_c (L2.Q.pv 12) (L2.Q.pa_c (L2.Q.pe_callN (G__law_reached) (hr.mono (by decide)) (by rfl) tx.g__law_reached tx.F__law_reached.kp tx.b__law_reached .nil pass0 (L2.Q.pa_c (L2.Q.pe_ixK (K' := K) (L2.Q.pv 4) (L2.Q.pv 3) (fun _ _ => rfl)) (L2.Q.pa_c (L2.Q.pv 11) (L2.Q.pa_c (L2.Q.pv 10) L2.Q.pa_nil)))) L2.Q.pa_nil))))) (L2.Q.pss_one (L2.Q.ps_ret L2.Q.pe_bl)) L2.Q.pss_nil)
      (L2.Q.pss_cons (L2.Q.ps_expr (L2.Q.pe_appK (K' := K) (L2.Q.pv 8) (L2.Q.pa_c (L2.Q.tup2 (L2.Q.pv 12) (L2.Q.pe_callTyN (rc := rListOf K) call_listG (by rfl) tx.z_list bt_list (L2.Q.pa_c (L2.Q.pv 12) L2.Q.pa_nil))) L2.Q.pa_nil)))
      (L2.Q.pss_one (L2.Q.ps_expr (L2.Q.pe_appK (K' := K) (L2.Q.pe_callN (G_states_after) (hr.mono (by decide)) (by rfl) tx.g_states_after tx.F_states_after.kp tx.b_states_after .nil pass0 (L2.Q.pa_c (L2.Q.pe_ixK (K' := K) (L2.Q.pv 5) (L2.Q.pv 3) (fun _ _ => rfl)) (L2.Q.pa_c (L2.Q.pv 11) (L2.Q.pa_c (L2.Q.pv 10) L2.Q.pa_nil)))) (L2.Q.pa_c (L2.Q.tup2 L2.Q.pe_int L2.Q.pe_int) L2.Q.pa_nil))))))))))))
      (L2.Q.pss_one (L2.Q.ps_ret (L2.Q.pe_callBN (rc := rAll K) (call_allG rfl) (by rfl) tx.z_all bt_all (L2.Q.pa_c (L2.Q.pe_comp (k := 2) (idx := []) (N := ["_law_one", "_law_copy"]) (blk_sc (sc := defScope s_law) (NX := ["_law_script", "_law_hand", "_law_longest", "_law_k", "_law_specs", "_law_machines", "_law_states", "_law_hours", "_law_held", "_law_more", "_law_many", "_law_state_here", "_law_found"]) rfl rfl rfl (by decide +kernel)) rfl (L2.Q.pi_listK (K' := K) (L2.Q.pv 8)) (fun _ _ _ _ => (L2.Q.pg_tupK (K' := K) (n := 2) rfl (L2.Q.pgs_cons (L2.Q.pg_name (i := 0) (show (["_law_one", "_law_copy"] : List Str).Nodup by decide +kernel) rfl (Or.inl rfl)) (L2.Q.pgs_cons (L2.Q.pg_name (i := 1) (show (["_law_one", "_law_copy"] : List Str).Nodup by decide +kernel) rfl (Or.inl rfl)) L2.Q.pgs_nil)))) (own_tup (owns_cons (by decide) (owns_cons (by decide) owns_nil))) (fun _ _ _ _ => L2.Q.pts_nil) (fun _ _ _ _ => (L2.Q.pe_cmpR (r := rEqG K) (op_eqG hu) (L2.Q.pv 0) (L2.Q.pv 1) (nomark _)))) L2.Q.pa_nil))))))))))))) ?_
    refine rd_start (σ := [some (.ref ad), none, none, none, none, none, none, none, none, none, none, none, none]) rfl ?_
    repeat walk_at "go"
    refine ⟨ad, ns, _, rfl, hS, hl, by decide, fun p H1 s1 np hh => ?_⟩
    repeat walk_at "go"
    intro l1 nl1
    repeat walk_at "go"
    refine ⟨p, _, rfl, hh.same (Same.new nl1), by decide, by decide, fun r1 H2 a1 b1 h2 k2 _ => ?_⟩
    have e2 : H2 l1 = some (.lst [.int 3, .int 12]) := k2 _ _ upd_same (hh.nnew nl1)
    have kk2 : Keep p H1 H2 := (Same.new nl1).keep.trans k2
    repeat walk_at "go"
    obtain ⟨L, hL, L0, L1⟩ : ∃ m : Int, atI [V.int 3, .int 12] (if decide (r1 = 3) = true then 1 else 0) = some (.int m) ∧ 1 ≤ m ∧ m ≤ 12 := by
      by_cases h4 : r1 = 3
      · rw [if_pos (decide_eq_true h4)]; exact ⟨12, rfl, by decide, by decide⟩
      · rw [if_neg (by simpa using h4)]; exact ⟨3, rfl, by decide, by decide⟩
    refine rd_ixL (SqL.of e2) hL ?_
    repeat walk_at "go"
    refine ⟨by decide, by decide, ?_⟩
    refine comp_range (fun i ys H' => ∃ (ss : List Addr) (ms : List MS), ys = ss.map V.ref ∧ ss.length = i ∧ RL (fun s m => SpecAt H' s m ∧ m.Good) ss ms ∧ HandAt H' p ∧ Keep p H1 H') ⟨[], [], rfl, rfl, RL.nil, h2, kk2⟩ (sz_le (by simp))
      (fun i ys H' hi ⟨ss, ms, f1, f2, f3, f4, f5⟩ => by rw [f1, List.length_map]; omega) (fun i ys H' hi ⟨ss, ms, f1, f2, f3, f4, f5⟩ => ?_) (fun ys H' ⟨ss, ms, f1, f2, f3, f4, f5⟩ => ?_)
    · repeat walk_at "go"
      intro b1 nb1
      repeat walk_at "go"
      have sb := Same.new (o := .lst [.int 1, .int 1]) nb1
      repeat walk_at "go"
      refine ⟨p, b1, 1, 1, L, rfl, f4.same sb, upd_same, by decide, by decide, by decide, by decide, L0, L1, fun s m H3 hs gm _ _ h3 k3 nA => ?_⟩
      refine ⟨ss ++ [s], ms ++ [m], by rw [f1, List.map_append]; rfl, by rw [List.length_append, f2]; rfl, (f3.imp fun a x z => ⟨(z.1.same sb).keep (f4.same sb) k3, z.2⟩).snoc ⟨hs, gm⟩, h3, f5.trans (sb.keep.trans k3)⟩
    obtain ⟨sA, sB, mA, mB, rfl, rfl, ⟨hA, gA⟩, ⟨hB, gB⟩⟩ := f3.two f2
    subst f1
    intro lS nS
    repeat walk_at "go"
    have sS := Same.new (o := .lst [.ref sA, .ref sB]) nS
    have hd4 := f4.same sS
    have K4 : Keep p H1 (upd H' lS (.lst [.ref sA, .ref sB])) := f5.trans sS.keep
    have hS4 : SqL K (upd H' lS (.lst [.ref sA, .ref sB])) ad (ns.map V.int) := Same.seq sS (sqKeep hS np s1 f5)
    have hA4 := hA.same sS
    have hB4 := hB.same sS
    have e4 : (upd H' lS (.lst [.ref sA, .ref sB])) lS = some (.lst [.ref sA, .ref sB]) := upd_same
    generalize hH4 : upd H' lS (.lst ([sA, sB].map V.ref)) = H4
    rw [show upd H' lS (.lst [.ref sA, .ref sB]) = H4 from hH4] at hS4 hA4 hB4 e4 hd4 K4
    repeat walk_at "go"
    refine rd_li (SqL.of e4) ?_
    refine comp_list (xs := [.ref sA, .ref sB]) (fun i ys H' => Same H4 H' ∧ ∃ as : List Addr, ys = as.map V.ref ∧ as.length = i ∧ ∀ (j : Nat) x m, as[j]? = some x → [mA, mB][j]? = some m → MachAt a.c_Machine H' x m)
      ⟨Same.refl _, [], rfl, rfl, fun j x m h => by simp at h⟩ (sz_le (by simp)) (fun i ys H' hi ⟨s, as, e1, e2, e3⟩ => ⟨SqL.of (s _ _ e4), by rw [e1, List.length_map]; omega⟩) (fun i x ys H' hx ⟨s, as, e1, e2, e3⟩ => ?_) (fun ys H' ⟨s, as, e1, e2, e3⟩ => ?_)
    · obtain ⟨sp, m, hsp, hm, gm, rfl⟩ : ∃ sp m, SpecAt H4 sp m ∧ [mA, mB][i]? = some m ∧ m.Good ∧ x = .ref sp := by
        match i, hx with
        | 0, hx => cases hx; exact ⟨sA, mA, hA4, rfl, gA, rfl⟩
        | 1, hx => cases hx; exact ⟨sB, mB, hB4, rfl, gB, rfl⟩
        | _ + 2, hx => simp at hx
      repeat walk_at "go"
      refine ⟨sp, m, rfl, hsp.same s, gm, fun y H5 hM s5 ny => ?_⟩
      refine ⟨s.trans s5, as ++ [y], by rw [e1, List.map_append]; rfl, by rw [List.length_append, e2]; rfl, fun j z m' hz hm' => ?_⟩
      by_cases hj : j < as.length
      · rw [List.getElem?_append_left hj] at hz
        exact (e3 j z m' hz hm').same s5
      · have hj2 : j < (as ++ [y]).length := (List.getElem?_eq_some_iff.mp hz).1
        rw [List.length_append, List.length_singleton] at hj2
        have ej : j = as.length := by omega
        subst ej
        rw [List.getElem?_append_right (Nat.le_refl _), Nat.sub_self] at hz
        cases hz
        rw [e2, hm] at hm'
        cases hm'
        exact hM
    obtain ⟨xA, xB, rfl⟩ : ∃ x y, as = [x, y] := by
      match as, e2 with
      | [x, y], _ => exact ⟨x, y, rfl⟩
    subst e1
    intro lM nM
    repeat walk_at "go"
    have w5 : Wd a.c_Machine lS lM sA sB xA xB mA mB (upd H' lM (.lst [.ref xA, .ref xB])) := ⟨Same.new nM _ _ (s _ _ e4), upd_same, hA4.same (s.trans (Same.new nM)), hB4.same (s.trans (Same.new nM)), (e3 0 xA mA rfl rfl).same (Same.new nM), (e3 1 xB mB rfl rfl).same (Same.new nM)⟩
    have hS5 : SqL K (upd H' lM (.lst [.ref xA, .ref xB])) ad (ns.map V.int) := Same.seq (s.trans (Same.new nM)) hS4
    have hd5 : HandAt (upd H' lM (.lst [.ref xA, .ref xB])) p := (hd4.same s).same (Same.new nM)
    have K5 : Keep p H1 (upd H' lM (.lst [.ref xA, .ref xB])) := K4.trans (s.trans (Same.new nM)).keep
    generalize hH5 : upd H' lM (.lst ([xA, xB].map V.ref)) = H5
    rw [show upd H' lM (.lst [.ref xA, .ref xB]) = H5 from hH5] at w5 hS5 hd5 K5
    repeat walk_at "go"
    refine rd_li (SqL.of w5.s) ?_
    refine comp_list (xs := [.ref sA, .ref sB]) (fun i ys H' => HandAt H' p ∧ Keep p H5 H' ∧ ∃ us : List Addr, ys = us.map V.ref ∧ us.length = i ∧ ∀ (j : Nat) u m, us[j]? = some u → [mA, mB][j]? = some m → ∃ o o', Pr2 H' m u o o')
      ⟨hd5, fun _ _ e _ => e, [], rfl, rfl, fun j u m h => by simp at h⟩ (sz_le (by simp)) (fun i ys H' hi ⟨g1, g2, us, e1, e2, e3⟩ => ⟨SqL.of (w5.keep hd5 g2).s, by rw [e1, List.length_map]; omega⟩) (fun i x ys H' hx ⟨g1, g2, us, e1, e2, e3⟩ => ?_) (fun ys H6 ⟨g1, g2, us, e1, e2, e3⟩ => ?_)
    · have w3 := w5.keep hd5 g2
      obtain ⟨sp, m, hsp, hm, gm, rfl⟩ : ∃ sp m, SpecAt H' sp m ∧ [mA, mB][i]? = some m ∧ m.Good ∧ x = .ref sp := by
        match i, hx with
        | 0, hx => cases hx; exact ⟨sA, mA, w3.sA, rfl, gA, rfl⟩
        | 1, hx => cases hx; exact ⟨sB, mB, w3.sB, rfl, gB, rfl⟩
        | _ + 2, hx => simp at hx
      repeat walk_at "go"
      refine ⟨p, sp, m, rfl, g1, hsp, gm, fun t o d H4 ht hod h4 k4 => ?_⟩
      have hsp4 := hsp.keep g1 k4
      repeat walk_at "go"
      refine ⟨p, sp, m, rfl, h4, hsp4, gm, fun t' o' d' H7 ht' hod' h7 k7 => ?_⟩
      have ht7 : H7 t = some (.tup [.int o, .int d]) := k7 _ _ ht fun z => h4.ntup _ (by rw [← z]; exact ht)
      repeat walk_at "go"
      intro u nu
      obtain ⟨H8, i8, s8, g8⟩ := nw _ nu; rw [i8]
      refine ⟨h7.same s8, g2.trans (k4.trans (k7.trans s8.keep)), us ++ [u], by rw [e1, List.map_append]; rfl, by rw [List.length_append, e2]; rfl, fun j z m' hz hm' => ?_⟩
      by_cases hj : j < us.length
      · rw [List.getElem?_append_left hj] at hz
        obtain ⟨q, q', h⟩ := e3 j z m' hz hm'
        exact ⟨q, q', ((h.keep g1 k4).keep h4 k7).same s8⟩
      · have hj2 : j < (us ++ [u]).length := (List.getElem?_eq_some_iff.mp hz).1
        rw [List.length_append, List.length_singleton] at hj2
        have ej : j = us.length := by omega
        subst ej
        rw [List.getElem?_append_right (Nat.le_refl _), Nat.sub_self] at hz
        cases hz
        rw [e2, hm] at hm'
        cases hm'
        exact ⟨(o, d), (o', d'), t, t', g8, s8 _ _ ht7, s8 _ _ ht', hod, hod'⟩
    obtain ⟨uA, uB, rfl⟩ : ∃ x y, us = [x, y] := by
      match us, e2 with
      | [x, y], _ => exact ⟨x, y, rfl⟩
    subst e1
    obtain ⟨oA, oA', pA⟩ := e3 0 uA mA rfl rfl
    obtain ⟨oB, oB', pB⟩ := e3 1 uB mB rfl rfl
    intro lT nT
    obtain ⟨H7, i7, s7, g7⟩ := nw _ nT; rw [i7]
    have w7 := (w5.keep hd5 g2).same s7
    have pA7 := pA.same s7
    have pB7 := pB.same s7
    have hd7 := g1.same s7
    repeat walk_at "go"
    refine ⟨p, _, rfl, hd7, by decide, by decide, fun r8 H8 a8 b8 h8 k8 _ => ?_⟩
    have w8 := w7.keep hd7 k8
    have pA8 := pA7.keep hd7 k8
    have pB8 := pB7.keep hd7 k8
    have g8 : H8 lT = some (.lst [.ref uA, .ref uB]) := k8 _ _ g7 (hd7.nlen g7 (by simp))
    repeat walk_at "st"
    refine rd_seqJ (fun σ2 H2 => ∃ n : Nat, n ≤ 48 ∧ σ2 = [some (.ref ad), some (.ref p), some (.int L), none, some (.ref lS), some (.ref lM), some (.ref lT), some (.int (n : Int)), none, none, none, none, none] ∧ Wd a.c_Machine lS lM sA sB xA xB mA mB H2 ∧ H2 lT = some (.lst [.ref uA, .ref uB]) ∧ Pr2 H2 mA uA oA oA' ∧ Pr2 H2 mB uB oB oB') (fun N hN => ?_) ?_
    · repeat walk_at "go"
      refine ⟨p, _, rfl, h8, by decide, by decide, fun r9 H9 a9 b9 h9 k9 _ => ?_⟩
      have w9 := w8.keep h8 k9
      have pA9 := pA8.keep h8 k9
      have pB9 := pB8.keep h8 k9
      have g9 : H9 lT = some (.lst [.ref uA, .ref uB]) := k9 _ _ g8 (h8.nlen g8 (by simp))
      repeat walk_at "go"
      refine rd_dec (fun _ => ?_) (fun _ => ?_)
      · repeat walk_at "go"
        refine ⟨p, _, rfl, h9, by decide, by decide, fun r10 H10 a10 b10 h10 k10 _ => ?_⟩
        repeat walk_at "go"
        obtain ⟨n, rfl⟩ := Int.eq_ofNat_of_zero_le a10
        exact hN _ _ ⟨n, by omega, rfl, w9.keep h9 k10, k10 _ _ g9 (h9.nlen g9 (by simp)), pA9.keep h9 k10, pB9.keep h9 k10⟩
      · repeat walk_at "go"
        obtain ⟨n, rfl⟩ := Int.eq_ofNat_of_zero_le a8
        exact hN _ _ ⟨n, by omega, rfl, w9, g9, pA9, pB9⟩
    rintro _ H9 ⟨n, hn, rfl, w9, g9, pA9, pB9⟩
    repeat walk_at "go"
    intro lh nlh
    obtain ⟨H10, i10, s10, g10⟩ := nw _ nlh; rw [i10]
    repeat walk_at "go"
    intro Tk nTk
    obtain ⟨H11, i11, s11, g11⟩ := nw _ nTk; rw [i11]
    have g10' := s11 _ _ g10
    have Tkl : Tk ≠ lh := fun z => by rw [z, g10'] at g11; cases g11
    have S11 := s10.trans s11
    repeat walk_at "go"
    refine rd_ti (SqT.of g11) ?_
    refine rf_tup (xs := ([0, 1, 0] : List Int).map V.int) (fun i σ' H' => ∃ (hs : List Addr) (kss : List (List (Int × Int))) (x3 x9 x10 x11 x12 : Option V), σ' = [some (.ref ad), some (.ref p), some (.int L), x3, some (.ref lS), some (.ref lM), some (.ref lT), some (.int (n : Int)), some (.ref lh), x9, x10, x11, x12] ∧ hs.length ≤ 3 * i ∧ H' lh = some (.lst (hs.map V.ref)) ∧ RL (Hel lh H') hs kss ∧ Keep lh H11 H')
      ⟨[], [], _, _, _, _, _, rfl, Nat.le_refl _, g10', RL.nil, fun _ _ e _ => e⟩ (fun i σ' H' hi ⟨_, _, _, _, _, _, _, _, _, _, _, h⟩ => SqT.of (h _ _ g11 Tkl)) (fun i v σ' H12 hv ⟨hs, kss, x3, x9, x10, x11, x12, e, hsl, gh, rh, K12⟩ => ?_) (fun σ' H12 ⟨hs, kss, x3, x9, x10, x11, x12, e, hsl, gh, rh, K12⟩ => ?_)
    · subst e
      obtain ⟨kk, ek, rfl⟩ := int_get hv
      have bk : kk = 0 ∨ kk = 1 := by
        have := List.mem_of_getElem? ek
        simp at this
        omega
      have hi3 : i < 3 := by have := (List.getElem?_eq_some_iff.mp ek).1; simpa using this
      repeat walk_at "go"
      intro Tm nTm
      obtain ⟨H13, i13, s13, g13⟩ := nw _ nTm; rw [i13]
      have gh13 := s13 _ _ gh
      have Tml : Tm ≠ lh := fun z => by rw [z, gh13] at g13; cases g13
      repeat walk_at "go"
      refine rd_ti (SqT.of g13) ?_
      refine rf_tup (xs := ([0, 1, 2] : List Int).map V.int) (fun j σ' H' => ∃ (hs' : List Addr) (kss : List (List (Int × Int))) (x9 x10 x11 x12 : Option V), σ' = [some (.ref ad), some (.ref p), some (.int L), some (.int kk), some (.ref lS), some (.ref lM), some (.ref lT), some (.int (n : Int)), some (.ref lh), x9, x10, x11, x12] ∧ hs'.length ≤ hs.length + j ∧ H' lh = some (.lst (hs'.map V.ref)) ∧ RL (Hel lh H') hs' kss ∧ Keep lh H13 H')
        ⟨hs, kss, _, _, _, _, rfl, Nat.le_refl _, gh13, rh.imp fun _ _ z => z.same s13, fun _ _ e _ => e⟩ (fun j σ' H' hj ⟨_, _, _, _, _, _, _, _, _, _, h⟩ => SqT.of (h _ _ g13 Tml)) (fun j v σ' H14 hv ⟨hs', kss', x9, x10, x11, x12, e, hsl', gh', rh', K14⟩ => ?_) (fun σ' H14 ⟨hs', kss', x9, x10, x11, x12, e, hsl', gh', rh', K14⟩ => ?_)
      · subst e
        obtain ⟨mr, em, rfl⟩ := int_get hv
        have bm : mr = 0 ∨ mr = 1 ∨ mr = 2 := by
          have := List.mem_of_getElem? em
          simp at this
          omega
        have hj3 : j < 3 := by have := (List.getElem?_eq_some_iff.mp em).1; simpa using this
        have KK : Keep lh H11 H14 := K12.trans (s13.keep.trans K14)
        have S14 : Same H9 H14 := fun b o e => KK _ _ (S11 _ _ e) (ne_none nlh e)
        have w14 := w9.same S14
        obtain ⟨s, x, u, m, o, o', i1, i2, i3, f1, f29, f3, f4⟩ : ∃ s x u m o o', atI [V.ref sA, .ref sB] kk = some (.ref s) ∧ atI [V.ref xA, .ref xB] kk = some (.ref x) ∧ atI [V.ref uA, .ref uB] kk = some (.ref u) ∧ SpecAt H14 s m ∧ MachAt a.c_Machine H9 x m ∧ Pr2 H14 m u o o' ∧ m.Good := by
          rcases bk with rfl | rfl
          · exact ⟨sA, xA, uA, mA, oA, oA', rfl, rfl, rfl, w14.sA, w9.mA, pA9.same S14, gA⟩
          · exact ⟨sB, xB, uB, mB, oB, oB', rfl, rfl, rfl, w14.sB, w9.mB, pB9.same S14, gB⟩
        have f2 := f29.same S14
        obtain ⟨t1, t2, h1, h2, h3, st1, st2⟩ := f3
        obtain ⟨t, st, it, gt, hst⟩ : ∃ t st, atI [V.ref t1, .ref t2] (mr / 2) = some (.ref t) ∧ H14 t = some (.tup [.int st.1, .int st.2]) ∧ St1 m st := by
          rcases bm with rfl | rfl | rfl
          · exact ⟨t1, o, rfl, h2, st1⟩
          · exact ⟨t1, o, rfl, h2, st1⟩
          · exact ⟨t2, o', rfl, h3, st2⟩
        obtain ⟨nn, en, ln⟩ : ∃ nn : Nat, min 48 ((n : Int) + mr % 2) = (nn : Int) ∧ nn ≤ 48 := by
          refine ⟨(min 48 ((n : Int) + mr % 2)).toNat, ?_, ?_⟩ <;> omega
        have vT := S14 _ _ g9
        have vM := w14.m
        have vS := w14.s
        repeat walk_at "go"
        rw [en]
        repeat walk_at "go"
        refine ⟨x, m, t, st, nn, rfl, f2, f4, gt, hst, by omega, fun p1 us1 ks1 H15 s15 np1 gp1 hP1 hw1 hk1 => ?_⟩
        have few1 := Rc.few f4 hst (sLt_nd hw1) fun k hk' => (hk1 k).mp hk'
        have vS15 := s15 _ _ vS
        repeat walk_at "go"
        refine ⟨s, m, t, st, nn, rfl, f1.same s15, f4, s15 _ _ gt, hst, by omega, fun p2 us2 ks2 H16 s16 np2 gp2 hP2 hw2 hk2 => ?_⟩
        have ek2 : ks1 = ks2 := sLt_uniq hw1 hw2 fun y => (hk1 y).trans (hk2 y).symm
        subst ek2
        repeat walk_at "go"
        refine ⟨_, _, rfl, sm_PVs (s16 _ _ gp1) gp2 (hP1.same s16) hP2 (by omega), fun H17 s17 => ?_⟩
        have S17 := s15.trans (s16.trans s17)
        have gp17 := (s16.trans s17) _ _ gp1
        have hP17 := hP1.same (s16.trans s17)
        have gh17 := S17 _ _ gh'
        have p1l : p1 ≠ lh := fun z => by rw [z, gh'] at np1; cases np1
        repeat walk_at "gs"
        refine rd_tyL (SqL.of gh17) ?_
        repeat walk_at "go"
        first | (refine rd_listL (SqL.of gp17) ?_) | skip
        intro lc nlc
        obtain ⟨H18, i18, s18, g18⟩ := nw _ nlc; rw [i18]
        have lcl : lc ≠ lh := fun z => by rw [z, gh17] at nlc; cases nlc
        repeat walk_at "go"
        intro Th nTh
        obtain ⟨H19, i19, s19, g19⟩ := nw _ nTh; rw [i19]
        have gh19 := (s18.trans s19) _ _ gh17
        repeat walk_at "go"
        refine rd_app (xs := hs'.map V.ref) gh19 (Nat.lt_of_lt_of_le (by rw [List.length_map]; omega : (hs'.map V.ref).length < 20000) (sz_le (by decide))) ?_
        obtain ⟨H20, i20, k20, g20⟩ := wr H19 lh _; rw [i20]
        have S19 := S17.trans (s18.trans s19)
        have hel : Hel lh H19 Th ks1 := ⟨p1, lc, us1, g19, (s18.trans s19) _ _ gp17, s19 _ _ g18, hP17.same (s18.trans s19), p1l, lcl⟩
        have r20 : RL (Hel lh H20) (hs' ++ [Th]) (kss' ++ [ks1]) := RL.snoc (rh'.imp fun _ _ z => (z.same S19).keep gh19 k20) (hel.keep gh19 k20)
        have K20 : Keep lh H14 H20 := S19.keep.trans k20
        have S20 : Same H9 H20 := fun b o e => K20 _ _ (S14 _ _ e) (ne_none nlh e)
        have vM20 := S20 _ _ w9.m
        have gt20 : H20 t = some (.tup [.int st.1, .int st.2]) := K20 _ _ gt (fun z => by rw [z, gh'] at gt; cases gt)
        have f220 := f29.same S20
        repeat walk_at "go"
        refine ⟨x, m, t, st, nn, rfl, f220, f4, gt20, hst, by omega, fun p3 us3 ks3 H21 s21 np3 gp3 hP3 hw3 hk3 => ?_⟩
        have few3 := Rc.few f4 hst (sLt_nd hw3) fun k hk' => (hk3 k).mp hk'
        have l3 := hP3.1
        have p3l : p3 ≠ lh := fun z => by rw [z, g20] at np3; cases np3
        repeat walk_at "go"
        refine rd_tyL (SqL.of gp3) ?_
        repeat walk_at "go"
        intro T9 nT9
        obtain ⟨H22, i22, s22, g22⟩ := nw _ nT9; rw [i22]
        repeat walk_at "go"
        refine rd_app (xs := us3) (s22 _ _ gp3) (Nat.lt_of_lt_of_le (by omega : us3.length < 20000) (sz_le (by decide))) ?_
        obtain ⟨H23, i23, k23, g23⟩ := wr H22 p3 _; rw [i23]
        have S23 : Same H20 H23 := fun b o e => k23 _ _ ((s21.trans s22) _ _ e) (ne_none np3 e)
        repeat walk_at "go"
        exact ⟨hs' ++ [Th], kss' ++ [ks1], _, _, _, _, rfl, by rw [List.length_append, List.length_singleton]; omega, by rw [List.map_append]; exact S23 _ _ g20, r20.imp fun _ _ z => z.same S23, K14.trans (K20.trans S23.keep)⟩
      · subst e
        exact ⟨hs', kss', _, _, _, _, _, rfl, by rw [show (List.map V.int ([0, 1, 2] : List Int)).length = 3 from rfl] at hsl'; omega, gh', rh', K12.trans (s13.keep.trans K14)⟩
    · subst e
      repeat walk_at "go"
      refine rd_li (SqL.of gh) ?_
      refine comp_list (xs := hs.map V.ref) (fun j us H' => H' = H12 ∧ us.length = j ∧ ∀ u ∈ us, u = .bl true) ⟨rfl, rfl, fun u hu => by cases hu⟩ (sz_le (by rw [List.length_map]; simp at hsl; omega))
        (fun j us H' hj ⟨e0, e1, _⟩ => ⟨by rw [e0]; exact SqL.of gh, by omega⟩) (fun j v us H' hv ⟨e0, e1, e2⟩ => ?_) (fun us H' ⟨e0, e1, e2⟩ => ?_)
      · subst e0
        obtain ⟨h1, ks, eh, rfl, e3, f, c, vs, q1, q2, q3, q4, q5, q6⟩ := rh.get hv
        refine rd_gtup (SqT.of q1) rfl ?_
        repeat walk_at "go"
        refine ⟨true, eq_PVs q2 q3 q4, ?_⟩
        exact ⟨rfl, by rw [List.length_append, e1]; rfl, fun u hu => by
          rcases List.mem_append.mp hu with z | z
          · exact e2 u z
          · exact List.mem_singleton.mp z⟩
      · subst e0
        intro la nla
        obtain ⟨H15, i15, s15, g15⟩ := nw _ nla; rw [i15]
        repeat walk_at "go"
        refine rd_allT (SqL.of g15) e2 ?_
        repeat walk_at "go"
        exact k _
end My
namespace My
open PySem L2
set_option maxHeartbeats 0 in
theorem all_mk {l : PySem.W.OpenLaw} {w : World} {K : PySem.W.Frag} {h : Heap} {mg : Str → Option Value} {fa : Addr} (X : K.In h) (G : h.Ns mainGlobals mg) (hfa : mg "law" = some (.ref fa))
    {C0 : Addr} {f0 : Addr} {od0 an0 : Option Addr} {sl0 : Array (Option Value)} {oc0 kV0 dc0 pm0 cd0 ct0 : Value} {f1 : Addr} {od1 an1 : Option Addr} {sl1 : Array (Option Value)} {oc1 kV1 dc1 pm1 cd1 ct1 : Value} {f2 : Addr} {od2 an2 : Option Addr} {sl2 : Array (Option Value)} {oc2 kV2 dc2 pm2 cd2 ct2 : Value} {f3 : Addr} {od3 an3 : Option Addr} {sl3 : Array (Option Value)} {oc3 kV3 dc3 pm3 cd3 ct3 : Value} {f4 : Addr} {od4 an4 : Option Addr} {sl4 : Array (Option Value)} {oc4 kV4 dc4 pm4 cd4 ct4 : Value} {f5 : Addr} {od5 an5 : Option Addr} {sl5 : Array (Option Value)} {oc5 kV5 dc5 pm5 cd5 ct5 : Value} {f6 : Addr} {od6 an6 : Option Addr} {sl6 : Array (Option Value)} {oc6 kV6 dc6 pm6 cd6 ct6 : Value} {f7 : Addr} {od7 an7 : Option Addr} {sl7 : Array (Option Value)} {oc7 kV7 dc7 pm7 cd7 ct7 : Value} {f8 : Addr} {od8 an8 : Option Addr} {sl8 : Array (Option Value)} {oc8 kV8 dc8 pm8 cd8 ct8 : Value} {f9 : Addr} {od9 an9 : Option Addr} {sl9 : Array (Option Value)} {oc9 kV9 dc9 pm9 cd9 ct9 : Value} {f10 : Addr} {od10 an10 : Option Addr} {sl10 : Array (Option Value)} {oc10 kV10 dc10 pm10 cd10 ct10 : Value} {f11 : Addr} {od11 an11 : Option Addr} {sl11 : Array (Option Value)} {oc11 kV11 dc11 pm11 cd11 ct11 : Value} {f12 : Addr} {od12 an12 : Option Addr} {sl12 : Array (Option Value)} {oc12 kV12 dc12 pm12 cd12 ct12 : Value} {f13 : Addr} {od13 an13 : Option Addr} {sl13 : Array (Option Value)} {oc13 kV13 dc13 pm13 cd13 ct13 : Value} {f14 : Addr} {od14 an14 : Option Addr} {sl14 : Array (Option Value)} {oc14 kV14 dc14 pm14 cd14 ct14 : Value} {f15 : Addr} {od15 an15 : Option Addr} {sl15 : Array (Option Value)} {oc15 kV15 dc15 pm15 cd15 ct15 : Value} {f16 : Addr} {od16 an16 : Option Addr} {sl16 : Array (Option Value)} {oc16 kV16 dc16 pm16 cd16 ct16 : Value} {f17 : Addr} {od17 an17 : Option Addr} {sl17 : Array (Option Value)} {oc17 kV17 dc17 pm17 cd17 ct17 : Value} {f18 : Addr} {od18 an18 : Option Addr} {sl18 : Array (Option Value)} {oc18 kV18 dc18 pm18 cd18 ct18 : Value} {f19 : Addr} {od19 an19 : Option Addr} {sl19 : Array (Option Value)} {oc19 kV19 dc19 pm19 cd19 ct19 : Value} {tk_LONGEST_STINT : Tok} {tk_MOST_PIECES : Tok}
    (aC0 : PySem.W.nsIn K mainGlobals "Machine" = some (some (.ref C0)))
    (a0 : PySem.W.nsIn K mainGlobals "_law_open" = some (some (.ref f0)))
    (l0 : K.lookup f0 = some ⟨oc0, od0, .func (PySem.W.fnOf "_law_open" "_law_open" (defArgs s__law_open) (defBody s__law_open) (defScope s__law_open) .none kV0 dc0 pm0 an0 cd0 ct0), sl0⟩)
    (c0 : PySem.W.codeIn K cd0 "_law_open" = true)
    (k0 : PySem.W.keepIn K (.ref f0) = true)
    (a1 : PySem.W.nsIn K mainGlobals "_law_draw" = some (some (.ref f1)))
    (l1 : K.lookup f1 = some ⟨oc1, od1, .func (PySem.W.fnOf "_law_draw" "_law_draw" (defArgs s__law_draw) (defBody s__law_draw) (defScope s__law_draw) .none kV1 dc1 pm1 an1 cd1 ct1), sl1⟩)
    (c1 : PySem.W.codeIn K cd1 "_law_draw" = true)
    (k1 : PySem.W.keepIn K (.ref f1) = true)
    (a2 : PySem.W.nsIn K mainGlobals "is_whole" = some (some (.ref f2)))
    (l2 : K.lookup f2 = some ⟨oc2, od2, .func (PySem.W.fnOf "is_whole" "is_whole" (defArgs s_is_whole) (defBody s_is_whole) (defScope s_is_whole) .none kV2 dc2 pm2 an2 cd2 ct2), sl2⟩)
    (c2 : PySem.W.codeIn K cd2 "is_whole" = true)
    (k2 : PySem.W.keepIn K (.ref f2) = true)
    (a3 : PySem.W.nsIn K mainGlobals "is_amount" = some (some (.ref f3)))
    (l3 : K.lookup f3 = some ⟨oc3, od3, .func (PySem.W.fnOf "is_amount" "is_amount" (defArgs s_is_amount) (defBody s_is_amount) (defScope s_is_amount) .none kV3 dc3 pm3 an3 cd3 ct3), sl3⟩)
    (c3 : PySem.W.codeIn K cd3 "is_amount" = true)
    (k3 : PySem.W.keepIn K (.ref f3) = true)
    (a4 : PySem.W.nsIn K mainGlobals "is_span" = some (some (.ref f4)))
    (l4 : K.lookup f4 = some ⟨oc4, od4, .func (PySem.W.fnOf "is_span" "is_span" (defArgs s_is_span) (defBody s_is_span) (defScope s_is_span) .none kV4 dc4 pm4 an4 cd4 ct4), sl4⟩)
    (c4 : PySem.W.codeIn K cd4 "is_span" = true)
    (k4 : PySem.W.keepIn K (.ref f4) = true)
    (a5 : PySem.W.nsIn K mainGlobals "is_piece" = some (some (.ref f5)))
    (l5 : K.lookup f5 = some ⟨oc5, od5, .func (PySem.W.fnOf "is_piece" "is_piece" (defArgs s_is_piece) (defBody s_is_piece) (defScope s_is_piece) .none kV5 dc5 pm5 an5 cd5 ct5), sl5⟩)
    (c5 : PySem.W.codeIn K cd5 "is_piece" = true)
    (k5 : PySem.W.keepIn K (.ref f5) = true)
    (a6 : PySem.W.nsIn K mainGlobals "are_pieces" = some (some (.ref f6)))
    (l6 : K.lookup f6 = some ⟨oc6, od6, .func (PySem.W.fnOf "are_pieces" "are_pieces" (defArgs s_are_pieces) (defBody s_are_pieces) (defScope s_are_pieces) .none kV6 dc6 pm6 an6 cd6 ct6), sl6⟩)
    (c6 : PySem.W.codeIn K cd6 "are_pieces" = true)
    (k6 : PySem.W.keepIn K (.ref f6) = true)
    (a7 : PySem.W.findIn K (.ref C0) "__init__" = some (some (.ref f7)))
    (i7 : PySem.W.isFn K (.ref f7) = true)
    (l7 : K.lookup f7 = some ⟨oc7, od7, .func (PySem.W.fnOf "__init__" "Machine.__init__" (defArgs s_Machine_init) (defBody s_Machine_init) (defScope s_Machine_init) .none kV7 dc7 pm7 an7 cd7 ct7), sl7⟩)
    (c7 : PySem.W.codeIn K cd7 "Machine.__init__" = true)
    (k7 : PySem.W.keepIn K (.ref f7) = true)
    (a8 : PySem.W.nsIn K mainGlobals "_law_spec" = some (some (.ref f8)))
    (l8 : K.lookup f8 = some ⟨oc8, od8, .func (PySem.W.fnOf "_law_spec" "_law_spec" (defArgs s__law_spec) (defBody s__law_spec) (defScope s__law_spec) .none kV8 dc8 pm8 an8 cd8 ct8), sl8⟩)
    (c8 : PySem.W.codeIn K cd8 "_law_spec" = true)
    (k8 : PySem.W.keepIn K (.ref f8) = true)
    (a9 : PySem.W.nsIn K mainGlobals "_law_machine" = some (some (.ref f9)))
    (l9 : K.lookup f9 = some ⟨oc9, od9, .func (PySem.W.fnOf "_law_machine" "_law_machine" (defArgs s__law_machine) (defBody s__law_machine) (defScope s__law_machine) .none kV9 dc9 pm9 an9 cd9 ct9), sl9⟩)
    (c9 : PySem.W.codeIn K cd9 "_law_machine" = true)
    (k9 : PySem.W.keepIn K (.ref f9) = true)
    (a10 : PySem.W.nsIn K mainGlobals "_law_same" = some (some (.ref f10)))
    (l10 : K.lookup f10 = some ⟨oc10, od10, .func (PySem.W.fnOf "_law_same" "_law_same" (defArgs s__law_same) (defBody s__law_same) (defScope s__law_same) .none kV10 dc10 pm10 an10 cd10 ct10), sl10⟩)
    (c10 : PySem.W.codeIn K cd10 "_law_same" = true)
    (k10 : PySem.W.keepIn K (.ref f10) = true)
    (a11 : PySem.W.nsIn K mainGlobals "may_be" = some (some (.ref f11)))
    (l11 : K.lookup f11 = some ⟨oc11, od11, .func (PySem.W.fnOf "may_be" "may_be" (defArgs s_may_be) (defBody s_may_be) (defScope s_may_be) .none kV11 dc11 pm11 an11 cd11 ct11), sl11⟩)
    (c11 : PySem.W.codeIn K cd11 "may_be" = true)
    (k11 : PySem.W.keepIn K (.ref f11) = true)
    (a12 : PySem.W.nsIn K mainGlobals "state_after" = some (some (.ref f12)))
    (l12 : K.lookup f12 = some ⟨oc12, od12, .func (PySem.W.fnOf "state_after" "state_after" (defArgs s_state_after) (defBody s_state_after) (defScope s_state_after) .none kV12 dc12 pm12 an12 cd12 ct12), sl12⟩)
    (c12 : PySem.W.codeIn K cd12 "state_after" = true)
    (k12 : PySem.W.keepIn K (.ref f12) = true)
    (a13 : PySem.W.nsIn K mainGlobals "_law_state" = some (some (.ref f13)))
    (l13 : K.lookup f13 = some ⟨oc13, od13, .func (PySem.W.fnOf "_law_state" "_law_state" (defArgs s__law_state) (defBody s__law_state) (defScope s__law_state) .none kV13 dc13 pm13 an13 cd13 ct13), sl13⟩)
    (c13 : PySem.W.codeIn K cd13 "_law_state" = true)
    (k13 : PySem.W.keepIn K (.ref f13) = true)
    (a14 : PySem.W.nsIn K mainGlobals "ways_one_on" = some (some (.ref f14)))
    (l14 : K.lookup f14 = some ⟨oc14, od14, .func (PySem.W.fnOf "ways_one_on" "ways_one_on" (defArgs s_ways_one_on) (defBody s_ways_one_on) (defScope s_ways_one_on) .none kV14 dc14 pm14 an14 cd14 ct14), sl14⟩)
    (c14 : PySem.W.codeIn K cd14 "ways_one_on" = true)
    (k14 : PySem.W.keepIn K (.ref f14) = true)
    (a15 : PySem.W.nsIn K mainGlobals "_law_after" = some (some (.ref f15)))
    (l15 : K.lookup f15 = some ⟨oc15, od15, .func (PySem.W.fnOf "_law_after" "_law_after" (defArgs s__law_after) (defBody s__law_after) (defScope s__law_after) .none kV15 dc15 pm15 an15 cd15 ct15), sl15⟩)
    (c15 : PySem.W.codeIn K cd15 "_law_after" = true)
    (k15 : PySem.W.keepIn K (.ref f15) = true)
    (a16 : PySem.W.nsIn K mainGlobals "ways_after" = some (some (.ref f16)))
    (l16 : K.lookup f16 = some ⟨oc16, od16, .func (PySem.W.fnOf "ways_after" "ways_after" (defArgs s_ways_after) (defBody s_ways_after) (defScope s_ways_after) .none kV16 dc16 pm16 an16 cd16 ct16), sl16⟩)
    (c16 : PySem.W.codeIn K cd16 "ways_after" = true)
    (k16 : PySem.W.keepIn K (.ref f16) = true)
    (a17 : PySem.W.nsIn K mainGlobals "states_after" = some (some (.ref f17)))
    (l17 : K.lookup f17 = some ⟨oc17, od17, .func (PySem.W.fnOf "states_after" "states_after" (defArgs s_states_after) (defBody s_states_after) (defScope s_states_after) .none kV17 dc17 pm17 an17 cd17 ct17), sl17⟩)
    (c17 : PySem.W.codeIn K cd17 "states_after" = true)
    (k17 : PySem.W.keepIn K (.ref f17) = true)
    (a18 : PySem.W.nsIn K mainGlobals "_law_reached" = some (some (.ref f18)))
    (l18 : K.lookup f18 = some ⟨oc18, od18, .func (PySem.W.fnOf "_law_reached" "_law_reached" (defArgs s__law_reached) (defBody s__law_reached) (defScope s__law_reached) .none kV18 dc18 pm18 an18 cd18 ct18), sl18⟩)
    (c18 : PySem.W.codeIn K cd18 "_law_reached" = true)
    (k18 : PySem.W.keepIn K (.ref f18) = true)
    (a19 : PySem.W.nsIn K mainGlobals "law" = some (some (.ref f19)))
    (l19 : K.lookup f19 = some ⟨oc19, od19, .func (PySem.W.fnOf "law" "law" (defArgs s_law) (defBody s_law) (defScope s_law) .none kV19 dc19 pm19 an19 cd19 ct19), sl19⟩)
    (c19 : PySem.W.codeIn K cd19 "law" = true)
    (k19 : PySem.W.keepIn K (.ref f19) = true)
    (pg0 : PySem.W.plainGet K C0 Str.empty = true)
    (hd0 : PySem.W.hasDictIn K C0 = true)
    (po0 : PySem.W.plainOver K C0 = true)
    (sa0 : PySem.W.findIn K (.ref C0) "__setattr__" = some (some (.builtin "object.__setattr__")))
    (mk0 : PySem.W.makesIn K C0 = true)
    (kc0 : PySem.W.keepIn K (.ref C0) = true)
    (n0_up : PySem.W.findIn K (.ref C0) "up" = some none)
    (n0_down : PySem.W.findIn K (.ref C0) "down" = some none)
    (n0_begin : PySem.W.findIn K (.ref C0) "begin" = some none)
    (n0_run : PySem.W.findIn K (.ref C0) "run" = some none)
    (n0_rest : PySem.W.findIn K (.ref C0) "rest" = some none)
    (n0_least : PySem.W.findIn K (.ref C0) "least" = some none)
    (n0_pieces : PySem.W.findIn K (.ref C0) "pieces" = some none)
    (z_abs : PySem.W.nsIn K mainGlobals "abs" = some none)
    (z_all : PySem.W.nsIn K mainGlobals "all" = some none)
    (z_bool : PySem.W.nsIn K mainGlobals "bool" = some none)
    (z_enumerate : PySem.W.nsIn K mainGlobals "enumerate" = some none)
    (z_int : PySem.W.nsIn K mainGlobals "int" = some none)
    (z_isinstance : PySem.W.nsIn K mainGlobals "isinstance" = some none)
    (z_len : PySem.W.nsIn K mainGlobals "len" = some none)
    (z_list : PySem.W.nsIn K mainGlobals "list" = some none)
    (z_max : PySem.W.nsIn K mainGlobals "max" = some none)
    (z_min : PySem.W.nsIn K mainGlobals "min" = some none)
    (z_range : PySem.W.nsIn K mainGlobals "range" = some none)
    (z_set : PySem.W.nsIn K mainGlobals "set" = some none)
    (z_sorted : PySem.W.nsIn K mainGlobals "sorted" = some none)
    (z_str : PySem.W.nsIn K mainGlobals "str" = some none)
    (z_tuple : PySem.W.nsIn K mainGlobals "tuple" = some none)
    (v_LONGEST_STINT : PySem.W.nsIn K mainGlobals "LONGEST_STINT" = some (some (.int 12 tk_LONGEST_STINT)))
    (v_MOST_PIECES : PySem.W.nsIn K mainGlobals "MOST_PIECES" = some (some (.int 4 tk_MOST_PIECES))) :
    ∃ fd : FuncData, (∀ (s : Shared) (v : Value), BindsTo s fd ⟨[v], []⟩ [("_law_script", v)]) ∧ ∀ base : Heap, K.In base → base.Ns mainGlobals mg → FnOk l.prog w K mg base CX0 8 fa fd ["_law_script"] (sp_law K) := by
  have e := hfa.symm.trans (PySem.W.mg_of X G a19)
  cases e
  have F0 := fun_mk (st := s__law_open) l0 c0 k0
  have b0 := F0.binds (ps := ["_law_script", "_law_place"]) fun _ _ _ _ _ _ us hl => by obtain ⟨_, _, rfl⟩ := ar2 us hl; rfl
  have F1 := fun_mk (st := s__law_draw) l1 c1 k1
  have b1 := F1.binds (ps := ["_law_hand", "_law_many"]) fun _ _ _ _ _ _ us hl => by obtain ⟨_, _, rfl⟩ := ar2 us hl; rfl
  have F2 := fun_mk (st := s_is_whole) l2 c2 k2
  have b2 := F2.binds (ps := ["thing"]) fun _ _ _ _ _ _ us hl => by obtain ⟨_, rfl⟩ := ar1 us hl; rfl
  have F3 := fun_mk (st := s_is_amount) l3 c3 k3
  have b3 := F3.binds (ps := ["thing"]) fun _ _ _ _ _ _ us hl => by obtain ⟨_, rfl⟩ := ar1 us hl; rfl
  have F4 := fun_mk (st := s_is_span) l4 c4 k4
  have b4 := F4.binds (ps := ["thing"]) fun _ _ _ _ _ _ us hl => by obtain ⟨_, rfl⟩ := ar1 us hl; rfl
  have F5 := fun_mk (st := s_is_piece) l5 c5 k5
  have b5 := F5.binds (ps := ["thing"]) fun _ _ _ _ _ _ us hl => by obtain ⟨_, rfl⟩ := ar1 us hl; rfl
  have F6 := fun_mk (st := s_are_pieces) l6 c6 k6
  have b6 := F6.binds (ps := ["thing"]) fun _ _ _ _ _ _ us hl => by obtain ⟨_, rfl⟩ := ar1 us hl; rfl
  have F7 := fun_mk (st := s_Machine_init) l7 c7 k7
  have b7 := F7.binds (ps := ["self", "up", "down", "begin", "run", "rest", "least", "pieces"]) fun _ _ _ _ _ _ us hl => by obtain ⟨_, _, _, _, _, _, _, _, rfl⟩ := ar8 us hl; rfl
  have F8 := fun_mk (st := s__law_spec) l8 c8 k8
  have b8 := F8.binds (ps := ["_law_hand", "_law_by", "_law_longest"]) fun _ _ _ _ _ _ us hl => by obtain ⟨_, _, _, rfl⟩ := ar3 us hl; rfl
  have F9 := fun_mk (st := s__law_machine) l9 c9 k9
  have b9 := F9.binds (ps := ["_law_spec_here"]) fun _ _ _ _ _ _ us hl => by obtain ⟨_, rfl⟩ := ar1 us hl; rfl
  have F10 := fun_mk (st := s__law_same) l10 c10 k10
  have b10 := F10.binds (ps := ["_law_one", "_law_due"]) fun _ _ _ _ _ _ us hl => by obtain ⟨_, _, rfl⟩ := ar2 us hl; rfl
  have F11 := fun_mk (st := s_may_be) l11 c11 k11
  have b11 := F11.binds (ps := ["machine", "state", "on"]) fun _ _ _ _ _ _ us hl => by obtain ⟨_, _, _, rfl⟩ := ar3 us hl; rfl
  have F12 := fun_mk (st := s_state_after) l12 c12 k12
  have b12 := F12.binds (ps := ["machine", "state", "on"]) fun _ _ _ _ _ _ us hl => by obtain ⟨_, _, _, rfl⟩ := ar3 us hl; rfl
  have F13 := fun_mk (st := s__law_state) l13 c13 k13
  have b13 := F13.binds (ps := ["_law_hand", "_law_spec_here"]) fun _ _ _ _ _ _ us hl => by obtain ⟨_, _, rfl⟩ := ar2 us hl; rfl
  have F14 := fun_mk (st := s_ways_one_on) l14 c14 k14
  have b14 := F14.binds (ps := ["machine", "ways"]) fun _ _ _ _ _ _ us hl => by obtain ⟨_, _, rfl⟩ := ar2 us hl; rfl
  have F15 := fun_mk (st := s__law_after) l15 c15 k15
  have b15 := F15.binds (ps := ["_law_spec_here", "_law_state_here", "_law_on"]) fun _ _ _ _ _ _ us hl => by obtain ⟨_, _, _, rfl⟩ := ar3 us hl; rfl
  have F16 := fun_mk (st := s_ways_after) l16 c16 k16
  have b16 := F16.binds (ps := ["machine", "state", "hours"]) fun _ _ _ _ _ _ us hl => by obtain ⟨_, _, _, rfl⟩ := ar3 us hl; rfl
  have F17 := fun_mk (st := s_states_after) l17 c17 k17
  have b17 := F17.binds (ps := ["machine", "state", "hours"]) fun _ _ _ _ _ _ us hl => by obtain ⟨_, _, _, rfl⟩ := ar3 us hl; rfl
  have F18 := fun_mk (st := s__law_reached) l18 c18 k18
  have b18 := F18.binds (ps := ["_law_spec_here", "_law_state_here", "_law_hours"]) fun _ _ _ _ _ _ us hl => by obtain ⟨_, _, _, rfl⟩ := ar3 us hl; rfl
  have F19 := fun_mk (st := s_law) l19 c19 k19
  have b19 := F19.binds (ps := ["_law_script"]) fun _ _ _ _ _ _ us hl => by obtain ⟨_, rfl⟩ := ar1 us hl; rfl
  have tx : Txt K mg { f__law_open := f0, d__law_open := _, f__law_draw := f1, d__law_draw := _, f_is_whole := f2, d_is_whole := _, f_is_amount := f3, d_is_amount := _, f_is_span := f4, d_is_span := _, f_is_piece := f5, d_is_piece := _, f_are_pieces := f6, d_are_pieces := _, f_Machine_init := f7, d_Machine_init := _, f__law_spec := f8, d__law_spec := _, f__law_machine := f9, d__law_machine := _, f__law_same := f10, d__law_same := _, f_may_be := f11, d_may_be := _, f_state_after := f12, d_state_after := _, f__law_state := f13, d__law_state := _, f_ways_one_on := f14, d_ways_one_on := _, f__law_after := f15, d__law_after := _, f_ways_after := f16, d_ways_after := _, f_states_after := f17, d_states_after := _, f__law_reached := f18, d__law_reached := _, f_law := fa, d_law := _, c_Machine := C0 } := { F__law_open := F0, b__law_open := b0, g__law_open := PySem.W.mg_of X G a0, F__law_draw := F1, b__law_draw := b1, g__law_draw := PySem.W.mg_of X G a1, F_is_whole := F2, b_is_whole := b2, g_is_whole := PySem.W.mg_of X G a2, F_is_amount := F3, b_is_amount := b3, g_is_amount := PySem.W.mg_of X G a3, F_is_span := F4, b_is_span := b4, g_is_span := PySem.W.mg_of X G a4, F_is_piece := F5, b_is_piece := b5, g_is_piece := PySem.W.mg_of X G a5, F_are_pieces := F6, b_are_pieces := b6, g_are_pieces := PySem.W.mg_of X G a6, F_Machine_init := F7, b_Machine_init := b7, F__law_spec := F8, b__law_spec := b8, g__law_spec := PySem.W.mg_of X G a8, F__law_machine := F9, b__law_machine := b9, g__law_machine := PySem.W.mg_of X G a9, F__law_same := F10, b__law_same := b10, g__law_same := PySem.W.mg_of X G a10, F_may_be := F11, b_may_be := b11, g_may_be := PySem.W.mg_of X G a11, F_state_after := F12, b_state_after := b12, g_state_after := PySem.W.mg_of X G a12, F__law_state := F13, b__law_state := b13, g__law_state := PySem.W.mg_of X G a13, F_ways_one_on := F14, b_ways_one_on := b14, g_ways_one_on := PySem.W.mg_of X G a14, F__law_after := F15, b__law_after := b15, g__law_after := PySem.W.mg_of X G a15, F_ways_after := F16, b_ways_after := b16, g_ways_after := PySem.W.mg_of X G a16, F_states_after := F17, b_states_after := b17, g_states_after := PySem.W.mg_of X G a17, F__law_reached := F18, b__law_reached := b18, g__law_reached := PySem.W.mg_of X G a18, F_law := F19, b_law := b19, g_law := PySem.W.mg_of X G a19, C_Machine := ⟨pg0, hd0, po0, sa0⟩, g_Machine := PySem.W.mg_of X G aC0, M_Machine := ⟨mk0, a7, i7, kc0⟩, n_Machine_up := n0_up, n_Machine_down := n0_down, n_Machine_begin := n0_begin, n_Machine_run := n0_run, n_Machine_rest := n0_rest, n_Machine_least := n0_least, n_Machine_pieces := n0_pieces, z_abs := PySem.W.mg_none_of X G z_abs, z_all := PySem.W.mg_none_of X G z_all, z_bool := PySem.W.mg_none_of X G z_bool, z_enumerate := PySem.W.mg_none_of X G z_enumerate, z_int := PySem.W.mg_none_of X G z_int, z_isinstance := PySem.W.mg_none_of X G z_isinstance, z_len := PySem.W.mg_none_of X G z_len, z_list := PySem.W.mg_none_of X G z_list, z_max := PySem.W.mg_none_of X G z_max, z_min := PySem.W.mg_none_of X G z_min, z_range := PySem.W.mg_none_of X G z_range, z_set := PySem.W.mg_none_of X G z_set, z_sorted := PySem.W.mg_none_of X G z_sorted, z_str := PySem.W.mg_none_of X G z_str, z_tuple := PySem.W.mg_none_of X G z_tuple, v_LONGEST_STINT := ⟨_, PySem.W.mg_of X G v_LONGEST_STINT⟩, v_MOST_PIECES := ⟨_, PySem.W.mg_of X G v_MOST_PIECES⟩ }
  exact ⟨_, fun s v => .of_eq rfl, fun base _ _ => ok_law tx⟩
theorem walk {l : PySem.W.OpenLaw} {q : Program} {loose : List Str} {XP : (Str → Option Value) → Heap → Prop} {YP : World → Heap → Prop} {d : DefRec} {K : Params → PySem.W.Frag} (hn : l.most = some 63) (hdf : d.params.defaults = [])
    (hY : ∀ (w : World) (h : Heap), YP w h → (K w.params).In h)
    (F : ∀ (w : World) (mg : Str → Option Value) (fa : Addr) (h : Heap), (K w.params).In h → h.Ns mainGlobals mg → mg d.name = some (.ref fa) →
      ∃ fd : FuncData, (∀ (s : Shared) (u : Value), BindsTo s fd ⟨[u], []⟩ [("_law_script", u)]) ∧ ∀ base : Heap, (K w.params).In base → base.Ns mainGlobals mg → FnOk l.prog w (K w.params) mg base CX0 8 fa fd ["_law_script"] (sp_law (K w.params))) :
    PySem.W.WalkO q loose XP YP l.row.toRowW d [] (fun f vs => PySem.call f vs) :=
  L2.walk_of (n := 63) (k := 8) (x := "_law_script") (CX := fun _ => CX0) (sp := fun w => sp_law (K w.params)) hn (by decide) hdf ⟨rfl, by decide, by decide⟩ hY F (fun _ _ a ns hl _ hS => ⟨a, ns, rfl, hS, hl, fun _ => rfl⟩) fun _ _ _ _ _ z => z
end My
open PySem PySem.W PyProof.Rows
set_option maxRecDepth 100000 in
set_option maxHeartbeats 0 in
theorem PySem.Challenge.cw_stintwise_k17_states_reached_holds : PySem.Challenge.rw_stintwise_k17_states_reached.Holds := by
  w_on; o_law; k_head; (case hw => w_witness2)
  k_fill
  refine My.walk (l := PySem.Challenge.rw_stintwise_k17_states_reached) rfl rfl (fun w h Y => PySem.W.kIn_of Y) ?F
  case F =>
    intro w mg fa h KX G hmg
    refine' My.all_mk KX G hmg ?aC0 ?a0 ?l0 ?c0 ?k0 ?a1 ?l1 ?c1 ?k1 ?a2 ?l2 ?c2 ?k2 ?a3 ?l3 ?c3 ?k3 ?a4 ?l4 ?c4 ?k4 ?a5 ?l5 ?c5 ?k5 ?a6 ?l6 ?c6 ?k6 ?a7 ?i7 ?l7 ?c7 ?k7 ?a8 ?l8 ?c8 ?k8 ?a9 ?l9 ?c9 ?k9 ?a10 ?l10 ?c10 ?k10 ?a11 ?l11 ?c11 ?k11 ?a12 ?l12 ?c12 ?k12 ?a13 ?l13 ?c13 ?k13 ?a14 ?l14 ?c14 ?k14 ?a15 ?l15 ?c15 ?k15 ?a16 ?l16 ?c16 ?k16 ?a17 ?l17 ?c17 ?k17 ?a18 ?l18 ?c18 ?k18 ?a19 ?l19 ?c19 ?k19 ?pg0 ?hd0 ?po0 ?sa0 ?mk0 ?kc0 ?n0_up ?n0_down ?n0_begin ?n0_run ?n0_rest ?n0_least ?n0_pieces ?z_abs ?z_all ?z_bool ?z_enumerate ?z_int ?z_isinstance ?z_len ?z_list ?z_max ?z_min ?z_range ?z_set ?z_sorted ?z_str ?z_tuple ?v_LONGEST_STINT ?v_MOST_PIECES
    (case aC0 => k_is); (case a0 => k_is); (case l0 => k_is); (case c0 => k_is); (case k0 => k_is); (case a1 => k_is); (case l1 => k_is); (case c1 => k_is)
    (case k1 => k_is); (case a2 => k_is); (case l2 => k_is); (case c2 => k_is); (case k2 => k_is); (case a3 => k_is); (case l3 => k_is); (case c3 => k_is)
    (case k3 => k_is); (case a4 => k_is); (case l4 => k_is); (case c4 => k_is); (case k4 => k_is); (case a5 => k_is); (case l5 => k_is); (case c5 => k_is)
    (case k5 => k_is); (case a6 => k_is); (case l6 => k_is); (case c6 => k_is); (case k6 => k_is); (case a7 => k_is); (case i7 => k_is); (case l7 => k_is)
    (case c7 => k_is); (case k7 => k_is); (case a8 => k_is); (case l8 => k_is); (case c8 => k_is); (case k8 => k_is); (case a9 => k_is); (case l9 => k_is)
    (case c9 => k_is); (case k9 => k_is); (case a10 => k_is); (case l10 => k_is); (case c10 => k_is); (case k10 => k_is); (case a11 => k_is); (case l11 => k_is)
    (case c11 => k_is); (case k11 => k_is); (case a12 => k_is); (case l12 => k_is); (case c12 => k_is); (case k12 => k_is); (case a13 => k_is); (case l13 => k_is)
    (case c13 => k_is); (case k13 => k_is); (case a14 => k_is); (case l14 => k_is); (case c14 => k_is); (case k14 => k_is); (case a15 => k_is); (case l15 => k_is)
    (case c15 => k_is); (case k15 => k_is); (case a16 => k_is); (case l16 => k_is); (case c16 => k_is); (case k16 => k_is); (case a17 => k_is); (case l17 => k_is)
    (case c17 => k_is); (case k17 => k_is); (case a18 => k_is); (case l18 => k_is); (case c18 => k_is); (case k18 => k_is); (case a19 => k_is); (case l19 => k_is)
    (case c19 => k_is); (case k19 => k_is); (case pg0 => k_is); (case hd0 => k_is); (case po0 => k_is); (case sa0 => k_is); (case mk0 => k_is); (case kc0 => k_is)
    (case n0_up => k_is); (case n0_down => k_is); (case n0_begin => k_is); (case n0_run => k_is); (case n0_rest => k_is); (case n0_least => k_is); (case n0_pieces => k_is); (case z_abs => k_is)
    (case z_all => k_is); (case z_bool => k_is); (case z_enumerate => k_is); (case z_int => k_is); (case z_isinstance => k_is); (case z_len => k_is); (case z_list => k_is); (case z_max => k_is)
    (case z_min => k_is); (case z_range => k_is); (case z_set => k_is); (case z_sorted => k_is); (case z_str => k_is); (case z_tuple => k_is); (case v_LONGEST_STINT => k_is); (case v_MOST_PIECES => k_is)
